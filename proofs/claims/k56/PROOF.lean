import PyProof.Rows.All
import Wide.All
import OpenK.AllK
import Wide.FinOn
import Lean
import PyProof.EqAt
import PyProof.EqKinds
import PyProof.TupleCall
import PySem.Challenge.RW_glidequeue_k56_asked_at_a_desk
set_option Elab.async false
set_option linter.all false
set_option maxRecDepth 100000
noncomputable section
local macro_rules|`(command|def $i:declId $s:optDeclSig $v:declVal)=>`(command|noncomputable def $i:declId $s:optDeclSig $v:declVal)
local macro_rules|`(command|abbrev $i:declId $s:optDeclSig $v:declVal)=>`(command|noncomputable abbrev $i:declId $s:optDeclSig $v:declVal)
local macro_rules|`(tactic|trivial)=>`(tactic|first|exact Or.inl rfl|exact Or.inr rfl|exact Or.inr (Or.inl rfl)|exact Or.inr (Or.inr rfl)|assumption|exact fun _=>rfl|exact fun _ _=>rfl)
theorem r8_(h:True:=by rfl):True:=h
theorem q8_(h:True:=by decide):True:=h
theorem d8_(h:True:=by first|exact .inl rfl|exact .inr rfl|assumption):True:=h
theorem f8_(h:True:=by trivial):True:=h
theorem v8_(h:True:=by with_unfolding_all rfl):True:=h
theorem k8_(h:True:=by first|exact Or.inl rfl|exact Or.inr (Or.inl rfl)|exact Or.inr (Or.inr rfl)):True:=h
theorem z8_(h:True:=by first|exact Or.inl rfl|exact Or.inr rfl):True:=h
abbrev bD:=PySem.Str->Option PySem.Value
theorem az{p:Prop}(h:autoParam (p) q8_._auto_1):p:=h
theorem aI{p:Prop}(h:p:=by decide+kernel):p:=h
theorem aw {p:Prop} (h:p:=by lia):p:=h
theorem bI{p:Prop}(h:p:=by omega):p:=h
theorem Z {α : Sort _} {a : α}:a=a:=rfl
abbrev aa:=PySem.W.Frag
abbrev ae:=PySem.Shared
abbrev af:=PySem.Program
abbrev ah:=PySem.PyData
abbrev ai:=PySem.Around
abbrev aM:=@PySem.wpAny_bind
abbrev bf:=@if_pos
abbrev bh:=@if_neg
abbrev bO:=@Nat.le_refl
abbrev bQ:=@List.getElem?_map
abbrev bS:=@List.length_map
abbrev bV:=@PySem.wpAny_pure
abbrev cf:=@decide_eq_true
abbrev cj:=@List.mem_cons
abbrev cm:=@PySem.Heap.lt_size
abbrev cu:=@List.getElem?_eq_getElem
abbrev cC:=@PySem.Heap.get?_push_of_some
abbrev cV:=@PySem.strLen_append
abbrev cW:=@List.mem_map
abbrev du:=@PySem.intBits_le_64
abbrev dD:=@List.getElem?_eq_some_iff
abbrev dE:=@decide_eq_false
abbrev dG:=@Option.some.inj
abbrev dH:=@List.mem_singleton
abbrev dN:=@Bool.false_ne_true
abbrev dR:=@List.size_toArray
abbrev dX:=@PySem.Heap.get?_push_size
abbrev dY:=@Int.le_refl
abbrev eG:=@Rat.le_trans
abbrev eH:=@Bool.and_eq_true
abbrev eP:=@Nat.ne_of_lt
abbrev eQ:=@List.not_mem_nil
abbrev fi:=@beq_iff_eq
abbrev fj:=@PyProof.Rows.boot_str
abbrev fA:=@List.mem_of_getElem?
abbrev fK:=@Nat.lt_of_lt_of_le
abbrev fP:=@List.length_append
abbrev fU:=@Nat.zero_le
abbrev fV:=@List.all_eq_true
abbrev gh:=@List.length_cons
abbrev gj:=@Int.pow_succ
abbrev gC:=@Nat.le_trans
abbrev ib:=@PySem.wpAny_field
abbrev ie:=@PySem.PassesOwn.never
abbrev ij:=@Bool.true_and
abbrev ip:=@Bool.false_and
abbrev iH:=@PySem.wpAny_mono
abbrev iI:=@or_false
abbrev iJ:=@PyProof.Rows.boot_tuple
abbrev iK:=@Ne.symm
abbrev iL:=@Int.natAbs_mul
abbrev jc:=@List.lookup_cons
abbrev jd:=@Bool.eq_iff_iff
abbrev jz:=@List.mem_append_right
abbrev jA:=@Int.mul_pos
abbrev jW:=@PySem.wpAny_holding
abbrev jX:=@PyProof.Rows.boot_isinstance
abbrev jY:=@Int.mul_nonneg
abbrev lM:=@of_decide_eq_true
abbrev lN:=@congrArg
abbrev lO:=@PySem.IntMulOk.of_bits
abbrev lP:=@Int.one_mul
abbrev mS:=@PySem.wpAny_truthy_bool
abbrev mT:=@List.mem_filterMap
abbrev mU:=@List.mem_append
abbrev mV:=@List.map_append
abbrev mW:=@Int.pow_zero
abbrev oN:=@PySem.wpAny_newObj_type
abbrev oO:=@List.mem_iff_getElem?
abbrev qr:=@List.map_cons
abbrev qt:=@List.append_nil
abbrev qv:=@Int.emod_nonneg
abbrev qw:=@PySem.Heap.size_push
abbrev sT:=@PySem.wpAny_seqItems
abbrev sW:=@PySem.call_meets
abbrev sX:=@Rat.num_divInt_den
abbrev sY:=@Rat.le_refl
abbrev sZ:=@PySem.W.mg_of
abbrev t6:=@Nat.pow_le_pow_right
abbrev t7:=@Nat.mul_le_mul
abbrev t9:=@Nat.lt_irrefl
abbrev tf:=@List.length_take
abbrev tm:=@Int.emod_lt_of_pos
abbrev vp:=@PySem.wpAny_passesOwn
abbrev vq:=@PySem.codeAny_mono
abbrev vt:=@Rat.divInt_nonneg_iff_of_pos_right
abbrev vw:=@PySem.Str.cps_append
abbrev vx:=@PyProof.Rows.boot_int
abbrev vy:=@List.take_succ
abbrev vz:=@List.of_mem_zip
abbrev vA:=@List.mem_cons_of_mem
abbrev vB:=@List.length_set
abbrev vC:=@List.getElem_mem
abbrev vD:=@List.getElem?_eq_none
abbrev vE:=@List.getElem?_append_left
abbrev vF:=@List.any_cons
abbrev vG:=@List.all_cons
abbrev vI:=@Array.toList_append
abbrev yt:=@PySem.wpAny_setField_rec
abbrev yu:=@PySem.wpAny_pyIter_list
abbrev yw:=@PySem.wpAny_of_eq
abbrev yx:=@PySem.wpAny_execs_nil
abbrev yy:=@PySem.wpAny_call
abbrev yz:=@PySem.wpAny_Call_Name_kw
abbrev yA:=@PySem.StrLaws.glued_eq_join
abbrev yB:=@PyProof.Rows.callWith_type1
abbrev yC:=@PyProof.Rows.boot_all
abbrev yD:=@PyProof.Rows.boot_abs
abbrev yE:=@Option.map_eq_some_iff
abbrev yF:=@List.take_of_length_le
abbrev yG:=@List.take_length
abbrev yH:=@List.mem_of_mem_take
abbrev yI:=@List.getElem_range
abbrev yJ:=@List.getElem?_append_right
abbrev yK:=@Int.mul_le_mul
abbrev yL:=@PySem.Heap.get?_update_other
abbrev yM:=@Bool.and_true
abbrev yN:=@Array.length_toList
abbrev BH:=@PySem.wpAny_standAt
abbrev BI:=@PySem.wpAny_setField
abbrev BJ:=@PySem.wpAny_onRaise
abbrev BK:=@PySem.wpAny_call_entry
abbrev BL:=@PySem.wpAny_callSpecial?_slot
abbrev BM:=@PySem.wpAny_attempt
abbrev BN:=@PySem.sizeLine_eq
abbrev BO:=@PySem.W.looks_findIn
abbrev BP:=@decide_eq_true_eq
abbrev BQ:=@PyProof.Rows.assignInOrder_cons
abbrev BR:=@Rat.not_lt
abbrev BS:=@PySem.mem_of_lookup
abbrev BU:=@PySem.W.callWith_K
abbrev BV:=@PySem.Obj.data_mapFields
abbrev BW:=@Nat.ne_of_gt
abbrev BX:=@Nat.lt_trans
abbrev BZ:=@List.map_set
abbrev C0:=@List.length_pos_iff
abbrev C1:=@Int.zero_mul
abbrev C2:=@Int.mul_le_mul_of_nonneg_right
abbrev C3:=@Int.mul_assoc
abbrev C4:=@Bool.eq_false_iff
abbrev C5:=@Bool.and_false
abbrev JE:=@decide_eq_true_iff
abbrev JF:=@beq_self_eq_true
abbrev JG:=@beq_eq_false_iff_ne
abbrev JH:=@PySem.Str.empty_append
abbrev JI:=@Std.lt_of_le_of_ne
abbrev JJ:=@Rat.num_nonneg
abbrev JK:=@Rat.le_antisymm
abbrev JL:=@PySem.W.hideAll_get
abbrev JM:=@PySem.W.cellsFrom_some
abbrev JN:=@PySem.F.slot_zip_next
abbrev JO:=@PySem.F.slot_tuple_iterator_next
abbrev JP:=@PySem.F.plainAttrs_list
abbrev JQ:=@PySem.F.excAttr_ValueError
abbrev JR:=@PyProof.Rows.boot_list
abbrev JS:=@Nat.sub_self
abbrev JT:=@Nat.lt_succ_of_lt
abbrev JU:=@Nat.lt_of_le_of_lt
abbrev JV:=@List.nodup_cons
abbrev JW:=@List.mem_cons_self
abbrev JX:=@List.mem_append_left
abbrev JY:=@List.map_map
abbrev JZ:=@List.length_drop
abbrev K0:=@List.getElem?_zip_eq_some
abbrev K1:=@List.getElem?_set_self
abbrev K2:=@List.forIn_cons
abbrev K3:=@List.all_nil
abbrev K4:=@Int.mul_ne_zero
abbrev K5:=@Int.mul_le_mul_of_nonneg_left
abbrev K6:=@Int.le_of_lt
abbrev K7:=@PySem.Heap.get?_update_self
abbrev K8:=@Array.getElem?_eq_some_iff
abbrev K9:=@Array.all_eq_true_iff_forall_mem
abbrev TL:=@PySem.wpAny_updateSeq_pair
abbrev TM:=@PySem.wpAny_pyIter_rangeiter
abbrev TN:=@PySem.wpAny_newFunctionEnv_cells
abbrev TQ:=@ne_true_of_eq_false
abbrev TR:=@PySem.codeAny_call_function
abbrev TU:=@PySem.codeAny_call_builtin
abbrev TV:=@Rat.intCast_lt_intCast
abbrev TX:=@Rat.divInt_sub_divInt
abbrev TY:=@PySem.W.plainGet_of
abbrev TZ:=@PySem.W.codeRec_of
abbrev U0:=@PySem.F.slot_tuple_add
abbrev U5:=@PySem.F.plainAttrs_str
abbrev U6:=@PySem.F.excBase_ValueError
abbrev U7:=@PySem.F.entry_tuple_add
abbrev U8:=@PySem.F.args_tuple_add_2
abbrev U9:=@PyProof.Rows.slot_tuple_getitem
abbrev Ua:=@PyProof.Rows.boot_min
abbrev Ub:=@PyProof.Rows.boot_max
abbrev Uc:=@PyProof.Rows.boot_any
abbrev Ud:=@PySem.Obj.isFreed_of_fields
abbrev Ue:=@Nat.lt_succ_self
abbrev Ug:=@Nat.le_of_ble_eq_true
abbrev Uh:=@List.mem_iff_getElem
abbrev Ui:=@List.length_eq_zero_iff
abbrev Uj:=@List.getLastD_eq_getLast?
abbrev Uk:=@List.getLast?_eq_some_getLast
abbrev Ul:=@List.getElem_set_self
abbrev Um:=@List.getElem?_set_ne
abbrev Uo:=@List.filterMap_cons
abbrev Up:=@List.ext_getElem?
abbrev Uq:=@List.any_eq_true
abbrev Ur:=@Int.toNat_natCast
abbrev Us:=@Int.mul_nonneg_of_nonpos_of_nonpos
abbrev Ut:=@Int.lt_trichotomy
abbrev Uu:=@PySem.F.slot_range_reversed
abbrev abb:=@PySem.F.entry_tuple_iterator_next
abbrev abd:=@PySem.F.args_tuple_iterator_next_1
namespace _L
open PySem PySem.Spec PyProof.Rows
abbrev Key:=Sum Int Str
def PY:Key->Value->Bool | .inl k,v=>Value.isInt k v | .inr x,v=>Value.isStrOf x v
def a2l(w:World):Key->Int | .inl k=>hashInt k | .inr x=>hashStr w x
theorem nU:∀{k:Key}{v:Value},PY k v=true->(∃i t,k=Sum.inl i/\v=Value.int i t)\/(∃x t,k=Sum.inr x/\v=Value.str x t) | .inl i,v,h=>by obtain⟨t,e⟩:=Value.isInt_shape (k:=i) (v:=v) h;exact .inl ⟨i,t,Z,e⟩ | .inr x,v,h=>by obtain⟨t,e⟩:=Value.isStrOf_shape (x:=x) (v:=v) h;exact .inr ⟨x,t,Z,e⟩
theorem a2k(a b:Int):decide ((Sum.inl a:Key)=Sum.inl b)=(a==b):=by
 by_cases e:a=b
 ·subst e;simp
 ·have h:¬(Sum.inl a:Key)=Sum.inl b:=λq=>e (Sum.inl.inj q)
  rw[dE h];exact(JG.mpr e).symm
theorem a2h(a b:Str):decide ((Sum.inr a:Key)=Sum.inr b)=decide (a=b):=by
 by_cases e:a=b
 ·subst e;simp
 ·have h:¬(Sum.inr a:Key)=Sum.inr b:=λq=>e (Sum.inr.inj q)
  rw[dE h,dE e]
theorem a2j(a:Int)(b:Str):decide ((Sum.inl a:Key)=Sum.inr b)=false:=dE (λq=>nomatch q)
theorem a2i(a:Str)(b:Int):decide ((Sum.inr a:Key)=Sum.inl b)=false:=dE (λq=>nomatch q)
def Gk(prog:af)(w:World):PySem.KeyKind prog w Key where
 is:=PY
 hash:=a2l w
 inj:=λv a b ha hb=>by
  rcases nU ha with⟨i,t,rfl,rfl⟩|⟨x,t,rfl,rfl⟩
  ·rcases nU hb with⟨j,u,rfl,e⟩|⟨y,u,rfl,e⟩
   ·injection e with e1 _;rw[e1]
   ·exact nomatch e
  ·rcases nU hb with⟨j,u,rfl,e⟩|⟨y,u,rfl,e⟩
   ·exact nomatch e
   ·injection e with e1 _;rw[e1]
 byValue:=λk v h=>by rcases nU h with⟨i,t,rfl,rfl⟩|⟨x,t,rfl,rfl⟩<;>rfl
 pyHash:=λhv h=>by
  rcases nU hv with⟨i,t,rfl,rfl⟩|⟨x,t,rfl,rfl⟩
  ·exact wpAny_pyHash_int h
  ·exact wpAny_pyHash_str h
 eqBool:=λhu hv h=>by
  rcases nU hu with⟨i,t,rfl,rfl⟩|⟨x,t,rfl,rfl⟩
  ·rcases nU hv with⟨j,u,rfl,rfl⟩|⟨y,u,rfl,rfl⟩
   ·rw[a2k]at h;exact wpAny_eqBool_int h
   ·rw[a2j]at h;exact SeqAt.EqAt.int_str i t y u _ _ _ _ h
  ·rcases nU hv with⟨j,u,rfl,rfl⟩|⟨y,u,rfl,rfl⟩
   ·rw[a2i]at h;exact SeqAt.EqAt.str_int x t j u _ _ _ _ h
   ·rw[a2h]at h;exact wpAny_eqBool_str h
 «strs»:=λk x t v h=>by
  rcases nU h with⟨i,u,rfl,e⟩|⟨y,u,rfl,e⟩
  ·exact nomatch e
  ·injection e with e1 _
   subst e1;cases v<;>rfl
inductive V where |bw|bl (b:Bool)|int (i:Int)|str (x:Str)|jt (b:Array UInt8)|Be (b:UInt64)|ref (a:Addr)|ty (n:String) deriving DecidableEq
def RelV:V->Value->Prop | .bw,u=>u=Value.none | .bl b,u=>u=Value.bool b | .int i,u=>∃t,u=Value.int i t | .str x,u=>∃t,u=Value.str x t | .jt b,u=>∃t,u=Value.bytes b t | .Be b,u=>∃t,u=Value.float b t | .ref a,u=>u=Value.ref a | .ty n,u=>u=Value.type n
abbrev Vals:List V->List Value->Prop:=Paired RelV
theorem Vals.length{xs:List V}{us:List Value}(r:Vals xs us):xs.length=us.length:=Paired.length r
theorem Vals.get:∀{xs:List V}{us:List Value}{i:Nat}{x:V},Vals xs us->xs[i]? =some x->∃u,us[i]? =some u/\RelV x u |_,_,_,_,.nil,e=>by simp at e |_,_,0,_,.cons r _,e=>by simp at e;subst e;exact⟨_,rfl,r⟩ |_,_,i+1,x,.cons _ t,e=>by obtain⟨u,h1,h2⟩:=Vals.get (i:=i) (x:=x) t (by simpa using e);exact⟨u,by simpa using h1,h2⟩
theorem Vals.set{x:V}{u:Value}(r:RelV x u):∀{xs:List V}{us:List Value}(i:Nat),Vals xs us->Vals (xs.set i x) (us.set i u) |_,_,_,.nil=>.nil |_,_,0,.cons _ t=>.cons r t |_,_,i+1,.cons q t=>.cons q (Vals.set r i t)
theorem Vals.append:∀{xs ys:List V}{us ws:List Value},Vals xs us->Vals ys ws->Vals (xs++ys) (us++ws) |_,_,_,_,.nil,s=>s |_,_,_,_,.cons r t,s=>.cons r (Vals.append t s)
theorem Vals.take:∀{xs:List V}{us:List Value}(n:Nat),Vals xs us->Vals (xs.take n) (us.take n) |_,_,0,_=>.nil |_,_,_+1,.nil=>.nil |_,_,n+1,.cons r t=>.cons r (Vals.take n t)
theorem Vals.drop:∀{xs:List V}{us:List Value}(n:Nat),Vals xs us->Vals (xs.drop n) (us.drop n) |_,_,0,r=>r |_,_,_+1,.nil=>.nil |_,_,n+1,.cons _ t=>Vals.drop n t
def mM:Option V->Option Value->Prop |some v,some u=>RelV v u |none,none=>True |_,_=>False
def KV{κ:Type}:List (κ×V)->List (κ×Value)->Prop:=Paired λ(p:κ×V)(q:κ×Value)=>p.1=q.1/\RelV p.2 q.2
def kV:Key->V | .inl i=>.int i | .inr x=>.str x
inductive HO where /--a list -/ |lst (xs:List V) /--a tuple (never changes) -/ |tup (xs:List V) /--a dict UD keys are ints and texts; one UD keys are tuples of ints and texts (tH empty one is both) -/ |dK (dI:List (Key×V))|dT (dI:List (List Key×V)) /--a set of ints: its members,its size -/ |set (S:Int->Bool)(n:Nat) /--an instance of tH class at C,its dict at dx,its attributes -/ |ins (C dx:Addr)(fs:List (Str×V)) /--tH dict of tH instance at x -/ |own (x:Addr) /--tH dict of an exception -/ |xd (fs:List (Str×V)) /--a bound method,f of x -/ |met (f x:Addr) /--a range object lo,lo+1,.. below hi -/ |qK (lo hi:Int) /--a Vh abh is known to tH object (tH abm; a dict while a loop walks it): read,never written while it is so -/ |lA (o:Obj)(u:HO) /--a code abv table -/ |mZ (ps:Array Value) /--any other Vh,by what is true of its one object (a def of abu own: acs a S n:=HO.ext λh=>..) -/ |ext (φ:Heap->Prop)
abbrev Hp:=Addr->Option HO
def upd(H:Hp)(a:Addr)(o:HO):Hp:=λb=>if b=a then some o else H b
theorem bW{H:Hp}{a:Addr}{o:HO}:upd H a o a=some o:=by unfold upd;rw[bf rfl]
theorem aV{H:Hp}{a b:Addr}{o:HO}(h:b≠a):upd H a o b=H b:=by unfold upd;rw[bh h]
theorem wU{H:Hp}{a b:Addr}{o u:HO}(h:H a=some o)(h':H b=some u)(d:o≠u):a≠b:=by intro e;subst e;rw[h]at h';exact d (dG h')
theorem g6{H:Hp}{a b:Addr}{o:HO}(h:H a=some o)(h':H b=none):a≠b:=by intro e;subst e;rw[h]at h';cases h'
section
variable (P:af) (w:World)
def gf(H:Hp)(h:Heap)(a:Addr):HO->Prop | .lst xs=>xs.length<=sizeLine/\∃(its:List Value)(n:Nat),Vals xs its/\h.get? a=some {cls:=.type "list",data:=.seq its.toArray n} | .tup xs=>xs.length<=sizeLine/\∃its:List Value,Vals xs its/\IsTup h a its.toArray | .dK dI=>dI.length<=sizeLine/\(a==sysModules)=false/\∃vs,KV dI vs/\h.DictOf (Gk P w) a vs | .dT dI=>dI.length<=sizeLine/\(a==sysModules)=false/\∃xs:List (List Key×Addr×Value),Paired (λ(p:List Key×V)(q:List Key×Addr×Value)=>p.1=q.1/\H q.2.1=some (.tup (p.1.map kV))/\RelV p.2 q.2.2) dI xs/\∃o es ep,h.get? a=some o/\o.ExactDict/\o.data= .dict es ep/\es.toList=xs.map (entryOfKey (tupleKind (Gk P w)))/\(xs.map (·.1)).Nodup | .set S n=>h.SetOf (intKind P w) a S n | .ins C dx fs=>H dx=some (.own a)/\fs.length<=1000/\dx≠a/\h.get? a=some (PySem.W.instObj C dx)/\∃mA,h.Ns1 dx mA/\(∀f,mM (fs.lookup f) (mA f))/\PySem.Within mA (fs.map (·.1)) | .own _=>∃o,h.get? a=some o | .xd fs=>∃mA,h.Ns1 a mA/\∀f,mM (fs.lookup f) (mA f) | .qK lo hi=>∃t u v,h.get? a=some {cls:=.type "range",data:=.fields #[.int lo t,.int hi u,.int 1 v]} | .lA o u=>h.get? a=some o/\gf H h a u | .mZ ps=>h.get? a=some {cls:=.none,data:=.fields ps} | .met f x=>h.get? a=some (PySem.W.methodObj (.ref f) (.ref x)) | .ext φ=>φ h/\(∃o,h.get? a=some o)/\∀h1 h2:Heap,φ h1->(∀o,h1.get? a=some o->h2.get? a=some o)->φ h2
def eB(H:Hp)(h:Heap):Prop:=∀a o,H a=some o->gf P w H h a o
end
section
variable {P:af}{w:World}{H H':Hp}{h h':Heap}{a:Addr}{o:HO}
theorem gf.lt(x:gf P w H h a o):a<h.objs.size:=by cases o with |lst xs=>obtain⟨_,_,_,_,e⟩:=x;exact cm e |tup xs=>obtain⟨_,_,_,p⟩:=x;exact p.lt |dK dI=>obtain⟨_,_,_,_,o,_,_,e,_⟩:=x;exact cm e |dT dI=>obtain⟨_,_,_,_,o,_,_,e,_⟩:=x;exact cm e |set S n=>obtain⟨o,_,_,_,e,_⟩:=x;exact cm e |ins C dx fs=>obtain⟨_,_,_,e,_⟩:=x;exact cm e |own y=>obtain⟨_,e⟩:=x;exact cm e |xd fs=>obtain⟨_,⟨_,_,_,e,_⟩,_⟩:=x;exact cm e |qK lo hi=>obtain⟨_,_,_,e⟩:=x;exact cm e |lA ob u=>obtain⟨e,_⟩:=x;exact cm e |mZ ps=>exact cm (show h.get? a=some _ from x) |met f y=>exact cm (show h.get? a=some _ from x) |ext φ=>obtain⟨_,⟨_,e⟩,_⟩:=x;exact cm e
theorem Paired.Pj{α β:Type}{F G:α->β->Prop}:∀{l₁:List α}{l₂:List β},Paired F l₁ l₂->(∀a b,F a b->G a b)->Paired G l₁ l₂ |_,_,.nil,_=>.nil |_,_,.cons r t,f=>.cons (f _ _ r) (Paired.Pj t f)
theorem gf.lS(x:gf P w H h a o)(k:∀b u,(b=a\/H b=some (.own a))->h.get? b=some u->h'.get? b=some u) (ho:∀b,H b=some (.own a)->H' b=some (.own a))(ht:∀b xs,H b=some (.tup xs)->H' b=some (.tup xs)):gf P w H' h' a o:=by induction o with |lst xs=>obtain⟨z,its,n,r,e⟩:=x;exact⟨z,its,n,r,k _ _ (.inl Z) e⟩ |tup xs=>obtain⟨z,its,r,ob,e,c⟩:=x;exact⟨z,its,r,ob,k _ _ (.inl Z) e,c⟩ |dK dI=>obtain⟨z,y,vs,r,ob,es,ep,e,c⟩:=x;exact⟨z,y,vs,r,ob,es,ep,k _ _ (.inl Z) e,c⟩ |dT dI=>obtain⟨z,y,xs,r,ob,es,ep,e,c⟩:=x;exact⟨z,y,xs,Paired.Pj r λp q z=>⟨z.1,ht _ _ z.2.1,z.2.2⟩,ob,es,ep,k _ _ (.inl Z) e,c⟩ |set S n=>obtain⟨ob,es,ep,t,e,c⟩:=x;exact⟨ob,es,ep,t,k _ _ (.inl Z) e,c⟩ |ins C dx fs=>obtain⟨d,z,ne,e,mA,⟨od,es,ep,e2,c⟩,r⟩:=x;exact⟨ho _ d,z,ne,k _ _ (.inl Z) e,mA,⟨od,es,ep,k _ _ (.inr d) e2,c⟩,r⟩ |own y=>obtain⟨ob,e⟩:=x;exact⟨ob,k _ _ (.inl Z) e⟩ |xd fs=>obtain⟨mA,⟨od,es,ep,e,c⟩,r⟩:=x;exact⟨mA,⟨od,es,ep,k _ _ (.inl Z) e,c⟩,r⟩ |qK lo hi=>obtain⟨t,u,v,e⟩:=x;exact⟨t,u,v,k _ _ (.inl Z) e⟩ |lA ob u ih=>obtain⟨e,q⟩:=x;exact⟨k _ _ (.inl Z) e,ih q⟩ |mZ ps=>have e:h.get? a=some {cls:=.none,data:=.fields ps}:=x;show h'.get? a=some {cls:=.none,data:=.fields ps};exact k a _ (.inl Z) e |met f y=>have e:h.get? a=some (PySem.W.methodObj (.ref f) (.ref y)):=x;show h'.get? a=some (PySem.W.methodObj (.ref f) (.ref y));exact k a _ (.inl Z) e |ext φ=>obtain⟨p,⟨o,e⟩,st⟩:=x;exact⟨st _ _ p λo q=>k _ _ (.inl Z) q,⟨o,k _ _ (.inl Z) e⟩,st⟩
theorem eB.lt(x:eB P w H h)(e:H a=some o):a<h.objs.size:=(x a o e).lt
theorem eB.fresh(x:eB P w H h)(e:h.objs.size<=a):H a=none:=by cases q:H a with |none=>rfl |some u=>exact absurd (fK (x.lt q) e) (t9 _)
theorem eB.kept(x:eB P w H h)(k:∀b u,h.get? b=some u->h'.get? b=some u):eB P w H h':=λa o e=>(x a o e).lS (λb u _ q=>k b u q) (λ_ q=>q) λ_ _ q=>q
theorem eB.laid(x:eB P w H h)(k:∀b u,h.get? b=some u->h'.get? b=some u)(hp:h.objs.size<=a)(new:gf P w (upd H a o) h' a o):eB P w (upd H a o) h':=λb u e=>by
 have hn:=x.fresh hp;by_cases hb:b=a
 ·subst hb;rw[bW]at e;cases e;exact new
 ·rw[aV hb]at e
  exact(x b u e).lS (λc v _ q=>k c v q) (λc q=>by rw[aV (g6 q hn)];exact q) λc xs q=>by rw[aV (g6 q hn)];exact q
end
def Rd(H:Hp)(a:Addr)(u:HO):Prop:=H a=some u\/∃o,H a=some (.lA o u)
theorem Rd.ok{P:af}{w:World}{H:Hp}{h:Heap}{a:Addr}{u:HO}(r:Rd H a u)(x:eB P w H h):gf P w H h a u:=by
 rcases r with r|⟨o,r⟩
 ·exact x a u r
 ·obtain⟨_,q⟩:=x a _ r
  exact q
def BG:Option HO->Prop |some (.lst _)=>True |some (.dK _)=>True |some (.dT _)=>True |some (.set _ _)=>True |some (.ins _ _ _)=>True |some (.ext _)=>True |_=>False
section
variable {P:af}{w:World}{H:Hp}{h h':Heap}{x e:Addr}{o':HO}
theorem eB.write(ok:eB P w H h)(mu:BG (H x))(he:e=x\/H e=some (.own x))(k:∀b u,b≠e->h.get? b=some u->h'.get? b=some u)(uK:∃u,h'.get? e=some u) (new:gf P w (upd H x o') h' x o'):eB P w (upd H x o') h':=λb u q=>by
 have OP:∀c y,H c=some (.own y)->c≠x:=λc y r z=>by subst z;rw[r]at mu;exact mu
 have a0t:∀c xs,H c=some (.tup xs)->c≠x:=λc xs r z=>by subst z;rw[r]at mu;exact mu
 by_cases hb:b=x
 ·subst hb;rw[bW]at q;cases q;exact new
 ·rw[aV hb]at q
  by_cases rS:b=e
  ·have q':H b=some (.own x):=by
    rcases he with z|z
    ·exact absurd (rS.trans z) hb
    ·rw[rS];exact z
   rw[q]at q';cases q';obtain⟨v,hv⟩:=uK;exact⟨v,by rw[rS];exact hv⟩
  ·refine(ok b u q).lS (λc v hc r=>k c v ?_ r) (λc r=>by rw[aV (OP c b r)];exact r) λc xs r=>by rw[aV (a0t c xs r)];exact r
   rcases hc with rfl|hc
   ·exact rS
   ·rintro rfl
    rcases he with z|z
    ·exact OP c b hc z
    ·rw[hc]at z;cases z;exact hb rfl
end
structure Un(fs ex:List Addr)(H H':Hp)(h h':Heap):Prop where
 keep:∀b o,h.get? b=some o->H b=none->b∉fs->b∉ex->h'.get? b=some o
 slot:∀b o,h.get? b=some o->H b=none->b∈fs->b∉ex->∃sl,h'.get? b=some {o with slots:=sl}
 free:∀b o,h.get? b=some o->H b=none->b∉ex->H' b=none
 there:∀b o,h.get? b=some o->b∉ex->∃o',h'.get? b=some o'
 jf:∀b xs,H b=some (.tup xs)->H' b=some (.tup xs)
 iZ:∀b o u,H b=some (.lA o u)->H' b=some (.lA o u)
 jg:∀b ps,H b=some (.mZ ps)->∃more,H' b=some (.mZ (ps++more))
section
variable {fs lj ex j7:List Addr}{H H1 H2:Hp}{h h1 h2 h':Heap}{a x e:Addr}{o:HO}
theorem Un.any(u:Un fs ex H H1 h h1){b:Addr}{ob:Obj}(q:h.get? b=some ob)(n:H b=none)(hx:b∉ex):∃sl,h1.get? b=some {ob with slots:=sl}:=by
 by_cases hb:b∈fs
 ·exact u.slot b ob q n hb hx
 ·exact⟨ob.slots,u.keep b ob q n hb hx⟩
theorem Un.kept(k:∀b u,h.get? b=some u->h'.get? b=some u):Un fs ex H H h h':=⟨λb ob q _ _ _=>k b ob q,λb ob q _ _ _=>⟨ob.slots,k b ob q⟩,λ_ _ _ n _=>n,λb ob q _=>⟨ob,k b ob q⟩,λ_ _ q=>q,λ_ _ _ q=>q,λ_ ps q=>⟨#[],by rw[q];simp⟩⟩
theorem Un.refl:Un fs ex H H h h:=Un.kept λ_ _ q=>q
theorem Un.laid(k:∀b u,h.get? b=some u->h'.get? b=some u)(hp:h.objs.size<=a)(hn:H a=none):Un fs ex H (upd H a o) h h' where
 keep:=λb u q _ _ _=>k b u q
 slot:=λb u q _ _ _=>⟨u.slots,k b u q⟩
 free:=λb u q n _=>by rw[aV (eP (fK (cm q) hp))];exact n
 there:=λb u q _=>⟨u,k b u q⟩
 jf:=λb xs q=>by rw[aV (g6 q hn)];exact q
 iZ:=λb u xs q=>by rw[aV (g6 q hn)];exact q
 jg:=λb ps q=>⟨#[],by rw[aV (g6 q hn),q];simp⟩
theorem Un.write(mu:BG (H x))(he:e=x\/H e=some (.own x))(k:∀b u,b≠e->h.get? b=some u->h'.get? b=some u)(uK:∃u,h'.get? e=some u):Un fs ex H (upd H x o) h h':=by
 have hx:∀b,H b=none->b≠x:=λb n z=>by subst z;rw[n]at mu;exact mu
 have hb:∀b,H b=none->b≠e:=λb n z=>by
  subst z;rcases he with r|r
  ·exact hx b n r
  ·rw[n]at r;cases r
 have hm:∀b u,H b=some u->¬BG (some u)->b≠x:=λb u q nm z=>by subst z;rw[q]at mu;exact nm mu
 refine⟨λb u q n _ _=>k b u (hb b n) q,λb u q n _ _=>⟨u.slots,k b u (hb b n) q⟩,λb u q n _=>by rw[aV (hx b n)];exact n,λb u q _=>?_,λb xs q=>by rw[aV (hm b _ q λz=>z)];exact q,λb u xs q=>by rw[aV (hm b _ q λz=>z)];exact q,λb ps q=>⟨#[],by rw[aV (hm b _ q λz=>z),q];simp⟩⟩;by_cases rS:b=e
 ·subst rS;exact uK
 ·exact⟨u,k b u rS q⟩
end
def zb(h:Heap)(H:Hp):List Addr:=(List.range h.objs.size).filter λa=>(H a).isSome
def o8(h:Heap)(H:Hp):Heap:=PySem.W.hideAll h (zb h H)
theorem a3T(h:Heap)(H:Hp):(o8 h H).objs.size=h.objs.size:=PySem.W.hideAll_size _ _
theorem a3U{h:Heap}{H:Hp}{b:Addr}{o:Obj}(e:h.get? b=some o)(n:H b=none):(o8 h H).get? b=some o:=JL _ e λhm=>by have q:(H b).isSome=true:=(List.mem_filter.mp hm).2;rw[n]at q;simp at q
theorem a0n{h:Heap}{H:Hp}{b:Addr}{o:Obj}(e:(o8 h H).get? b=some o):h.get? b=some o/\H b=none:=by have e':h.get? b=some o:=PySem.W.of_hideAll (zb h H) e;refine⟨e',?_⟩;cases q:H b with |none=>rfl |some x=>have hm:b∈zb h H:=List.mem_filter.mpr ⟨List.mem_range.mpr (cm e'),by simp[q]⟩;have z:(o8 h H).get? b=none:=PySem.W.hideAll_none (zb h H) hm;rw[z]at e;cases e
structure Mod(K:aa)(mg:bD)(au:Heap):Prop where
 mr:K.In au
 glob:au.Ns mainGlobals mg
 blt:∃mb,au.Ns builtinsNs mb/\∀x:Str,x≠"__name__"->mb x=bootBuiltins x
 nolimit:au.NoLimit
structure Cx where
 prog:af
 w:World
 K:aa
 mg:bD
 au:Heap
 A:ai
 N:List Str
 s₀:ae
 H₀:Hp
 env:Env
 outer:List Env
 stack:List Env
 ex:List Addr
 fn:Str->Bool
 calm:Bool
 pn:List (Addr×Obj)
 xe:Value->ae->Prop
def ek(l:List Env):List Addr:=l.filterMap (·.frame)
abbrev Cx.fs(X:Cx):List Addr:=ek X.outer
def BC(sc:Scope)(x:Str):Prop:=sc.names.lookup x=some .local\/sc.names.lookup x=some .cell\/sc.names.lookup x=some .free
def Loc(sc:Scope)(x:Str):Prop:=sc.names.lookup x=some .local\/sc.names.lookup x=some .cell
def Look(env:Env)(h:Heap)(m:bD)(x:Str)(u:Value):Prop:=(env.kindOf x=some .local/\m x=some u)\/((env.kindOf x=some .cell\/env.kindOf x=some .free)/\∃c,env.cells.lookup x=some c/\h.IsCell c (some u))
structure Cx.Ok(X:Cx):Prop where
 mod:Mod X.K X.mg X.au
 kind:X.env.scope.kind= .function
 glob:X.env.globals=mainGlobals
 blt:X.env.builtins=builtinsNs
 above:X.s₀.heap.objs.size<=X.env.locals
 inj:∀x y c,X.env.cells.lookup x=some c->X.env.cells.lookup y=some c->x=y
 has:∀x,(X.env.kindOf x=some .cell\/X.env.kindOf x=some .free)->∃c,X.env.cells.lookup x=some c
 qh:∀x c,X.fn x=true->X.env.cells.lookup x=some c->X.s₀.heap.objs.size<=c
 hd:X.calm=true->X.A.handled=none
 frames:X.A.frames=some X.stack
 qC:X.stack=X.outer\/(X.stack=X.env::X.outer/\X.env.frame=some X.env.locals)
 xY:∀b∈X.ex,b≠X.env.locals/\∀x c,X.env.cells.lookup x=some c->c≠b
 bs:∀b o,X.au.get? b=some o->X.s₀.heap.get? b=some o/\X.H₀ b=none
 jR:X.au.objs.size<=X.s₀.heap.objs.size
 ph:∀b o,X.au.get? b=some o->b∉X.ex
 oo:∀b∈X.ex,b∉X.fs
 iA:X.s₀.heap.FunFrames X.au X.outer
 lB:∀b∈X.fs,X.H₀ b=none
structure Inv(X:Cx)(ao:List (Addr×Obj))(O:List (Option V))(H:Hp)(s:ae):Prop where
 ok:X.Ok
 os:s.os=X.s₀.os
 bare:AllBare s.gens
 au:Un X.fs X.ex X.H₀ H X.s₀.heap s.heap
 loc:∃m,s.heap.Ns X.env.locals m/\∀(i:Nat)(x:Str)(v:V),X.N[i]? =some x->O[i]? =some (some v)->BC X.env.scope x->∃u,RelV v u/\Look X.env s.heap m x u
 cell:∀x c,X.env.cells.lookup x=some c->∃v,s.heap.IsCell c v
 free:H X.env.locals=none
 j6:∀x c,X.env.cells.lookup x=some c->H c=none
 pin:∀p∈X.pn++ao,s.heap.get? p.1=some p.2/\H p.1=none/\p.1≠X.env.locals/\p.1∉X.fs/\∀v,p.2.data≠ .cell v
 bB:eB X.prog X.w H s.heap
 len:O.length=X.N.length
section
variable {X:Cx}{ao:List (Addr×Obj)}{O:List (Option V)}{H H':Hp}{s:ae}{h':Heap}
theorem Cx.Ok.a0F(ok:X.Ok){b:Addr}{o:Obj}(e:X.au.get? b=some o):b∉X.fs:=λhb=>by have:=(ok.iA.mem hb).1;rw[e]at this;cases this
theorem Inv.bs(I:Inv X ao O H s):∀b o,X.au.get? b=some o->s.heap.get? b=some o/\H b=none:=λb o e=>⟨I.au.keep b o (I.ok.bs b o e).1 (I.ok.bs b o e).2 (I.ok.a0F e) (I.ok.ph b o e),I.au.free b o (I.ok.bs b o e).1 (I.ok.bs b o e).2 (I.ok.ph b o e)⟩
theorem Inv.bk(I:Inv X ao O H s):∀b o,X.au.get? b=some o->s.heap.get? b=some o:=λb o e=>(I.bs b o e).1
theorem Inv.mod(I:Inv X ao O H s):Mod X.K X.mg X.au:=I.ok.mod
theorem Inv.fb(I:Inv X ao O H s):X.K.In s.heap:=I.ok.mod.mr.keeps I.bk
theorem Inv.lt(I:Inv X ao O H s):X.env.locals<s.heap.objs.size:=let⟨_,hn,_⟩:=I.loc;hn.lt
theorem Inv.sz(I:Inv X ao O H s):X.s₀.heap.objs.size<=s.heap.objs.size:=gC I.ok.above (Nat.le_of_lt I.lt)
theorem Inv.a0D(I:Inv X ao O H s){a:Addr}(h:s.heap.objs.size<=a):a∉X.fs:=λhb=>by obtain⟨_,o,ho,_⟩:=I.ok.iA.mem hb;exact absurd (fK (cm ho) (gC I.sz h)) (t9 _)
theorem Inv.lD(I:Inv X ao O H s):∀x c,X.env.cells.lookup x=some c->c≠X.env.locals:=λx c e z=>by obtain⟨v,o,ho,hd⟩:=I.cell x c e;obtain⟨m,⟨o',es,ep,kR,Hq,_⟩,_⟩:=I.loc;rw[z,kR]at ho;cases ho;rw[Hq]at hd;cases hd
theorem Inv.iA(I:Inv X ao O H s):s.heap.FunFrames X.au X.outer:=by
 have all:∀(l:List Env),(∀b∈ek l,b∈X.fs)->X.s₀.heap.FunFrames X.au l->s.heap.FunFrames X.au l:=by intro l;induction l with |nil=>intro _ _;trivial |cons env r ih=>intro hs hl;obtain⟨hk,⟨L,o,hf,hn,ho,hd⟩,hr⟩:=hl;have hL:L∈X.fs:=hs L (by unfold ek;rw[Uo,hf];exact JW);obtain⟨sl,e⟩:=I.au.slot L o ho (I.ok.lB L hL) hL λz=>I.ok.oo L z hL;exact⟨hk,⟨L,_,hf,hn,e,hd⟩,ih (λb hb=>hs b (by unfold ek;rw[Uo,hf];exact vA _ hb)) hr⟩
 exact all X.outer (λ_ hb=>hb) I.ok.iA
theorem Inv.stack(I:Inv X ao O H s):s.heap.FunFrames X.au X.stack:=by
 rcases I.ok.qC with e|⟨e,hf⟩
 ·rw[e];exact I.iA
 ·rw[e]
  obtain⟨m,hn,_⟩:=I.loc;refine .cons (by rw[I.ok.kind];decide) hf hn ?_ I.iA;exact Heap.get?_none_of_le (gC I.ok.jR I.ok.above)
theorem Inv.Cr(I:Inv X ao O H s):∀b∈ek X.stack,b∈X.env.locals::X.fs:=λb hb=>by
 rcases I.ok.qC with e|⟨e,hf⟩
 ·rw[e]at hb;exact vA _ hb
 ·rw[e]at hb
  unfold ek at hb;rw[Uo,hf]at hb;exact hb
theorem Inv.zq(I:Inv X ao O H s):∀b∈ek X.stack,H b=none:=λb hb=>by
 rcases cj.mp (I.Cr b hb)with e|hb
 ·rw[e];exact I.free
 ·obtain⟨_,o,ho,_⟩:=I.ok.iA.mem hb
  exact I.au.free b o ho (I.ok.lB b hb) λz=>I.ok.oo b z hb
theorem Inv.step{g':Array GenState}{t':Nat}{d':Drawn}{ch:List Addr}(I:Inv X ao O H s) (kx:∀b∈ch,(b∈X.ex\/X.s₀.heap.objs.size<=b)/\b≠X.env.locals/\(∀x c,X.env.cells.lookup x=some c->c≠b)/\∀p∈X.pn++ao,p.1≠b) (keep:∀b o,b≠X.env.locals->b∉X.fs->b∉ch->s.heap.get? b=some o->H b=none->h'.get? b=some o) (slot:∀b o,b≠X.env.locals->b∈X.fs->b∉ch->s.heap.get? b=some o->H b=none->∃sl,h'.get? b=some {o with slots:=sl})(free:∀b o,b∉ch->s.heap.get? b=some o->H b=none->H' b=none) (there:∀b o,b∉ch->s.heap.get? b=some o->∃o',h'.get? b=some o') (jf:∀b xs,H b=some (.tup xs)->H' b=some (.tup xs))(iZ:∀b o u,H b=some (.lA o u)->H' b=some (.lA o u))(jg:∀b ps,H b=some (.mZ ps)->∃more,H' b=some (.mZ (ps++more))) (ns:∀m,s.heap.Ns X.env.locals m->h'.Ns X.env.locals m)(bB:eB X.prog X.w H' h')(hg:AllBare g'): Inv X ao O H' {s with heap:=h',gens:=g',drawn:=d',toks:=t'}:=by
 have OZ:∀b o,X.s₀.heap.get? b=some o->b≠X.env.locals:=λb o e=>eP (fK (cm e) I.ok.above);have Al:∀b o,X.s₀.heap.get? b=some o->b∉X.ex->b∉ch:=λb o e hx hb=>by
  rcases(kx b hb).1 with z|z
  ·exact hx z
  ·exact absurd (fK (cm e) z) (t9 _)
 have cellK:∀x c,X.env.cells.lookup x=some c->∀v,s.heap.IsCell c v->h'.IsCell c v:=λx c e v ⟨o,ho,hd⟩=>by
  have wV:c∉ch:=λz=>(kx c z).2.2.1 x c e rfl;by_cases hc:c∈X.fs
  ·obtain⟨sl,q⟩:=slot c o (I.lD x c e) hc wV ho (I.j6 x c e)
   exact⟨_,q,hd⟩
  ·exact⟨o,keep c o (I.lD x c e) hc wV ho (I.j6 x c e),hd⟩
 refine⟨I.ok,I.os,hg,⟨λb o e n hb hx=>?_,λb o e n hb hx=>?_,λb o e n hx=>?_,λb o e hx=>?_,λb xs e=>jf b xs (I.au.jf b xs e),λb o xs e=>iZ b o xs (I.au.iZ b o xs e),λb ps e=>?_⟩,?_,λx c e=>?_,?_,λx c e=>?_,λp hp=>?_,bB,I.len⟩
 ·exact keep b o (OZ b o e) hb (Al b o e hx) (I.au.keep b o e n hb hx) (I.au.free b o e n hx)
 ·obtain⟨sl,e1⟩:=I.au.slot b o e n hb hx
  obtain⟨CZ,e2⟩:=slot b _ (OZ b o e) hb (Al b o e hx) e1 (I.au.free b o e n hx);exact⟨CZ,e2⟩
 ·obtain⟨o',e1⟩:=I.au.there b o e hx
  exact free b o' (Al b o e hx) e1 (I.au.free b o e n hx)
 ·obtain⟨o',e1⟩:=I.au.there b o e hx
  exact there b o' (Al b o e hx) e1
 ·obtain⟨m1,e1⟩:=I.au.jg b ps e
  obtain⟨m2,e2⟩:=jg b _ e1;exact⟨m1++m2,by rw[e2,Array.append_assoc]⟩
 ·obtain⟨m,hn,hl⟩:=I.loc
  refine⟨m,ns m hn,λi x v e1 e2 e3=>?_⟩;obtain⟨u,r,l⟩:=hl i x v e1 e2 e3;refine⟨u,r,?_⟩;rcases l with l|⟨k,c,e,z⟩
  ·exact .inl l
  ·exact .inr ⟨k,c,e,cellK x c e _ z⟩
 ·obtain⟨v,z⟩:=I.cell x c e
  exact⟨v,cellK x c e v z⟩
 ·obtain⟨m,⟨o,_,_,ho,_⟩,_⟩:=I.loc
  exact free _ o (λz=>(kx _ z).2.1 Z) ho I.free
 ·obtain⟨v,o,ho,hd⟩:=I.cell x c e
  exact free c o (λz=>(kx c z).2.2.1 x c e Z) ho (I.j6 x c e)
 ·obtain⟨e,n,ne,nf,d⟩:=I.pin p hp
  have wV:p.1∉ch:=λz=>(kx p.1 z).2.2.2 p hp rfl;exact⟨keep p.1 p.2 ne nf wV e n,free p.1 p.2 wV e n,ne,nf,d⟩
theorem Inv.un{t':Nat}(I:Inv X ao O H s)(u:Un X.fs [] H H' s.heap h')(bB:eB X.prog X.w H' h'):Inv X ao O H' {s with heap:=h',toks:=t'}:=by obtain⟨m,⟨o,es,ep,ho,r⟩,_⟩:=id I.loc;obtain⟨sl,hL⟩:=u.any ho I.free (by simp);exact I.step (g':=s.gens) (d':=s.drawn) (ch:=[]) (λ_ z=>nomatch z) (λb o _ hb _ e n=>u.keep b o e n hb (by simp)) (λb o _ hb _ e n=>u.slot b o e n hb (by simp)) (λb o _ e n=>u.free b o e n (by simp)) (λb o _ e=>u.there b o e (by simp)) u.jf u.iZ u.jg (λm' hm=>by obtain⟨o',oq,IJ,kR,r'⟩:=hm;rw[ho]at kR;cases kR;exact⟨_,oq,IJ,hL,r'⟩) bB I.bare
theorem Inv.call{g':Array GenState}{t':Nat}{d':Drawn}{ch:List Addr}(I:Inv X ao O H s)(u:Un (ek X.stack) ch H H' s.heap h')(bB:eB X.prog X.w H' h')(hg:AllBare g') (kx:∀b∈ch,(b∈X.ex\/X.s₀.heap.objs.size<=b)/\b≠X.env.locals/\(∀x c,X.env.cells.lookup x=some c->c≠b)/\∀p∈X.pn++ao,p.1≠b): Inv X ao O H' {s with heap:=h',gens:=g',drawn:=d',toks:=t'}:=by obtain⟨m,⟨o,es,ep,ho,r⟩,_⟩:=id I.loc;obtain⟨sl,hL⟩:=u.any ho I.free λz=>(kx _ z).2.1 rfl;exact I.step (ch:=ch) kx (λb o hL hb hc e n=>u.keep b o e n (λz=>(cj.mp (I.Cr b z)).elim hL hb) hc) (λb o _ _ hc e n=>u.any e n hc) (λb o hc e n=>u.free b o e n hc) (λb o hc e=>u.there b o e hc) u.jf u.iZ u.jg (λm' hm=>by obtain⟨o',oq,IJ,kR,r'⟩:=hm;rw[ho]at kR;cases kR;exact⟨_,oq,IJ,hL,r'⟩) bB hg
theorem Inv.turned{t':Nat}{it:Addr}(I:Inv X ao O H s)(k:∀b o,b≠it->s.heap.get? b=some o->h'.get? b=some o)(hn:H it=none)(hL:it≠X.env.locals) (h1:it∈X.ex\/X.s₀.heap.objs.size<=it)(h2:∀x c,X.env.cells.lookup x=some c->c≠it)(h3:∀p∈X.pn++ao,p.1≠it):Inv X ao O H {s with heap:=h',toks:=t'}:=by
 have wR:∀b u,H b=some u->b≠it:=λb u e z=>by rw[z,hn]at e;cases e
 refine I.step (g':=s.gens) (d':=s.drawn) (ch:=[it]) (λb hb=>?_) (λb o _ _ hc e _=>k b o (λz=>hc (by simp[z])) e) (λb o _ _ hc e _=>⟨o.slots,k b o (λz=>hc (by simp[z])) e⟩) (λ_ _ _ _ n=>n) (λb o hc e=>⟨o,k b o (λz=>hc (by simp[z])) e⟩) (λ_ _ e=>e) (λ_ _ _ e=>e) (λb ps e=>⟨#[],by rw[e];simp⟩) (λm hm=>?_) (λb u e=>?_) I.bare
 ·have e:b=it:=by simpa using hb
  subst e;exact⟨h1,hL,h2,h3⟩
 ·obtain⟨o,es,ep,ho,r⟩:=hm
  exact⟨o,es,ep,k _ o (iK hL) ho,r⟩
 ·refine(I.bB b u e).lS (λc v hc q=>k c v ?_ q) (λ_ q=>q) λ_ _ q=>q
  rcases hc with z|z
  ·rw[z];exact wR b u e
  ·exact wR c _ z
theorem Inv.tok(I:Inv X ao O H s)(t:Nat):Inv X ao O H {s with toks:=t}:=I.un (h':=s.heap) (t':=t) Un.refl I.bB
theorem Inv.kept{t':Nat}(I:Inv X ao O H s)(k:∀b u,s.heap.get? b=some u->h'.get? b=some u):Inv X ao O H {s with heap:=h',toks:=t'}:=I.un (Un.kept k) (I.bB.kept k)
theorem Inv.laid{a:Addr}{o:HO}{t':Nat}(I:Inv X ao O H s)(k:∀b u,s.heap.get? b=some u->h'.get? b=some u)(hp:s.heap.objs.size<=a)(new:gf X.prog X.w (upd H a o) h' a o): Inv X ao O (upd H a o) {s with heap:=h',toks:=t'}:=I.un (Un.laid k hp (I.bB.fresh hp)) (I.bB.laid k hp new)
theorem Inv.write{x e:Addr}{o:HO}{t':Nat}(I:Inv X ao O H s)(mu:BG (H x))(he:e=x\/H e=some (.own x))(k:∀b u,b≠e->s.heap.get? b=some u->h'.get? b=some u)(uK:∃u,h'.get? e=some u) (new:gf X.prog X.w (upd H x o) h' x o):Inv X ao O (upd H x o) {s with heap:=h',toks:=t'}:=I.un (Un.write mu he k uK) (I.bB.write mu he k uK new)
theorem Inv.Od{FI:List (Addr×Obj)}(I:Inv X ao O H s)(h:∀p∈FI,s.heap.get? p.1=some p.2/\H p.1=none/\p.1≠X.env.locals/\p.1∉X.fs/\∀v,p.2.data≠ .cell v):Inv X FI O H s:=⟨I.ok,I.os,I.bare,I.au,I.loc,I.cell,I.free,I.j6,λp hp=>(mU.mp hp).elim (λz=>I.pin p (JX _ z)) (h p),I.bB,I.len⟩
theorem G6{N:List Str}(hN:N.Nodup){i j:Nat}{x:Str}(a:N[i]? =some x)(b:N[j]? =some x):i=j:=by obtain⟨h1,e1⟩:=dD.mp a;obtain⟨h2,e2⟩:=dD.mp b;exact(List.getElem_inj hN).mp (e1.trans e2.symm)
theorem KD{M:Model}{A:ai}{E:Value->ae->Prop}{i:Nat}{x:Str}{v:V}{u:Value}{Q:Unit->ae->Prop}(I:Inv X ao O H s)(hN:X.N.Nodup)(hi:X.N[i]? =some x)(hx:Loc X.env.scope x)(r:RelV v u) (h:∀s',Inv X ao (O.set i (some v)) H s'->(∃a,Heap.SameBut a s.heap s'.heap/\(a=X.env.locals\/X.env.cells.lookup x=some a))->Q () s')(hf:autoParam (X.fn x=true\/X.env.scope.names.lookup x=some .local) d8_._auto_1):wpAny M A (storeName X.env x u) Q E s:=by
 obtain⟨m,hn,hl⟩:=id I.loc;have xA:(X.env.scope.kind== .class||(X.env.scope.kind== .module&&X.env.locals !=X.env.globals))=false:=by rw[I.ok.kind];rfl
 have AW:i<O.length:=by rw[I.len];exact(dD.mp hi).1
 have lD:=I.lD;have tracked:∀{a:Addr}{h':Heap},(∃o,s.heap.get? a=some o/\H a=none)->Heap.SameBut a s.heap h'->eB X.prog X.w H h':=λ{a h'} ha hs b ob e=>by
  obtain⟨_,_,uJ⟩:=ha;refine(I.bB b ob e).lS (λc w' hc q=>(hs.2 c ?_).trans q) (λ_ q=>q) λ_ _ q=>q;rintro rfl;rcases hc with rfl|hc
  ·rw[uJ]at e;cases e
  ·rw[uJ]at hc;cases hc
 rcases hx with hk|hk
 ·refine wpAny_storeName_local hk hn (λh' rO hs=>?_) xA
  obtain⟨oL,_,_,Qq,_⟩:=id hn;refine h _ ⟨I.ok,I.os,I.bare,⟨λb o e n hb hx=>?_,λb o e n hb hx=>?_,I.au.free,λb o e hx=>?_,I.au.jf,I.au.iZ,I.au.jg⟩,⟨_,rO,λj y v' e1 e2 e3=>?_⟩,λy c e=>?_,I.free,I.j6,λp hp=>?_,tracked ⟨oL,Qq,I.free⟩ hs,by simpa using I.len⟩ ⟨_,hs,.inl rfl⟩
  ·exact(hs.2 b (eP (fK (cm e) I.ok.above))).trans (I.au.keep b o e n hb hx)
  ·obtain⟨sl,e1⟩:=I.au.slot b o e n hb hx
   exact⟨sl,(hs.2 b (eP (fK (cm e) I.ok.above))).trans e1⟩
  ·obtain⟨o',e1⟩:=I.au.there b o e hx
   exact⟨o',(hs.2 b (eP (fK (cm e) I.ok.above))).trans e1⟩
  ·by_cases hj:j=i
   ·subst hj
    rw[hi]at e1;cases e1;rw[K1 AW]at e2;cases e2;exact⟨u,r,.inl ⟨hk,by simp⟩⟩
   ·rw[Um (iK hj)]at e2
    obtain⟨u',r',q⟩:=hl j y v' e1 e2 e3;refine⟨u',r',?_⟩;rcases q with⟨k,e⟩|⟨k,c,e,z⟩
    ·refine .inl ⟨k,?_⟩
     have:y≠x:=λe=>hj (G6 hN e1 (e▸hi));simp[this,e]
    ·exact .inr ⟨k,c,e,z.sameBut hs (lD y c e)⟩
  ·obtain⟨w',z⟩:=I.cell y c e
   exact⟨w',z.sameBut hs (lD y c e)⟩
  ·obtain⟨e,n,ne,nf,d⟩:=I.pin p hp
   exact⟨(hs.2 p.1 ne).trans e,n,ne,nf,d⟩
 ·have Ho:X.fn x=true:=by
   rcases hf with z|z
   ·exact z
   ·rw[z]at hk;cases hk
  obtain⟨c,hc⟩:=I.ok.has x (.inl hk);obtain⟨w',z⟩:=I.cell x c hc;refine wpAny_storeName_cell I.ok.kind hk hc z (λh' jN hs=>?_);obtain⟨oc,Qp,a3l⟩:=id z;refine h {s with heap:=h'} ⟨I.ok,I.os,I.bare,⟨λb o e n hb hx=>?_,λb o e n hb hx=>?_,I.au.free,λb o e hx=>?_,I.au.jf,I.au.iZ,I.au.jg⟩,⟨m,hn.sameBut hs (iK (lD x c hc)),λj y v' e1 e2 e3=>?_⟩,λy c' e=>?_,I.free,I.j6,λp hp=>?_,tracked ⟨oc,Qp,I.j6 x c hc⟩ hs,by simpa using I.len⟩ ⟨c,hs,.inr hc⟩
  ·exact(hs.2 b (eP (fK (cm e) (I.ok.qh x c Ho hc)))).trans (I.au.keep b o e n hb hx)
  ·obtain⟨sl,e1⟩:=I.au.slot b o e n hb hx
   exact⟨sl,(hs.2 b (eP (fK (cm e) (I.ok.qh x c Ho hc)))).trans e1⟩
  ·obtain⟨o',e1⟩:=I.au.there b o e hx
   exact⟨o',(hs.2 b (eP (fK (cm e) (I.ok.qh x c Ho hc)))).trans e1⟩
  ·by_cases hj:j=i
   ·subst hj
    rw[hi]at e1;cases e1;rw[K1 AW]at e2;cases e2;exact⟨u,r,.inr ⟨.inl hk,c,hc,jN⟩⟩
   ·rw[Um (iK hj)]at e2
    obtain⟨u',r',q⟩:=hl j y v' e1 e2 e3;refine⟨u',r',?_⟩;rcases q with q|⟨k,c',e,z'⟩
    ·exact .inl q
    ·refine .inr ⟨k,c',e,z'.sameBut hs ?_⟩
     rintro rfl;exact hj (G6 hN e1 (I.ok.inj _ _ _ e hc▸hi))
  ·by_cases QB:c'=c
   ·subst QB;exact⟨_,jN⟩
   ·obtain⟨w2,z2⟩:=I.cell y c' e
    exact⟨w2,z2.sameBut hs QB⟩
  ·obtain⟨e,n,ne,nf,d⟩:=I.pin p hp
   refine⟨(hs.2 p.1 ?_).trans e,n,ne,nf,d⟩;intro q;rw[q,Qp]at e;have q':oc=p.2:=dG e;exact d w' (by rw[<-q'];exact a3l)
theorem tK{M:Model}{A:ai}{E:Value->ae->Prop}{i:Nat}{x:Str}{v:V}{u:Value}{Q:Unit->ae->Prop}(I:Inv X ao O H s)(hN:X.N.Nodup)(hi:X.N[i]? =some x)(hx:Loc X.env.scope x)(r:RelV v u) (h:∀s',Inv X ao (O.set i (some v)) H s'->Q () s')(hf:autoParam (X.fn x=true\/X.env.scope.names.lookup x=some .local) d8_._auto_1):wpAny M A (storeName X.env x u) Q E s:=KD I hN hi hx r (λs' I' _=>h s' I') hf
theorem Inv.Bw{s':ae}{ch:List Addr}(I:Inv X ao O H s)(ho:s'.os=s.os)(u:Un (ek X.stack) ch H H' s.heap s'.heap)(bB:eB X.prog X.w H' s'.heap)(hg:AllBare s'.gens) (kx:∀b∈ch,(b∈X.ex\/X.s₀.heap.objs.size<=b)/\b≠X.env.locals/\(∀x c,X.env.cells.lookup x=some c->c≠b)/\∀p∈X.pn++ao,p.1≠b):Inv X ao O H' s':=by obtain⟨h',g',d',t',o'⟩:=s';have e:o'=s.os:=ho;subst e;exact I.call (g':=g') (t':=t') (d':=d') u bB hg kx
end
abbrev XK:=Value->Option Addr->Hp->Prop
abbrev St:=List (Option V)
abbrev VK:=V->Hp->Prop
abbrev TE:=St->Hp->VK->Prop
abbrev TT:=St->Hp->(Bool->Hp->Prop)->Prop
abbrev TA:=St->Hp->(List V->Hp->Prop)->Prop
structure Ends where
 nx:St->Hp->Prop
 rt:VK
 bk:St->Hp->Prop:=λ_ _=>False
 ct:St->Hp->Prop:=λ_ _=>False
abbrev TS:=Ends->St->Hp->Prop
def EP(X:Cx)(ao:List (Addr×Obj))(O:St)(Q:VK)(u:Value)(s':ae):Prop:=∃v H',Inv X ao O H' s'/\RelV v u/\Q v H'
def TP(X:Cx)(ao:List (Addr×Obj))(O:St)(Q:Bool->Hp->Prop)(b:Bool)(s':ae):Prop:=∃H',Inv X ao O H' s'/\Q b H'
def AP(X:Cx)(ao:List (Addr×Obj))(O:St)(Q:List V->Hp->Prop)(us:List Value)(s':ae):Prop:=∃vs H',Inv X ao O H' s'/\Vals vs us/\Q vs H'
def SP(X:Cx)(ao:List (Addr×Obj))(D:Ends)(f:Flow)(s':ae):Prop:=match f with | .next=>∃σ' H',Inv X ao σ' H' s'/\D.nx σ' H' | .brk=>∃σ' H',Inv X ao σ' H' s'/\D.bk σ' H' | .cont=>∃σ' H',Inv X ao σ' H' s'/\D.ct σ' H' | .ret u=>∃v σ' H',Inv X ao σ' H' s'/\RelV v u/\D.rt v H'
def PE(X:Cx)(e:Expr)(t:TE):Prop:=∀(ao:List (Addr×Obj))(s:ae)(O:St)(H:Hp)(Q:VK),Inv X ao O H s->t O H Q->wpAny (model X.prog X.w) X.A (eval e X.env) (EP X ao O Q) X.xe s
def PT(X:Cx)(e:Expr)(t:TT):Prop:=∀(ao:List (Addr×Obj))(s:ae)(O:St)(H:Hp)(Q:Bool->Hp->Prop),Inv X ao O H s->t O H Q->wpAny (model X.prog X.w) X.A (isTrue e X.env (eval e X.env)) (TP X ao O Q) X.xe s
def PW(X:Cx)(e:Expr)(t:TT):Prop:=∀(whole:Sem Value)(ao:List (Addr×Obj))(s:ae)(O:St)(H:Hp)(Q:Bool->Hp->Prop),Inv X ao O H s->t O H Q->wpAny (model X.prog X.w) X.A (isTrue e X.env whole) (TP X ao O Q) X.xe s
theorem PW.pt{X:Cx}{e:Expr}{t:TT}(h:PW X e t):PT X e t:=h _
def PA(X:Cx)(es:List Expr)(t:TA):Prop:=∀(pos:Pos)(ao:List (Addr×Obj))(s:ae)(O:St)(H:Hp)(Q:List V->Hp->Prop),Inv X ao O H s->t O H Q->wpAny (model X.prog X.w) X.A (spliced (backTo pos (starEach es X.env))) (AP X ao O Q) X.xe s
def PS(X:Cx)(st:Stmt)(t:TS):Prop:=∀(ao:List (Addr×Obj))(s:ae)(O:St)(H:Hp)(D:Ends),Inv X ao O H s->t D O H->wpAny (model X.prog X.w) X.A (exec st X.env) (SP X ao D) X.xe s
def fz(X:Cx)(st:List Stmt)(t:TS):Prop:=∀(ao:List (Addr×Obj))(s:ae)(O:St)(H:Hp)(D:Ends),Inv X ao O H s->t D O H->wpAny (model X.prog X.w) X.A (execs st X.env) (SP X ao D) X.xe s
theorem ba{α:Type}{t:Sem α}{Q Q':α->ae->Prop}{M:Model}{A:ai}{E:Value->ae->Prop}{s:ae}(h:wpAny M A t Q E s)(hQ:∀a s,Q a s->Q' a s):wpAny M A t Q' E s:=iH h hQ λ_ _ x=>x
section
variable {X:Cx}
inductive a8W(i:Nat)(O:St)(H:Hp)(Q:VK):Prop |mk (v:_)(h0:O[i]? =some (some v))(h1:Q v H)
def tI(i:Nat):TE:=λO H Q=>a8W i O H Q
def tC (v:V):TE:=λ_ H Q=>Q v H
theorem Oh{i:Nat}{x:Str}{pos:Pos}(hN:X.N[i]? =some x)(hv:BC X.env.scope x)(hd:autoParam ((x==("__debug__":Str))=false) q8_._auto_1)(fk:autoParam ((x==("__classdict__":Str))=false) q8_._auto_1):PE X (.Name x pos) (tI i):=by
 intro ao s O H Q I h;obtain⟨v,e,h⟩:=h;obtain⟨m,hn,hl⟩:=I.loc;obtain⟨u,r,l⟩:=hl i x v hN e hv;have fin:EP X ao O Q u s:=⟨v,H,I,r,h⟩;rcases l with⟨hk,hm⟩|⟨hk,c,hc,pO⟩
 ·exact wpAny_Name (wpAny_loadName_local I.ok.kind hk hn hm fin) hd
 ·rcases hk with hk|hk
  ·exact wpAny_Name (wpAny_loadName_cell I.ok.kind hk hc pO fin) hd
  ·exact wpAny_Name (wpAny_loadName_free I.ok.kind hk hc pO fin fk) hd
theorem aF{i j pos}:PE X (.Constant (.int i) j pos) (tC (.int i)):=λ_ _ _ H _ I h=>wpAny_Constant_int ⟨.int i,H,I.tok _,⟨_,Z⟩,h⟩
theorem gE{b j pos}:PE X (.Constant (.bool b) j pos) (tC (.bl b)):=λ_ _ _ H _ I h=>Constant_bool ⟨.bl b,H,I,Z,h⟩
theorem jk{j pos}:PE X (.Constant .none j pos) (tC .bw):=λ_ _ _ H _ I h=>Constant_none ⟨.bw,H,I,Z,h⟩
theorem bu{x j pos}:PE X (.Constant (.str x) j pos) (tC (.str x)):=λ_ _ _ H _ I h=>Calls.Constant_str ⟨.str x,H,I.tok _,⟨_,Z⟩,h⟩
def Gl(X:Cx)(x:Str):Prop:=X.env.kindOf x=some .globalImplicit
theorem pE{E:Value->ae->Prop}{ao:List (Addr×Obj)}{s:ae}{O:St}{H:Hp}{x:Str}{u:Value}{pos:Pos}{Q:Value->ae->Prop}(I:Inv X ao O H s)(hg:Gl X x)(hm:X.mg x=some u)(h:Q u s) (hd:autoParam ((x==("__debug__":Str))=false) q8_._auto_1):wpAny (model X.prog X.w) X.A (eval (.Name x pos) X.env) Q E s:=Calls.Name_function_global I.ok.kind hg (Calls.loadGlobal_global (by rw[I.ok.glob];exact I.mod.glob.keeps I.bk) hm h) hd
theorem pF{E:Value->ae->Prop}{ao:List (Addr×Obj)}{s:ae}{O:St}{H:Hp}{x:Str}{u:Value}{pos:Pos}{Q:Value->ae->Prop}(I:Inv X ao O H s)(hg:Gl X x)(hm:X.mg x=none)(hv:bootBuiltins x=some u)(h:Q u s) (hn:autoParam (x≠"__name__") q8_._auto_1)(hd:autoParam ((x==("__debug__":Str))=false) q8_._auto_1):wpAny (model X.prog X.w) X.A (eval (.Name x pos) X.env) Q E s:=by obtain⟨mb,h1,h2⟩:=I.mod.blt;exact Calls.Name_function_global I.ok.kind hg (Calls.loadGlobal_builtin (by rw[I.ok.glob];exact I.mod.glob.keeps I.bk) hm (by rw[I.ok.blt];exact h1.keeps I.bk) ((h2 x hn).trans hv) h) hd
theorem XZ{x:Str}{v:V}{u:Value}{pos:Pos}(hg:Gl X x)(hm:X.mg x=some u)(r:RelV v u)(hd:autoParam ((x==("__debug__":Str))=false) q8_._auto_1):PE X (.Name x pos) (tC v):=λ_ _ _ H _ I h=>pE I hg hm ⟨v,H,I,r,h⟩ hd
theorem m6{x:Str}{v:V}{u:Value}{pos:Pos}(hg:Gl X x)(hm:X.mg x=none)(hv:bootBuiltins x=some u)(r:RelV v u)(hn:autoParam (x≠"__name__") q8_._auto_1)(hd:autoParam ((x==("__debug__":Str))=false) q8_._auto_1):PE X (.Name x pos) (tC v):=λ_ _ _ H _ I h=>pF I hg hm hv ⟨v,H,I,r,h⟩ hn hd
variable {a b:Expr}{ta tb:TE}{pos:Pos}
def PC(X:Cx)(op:CmpOp)(a b:Expr)(t:TE):Prop:=∀(ao:List (Addr×Obj))(s:ae)(O:St)(H:Hp)(Q:VK),Inv X ao O H s->t O H Q->wpAny (model X.prog X.w) X.A (eval a X.env) (λv s₁=>wpAny (model X.prog X.w) X.A (eval b X.env) (λu s₂=>wpAny (model X.prog X.w) X.A (compareOp op v u) (EP X ao O Q) X.xe s₂) X.xe s₁) X.xe s
inductive ItB(Q:Bool->Hp->Prop)(x:V)(H1:Hp):Prop |mk (c:_)(h0:x= .bl c)(h1:Q c H1)
def tB(t:TE):TT:=λO H Q=>t O H λx H1=>ItB Q x H1
theorem XB{op:CmpOp}{t:TE}(h:PC X op a b t)(h1:behindInMarks op b=false:=by first|exact abw _ az az|rfl):PT X (.Compare a [op] [b] pos) (tB t):=by intro ao s O H Q I hw;refine wpAny_isTrue_Compare1 (ba (h ao s O H _ I hw) λv s1 h1=>ba h1 λu s2 h2=>ba h2 λc s3 ⟨x,H1,I1,r1,q1⟩=>?_) h1;obtain⟨d,rfl,q⟩:=q1;cases r1;exact mS ⟨H1,I1,q⟩
theorem cK{e:Expr}{t:TE}(h:PE X e t)(he:autoParam (∀whole,isTrue e X.env whole=(do let v<-whole;standAt e.pos;holding [v] (truthy v))) f8_._auto_1):PT X e (tB t):=by intro ao s O H Q I hw;refine isTrue_plain (ba (h ao s O H _ I hw) λv s1 ⟨x,H1,I1,r1,q1⟩=>?_) (he _);obtain⟨d,rfl,q⟩:=q1;cases r1;exact mS ⟨H1,I1,q⟩
variable {tA zm:TT} {rest:List Expr}
def Kt(t u:TT):TT:=λO H Q=>t O H λc H1=>if c=true then u O H1 Q else Q false H1
def Vu(t u:TT):TT:=λO H Q=>t O H λc H1=>if c=true then Q true H1 else u O H1 Q
def Vw(t:TT):TT:=λO H Q=>t O H λc H1=>Q (!c) H1
theorem wC(ha:PT X a tA):PW X (.BoolOp .And [a] pos) tA:=by intro wh ao s O H Q I h;refine isTrue_and (ba (ha ao s O H Q I h) λc s1 e=>?_);cases c with |true=>exact isTrue_and_nil e |false=>exact e
theorem kI(ha:PT X a tA):PW X (.BoolOp .Or [a] pos) tA:=by intro wh ao s O H Q I h;refine isTrue_or (ba (ha ao s O H Q I h) λc s1 e=>?_);cases c with |false=>exact isTrue_or_nil e |true=>exact e
theorem qP(ha:PT X a tA)(hb:PW X (.BoolOp .And (b::rest) pos) zm):PW X (.BoolOp .And (a::b::rest) pos) (Kt tA zm):=by intro wh ao s O H Q I h;refine isTrue_and (ba (ha ao s O H _ I h) λc s1 ⟨H1,I1,q1⟩=>?_);cases c with |true=>exact hb wh ao s1 O H1 Q I1 q1 |false=>exact⟨H1,I1,q1⟩
theorem kJ(ha:PT X a tA)(hb:PW X (.BoolOp .Or (b::rest) pos) zm):PW X (.BoolOp .Or (a::b::rest) pos) (Vu tA zm):=by intro wh ao s O H Q I h;refine isTrue_or (ba (ha ao s O H _ I h) λc s1 ⟨H1,I1,q1⟩=>?_);cases c with |true=>exact⟨H1,I1,q1⟩ |false=>exact hb wh ao s1 O H1 Q I1 q1
theorem dw(ha:PT X a tA):PT X (.UnaryOp .Not a pos) (Vw tA):=by intro ao s O H Q I h;exact isTrue_not (ha ao s O H (λc H1=>Q (!c) H1) I h)
inductive a96(tb:TE)(O:St)(Q:VK)(x:V)(H1:Hp):Prop |mk (c:_)(h0:x= .bl c)(h1:if c=true then tb O H1 Q else Q (.bl false) H1)
def VI(ta tb:TE):TE:=λO H Q=>ta O H λx H1=>a96 tb O Q x H1
inductive a92(Q:VK)(x:V)(H1:Hp):Prop |mk (c:_)(h0:x= .bl c)(h1:Q (.bl (!c)) H1)
def Vv(ta:TE):TE:=λO H Q=>ta O H λx H1=>a92 Q x H1
theorem p5{op}{t:TE}(h:PE X a t):PE X (.BoolOp op [a] pos) t:=λao s O H Q I hw=>BoolOp_one (h ao s O H Q I hw)
theorem uf(ha:PE X a ta)(hb:PE X (.BoolOp .And (b::rest) pos) tb):PE X (.BoolOp .And (a::b::rest) pos) (VI ta tb):=by intro ao s O H Q I h;refine BoolOp_and (ba (ha ao s O H _ I h) λv s1 ⟨x,H1,I1,r1,q1⟩=>?_);obtain⟨c,rfl,q1⟩:=q1;cases r1;refine mS ?_;cases c with |true=>exact hb ao s1 O H1 Q I1 q1 |false=>exact⟨.bl false,H1,I1,Z,q1⟩
theorem XW(ha:PE X a ta):PE X (.UnaryOp .Not a pos) (Vv ta):=by intro ao s O H Q I h;refine UnaryOp_ (ba (ha ao s O H _ I h) λv s1 ⟨x,H1,I1,r1,q1⟩=>?_);obtain⟨c,rfl,q1⟩:=q1;cases r1;exact not_of (mS ⟨.bl (!c),H1,I1,Z,q1⟩)
def Kq(t:TT)(ta tb:TE):TE:=λO H Q=>t O H λc H1=>if c=true then ta O H1 Q else tb O H1 Q
theorem iP{c:Expr}(hc:PT X c tA)(ha:PE X a ta)(hb:PE X b tb):PE X (.IfExp c a b pos) (Kq tA ta tb):=by intro ao s O H Q I h;refine wpAny_IfExp (ba (hc ao s O H _ I h) λd s1 ⟨H1,I1,q1⟩=>?_);cases d with |true=>exact ha ao s1 O H1 Q I1 q1 |false=>exact hb ao s1 O H1 Q I1 q1
end
def aJ(K:aa)(H:Hp)(a:Addr)(xs:List V):Prop:=Rd H a (.lst xs)\/ ∃(o:Obj)(its:Array Value)(n:Nat),K.lookup a=some o/\o.cls= .type "list"/\o.dict=none/\o.data= .seq its n/\its.size<=sizeLine/\Vals xs its.toList
def aZ(K:aa)(H:Hp)(a:Addr)(xs:List V):Prop:=Rd H a (.tup xs)\/ ∃(o:Obj)(its:Array Value)(n:Nat),K.lookup a=some o/\o.cls= .type "tuple"/\o.data= .seq its n/\its.size<=sizeLine/\Vals xs its.toList
def a8F:Value->Option V | .none=>some .bw | .bool b=>some (.bl b) | .int i _=>some (.int i) | .str x _=>some (.str x) | .bytes b _=>some (.jt b) | .float b _=>some (.Be b) | .ref a=>some (.ref a) | .type n=>some (.ty n) |_=>none
theorem RelV.abs{x:V}{u:Value}(r:RelV x u):a8F u=some x:=by cases x with |bw=>cases r;rfl |bl _=>cases r;rfl |int _=>obtain⟨t,rfl⟩:=r;rfl |str _=>obtain⟨t,rfl⟩:=r;rfl |jt _=>obtain⟨t,rfl⟩:=r;rfl |Be _=>obtain⟨t,rfl⟩:=r;rfl |ref _=>cases r;rfl |ty _=>cases r;rfl
theorem RelV.inj{x y:V}{u:Value}(r:RelV x u)(q:RelV y u):x=y:=dG (r.abs.symm.trans q.abs)
theorem Vals.inj:∀{xs ys:List V}{us:List Value},Vals xs us->Vals ys us->xs=ys |_,_,_,.nil,.nil=>rfl |_,_,_,.cons r t,.cons r' t'=>by rw[r.inj r',Vals.inj t t']
section
variable {X:Cx}{ao:List (Addr×Obj)}{O:St}{H:Hp}{s:ae}{a:Addr}{xs ys:List V}
theorem aJ.of{K:aa}(h:H a=some (.lst xs)):aJ K H a xs:=.inl (.inl h)
theorem aZ.of{K:aa}(h:H a=some (.tup xs)):aZ K H a xs:=.inl (.inl h)
theorem Inv.list(I:Inv X ao O H s)(h:aJ X.K H a xs):∃its:List Value,Vals xs its/\PlainL s.heap a its.toArray/\xs.length<=sizeLine:=by
 rcases h with h|⟨o,its,n,hk,hc,hd,hs,hz,r⟩
 ·obtain⟨z,its,n,r,e⟩:=h.ok I.bB
  exact⟨its,r,⟨_,n,e,Z,Z,Z⟩,z⟩
 ·refine⟨its.toList,r,⟨o,n,I.fb a o hk,hc,hd,by simpa using hs⟩,?_⟩
  have e:=r.length;simp only[yN]at e
  lia
theorem Inv.tuple(I:Inv X ao O H s)(h:aZ X.K H a xs):∃its:List Value,Vals xs its/\IsTup s.heap a its.toArray/\xs.length<=sizeLine:=by
 rcases h with h|⟨o,its,n,hk,hc,hs,hz,r⟩
 ·obtain⟨z,its,r,p⟩:=h.ok I.bB
  exact⟨its,r,p,z⟩
 ·refine⟨its.toList,r,⟨o,I.fb a o hk,hc,n,by simpa using hs⟩,?_⟩
  have e:=r.length;simp only[yN]at e
  lia
theorem Inv.PB(I:Inv X ao O H s)(h:aJ X.K H a xs)(h':aJ X.K H a ys):xs=ys:=by
 obtain⟨its,r,⟨o,n,e,_,_,d⟩,_⟩:=I.list h;obtain⟨its',r',⟨o',n',e',_,_,d'⟩,_⟩:=I.list h';rw[e]at e';cases e';rw[d]at d';injection d' with d1 _;have:its=its':=by simpa using lN Array.toList d1
 subst this;exact r.inj r'
theorem Inv.Ki(I:Inv X ao O H s)(h:aZ X.K H a xs)(h':aZ X.K H a ys):xs=ys:=by
 obtain⟨its,r,⟨o,e,_,n,d⟩,_⟩:=I.tuple h;obtain⟨its',r',⟨o',e',_,n',d'⟩,_⟩:=I.tuple h';rw[e]at e';cases e';rw[d]at d';injection d' with d1 _;have:its=its':=by simpa using lN Array.toList d1
 subst this;exact r.inj r'
end
abbrev Cx.je(X:Cx)(E:Value->ae->Prop):Cx:={X with xe:=E}
abbrev Cx.rj(X:Cx):Cx:=X.je λ_ _=>False
theorem Cx.Ok.je{X:Cx}(ok:X.Ok)(E:Value->ae->Prop):(X.je E).Ok:=⟨ok.mod,ok.kind,ok.glob,ok.blt,ok.above,ok.inj,ok.has,ok.qh,ok.hd,ok.frames,ok.qC,ok.xY,ok.bs,ok.jR,ok.ph,ok.oo,ok.iA,ok.lB⟩
theorem Cx.Ok.lQ{X:Cx}{E:Value->ae->Prop}(ok:(X.je E).Ok):X.Ok:=⟨ok.mod,ok.kind,ok.glob,ok.blt,ok.above,ok.inj,ok.has,ok.qh,ok.hd,ok.frames,ok.qC,ok.xY,ok.bs,ok.jR,ok.ph,ok.oo,ok.iA,ok.lB⟩
section
variable {X:Cx}{ao:List (Addr×Obj)}{O:St}{H:Hp}{s:ae}{E:Value->ae->Prop}
theorem Inv.je(I:Inv X ao O H s)(E:Value->ae->Prop):Inv (X.je E) ao O H s:=⟨I.ok.je E,I.os,I.bare,I.au,I.loc,I.cell,I.free,I.j6,I.pin,I.bB,I.len⟩
theorem Inv.lQ(I:Inv (X.je E) ao O H s):Inv X ao O H s:=⟨I.ok.lQ,I.os,I.bare,I.au,I.loc,I.cell,I.free,I.j6,I.pin,I.bB,I.len⟩
theorem SP.lQ{D:Ends}{f:Flow}{s':ae}(h:SP (X.je E) ao D f s'):SP X ao D f s':=by cases f with |next=>obtain⟨σ',H',I,q⟩:=h;exact⟨σ',H',I.lQ,q⟩ |brk=>obtain⟨σ',H',I,q⟩:=h;exact⟨σ',H',I.lQ,q⟩ |cont=>obtain⟨σ',H',I,q⟩:=h;exact⟨σ',H',I.lQ,q⟩ |ret u=>obtain⟨v,σ',H',I,r,q⟩:=h;exact⟨v,σ',H',I.lQ,r,q⟩
theorem fz.rj{st:List Stmt}{t:TS}(h:fz X.rj st t):fz X st t:=λao s O H D I hw=>iH (h ao s O H D (I.je _) hw) (λ_ _ q=>q.lQ) λ_ _ z=>False.elim z
end
section
variable {X:Cx}{st:Stmt}{rest:List Stmt}{t u:TS}{e:Expr}{te:TE}{pos:Pos}
def Vy:TS:=λD O H=>D.nx O H
def Km(t u:TS):TS:=λD O H=>t {D with nx:=u D} O H
theorem bK:fz X [] Vy:=λ_ _ O H _ I h=>yx ⟨O,H,I,h⟩
theorem aE(h1:PS X st t)(h2:fz X rest u):fz X (st::rest) (Km t u):=by intro ao s O H D I h;refine wpAny_execs_cons (ba (h1 ao s O H {D with nx:=u D} I h) λf s1 q=>?_);cases f with |next=>obtain⟨σ',H',I',q⟩:=q;exact h2 ao s1 σ' H' D I' q |ret v=>exact q |brk=>exact q |cont=>exact q
theorem aK(h1:PS X st t):fz X [st] t:=by intro ao s O H D I h;refine wpAny_execs_cons (ba (h1 ao s O H D I h) λf s1 q=>?_);cases f with |next=>exact yx q |ret v=>exact q |brk=>exact q |cont=>exact q
theorem Inv.quiet{ao:List (Addr×Obj)}{O:St}{H:Hp}{s:ae}(I:Inv X ao O H s):interactive X.env=false:=by simp[interactive,I.ok.kind]
def VG(te:TE):TS:=λD O H=>te O H λ_ H1=>D.nx O H1
theorem lZ(he:PE X e te)(hs:autoParam (swapsWith e none pos.line X.env=pure false) r8_._auto_1):PS X (.Expr e pos) (VG te):=by intro ao s O H D I h;exact wpAny_Expr_any (ba (he ao s O H _ I h) λv s1 ⟨x,H1,I1,r1,q1⟩=>⟨O,H1,I1,q1⟩) I.quiet hs
def Vp(te:TE):TS:=λD O H=>te O H D.rt
theorem aR(he:PE X e te):PS X (.Return (some e) pos) (Vp te):=by intro ao s O H D I h;exact wpAny_Return_some (ba (he ao s O H _ I h) λv s1 ⟨x,H1,I1,r1,q1⟩=>⟨x,O,H1,I1,r1,q1⟩)
def zj(c:TT)(t u:TS):TS:=λD O H=>c O H λb H1=>if b=true then t D O H1 else u D O H1
theorem bJ{c:Expr}{a b:List Stmt}{tc:TT}(hc:PT X c tc)(ha:fz X a t)(hb:fz X b u):PS X (.If c a b pos) (zj tc t u):=by intro ao s O H D I h;refine wpAny_If (ba (hc ao s O H _ I h) λd s1 ⟨H1,I1,q1⟩=>?_);cases d with |true=>exact ha ao s1 O H1 D I1 q1 |false=>exact hb ao s1 O H1 D I1 q1
def Kn:TS:=λ_ _ _=>False
theorem ua:PS X st Kn:=λ_ _ _ _ _ _ h=>h.elim
theorem qQ{VR:List Stmt}:fz X VR Kn:=λ_ _ _ _ _ _ h=>h.elim
end
abbrev TG:=V->St->Hp->(St->Hp->Prop)->Prop
abbrev mK:=List V->St->Hp->(St->Hp->Prop)->Prop
def PG(X:Cx)(target:Expr)(t:TG):Prop:=∀(ao:List (Addr×Obj))(s:ae)(O:St)(H:Hp)(v:V)(u:Value)(Q:St->Hp->Prop),Inv X ao O H s->RelV v u->t v O H Q->wpAny (model X.prog X.w) X.A (assign target X.env u) (λ_ s'=>∃σ' H',Inv X ao σ' H' s'/\Q σ' H') X.xe s
def yk(X:Cx)(ts:List Expr)(t:mK):Prop:=∀(ao:List (Addr×Obj))(s:ae)(O:St)(H:Hp)(vs:List V)(us:List Value)(Q:St->Hp->Prop),Inv X ao O H s->Vals vs us->t vs O H Q->wpAny (model X.prog X.w) X.A (assignInOrder ((assignEach ts X.env).map (·.2)) us) (λ_ s'=>∃σ' H',Inv X ao σ' H' s'/\Q σ' H') X.xe s
abbrev Jq:=V->V->V->Hp->(Hp->Prop)->Prop
def Tn(X:Cx)(t:Jq):Prop:=∀(ao:List (Addr×Obj))(s:ae)(O:St)(H:Hp)(o i v:V)(ov iv u:Value)(Q:Hp->Prop),Inv X ao O H s->RelV o ov->RelV i iv->RelV v u->t o i v H Q->wpAny (model X.prog X.w) X.A (setItem ov iv u) (λ_ s'=>∃H',Inv X ao O H' s'/\Q H') X.xe s
abbrev Td:=V->V->Hp->VK->Prop
def PIp(X:Cx)(op:Operator)(t:Td):Prop:=∀(ao:List (Addr×Obj))(s:ae)(O:St)(H:Hp)(x y:V)(v u:Value)(Q:VK),Inv X ao O H s->RelV x v->RelV y u->t x y H Q->wpAny (model X.prog X.w) X.A (inplaceOp op v u) (EP X ao O Q) X.xe s
section
variable {X:Cx} {pos:Pos}
def gw(i:Nat):TG:=λv O H Q=>Q (O.set i (some v)) H
theorem XT{i:Nat}{x:Str}(hN:X.N.Nodup)(hi:X.N[i]? =some x)(hx:Loc X.env.scope x)(hf:autoParam (X.fn x=true\/X.env.scope.names.lookup x=some .local) d8_._auto_1):PG X (.Name x pos) (gw i):=by intro ao s O H v u Q I r h;exact wpAny_assign_Name (tK I hN hi hx r (λs' I'=>⟨_,H,I',h⟩) hf)
def Ih:mK:=λvs O H Q=>vs=[]/\Q O H
inductive ab0(t:TG)(u:mK)(vs:List V)(O:St)(H:Hp)(Q:St->Hp->Prop):Prop |mk (v:_)(r:_)(h0:vs=v::r)(h1:t v O H λσ' H'=>u r σ' H' Q)
def xS(t:TG)(u:mK):mK:=λvs O H Q=>ab0 t u vs O H Q
theorem eU:yk X [] Ih:=by intro ao s O H vs us Q I r h;obtain⟨e,h⟩:=h;subst e;cases r;exact assignInOrder_nil ⟨O,H,I,h⟩
theorem bZ{e:Expr}{es:List Expr}{t:TG}{u:mK}(h1:PG X e t)(h2:yk X es u) (hs:autoParam ((assignEach (e::es) X.env).map (·.2)=assign e X.env::(assignEach es X.env).map (·.2)) r8_._auto_1):yk X (e::es) (xS t u):=by intro ao s O H vs us Q I r h;obtain⟨v,vr,e1,h⟩:=h;subst e1;cases r with |cons r rr=>rw[hs];refine BQ (ba (h1 ao s O H _ _ _ I r h) λ_ s1 ⟨σ1,H1,I1,q1⟩=>?_);exact h2 ao s1 σ1 H1 _ _ Q I1 rr q1
inductive aaY(K:aa)(n:Nat)(t:mK)(v:V)(O:St)(H:Hp)(Q:St->Hp->Prop):Prop |mk (a:_)(xs:_)(h0:v= .ref a)(h1:aZ K H a xs)(h2:xs.length=n)(h3:t xs O H Q)
def Ba(K:aa)(n:Nat)(t:mK):TG:=λv O H Q=>aaY K n t v O H Q
theorem XS{es:List Expr}{k:Nat}{t:mK}{n:Nat}(hc:X.calm=true)(h:yk X es t) (hn:autoParam ((assignEach es X.env).length=n) r8_._auto_1)(gb:autoParam ((assignEach es X.env).findIdx? (·.1)=none) r8_._auto_1):PG X (.Tuple es k pos) (Ba X.K n t):=by intro ao s O H v u Q I r hw;obtain⟨a,xs,e1,hq,hl,hw⟩:=hw;subst e1;cases r;obtain⟨its,rv,ht,hz⟩:=I.tuple hq;refine assign_Tuple_tuple (I.ok.hd hc) ht (by simp[hn,<-hl,rv.length]) gb λh' hx=>?_;have I1:Inv X ao O H {s with heap:=h'}:=I.kept (t':=s.toks) λb o e=>hx b o (eP (cm e)) e;exact h ao _ O H xs _ Q I1 (by simpa using rv) hw
def a5C(to ti:TE)(t:Jq):TG:=λv O H Q=>to O H λo H1=>ti O H1 λi H2=>t o i v H2 λH3=>Q O H3
theorem qT{o i:Expr}{to ti:TE}{t:Jq}(ho:PE X o to)(hi:PE X i ti)(hs:Tn X t) (ha:∀v,assign (.Subscript o i pos) X.env v=(do
 let ov<-holding [v] (eval o X.env)
 let iv<-holding [v,ov] (eval i X.env)
 standAt pos
 holding [v,ov,iv] (setItem ov iv v)
 release [v,ov,iv] []):=by intro _;rfl):PG X (.Subscript o i pos) (a5C to ti t):=by
 intro ao s O H v u Q I r h;rw[ha];refine aM (jW (ba (ho ao s O H _ I h) λov s1 ⟨x,H1,I1,r1,q1⟩=>?_));refine aM (jW (ba (hi ao s1 O H1 _ I1 q1) λiv s2 ⟨y,H2,I2,r2,q2⟩=>?_));refine aM (BH (aM (jW (ba (hs ao s2 O H2 x y v ov iv u _ I2 r1 r2 r q2) λ_ s3 ⟨H3,I3,q3⟩=>?_))));exact wpAny_release ⟨O,H3,I3,q3⟩
def vU(te:TE)(g:TG):TS:=λD O H=>te O H λx H1=>g x O H1 D.nx
theorem eL{tg e:Expr}{te:TE}{g:TG}(he:PE X e te)(hg:PG X tg g)(hs:autoParam (swapsWithSole [tg] e pos.line X.env=pure false) r8_._auto_1)(hw:autoParam (swappedStores [tg] e X.env=pure none) r8_._auto_1) (h1:autoParam ((assignEach [tg] X.env).map (·.2)=[assign tg X.env]) r8_._auto_1):PS X (.Assign [tg] e pos) (vU te g):=by intro ao s O H D I h;refine wpAny_Assign_stores (ba (he ao s O H _ I h) λv s1 ⟨x,H1,I1,r1,q1⟩=>?_) hs hw;rw[h1];exact ba (hg ao s1 O H1 x v _ I1 r1 q1) λ_ s2 q=>q
theorem Ob{i:Nat}{x:Str}{e:Expr}{te:TE}{pos':Pos}(hN:X.N.Nodup)(hi:X.N[i]? =some x)(hx:Loc X.env.scope x)(he:PE X e te)(hs:autoParam (swapsWith e (some (.Name x pos')) pos.line X.env=pure false) r8_._auto_1)(hf:autoParam (X.fn x=true\/X.env.scope.names.lookup x=some .local) d8_._auto_1): PS X (.Assign [.Name x pos'] e pos) (vU te (gw i)):=by intro ao s O H D I h;refine wpAny_Assign_Name (ba (he ao s O H _ I h) λv s1 ⟨y,H1,I1,r1,q1⟩=>?_) hs;exact tK I1 hN hi hx r1 (λs2 I2=>⟨_,H1,I2,q1⟩) hf
inductive a90(i:Nat)(j:Nat)(D:Ends)(O:St)(vs:List V)(H1:Hp):Prop |mk (v:_)(w:_)(h0:vs=[v,w])(h1:D.nx ((O.set i (some v)).set j (some w)) H1)
def Vs(i j:Nat)(ta:TA):TS:=λD O H=>ta O H λvs H1=>a90 i j D O vs H1
theorem FG{i j:Nat}{x y:Str}{a b:Expr}{ta:TA}{px py pt:Pos} {kt k2 FE}(hc:X.calm=true)(hN:X.N.Nodup)(hi:X.N[i]? =some x)(hj:X.N[j]? =some y)(hij:i≠j) (hx:X.env.scope.names.lookup x=some .local)(hy:X.env.scope.names.lookup y=some .local)(ha:PA X [a,b] ta) (hw:swappedStores [.Tuple [.Name x px,.Name y py] kt pt] (.Tuple [a,b] k2 FE) X.env=pure (some [x,y])) (hs:autoParam (swapsWithSole [.Tuple [.Name x px,.Name y py] kt pt] (.Tuple [a,b] k2 FE) pos.line X.env=pure false) r8_._auto_1): PS X (.Assign [.Tuple [.Name x px,.Name y py] kt pt] (.Tuple [a,b] k2 FE) pos) (Vs i j ta):=by
 intro ao s O H D I h;rw[exec_Assign_arm];refine aM (BH ?_);rw[hs];refine aM (bV ?_);rw[bh az];refine aM (Tuple_ (ba (ha _ ao s O H _ I h) λus s1 ⟨vs,H1,I1,r1,q1⟩=>?_));obtain⟨v,w,e1,q1⟩:=q1;subst e1;obtain⟨u1,u2,rfl,rv,wq⟩:∃u1 u2,us=[u1,u2]/\RelV v u1/\RelV w u2:=by cases r1 with |cons p q=>cases q with |cons p' q'=>cases q';exact⟨_,_,Z,p,p'⟩
 refine oN ?_ (by show 2<=sizeLine;decide);have I2:Inv X ao O H1 {s1 with heap:=s1.heap.push {cls:=.type "tuple",data:=.seq [u1,u2].toArray}}:=I1.kept (t':=s1.toks) λb o e=>cC _ e;rw[hw];refine aM (bV ?_);show wpAny (model X.prog X.w) X.A (do rule "assign.swapped-stores";let items<-unpackItems (.ref s1.heap.objs.size) 2 none;assignInOrder [λv=>bindName X.env y v,λv=>bindName X.env x v] items.reverse;pure Flow.next) _ _ _;refine aM (wpAny_rule (aM (unpackItems_tuple (items:=#[u1,u2]) (I.ok.hd hc) (IsTup.new s1.heap _) λh' hx'=>?_)));have I3:=I2.kept (h':=h') (t':=s1.toks) λb o e=>hx' b o (eP (cm e)) e;show wpAny _ _ (assignInOrder [λv=>bindName X.env y v,λv=>bindName X.env x v] [u2,u1]>>=λ_=>pure Flow.next) _ _ _;refine aM (BQ (wpAny_bindName (tK I3 hN hj (.inl hy) wq (λs2 I4=>?_) (.inr hy))));refine BQ (wpAny_bindName (tK I4 hN hi (.inl hx) rv (λs3 I5=>assignInOrder_nil (bV ?_)) (.inr hx)));rw[List.set_comm _ _ (iK hij)]at I5;exact⟨_,H1,I5,q1⟩
inductive aaP(f:Int->Int->Int)(x:V)(y:V)(H:Hp)(Q:VK):Prop |mk (i:_)(j:_)(h0:x= .int i)(h1:y= .int j)(h2:Q (.int (f i j)) H)
def ipI(f:Int->Int->Int):Td:=λx y H Q=>aaP f x y H Q
theorem a2z:PIp X .Add (ipI λi j=>i+j):=by intro ao s O H x y v u Q I r1 r2 h;obtain⟨i,j,e1,e2,q⟩:=h;subst e1;subst e2;obtain⟨t,rfl⟩:=r1;obtain⟨t',rfl⟩:=r2;exact iadd_int ⟨.int _,H,I.tok _,⟨_,Z⟩,q⟩
def Kl(c:TT)(tb:TS):TS:=λD O H=>∃W:Nat->St->Hp->Prop,(∃m,W m O H)/\∀m O H,W m O H->c O H λb H1=>if b=true then∃N:St->Hp->Prop,(∀σ' H',N σ' H'->∃m',m'<m/\W m' σ' H')/\tb {D with nx:=N,ct:=N,bk:=D.nx} O H1 else D.nx O H1
theorem u9{c:Expr}{body:List Stmt}{tc:TT}{tb:TS}(hp:PassesOwn (model X.prog X.w) X.A X.env X.xe)(hc:PT X c tc)(hb:fz X body tb):PS X (.While c body [] pos) (Kl tc tb):=by intro ao s O H D I h;obtain⟨W,⟨m0,w0⟩,turn⟩:=h;refine wpAny_While (codeAny_whileLoop (λn s'=>∃σ' H',Inv X ao σ' H' s'/\W n σ' H') ?_ m0 ⟨O,H,I,w0⟩);rintro n s1 ⟨σ1,H1,I1,w1⟩;refine vp hp (ba (hc ao s1 σ1 H1 _ I1 (turn n σ1 H1 w1)) λb s2 ⟨H2,I2,q2⟩=>?_);cases b with
 |true=>obtain⟨N,hN,q2⟩:=q2;rw[bf rfl];refine vp hp (ba (hb ao s2 σ1 H2 _ I2 q2) λf s3 q3=>?_);cases f with |next=>obtain⟨σ3,H3,I3,n3⟩:=q3;obtain⟨m',hm,w3⟩:=hN σ3 H3 n3;exact⟨m',hm,σ3,H3,I3,w3⟩ |cont=>obtain⟨σ3,H3,I3,n3⟩:=q3;obtain⟨m',hm,w3⟩:=hN σ3 H3 n3;exact⟨m',hm,σ3,H3,I3,w3⟩ |brk=>exact q3 |ret v=>exact q3
 |false=>rw[bh dN];exact yx ⟨σ1,H2,I2,q2⟩
end
structure It where
 go:Nat->Hp->Prop
 jB:Nat->Hp->V->Hp->Prop
 stop:Nat->Hp->Prop
def jU(X:Cx)(ao:List (Addr×Obj))(H:Hp)(b:Addr):Prop:=H b=none/\b≠X.env.locals/\b∉X.fs/\(b∈X.ex\/X.s₀.heap.objs.size<=b)/\(∀x c,X.env.cells.lookup x=some c->c≠b)/\∀p∈X.pn++ao,p.1≠b
theorem Inv.pQ{X:Cx}{ao:List (Addr×Obj)}{O:St}{H H':Hp}{s:ae}{b:Addr}(I:Inv X ao O H s)(hb:s.heap.objs.size<=b)(hn:H' b=none):jU X ao H' b:=by
 refine⟨hn,BW (fK I.lt hb),I.a0D hb,.inr (gC I.sz hb),λx c e z=>?_,λp hp z=>?_⟩
 ·obtain⟨v,q⟩:=I.cell x c e
  exact absurd (fK q.lt (by rw[z];exact hb)) (t9 _)
 ·exact absurd (fK (cm (I.pin p hp).1) (by rw[z];exact hb)) (t9 _)
structure Turn(P:af)(w:World)(K:aa)(tg:Expr)(J:It)(fp:List Addr)(it:Addr)(tn:Nat->Heap->Prop):Prop where
 mem:it∈fp
 obj:∀i h,tn i h->∀b∈fp,∃o,h.get? b=some o/\∀v,o.data≠ .cell v
 keep:∀i h h',tn i h->(∀b∈fp,∀o,h.get? b=some o->h'.get? b=some o)->tn i h'
 item:∀(X:Cx),X.prog=P->X.w=w->X.K=K->X.calm=true->∀(i:Nat)(ao:List (Addr×Obj))(s:ae)(O:St)(H:Hp)(E:Value->ae->Prop),Inv X ao O H s->(∀b∈fp,jU X ao H b)->tn i s.heap->J.go i H->wpAny (model P w) X.A (pyNext (.ref it)) (λr s1=>∃u,r=some u/\wpAny (model P w) X.A (letOwnedTupleGo tg (.ref it) u) (λ_ s2=>∃x H',Inv X ao O H' s2/\RelV x u/\J.jB i H x H'/\tn (i+1) s2.heap/\∀b∈fp,H' b=none) E s1) E s
 done:∀(X:Cx),X.prog=P->X.w=w->X.K=K->X.calm=true->∀(i:Nat)(ao:List (Addr×Obj))(s:ae)(O:St)(H:Hp)(E:Value->ae->Prop),Inv X ao O H s->(∀b∈fp,jU X ao H b)->tn i s.heap->J.stop i H->wpAny (model P w) X.A (pyNext (.ref it)) (λr s1=>r=none/\Inv X ao O H s1) E s
 self:∀(A:ai)(i:Nat)(s:ae)(Q:Value->ae->Prop)(E:Value->ae->Prop),tn i s.heap->Q (.ref it) s->wpAny (model P w) A (pyIter (.ref it)) Q E s
abbrev TI:=St->Hp->(It->Hp->Prop)->Prop
def Ju(X:Cx)(ao:List (Addr×Obj))(O:St)(tg:Expr)(R:It->Hp->Prop)(Az:Value)(s2:ae):Prop:=∃(it:Addr)(fp:List Addr)(tn:Nat->Heap->Prop)(J:It)(H':Hp),Az= .ref it/\Inv X ao O H' s2/\Turn X.prog X.w X.K tg J fp it tn/\tn 0 s2.heap/\(∀b∈fp,jU X ao H' b)/\R J H'
def PI(X:Cx)(tg iter:Expr)(wi:TI):Prop:=∀(ao:List (Addr×Obj))(s:ae)(O:St)(H:Hp)(R:It->Hp->Prop),Inv X ao O H s->wi O H R->wpAny (model X.prog X.w) X.A (eval iter X.env) (λv s1=>wpAny (model X.prog X.w) X.A (pyIter v) (Ju X ao O tg R) X.xe s1) X.xe s
theorem xQ{M:Model}{A:ai}{E:Value->ae->Prop}{s:ae}{tg:Expr}{it:Addr}{u:Value}{o:Obj}{n:String}{vs:Array Value}{Q:Unit->ae->Prop}(ho:s.heap.get? it=some o)(hc:o.cls= .type n)(hd:o.data= .fields vs) (hn:["enumerate","zip","dict_itemiterator","dict_reverseitemiterator","odict_iterator","itertools.zip_longest","itertools.pairwise"].contains n=false)(hQ:Q () s):wpAny M A (letOwnedTupleGo tg (.ref it) u) Q E s:=by unfold letOwnedTupleGo;cases tg<;>first |exact bV hQ |(cases u<;>first
        |exact bV hQ
        | (refine aM (wpAny_load ho ?_)
           rw[hc,hd];show wpAny M A (if(["enumerate","zip","dict_itemiterator","dict_reverseitemiterator","odict_iterator","itertools.zip_longest","itertools.pairwise"].contains n&&vs[0]? ==some (rawInt _))=true then _ else _) Q E s;rw[bh (by intro h;rw[hn,ip]at h;cases h)];exact bV hQ))
def vm(K:aa)(a:Addr):It:=⟨λi H=>∃xs x,aJ K H a xs/\xs[i]? =some x,λi H x H'=>H'=H/\∀xs,aJ K H a xs->xs[i]? =some x,λi H=>∃xs,aJ K H a xs/\xs.length<=i⟩
def yn(K:aa)(a:Addr):It:=⟨λi H=>∃xs x,aZ K H a xs/\xs[i]? =some x,λi H x H'=>H'=H/\∀xs,aZ K H a xs->xs[i]? =some x,λi H=>∃xs,aZ K H a xs/\xs.length<=i⟩
def mO(lo:Int)(n:Nat):It:=⟨λi _=>i<n,λi H x H'=>H'=H/\x= .int (lo+i),λi _=>n<=i⟩
theorem V8{P:af}{w:World}{K:aa}{tg:Expr}(a it:Addr):Turn P w K tg (vm K a) [it] it (λi h=>h.IsListIter it a i) where
 mem:=by simp
 obj:=λi h st b hb=>by
  have e:b=it:=by simpa using hb
  subst e;obtain⟨o,e,c,d⟩:=st;exact⟨o,e,λv z=>by rw[d]at z;cases z⟩
 keep:=λi h h' st k=>st.at λo e=>k it (by simp) o e
 item:=by intro X hP hw hK hc i ao s O H E I hf st hg;subst hP hw hK;obtain⟨xs,x,hq,hx⟩:=hg;obtain⟨its,rv,p,hz⟩:=I.list hq;obtain⟨u,hu,ru⟩:=rv.get hx;obtain⟨f0,f1,f2,f3,f4,f5⟩:=hf it (by simp);refine wpAny_pyNext_list_item st p.isList (x:=u) (by simpa using hu) λh' gp sb=>?_;have I1:Inv X ao O H {s with heap:=h'}:=I.turned (t':=s.toks) (λb o hb e=>(sb.2 b hb).trans e) f0 f1 f3 f4 f5;obtain⟨o,e,c,d⟩:=id gp;exact⟨u,Z,xQ (s:={s with heap:=h'}) e c d az ⟨x,H,I1,ru,⟨Z,λys hy=>by rw[I.PB hy hq];exact hx⟩,gp,λb hb=>(hf b hb).1⟩⟩
 done:=by intro X hP hw hK hc i ao s O H E I hf st hg;subst hP hw hK;obtain⟨xs,hq,hx⟩:=hg;obtain⟨its,rv,p,hz⟩:=I.list hq;obtain⟨f0,f1,f2,f3,f4,f5⟩:=hf it (by simp);have hl:=rv.length;exact wpAny_pyNext_list_end (I.ok.hd hc) st p.isList (by simp;lia) λh' eb=>⟨Z,I.turned (t':=s.toks) (λb o hb e=>eb b o hb e) f0 f1 f3 f4 f5⟩
 self:=λ_ _ _ _ _ st h=>wpAny_pyIter_listiter st h
theorem V4{P:af}{w:World}{K:aa}{tg:Expr}(a it:Addr):Turn P w K tg (yn K a) [it] it (λi h=>h.IsTupleIter it a i) where
 mem:=by simp
 obj:=λi h st b hb=>by
  have e:b=it:=by simpa using hb
  subst e;obtain⟨o,e,c,d⟩:=st;exact⟨o,e,λv z=>by rw[d]at z;cases z⟩
 keep:=λi h h' st k=>st.at λo e=>k it (by simp) o e
 item:=by intro X hP hw hK hc i ao s O H E I hf st hg;subst hP hw hK;obtain⟨xs,x,hq,hx⟩:=hg;obtain⟨its,rv,p,hz⟩:=I.tuple hq;obtain⟨u,hu,ru⟩:=rv.get hx;obtain⟨f0,f1,f2,f3,f4,f5⟩:=hf it (by simp);refine wpAny_pyNext_tuple_item st (show s.heap.IsTuple a its.toArray from p) (x:=u) (by simpa using hu) λh' gp sb=>?_;have I1:Inv X ao O H {s with heap:=h'}:=I.turned (t':=s.toks) (λb o hb e=>(sb.2 b hb).trans e) f0 f1 f3 f4 f5;obtain⟨o,e,c,d⟩:=id gp;exact⟨u,Z,xQ (s:={s with heap:=h'}) e c d az ⟨x,H,I1,ru,⟨Z,λys hy=>by rw[I.Ki hy hq];exact hx⟩,gp,λb hb=>(hf b hb).1⟩⟩
 done:=by intro X hP hw hK hc i ao s O H E I hf st hg;subst hP hw hK;obtain⟨xs,hq,hx⟩:=hg;obtain⟨its,rv,p,hz⟩:=I.tuple hq;obtain⟨f0,f1,f2,f3,f4,f5⟩:=hf it (by simp);have hl:=rv.length;exact wpAny_pyNext_tuple_end (I.ok.hd hc) st (show s.heap.IsTuple a its.toArray from p) (by simp;lia) λh' eb=>⟨Z,I.turned (t':=s.toks) (λb o hb e=>eb b o hb e) f0 f1 f3 f4 f5⟩
 self:=λ_ _ _ _ _ st h=>wpAny_pyIter_tupleiter st h
theorem V7{P:af}{w:World}{K:aa}{tg:Expr}(it:Addr)(lo:Int)(n:Nat):Turn P w K tg (mO lo n) [it] it (λi h=>IsRangeIter h it (lo+(i:Nat)*1) ((n:Int)-(i:Nat)) 1) where
 mem:=by simp
 obj:=λi h st b hb=>by
  have e:b=it:=by simpa using hb
  subst e;exact⟨_,st,λv z=>by have z':Data.fields _=Data.cell v:=z;cases z'⟩
 keep:=λi h h' st k=>k it (by simp) _ st
 item:=by intro X hP hw hK hc i ao s O H E I hf st hg;subst hP hw hK;obtain⟨f0,f1,f2,f3,f4,f5⟩:=hf it (by simp);have W:=Walks.range (prog:=X.prog) (w:=X.w) (I.ok.hd hc) it lo 1 n;refine W.item i s _ _ hg st λv h' tk hv gp kk=>?_;obtain⟨t,rfl⟩:=hv;have I1:Inv X ao O H {s with heap:=h',toks:=tk}:=I.turned (λb o hb e=>kk b o (by simpa using hb) e) f0 f1 f3 f4 f5;refine⟨_,Z,xQ (s:={s with heap:=h',toks:=tk}) (n:="range_iterator") gp rfl rfl az ⟨.int (lo+i),H,I1,⟨t,?_⟩,⟨Z,Z⟩,gp,λb hb=>(hf b hb).1⟩⟩;rw[Int.mul_one]
 done:=by intro X hP hw hK hc i ao s O H E I hf st hg;subst hP hw hK;obtain⟨f0,f1,f2,f3,f4,f5⟩:=hf it (by simp);exact wpAny_pyNext_range_end (I.ok.hd hc) st (by have:n<=i:=hg;lia) λh' eb=>⟨Z,I.turned (t':=s.toks) (λb o hb e=>eb b o hb e) f0 f1 f3 f4 f5⟩
 self:=λ_ _ _ _ _ st h=>TM st h
section
variable {X:Cx} {tg:Expr}
inductive aaW(K:aa)(R:It->Hp->Prop)(x:V)(H1:Hp):Prop |mk (a:_)(h0:x= .ref a)(h1:(∃xs,aJ K H1 a xs))(h2:R (vm K a) H1)
def Qf(K:aa)(tl:TE):TI:=λO H R=>tl O H λx H1=>aaW K R x H1
inductive aaR(K:aa)(R:It->Hp->Prop)(x:V)(H1:Hp):Prop |mk (a:_)(h0:x= .ref a)(h1:(∃xs,aZ K H1 a xs))(h2:R (yn K a) H1)
def Qe(K:aa)(tl:TE):TI:=λO H R=>tl O H λx H1=>aaR K R x H1
theorem XQ{l:Expr}{tl:TE}(hl:PE X l tl):PI X tg l (Qf X.K tl):=by
 intro ao s O H R I h;refine ba (hl ao s O H _ I h) λv s1 ⟨x,H1,I1,r1,q1⟩=>?_;obtain⟨a,e,⟨xs,hq⟩,q⟩:=q1;subst e;cases r1;obtain⟨its,rv,p,hz⟩:=I1.list hq;refine yu p.isList ?_;refine⟨s1.heap.objs.size,[s1.heap.objs.size],_,_,H1,Z,I1.kept (t':=s1.toks) λb o e=>cC _ e,V8 a _,⟨_,dX _ Z,Z,Z⟩,λb hb=>?_,q⟩;have e:b=s1.heap.objs.size:=by simpa using hb
 subst e;exact I1.pQ (bO _) (I1.bB.fresh (bO _))
theorem XN{l:Expr}{tl:TE}(hl:PE X l tl):PI X tg l (Qe X.K tl):=by
 intro ao s O H R I h;refine ba (hl ao s O H _ I h) λv s1 ⟨x,H1,I1,r1,q1⟩=>?_;obtain⟨a,e,⟨xs,hq⟩,q⟩:=q1;subst e;cases r1;obtain⟨its,rv,p,hz⟩:=I1.tuple hq;refine wpAny_pyIter_tuple (show s1.heap.IsTuple a its.toArray from p) ?_;refine⟨s1.heap.objs.size,[s1.heap.objs.size],_,_,H1,Z,I1.kept (t':=s1.toks) λb o e=>cC _ e,V4 a _,⟨_,dX _ Z,Z,Z⟩,λb hb=>?_,q⟩;have e:b=s1.heap.objs.size:=by simpa using hb
 subst e;exact I1.pQ (bO _) (I1.bB.fresh (bO _))
theorem O2{ao:List (Addr×Obj)}{O:St}{H:Hp}{s:ae}{R:It->Hp->Prop}{E:Value->ae->Prop}{lo hi:Int}{t u v:Tok}{tk:Nat}(I:Inv X ao O H s)(h1:-(2^62)<=lo)(h2:lo<2^62)(h3:-(2^62)<=hi)(h4:hi<2^62) (q:R (mO lo (hi-lo).toNat) H):wpAny (model X.prog X.w) X.A (pyIter (.ref s.heap.objs.size)) (Ju X ao O tg R) E {s with heap:=s.heap.push {cls:=.type "range",data:=.fields #[.int lo t,.int hi u,.int 1 v]},toks:=tk}:=by
 refine wpAny_pyIter_range (IsRange.new ..) (small_one h1 h2 h3 h4) ?_;have I1:Inv X ao O H {s with heap:=s.heap.push {cls:=.type "range",data:=.fields #[.int lo t,.int hi u,.int 1 v]},toks:=tk}:=I.kept λb o e=>cC _ e;refine⟨(s.heap.push {cls:=.type "range",data:=.fields #[.int lo t,.int hi u,.int 1 v]}).objs.size,[(s.heap.push {cls:=.type "range",data:=.fields #[.int lo t,.int hi u,.int 1 v]}).objs.size],_,_,H,Z,I1.kept (t':=tk) λb o e=>cC _ e,V7 _ lo (hi-lo).toNat,?_,λb hb=>?_,q⟩
 ·have e1:lo+((0:Nat):Int)*1=lo:=by simp
  have e2:(((hi-lo).toNat:Nat):Int)-((0:Nat):Int)=Builtin.Range.rangeSize lo hi 1:=by rw[rangeSize_one];split<;>lia
  show IsRangeIter _ _ (lo+((0:Nat):Int)*1) ((((hi-lo).toNat:Nat):Int)-((0:Nat):Int)) 1;rw[e1,e2];exact dX _ rfl
 ·have e:b=(s.heap.push {cls:=.type "range",data:=.fields #[.int lo t,.int hi u,.int 1 v]}).objs.size:=by simpa using hb
  subst e;exact I1.pQ (bO _) (I1.bB.fresh (bO _))
inductive aaU(R:It->Hp->Prop)(vs:List V)(H1:Hp):Prop |mk (j:Int)(h0:vs=[.int j])(h1:-(2^62)<=j)(h2:j<2^62)(h3:R (mO 0 j.toNat) H1)
def a2N(ta:TA):TI:=λO H R=>ta O H λvs H1=>aaU R vs H1
inductive aaT(R:It->Hp->Prop)(vs:List V)(H1:Hp):Prop |mk (i:Int)(j:Int)(h0:vs=[.int i,.int j])(h1:(-(2^62)<=i/\i<2^62/\-(2^62)<=j/\j<2^62))(h2:R (mO i (j-i).toNat) H1)
def a2M(ta:TA):TI:=λO H R=>ta O H λvs H1=>aaT R vs H1
theorem p4{a:Expr}{ta:TA}{p pos:Pos}(hg:Gl X "range")(hm:X.mg "range"=none)(ha:PA X [a] ta)(hs:autoParam (starEach [a] X.env=[(false,eval a X.env)]) r8_._auto_1):PI X tg (.Call (.Name "range" p) [a] [] pos) (a2N ta):=by intro ao s O H R I h;refine Call_ (pF I hg hm boot_range (yB (ba (ha pos ao s O H _ I h) λus s1 ⟨vs,H1,I1,r1,q1⟩=>?_) hs Z));obtain⟨j,e,q1,q2,q⟩:=q1;subst e;cases r1 with |cons r rr=>cases rr;obtain⟨t,rfl⟩:=r;exact call_range_1 (O2 I1 aw aw q1 q2 (by simpa using q))
theorem XO{a b:Expr}{ta:TA}{p pos:Pos}(hg:Gl X "range")(hm:X.mg "range"=none)(ha:PA X [a,b] ta)(hs:autoParam (starEach [a,b] X.env=[(false,eval a X.env),(false,eval b X.env)]) r8_._auto_1)(jn:autoParam (starEach [b] X.env=[(false,eval b X.env)]) r8_._auto_1): PI X tg (.Call (.Name "range" p) [a,b] [] pos) (a2M ta):=by intro ao s O H R I h;refine Call_ (pF I hg hm boot_range (yB (ba (ha pos ao s O H _ I h) λus s1 ⟨vs,H1,I1,r1,q1⟩=>?_) (by rw[hs,jn]) (by rw[jn];rfl)));obtain⟨i,j,e,⟨q1,q2,q3,q4⟩,q⟩:=q1;subst e;cases r1 with |cons r rr=>cases rr with |cons r' rr=>cases rr;obtain⟨t,rfl⟩:=r;obtain⟨t',rfl⟩:=r';exact call_range_2 (O2 I1 q1 q2 q3 q4 q)
def VE(wi:TI)(g:TG)(tb:TS):TS:=λD O H=>wi O H λJ H1=>∃W:Nat->Nat->St->Hp->Prop,(∃m,W 0 m O H1)/\∀i m O H,W i m O H->(J.stop i H/\D.nx O H)\/(J.go i H/\∃N:St->Hp->Prop,(∀σ' H',N σ' H'->∃m',m'<m/\W (i+1) m' σ' H')/\∀x H',J.jB i H x H'->g x O H' λσ2 H2=>tb {D with nx:=N,ct:=N,bk:=D.nx} σ2 H2)
def uc(fp:List Addr)(h:Heap):List (Addr×Obj):=fp.filterMap λb=>(h.get? b).map λo=>(b,o)
theorem uA{fp:List Addr}{h:Heap}{b:Addr}{o:Obj}(hb:b∈fp)(e:h.get? b=some o):(b,o)∈uc fp h:=mT.mpr ⟨b,hb,by rw[e];rfl⟩
theorem a0m{fp:List Addr}{h:Heap}{p:Addr×Obj}(hp:p∈uc fp h):p.1∈fp/\h.get? p.1=some p.2:=by obtain⟨b,hb,e⟩:=mT.mp hp;cases q:h.get? b with |none=>rw[q]at e;cases e |some o=>rw[q]at e;have e':(b,o)=p:=dG e;subst e';exact⟨hb,q⟩
theorem Inv.pinned{ao:List (Addr×Obj)}{O:St}{H:Hp}{s:ae}{fp:List Addr}(I:Inv X ao O H s)(hf:∀b∈fp,jU X ao H b)(ho:∀b∈fp,∃o,s.heap.get? b=some o/\∀v,o.data≠ .cell v):Inv X (ao++uc fp s.heap) O H s:=I.Od λp hp=>(mU.mp hp).elim (λz=>I.pin p (jz _ z)) λz=>by obtain⟨hb,e⟩:=a0m z;obtain⟨f0,f1,f2,_⟩:=hf p.1 hb;obtain⟨o,e',d⟩:=ho p.1 hb;rw[e]at e';cases e';exact⟨e,f0,f1,f2,d⟩
theorem Inv.vM{ao pl:List (Addr×Obj)}{O:St}{H:Hp}{s:ae}(I:Inv X (ao++pl) O H s):Inv X ao O H s:=I.Od λp hp=>I.pin p (jz _ (JX _ hp))
theorem kf{iter:Expr}{body:List Stmt}{wi:TI}{g:TG}{tb:TS}{pos:Pos}(hp:PassesOwn (model X.prog X.w) X.A X.env X.xe)(hc:X.calm=true)(hi:PI X tg iter wi)(hg:PG X tg g)(hb:fz X body tb) (hs:autoParam (∀x,foldedSetIterable iter X.env x=pure x) f8_._auto_1):PS X (.For tg iter body [] pos) (VE wi g tb):=by
 intro ao s O H D I h;refine wpAny_For (ba (hi ao s O H _ I h) λv s1 h1=>ba h1 λAz s2 h2=>?_) hs;obtain⟨it,fp,tn,J,H2,e,I2,T,oU,f2,W,⟨m0,w0⟩,turn⟩:=h2;subst e;have kE:∀{H':Hp},(∀b∈fp,H' b=none)->∀b∈fp,jU X ao H' b:=λhn b hb=>⟨hn b hb,(f2 b hb).2⟩;refine codeAny_forLoop_any (λn s'=>∃i σ' H',Inv X ao σ' H' s'/\tn i s'.heap/\(∀b∈fp,H' b=none)/\W i n σ' H') ?_ m0 ⟨0,O,H2,I2,oU,λb hb=>(f2 b hb).1,w0⟩;rintro n s3 ⟨i,σ3,H3,I3,KN,Rb,w3⟩;rcases turn i n σ3 H3 w3 with⟨stop,qn⟩|⟨go,N,hN,step⟩
 ·refine vp hp (ba (T.done X Z Z Z hc i ao s3 σ3 H3 X.xe I3 (kE Rb) KN stop) λr s4 ⟨hr,I4⟩=>?_)
  subst hr;exact yx ⟨σ3,H3,I4,qn⟩
 ·refine vp hp (ba (T.item X Z Z Z hc i ao s3 σ3 H3 X.xe I3 (kE Rb) KN go) λr s4 ⟨u,hr,h4⟩=>?_)
  subst hr;refine vp hp (ba h4 λ_ s5 ⟨x,H5,I5,r5,y5,ng,sf⟩=>?_);have I5':=I5.pinned (kE sf) (T.obj _ _ ng);refine vp hp (ba (hg _ s5 σ3 H5 x u _ I5' r5 (step x H5 y5)) λ_ s6 ⟨σ6,H6,I6,q6⟩=>?_);refine vp hp (ba (hb _ s6 σ6 H6 _ I6 q6) λf s7 q7=>?_);have again:∀{σ7:St}{H7:Hp},Inv X (ao++uc fp s5.heap) σ7 H7 s7->N σ7 H7->∃m,m<n/\∃i σ' H',Inv X ao σ' H' s7/\tn i s7.heap/\(∀b∈fp,H' b=none)/\W i m σ' H':=λ{σ7 H7} I7 n7=>by obtain⟨m',hm,w7⟩:=hN σ7 H7 n7;refine⟨m',hm,i+1,σ7,H7,I7.vM,T.keep _ _ _ ng λb hb o e=>(I7.pin (b,o) (jz _ (jz _ (uA hb e)))).1,λb hb=>?_,w7⟩;obtain⟨o,e,d⟩:=T.obj _ _ ng b hb;exact(I7.pin (b,o) (jz _ (jz _ (uA hb e)))).2.1
  cases f with |next=>obtain⟨σ7,H7,I7,n7⟩:=q7;exact again I7 n7 |cont=>obtain⟨σ7,H7,I7,n7⟩:=q7;exact again I7 n7 |brk=>obtain⟨σ7,H7,I7,q7⟩:=q7;exact⟨σ7,H7,I7.vM,q7⟩ |ret v=>obtain⟨x7,σ7,H7,I7,r7,q7⟩:=q7;exact⟨x7,σ7,H7,I7.vM,r7,q7⟩
end
theorem Im{K:aa}{a:Addr}{xs:List V}{g:TG}{tb:TS}{D:Ends}{O:St}{H:Hp}(Pv:Nat->St->Hp->Prop)(h0:Pv 0 O H)(hl:∀i O H,i<=xs.length->Pv i O H->aJ K H a xs) (hs:∀i x O H,xs[i]? =some x->Pv i O H->g x O H λσ2 H2=>tb {D with nx:=Pv (i+1),ct:=Pv (i+1),bk:=D.nx} σ2 H2)(hd:∀O H,Pv xs.length O H->D.nx O H): ∃W:Nat->Nat->St->Hp->Prop,(∃m,W 0 m O H)/\∀i m O H,W i m O H->((vm K a).stop i H/\D.nx O H)\/((vm K a).go i H/\∃N:St->Hp->Prop,(∀σ' H',N σ' H'->∃m',m'<m/\W (i+1) m' σ' H')/\∀x H',(vm K a).jB i H x H'->g x O H' λσ2 H2=>tb {D with nx:=N,ct:=N,bk:=D.nx} σ2 H2):=by
 refine⟨λi m O H=>m=xs.length-i/\i<=xs.length/\Pv i O H,⟨xs.length,by simp,fU _,h0⟩,?_⟩;rintro i m O H ⟨rfl,hi,p⟩;have q:=hl i O H hi p;by_cases cH:i<xs.length
 ·refine .inr ⟨⟨xs,xs[i],q,by simp[cH]⟩,Pv (i+1),λσ' H' p'=>⟨xs.length-(i+1),aw,Z,cH,p'⟩,λx H' y=>?_⟩
  obtain⟨e,y⟩:=y;subst e;exact hs i x O _ (y xs q) p
 ·have e:i=xs.length:=by lia
  subst e;exact .inl ⟨⟨xs,q,bO _⟩,hd O H p⟩
theorem Bc{lo:Int}{n:Nat}{g:TG}{tb:TS}{D:Ends}{O:St}{H:Hp}(Pv:Nat->St->Hp->Prop)(h0:Pv 0 O H) (hs:∀i O H,i<n->Pv i O H->g (.int (lo+i)) O H λσ2 H2=>tb {D with nx:=Pv (i+1),ct:=Pv (i+1),bk:=D.nx} σ2 H2)(hd:∀O H,Pv n O H->D.nx O H): ∃W:Nat->Nat->St->Hp->Prop,(∃m,W 0 m O H)/\∀i m O H,W i m O H->((mO lo n).stop i H/\D.nx O H)\/((mO lo n).go i H/\∃N:St->Hp->Prop,(∀σ' H',N σ' H'->∃m',m'<m/\W (i+1) m' σ' H')/\∀x H',(mO lo n).jB i H x H'->g x O H' λσ2 H2=>tb {D with nx:=N,ct:=N,bk:=D.nx} σ2 H2):=by
 refine⟨λi m O H=>m=n-i/\i<=n/\Pv i O H,⟨n,by simp,fU _,h0⟩,?_⟩;rintro i m O H ⟨rfl,hi,p⟩;by_cases cH:i<n
 ·refine .inr ⟨cH,Pv (i+1),λσ' H' p'=>⟨n-(i+1),aw,Z,cH,p'⟩,λx H' y=>?_⟩
  obtain⟨e,y⟩:=y;subst e y;exact hs i O _ cH p
 ·have e:i=n:=by lia
  subst e;exact .inl ⟨bO _,hd O H p⟩
theorem tD{c:TT}{tb:TS}{D:Ends}{O:St}{H:Hp}(Pv:St->Hp->Prop)(μ:St->Hp->Nat)(h0:Pv O H) (hs:∀O H,Pv O H->c O H λb H1=>if b=true then tb {D with nx:=λσ' H'=>Pv σ' H'/\μ σ' H'<μ O H,ct:=λσ' H'=>Pv σ' H'/\μ σ' H'<μ O H,bk:=D.nx} O H1 else D.nx O H1) (mono:∀O H Q Q',(∀b H1,Q b H1->Q' b H1)->c O H Q->c O H Q'):Kl c tb D O H:=by refine⟨λm O H=>m=μ O H/\Pv O H,⟨_,Z,h0⟩,?_⟩;rintro m O H ⟨rfl,p⟩;refine mono O H _ _ (λb H1 q=>?_) (hs O H p);cases b with |true=>exact⟨_,λσ' H' ⟨p',l⟩=>⟨_,l,Z,p'⟩,q⟩ |false=>exact q
abbrev R2:=V->V->Hp->VK->Prop
def cO(X:Cx)(f:Value->Value->Sem Value)(r:R2):Prop:=∀(ao:List (Addr×Obj))(s:ae)(O:St)(H:Hp)(x y:V)(v u:Value)(Q:VK),Inv X ao O H s->RelV x v->RelV y u->r x y H Q->wpAny (model X.prog X.w) X.A (f v u) (EP X ao O Q) X.xe s
def Jo(X:Cx)(f:Value->Sem Value)(r:V->Hp->VK->Prop):Prop:=∀(ao:List (Addr×Obj))(s:ae)(O:St)(H:Hp)(x:V)(v:Value)(Q:VK),Inv X ao O H s->RelV x v->r x H Q->wpAny (model X.prog X.w) X.A (f v) (EP X ao O Q) X.xe s
def eF(X:Cx)(f:Value)(r:List V->Hp->VK->Prop):Prop:=∀(ao:List (Addr×Obj))(s:ae)(O:St)(H:Hp)(xs:List V)(us:List Value)(Q:VK),Inv X ao O H s->Vals xs us->r xs H Q->wpAny (model X.prog X.w) X.A (call f us) (EP X ao O Q) X.xe s
def a8O(X:Cx)(r:V->Hp->(Bool->Hp->Prop)->Prop):Prop:=∀(ao:List (Addr×Obj))(s:ae)(O:St)(H:Hp)(x:V)(v:Value)(Q:Bool->Hp->Prop),Inv X ao O H s->RelV x v->r x H Q->wpAny (model X.prog X.w) X.A (truthy v) (TP X ao O Q) X.xe s
def tJ(r:R2)(ta tb:TE):TE:=λO H Q=>ta O H λx H1=>tb O H1 λy H2=>r x y H2 Q
def Vl(r:V->Hp->VK->Prop)(ta:TE):TE:=λO H Q=>ta O H λx H1=>r x H1 Q
inductive IrI(C:Int->Int->Prop)(g:Int->Int->V)(x:V)(y:V)(H:Hp)(Q:VK):Prop |mk (i:_)(j:_)(h0:x= .int i)(h1:y= .int j)(h2:C i j)(h3:Q (g i j) H)
def rI(C:Int->Int->Prop)(g:Int->Int->V):R2:=λx y H Q=>IrI C g x y H Q
inductive aaH(g:Int->Int->V)(x:V)(y:V)(H:Hp)(Q:VK):Prop |mk (i:_)(j:_)(h0:x= .int i)(h1:y= .int j)(h2:Q (g i j) H)
def jj(g:Int->Int->V):R2:=λx y H Q=>aaH g x y H Q
inductive IrU(g:Int->V)(x:V)(H:Hp)(Q:VK):Prop |mk (i:_)(h0:x= .int i)(h1:Q (g i) H)
def rU(g:Int->V):V->Hp->VK->Prop:=λx H Q=>IrU g x H Q
section
variable {X:Cx}{a b c:Expr}{ta tb tc:TE}{pos:Pos}
theorem Jc(ha:PE X a ta)(hb:PE X b tb){ao:List (Addr×Obj)}{s:ae}{O:St}{H:Hp}{R:V->V->Hp->Prop}(I:Inv X ao O H s) (h:ta O H λx H1=>tb O H1 λy H2=>R x y H2){Q:Value->ae->Prop}{f:Value->Value->Sem Value} (hf:∀v u s2 x y H2,Inv X ao O H2 s2->RelV x v->RelV y u->R x y H2->wpAny (model X.prog X.w) X.A (f v u) Q X.xe s2): wpAny (model X.prog X.w) X.A (eval a X.env) (λv s₁=>wpAny (model X.prog X.w) X.A (eval b X.env) (λu s₂=>wpAny (model X.prog X.w) X.A (f v u) Q X.xe s₂) X.xe s₁) X.xe s:=by refine ba (ha ao s O H _ I h) λv s1 ⟨x,H1,I1,r1,q1⟩=>?_;refine ba (hb ao s1 O H1 _ I1 q1) λu s2 ⟨y,H2,I2,r2,q2⟩=>?_;exact hf v u s2 x y H2 I2 r1 r2 q2
theorem aQ{op:Operator}{r:R2}(ho:cO X (binaryOp op) r)(ha:PE X a ta)(hb:PE X b tb):PE X (.BinOp a op b pos) (tJ r ta tb):=by intro ao s O H Q I h;exact wpAny_BinOp (Jc ha hb I h λv u s2 x y H2 I2 rx ry q=>ho ao s2 O H2 x y v u Q I2 rx ry q)
theorem nC{op:UnaryOp}{r:V->Hp->VK->Prop}(ho:Jo X (unaryOp op) r)(ha:PE X a ta):PE X (.UnaryOp op a pos) (Vl r ta):=by intro ao s O H Q I h;exact UnaryOp_ (ba (ha ao s O H _ I h) λv s1 ⟨x,H1,I1,r1,q1⟩=>ho ao s1 O H1 x v Q I1 r1 q1)
theorem wI{f:Value->Value->Sem Value}{C:Int->Int->Prop}{g:Int->Int->Int} (rule:∀(i j:Int)(t u:Tok)(s:ae)(Q:Value->ae->Prop)(E:Value->ae->Prop),C i j->Q (.int (g i j) s.toks) {s with toks:=s.toks+1}->wpAny (model X.prog X.w) X.A (f (.int i t) (.int j u)) Q E s): cO X f (rI C λi j=>.int (g i j)):=by intro ao s O H x y v u Q I rx ry h;obtain⟨i,j,rfl,rfl,hc,q⟩:=h;obtain⟨t,rfl⟩:=rx;obtain⟨t',rfl⟩:=ry;exact rule i j t t' s _ _ hc ⟨.int (g i j),H,I.tok _,⟨_,Z⟩,q⟩
theorem OF{f:Value->Value->Sem Value}{g:Int->Int->Int} (rule:∀(i j:Int)(t u:Tok)(s:ae)(Q:Value->ae->Prop)(E:Value->ae->Prop),Q (.int (g i j) s.toks) {s with toks:=s.toks+1}->wpAny (model X.prog X.w) X.A (f (.int i t) (.int j u)) Q E s): cO X f (jj λi j=>.int (g i j)):=by intro ao s O H x y v u Q I rx ry h;obtain⟨i,j,rfl,rfl,q⟩:=h;obtain⟨t,rfl⟩:=rx;obtain⟨t',rfl⟩:=ry;exact rule i j t t' s _ _ ⟨.int (g i j),H,I.tok _,⟨_,Z⟩,q⟩
theorem ui{f:Value->Value->Sem Value}{g:Int->Int->Bool} (rule:∀(i j:Int)(t u:Tok)(s:ae)(Q:Value->ae->Prop)(E:Value->ae->Prop),Q (.bool (g i j)) s->wpAny (model X.prog X.w) X.A (f (.int i t) (.int j u)) Q E s): cO X f (jj λi j=>.bl (g i j)):=by intro ao s O H x y v u Q I rx ry h;obtain⟨i,j,rfl,rfl,q⟩:=h;obtain⟨t,rfl⟩:=rx;obtain⟨t',rfl⟩:=ry;exact rule i j t t' s _ _ ⟨.bl (g i j),H,I,Z,q⟩
def aba(i j:Int):Prop:=0<=j/\j<=1000000/\i.natAbs<2^64
theorem dP:cO X (binaryOp .Add) (jj λi j=>.int (i+j)):=OF λ_ _ _ _ _ _ _ q=>add_int q
theorem jm:cO X (binaryOp .Sub) (jj λi j=>.int (i-j)):=OF λ_ _ _ _ _ _ _ q=>sub_int q
theorem p7:cO X (binaryOp .Mod) (rI (λ_ j=>0<j) λi j=>.int (i%j)):=wI λi j _ _ _ _ _ hc q=>by have h1:(0:Int)<j:=hc;exact mod_int' aw (by rw[Int.fmod_eq_emod_of_nonneg i aw];exact q)
theorem Ac:cO X (binaryOp .Pow) (rI aba λi j=>.int (i^j.toNat)):=wI λ_ _ _ _ _ _ _ hc q=>pow_int_small hc.1 hc.2.1 hc.2.2 q
theorem UX{f:Value->Sem Value}{g:Int->Int} (rule:∀(i:Int)(t:Tok)(s:ae)(Q:Value->ae->Prop)(E:Value->ae->Prop),Q (.int (g i) s.toks) {s with toks:=s.toks+1}->wpAny (model X.prog X.w) X.A (f (.int i t)) Q E s): Jo X f (rU λi=>.int (g i)):=by intro ao s O H x v Q I rx h;obtain⟨i,rfl,q⟩:=h;obtain⟨t,rfl⟩:=rx;exact rule i t s _ _ ⟨.int (g i),H,I.tok _,⟨_,Z⟩,q⟩
theorem mX:Jo X (unaryOp .USub) (rU λi=>.int (-i)):=UX λ_ _ _ _ _ q=>neg_int q
end
def LL:V->V->Bool | .bw,.bw=>true| .bw,.int _=>true| .int _,.bw=>true| .bw,.bl _=>true| .bl _,.bw=>true| .bw,.str _=>true| .str _,.bw=>true | .int _,.int _=>true| .bl _,.bl _=>true| .str _,.str _=>true| .jt _,.jt _=>true | .int _,.str _=>true| .str _,.int _=>true| .bl _,.str _=>true| .str _,.bl _=>true |_,_=>false
def Xv:R2:=λx y H Q=>LL x y=true/\Q (.bl (decide (x=y))) H
def O5:R2:=λx y H Q=>LL x y=true/\Q (.bl (!decide (x=y))) H
theorem Sa{i j:Int}:decide (V.int i=V.int j)=(i==j):=by rw[jd];simp
theorem Sd{i j:Bool}:decide (V.bl i=V.bl j)=(i==j):=by rw[jd];simp
theorem S9{i j:Str}:decide (V.str i=V.str j)=(i==j):=by rw[jd];simp
theorem Sb{i j:Array UInt8}:decide (V.jt i=V.jt j)=(i.toList==j.toList):=by rw[jd];cases i;cases j;simp
section
variable {X:Cx}{a b c:Expr}{ta tb tc:TE}{pos:Pos}
theorem dQ{ao:List (Addr×Obj)}{O:St}{H:Hp}{s:ae}{Q:VK}{k k':Bool}(I:Inv X ao O H s)(q:Q (.bl k) H)(e:k=k'):EP X ao O Q (.bool k') s:=by subst e;exact⟨.bl k,H,I,Z,q⟩
theorem wH:cO X (compareOp .Eq) Xv:=by intro ao s O H x y v u Q I rx ry h;obtain⟨hs,q⟩:=h;cases x with
 |bw=>cases rx;cases y with |bw=>cases ry;exact PySem.EqNone.eq_none_none (dQ I q (by simp)) |bl j=>cases ry;exact PySem.EqNone.eq_none_bool (dQ I q (by simp)) |int j=>obtain⟨t',rfl⟩:=ry;exact PySem.EqNone.eq_none_int (dQ I q (by simp)) |str j=>obtain⟨t',rfl⟩:=ry;exact PySem.EqNone.eq_none_str (dQ I q (by simp)) |_=>exact absurd (show false=true from hs) dN
 |bl i=>cases rx;cases y with |bw=>cases ry;exact PySem.EqNone.eq_bool_none (dQ I q (by simp)) |bl j=>cases ry;exact eq_bool (dQ I q Sd) |str j=>obtain⟨t',rfl⟩:=ry;exact PySem.EqMixed.eq_bool_str (dQ I q (by simp)) |_=>exact absurd (show false=true from hs) dN
 |int i=>obtain⟨t,rfl⟩:=rx;cases y with |bw=>cases ry;exact PySem.EqNone.eq_int_none (dQ I q (by simp)) |int j=>obtain⟨t',rfl⟩:=ry;exact eq_int (dQ I q Sa) |str j=>obtain⟨t',rfl⟩:=ry;exact PySem.EqMixed.eq_int_str (dQ I q (by simp)) |_=>exact absurd (show false=true from hs) dN
 |str i=>obtain⟨t,rfl⟩:=rx;cases y with |bw=>cases ry;exact PySem.EqNone.eq_str_none (dQ I q (by simp)) |bl j=>cases ry;exact PySem.EqMixed.eq_str_bool (dQ I q (by simp)) |int j=>obtain⟨t',rfl⟩:=ry;exact PySem.EqMixed.eq_str_int (dQ I q (by simp)) |str j=>obtain⟨t',rfl⟩:=ry;exact eq_str (dQ I q S9) |_=>exact absurd (show false=true from hs) dN
 |jt i=>obtain⟨t,rfl⟩:=rx;cases y with |jt j=>obtain⟨t',rfl⟩:=ry;exact PySem.W.eq_bytes (dQ I q Sb) |_=>exact absurd (show false=true from hs) dN
 |_=>cases y<;>exact absurd (show false=true from hs) dN
theorem ug:cO X (compareOp .NotEq) O5:=by intro ao s O H x y v u Q I rx ry h;obtain⟨hs,q⟩:=h;cases x with
 |bw=>cases rx;cases y with |bw=>cases ry;exact PySem.EqNone.ne_none_none (dQ I q (by simp)) |bl j=>cases ry;exact PySem.EqNone.ne_none_bool (dQ I q (by simp)) |int j=>obtain⟨t',rfl⟩:=ry;exact PySem.EqNone.ne_none_int (dQ I q (by simp)) |str j=>obtain⟨t',rfl⟩:=ry;exact PySem.EqNone.ne_none_str (dQ I q (by simp)) |_=>exact absurd (show false=true from hs) dN
 |bl i=>cases rx;cases y with |bw=>cases ry;exact PySem.EqNone.ne_bool_none (dQ I q (by simp)) |bl j=>cases ry;exact ne_bool (dQ I q (lN not Sd)) |str j=>obtain⟨t',rfl⟩:=ry;exact PySem.EqMixed.ne_bool_str (dQ I q (by simp)) |_=>exact absurd (show false=true from hs) dN
 |int i=>obtain⟨t,rfl⟩:=rx;cases y with |bw=>cases ry;exact PySem.EqNone.ne_int_none (dQ I q (by simp)) |int j=>obtain⟨t',rfl⟩:=ry;exact ne_int (dQ I q (lN not Sa)) |str j=>obtain⟨t',rfl⟩:=ry;exact PySem.EqMixed.ne_int_str (dQ I q (by simp)) |_=>exact absurd (show false=true from hs) dN
 |str i=>obtain⟨t,rfl⟩:=rx;cases y with |bw=>cases ry;exact PySem.EqNone.ne_str_none (dQ I q (by simp)) |bl j=>cases ry;exact PySem.EqMixed.ne_str_bool (dQ I q (by simp)) |int j=>obtain⟨t',rfl⟩:=ry;exact PySem.EqMixed.ne_str_int (dQ I q (by simp)) |str j=>obtain⟨t',rfl⟩:=ry;exact ne_str (dQ I q (lN not S9)) |_=>exact absurd (show false=true from hs) dN
 |jt i=>obtain⟨t,rfl⟩:=rx;cases y with |jt j=>obtain⟨t',rfl⟩:=ry;exact PySem.W.ne_bytes (dQ I q (lN not Sb)) |_=>exact absurd (show false=true from hs) dN
 |_=>cases y<;>exact absurd (show false=true from hs) dN
theorem m7:cO X (compareOp .Lt) (jj λi j=>.bl (decide (i<j))):=ui λ_ _ _ _ _ _ _ q=>lt_int q
theorem Ad:cO X (compareOp .LtE) (jj λi j=>.bl (decide (i<=j))):=ui λ_ _ _ _ _ _ _ q=>le_int q
theorem OD:cO X (compareOp .Gt) (jj λi j=>.bl (decide (j<i))):=ui λ_ _ _ _ _ _ _ q=>gt_int q
theorem FP:cO X (compareOp .GtE) (jj λi j=>.bl (decide (j<=i))):=ui λ_ _ _ _ _ _ _ q=>ge_int q
theorem Yp:cO X (compareOp .In) (λx y H Q=>∃i j,x= .str i/\y= .str j/\Q (.bl (!(Builtin.Str.occurrences j i 0 j.length 1).isEmpty)) H):=by intro ao s O H x y v u Q I rx ry h;obtain⟨i,j,rfl,rfl,q⟩:=h;obtain⟨t,rfl⟩:=rx;obtain⟨t',rfl⟩:=ry;exact in_str (dQ I q Z)
theorem OB:cO X (compareOp .Is) (λx y H Q=>y= .bw/\Q (.bl (decide (x= .bw))) H):=by intro ao s O H x y v u Q I rx ry h;obtain⟨rfl,q⟩:=h;cases ry;refine is_none_gen (dQ I q ?_);cases x<;>first |(cases rx;rfl) |(obtain⟨t,rfl⟩:=rx;rfl)
theorem OA:cO X (compareOp .IsNot) (λx y H Q=>y= .bw/\Q (.bl (!decide (x= .bw))) H):=by intro ao s O H x y v u Q I rx ry h;obtain⟨rfl,q⟩:=h;cases ry;refine isnot_none_gen (dQ I q ?_);cases x<;>first |(cases rx;rfl) |(obtain⟨t,rfl⟩:=rx;rfl)
theorem cO.or{f:Value->Value->Sem Value}{r r':R2}(h:cO X f r)(h':cO X f r'):cO X f (λx y H Q=>r x y H Q\/r' x y H Q):=by
 intro ao s O H x y v u Q I rx ry q;rcases q with q|q
 ·exact h ao s O H x y v u Q I rx ry q
 ·exact h' ao s O H x y v u Q I rx ry q
theorem bL(b:Expr){op:CmpOp}(h:autoParam (op≠ .In) q8_._auto_1)(h2:autoParam (op≠ .NotIn) q8_._auto_1):behindInMarks op b=false:=by
 have e1:(op==CmpOp.In)=false:=by cases op<;>first|rfl|exact absurd rfl h
 have e2:(op==CmpOp.NotIn)=false:=by cases op<;>first|rfl|exact absurd rfl h2
 cases b<;>simp[behindInMarks,e1,e2]
theorem jl{op:CmpOp}{r:R2}(ho:cO X (compareOp op) r)(ha:PE X a ta)(hb:PE X b tb)(hm:behindInMarks op b=false):PE X (.Compare a [op] [b] pos) (tJ r ta tb):=by intro ao s O H Q I h;exact wpAny_Compare1 (Jc ha hb I h λv u s2 x y H2 I2 rx ry q=>ho ao s2 O H2 x y v u Q I2 rx ry q) hm
inductive a8Y(Q:Bool->Hp->Prop)(x:V)(H':Hp):Prop |mk (k:_)(h0:x= .bl k)(h1:Q k H')
def Ci(t:TE):TT:=λO H Q=>t O H λx H'=>a8Y Q x H'
theorem bX{op:CmpOp}{r:R2}(ho:cO X (compareOp op) r)(ha:PE X a ta)(hb:PE X b tb)(hm:behindInMarks op b=false):PT X (.Compare a [op] [b] pos) (Ci (tJ r ta tb)):=by intro ao s O H Q I h;refine wpAny_isTrue_Compare1 (ba (ha ao s O H _ I h) λv s1 ⟨x,H1,I1,r1,q1⟩=>ba (hb ao s1 O H1 _ I1 q1) λu s2 ⟨y,H2,I2,r2,q2⟩=>ba (ho ao s2 O H2 x y v u _ I2 r1 r2 q2) λc s3 ⟨z,H3,I3,r3,k,e,q3⟩=>?_) hm;subst e;cases r3;exact mS ⟨H3,I3,q3⟩
inductive a94(r':R2)(tc:TE)(O:St)(Q:VK)(y:V)(z:V)(H3:Hp):Prop |mk (k:_)(h0:z= .bl k)(h1:(if k=true then tc O H3 λw' H4=>r' y w' H4 Q else Q (.bl false) H3))
def Ks(r r':R2)(ta tb tc:TE):TE:=λO H Q=>ta O H λx H1=>tb O H1 λy H2=>r x y H2 λz H3=>a94 r' tc O Q y z H3
theorem Y2{op qW:CmpOp}{r r':R2}(ho:cO X (compareOp op) r)(kR:cO X (compareOp qW) r')(ha:PE X a ta)(hb:PE X b tb)(hc:PE X c tc) (hm:autoParam (lastMarks [op,qW] [b,c]=false) v8_._auto_1):PE X (.Compare a [op,qW] [b,c] pos) (Ks r r' ta tb tc):=by intro ao s O H Q I h;refine Compare_chain (ba (ha ao s O H _ I h) λv s1 ⟨x,H1,I1,r1,q1⟩=>chain_link (ba (hb ao s1 O H1 _ I1 q1) λu s2 ⟨y,H2,I2,r2,q2⟩=>ba (ho ao s2 O H2 x y v u _ I2 r1 r2 q2) λd s3 ⟨z,H3,I3,r3,k,e,q3⟩=>?_)) hm;subst e;cases r3;refine mS ?_;cases k with |false=>exact ite_ff ⟨.bl false,H3,I3,Z,q3⟩ |true=>exact ite_tt (chain_last (ba (hc ao s3 O H3 _ I3 q3) λw' s4 ⟨z',H4,I4,r4,q4⟩=>kR ao s4 O H4 y z' u w' Q I4 r2 r4 q4))
theorem XC{op qW:CmpOp}{r r':R2}(ho:cO X (compareOp op) r)(kR:cO X (compareOp qW) r')(ha:PE X a ta)(hb:PE X b tb)(hc:PE X c tc) (hm:autoParam (lastMarks [op,qW] [b,c]=false) v8_._auto_1):PT X (.Compare a [op,qW] [b,c] pos) (Ci (Ks r r' ta tb tc)):=by intro ao s O H Q I h;refine isTrue_chain (ba (ha ao s O H _ I h) λv s1 ⟨x,H1,I1,r1,q1⟩=>test_link (ba (hb ao s1 O H1 _ I1 q1) λu s2 ⟨y,H2,I2,r2,q2⟩=>ba (ho ao s2 O H2 x y v u _ I2 r1 r2 q2) λd s3 ⟨z,H3,I3,r3,k,e,q3⟩=>?_)) hm;subst e;cases r3;refine mS ?_;cases k with |false=>obtain⟨k',e',q'⟩:=q3;cases e';exact ite_ff ⟨H3,I3,q'⟩ |true=>refine ite_tt (test_last (ba (hc ao s3 O H3 _ I3 q3) λw' s4 ⟨z',H4,I4,r4,q4⟩=>ba (kR ao s4 O H4 y z' u w' _ I4 r2 r4 q4) λd' s5 ⟨z2,H5,I5,r5,k2,e2,q5⟩=>?_));subst e2;cases r5;exact mS ⟨H5,I5,q5⟩
def Jp(K:aa)(x:V)(H:Hp)(k:Bool):Prop:=match x with | .bw=>k=false | .bl b=>k=b | .int i=>k=(i !=0) | .str y=>y.length<=sizeLine/\k=((y.length:Int) !=0) | .jt y=>y.size<=sizeLine/\k=((y.size:Int) !=0) | .ref p=>(∃xs,aJ K H p xs/\k= !xs.isEmpty)\/(∃xs,aZ K H p xs/\k= !xs.isEmpty)\/∃dI,H p=some (.dK dI)/\k= !dI.isEmpty |_=>False
theorem a2y{κ:Type}{dI:List (κ×V)}{vs:List (κ×Value)}(r:KV dI vs):(!vs.isEmpty)= !dI.isEmpty:=by cases r<;>rfl
theorem Q6{xs:List V}{its:List Value}(r:Vals xs its):(!its.toArray.isEmpty)= !xs.isEmpty:=by cases r<;>simp
theorem rF:(sizeLine:Nat)<2^63:=by rw[BN];decide
theorem Va:a8O X (λx H Q=>∃k,Jp X.K x H k/\Q k H):=by intro ao s O H x v Q I rx h;obtain⟨k,e,q⟩:=h;have hl:=rF;have hs:sizeLine=16777216:=BN;cases x with |bw=>cases rx;have e':k=false:=e;subst e';exact truthy_none ⟨H,I,q⟩ |bl b=>cases rx;have e':k=b:=e;subst e';exact mS ⟨H,I,q⟩ |int i=>obtain⟨t,rfl⟩:=rx;have e':k=(i !=0):=e;subst e';exact PySem.P.truthy_int ⟨H,I,q⟩ |str y=>obtain⟨t,rfl⟩:=rx;obtain⟨hy,e'⟩:y.length<=sizeLine/\k=((y.length:Int) !=0):=e;subst e';exact PySem.P.truthy_str aw ⟨H,I.tok _,q⟩ |jt y=>obtain⟨t,rfl⟩:=rx;obtain⟨hy,e'⟩:y.size<=sizeLine/\k=((y.size:Int) !=0):=e;subst e';exact PySem.W.truthy_bytes aw ⟨H,I.tok _,q⟩ |ref p=>
 cases rx;have e':(∃xs,aJ X.K H p xs/\k= !xs.isEmpty)\/(∃xs,aZ X.K H p xs/\k= !xs.isEmpty)\/∃dI,H p=some (.dK dI)/\k= !dI.isEmpty:=e;rcases e' with⟨xs,hx,e'⟩|⟨xs,hx,e'⟩|⟨dI,hx,e'⟩
 ·subst e'
  obtain⟨its,r,pl,hz⟩:=I.list hx;have hlen:=r.length;exact wpAny_truthy_list pl.isList (by simp only[dR];lia) ⟨H,I.tok _,by rw[Q6 r];exact q⟩
 ·subst e'
  obtain⟨its,r,pl,hz⟩:=I.tuple hx;have hlen:=r.length;exact truthy_tuple pl (by simp only[dR];lia) ⟨H,I.tok _,by rw[Q6 r];exact q⟩
 ·subst e'
  obtain⟨hz,hS,vs,r,m⟩:dI.length<=sizeLine/\(p==sysModules)=false/\∃vs,KV dI vs/\s.heap.DictOf (Gk X.prog X.w) p vs:=I.bB p _ hx;have hlen:dI.length=vs.length:=Paired.length r;exact wpAny_truthy_dict hS m aw ⟨H,I.tok _,by rw[a2y r];exact q⟩ |_=>exact(show False from e).elim
theorem XA(ha:PE X a ta)(he:∀whole,isTrue a X.env whole=(do let v<-whole;standAt a.pos;holding [v] (truthy v))): PT X a (λO H Q=>ta O H λx H'=>∃k,Jp X.K x H' k/\Q k H'):=by intro ao s O H Q I h;exact isTrue_plain (ba (ha ao s O H _ I h) λv s1 ⟨x,H1,I1,r1,q1⟩=>Va ao s1 O H1 x v Q I1 r1 q1) (he _)
theorem gH:cO X (binaryOp .Add) (λx y H Q=>∃i j,x= .str i/\y= .str j/\i.length+j.length<=sizeLine/\Q (.str (i++j)) H):=by intro ao s O H x y v u Q I rx ry h;obtain⟨i,j,rfl,rfl,hz,q⟩:=h;obtain⟨t,rfl⟩:=rx;obtain⟨t',rfl⟩:=ry;exact add_str (λt' tk=>⟨.str (i++j),H,I.tok _,⟨_,Z⟩,q⟩) hz
theorem vals1{x:V}{us:List Value}(r:Vals [x] us):∃u,us=[u]/\RelV x u:=by cases r with |cons r1 r2=>cases r2;exact⟨_,rfl,r1⟩
theorem vals2{x y:V}{us:List Value}(r:Vals [x,y] us):∃u w',us=[u,w']/\RelV x u/\RelV y w':=by cases r with |cons r1 r2=>cases r2 with |cons r3 r4=>cases r4;exact⟨_,_,rfl,r1,r3⟩
theorem uY:eF X (.builtin "abs") (λxs H Q=>∃i,xs=[.int i]/\Q (.int (if i<0 then-i else i)) H):=by intro ao s O H xs us Q I r h;obtain⟨i,rfl,q⟩:=h;obtain⟨u,rfl,t,rfl⟩:=vals1 r;exact call_abs_int λu tk=>⟨.int (if i<0 then-i else i),H,I.tok _,⟨_,Z⟩,q⟩
theorem Sz(hc:X.calm=true):eF X (.builtin "max") (λxs H Q=>∃i j,xs=[.int i,.int j]/\Q (.int (if j>i then j else i)) H):=by
 intro ao s O H xs us Q I r h;obtain⟨i,j,rfl,q⟩:=h;obtain⟨u,w',rfl,⟨t,rfl⟩,⟨t',rfl⟩⟩:=vals2 r;refine max_two_ints (I.ok.hd hc) λh' tk k=>⟨_,H,I.kept k,?_,q⟩;by_cases hj:j>i
 ·rw[bf hj,bf hj];exact⟨_,Z⟩
 ·rw[bh hj,bh hj];exact⟨_,Z⟩
theorem J5(hc:X.calm=true):eF X (.builtin "min") (λxs H Q=>∃i j,xs=[.int i,.int j]/\Q (.int (if j<i then j else i)) H):=by
 intro ao s O H xs us Q I r h;obtain⟨i,j,rfl,q⟩:=h;obtain⟨u,w',rfl,⟨t,rfl⟩,⟨t',rfl⟩⟩:=vals2 r;refine min_two_ints (I.ok.hd hc) λh' tk k=>⟨_,H,I.kept k,?_,q⟩;by_cases hj:j<i
 ·rw[bf hj,bf hj];exact⟨_,Z⟩
 ·rw[bh hj,bh hj];exact⟨_,Z⟩
theorem J8:eF X (.type "int") (λxs H Q=>(∃i,xs=[.int i]/\Q (.int i) H)\/∃k,xs=[.bl k]/\Q (.int (if k then 1 else 0)) H):=by
 intro ao s O H xs us Q I r h;rcases h with⟨i,rfl,q⟩|⟨k,rfl,q⟩
 ·obtain⟨u,rfl,t,rfl⟩:=vals1 r
  exact call_int_int ⟨.int i,H,I,⟨_,Z⟩,q⟩
 ·obtain⟨u,rfl,r1⟩:=vals1 r
  cases r1;exact call_int_bool ⟨.int (if k then 1 else 0),H,I.tok _,⟨_,Z⟩,q⟩
end
structure sP(h:Heap)(x dx C:Addr)(mA:bD):Prop where
 obj:h.get? x=some (PySem.W.instObj C dx)
 ns:h.Ns1 dx mA
 ne:dx≠x
theorem Pt{h:Heap}{dx:Addr}{mA:bD}(n:h.Ns1 dx mA):∃od,h.get? dx=some od/\∀name,PySem.W.lookIn name od=some (mA name):=by
 obtain⟨o,es,ep,ho,hd,hk,_,hm⟩:=n;refine⟨o,ho,λname=>?_⟩;have e:=hm name;unfold nsFind findBy at e;rw[<-Array.find?_toList]at e;unfold PySem.W.lookIn;rw[hd];dsimp only;split
 ·rename_i y q
  rw[q]at e;exact lN some e
 ·rename_i q
  rw[q]at e;have a:es.toList.any (·.refKey)=false:=by rw[List.any_eq_false];intro y hy;obtain⟨z,t,a3G⟩:=hk y (Array.mem_toList_iff.mp hy);simp[DictEntry.refKey,a3G]
  have a':¬es.toList.any (·.refKey)=true:=by rw[a];exact dN
  rw[bh a'];exact lN some e
theorem sP.look{h:Heap}{x dx C:Addr}{mA:bD}(I:sP h x dx C mA):∃od,PySem.W.InstAt h x (PySem.W.instObj C dx) C (some od)/\∀name,PySem.W.lookIn name od=some (mA name):=let⟨od,ho,hl⟩:=Pt I.ns
 ⟨od,⟨I.obj,Z,Z,ho⟩,hl⟩
section
variable {prog:af}{w:World}{A:ai}{E:Value->ae->Prop}{s:ae}{K:aa}{x dx C f:Addr}{mA:bD}{name:Str}{v:Value}
theorem get_map{expr:Bool}{Q:Value->ae->Prop}(X:K.In s.heap)(I:sP s.heap x dx C mA)(hg:PySem.W.plainGet K C name=true)(hh:PySem.W.hasDictIn K C=true) (ha:PySem.W.findIn K (.ref C) name=some none)(hv:mA name=some v)(hv':PySem.W.handedIn v=true)(h:Q v {s with toks:=s.toks+1}): wpAny (model prog w) A (getAttr (.ref x) name expr) Q E s:=by obtain⟨od,J,hl⟩:=I.look;exact PySem.W.get_value X J (TY hg).1 (PySem.W.findObj_own hh ha Z (by rw[hl,hv])) hv' h
theorem a5h{pl:Sem Bool}{Q:Value×List Value->ae->Prop}(X:K.In s.heap)(I:sP s.heap x dx C mA)(hg:PySem.W.plainGet K C name=true) (hf:PySem.W.findIn K (.ref C) name=some (some (.ref f)))(ht:PySem.W.isFn K (.ref f)=true)(hv:mA name=none)(h:Q (.ref f,[.ref x]) s): wpAny (model prog w) A (getMethod (.ref x) name pl) Q E s:=by obtain⟨od,J,hl⟩:=I.look;exact PySem.W.method_fn X J (TY hg).1 (TY hg).2 hf (fi.mp ht) (by show(PySem.W.lookIn name od).map (·.isSome)=some false;rw[hl,hv];rfl) h
theorem Wj{ns:List Str}{Q:Unit->ae->Prop}(X:K.In s.heap)(I:sP s.heap x dx C mA) (hs:PySem.W.findIn K (.ref C) "__setattr__"=some (some (.builtin "object.__setattr__")))(hp:PySem.W.plainOver K C=true)(ht:PySem.W.takerIn K C name=some none)(hh:PySem.W.hasDictIn K C=true) (hw:PySem.Within mA ns)(hsz:ns.length<=sizeLine) (h:∀h',sP h' x dx C (λy=>if y=name then some v else mA y)->Heap.SameBut dx s.heap h'->Q () {s with heap:=h',toks:=s.toks+2}): wpAny (model prog w) A (setAttr (.ref x) name v) Q E s:=by obtain⟨od,J,hl⟩:=I.look;refine PySem.W.set_plain X J hs (PySem.W.osa_open (s:={s with toks:=s.toks+1}) (r:=none) X J hp ht λb=>?_);obtain⟨cd,hc,Hq⟩:=PySem.W.any_some hh;have hx:s.heap.get? x=some ⟨.ref C,some dx,.plain,#[]⟩:=I.obj;refine aM (bV (aM (aM (wpAny_loadPart hx (aM (PySem.W.Looks.here (s:={s with toks:=s.toks+1}) (PySem.W.looks_clsIn X hc) ?_))))));rw[Hq];refine bV (a:=some dx) (aM (bV (aM ?_)));refine wpAny_nsSet1 (s:={s with toks:=s.toks+1}) I.ns λh' uI jn=>?_;obtain⟨oD,esD,epD,hoD,hdD,hcD⟩:=uI.count (PySem.Within.cons name v hw);refine aM (wpAny_lookBehind hoD (by rw[hdD];exact pastItsLine_dict (gC hcD (by rw[gh];lia))) ?_);exact bV (h _ ⟨(jn.2 _ (iK I.ne)).trans I.obj,uI,I.ne⟩ jn)
theorem a1r{R:Result->ae->Prop}{vs:List Value}{kw:List (Str×Value)}(X:K.In s.heap)(hm:PySem.W.makesIn K C=true) (hi:PySem.W.findIn K (.ref C) "__init__"=some (some (.ref f)))(hf:PySem.W.typeIn K (.ref f)=some (.type "function")) (h:codeAny (model prog w) (A.under (.builtin "type.__call__" ⟨.ref C::vs,kw⟩)) (.call (.ref f) ⟨.ref (s.heap.objs.size+1)::vs,kw⟩) (PySem.W.InitBack (s.heap.objs.size+1) R) {s with heap:=(s.heap.push PySem.W.emptyDict).push (PySem.W.instObj C s.heap.objs.size)}): codeAny (model prog w) A (.call (.ref C) ⟨vs,kw⟩) R s:=by obtain⟨hh,g,d,t,os⟩:=s;exact PySem.W.make_core (PySem.W.makes_of X hm) (PySem.W.looks_findIn X hi) (λself=>PySem.W.bind_fn X self hf) (.inl Z) h
end
def gZ(f:Str)(v:V):List (Str×V)->List (Str×V) |[]=>[(f,v)] |(g,x)::r=>if g=f then(g,v)::r else(g,x)::gZ f v r
theorem Pr(f g:Str)(v:V):∀fs:List (Str×V),(gZ f v fs).lookup g=if g=f then some v else fs.lookup g
 |[]=>by
  show List.lookup g [(f,v)]=_;by_cases h:g=f
  ·have hb:(g==f)=true:=fi.mpr h
   simp only[List.lookup,hb,bf h]
  ·have hb:(g==f)=false:=JG.mpr h
   simp only[List.lookup,hb,bh h] |(k,x)::r=>by
  have ih:=Pr f g v r;rw[show gZ f v ((k,x)::r)=(if k=f then(k,v)::r else(k,x)::gZ f v r)from rfl];by_cases hk:k=f
  ·rw[bf hk]
   by_cases h:g=k
   ·have hb:(g==k)=true:=fi.mpr h
    simp only[List.lookup,hb,bf (h.trans hk)]
   ·have hb:(g==k)=false:=JG.mpr h
    simp only[List.lookup,hb,bh (λe:g=f=>h (e.trans hk.symm))]
  ·rw[bh hk]
   by_cases h:g=k
   ·have hb:(g==k)=true:=fi.mpr h
    simp only[List.lookup,hb,bh (λe:g=f=>hk (h.symm.trans e))]
   ·have hb:(g==k)=false:=JG.mpr h
    simp only[List.lookup,hb];exact ih
theorem GC(f:Str)(v:V):∀fs:List (Str×V),f∈(gZ f v fs).map (·.1)/\∀g,g∈fs.map (·.1)->g∈(gZ f v fs).map (·.1)
 |[]=>⟨by simp[gZ],λg h=>by simp at h⟩ |(k,x)::r=>by
  obtain⟨i1,i2⟩:=GC f v r;rw[show gZ f v ((k,x)::r)=(if k=f then(k,v)::r else(k,x)::gZ f v r)from rfl];by_cases hk:k=f
  ·rw[bf hk]
   subst hk;exact⟨by simp,λg h=>by simpa using h⟩
  ·rw[bh hk]
   refine⟨?_,λg h=>?_⟩
   ·rw[qr]
    exact vA _ i1
   ·rw[qr]at h⊢
    rcases cj.mp h with e|e
    ·exact cj.mpr (.inl e)
    ·exact vA _ (i2 g e)
theorem PH(f:Str)(v:V):∀fs:List (Str×V),(gZ f v fs).length<=fs.length+1
 |[]=>by simp[gZ] |(k,x)::r=>by
  have ih:=PH f v r;rw[show gZ f v ((k,x)::r)=(if k=f then(k,v)::r else(k,x)::gZ f v r)from rfl];by_cases hk:k=f
  ·rw[bf hk,gh,gh];lia
  ·rw[bh hk,gh,gh];lia
theorem mM.some_of{v:V}{o:Option Value}(r:mM (some v) o):∃u,o=some u/\RelV v u:=by cases o with |none=>exact(show False from r).elim |some u=>exact⟨u,Z,r⟩
theorem mM.none_of{o:Option Value}(r:mM none o):o=none:=by cases o with |none=>rfl |some u=>exact(show False from r).elim
theorem a4q{v:V}{u:Value}(r:RelV v u):PySem.W.handedIn u=true:=by cases v with |bw=>cases(show u=Value.none from r);rfl |bl b=>cases(show u=Value.bool b from r);rfl |int i=>obtain⟨t,e⟩:=(show∃t,u=Value.int i t from r);cases e;rfl |str x=>obtain⟨t,e⟩:=(show∃t,u=Value.str x t from r);cases e;rfl |jt b=>obtain⟨t,e⟩:=(show∃t,u=Value.bytes b t from r);cases e;rfl |Be b=>obtain⟨t,e⟩:=(show∃t,u=Value.float b t from r);cases e;rfl |ref a=>cases(show u=Value.ref a from r);rfl |ty n=>cases(show u=Value.type n from r);rfl
section
variable {P:af}{w:World}{H H':Hp}{h h':Heap}{a C dx:Addr}{fs lj:List (Str×V)}
theorem GN(bB:eB P w H h)(e:H a=some (.ins C dx fs)):∃mA,sP h a dx C mA/\(∀f,mM (fs.lookup f) (mA f))/\PySem.Within mA (fs.map (·.1))/\fs.length<=1000/\H dx=some (.own a):=by obtain⟨d,z,ne,ob,mA,n,r,q⟩:=(show gf P w H h a (.ins C dx fs)from bB a _ e);exact⟨mA,⟨ob,n,ne⟩,r,q,z,d⟩
end
structure gU(K:aa)(C:Addr):Prop where
 pg:PySem.W.plainGet K C Str.empty=true
 hd:PySem.W.hasDictIn K C=true
 po:PySem.W.plainOver K C=true
 sa:PySem.W.findIn K (.ref C) "__setattr__"=some (some (.builtin "object.__setattr__"))
theorem gU.get{K:aa}{C:Addr}(c:gU K C)(f:Str):PySem.W.plainGet K C f=true:=c.pg
def gL(K:aa)(C:Addr)(f:Str):Prop:=PySem.W.findIn K (.ref C) f=some none
theorem gL.Vj{K:aa}{C:Addr}{f:Str}(n:gL K C f):PySem.W.takerIn K C f=some none:=by unfold PySem.W.takerIn;rw[show PySem.W.findIn K (.ref C) f=some none from n];rfl
structure Meth(K:aa)(C:Addr)(m:Str)(f:Addr):Prop where
 at_:PySem.W.findIn K (.ref C) m=some (some (.ref f))
 fn:PySem.W.isFn K (.ref f)=true
 kp:PySem.W.keepIn K (.ref f)=true
section
variable {X:Cx}{ao:List (Addr×Obj)}{O:St}{H:Hp}{s:ae}{a C dx:Addr}{fs:List (Str×V)}{f:Str}{v:V}{A:ai}{E:Value->ae->Prop}
theorem QR{b:Bool}{Q:Value->ae->Prop}(I:Inv X ao O H s)(e:H a=some (.ins C dx fs))(c:gU X.K C)(n:gL X.K C f)(l:fs.lookup f=some v) (h:∀u s',Inv X ao O H s'->RelV v u->Q u s'):wpAny (model X.prog X.w) A (getAttr (.ref a) f b) Q E s:=by obtain⟨mA,acw,r,_,_,_⟩:=GN I.bB e;obtain⟨u,hu,ru⟩:=mM.some_of (v:=v) (o:=mA f) (by rw[<-l];exact r f);exact get_map I.fb acw (c.get f) c.hd n hu (a4q ru) (h u _ (I.tok _) ru)
theorem QQ{m:Str}{g:Addr}{pl:Sem Bool}{Q:Value×List Value->ae->Prop}(I:Inv X ao O H s)(e:H a=some (.ins C dx fs))(c:gU X.K C)(k:Meth X.K C m g)(l:fs.lookup m=none) (h:Q (.ref g,[.ref a]) s):wpAny (model X.prog X.w) A (getMethod (.ref a) m pl) Q E s:=by obtain⟨mA,acw,r,_,_,_⟩:=GN I.bB e;have hn:mA m=none:=mM.none_of (by rw[<-l];exact r m);exact a5h I.fb acw (c.get m) k.at_ k.fn hn h
theorem LK{y:V}{u:Value}{Q:Unit->ae->Prop}(I:Inv X ao O H s)(e:H a=some (.ins C dx fs))(c:gU X.K C)(n:gL X.K C f)(hl:fs.length<1000)(ry:RelV y u) (h:∀s',Inv X ao O (upd H a (.ins C dx (gZ f y fs))) s'->Q () s'):wpAny (model X.prog X.w) A (setAttr (.ref a) f u) Q E s:=by
 obtain⟨mA,acw,r,wi,_,ho⟩:=GN I.bB e;have hz:(fs.map (·.1)).length<=sizeLine:=by rw[bS,BN];lia
 refine Wj I.fb acw c.sa c.po n.Vj c.hd wi hz λh' O' sb=>h _ ?_;have hd:∃o,h'.get? dx=some o:=let⟨o,_,_,e',_⟩:=O'.ns;⟨o,e'⟩;refine I.write (x:=a) (e:=dx) (by rw[e];exact True.intro) (.inr ho) (λb q hb z=>(sb.2 b hb).trans z) hd ?_;refine⟨by rw[aV acw.ne];exact ho,?_,acw.ne,O'.obj,_,O'.ns,λg=>?_,λg hg=>?_⟩
 ·have:=PH f y fs;lia
 ·show mM ((gZ f y fs).lookup g) (if g=f then some u else mA g)
  rw[Pr];by_cases q:g=f
  ·rw[bf q,bf q];exact ry
  ·rw[bh q,bh q];exact r g
 ·by_cases q:g=f
  ·rw[q];exact(GC f y fs).1
  ·refine(GC f y fs).2 g (wi g λz=>hg ?_)
   show(if g=f then some u else mA g)=none;rw[bh q];exact z
theorem Inv.made(I:Inv X ao O H s):Inv X ao O (upd (upd H s.heap.objs.size (.own (s.heap.objs.size+1))) (s.heap.objs.size+1) (.ins C s.heap.objs.size [])) {s with heap:=(s.heap.push PySem.W.emptyDict).push (PySem.W.instObj C s.heap.objs.size)}:=by
 have e1:(s.heap.push PySem.W.emptyDict).get? s.heap.objs.size=some PySem.W.emptyDict:=dX s.heap rfl;have e2:((s.heap.push PySem.W.emptyDict).push (PySem.W.instObj C s.heap.objs.size)).get? (s.heap.objs.size+1)=some (PySem.W.instObj C s.heap.objs.size):=by have:=dX (s.heap.push PySem.W.emptyDict) (o:=PySem.W.instObj C s.heap.objs.size) rfl;rwa [qw]at this
 have e3:(s.heap.push PySem.W.emptyDict).Ns s.heap.objs.size (λ_=>none):=⟨PySem.W.emptyDict,#[],_,e1,Z,(λe he=>absurd he (by simp)),λ_=>rfl⟩;have I1:=I.laid (a:=s.heap.objs.size) (o:=.own (s.heap.objs.size+1)) (h':=s.heap.push PySem.W.emptyDict) (t':=s.toks) (λb u q=>cC _ q) (bO _) ⟨_,e1⟩;refine I1.laid (a:=s.heap.objs.size+1) (o:=.ins C s.heap.objs.size []) (t':=s.toks) (λb u q=>cC _ q) (Nat.le_of_eq (qw _ _)) ?_;have ne:s.heap.objs.size≠s.heap.objs.size+1:=eP (Ue _);refine⟨by rw[aV ne,bW],fU _,ne,e2,λ_=>none,(Heap.Ns1.of_empty e3).at λo q=>cC _ q,λ_=>True.intro,λy hy=>absurd rfl hy⟩
theorem SS{prog:af}{w:World}{env:Env}{e:Expr}{f:Str}{pos:Pos}{s:ae}{Q:Value->ae->Prop}(hb:attributeBase e f env (eval e env)=eval e env) (h:wpAny (model prog w) A (eval e env) (λo s₁=>wpAny (model prog w) A (getAttr o f true) Q E s₁) E s):wpAny (model prog w) A (eval (.Attribute e f pos) env) Q E s:=Attribute_any_ h (by rw[arm_eval_Attribute,hb])
end
def aaO(X:Cx)(op:Operator)(rd:V->V->Hp->VK->Prop):Prop:=∀(ao:List (Addr×Obj))(s:ae)(O:St)(H:Hp)(x y:V)(u v:Value)(Q:VK),Inv X ao O H s->RelV x u->RelV y v->rd x y H Q->wpAny (model X.prog X.w) X.A (inplaceOp op u v) (EP X ao O Q) X.xe s
section
variable {X:Cx}{o e value:Expr}{f:Str}{pos pos' mY:Pos}{ta tv:TE}
end
section
variable {X:Cx}{ao:List (Addr×Obj)}{O:St}{H:Hp}{s:ae}{A:ai}{E:Value->ae->Prop}{Q:Value->ae->Prop}{c:Value}{b:Bool}
end
structure cN(k:Nat)(A:ai):Prop where
 hd:A.handled=none
 dp:A.depth+3*k+5<recursionLimit
 un:A.units+16*k+200<cLine
theorem cN.mono{j k:Nat}{A:ai}(r:cN k A)(h:j<=k):cN j A:=⟨r.hd,by have:=r.dp;lia,by have:=r.un;lia⟩
theorem cN.deeper{k:Nat}{A:ai}(r:cN (k+1) A)(env:Env):cN k (A.deeper env):=⟨r.hd,by have:=r.dp;show A.depth+1+3*k+5<_;lia,by have:=r.un;show A.units+3+16*k+200<_;lia⟩
theorem a1s{A:ai}{C:Addr}{us:List Value}{kw:List (Str×Value)}:(A.under (.builtin "type.__call__" ⟨.ref C::us,kw⟩)).depth=A.depth+1:=by first|rfl|simp[Around.under,Code.weight,Code.isCreation,Code.isGuard,Code.isCaller,Code.frames,Code.isFrame,guardIds]
theorem a1q{A:ai}{C:Addr}{us:List Value}{kw:List (Str×Value)}:(A.under (.builtin "type.__call__" ⟨.ref C::us,kw⟩)).units=A.units+1:=by first|rfl|simp[Around.under,Code.cUnits,Code.frames,Code.isFrame]
theorem cN.make{k:Nat}{A:ai}(r:cN (k+1) A)(C:Addr)(us:List Value)(kw:List (Str×Value)):cN k (A.under (.builtin "type.__call__" ⟨.ref C::us,kw⟩)):=⟨r.hd,by have:=r.dp;rw[a1s];omega,by have:=r.un;rw[a1q];omega⟩
theorem cN.depth{k:Nat}{A:ai}(r:cN k A):A.depth<recursionLimit:=by have:=r.dp;lia
theorem cN.units{k:Nat}{A:ai}(r:cN k A):A.units+64<cLine:=by have:=r.un;lia
def lR:TA:=λ_ H Q=>Q [] H
def vT(ta:TE)(tr:TA):TA:=λO H Q=>ta O H λx H1=>tr O H1 λxs H2=>Q (x::xs) H2
section
variable {X:Cx}{e:Expr}{es:List Expr}{te:TE}{t:TA}{pos:Pos}
theorem ay:PA X [] lR:=λ_ _ _ _ H Q I h=>Calls.spliced_nil ⟨[],H,I,.nil,h⟩
theorem ak(ha:PE X e te)(hr:PA X es t)(hs:autoParam (starEach (e::es) X.env=(false,eval e X.env)::starEach es X.env) r8_._auto_1):PA X (e::es) (vT te t):=by intro pos ao s O H Q I h;rw[hs];show wpAny _ _ (spliced ((false,eval e X.env)::backTo pos (starEach es X.env))) _ _ s;refine Calls.spliced_cons (ba (ha ao s O H _ I h) λu s1 ⟨x,H1,I1,r1,q1⟩=>?_);exact ba (hr pos ao s1 O H1 _ I1 q1) λus s2 ⟨xs,H2,I2,r2,q2⟩=>⟨x::xs,H2,I2,.cons r1 r2,q2⟩
end
abbrev Sp:=List V->Hp->VK->XK->Prop
abbrev iG:=List Env->Hp->ae->XK->Value->ae->Prop
structure oM(P:af)(w:World)(K:aa)(mg:bD)(au:Heap)(A:ai)(outer:List Env)(s:ae)(H:Hp):Prop where
 frames:A.frames=some outer
 mod:Mod K mg au
 bs:∀b o,au.get? b=some o->s.heap.get? b=some o/\H b=none
 jR:au.objs.size<=s.heap.objs.size
 iA:s.heap.FunFrames au outer
 lB:∀b∈ek outer,H b=none
 bB:eB P w H s.heap
 bare:AllBare s.gens
def CE(outer:List Env)(P:af)(w:World)(H:Hp)(s:ae)(Q:VK)(u:Value)(s':ae):Prop:=∃v H',s'.os=s.os/\AllBare s'.gens/\Un (ek outer) [] H H' s.heap s'.heap/\eB P w H' s'.heap/\RelV v u/\Q v H'
def CR(CX:iG)(outer:List Env)(P:af)(w:World)(H:Hp)(s:ae)(Q:VK)(E:XK)(r:Result)(s':ae):Prop:=match r with | .ok (.ret u)=>CE outer P w H s Q u s' | .ok _=>False | .error e=>CX outer H s E e s'
structure eD(P:af)(w:World)(K:aa)(mg:bD)(au:Heap)(CX:iG)(k:Nat)(f:Addr)(fd:FuncData)(ps:List Str)(sp:Sp):Prop where
 len:∀vs H Q E,sp vs H Q E->vs.length=ps.length
 run:∀(A:ai)(outer:List Env)(s:ae)(H:Hp)(args:Args)(us:List Value)(vs:List V)(Q:VK)(E:XK),cN k A->oM P w K mg au A outer s H->BindsTo s fd args (ps.zip us)->Vals vs us->sp vs H Q E->codeAny (model P w) A (.call (.ref f) args) (CR CX outer P w H s Q E) s
theorem eD.mono{P:af}{w:World}{K:aa}{mg:bD}{au:Heap}{CX:iG}{j k:Nat}{f:Addr}{fd:FuncData}{ps:List Str}{sp:Sp}(F:eD P w K mg au CX j f fd ps sp)(h:j<=k): eD P w K mg au CX k f fd ps sp:=⟨F.len,λA outer s H args us vs Q E hr=>F.run A outer s H args us vs Q E (hr.mono h)⟩
theorem oM.make{P:af}{w:World}{K:aa}{mg:bD}{au:Heap}{A:ai}{outer:List Env}{s:ae}{H:Hp}(e:oM P w K mg au A outer s H)(C:Addr)(us:List Value)(kw:List (Str×Value)): oM P w K mg au (A.under (.builtin "type.__call__" ⟨.ref C::us,kw⟩)) outer s H:=⟨by first|exact e.frames|(simpa[Around.under,Code.envs,Code.isFrame,pushEnvs]using e.frames),e.mod,e.bs,e.jR,e.iA,e.lB,e.bB,e.bare⟩
section
variable {X:Cx}{ao:List (Addr×Obj)}{O:St}{H:Hp}{s s':ae}
theorem Inv.IK(I:Inv X ao O H s):oM X.prog X.w X.K X.mg X.au X.A X.stack s H:=⟨I.ok.frames,I.ok.mod,I.bs,gC I.ok.jR I.sz,I.stack,I.zq,I.bB,I.bare⟩
theorem Inv.after{Q:VK}{u:Value}(I:Inv X ao O H s)(h:CE X.stack X.prog X.w H s Q u s'):EP X ao O Q u s':=by obtain⟨v,H',os,bare,un,bB,r,q⟩:=h;obtain⟨hh,g,d,t,Ab⟩:=s';obtain rfl:Ab=s.os:=os;exact⟨v,H',I.call (h':=hh) (g':=g) (d':=d) (t':=t) (ch:=[]) un bB bare (λb z=>absurd z (by simp)),r,q⟩
end
def VH(sp:Sp)(fN:List V)(E:XK)(t:TA):TE:=λO H Q=>t O H λvs H1=>sp (vs++fN) H1 Q E
inductive sS(C:Addr)(m:Str)(sp:Sp)(fN:List V)(E:XK)(t:TA)(O:St)(Q:VK)(x:V)(H1:Hp):Prop |mk (a:_)(dx:_)(fs:_)(h0:x= .ref a)(h1:H1 a=some (.ins C dx fs))(h2:fs.lookup m=none)(h3:t O H1 λvs H2=>sp (x::(vs++fN)) H2 Q E)
def Kp(C:Addr)(m:Str)(sp:Sp)(fN:List V)(E:XK)(ta:TE)(t:TA):TE:=λO H Q=>ta O H λx H1=>sS C m sp fN E t O Q x H1
def VB(C:Addr)(sp:Sp)(fN:List V)(E:XK)(t:TA):TE:=λO H Q=>t O H λvs H1=>∀x dx,H1 x=none->H1 dx=none->dx≠x->sp (.ref x::(vs++fN)) (upd (upd H1 dx (.own x)) x (.ins C dx [])) (λv H2=>v= .bw/\Q (.ref x) H2) E
def Binds(K:aa)(fd:FuncData)(ps:List Str)(ds:List Value):Prop:=∀(s:ae)(us:List Value),K.In s.heap->(us++ds).length=ps.length->BindsTo s fd ⟨us,[]⟩ (ps.zip (us++ds))
theorem Binds.all{K:aa}{fd:FuncData}{ps:List Str}(h:∀us:List Value,us.length=ps.length->bindArgs fd ⟨us,[]⟩=pure (ps.zip us)):Binds K fd ps []:=λs us _ hl=>by rw[qt]at hl⊢;exact .of_eq (h us hl)
def Passes(CX:iG)(X:Cx)(E:XK):Prop:=∀(ao:List (Addr×Obj))(O:St)(H:Hp)(s:ae)(e:Value)(s':ae),Inv X ao O H s->CX X.stack H s E e s'->X.xe e s'
section
variable {X:Cx}{CX:iG}{k:Nat}{f C:Addr}{fd:FuncData}{ps:List Str}{sp:Sp}{fN:List V}{ds:List Value}{E:XK}{x m:Str}{p pos apos:Pos}{e o:Expr}{es:List Expr}{ta:TE}{t:TA}
theorem zS{ao:List (Addr×Obj)}{O:St}{H:Hp}{s:ae}{Q:VK}{us:List Value}{vs:List V}(F:eD X.prog X.w X.K X.mg X.au CX k f fd ps sp)(hr:cN k X.A)(hb:Binds X.K fd ps ds)(hd:Vals fN ds)(hx:Passes CX X E) (I:Inv X ao O H s)(r:Vals vs us)(h:sp (vs++fN) H Q E):wpAny (model X.prog X.w) X.A (call (.ref f) us) (EP X ao O Q) X.xe s:=by
 have r2:Vals (vs++fN) (us++ds):=r.append hd;have hl:(us++ds).length=ps.length:=by rw[<-r2.length];exact F.len _ _ _ _ h
 refine yy (vq (F.run X.A X.stack s H ⟨us,[]⟩ (us++ds) (vs++fN) Q E hr I.IK (hb s us I.fb hl) r2 h) λr s' hq=>?_);cases r with |error e=>exact hx ao O H s e s' I hq |ok fl=>cases fl with |ret u=>exact I.after hq |next=>exact False.elim hq |brk=>exact False.elim hq |cont=>exact False.elim hq
theorem Y4(F:eD X.prog X.w X.K X.mg X.au CX k f fd ps sp)(hr:cN k X.A)(hg:Gl X x)(hm:X.mg x=some (.ref f))(hk:PySem.W.keepIn X.K (.ref f)=true)(hb:Binds X.K fd ps ds)(hd:Vals fN ds)(hx:Passes CX X E) (ha:PA X (e::es) t)(gc:autoParam ((x==("__debug__":Str))=false) q8_._auto_1)(he:autoParam (starEach (e::es) X.env=(false,eval e X.env)::starEach es X.env) r8_._auto_1)(eY:autoParam ((backTo pos (starEach es X.env)).any (·.1)=false) r8_._auto_1): PE X (.Call (.Name x p) (e::es) [] pos) (VH sp fN E t):=by intro ao s O H Q I h;refine yz (pE I hg hm ?_ gc);refine BU (h₀:=X.au) I.ok.mod.mr hk (ba (ha pos ao s O H _ I h) λus s1 ⟨vs,H1,I1,r,q⟩=>⟨I1.fb,?_⟩) he eY;exact zS F hr hb hd hx I1 r q
theorem Ol{pl:Sem Bool}(he:PE X o ta)(c:gU X.K C)(hm:Meth X.K C m f)(F:eD X.prog X.w X.K X.mg X.au CX k f fd ps sp)(hr:cN k X.A)(hb:Binds X.K fd ps ds)(hd:Vals fN ds)(hx:Passes CX X E)(ha:PA X (e::es) t) (gb:autoParam (starEach (e::es) X.env=(false,eval e X.env)::starEach es X.env) r8_._auto_1)(eY:autoParam ((backTo pos (starEach es X.env)).any (·.1)=false) r8_._auto_1) (ht:eval (.Call (.Attribute o m apos) (e::es) [] pos) X.env=(do
 let ov<-eval o X.env
 standAt apos.atName
 let(f,first)<-holding [ov] (getMethod ov m pl)
 callWith pos f first (backTo pos (starEach (e::es) X.env)) (backToKw pos (keywordEach [] X.env))):=by rfl): PE X (.Call (.Attribute o m apos) (e::es) [] pos) (Kp C m sp fN E ta t):=by
 intro ao s O H Q I h;refine PySem.W.methodCall_KW (pl:=pl) (ba (he ao s O H _ I h) λu s1 ⟨x,H1,I1,rx,a,dx,fs,ex,ea,l,q⟩=>?_) ht;subst ex;obtain rfl:u=Value.ref a:=rx;refine QQ I1 ea c hm l ?_;refine BU (first:=[.ref a]) (h₀:=X.au) I.ok.mod.mr hm.kp (ba (ha pos ao s1 O H1 _ I1 q) λus s2 ⟨vs,H2,I2,r,q2⟩=>⟨I2.fb,?_⟩) gb eY;exact zS (us:=.ref a::us) (vs:=.ref a::vs) F hr hb hd hx I2 (.cons Z r) q2
theorem Oj{pl:Sem Bool}(he:PE X o ta)(c:gU X.K C)(hm:Meth X.K C m f)(F:eD X.prog X.w X.K X.mg X.au CX k f fd ps sp)(hr:cN k X.A)(hb:Binds X.K fd ps ds)(hd:Vals fN ds)(hx:Passes CX X E) (ht:eval (.Call (.Attribute o m apos) [] [] pos) X.env=(do
 let ov<-eval o X.env
 standAt apos.atName
 let(f,first)<-holding [ov] (getMethod ov m pl)
 callWith pos f first (backTo pos (starEach [] X.env)) (backToKw pos (keywordEach [] X.env))):=by rfl): PE X (.Call (.Attribute o m apos) [] [] pos) (Kp C m sp fN E ta lR):=by
 intro ao s O H Q I h;refine PySem.W.methodCall_KW (pl:=pl) (ba (he ao s O H _ I h) λu s1 ⟨x,H1,I1,rx,a,dx,fs,ex,ea,l,q⟩=>?_) ht;subst ex;obtain rfl:u=Value.ref a:=rx;refine QQ I1 ea c hm l ?_;exact PySem.W.callWith_K0 (first:=[.ref a]) I1.fb hm.kp (zS (us:=[.ref a]) (vs:=[.ref a]) F hr hb hd hx I1 (.cons rfl .nil) q)
structure Mk(K:aa)(C f:Addr):Prop where
 makes:PySem.W.makesIn K C=true
 init:PySem.W.findIn K (.ref C) "__init__"=some (some (.ref f))
 fn:PySem.W.isFn K (.ref f)=true
 kp:PySem.W.keepIn K (.ref C)=true
theorem WN{ao:List (Addr×Obj)}{O:St}{H:Hp}{s:ae}{Q:VK}{us:List Value}{vs:List V}(M:Mk X.K C f)(F:eD X.prog X.w X.K X.mg X.au CX k f fd ps sp)(hr:cN (k+1) X.A)(hb:Binds X.K fd ps ds)(hd:Vals fN ds) (hx:Passes CX X E)(I:Inv X ao O H s)(r:Vals vs us) (h:∀x dx,H x=none->H dx=none->dx≠x->sp (.ref x::(vs++fN)) (upd (upd H dx (.own x)) x (.ins C dx [])) (λv H2=>v= .bw/\Q (.ref x) H2) E): wpAny (model X.prog X.w) X.A (call (.ref C) us) (EP X ao O Q) X.xe s:=by
 have hq:=h (s.heap.objs.size+1) s.heap.objs.size (I.bB.fresh (Nat.le_succ _)) (I.bB.fresh (bO _)) (eP (Ue _));have I2:=Inv.made (C:=C) I;have r2:Vals (V.ref (s.heap.objs.size+1)::(vs++fN)) (Value.ref (s.heap.objs.size+1)::(us++ds)):=.cons Z (r.append hd);have hl:(Value.ref (s.heap.objs.size+1)::us++ds).length=ps.length:=by have e:=r2.length;rw[F.len _ _ _ _ hq]at e;exact e.symm
 refine yy (a1r (f:=f) I.fb M.makes M.init (fi.mp M.fn) (vq (F.run _ X.stack _ _ ⟨Value.ref (s.heap.objs.size+1)::us,[]⟩ (Value.ref (s.heap.objs.size+1)::(us++ds)) _ _ E (hr.make C us []) (I2.IK.make C us []) (hb _ (Value.ref (s.heap.objs.size+1)::us) I2.fb hl) r2 hq) λr s' mz=>?_));cases r with |error e=>exact hx ao O _ _ e s' I2 mz |ok fl=>cases fl with |ret u=>obtain⟨v,H',I3,rv,ev,q3⟩:=I2.after mz;subst ev;exact⟨rv,⟨V.ref (s.heap.objs.size+1),H',I3,Z,q3⟩⟩ |next=>exact False.elim mz |brk=>exact False.elim mz |cont=>exact False.elim mz
theorem XX(M:Mk X.K C f)(F:eD X.prog X.w X.K X.mg X.au CX k f fd ps sp)(hr:cN (k+1) X.A)(hg:Gl X x)(hm:X.mg x=some (.ref C))(hb:Binds X.K fd ps ds)(hd:Vals fN ds)(hx:Passes CX X E) (ha:PA X (e::es) t)(gc:autoParam ((x==("__debug__":Str))=false) q8_._auto_1)(he:autoParam (starEach (e::es) X.env=(false,eval e X.env)::starEach es X.env) r8_._auto_1)(eY:autoParam ((backTo pos (starEach es X.env)).any (·.1)=false) r8_._auto_1): PE X (.Call (.Name x p) (e::es) [] pos) (VB C sp fN E t):=by intro ao s O H Q I h;refine yz (pE I hg hm ?_ gc);refine BU (h₀:=X.au) I.ok.mod.mr M.kp (ba (ha pos ao s O H _ I h) λus s1 ⟨vs,H1,I1,r,q⟩=>⟨I1.fb,?_⟩) he eY;exact WN M F hr hb hd hx I1 r q
end
section
variable {X:Cx}{CX:iG}{k:Nat}{f C:Addr}{fd:FuncData}{ps ks:List Str}{sp:Sp}{E:XK}{x m:Str}{p pos apos abK:Pos}{e o:Expr}{es:List Expr}{kws:List Keyword}{te ta:TE}{t tk:TA}{nm:Option Str}
variable {g:List Value->List Value->List Value}{gV:List V->List V->List V}
end
structure aW(N P:List Str)(sc:Scope):Prop where
 kind:sc.kind= .function
 co:sc.isCoroutine=false
 gen:sc.isGenerator=false
 nd:N.Nodup
 pre:N.take P.length=P
 par:∀x∈P,sc.names.lookup x=some .local\/sc.names.lookup x=some .cell
 a0E:∀y∈sc.names,y.2≠ .free
theorem SE{kindOf:Str->Option NameKind}{x:Str}:∀{binds:List (Str×Value)}{m:bD},(∀v,(x,v)∉binds)->bindL kindOf binds m x=m x
 |[],_,_=>rfl |(n,v)::r,m,h=>by
  unfold bindL;rw[SE λw hw=>h w (vA _ hw)];split
  ·have:x≠n:=by rintro rfl;exact h v JW
   simp[this]
  ·rfl
theorem SG{kindOf:Str->Option NameKind}{x:Str}:∀{binds:List (Str×Value)}{m:bD},(∀v,(x,v)∉binds)->bindC kindOf binds m x=m x
 |[],_,_=>rfl |(n,v)::r,m,h=>by
  unfold bindC;rw[SG λw hw=>h w (vA _ hw)];split
  ·rfl
  ·have:x≠n:=by rintro rfl;exact h v JW
   simp[this]
theorem SF{kindOf:Str->Option NameKind}{x:Str}{v:Value}:∀{P:List Str}{vs:List Value}{i:Nat}{m:bD},P.Nodup->P[i]? =some x->vs[i]? =some v->kindOf x=some .local->bindL kindOf (P.zip vs) m x=some v |[],_,_,_,_,h,_,_=>by simp at h |_::_,[],_,_,_,_,h,_=>by simp at h |p::P,w::vs,0,m,nd,h1,h2,hk=>by simp at h1 h2;subst h1;subst h2;show bindL kindOf ((p,w)::P.zip vs) m p=_;unfold bindL;rw[SE λv hv=>(JV.mp nd).1 (vz hv).1,bf hk];simp |p::P,w::vs,i+1,m,nd,h1,h2,hk=>by show bindL kindOf ((p,w)::P.zip vs) m x=_;unfold bindL;exact SF (i:=i) (JV.mp nd).2 (by simpa using h1) (by simpa using h2) hk
theorem SH{kindOf:Str->Option NameKind}{x:Str}{v:Value}:∀{P:List Str}{vs:List Value}{i:Nat}{m:bD},P.Nodup->P[i]? =some x->vs[i]? =some v->kindOf x≠some .local->bindC kindOf (P.zip vs) m x=some v |[],_,_,_,_,h,_,_=>by simp at h |_::_,[],_,_,_,_,h,_=>by simp at h |p::P,w::vs,0,m,nd,h1,h2,hk=>by simp at h1 h2;subst h1;subst h2;show bindC kindOf ((p,w)::P.zip vs) m p=_;unfold bindC;rw[SG λv hv=>(JV.mp nd).1 (vz hv).1,bh hk];simp |p::P,w::vs,i+1,m,nd,h1,h2,hk=>by show bindC kindOf ((p,w)::P.zip vs) m x=_;unfold bindC;exact SH (i:=i) (JV.mp nd).2 (by simpa using h1) (by simpa using h2) hk
def start(N:List Str)(vs:List V):St:=vs.map some++List.replicate (N.length-vs.length) none
def gy(CX:iG)(P:af)(w:World)(K:aa)(mg:bD)(au:Heap)(N:List Str)(qual:Str)(scope:Scope)(f:Addr)(cd:Value)(A:ai)(outer:List Env)(s:ae)(H:Hp)(E:XK):Cx where
 prog:=P
 w:=w
 K:=K
 mg:=mg
 au:=au
 A:=A.deeper (envOfC qual scope s.heap.objs.size f cd)
 N:=N
 s₀:=s
 H₀:=H
 env:=envOfC qual scope s.heap.objs.size f cd
 outer:=outer
 stack:=envOfC qual scope s.heap.objs.size f cd::outer
 ex:=[]
 calm:=true
 fn:=λ_=>true
 pn:=[]
 xe:=λe s'=>wpAny (model P w) (A.deeper (envOfC qual scope s.heap.objs.size f cd)) (leaving (envOfC qual scope s.heap.objs.size f cd) e) (λ_ ka=>CX outer H s E e ka) (λe' ka=>CX outer H s E e' ka) s'
theorem Su{sc:Scope}{n:Nat}{x:Str}(h:sc.names.lookup x=some .cell):∃c,(cellsFrom n sc.names []).lookup x=some c:=by have q:=JM sc.names n [] (.inl h);exact Option.isSome_iff_exists.mp q
theorem GL{CX:iG}{P:af}{w:World}{K:aa}{mg:bD}{au:Heap}{N ps:List Str}{qual:Str}{scope:Scope}{f:Addr}{cd:Value}{A:ai}{outer:List Env}{s s1:ae}{H:Hp}{E:XK}{us:List Value}{vs:List V} (S:aW N ps scope)(hd:A.handled=none)(e0:oM P w K mg au A outer s H)(hl:vs.length=ps.length)(r:Vals vs us) (x:InCallC s s.heap.objs.size (bindL (envOfC qual scope s.heap.objs.size f cd).kindOf (ps.zip us) λ_=>none) (cellsFrom (s.heap.objs.size+1) scope.names []) (bindC (envOfC qual scope s.heap.objs.size f cd).kindOf (ps.zip us) λ_=>none) s1): Inv (gy CX P w K mg au N qual scope f cd A outer s H E) [] (start N vs) H s1:=by
 have eY:ps.length<=N.length:=by have:=lN List.length S.pre;rw[tf]at this;lia
 obtain⟨h1,tk,rfl,hk⟩:=x.done;have wO:∀b:Addr,b∉(gy CX P w K mg au N qual scope f cd A outer s H E).ex:=λb z=>absurd (show b∈([]:List Addr)from z) (by simp);refine⟨⟨e0.mod,S.kind,Z,Z,bO _,λy z c h1 h2=>?_,λy hy=>?_,λy c _ h=>?_,λ_=>hd,Around.frames_deeper e0.frames,.inr ⟨Z,Z⟩,λb z=>absurd z (wO b),e0.bs,e0.jR,λb _ _=>wO b,λb z=>absurd z (wO b),e0.iA,e0.lB⟩,rfl,e0.bare,Un.kept hk,⟨_,x.toInCall.ns,λi y v h1 h2 h3=>?_⟩,λy c h=>⟨_,x.cell y c h⟩,e0.bB.fresh (bO _),λy c h=>?_,λp hp=>absurd (show p∈([]:List (Addr×Obj))from hp) (by simp),e0.bB.kept hk,?_⟩
 ·exact name_of_addr x.apart (BS h1) (BS h2)
 ·have hy:scope.names.lookup y=some .cell\/scope.names.lookup y=some .free:=hy
  rcases hy with hy|hy
  ·exact Su hy
  ·exact absurd Z (S.a0E _ (BS hy))
 ·exact Nat.le_of_lt (x.above y c (BS h))
 ·have hi:i<vs.length:=by
   unfold start at h2;by_cases hi:i<vs.length
   ·exact hi
   ·rw[yJ (by simpa using hi)]at h2
    rw[List.getElem?_replicate]at h2;split at h2<;>cases h2
  have ha:vs[i]? =some v:=by unfold start at h2;rw[vE (by simpa using hi),bQ]at h2;cases e:vs[i]? with |none=>rw[e]at h2;cases h2 |some a=>rw[e]at h2;cases h2;rfl
  obtain⟨u,hu,rv⟩:=r.get ha;have hp:ps[i]? =some y:=by rw[<-S.pre,List.getElem?_take_of_lt aw];exact h1
  have P0:ps.Nodup:=by rw[<-S.pre];exact S.nd.sublist (List.take_sublist _ _)
  refine⟨u,rv,?_⟩;rcases S.par y (fA hp)with k|k
  ·exact .inl ⟨k,SF P0 hp hu k⟩
  ·obtain⟨c,e⟩:=Su (n:=s.heap.objs.size+1) k
   refine .inr ⟨.inl k,c,e,?_⟩;have q:=x.cell y c e;rw[SH P0 hp hu (by show scope.names.lookup y≠_;rw[k];decide)]at q;exact q
 ·exact e0.bB.fresh (Nat.le_of_lt (x.above y c (BS h)))
 ·unfold start
  show _=N.length;rw[fP,bS,List.length_replicate]
  lia
theorem Ip{CX:iG}{P:af}{w:World}{K:aa}{mg:bD}{au:Heap}{k:Nat}{f:Addr}{name qual:Str}{params:Arguments}{body:List Stmt}{scope:Scope}{dV kV doc pm aH ct oc:Value}{an od:Option Addr} {fw:Array (Option Value)}{N ps:List Str}{sp:Sp}(lk:K.lookup f=some ⟨oc,od,.func (PySem.W.fnOf name qual params body scope dV kV doc pm an aH ct),fw⟩)(fk:PySem.W.codeIn K aH qual=true)(S:aW N ps scope) (len:∀vs H Q E,sp vs H Q E->vs.length=ps.length) (fM:∀(A:ai)(outer:List Env)(s:ae)(H:Hp)(vs:List V)(Q:VK)(E:XK),cN k (A.deeper (envOfC qual scope s.heap.objs.size f aH))->sp vs H Q E->∃t,fz (gy CX P w K mg au N qual scope f aH A outer s H E) body t/\t {nx:=λ_ H'=>Q .bw H',rt:=Q} (start N vs) H): eD P w K mg au CX (k+1) f (PySem.W.fnOf name qual params body scope dV kV doc pm an aH ct) ps sp:=by
 refine⟨len,λA outer s H args us vs Q E hr e0 hb r fe=>?_⟩;have hl:=len _ _ _ _ fe;have KX:K.In s.heap:=e0.mod.mr.keeps λb o e=>(e0.bs b o e).1;have lim:s.heap.NoLimit:=e0.mod.nolimit.keeps λb o e=>(e0.bs b o e).1;have kT:∀y∈ps.zip us,scope.names.lookup y.1=some .local\/(scope.names.lookup y.1=some .cell/\((cellsFrom (s.heap.objs.size+1) scope.names []).lookup y.1).isSome=true):=λ⟨n,v⟩ hy=>by
  rcases S.par n (vz hy).1 with q|q
  ·exact .inl q
  ·exact .inr ⟨q,JM _ _ _ (.inl q)⟩
 refine TR hr.depth (KX _ _ lk) Z S.co S.gen Z (TZ KX fk) (hb _ _ _ _ ?_);refine TN S.kind kT λenv he s1 x=>?_;subst he;refine⟨lim.keeps x.toInCall.keep,codeAny_func ?_⟩;obtain⟨t,ht,hq⟩:=fM A outer s H vs Q E (hr.deeper _) fe;have I:Inv (gy CX P w K mg au N qual scope f aH A outer s H E) [] (start N vs) H s1:=GL S hr.hd e0 hl r x;refine iH (ht [] s1 (start N vs) H _ I hq) (λfl s' hs=>?_) λe s' hs=>hs;have fin:∀{σ':St}{H':Hp}{v:V}{u:Value},Inv (gy CX P w K mg au N qual scope f aH A outer s H E) [] σ' H' s'->RelV v u->Q v H'->CE outer P w H s Q u s':=λ{σ' H' v u} J rv q=>⟨v,H',J.os,J.bare,J.au,J.bB,rv,q⟩;cases fl with |ret u=>obtain⟨v,σ',H',J,rv,q⟩:=hs;exact fin J rv q |next=>obtain⟨σ',H',J,q⟩:=hs;exact fin (v:=V.bw) (u:=Value.none) J Z q |brk=>obtain⟨_,_,_,q⟩:=hs;exact False.elim q |cont=>obtain⟨_,_,_,q⟩:=hs;exact False.elim q
section
variable {X:Cx}{x:Str}{p pos:Pos}{e:Expr}{es:List Expr}{t:TA}{id T:String}{r:List V->Hp->VK->Prop}
def zk(r:List V->Hp->VK->Prop)(t:TA):TE:=λO H Q=>t O H λvs H1=>r vs H1 Q
theorem dy(hc:eF X (.builtin id) r)(hg:Gl X x)(hm:X.mg x=none)(hv:bootBuiltins x=some (.builtin id))(ha:PA X (e::es) t)(hn:autoParam (x≠"__name__") q8_._auto_1)(gc:autoParam ((x==("__debug__":Str))=false) q8_._auto_1) (he:autoParam (starEach (e::es) X.env=(false,eval e X.env)::starEach es X.env) r8_._auto_1)(eY:autoParam ((backTo pos (starEach es X.env)).any (·.1)=false) r8_._auto_1):PE X (.Call (.Name x p) (e::es) [] pos) (zk r t):=by intro ao s O H Q I h;refine yz (pF I hg hm hv ?_ hn gc);exact PyProof.Rows.callWith_builtin1 (ba (ha pos ao s O H _ I h) λus s1 ⟨vs,H1,I1,r1,q1⟩=>hc ao s1 O H1 vs us Q I1 r1 q1) he eY
theorem cD(hc:eF X (.type T) r)(hg:Gl X x)(hm:X.mg x=none)(hv:bootBuiltins x=some (.type T))(ha:PA X (e::es) t)(hn:autoParam (x≠"__name__") q8_._auto_1)(gc:autoParam ((x==("__debug__":Str))=false) q8_._auto_1) (he:autoParam (starEach (e::es) X.env=(false,eval e X.env)::starEach es X.env) r8_._auto_1)(eY:autoParam ((backTo pos (starEach es X.env)).any (·.1)=false) r8_._auto_1):PE X (.Call (.Name x p) (e::es) [] pos) (zk r t):=by intro ao s O H Q I h;refine yz (pF I hg hm hv ?_ hn gc);exact yB (ba (ha pos ao s O H _ I h) λus s1 ⟨vs,H1,I1,r1,q1⟩=>hc ao s1 O H1 vs us Q I1 r1 q1) he eY
end
end _L
namespace _H
open PySem PyProof.Rows
section
open PySem.SeqAt
open PySem.AutoSeq1 (wpAny_loadPart')
open PySem.MeetsSeq PySem.MeetsSeq2 PySem.MeetsSeq3
end
section
variable {prog:af}{w:World}{A:ai}{E:Value->ae->Prop}{s:ae}
theorem a84{t b:Addr}{vs ws:List Value}{Q:Value->ae->Prop}(ht:IsTup s.heap t vs.toArray)(hb:IsTup s.heap b ws.toArray)(hv:vs≠[]) (h1:ws=[]->Q (.ref t) s)(h2:ws≠[]->Q (.ref s.heap.objs.size) {s with heap:=s.heap.push {cls:=.type "tuple",data:=.seq (vs++ws).toArray}}) (hsz:vs.length+ws.length<=sizeLine):wpAny (model prog w) A (binaryOp .Add (.ref t) (.ref b)) Q E s:=by
 obtain⟨⟨cls,dd,data,sl⟩,ho,hc,n,hd⟩:=id ht;obtain⟨⟨Sq,uU,data2,sl2⟩,mF,gu,n2,hd2⟩:=id hb;simp only at hc hd gu hd2;subst hc hd gu hd2;have e:vs.toArray++ws.toArray=(vs++ws).toArray:=by simp
 by_cases hw:ws=[]
 ·exact concat_meets ⟨_,ho,Z⟩ ⟨_,mF,Z⟩ noFill_tuple_add seq_tuple_add U0 U7 (U8 _ _) (tuple_addW1 t b vs.toArray ws.toArray n n2 dd uU sl sl2 (by simpa using hv) (by simp[hw])) ⟨ho,mF,h1 hw⟩
 ·refine concat_meets ⟨_,ho,Z⟩ ⟨_,mF,Z⟩ noFill_tuple_add seq_tuple_add U0 U7 (U8 _ _) (tuple_addW2 t b vs.toArray ws.toArray n n2 dd uU sl sl2 (by simpa using hv) (by simpa using hw) (by rw[dR,dR];exact hsz)) ⟨ho,mF,?_⟩;rw[e];exact h2 hw
def cg(n d:Nat):Option Int->Nat |none=>d |some v=>if v<0 then(v+(n:Int)).toNat else min v.toNat n
theorem Nl (n d:Nat):cg n d none=d:=rfl
theorem Np(n d k:Nat):cg n d (some (k:Int))=min k n:=by show(if(k:Int)<0 then((k:Int)+(n:Int)).toNat else min (k:Int).toNat n)=min k n;rw[bh aw,Ur]
theorem WD(n d:Nat)(hd:d<=n)(o:Option Int):cg n d o<=n:=by cases o with |none=>exact hd |some v=>
 show(if v<0 then(v+(n:Int)).toNat else min v.toNat n)<=n;by_cases hv:v<0
 ·rw[bf hv];lia
 ·rw[bh hv];exact Nat.min_le_right _ _
theorem J4(v:Int)(n d:Nat):(if v<0 then max (v+(n:Int)) 0 else min v (n:Int))=((cg n d (some v):Nat):Int):=by
 show(if v<0 then max (v+(n:Int)) 0 else min v (n:Int))=(((if v<0 then(v+(n:Int)).toNat else min v.toNat n):Nat):Int);by_cases hv:v<0
 ·simp only[bf hv];lia
 ·simp only[bh hv];lia
theorem a8E(lo hi:Option Int)(n:Nat):Builtin.Slice.sliceAdjust lo hi 1 (n:Int)=(((cg n 0 lo:Nat):Int),((cg n n hi:Nat):Int)):=by
 have h1:¬((1:Int)<0):=by lia
 unfold Builtin.Slice.sliceAdjust;simp only[h1,if_false];refine Prod.ext ?_ ?_
 ·cases lo with |none=>rfl |some v=>exact J4 v n 0
 ·cases hi with |none=>rfl |some v=>exact J4 v n n
theorem XH(i j:Nat):Builtin.Slice.slicePlaces (i:Int) (j:Int) 1=j-i:=by
 unfold Builtin.Slice.slicePlaces;have h1:(1:Int)>0:=by lia
 simp only[h1,if_true,Int.ediv_one];split<;>lia
theorem LC{v:Value}{o:Option Int}{Q:Option Int->ae->Prop}(p:IsPart v o)(h:Q o s):wpAny (model prog w) A (Builtin.Slice.slicePartIndex v) Q E s:=by cases p with |none=>exact slicePart_none h |int i t=>exact slicePart_int h
theorem W9{sl:Addr}{vl vu:Value}{lo hi:Option Int}{n:Nat}{Q:Int×Int×Nat->ae->Prop}(hs:s.heap.IsSliceOf sl vl vu .none)(pl:IsPart vl lo)(pu:IsPart vu hi) (h:Q (((cg n 0 lo:Nat):Int),1,cg n n hi-cg n 0 lo) s):wpAny (model prog w) A (Builtin.Slice.sliceApplied (.ref sl) (pure (n:Int))) Q E s:=by obtain⟨os,mE,B5,pN⟩:=id hs;unfold Builtin.Slice.sliceApplied Builtin.Slice.sliceFields;refine aM (aM (ib mE pN (x:=vl) Z (aM (ib mE pN (x:=vu) Z (aM (ib mE pN (x:=.none) Z (bV ?_)))))));refine aM (slicePart_none ?_);show wpAny _ _ (if((1:Int)==0)=true then _ else _) _ _ s;rw[bh az];refine aM (LC pl (aM (LC pu (aM (bV ?_)))));show wpAny _ _ (match Builtin.Slice.sliceAdjust lo hi 1 (n:Int)with|(lo,hi)=>pure (lo,(1:Int),Builtin.Slice.slicePlaces lo hi 1)) _ _ s;rw[a8E lo hi n];show wpAny _ _ (pure (((cg n 0 lo:Nat):Int),(1:Int),Builtin.Slice.slicePlaces ((cg n 0 lo:Nat):Int) ((cg n n hi:Nat):Int) 1)) _ _ s;rw[XH];exact bV h
theorem XM(xs:Array Value)(i k:Nat):((List.range k).filterMap λ(m:Nat)=>xs[((i:Int)+(m:Int)*1).toNat]?).toArray=((xs.toList.drop i).take k).toArray:=by
 have e:(λ(m:Nat)=>xs[((i:Int)+(m:Int)*1).toNat]?)=λm=>xs[i+m]?:=by
  funext m;have:((i:Int)+(m:Int)*1).toNat=i+m:=by lia
  rw[this]
 rw[e];have:=pick_run xs i k;rw[List.filterMap_map]at this;have e2:((λx=>xs[x]?)∘λx=>i+x)=λm=>xs[i+m]?:=rfl;rw[e2]at this;rw[this]
theorem a5i{t sl:Addr}{items:Array Value}{vl vu:Value}{lo hi:Option Int}{Q:Value->ae->Prop}(ht:IsTup s.heap t items)(hs:s.heap.IsSliceOf sl vl vu .none)(pl:IsPart vl lo)(pu:IsPart vu hi) (hw:¬(cg items.size 0 lo=0/\cg items.size items.size hi=items.size)) (h:Q (.ref s.heap.objs.size) {s with heap:=s.heap.push {cls:=.type "tuple",data:=.seq ((items.toList.drop (cg items.size 0 lo)).take (cg items.size items.size hi-cg items.size 0 lo)).toArray}}) (hsz:items.size<=sizeLine):wpAny (model prog w) A (getItem (.ref t) (.ref sl)) Q E s:=by
 have AK:sizeOk (.seq ((items.toList.drop (cg items.size 0 lo)).take (cg items.size items.size hi-cg items.size 0 lo)).toArray):=by show((items.toList.drop (cg items.size 0 lo)).take (cg items.size items.size hi-cg items.size 0 lo)).toArray.size<=sizeLine;rw[dR,tf,JZ,yN];omega
 have hj:cg items.size items.size hi<=items.size:=WD _ _ (bO _) hi;obtain⟨os,mE,B5,pN⟩:=id hs;have hTs:s.TypeIs (.ref sl) "slice":=⟨os,mE,B5⟩;unfold getItem
 try with_reducible refine jW ?_
 first|refine aM (bV ?_)|skip
 refine aM (wpAny_sequenceKey ht.typeIs az ?_);refine aM (BL (name:=Str.ofString "__getitem__") ht.typeIs U9 (BK U9 ht.typeIs entry_tuple_getitem ?_ (args_tuple_getitem _ _)));show wpAny _ _ (Builtin.Tuple.tupleItemsOf (.ref t)>>=_) _ _ s;refine aM (tupleItemsOf_ ht ?_);refine aM (wpAny_typeOf hTs ?_);rw[bf az];refine aM (W9 hs pl pu ?_);have kv:¬((((cg items.size 0 lo:Nat):Int)==0&&(1:Int)==1&&(cg items.size items.size hi-cg items.size 0 lo)==items.size)=true):=by intro q;rw[eH,eH]at q;have q1:((cg items.size 0 lo:Nat):Int)=0:=eq_of_beq q.1.1;have q2:cg items.size items.size hi-cg items.size 0 lo=items.size:=eq_of_beq q.2;exact hw ⟨bI,bI⟩
 show wpAny _ _ (if(((cg items.size 0 lo:Nat):Int)==0&&(1:Int)==1&&(cg items.size items.size hi-cg items.size 0 lo)==items.size)=true then _ else _) _ _ s;rw[bh kv,XM]
 first |exact aM (m:=Builtin.Tuple.tupleExact _) (oN (bV ⟨_,Z,bV h⟩) AK) |exact aM (m:=Builtin.Tuple.tupleExact _) (oN (aM (bV (bV ⟨_,Z,bV h⟩))) AK) |exact aM (aM (m:=Builtin.Tuple.tupleExact _) (oN (bV (bV ⟨_,Z,bV h⟩)) AK)) |exact aM (aM (m:=Builtin.Tuple.tupleExact _) (oN (bV ⟨_,Z,bV h⟩) AK))
end
end _H
namespace _L
open PySem PySem.Spec PyProof.Rows
abbrev TO:=St->Hp->(Option Int->Hp->Prop)->Prop
def PO(X:Cx)(e:Option Expr)(t:TO):Prop:=∀(ao:List (Addr×Obj))(s:ae)(O:St)(H:Hp)(Q:Option Int->Hp->Prop),Inv X ao O H s->t O H Q->wpAny (model X.prog X.w) X.A (evalPart e X.env) (λu s'=>∃o H',Inv X ao O H' s'/\IsPart u o/\Q o H') X.xe s
def Vx:TO:=λ_ H Q=>Q none H
inductive a8Z(Q:Option Int->Hp->Prop)(x:V)(H1:Hp):Prop |mk (i:_)(h0:x= .int i)(h1:Q (some i) H1)
def Vr(t:TE):TO:=λO H Q=>t O H λx H1=>a8Z Q x H1
section
variable {X:Cx}{e:Expr}{te:TE}{lo hi:Option Expr}{tl th:TO}{pos p2:Pos}
theorem A1:PO X none Vx:=by intro ao s O H Q I h;rw[evalPart_none];exact bV ⟨none,H,I,.none,h⟩
theorem A0(h:PE X e te):PO X (some e) (Vr te):=by intro ao s O H Q I hw;rw[evalPart_some];refine ba (h ao s O H _ I hw) λu s1 ⟨x,H1,I1,r1,q1⟩=>?_;obtain⟨i,rfl,q⟩:=q1;obtain⟨t,rfl⟩:=r1;exact⟨some i,H1,I1,.int i t,q⟩
def BE(X:Cx)(r:V->Option Int->Option Int->Hp->VK->Prop):Prop:=∀(ao:List (Addr×Obj))(s:ae)(O:St)(H:Hp)(x:V)(v vl vu:Value)(lo hi:Option Int)(sl:Addr)(Q:VK),Inv X ao O H s->RelV x v->s.heap.IsSliceOf sl vl vu .none->IsPart vl lo->IsPart vu hi->r x lo hi H Q->∃T id,typeLookup (.type T) "__getitem__"=pure (some (.builtin id))/\s.TypeIs v T/\wpAny (model X.prog X.w) X.A (getItem v (.ref sl)) (EP X ao O Q) X.xe s
def Vo(r:V->Option Int->Option Int->Hp->VK->Prop)(te:TE)(tl th:TO):TE:=λO H Q=>te O H λx H1=>tl O H1 λl H2=>th O H2 λu H3=>r x l u H3 Q
theorem A5{r:V->Option Int->Option Int->Hp->VK->Prop}(hr:BE X r)(he:PE X e te)(hl:PO X lo tl)(hu:PO X hi th):PE X (.Subscript e (.Slice lo hi none p2) pos) (Vo r te tl th):=by intro ao s O H Q I h;refine Subscript_ (ba (he ao s O H _ I h) λv s1 ⟨x,H1,I1,r1,q1⟩=>?_);refine wpAny_Slice (ba (hl ao s1 O H1 _ I1 q1) λvl s2 ⟨l,H2,I2,pl,q2⟩=>ba (hu ao s2 O H2 _ I2 q2) λvu s3 ⟨u,H3,I3,pu,q3⟩=>?_);rw[evalPart_none];refine bV ?_;have I4:Inv X ao O H3 {s3 with heap:=s3.heap.push {cls:=.type "slice",data:=.fields #[vl,vu,.none]}}:=I3.kept (t':=s3.toks) λb ob q=>cC _ q;obtain⟨T,id,hT,ht,hg⟩:=hr ao {s3 with heap:=s3.heap.push {cls:=.type "slice",data:=.fields #[vl,vu,.none]}} O H3 x v vl vu l u s3.heap.objs.size Q I4 r1 (Heap.IsSliceOf.new ..) pl pu q3;show wpAny (model X.prog X.w) X.A (subscriptTail e (.Slice lo hi none p2) v (.ref s3.heap.objs.size)) (EP X ao O Q) X.xe {s3 with heap:=s3.heap.push {cls:=.type "slice",data:=.fields #[vl,vu,.none]}};exact tail_any (ops:=[.ref s3.heap.objs.size,v]) ht hT hg (by with_unfolding_all rfl)
def jQ(xs:List V)(lo hi:Option Int):List V:=(xs.drop (_H.cg xs.length 0 lo)).take (_H.cg xs.length xs.length hi-_H.cg xs.length 0 lo)
theorem Si(xs:List V)(lo hi:Option Int):(jQ xs lo hi).length<=xs.length:=by
 unfold jQ;rw[tf,JZ]
 lia
inductive aaq(K:aa)(x:V)(lo:Option Int)(hi:Option Int)(H:Hp)(Q:VK):Prop |mk (a:_)(xs:_)(h0:x= .ref a)(h1:aZ K H a xs)(h2:¬(_H.cg xs.length 0 lo=0/\_H.cg xs.length xs.length hi=xs.length))(h3:∀p,H p=none->Q (.ref p) (upd H p (.tup (jQ xs lo hi))))
def Xm(K:aa):V->Option Int->Option Int->Hp->VK->Prop:=λx lo hi H Q=>aaq K x lo hi H Q
theorem Wa:BE X (Xm X.K):=by
 intro ao s O H x v vl vu lo hi sl Q I rx hs pl pu h;obtain⟨a,xs,rfl,hx,hw,q⟩:=h;cases rx;obtain⟨its,r,ht,hz⟩:=I.tuple hx;have hlen:its.toArray.size=xs.length:=by rw[dR];exact r.length.symm
 refine⟨"tuple",_,U9.lookup,ht.typeIs,?_⟩;refine _H.a5i ht hs pl pu (by rw[hlen];exact hw) ?_ (by rw[hlen];exact hz);rw[hlen];refine⟨.ref s.heap.objs.size,_,I.laid (t':=s.toks) (o:=.tup (jQ xs lo hi)) (λb ob q=>cC _ q) (bO _) ?_,Z,q _ (I.bB.fresh (bO _))⟩;exact⟨gC (Si xs lo hi) hz,_,(r.drop (_H.cg xs.length 0 lo)).take (_H.cg xs.length xs.length hi-_H.cg xs.length 0 lo),IsTup.new _ _⟩
theorem Vals.Ga{xs:List V}{us:List Value}(r:Vals xs us):us=[]↔xs=[]:=by cases r with |nil=>simp |cons _ _=>simp
end
def hU(n:Nat)(i:Int):Option Nat:=if 0<=i then(if i<n then some i.toNat else none)else if-(n:Int)<=i then some (i+n).toNat else none
def eZ{α:Type}(xs:List α)(i:Int):Option α:=(hU xs.length i).bind λj=>xs[j]?
theorem Q0{n:Nat}{i:Int}{j:Nat}(h:hU n i=some j):seqIndex? i n=some j/\j<n/\-(n:Int)<=i/\i<n:=by
 unfold hU at h;by_cases h0:0<=i
 ·rw[bf h0]at h
  by_cases h1:i<n
  ·rw[bf h1]at h
   have e:i.toNat=j:=dG h;exact⟨by rw[seqIndex_of h0 h1,e],aw,aw,h1⟩
  ·rw[bh h1]at h;cases h
 ·rw[bh h0]at h
  by_cases h1:-(n:Int)<=i
  ·rw[bf h1]at h
   have e:(i+n).toNat=j:=dG h;exact⟨by rw[seqIndex_neg aw h1,e],aw,h1,aw⟩
  ·rw[bh h1]at h;cases h
theorem Ji{α:Type}{xs:List α}{i:Int}{v:α}(h:eZ xs i=some v):∃j,seqIndex? i xs.length=some j/\xs[j]? =some v/\j<xs.length/\-(xs.length:Int)<=i/\i<xs.length:=by unfold eZ at h;cases e:hU xs.length i with |none=>rw[e]at h;cases h |some j=>rw[e]at h;obtain⟨h1,h2,h3,h4⟩:=Q0 e;exact⟨j,h1,h,h2,h3,h4⟩
theorem a8w{α:Type}{xs:List α}{j:Nat}{v:α}(h:xs[j]? =some v):eZ xs (j:Int)=some v:=by
 have hj:j<xs.length:=(dD.mp h).1;have e:hU xs.length (j:Int)=some j:=by unfold hU;rw[bf aw,bf aw];simp
 unfold eZ;rw[e];exact h
def Tj(b:Expr):Prop:=∀o i,subscripted b false o i=operate [o,i] (getItem o i)
def oJ(X:Cx)(r:R2):Prop:=∀(value slice:Expr)(ao:List (Addr×Obj))(s:ae)(O:St)(H:Hp)(x y:V)(v u:Value)(Q:VK),Inv X ao O H s->RelV x v->RelV y u->r x y H Q->subscripted slice false v u=operate [v,u] (getItem v u)->wpAny (model X.prog X.w) X.A (subscriptTail value slice v u) (EP X ao O Q) X.xe s
def vk(X:Cx)(id:String)(r:V->List V->Hp->VK->Prop):Prop:=∀(ao:List (Addr×Obj))(s:ae)(O:St)(H:Hp)(x:V)(xs:List V)(v:Value)(us:List Value)(Q:VK),Inv X ao O H s->RelV x v->Vals xs us->r x xs H Q->wpAny (model X.prog X.w) X.A (call (.builtin id) (v::us)) (EP X ao O Q) X.xe s
section
variable {X:Cx}{a b:Expr}{ta tb:TE}{pos:Pos}
theorem oJ.or{r r':R2}(h:oJ X r)(h':oJ X r'):oJ X (λx y H Q=>r x y H Q\/r' x y H Q):=by
 intro value slice ao s O H x y v u Q I rx ry q hs;rcases q with q|q
 ·exact h value slice ao s O H x y v u Q I rx ry q hs
 ·exact h' value slice ao s O H x y v u Q I rx ry q hs
theorem FL{r:R2}(hr:oJ X r)(ha:PE X a ta)(hb:PE X b tb)(hs:Tj b):PE X (.Subscript a b pos) (tJ r ta tb):=by intro ao s O H Q I h;exact Subscript_ (Jc ha hb I h λv u s2 x y H2 I2 rx ry q=>hr a b ao s2 O H2 x y v u Q I2 rx ry q (hs _ _))
inductive aaz(K:aa)(x:V)(y:V)(H:Hp)(Q:VK):Prop |mk (p:_)(xs:_)(i:_)(v:_)(h0:x= .ref p)(h1:y= .int i)(h2:aJ K H p xs)(h3:eZ xs i=some v)(h4:Q v H)
def Fv(K:aa):R2:=λx y H Q=>aaz K x y H Q
inductive aax(K:aa)(x:V)(y:V)(H:Hp)(Q:VK):Prop |mk (p:_)(xs:_)(i:_)(v:_)(h0:x= .ref p)(h1:y= .int i)(h2:aZ K H p xs)(h3:eZ xs i=some v)(h4:Q v H)
def Fu(K:aa):R2:=λx y H Q=>aax K x y H Q
inductive aay(x:V)(y:V)(H:Hp)(Q:VK):Prop |mk (z:_)(i:_)(c:_)(h0:x= .str z)(h1:y= .int i)(h2:z.length<=sizeLine)(h3:eZ z.cps.toList i=some c)(h4:Q (.str ⟨#[c]⟩) H)
def Xq:R2:=λx y H Q=>aay x y H Q
theorem a2p:oJ X (Fv X.K):=by
 intro value slice ao s O H x y v u Q I rx ry h hs;obtain⟨p,xs,i,z,rfl,rfl,hq,he,q⟩:=h;cases rx;obtain⟨t,rfl⟩:=ry;obtain⟨its,r,pl,hz⟩:=I.list hq;obtain⟨j,h1,h2,h3,h4,h5⟩:=Ji he;obtain⟨w,ew,wq⟩:=r.get h2;have hl:=r.length;have hn:=rF;have fin:EP X ao O Q w s:=⟨z,H,I,wq,q⟩;by_cases h0:0<=i
 ·have hj:i.toNat=j:=by rw[seqIndex_of h0 h5]at h1;exact dG h1
  exact item_listR pl.isList h0 aw (by rw[hj];simpa using ew) fin hs
 ·have hj:(i+(its.toArray.size:Int)).toNat=j:=by rw[seqIndex_neg aw h4]at h1;rw[dR,<-hl];exact dG h1
  exact subscriptTail_builtinR (x:=w) pl.isList.typeIs slot_list_getitem.lookup (wpAny_getItem_list_neg (Q:=λr s'=>r=w/\EP X ao O Q r s') pl.isList aw (by rw[dR]<;>lia) aw (by rw[hj];simpa using ew) ⟨Z,fin⟩) hs
theorem a2o:oJ X (Fu X.K):=by intro value slice ao s O H x y v u Q I rx ry h hs;obtain⟨p,xs,i,z,rfl,rfl,hq,he,q⟩:=h;cases rx;obtain⟨t,rfl⟩:=ry;obtain⟨its,r,pl,hz⟩:=I.tuple hq;obtain⟨j,h1,h2,h3,h4,h5⟩:=Ji he;obtain⟨w,ew,wq⟩:=r.get h2;have hl:=r.length;have hn:=rF;have fin:EP X ao O Q w s:=⟨z,H,I,wq,q⟩;exact subscriptTail_builtinR (x:=w) pl.typeIs slot_tuple_getitem.lookup (getItem_tuple (j:=j) (Q:=λr s'=>r=w/\EP X ao O Q r s') pl aw aw (by rw[dR,<-hl];exact h1) (by simpa using ew) ⟨Z,fin⟩) hs
theorem PZ:oJ X Xq:=by
 intro value slice ao s O H x y v u Q I rx ry h hs;obtain⟨z,i,c,rfl,rfl,hz,he,q⟩:=h;obtain⟨t,rfl⟩:=rx;obtain⟨t',rfl⟩:=ry;obtain⟨j,h1,h2,h3,h4,h5⟩:=Ji he;have hl:z.cps.toList.length=z.length:=by simp[Str.length]
 rw[hl]at h1 h4 h5;have hn:=rF;exact tail_any (typeIs_str s z t) slot_str_getitem.lookup (getItem_str (c:=c) (by have e1:decide (i< -(2^63:Int))=false:=dE aw;have e2:decide (i>=2^63)=false:=dE aw;rw[e1,e2,Bool.or_false]) (by rw[h1];simpa using h2) ⟨.str ⟨#[c]⟩,H,I.tok _,⟨_,Z⟩,q⟩) hs
theorem a1p(its:List Value)(n j:Nat)(u:Value):Obj.mapSeq (·.setIfInBounds j u) {cls:=.type "list",data:=.seq its.toArray n}={cls:=.type "list",data:=.seq (its.set j u).toArray n}:=by simp[Obj.mapSeq]
theorem Inv.lst{ao:List (Addr×Obj)}{O:St}{H:Hp}{s:ae}{p:Addr}{xs:List V}(I:Inv X ao O H s)(h:H p=some (.lst xs)): ∃(its:List Value)(n:Nat),Vals xs its/\s.heap.get? p=some {cls:=.type "list",data:=.seq its.toArray n}/\xs.length<=sizeLine:=by obtain⟨z,its,n,r,e⟩:=I.bB p _ h;exact⟨its,n,r,e,z⟩
theorem Inv.a1R{ao:List (Addr×Obj)}{O:St}{H:Hp}{s:ae}{p:Addr}{xs ys:List V}{its its':List Value}{n n':Nat}{f:Obj->Obj}(I:Inv X ao O H s)(h:H p=some (.lst xs)) (ho:s.heap.get? p=some {cls:=.type "list",data:=.seq its.toArray n})(hf:f {cls:=.type "list",data:=.seq its.toArray n}={cls:=.type "list",data:=.seq its'.toArray n'})(r:Vals ys its')(hz:ys.length<=sizeLine)(t:Nat): Inv X ao O (upd H p (.lst ys)) {s with heap:=s.heap.update p f,toks:=t}:=by
 have e:(s.heap.update p f).get? p=some {cls:=.type "list",data:=.seq its'.toArray n'}:=by rw[K7 f ho (by rw[hf]<;>rfl),hf]
 refine I.write (x:=p) (e:=p) (by rw[h];trivial) (.inl Z) (λb u hb q=>(yL _ _ (iK hb)).trans q) ⟨_,e⟩ ?_;exact⟨hz,its',n',r,e⟩
inductive aat(o:V)(i:V)(v:V)(H:Hp)(Q:Hp->Prop):Prop |mk (p:_)(xs:_)(k:_)(j:_)(h0:o= .ref p)(h1:i= .int k)(h2:H p=some (.lst xs))(h3:hU xs.length k=some j)(h4:Q (upd H p (.lst (xs.set j v))))
def Xp:V->V->V->Hp->(Hp->Prop)->Prop:=λo i v H Q=>aat o i v H Q
theorem set_list:Tn X Xp:=by
 intro ao s O H o i v ov iv u Q I ro ri rv h;obtain⟨p,xs,k,j,rfl,rfl,hp,hj,q⟩:=h;cases ro;obtain⟨t,rfl⟩:=ri;obtain⟨its,n,r,ho,hz⟩:=I.lst hp;obtain⟨h1,h2,h3,h4⟩:=Q0 hj;have hl:=r.length;have hn:=rF;have I':Inv X ao O (upd H p (.lst (xs.set j v))) {s with heap:=s.heap.update p (Obj.mapSeq (·.setIfInBounds j u))}:=I.a1R hp ho (a1p its n j u) (r.set rv j) (by rw[vB];exact hz) s.toks;by_cases h0:0<=k
 ·have hk:k.toNat=j:=by rw[seqIndex_of h0 h4]at h1;exact dG h1
  exact PySem.W.ki_setAt ho h0 aw (by rw[dR,<-hl];exact h4) (by rw[hk];exact⟨_,I',q⟩)
 ·have hk:(k+(its.toArray.size:Int)).toNat=j:=by rw[seqIndex_neg aw h3]at h1;rw[dR,<-hl];exact dG h1
  exact PySem.W.ki_setBack ho aw (by rw[dR,<-hl];exact h3) aw (by rw[hk];exact⟨_,I',q⟩)
theorem W7(lo hi:Option Int)(n:Nat):(sliceBounds lo hi none n).1=((_H.cg n 0 lo:Nat):Int)/\(sliceBounds lo hi none n).2.1=((_H.cg n n hi:Nat):Int)/\(sliceBounds lo hi none n).2.2=1:=by
 refine⟨?_,?_,Z⟩
 ·cases lo with |none=>simp[sliceBounds,_H.cg] |some i=>
  simp only[sliceBounds,_H.cg,Option.getD_none,show(1:Int)>0 by decide,if_true];by_cases h:i<0
  ·simp only[h,if_true]<;>lia
  ·simp only[h,if_false]<;>lia
 ·cases hi with |none=>simp[sliceBounds,_H.cg] |some i=>
  simp only[sliceBounds,_H.cg,Option.getD_none,show(1:Int)>0 by decide,if_true];by_cases h:i<0
  ·simp only[h,if_true]<;>lia
  ·simp only[h,if_false]<;>lia
theorem W8(its:List Value)(lo hi:Option Int):slicePick its.toArray lo hi none=((its.drop (_H.cg its.length 0 lo)).take (_H.cg its.length its.length hi-_H.cg its.length 0 lo)).toArray:=by obtain⟨h1,h2,h3⟩:=W7 lo hi its.toArray.size;unfold slicePick;rw[h1,h2,h3];simp only[sliceRange_one,pick_run,dR]<;>rfl
inductive aar(K:aa)(x:V)(lo:Option Int)(hi:Option Int)(H:Hp)(Q:VK):Prop |mk (a:_)(xs:_)(h0:x= .ref a)(h1:aJ K H a xs)(h2:∀p,H p=none->Q (.ref p) (upd H p (.lst (jQ xs lo hi))))
def Xn(K:aa):V->Option Int->Option Int->Hp->VK->Prop:=λx lo hi H Q=>aar K x lo hi H Q
theorem Wb:BE X (Xn X.K):=by intro ao s O H x v vl vu lo hi sl Q I rx hs pl pu h;obtain⟨a,xs,rfl,hx,q⟩:=h;cases rx;obtain⟨its,r,ht,hz⟩:=I.list hx;have hlen:=r.length;refine⟨"list",_,slot_list_getitem.lookup,ht.isList.typeIs,?_⟩;refine wpAny_getItem_list_slice ht.isList hs pl pu .none (by simp) ?_ (by rw[dR]<;>lia);rw[W8,<-hlen];refine⟨.ref s.heap.objs.size,_,I.laid (t':=s.toks) (o:=.lst (jQ xs lo hi)) (λb ob q=>cC _ q) (bO _) ?_,Z,q _ (I.bB.fresh (bO _))⟩;exact⟨gC (Si xs lo hi) hz,_,0,(r.drop (_H.cg xs.length 0 lo)).take (_H.cg xs.length xs.length hi-_H.cg xs.length 0 lo),dX _ Z⟩
def pR:V->Bool | .bw=>true | .bl _=>true | .int _=>true | .str _=>true |_=>false
def pW:V->V->Bool | .bw,.bw=>true | .bl a,.bl b=>a==b | .bl a,.int b=>(if a then 1 else 0)==b | .int a,.bl b=>a==(if b then 1 else 0) | .int a,.int b=>a==b | .str a,.str b=>a==b |_,_=>false
theorem a7h{A:ai}{s:ae}{y x:V}{u v:Value}(ry:RelV y u)(rx:RelV x v)(fy:pR y=true)(fx:pR x=true):SeqAt.EqAt A s u v (pW y x):=by cases y with
 |bw=>cases ry;cases x with |bw=>cases rx;exact SeqAt.EqAt.same _ |bl b=>cases rx;exact SeqAt.EqAt.none_bool b |int b=>obtain⟨t,rfl⟩:=rx;exact SeqAt.EqAt.none_int b t |str b=>obtain⟨t,rfl⟩:=rx;exact SeqAt.EqAt.none_str b t |_=>exact absurd (show false=true from fx) dN
 |bl a=>cases ry;cases x with |bw=>cases rx;exact SeqAt.EqAt.bool_none a |bl b=>cases rx;exact SeqAt.EqAt.bool_bool a b |int b=>obtain⟨t,rfl⟩:=rx;exact SeqAt.EqAt.bool_int a b t |str b=>obtain⟨t,rfl⟩:=rx;exact SeqAt.EqAt.bool_str a b t |_=>exact absurd (show false=true from fx) dN
 |int a=>obtain⟨t',rfl⟩:=ry;cases x with |bw=>cases rx;exact SeqAt.EqAt.int_none a t' |bl b=>cases rx;exact SeqAt.EqAt.int_bool a t' b |int b=>obtain⟨t,rfl⟩:=rx;exact SeqAt.EqAt.int_int a t' b t |str b=>obtain⟨t,rfl⟩:=rx;exact SeqAt.EqAt.int_str a t' b t |_=>exact absurd (show false=true from fx) dN
 |str a=>obtain⟨t',rfl⟩:=ry;cases x with |bw=>cases rx;exact SeqAt.EqAt.str_none a t' |bl b=>cases rx;exact SeqAt.EqAt.str_bool a t' b |int b=>obtain⟨t,rfl⟩:=rx;exact SeqAt.EqAt.str_int a t' b t |str b=>obtain⟨t,rfl⟩:=rx;exact SeqAt.EqAt.str_str a t' b t |_=>exact absurd (show false=true from fx) dN
 |_=>exact absurd (show false=true from fy) dN
def ow(x:V)(u:Value):Bool:=match u with | .none=>pW .bw x | .bool b=>pW (.bl b) x | .int i _=>pW (.int i) x | .str z _=>pW (.str z) x |_=>false
theorem RK{x y:V}{u:Value}(r:RelV y u)(f:pR y=true):ow x u=pW y x:=by cases y with |bw=>cases r;rfl |bl b=>cases r;rfl |int i=>obtain⟨t,rfl⟩:=r;rfl |str z=>obtain⟨t,rfl⟩:=r;rfl |_=>exact absurd (show false=true from f) dN
theorem Jk{x:V}:∀{xs:List V}{us:List Value},Vals xs us->xs.all pR=true->us.any (ow x)=xs.any λy=>pW y x |_,_,.nil,_=>rfl |y::xs,u::us,.cons r t,f=>by rw[vG,eH]at f;rw[vF,vF,RK r f.1,Jk t f.2]
theorem Gm{A:ai}{s:ae}{x:V}{v:Value}(rx:RelV x v)(fx:pR x=true):∀{xs:List V}{us:List Value},Vals xs us->xs.all pR=true->∀u∈us,SeqAt.EqAt A s u v (ow x u)
 |_,_,.nil,_=>λu hu=>by cases hu |y::xs,u::us,.cons r t,f=>λu' hu=>by
  rw[vG,eH]at f;rcases cj.mp hu with rfl|hu
  ·rw[RK r f.1];exact a7h r rx f.1 fx
  ·exact Gm rx fx t f.2 u' hu
def AF(x:V)(xs:List V):Bool:=xs.any λy=>pW y x
inductive aaG(K:aa)(neg:Bool)(x:V)(y:V)(H:Hp)(Q:VK):Prop |mk (p:_)(xs:_)(h0:y= .ref p)(h1:(aJ K H p xs\/aZ K H p xs))(h2:pR x=true)(h3:xs.all pR=true)(h4:Q (.bl (if neg then !AF x xs else AF x xs)) H)
def O7(K:aa)(neg:Bool):R2:=λx y H Q=>aaG K neg x y H Q
theorem Yl:cO X (compareOp .NotIn) (O7 X.K true):=by
 intro ao s O H x y v u Q I rx ry h;obtain⟨p,xs,rfl,hq,fx,fs,q⟩:=h;cases ry;rcases hq with hq|hq
 ·obtain⟨its,r,pl,hz⟩:=I.list hq
  refine SeqAt.notIn_listAt (ow x) pl.isList (λw hw=>Gm rx fx r fs w (by simpa using hw)) ⟨.bl _,H,I,Z,?_⟩;rw[show its.toArray.any (ow x)=its.any (ow x) by simp,Jk r fs];exact q
 ·obtain⟨its,r,pl,hz⟩:=I.tuple hq
  refine SeqAt.notIn_tupleAt (ow x) pl (λw hw=>Gm rx fx r fs w (by simpa using hw)) ⟨.bl _,H,I,Z,?_⟩;rw[show its.toArray.any (ow x)=its.any (ow x) by simp,Jk r fs];exact q
theorem a8a:eF X (.builtin "len") (λxs H Q=>∃p ys,xs=[.ref p]/\(aJ X.K H p ys\/aZ X.K H p ys)/\Q (.int ys.length) H):=by
 intro ao s O H xs us Q I r h;obtain⟨p,ys,rfl,hq,q⟩:=h;obtain⟨u,rfl,rx⟩:=vals1 r;cases rx;have hn:=rF;rcases hq with hq|hq
 ·obtain⟨its,r',pl,hz⟩:=I.list hq
  have hlen:=r'.length;exact Calls.call_len_list pl.isList (by simp only[dR]<;>lia) ⟨.int ys.length,H,I.tok _,⟨s.toks+1,by rw[dR,hlen]⟩,q⟩
 ·obtain⟨its,r',pl,hz⟩:=I.tuple hq
  have hlen:=r'.length;exact len_tuple pl (by simp only[dR]<;>lia) ⟨.int ys.length,H,I.tok _,⟨s.toks+1,by rw[dR,hlen]⟩,q⟩
theorem a89:eF X (.builtin "len") (λxs H Q=>∃z,xs=[.str z]/\z.length<=sizeLine/\Q (.int z.length) H):=by intro ao s O H xs us Q I r h;obtain⟨z,rfl,hz,q⟩:=h;obtain⟨u,rfl,t,rfl⟩:=vals1 r;have hn:=rF;exact len_str aw ⟨.int z.length,H,I.tok _,⟨_,Z⟩,q⟩
theorem eF.or{f:Value}{r r':List V->Hp->VK->Prop}(h:eF X f r)(h':eF X f r'):eF X f (λxs H Q=>r xs H Q\/r' xs H Q):=by
 intro ao s O H xs us Q I rs q;rcases q with q|q
 ·exact h ao s O H xs us Q I rs q
 ·exact h' ao s O H xs us Q I rs q
theorem a88:eF X (.type "list") (λxs H Q=>∃p ys,xs=[.ref p]/\(aJ X.K H p ys\/aZ X.K H p ys)/\∀l,H l=none->Q (.ref l) (upd H l (.lst ys))):=by
 intro ao s O H xs us Q I r h;obtain⟨p,ys,rfl,hq,q⟩:=h;obtain⟨u,rfl,rx⟩:=vals1 r;cases rx;have fin:∀(its:List Value),Vals ys its->ys.length<=sizeLine->∀(h':Heap)(c':Nat),(∀b o',s.heap.get? b=some o'->h'.get? b=some o')->h'.get? s.heap.objs.size=some {cls:=.type "list",dict:=none,data:=.seq its.toArray c',slots:=#[]}->EP X ao O Q (.ref s.heap.objs.size) {s with heap:=h'}:=λits r' hz h' c' kp e=>⟨.ref s.heap.objs.size,_,I.laid (t':=s.toks) kp (bO _) (show gf X.prog X.w _ h' _ (.lst ys)from⟨hz,its,c',r',e⟩),Z,q _ (I.bB.fresh (bO _))⟩;rcases hq with hq|hq
 ·obtain⟨its,r',pl,hz⟩:=I.list hq
  have hlen:=r'.length;obtain⟨o,ho,hc,n,hd⟩:=pl.isList;exact call_list_seq p (.inl Z) ho hc hd (λh' c' kp e=>fin its r' hz h' c' kp e) (by simp only[dR]<;>lia)
 ·obtain⟨its,r',pl,hz⟩:=I.tuple hq
  have hlen:=r'.length;obtain⟨o,ho,hc,n,hd⟩:=pl;exact call_list_seq p (.inr Z) ho hc hd (λh' c' kp e=>fin its r' hz h' c' kp e) (by simp only[dR]<;>lia)
theorem a85:eF X (.type "tuple") (λxs H Q=>∃p ys,xs=[.ref p]/\((aJ X.K H p ys/\∀l,H l=none->Q (.ref l) (upd H l (.tup ys)))\/(aZ X.K H p ys/\Q (.ref p) H))):=by
 intro ao s O H xs us Q I r h;obtain⟨p,ys,rfl,h⟩:=h;obtain⟨u,rfl,rx⟩:=vals1 r;cases rx;rcases h with⟨hq,q⟩|⟨hq,q⟩
 ·obtain⟨its,r',pl,hz⟩:=I.list hq
  have hlen:=r'.length;refine call_tuple_list pl.isList (λh' kp=>?_) (by simp only[dR]<;>lia);have I1:Inv X ao O H {s with heap:=h'}:=I.kept (t':=s.toks) kp;have I2:Inv X ao O (upd H h'.objs.size (.tup ys)) {s with heap:=h'.push {cls:=.type "tuple",data:=.seq its.toArray}}:=I1.laid (t':=s.toks) (λb o e=>cC _ e) (bO _) (show gf X.prog X.w _ _ _ (.tup ys)from⟨hz,its,r',IsTup.new _ _⟩);exact⟨.ref h'.objs.size,_,I2,Z,q _ (I1.bB.fresh (bO _))⟩
 ·obtain⟨its,r',pl,hz⟩:=I.tuple hq
  exact call_tuple_same pl ⟨.ref p,H,I,Z,q⟩
def Kg(K:aa)(T:String)(x:V)(H:Hp):Prop:=match x with | .str _=>T="str" | .int _=>T="int" | .ref p=>(T="list"/\∃xs,aJ K H p xs)\/(T="tuple"/\∃o,K.lookup p=some o/\o.cls= .type "tuple"/\o.dict=none)\/ (T="dict"/\((∃dI,H p=some (.dK dI))\/∃dI,H p=some (.dT dI)))\/(T="set"/\∃S n,H p=some (.set S n)) |_=>False
theorem UZ{ao:List (Addr×Obj)}{O:St}{H:Hp}{s:ae}{T:String}{x:V}{v:Value}(I:Inv X ao O H s)(r:RelV x v)(ty:Kg X.K T x H): s.TypeIs v T/\∀a,v= .ref a->∃ob,s.heap.get? a=some ob/\ob.dict=none:=by cases x with
 |str z=>obtain⟨t,rfl⟩:=r;cases(show T="str" from ty);exact⟨typeIs_str s z t,λ_ e=>nomatch e⟩ |int i=>obtain⟨t,rfl⟩:=r;cases(show T="int" from ty);exact⟨typeIs_int s i t,λ_ e=>nomatch e⟩ |ref p=>
  cases r;rcases ty with⟨rfl,xs,hq⟩|⟨rfl,o,hk,hc,hd⟩|⟨rfl,hk⟩|⟨rfl,S,n,hk⟩
  ·obtain⟨its,_,pl,_⟩:=I.list hq
   refine⟨pl.isList.typeIs,λa e=>?_⟩;cases e;obtain⟨o,n,e,c,hd,_⟩:=pl;exact⟨o,e,hd⟩
  ·refine⟨⟨o,I.fb p o hk,hc⟩,λa e=>?_⟩
   cases e;exact⟨o,I.fb _ o hk,hd⟩
  ·have z:∃o,s.heap.get? p=some o/\o.ExactDict:=by
    rcases hk with⟨dI,hk⟩|⟨dI,hk⟩
    ·obtain⟨_,_,_,_,o,_,_,e,ex,_⟩:=I.bB p _ hk
     exact⟨o,e,ex⟩
    ·obtain⟨_,_,_,_,o,_,_,e,ex,_⟩:=I.bB p _ hk
     exact⟨o,e,ex⟩
   obtain⟨o,e,ex⟩:=z;refine⟨⟨o,e,ex.1⟩,λa e2=>?_⟩;cases e2;exact⟨o,e,ex.2.1⟩
  ·obtain⟨o,_,_,_,e,ex,_⟩:=I.bB p _ hk
   refine⟨⟨o,e,ex.1⟩,λa e2=>?_⟩;cases e2;exact⟨o,e,ex.2.1⟩ |_=>exact False.elim ty
def oS(K:aa)(T:String)(r:V->List V->Hp->VK->Prop)(to:TE)(t:TA):TE:=λO H Q=>to O H λx H1=>Kg K T x H1/\t O H1 λxs H2=>r x xs H2 Q
variable {o e:Expr}{es:List Expr}{to:TE}{t:TA}{name:Str}{apos cn:Pos}{T id:String}{r:V->List V->Hp->VK->Prop}
theorem qU(pa:PlainAttrs T)(slot:Slot T name id)(GS:typeOf (.builtin id)=pure (.type "method_descriptor"))(hm:vk X id r)(ho:PE X o to)(ha:PA X (e::es) t) (iX:autoParam (attributeBase o name X.env (eval o X.env)=eval o X.env) r8_._auto_1) (iW:autoParam (((backTo cn (starEach (e::es) X.env)).all (λx=>!x.1)&&(backToKw cn (keywordEach [] X.env)).all (λx=>x.1.isSome) &&decide ((e::es).length+([]:List Keyword).length+(if([]:List Keyword).isEmpty then 0 else 1)<30))=true) r8_._auto_1) (iV:autoParam ((apos.endLine==cn.line)=true) r8_._auto_1)(hs:autoParam (starEach (e::es) X.env=(false,eval e X.env)::starEach es X.env) r8_._auto_1)(iS:autoParam ((backTo cn (starEach es X.env)).any (·.1)=false) r8_._auto_1): PE X (.Call (.Attribute o name apos) (e::es) [] cn) (oS X.K T r to t):=by intro ao s O H Q I h;refine wpAny_Call_method_late iX iW iV Z (ba (ho ao s O H _ I h) λv s1 ⟨x,H1,I1,r1,ty,q1⟩=>?_);obtain⟨h1,h2⟩:=UZ I1 r1 ty;refine⟨T,id,pa,slot,GS,h1,h2,?_⟩;have hA:=ha cn ao s1 O H1 _ I1 q1;rw[hs]at hA⊢;refine Calls.callWith_builtin (by show(false||(backTo cn (starEach es X.env)).any (·.1))=false;rw[iS]<;>rfl) (Calls.evalArgs_plain ?_);exact ba hA λus s2 ⟨vs,H2,I2,r2,q2⟩=>hm ao s2 O H2 x vs v us Q I2 r1 r2 q2
end
def Ts(X:Cx)(id:String)(r:V->List V->Hp->VK->Prop):Prop:=∀(ao:List (Addr×Obj))(s:ae)(O:St)(H:Hp)(x:V)(xs:List V)(v:Value)(us:List Value)(Q:VK),Inv X ao O H s->RelV x v->Vals xs us->r x xs H Q->wpAny (model X.prog X.w) X.A (call (.builtin id) (v::us)) (EP X ao O Q) X.xe s
theorem Vals.one:∀{x:V}{us:List Value},Vals [x] us->∃u,us=[u]/\RelV x u |_,_,.cons r .nil=>⟨_,Z,r⟩
section
variable {X:Cx}{ao:List (Addr×Obj)}{O:St}{H:Hp}{s:ae}{l b:Addr}{xs ys zs:List V}
theorem Inv.Pl{its its':List Value}{n:Nat}{f:Array Value->Array Value}{t':Nat}(I:Inv X ao O H s)(hH:H l=some (.lst xs)) (e:s.heap.get? l=some {cls:=.type "list",data:=.seq its.toArray n})(hf:f its.toArray=its'.toArray)(hv:Vals ys its')(hz:ys.length<=sizeLine): Inv X ao O (upd H l (.lst ys)) {s with heap:=s.heap.update l (Obj.mapSeq f),toks:=t'}:=by have q:=PySem.IsL.update e f;rw[hf]at q;refine I.write (x:=l) (e:=l) (by rw[hH];exact trivial) (.inl Z) (λb' u hb hu=>(yL s.heap (Obj.mapSeq f) (iK hb)).trans hu) ⟨_,q⟩ ?_;exact⟨hz,its',_,hv,q⟩
theorem Inv.Pu{its:List Value}{t':Nat}(I:Inv X ao O H s)(hv:Vals ys its)(hz:ys.length<=sizeLine): Inv X ao O (upd H s.heap.objs.size (.lst ys)) {s with heap:=s.heap.push {cls:=.type "list",data:=.seq its.toArray},toks:=t'}:=I.laid (λ_ _ q=>cC _ q) (bO _) ⟨hz,its,0,hv,dX _ Z⟩
theorem Inv.Gs(I:Inv X ao O H s)(hH:H l=some (.lst xs)):xs.length<=sizeLine/\∃(its:List Value)(n:Nat),Vals xs its/\xs.length=its.length/\s.heap.get? l=some {cls:=.type "list",data:=.seq its.toArray n}:=by obtain⟨z,its,n,r,e⟩:=I.bB l _ hH;exact⟨z,its,n,r,r.length,e⟩
theorem a0A{n:Nat}(h:n<=sizeLine):Builtin.List.listTooLong n=false:=by unfold Builtin.List.listTooLong;exact dE aw
end
section
variable {X:Cx}
inductive aaN(x:V)(vs:List V)(H:Hp)(Q:VK):Prop |mk (l:_)(xs:_)(y:_)(h0:x= .ref l)(h1:vs=[y])(h2:H l=some (.lst xs))(h3:xs.length<sizeLine)(h4:Q .bw (upd H l (.lst (xs++[y]))))
def O9:V->List V->Hp->VK->Prop:=λx vs H Q=>aaN x vs H Q
theorem Gi:Ts X "list.append" O9:=by
 intro ao s O H x vs v us Q I rx rv h;obtain⟨l,xs,y,rfl,rfl,hH,hz,q⟩:=h;cases rx;obtain⟨u,rfl,ru⟩:=rv.one;obtain⟨z,its,n,r,hl,e⟩:=I.Gs hH;refine sW F.slot_list_append ⟨_,e,Z⟩ F.entry_list_append (F.args_list_append_2 _ _) (PySem.list_append l its.toArray n u (by rw[dR];lia)) ⟨e,?_⟩;refine⟨.bw,_,I.Pl (its':=its++[u]) hH e (by simp) (r.append (.cons ru .nil)) ?_,Z,q⟩;rw[fP,List.length_singleton]
 lia
inductive aaJ(x:V)(vs:List V)(H:Hp)(Q:VK):Prop |mk (l:_)(b:_)(xs:_)(zs:_)(h0:x= .ref l)(h1:vs=[.ref b])(h2:H l=some (.lst xs))(h3:H b=some (.lst zs))(h4:xs.length+zs.length<=sizeLine)(h5:Q .bw (upd H l (.lst (xs++zs))))
def O8:V->List V->Hp->VK->Prop:=λx vs H Q=>aaJ x vs H Q
theorem a1c:Ts X "list.extend" O8:=by
 intro ao s O H x vs v us Q I rx rv h;obtain⟨l,b,xs,zs,rfl,rfl,hH,hB,hz,q⟩:=h;cases rx;obtain⟨u,rfl,ru⟩:=rv.one;cases ru;obtain⟨z,its,n,r,hl,e⟩:=I.Gs hH;obtain⟨z2,jK,n2,r2,pI,e2⟩:=I.Gs hB;have hsz:its.toArray.size+jK.toArray.size<=sizeLine:=by rw[dR,dR];lia
 have a3z:¬(!its.toArray.isEmpty&&Builtin.List.listTooLong (its.toArray.size+jK.toArray.size))=true:=by rw[a0A hsz,C5];exact dN
 refine sW F.slot_list_extend ⟨_,e,Z⟩ F.entry_list_extend (F.args_list_extend_2 _ _) (AutoSeq1.list_extend_list_list_0 l its.toArray n b jK.toArray n2 a3z (by rw[dR];lia) aw) ⟨e,e2,?_⟩;refine⟨.bw,_,I.Pl (its':=its++jK) hH e (by simp) (r.append r2) ?_,Z,q⟩;rw[fP]
 lia
end
section
variable {prog:af}{w:World}{A:ai}{E:Value->ae->Prop}{s:ae}
end
section
variable {X:Cx}
end
end _L
namespace _AA
open PySem PySem.W PySem.Calls PyProof.Rows
theorem a2B{P:Params}{h:Heap}:∀(ns:List Int)(vs:List Value),WellAll P h vs (ns.map WData.int)->IntsAre vs ns:=by intro ns;induction ns with |nil=>intro vs w;rw[List.map_nil]at w;cases w;exact .nil |cons n ns ih=>intro vs w;rw[qr]at w;cases w with |cons a b=>cases a;exact .cons _ _ (ih _ b)
theorem Wm{l:OpenLaw}{n:Nat}(hn:l.most=some n){P:Params}{h:Heap}{args:List WData}{vals:List Value} (AQ:l.row.toRowW.claim.pre args=true)(rL:WellAll P h vals args): ∃a vs ns,vals=[Value.ref a]/\args=[WData.list (ns.map WData.int)]/\h.get? a=some {cls:=.type "list",data:=.seq vs.toArray}/\IntsAre vs ns/\ns.length<=n:=by
 have hsh:WShape.hasAll [] args [.list .int]=true:=(pre_splitW AQ).1;have hc:l.pre.holds [] {args:=args}=true:=(pre_splitW AQ).2;obtain⟨d,r,rfl,h1,h2⟩:=hasAllW_cons hsh;obtain rfl:=hasAllW_nil h2;obtain⟨xs,rfl,h3⟩:=hasW_list h1;obtain⟨ns,rfl⟩:=items_int h3;have hlen:ns.length<=n:=by
  unfold OpenLaw.pre at hc;have h4:(WTm.not (.lt (.lit (.int (n:Int))) (.len (.arg 0)))).holds [] {args:=[.list (ns.map .int)]}=true:=by have h4:=(holds_andW hc).1;rw[hn]at h4;exact h4
  have h5:=condW_of h4 (w_not (w_lt w_lit (w_len_list (w_arg Z))));rw[bS]at h5;refine Nat.le_of_not_lt λq=>?_;have q':(n:Int)<((ns.length:Nat):Int):=by omega
  first |(rw[cf q']at h5;exact absurd h5 az) |(simp at h5;omega)
 cases rL with |cons w1 w2=>cases w2;cases w1 with |list ho a4r=>exact⟨_,_,ns,Z,Z,ho,a2B ns _ a4r,hlen⟩
theorem XF(l:OpenLaw)(args:List WData):l.row.toRowW.claim.post args (.bool true) args=true:=postW_of (r:=l.row.toRowW) (X:=(true==true)) (show WShape.has [] (.bool true) .bool=true by first|rfl|decide|simp[WShape.has,WShape.arms,WShape.armsAll]) (show(WTm.eq .res (.lit (.bool true))).value [] {args:=args,res:=some (.bool true),after:=args}=some (.bool (true==true))from w_eq_bool (w_res Z) w_lit) rfl
theorem a8t{l:OpenLaw}{n:Nat}{q:af}{loose:List Str}{XP:(bD)->Heap->Prop}{YP:World->Heap->Prop}{d:DefRec} (hn:l.most=some n)(xy:d.params.defaults=[]) (call:∀(w:World)(s₀ s₁:ae)(mg mb:bD)(fa:Addr)(o:Obj)(pm cd doc:Value)(a:Addr)(vs:List Value)(ns:List Int),Ground q loose [] XP w s₀ mg mb s₁.heap->YP w s₁.heap->s₁.heap.get? fa=some o->o.data= .func (docDef d.name d.params d.body d.scope pm cd doc)->s₁.heap.CodeRec cd d.name->mg d.name=some (.ref fa)->s₁.heap.get? a=some {cls:=.type "list",data:=.seq vs.toArray}->IntsAre vs ns->ns.length<=n->s₁.gens=#[]->codeAny (model l.prog w) callerA (.call (.ref fa) ⟨[.ref a],[]⟩) (λr s'=>r= .ok (.ret (.bool true))/\OldK s₁.heap s'.heap/\s'.os=s₁.os/\AllBare s'.gens) s₁): WalkO q loose XP YP l.row.toRowW d [] (λf vs=>PySem.call f vs):=by intro w s₀ s₁ mg mb G Y fa o pm cd doc dV kV ho hd fk hD xp hg args vals as AQ abU hrd rL hlo;obtain rfl:dV= .none:=Dflts.none hD xy;obtain rfl:kV= .none:=Dflts.noKw hD;obtain⟨a,vs,ns,rfl,rfl,Hd,hints,hlen⟩:=Wm hn AQ rL;refine enter_call (vq (call w s₀ s₁ mg mb fa o pm cd doc a vs ns G Y ho (fd_plain hd) fk xp Hd hints hlen hg) λr s' hq=>?_);obtain⟨rfl,h2,h3,h4⟩:=hq;exact⟨.inl ⟨.bool true,.bool true,[],Z,λ_=>rfl,.bool true,XF l _,λ_=>⟨List.Pairwise.nil,λ_ hm=>(nomatch hm)⟩⟩,h2,h3,h4⟩
section
variable {prog:af}{w:World}{A:ai}{E:Value->ae->Prop}{s:ae}{K:Frag}
end
end _AA
namespace _L
open PySem PySem.Spec PyProof.Rows
theorem Kf:∀{vs:List Value}{ns:List Int},IntsAre vs ns->Vals (ns.map V.int) vs |_,_,.nil=>.nil |_,_,.cons n t h=>.cons ⟨t,Z⟩ (Kf h)
def Jv(H:Hp):Prop:=∀b,H b=none\/∃o xs,H b=some (.lA o (.lst xs))
theorem a2e{P:af}{w:World}{K:aa}{mg mb:bD}{CX:iG}{k:Nat}{fa a:Addr}{fd:FuncData}{x:Str}{sp:Sp}{s₁:ae}{vs:List Value}{ns:List Int} (KX:K.In s₁.heap)(Qr:s₁.heap.Ns mainGlobals mg)(hb:s₁.heap.Ns builtinsNs mb)(hbb:∀x:Str,x≠"__name__"->mb x=bootBuiltins x)(a3B:s₁.heap.NoLimit)(hg:s₁.gens=#[]) (ha:s₁.heap.get? a=some {cls:=.type "list",data:=.seq vs.toArray})(hi:IntsAre vs ns)(hl:ns.length<=sizeLine)(hr:cN k callerA) (F:∀au:Heap,K.In au->au.Ns mainGlobals mg->eD P w K mg au CX k fa fd [x] sp)(a4k:∀(s:ae)(u:Value),BindsTo s fd ⟨[u],[]⟩ [(x,u)]) (fe:∀H:Hp,Jv H->aJ K H a (ns.map V.int)->sp [.ref a] H (λv _=>v= .bl true) λ_ _ _=>False) (HY:∀H e s',CX [] H s₁ (λ_ _ _=>False) e s'->False): codeAny (model P w) callerA (.call (.ref fa) ⟨[.ref a],[]⟩) (λr s'=>r= .ok (.ret (.bool true))/\OldK s₁.heap s'.heap/\s'.os=s₁.os/\AllBare s'.gens) s₁:=by
 have rv:=Kf hi;have a26:=hi.length;have core:∀H:Hp,Jv H->aJ K H a (ns.map V.int)->eB P w H s₁.heap->(∀b,H b≠none->b=a)->(H a≠none->K.lookup a=none)->codeAny (model P w) callerA (.call (.ref fa) ⟨[.ref a],[]⟩) (λr s'=>r= .ok (.ret (.bool true))/\OldK s₁.heap s'.heap/\s'.os=s₁.os/\AllBare s'.gens) s₁:=by
  intro H hO hS bB hA hK;have SO:∀{b:Addr}{o:Obj},s₁.heap.get? b=some o->H b=none->(o8 s₁.heap H).get? b=some o:=λe n=>a3U e n;have wO:∀{b:Addr}{o:Obj}{es:Array DictEntry}{ep:Nat},s₁.heap.get? b=some o->o.data= .dict es ep->H b=none:=λ{b o es ep} e d=>by cases q:H b with |none=>rfl |some u=>have e':b=a:=hA b (by rw[q];simp);subst e';rw[ha]at e;cases e;have d':Data.seq vs.toArray _=Data.dict es ep:=d;cases d'
  have Ai:∀{b:Addr}{m:bD},s₁.heap.Ns b m->(o8 s₁.heap H).Ns b m:=λ{b m} ⟨o,es,ep,e,d,r⟩=>⟨o,es,ep,SO e (wO e d),d,r⟩;have QK:K.In (o8 s₁.heap H):=λb o e=>SO (KX b o e) (by cases q:H b with |none=>rfl |some u=>have e':b=a:=hA b (by rw[q];simp);subst e';rw[hK (by rw[q];simp)]at e;cases e);have hM:Mod K mg (o8 s₁.heap H):=⟨QK,Ai Qr,⟨mb,Ai hb,hbb⟩,let⟨mc,h1,h2⟩:=a3B;⟨mc,Ai h1,h2⟩⟩;have e0:oM P w K mg (o8 s₁.heap H) callerA [] s₁ H:=⟨Z,hM,λb o e=>a0n e,Nat.le_of_eq (a3T _ _),trivial,λb hb=>absurd (show b∈([]:List Addr)from hb) (by simp),bB,.of_eq hg⟩;refine vq ((F _ QK (Ai Qr)).run callerA [] s₁ H ⟨[.ref a],[]⟩ [.ref a] [.ref a] _ _ hr e0 (a4k s₁ (.ref a)) (.cons Z .nil) (fe H hO hS)) λr s' h=>?_;cases r with |error e=>exact(HY H e s' h).elim |ok fl=>cases fl with |next=>exact False.elim h |brk=>exact False.elim h |cont=>exact False.elim h |ret u=>obtain⟨v,H',os,bare,un,a3k,r',q⟩:=h;have q':v= .bl true:=q;subst q';obtain rfl:u=Value.bool true:=r';refine⟨Z,OldK.of_keep λb o e=>?_,os,bare⟩;cases q:H b with |none=>exact un.keep b o e q (by intro z;exact absurd (show b∈([]:List Addr)from z) (by simp)) (by simp) |some u=>
   rcases hO b with z|⟨ob,xs,z⟩
   ·rw[q]at z;cases z
   ·have z2:=un.iZ b ob _ z
    obtain⟨e1,_⟩:=bB b _ z;obtain⟨e2,_⟩:=a3k b _ z2;rw[e]at e1;cases e1;exact e2
 cases hk:K.lookup a with |some o=>have e:=KX a o hk;rw[ha]at e;cases e;refine core (λ_=>none) (λ_=>.inl Z) (.inr ⟨_,vs.toArray,_,hk,Z,Z,Z,by rw[dR,a26];exact hl,by simpa using rv⟩) (λb u z=>by have z':(none:Option HO)=some u:=z;cases z') (λb z=>absurd rfl z) λz=>absurd rfl z |none=>
  refine core (λb=>if b=a then some (.lA {cls:=.type "list",data:=.seq vs.toArray} (.lst (ns.map V.int)))else none) (λb=>?_) (.inl (.inr ⟨{cls:=.type "list",data:=.seq vs.toArray},bf Z⟩)) (λb u z=>?_) (λb z=>?_) λ_=>hk
  ·by_cases hb:b=a
   ·exact .inr ⟨_,_,bf hb⟩
   ·exact .inl (bh hb)
  ·by_cases hb:b=a
   ·have z':=(bf hb).symm.trans z
    cases z';subst hb;exact⟨ha,by rw[bS];exact hl,vs,_,rv,ha⟩
   ·have z':=(bh hb).symm.trans z
    cases z'
  ·by_cases hb:b=a
   ·exact hb
   ·exact absurd (bh hb) z
theorem UJ{l:PySem.W.OpenLaw}{n k:Nat}{q:af}{loose:List Str}{XP:(bD)->Heap->Prop}{YP:World->Heap->Prop}{d:DefRec}{K:Params->aa}{CX:World->iG}{sp:World->Sp}{x:Str} (hn:l.most=some n)(uI:n<=sizeLine)(xy:d.params.defaults=[])(hr:cN k callerA) (hY:∀(w:World)(h:Heap),YP w h->(K w.params).In h) (F:∀(w:World)(mg:bD)(fa:Addr)(h:Heap),(K w.params).In h->h.Ns mainGlobals mg->mg d.name=some (.ref fa)->∃fd:FuncData,(∀(s:ae)(u:Value),BindsTo s fd ⟨[u],[]⟩ [(x,u)])/\∀au:Heap,(K w.params).In au->au.Ns mainGlobals mg->eD l.prog w (K w.params) mg au (CX w) k fa fd [x] (sp w)) (fe:∀(w:World)(H:Hp)(a:Addr)(ns:List Int),ns.length<=n->Jv H->aJ (K w.params) H a (ns.map V.int)->sp w [.ref a] H (λv _=>v= .bl true) λ_ _ _=>False) (HY:∀(w:World)(H:Hp)(s:ae)(e:Value)(s':ae),CX w [] H s (λ_ _ _=>False) e s'->False): PySem.W.WalkO q loose XP YP l.row.toRowW d [] (λf vs=>PySem.call f vs):=by refine _AA.a8t hn xy λw s₀ s₁ mg mb fa o pm cd doc a vs ns G Y ho hd fk xp Hd hints hlen hg=>?_;have KX:=hY w _ Y;obtain⟨fd,hb,hF⟩:=F w mg fa _ KX G.T.g xp;exact a2e KX G.T.g G.T.b G.T.builtins G.T.nolimit hg Hd hints (gC hlen uI) hr hF hb (λH hO hS=>fe w H a ns hlen hO hS) λH e s'=>HY w H s₁ e s'
def inClass(s:Stmt)(j:Nat):Stmt:=match s with | .ClassDef _ _ _ body _ _ _ _ _ _ _=>body.getD j (.Pass ⟨0,0,0,0⟩) |_=>.Pass ⟨0,0,0,0⟩
def j8(s:Stmt):Arguments:=match s with | .FunctionDef _ a _ _ _ _ _ _ _ _=>a |_=>{posonlyargs:=[],args:=[],vararg:=none,kwonlyargs:=[],kw_defaults:=[],kwarg:=none,defaults:=[]}
def fg(s:Stmt):List Stmt:=match s with | .FunctionDef _ _ b _ _ _ _ _ _ _=>b |_=>[]
def aP(s:Stmt):Scope:=match s with | .FunctionDef _ _ _ _ _ _ sc _ _ _=>sc |_=>{kind:=.function,names:=[],isGenerator:=false,isCoroutine:=false}
abbrev gW:iG:=λ_ _ _ _ _ _=>False
abbrev E0:XK:=λ_ _ _=>False
theorem A9{X:Cx}:Passes gW X E0:=λ_ _ _ _ _ _ _ h=>h.elim
structure jT(K:aa)(x qual:Str)(st:Stmt)(f:Addr)(fd:FuncData):Prop where
 ex:∃(oc:Value)(od:Option Addr)(kV doc pm:Value)(an:Option Addr)(aH ct:Value)(fw:Array (Option Value)),fd=PySem.W.fnOf x qual (j8 st) (fg st) (aP st) .none kV doc pm an aH ct/\K.lookup f=some ⟨oc,od,.func fd,fw⟩/\PySem.W.codeIn K aH qual=true
 kp:PySem.W.keepIn K (.ref f)=true
section
variable {P:af}{w:World}{K:aa}{mg:bD}{au:Heap}
theorem jT.ok{x qual:Str}{st:Stmt}{f:Addr}{fd:FuncData}{N ps:List Str}{k:Nat}{sp:Sp}(F:jT K x qual st f fd)(S:aW N ps (aP st))(len:∀vs H Q E,sp vs H Q E->vs.length=ps.length) (fM:∀(aH:Value)(A:ai)(outer:List Env)(s:ae)(H:Hp)(vs:List V)(Q:VK)(E:XK),cN k (A.deeper (envOfC qual (aP st) s.heap.objs.size f aH))->sp vs H Q E->∃t,fz (gy gW P w K mg au N qual (aP st) f aH A outer s H E).rj (fg st) t/\t {nx:=λ_ H'=>Q .bw H',rt:=Q} (start N vs) H):eD P w K mg au gW (k+1) f fd ps sp:=by obtain⟨oc,od,kV,doc,pm,an,aH,ct,fw,rfl,lk,fk⟩:=F.ex;refine Ip lk fk S len λA outer s H vs Q E hr fe=>?_;obtain⟨t,h,q⟩:=fM aH A outer s H vs Q E hr fe;exact⟨t,h.rj,q⟩
theorem jT.binds{x qual:Str}{st:Stmt}{f:Addr}{fd:FuncData}{ps:List Str}(F:jT K x qual st f fd) (h:∀(kV doc pm:Value)(an:Option Addr)(aH ct:Value)(us:List Value),us.length=ps.length->bindArgs (PySem.W.fnOf x qual (j8 st) (fg st) (aP st) .none kV doc pm an aH ct) ⟨us,[]⟩=pure (ps.zip us)):Binds K fd ps []:=by obtain⟨oc,od,kV,doc,pm,an,aH,ct,fw,rfl,lk,fk⟩:=F.ex;exact .all (h kV doc pm an aH ct)
theorem Ii{x qual:Str}{st:Stmt}{f:Addr}{oc:Value}{od an:Option Addr}{fw:Array (Option Value)}{kV doc pm aH ct:Value}(l:K.lookup f=some ⟨oc,od,.func (PySem.W.fnOf x qual (j8 st) (fg st) (aP st) .none kV doc pm an aH ct),fw⟩) (c:PySem.W.codeIn K aH qual=true)(k:PySem.W.keepIn K (.ref f)=true):jT K x qual st f (PySem.W.fnOf x qual (j8 st) (fg st) (aP st) .none kV doc pm an aH ct):=⟨⟨oc,od,kV,doc,pm,an,aH,ct,fw,Z,l,c⟩,k⟩
end
section
variable {X:Cx}
theorem pv(i:Nat){x:Str}{pos:Pos}(hN:autoParam (X.N[i]? =some x) r8_._auto_1)(hv:autoParam (BC X.env.scope x) k8_._auto_1)(hd:autoParam ((x==("__debug__":Str))=false) q8_._auto_1) (fk:autoParam ((x==("__classdict__":Str))=false) q8_._auto_1):PE X (.Name x pos) (tI i):=Oh hN hv hd fk
end
theorem aY{A B:Prop}(h:B):if false=true then A else B:=by rw[bh dN];exact h
theorem bG{A B:Prop}(h:A):if true=true then A else B:=by rw[bf rfl];exact h
theorem fc{c A B:Prop}[Decidable c](h1:c->A)(h2:¬c->B):if c then A else B:=by
 by_cases h:c
 ·rw[bf h]
  exact h1 h
 ·rw[bh h]
  exact h2 h
def aD(H H':Hp):Prop:=∀b o,H b=some o->H' b=some o
theorem aD.refl(H:Hp):aD H H:=λ_ _ h=>h
theorem aD.trans{H H1 H2:Hp}(a:aD H H1)(b:aD H1 H2):aD H H2:=λc o h=>b c o (a c o h)
theorem aD.free{H H':Hp}(e:aD H H'){l:Addr}(h:H' l=Option.none):H l=Option.none:=by cases q:H l with |none=>rfl |some o=>rw[e l o q]at h;cases h
theorem aD.seq{K:aa}{H H':Hp}{a:Addr}{xs:List V}(e:aD H H')(h:aJ K H a xs):aJ K H' a xs:=by
 rcases h with(h|⟨o,h⟩)|h
 ·exact .inl (.inl (e _ _ h))
 ·exact .inl (.inr ⟨o,e _ _ h⟩)
 ·exact .inr h
def Wd (i:Int):Prop:=i.natAbs<2^5000
theorem Wd.bits{i:Int}(h:Wd i):Builtin.Int.intBits i<=2^20:=gC (PyProof.Rows.intBits_le h) az
theorem Wd.log{i:Int}(h:Wd i):i.natAbs.log2<9000:=by
 by_cases e:i.natAbs=0
 ·rw[e];decide
 ·have h1:i.natAbs.log2<5000:=(Nat.log2_lt e).mpr h
  lia
section
variable {X:Cx}
theorem uh:cO X (binaryOp .FloorDiv) (rI (λ_ j=>0<j/\Wd j) λi j=>.int (i/j)):=wI λi j _ _ _ _ _ hc q=>by have h1:(0:Int)<j:=hc.1;exact floordiv_int aw (by rw[Int.fdiv_eq_ediv_of_nonneg i aw];exact q) (.inl (PyProof.noPylong_of_log2 hc.2.log))
theorem OE:cO X (binaryOp .FloorDiv) (rI (λ_ j=>j≠0/\Wd j) λi j=>.int (i.fdiv j)):=wI λ_ _ _ _ _ _ _ hc q=>floordiv_int hc.1 q (.inl (PyProof.noPylong_of_log2 hc.2.log))
end
def sN(K:aa)(H:Hp)(x:V)(T:String):Prop:=match x with | .bw=>T="NoneType" | .bl _=>T="bool" | .int _=>T="int" | .str _=>T="str" | .ref a=>(T="list"/\∃xs,aJ K H a xs)\/(T="tuple"/\∃xs,aZ K H a xs) |_=>False
def iM(T n:String):Bool:=T==n||(T=="bool"&&n=="int")
def yZ:List String:=["NoneType","bool","int","str","list","tuple"]
def vN:List String:=["bool","int","str","list","tuple"]
theorem PV{K:aa}{T n:String}(h1:T∈yZ)(h2:n∈vN):PySem.W.kitOne K (.type T) (.type n)=some (iM T n):=by
 have all:yZ.all (λT=>vN.all λn=>PySem.W.kitOne [] (.type T) (.type n)==some (iM T n))=true:=by decide+kernel
 have a1:=fV.mp all T h1;have a2:=fV.mp a1 n h2;have e:PySem.W.kitOne K (.type T) (.type n)=PySem.W.kitOne [] (.type T) (.type n):=by unfold PySem.W.kitOne PySem.W.kitCls PySem.W.subIn;rfl
 rw[e];exact fi.mp a2
section
variable {X:Cx}
theorem sN.mem{K:aa}{H:Hp}{x:V}{T:String}(h:sN K H x T):T∈yZ:=by cases x with |bw=>cases(show T="NoneType" from h);decide |bl b=>cases(show T="bool" from h);decide |int b=>cases(show T="int" from h);decide |str b=>cases(show T="str" from h);decide |ref a=>rcases(show(T="list"/\∃xs,aJ K H a xs)\/(T="tuple"/\∃xs,aZ K H a xs)from h)with⟨e,_⟩|⟨e,_⟩<;>cases e<;>decide |_=>exact(show False from h).elim
theorem PX{ao:List (Addr×Obj)}{s:ae}{O:St}{H:Hp}{x:V}{u:Value}{T:String}(I:Inv X ao O H s)(rx:RelV x u)(ty:sN X.K H x T): ∃P:Heap->Prop,PySem.W.KitX X.K u (.type T) P/\P s.heap/\u≠ .builtin "__main__.__loader__#opaque":=by cases x with
 |bw=>cases(show T="NoneType" from ty);cases(show u=Value.none from rx);exact⟨_,PySem.W.kitx_none,True.intro,λz=>nomatch z⟩ |bl b=>cases(show T="bool" from ty);cases(show u=Value.bool b from rx);exact⟨_,PySem.W.kitx_bool,True.intro,λz=>nomatch z⟩ |int b=>cases(show T="int" from ty);obtain⟨t,q⟩:=(show∃t,u=Value.int b t from rx);cases q;exact⟨_,PySem.W.kitx_int,True.intro,λz=>nomatch z⟩ |str b=>cases(show T="str" from ty);obtain⟨t,q⟩:=(show∃t,u=Value.str b t from rx);cases q;exact⟨_,PySem.W.kitx_str,True.intro,λz=>nomatch z⟩ |ref a=>
  cases(show u=Value.ref a from rx);rcases(show(T="list"/\∃xs,aJ X.K H a xs)\/(T="tuple"/\∃xs,aZ X.K H a xs)from ty)with⟨e,xs,hx⟩|⟨e,xs,hx⟩
  ·cases e
   obtain⟨its,r,⟨o,n,h1,h2,_⟩,_⟩:=I.list hx;exact⟨_,PySem.W.kitx_list,⟨o,h1,h2⟩,λz=>nomatch z⟩
  ·cases e
   obtain⟨its,r,⟨o,h1,h2,_⟩,_⟩:=I.tuple hx;exact⟨_,PySem.W.kitx_tuple,⟨o,h1,h2⟩,λz=>nomatch z⟩ |_=>exact(show False from ty).elim
inductive aaB(K:aa)(xs:List V)(H:Hp)(Q:VK):Prop |mk (x:_)(T:_)(n:_)(b:_)(h0:xs=[x,.ty n])(h1:sN K H x T)(h2:n∈vN)(h3:iM T n=b)(h4:Q (.bl b) H)
def Fx(K:aa):List V->Hp->VK->Prop:=λxs H Q=>aaB K xs H Q
theorem a8c:eF X (.builtin "isinstance") (Fx X.K):=by intro ao s O H xs us Q I r h;obtain⟨x,T,n,b,rfl,ty,hn,rfl,q⟩:=h;obtain⟨u,c,rfl,rx,rc⟩:=vals2 r;cases(show c=Value.type n from rc);obtain⟨P,acv,p,hx⟩:=PX I rx ty;exact PySem.W.kia_one acv I.fb p (PV ty.mem hn) hx λtk=>⟨.bl (iM T n),H,I.tok _,Z,q⟩
inductive aaA(K:aa)(xs:List V)(H:Hp)(Q:VK):Prop |mk (x:V)(T:String)(p:Addr)(ns:List String)(b:Bool)(h0:xs=[x,.ref p])(h1:H p=some (.tup (ns.map V.ty)))(h2:sN K H x T)(h3:(∀n∈ns,n∈vN))(h4:ns.any (iM T)=b)(h5:Q (.bl b) H)
def Fw(K:aa):List V->Hp->VK->Prop:=λxs H Q=>aaA K xs H Q
theorem PU{K:aa}{T:String}(h1:T∈yZ):∀{ns:List String},(∀n∈ns,n∈vN)->PySem.W.kitAny K (.type T) (ns.map Value.type)=some (ns.any (iM T)) |[],_=>rfl |n::r,h=>by have e:=PV (K:=K) h1 (h n (JW ..));have ih:=PU (K:=K) h1 (ns:=r) λm hm=>h m (vA _ hm);rw[qr,PySem.W.kitAny,e,vF];cases iM T n with |true=>rfl |false=>simpa using ih
theorem Kd:∀{ns:List String}{us:List Value},Vals (ns.map V.ty) us->us=ns.map Value.type |[],_,.nil=>rfl |n::r,_,.cons q t=>by cases(show _=Value.type n from q);rw[Kd t];rfl
theorem a8b:eF X (.builtin "isinstance") (Fw X.K):=by intro ao s O H xs us Q I r h;obtain⟨x,T,p,ns,b,rfl,hp,ty,hn,rfl,q⟩:=h;obtain⟨u,c,rfl,rx,rc⟩:=vals2 r;cases(show c=Value.ref p from rc);obtain⟨P,acv,pp,hx⟩:=PX I rx ty;obtain⟨_,its,rv,⟨cls,dd,dt,sl⟩,h1,h2,n,h3⟩:=(show gf X.prog X.w H s.heap p (.tup (ns.map V.ty))from I.bB p _ hp);simp only at h2 h3;subst h2 h3;have e:=Kd rv;subst e;exact PySem.W.kia_tup acv I.fb pp h1 (PU ty.mem hn) hx λtk=>⟨.bl _,H,I.tok _,Z,q⟩
end
mutual
def RD(K:aa)(H:Hp):V->ah->Prop |x,.none=>x= .bw |x,.bool b=>x= .bl b |x,.int i=>x= .int i |x,.str y=>x= .str y |x,.list ds=>∃a xs,x= .ref a/\aJ K H a xs/\aL K H xs ds |x,.tuple ds=>∃a xs,x= .ref a/\aZ K H a xs/\aL K H xs ds |_,.dict _=>False
def aL (K:aa)(H:Hp):List V->List ah->Prop |xs,[]=>xs=[] |xs,d::ds=>∃y ys,xs=y::ys/\RD K H y d/\aL K H ys ds
end
section
variable {X:Cx}
mutual
theorem RD.reads{ao:List (Addr×Obj)}{s:ae}{O:St}{H:Hp}(I:Inv X ao O H s):∀{x:V}{u:Value}(d:ah),RelV x u->RD X.K H x d->∃as,Reads s.heap u d as |x,u,.none,r,h=>by cases(show x= .bw from by simpa[RD]using h);cases(show u=Value.none from r);exact⟨_,.none⟩ |x,u,.bool b,r,h=>by cases(show x= .bl b from by simpa[RD]using h);cases(show u=Value.bool b from r);exact⟨_,.bool b⟩ |x,u,.int i,r,h=>by cases(show x= .int i from by simpa[RD]using h);obtain⟨t,q⟩:=(show∃t,u=Value.int i t from r);cases q;exact⟨_,.int i t⟩ |x,u,.str y,r,h=>by cases(show x= .str y from by simpa[RD]using h);obtain⟨t,q⟩:=(show∃t,u=Value.str y t from r);cases q;exact⟨_,.str y t⟩ |x,u,.list ds,r,h=>by rw[RD]at h;obtain⟨a,xs,rfl,hx,hd⟩:=h;cases(show u=Value.ref a from r);obtain⟨its,rv,⟨o,n,h1,h2,h3,h4⟩,_⟩:=I.list hx;obtain⟨as,q⟩:=aL.reads I ds rv hd;exact⟨_,.list h1 h2 h4 (by simpa using q)⟩ |x,u,.tuple ds,r,h=>by rw[RD]at h;obtain⟨a,xs,rfl,hx,hd⟩:=h;cases(show u=Value.ref a from r);obtain⟨its,rv,⟨o,h1,h2,n,h4⟩,_⟩:=I.tuple hx;obtain⟨as,q⟩:=aL.reads I ds rv hd;exact⟨_,.tuple h1 h2 h4 (by simpa using q)⟩ |x,u,.dict _,r,h=>by simp[RD]at h
theorem aL.reads {ao:List (Addr×Obj)}{s:ae}{O:St}{H:Hp}(I:Inv X ao O H s):∀{xs:List V}{us:List Value}(ds:List ah),Vals xs us->aL X.K H xs ds->∃as,ReadsAll s.heap us ds as |xs,us,[],r,h=>by cases(show xs=[]from by simpa[aL]using h);cases r;exact⟨_,.nil⟩ |xs,us,d::ds,r,h=>by rw[aL]at h;obtain⟨y,ys,rfl,h1,h2⟩:=h;cases r with |cons ra rb=>obtain⟨as,q⟩:=RD.reads I d ra h1;obtain⟨bs,q'⟩:=aL.reads I ds rb h2;exact⟨_,.cons q q'⟩
end
inductive aaK(K:aa)(x:V)(y:V)(H:Hp)(Q:VK):Prop |mk (d:_)(e:_)(h0:RD K H x d)(h1:RD K H y e)(h2:SeqAt.shaped d=true)(h3:SeqAt.shaped e=true)(h4:Q (.bl (PyData.eqv d e)) H)
def Fy(K:aa):R2:=λx y H Q=>aaK K x y H Q
inductive aav(K:aa)(x:V)(y:V)(H:Hp)(Q:VK):Prop |mk (d:_)(e:_)(h0:RD K H x d)(h1:RD K H y e)(h2:SeqAt.shaped d=true)(h3:SeqAt.shaped e=true)(h4:Q (.bl (!PyData.eqv d e)) H)
def Ft(K:aa):R2:=λx y H Q=>aav K x y H Q
theorem Yr(hu:X.A.units+64<cLine):cO X (compareOp .Eq) (Fy X.K):=by intro ao s O H x y v u Q I rx ry h;obtain⟨d,e,hd,he,sd,se,q⟩:=h;obtain⟨as,ra⟩:=RD.reads I d rx hd;obtain⟨bs,rb⟩:=RD.reads I e ry he;exact eq_dataH ra rb sd se hu ⟨.bl _,H,I,Z,q⟩
theorem Yn(hu:X.A.units+64<cLine):cO X (compareOp .NotEq) (Ft X.K):=by intro ao s O H x y v u Q I rx ry h;obtain⟨d,e,hd,he,sd,se,q⟩:=h;obtain⟨as,ra⟩:=RD.reads I d rx hd;obtain⟨bs,rb⟩:=RD.reads I e ry he;exact ne_dataH ra rb sd se hu ⟨.bl _,H,I,Z,q⟩
end
theorem aD.new{H:Hp}{t:Addr}{o:HO}(ht:H t=none):aD H (upd H t o):=λb o' e=>by rw[aV (g6 e ht)];exact e
structure Nw(H H':Hp)(p:Addr)(o:HO):Prop where
 no:H p=none
 at':H' p=some o
 same:aD H H'
 eq:H'=upd H p o
theorem Nw.of{H:Hp}{p:Addr}{o:HO}(h:H p=none):Nw H (upd H p o) p o:=⟨h,bW,.new h,Z⟩
def BA:List Str:=["len","abs","min","max","range","isinstance","int","bool","str","tuple","list","any","all","sum","zip","enumerate","sorted","reversed","ord","chr","divmod","repr","dict","set"]
def bC (mg:bD):Prop:=∀x∈BA,mg x=none
theorem bC.at{mg:bD}(B:bC mg)(x:Str)(h:autoParam (x∈BA) q8_._auto_1):mg x=none:=B x h
theorem cw{α:Type}{C:List α->Prop}(h:∀a,C [a]):∀us:List α,us.length=1->C us |[_],_=>h _
theorem dF{α:Type}{C:List α->Prop}(h:∀a b,C [a,b]):∀us:List α,us.length=2->C us |[_,_],_=>h _ _
theorem jS{α:Type}{C:List α->Prop}(h:∀a b c,C [a,b,c]):∀us:List α,us.length=3->C us |[_,_,_],_=>h _ _ _
theorem Jm{α:Type}{C:List α->Prop}(h:∀a b c d,C [a,b,c,d]):∀us:List α,us.length=4->C us |[_,_,_,_],_=>h _ _ _ _
theorem al5{α:Type}{C:List α->Prop}(h:∀a b c d e,C [a,b,c,d,e]):∀us:List α,us.length=5->C us |[_,_,_,_,_],_=>h _ _ _ _ _
def QW(N P:List Str)(sc:Scope):Bool:=decide (sc.kind= .function)&& !sc.isCoroutine&& !sc.isGenerator&&decide N.Nodup&&decide (N.take P.length=P)&&P.all (λx=>decide (sc.names.lookup x=some .local\/sc.names.lookup x=some .cell))&&sc.names.all λy=>decide (y.2≠ .free)
theorem bj{N P:List Str}{sc:Scope}(h:QW N P sc=true):aW N P sc:=by unfold QW at h;simp only[eH,BP,Bool.not_eq_true',fV]at h;obtain⟨⟨⟨⟨⟨⟨h1,h2⟩,h3⟩,h4⟩,h5⟩,h6⟩,h7⟩:=h;exact⟨h1,h2,h3,h4,h5,h6,h7⟩
structure FA(K:aa)(mg:bD)(x:Str)(st:Stmt):Prop where ex:∃f fd,mg x=some (.ref f)/\jT K x x st f fd
def aB(P:af)(w:World)(K:aa)(mg:bD)(au:Heap)(x:Str)(k:Nat)(sp:Sp):Prop:=∃f fd ps,eD P w K mg au gW k f fd ps sp/\mg x=some (.ref f)/\PySem.W.keepIn K (.ref f)=true/\Binds K fd ps []
section
variable {P:af}{w:World}{K:aa}{mg:bD}{au:Heap}
theorem a5V{h:Heap}{x:Str}{st:Stmt}{f:Addr}{oc:Value}{od an:Option Addr}{fw:Array (Option Value)}{kV doc pm aH ct:Value}(X:K.In h)(G:h.Ns mainGlobals mg) (a:PySem.W.nsIn K mainGlobals x=some (some (.ref f))) (l:K.lookup f=some ⟨oc,od,.func (PySem.W.fnOf x x (j8 st) (fg st) (aP st) .none kV doc pm an aH ct),fw⟩) (c:PySem.W.codeIn K aH x=true)(k:PySem.W.keepIn K (.ref f)=true):FA K mg x st:=⟨f,_,sZ X G a,Ii l c k⟩
theorem FA.has{x:Str}{st:Stmt}{N ps:List Str}{k:Nat}{sp:Sp}(F:FA K mg x st)(S:aW N ps (aP st))(len:∀vs H Q E,sp vs H Q E->vs.length=ps.length) (hb:∀(kV doc pm:Value)(an:Option Addr)(aH ct:Value)(us:List Value),us.length=ps.length->bindArgs (PySem.W.fnOf x x (j8 st) (fg st) (aP st) .none kV doc pm an aH ct) ⟨us,[]⟩=pure (ps.zip us)) (fM:∀(f:Addr)(aH:Value)(A:ai)(outer:List Env)(s:ae)(H:Hp)(vs:List V)(Q:VK)(E:XK),cN k (A.deeper (envOfC x (aP st) s.heap.objs.size f aH))->sp vs H Q E->∃t,fz (gy gW P w K mg au N x (aP st) f aH A outer s H E).rj (fg st) t/\t {nx:=λ_ H'=>Q .bw H',rt:=Q} (start N vs) H):aB P w K mg au x (k+1) sp:=by obtain⟨f,fd,hm,F⟩:=F.ex;exact⟨f,fd,ps,F.ok S len λaH A outer s H vs Q E=>fM f aH A outer s H vs Q E,hm,F.kp,F.binds hb⟩
end
section
variable {X:Cx}{k:Nat}{x:Str}{p pos:Pos}{e:Expr}{es:List Expr}{t:TA}{sp:Sp}
def Ck(sp:Sp)(t:TA):TE:=λO H Q=>t O H λvs H1=>sp vs H1 Q E0
theorem Y1(F:aB X.prog X.w X.K X.mg X.au x k sp)(hr:cN k X.A)(hg:Gl X x)(ha:PA X (e::es) t)(gc:autoParam ((x==("__debug__":Str))=false) q8_._auto_1) (he:autoParam (starEach (e::es) X.env=(false,eval e X.env)::starEach es X.env) r8_._auto_1)(eY:autoParam ((backTo pos (starEach es X.env)).any (·.1)=false) r8_._auto_1): PE X (.Call (.Name x p) (e::es) [] pos) (Ck sp t):=by
 obtain⟨f,fd,ps,F,hm,hk,hb⟩:=F;have h:=Y4 (pos:=pos) (p:=p) F hr hg hm hk hb .nil A9 ha gc he eY;intro ao s O H Q I hq;refine h ao s O H Q I ?_;have e1:(λ(vs:List V) H1=>sp (vs++[]) H1 Q E0)=λvs H1=>sp vs H1 Q E0:=by funext vs H1;rw[qt]
 show t O H λvs H1=>sp (vs++[]) H1 Q E0;rw[e1];exact hq
theorem pf{j:Nat}(F:aB X.prog X.w X.K X.mg X.au x j sp)(hr:cN k X.A)(ha:PA X (e::es) t)(hjk:autoParam (j<=k) q8_._auto_1)(hg:autoParam (Gl X x) r8_._auto_1)(gc:autoParam ((x==("__debug__":Str))=false) q8_._auto_1)(he:autoParam (starEach (e::es) X.env=(false,eval e X.env)::starEach es X.env) r8_._auto_1)(eY:autoParam ((backTo pos (starEach es X.env)).any (·.1)=false) r8_._auto_1):PE X (.Call (.Name x p) (e::es) [] pos) (Ck sp t):=Y1 F (hr.mono hjk) hg ha gc he eY
theorem cB:cO X (binaryOp .Mult) (rI (λi j=>IntMulOk i j) λi j=>.int (i*j)):=wI λ_ _ _ _ _ _ _ hc q=>mul_int q hc
theorem Yq:cO X (compareOp .Eq) (jj λi j=>.bl (decide (i=j))):=ui λ_ _ _ _ _ _ _ q=>eq_int (by rw[Bool.beq_eq_decide_eq];exact q)
theorem Ym:cO X (compareOp .NotEq) (jj λi j=>.bl (!decide (i=j))):=ui λ_ _ _ _ _ _ _ q=>ne_int (by rw[bne,Bool.beq_eq_decide_eq];exact q)
theorem Ys(hu:X.A.units+64<cLine):cO X (compareOp .Eq) (λx y H Q=>jj (λi j=>.bl (decide (i=j))) x y H Q\/Fy X.K x y H Q):=Yq.or (Yr hu)
theorem Yo(hu:X.A.units+64<cLine):cO X (compareOp .NotEq) (λx y H Q=>jj (λi j=>.bl (!decide (i=j))) x y H Q\/Ft X.K x y H Q):=Ym.or (Yn hu)
mutual
theorem eqv_refl:∀d:ah,d.canLay0=true->PyData.eqv d d=true | .none,_=>by simp[PyData.eqv] | .bool b,_=>by simp[PyData.eqv] | .int i,_=>by simp[PyData.eqv] | .str x,_=>by simp[PyData.eqv] | .list ds,h=>by simp only[PyData.eqv];exact eqvAll_refl ds (by simpa[PyData.canLay0]using h) | .tuple ds,h=>by simp only[PyData.eqv];exact eqvAll_refl ds (by simpa[PyData.canLay0]using h) | .dict _,h=>by simp[PyData.canLay0]at h
theorem eqvAll_refl:∀ds:List ah,PyData.canLayAll0 ds=true->PyData.eqvAll ds ds=true |[],_=>by simp[PyData.eqvAll] |d::ds,h=>by simp only[PyData.canLayAll0,eH]at h;simp only[PyData.eqvAll,eH];exact⟨eqv_refl d h.1,eqvAll_refl ds h.2⟩
end
theorem Xd{K:aa}{H:Hp}(b:Bool):RD K H (.bl b) (.bool b):=by simp[RD]
theorem fC{K:aa}{H:Hp}(i:Int):RD K H (.int i) (.int i):=by simp[RD]
theorem bp{K:aa}{H:Hp}(x:Str):RD K H (.str x) (.str x):=by simp[RD]
theorem tV{K:aa}{H:Hp}:RD K H .bw .none:=by simp[RD]
theorem fQ{K:aa}{H:Hp}{p:Addr}{xs:List V}{ds:List ah}(h:aZ K H p xs)(r:aL K H xs ds):RD K H (.ref p) (.tuple ds):=by rw[RD];exact⟨p,xs,Z,h,r⟩
theorem wB{K:aa}{H:Hp}{p:Addr}{xs:List V}{ds:List ah}(h:aJ K H p xs)(r:aL K H xs ds):RD K H (.ref p) (.list ds):=by rw[RD];exact⟨p,xs,Z,h,r⟩
theorem dv{K:aa}{H:Hp}:aL K H [] []:=by simp[aL]
theorem cI{K:aa}{H:Hp}{x:V}{xs:List V}{d:ah}{ds:List ah}(h:RD K H x d)(r:aL K H xs ds):aL K H (x::xs) (d::ds):=by rw[aL];exact⟨x,xs,Z,h,r⟩
inductive a93(t:TS)(D:Ends)(O:St)(H:Hp):Prop |mk (Jx:St->Hp->Prop)(h0:t {D with nx:=Jx} O H)(h1:∀σ' H',Jx σ' H'->D.nx σ' H')
def VA(t:TS):TS:=λD O H=>a93 t D O H
theorem iO{st:Stmt}{t:TS}(h:PS X st t):PS X st (VA t):=by intro ao s O H D I hq;obtain⟨Jx,q,m⟩:=hq;refine ba (h ao s O H _ I q) λf s1 q1=>?_;cases f with |next=>obtain⟨σ',H',I',q'⟩:=q1;exact⟨σ',H',I',m _ _ q'⟩ |brk=>exact q1 |cont=>exact q1 |ret u=>exact q1
end
def qo(K:aa)(xs:List Str):Prop:=∀x∈xs,PySem.W.nsIn K mainGlobals x=some none
theorem qo.nil{K:aa}:qo K []:=λ_ h=>nomatch h
theorem qo.cons{K:aa}{x:Str}{xs:List Str}(a:PySem.W.nsIn K mainGlobals x=some none)(r:qo K xs):qo K (x::xs):=λy hy=>by
 rcases cj.mp hy with e|e
 ·rw[e];exact a
 ·exact r y e
theorem a8m{K:aa}{mg:bD}{h:Heap}(X:K.In h)(G:h.Ns mainGlobals mg)(a:qo K BA):bC mg:=λx hx=>PySem.W.mg_none_of X G (a x hx)
theorem J3{env:Env}:∀(ns:List (Str×NameKind))(cs:List (Str×Addr)),(∀x∈ns,x.2= .free->∃c,env.cells.lookup x.1=some c)->(∀x c,cs.lookup x=some c->env.cells.lookup x=some c)->∃cl,(forIn ns cs (λx r=>if(x.2==NameKind.free)=true then do let a<-cellOf env x.1;pure (ForInStep.yield ((x.1,a)::r))else pure (ForInStep.yield r)):Sem (List (Str×Addr)))=pure cl/\(∀x c,cl.lookup x=some c->env.cells.lookup x=some c)/\(∀x c,cs.lookup x=some c->∃c',cl.lookup x=some c')/\∀x∈ns,x.2= .free->∃c,cl.lookup x.1=some c
 |[],cs,_,h2=>⟨cs,Z,h2,λx c e=>⟨c,e⟩,λ_ h=>nomatch h⟩ |(n,k)::r,cs,h1,h2=>by
  by_cases hk:k= .free
  ·subst hk
   obtain⟨c,hc⟩:=h1 (n,.free) (.head _) rfl;have e1:cellOf env n=pure c:=by unfold cellOf;rw[show env.cells.lookup n=some c from hc]
   obtain⟨cl,a1,a2,a3,a4⟩:=J3 r ((n,c)::cs) (λx hx=>h1 x (.tail _ hx)) (λx d e=>by rw[jc]at e;cases z:x==n with |true=>rw[z]at e;cases e;rw[fi.mp z];exact hc |false=>rw[z]at e;exact h2 x d e);refine⟨cl,?_,a2,λx d e=>?_,λx hx hf=>?_⟩
   ·rw[K2]
    show(do let r'<-(if(NameKind.free==NameKind.free)=true then do let a<-cellOf env n;pure (ForInStep.yield ((n,a)::cs))else pure (ForInStep.yield cs));_)=_;rw[bf (by rfl),e1];exact a1
   ·by_cases z:x==n
    ·exact a3 x c (by rw[jc,z])
    ·exact a3 x d (by rw[jc,C4.mpr z];exact e)
   ·rcases cj.mp hx with rfl|hx
    ·exact a3 n c (by rw[jc,JF])
    ·exact a4 x hx hf
  ·obtain⟨cl,a1,a2,a3,a4⟩:=J3 r cs (λx hx=>h1 x (.tail _ hx)) h2
   refine⟨cl,?_,a2,a3,λx hx hf=>?_⟩
   ·rw[K2]
    show(do let r'<-(if(k==NameKind.free)=true then do let a<-cellOf env n;pure (ForInStep.yield ((n,a)::cs))else pure (ForInStep.yield cs));_)=_;rw[bh (by simpa using hk)];exact a1
   ·rcases cj.mp hx with rfl|hx
    ·exact absurd hf hk
    ·exact a4 x hx hf
theorem Sr{env:Env}{scope:Scope}(h1:∀x∈scope.names,x.2= .free->∃c,env.cells.lookup x.1=some c): ∃cl,closureFor scope env=pure cl/\(∀x c,cl.lookup x=some c->env.cells.lookup x=some c)/\∀x∈scope.names,x.2= .free->∃c,cl.lookup x.1=some c:=by
 obtain⟨cl,a1,a2,_,a4⟩:=J3 (env:=env) scope.names [] h1 (λx c e=>nomatch e);refine⟨cl,?_,a2,a4⟩;unfold closureFor;show(forIn scope.names ([]:List (Str×Addr)) (λ(x:Str×NameKind) r=>match x with|(name,kind)=>if(kind==NameKind.free)=true then do let a<-cellOf env name;pure (ForInStep.yield ((name,a)::r))else pure (ForInStep.yield r))>>=λr=>(pure r:Sem (List (Str×Addr))))=pure cl;have ef:(λ(x:Str×NameKind)(r:List (Str×Addr))=>match x with|(name,kind)=>(if(kind==NameKind.free)=true then do let a<-cellOf env name;pure (ForInStep.yield ((name,a)::r))else pure (ForInStep.yield r):Sem (ForInStep (List (Str×Addr))))) =λx r=>if(x.2==NameKind.free)=true then do let a<-cellOf env x.1;pure (ForInStep.yield ((x.1,a)::r))else pure (ForInStep.yield r):=by funext x r;obtain⟨n,k⟩:=x;rfl
 rw[ef,a1];rfl
theorem Pq{env:Env}(hk:env.scope.kind= .function){x:Str}(hx:env.kindOf x=some .cell):∀{names:List (Str×NameKind)},names.lookup x=some .free->(names.map λ(n,k)=>if(k==NameKind.free&&env.scope.kind== .function&&env.kindOf n==some .cell)then(n,NameKind.cell)else(n,k)).lookup x=some .cell |[],h=>nomatch h |(n,k)::r,h=>by have ih:=@Pq env hk x hx r;show List.lookup x ((if(k==NameKind.free&&env.scope.kind== .function&&env.kindOf n==some .cell)=true then(n,NameKind.cell)else(n,k))::_)=_;cases z:x==n with |true=>simp only[jc,z]at h;cases h;have e:=fi.mp z;subst e;rw[bf (by rw[hk,hx];rfl),jc,z] |false=>simp only[jc,z]at h;split<;>(simp only[jc,z];exact ih h)
def fo(X:Cx)(N:List Str)(scope:Scope)(cl:List (Str×Addr))(s:ae)(H:Hp)(fp:List Addr)(ao:List (Addr×Obj)):Cx:={prog:=X.prog,w:=X.w,K:=X.K,mg:=X.mg,au:=X.au,A:=X.A,N:=N,s₀:=s,H₀:=H,env:=compEnvC scope cl s.heap.objs.size X.env,outer:=X.stack,stack:=X.stack,ex:=fp,fn:=λ_=>false,calm:=X.calm,pn:=X.pn++ao,xe:=λ_ _=>False}
def stC(js:List (Option Nat))(O:St):St:=js.map λ|none=>none|some j=>(O[j]?).join
def Bv(X:Cx)(N:List Str)(js:List (Option Nat))(scope:Scope):Bool:=N.length==js.length&&(N.zip js).all λp=>match p.2 with|none=>true|some j=>X.N[j]? ==some p.1&&scope.names.lookup p.1==some NameKind.free&&X.env.kindOf p.1==some NameKind.cell
def uX(X:Cx)(scope:Scope):Bool:=scope.kind== .function&&X.env.scope.kind== .function&&scope.names.all λx=>match x.2 with | .free=>X.env.kindOf x.1==some NameKind.cell | .cell=>false | .local=>scope.names.lookup x.1==some NameKind.local |_=>true
section
variable {X:Cx}{ao:List (Addr×Obj)}{O:St}{H:Hp}{s:ae}
theorem lookup_mem{α β:Type}[BEq α][LawfulBEq α]:∀{l:List (α×β)}{x:α}{b:β},l.lookup x=some b->(x,b)∈l |[],_,_,h=>nomatch h |(n,k)::r,x,b,h=>by rw[jc]at h;cases z:x==n with |true=>rw[z]at h;cases h;rw[fi.mp z];exact .head _ |false=>rw[z]at h;exact .tail _ (lookup_mem h)
theorem NV{env:Env}{x:Str}{k:NameKind}:∀{names:List (Str×NameKind)},(names.map λ(n,k)=>if(k==NameKind.free&&env.scope.kind== .function&&env.kindOf n==some .cell)then(n,NameKind.cell)else(n,k)).lookup x=some k->names.lookup x=some k\/(k= .cell/\names.lookup x=some .free) |[],h=>nomatch h |(n,k')::r,h=>by have ih:=@NV env x k r;have h':List.lookup x ((if(k'==NameKind.free&&env.scope.kind== .function&&env.kindOf n==some .cell)=true then(n,NameKind.cell)else(n,k'))::(r.map λ(n,k)=>if(k==NameKind.free&&env.scope.kind== .function&&env.kindOf n==some .cell)then(n,NameKind.cell)else(n,k)))=some k:=h;cases z:x==n with
 |true=>
  split at h'
  ·rename_i hc
   simp only[jc,z]at h';cases h';rw[eH,eH]at hc;have e:k'= .free:=fi.mp hc.1.1;subst e;exact .inr ⟨Z,by rw[jc,z]⟩
  ·simp only[jc,z]at h'
   cases h';exact .inl (by rw[jc,z]) |false=>
  rw[jc,z];refine ih ?_;split at h'
  ·simpa only[jc,z]using h'
  ·simpa only[jc,z]using h'
theorem Inv.comp{N:List Str}{js:List (Option Nat)}{scope:Scope}{cl:List (Str×Addr)}{fp:List Addr}{h':Heap}{tk:Nat}(I:Inv X ao O H s)(hN:Bv X N js scope=true)(hS:uX X scope=true) (c1:∀x c,cl.lookup x=some c->X.env.cells.lookup x=some c)(c2:∀x∈scope.names,x.2= .free->∃c,cl.lookup x.1=some c)(hf:∀b∈fp,jU X ao H b)(hfl:∀b∈fp,b<s.heap.objs.size) (hn:h'.Ns s.heap.objs.size λ_=>none)(hk:∀b o,s.heap.get? b=some o->h'.get? b=some o):Inv (fo X N scope cl s H fp ao) [] (stC js O) H {s with heap:=h',toks:=tk}:=by
 unfold uX at hS;rw[eH,eH]at hS;obtain⟨⟨s1,s2⟩,s3⟩:=hS;have kT:scope.kind= .function:=fi.mp s1;have a3F:X.env.scope.kind= .function:=fi.mp s2;unfold Bv at hN;rw[eH]at hN;obtain⟨n1,n2⟩:=hN;have hlen:N.length=js.length:=fi.mp n1;have Qc:∀x k,(relabel scope X.env).names.lookup x=some k->scope.names.lookup x=some k\/(k= .cell/\scope.names.lookup x=some .free):=λx k e=>NV e;have a0G:∀x,scope.names.lookup x≠some .cell:=λx e=>by have:=fV.mp s3 _ (lookup_mem e);exact dN this
 have QV:∀b∈(fo X N scope cl s H fp ao).fs,b∈X.env.locals::X.fs:=I.Cr;have ok:(fo X N scope cl s H fp ao).Ok:={
  mod:=I.ok.mod
  kind:=kT
  glob:=I.ok.glob
  blt:=I.ok.blt
  above:=bO _
  inj:=λx y c e1 e2=>I.ok.inj x y c (c1 x c e1) (c1 y c e2)
  has:=λx hx=>by
   have fr:scope.names.lookup x=some .free->∃c,cl.lookup x=some c:=λe=>c2 (x,.free) (lookup_mem e) rfl;rcases hx with e|e
   ·rcases Qc x _ e with e|⟨_,e⟩
    ·exact absurd e (a0G x)
    ·exact fr e
   ·rcases Qc x _ e with e|⟨z,_⟩
    ·exact fr e
    ·cases z
  qh:=λx c e=>nomatch e
  hd:=I.ok.hd
  frames:=I.ok.frames
  qC:=.inl rfl
  xY:=λb hb=>⟨eP (hfl b hb),λx c e=>(hf b hb).2.2.2.2.1 x c (c1 x c e)⟩
  bs:=I.bs
  jR:=gC I.ok.jR I.sz
  ph:=λb o e hb=>by
   rcases(hf b hb).2.2.2.1 with z|z
   ·exact I.ok.ph b o e z
   ·exact absurd (fK (cm e) (gC I.ok.jR z)) (t9 _)
  oo:=λb hb z=>by
   obtain⟨_,q1,q2,_⟩:=hf b hb;rcases cj.mp (QV b z)with e|e
   ·exact q1 e
   ·exact q2 e
  iA:=I.stack
  lB:=I.zq};refine⟨ok,Z,I.bare,Un.kept hk,⟨_,hn,λi x v e1 e2 e3=>?_⟩,λx c e=>?_,I.bB.fresh (bO _),λx c e=>I.j6 x c (c1 x c e),λp hp=>?_,I.bB.kept hk,?_⟩
 ·have uT:(js.map λ|none=>none|some j=>(O[j]?).join)[i]? =some (some v):=e2
  rw[bQ]at uT;cases hj:js[i]? with |none=>rw[hj]at uT;cases uT |some o=>rw[hj]at uT;cases o with |none=>cases uT |some j=>
   have hz:(N.zip js)[i]? =some (x,some j):=by rw[K0];exact⟨e1,hj⟩
   have Ss:=fV.mp n2 _ (fA hz);simp only[eH,fi]at Ss;obtain⟨⟨h1,h2⟩,h3⟩:=Ss;have Bl:(O[j]?).join=some v:=by simpa using uT
   have hσ:O[j]? =some (some v):=by cases q:O[j]? with |none=>rw[q]at Bl;cases Bl |some o=>
    rw[q]at Bl;have:o=some v:=by simpa using Bl
    rw[this]
   obtain⟨m,hm,hl⟩:=I.loc;obtain⟨u,r,l⟩:=hl j x v h1 hσ (.inr (.inl h3));refine⟨u,r,?_⟩;rcases l with⟨k,_⟩|⟨_,c,hc,pO⟩
   ·rw[h3]at k;cases k
   ·obtain⟨c',jN⟩:=c2 (x,.free) (lookup_mem h2) rfl
    have:=c1 x c' jN;rw[hc]at this;cases this;refine .inr ⟨.inl (Pq a3F h3 h2),c,jN,?_⟩;obtain⟨ob,ho,hd⟩:=pO;exact⟨ob,hk _ _ ho,hd⟩
 ·obtain⟨v,ob,ho,hd⟩:=I.cell x c (c1 x c e)
  exact⟨v,ob,hk _ _ ho,hd⟩
 ·have AS:p∈X.pn++ao:=by simpa[fo]using hp
  obtain⟨a1,a2,a3,a4,a5⟩:=I.pin p AS;refine⟨hk _ _ a1,a2,eP (cm a1),λz=>?_,a5⟩;rcases cj.mp (QV p.1 z)with e|e
  ·exact a3 e
  ·exact a4 e
 ·show(js.map _).length=N.length
  rw[bS,hlen]
end
theorem Sn{prog:af}{w:World}{A:ai}{R:Result->ae->Prop}{s:ae}{elt target iter:Expr}{ifs:List Expr}{scope:Scope}{pos:Pos}{it acc:Value}{env:Env}(I:Nat->ae->Prop) (turn:∀n s,I n s->wpAny (model prog w) A (pyNext it) (λr s₁=>match r with |none=>R (.ok .next) s₁ |some v=>wpAny (model prog w) A (letOwnedTupleGo target it v) (λ_ s₁=>wpAny (model prog w) A (assign target env v) (λ_ s₂=>wpAny (model prog w) A (forIn ifs true λc r=>if r=true then do let ok<-isTrue c env (eval c env);pure (ForInStep.yield ok)else pure (ForInStep.yield r)) (λok s₃=>if ok=true then wpAny (model prog w) A (eval elt env) (λx s₄=>wpAny (model prog w) A (call (.builtin "list.append") [acc,x]) (λ_ s₅=>∃m,m<n/\I m s₅) (λ_ _=>False) s₄) (λ_ _=>False) s₃ else∃m,m<n/\I m s₃) (λ_ _=>False) s₂) (λ_ _=>False) s₁) (λ_ _=>False) s₁) (λ_ _=>False) s) (n:Nat)(h:I n s):codeAny (model prog w) A (.compLoop (.ListComp elt [⟨target,iter,ifs,0⟩] scope pos) 0 it acc env) R s:=by refine codeAny_loop Z I (λn s hI=>?_) n h;show wpAny _ A ((compTurn (.ListComp elt [⟨target,iter,ifs,0⟩] scope pos) 0 it acc env).onRaise (λx=>do noteFrame x env;theTreesLotGoes x)) _ _ s;refine wpAny_noted ?_;rw[compTurn_list];refine aM (BH (aM (iH (turn n s hI) (λr s₁ h₁=>?_) λ_ _ h'=>h'.elim)));cases r with |none=>exact bV h₁ |some v=>refine aM (iH h₁ (λ_ abk h₁=>?_) λ_ _ h'=>h'.elim);refine aM (iH h₁ (λ_ s₂ h₂=>aM (iH h₂ (λok s₃ h₃=>?_) λ_ _ h'=>h'.elim)) λ_ _ h'=>h'.elim);cases ok with |false=>exact bV ⟨Z,h₃⟩ |true=>exact aM (aM (iH h₃ (λx s₄ h₄=>aM (iH h₄ (λ_ s₅ h₅=>bV (bV ⟨Z,h₅⟩)) λ_ _ h'=>h'.elim)) λ_ _ h'=>h'.elim))
def Jt(X:Cx)(ifs:List Expr)(t:TT):Prop:=∀(ao:List (Addr×Obj))(s:ae)(O:St)(H:Hp)(Q:Bool->Hp->Prop),Inv X ao O H s->t O H Q->wpAny (model X.prog X.w) X.A (forIn ifs true λc r=>if r=true then do let ok<-isTrue c X.env (eval c X.env);pure (ForInStep.yield ok)else pure (ForInStep.yield r)) (TP X ao O Q) X.xe s
def jD:TT:=λ_ H Q=>Q true H
theorem dS{X:Cx}:Jt X [] jD:=λ_ _ _ H _ I h=>wpAny_tests_nil ⟨H,I,h⟩
def kB(J:It)(g:TG)(tt:TT)(te:TE)(Q:VK)(D:Addr)(O:St)(H:Hp):Prop:=∃W:Nat->Nat->St->Hp->Prop,(∃m,W 0 m O H)/\∀i m σ' H',W i m σ' H'->(J.stop i H'/\Q (.ref D) H')\/(J.go i H'/\∀x H2,J.jB i H' x H2->g x σ' H2 λσ3 H3=>tt σ3 H3 λok H4=>if ok=true then te σ3 H4 λy H5=>∃ys,H5 D=some (.lst ys)/\ys.length<sizeLine/\∃m',m'<m/\W (i+1) m' σ3 (upd H5 D (.lst (ys++[y]))) else∃m',m'<m/\W (i+1) m' σ3 H4)
def Kr(js:List (Option Nat))(wi:TI)(g:TG)(tt:TT)(te:TE):TE:=λO H Q=>wi O H λJ H1=>∀D H2,Nw H1 H2 D (.lst [])->kB J g tt te Q D (stC js O) H2
theorem eB.but{P:af}{w:World}{H:Hp}{h h':Heap}{C:Addr}(ok:eB P w H h)(hn:H C=none)(hs:Heap.SameBut C h h'):eB P w H h':=λb ob e=>by
 refine(ok b ob e).lS (λc w' hc q=>(hs.2 c ?_).trans q) (λ_ q=>q) λ_ _ q=>q;rintro rfl;rcases hc with rfl|hc
 ·rw[hn]at e;cases e
 ·rw[hn]at hc;cases hc
set_option maxHeartbeats 1000000 in
theorem eW{X:Cx}{N:List Str}{js:List (Option Nat)}{elt tg iter:Expr}{ifs:List Expr}{scope:Scope}{pos:Pos}{wi:TI}{g:TG}{tt:TT}{te:TE}(hc:X.calm=true)(hN:Bv X N js scope=true)(hS:uX X scope=true) (hi:PI X tg iter wi)(hg:∀cl s H fp ao,PG (fo X N scope cl s H fp ao) tg g)(ht:∀cl s H fp ao,Jt (fo X N scope cl s H fp ao) ifs tt)(he:∀cl s H fp ao,PE (fo X N scope cl s H fp ao) elt te) (hs:autoParam (∀x,foldedSetIterable iter X.env x=pure x) f8_._auto_1):PE X (.ListComp elt [⟨tg,iter,ifs,0⟩] scope pos) (Kr js wi g tt te):=by
 intro ao s O H Q I h;have rW:=hS;unfold uX at rW;rw[eH,eH]at rW;obtain⟨⟨k1,k2⟩,k3⟩:=rW;have kT:scope.kind= .function:=fi.mp k1;have uJ:∀x∈scope.names,x.2= .free->∃c,X.env.cells.lookup x.1=some c:=λx hx e=>by have:=fV.mp k3 x hx;rw[e]at this;exact I.ok.has x.1 (.inl (fi.mp this))
 have pO:∀x∈scope.names,x.2≠ .cell:=λx hx e=>by have:=fV.mp k3 x hx;rw[e]at this;exact dN this
 have He:∀x∈scope.names,x.2= .local->scope.names.lookup x.1=some .local:=λx hx e=>by have:=fV.mp k3 x hx;rw[e]at this;exact fi.mp this
 obtain⟨cl,Hr,c1,c2⟩:=Sr uJ;rw[eval_ListComp];refine wpAny_comprehension_free (use:=none) Z hs Hr kT He (ba (hi ao s O H _ I h) λv s1 h1=>ba h1 λAz s2 h2=>?_);obtain⟨it,fp,tn,J,H2,e,I2,T,oU,f2,h2⟩:=h2;subst e;have hD:H2 s2.heap.objs.size=none:=I2.bB.fresh (bO _);obtain⟨W,⟨m0,w0⟩,turn⟩:=h2 _ _ (Nw.of hD);refine oN (wpAny_newFunctionEnv pO (by intro y hy;simp at hy) (λh₁ xo xi=>?_) kT);have si:∀b∈fp,b<s2.heap.objs.size:=λb hb=>by obtain⟨o,e,_⟩:=T.obj _ _ oU b hb;exact cm e
 have I3:Inv X ao O (upd H2 s2.heap.objs.size (.lst [])) {s2 with heap:=s2.heap.push {cls:=.type "list",dict:=none,data:=.seq ([]:List Value).toArray}}:=I2.Pu (its:=[]) (t':=s2.toks) .nil (fU _);generalize xK:s2.heap.push {cls:=.type "list",dict:=none,data:=.seq ([]:List Value).toArray}=h3 at I3 xo xi;have vV:h3.objs.size=s2.heap.objs.size+1:=by rw[<-xK,qw]
 have GF:∀b o,s2.heap.get? b=some o->h3.get? b=some o:=λb o e=>by rw[<-xK];exact cC _ e
 have f3:∀b∈fp,jU X ao (upd H2 s2.heap.objs.size (.lst [])) b:=λb hb=>⟨by rw[aV (eP (si b hb))];exact(f2 b hb).1,(f2 b hb).2⟩;have xb:∀b o,h3.get? b=some o->h₁.get? b=some o:=λb o e=>(xi.2 b (eP (cm e))).trans (cC _ e);have I4:Inv (fo X N scope cl {s2 with heap:=h3} (upd H2 s2.heap.objs.size (.lst [])) fp ao) [] (stC js O) (upd H2 s2.heap.objs.size (.lst [])) {s2 with heap:=h₁,toks:=s2.toks+([]:List (Str×Value)).length}:=I3.comp (s:={s2 with heap:=h3}) hN hS c1 c2 f3 (λb hb=>by show b<h3.objs.size;rw[vV];exact JT (si b hb)) (by simpa using xo) xb;have vW:tn 0 h₁:=T.keep _ _ _ oU λb _ o e=>xb b o (GF b o e);have loop:codeAny (model X.prog X.w) X.A (.compLoop (.ListComp elt [⟨tg,iter,ifs,0⟩] scope pos) 0 (.ref it) (.ref s2.heap.objs.size) (compEnvC scope cl h3.objs.size X.env)) (compPost (model X.prog X.w) X.A X.xe none (EP X ao O Q) (.ref s2.heap.objs.size) h3.objs.size) {s2 with heap:=h₁,toks:=s2.toks+([]:List (Str×Value)).length}:=by
  refine Sn (λn s'=>∃i σ' H',Inv (fo X N scope cl {s2 with heap:=h3} (upd H2 s2.heap.objs.size (.lst [])) fp ao) [] σ' H' s'/\tn i s'.heap/\(∀b∈fp,H' b=none)/\W i n σ' H') ?_ m0 ⟨0,_,_,I4,vW,λb hb=>(f3 b hb).1,w0⟩;rintro n s5 ⟨i,σ5,H5,I5,ng,sf,w5⟩;have kE:∀{H':Hp},(∀b∈fp,H' b=none)->∀b∈fp,jU (fo X N scope cl {s2 with heap:=h3} (upd H2 s2.heap.objs.size (.lst [])) fp ao) [] H' b:=λ{H'} hn b hb=>by
   obtain⟨_,q1,q2,q3,q4,q5⟩:=f3 b hb;refine⟨hn b hb,λz=>?_,I4.ok.oo b hb,.inl hb,λx c e=>q4 x c (c1 x c e),λp hp=>q5 p (by simpa[fo]using hp)⟩;have cH:b<h3.objs.size:=by rw[vV];exact JT (si b hb)
   exact eP cH z
  rcases turn i n σ5 H5 w5 with⟨stop,qn⟩|⟨go,step⟩
  ·refine ba (T.done (fo X N scope cl {s2 with heap:=h3} (upd H2 s2.heap.objs.size (.lst [])) fp ao) rfl rfl rfl hc i [] s5 σ5 H5 _ I5 (kE sf) ng stop) λr s6 ⟨hr,I6⟩=>?_
   subst hr;obtain⟨m,hm,_⟩:=I6.loc;refine⟨m,hm,λh7 AN=>?_⟩;have u0:Un (ek X.stack) fp (upd H2 s2.heap.objs.size (.lst [])) H5 h3 s6.heap:=I6.au;have ne:∀b o,h3.get? b=some o->b≠h3.objs.size:=λb o e=>eP (cm e);have u:Un (ek X.stack) fp (upd H2 s2.heap.objs.size (.lst [])) H5 h3 h7:=⟨λb o e n hb hx=>(AN.2 b (ne b o e)).trans (u0.keep b o e n hb hx),λb o e n hb hx=>let⟨sl,q⟩:=u0.slot b o e n hb hx;⟨sl,(AN.2 b (ne b o e)).trans q⟩,u0.free,λb o e hx=>let⟨o',q⟩:=u0.there b o e hx;⟨o',(AN.2 b (ne b o e)).trans q⟩,u0.jf,u0.iZ,u0.jg⟩;have I7:Inv X ao O H5 {s6 with heap:=h7}:=I3.Bw (s':={s6 with heap:=h7}) (ch:=fp) I6.os u (I6.bB.but I6.free AN) I6.bare λb hb=>⟨(f3 b hb).2.2.2.1,(f3 b hb).2.1,(f3 b hb).2.2.2.2.1,(f3 b hb).2.2.2.2.2⟩;exact⟨.ref s2.heap.objs.size,H5,I7,Z,qn⟩
  ·refine ba (T.item (fo X N scope cl {s2 with heap:=h3} (upd H2 s2.heap.objs.size (.lst [])) fp ao) rfl rfl rfl hc i [] s5 σ5 H5 _ I5 (kE sf) ng go) λr s6 ⟨u,hr,h6⟩=>?_
   subst hr;refine ba h6 λ_ s7 ⟨x,H7,I7,r7,y7,nc,Il⟩=>?_;have Jz:=I7.pinned (kE Il) (T.obj _ _ nc);refine ba (hg _ _ _ _ _ _ s7 σ5 H7 x u _ Jz r7 (step x H7 y7)) λ_ s8 ⟨σ8,H8,I8,q8⟩=>?_;refine ba (ht _ _ _ _ _ _ s8 σ8 H8 _ I8 q8) λok s9 ⟨H9,I9,q9⟩=>?_;have again:∀{s':ae}{σ7:St}{H7:Hp},Inv (fo X N scope cl {s2 with heap:=h3} (upd H2 s2.heap.objs.size (.lst [])) fp ao) ([]++uc fp s7.heap) σ7 H7 s'->(∃m',m'<n/\W (i+1) m' σ7 H7)->∃m,m<n/\∃i σ' H',Inv (fo X N scope cl {s2 with heap:=h3} (upd H2 s2.heap.objs.size (.lst [])) fp ao) [] σ' H' s'/\tn i s'.heap/\(∀b∈fp,H' b=none)/\W i m σ' H':=λ{s' σ7 H7} J7 n7=>by obtain⟨m',hm,w7⟩:=n7;refine⟨m',hm,i+1,σ7,H7,J7.vM,T.keep _ _ _ nc λb hb o e=>(J7.pin (b,o) (jz _ (jz _ (uA hb e)))).1,λb hb=>?_,w7⟩;obtain⟨o,e,d⟩:=T.obj _ _ nc b hb;exact(J7.pin (b,o) (jz _ (jz _ (uA hb e)))).2.1
   cases ok with |false=>rw[bh dN]at q9⊢;exact again I9 q9 |true=>rw[bf rfl]at q9⊢;refine ba (he _ _ _ _ _ _ s9 σ8 H9 _ I9 q9) λyv qI ⟨y,mQ,vn,Fz,ys,AG,hz,tE⟩=>?_;refine ba (Gi _ qI σ8 mQ (.ref s2.heap.objs.size) [y] (.ref s2.heap.objs.size) [yv] (λ_ kA=>∃m',m'<n/\W (i+1) m' σ8 kA) vn Z (.cons Fz .nil) ⟨_,ys,y,Z,Z,AG,hz,tE⟩) λ_ F9 ⟨v11,kA,JA,Xz,FC⟩=>?_;exact again JA FC
 exact codeAny_compStart_list loop (T.self _ 0 _ _ _ vW loop)
theorem J9:∀{bs:List Bool}{us:List Value},Vals (bs.map V.bl) us->us=bs.map Value.bool |[],_,.nil=>rfl |b::r,_,.cons q t=>by cases(show _=Value.bool b from q);rw[J9 t];rfl
section
variable {X:Cx}
theorem a8e(hc:X.calm=true):eF X (.builtin "all") (λxs H Q=>∃(l:Addr)(bs:List Bool),xs=[.ref l]/\aJ X.K H l (bs.map V.bl)/\Q (.bl (bs.all id)) H):=by
 intro ao s O H xs us Q I r h;obtain⟨l,bs,rfl,hl,q⟩:=h;obtain⟨u,rfl,ru⟩:=vals1 r;cases(show u=Value.ref l from ru);obtain⟨its,rv,pl,hz⟩:=I.list hl;have e:=J9 rv;subst e;have fT:=pl.isList;have cH:l<s.heap.objs.size:=by obtain⟨_,e,_⟩:=fT;exact cm e
 have hh:=I.ok.hd hc;refine call_all_walk (yu fT ?_);refine⟨s.heap.objs.size,[s.heap.objs.size,l],[s.heap.objs.size],(bs.map Value.bool).toArray.size,_,_,λi=>(bs[i]?).getD true,Z,Walks.list (A:=X.A.in1) hh _ l (eP cH) (bs.map Value.bool).toArray,⟨⟨_,dX _ Z,Z,Z⟩,fT.push _⟩,λi v s' Q' E' hP hQ=>?_,λh' tk hk=>?_⟩
 ·have kY:(bs.map Value.bool)[i]? =some v:=by simpa using hP
  rw[bQ]at kY;cases e:bs[i]? with |none=>rw[e]at kY;cases kY |some b=>rw[e]at kY;cases kY;simp only[e,Option.getD_some]at hQ;exact mS hQ
 ·have e:((List.range (bs.map Value.bool).toArray.size).all λi=>(bs[i]?).getD true)=bs.all id:=by rw[dR,bS];exact LSm.range_all bs
  rw[e];exact⟨.bl _,H,I.kept (LSm.kept_iter hk),Z,q⟩
theorem a8d(hc:X.calm=true):eF X (.builtin "any") (λxs H Q=>∃(l:Addr)(bs:List Bool),xs=[.ref l]/\aJ X.K H l (bs.map V.bl)/\Q (.bl (bs.any id)) H):=by
 intro ao s O H xs us Q I r h;obtain⟨l,bs,rfl,hl,q⟩:=h;obtain⟨u,rfl,ru⟩:=vals1 r;cases(show u=Value.ref l from ru);obtain⟨its,rv,pl,hz⟩:=I.list hl;have e:=J9 rv;subst e;have fT:=pl.isList;have cH:l<s.heap.objs.size:=by obtain⟨_,e,_⟩:=fT;exact cm e
 have hh:=I.ok.hd hc;refine call_any_walk (yu fT ?_);refine⟨s.heap.objs.size,[s.heap.objs.size,l],[s.heap.objs.size],(bs.map Value.bool).toArray.size,_,_,λi=>(bs[i]?).getD false,Z,Walks.list (A:=X.A.in1) hh _ l (eP cH) (bs.map Value.bool).toArray,⟨⟨_,dX _ Z,Z,Z⟩,fT.push _⟩,λi v s' Q' E' hP hQ=>?_,λh' tk hk=>?_⟩
 ·have kY:(bs.map Value.bool)[i]? =some v:=by simpa using hP
  rw[bQ]at kY;cases e:bs[i]? with |none=>rw[e]at kY;cases kY |some b=>rw[e]at kY;cases kY;simp only[e,Option.getD_some]at hQ;exact mS hQ
 ·have e:((List.range (bs.map Value.bool).toArray.size).any λi=>(bs[i]?).getD false)=bs.any id:=by rw[dR,bS];exact LSm.range_any bs
  rw[e];exact⟨.bl _,H,I.kept (LSm.kept_iter hk),Z,q⟩
end
theorem uW{J:It}{g:TG}{tt:TT}{te:TE}{Q:VK}{D:Addr}{O:St}{H:Hp}(n:Nat)(Pv:Nat->St->Hp->Prop)(h0:Pv 0 O H) (hs:∀i O H,i<n->Pv i O H->J.go i H/\∀x H2,J.jB i H x H2->g x O H2 λσ3 H3=>tt σ3 H3 λok H4=>if ok=true then te σ3 H4 λy H5=>∃ys,H5 D=some (.lst ys)/\ys.length<sizeLine/\∃m',m'<n-i/\m'=n-(i+1)/\i+1<=n/\Pv (i+1) σ3 (upd H5 D (.lst (ys++[y]))) else∃m',m'<n-i/\m'=n-(i+1)/\i+1<=n/\Pv (i+1) σ3 H4) (hd:∀O H,Pv n O H->J.stop n H/\Q (.ref D) H): kB J g tt te Q D O H:=by
 refine⟨λi m O H=>m=n-i/\i<=n/\Pv i O H,⟨n,by simp,fU _,h0⟩,?_⟩;rintro i m O H ⟨rfl,hi,p⟩;by_cases cH:i<n
 ·exact .inr (hs i O H cH p)
 ·have e:i=n:=by lia
  subst e;exact .inl (hd O H p)
section
variable {X:Cx} {tg:Expr}
theorem ixK(K:aa)(h:X.K=K):oJ X (λx y H Q=>Fv K x y H Q\/Fu K x y H Q):=by subst h;exact a2p.or a2o
inductive aas(K:aa)(x:V)(lo:Option Int)(hi:Option Int)(H:Hp)(Q:VK):Prop |mk (a:_)(xs:_)(h0:x= .ref a)(h1:((aJ K H a xs/\∀p H',Nw H H' p (.lst (jQ xs lo hi))->Q (.ref p) H')\/ (aZ K H a xs/\¬(_H.cg xs.length 0 lo=0/\_H.cg xs.length xs.length hi=xs.length)/\∀p H',Nw H H' p (.tup (jQ xs lo hi))->Q (.ref p) H')))
def Xo(K:aa):V->Option Int->Option Int->Hp->VK->Prop:=λx lo hi H Q=>aas K x lo hi H Q
theorem zI(K:aa)(h:X.K=K):BE X (Xo K):=by
 subst h;intro ao s O H x v vl vu lo hi sl Q I rx hs pl pu hq;obtain⟨a,xs,e,hq⟩:=hq;rcases hq with⟨h1,k⟩|⟨h1,h2,k⟩
 ·exact Wb ao s O H x v vl vu lo hi sl Q I rx hs pl pu ⟨a,xs,e,h1,λp hp=>k p _ (.of hp)⟩
 ·exact Wa ao s O H x v vl vu lo hi sl Q I rx hs pl pu ⟨a,xs,e,h1,h2,λp hp=>k p _ (.of hp)⟩
theorem a27(K:aa)(h:X.K=K):eF X (.builtin "len") (λxs H Q=>∃p ys,xs=[.ref p]/\(aJ K H p ys\/aZ K H p ys)/\Q (.int ys.length) H):=by subst h;exact a8a
theorem a2x(K:aa)(h:X.K=K):eF X (.builtin "isinstance") (λxs H Q=>Fx K xs H Q\/Fw K xs H Q):=by subst h;exact a8c.or a8b
theorem dM(K:aa)(h:X.K=K)(hu:X.A.units+64<cLine):cO X (compareOp .Eq) (λx y H Q=>jj (λi j=>.bl (decide (i=j))) x y H Q\/Fy K x y H Q):=by subst h;exact Ys hu
theorem m9(K:aa)(h:X.K=K)(hu:X.A.units+64<cLine):cO X (compareOp .NotEq) (λx y H Q=>jj (λi j=>.bl (!decide (i=j))) x y H Q\/Ft K x y H Q):=by subst h;exact Yo hu
theorem vc(K:aa)(h:X.K=K)(hc:X.calm=true):eF X (.builtin "all") (λxs H Q=>∃(l:Addr)(bs:List Bool),xs=[.ref l]/\aJ K H l (bs.map V.bl)/\Q (.bl (bs.all id)) H):=by subst h;exact a8e hc
theorem a8y(K:aa)(h:X.K=K)(hc:X.calm=true):eF X (.builtin "any") (λxs H Q=>∃(l:Addr)(bs:List Bool),xs=[.ref l]/\aJ K H l (bs.map V.bl)/\Q (.bl (bs.any id)) H):=by subst h;exact a8d hc
theorem Aw(K:aa)(h:X.K=K):eF X (.type "list") (λxs H Q=>∃p ys,xs=[.ref p]/\(aJ K H p ys\/aZ K H p ys)/\∀l H',Nw H H' l (.lst ys)->Q (.ref l) H'):=by subst h;intro ao s O H xs us Q I r hq;obtain⟨p,ys,e,h1,k⟩:=hq;exact a88 ao s O H xs us Q I r ⟨p,ys,e,h1,λl hl=>k l _ (.of hl)⟩
theorem jZ(K:aa)(h:X.K=K):eF X (.type "tuple") (λxs H Q=>∃p ys,xs=[.ref p]/\((aJ K H p ys/\∀l H',Nw H H' l (.tup ys)->Q (.ref l) H')\/(aZ K H p ys/\Q (.ref p) H))):=by subst h;intro ao s O H xs us Q I r hq;obtain⟨p,ys,e,h1⟩:=hq;exact a85 ao s O H xs us Q I r ⟨p,ys,e,h1.imp (λ⟨a,k⟩=>⟨a,λl hl=>k l _ (.of hl)⟩) id⟩
def Vm(t:TA):TE:=λO H Q=>t O H λxs H1=>xs.length<=sizeLine/\∀p H',Nw H1 H' p (.tup xs)->Q (.ref p) H'
def VC(t:TA):TE:=λO H Q=>t O H λxs H1=>xs.length<=sizeLine/\∀p H',Nw H1 H' p (.lst xs)->Q (.ref p) H'
theorem gQ{es:List Expr}{t:TA}{pos:Pos} {x1}(h:PA X es t):PE X (.Tuple es x1 pos) (Vm t):=by intro ao s O H Q I hq;refine wpAny_Tuple_spliced (ba (h pos ao s O H _ I hq) λus s1 ⟨xs,H1,I1,r,z,q⟩=>⟨by rw[<-r.length];exact z,?_⟩);have hf:H1 s1.heap.objs.size=none:=I1.bB.fresh (bO _);refine⟨.ref s1.heap.objs.size,upd H1 s1.heap.objs.size (.tup xs),I1.laid (t':=s1.toks) (λb u e=>cC _ e) (bO _) ?_,Z,q _ _ (.of hf)⟩;exact⟨z,us,r,⟨_,dX _ Z,Z,_,Z⟩⟩
theorem da{es:List Expr}{t:TA}{pos:Pos}(h:PA X es t):PE X (.List es pos) (VC t):=by intro ao s O H Q I hq;refine wpAny_List_spliced (ba (h pos ao s O H _ I hq) λus s1 ⟨xs,H1,I1,r,z,q⟩=>⟨by rw[<-r.length];exact z,?_⟩);have hf:H1 s1.heap.objs.size=none:=I1.bB.fresh (bO _);refine⟨.ref s1.heap.objs.size,upd H1 s1.heap.objs.size (.lst xs),I1.laid (t':=s1.toks) (λb u e=>cC _ e) (bO _) ?_,Z,q _ _ (.of hf)⟩;exact⟨z,us,0,r,dX _ Z⟩
theorem kL(K:aa)(h:X.K=K){l:Expr}{tl:TE}(hl:PE X l tl):PI X tg l (Qf K tl):=by subst h;exact XQ hl
theorem kg(K:aa)(h:X.K=K){l:Expr}{tl:TE}(hl:PE X l tl):PI X tg l (Qe K tl):=by subst h;exact XN hl
theorem eV(K:aa)(h:X.K=K){es:List Expr}{k:Nat}{t:mK}{n:Nat}{pos:Pos}(hc:X.calm=true)(hg:yk X es t)(hn:autoParam ((assignEach es X.env).length=n) r8_._auto_1)(gb:autoParam ((assignEach es X.env).findIdx? (·.1)=none) r8_._auto_1): PG X (.Tuple es k pos) (Ba K n t):=by subst h;exact XS hc hg hn gb
theorem qV(K:aa)(h:X.K=K){o e:Expr}{to:TE}{t:TA}{apos cn:Pos}(ho:PE X o to)(ha:PA X [e] t) (iX:autoParam (attributeBase o "append" X.env (eval o X.env)=eval o X.env) r8_._auto_1) (iW:autoParam (((backTo cn (starEach [e] X.env)).all (λx=>!x.1)&&(backToKw cn (keywordEach [] X.env)).all (λx=>x.1.isSome) &&decide ([e].length+([]:List Keyword).length+(if([]:List Keyword).isEmpty then 0 else 1)<30))=true) r8_._auto_1) (iV:autoParam ((apos.endLine==cn.line)=true) r8_._auto_1)(hs:autoParam (starEach [e] X.env=(false,eval e X.env)::starEach [] X.env) r8_._auto_1)(iS:autoParam ((backTo cn (starEach [] X.env)).any (·.1)=false) r8_._auto_1): PE X (.Call (.Attribute o "append" apos) [e] [] cn) (oS K "list" O9 to t):=by subst h;exact qU JP PySem.F.slot_list_append PySem.F.type_list_append Gi ho ha iX iW iV hs iS
theorem yS{j:Nat}{x:V}{O:St}{H:Hp}{A B:St->Hp->Prop}(h:A (O.set j (some x)) H):gw j x O H λσ3 H3=>jD σ3 H3 λok H4=>if ok=true then A σ3 H4 else B σ3 H4:=by show if true=true then A (O.set j (some x)) H else B (O.set j (some x)) H;rw[bf rfl];exact h
theorem yes{O:St}{H:Hp}{Q:Bool->Hp->Prop}(h:Q true H):jD O H Q:=h
end
theorem aJ.go{K:aa}{H H':Hp}{a:Addr}{xs:List V}(s:aD H H')(h:aJ K H a xs):aJ K H' a xs:=h.imp (λr=>r.imp (s _ _) λ⟨o,e⟩=>⟨o,s _ _ e⟩) id
theorem aZ.go{K:aa}{H H':Hp}{a:Addr}{xs:List V}(s:aD H H')(h:aZ K H a xs):aZ K H' a xs:=h.imp (λr=>r.imp (s _ _) λ⟨o,e⟩=>⟨o,s _ _ e⟩) id
mutual
theorem RD.mono{K:aa}{H H':Hp}(s:aD H H'):∀{x:V}(d:ah),RD K H x d->RD K H' x d |x,.none,h=>by simpa[RD]using h |x,.bool b,h=>by simpa[RD]using h |x,.int i,h=>by simpa[RD]using h |x,.str y,h=>by simpa[RD]using h |x,.list ds,h=>by rw[RD]at h⊢;obtain⟨a,xs,e,h1,h2⟩:=h;exact⟨a,xs,e,h1.go s,aL.mono s ds h2⟩ |x,.tuple ds,h=>by rw[RD]at h⊢;obtain⟨a,xs,e,h1,h2⟩:=h;exact⟨a,xs,e,h1.go s,aL.mono s ds h2⟩ |x,.dict _,h=>by simp[RD]at h
theorem aL.mono {K:aa}{H H':Hp}(s:aD H H'):∀{xs:List V}(ds:List ah),aL K H xs ds->aL K H' xs ds |xs,[],h=>by simpa[aL]using h |xs,d::ds,h=>by rw[aL]at h⊢;obtain⟨y,ys,e,h1,h2⟩:=h;exact⟨y,ys,e,RD.mono s d h1,aL.mono s ds h2⟩
end
section
variable {K:aa} {H H':Hp}
theorem aL.nil_inv{xs:List V}(h:aL K H xs []):xs=[]:=by simpa[aL]using h
theorem aL.cons_inv{xs:List V}{d:ah}{ds:List ah}(h:aL K H xs (d::ds)):∃y ys,xs=y::ys/\RD K H y d/\aL K H ys ds:=by rw[aL]at h;exact h
theorem RD.cJ{x:V}{ds:List ah}(h:RD K H x (.tuple ds)):∃a xs,x= .ref a/\aZ K H a xs/\aL K H xs ds:=by rw[RD]at h;exact h
theorem RD.lst_inv{x:V}{ds:List ah}(h:RD K H x (.list ds)):∃a xs,x= .ref a/\aJ K H a xs/\aL K H xs ds:=by rw[RD]at h;exact h
theorem RD.int_inv{x:V}{i:Int}(h:RD K H x (.int i)):x= .int i:=by rw[RD]at h;exact h
theorem RD.a8n{x:V}{i:Bool}(h:RD K H x (.bool i)):x= .bl i:=by rw[RD]at h;exact h
theorem RD.str_inv{x:V}{i:Str}(h:RD K H x (.str i)):x= .str i:=by rw[RD]at h;exact h
theorem RD.G5{x:V}(h:RD K H x .none):x= .bw:=by rw[RD]at h;exact h
theorem aL.length:∀{xs:List V}{ds:List ah},aL K H xs ds->xs.length=ds.length |xs,[],h=>by rw[h.nil_inv];rfl |xs,d::ds,h=>by obtain⟨y,ys,rfl,_,h2⟩:=h.cons_inv;rw[gh,gh,aL.length h2]
theorem aL.append:∀{xs ys:List V}{ds es:List ah},aL K H xs ds->aL K H ys es->aL K H (xs++ys) (ds++es) |xs,ys,[],es,h,g=>by rw[h.nil_inv];exact g |xs,ys,d::ds,es,h,g=>by obtain⟨y,zs,rfl,h1,h2⟩:=h.cons_inv;exact cI h1 (aL.append h2 g)
theorem aL.take:∀(n:Nat){xs:List V}{ds:List ah},aL K H xs ds->aL K H (xs.take n) (ds.take n) |0,xs,ds,h=>by rw[List.take_zero,List.take_zero];exact dv |n+1,xs,[],h=>by rw[h.nil_inv];exact dv |n+1,xs,d::ds,h=>by obtain⟨y,zs,rfl,h1,h2⟩:=h.cons_inv;exact cI h1 (aL.take n h2)
theorem aL.get:∀(n:Nat){xs:List V}{ds:List ah}{d:ah},aL K H xs ds->ds[n]? =some d->∃x,xs[n]? =some x/\RD K H x d
 |n,xs,[],d,h,e=>by simp at e |0,xs,d'::ds,d,h,e=>by
  obtain⟨y,zs,rfl,h1,h2⟩:=h.cons_inv;have e':d'=d:=by simpa using e
  subst e';exact⟨y,Z,h1⟩ |n+1,xs,d'::ds,d,h,e=>by obtain⟨y,zs,rfl,h1,h2⟩:=h.cons_inv;exact aL.get n h2 (by simpa using e)
theorem aL.get'(n:Nat){xs:List V}{ds:List ah}{x:V}(h:aL K H xs ds)(e:xs[n]? =some x):∃d,ds[n]? =some d/\RD K H x d:=by
 have hl:n<ds.length:=by rw[<-h.length];exact(dD.mp e).1
 obtain⟨y,e1,r⟩:=h.get n (cu hl);rw[e]at e1;cases e1;exact⟨_,cu hl,r⟩
def kD:ah->String | .none=>"NoneType" | .bool _=>"bool" | .int _=>"int" | .str _=>"str" | .list _=>"list" | .tuple _=>"tuple" | .dict _=>"dict"
theorem RD.ty{x:V}:∀{d:ah},RD K H x d->sN K H x (kD d) | .none,h=>by rw[h.G5];rfl | .bool b,h=>by rw[h.a8n];rfl | .int b,h=>by rw[h.int_inv];rfl | .str b,h=>by rw[h.str_inv];rfl | .list ds,h=>by obtain⟨a,xs,rfl,h1,_⟩:=h.lst_inv;exact .inl ⟨Z,xs,h1⟩ | .tuple ds,h=>by obtain⟨a,xs,rfl,h1,_⟩:=h.cJ;exact .inr ⟨Z,xs,h1⟩ | .dict _,h=>by simp[RD]at h
structure dg(n:Nat)(d:ah):Prop where
 lay:d.canLay0=true
 dep:d.depth<=n
def gB(n:Nat)(ds:List ah):Prop:=∀d∈ds,dg n d
theorem dg.le{n m:Nat}{d:ah}(h:dg n d)(l:n<=m):dg m d:=⟨h.lay,gC h.dep l⟩
theorem uk{n:Nat}:∀{ds:List ah},gB n ds↔(PyData.canLayAll0 ds=true/\PyData.depthAll ds<=n)
 |[]=>⟨λ_=>⟨Z,fU _⟩,λ_ _ h=>nomatch h⟩ |d::ds=>by
  have ih:=uk (n:=n) (ds:=ds);simp only[PyData.canLayAll0,PyData.depthAll,eH];constructor
  ·intro h
   have h1:=h d (.head _);have h2:=ih.mp λx hx=>h x (.tail _ hx);exact⟨⟨h1.lay,h2.1⟩,Nat.max_le.mpr ⟨h1.dep,h2.2⟩⟩
  ·rintro⟨⟨a,b⟩,c⟩ x hx
   have c':=Nat.max_le.mp c;rcases cj.mp hx with rfl|hx
   ·exact⟨a,c'.1⟩
   ·exact ih.mpr ⟨b,c'.2⟩ x hx
theorem gB.tup{n:Nat}{ds:List ah}(h:gB n ds):dg (n+1) (.tuple ds):=⟨by simpa[PyData.canLay0]using(uk.mp h).1,by simpa[PyData.depth]using(uk.mp h).2⟩
theorem gB.lst{n:Nat}{ds:List ah}(h:gB n ds):dg (n+1) (.list ds):=⟨by simpa[PyData.canLay0]using(uk.mp h).1,by simpa[PyData.depth]using(uk.mp h).2⟩
theorem dg.cJ{n:Nat}{ds:List ah}(h:dg (n+1) (.tuple ds)):gB n ds:=uk.mpr ⟨by simpa[PyData.canLay0]using h.lay,by simpa[PyData.depth]using h.dep⟩
theorem dg.int{n:Nat}(i:Int):dg n (.int i):=⟨Z,fU _⟩
theorem dg.bw{n:Nat}:dg n .none:=⟨Z,fU _⟩
theorem gB.nil{n:Nat}:gB n []:=λ_ h=>nomatch h
theorem gB.cons{n:Nat}{d:ah}{ds:List ah}(h:dg n d)(g:gB n ds):gB n (d::ds):=λx hx=>by
 rcases cj.mp hx with rfl|hx
 ·exact h
 ·exact g x hx
theorem dg.shaped{n:Nat}{d:ah}(h:dg n d)(l:n<=64):SeqAt.shaped d=true:=by unfold SeqAt.shaped;rw[h.lay,ij];exact cf (gC h.dep l)
theorem dg.refl{n:Nat}{d:ah}(h:dg n d):PyData.eqv d d=true:=eqv_refl d h.lay
variable {p:Addr}{n m:Nat}{v:V}{vs:List V}{d:ah}{ds es:List ah}
end
section
variable {X:Cx}
end
end _L
namespace _H
open PySem PySem.Spec PyProof.Rows
section
variable {prog:af}{w:World}{A:ai}{E:Value->ae->Prop}{s:ae}
end
end _H
namespace _L
open PySem PySem.Spec PyProof.Rows
section
variable {X:Cx}
end
def fr(H H':Hp):Hp:=λb=>match H b with|none=>H' b|some _=>none
theorem oj{H H':Hp}{b:Addr}{o:HO}:fr H H' b=some o↔H b=none/\H' b=some o:=by unfold fr;cases H b<;>simp
theorem a5E{H H':Hp}:aD (fr H H') H':=λb o e=>(oj.mp e).2
theorem Ik{H H1 H2:Hp}(s:aD H1 H2):aD (fr H H1) (fr H H2):=λb o e=>oj.mpr ⟨(oj.mp e).1,s _ _ (oj.mp e).2⟩
theorem a5F{H H1 H2:Hp}(s:aD H H1):aD (fr H1 H2) (fr H H2):=λb o e=>oj.mpr ⟨s.free (oj.mp e).1,(oj.mp e).2⟩
def zi(K:aa)(d:ah):TE:=λ_ H Q=>∀v H',aD H H'->RD K (fr H H') v d->Q v H'
def VD(K:aa)(ds:List ah):TA:=λ_ H Q=>∀vs H',aD H H'->aL K (fr H H') vs ds->Q vs H'
def x9(f:Expr->Option ah):List Expr->Option (List ah) |[]=>some [] |e::es=>match f e,x9 f es with |some d,some ds=>some (d::ds) |_,_=>none
def lit:Nat->Expr->Option ah
 |0,_=>none |_+1,.Constant .none _ _=>some .none |_+1,.Constant (.bool b) _ _=>some (.bool b) |_+1,.Constant (.int i) _ _=>some (.int i) |_+1,.Constant (.str x) _ _=>some (.str x) |n+1,.Tuple es _ _=>match x9 (lit n) es with |some ds=>if ds.length<=1000 then some (.tuple ds)else none |none=>none
 |n+1,.List es _=>match x9 (lit n) es with |some ds=>if ds.length<=1000 then some (.list ds)else none |none=>none
 |n+1,.UnaryOp .USub a _=>match lit n a with |some (.int i)=>some (.int (-i)) |_=>none
 |n+1,.BinOp a .Pow b _=>match lit n a,lit n b with |some (.int i),some (.int j)=>if 0<=j/\j<=1000000/\i.natAbs<2^64 then some (.int (i^j.toNat))else none |_,_=>none
 |_,_=>none
section
variable {X:Cx}
theorem VW{e:Expr}{es:List Expr}{env:Env}(h:∀a b,e≠ .Starred a b):starEach (e::es) env=(false,eval e env)::starEach es env:=by cases e<;>first|rfl|exact absurd rfl (h _ _)
theorem a24{n:Nat}{e:Expr}{d:ah}(h:lit n e=some d):∀a b,e≠ .Starred a b:=by intro a b z;subst z;cases n<;>simp[lit]at h
theorem Oq(K:aa)(f:Expr->Option ah)(hp:∀e d,f e=some d->∀a b,e≠ .Starred a b)(hf:∀e d,f e=some d->PE X e (zi K d)):∀(es:List Expr)(ds:List ah),x9 f es=some ds->PA X es (VD K ds)
 |[],ds,h=>by cases h;intro pos ao s O H Q I hq;exact ay pos ao s O H Q I (hq [] H (aD.refl H) dv) |e::es,ds,h=>by
  rw[x9]at h;split at h
  ·rename_i d IW e1 e2
   cases h;intro pos ao s O H Q I hq;refine ak (hf e d e1) (Oq K f hp hf es IW e2) (VW (hp e d e1)) pos ao s O H Q I ?_;intro v H1 s1 r1 vs H2 s2 r2;exact hq (v::vs) H2 (s1.trans s2) (cI (RD.mono (Ik s2) _ r1) (aL.mono (a5F s1) _ r2))
  ·cases h
theorem wF(K:aa)(hK:X.K=K):∀(n:Nat)(e:Expr)(d:ah),lit n e=some d->PE X e (zi K d)
 |0,e,d,h=>by simp[lit]at h |n+1,e,d,h=>by
  have hA:=Oq (X:=X) K (lit n) (λe d h=>a24 h) (λe d h=>wF K hK n e d h);unfold lit at h;split at h
  case h_1=>cases‹Nat.succ n=0›
  case h_2=>cases h;intro ao s O H Q I hq;exact jk ao s O H Q I (hq .bw H (aD.refl H) tV)
  case h_3=>cases h;intro ao s O H Q I hq;exact gE ao s O H Q I (hq (.bl _) H (aD.refl H) (Xd _))
  case h_4=>cases h;intro ao s O H Q I hq;exact aF ao s O H Q I (hq (.int _) H (aD.refl H) (fC _))
  case h_5=>cases h;intro ao s O H Q I hq;exact bu ao s O H Q I (hq (.str _) H (aD.refl H) (bp _))
  case h_6=>
   rename_i m es _ _ hm;cases hm;split at h
   ·rename_i ds e1
    by_cases hl:ds.length<=1000
    ·rw[bf hl]at h
     cases h;intro ao s O H Q I hq;refine gQ (hA es ds e1) ao s O H Q I ?_;intro vs H1 s1 r1;refine⟨by rw[r1.length];exact gC hl az,λp H' nw=>?_⟩;refine hq _ _ (s1.trans nw.same) (fQ (aZ.of (oj.mpr ⟨s1.free nw.no,nw.at'⟩)) (aL.mono (Ik nw.same) _ r1))
    ·rw[bh hl]at h;cases h
   ·cases h
  case h_7=>
   rename_i m es _ hm;cases hm;split at h
   ·rename_i ds e1
    by_cases hl:ds.length<=1000
    ·rw[bf hl]at h
     cases h;intro ao s O H Q I hq;refine da (hA es ds e1) ao s O H Q I ?_;intro vs H1 s1 r1;refine⟨by rw[r1.length];exact gC hl az,λp H' nw=>?_⟩;refine hq _ _ (s1.trans nw.same) (wB (aJ.of (oj.mpr ⟨s1.free nw.no,nw.at'⟩)) (aL.mono (Ik nw.same) _ r1))
    ·rw[bh hl]at h;cases h
   ·cases h
  case h_8=>
   rename_i m a _ hm;cases hm;split at h
   ·rename_i i e1
    cases h;intro ao s O H Q I hq;refine nC mX (wF K hK n a _ e1) ao s O H Q I ?_;intro v H1 s1 r1;exact⟨i,r1.int_inv,hq _ _ s1 (fC _)⟩
   ·cases h
  case h_9=>
   rename_i m a b _ hm;cases hm;split at h
   ·rename_i i j e1 e2
    by_cases hc:0<=j/\j<=1000000/\i.natAbs<2^64
    ·rw[bf hc]at h
     cases h;intro ao s O H Q I hq;refine aQ Ac (wF K hK n a _ e1) (wF K hK n b _ e2) ao s O H Q I ?_;intro v H1 s1 r1 v2 H2 s2 r2;exact⟨i,j,r1.int_inv,r2.int_inv,hc,hq _ _ (s1.trans s2) (fC _)⟩
    ·rw[bh hc]at h;cases h
   ·cases h
  case h_10=>cases h
end
end _L
namespace _L
theorem cF{α:Type}{xs:List α}{i:Int}{v:α}(h0:0<=i)(h:xs[i.toNat]? =some v):eZ xs i=some v:=by have hl:i.toNat<xs.length:=(dD.mp h).1;unfold eZ hU;rw[bf h0,bf aw];exact h
end _L
namespace _L
open PySem PySem.Spec PyProof.Rows
theorem w6(n:Nat)(h:n<=1000):n<=sizeLine:=gC h az
structure Tp(X:Cx)(e:Expr)(t:TE):Prop where out:PE X e t
theorem XY{X:Cx}(K:aa)(hK:X.K=K)(n:Nat)(e:Expr)(d:ah)(h:lit n e=some d):Tp X e (zi K d):=⟨wF K hK n e d h⟩
section
variable {X:Cx}{p pos pos':Pos}{a b e:Expr}{es:List Expr}{ta tb te:TE}{t:TA}{x:Str}
theorem px(K:aa)(ha:PE X a ta)(hb:PE X b tb)(hK:autoParam (X.K=K) r8_._auto_1)(hp:Tj b:=by exact λ_ _=>rfl):PE X (.Subscript a b pos) (tJ (λx y H Q=>Fv K x y H Q\/Fu K x y H Q) ta tb):=FL (ixK K hK) ha hb hp
theorem nH(K:aa)(B:bC X.mg)(ha:PA X (e::es) t)(hK:autoParam (X.K=K) r8_._auto_1)(hg:autoParam (Gl X "isinstance") r8_._auto_1)(he:autoParam (starEach (e::es) X.env=(false,eval e X.env)::starEach es X.env) r8_._auto_1)(eY:autoParam ((backTo pos (starEach es X.env)).any (·.1)=false) r8_._auto_1):PE X (.Call (.Name "isinstance" p) (e::es) [] pos) (zk (λxs H Q=>Fx K xs H Q\/Fw K xs H Q) t):=dy (a2x K hK) hg (B.at "isinstance") jX ha az az he eY
theorem fF(K:aa)(B:bC X.mg)(ha:PA X (e::es) t)(hK:autoParam (X.K=K) r8_._auto_1)(hg:autoParam (Gl X "len") r8_._auto_1)(he:autoParam (starEach (e::es) X.env=(false,eval e X.env)::starEach es X.env) r8_._auto_1)(eY:autoParam ((backTo pos (starEach es X.env)).any (·.1)=false) r8_._auto_1):PE X (.Call (.Name "len" p) (e::es) [] pos) (zk (λxs H Q=>∃p ys,xs=[.ref p]/\(aJ K H p ys\/aZ K H p ys)/\Q (.int ys.length) H) t):=dy (a27 K hK) hg (B.at "len") PySem.boot_len ha az az he eY
theorem pS(i:Nat)(hN:X.N.Nodup)(he:PE X e te)(hi:autoParam (X.N[i]? =some x) r8_._auto_1)(hx:autoParam (Loc X.env.scope x) z8_._auto_1)(hs:autoParam (swapsWith e (some (.Name x pos')) pos.line X.env=pure false) r8_._auto_1)(hf:autoParam (X.fn x=true\/X.env.scope.names.lookup x=some .local) d8_._auto_1):PS X (.Assign [.Name x pos'] e pos) (vU te (gw i)):=Ob hN hi hx he hs hf
theorem bo(i:Nat)(hN:X.N.Nodup)(hi:autoParam (X.N[i]? =some x) r8_._auto_1)(hx:autoParam (Loc X.env.scope x) z8_._auto_1)(hf:autoParam (X.fn x=true\/X.env.scope.names.lookup x=some .local) d8_._auto_1):PG X (.Name x pos) (gw i):=XT hN hi hx hf
theorem gR (a:Str):[a].Nodup:=by simp
theorem ki{a b:Str}(h:(a==b)=false):[a,b].Nodup:=by
 have:a≠b:=λz=>by rw[z,JF]at h;cases h
 simp[this]
theorem ck{n:Nat}(h:Nat.ble n 1000=true):n<=sizeLine:=w6 n (Ug h)
end
def GV(mg:bD)(x:Str)(v:V):Prop:=∃u,mg x=some u/\RelV v u
def GT(K:aa)(mg:bD)(x:Str)(vs:List V):Prop:=∃a,GV mg x (.ref a)/\∀H,aZ K H a vs
theorem cX{X:Cx}{x:Str}{v:V}{pos:Pos}(hg:Gl X x)(h:GV X.mg x v)(hd:autoParam ((x==("__debug__":Str))=false) q8_._auto_1):PE X (.Name x pos) (tC v):=by obtain⟨u,hm,r⟩:=h;exact XZ hg hm r hd
section
variable {K:aa} {mg:bD} {h:Heap}
theorem kz{x:Str}{i:Int}{t:Tok}(X:K.In h)(G:h.Ns mainGlobals mg)(a:PySem.W.nsIn K mainGlobals x=some (some (.int i t))):GV mg x (.int i):=⟨_,sZ X G a,t,Z⟩
theorem Ia{x:Str}{vs:List V}{b:Addr}{its:Array Value}{n:Nat}{od:Option Addr}{fw:Array (Option Value)}(X:K.In h)(G:h.Ns mainGlobals mg)(a:PySem.W.nsIn K mainGlobals x=some (some (.ref b))) (l:K.lookup b=some ⟨.type "tuple",od,.seq its n,fw⟩)(hz:its.size<=sizeLine)(r:Vals vs its.toList):GT K mg x vs:=⟨b,⟨_,sZ X G a,Z⟩,λH=>.inr ⟨_,its,n,l,Z,Z,hz,r⟩⟩
end
section
variable {X:Cx}
theorem a0B(K:aa)(h:X.K=K):cO X (compareOp .NotIn) (O7 K true):=by subst h;exact Yl
end
theorem Sm{J:It}{xs:List V}{bs:List Bool}{te:TE}{Q:VK}{D:Addr}{H H0:Hp}(rest:St)(nw:Nw H H0 D (.lst []))(hl:xs.length=bs.length)(hz:xs.length<=1000) (go:∀i x H2,xs[i]? =some x->aD H H2->J.go i H2/\∀y H3,J.jB i H2 y H3->H3=H2/\y=x)(stop:∀H2,aD H H2->J.stop xs.length H2) (hs:∀(i:Nat)(x:V)(b:Bool)(H2:Hp)(Q':VK),xs[i]? =some x->bs[i]? =some b->aD H H2->(∀H3,aD H2 H3->Q' (.bl b) H3)->te (some x::rest) H2 Q') (hq:∀H',aD H H'->H' D=some (.lst (bs.map V.bl))->Q (.ref D) H'):kB J (gw 0) jD te Q D (none::rest) H0:=by
 have hD:=nw.no;refine uW xs.length (λi O H2=>aD H H2/\H2 D=some (.lst ((bs.take i).map V.bl))/\∃v,O=v::rest) ?_ ?_ ?_
 ·exact⟨nw.same,nw.at',none,Z⟩
 ·rintro i O H2 hi ⟨s2,d2,v,rfl⟩
  have AY:i<bs.length:=by rw[<-hl];exact hi
  have ex:=cu hi;have eb:=cu AY;obtain⟨g1,g2⟩:=go i _ H2 ex s2;refine⟨g1,λy H3 hy=>?_⟩;obtain⟨rfl,rfl⟩:=g2 y H3 hy;refine yS ?_;refine hs i _ _ _ _ ex eb s2 λH4 s4=>?_;refine⟨_,s4 _ _ d2,?_,xs.length-(i+1),aw,Z,aw,λb o e=>?_,?_,_,Z⟩
  ·rw[bS,tf]
   have:(1000:Nat)<sizeLine:=by decide
   lia
  ·rw[aV (g6 e hD)];exact s4 b o (s2 b o e)
  ·rw[bW,vy,eb,mV];rfl
 ·rintro O H2 ⟨s2,d2,v,rfl⟩
  refine⟨stop H2 s2,hq H2 s2 ?_⟩;rw[d2,hl,yG]
theorem Bt{K:aa}{a:Addr}{xs:List V}{bs:List Bool}{te:TE}{Q:VK}{D:Addr}{H H0:Hp}(rest:St)(hx:aZ K H a xs)(nw:Nw H H0 D (.lst []))(hl:xs.length=bs.length)(hz:xs.length<=1000) (hs:∀(i:Nat)(x:V)(b:Bool)(H2:Hp)(Q':VK),xs[i]? =some x->bs[i]? =some b->aD H H2->(∀H3,aD H2 H3->Q' (.bl b) H3)->te (some x::rest) H2 Q') (hq:∀H',aD H H'->H' D=some (.lst (bs.map V.bl))->Q (.ref D) H'):kB (yn K a) (gw 0) jD te Q D (none::rest) H0:=Sm rest nw hl hz (λi x H2 e s=>⟨⟨xs,x,hx.go s,e⟩,λy H3 ⟨e3,y3⟩=>⟨e3,by have:=y3 _ (hx.go s);rw[e]at this;exact(dG this).symm⟩⟩) (λH2 s=>⟨xs,hx.go s,bO _⟩) hs hq
theorem Aq{ds:List ah}{f:ah->Bool}{i:Nat}{b:Bool}(h:(ds.map f)[i]? =some b):∃d,ds[i]? =some d/\f d=b:=by rw[bQ]at h;cases e:ds[i]? with |none=>rw[e]at h;cases h |some d=>rw[e]at h;exact⟨d,Z,dG h⟩
theorem all_map{ds:List ah}{f:ah->Bool}:(ds.map f).all id=ds.all f:=by rw[List.all_map];rfl
section
variable {X:Cx}
inductive aaM(K:aa)(x:V)(y:V)(H:Hp)(Q:VK):Prop |mk (a:_)(b:_)(xs:_)(ys:_)(h0:x= .ref a)(h1:y= .ref b)(h2:aJ K H a xs)(h3:aJ K H b ys)(h4:xs.length+ys.length<=sizeLine)(h5:∀p H',Nw H H' p (.lst (xs++ys))->Q (.ref p) H')
def Xx(K:aa):R2:=λx y H Q=>aaM K x y H Q
theorem oE(K:aa)(hK:X.K=K):cO X (binaryOp .Add) (Xx K):=by
 subst hK;intro ao s O H x y v u Q I rx ry h;obtain⟨a,b,xs,ys,rfl,rfl,ha,hb,hz,q⟩:=h;cases rx;cases ry;obtain⟨its,r1,p1,_⟩:=I.list ha;obtain⟨jK,r2,p2,_⟩:=I.list hb;obtain⟨⟨cls,dd,data,sl⟩,n,ho,hc,hdd,hd⟩:=id p1;obtain⟨⟨Sq,uU,data2,sl2⟩,n2,mF,gu,ac1,hd2⟩:=id p2;simp only at hc hd gu hd2;subst hc hd gu hd2;have e:its.toArray++jK.toArray=(its++jK).toArray:=by simp
 refine concat_meets ⟨_,ho,Z⟩ ⟨_,mF,Z⟩ noFill_list_add seq_list_add PySem.F.slot_list_add PySem.F.entry_list_add (PySem.F.args_list_add_2 _ _) (list_addW a b its.toArray jK.toArray n n2 dd uU sl sl2 (by rw[dR,dR,<-r1.length,<-r2.length];exact hz)) ⟨ho,mF,?_⟩;rw[e];have nw:Nw H (upd H s.heap.objs.size (.lst (xs++ys))) s.heap.objs.size (.lst (xs++ys)):=.of (I.bB.fresh (bO _));refine⟨.ref s.heap.objs.size,_,I.laid (t':=s.toks) (o:=.lst (xs++ys)) (λb ob q=>cC _ q) (bO _) ?_,Z,q _ _ nw⟩;exact⟨by rw[fP];exact hz,_,0,r1.append r2,dX _ Z⟩
open Classical in
noncomputable def sy(h:Heap)(d:ah)(w:Value):Bool:=if q:∃e as,Reads h w e as then PyData.eqv q.choose d else false
theorem a7g{h:Heap}{d e:ah}{w:Value}{as:List Addr}(r:Reads h w e as):sy h d w=PyData.eqv e d:=by have q:∃e as,Reads h w e as:=⟨e,as,r⟩;unfold sy;rw[dif_pos q];obtain⟨as',r'⟩:=q.choose_spec;rw[(Reads.unique r' e as r).1]
theorem RF{ao:List (Addr×Obj)}{s:ae}{O:St}{H:Hp}(I:Inv X ao O H s)(hu:X.A.units+65<cLine){x:V}{u:Value}{d:ah}(rx:RelV x u)(hd:RD X.K H x d)(sd:SeqAt.shaped d=true): ∀{xs:List V}{us:List Value}{ds:List ah},Vals xs us->aL X.K H xs ds->(∀e∈ds,SeqAt.shaped e=true)->(∀w∈us,SeqAt.EqAt X.A.in1 s w u (sy s.heap d w))/\us.any (sy s.heap d)=ds.any λe=>PyData.eqv e d |xs,us,[],rv,h,_=>by cases h.nil_inv;cases rv;exact⟨λ_ h=>(eQ h).elim,Z⟩ |xs,us,e::ds,rv,h,se=>by obtain⟨y,ys,rfl,h1,h2⟩:=h.cons_inv;cases rv with |cons ra rb=>
 rename_i w ws;obtain⟨as,q1⟩:=RD.reads I e ra h1;obtain⟨bs,q2⟩:=RD.reads I d rx hd;have key:SeqAt.EqAt X.A.in1 s w u (PyData.eqv e d):=SeqAt.eqAt_reads e d X.A.in1 s w u as bs q1 q2 (SeqAt.canLay_of_shaped (se e (.head _))) (SeqAt.canLay_of_shaped sd) (SeqAt.room_of_shaped (se e (.head _)) (by show X.A.units+1+64<cLine;omega));obtain⟨k1,k2⟩:=RF I hu rx hd sd rb h2 (λe' he=>se e' (.tail _ he));have ew:sy s.heap d w=PyData.eqv e d:=a7g q1;refine⟨λz hz=>?_,?_⟩
 ·rcases cj.mp hz with rfl|hz
  ·rw[ew];exact key
  ·exact k1 z hz
 ·rw[vF,vF,ew,k2]
end
end _L
namespace _L
theorem cN.UU{k:Nat}{A:PySem.Around}(r:cN k A):A.units+65<PySem.cLine:=by have:=r.un;lia
end _L
namespace _L
open PySem PySem.Spec PyProof.Rows
def jb(b:Bool)(h:Heap)(it l:Addr)(k:Nat):Prop:=match b with|true=>h.IsListIter it l k|false=>h.IsTupleIter it l k
def gd(b:Bool)(h:Heap)(l:Addr)(xs:Array Value):Prop:=match b with|true=>h.IsList l xs|false=>h.IsTuple l xs
def qf(b:Bool):String:=match b with|true=>"list_iterator"|false=>"tuple_iterator"
theorem jb.to{b:Bool}{h g:Heap}{it l:Addr}{k:Nat}(x:jb b h it l k)(e:∀o,h.get? it=some o->g.get? it=some o):jb b g it l k:=by cases b<;>(obtain⟨o,ho,r⟩:=x;exact⟨o,e o ho,r⟩)
theorem gd.to{b:Bool}{h g:Heap}{l:Addr}{xs:Array Value}(x:gd b h l xs)(e:∀o,h.get? l=some o->g.get? l=some o):gd b g l xs:=by cases b<;>(obtain⟨o,ho,r⟩:=x;exact⟨o,e o ho,r⟩)
theorem jb.ob{b:Bool}{h:Heap}{it l:Addr}{k:Nat}(x:jb b h it l k):∃o,h.get? it=some o/\o.cls= .type (qf b)/\∀v,o.data≠ .cell v:=by cases b<;>(obtain⟨o,ho,c,d⟩:=x;exact⟨o,ho,c,λv z=>by rw[d]at z;cases z⟩)
section
variable {prog:af}{w:World}{A:ai}{E:Value->ae->Prop}{s:ae}
theorem uw{b:Bool}{l:Addr}{xs:Array Value}{Q:Value->ae->Prop}(x:gd b s.heap l xs) (q:Q (.ref s.heap.objs.size) {s with heap:=s.heap.push {cls:=.type (qf b),data:=.fields #[.ref l,.int 0 0]}}):wpAny (model prog w) A (pyIter (.ref l)) Q E s:=by
 cases b
 ·exact wpAny_pyIter_tuple x q
 ·exact yu x q
theorem a0r{it t:Addr}{k:Nat}{ts:Array Value}{x:Value}{Q:Value->ae->Prop}(hi:s.heap.IsTupleIter it t k)(ht:s.heap.IsTuple t ts)(hx:ts[k]? =some x) (q:∀g,g.IsTupleIter it t (k+1)->Heap.SameBut it s.heap g->Q x {s with heap:=g}):wpAny (model prog w) A (Builtin.SmallTypes.nextOf (.ref it)) Q E s:=by obtain⟨oi,iT,ci,di⟩:=id hi;obtain⟨ot,Hb,_,nt,dt⟩:=ht;unfold Builtin.SmallTypes.nextOf;refine aM (BL (name:=Str.ofString "__next__") hi.typeIs JO (BK JO hi.typeIs abb ?_ (abd _)));show wpAny _ _ (field (.ref it) 0>>=_) _ _ s;refine aM (ib iT di (x:=.ref t) Z ?_);show wpAny _ _ (if(Value.ref t==Value.none)=true then _ else _) _ _ s;rw[bh (show¬((Value.ref t==Value.none)=true)from dN)];show wpAny _ _ (field (.ref it) 1>>=_) _ _ s;refine aM (ib iT di (x:=.int k 0) Z ?_);show wpAny _ _ (seqItems? (.ref t)>>=_) _ _ s;refine aM (sT Hb dt ?_);simp only[Ur,hx];refine aM (BI iT di (by simp) (bV ⟨x,Z,bV (q _ ?_ (Heap.SameBut.update ..))⟩));exact⟨_,K7 _ iT (Ud (BV di _)),(Obj.cls_mapFields ..).trans ci,by rw[BV di];simp[rawInt]⟩
theorem a7m{it t:Addr}{k:Nat}{ts:Array Value}{Q:Value->ae->Prop}(hh:A.handled=none)(hi:s.heap.IsTupleIter it t k)(ht:s.heap.IsTuple t ts)(hx:ts[k]? =none) (q:∀g e,Heap.ExtBut it s.heap g->(∃o,g.get? e=some o/\o.cls= .type "StopIteration")->E (.ref e) {s with heap:=g}):wpAny (model prog w) A (Builtin.SmallTypes.nextOf (.ref it)) Q E s:=by
 obtain⟨oi,iT,ci,di⟩:=id hi;obtain⟨ot,Hb,_,nt,dt⟩:=ht;unfold Builtin.SmallTypes.nextOf;refine aM (BL (name:=Str.ofString "__next__") hi.typeIs JO (BK JO hi.typeIs abb ?_ (abd _)));show wpAny _ _ (field (.ref it) 0>>=_) _ _ s;refine aM (ib iT di (x:=.ref t) Z ?_);show wpAny _ _ (if(Value.ref t==Value.none)=true then _ else _) _ _ s;rw[bh (show¬((Value.ref t==Value.none)=true)from dN)];show wpAny _ _ (field (.ref it) 1>>=_) _ _ s;refine aM (ib iT di (x:=.int k 0) Z ?_);show wpAny _ _ (seqItems? (.ref t)>>=_) _ _ s;refine aM (sT Hb dt ?_);simp only[Ur,hx];refine aM (wpAny_rule (aM (BI iT di (by simp) ?_)));show wpAny _ _ (newExc (.type "StopIteration") []>>=_) _ _ _;refine aM ?_;simp only[newExc,newTuple];refine aM (oN ?_ (by size_fits));refine aM (m:=firstArgMember _ _) (yw (a:=Value.none) (by first|rfl|(simp only[firstArgMember];rfl)) ?_);refine oN ?_ (by size_fits);simp only[raiseNew];refine aM (wpAny_handled ?_)
 first|rw[show A.in1.handled=none from hh]|rw[hh]
 exact aM (bV (wpAny_throw (q _ _ (((Heap.SameBut.update ..).extBut.push _).push _) ⟨_,dX _ Z,Z⟩)))
theorem Ah{b:Bool}{it l:Addr}{k:Nat}{xs:Array Value}{x:Value}{Q:Value->ae->Prop}(hi:jb b s.heap it l k)(hl:gd b s.heap l xs)(hx:xs[k]? =some x) (q:∀g,jb b g it l (k+1)->Heap.SameBut it s.heap g->Q x {s with heap:=g}):wpAny (model prog w) A (Builtin.SmallTypes.nextOf (.ref it)) Q E s:=by
 cases b
 ·exact a0r hi hl hx q
 ·exact wpAny_nextOf_list_item hi hl hx q
theorem IQ{b:Bool}{it l:Addr}{k:Nat}{xs:Array Value}{Q:Value->ae->Prop}(hh:A.handled=none)(hi:jb b s.heap it l k)(hl:gd b s.heap l xs)(hx:xs[k]? =none) (q:∀g e,Heap.ExtBut it s.heap g->(∃o,g.get? e=some o/\o.cls= .type "StopIteration")->E (.ref e) {s with heap:=g}):wpAny (model prog w) A (Builtin.SmallTypes.nextOf (.ref it)) Q E s:=by
 cases b
 ·exact a7m hh hi hl hx q
 ·exact wpAny_nextOf_list_end hh hi hl hx q
structure Zp(b1 b2:Bool)(h:Heap)(z TI TO i1 i2 l1 l2:Addr)(f0:Value)(k:Nat):Prop where
 zz:IsZip h z TI TO f0
 ti:IsPair h TI (.ref i1) (.ref i2)
 to:∃a b,IsPair h TO a b
 n1:jb b1 h i1 l1 k
 n2:jb b2 h i2 l2 k
theorem Ov{z TI TO:Addr}{Q:Bool->ae->Prop}(hz:IsZip s.heap z TI TO .none)(q:Q true s):wpAny (model prog w) A (Builtin.SmallTypes.ownedTupleIsFree (.ref z)) Q E s:=by unfold Builtin.SmallTypes.ownedTupleIsFree;exact aM (ib hz Z (x:=.none) Z (bV q))
theorem Ux{b1 b2:Bool}{z TI TO i1 i2 l1 l2:Addr}{k:Nat}{xs ys:Array Value}{x y:Value}{Q:Value->ae->Prop}(D:ZipApart z TI TO i1 i2 l1 l2)(acv:Zp b1 b2 s.heap z TI TO i1 i2 l1 l2 .none k) (kS:gd b1 s.heap l1 xs)(pI:gd b2 s.heap l2 ys)(hx:xs[k]? =some x)(hy:ys[k]? =some y) (q:∀g,Zp b1 b2 g z TI TO i1 i2 l1 l2 (rawInt s.heap.objs.size) (k+1)->IsPair g s.heap.objs.size x y->(∀c o,c≠z->c≠TO->c≠i1->c≠i2->s.heap.get? c=some o->g.get? c=some o)->Q (.ref s.heap.objs.size) {s with heap:=g}): wpAny (model prog w) A (Builtin.«zip.__next__» ⟨[.ref z],[]⟩) (λr s'=>∃v,r= .done (.ret v)/\Q v s') E s:=by
 obtain⟨hz,ky,⟨a,b,kX⟩,h1,h2⟩:=acv;show wpAny _ _ (field (.ref z) 2>>=_) _ _ _;refine aM (ib hz Z (x:=.bool false) Z ?_);show wpAny _ _ (field (.ref z) 3>>=_) _ _ _;refine aM (ib hz Z (x:=.ref TI) Z (aM (sT ky Z ?_)));show wpAny _ _ (Builtin.SmallTypes.ownedTupleIsFree (.ref z)>>=_) _ _ _;refine aM (Ov hz ?_);simp only[if_true];refine aM (wpAny_rule (aM (ib hz Z (x:=.ref TO) Z (aM (yt hz (by simp) λg1 z1 e1=>?_)))));replace z1:IsZip g1 z TI TO .ellipsis:=z1;refine aM ?_;simp only[List.zipIdx_cons,List.zipIdx_nil,K2,List.forIn_nil];refine aM (aM (BJ ?_));show wpAny _ _ (Builtin.SmallTypes.nextOf (.ref i1)>>=_) _ _ _;refine aM (Ah (h1.to λo e=>e1.extBut _ _ D.i1z e) (kS.to λo e=>e1.extBut _ _ D.l1z e) hx λg2 n1 e2=>bV ?_);have t2:IsPair g2 TO a b:=e2.extBut _ _ D.TOi1 (e1.extBut _ _ D.TOz kX);refine aM (sT t2 Z (aM (TL t2 λg3 t3 e3=>?_)));replace t3:IsPair g3 TO x b:=t3;refine aM (wpAny_letGo (bV ?_));refine aM (aM (BJ ?_));show wpAny _ _ (Builtin.SmallTypes.nextOf (.ref i2)>>=_) _ _ _;refine aM (Ah (h2.to λo e=>e3.extBut _ _ D.TOi2.symm (e2.extBut _ _ D.i12.symm (e1.extBut _ _ D.i2z e))) (pI.to λo e=>e3.extBut _ _ D.l2TO (e2.extBut _ _ D.l2i1 (e1.extBut _ _ D.l2z e))) hy λg4 n2 e4=>bV ?_);have t4:IsPair g4 TO x b:=e4.extBut _ _ D.TOi2 t3;refine aM (sT t4 Z (aM (TL t4 λg5 t5 e5=>?_)));replace t5:IsPair g5 TO x y:=t5;refine aM (wpAny_letGo (bV (bV ?_)));refine aM (sT t5 Z (aM (wpAny_newTuple ?_)));have sz:g5.objs.size=s.heap.objs.size:=by rw[e5.1,e4.1,e3.1,e2.1,e1.1]
 have z5:IsZip g5 z TI TO .ellipsis:=e5.extBut _ _ D.TOz.symm (e4.extBut _ _ D.i2z.symm (e3.extBut _ _ D.TOz.symm (e2.extBut _ _ D.i1z.symm z1)));have kp:∀c o,c≠z->c≠TO->c≠i1->c≠i2->s.heap.get? c=some o->g5.get? c=some o:=λc o c1 c2 c3 c4 e=>e5.extBut _ _ c2 (e4.extBut _ _ c4 (e3.extBut _ _ c2 (e2.extBut _ _ c3 (e1.extBut _ _ c1 e))));have m1:jb b1 g5 i1 l1 (k+1):=n1.to λo e=>e5.extBut _ _ D.TOi1.symm (e4.extBut _ _ D.i12 (e3.extBut _ _ D.TOi1.symm e));have m2:jb b2 g5 i2 l2 (k+1):=n2.to λo e=>e5.extBut _ _ D.TOi2.symm e;have C6:z<g5.objs.size:=cm z5;show wpAny _ _ (Builtin.SmallTypes.ownedTupleHandOut (.ref z) (.ref g5.objs.size)>>=_) _ _ _;refine aM ?_;unfold Builtin.SmallTypes.ownedTupleHandOut;have z6:IsZip (g5.push {cls:=.type "tuple",data:=.seq #[x,y]}) z TI TO .ellipsis:=cC _ z5;refine aM (yt z6 (by simp) λg7 z7 e7=>?_);replace z7:IsZip g7 z TI TO (rawInt g5.objs.size):=z7;refine yt z7 (by simp) λg8 z8 e8=>?_;replace z8:IsZip g8 z TI TO (rawInt g5.objs.size):=z8;have up:∀c o,c≠z->g5.get? c=some o->g8.get? c=some o:=λc o c1 e=>e8.extBut _ _ c1 (e7.extBut _ _ c1 (cC _ e));have t8:IsPair g8 g5.objs.size x y:=e8.extBut _ _ (BW C6) (e7.extBut _ _ (BW C6) (dX _ Z));rw[sz]at z8 t8;refine bV ⟨_,Z,?_⟩;show Q (.ref g5.objs.size) _;rw[sz];exact q g8 ⟨z8,up _ _ D.TIz (kp _ _ D.TIz D.TITO D.TIi1 D.TIi2 ky),⟨_,_,up _ _ D.TOz t5⟩,m1.to λo e=>up _ o D.i1z e,m2.to λo e=>up _ o D.i2z e⟩ t8 λc o c1 c2 c3 c4 e=>up c o c1 (kp c o c1 c2 c3 c4 e)
theorem Uy{b1 b2:Bool}{z TI TO i1 i2 l1 l2:Addr}{k:Nat}{xs ys:Array Value}{Q:Fin->ae->Prop}(hh:A.handled=none)(D:ZipApart z TI TO i1 i2 l1 l2)(acv:Zp b1 b2 s.heap z TI TO i1 i2 l1 l2 .none k) (kS:gd b1 s.heap l1 xs)(pI:gd b2 s.heap l2 ys)(kW:xs[k]? =none\/ys[k]? =none) (q:∀g e,(∀c o,c≠z->c≠TO->c≠i1->c≠i2->s.heap.get? c=some o->g.get? c=some o)->(∃o,g.get? e=some o/\o.cls= .type "StopIteration")->E (.ref e) {s with heap:=g}): wpAny (model prog w) A (Builtin.«zip.__next__» ⟨[.ref z],[]⟩) Q E s:=by obtain⟨hz,ky,⟨a,b,kX⟩,h1,h2⟩:=acv;show wpAny _ _ (field (.ref z) 2>>=_) _ _ _;refine aM (ib hz Z (x:=.bool false) Z ?_);show wpAny _ _ (field (.ref z) 3>>=_) _ _ _;refine aM (ib hz Z (x:=.ref TI) Z (aM (sT ky Z ?_)));show wpAny _ _ (Builtin.SmallTypes.ownedTupleIsFree (.ref z)>>=_) _ _ _;refine aM (Ov hz ?_);simp only[if_true];refine aM (wpAny_rule (aM (ib hz Z (x:=.ref TO) Z (aM (yt hz (by simp) λg1 z1 e1=>?_)))));replace z1:IsZip g1 z TI TO .ellipsis:=z1;refine aM ?_;simp only[List.zipIdx_cons,List.zipIdx_nil,K2,List.forIn_nil];refine aM (aM (BJ ?_));show wpAny _ _ (Builtin.SmallTypes.nextOf (.ref i1)>>=_) _ _ _;have j1:=h1.to λo e=>e1.extBut _ _ D.i1z e;have k1:=kS.to λo e=>e1.extBut _ _ D.l1z e;cases hx:xs[k]? with
 |none=>
  refine aM (IQ hh j1 k1 hx λg2 er e2 ⟨oe,rM,xB⟩=>?_);have z2:IsZip g2 z TI TO .ellipsis:=e2 _ _ D.i1z.symm z1;have nz:er≠z:=λv=>by subst v;rw[z2]at rM;cases rM;simp at xB
  refine yt z2 (by simp) λg3 _ e3=>q g3 er (λc o c1 _ c3 _ v=>e3.extBut _ _ c1 (e2 _ _ c3 (e1.extBut _ _ c1 v))) ⟨oe,e3.extBut _ _ nz rM,xB⟩ |some x=>
  have hy:ys[k]? =none:=by rcases kW with h|h;rw[hx]at h;cases h;exact h
  refine aM (Ah j1 k1 hx λg2 n1 e2=>bV ?_);have t2:IsPair g2 TO a b:=e2.extBut _ _ D.TOi1 (e1.extBut _ _ D.TOz kX);refine aM (sT t2 Z (aM (TL t2 λg3 t3 e3=>?_)));refine aM (wpAny_letGo (bV ?_));refine aM (aM (BJ ?_));show wpAny _ _ (Builtin.SmallTypes.nextOf (.ref i2)>>=_) _ _ _;refine aM (IQ hh (h2.to λo e=>e3.extBut _ _ D.TOi2.symm (e2.extBut _ _ D.i12.symm (e1.extBut _ _ D.i2z e))) (pI.to λo e=>e3.extBut _ _ D.l2TO (e2.extBut _ _ D.l2i1 (e1.extBut _ _ D.l2z e))) hy λg4 er e4 ⟨oe,rM,xB⟩=>?_);have z4:IsZip g4 z TI TO .ellipsis:=e4 _ _ D.i2z.symm (e3.extBut _ _ D.TOz.symm (e2.extBut _ _ D.i1z.symm z1));have nz:er≠z:=λv=>by subst v;rw[z4]at rM;cases rM;simp at xB
  refine yt z4 (by simp) λg5 _ e5=>q g5 er (λc o c1 c2 c3 c4 v=>e5.extBut _ _ c1 (e4 _ _ c4 (e3.extBut _ _ c2 (e2.extBut _ _ c3 (e1.extBut _ _ c1 v))))) ⟨oe,e5.extBut _ _ nz rM,xB⟩
abbrev yR(b1:Bool)(h:Heap)(l1:Addr):Heap:=h.push {cls:=.type (qf b1),data:=.fields #[.ref l1,.int 0 0]}
abbrev yQ(b1 b2:Bool)(h:Heap)(l1 l2:Addr):Heap:=(yR b1 h l1).push {cls:=.type (qf b2),data:=.fields #[.ref l2,.int 0 0]}
abbrev yP(b1 b2:Bool)(h:Heap)(l1 l2:Addr):Heap:=(yQ b1 b2 h l1 l2).push {cls:=.type "tuple",data:=.seq #[.ref h.objs.size,.ref (yR b1 h l1).objs.size]}
abbrev yO(b1 b2:Bool)(h:Heap)(l1 l2:Addr):Heap:=(yP b1 b2 h l1 l2).push {cls:=.type "tuple",data:=.seq #[.none,.none]}
abbrev tq(b1 b2:Bool)(h:Heap)(l1 l2:Addr):Heap:=(yO b1 b2 h l1 l2).push {cls:=.type "zip",data:=.fields #[.none,.bool false,.bool false,.ref (yQ b1 b2 h l1 l2).objs.size,.ref (yP b1 b2 h l1 l2).objs.size]}
theorem Uw(b1 b2:Bool)(l1 l2:Addr)(xs ys:Array Value):Meets (Builtin.«zip.__new__» ⟨[.type "zip",.ref l1,.ref l2],[]⟩) (λ_ R s=>gd b1 s.heap l1 xs/\gd b2 s.heap l2 ys/\R (.ok (.ret (.ref (yO b1 b2 s.heap l1 l2).objs.size))) {s with heap:=tq b1 b2 s.heap l1 l2}):=.of_wp λprog w A R s h=>by
 obtain⟨hp,gg,d,tk,os⟩:=s;obtain⟨kS,pI,h⟩:=h;have GU:=sub_zip;have hL1:gd b1 (Shared.heap ⟨hp,gg,d,tk,os⟩) l1 xs:=kS;have xJ:gd b2 (Shared.heap ⟨hp.push {cls:=.type (qf b1),data:=.fields #[.ref l1,.int 0 0]},gg,d,tk,os⟩) l2 ys:=pI.to λo e=>cC _ e
 wp_walk using uw hL1,uw xJ;exact⟨_,Z,h⟩
theorem Uz{b1 b2:Bool}{l1 l2:Addr}{xs ys:Array Value}{Q:Value->ae->Prop}(kS:gd b1 s.heap l1 xs)(pI:gd b2 s.heap l2 ys) (q:∀g,Zp b1 b2 g (s.heap.objs.size+4) (s.heap.objs.size+2) (s.heap.objs.size+3) s.heap.objs.size (s.heap.objs.size+1) l1 l2 .none 0->(∀c o,s.heap.get? c=some o->g.get? c=some o)->Q (.ref (s.heap.objs.size+4)) {s with heap:=g}): wpAny (model prog w) A (call (.type "zip") [.ref l1,.ref l2]) Q E s:=by
 refine callType_new PySem.F.called_zip az (PySem.F.typeCall_zip_2 _ _) (PySem.F.newCall_zip_2 _ _) (λobj=>PySem.F.args_object_init_3 obj _ _) PySem.F.entry_zip_new (Uw b1 b2 l1 l2 xs ys) ⟨kS,pI,?_⟩;have z1:(yR b1 s.heap l1).objs.size=s.heap.objs.size+1:=qw ..;have z2:(yQ b1 b2 s.heap l1 l2).objs.size=s.heap.objs.size+2:=by rw[qw,z1]
 have z3:(yP b1 b2 s.heap l1 l2).objs.size=s.heap.objs.size+3:=by rw[qw,z2]
 have z4:(yO b1 b2 s.heap l1 l2).objs.size=s.heap.objs.size+4:=by rw[qw,z3]
 have g5:(tq b1 b2 s.heap l1 l2).get? (yO b1 b2 s.heap l1 l2).objs.size=some _:=dX _ rfl;have g4:(tq b1 b2 s.heap l1 l2).get? (yP b1 b2 s.heap l1 l2).objs.size=some _:=cC _ (dX _ Z);have g3:(tq b1 b2 s.heap l1 l2).get? (yQ b1 b2 s.heap l1 l2).objs.size=some _:=cC _ (cC _ (dX _ Z));have g2:(tq b1 b2 s.heap l1 l2).get? (yR b1 s.heap l1).objs.size=some _:=cC _ (cC _ (cC _ (dX _ Z)));have g1:(tq b1 b2 s.heap l1 l2).get? s.heap.objs.size=some _:=cC _ (cC _ (cC _ (cC _ (dX _ Z))));show _/\_;rw[z2,z3,z4]at g5;rw[z1,z2]at g3;rw[z3]at g4;rw[z1]at g2;rw[z4];refine⟨⟨_,g5,Z⟩,q _ ⟨g5,g3,⟨_,_,g4⟩,?_,?_⟩ λc o e=>cC _ (cC _ (cC _ (cC _ (cC _ e))))⟩
 ·cases b1<;>exact⟨_,g1,rfl,rfl⟩
 ·cases b2<;>exact⟨_,g2,rfl,rfl⟩
end
section
variable {X:Cx}{ao:List (Addr×Obj)}{O:St}{H:Hp}{s:ae}{h':Heap}
theorem Inv.vP{t':Nat}{fp:List Addr}(I:Inv X ao O H s)(k:∀b o,b∉fp->s.heap.get? b=some o->h'.get? b=some o)(hf:∀b∈fp,jU X ao H b):Inv X ao O H {s with heap:=h',toks:=t'}:=by
 have wR:∀b u,H b=some u->b∉fp:=λb u e z=>by rw[(hf b z).1]at e;cases e
 have hL:X.env.locals∉fp:=λz=>(hf _ z).2.1 rfl;refine I.step (g':=s.gens) (d':=s.drawn) (ch:=fp) (λb hb=>?_) (λb o _ _ hc e _=>k b o hc e) (λb o _ _ hc e _=>⟨o.slots,k b o hc e⟩) (λ_ _ _ _ n=>n) (λb o hc e=>⟨o,k b o hc e⟩) (λ_ _ e=>e) (λ_ _ _ e=>e) (λb ps e=>⟨#[],by rw[e];simp⟩) (λm hm=>?_) (λb u e=>?_) I.bare
 ·obtain⟨f0,f1,f2,f3,f4,f5⟩:=hf b hb
  exact⟨f3,f1,f4,f5⟩
 ·obtain⟨o,es,ep,ho,r⟩:=hm
  exact⟨o,es,ep,k _ o hL ho,r⟩
 ·refine(I.bB b u e).lS (λc v hc q=>k c v ?_ q) (λ_ q=>q) λ_ _ q=>q
  rcases hc with z|z
  ·rw[z];exact wR b u e
  ·exact wR c _ z
end
def eu(b:Bool)(K:aa)(H:Hp)(a:Addr)(xs:List V):Prop:=match b with|true=>aJ K H a xs|false=>aZ K H a xs
theorem eu.get{X:Cx}{ao:List (Addr×Obj)}{O:St}{H:Hp}{s:ae}{b:Bool}{a:Addr}{xs:List V}(I:Inv X ao O H s)(h:eu b X.K H a xs):∃its:List Value,Vals xs its/\gd b s.heap a its.toArray:=by
 cases b
 ·obtain⟨its,r,p,_⟩:=I.tuple h;exact⟨its,r,p⟩
 ·obtain⟨its,r,p,_⟩:=I.list h;exact⟨its,r,p.isList⟩
theorem eu.inj{X:Cx}{ao:List (Addr×Obj)}{O:St}{H:Hp}{s:ae}{b:Bool}{a:Addr}{xs ys:List V}(I:Inv X ao O H s)(h:eu b X.K H a xs)(g:eu b X.K H a ys):xs=ys:=by
 cases b
 ·exact I.Ki h g
 ·exact I.PB h g
def sR(K:aa)(b1 b2:Bool)(l1 l2:Addr):It:=⟨λi H=>∃xs ys x y,eu b1 K H l1 xs/\eu b2 K H l2 ys/\xs[i]? =some x/\ys[i]? =some y,λi H v H'=>∃T x y,v= .ref T/\(∀xs,eu b1 K H l1 xs->xs[i]? =some x)/\(∀ys,eu b2 K H l2 ys->ys[i]? =some y)/\Nw H H' T (.tup [x,y]),λi H=>∃xs ys,eu b1 K H l1 xs/\eu b2 K H l2 ys/\(xs.length<=i\/ys.length<=i)⟩
theorem V3{P:af}{w:World}{K:aa}{elts:List Expr}{kt:Nat}{pos:Pos}{b1 b2:Bool}{z TI TO i1 i2 l1 l2:Addr}(D:ZipApart z TI TO i1 i2 l1 l2): Turn P w K (.Tuple elts kt pos) (sR K b1 b2 l1 l2) [z,TI,TO,i1,i2] z (λi h=>Zp b1 b2 h z TI TO i1 i2 l1 l2 .none i) where
 mem:=by simp
 obj:=λi h st b hb=>by
  obtain⟨hz,ky,⟨a,c,kX⟩,h1,h2⟩:=st;simp only[cj,eQ,iI]at hb;rcases hb with rfl|rfl|rfl|rfl|rfl
  ·exact⟨_,hz,λv e=>by cases e⟩
  ·exact⟨_,ky,λv e=>by cases e⟩
  ·exact⟨_,kX,λv e=>by cases e⟩
  ·obtain⟨o,e,_,n⟩:=h1.ob;exact⟨o,e,n⟩
  ·obtain⟨o,e,_,n⟩:=h2.ob;exact⟨o,e,n⟩
 keep:=λi h h' st k=>by obtain⟨hz,ky,⟨a,c,kX⟩,h1,h2⟩:=st;exact⟨k z (by simp) _ hz,k TI (by simp) _ ky,⟨a,c,k TO (by simp) _ kX⟩,h1.to λo e=>k i1 (by simp) o e,h2.to λo e=>k i2 (by simp) o e⟩
 item:=by
  intro X hP hw hK hc i ao s O H E I hf st hg;subst hP hw hK;obtain⟨xs,ys,x,y,q1,q2,e1,e2⟩:=hg;obtain⟨GI,r1,p1⟩:=q1.get I;obtain⟨jK,r2,p2⟩:=q2.get I;obtain⟨u1,GR,kG⟩:=r1.get e1;obtain⟨u2,hu2,wu⟩:=r2.get e2;have hT:s.TypeIs (.ref z) "zip":=⟨_,st.zz,Z⟩;unfold pyNext;refine aM (BM (BL (name:=Str.ofString "__next__") hT JN (BK JN hT PySem.F.entry_zip_next (Ux D st p1 p2 (x:=u1) (y:=u2) (by simpa using GR) (by simpa using hu2) λg zg tg kp=>bV ?_) (PySem.F.args_zip_next_1 _))));refine⟨_,Z,?_⟩;refine wpAny_letOwnedTupleGo_zip zg.zz λg' Uv sb=>?_;have hs:=sb.extBut;have C6:z<s.heap.objs.size:=cm st.zz;have nw:Nw H (upd H s.heap.objs.size (.tup [x,y])) s.heap.objs.size (.tup [x,y]):=.of (I.bB.fresh (bO _));have I1:Inv X ao O (upd H s.heap.objs.size (.tup [x,y])) {s with heap:=s.heap.push {cls:=.type "tuple",data:=.seq #[u1,u2]}}:=I.laid (t':=s.toks) (λb ob q=>cC _ q) (bO _) ⟨by show 2<=sizeLine;decide,[u1,u2],.cons kG (.cons wu .nil),⟨_,dX _ Z,Z,_,Z⟩⟩;have Gq:∀b∈[z,TI,TO,i1,i2],b<s.heap.objs.size:=λb hb=>by
   simp only[cj,eQ,iI]at hb;obtain⟨hz,ky,⟨a,c,kX⟩,h1,h2⟩:=st;rcases hb with rfl|rfl|rfl|rfl|rfl
   ·exact cm hz
   ·exact cm ky
   ·exact cm kX
   ·obtain⟨o,e,_⟩:=h1.ob;exact cm e
   ·obtain⟨o,e,_⟩:=h2.ob;exact cm e
  have hn:∀b∈[z,TI,TO,i1,i2],upd H s.heap.objs.size (.tup [x,y]) b=none:=λb hb=>by rw[aV (eP (Gq b hb))];exact(hf b hb).1
  have I2:Inv X ao O (upd H s.heap.objs.size (.tup [x,y])) {s with heap:=g'}:=Inv.vP (s:={s with heap:=s.heap.push {cls:=.type "tuple",data:=.seq #[u1,u2]}}) (t':=s.toks) (fp:=[z,TI,TO,i1,i2]) I1 (λb o hb e=>by
   have e:(s.heap.push {cls:=.type "tuple",data:=.seq #[u1,u2]}).get? b=some o:=e;have nz:b≠z:=λq=>hb (by simp[q]);rcases Heap.get?_push_cases e with⟨Ht,rfl⟩|e'
   ·subst Ht
    exact hs _ _ nz tg
   ·exact hs _ _ nz (kp b o nz (λq=>hb (by simp[q])) (λq=>hb (by simp[q])) (λq=>hb (by simp[q])) e')) (λb hb=>by obtain⟨f0,f1,f2,f3,f4,f5⟩:=hf b hb;exact⟨hn b hb,f1,f2,f3,f4,f5⟩);refine⟨.ref s.heap.objs.size,_,I2,Z,⟨s.heap.objs.size,x,y,Z,λzs hz=>?_,λzs hz=>?_,nw⟩,?_,hn⟩
  ·rw[eu.inj I hz q1];exact e1
  ·rw[eu.inj I hz q2];exact e2
  ·obtain⟨_,ky,⟨a,c,kX⟩,h1,h2⟩:=zg
   exact⟨Uv,hs _ _ D.TIz ky,⟨a,c,hs _ _ D.TOz kX⟩,h1.to λo e=>hs _ o D.i1z e,h2.to λo e=>hs _ o D.i2z e⟩
 done:=by intro X hP hw hK hc i ao s O H E I hf st hg;subst hP hw hK;obtain⟨xs,ys,q1,q2,kW⟩:=hg;obtain⟨GI,r1,p1⟩:=q1.get I;obtain⟨jK,r2,p2⟩:=q2.get I;have hT:s.TypeIs (.ref z) "zip":=⟨_,st.zz,Z⟩;have l1:=r1.length;have l2:=r2.length;unfold pyNext;refine aM (BM (BL (name:=Str.ofString "__next__") hT JN (BK JN hT PySem.F.entry_zip_next (Uy (I.ok.hd hc) D st p1 p2 (kW.imp (λh=>by simp;lia) λh=>by simp;lia) λg e kp he=>?_) (PySem.F.args_zip_next_1 _))));obtain⟨o,ho,oa⟩:=he;refine aM (wpAny_isInstance (T:="StopIteration") (b:=true) ⟨o,ho,oa⟩ isSubtype_stop (bV ⟨Z,?_⟩));exact I.vP (t':=s.toks) (fp:=[z,TI,TO,i1,i2]) (λb o hb e=>kp b o (λq=>hb (by simp[q])) (λq=>hb (by simp[q])) (λq=>hb (by simp[q])) (λq=>hb (by simp[q])) e) hf
 self:=λ_ _ _ _ _ st h=>wpAny_pyIter_zip st.zz h
inductive aaQ(K:aa)(b1:Bool)(b2:Bool)(R:It->Hp->Prop)(vs:List V)(H1:Hp):Prop |mk (l1:_)(l2:_)(h0:vs=[.ref l1,.ref l2])(h1:(∃xs,eu b1 K H1 l1 xs))(h2:(∃ys,eu b2 K H1 l2 ys))(h3:R (sR K b1 b2 l1 l2) H1)
def a2K(K:aa)(b1 b2:Bool)(ta:TA):TI:=λO H R=>ta O H λvs H1=>aaQ K b1 b2 R vs H1
theorem qS(K:aa){X:Cx}(hK:X.K=K)(b1 b2:Bool){elts:List Expr}{kt:Nat}{mY:Pos}{a b:Expr}{ta:TA}{p pos:Pos}(hg:Gl X "zip")(hm:X.mg "zip"=none)(ha:PA X [a,b] ta)(hs:autoParam (starEach [a,b] X.env=[(false,eval a X.env),(false,eval b X.env)]) r8_._auto_1)(jn:autoParam (starEach [b] X.env=[(false,eval b X.env)]) r8_._auto_1): PI X (.Tuple elts kt mY) (.Call (.Name "zip" p) [a,b] [] pos) (a2K K b1 b2 ta):=by
 subst hK;intro ao s O H R I h;refine Call_ (pF I hg hm PyProof.Rows.boot_zip (yB (ba (ha pos ao s O H _ I h) λus s1 ⟨vs,H1,I1,r1,q1⟩=>?_) (by rw[hs,jn]) (by rw[jn];rfl)));obtain⟨l1,l2,e,⟨xs,h1⟩,⟨ys,h2⟩,q⟩:=q1;subst e;obtain⟨u1,u2,rfl,kG,wu⟩:=vals2 r1;cases(show u1=Value.ref l1 from kG);cases(show u2=Value.ref l2 from wu);obtain⟨GI,v1,p1⟩:=h1.get I1;obtain⟨jK,v2,p2⟩:=h2.get I1;have a1:l1<s1.heap.objs.size:=by cases b1<;>(obtain⟨o,e,_⟩:=p1;exact cm e)
 have a2:l2<s1.heap.objs.size:=by cases b2<;>(obtain⟨o,e,_⟩:=p2;exact cm e)
 refine Uz p1 p2 λg zg kp=>wpAny_pyIter_zip zg.zz ?_;refine⟨_,_,_,_,H1,Z,I1.kept (t':=s1.toks) kp,V3 (zipApart_new a1 a2),zg,λc hc=>?_,q⟩;have hle:s1.heap.objs.size<=c:=by simp only[cj,eQ,iI]at hc;rcases hc with rfl|rfl|rfl|rfl|rfl<;>first|exact bO _|exact Nat.le_add_right _ _
 exact I1.pQ hle (I1.bB.fresh hle)
theorem eu.go{b:Bool}{K:aa}{H H':Hp}{a:Addr}{xs:List V}(s:aD H H')(h:eu b K H a xs):eu b K H' a xs:=by
 cases b
 ·exact aZ.go s h
 ·exact aJ.go s h
theorem a7S{K:aa}{b1 b2:Bool}{l1 l2:Addr}{xs ys:List V}{bs:List Bool}{te:TE}{Q:VK}{D:Addr}{H H0:Hp}{n:Nat}(rest:St)(hn:n=2)(h1:eu b1 K H l1 xs)(h2:eu b2 K H l2 ys)(nw:Nw H H0 D (.lst [])) (hl:min xs.length ys.length=bs.length)(hz:bs.length<=1000) (hs:∀(i:Nat)(x y:V)(b:Bool)(H2:Hp)(Q':VK),xs[i]? =some x->ys[i]? =some y->bs[i]? =some b->aD H H2->(∀H3,aD H2 H3->Q' (.bl b) H3)->te (some x::some y::rest) H2 Q') (hq:∀H',aD H H'->H' D=some (.lst (bs.map V.bl))->Q (.ref D) H'):kB (sR K b1 b2 l1 l2) (Ba K n (xS (gw 0) (xS (gw 1) Ih))) jD te Q D (none::none::rest) H0:=by
 subst hn;have hD:=nw.no;refine uW bs.length (λi O H2=>aD H H2/\H2 D=some (.lst ((bs.take i).map V.bl))/\∃v v',O=v::v'::rest) ?_ ?_ ?_
 ·exact⟨nw.same,nw.at',none,none,Z⟩
 ·rintro i O H2 hi ⟨s2,d2,v,v',rfl⟩
  have hx:i<xs.length:=by lia
  have hy:i<ys.length:=by lia
  have ex:=cu hx;have ey:=cu hy;have eb:=cu hi;refine⟨⟨xs,ys,_,_,h1.go s2,h2.go s2,ex,ey⟩,λy' H3 rK=>?_⟩;obtain⟨T,x0,y0,rfl,k1,k2,n3⟩:=rK;have e1:=k1 _ (h1.go s2);have e2:=k2 _ (h2.go s2);rw[ex]at e1;rw[ey]at e2;cases e1;cases e2;refine⟨T,_,Z,aZ.of n3.at',Z,_,_,Z,_,_,Z,Z,?_⟩;refine yes (bG ?_);refine hs i _ _ _ _ _ ex ey eb (s2.trans n3.same) λH4 s4=>?_;refine⟨_,s4 _ _ (n3.same _ _ d2),?_,bs.length-(i+1),aw,Z,aw,λb o e=>?_,?_,_,_,Z⟩
  ·rw[bS,tf]
   have:(1000:Nat)<sizeLine:=by decide
   lia
  ·rw[aV (g6 e hD)];exact s4 b o (n3.same b o (s2 b o e))
  ·rw[bW,vy,eb,mV];rfl
 ·rintro O H2 ⟨s2,d2,v,v',rfl⟩
  refine⟨⟨xs,ys,h1.go s2,h2.go s2,aw⟩,hq H2 s2 ?_⟩;rw[d2,yG]
theorem gf.there{P:af}{w:World}{H:Hp}{h:Heap}{a:Addr}{o:HO}(x:gf P w H h a o):∃ob,h.get? a=some ob:=by induction o with |lst xs=>obtain⟨_,_,_,_,e⟩:=x;exact⟨_,e⟩ |tup xs=>obtain⟨_,_,_,ob,e,_⟩:=x;exact⟨ob,e⟩ |dK dI=>obtain⟨_,_,_,_,ob,_,_,e,_⟩:=x;exact⟨ob,e⟩ |dT dI=>obtain⟨_,_,_,_,ob,_,_,e,_⟩:=x;exact⟨ob,e⟩ |set S n=>obtain⟨ob,_,_,_,e,_⟩:=x;exact⟨ob,e⟩ |ins C dx fs=>obtain⟨_,_,_,e,_⟩:=x;exact⟨_,e⟩ |own y=>exact x |xd fs=>obtain⟨_,⟨ob,_,_,e,_⟩,_⟩:=x;exact⟨ob,e⟩ |qK lo hi=>obtain⟨_,_,_,e⟩:=x;exact⟨_,e⟩ |lA ob u=>exact⟨_,x.1⟩ |mZ ps=>exact⟨_,x⟩ |met f y=>exact⟨_,x⟩ |ext φ=>exact x.2.1
structure Fl(P:af)(w:World)(outer:List Env)(H:Hp)(h₁:Heap)(ex:Addr)(H':Hp)(B h:Heap):Prop where
 un:Un (ek outer) [] H H' h₁ h
 bB:eB P w H' h
 k1:∀b o,h₁.get? b=some o->H b=none->b∉ek outer->B.get? b=some o
 k2:∀b o,H' b=some o->∃ob,B.get? b=some ob
 k3:∀b o,h₁.get? b=some o->b∉ek outer->∃ob,B.get? b=some ob
 fr:∀b∈ek outer,H' b=none
 nw:h₁.get? ex=none
 ne:H' ex=none
theorem Fl.step{P:af}{w:World}{outer:List Env}{H H':Hp}{h₁ B h h':Heap}{ex:Addr}{au:Heap}(F:Fl P w outer H h₁ ex H' B h)(st:B.StaysIn h)(gp:B.StaysIn h')(up:h.UpToSlots h')(ff:h.FunFrames au outer):Fl P w outer H h₁ ex H' B h':=by
 have slot:∀b o,h₁.get? b=some o->H b=none->b∈ek outer->∃sl,h'.get? b=some {o with slots:=sl}:=λb o e n hb=>by obtain⟨sl,e1⟩:=F.un.slot b o e n hb (by simp);obtain⟨_,o2,e2,hd⟩:=ff.mem hb;rw[e1]at e2;cases e2;obtain⟨CZ,e3⟩:=up b _ e1 (λvs=>hd vs);exact⟨CZ,e3⟩
 refine⟨⟨λb o e n hb _=>gp b o (F.k1 b o e n hb),λb o e n hb _=>slot b o e n hb,F.un.free,λb o e hx=>?_,F.un.jf,F.un.iZ,F.un.jg⟩,λb u e=>?_,F.k1,F.k2,F.k3,F.fr,F.nw,F.ne⟩
 ·by_cases hb:b∈ek outer
  ·obtain⟨_,o2,e2,hd⟩:=ff.mem hb
   obtain⟨sl,e3⟩:=up b o2 e2 hd;exact⟨_,e3⟩
  ·obtain⟨ob,e1⟩:=F.k3 b o e hb
   exact⟨ob,gp b ob e1⟩
 ·refine(F.bB b u e).lS (λc v hc q=>?_) (λ_ q=>q) λ_ _ q=>q
  have inB:∃ob,B.get? c=some ob:=by
   rcases hc with z|z
   ·rw[z];exact F.k2 b u e
   ·exact F.k2 c _ z
  obtain⟨ob,e1⟩:=inB;have e2:=st c ob e1;rw[q]at e2;cases e2;exact gp c _ e1
section
variable {P:af}{w:World}{K:aa}{mg:bD}{au:Heap}{N:List Str}{qual:Str}{scope:Scope}{f:Addr}{cd:Value}{A:ai}{outer:List Env}{s:ae}{H:Hp}{E:XK}{ao:List (Addr×Obj)}{O:St}{H1:Hp}{s1:ae}{h2:Heap}{ex:Addr}{cls:Value}{vs:List Value}
end
structure Exc(K:aa)(mg:bD)(x:Str)(C:Addr)(lG:List Value)(newId:String):Prop where
 at':mg x=some (.ref C)
 ok:PySem.W.excIn K C lG newId=true
theorem Exc.own{K:aa}{mg:bD}{x:Str}{C:Addr}{lG:List Value}{newId:String}{h:Heap}(e:Exc K mg x C lG newId)(X:K.In h):OwnCls x C lG newId mg h:=by
 refine⟨e.at',?_⟩;have q:=e.ok;unfold PySem.W.excIn at q;split at q
 ·rename_i dd cd sl ho
  split at q
  ·rename_i D2 bl a0 a1 a2 a3 nn a5 hm hs
   simp only[fi,eH,Bool.not_eq_true']at q;obtain⟨⟨⟨⟨⟨r1,r2⟩,Qz⟩,ht⟩,bB⟩,AU⟩:=q;subst r1 r2;obtain⟨c1,c2,c3,c4,c5,c6,c7,c8,c9,c10,c11⟩:=cd;dsimp only at hm Qz bB AU;subst hm Qz;obtain⟨l⟩:=sl;simp only at hs;subst hs;exact⟨bl,c4,c1,c5,c2,c6,c7,c8,c9,c10,dd,a0,a1,a2,a3,a5,_,X _ _ ho,.of_isNs (PySem.W.isNs_of_in X bB),PySem.W.nsMap_none_of_in X bB AU,PySem.W.tail_of_in X ht⟩
  ·cases q
 ·cases q
section
variable {X:Cx}{x:Str}{C:Addr}{lG:List Value}{newId GO B:String}{e:Expr}{t:TA}{np cn pos:Pos}
def Vq(E:XK)(cls:Value)(t:TA):TS:=λ_ O H=>t O H λvs H1=>vs.length<=sizeLine/\E cls none H1
theorem FF{E:XK}(hx:∀ao O H s h2 ex vs,Inv X ao O H s->Heap.MadeExcOf s.heap h2 ex (.ref C) vs->E (.ref C) none H->X.xe (.ref ex) {s with heap:=h2})(EC:Exc X.K X.mg x C lG newId)(FB:ExcBaseFacts B newId GO lG)(hh:X.A.handled=none)(hg:Gl X x)(ha:PA X [e] t) (he:autoParam (starEach [e] X.env=[(false,eval e X.env)]) r8_._auto_1)(hd:autoParam ((x==("__debug__":Str))=false) q8_._auto_1): PS X (.Raise (some (.Call (.Name x np) [e] [] cn)) none pos) (Vq E (.ref C) t):=by intro ao s O H D I h;obtain⟨tl,Nn,nm,q,bs,hdct,sn,sub,ab,col,dd,k0,k1,k2,k3,k5,mN,hC,hN,AU,T⟩:=(EC.own I.ok.mod.mr).obj;refine wpAny_Raise_call_subT (C:=C) (nm:=nm) (q:=q) (N:=Nn) (bs:=bs) (bm:=tl) (hdct:=hdct) (sn:=sn) (sub:=sub) (ab:=ab) (col:=col) (dd:=dd) (k0:=k0) (k1:=k1) (k2:=k2) (k3:=k3) (k5:=k5) FB (mN:=mN) (T.hasType FB.hasBase) hh (by rw[he];rfl) AU (pE I hg EC.at' ⟨Z,?_⟩ hd);have hA:=ha cn ao s O H _ I h;rw[he]at hA⊢;refine Calls.evalArgs_plain (ba hA λus s2 ⟨vs,H1,I1,r1,z,w1⟩=>⟨Z,by rw[<-r1.length];exact z,I1.bk _ _ hC,hN.keeps I1.bk,T.keeps I1.bk,λh' ex hm=>hx ao O H1 s2 h' ex us I1 hm w1⟩)
end
section
variable {M:Model}{A:ai}{Ex:Value->ae->Prop}
theorem a7c{h:Heap}{g:Array GenState}{d:Drawn}{tk:Nat}{os:OsState}{e:Addr}{oe:Obj}{Q:Bool->ae->Prop}{C D N N':Addr}{nm OU q q':Str}{bs SD bm Jb:List Value}{hdct QA:Bool}{sn LB:List Str}{sub Ky:List Value}{ab Tb:Bool}{col So:Option Bool}{dd Sg:Option Addr}{k0 k1 k2 k3 k5 j0 j1 j2 j3 j5:Option Value}{newId a0N:String} (hC:h.get? C=some (excClassObj nm q C N bs bm hdct sn sub ab col dd k0 k1 k2 k3 k5 newId))(hD:h.get? D=some (excClassObj OU q' D N' SD Jb QA LB Ky Tb So Sg j0 j1 j2 j3 j5 a0N)) (he:h.get? e=some oe)(xA:oe.cls= .ref C)(hb:Jb.contains (.type "BaseException")=true)(hs:(Value.ref C::bm).contains (.ref D)=true) (hq:Q true ⟨h,g,d,tk,os⟩):wpAny M A (excMatches (.ref e) (.ref D)) Q Ex ⟨h,g,d,tk,os⟩:=by
 have hcB:(Value.ref D::Jb).contains (.type "BaseException")=true:=by rw[List.contains_cons,hb,Bool.or_true]
 have f:=tc_notTuple;unfold excMatches
 repeat (first|(with_reducible refine wpAny_loadPart_at he ?_;rw[xA])|with_reducible refine wpAny_loadPart_at hD ?_|(with_reducible refine wpAny_isSubtype_exc hD ?_;rw[hcB])|(with_reducible refine wpAny_isSubtype_exc hC ?_;rw[hs])|with_reducible refine wpAny_loadPart_at hC ?_|wp_step)
 exact hq
end
section
variable {X:Cx}{k:Nat}{x:Str}{p pos:Pos}{e:Expr}{es:List Expr}{t:TA}{sp:Sp}
end
abbrev Cx.hand(X:Cx)(ex:Addr):Cx:={X with A:=X.A.mark (some (.ref ex)),calm:=false,xe:=λ_ _=>False}
section
variable {X:Cx}{ao:List (Addr×Obj)}{O:St}{H:Hp}{s:ae}
theorem Inv.hand(I:Inv X ao O H s)(ex:Addr):Inv (X.hand ex) ao O H s:=⟨⟨I.ok.mod,I.ok.kind,I.ok.glob,I.ok.blt,I.ok.above,I.ok.inj,I.ok.has,I.ok.qh,λh=>(dN h).elim,I.ok.frames,I.ok.qC,I.ok.xY,I.ok.bs,I.ok.jR,I.ok.ph,I.ok.oo,I.ok.iA,I.ok.lB⟩,I.os,I.bare,I.au,I.loc,I.cell,I.free,I.j6,I.pin,I.bB,I.len⟩
theorem Inv.back{ex:Addr}(ok:X.Ok)(I:Inv (X.hand ex) ao O H s):Inv X ao O H s:=⟨ok,I.os,I.bare,I.au,I.loc,I.cell,I.free,I.j6,I.pin,I.bB,I.len⟩
theorem UW{M:Model}{A:ai}{E:Value->ae->Prop}{i:Nat}{x:Str}{v:V}{pos:Pos}{Q:Unit->ae->Prop}(I:Inv X ao O H s)(hN:X.N.Nodup)(hi:X.N[i]? =some x)(hk:X.env.kindOf x=some .local)(hs:X.env.scope.names.lookup x=some .local) (hv:O[i]? =some (some v))(h:∀s',Inv X ao (O.set i none) H s'->Q () s'):wpAny M A (unbindBehindTheSuite X.env x pos) Q E s:=by
 obtain⟨m,hn,hl⟩:=id I.loc;have xA:(X.env.scope.kind== .class||(X.env.scope.kind== .module&&X.env.locals !=X.env.globals))=false:=by rw[I.ok.kind];rfl
 have AW:i<O.length:=by rw[I.len];exact(dD.mp hi).1
 have lD:=I.lD;obtain⟨u,r,look⟩:=hl i x v hi hv (.inl hs);have hm:m x=some u:=by
  rcases look with⟨_,e⟩|⟨k,_⟩
  ·exact e
  ·rcases k with k|k<;>(rw[hk]at k;cases k)
 unfold unbindBehindTheSuite;refine BJ (wpAny_unbindName_local hk hn hm xA λh' u' rO nW=>?_);obtain⟨oL,_,_,Qq,_⟩:=id hn;have tr:eB X.prog X.w H h':=λb ob e=>by
  refine(I.bB b ob e).lS (λc w' hc q=>(nW.2 c ?_).trans q) (λ_ q=>q) λ_ _ q=>q;rintro rfl;rcases hc with rfl|hc
  ·rw[I.free]at e;cases e
  ·rw[I.free]at hc;cases hc
 have lt:∀b o,X.s₀.heap.get? b=some o->b≠X.env.locals:=λb o e=>eP (fK (cm e) I.ok.above);refine h _ ⟨I.ok,I.os,I.bare,⟨λb o e n hb hx=>(nW.2 b (lt b o e)).trans (I.au.keep b o e n hb hx),λb o e n hb hx=>?_,I.au.free,λb o e hx=>?_,I.au.jf,I.au.iZ,I.au.jg⟩,⟨_,rO,λj y v' e1 e2 e3=>?_⟩,λy c e=>?_,I.free,I.j6,λp hp=>?_,tr,by simpa using I.len⟩
 ·obtain⟨sl,e1⟩:=I.au.slot b o e n hb hx
  exact⟨sl,(nW.2 b (lt b o e)).trans e1⟩
 ·obtain⟨o',e1⟩:=I.au.there b o e hx
  exact⟨o',(nW.2 b (lt b o e)).trans e1⟩
 ·by_cases hj:j=i
  ·subst hj
   rw[K1 AW]at e2;cases e2
  ·rw[Um (iK hj)]at e2
   obtain⟨u2,r2,q⟩:=hl j y v' e1 e2 e3;refine⟨u2,r2,?_⟩;rcases q with⟨k,e⟩|⟨k,c,e,z⟩
   ·have:y≠x:=λe=>hj (G6 hN e1 (e▸hi))
    exact .inl ⟨k,by simp[this,e]⟩
   ·exact .inr ⟨k,c,e,z.sameBut nW (lD y c e)⟩
 ·obtain⟨w',z⟩:=I.cell y c e
  exact⟨w',z.sameBut nW (lD y c e)⟩
 ·obtain⟨e,n,ne,nf,d⟩:=I.pin p hp
  exact⟨(nW.2 p.1 ne).trans e,n,ne,nf,d⟩
end
def vh(X:Cx)(st:List Stmt)(t:TS):Prop:=∀(s:ae)(O:St)(H:Hp)(D:Ends),Inv X [] O H s->t D O H->wpAny (model X.prog X.w) X.A (execs st X.env) (SP X [] D) X.xe s
def To(X:Cx)(st:Stmt)(t:TS):Prop:=∀(s:ae)(O:St)(H:Hp)(D:Ends),Inv X [] O H s->t D O H->wpAny (model X.prog X.w) X.A (exec st X.env) (SP X [] D) X.xe s
theorem vh.one{X:Cx}{st:Stmt}{t:TS}(h:To X st t):vh X [st] t:=by intro s O H D I q;refine wpAny_execs_cons (ba (h s O H D I q) λf s1 q=>?_);cases f with |next=>exact yx q |ret v=>exact q |brk=>exact q |cont=>exact q
theorem Inv.a8s{X:Cx}{ao:List (Addr×Obj)}{O:St}{H:Hp}{s:ae}(I:Inv X ao O H s):Inv X [] O H s:=⟨I.ok,I.os,I.bare,I.au,I.loc,I.cell,I.free,I.j6,λp hp=>I.pin p (JX _ (by simpa using hp)),I.bB,I.len⟩
theorem a5I{CX:iG}{P:af}{w:World}{K:aa}{mg:bD}{au:Heap}{k:Nat}{f:Addr}{name qual:Str}{params:Arguments}{body:List Stmt}{scope:Scope}{dV kV doc pm aH ct oc:Value}{an od:Option Addr} {fw:Array (Option Value)}{N ps:List Str}{sp:Sp}(lk:K.lookup f=some ⟨oc,od,.func (PySem.W.fnOf name qual params body scope dV kV doc pm an aH ct),fw⟩)(fk:PySem.W.codeIn K aH qual=true)(S:aW N ps scope) (len:∀vs H Q E,sp vs H Q E->vs.length=ps.length) (fM:∀(A:ai)(outer:List Env)(s:ae)(H:Hp)(vs:List V)(Q:VK)(E:XK),cN k (A.deeper (envOfC qual scope s.heap.objs.size f aH))->sp vs H Q E->∃t,vh (gy CX P w K mg au N qual scope f aH A outer s H E) body t/\t {nx:=λ_ H'=>Q .bw H',rt:=Q} (start N vs) H): eD P w K mg au CX (k+1) f (PySem.W.fnOf name qual params body scope dV kV doc pm an aH ct) ps sp:=by
 refine⟨len,λA outer s H args us vs Q E hr e0 hb r fe=>?_⟩;have hl:=len _ _ _ _ fe;have KX:K.In s.heap:=e0.mod.mr.keeps λb o e=>(e0.bs b o e).1;have lim:s.heap.NoLimit:=e0.mod.nolimit.keeps λb o e=>(e0.bs b o e).1;have kT:∀y∈ps.zip us,scope.names.lookup y.1=some .local\/(scope.names.lookup y.1=some .cell/\((cellsFrom (s.heap.objs.size+1) scope.names []).lookup y.1).isSome=true):=λ⟨n,v⟩ hy=>by
  rcases S.par n (vz hy).1 with q|q
  ·exact .inl q
  ·exact .inr ⟨q,JM _ _ _ (.inl q)⟩
 refine TR hr.depth (KX _ _ lk) Z S.co S.gen Z (TZ KX fk) (hb _ _ _ _ ?_);refine TN S.kind kT λenv he s1 x=>?_;subst he;refine⟨lim.keeps x.toInCall.keep,codeAny_func ?_⟩;obtain⟨t,ht,hq⟩:=fM A outer s H vs Q E (hr.deeper _) fe;have I:Inv (gy CX P w K mg au N qual scope f aH A outer s H E) [] (start N vs) H s1:=GL S hr.hd e0 hl r x;refine iH (ht s1 (start N vs) H _ I hq) (λfl s' hs=>?_) λe s' hs=>hs;have fin:∀{σ':St}{H':Hp}{v:V}{u:Value},Inv (gy CX P w K mg au N qual scope f aH A outer s H E) [] σ' H' s'->RelV v u->Q v H'->CE outer P w H s Q u s':=λ{σ' H' v u} J rv q=>⟨v,H',J.os,J.bare,J.au,J.bB,rv,q⟩;cases fl with |ret u=>obtain⟨v,σ',H',J,rv,q⟩:=hs;exact fin J rv q |next=>obtain⟨σ',H',J,q⟩:=hs;exact fin (v:=V.bw) (u:=Value.none) J Z q |brk=>obtain⟨_,_,_,q⟩:=hs;exact False.elim q |cont=>obtain⟨_,_,_,q⟩:=hs;exact False.elim q
def ExcAt(ex:Addr)(cls:Value)(h:Heap):Prop:=∃o,h.get? ex=some o/\o.cls=cls
def takes(K:aa)(C D:Addr):Prop:=PySem.W.mroIn K C (.ref D)=some true
section
variable {X:Cx}{i:Nat}{n y:Str}{Dc:Addr}{Ja:List Value}{newD:String}{body zo:List Stmt}{b0:Stmt}{np uH pos:Pos}{tb:XK->TS}{th:TS}{Cs:Addr->Prop}
end
end _L
namespace _L
open PySem PySem.Spec PyProof.Rows PySem.W Builtin.Getset_descriptor
section
variable {prog:af}{w:World}{A:ai}{E:Value->ae->Prop}{h:Heap}{g:Array GenState}{d:Drawn}{t:Nat}{os:OsState}{K:Frag}{x C:Addr}{o:Obj}
theorem Rr{M:Model}(h1:h.get? x=some o)(h2:o.cls= .ref C):Looks M h (typeOf (.ref x)) (.ref C):=h2▸(Looks.ld h1).andThen .now
structure jV(K:Frag)(C:Addr):Prop where
 ga:findIn K (.ref C) "__getattribute__"=some (some (.builtin "BaseException.__getattribute__"))
 gx:findIn K (.ref C) "__getattr__"=some none
 cl:findIn K (.ref C) "__class__"=some (some (.builtin "object.__class__"))
 gt:specialIn K (.builtin "object.__class__") "__get__"=some (some (.builtin "getset_descriptor.__get__"))
 tk:takesIn K (.builtin "object.__class__")=some true
 ob:mroIn K C (.type "object")=some true
 be:mroIn K C (.type "BaseException")=some true
 is:hasDictIn K C=true
theorem a1Z{M:Model}(X:K.In h)(k:jV K C):Looks M h (Builtin.ObjectAttr.find (.ref x) (.ref C) "__class__") (.bind (.builtin "getset_descriptor.__get__") (.builtin "object.__class__")):=by have L1:=BO (M:=M) X k.cl;have _L:Looks M h (Builtin.ObjectAttr.getOf (some (.builtin "object.__class__"))) (some (.builtin "getset_descriptor.__get__")):=looks_specialIn X k.gt;have L3:=looks_takesIn (M:=M) X k.tk;unfold Builtin.ObjectAttr.find;refine L1.andThen (_L.andThen ?_);have L4:Looks M h (Builtin.ObjectAttr.dataDescriptor? (some (.builtin "object.__class__")) (some (.builtin "getset_descriptor.__get__"))) (some (.builtin "getset_descriptor.__get__",.builtin "object.__class__")):=L3.andThen .now;exact L4.andThen (Looks.tag .now)
theorem QS{M:Model}{P2:Value}{Q:Unit->ae->Prop}(X:K.In h)(k:jV K C)(L0:Looks M h (typeOf (.ref x)) (.ref C))(hq:Q () ⟨h,g,d,t,os⟩): wpAny M A (checkBuiltinCall "BaseException.__getattribute__" ⟨[.ref x,P2],[]⟩) Q E ⟨h,g,d,t,os⟩:=by
 have hk:builtinKind "BaseException.__getattribute__"=some .slot:=by decide+kernel
 have fe:splitId "BaseException.__getattribute__"=some ("BaseException","__getattribute__"):=by decide+kernel
 have ha:=PySem.F.args_bexc_ga (.ref x) P2;have L1:=looks_mroIn (M:=M) X k.be;simp only[checkBuiltinCall,hk,fe];refine aM ?_;unfold isInstance;refine aM (L0.at (L1.at ?_))
 repeat (first|assumption|wp_step)
theorem get_cls{R:Result->ae->Prop}{tp:Value}(X:K.In h)(k:jV K C)(L0:Looks (model prog w) h (typeOf (.ref x)) (.ref C))(hq:R (.ok (.ret (.ref C))) ⟨h,g,d,t,os⟩): codeAny (model prog w) A (.call (.builtin "getset_descriptor.__get__") ⟨[.builtin "object.__class__",.ref x,tp],[]⟩) R ⟨h,g,d,t,os⟩:=by
 have L1:=looks_mroIn (M:=model prog w) X k.ob;refine TU KF.slot_gs.plain KF.entry_gs (KF.slot_gs.check _ _ _ _ _ _ _ _ KF.type_class (KF.args_gs _ _ _) ?_);unfold Builtin.«getset_descriptor.__get__»descrGet;rw[dga_obj];refine aM (bV ?_);unfold descrGetter descrCheckInstance descrNameAndClass isInstance;simp only[KF.owner_class];repeat lk
 refine⟨Code.quiet_builtin _ aI,codeAny_builtin KF.entry_class ?_⟩;unfold Builtin.«object.__class__»shownTypeOf;repeat lk
 exact hq
theorem a5m{tk:Tok}{Q:Fin->ae->Prop}(X:K.In h)(k:jV K C)(L0:Looks (model prog w) h (typeOf (.ref x)) (.ref C)) (hq:Q (.done (.ret (.ref C))) ⟨h,g,d,t,os⟩):wpAny (model prog w) A (Builtin.«object.__getattribute__» ⟨[.ref x,.str "__class__" tk],[]⟩) Q E ⟨h,g,d,t,os⟩:=by have L1:=a1Z (M:=model prog w) (x:=x) X k;refine aM (bV (aM (bV (aM (L0.at (aM (L1.at ?_)))))));show wpAny _ _ (Builtin.ObjectAttr.bindTo _ _ (.ref x) (.ref C)) _ _ _;unfold Builtin.ObjectAttr.bindTo;show wpAny _ _ (holding [_] (call (.builtin "getset_descriptor.__get__") [.builtin "object.__class__",.ref x,.ref C])>>=_) _ _ _;exact aM (jW (yy (get_cls X k L0 (bV hq))))
theorem a80{Q:Option Value->ae->Prop}(X:K.In h)(k:jV K C)(L0:Looks (model prog w) h (typeOf (.ref x)) (.ref C)) (hq:Q (some (.ref C)) ⟨h,g,d,t+1,os⟩):wpAny (model prog w) A (getAttr? (.ref x) "__class__") Q E ⟨h,g,d,t,os⟩:=by
 have L1:=BO (M:=model prog w) X k.ga;have _L:=BO (M:=model prog w) X k.gx;have f3:=JQ.ga.bind (.ref x);have pH:(Value.builtin "BaseException.__getattribute__"==Value.builtin "object.__getattribute__")=false:=by decide+kernel
 unfold getAttr? getAttrBy? getAttrBy;refine aM (wpAny_mkText (aM (BM (jW (aM (L0.at (aM (L1.at ?_))))))));show wpAny _ _ (if(onTheHeap (Value.ref C)&&Value.builtin "BaseException.__getattribute__"==Value.builtin "object.__getattribute__")=true then _ else _) _ _ _;rw[pH,C5,bh az];unfold getAttrByItsOwn hookBefore;refine aM ?_;show wpAny _ _ (typeLookup (.ref C) "__getattr__") _ _ _;refine _L.at (aM (BM (jW ?_)));unfold callGetattribute;show wpAny _ _ (boundAndCalled _ _ _) _ _ _;unfold boundAndCalled;rw[f3];refine aM (bV (yy ?_));refine TU JQ.ga.plain PySem.F.entry_bexc_ga (QS X k L0 (a5m X k L0 ?_));exact handed_on Z (bV hq)
theorem PR(k:jV K C):KitX K (.ref x) (.ref C) (ExcAt x (.ref C)) where
 ty:=λM h _ p=>by obtain⟨o,h1,h2⟩:=p;exact Rr h1 h2
 it:=λ_ _ X _=>by
  obtain⟨cd,hc,_⟩:=any_some k.is;unfold clsIn at hc;split at hc
  ·rename_i c1 d1 cd1 sl1 ho
   intro A' Q' E' s' kk q;unfold isType loadHead;exact aM (wpAny_loadPart (kk _ _ (X _ _ ho)) (bV q))
  ·cases hc
 ne:=λh tp dd its n sl X htp=>by
  obtain⟨cd,hc,_⟩:=any_some k.is;refine C4.mpr λq=>?_;have e:C=tp:=Value.ref.inj (fi.mp q);subst e;unfold clsIn at hc;split at hc
  ·rename_i c1 d1 cd1 sl1 ho
   cases(X _ _ ho).symm.trans htp
  ·cases hc
 ca:=λ{prog w A E Q s} X p q=>by obtain⟨o,h1,h2⟩:=p;obtain⟨h0,g0,d0,t0,os0⟩:=s;exact a80 X k (Rr h1 h2) q
end
end _L
namespace _L
open PySem PySem.Spec PyProof.Rows
def a81:V->Option Value | .ref D=>some (.ref D) | .ty n=>some (.type n) |_=>none
theorem Ke:∀{Ds:List Addr}{us:List Value},Vals (Ds.map V.ref) us->us=Ds.map Value.ref |[],_,.nil=>rfl |n::r,_,.cons q t=>by cases(show _=Value.ref n from q);rw[Ke t];rfl
section
variable {X:Cx}
end
theorem a8l:bootBuiltins "ValueError"=some (.type "ValueError"):=by kernel_rfl
@[reducible]def lF:List Value:=[.type "ValueError",.type "Exception",.type "BaseException",.type "object"]
@[reducible]def nN:String:="ValueError.__new__"
theorem FA.QE{P:af}{w:World}{K:aa}{mg:bD}{au:Heap}{x:Str}{st:Stmt}{N ps:List Str}{k:Nat}{sp:Sp}(F:FA K mg x st)(S:aW N ps (aP st))(len:∀vs H Q E,sp vs H Q E->vs.length=ps.length) (hb:∀(kV doc pm:Value)(an:Option Addr)(aH ct:Value)(us:List Value),us.length=ps.length->bindArgs (PySem.W.fnOf x x (j8 st) (fg st) (aP st) .none kV doc pm an aH ct) ⟨us,[]⟩=pure (ps.zip us)) (fM:∀(f:Addr)(aH:Value)(A:ai)(outer:List Env)(s:ae)(H:Hp)(vs:List V)(Q:VK)(E:XK),cN k (A.deeper (envOfC x (aP st) s.heap.objs.size f aH))->sp vs H Q E->∃t,vh (gy gW P w K mg au N x (aP st) f aH A outer s H E) (fg st) t/\t {nx:=λ_ H'=>Q .bw H',rt:=Q} (start N vs) H):aB P w K mg au x (k+1) sp:=by obtain⟨f,fd,hm,F⟩:=F.ex;have xC:=F.binds hb;have kp:=F.kp;obtain⟨oc,od,kV,doc,pm,an,aH,ct,fw,rfl,lk,fk⟩:=F.ex;exact⟨f,_,ps,a5I lk fk S len λA outer s H vs Q E hr fe=>fM f aH A outer s H vs Q E hr fe,hm,kp,xC⟩
end _L
namespace _A
theorem a5k(a b:Int):Int.gcd b (a.fmod b)=Int.gcd a b:=by rw[Int.fmod_def,Int.gcd_sub_mul_left_right,Int.gcd_comm]
theorem a5l{a b:Int}(h:0<b):Int.gcd b (a%b)=Int.gcd a b:=by rw[<-Int.fmod_eq_emod_of_nonneg a (K6 h)];exact a5k a b
def sg(p q:Int):Int:=if q<0 then-(Int.gcd p q:Int)else(Int.gcd p q:Int)
def lowP (p q:Int):Int:=p.fdiv (sg p q)
def g9 (p q:Int):Int:=q.fdiv (sg p q)
theorem Ic{p q:Int}(h:q≠0):0<(Int.gcd p q:Int):=by
 have:Int.gcd p q≠0:=λz=>h (Int.gcd_eq_zero_iff.mp z).2
 lia
theorem we{p q:Int}(h:q≠0):sg p q≠0:=by have:=Ic (p:=p) h;unfold sg;split<;>omega
theorem LI(p q:Int):sg p q∣p:=by
 unfold sg;split
 ·exact Int.neg_dvd.mpr (Int.gcd_dvd_left p q)
 ·exact Int.gcd_dvd_left p q
theorem LH(p q:Int):sg p q∣q:=by
 unfold sg;split
 ·exact Int.neg_dvd.mpr (Int.gcd_dvd_right p q)
 ·exact Int.gcd_dvd_right p q
theorem Gv(p q:Int):sg p q*lowP p q=p:=by unfold lowP;rw[Int.fdiv_eq_ediv_of_dvd (LI p q)];exact Int.mul_ediv_cancel' (LI p q)
theorem Au(p q:Int):sg p q*g9 p q=q:=by unfold g9;rw[Int.fdiv_eq_ediv_of_dvd (LH p q)];exact Int.mul_ediv_cancel' (LH p q)
theorem LJ(p q:Int):(sg p q).natAbs=Int.gcd p q:=by unfold sg;split<;>lia
theorem a1W{p q:Int}(h:q≠0):Int.gcd (lowP p q) (g9 p q)=1:=by
 have e:Int.gcd (sg p q*lowP p q) (sg p q*g9 p q)=(sg p q).natAbs*Int.gcd (lowP p q) (g9 p q):=Int.gcd_mul_left _ _ _;rw[Gv,Au,LJ]at e;have g:=Ic (p:=p) h;have g':0<Int.gcd p q:=by lia
 have e':Int.gcd p q*1=Int.gcd p q*Int.gcd (lowP p q) (g9 p q):=by lia
 exact(Nat.eq_of_mul_eq_mul_left g' e').symm
theorem a1X{p q:Int}(h:q≠0):0<g9 p q:=by
 have e:=Au p q;have g:=Ic (p:=p) h;by_cases hq:q<0
 ·have es:sg p q=-(Int.gcd p q:Int):=by unfold sg;rw[bf hq]
  rw[es]at e;refine Int.not_le.mp λhl=>?_;have:0<=-(Int.gcd p q:Int)*g9 p q:=Us aw hl
  lia
 ·have es:sg p q=(Int.gcd p q:Int):=by unfold sg;rw[bh hq]
  rw[es]at e;refine Int.not_le.mp λhl=>?_;have:(Int.gcd p q:Int)*g9 p q<=0:=Int.mul_nonpos_of_nonneg_of_nonpos aw hl
  lia
theorem Ta{s x y:Int}(hs:s≠0)(e:s*x=y):x.natAbs<=y.natAbs:=by rw[<-e,iL];exact Nat.le_mul_of_pos_left _ aw
theorem a1Y{p q:Int}(h:q≠0):(lowP p q).natAbs<=p.natAbs:=Ta (we h) (Gv p q)
theorem Pp{p q:Int}(h:q≠0):(g9 p q).natAbs<=q.natAbs:=Ta (we h) (Au p q)
theorem Wi{p q:Int}(h:q≠0):(sg p q).natAbs<=q.natAbs:=by rw[LJ];exact Nat.le_of_dvd aw (Int.gcd_dvd_natAbs_right p q)
end _A
namespace _r
open Rat
theorem Gu{a b:Int}(hb:b≠0):_A.lowP a b=(Rat.divInt a b).num/\_A.g9 a b=((Rat.divInt a b).den:Int):=by
 have hp:=_A.a1X (p:=a) hb;have hc:=_A.a1W (p:=a) hb;have a49:(_A.g9 a b).natAbs≠0:=by lia
 have a4f:(_A.lowP a b).natAbs.Coprime (_A.g9 a b).natAbs:=hc;have e1:Rat.divInt a b=Rat.divInt (_A.lowP a b) (_A.g9 a b):=by have h:=Rat.divInt_mul_left (a:=_A.sg a b) (n:=_A.lowP a b) (d:=_A.g9 a b) (_A.we hb);rw[_A.Gv,_A.Au]at h;exact h
 have e2:(⟨_A.lowP a b,(_A.g9 a b).natAbs,a49,a4f⟩:Rat)=Rat.divInt (_A.lowP a b) (((_A.g9 a b).natAbs:Nat):Int):=Rat.mk_eq_divInt;have e3:(((_A.g9 a b).natAbs:Nat):Int)=_A.g9 a b:=by lia
 rw[e3]at e2;rw[e1,<-e2];exact⟨Z,e3.symm⟩
theorem den_pos(r:Rat):(0:Int)<(r.den:Int):=by have:=r.den_pos;omega
structure Bd(n:Nat)(r:Rat):Prop where
 num:r.num.natAbs<2^n
 den:r.den<2^n
theorem Bd.mono{n m:Nat}{r:Rat}(h:Bd n r)(l:n<=m):Bd m r:=⟨fK h.num (t6 az l),fK h.den (t6 az l)⟩
theorem nR{a b n m:Nat}(h:a<2^n)(g:b<2^m):a*b<2^(n+m):=by rw[Nat.pow_add];exact Nat.mul_lt_mul'' h g
theorem kh{n:Nat}{a b:Int}(hb:b≠0)(h1:a.natAbs<2^n)(h2:b.natAbs<2^n):Bd n (Rat.divInt a b):=by
 obtain⟨e1,e2⟩:=Gu (a:=a) hb;have l1:=_A.a1Y (p:=a) hb;have l2:=_A.Pp (p:=a) hb;refine⟨?_,?_⟩
 ·rw[<-e1];lia
 ·lia
theorem oA(r s:Rat):(r.den:Int)*(s.den:Int)≠0:=Int.ne_of_gt (jA (den_pos r) (den_pos s))
theorem add_div(r s:Rat):r+s=Rat.divInt (r.num*s.den+s.num*r.den) (r.den*s.den):=by have h:=Rat.divInt_add_divInt r.num s.num (d₁:=r.den) (d₂:=s.den) (by have:=den_pos r;lia) (by have:=den_pos s;lia);rw[sX,sX]at h;exact h
theorem VP(r s:Rat):r-s=Rat.divInt (r.num*s.den-s.num*r.den) (r.den*s.den):=by have h:=TX r.num s.num (d₁:=r.den) (d₂:=s.den) (by have:=den_pos r;lia) (by have:=den_pos s;lia);rw[sX,sX]at h;exact h
theorem mul_div(r s:Rat):r*s=Rat.divInt (r.num*s.num) (r.den*s.den):=by have h:=Rat.divInt_mul_divInt r.num s.num (d₁:=r.den) (d₂:=s.den);rw[sX,sX]at h;exact h
section
variable {n m:Nat} {r s:Rat}
theorem a7N(h:Bd n r)(g:Bd m s):(r.num*s.den).natAbs<2^(n+m):=by rw[iL];exact nR h.num (by have:=g.den;omega)
theorem a7M(h:Bd n r)(g:Bd m s):(s.num*r.den).natAbs<2^(n+m):=by rw[iL,Nat.mul_comm];exact nR (by have:=h.den;lia) g.num
theorem IX(h:Bd n r)(g:Bd m s):((r.den:Int)*(s.den:Int)).natAbs<2^(n+m):=by rw[iL];exact nR (by have:=h.den;lia) (by have:=g.den;lia)
theorem Bd.add(h:Bd n r)(g:Bd m s):Bd (n+m+1) (r+s):=by
 rw[add_div];have h1:=a7N h g;have h2:=a7M h g;have h3:=IX h g;have e:2^(n+m+1)=2^(n+m)+2^(n+m):=by rw[Nat.pow_succ];omega
 exact kh (oA r s) bI bI
theorem Bd.mul(h:Bd n r)(g:Bd m s):Bd (n+m) (r*s):=by rw[mul_div];exact kh (oA r s) (by rw[iL];exact nR h.num g.num) (IX h g)
end
end _r
namespace _L
open PySem PySem.Spec PyProof.Rows
def gT(H H':Hp):Prop:=∀b o,(∀xs,o≠ .lst xs)->H b=some o->H' b=some o
section
variable {K:aa} {H H' H2:Hp}
theorem gT.trans(a:gT H H')(b:gT H' H2):gT H H2:=λc o n e=>b c o n (a c o n e)
theorem gT.tF{D:Addr}{xs ys:List V}(h:H D=some (.lst xs)):gT H (upd H D (.lst ys)):=λb o n e=>by rw[aV (wU e h (n xs))];exact e
theorem aZ.t{a:Addr}{xs:List V}(s:gT H H')(h:aZ K H a xs):aZ K H' a xs:=h.imp (λr=>r.imp (s _ _ λ_ z=>nomatch z) λ⟨o,e⟩=>⟨o,s _ _ (λ_ z=>nomatch z) e⟩) id
mutual
def eM:ah->Bool | .list _=>false | .dict _=>false | .tuple ds=>cy ds | .none=>true | .bool _=>true | .int _=>true | .str _=>true
def cy:List ah->Bool |[]=>true |d::ds=>eM d&&cy ds
end
theorem fY:∀{ds:List ah},cy ds=true↔∀d∈ds,eM d=true
 |[]=>⟨λ_ _ h=>(nomatch h),λ_=>by simp[cy]⟩ |d::ds=>by
  rw[cy,eH,fY (ds:=ds)];constructor
  ·rintro⟨a,b⟩ x hx
   rcases cj.mp hx with rfl|hx
   ·exact a
   ·exact b x hx
  ·intro h
   exact⟨h d (.head _),λx hx=>h x (.tail _ hx)⟩
theorem nP(ns:List Int):cy (ns.map PyData.int)=true:=fY.mpr λd hd=>by obtain⟨i,_,rfl⟩:=cW.mp hd;simp[eM]
mutual
theorem RD.t(s:gT H H'):∀{x:V}(d:ah),eM d=true->RD K H x d->RD K H' x d |x,.none,_,h=>by simpa[RD]using h |x,.bool b,_,h=>by simpa[RD]using h |x,.int i,_,h=>by simpa[RD]using h |x,.str y,_,h=>by simpa[RD]using h |x,.list ds,n,h=>by simp[eM]at n |x,.tuple ds,n,h=>by rw[RD]at h⊢;obtain⟨a,xs,e,h1,h2⟩:=h;exact⟨a,xs,e,h1.t s,aL.t s ds (by simpa[eM]using n) h2⟩ |x,.dict _,_,h=>by simp[RD]at h
theorem aL.t (s:gT H H'):∀{xs:List V}(ds:List ah),cy ds=true->aL K H xs ds->aL K H' xs ds |xs,[],_,h=>by simpa[aL]using h |xs,d::ds,n,h=>by rw[aL]at h⊢;rw[cy,eH]at n;obtain⟨y,ys,e,h1,h2⟩:=h;exact⟨y,ys,e,RD.t s d n.1 h1,aL.t s ds n.2 h2⟩
end
theorem aL.gJ:∀{xs:List V}{ns:List Int},aL K H xs (ns.map PyData.int)->xs=ns.map V.int |xs,[],h=>h.nil_inv |xs,n::ns,h=>by obtain⟨y,ys,rfl,h1,h2⟩:=h.cons_inv;rw[h1.int_inv,aL.gJ h2];rfl
theorem wz:∀(ns:List Int),aL K H (ns.map V.int) (ns.map PyData.int) |[]=>dv |n::ns=>cI (fC n) (wz ns)
theorem Sk{J:It}{xs:List V}{ds:List ah}{te:TE}{Q:VK}{D:Addr}{H0:Hp}(rest:St)(nw:Nw H H0 D (.lst []))(hl:xs.length=ds.length)(hz:xs.length<=1000)(hn:cy ds=true) (go:∀i x H2,xs[i]? =some x->aD H H2->J.go i H2/\∀y H3,J.jB i H2 y H3->H3=H2/\y=x)(stop:∀H2,aD H H2->J.stop xs.length H2) (hs:∀(i:Nat)(x:V)(d:ah)(H2:Hp)(Q':VK),xs[i]? =some x->ds[i]? =some d->aD H H2->(∀y H3,aD H2 H3->RD K H3 y d->Q' y H3)->te (some x::rest) H2 Q') (hq:∀H' ys,aD H H'->H' D=some (.lst ys)->aL K H' ys ds->Q (.ref D) H'):kB J (gw 0) jD te Q D (none::rest) H0:=by
 have hD:=nw.no;refine uW xs.length (λi O H2=>aD H H2/\(∃ys,H2 D=some (.lst ys)/\aL K H2 ys (ds.take i))/\∃v,O=v::rest) ?_ ?_ ?_
 ·exact⟨nw.same,⟨[],nw.at',dv⟩,none,Z⟩
 ·rintro i O H2 hi ⟨s2,⟨ys,d2,r2⟩,v,rfl⟩
  have AY:i<ds.length:=by rw[<-hl];exact hi
  have ex:=cu hi;have eb:=cu AY;obtain⟨g1,g2⟩:=go i _ H2 ex s2;refine⟨g1,λy H3 hy=>?_⟩;obtain⟨rfl,rfl⟩:=g2 y H3 hy;refine yS ?_;refine hs i _ _ _ _ ex eb s2 λz H4 s4 r4=>?_;have d4:=s4 _ _ d2;have len:=r2.length;rw[tf]at len;refine⟨ys,d4,?_,xs.length-(i+1),aw,Z,aw,λb o e=>?_,⟨ys++[z],bW,?_⟩,_,Z⟩
  ·have:(1000:Nat)<sizeLine:=by decide
   lia
  ·rw[aV (g6 e hD)];exact s4 b o (s2 b o e)
  ·have t:gT H4 (upd H4 D (.lst (ys++[z]))):=.tF d4
   rw[vy,eb];have n1:cy (ds.take i)=true:=fY.mpr λd hd=>fY.mp hn d (yH hd);exact(aL.t t _ n1 (aL.mono s4 _ r2)).append (cI (RD.t t _ (fY.mp hn _ (vC AY)) r4) dv)
 ·rintro O H2 ⟨s2,⟨ys,d2,r2⟩,v,rfl⟩
  refine⟨stop H2 s2,hq H2 ys s2 d2 ?_⟩;rw[hl,yG]at r2;exact r2
theorem sI{a:Addr}{xs:List V}{ds:List ah}{te:TE}{Q:VK}{D:Addr}{H0:Hp}(rest:St)(hx:aZ K H a xs)(nw:Nw H H0 D (.lst []))(hl:xs.length=ds.length)(hz:xs.length<=1000)(hn:cy ds=true) (hs:∀(i:Nat)(x:V)(d:ah)(H2:Hp)(Q':VK),xs[i]? =some x->ds[i]? =some d->aD H H2->(∀y H3,aD H2 H3->RD K H3 y d->Q' y H3)->te (some x::rest) H2 Q') (hq:∀H' ys,aD H H'->H' D=some (.lst ys)->aL K H' ys ds->Q (.ref D) H'):kB (yn K a) (gw 0) jD te Q D (none::rest) H0:=Sk rest nw hl hz hn (λi x H2 e s=>⟨⟨xs,x,hx.go s,e⟩,λy H3 ⟨e3,y3⟩=>⟨e3,by have:=y3 _ (hx.go s);rw[e]at this;exact(dG this).symm⟩⟩) (λH2 s=>⟨xs,hx.go s,bO _⟩) hs hq
theorem qe{a:Addr}{xs:List V}{ds:List ah}{te:TE}{Q:VK}{D:Addr}{H0:Hp}(rest:St)(hx:aJ K H a xs)(nw:Nw H H0 D (.lst []))(hl:xs.length=ds.length)(hz:xs.length<=1000)(hn:cy ds=true) (hs:∀(i:Nat)(x:V)(d:ah)(H2:Hp)(Q':VK),xs[i]? =some x->ds[i]? =some d->aD H H2->(∀y H3,aD H2 H3->RD K H3 y d->Q' y H3)->te (some x::rest) H2 Q') (hq:∀H' ys,aD H H'->H' D=some (.lst ys)->aL K H' ys ds->Q (.ref D) H'):kB (vm K a) (gw 0) jD te Q D (none::rest) H0:=Sk rest nw hl hz hn (λi x H2 e s=>⟨⟨xs,x,hx.go s,e⟩,λy H3 ⟨e3,y3⟩=>⟨e3,by have:=y3 _ (hx.go s);rw[e]at this;exact(dG this).symm⟩⟩) (λH2 s=>⟨xs,hx.go s,bO _⟩) hs hq
theorem Bs{b1 b2:Bool}{l1 l2:Addr}{xs ys:List V}{ds:List ah}{te:TE}{Q:VK}{D:Addr}{H0:Hp}{n:Nat}(rest:St)(uI:n=2)(h1:eu b1 K H l1 xs)(h2:eu b2 K H l2 ys)(nw:Nw H H0 D (.lst [])) (hl:min xs.length ys.length=ds.length)(hz:ds.length<=1000)(hn:cy ds=true) (hs:∀(i:Nat)(x y:V)(d:ah)(H2:Hp)(Q':VK),xs[i]? =some x->ys[i]? =some y->ds[i]? =some d->aD H H2->(∀z H3,aD H2 H3->RD K H3 z d->Q' z H3)->te (some x::some y::rest) H2 Q') (hq:∀H' zs,aD H H'->H' D=some (.lst zs)->aL K H' zs ds->Q (.ref D) H'):kB (sR K b1 b2 l1 l2) (Ba K n (xS (gw 0) (xS (gw 1) Ih))) jD te Q D (none::none::rest) H0:=by
 subst uI;have hD:=nw.no;refine uW ds.length (λi O H2=>aD H H2/\(∃zs,H2 D=some (.lst zs)/\aL K H2 zs (ds.take i))/\∃v v',O=v::v'::rest) ?_ ?_ ?_
 ·exact⟨nw.same,⟨[],nw.at',dv⟩,none,none,Z⟩
 ·rintro i O H2 hi ⟨s2,⟨zs,d2,r2⟩,v,v',rfl⟩
  have hx:i<xs.length:=by lia
  have hy:i<ys.length:=by lia
  have ex:=cu hx;have ey:=cu hy;have eb:=cu hi;refine⟨⟨xs,ys,_,_,h1.go s2,h2.go s2,ex,ey⟩,λy' H3 rK=>?_⟩;obtain⟨T,x0,y0,rfl,k1,k2,n3⟩:=rK;have e1:=k1 _ (h1.go s2);have e2:=k2 _ (h2.go s2);rw[ex]at e1;rw[ey]at e2;cases e1;cases e2;refine⟨T,_,Z,aZ.of n3.at',Z,_,_,Z,_,_,Z,Z,?_⟩;refine yes (bG ?_);refine hs i _ _ _ _ _ ex ey eb (s2.trans n3.same) λz H4 s4 r4=>?_;have F8:=n3.same.trans s4;have d4:=F8 _ _ d2;have len:=r2.length;rw[tf]at len;refine⟨zs,d4,?_,ds.length-(i+1),aw,Z,aw,λb o e=>?_,⟨zs++[z],bW,?_⟩,_,_,Z⟩
  ·have:(1000:Nat)<sizeLine:=by decide
   lia
  ·rw[aV (g6 e hD)];exact F8 b o (s2 b o e)
  ·have t:gT H4 (upd H4 D (.lst (zs++[z]))):=.tF d4
   rw[vy,eb];have n1:cy (ds.take i)=true:=fY.mpr λd hd=>fY.mp hn d (yH hd);exact(aL.t t _ n1 (aL.mono F8 _ r2)).append (cI (RD.t t _ (fY.mp hn _ (vC hi)) r4) dv)
 ·rintro O H2 ⟨s2,⟨zs,d2,r2⟩,v,v',rfl⟩
  refine⟨⟨xs,ys,h1.go s2,h2.go s2,aw⟩,hq H2 zs s2 d2 ?_⟩;rw[yG]at r2;exact r2
end
theorem Q8:∀{ns:List Int}{us:List Value},Vals (ns.map V.int) us->(∀v∈us,∃a t,v=Value.int a t)/\numsOf us=ns
 |[],_,.nil=>⟨λ_ h=>(nomatch h),rfl⟩ |n::ns,_,.cons q r=>by
  obtain⟨t,rfl⟩:=(show∃t,_=Value.int n t from q);obtain⟨h1,h2⟩:=Q8 r;refine⟨λv hv=>?_,?_⟩
  ·rcases cj.mp hv with rfl|hv
   ·exact⟨n,t,Z⟩
   ·exact h1 v hv
  ·show n::numsOf _=_
   rw[h2]
section
variable {X:Cx}
theorem a1o(K:aa)(hK:X.K=K)(hc:X.calm=true):eF X (.builtin "max") (λxs H Q=>∃(l:Addr)(ns:List Int),xs=[.ref l]/\aJ K H l (ns.map V.int)/\ns≠[]/\∀M,M∈ns->(∀a∈ns,a<=M)->Q (.int M) H):=by
 subst hK;intro ao s O H xs us Q I r h;obtain⟨l,ns,rfl,hl,df,q⟩:=h;obtain⟨u,rfl,ru⟩:=vals1 r;cases(show u=Value.ref l from ru);obtain⟨its,rv,pl,hz⟩:=I.list hl;obtain⟨a1,a2⟩:=Q8 rv;have all:AllInts its.toArray:=λv hv=>a1 v (by simpa using hv);obtain⟨ps,Qn⟩:=all.items;have e0:numsOf (intItems ps).toList=ns:=by rw[<-Qn];exact a2
 rw[nums_intItems]at e0;have hlen:ps.size=ns.length:=by rw[<-e0,bS,yN]
 have uH:0<ps.size:=by rw[hlen];exact C0.mpr df
 refine max_intList (I.ok.hd hc) (by rw[<-Qn];exact pl.isList) uH λv h' tk hv hk=>?_;obtain⟨t,rfl⟩:=intItems_at hv;obtain⟨h1,h2⟩:=argBest_gt (numAt ps) (ps.size-1);refine⟨.int _,H,I.kept hk,⟨_,Z⟩,q _ ?_ λa ha=>?_⟩
 ·rw[numAt_eq,e0];exact getD_mem bI
 ·obtain⟨j,hj,rfl⟩:=mem_getD ha
  rw[<-e0,<-numAt_eq];exact h2 j bI
theorem Q9{ns:List Int}{us:List Value}(r:Vals (ns.map V.int) us){i:Nat}{v:Value}(h:us[i]? =some v):∃n t,ns[i]? =some n/\v=Value.int n t:=by
 have hl:=r.length;rw[bS]at hl;have hi:i<ns.length:=by rw[hl];exact(dD.mp h).1
 obtain⟨u,e,ru⟩:=r.get (i:=i) (x:=.int ns[i]) (by rw[bQ,cu hi];rfl);rw[h]at e;cases e;obtain⟨t,rfl⟩:=(show∃t,v=Value.int ns[i] t from ru);exact⟨_,t,cu hi,Z⟩
theorem Xl(ns:List Int):((List.range ns.length).any λi=>((ns.map (· !=0))[i]?).getD false)=ns.any (· !=0):=by have:=LSm.range_any (ns.map (· !=0));rw[bS]at this;rw[this,List.any_map];rfl
theorem SV(K:aa)(hK:X.K=K)(hc:X.calm=true):eF X (.builtin "any") (λxs H Q=>∃(l:Addr)(ns:List Int),xs=[.ref l]/\(aJ K H l (ns.map V.int)\/aZ K H l (ns.map V.int))/\Q (.bl (ns.any (· !=0))) H):=by
 subst hK;intro ao s O H xs us Q I r h;obtain⟨l,ns,rfl,hl,q⟩:=h;obtain⟨u,rfl,ru⟩:=vals1 r;cases(show u=Value.ref l from ru);have hh:=I.ok.hd hc;have fin:∀(its:List Value),Vals (ns.map V.int) its->((List.range its.toArray.size).any λi=>((ns.map (· !=0))[i]?).getD false)=ns.any (· !=0):=λits rv=>by rw[dR,<-rv.length,bS];exact Xl ns
 rcases hl with hl|hl
 ·obtain⟨its,rv,pl,hz⟩:=I.list hl
  have fT:=pl.isList;have cH:l<s.heap.objs.size:=by obtain⟨_,e,_⟩:=fT;exact cm e
  refine call_any_walk (yu fT ?_);refine⟨s.heap.objs.size,[s.heap.objs.size,l],[s.heap.objs.size],its.toArray.size,_,_,λi=>((ns.map (· !=0))[i]?).getD false,Z,Walks.list (A:=X.A.in1) hh _ l (eP cH) its.toArray,⟨⟨_,dX _ Z,Z,Z⟩,fT.push _⟩,λi v s' Q' E' hP hQ=>?_,λh' tk hk=>?_⟩
  ·obtain⟨n,t,e,rfl⟩:=Q9 rv (i:=i) (v:=v) (by simpa using hP)
   simp only[bQ,e]at hQ;exact truthy_int hQ
  ·rw[fin its rv]
   exact⟨.bl _,H,I.kept (LSm.kept_iter hk),Z,q⟩
 ·obtain⟨its,rv,pl,hz⟩:=I.tuple hl
  have fT:s.heap.IsTuple l its.toArray:=by obtain⟨⟨cls,dd,data,sl⟩,ho,jN,n,hd⟩:=pl;exact⟨_,ho,jN,by simpa using⟨n,hd⟩⟩
  have cH:l<s.heap.objs.size:=by obtain⟨_,e,_⟩:=fT;exact cm e
  refine call_any_walk (wpAny_pyIter_tuple fT ?_);refine⟨s.heap.objs.size,[s.heap.objs.size,l],[s.heap.objs.size],its.toArray.size,_,_,λi=>((ns.map (· !=0))[i]?).getD false,Z,Walks.tuple (A:=X.A.in1) hh _ l (eP cH) its.toArray,⟨⟨_,dX _ Z,Z,Z⟩,fT.push _⟩,λi v s' Q' E' hP hQ=>?_,λh' tk hk=>?_⟩
  ·obtain⟨n,t,e,rfl⟩:=Q9 rv (i:=i) (v:=v) (by simpa using hP)
   simp only[bQ,e]at hQ;exact truthy_int hQ
  ·rw[fin its rv]
   exact⟨.bl _,H,I.kept (LSm.kept_iter hk),Z,q⟩
end
end _L
set_option maxHeartbeats 1000000
namespace _b
open PySem PySem.Spec PyProof.Rows _L
def Tq(c m:Int):Prop:=0<=c/\0<=m/\m<2147483648
def ft(H:Hp)(p:Addr):Prop:=∃c m,H p=some (.lst [.int c,.int m])/\Tq c m
structure bN(p:Addr)(H H':Hp):Prop where
 bM:ft H' p
 same:∀b o,b≠p->H b=some o->H' b=some o
theorem bN.refl{p:Addr}{H:Hp}(h:ft H p):bN p H H:=⟨h,λ_ _ _ e=>e⟩
theorem bN.trans{p:Addr}{H H1 H2:Hp}(a:bN p H H1)(b:bN p H1 H2):bN p H H2:=⟨b.bM,λc o n e=>b.same c o n (a.same c o n e)⟩
theorem bN.upd{p:Addr}{H:Hp}{c m:Int}(h:Tq c m):bN p H (_L.upd H p (.lst [.int c,.int m])):=⟨⟨c,m,bW,h⟩,λb o n e=>by rw[aV n];exact e⟩
theorem bN.eg{p:Addr}{H H':Hp}(h:ft H p)(s:aD H H'):bN p H H':=by obtain⟨c,m,e,ok⟩:=h;exact⟨⟨c,m,s _ _ e,ok⟩,λb o _ e=>s b o e⟩
theorem Kb{j:Int}(h0:0<=j)(h:j<=10^40):Wd j:=by
 have:j.natAbs<=10^40:=by lia
 exact JU this aI
theorem ft.ne{H:Hp}{p:Addr}(h:ft H p):H p≠none:=by obtain⟨c,m,e,_⟩:=h;rw[e];exact λz=>nomatch z
theorem ft.a0T{H:Hp}{p:Addr}{q:Addr}{o:HO}(h:ft H p)(e:H q=some o)(n:∀xs,o≠ .lst xs):q≠p:=by obtain⟨c,m,e',_⟩:=h;exact wU e e' (n _)
theorem bN.t{p:Addr}{H H':Hp}(bg:ft H p)(b:bN p H H'):gT H H':=λc o n e=>b.same c o (bg.a0T e n) e
theorem bN.WC{p:Addr}{H0 H H':Hp}(s:aD H0 H)(hp:H0 p=none)(b:bN p H H'):aD H0 H':=λc o e=>b.same c o (g6 e hp) (s c o e)
section
variable {K:aa}
theorem J2{J:It}{te:TE}{Q:VK}{D p:Addr}{H H0:Hp}(n:Nat)(rest:_L.St)(nw:Nw H H0 D (.lst []))(bg:ft H p)(hn:n<=1000)(xv:Nat->V) (go:∀i H2,i<n->bN p H H2->J.go i H2/\∀y H3,J.jB i H2 y H3->H3=H2/\y=xv i)(stop:∀H2,bN p H H2->J.stop n H2)(Pz:Int->Prop) (hs:∀i H2 (Q':VK),i<n->bN p H H2->(∀z H3,Pz z->bN p H2 H3->Q' (.int z) H3)->te (some (xv i)::rest) H2 Q') (hq:∀H' (is:List Int),bN p H H'->H' D=some (.lst (is.map V.int))->is.length=n->(∀z∈is,Pz z)->Q (.ref D) H'):kB J (gw 0) jD te Q D (none::rest) H0:=by
 have xM:D≠p:=λe=>bg.ne (e▸nw.no);refine uW n (λi O H3=>bN p H H3/\(∃is:List Int,H3 D=some (.lst (is.map V.int))/\is.length=i/\∀z∈is,Pz z)/\∃v,O=v::rest) ?_ ?_ ?_
 ·exact⟨.eg bg nw.same,⟨[],nw.at',Z,λ_ h=>(eQ h).elim⟩,none,Z⟩
 ·rintro i O H3 hi ⟨b3,⟨is,d3,li,pi⟩,v,rfl⟩
  obtain⟨g1,g2⟩:=go i H3 hi b3;refine⟨g1,λy H4 hy=>?_⟩;obtain⟨rfl,rfl⟩:=g2 y H4 hy;refine yS ?_;refine hs i _ _ hi b3 λz H5 pz b5=>?_;refine⟨_,b5.same _ _ xM d3,?_,n-(i+1),aw,Z,aw,?_,⟨is++[z],?_,?_,?_⟩,_,Z⟩
  ·rw[bS,li]
   have:(1000:Nat)<sizeLine:=by decide
   lia
  ·have qi:=b3.trans b5
   refine⟨?_,λb o n e=>?_⟩
   ·obtain⟨c,m,e,ok⟩:=qi.bM
    exact⟨c,m,by rw[aV xM.symm];exact e,ok⟩
   ·rw[aV (g6 e nw.no)];exact qi.same b o n e
  ·rw[bW,mV];rfl
  ·rw[fP,li];rfl
  ·intro y hy
   rcases mU.mp hy with h|h
   ·exact pi y h
   ·rw[dH.mp h];exact pz
 ·rintro O H3 ⟨b3,⟨is,d3,li,pi⟩,v,rfl⟩
  exact⟨stop H3 b3,hq H3 is b3 d3 li pi⟩
theorem AD(ns:List Int){i:Int}(h0:0<=i)(h:i<ns.length):∃z,z∈ns/\eZ (ns.map V.int) i=some (.int z):=by
 have hl:i.toNat<ns.length:=by omega
 exact⟨ns[i.toNat],vC hl,cF h0 (by rw[bQ,cu hl];rfl)⟩
theorem J1{J:It}{te:TE}{Q:VK}{D p:Addr}{H H0:Hp}(n:Nat)(rest:_L.St)(nw:Nw H H0 D (.lst []))(bg:ft H p)(hn:n<=1000)(xv:Nat->V) (go:∀i H2,i<n->bN p H H2->J.go i H2/\∀y H3,J.jB i H2 y H3->H3=H2/\y=xv i)(stop:∀H2,bN p H H2->J.stop n H2)(Pd:Nat->ah->Prop) (hs:∀i H2 (Q':VK),i<n->bN p H H2->(∀y d H3,Pd i d->eM d=true->RD K H3 y d->bN p H2 H3->Q' y H3)->te (some (xv i)::rest) H2 Q') (hq:∀H' ys ds,bN p H H'->H' D=some (.lst ys)->aL K H' ys ds->ds.length=n->cy ds=true->(∀i d,ds[i]? =some d->Pd i d)->Q (.ref D) H'):kB J (gw 0) jD te Q D (none::rest) H0:=by
  have xM:D≠p:=λe=>bg.ne (e▸nw.no);refine uW n (λi O H3=>bN p H H3/\(∃ys ds,H3 D=some (.lst ys)/\aL K H3 ys ds/\ds.length=i/\cy ds=true/\∀j d,ds[j]? =some d->Pd j d)/\∃v,O=v::rest) ?_ ?_ ?_
  ·exact⟨.eg bg nw.same,⟨[],[],nw.at',dv,Z,Z,λj d e=>by simp at e⟩,none,Z⟩
  · rintro i O H3 hi ⟨b3,⟨ys,ds,d3,r3,li,ni,pi⟩,v,rfl⟩
    obtain⟨g1,g2⟩:=go i H3 hi b3;refine⟨g1,λy H4 hy=>?_⟩;obtain⟨rfl,rfl⟩:=g2 y H4 hy;refine yS ?_;refine hs i _ _ hi b3 λz d H5 pz nz rz b5=>?_;have d5:=b5.same _ _ xM d3;have t:gT H5 (_L.upd H5 D (.lst (ys++[z]))):=.tF d5;refine⟨ys,d5,?_,n-(i+1),aw,Z,aw,?_,⟨ys++[z],ds++[d],bW,?_,?_,?_,?_⟩,_,Z⟩
    · rw[r3.length,li]
      have:(1000:Nat)<sizeLine:=by decide
      lia
    · have qi:=b3.trans b5
      refine⟨?_,λb o n e=>?_⟩
      · obtain⟨c,m,e,ok⟩:=qi.bM
        exact⟨c,m,by rw[aV xM.symm];exact e,ok⟩
      ·rw[aV (g6 e nw.no)];exact qi.same b o n e
    ·exact(aL.t ((bN.t b3.bM b5).trans t) _ ni r3).append (cI (RD.t t _ nz rz) dv)
    ·rw[fP,li];rfl
    ·exact fY.mpr λx hx=>by
        rcases mU.mp hx with h|h
        ·exact fY.mp ni x h
        ·rw[dH.mp h];exact nz
    · intro j e he
      by_cases hj:j<ds.length
      · rw[vE hj]at he
        exact pi j e he
      · have kU:j=ds.length:=by
          have:=(dD.mp he).1;rw[fP]at this;have:j<ds.length+1:=this
          lia
        subst kU;rw[yJ (bO _),JS]at he;cases he;rw[li];exact pz
  · rintro O H3 ⟨b3,⟨ys,ds,d3,r3,li,ni,pi⟩,v,rfl⟩
    exact⟨stop H3 b3,hq H3 ys ds b3 d3 r3 li ni pi⟩
end
end _b
namespace _l
open PySem _L
def mJ(i:Int):Int:=if i<0 then-i else i
theorem Jn(i:Int):mJ i=(i.natAbs:Int):=by unfold mJ;split<;>lia
def aO(ns:List Int):Nat:=ns.foldr (λz m=>max z.natAbs m) 0
theorem Gy:∀{ns:List Int}{z:Int},z∈ns->z.natAbs<=aO ns
 |n::ns,z,h=>by
  show z.natAbs<=max n.natAbs (aO ns);rcases cj.mp h with rfl|h
  ·exact Nat.le_max_left _ _
  ·exact gC (Gy h) (Nat.le_max_right _ _)
theorem Gx:∀{ns:List Int},ns≠[]->∃z∈ns,z.natAbs=aO ns
 |[],h=>absurd Z h |[n],_=>⟨n,.head _,by show n.natAbs=max n.natAbs 0;lia⟩ |n::m::ns,_=>by
  obtain⟨z,hz,e⟩:=Gx (ns:=m::ns) (by simp);by_cases h:n.natAbs<=aO (m::ns)
  ·exact⟨z,.tail _ hz,by show _=max n.natAbs (aO (m::ns));lia⟩
  ·exact⟨n,.head _,by show _=max n.natAbs (aO (m::ns));lia⟩
theorem nT{ns:List Int}{m:Nat}(h:∀z∈ns,z.natAbs<=m):aO ns<=m:=by cases ns with |nil=>exact fU _ |cons a r=>obtain⟨z,hz,e⟩:=Gx (ns:=a::r) (by simp);rw[<-e];exact h z hz
theorem a2b{ns:List Int}(h:∃z∈ns,z≠0):0<aO ns:=by
 obtain⟨z,hz,h0⟩:=h;have:=Gy hz
 lia
theorem a2a{ns:List Int}(df:ns≠[]){M:Int}(h1:M∈ns.map mJ)(h2:∀a∈ns.map mJ,a<=M):M=(aO ns:Int):=by
 obtain⟨z,hz,e⟩:=cW.mp h1;obtain⟨y,hy,ey⟩:=Gx df;have a1:=Gy hz;have a2:=h2 (mJ y) (cW.mpr ⟨y,hy,Z⟩);rw[Jn]at e a2
 lia
def iq(p q:Int):Int:=(2*(p.natAbs:Int)+q)/(2*q)
def fZ(p q:Int):Int:=if p>=0 then iq p q else-iq p q
structure vj(x p q:Int):Prop where
 lo:-q<=2*(x*q-p)
 hi:2*(x*q-p)<=q
 sx:2*(x*q-p)=q\/2*(x*q-p)=-q->p.natAbs<=(x*q).natAbs
theorem LD{p q:Int}(hq:0<q):2*q*iq p q<=2*(p.natAbs:Int)+q/\2*(p.natAbs:Int)+q<2*q*iq p q+2*q:=by have h:=Int.mul_ediv_add_emod (2*(p.natAbs:Int)+q) (2*q);have h0:=qv (2*(p.natAbs:Int)+q) (show 2*q≠0 by omega);have h1:=tm (2*(p.natAbs:Int)+q) (show 0<2*q by omega);unfold iq;constructor<;>omega
theorem LF{p q:Int}(hq:0<q):0<=iq p q:=Int.ediv_nonneg aw aw
theorem near_is{p q:Int}(hq:0<q):vj (fZ p q) p q:=by
 obtain⟨h1,h2⟩:=LD (p:=p) hq;have h0:=LF (p:=p) hq;rw[C3,Int.mul_comm q]at h1 h2;have hs0:0<=iq p q*q:=jY h0 (K6 hq);unfold fZ;split
 ·refine⟨?_,?_,λh=>?_⟩<;>(generalize iq p q*q=s at*;omega)
 ·refine⟨?_,?_,?_⟩<;>rw[Int.neg_mul]<;>(generalize iq p q*q=s at*;omega)
theorem wY{x y q:Int}(hq:0<q)(h:x<y):x*q+q<=y*q:=by have:(x+1)*q<=y*q:=C2 aw aw;rw[Int.add_mul,lP]at this;exact this
theorem a0P{x y p q:Int}(hq:0<q)(a:vj x p q)(b:vj y p q):x=y:=by
 have key:∀{x y:Int},vj x p q->vj y p q->¬x<y:=λ{x y} a b h=>by
  have g:=wY hq h;have e1:=a.lo;have e2:=a.hi;have e3:=b.lo;have e4:=b.hi;have f1:=a.sx;have f2:=b.sx;have hx:x*q=0\/q<=x*q\/x*q<=-q:=by
   rcases Ut x 0 with h|h|h
   ·have:=wY hq h;lia
   ·left;rw[h,C1]
   ·have:=wY hq h;lia
  have hy:y*q=0\/q<=y*q\/y*q<=-q:=by
   rcases Ut y 0 with h|h|h
   ·have:=wY hq h;lia
   ·left;rw[h,C1]
   ·have:=wY hq h;lia
  generalize x*q=u at*;generalize y*q=v at*;have hu:=f1 aw;have hv:=f2 aw
  lia
 rcases Ut x y with h|h|h
 ·exact absurd h (key a b)
 ·exact h
 ·exact absurd h (key b a)
theorem a0R{x p q:Int}(hq:0<q)(a:vj x p q):x=fZ p q:=a0P hq a (near_is hq)
theorem OX{p q:Int}(hq:0<q):fZ (-p) q=-fZ p q:=by obtain⟨a,b,c⟩:=near_is (p:=p) hq;refine(a0R hq ?_).symm;refine⟨?_,?_,?_⟩<;>rw[Int.neg_mul]<;>omega
theorem a0Q{p q:Int}(hq:0<q)(hp:0<=p):0<=fZ p q:=by unfold fZ;rw[bf hp];exact LF hq
end _l
namespace _L
open PySem PySem.Spec PyProof.Rows
abbrev Bj(b:Bool)(h:Heap)(l:Addr):Heap:=h.push {cls:=.type (qf b),data:=.fields #[.ref l,.int 0 0]}
abbrev IT(b:Bool)(h:Heap)(l:Addr):Heap:=(Bj b h l).push {cls:=.type "enumerate",data:=.fields #[.none,.bool false,.ref h.objs.size,rawInt 0,.none,.none]}
theorem a7n(b:Bool)(l:Addr)(xs:Array Value):Meets (Builtin.«enumerate.__new__» ⟨[.type "enumerate",.ref l],[]⟩) (λ_ R s=>gd b s.heap l xs/\R (.ok (.ret (.ref (Bj b s.heap l).objs.size))) {s with heap:=IT b s.heap l}):=.of_wp λprog w A R s h=>by
 obtain⟨hp,gg,d,tk,os⟩:=s;obtain⟨hl,h⟩:=h;have GU:=sub_enumerate;have hL:gd b (Shared.heap ⟨hp,gg,d,tk,os⟩) l xs:=hl
 wp_walk using uw hL;refine wpAny_stack_any λst=>bV ?_;split
 ·rename_i c _ _ _ _ _
  cases(c==Value.type "enumerate")
  ·wp_walk using uw hL
   exact⟨_,Z,h⟩
  ·wp_walk using uw hL
   exact⟨_,Z,h⟩
 ·wp_walk using uw hL
  exact⟨_,Z,h⟩
section
variable {prog:af}{w:World}{A:ai}{E:Value->ae->Prop}{s:ae}
theorem a7o{b:Bool}{l:Addr}{xs:Array Value}{Q:Value->ae->Prop}(hl:gd b s.heap l xs) (q:∀g,IsEnum g (s.heap.objs.size+1) s.heap.objs.size 0 .none->jb b g s.heap.objs.size l 0->(∀c o,s.heap.get? c=some o->g.get? c=some o)->Q (.ref (s.heap.objs.size+1)) {s with heap:=g}): wpAny (model prog w) A (call (.type "enumerate") [.ref l]) Q E s:=by refine callType_new PySem.F.called_enumerate az (PySem.F.typeCall_enumerate_1 _) (PySem.F.newCall_enumerate_1 _) (λobj=>PySem.F.args_object_init_2 obj _) PySem.F.entry_enumerate_new (a7n b l xs) ⟨hl,?_⟩;have z1:(Bj b s.heap l).objs.size=s.heap.objs.size+1:=qw ..;have g2:(IT b s.heap l).get? (Bj b s.heap l).objs.size=some _:=dX _ rfl;have g1:(IT b s.heap l).get? s.heap.objs.size=some _:=cC _ (dX _ Z);show _/\_;rw[z1]at g2⊢;refine⟨⟨_,g2,Z⟩,q _ g2 ?_ λc o e=>cC _ (cC _ e)⟩;cases b<;>exact⟨_,g1,rfl,rfl⟩
theorem RQ{b:Bool}{it l:Addr}{xs:Array Value}(hh:A.handled=none)(ne:l≠it):Draws prog w A it [it,l] xs.size (λi x=>xs[i]? =some x) (λi h=>jb b h it l i/\gd b h l xs) where
 live:=λi h st=>by obtain⟨o,e,_⟩:=st.1.ob;exact⟨o,e⟩
 frame:=λi h h' st k=>⟨st.1.to λo e=>k it (by simp) o e,st.2.to λo e=>k l (by simp) o e⟩
 item:=λi s Q E hi st hQ=>Ah st.1 st.2 (x:=xs[i]) (by simp[hi]) λg gi sb=>hQ _ g s.toks (by simp[hi]) ⟨gi,st.2.to λo e=>sb.extBut _ _ ne e⟩ sb
 done:=λs Q E st hE=>IQ hh st.1 st.2 (by simp) λg e a b=>hE g e a b
end
def yo(K:aa)(b:Bool)(l:Addr):It:=⟨λi H=>∃xs x,eu b K H l xs/\xs[i]? =some x,λi H v H'=>∃T x,v= .ref T/\(∀xs,eu b K H l xs->xs[i]? =some x)/\Nw H H' T (.tup [.int i,x]),λi H=>∃xs,eu b K H l xs/\xs.length=i⟩
theorem V9{P:af}{w:World}{K:aa}{elts:List Expr}{kt:Nat}{pos:Pos}{b:Bool}{e it l:Addr}(D:e≠it): Turn P w K (.Tuple elts kt pos) (yo K b l) [e,it] e (λi h=>(∃old,IsEnum h e it i old)/\jb b h it l i) where
 mem:=by simp
 obj:=λi h st c hc=>by
  obtain⟨⟨old,he⟩,h1⟩:=st;simp only[cj,eQ,iI]at hc;rcases hc with rfl|rfl
  ·exact⟨_,he,λv e=>by cases e⟩
  ·obtain⟨o,e,_,n⟩:=h1.ob;exact⟨o,e,n⟩
 keep:=λi h h' st k=>by obtain⟨⟨old,he⟩,h1⟩:=st;exact⟨⟨old,k e (by simp) _ he⟩,h1.to λo q=>k it (by simp) o q⟩
 item:=by
  intro X hP hw hK hc i ao s O H E I hf st hg;subst hP hw hK;obtain⟨xs,x,q1,e1⟩:=hg;obtain⟨its,r1,p1⟩:=q1.get I;obtain⟨u1,GR,kG⟩:=r1.get e1;obtain⟨⟨old,he⟩,h1⟩:=st;obtain⟨oi,iT,ci,_⟩:=h1.ob;have GB:∃o,s.heap.get? l=some o/\(o.cls= .type "list"\/o.cls= .type "tuple"):=by cases b<;>(obtain⟨o,ho,cc,_⟩:=p1;first|exact⟨o,ho,.inl cc⟩|exact⟨o,ho,.inr cc⟩)
  obtain⟨ol,nY,cl⟩:=GB;have nel:e≠l:=λz=>by subst z;rw[he]at nY;cases nY;rcases cl with h|h<;>simp at h
  have nil:l≠it:=λz=>by subst z;rw[iT]at nY;cases nY;rw[ci]at cl;cases b<;>(rcases cl with h|h<;>simp[qf]at h)
  have cH:i<its.toArray.size:=by rw[dR,<-r1.length];exact(dD.mp e1).1
  refine wpAny_pyNext_enum_itemD (RQ (I.ok.hd hc) nil) he ⟨h1,p1⟩ cH D (by simp[D,nel]) λy h' tk hPy ho gb hT hsz kp=>⟨_,Z,?_⟩;have ey:y=u1:=by
   have a1:its.toArray[i]? =some y:=hPy;have a2:its.toArray[i]? =some u1:=by simpa using GR
   rw[a1]at a2;exact dG a2
  subst ey;refine wpAny_letOwnedTupleGo_enum ho λg' he' sb=>?_;have hs:=sb.extBut;have elt:e<s.heap.objs.size:=cm he;have ilt:it<s.heap.objs.size:=cm iT;have nw:Nw H (upd H s.heap.objs.size (.tup [.int i,x])) s.heap.objs.size (.tup [.int i,x]):=.of (I.bB.fresh (bO _));have I1:Inv X ao O (upd H s.heap.objs.size (.tup [.int i,x])) {s with heap:=s.heap.push {cls:=.type "tuple",data:=.seq #[.int i tk,y]},toks:=tk+1}:=I.laid (t':=tk+1) (λb ob q=>cC _ q) (bO _) ⟨by show 2<=sizeLine;decide,[.int i tk,y],.cons ⟨tk,Z⟩ (.cons kG .nil),⟨_,dX _ Z,Z,_,Z⟩⟩;have Gq:∀c∈[e,it],c<s.heap.objs.size:=λc hc=>by
   simp only[cj,eQ,iI]at hc;rcases hc with rfl|rfl
   ·exact elt
   ·exact ilt
  have hn:∀c∈[e,it],upd H s.heap.objs.size (.tup [.int i,x]) c=none:=λc hc=>by rw[aV (eP (Gq c hc))];exact(hf c hc).1
  have I2:Inv X ao O (upd H s.heap.objs.size (.tup [.int i,x])) {s with heap:=g',toks:=tk+1}:=Inv.vP (s:={s with heap:=s.heap.push {cls:=.type "tuple",data:=.seq #[.int i tk,y]},toks:=tk+1}) (t':=tk+1) (fp:=[e,it]) I1 (λc o hc q=>by
   have q:(s.heap.push {cls:=.type "tuple",data:=.seq #[.int i tk,y]}).get? c=some o:=q;have nz:c≠e:=λz=>hc (by simp[z]);rcases Heap.get?_push_cases q with⟨Ht,rfl⟩|q'
   ·subst Ht
    exact hs _ _ nz hT
   ·exact hs _ _ nz (kp c o nz (λz=>hc (by simp[z])) q')) (λc hc=>by obtain⟨f0,f1,f2,f3,f4,f5⟩:=hf c hc;exact⟨hn c hc,f1,f2,f3,f4,f5⟩);refine⟨.ref s.heap.objs.size,_,I2,Z,⟨s.heap.objs.size,x,Z,λzs hz=>?_,nw⟩,⟨⟨_,by simpa using he'⟩,gb.1.to λo q=>hs _ o (iK D) q⟩,hn⟩;rw[eu.inj I hz q1];exact e1
 done:=by
  intro X hP hw hK hc i ao s O H E I hf st hg;subst hP hw hK;obtain⟨xs,q1,kW⟩:=hg;obtain⟨its,r1,p1⟩:=q1.get I;obtain⟨⟨old,he⟩,h1⟩:=st;obtain⟨oi,iT,ci,_⟩:=h1.ob;have GB:∃o,s.heap.get? l=some o/\(o.cls= .type "list"\/o.cls= .type "tuple"):=by cases b<;>(obtain⟨o,ho,cc,_⟩:=p1;first|exact⟨o,ho,.inl cc⟩|exact⟨o,ho,.inr cc⟩)
  obtain⟨ol,nY,cl⟩:=GB;have nil:l≠it:=λz=>by subst z;rw[iT]at nY;cases nY;rw[ci]at cl;cases b<;>(rcases cl with h|h<;>simp[qf]at h)
  have hi:i=its.toArray.size:=by rw[dR,<-r1.length];exact kW.symm
  subst hi;refine wpAny_pyNext_enum_endD (RQ (I.ok.hd hc) nil) he ⟨h1,p1⟩ λh' kp=>⟨Z,?_⟩;exact I.vP (t':=s.toks) (fp:=[e,it]) (λc o hc q=>kp c o (λz=>hc (by simp[z])) q) hf
 self:=λ_ _ _ _ _ st h=>by obtain⟨⟨old,he⟩,_⟩:=st;exact wpAny_pyIter_enum he h
inductive aaX(K:aa)(b:Bool)(R:It->Hp->Prop)(vs:List V)(H1:Hp):Prop |mk (l:_)(h0:vs=[.ref l])(h1:(∃xs,eu b K H1 l xs))(h2:R (yo K b l) H1)
def a2P(K:aa)(b:Bool)(ta:TA):TI:=λO H R=>ta O H λvs H1=>aaX K b R vs H1
theorem XR(K:aa){X:Cx}(hK:X.K=K)(b:Bool){elts:List Expr}{kt:Nat}{mY:Pos}{a:Expr}{ta:TA}{p pos:Pos}(hg:Gl X "enumerate")(hm:X.mg "enumerate"=none)(ha:PA X [a] ta)(hs:autoParam (starEach [a] X.env=[(false,eval a X.env)]) r8_._auto_1)(jn:autoParam (starEach [] X.env=[]) r8_._auto_1): PI X (.Tuple elts kt mY) (.Call (.Name "enumerate" p) [a] [] pos) (a2P K b ta):=by
 subst hK;intro ao s O H R I h;refine Call_ (pF I hg hm PyProof.Rows.boot_enumerate (yB (ba (ha pos ao s O H _ I h) λus s1 ⟨vs,H1,I1,r1,q1⟩=>?_) (by rw[hs,jn]) (by rw[jn];rfl)));obtain⟨l,e,⟨xs,h1⟩,q⟩:=q1;subst e;obtain⟨u1,rfl,kG⟩:=vals1 r1;cases(show u1=Value.ref l from kG);obtain⟨GI,v1,p1⟩:=h1.get I1;refine a7o p1 λg zg ig kp=>wpAny_pyIter_enum zg ?_;refine⟨_,_,_,_,H1,Z,I1.kept (t':=s1.toks) kp,V9 (BW (Ue _)),⟨⟨_,zg⟩,ig⟩,λc hc=>?_,q⟩;have hle:s1.heap.objs.size<=c:=by simp only[cj,eQ,iI]at hc;rcases hc with rfl|rfl<;>first|exact bO _|exact Nat.le_add_right _ _
 exact I1.pQ hle (I1.bB.fresh hle)
theorem a5G{K:aa}{b:Bool}{a:Addr}{xs:List V}{g:TG}{tb:TS}{D:Ends}{O:St}{H:Hp}(Pv:Nat->St->Hp->Prop)(h0:Pv 0 O H)(hl:∀i O H,i<=xs.length->Pv i O H->eu b K H a xs) (hs:∀i x O H,xs[i]? =some x->Pv i O H->∀T H',Nw H H' T (.tup [.int i,x])->g (.ref T) O H' λσ2 H2=>tb {D with nx:=Pv (i+1),ct:=Pv (i+1),bk:=D.nx} σ2 H2)(hd:∀O H,Pv xs.length O H->D.nx O H): ∃W:Nat->Nat->St->Hp->Prop,(∃m,W 0 m O H)/\∀i m O H,W i m O H->((yo K b a).stop i H/\D.nx O H)\/((yo K b a).go i H/\∃N:St->Hp->Prop,(∀σ' H',N σ' H'->∃m',m'<m/\W (i+1) m' σ' H')/\∀x H',(yo K b a).jB i H x H'->g x O H' λσ2 H2=>tb {D with nx:=N,ct:=N,bk:=D.nx} σ2 H2):=by
 refine⟨λi m O H=>m=xs.length-i/\i<=xs.length/\Pv i O H,⟨xs.length,by simp,fU _,h0⟩,?_⟩;rintro i m O H ⟨rfl,hi,p⟩;have q:=hl i O H hi p;by_cases cH:i<xs.length
 ·refine .inr ⟨⟨xs,xs[i],q,by simp[cH]⟩,Pv (i+1),λσ' H' p'=>⟨xs.length-(i+1),aw,Z,cH,p'⟩,λx H' y=>?_⟩
  obtain⟨T,z,rfl,ez,nw⟩:=y;exact hs i z O H (ez xs q) p T H' nw
 ·have e:i=xs.length:=by lia
  subst e;exact .inl ⟨⟨xs,q,Z⟩,hd O H p⟩
theorem Rf{K:aa}{b1 b2:Bool}{a1 a2:Addr}{xs ys:List V}{g:TG}{tb:TS}{D:Ends}{O:St}{H:Hp}(n:Nat)(hn:n=min xs.length ys.length)(Pv:Nat->St->Hp->Prop)(h0:Pv 0 O H)(hl:∀i O H,i<=n->Pv i O H->eu b1 K H a1 xs/\eu b2 K H a2 ys) (hs:∀i x y O H,xs[i]? =some x->ys[i]? =some y->Pv i O H->∀T H',Nw H H' T (.tup [x,y])->g (.ref T) O H' λσ2 H2=>tb {D with nx:=Pv (i+1),ct:=Pv (i+1),bk:=D.nx} σ2 H2)(hd:∀O H,Pv n O H->D.nx O H): ∃W:Nat->Nat->St->Hp->Prop,(∃m,W 0 m O H)/\∀i m O H,W i m O H->((sR K b1 b2 a1 a2).stop i H/\D.nx O H)\/((sR K b1 b2 a1 a2).go i H/\∃N:St->Hp->Prop,(∀σ' H',N σ' H'->∃m',m'<m/\W (i+1) m' σ' H')/\∀x H',(sR K b1 b2 a1 a2).jB i H x H'->g x O H' λσ2 H2=>tb {D with nx:=N,ct:=N,bk:=D.nx} σ2 H2):=by
 refine⟨λi m O H=>m=n-i/\i<=n/\Pv i O H,⟨n,by simp,fU _,h0⟩,?_⟩;rintro i m O H ⟨rfl,hi,p⟩;obtain⟨q1,q2⟩:=hl i O H hi p;by_cases cH:i<n
 ·have l1:i<xs.length:=by lia
  have l2:i<ys.length:=by lia
  refine .inr ⟨⟨xs,ys,xs[i],ys[i],q1,q2,by simp[l1],by simp[l2]⟩,Pv (i+1),λσ' H' p'=>⟨n-(i+1),aw,Z,cH,p'⟩,λx H' y=>?_⟩;obtain⟨T,z1,z2,rfl,e1,e2,nw⟩:=y;exact hs i z1 z2 O H (e1 xs q1) (e2 ys q2) p T H' nw
 ·have e:i=n:=by lia
  subst e;exact .inl ⟨⟨xs,ys,q1,q2,aw⟩,hd O H p⟩
section
variable {X:Cx}
end
set_option maxHeartbeats 1000000 in
theorem zZ{X:Cx}{N:List Str}{js:List (Option Nat)}{elt tg iter:Expr}{ifs:List Expr}{scope:Scope}{pos:Pos}{wi:TI}{g:TG}{tt:TT}{te:TE}{i0:Nat}{x0:Str}{u7 KP:Pos}(hNd:X.N.Nodup)(Qv:X.N[i0]? =some x0)(xf:Loc X.env.scope x0)(hc:X.calm=true)(hN:Bv X N js scope=true)(hS:uX X scope=true) (hi:PI X tg iter wi)(hg:∀cl s H fp ao,PG (fo X N scope cl s H fp ao) tg g)(ht:∀cl s H fp ao,Jt (fo X N scope cl s H fp ao) ifs tt)(he:∀cl s H fp ao,PE (fo X N scope cl s H fp ao) elt te) (hsw:autoParam (swapsWith (.ListComp elt [⟨tg,iter,ifs,0⟩] scope pos) (some (.Name x0 u7)) KP.line X.env=pure true) r8_._auto_1)(hf0:X.fn x0=true\/X.env.scope.names.lookup x0=some .local:=by first|exact .inl rfl|exact .inr rfl) (hs:autoParam (∀x,foldedSetIterable iter X.env x=pure x) f8_._auto_1):PS X (.Assign [.Name x0 u7] (.ListComp elt [⟨tg,iter,ifs,0⟩] scope pos) KP) (vU (Kr js wi g tt te) (gw i0)):=by
 intro ao s O H D0 I h;have rW:=hS;unfold uX at rW;rw[eH,eH]at rW;obtain⟨⟨k1,k2⟩,k3⟩:=rW;have kT:scope.kind= .function:=fi.mp k1;have uJ:∀x∈scope.names,x.2= .free->∃c,X.env.cells.lookup x.1=some c:=λx hx e=>by have:=fV.mp k3 x hx;rw[e]at this;exact I.ok.has x.1 (.inl (fi.mp this))
 have pO:∀x∈scope.names,x.2≠ .cell:=λx hx e=>by have:=fV.mp k3 x hx;rw[e]at this;exact dN this
 have He:∀x∈scope.names,x.2= .local->scope.names.lookup x.1=some .local:=λx hx e=>by have:=fV.mp k3 x hx;rw[e]at this;exact fi.mp this
 obtain⟨cl,Hr,c1,c2⟩:=Sr uJ;rw[exec_Assign_Name_used _ _ _ _ hsw];refine aM (BH (aM ?_));show wpAny _ X.A (do let _<-comprehension (.ListComp elt [⟨tg,iter,ifs,0⟩] scope pos) scope X.env _ (newList []) false (eval iter X.env) (some (assign (.Name x0 u7) X.env))) _ _ s;refine aM (iH (wpAny_comprehension_free (use:=some (assign (.Name x0 u7) X.env)) (Q:=λ_ s'=>SP X ao D0 .next s') Z hs Hr kT He (ba (hi ao s O H _ I h) λv s1 h1=>ba h1 λAz s2 h2=>?_)) (λ_ s' hq=>bV (bV hq)) λ_ _ e=>e);obtain⟨it,fp,tn,J,H2,e,I2,T,oU,f2,h2⟩:=h2;subst e;have hD:H2 s2.heap.objs.size=none:=I2.bB.fresh (bO _);obtain⟨W,⟨m0,w0⟩,turn⟩:=h2 _ _ (Nw.of hD);refine oN (wpAny_newFunctionEnv pO (by intro y hy;simp at hy) (λh₁ xo xi=>?_) kT);have si:∀b∈fp,b<s2.heap.objs.size:=λb hb=>by obtain⟨o,e,_⟩:=T.obj _ _ oU b hb;exact cm e
 have I3:Inv X ao O (upd H2 s2.heap.objs.size (.lst [])) {s2 with heap:=s2.heap.push {cls:=.type "list",dict:=none,data:=.seq ([]:List Value).toArray}}:=I2.Pu (its:=[]) (t':=s2.toks) .nil (fU _);generalize xK:s2.heap.push {cls:=.type "list",dict:=none,data:=.seq ([]:List Value).toArray}=h3 at I3 xo xi;have vV:h3.objs.size=s2.heap.objs.size+1:=by rw[<-xK,qw]
 have GF:∀b o,s2.heap.get? b=some o->h3.get? b=some o:=λb o e=>by rw[<-xK];exact cC _ e
 have f3:∀b∈fp,jU X ao (upd H2 s2.heap.objs.size (.lst [])) b:=λb hb=>⟨by rw[aV (eP (si b hb))];exact(f2 b hb).1,(f2 b hb).2⟩;have xb:∀b o,h3.get? b=some o->h₁.get? b=some o:=λb o e=>(xi.2 b (eP (cm e))).trans (cC _ e);have I4:Inv (fo X N scope cl {s2 with heap:=h3} (upd H2 s2.heap.objs.size (.lst [])) fp ao) [] (stC js O) (upd H2 s2.heap.objs.size (.lst [])) {s2 with heap:=h₁,toks:=s2.toks+([]:List (Str×Value)).length}:=I3.comp (s:={s2 with heap:=h3}) hN hS c1 c2 f3 (λb hb=>by show b<h3.objs.size;rw[vV];exact JT (si b hb)) (by simpa using xo) xb;have vW:tn 0 h₁:=T.keep _ _ _ oU λb _ o e=>xb b o (GF b o e);have loop:codeAny (model X.prog X.w) X.A (.compLoop (.ListComp elt [⟨tg,iter,ifs,0⟩] scope pos) 0 (.ref it) (.ref s2.heap.objs.size) (compEnvC scope cl h3.objs.size X.env)) (compPost (model X.prog X.w) X.A X.xe (some (assign (.Name x0 u7) X.env)) (λ_ s'=>SP X ao D0 .next s') (.ref s2.heap.objs.size) h3.objs.size) {s2 with heap:=h₁,toks:=s2.toks+([]:List (Str×Value)).length}:=by
  refine Sn (λn s'=>∃i σ' H',Inv (fo X N scope cl {s2 with heap:=h3} (upd H2 s2.heap.objs.size (.lst [])) fp ao) [] σ' H' s'/\tn i s'.heap/\(∀b∈fp,H' b=none)/\W i n σ' H') ?_ m0 ⟨0,_,_,I4,vW,λb hb=>(f3 b hb).1,w0⟩;rintro n s5 ⟨i,σ5,H5,I5,ng,sf,w5⟩;have kE:∀{H':Hp},(∀b∈fp,H' b=none)->∀b∈fp,jU (fo X N scope cl {s2 with heap:=h3} (upd H2 s2.heap.objs.size (.lst [])) fp ao) [] H' b:=λ{H'} hn b hb=>by
   obtain⟨_,q1,q2,q3,q4,q5⟩:=f3 b hb;refine⟨hn b hb,λz=>?_,I4.ok.oo b hb,.inl hb,λx c e=>q4 x c (c1 x c e),λp hp=>q5 p (by simpa[fo]using hp)⟩;have cH:b<h3.objs.size:=by rw[vV];exact JT (si b hb)
   exact eP cH z
  rcases turn i n σ5 H5 w5 with⟨stop,qn⟩|⟨go,step⟩
  ·refine ba (T.done (fo X N scope cl {s2 with heap:=h3} (upd H2 s2.heap.objs.size (.lst [])) fp ao) rfl rfl rfl hc i [] s5 σ5 H5 _ I5 (kE sf) ng stop) λr s6 ⟨hr,I6⟩=>?_
   subst hr;obtain⟨m,hm,_⟩:=I6.loc;have u0:Un (ek X.stack) fp (upd H2 s2.heap.objs.size (.lst [])) H5 h3 s6.heap:=I6.au;have I7:Inv X ao O H5 s6:=I3.Bw (s':=s6) (ch:=fp) I6.os u0 I6.bB I6.bare λb hb=>⟨(f3 b hb).2.2.2.1,(f3 b hb).2.1,(f3 b hb).2.2.2.2.1,(f3 b hb).2.2.2.2.2⟩;have hC:jU X ao H5 h3.objs.size:=I3.pQ (bO _) I6.free;show wpAny _ X.A (assign (.Name x0 u7) X.env (.ref s2.heap.objs.size)) _ _ s6;refine wpAny_assign_Name (KD I7 hNd Qv xf (show RelV (.ref s2.heap.objs.size) (.ref s2.heap.objs.size)from Z) (λs8 I8 hsb=>?_) hf0);obtain⟨a,sb,ha⟩:=hsb;have hCa:h3.objs.size≠a:=by
    rcases ha with rfl|ha
    ·exact hC.2.1
    ·exact λz=>hC.2.2.2.2.1 x0 a ha z.symm
   refine⟨m,hm.sameBut sb hCa,λh9 hs9=>⟨_,H5,?_,qn⟩⟩;exact I8.vP (t':=s8.toks) (fp:=[h3.objs.size]) (λb o hb e=>hs9.extBut b o (λz=>hb (by simp[z])) e) λb hb=>by rw[dH.mp hb];exact hC
  ·refine ba (T.item (fo X N scope cl {s2 with heap:=h3} (upd H2 s2.heap.objs.size (.lst [])) fp ao) rfl rfl rfl hc i [] s5 σ5 H5 _ I5 (kE sf) ng go) λr s6 ⟨u,hr,h6⟩=>?_
   subst hr;refine ba h6 λ_ s7 ⟨x,H7,I7,r7,y7,nc,Il⟩=>?_;have Jz:=I7.pinned (kE Il) (T.obj _ _ nc);refine ba (hg _ _ _ _ _ _ s7 σ5 H7 x u _ Jz r7 (step x H7 y7)) λ_ s8 ⟨σ8,H8,I8,q8⟩=>?_;refine ba (ht _ _ _ _ _ _ s8 σ8 H8 _ I8 q8) λok s9 ⟨H9,I9,q9⟩=>?_;have again:∀{s':ae}{σ7:St}{H7:Hp},Inv (fo X N scope cl {s2 with heap:=h3} (upd H2 s2.heap.objs.size (.lst [])) fp ao) ([]++uc fp s7.heap) σ7 H7 s'->(∃m',m'<n/\W (i+1) m' σ7 H7)->∃m,m<n/\∃i σ' H',Inv (fo X N scope cl {s2 with heap:=h3} (upd H2 s2.heap.objs.size (.lst [])) fp ao) [] σ' H' s'/\tn i s'.heap/\(∀b∈fp,H' b=none)/\W i m σ' H':=λ{s' σ7 H7} J7 n7=>by obtain⟨m',hm,w7⟩:=n7;refine⟨m',hm,i+1,σ7,H7,J7.vM,T.keep _ _ _ nc λb hb o e=>(J7.pin (b,o) (jz _ (jz _ (uA hb e)))).1,λb hb=>?_,w7⟩;obtain⟨o,e,d⟩:=T.obj _ _ nc b hb;exact(J7.pin (b,o) (jz _ (jz _ (uA hb e)))).2.1
   cases ok with |false=>rw[bh dN]at q9⊢;exact again I9 q9 |true=>rw[bf rfl]at q9⊢;refine ba (he _ _ _ _ _ _ s9 σ8 H9 _ I9 q9) λyv qI ⟨y,mQ,vn,Fz,ys,AG,hz,tE⟩=>?_;refine ba (Gi _ qI σ8 mQ (.ref s2.heap.objs.size) [y] (.ref s2.heap.objs.size) [yv] (λ_ kA=>∃m',m'<n/\W (i+1) m' σ8 kA) vn Z (.cons Fz .nil) ⟨_,ys,y,Z,Z,AG,hz,tE⟩) λ_ F9 ⟨v11,kA,JA,Xz,FC⟩=>?_;exact again JA FC
 exact codeAny_compStart_list loop (T.self _ 0 _ _ _ vW loop)
theorem Sw:∀{zs:List Str}{us:List Value},Vals (zs.map V.str) us->CarriedAll us (zs.map PyData.str) |[],_,.nil=>.nil |z::zs,_,.cons q r=>by obtain⟨t,rfl⟩:=(show∃t,_=Value.str z t from q);exact .cons (.str z t) (Sw r)
section
variable {X:Cx}
end
section
variable {X:Cx}{ao:List (Addr×Obj)}{O:St}{H:Hp}{s:ae}
end
section
variable {X:Cx}
theorem Sy:eF X (.type "range") (λxs H Q=>∃n,xs=[.int n]/\∀p H',Nw H H' p (.qK 0 n)->Q (.ref p) H'):=by intro ao s O H xs us Q I r h;obtain⟨n,rfl,q⟩:=h;obtain⟨u,rfl,t,rfl⟩:=vals1 r;refine call_range_1 ?_;have hf:H s.heap.objs.size=none:=I.bB.fresh (bO _);refine⟨.ref s.heap.objs.size,upd H s.heap.objs.size (.qK 0 n),I.laid (t':=s.toks+1+1) (λb u e=>cC _ e) (bO _) ?_,Z,q _ _ (.of hf)⟩;exact⟨_,_,_,dX _ Z⟩
end
theorem VO:isSubtype (.type "range_iterator") (.type "reversed")=pure false:=by rw[isSubtype_type];kernel_rfl
section
variable {prog:af}{w:World}{A:ai}{E:Value->ae->Prop}{s:ae}
abbrev wx(n:Nat):Obj:={cls:=.type "range_iterator",data:=.fields #[rawInt (0+((n:Int)-1)*1),rawInt (n:Int),rawInt (-1)]}
abbrev Fd(n:Nat):Bool:=Builtin.Range.rangeFitsLong 0&&Builtin.Range.rangeFitsLong n&&Builtin.Range.rangeFitsLong 1&&Builtin.Range.rangeFitsLong (-1)&&Builtin.Range.rangeFitsLong (0-1)&&Builtin.Range.rangeFitsLong (Builtin.Range.rangeSize 0 n 1)
theorem NC{n:Nat}(h:n<2^62):Fd n=true:=by unfold Fd;rw[rangeSize_one];simp only[Builtin.Range.rangeFitsLong,eH,BP];split<;>lia
theorem Xa(r:Addr)(a b c:Int)(t u v:Tok)(hc0:¬(!(Builtin.Range.rangeFitsLong a&&Builtin.Range.rangeFitsLong b&&Builtin.Range.rangeFitsLong c&&Builtin.Range.rangeFitsLong (-c)&&Builtin.Range.rangeFitsLong (a-c)&&Builtin.Range.rangeFitsLong (Builtin.Range.rangeSize a b c)))=true):Meets (Builtin.«range.__reversed__» ⟨[.ref r],[]⟩) (λ_ R s=>s.heap.get? r=some {cls:=.type "range",dict:=none,data:=.fields #[.int a t,.int b u,.int c v],slots:=#[]}/\R (.ok (.ret (.ref s.heap.objs.size))) {s with heap:=s.heap.push {cls:=.type (if(Builtin.Range.rangeFitsLong a&&Builtin.Range.rangeFitsLong b&&Builtin.Range.rangeFitsLong c&&Builtin.Range.rangeFitsLong (-c)&&Builtin.Range.rangeFitsLong (a-c)&&Builtin.Range.rangeFitsLong (Builtin.Range.rangeSize a b c))=true then "range_iterator" else "longrange_iterator"),data:=.fields #[rawInt (a+(Builtin.Range.rangeSize a b c-1)*c),rawInt (Builtin.Range.rangeSize a b c),rawInt (-c)]},toks:=s.toks}):=.of_wp λprog w A R s h=>by
 obtain⟨hp,g,d,tk,os⟩:=s;obtain⟨hl,h⟩:=h
 wp_walk;exact⟨_,Z,h⟩
theorem a86{l:Addr}{n:Nat}{t u v:Tok}{Q:Value->ae->Prop}(hn:n<2^62)(hl:s.heap.get? l=some {cls:=.type "range",data:=.fields #[.int 0 t,.int n u,.int 1 v]}) (h:Q (.ref s.heap.objs.size) {s with heap:=s.heap.push (wx n)}):wpAny (model prog w) A (call (.builtin "range.__reversed__") [.ref l]) Q E s:=by
 have hT:s.TypeIs (.ref l) "range":=⟨_,hl,Z⟩;refine sW Uu hT F.entry_range_reversed (F.args_range_reversed_1 _) (Xa l 0 n 1 t u v (by have:=NC hn;unfold Fd at this;rw[this];decide)) ⟨hl,?_⟩;rw[bf (NC hn)];have e:Builtin.Range.rangeSize 0 n 1=n:=by rw[rangeSize_one];split<;>lia
 rw[e];exact h
theorem a7T{l:Addr}{n:Nat}{t u v:Tok}{Q₁:Value->ae->Prop}(hn:n<2^62)(hl:s.heap.get? l=some {cls:=.type "range",data:=.fields #[.int 0 t,.int n u,.int 1 v]}) (h:Q₁ (.ref s.heap.objs.size) {s with heap:=s.heap.push (wx n)}): codeAny (model prog w) A (.call (.builtin "reversed.__new__") ⟨[.type "reversed",.ref l],[]⟩) (wants Q₁ E) s:=by
 have hT:s.TypeIs (.ref l) "range":=⟨_,hl,Z⟩;refine codeAny_of_tree ?_;show wpAny _ A.in1 (do checkBuiltinCall "reversed.__new__" ⟨[.type "reversed",.ref l],[]⟩;again (.builtin "reversed.__new__" ⟨[.type "reversed",.ref l],[]⟩)) _ _ s;refine aM (yw (F.newCall_reversed_1 _) (bV ⟨plainId_quiet F.plain_reversed_new _,codeAny_builtin F.entry_reversed_new ?_⟩));rw[Around.under_plainId F.plain_reversed_new _];unfold Builtin.«reversed.__new__»;refine aM (yw (newClass_reversed _) ?_)
 try dsimp only
 refine aM (yw (a:=()) (by first|rfl|kernel_rfl) ?_);refine aM (yw (a:=()) (by first|rfl|kernel_rfl) ?_)
 try dsimp only
 refine aM (wpAny_specialOf hT Uu.lookup ?_)
 try dsimp only
 refine aM (yw (Uu.bind _) ?_)
 try dsimp only
 first |rw[bh (show¬((Value.builtin "range.__reversed__"==Value.none)=true)from dN)] |(show wpAny _ _ (if(Value.builtin "range.__reversed__"==Value.none)=true then _ else _) _ _ _;rw[bh (show¬((Value.builtin "range.__reversed__"==Value.none)=true)from dN)])
 refine aM (wpAny_rule ?_);refine aM (m:=runValue (.call (.builtin "range.__reversed__") ⟨[.ref l],[]⟩)) (show wpAny _ _ (call (.builtin "range.__reversed__") [.ref l]) _ _ _ from a86 hn hl ?_)
 first |exact bV h |exact aM (bV (bV h))
theorem a87{l:Addr}{n:Nat}{t u v:Tok}{Q:Value->ae->Prop}(hn:n<2^62)(hl:s.heap.get? l=some {cls:=.type "range",data:=.fields #[.int 0 t,.int n u,.int 1 v]}) (h:Q (.ref s.heap.objs.size) {s with heap:=s.heap.push (wx n)}):wpAny (model prog w) A (call (.type "reversed") [.ref l]) Q E s:=by refine callType_other (U:="range_iterator") (Q₁:=λobj s₁=>obj= .ref s.heap.objs.size/\s₁={s with heap:=s.heap.push (wx n)}) aI F.create_reversed ⟨_,_,F.mro_reversed⟩ F.made_reversed VO (F.typeCall_reversed_1 _) (a7T hn hl ⟨Z,Z⟩) ?_;rintro obj s₁ ⟨rfl,rfl⟩;exact⟨⟨_,dX _ Z,Z⟩,h⟩
end
def yl(n:Nat):It:=⟨λi _=>i<n,λi H x H'=>H'=H/\x= .int ((n:Int)-1-i),λi _=>n<=i⟩
theorem V6{P:af}{w:World}{K:aa}{tg:Expr}(it:Addr)(n:Nat):Turn P w K tg (yl n) [it] it (λi h=>IsRangeIter h it ((0+((n:Int)-1)*1)+(i:Nat)*(-1)) ((n:Int)-(i:Nat)) (-1)) where
 mem:=by simp
 obj:=λi h st b hb=>by
  have e:b=it:=by simpa using hb
  subst e;exact⟨_,st,λv z=>by have z':Data.fields _=Data.cell v:=z;cases z'⟩
 keep:=λi h h' st k=>k it (by simp) _ st
 item:=by
  intro X hP hw hK hc i ao s O H E I hf st hg;subst hP hw hK;obtain⟨f0,f1,f2,f3,f4,f5⟩:=hf it (by simp);have W:=Walks.range (prog:=X.prog) (w:=X.w) (I.ok.hd hc) it (0+((n:Int)-1)*1) (-1) n;refine W.item i s _ _ hg st λv h' tk hv gp kk=>?_;obtain⟨t,rfl⟩:=hv;have I1:Inv X ao O H {s with heap:=h',toks:=tk}:=I.turned (λb o hb e=>kk b o (by simpa using hb) e) f0 f1 f3 f4 f5;refine⟨_,Z,xQ (s:={s with heap:=h',toks:=tk}) (n:="range_iterator") gp rfl rfl az ⟨.int ((n:Int)-1-i),H,I1,⟨t,?_⟩,⟨Z,Z⟩,gp,λb hb=>(hf b hb).1⟩⟩;have e:(0+((n:Int)-1)*1)+(i:Int)*(-1)=(n:Int)-1-i:=by lia
  rw[e]
 done:=by intro X hP hw hK hc i ao s O H E I hf st hg;subst hP hw hK;obtain⟨f0,f1,f2,f3,f4,f5⟩:=hf it (by simp);exact wpAny_pyNext_range_end (I.ok.hd hc) st (by have:n<=i:=hg;lia) λh' eb=>⟨Z,I.turned (t':=s.toks) (λb o hb e=>eb b o hb e) f0 f1 f3 f4 f5⟩
 self:=λ_ _ _ _ _ st h=>TM st h
inductive aaV(R:It->Hp->Prop)(vs:List V)(H1:Hp):Prop |mk (p:_)(n:_)(h0:vs=[.ref p])(h1:H1 p=some (.qK 0 n))(h2:0<=n)(h3:n<2^62)(h4:R (yl n.toNat) H1)
def a2O(ta:TA):TI:=λO H R=>ta O H λvs H1=>aaV R vs H1
theorem Of{X:Cx}{tg:Expr}{a:Expr}{ta:TA}{p pos:Pos}(hg:Gl X "reversed")(hm:X.mg "reversed"=none)(ha:PA X [a] ta)(hs:autoParam (starEach [a] X.env=[(false,eval a X.env)]) r8_._auto_1)(jn:autoParam (starEach [] X.env=[]) r8_._auto_1): PI X tg (.Call (.Name "reversed" p) [a] [] pos) (a2O ta):=by
 intro ao s O H R I h;refine Call_ (pF I hg hm PyProof.Rows.boot_reversed (yB (ba (ha pos ao s O H _ I h) λus s1 ⟨vs,H1,I1,r1,q1⟩=>?_) (by rw[hs,jn]) (by rw[jn];rfl)));obtain⟨l,n,e,hl,n0,n1,q⟩:=q1;subst e;obtain⟨u1,rfl,kG⟩:=vals1 r1;cases(show u1=Value.ref l from kG);obtain⟨t,u,v,e⟩:∃t u v,s1.heap.get? l=some {cls:=.type "range",data:=.fields #[.int 0 t,.int n u,.int 1 v]}:=I1.bB l _ hl;obtain⟨m,rfl⟩:∃m:Nat,n=m:=⟨n.toNat,aw⟩;refine a87 aw e ?_;have hit:IsRangeIter (s1.heap.push (wx m)) s1.heap.objs.size ((0+((m:Int)-1)*1)+((0:Nat):Int)*(-1)) ((m:Int)-((0:Nat):Int)) (-1):=by
  have e1:(0+((m:Int)-1)*1)+((0:Nat):Int)*(-1)=0+((m:Int)-1)*1:=by lia
  have e2:(m:Int)-((0:Nat):Int)=m:=by lia
  rw[e1,e2];exact dX _ rfl
 refine TM hit ?_;refine⟨s1.heap.objs.size,[s1.heap.objs.size],_,_,H1,Z,I1.kept (t':=s1.toks) λb o e=>cC _ e,V6 _ m,hit,λb hb=>?_,q⟩;have e:b=s1.heap.objs.size:=by simpa using hb
 subst e;exact I1.pQ (bO _) (I1.bB.fresh (bO _))
theorem Rg{n:Nat}{g:TG}{tb:TS}{D:Ends}{O:St}{H:Hp}(Pv:Nat->St->Hp->Prop)(h0:Pv 0 O H) (hs:∀i O H,i<n->Pv i O H->g (.int ((n:Int)-1-i)) O H λσ2 H2=>tb {D with nx:=Pv (i+1),ct:=Pv (i+1),bk:=D.nx} σ2 H2)(hd:∀O H,Pv n O H->D.nx O H): ∃W:Nat->Nat->St->Hp->Prop,(∃m,W 0 m O H)/\∀i m O H,W i m O H->((yl n).stop i H/\D.nx O H)\/((yl n).go i H/\∃N:St->Hp->Prop,(∀σ' H',N σ' H'->∃m',m'<m/\W (i+1) m' σ' H')/\∀x H',(yl n).jB i H x H'->g x O H' λσ2 H2=>tb {D with nx:=N,ct:=N,bk:=D.nx} σ2 H2):=by
 refine⟨λi m O H=>m=n-i/\i<=n/\Pv i O H,⟨n,by simp,fU _,h0⟩,?_⟩;rintro i m O H ⟨rfl,hi,p⟩;by_cases cH:i<n
 ·refine .inr ⟨cH,Pv (i+1),λσ' H' q=>⟨n-(i+1),aw,Z,cH,q⟩,λx H' hy=>?_⟩
  obtain⟨rfl,rfl⟩:=hy;exact hs i O _ cH p
 ·have e:i=n:=by lia
  subst e;exact .inl ⟨bO _,hd O H p⟩
theorem wD(K:aa){X:Cx}(hK:X.K=K){a:Expr}{ta:TE}(ha:PE X a ta)(he:autoParam (∀whole,isTrue a X.env whole=(do let v<-whole;standAt a.pos;holding [v] (truthy v))) f8_._auto_1): PT X a (λO H Q=>ta O H λx H'=>∃k,Jp K x H' k/\Q k H'):=by subst hK;exact XA ha he
end _L
namespace _C
open _l
def fH(ns ms:List Int):List Int:=(ns.zip ms).map λp=>p.1*(aO ms:Int)-p.2*(aO ns:Int)
theorem a1m{ns ms:List Int}{z:Int}(h:z∈fH ns ms):∃a b,a∈ns/\b∈ms/\z=a*(aO ms:Int)-b*(aO ns:Int):=by obtain⟨⟨a,b⟩,hp,rfl⟩:=cW.mp h;exact⟨a,b,(vz hp).1,(vz hp).2,Z⟩
theorem mh{a b:Int}{m n:Nat}(h:a.natAbs<=m)(g:b.natAbs<=n):(a*b).natAbs<=m*n:=by rw[iL];exact t7 h g
theorem IZ{ns ms:List Int}(h1:∀z∈ns,z.natAbs<=1000)(h2:∀z∈ms,z.natAbs<=1000):∀z∈fH ns ms,z.natAbs<=2000000:=λz hz=>by obtain⟨a,b,ha,hb,rfl⟩:=a1m hz;have l1:=nT h1;have l2:=nT h2;have e1:=mh (b:=(aO ms:Int)) (n:=1000) (h1 a ha) bI;have e2:=mh (b:=(aO ns:Int)) (n:=1000) (h2 b hb) bI;omega
def pJ(zs:List Int)(i:Nat):Nat:=aO (zs.take i)
theorem PQ:∀(xs ys:List Int),aO (xs++ys)=max (aO xs) (aO ys) |[],ys=>by simp[aO] |x::xs,ys=>by show max x.natAbs (aO (xs++ys))=max (max x.natAbs (aO xs)) (aO ys);rw[PQ xs ys];lia
theorem a3V{zs:List Int}{i:Nat}{z:Int}(h:zs[i]? =some z):pJ zs (i+1)=max (pJ zs i) z.natAbs:=by
 unfold pJ;rw[vy,h,PQ];show max _ (max z.natAbs 0)=_
 lia
def sM(r:Rat):Rat:=if r.num<0 then-r else r
theorem a8G(r:Rat):(sM r).num=mJ r.num:=by
 unfold sM mJ;split
 ·rfl
 ·rfl
theorem a8I(r:Rat):(sM r).den=r.den:=by
 unfold sM;split
 ·rfl
 ·rfl
theorem a7C{a b:Int}(hb:0<b):0<=(Rat.divInt a b).num↔0<=a:=by rw[JJ,vt hb]
theorem a8H{c L:Int}(hL:0<L):sM (Rat.divInt c L)=Rat.divInt (mJ c) L:=by
 have h:=a7C (a:=c) hL;unfold sM mJ;by_cases hc:c<0
 ·rw[bf hc,bf aw,Rat.neg_divInt]
 ·rw[bh hc,bh aw]
theorem S7{a b L:Int}(hL:0<L):Rat.divInt a L<=Rat.divInt b L↔a<=b:=by
 rw[Rat.le_iff_sub_nonneg,TX _ _ aw aw,vt (jA hL hL),<-Int.sub_mul];constructor
 ·intro h
  have:=Int.nonneg_of_mul_nonneg_left h hL
  lia
 ·intro h
  exact jY aw aw
theorem S6{a b L:Int}(hL:0<L):Rat.divInt a L<Rat.divInt b L↔a<b:=by rw[<-Rat.not_le,S7 hL];lia
theorem VN{a b l1 l2:Int}(h1:0<l1)(h2:0<l2):Rat.divInt b l2-Rat.divInt a l1=Rat.divInt (b*l1-a*l2) (l1*l2):=by rw[TX _ _ aw aw,Int.mul_comm l2 l1]
theorem a7P{j p q h L:Int}(hp:p≠0)(hh:h≠0)(e:p*L=h*q):Rat.divInt (j*j*q*q) (p*p)=Rat.divInt ((j*L)^2) (h^2):=by
 rw[Rat.divInt_eq_divInt_iff (K4 hp hp) (by rw[gj,gj,mW,lP];exact K4 hh hh)];have e2:(p*L)*(p*L)=(h*q)*(h*q):=by rw[e]
 rw[gj,gj,mW,lP,gj,gj,mW,lP];have a1:j*j*q*q*(h*h)=(j*j)*((h*q)*(h*q)):=by ac_rfl
 have a2:j*L*(j*L)*(p*p)=(j*j)*((p*L)*(p*L)):=by ac_rfl
 rw[a1,a2,e2]
end _C
namespace _P
def mn(a b:Rat):Rat:=if b<a then b else a
theorem gq(a b:Rat):mn a b<=a:=by
 unfold mn;split
 ·next h=>exact Rat.le_of_lt h
 ·exact sY
theorem kP(a b:Rat):mn a b<=b:=by
 unfold mn;split
 ·exact sY
 ·next h=>exact BR.mp h
theorem mq{a b c:Rat}(h1:c<=a)(h2:c<=b):c<=mn a b:=by unfold mn;split<;>assumption
theorem Ap(a b:Rat):mn a b=a\/mn a b=b:=by
 unfold mn;split
 ·exact .inr rfl
 ·exact .inl rfl
theorem rB{a b c:Rat}(hc:c=a\/c=b)(h1:c<=a)(h2:c<=b):mn a b=c:=by
 rcases hc with rfl|rfl
 ·exact JK (gq _ _) (mq h1 h2)
 ·exact JK (kP _ _) (mq h1 h2)
theorem a2c{a b c:Rat}(h:a<=b)(hc:0<=c):a<=b+c:=eG h (by have:=(Rat.add_le_add_left (c:=b)).mpr hc;rwa [Rat.add_zero]at this)
section
variable (n:Nat)(own:Nat->Rat)(L:Nat->Option Nat)(r f:Int)
def Rz:Nat->Rat |0=>own 0 |i+1=>match L i with |some m=>mn (own (i+1)) (Rz i+((r*(m:Int):Int):Rat)) |none=>own (i+1)
def Pz(g:Nat->Rat):Nat->Rat |0=>g n |k+1=>match L (n-(k+1))with |some m=>mn (g (n-(k+1))) (Pz g k+((f*(m:Int):Int):Rat)) |none=>g (n-(k+1))
def fl(g:Nat->Rat)(i:Nat):Rat:=Pz n L f g (n-i)
def qR(i:Nat):Rat:=fl n L f (Rz own L r) i
end
section
variable {n:Nat}{own g:Nat->Rat}{L:Nat->Option Nat}{r f:Int}
theorem xV:fl n L f g n=g n:=by unfold fl;rw[JS];rfl
theorem xW{i m:Nat}(hi:i<n)(h:L i=some m):fl n L f g i=mn (g i) (fl n L f g (i+1)+((f*(m:Int):Int):Rat)):=by
 unfold fl;have e:n-i=(n-(i+1))+1:=by omega
 rw[e];show(match L (n-((n-(i+1))+1))with|some m=>_|none=>_)=_;have e2:n-((n-(i+1))+1)=i:=by omega
 rw[e2,h]
theorem xU{i:Nat}(hi:i<n)(h:L i=none):fl n L f g i=g i:=by
 unfold fl;have e:n-i=(n-(i+1))+1:=by lia
 rw[e];show(match L (n-((n-(i+1))+1))with|some m=>_|none=>_)=_;have e2:n-((n-(i+1))+1)=i:=by lia
 rw[e2,h]
theorem Tg{i m:Nat}(h:L i=some m):Rz own L r (i+1)=mn (own (i+1)) (Rz own L r i+((r*(m:Int):Int):Rat)):=by show(match L i with|some m=>_|none=>_)=_;rw[h]
theorem Tf{i:Nat}(h:L i=none):Rz own L r (i+1)=own (i+1):=by show(match L i with|some m=>_|none=>_)=_;rw[h]
theorem down{C:Nat->Prop}(hn:C n)(hs:∀i,i<n->C (i+1)->C i):∀i,i<=n->C i:=by
 have key:∀k,k<=n->C (n-k):=λk=>by induction k with |zero=>intro _;exact hn |succ k ih=>
  intro hk;refine hs _ bI ?_;have e:n-(k+1)+1=n-k:=by omega
  rw[e];exact ih bI
 intro i hi;have:=key (n-i) bI;have e:n-(n-i)=i:=by omega
 rwa [e]at this
end
open _r
theorem wZ{n:Nat}{a b:Rat}(h1:Bd n a)(h2:Bd n b):Bd n (mn a b):=by rcases Ap a b with e|e<;>rw[e]<;>assumption
theorem vf{n:Nat}{q:Rat}{z:Int}(h:Bd n q)(hz:z.natAbs<2^24):Bd (n+25) (q+(z:Rat)):=by have b:Bd 24 (z:Rat):=⟨hz,by show 1<2^24;decide⟩;exact(h.add b).mono aw
theorem BF{b:Nat}{own:Nat->Rat}{L:Nat->Option Nat}{r:Int}(ho:∀i,Bd b (own i))(hL:∀i m,L i=some m->(r*(m:Int)).natAbs<2^24):∀i,Bd (b+25*i) (Rz own L r i) |0=>ho 0 |i+1=>by cases h:L i with |none=>rw[Tf h];exact(ho _).mono aw |some m=>rw[Tg h];exact wZ ((ho _).mono aw) ((vf (BF ho hL i) (hL i m h)).mono aw)
theorem Iq{n b:Nat}{g:Nat->Rat}{L:Nat->Option Nat}{f:Int}(ho:∀i,i<=n->Bd b (g i))(hL:∀i m,L i=some m->(f*(m:Int)).natAbs<2^24):∀i,i<=n->Bd (b+25*(n-i)) (fl n L f g i):=by
 refine down ?_ λi hi ih=>?_
 ·rw[xV];exact(ho n (bO _)).mono aw
 ·cases h:L i with |none=>rw[xU hi h];exact(ho i aw).mono aw |some m=>rw[xW hi h];exact wZ ((ho i aw).mono aw) ((vf ih (hL i m h)).mono aw)
def lst(n:Nat)(g:Nat->Rat):List Rat:=(List.range (n+1)).map g
theorem kl(n:Nat)(g:Nat->Rat):(lst n g).length=n+1:=by simp[lst]
theorem kn{n:Nat}(g:Nat->Rat){i:Nat}(h:i<=n):(lst n g)[i]? =some (g i):=by unfold lst;rw[bQ,cu (by simp;lia),yI];rfl
theorem Gr{n:Nat}{g g':Nat->Rat}{i:Nat}(h:∀k,k<=n->k≠i->g' k=g k):(lst n g).set i (g' i)=lst n g':=by
 apply Up;intro k;by_cases hk:k<=n
 ·rw[kn g' hk,List.getElem?_set]
  by_cases e:i=k
  ·subst e;rw[bf rfl,bf (by rw[kl];lia)]
  ·rw[bh e,kn g hk,h k hk (λz=>e z.symm)]
 ·rw[vD (by rw[vB,kl];lia),vD (by rw[kl];lia)]
theorem nS{n:Nat}{g g':Nat->Rat}(h:∀k,k<=n->g' k=g k):lst n g=lst n g':=by
 apply Up;intro k;by_cases hk:k<=n
 ·rw[kn g hk,kn g' hk,h k hk]
 ·rw[vD (by rw[kl];lia),vD (by rw[kl];lia)]
end _P
namespace _O
open _P _C _l _r
abbrev Itm:=Option (List Int × Int)
def topR(aA sp:Int):Rat:=Rat.divInt ((sp*aA)^2) 10000
def cornO(j:Int)(ns ms:List Int):Option Rat:=if aO (fH ns ms)=0 then none else some (Rat.divInt ((j*aO ns*aO ms)^2) ((aO (fH ns ms):Int)^2))
def mnO(a:Rat):Option Rat->Rat |none=>a |some c=>mn a c
def betR(j aA:Int):Itm->Itm->Rat |some (ns,sp),some (ms,sq)=>mnO (mn (topR aA sp) (topR aA sq)) (cornO j ns ms) |_,_=>0
def atO(os:List Itm)(i:Nat):Itm:=(os[i]?).join
def ownF(j aA:Int)(os:List Itm):Nat->Rat |0=>0 |i+1=>betR j aA (atO os i) (atO os (i+1))
def leadF(os:List Itm)(i:Nat):Option Nat:=(atO os i).map λq=>aO q.1
def ownL(j aA:Int)(os:List Itm):List Rat:=(List.range (os.length+1)).map (ownF j aA os)
theorem vb{os:List Itm}{i:Nat}{o:Itm}(h:os[i]? =some o):atO os i=o:=by unfold atO;rw[h];rfl
theorem a8v{os:List Itm}{i:Nat}(h:os.length<=i):atO os i=none:=by unfold atO;rw[vD h];rfl
theorem SJ(j aA:Int)(o:Itm):betR j aA o none=0:=by unfold betR;split<;>simp_all
theorem a8p(j aA:Int)(o:Itm):betR j aA none o=0:=by unfold betR;split<;>simp_all
theorem Yj(j aA:Int)(os:List Itm):∀n,n=os.length->ownF j aA os n=0 |0,_=>rfl |n+1,h=>by show betR j aA (atO os n) (atO os (n+1))=0;rw[a8v (i:=n+1) aw];exact SJ _ _ _
theorem Yg(j aA:Int)(os:List Itm):(ownL j aA os).length=os.length+1:=by simp[ownL]
theorem Yh(j aA:Int)(os:List Itm){i:Nat}(h:i<=os.length):(ownL j aA os)[i]? =some (ownF j aA os i):=by unfold ownL;rw[bQ,cu (by simp;lia),yI];rfl
theorem Ou(j aA:Int){os:List Itm}(h:os≠[]):ownL j aA os=[0]++(List.range (os.length-1)).map (λi=>ownF j aA os (i+1))++[0]:=by
 have h0:0<os.length:=C0.mpr h;apply Up;intro i;by_cases hi:i<=os.length
 ·rw[Yh j aA os hi]
  rcases Nat.eq_zero_or_pos i with rfl|hp
  ·rfl
  ·by_cases hl:i=os.length
   ·rw[yJ (by simp;lia),hl,Yj j aA os _ rfl]
    have:os.length-([0]++List.map (λi=>ownF j aA os (i+1)) (List.range (os.length-1))).length=0:=by simp;lia
    rw[this];rfl
   ·rw[vE (by simp;lia),yJ (by simp;lia),bQ]
    have e:i-[(0:Rat)].length=i-1:=rfl;rw[e,cu (by simp;lia),yI];show some _=some (ownF j aA os (i-1+1));rw[Nat.sub_add_cancel hp]
 ·rw[vD (by rw[Yg];lia),vD (by simp;lia)]
theorem zd(aA sp:Int):0<=topR aA sp:=by
 unfold topR;rw[vt az,gj,gj,mW,lP];rcases Int.le_total 0 (sp*aA)with h|h
 ·exact jY h h
 ·exact Us h h
theorem VZ(a:Int):0<=a^2:=by
 rw[gj,gj,mW,lP];rcases Int.le_total 0 a with h|h
 ·exact jY h h
 ·exact Us h h
theorem a7Q{j:Int}{ns ms:List Int}{c:Rat}(h:cornO j ns ms=some c):0<=c:=by
 unfold cornO at h;split at h
 ·cases h
 ·next h0=>
  cases h;rw[vt]
  ·exact VZ _
  ·rw[gj,gj,mW,lP];exact jA aw aw
theorem a8q(j aA:Int)(o p:Itm):0<=betR j aA o p:=by
 unfold betR;split
 ·next ns sp ms sq=>
  have h:=mq (zd aA sp) (zd aA sq);unfold mnO;split
  ·exact h
  ·next c e=>exact mq h (a7Q e)
 ·exact sY
theorem Yi(j aA:Int)(os:List Itm):∀i,0<=ownF j aA os i |0=>sY |i+1=>a8q _ _ _ _
def OkI(o:Itm):Prop:=∀ns sp,o=some (ns,sp)->(∀z∈ns,(z.natAbs:Int)<=100)/\1<=sp/\sp<=20
theorem Cv{a:Int}{m:Nat}(h:a.natAbs<=m):(a^2).natAbs<=m*m:=by rw[gj,gj,mW,lP];exact mh h h
theorem ze{aA sp:Int}(h1:1<=sp)(h2:sp<=20)(h3:10<=aA)(h4:aA<=200):Bd 64 (topR aA sp):=by
 have oh:(2:Nat)^64=18446744073709551616:=by decide
 have a:=Cv (mh (a:=sp) (b:=aA) (m:=20) (n:=200) aw aw);exact kh az (by rw[oh];lia) az
theorem Sj{j:Int}{ns ms:List Int}{c:Rat}(h1:1<=j)(h2:j<=50)(hn:∀z∈ns,(z.natAbs:Int)<=100)(hm:∀z∈ms,(z.natAbs:Int)<=100)(h:cornO j ns ms=some c):Bd 64 c:=by
 have oh:(2:Nat)^64=18446744073709551616:=by decide
 have cb:=IZ (λz hz=>by have:=hn z hz;lia) (λz hz=>by have:=hm z hz;lia) (ns:=ns) (ms:=ms);have hb:=nT cb;have l1:=nT (ns:=ns) (m:=100) λz hz=>by have:=hn z hz;lia
 have l2:=nT (ns:=ms) (m:=100) λz hz=>by have:=hm z hz;lia
 unfold cornO at h;split at h
 ·cases h
 ·next h0=>cases h;have a:=Cv (mh (mh (a:=j) (b:=(aO ns:Int)) (m:=50) (n:=100) aw aw) (b:=(aO ms:Int)) (n:=100) aw);have b:=Cv (a:=(aO (fH ns ms):Int)) (m:=2000000) aw;refine kh ?_ (by rw[oh];lia) (by rw[oh];lia);rw[gj,gj,mW,lP];exact K4 aw aw
theorem wZ{n:Nat}{a b:Rat}(h1:Bd n a)(h2:Bd n b):Bd n (mn a b):=by rcases Ap a b with e|e<;>rw[e]<;>assumption
theorem Ka:Bd 64 (0:Rat):=⟨ az,az⟩
theorem a8r{j aA:Int}{o p:Itm}(h1:1<=j)(h2:j<=50)(h3:10<=aA)(h4:aA<=200)(ho:OkI o)(hp:OkI p):Bd 64 (betR j aA o p):=by
 unfold betR;split
 ·next ns sp ms sq=>
  obtain⟨a1,a2,a3⟩:=ho ns sp rfl;obtain⟨b1,b2,b3⟩:=hp ms sq rfl;have h:=wZ (ze a2 a3 h3 h4) (ze b2 b3 h3 h4);unfold mnO;split
  ·exact h
  ·next c e=>exact wZ h (Sj h1 h2 a1 b1 e)
 ·exact Ka
def OkIs(os:List Itm):Prop:=∀i,OkI (atO os i)
theorem Aa{j aA:Int}{os:List Itm}(h1:1<=j)(h2:j<=50)(h3:10<=aA)(h4:aA<=200)(ho:OkIs os):∀i,Bd 64 (ownF j aA os i) |0=>Ka |i+1=>a8r h1 h2 h3 h4 (ho i) (ho (i+1))
end _O
namespace _W
open PySem _L
def j9(pl ns:List Int):List Int:=List.zipWith (λa b=>a+b) pl ns
theorem oG{pl ns:List Int}(h:ns.length=pl.length):(j9 pl ns).length=pl.length:=by unfold j9;rw[List.length_zipWith,h];exact Nat.min_self _
theorem yg{pl ns:List Int}{i:Nat}{a b:Int}(h1:pl[i]? =some a)(h2:ns[i]? =some b):(j9 pl ns)[i]? =some (a+b):=by unfold j9;rw[List.getElem?_zipWith,h1,h2]
structure fO(rs pl:List Int):Prop where
 len:pl.length=rs.length
 at':∀(i:Nat)(x r:Int),pl[i]? =some x->rs[i]? =some r->0<=x/\x<=r
end _W
namespace _L
open PySem PySem.Spec PyProof.Rows
inductive aaL(K:aa)(x:V)(y:V)(H:Hp)(Q:VK):Prop |mk (a:_)(b:_)(xs:_)(ys:_)(h0:x= .ref a)(h1:y= .ref b)(h2:aZ K H a xs)(h3:aZ K H b ys)(h4:xs.length+ys.length<=sizeLine)(h5:∀c H',aD H H'->aZ K H' c (xs++ys)->Q (.ref c) H')
def Xw(K:aa):R2:=λx y H Q=>aaL K x y H Q
section
variable {X:Cx}
theorem Sv(K:aa)(hK:X.K=K):cO X (binaryOp .Add) (Xw K):=by
 subst hK;intro ao s O H x y v u Q I rx ry h;obtain⟨a,b,xs,ys,rfl,rfl,ha,hb,hz,q⟩:=h;cases rx;cases ry;obtain⟨its,r1,p1,_⟩:=I.tuple ha;obtain⟨jK,r2,p2,_⟩:=I.tuple hb;by_cases e0:xs=[]
 ·subst e0
  have i0:its=[]:=r1.Ga.mpr rfl;subst i0;obtain⟨⟨cls,dd,data,sl⟩,ho,hc,n,hd⟩:=id p1;obtain⟨⟨Sq,uU,data2,sl2⟩,mF,gu,n2,hd2⟩:=id p2;simp only at hc hd gu hd2;subst hc hd gu hd2;exact concat_meets ⟨_,ho,Z⟩ ⟨_,mF,Z⟩ noFill_tuple_add seq_tuple_add U0 U7 (U8 _ _) (tuple_addW0 a b _ jK.toArray n n2 dd uU sl sl2 (by simp)) ⟨ho,mF,⟨.ref b,H,I,Z,q _ _ (aD.refl H) hb⟩⟩
 ·refine _H.a84 p1 p2 (λz=>e0 (r1.Ga.mp z)) (λz=>⟨.ref a,H,I,Z,?_⟩) (λz=>?_) (by rw[<-r1.length,<-r2.length];exact hz)
  ·have e1:ys=[]:=r2.Ga.mp z
   subst e1;exact q _ _ (aD.refl H) (by rw[qt];exact ha)
  ·have hf:H s.heap.objs.size=none:=I.bB.fresh (bO _)
   have nw:Nw H (upd H s.heap.objs.size (.tup (xs++ys))) s.heap.objs.size (.tup (xs++ys)):=.of hf;refine⟨.ref s.heap.objs.size,_,I.laid (t':=s.toks) (o:=.tup (xs++ys)) (λb ob q=>cC _ q) (bO _) ?_,Z,q _ _ nw.same (aZ.of nw.at')⟩;exact⟨by rw[fP];exact hz,_,r1.append r2,IsTup.new _ _⟩
end
theorem a7L(xs:List V):jQ xs none (some (-1))=xs.take (xs.length-1):=by
 unfold jQ;have e:=_H.J4 (-1) xs.length xs.length;rw[_H.Nl];have e2:_H.cg xs.length xs.length (some (-1))=xs.length-1:=by simp at e;omega
 rw[e2];simp
section
variable {X:Cx}
theorem Y7(K:aa)(h:X.K=K){o e:Expr}{to:TE}{t:TA}{apos cn:Pos}(ho:PE X o to)(ha:PA X [e] t) (iX:autoParam (attributeBase o "extend" X.env (eval o X.env)=eval o X.env) r8_._auto_1) (iW:autoParam (((backTo cn (starEach [e] X.env)).all (λx=>!x.1)&&(backToKw cn (keywordEach [] X.env)).all (λx=>x.1.isSome) &&decide ([e].length+([]:List Keyword).length+(if([]:List Keyword).isEmpty then 0 else 1)<30))=true) r8_._auto_1) (iV:autoParam ((apos.endLine==cn.line)=true) r8_._auto_1)(hs:autoParam (starEach [e] X.env=(false,eval e X.env)::starEach [] X.env) r8_._auto_1)(iS:autoParam ((backTo cn (starEach [] X.env)).any (·.1)=false) r8_._auto_1): PE X (.Call (.Attribute o "extend" apos) [e] [] cn) (oS K "list" O8 to t):=by subst h;exact qU JP PySem.F.slot_list_extend PySem.F.type_list_extend a1c ho ha iX iW iV hs iS
open PyProof
end
end _L
namespace _L
open PySem PySem.Spec PyProof.Rows
section
variable {K:aa} {H H' H2:Hp}
end
def Jy(z:Str):It:=⟨λi _=>i<z.cps.size,λi H x H'=>H'=H/\∃c,z.cps.toList[i]? =some c/\x= .str ⟨#[c]⟩,λi _=>z.cps.size<=i⟩
theorem V5{P:af}{w:World}{K:aa}{tg:Expr}(it:Addr)(z:Str)(t:Tok)(ty:String)(GS:["enumerate","zip","dict_itemiterator","dict_reverseitemiterator","odict_iterator","itertools.zip_longest","itertools.pairwise"].contains ty=false) (W:∀A':ai,A'.handled=none->Walks P w A' it [it] [it] z.cps.size (SignAt z) (λi h=>h.IsStrIter it ty z t i)) (self:∀(A:ai)(i:Nat)(s:ae)(Q:Value->ae->Prop)(E:Value->ae->Prop),s.heap.IsStrIter it ty z t i->Q (.ref it) s->wpAny (model P w) A (pyIter (.ref it)) Q E s): Turn P w K tg (Jy z) [it] it (λi h=>h.IsStrIter it ty z t i/\i<=z.cps.size) where
 mem:=by simp
 obj:=λi h st b hb=>by
  have e:b=it:=by simpa using hb
  subst e;obtain⟨⟨o,e,c,d⟩,_⟩:=st;exact⟨o,e,λv z=>by rw[d]at z;cases z⟩
 keep:=λi h h' st k=>⟨let⟨o,e,r⟩:=st.1;⟨o,k it (by simp) o e,r⟩,st.2⟩
 item:=by intro X hP hw hK hc i ao s O H E I hf st hg;subst hP hw hK;obtain⟨f0,f1,f2,f3,f4,f5⟩:=hf it (by simp);refine(W X.A (I.ok.hd hc)).item i s _ _ hg st.1 λv h' tk hv gp kk=>?_;obtain⟨c,u,ec,rfl⟩:=hv;have I1:Inv X ao O H {s with heap:=h',toks:=tk}:=I.turned (λb o hb e=>kk b o (by simpa using hb) e) f0 f1 f3 f4 f5;obtain⟨o,e,cl,d⟩:=id gp;exact⟨_,Z,xQ (s:={s with heap:=h',toks:=tk}) e cl d GS ⟨.str ⟨#[c]⟩,H,I1,⟨u,Z⟩,⟨Z,c,by simpa using ec,Z⟩,⟨gp,hg⟩,λb hb=>(hf b hb).1⟩⟩
 done:=by intro X hP hw hK hc i ao s O H E I hf st hg;subst hP hw hK;obtain⟨f0,f1,f2,f3,f4,f5⟩:=hf it (by simp);obtain⟨st,hle⟩:=st;have ei:i=z.cps.size:=Nat.le_antisymm hle hg;subst ei;exact(W X.A (I.ok.hd hc)).done s _ _ st λh' tk eb=>⟨Z,I.turned (λb o hb e=>eb b o (by simpa using hb) e) f0 f1 f3 f4 f5⟩
 self:=λA i s Q E st h=>self A i s Q E st.1 h
section
variable {X:Cx} {tg:Expr}
inductive aaS(R:It->Hp->Prop)(x:V)(H1:Hp):Prop |mk (z:_)(h0:x= .str z)(h1:R (Jy z) H1)
def a2L(tl:TE):TI:=λO H R=>tl O H λx H1=>aaS R x H1
theorem Oe{l:Expr}{tl:TE}(hl:PE X l tl):PI X tg l (a2L tl):=by
 intro ao s O H R I h;refine ba (hl ao s O H _ I h) λv s1 ⟨x,H1,I1,r1,q1⟩=>?_;obtain⟨z,e,q⟩:=q1;subst e;obtain⟨t,rfl⟩:=r1;have fin:∀ty,["enumerate","zip","dict_itemiterator","dict_reverseitemiterator","odict_iterator","itertools.zip_longest","itertools.pairwise"].contains ty=false->(∀A':ai,A'.handled=none->Walks X.prog X.w A' s1.heap.objs.size [s1.heap.objs.size] [s1.heap.objs.size] z.cps.size (SignAt z) (λi h=>h.IsStrIter s1.heap.objs.size ty z t i))->(∀(A:ai)(i:Nat)(s:ae)(Q:Value->ae->Prop)(E:Value->ae->Prop),s.heap.IsStrIter s1.heap.objs.size ty z t i->Q (.ref s1.heap.objs.size) s->wpAny (model X.prog X.w) A (pyIter (.ref s1.heap.objs.size)) Q E s)->Ju X ao O tg R (.ref s1.heap.objs.size) {s1 with heap:=s1.heap.push {cls:=.type ty,data:=.fields #[.str z t,.int 0 0]}}:=λty h1 h2 h3=>by
  refine⟨s1.heap.objs.size,[s1.heap.objs.size],_,_,H1,Z,I1.kept (t':=s1.toks) λb o e=>cC _ e,V5 _ z t ty h1 h2 h3,⟨⟨_,dX _ Z,Z,Z⟩,fU _⟩,λb hb=>?_,q⟩;have e:b=s1.heap.objs.size:=by simpa using hb
  subst e;exact I1.pQ (bO _) (I1.bB.fresh (bO _))
 cases ha:z.cps.all (·<128)
 ·exact wpAny_pyIter_wide ha (fin "str_iterator" az (λA' hA=>Walks.strWide hA _ z t) (λ_ _ _ _ _ st h=>wpAny_pyIter_striter_wide st h))
 ·exact wpAny_pyIter_ascii ha (fin "str_ascii_iterator" az (λA' hA=>Walks.strAscii hA _ z t) (λ_ _ _ _ _ st h=>wpAny_pyIter_striter_ascii st h))
theorem Sl{z:Str}{f:Nat->Bool}{te:TE}{Q:VK}{D:Addr}{H H0:Hp}(rest:St)(nw:Nw H H0 D (.lst []))(hz:z.length<=1000) (hs:∀(c:Nat)(H2:Hp)(Q':VK),c∈z.cps.toList->aD H H2->(∀H3,aD H2 H3->Q' (.bl (f c)) H3)->te (some (.str ⟨#[c]⟩)::rest) H2 Q') (hq:∀H',aD H H'->H' D=some (.lst ((z.cps.toList.map f).map V.bl))->Q (.ref D) H'):kB (Jy z) (gw 0) jD te Q D (none::rest) H0:=by
 have hl:z.cps.toList.length=z.cps.size:=by simp
 refine Sm (xs:=z.cps.toList.map λc=>V.str ⟨#[c]⟩) (bs:=z.cps.toList.map f) rest nw (by simp) (by simpa[Str.length]using hz) ?_ ?_ ?_ hq
 ·intro i x H2 ex s2
  rw[bQ]at ex;cases ec:z.cps.toList[i]? with |none=>rw[ec]at ex;cases ex |some c=>rw[ec]at ex;cases ex;refine⟨by have:=(dD.mp ec).1;show i<z.cps.size;omega,λy H3 ⟨e3,c',RW,e⟩=>⟨e3,?_⟩⟩;rw[ec]at RW;cases RW;exact e
 ·intro H2 s2
  show z.cps.size<=(z.cps.toList.map _).length;rw[bS,hl];exact bO _
 ·intro i x b H2 Q' ex eb s2 mz
  rw[bQ]at ex eb;cases ec:z.cps.toList[i]? with |none=>rw[ec]at ex;cases ex |some c=>rw[ec]at ex eb;cases ex;cases eb;exact hs c H2 Q' (fA ec) s2 mz
theorem OC:cO X (compareOp .In) (λx y H Q=>∃c j,x= .str ⟨#[c]⟩/\y= .str j/\Q (.bl (decide (c∈j.cps.toList))) H):=by intro ao s O H x y v u Q I rx ry h;obtain⟨c,j,rfl,rfl,q⟩:=h;refine Yp ao s O H _ _ v u Q I rx ry ⟨_,_,Z,Z,?_⟩;rw[PySem.StrLaws.found_one];exact q
inductive aaF(K:aa)(x:V)(y:V)(H:Hp)(Q:VK):Prop |mk (p:_)(xs:_)(d:_)(ds:_)(h0:y= .ref p)(h1:aZ K H p xs)(h2:RD K H x d)(h3:aL K H xs ds)(h4:SeqAt.shaped d=true)(h5:(∀e∈ds,SeqAt.shaped e=true))(h6:Q (.bl (ds.any λe=>PyData.eqv e d)) H)
def Xt(K:aa):R2:=λx y H Q=>aaF K x y H Q
theorem a2F(K:aa)(hK:X.K=K)(hu:X.A.units+65<cLine):cO X (compareOp .In) (Xt K):=by
 subst hK;intro ao s O H x y v u Q I rx ry h;obtain⟨p,xs,d,ds,rfl,hx,hd,pN,sd,Wl,q⟩:=h;cases ry;obtain⟨its,r,pl,hz⟩:=I.tuple hx;obtain⟨k1,k2⟩:=RF I hu rx hd sd r pN Wl;refine SeqAt.in_tupleAt (sy s.heap d) (show s.heap.IsTuple p its.toArray from pl) (λw hw=>k1 w (by simpa using hw)) ⟨.bl _,H,I,Z,?_⟩;have e:its.toArray.any (sy s.heap d)=ds.any λe=>PyData.eqv e d:=by rw[<-k2];simp
 rw[e];exact q
end
structure MA(K:aa)(C:Addr)(m qual:Str)(st:Stmt):Prop where ex:∃f fd,Meth K C m f/\jT K m qual st f fd
def bP(P:af)(w:World)(K:aa)(mg:bD)(au:Heap)(C:Addr)(m:Str)(k:Nat)(sp:Sp):Prop:=∃f fd ps,eD P w K mg au gW k f fd ps sp/\Meth K C m f/\Binds K fd ps []
structure CA(K:aa)(mg:bD)(C:Addr)(x qual:Str)(st:Stmt):Prop where
 mgC:mg x=some (.ref C)
 ex:∃f fd,Mk K C f/\jT K "__init__" qual st f fd
def sQ(P:af)(w:World)(K:aa)(mg:bD)(au:Heap)(C:Addr)(x:Str)(k:Nat)(sp:Sp):Prop:=∃f fd ps,eD P w K mg au gW k f fd ps sp/\Mk K C f/\Binds K fd ps []/\mg x=some (.ref C)
section
variable {P:af}{w:World}{K:aa}{mg:bD}{au:Heap}
theorem fG{C:Addr}{m qual:Str}{st:Stmt}{f:Addr}{oc:Value}{od an:Option Addr}{fw:Array (Option Value)}{kV doc pm aH ct:Value} (a:PySem.W.findIn K (.ref C) m=some (some (.ref f)))(i:PySem.W.isFn K (.ref f)=true) (l:K.lookup f=some ⟨oc,od,.func (PySem.W.fnOf m qual (j8 st) (fg st) (aP st) .none kV doc pm an aH ct),fw⟩) (c:PySem.W.codeIn K aH qual=true)(k:PySem.W.keepIn K (.ref f)=true):MA K C m qual st:=⟨f,_,⟨a,i,k⟩,Ii l c k⟩
theorem SA{h:Heap}{C:Addr}{x qual:Str}{st:Stmt}{f:Addr}{oc:Value}{od an:Option Addr}{fw:Array (Option Value)}{kV doc pm aH ct:Value}(X:K.In h)(G:h.Ns mainGlobals mg) (aC:PySem.W.nsIn K mainGlobals x=some (some (.ref C)))(mk:PySem.W.makesIn K C=true)(kc:PySem.W.keepIn K (.ref C)=true) (a:PySem.W.findIn K (.ref C) "__init__"=some (some (.ref f)))(i:PySem.W.isFn K (.ref f)=true) (l:K.lookup f=some ⟨oc,od,.func (PySem.W.fnOf "__init__" qual (j8 st) (fg st) (aP st) .none kV doc pm an aH ct),fw⟩) (c:PySem.W.codeIn K aH qual=true)(k:PySem.W.keepIn K (.ref f)=true):CA K mg C x qual st:=⟨sZ X G aC,f,_,⟨mk,a,i,kc⟩,Ii l c k⟩
theorem MA.has{C:Addr}{m qual:Str}{st:Stmt}{N ps:List Str}{k:Nat}{sp:Sp}(F:MA K C m qual st)(S:aW N ps (aP st))(len:∀vs H Q E,sp vs H Q E->vs.length=ps.length) (hb:∀(kV doc pm:Value)(an:Option Addr)(aH ct:Value)(us:List Value),us.length=ps.length->bindArgs (PySem.W.fnOf m qual (j8 st) (fg st) (aP st) .none kV doc pm an aH ct) ⟨us,[]⟩=pure (ps.zip us)) (fM:∀(f:Addr)(aH:Value)(A:ai)(outer:List Env)(s:ae)(H:Hp)(vs:List V)(Q:VK)(E:XK),cN k (A.deeper (envOfC qual (aP st) s.heap.objs.size f aH))->sp vs H Q E->∃t,fz (gy gW P w K mg au N qual (aP st) f aH A outer s H E).rj (fg st) t/\t {nx:=λ_ H'=>Q .bw H',rt:=Q} (start N vs) H):bP P w K mg au C m (k+1) sp:=by obtain⟨f,fd,hm,F⟩:=F.ex;exact⟨f,fd,ps,F.ok S len λaH A outer s H vs Q E=>fM f aH A outer s H vs Q E,hm,F.binds hb⟩
theorem CA.has{C:Addr}{x qual:Str}{st:Stmt}{N ps:List Str}{k:Nat}{sp:Sp}(F:CA K mg C x qual st)(S:aW N ps (aP st))(len:∀vs H Q E,sp vs H Q E->vs.length=ps.length) (hb:∀(kV doc pm:Value)(an:Option Addr)(aH ct:Value)(us:List Value),us.length=ps.length->bindArgs (PySem.W.fnOf "__init__" qual (j8 st) (fg st) (aP st) .none kV doc pm an aH ct) ⟨us,[]⟩=pure (ps.zip us)) (fM:∀(f:Addr)(aH:Value)(A:ai)(outer:List Env)(s:ae)(H:Hp)(vs:List V)(Q:VK)(E:XK),cN k (A.deeper (envOfC qual (aP st) s.heap.objs.size f aH))->sp vs H Q E->∃t,fz (gy gW P w K mg au N qual (aP st) f aH A outer s H E).rj (fg st) t/\t {nx:=λ_ H'=>Q .bw H',rt:=Q} (start N vs) H):sQ P w K mg au C x (k+1) sp:=by obtain⟨f,fd,hm,F'⟩:=F.ex;exact⟨f,fd,ps,F'.ok S len λaH A outer s H vs Q E=>fM f aH A outer s H vs Q E,hm,F'.binds hb,F.mgC⟩
end
section
variable {X:Cx}{k:Nat}{x m:Str}{C:Addr}{p pos apos:Pos}{o e:Expr}{es:List Expr}{t:TA}{ta:TE}{sp:Sp}
inductive Tv(C:Addr)(m:Str)(sp:Sp)(t:TA)(O:St)(Q:VK)(x:V)(H1:Hp):Prop |mk (a:_)(dx:_)(fs:_)(h0:x= .ref a)(h1:H1 a=some (.ins C dx fs))(h2:fs.lookup m=none)(h3:t O H1 λvs H2=>sp (x::vs) H2 Q E0)
def Cj(C:Addr)(m:Str)(sp:Sp)(ta:TE)(t:TA):TE:=λO H Q=>ta O H λx H1=>Tv C m sp t O Q x H1
theorem P8{O:St}{Q:VK}{x:V}{H1:Hp}:sS C m sp [] E0 t O Q x H1=Tv C m sp t O Q x H1:=by
 have e1:(λ(vs:List V) H1=>sp (x::(vs++[])) H1 Q E0)=λvs H1=>sp (x::vs) H1 Q E0:=by funext vs H1;rw[qt]
 refine propext ⟨λ⟨a,dx,fs,h0,h1,h2,h3⟩=>⟨a,dx,fs,h0,h1,h2,?_⟩,λ⟨a,dx,fs,h0,h1,h2,h3⟩=>⟨a,dx,fs,h0,h1,h2,?_⟩⟩
 ·rw[<-e1];exact h3
 ·rw[e1];exact h3
theorem m5{pl:Sem Bool}(F:bP X.prog X.w X.K X.mg X.au C m k sp)(c:gU X.K C)(hr:cN k X.A)(he:PE X o ta)(ha:PA X (e::es) t) (gb:autoParam (starEach (e::es) X.env=(false,eval e X.env)::starEach es X.env) r8_._auto_1)(eY:autoParam ((backTo pos (starEach es X.env)).any (·.1)=false) r8_._auto_1) (ht:eval (.Call (.Attribute o m apos) (e::es) [] pos) X.env=(do
 let ov<-eval o X.env
 standAt apos.atName
 let(f,first)<-holding [ov] (getMethod ov m pl)
 callWith pos f first (backTo pos (starEach (e::es) X.env)) (backToKw pos (keywordEach [] X.env))):=by rfl): PE X (.Call (.Attribute o m apos) (e::es) [] pos) (Cj C m sp ta t):=by
 obtain⟨f,fd,ps,F,hm,hb⟩:=F;have h:=Ol (pos:=pos) (apos:=apos) (pl:=pl) he c hm F hr hb .nil A9 ha gb eY ht;intro ao s O H Q I hq;refine h ao s O H Q I ?_;show ta O H λx H1=>sS C m sp [] E0 t O Q x H1;simp only[P8];exact hq
theorem cY{pl:Sem Bool}(F:bP X.prog X.w X.K X.mg X.au C m k sp)(c:gU X.K C)(hr:cN k X.A)(he:PE X o ta) (ht:eval (.Call (.Attribute o m apos) [] [] pos) X.env=(do
 let ov<-eval o X.env
 standAt apos.atName
 let(f,first)<-holding [ov] (getMethod ov m pl)
 callWith pos f first (backTo pos (starEach [] X.env)) (backToKw pos (keywordEach [] X.env))):=by rfl): PE X (.Call (.Attribute o m apos) [] [] pos) (Cj C m sp ta lR):=by
 obtain⟨f,fd,ps,F,hm,hb⟩:=F;have h:=Oj (pos:=pos) (apos:=apos) (pl:=pl) he c hm F hr hb .nil A9 ht;intro ao s O H Q I hq;refine h ao s O H Q I ?_;show ta O H λx H1=>sS C m sp [] E0 lR O Q x H1;simp only[P8];exact hq
def Vz(C:Addr)(sp:Sp)(t:TA):TE:=λO H Q=>t O H λvs H1=>∀x dx,H1 x=none->H1 dx=none->dx≠x->sp (.ref x::vs) (upd (upd H1 dx (.own x)) x (.ins C dx [])) (λv H2=>v= .bw/\Q (.ref x) H2) E0
theorem FK(F:sQ X.prog X.w X.K X.mg X.au C x k sp)(hr:cN (k+1) X.A)(hg:Gl X x)(ha:PA X (e::es) t)(gc:autoParam ((x==("__debug__":Str))=false) q8_._auto_1) (he:autoParam (starEach (e::es) X.env=(false,eval e X.env)::starEach es X.env) r8_._auto_1)(eY:autoParam ((backTo pos (starEach es X.env)).any (·.1)=false) r8_._auto_1): PE X (.Call (.Name x p) (e::es) [] pos) (Vz C sp t):=by
 obtain⟨f,fd,ps,F,M,hb,hm⟩:=F;have h:=XX (pos:=pos) (p:=p) M F hr hg hm hb .nil A9 ha gc he eY;intro ao s O H Q I hq;refine h ao s O H Q I ?_;have e1:(λ(vs:List V) H1=>∀x dx,H1 x=none->H1 dx=none->dx≠x->sp (.ref x::(vs++[])) (upd (upd H1 dx (.own x)) x (.ins C dx [])) (λv H2=>v= .bw/\Q (.ref x) H2) E0) =λvs H1=>∀x dx,H1 x=none->H1 dx=none->dx≠x->sp (.ref x::vs) (upd (upd H1 dx (.own x)) x (.ins C dx [])) (λv H2=>v= .bw/\Q (.ref x) H2) E0:=by funext vs H1;rw[qt]
 show t O H λvs H1=>∀x dx,H1 x=none->H1 dx=none->dx≠x->sp (.ref x::(vs++[])) (upd (upd H1 dx (.own x)) x (.ins C dx [])) (λv H2=>v= .bw/\Q (.ref x) H2) E0;rw[e1];exact hq
inductive IAt(C:Addr)(x:Str)(Q:VK)(v:V)(H1:Hp):Prop |mk (a dx:Addr)(fs:List (Str×V))(u:V)(h0:v= .ref a)(h1:H1 a=some (.ins C dx fs))(h2:fs.lookup x=some u)(h3:Q u H1)
theorem cE(T:gU X.K C)(hn:gL X.K C x)(he:PE X e ta)(hb:autoParam (attributeBase e x X.env (eval e X.env)=eval e X.env) r8_._auto_1): PE X (.Attribute e x pos) (λO H Q=>ta O H λv H1=>IAt C x Q v H1):=by intro ao s O H Q I h;refine SS hb (ba (he ao s O H _ I h) λu s1 ⟨v,H1,I1,rx,a,dx,fs,w,ex,ea,l,q⟩=>?_);subst ex;obtain rfl:u=Value.ref a:=rx;exact QR I1 ea T hn l λu' s2 I2 ru=>⟨w,H1,I2,ru,q⟩
inductive ab1(C:Addr)(x:Str)(D:Ends)(O:St)(y v:V)(H2:Hp):Prop |mk (a dx:Addr)(fs:List (Str×V))(h0:v= .ref a)(h1:H2 a=some (.ins C dx fs))(h2:fs.length<1000)(h3:D.nx O (upd H2 a (.ins C dx (gZ x y fs))))
inductive ab5(C a:Addr)(x:Str)(D:Ends)(O:St)(z:V)(H3:Hp):Prop |mk (qc:Addr)(lj:List (Str×V))(h0:H3 a=some (.ins C qc lj))(h1:lj.length<1000)(h2:D.nx O (upd H3 a (.ins C qc (gZ x z lj))))
inductive ab6(C:Addr)(x:Str)(tv:TE)(rd:V->V->Hp->VK->Prop)(D:Ends)(O:St)(v:V)(H1:Hp):Prop |mk (a dx:Addr)(fs:List (Str×V))(u:V)(h0:v= .ref a)(h1:H1 a=some (.ins C dx fs))(h2:fs.lookup x=some u)(h3:tv O H1 λy H2=>rd u y H2 λz H3=>ab5 C a x D O z H3)
theorem fD{value:Expr}{tv:TE}{pos':Pos}(T:gU X.K C)(hn:gL X.K C x)(ha:PE X o ta)(hv:PE X value tv)(hs:autoParam (swapsWith value (some (.Attribute o x pos')) pos.line X.env=pure false) r8_._auto_1): PS X (.Assign [.Attribute o x pos'] value pos) (λD O H=>tv O H λy H1=>ta O H1 λv H2=>ab1 C x D O y v H2):=by intro ao s O H D I h;refine plainObj_wpAny_Assign_Attribute (ba (hv ao s O H _ I h) λu s1 ⟨y,H1,I1,ry,q⟩=>ba (ha ao s1 O H1 _ I1 q) λov s2 ⟨v,H2,I2,rx,a,dx,fs,ex,ea,l,q2⟩=>?_) hs;subst ex;obtain rfl:ov=Value.ref a:=rx;exact LK I2 ea T hn l ry λs3 I3=>⟨O,_,I3,q2⟩
theorem XD{op:Operator}{rd:V->V->Hp->VK->Prop}{value:Expr}{tv:TE}{mY:Pos}(T:gU X.K C)(hn:gL X.K C x)(ha:PE X o ta)(hv:PE X value tv)(hop:aaO X op rd): PS X (.AugAssign (.Attribute o x mY) op value pos) (λD O H=>ta O H λv H1=>ab6 C x tv rd D O v H1):=by intro ao s O H D I h;refine wpAny_AugAssign_AttributeAny (ba (ha ao s O H _ I h) λov s1 ⟨v,H1,I1,rx,a,dx,fs,u,ex,ea,l,q⟩=>?_);subst ex;obtain rfl:ov=Value.ref a:=rx;refine QR I1 ea T hn l λu s2 I2 ru=>ba (hv ao s2 O H1 _ I2 q) λw3 s3 ⟨y,H2,I3,ry,q3⟩=>ba (hop ao s3 O H2 _ y u w3 _ I3 ru ry q3) λw4 s4 ⟨z,H3,I4,rz,qc,lj,uR,l',q4⟩=>?_;exact LK I4 uR T hn l' rz λs5 I5=>⟨O,_,I5,q4⟩
end
def cA(S:List Addr)(H H':Hp):Prop:=∀b o,H b=some o->b∉S->H' b=some o
theorem cA.refl(S:List Addr)(H:Hp):cA S H H:=λ_ _ e _=>e
theorem cA.of{S:List Addr}{H H':Hp}(s:aD H H'):cA S H H':=λb o e _=>s b o e
theorem cA.trans{S:List Addr}{H H1 H2:Hp}(a:cA S H H1)(b:cA S H1 H2):cA S H H2:=λc o e n=>b c o (a c o e n) n
theorem cA.mono{S S':List Addr}{H H1:Hp}(h:∀x,x∈S->x∈S')(a:cA S H H1):cA S' H H1:=λc o e n=>a c o e λz=>n (h c z)
theorem Bz{S:List Addr}{H:Hp}{a:Addr}{o:HO}(h:a∈S):cA S H (upd H a o):=λb o' e n=>by have hb:b≠a:=λz=>n (by rw[z];exact h);rw[aV hb];exact e
def JC:HO->Prop | .lst _=>True | .ins _ _ _=>True | .dK _=>True | .mZ _=>True |_=>False
def cQ(H H':Hp):Prop:=∀b o,¬JC o->H b=some o->H' b=some o
section
variable {K:aa} {H H' H2:Hp}
theorem cQ.refl:cQ H H:=λ_ _ _ e=>e
theorem cQ.trans(a:cQ H H')(b:cQ H' H2):cQ H H2:=λc o n e=>b c o n (a c o n e)
theorem gT.v(s:gT H H'):cQ H H':=λb o n e=>s b o (λxs z=>n (by rw[z];trivial)) e
theorem aD.v(s:aD H H'):cQ H H':=λb o _ e=>s b o e
theorem cA.v{S:List Addr}(s:cA S H H')(h:∀x∈S,∀o,H x=some o->JC o):cQ H H':=λb o n e=>s b o e λz=>n (h b z o e)
theorem cQ.upd{a:Addr}{o o':HO}(h:H a=some o)(m:JC o):cQ H (upd H a o'):=λb p n e=>by
 have hb:b≠a:=λz=>by rw[z,h]at e;cases e;exact n m
 rw[aV hb];exact e
theorem aZ.v{a:Addr}{xs:List V}(s:cQ H H')(h:aZ K H a xs):aZ K H' a xs:=h.imp (λr=>r.imp (s _ _ (λz=>z)) λ⟨o,e⟩=>⟨o,s _ _ (λz=>z) e⟩) id
mutual
theorem RD.v(s:cQ H H'):∀{x:V}(d:ah),eM d=true->RD K H x d->RD K H' x d |x,.none,_,h=>by simpa[RD]using h |x,.bool b,_,h=>by simpa[RD]using h |x,.int i,_,h=>by simpa[RD]using h |x,.str y,_,h=>by simpa[RD]using h |x,.list ds,n,h=>by simp[eM]at n |x,.tuple ds,n,h=>by rw[RD]at h⊢;obtain⟨a,xs,e,h1,h2⟩:=h;exact⟨a,xs,e,h1.v s,aL.v s ds (by simpa[eM]using n) h2⟩ |x,.dict _,_,h=>by simp[RD]at h
theorem aL.v (s:cQ H H'):∀{xs:List V}(ds:List ah),cy ds=true->aL K H xs ds->aL K H' xs ds |xs,[],_,h=>by simpa[aL]using h |xs,d::ds,n,h=>by rw[aL]at h⊢;rw[cy,eH]at n;obtain⟨y,ys,e,h1,h2⟩:=h;exact⟨y,ys,e,RD.v s d n.1 h1,aL.v s ds n.2 h2⟩
end
end
end _L
namespace _P
section
variable {n:Nat}{own:Nat->Rat}{L:Nat->Option Nat}{r f:Int}
end
end _P
namespace _O
open _P _l _C
end _O
namespace _P
section
variable {n:Nat}{own Ox:Nat->Rat}{L L':Nat->Option Nat}{r f:Int}
end
section
variable {n:Nat}{own Ox q:Nat->Rat}{L:Nat->Option Nat}{r f r' f':Int}
end
end _P
namespace _O
open _P _l _C
end _O
namespace _P
section
variable {n:Nat}{own Ox:Nat->Rat}{L L':Nat->Option Nat}{r f:Int}{c:Nat}
end
end _P
namespace _O
open _P
section
variable (j aA:Int) (os1 os2:List Itm)
end
end _O
namespace _P
section
variable {n:Nat}{own:Nat->Rat}{L:Nat->Option Nat}{r f:Int}
theorem a5K{g:Nat->Rat}{i:Nat}(hi:i<=n):fl n L f g i<=g i:=by
 rcases Nat.lt_or_ge i n with h|h
 ·cases e:L i with |none=>rw[xU h e];exact sY |some m=>rw[xW h e];exact gq _ _
 ·have:i=n:=by lia
  subst this;rw[xV];exact sY
end
end _P
namespace _R
open _P _r _l
open _O (topR ownF leadF Itm OkIs)
theorem Bo{n:Nat}{a b:Int}(hb:b≠0)(h2:b.natAbs<2^n):(Rat.divInt a b).den<2^n:=by obtain⟨-,e⟩:=Gu (a:=a) hb;have l2:=_A.Pp (p:=a) hb;omega
structure Dd(D:Nat)(q:Rat):Prop where
 nn:0<=q
 den:q.den<2^D
theorem Dd.mono{D E:Nat}{q:Rat}(h:Dd D q)(l:D<=E):Dd E q:=⟨h.nn,fK h.den (t6 az l)⟩
theorem Dd.bd{D:Nat}{q:Rat}(h:Dd D q)(hl:q<=2000):Bd (D+11) q:=by
 have h1:=JJ.mpr h.nn;have rY:¬((2000:Rat)<q):=BR.mpr hl;rw[Rat.lt_iff]at rY;have e1:(2000:Rat).num=2000:=rfl;have e2:(2000:Rat).den=1:=rfl;rw[e1,e2]at rY;have h2:q.num<=2000*(q.den:Int):=by lia
 refine⟨?_,fK h.den (t6 az aw)⟩;have h3:=h.den;have h4:q.num.natAbs<=2000*q.den:=by lia
 have h5:(2:Nat)^(D+11)=2^D*2048:=by rw[Nat.pow_add]
 rw[h5];have h6:2000*q.den<2000*2^D:=Nat.mul_lt_mul_of_pos_left h3 az
 lia
theorem Dd.mn{D:Nat}{a b:Rat}(h1:Dd D a)(h2:Dd D b):Dd D (mn a b):=by rcases Ap a b with e|e<;>rw[e]<;>assumption
theorem Dd.add{D:Nat}{q:Rat}(h:Dd D q){z:Int}(hz:0<=z):Dd D (q+(z:Rat)):=by
 refine⟨a2c h.nn (by have:=Rat.intCast_le_intCast.mpr hz;exact this),?_⟩;rw[add_div,Rat.num_intCast,Rat.den_intCast];have e:(q.den:Int)*((1:Nat):Int)=(q.den:Int):=by lia
 rw[e];have hd:=q.den_pos;exact Bo aw (by have:=h.den;lia)
theorem S5{a b:Int}(ha:0<=a)(hb:0<b):0<=Rat.divInt a b:=(vt hb).mpr ha
theorem div_pos{a b:Int}(ha:0<a)(hb:0<b):0<Rat.divInt a b:=by
 have h0:=S5 (K6 ha) hb;refine JI h0 λe=>?_;have h2:0<=Rat.divInt (-a) b:=by rw[<-Rat.neg_divInt,<-e];decide
 have:=(vt hb).mp h2
 lia
theorem Dd.mul{D m:Nat}{q:Rat}(h:Dd D q){a s:Int}(ha:0<=a)(hs:0<s)(hm:s.natAbs<2^m):Dd (D+m) (q*Rat.divInt a s):=by refine⟨Rat.mul_nonneg h.nn (S5 ha hs),?_⟩;have h1:(Rat.divInt a s).den<2^m:=Bo aw hm;rw[mul_div];have hd:=q.den_pos;have hd2:=(Rat.divInt a s).den_pos;refine Bo (oA _ _) ?_;rw[iL];exact nR (by have:=h.den;lia) aw
theorem Cd(aA sp:Int):Dd 14 (topR aA sp):=⟨_O.zd _ _,Bo az az⟩
theorem zc{aA sp:Int}(h1:1<=sp)(h2:sp<=20)(h3:10<=aA)(h4:aA<=200):topR aA sp<=1600:=by
 have e:(1600:Rat)=Rat.divInt 16000000 10000:=by decide+kernel
 rw[e];refine(_C.S7 az).mpr ?_;have hp:sp*aA<=20*200:=yK h2 h4 aw aw;have AR:0<=sp*aA:=jY aw aw;rw[gj,gj,mW,lP];have:=yK hp hp AR az
 lia
theorem Yf{j aA:Int}{os:List Itm}(h1:1<=j)(h2:j<=50)(h3:10<=aA)(h4:aA<=200)(ho:OkIs os)(i:Nat):Dd 64 (ownF j aA os i):=⟨_O.Yi _ _ _ _,(_O.Aa h1 h2 h3 h4 ho i).den⟩
theorem a5L{D n:Nat}{g:Nat->Rat}{L:Nat->Option Nat}{f:Int}(hf:0<=f)(h:∀i,i<=n->Dd D (g i)):∀i,i<=n->Dd D (fl n L f g i):=by
 refine down ?_ ?_
 ·rw[xV];exact h n (bO _)
 ·intro i hi ih
  cases e:L i with |none=>rw[xU hi e];exact h i aw |some m=>rw[xW hi e];exact(h i aw).mn (ih.add (jY hf aw))
theorem a8o{j aA:Int}{o p:Itm}(h3:10<=aA)(h4:aA<=200)(ho:_O.OkI o):_O.betR j aA o p<=1600:=by cases o with |none=>rw[_O.a8p];decide+kernel |some q=>cases p with |none=>rw[_O.SJ];decide+kernel |some q'=>obtain⟨ns,sp⟩:=q;obtain⟨ms,sq⟩:=q';obtain⟨-,a1,a2⟩:=ho ns sp rfl;have ht:=zc a1 a2 h3 h4;show _O.mnO (mn (topR aA sp) (topR aA sq)) (_O.cornO j ns ms)<=1600;cases _O.cornO j ns ms with |none=>exact eG (gq _ _) ht |some c=>exact eG (gq _ _) (eG (gq _ _) ht)
theorem Ye{j aA:Int}{os:List Itm}(h3:10<=aA)(h4:aA<=200)(ho:OkIs os):∀i,ownF j aA os i<=1600 |0=>by show(0:Rat)<=1600;decide+kernel |i+1=>a8o h3 h4 (ho i)
abbrev lI:=Option (Rat × Int × Int)
def nK(r f:Int)(pc top R:Rat)(left:Int):lI->Rat |none=>mn (mn (pc+(r:Rat)) top) (R+((f*(2*left-1):Int):Rat)) |some (sq,st,gn)=>mn (mn (mn (pc+(r:Rat)) top) (R+((f*(2*left-1):Int):Rat))) (sq*Rat.divInt (2*(st-gn-1)+1) (2*st))
def ur(r f:Int)(pc top R:Rat)(left:Int):lI->Rat |none=>mn (mn (pc+((2*r:Int):Rat)) top) (R+((2*f*(left-1):Int):Rat)) |some (sq,st,gn)=>mn (mn (mn (pc+((2*r:Int):Rat)) top) (R+((2*f*(left-1):Int):Rat))) (sq*Rat.divInt (st-gn-1) st)
def G0:lI->lI |none=>none |some (sq,st,gn)=>some (sq,st,gn+1)
def qk(D:Nat)(pc:Rat):lI->Prop |none=>True |some (sq,st,gn)=>0<=gn/\gn<=st/\st<=1000/\Dd D sq/\sq<=2000/\(st=0->pc=0)/\pc*(st:Rat)<=sq*((st-gn:Int):Rat)
def Halt(pc:Rat)(aU:lI):Prop:=aU≠none/\pc=0
theorem wM{D:Nat}{pc:Rat}{sq:Rat}{st gn:Int}(h:qk D pc (some (sq,st,gn)))(hp:0<=pc)(hn:¬Halt pc (some (sq,st,gn))):gn<st/\0<sq/\0<pc:=by
 obtain⟨g0,g1,g2,hd,hl,hz,hh⟩:=h;have xk:0<pc:=JI hp λe=>hn ⟨by simp,e.symm⟩;have gb:gn<st:=by
  rcases Int.lt_or_le gn st with h|h
  ·exact h
  ·have e:st-gn=0:=by lia
   rw[e]at hh;have e0:sq*((0:Int):Rat)=0:=Rat.mul_zero sq;rw[e0]at hh;exfalso;rcases Int.lt_or_le 0 st with h3|h3
   ·have h4:(0:Rat)<(st:Rat):=TV.mpr h3
    have h5:=Rat.mul_pos xk h4;exact absurd (Std.lt_of_lt_of_le h5 hh) (Rat.lt_irrefl)
   ·rw[hz aw]at xk;exact absurd xk (Rat.lt_irrefl)
 refine⟨gb,?_,xk⟩;refine JI hd.nn λe=>?_;rw[<-e,Rat.zero_mul]at hh;have h4:(0:Rat)<(st:Rat):=TV.mpr (show(0:Int)<st by lia);exact absurd (Std.lt_of_lt_of_le (Rat.mul_pos xk h4) hh) (Rat.lt_irrefl)
section
variable {D:Nat}{r f:Int}{pc top R:Rat}{left:Int}{aU:lI}
theorem a7j:ur r f pc top R left aU<=top:=by cases aU with |none=>exact eG (gq _ _) (kP _ _) |some q=>obtain⟨sq,st,gn⟩:=q;exact eG (gq _ _) (eG (gq _ _) (kP _ _))
theorem Pe:nK r f pc top R left aU<=top:=by cases aU with |none=>exact eG (gq _ _) (kP _ _) |some q=>obtain⟨sq,st,gn⟩:=q;exact eG (gq _ _) (eG (gq _ _) (kP _ _))
theorem a7k(hr:0<=r)(hf:0<=f)(hl:1<=left)(hp:Dd (D+10) pc)(ht:Dd (D+10) top)(hR:Dd (D+10) R)(hs:qk D pc aU)(hn:¬Halt pc aU):Dd (D+10) (ur r f pc top R left aU):=by have h1:=(hp.add (z:=2*r) aw).mn ht;have h2:=hR.add (z:=2*f*(left-1)) (jY aw aw);cases aU with |none=>exact h1.mn h2 |some q=>obtain⟨sq,st,gn⟩:=q;obtain⟨a,b,c⟩:=wM hs hp.nn hn;obtain⟨g0,g1,g2,hd,hl,hz,hh⟩:=hs;exact(h1.mn h2).mn (hd.mul (m:=10) aw aw aw)
theorem Pg(hr:0<=r)(hf:0<=f)(hl:1<=left)(hp:Dd (D+10) pc)(ht:Dd (D+10) top)(hR:Dd (D+10) R)(hs:qk D pc aU)(hn:¬Halt pc aU):Dd (D+11) (nK r f pc top R left aU):=by have h1:=((hp.add (z:=r) aw).mn ht).mono (show D+10<=D+11 by lia);have h2:=(hR.add (z:=f*(2*left-1)) (jY aw aw)).mono (show D+10<=D+11 by lia);cases aU with |none=>exact h1.mn h2 |some q=>obtain⟨sq,st,gn⟩:=q;obtain⟨a,b,c⟩:=wM hs hp.nn hn;obtain⟨g0,g1,g2,hd,hl,hz,hh⟩:=hs;exact(h1.mn h2).mn (hd.mul (m:=11) aw aw aw)
theorem add_pos{x:Rat}{z:Int}(hx:0<=x)(hz:0<z):0<x+(z:Rat):=by have h1:((0:Int):Rat)<(z:Rat):=TV.mpr hz;have h2:x+((0:Int):Rat)<x+(z:Rat):=Rat.add_lt_add_left.mpr h1;rw[show((0:Int):Rat)=0 from Z,Rat.add_zero]at h2;exact Std.lt_of_le_of_lt hx h2
theorem Gj{a b:Rat}(ha:0<a)(hb:0<b):0<mn a b:=by rcases Ap a b with e|e<;>rw[e]<;>assumption
theorem Pf(hr:1<=r)(hf:1<=f)(hl:1<=left)(hp:0<=pc)(ht:0<top)(hR:0<=R)(hs:qk D pc aU)(hn:¬Halt pc aU):0<nK r f pc top R left aU:=by have h1:=Gj (Gj (add_pos hp (show 0<r by lia)) ht) (add_pos hR (show 0<f*(2*left-1)from jA aw aw));cases aU with |none=>exact h1 |some q=>obtain⟨sq,st,gn⟩:=q;obtain⟨a,b,c⟩:=wM hs hp hn;obtain⟨g0,g1,g2,hd,hl,hz,hh⟩:=hs;exact Gj h1 (Rat.mul_pos b (div_pos aw aw))
theorem S4(a:Int):Rat.divInt a 1=(a:Rat):=by
 conv=>rhs;rw[<-sX (a:Rat)]
 rfl
theorem a7D{a s:Int}(hs:0<s):Rat.divInt a s*(s:Rat)=(a:Rat):=by
 have e:(s:Rat)=Rat.divInt s 1:=by rw[S4]
 rw[e,Rat.divInt_mul_divInt _ _,Int.mul_one,Int.mul_comm a s];have e2:Rat.divInt (s*a) s=Rat.divInt (s*a) (s*1):=by rw[Int.mul_one]
 rw[e2,Rat.divInt_mul_left aw,S4]
theorem VU(hs:qk D pc aU)(hp:0<=pc)(hn:¬Halt pc aU):qk D (ur r f pc top R left aU) (G0 aU):=by cases aU with |none=>trivial |some q=>
 obtain⟨sq,st,gn⟩:=q;obtain⟨a,b,c⟩:=wM hs hp hn;obtain⟨g0,g1,g2,hd,hl,hz,hh⟩:=hs;refine⟨aw,aw,g2,hd,hl,λe=>by lia,?_⟩;have h1:ur r f pc top R left (some (sq,st,gn))<=sq*Rat.divInt (st-gn-1) st:=kP _ _;have h2:(0:Rat)<=(st:Rat):=Rat.intCast_nonneg.mpr aw;have h3:=Rat.mul_le_mul_of_nonneg_right h1 h2;have h4:sq*Rat.divInt (st-gn-1) st*(st:Rat)=sq*((st-(gn+1):Int):Rat):=by
  rw[Rat.mul_assoc,a7D aw];congr 2
  lia
 rw[h4]at h3;exact h3
end
end _R
namespace _L
open PySem PySem.Spec PyProof.Rows
section
variable {X:Cx}
end
theorem HZ{K:aa}{mg:bD}{x z:Str}{t:Tok}{h:Heap}(X:K.In h)(G:h.Ns mainGlobals mg)(a:PySem.W.nsIn K mainGlobals x=some (some (.str z t))):GV mg x (.str z):=⟨_,sZ X G a,t,Z⟩
theorem a7G(f:Array Value->Array Value)(o:Obj):(o.mapFields f).dict=o.dict:=by obtain⟨c,d,dt,sl⟩:=o;cases dt<;>rfl
def TrD(h B:Heap)(ex:Addr)(cls:Value)(dx:Option Addr)(fl:Value):Prop:=∃ob fs tb ot ts,h.get? ex=some ob/\ob.cls=cls/\ob.dict=dx/\ob.data= .fields fs/\fs[1]? =some (.ref tb)/\B.get? tb=none/\tb≠ex/\h.get? tb=some ot/\ot.data= .fields ts/\ts[3]? =some fl/\fs[2]? =some .none
def jy(B:Heap)(l:List Env)(ex:Addr)(cls:Value)(dx:Option Addr)(fl:Value)(h:Heap):Prop:=B.StaysIn h/\B.get? ex=none/\h.FunFrames B l/\TrD h B ex cls dx fl
theorem jy.there{B h:Heap}{l:List Env}{ex:Addr}{cls fl:Value}{dx:Option Addr}(x:jy B l ex cls dx fl h):∃ob,h.get? ex=some ob/\ob.cls=cls/\ob.dict=dx/\∃fs,ob.data= .fields fs/\fs[2]? =some .none:=by obtain⟨_,_,_,ob,fs,_,_,_,e,c,d,z,_,_,_,_,_,_,z2⟩:=x;exact⟨ob,e,c,d,fs,z,z2⟩
section
variable {M:Model}{A:ai}{E:Value->ae->Prop}{s:ae}{B:Heap}{env:Env}{outer:List Env}{L ex:Addr}{ob:Obj}{fs:Array Value}{head:Value}{nx:Bool}{Q:Unit->ae->Prop}{cls fl:Value}{dx:Option Addr}
theorem RM(hA:A.frames=some (env::outer))(ff:s.heap.FunFrames B (env::outer))(hL:env.frame=some L)(ho:s.heap.get? ex=some ob)(st:B.StaysIn s.heap)(hB:B.get? ex=none)(hd:ob.data= .fields fs)(hz:1<fs.size)(gu:fs[2]? =some .none) (q:∀h',jy B (env::outer) ex ob.cls ob.dict (rawInt L) h'->s.heap.UpToSlots h'->Q () {s with heap:=h'}): wpAny M A (do let a<-frameOf env;let pl<-entryPlaceOf L nx;let b<-EntryCells.newEntry head a .none (rawInt L) .none pl;setField (.ref ex) 1 b) Q E s:=by
 have pj:ex∉(env::outer).filterMap (·.frame):=λhm=>by obtain⟨_,o,e1,nf⟩:=ff.mem hm;rw[ho]at e1;cases e1;exact nf fs hd
 refine aM (wpAny_frameOf_fun hA ff hL λg1 k1=>aM (wpAny_entryPlaceOf λpl hp=>?_));unfold EntryCells.newEntry newFields;refine aM (oN ?_ (hp.sizeOk5 _ _ _ _ _));have o1:g1.get? ex=some ob:=(k1.2.1 ex pj).trans ho;have zr:B.StaysIn g1:=λb o e=>(k1.2.1 b λhm=>by rw[(ff.mem hm).1]at e;cases e).trans (st b o e);generalize hT:({cls:=.type "traceback",dict:=none,data:=.fields ([head,.ref L,.none,rawInt L,.none]++(if pl.isEmpty then List.replicate 6 Value.none else pl)).toArray}:Obj)=T;have o2:(g1.push T).get? ex=some ob:=cC T o1;refine BI o2 hd hz (q _ ?_ ?_);all_goals have ne:g1.objs.size≠ex:=BW (cm o1)
 all_goals have keep:∀b o,b≠ex->g1.get? b=some o->((g1.push T).update ex (Obj.mapFields (·.setIfInBounds 1 (Value.ref g1.objs.size)))).get? b=some o:=λb o nb e=>by rw[yL _ _ (iK nb)];exact cC _ e
 all_goals have p9:∀b o,s.heap.get? b=some o->(∀vs,o.data≠ .fields vs)->b≠ex:=λb o e nf z=>by rw[z,ho]at e;cases e;exact nf fs hd
 ·have d3:=BV hd (·.setIfInBounds 1 (Value.ref g1.objs.size))
  have o3:=K7 (Obj.mapFields (·.setIfInBounds 1 (Value.ref g1.objs.size))) o2 (Ud d3);refine⟨λb o e=>keep b o (λz=>by rw[z,hB]at e;cases e) (zr b o e),hB,ff.of_keeps λb o e nf=>?_,?_⟩
  ·obtain⟨sl,e1⟩:=k1.2.2 b o e
   exact⟨_,keep b _ (p9 b o e nf) e1,Z⟩
  ·refine⟨_,_,g1.objs.size,T,_,o3,Obj.cls_mapFields _ _,a7G _ _,d3,by simp[hz],zr.fresh,ne,?_,by rw[<-hT],?_⟩
   ·rw[yL _ _ (iK ne)];exact dX g1 (by rw[<-hT];rfl)
   ·refine⟨?_,by simpa using gu⟩
    first|(simp;done)|(rcases hp with rfl|⟨_,_,_,_,_,_,_,rfl⟩<;>simp)
 ·intro b o e nf
  obtain⟨sl,e1⟩:=k1.2.2 b o e;exact⟨sl,keep b _ (p9 b o e nf) e1⟩
theorem a0z(hA:A.frames=some (env::outer))(ff:s.heap.FunFrames B (env::outer))(hL:env.frame=some L)(ho:s.heap.get? ex=some ob)(st:B.StaysIn s.heap)(hB:B.get? ex=none)(hd:ob.data= .fields fs)(h1:fs[1]? =some .none)(gu:fs[2]? =some .none) (q:∀h',jy B (env::outer) ex ob.cls ob.dict (rawInt L) h'->s.heap.UpToSlots h'->Q () {s with heap:=h'}):wpAny M A (noteFrame (.ref ex) env) Q E s:=by unfold noteFrame;simp only[hL];refine aM (ib ho hd h1 ?_);rw[bh az];exact RM hA ff hL ho st hB hd (K8.mp h1).1 gu q
theorem OQ(hA:A.frames=some (env::outer))(hL:env.frame=some L)(x:jy B (env::outer) ex cls dx .none s.heap) (q:∀h',jy B (env::outer) ex cls dx (rawInt L) h'->s.heap.UpToSlots h'->Q () {s with heap:=h'}):wpAny M A (noteFrame (.ref ex) env) Q E s:=by
 obtain⟨st,hB,ff,ob,fs,tb,ot,ts,ho,rfl,rfl,hd,h1,B8,nt,ht,pM,h3,gu⟩:=x;unfold noteFrame;simp only[hL];refine aM (ib ho hd h1 ?_);rw[bf (show(Value.ref tb !=Value.none)=true from by simp)];refine aM (ib ht pM h3 ?_);rw[bh (show¬((Value.none==rawInt L)=true)from by simp[rawInt])];refine aM (BI ht pM (K8.mp h3).1 ?_);have other:∀b,b≠tb->(s.heap.update tb (Obj.mapFields (·.setIfInBounds 3 Value.none))).get? b=s.heap.get? b:=λb nb=>yL _ _ (iK nb);have p9:∀b o,s.heap.get? b=some o->(∀vs,o.data≠ .fields vs)->b≠tb:=λb o e nf z=>by rw[z,ht]at e;cases e;exact nf ts pM
 refine RM (s:={s with heap:=s.heap.update tb (Obj.mapFields (·.setIfInBounds 3 Value.none))}) hA (ff.of_keeps λb o e nf=>⟨o,(other b (p9 b o e nf)).trans e,Z⟩) hL ((other ex (iK nt)).trans ho) (λb o e=>(other b λz=>by rw[z,B8]at e;cases e).trans (st b o e)) hB hd (K8.mp h1).1 gu λh' y up=>q h' y λb o e nf=>up b o ((other b (p9 b o e nf)).trans e) nf
theorem Bf{l:List Env}(x:jy B l ex cls dx fl s.heap)(q:∀h',jy B l ex cls dx .none h'->s.heap.UpToSlots h'->Q () {s with heap:=h'}):wpAny M A (setFlight (.ref ex) none) Q E s:=by
 obtain⟨st,hB,ff,ob,fs,tb,ot,ts,ho,hc,hx,hd,h1,B8,nt,ht,pM,h3,gu⟩:=x;have z3:3<ts.size:=(K8.mp h3).1;have other:∀b,b≠tb->(s.heap.update tb (Obj.mapFields (·.setIfInBounds 3 ((none:Option Addr).elim Value.none λf=>rawInt f)))).get? b=s.heap.get? b:=λb nb=>yL _ _ (iK nb);have p9:∀b o,s.heap.get? b=some o->(∀vs,o.data≠ .fields vs)->b≠tb:=λb o e nf z=>by rw[z,ht]at e;cases e;exact nf ts pM
 unfold setFlight;refine aM (ib ho hd h1 ?_);rw[bf (show(Value.ref tb !=Value.none)=true from by simp)];refine BI ht pM z3 (q _ ⟨λb o e=>(other b λz=>by rw[z,B8]at e;cases e).trans (st b o e),hB,ff.of_keeps λb o e nf=>⟨o,(other b (p9 b o e nf)).trans e,rfl⟩,?_⟩ λb o e nf=>⟨o.slots,(other b (p9 b o e nf)).trans e⟩);exact⟨ob,fs,tb,_,_,(other ex (iK nt)).trans ho,hc,hx,hd,h1,B8,nt,K7 _ ht (Ud (BV pM _)),BV pM _,by simp[z3],gu⟩
theorem a29(hA:A.frames=some (env::outer))(ff:s.heap.FunFrames B (env::outer))(hL:env.frame=some L)(ho:s.heap.get? ex=some ob)(st:B.StaysIn s.heap)(hB:B.get? ex=none)(hd:ob.data= .fields fs)(h1:fs[1]? =some .none)(gu:fs[2]? =some .none) (q:∀h',jy B outer ex ob.cls ob.dict .none h'->s.heap.UpToSlots h'->Q () {s with heap:=h'}):wpAny M A (leaving env (.ref ex)) Q E s:=by unfold leaving;refine aM (a0z hA ff hL ho st hB hd h1 gu λh1 x1 u1=>Bf x1 λh2 x2 u2=>q h2 ?_ (u1.trans u2));obtain⟨a,b,⟨_,_,c⟩,d⟩:=x2;exact⟨a,b,c,d⟩
theorem a28(hA:A.frames=some (env::outer))(hL:env.frame=some L)(x:jy B (env::outer) ex cls dx .none s.heap) (q:∀h',jy B outer ex cls dx .none h'->s.heap.UpToSlots h'->Q () {s with heap:=h'}):wpAny M A (leaving env (.ref ex)) Q E s:=by unfold leaving;refine aM (OQ hA hL x λh1 x1 u1=>Bf x1 λh2 x2 u2=>q h2 ?_ (u1.trans u2));obtain⟨a,b,⟨_,_,c⟩,d⟩:=x2;exact⟨a,b,c,d⟩
end
end _L
namespace _L
open PySem PySem.Spec PyProof.Rows
open Builtin Builtin.ObjectAttr
section
variable {prog:af}{w:World}{A:ai}{E:Value->ae->Prop}{s:ae}{K:aa}{x C:Addr}{ox:Obj}{fs:Array Value}{name:Str}{v:Value}{Q:Unit->ae->Prop}
end
end _L
namespace _L
open PySem PySem.Spec PyProof.Rows
section
variable {X:Cx}{o e value:Expr}{f:Str}{pos pos' mY:Pos}{ta tv:TE}
end
section
variable {prog:af}{w:World}{A:ai}{E:Value->ae->Prop}{h:Heap}{g:Array GenState}{d:Drawn}{t:Nat}{os:OsState}
variable {nm q:Str}{C N fI:Addr}{bs bm lG:List Value}{hdct:Bool}{sn:List Str}{sub:List Value}{ab:Bool}{col:Option Bool}{dd:Option Addr}{k0 k1 k2 k3 k5:Option Value}{B newId GO:String}{mN:bD}{rest:List Value}{oI:Obj}
end
section
variable {M:Model}{A:ai}{E:Value->ae->Prop}{env:Env}{nm q:Str}{C N:Addr}{bs bm:List Value}{hdct:Bool}{sn:List Str}{sub:List Value}{ab:Bool}{col:Option Bool}{dd:Option Addr}{k0 k1 k2 k3 k5:Option Value}{newId:String}
end
def iE(P:af)(w:World):iG:=λouter H s E e s'=>∃(ex:Addr)(cls:Value)(dx:Option Addr)(H':Hp)(B:Heap),e= .ref ex/\s'.os=s.os/\AllBare s'.gens/\jy B outer ex cls dx .none s'.heap/\Fl P w outer H s.heap ex H' B s'.heap/\E cls dx H'
section
variable {P:af}{w:World}{K:aa}{mg:bD}{au:Heap}{N:List Str}{qual:Str}{scope:Scope}{f:Addr}{cd:Value}{A:ai}{outer:List Env}{s:ae}{H:Hp}{E:XK}{ao:List (Addr×Obj)}{O:St}{H1:Hp}{s1:ae}{ex:Addr}{C:Addr}{dx:Addr}
end
section
variable {X:Cx}{x:Str}{C fI:Addr}{lG:List Value}{newId GO B:String}{e:Expr}{t:TA}{np cn pos:Pos}{k:Nat}{fd:FuncData}{ps:List Str}{sp:Sp}
end
def iD(ex:Addr)(cls:Value)(dx:Option Addr)(h:Heap):Prop:=∃o,h.get? ex=some o/\o.cls=cls/\o.dict=dx/\∃fs,o.data= .fields fs/\fs[2]? =some .none
def ClsAt(K:aa)(C:Addr):Prop:=∀h,K.In h->∃nm q N bs tl hdct sn sub ab col dd k0 k1 k2 k3 k5 newId,h.get? C=some (excClassObj nm q C N bs tl hdct sn sub ab col dd k0 k1 k2 k3 k5 newId)
theorem Exc.cls{K:aa}{mg:bD}{x:Str}{C:Addr}{lG:List Value}{newId:String}(e:Exc K mg x C lG newId):ClsAt K C:=λh X=>by obtain⟨tl,N,nm,q,bs,hdct,sn,sub,ab,col,dd,k0,k1,k2,k3,k5,mN,hC,_⟩:=(e.own X).obj;exact⟨nm,q,N,bs,tl,hdct,sn,sub,ab,col,dd,k0,k1,k2,k3,k5,newId,hC⟩
inductive a8X(i:Nat)(Cs:Addr->Prop)(tb:XK->TS)(th:TS)(D:Ends)(O:St)(H:Hp):Prop |mk (E:XK)(h0:tb E D O H)(h1:(∀cls dx H',E cls dx H'->∃C,cls= .ref C/\Cs C))(h2:∀(C ex:Addr)(dx:Option Addr)(σ':St)(H':Hp),σ'.length=O.length->E (.ref C) dx H'->H' ex=none->th {nx:=λσ2 H2=>D.nx (σ2.set i none) H2,rt:=D.rt,bk:=λσ2 H2=>D.bk (σ2.set i none) H2,ct:=λσ2 H2=>D.ct (σ2.set i none) H2} (σ'.set i (some (.ref ex))) (upd H' ex (.ext (iD ex (.ref C) dx))))
def Vn(i:Nat)(Cs:Addr->Prop)(tb:XK->TS)(th:TS):TS:=λD O H=>a8X i Cs tb th D O H
section
variable {X:Cx}{i:Nat}{n y:Str}{Dc:Addr}{Ja:List Value}{newD:String}{body zo:List Stmt}{b0:Stmt}{np uH pos:Pos}{tb:XK->TS}{th:TS}{Cs:Addr->Prop}
theorem Oa(gb:X.stack=X.env::X.outer)(hfr:X.env.frame=some X.env.locals)(hN:X.N.Nodup)(hi:X.N[i]? =some n)(hk:X.env.kindOf n=some .local)(hs:X.env.scope.names.lookup n=some .local) (hb:∀(E:XK)(xe:Value->ae->Prop),Passes (iE X.prog X.w) (X.je xe) E->fz (X.je xe) body (tb E)) (hg:Gl X y)(hy:Exc X.K X.mg y Dc Ja newD)(xD:Ja.contains (.type "BaseException")=true)(xO:∀C,Cs C->ClsAt X.K C/\takes X.K C Dc) (hh:∀ex,fz (X.hand ex) (b0::zo) th)(gc:autoParam ((y==("__debug__":Str))=false) q8_._auto_1): To X (.Try body [.ExceptHandler (some (.Name y np)) (some n) (b0::zo) uH] [] [] pos) (Vn i Cs tb th):=by
 intro s O H D I h;obtain⟨E,hq,oa,hth⟩:=h;refine wpAny_Try_except ?_;have ps:Passes (iE X.prog X.w) (X.je λe s₁=>wpAny (model X.prog X.w) X.A (noteFrame e X.env) (λ_ s₂=>wpAny (model X.prog X.w) X.A (setFlight e none) (λ_ s₃=>wpAny (model X.prog X.w) X.A (handleBy e X.env [.ExceptHandler (some (.Name y np)) (some n) (b0::zo) uH]) (SP X [] D) X.xe s₃) X.xe s₂) X.xe s₁) E:=by
  intro FI σ' H1 s1 ev s2 I1 hx;obtain⟨ex,cls,dx,H',B,rfl,ho,Qx,om,F,hE⟩:=hx;obtain⟨C,rfl,hC⟩:=oa cls dx H' hE;have I0:Inv X [] σ' H1 s1:=I1.lQ.a8s;obtain⟨Qo,g2,d2,t2,o2⟩:=s2;have a5J:jy B (X.env::X.outer) ex (.ref C) dx .none Qo:=by rw[<-gb];exact om
  have hA:X.A.frames=some (X.env::X.outer):=by rw[<-gb];exact I0.ok.frames
  refine OQ (s:=⟨Qo,g2,d2,t2,o2⟩) hA hfr a5J λh4 B0 UT=>?_;refine Bf B0 λh5 xX US=>?_;have F4:=F.step om.1 B0.1 UT om.2.2.1;have ff4:h4.FunFrames B X.stack:=by rw[gb];exact B0.2.2.1
  have F5:=F4.step B0.1 xX.1 US ff4;have ff5:h5.FunFrames B X.stack:=by rw[gb];exact xX.2.2.1
  have I5:Inv X [] σ' H' ⟨h5,g2,d2,t2,o2⟩:=I0.Bw (s':=⟨h5,g2,d2,t2,o2⟩) ho F5.un F5.bB Qx (λb hb=>(eQ hb).elim);refine wpAny_handleBy_cons (codeAny_handlers_test (pE (X:=X.hand ex) (I5.hand ex) hg hy.at' ?_ gc)) (by intro q;cases q);obtain⟨eC,tk⟩:=xO C hC;obtain⟨nm,q,Nn,bs,tl,hdct,sn,sub,ab,col,dd,k0,k1,k2,k3,k5,nw,oC⟩:=eC _ I5.fb;obtain⟨tl',Nn',OU,q',SD,QA,LB,Ky,Tb,So,Sg,j0,j1,j2,j3,j5,mN',oD,ac7,abP,TL'⟩:=(hy.own I5.fb).obj;obtain⟨ob,hob,a3m,_⟩:=xX.there;have GU:(Value.ref C::tl).contains (.ref Dc)=true:=by
   obtain⟨cd,ha,rV⟩:=Option.bind_eq_some_iff.mp tk;split at rV
   ·cases rV
   ·have hc:=dG rV
    unfold PySem.W.clsIn at ha;split at ha
    ·rename_i c1 c2 cd' c4 hl
     cases ha;have e1:=I5.fb _ _ hl;rw[show(Shared.heap ⟨h5,g2,d2,t2,o2⟩).get? C=some _ from oC]at e1;have e2:=dG e1;unfold excClassObj at e2;injection e2 with _ _ e3 _;injection e3 with e4;rw[<-e4]at hc;exact hc
    ·cases ha
  refine a7c oC oD hob a3m (TL'.hasType xD) GU ?_;refine codeAny_handlers_suite_as ?_;refine Bf (s:=⟨h5,g2,d2,t2,o2⟩) xX λh6 Rh UR=>?_;have F6:=F5.step xX.1 Rh.1 UR ff5;have UY:Un (ek X.stack) [] H1 (upd H' ex (.ext (iD ex (.ref C) dx))) s1.heap h6:=by
   have nb:∀b u,H' b=some u->b≠ex:=λb u e z=>by rw[z,F6.ne]at e;cases e
   refine⟨F6.un.keep,F6.un.slot,λb o e n hx=>?_,F6.un.there,λb xs e=>?_,λb o u e=>?_,λb ps e=>?_⟩
   ·rw[aV (λz=>by rw[z,F6.nw]at e;cases e)];exact F6.un.free b o e n hx
   ·have:=F6.un.jf b xs e;rw[aV (nb b _ this)];exact this
   ·have:=F6.un.iZ b o u e;rw[aV (nb b _ this)];exact this
   ·obtain⟨more,e1⟩:=F6.un.jg b ps e;exact⟨more,by rw[aV (nb b _ e1)];exact e1⟩
  have a3j:eB X.prog X.w (upd H' ex (.ext (iD ex (.ref C) dx))) h6:=λb u e=>by
   by_cases QC:b=ex
   ·subst QC
    rw[bW]at e;cases e;obtain⟨o6,e6,c6⟩:=Rh.there;exact⟨⟨o6,e6,c6⟩,⟨o6,e6⟩,λg1 g3 ⟨o7,e7,c7⟩ k=>⟨o7,k o7 e7,c7⟩⟩
   ·rw[aV QC]at e
    refine(F6.bB b u e).lS (λc v hc q=>q) (λc q=>?_) λc xs q=>?_
    ·rw[aV (λz=>by rw[z,F6.ne]at q;cases q)];exact q
    ·rw[aV (λz=>by rw[z,F6.ne]at q;cases q)];exact q
  have I6:Inv X [] σ' (upd H' ex (.ext (iD ex (.ref C) dx))) ⟨h6,g2,d2,t2,o2⟩:=I0.Bw (s':=⟨h6,g2,d2,t2,o2⟩) ho UY a3j Qx (λb hb=>(eQ hb).elim);refine tK (X:=X.hand ex) (I6.hand ex) hN hi (.inl hs) (v:=.ref ex) Z (λs7 I7=>?_) (.inr hs);refine iH (hh ex [] s7 _ _ _ I7 (hth C ex dx σ' H' (I0.len.trans I.len.symm) hE F.ne)) (λf s8 q=>?_) λe s8 q=>False.elim q;have un:∀(σ2:St)(H2:Hp)(Q:Unit->ae->Prop),Inv (X.hand ex) [] σ2 H2 s8->(∀s9,Inv X [] (σ2.set i none) H2 s9->Q () s9)->wpAny (model X.prog X.w) X.A (do bindName X.env n .none;unbindBehindTheSuite X.env n uH) Q X.xe s8:=λσ2 H2 Q I8 hq=>by
   have Tz:=I8.back I0.ok;have cH:i<σ2.length:=by rw[Tz.len];exact(dD.mp hi).1
   unfold bindName;refine aM (aM (jW (wpAny_point (aM (tK Tz hN hi (.inl hs) (v:=.bw) Z (λs9 I9=>wpAny_point ?_) (.inr hs))))));refine UW I9 hN hi hk hs (v:=.bw) (K1 cH) λqI vn=>hq qI ?_;rw[List.set_set]at vn;exact vn
  cases f with |next=>obtain⟨σ2,H2,I8,dq⟩:=q;exact un σ2 H2 _ I8 λs9 I9=>⟨_,H2,I9,dq⟩ |brk=>obtain⟨σ2,H2,I8,dq⟩:=q;exact un σ2 H2 _ I8 λs9 I9=>⟨_,H2,I9,dq⟩ |cont=>obtain⟨σ2,H2,I8,dq⟩:=q;exact un σ2 H2 _ I8 λs9 I9=>⟨_,H2,I9,dq⟩ |ret u=>obtain⟨v,σ2,H2,I8,r8,dq⟩:=q;exact un σ2 H2 _ I8 λs9 I9=>⟨v,_,H2,I9,r8,dq⟩
 refine iH (hb E _ ps [] s O H D (I.je _) hq) (λf s1 q=>?_) λe s1 q=>q;have q':=q.lQ;cases f with |next=>exact yx q' |brk=>exact q' |cont=>exact q' |ret u=>exact q'
end
end _L
namespace _L
open PySem PySem.Spec PyProof.Rows PySem.W
section
variable {prog:af}{w:World}{A:ai}{E:Value->ae->Prop}{h:Heap}{g:Array GenState}{d:Drawn}{t:Nat}{os:OsState}{K:Frag}{x C:Addr}{ox:Obj}{od:Obj}{f:Str}{v:Value}
theorem a7d{b:Bool}{Q:Value->ae->Prop}(X:K.In h)(k:jV K C)(I:InstAt h x ox C (some od))(ha:findIn K (.ref C) f=some none)(hl:lookIn f od=some (some v))(hv:handedIn v=true) (hq:Q v ⟨h,g,d,t+1,os⟩):wpAny (model prog w) A (getAttr (.ref x) f b) Q E ⟨h,g,d,t,os⟩:=by
 have L0:=I.type (M:=model prog w);have L1:=BO (M:=model prog w) X k.ga;have _L:=BO (M:=model prog w) X k.gx;have L3:=looks_find (M:=model prog w) X I (findObj_own k.is ha Z hl);have f3:=JQ.ga.bind (.ref x);have pH:(Value.builtin "BaseException.__getattribute__"==Value.builtin "object.__getattribute__")=false:=by decide+kernel
 have xf:(b&&onTheHeap (Value.builtin "BaseException.__getattribute__"))=false:=by cases b<;>rfl
 unfold getAttr getAttrBy;refine aM (wpAny_mkText (jW (aM (L0.at (aM (L1.at ?_))))));show wpAny _ _ (if(onTheHeap (Value.ref C)&&Value.builtin "BaseException.__getattribute__"==Value.builtin "object.__getattribute__")=true then _ else _) _ _ _;rw[pH,C5,bh az];unfold getAttrByItsOwn hookBefore;refine aM ?_;show wpAny _ _ (typeLookup (.ref C) "__getattr__") _ _ _;refine _L.at (aM (BM (jW ?_)));unfold callGetattribute;rw[xf,bh az];unfold boundAndCalled;rw[f3];refine aM (bV (yy ?_));refine TU JQ.ga.plain PySem.F.entry_bexc_ga (QS X k L0 ?_);refine aM (bV (aM (bV (aM (L0.at (aM (L3.at ?_)))))));exact bV (handed_on hv hq)
end
inductive a8V(K:Frag)(f:Str)(Q:VK)(x:V)(H1:Hp):Prop |mk (ex:_)(C:_)(dx:_)(fs:_)(i:_)(h0:x= .ref ex)(h1:H1 ex=some (.ext (iD ex (.ref C) (some dx))))(h2:H1 dx=some (.xd fs))(h3:jV K C)(h4:findIn K (.ref C) f=some none)(h5:fs.lookup f=some (.int i))(h6:Q (.int i) H1)
def Vk(K:Frag)(ta:TE)(f:Str):TE:=λO H Q=>ta O H λx H1=>a8V K f Q x H1
section
variable {X:Cx}{e:Expr}{f:Str}{pos:Pos}{ta:TE}
theorem XU(K:Frag)(hK:X.K=K)(he:PE X e ta)(hb:autoParam (attributeBase e f X.env (eval e X.env)=eval e X.env) r8_._auto_1):PE X (.Attribute e f pos) (Vk K ta f):=by subst hK;intro ao s O H Q I h;refine SS hb (ba (he ao s O H _ I h) λu s1 ⟨x,H1,I1,rx,ex,C,dx,fs,i,ee,h1,h2,k,ha,hl,q⟩=>?_);subst ee;obtain rfl:u=Value.ref ex:=rx;obtain⟨⟨o,o1,o2,o3,lj,o4,o5⟩,_,_⟩:=(show gf X.prog X.w H1 s1.heap ex (.ext (iD ex (.ref C) (some dx)))from I1.bB ex _ h1);obtain⟨mA,n1,n2⟩:=(show gf X.prog X.w H1 s1.heap dx (.xd fs)from I1.bB dx _ h2);obtain⟨od,e1,e2⟩:=Pt n1;have r:=n2 f;rw[hl]at r;cases em:mA f with |none=>rw[em]at r;exact r.elim |some v=>rw[em]at r;obtain⟨t,rfl⟩:=(show∃t,v=Value.int i t from r);have J:InstAt s1.heap ex o C (some od):=⟨o1,o2,by unfold notCls;rw[o4],by rw[o3];exact e1⟩;obtain⟨hp,g,d,tk,os⟩:=s1;exact a7d I1.fb k J ha (by rw[e2,em]) Z ⟨.int i,H1,I1.tok _,⟨t,Z⟩,q⟩
inductive aaD(K:Frag)(xs:List V)(H:Hp)(Q:VK):Prop |mk (ex:Addr)(C:Addr)(dx:Option Addr)(c:V)(cv:Value)(b:Bool)(h0:xs=[.ref ex,c])(h1:H ex=some (.ext (iD ex (.ref C) dx)))(h2:jV K C)(h3:a81 c=some cv)(h4:kitOne K (.ref C) cv=some b)(h5:Q (.bl b) H)
def Xs(K:Frag):List V->Hp->VK->Prop:=λxs H Q=>aaD K xs H Q
inductive aaC(K:Frag)(xs:List V)(H:Hp)(Q:VK):Prop |mk (ex:Addr)(C:Addr)(p:Addr)(dx:Option Addr)(Ds:List Addr)(b:Bool)(h0:xs=[.ref ex,.ref p])(h1:H ex=some (.ext (iD ex (.ref C) dx)))(h2:jV K C)(h3:H p=some (.tup (Ds.map V.ref)))(h4:kitAny K (.ref C) (Ds.map Value.ref)=some b)(h5:Q (.bl b) H)
def Xr(K:Frag):List V->Hp->VK->Prop:=λxs H Q=>aaC K xs H Q
theorem jL(K:Frag)(hK:X.K=K):eF X (.builtin "isinstance") (λxs H Q=>Xs K xs H Q\/Xr K xs H Q):=by
 subst hK;intro ao s O H xs us Q I r h;rcases h with⟨ex,C,dx,c,cv,b,rfl,he,k,hc,kb,q⟩|⟨ex,C,p,dx,Ds,b,rfl,he,k,hp,kb,q⟩
 ·obtain⟨u,v,rfl,rx,rc⟩:=vals2 r
  cases(show u=Value.ref ex from rx);have hv:v=cv:=by cases c with |ref D=>cases(show v=Value.ref D from rc);exact dG hc |ty n=>cases(show v=Value.type n from rc);exact dG hc |_=>cases hc
  subst hv;obtain⟨o,o1,o2,_⟩:=(I.bB ex _ he).1;exact kia_one (PR k) I.fb ⟨o,o1,o2⟩ kb (λz=>nomatch z) λtk=>⟨.bl b,H,I.tok _,rfl,q⟩
 ·obtain⟨u,v,rfl,rx,rc⟩:=vals2 r
  cases(show u=Value.ref ex from rx);cases(show v=Value.ref p from rc);obtain⟨o,o1,o2,_⟩:=(I.bB ex _ he).1;obtain⟨_,its,rv,⟨cls,dd,dt,sl⟩,h1,h2,n,h3⟩:=(show gf X.prog X.w H s.heap p (.tup (Ds.map V.ref))from I.bB p _ hp);simp only at h2 h3;subst h2 h3;have e:=Ke rv;subst e;exact kia_tup (PR k) I.fb ⟨o,o1,o2⟩ h1 kb (λz=>nomatch z) λtk=>⟨.bl b,H,I.tok _,rfl,q⟩
end
end _L
namespace _L
open PySem PySem.Spec PyProof.Rows
def qp(P:af)(w:World)(K:aa)(mg:bD)(au:Heap)(x:Str)(k:Nat)(sp:Sp):Prop:=∃f fd ps,eD P w K mg au (iE P w) k f fd ps sp/\mg x=some (.ref f)/\PySem.W.keepIn K (.ref f)=true/\Binds K fd ps []
theorem FA.uL{P:af}{w:World}{K:aa}{mg:bD}{au:Heap}{x:Str}{st:Stmt}{N ps:List Str}{k:Nat}{sp:Sp}(F:FA K mg x st)(S:aW N ps (aP st))(len:∀vs H Q E,sp vs H Q E->vs.length=ps.length) (hb:∀(kV doc pm:Value)(an:Option Addr)(aH ct:Value)(us:List Value),us.length=ps.length->bindArgs (PySem.W.fnOf x x (j8 st) (fg st) (aP st) .none kV doc pm an aH ct) ⟨us,[]⟩=pure (ps.zip us)) (fM:∀(f:Addr)(aH:Value)(A:ai)(outer:List Env)(s:ae)(H:Hp)(vs:List V)(Q:VK)(E:XK),cN k (A.deeper (envOfC x (aP st) s.heap.objs.size f aH))->sp vs H Q E->∃t,fz (gy (iE P w) P w K mg au N x (aP st) f aH A outer s H E) (fg st) t/\t {nx:=λ_ H'=>Q .bw H',rt:=Q} (start N vs) H):qp P w K mg au x (k+1) sp:=by obtain⟨f,fd,hm,F⟩:=F.ex;have xC:=F.binds hb;have kp:=F.kp;obtain⟨oc,od,kV,doc,pm,an,aH,ct,fw,rfl,lk,fk⟩:=F.ex;exact⟨f,_,ps,Ip lk fk S len λA outer s H vs Q E hr fe=>fM f aH A outer s H vs Q E hr fe,hm,kp,xC⟩
section
variable {X:Cx}{k:Nat}{x:Str}{p pos:Pos}{e:Expr}{es:List Expr}{t:TA}{sp:Sp}
end
structure ju(k:Nat)(A:ai):Prop where
 dp:A.depth+3*k+5<recursionLimit
 un:A.units+16*k+200<cLine
theorem ju.mono{j k:Nat}{A:ai}(r:ju k A)(h:j<=k):ju j A:=⟨by have:=r.dp;lia,by have:=r.un;lia⟩
theorem ju.units{k:Nat}{A:ai}(r:ju k A):A.units+64<cLine:=by have:=r.un;lia
theorem cN.mark{k:Nat}{A:ai}(r:cN k A)(v:Option Value):ju k (A.mark v):=⟨r.dp,r.un⟩
theorem ju.deeper{k:Nat}{A:ai}(r:ju (k+1) A)(env:Env):ju k (A.deeper env):=⟨by have:=r.dp;show A.depth+1+3*k+5<_;lia,by have:=r.un;show A.units+3+16*k+200<_;lia⟩
abbrev uV(P:af)(w:World)(K:aa)(mg:bD)(au:Heap)(N:List Str)(qual:Str)(scope:Scope)(f:Addr)(cd:Value)(A:ai)(outer:List Env)(s:ae)(H:Hp):Cx:={(gy gW P w K mg au N qual scope f cd A outer s H (λ_ _ _=>False))with calm:=false,xe:=λ_ _=>False}
def TH(P:af)(w:World)(K:aa)(mg:bD)(au:Heap)(k:Nat)(f:Addr)(fd:FuncData)(ps:List Str)(sp:Sp):Prop:=(∀vs H Q E,sp vs H Q E->vs.length=ps.length)/\∀(A:ai)(outer:List Env)(s:ae)(H:Hp)(args:Args)(us:List Value)(vs:List V)(Q:VK),ju k A->oM P w K mg au A outer s H->BindsTo s fd args (ps.zip us)->Vals vs us->sp vs H Q (λ_ _ _=>False)->codeAny (model P w) A (.call (.ref f) args) (λr s'=>match r with| .ok (.ret u)=>CE outer P w H s Q u s'|_=>False) s
theorem a5H{P:af}{w:World}{K:aa}{mg:bD}{au:Heap}{k:Nat}{f:Addr}{name qual:Str}{params:Arguments}{body:List Stmt}{scope:Scope}{dV kV doc pm aH ct oc:Value}{an od:Option Addr} {fw:Array (Option Value)}{N ps:List Str}{sp:Sp}(lk:K.lookup f=some ⟨oc,od,.func (PySem.W.fnOf name qual params body scope dV kV doc pm an aH ct),fw⟩)(fk:PySem.W.codeIn K aH qual=true)(S:aW N ps scope)(len:∀vs H Q E,sp vs H Q E->vs.length=ps.length) (fM:∀(A:ai)(outer:List Env)(s:ae)(H:Hp)(vs:List V)(Q:VK),ju k (A.deeper (envOfC qual scope s.heap.objs.size f aH))->sp vs H Q (λ_ _ _=>False)->∃t,fz (uV P w K mg au N qual scope f aH A outer s H) body t/\t {nx:=λ_ H'=>Q .bw H',rt:=Q} (start N vs) H): TH P w K mg au (k+1) f (PySem.W.fnOf name qual params body scope dV kV doc pm an aH ct) ps sp:=by
 refine⟨len,λA outer s H args us vs Q hr e0 hb r fe=>?_⟩;have hl:=len _ _ _ _ fe;have KX:K.In s.heap:=e0.mod.mr.keeps λb o e=>(e0.bs b o e).1;have lim:s.heap.NoLimit:=e0.mod.nolimit.keeps λb o e=>(e0.bs b o e).1;have hk:∀y∈ps.zip us,scope.names.lookup y.1=some .local\/(scope.names.lookup y.1=some .cell/\((cellsFrom (s.heap.objs.size+1) scope.names []).lookup y.1).isSome=true):=λ⟨n,v⟩ hy=>by
  rcases S.par n (vz hy).1 with q|q
  ·exact .inl q
  ·exact .inr ⟨q,JM _ _ _ (.inl q)⟩
 refine TR (by have:=hr.dp;lia) (KX _ _ lk) Z S.co S.gen Z (TZ KX fk) (hb _ _ _ _ ?_);refine TN S.kind hk λenv he s1 x=>?_;subst he;refine⟨lim.keeps x.toInCall.keep,codeAny_func ?_⟩;obtain⟨t,ht,hq⟩:=fM A outer s H vs Q (hr.deeper _) fe;have e1:oM P w K mg au {A with handled:=none} outer s H:=⟨e0.frames,e0.mod,e0.bs,e0.jR,e0.iA,e0.lB,e0.bB,e0.bare⟩;have I:=GL (CX:=gW) (A:={A with handled:=none}) (E:=λ_ _ _=>False) S rfl e1 hl r x;have J:Inv (uV P w K mg au N qual scope f aH A outer s H) [] (start N vs) H s1:=⟨⟨I.ok.mod,I.ok.kind,I.ok.glob,I.ok.blt,I.ok.above,I.ok.inj,I.ok.has,I.ok.qh,λh=>(dN h).elim,Around.frames_deeper e0.frames,I.ok.qC,I.ok.xY,I.ok.bs,I.ok.jR,I.ok.ph,I.ok.oo,I.ok.iA,I.ok.lB⟩,I.os,I.bare,I.au,I.loc,I.cell,I.free,I.j6,I.pin,I.bB,I.len⟩;refine iH (ht [] s1 (start N vs) H _ J hq) (λfl s' hs=>?_) λe s' hs=>hs.elim;cases fl with |ret u=>obtain⟨v,σ',H',J',rv,q⟩:=hs;exact⟨v,H',J'.os,J'.bare,J'.au,J'.bB,rv,q⟩ |next=>obtain⟨σ',H',J',q⟩:=hs;exact⟨V.bw,H',J'.os,J'.bare,J'.au,J'.bB,Z,q⟩ |brk=>obtain⟨_,_,_,q⟩:=hs;exact False.elim q |cont=>obtain⟨_,_,_,q⟩:=hs;exact False.elim q
def yp(P:af)(w:World)(K:aa)(mg:bD)(au:Heap)(x:Str)(k:Nat)(sp:Sp):Prop:=∃f fd ps,TH P w K mg au k f fd ps sp/\mg x=some (.ref f)/\PySem.W.keepIn K (.ref f)=true/\Binds K fd ps []
theorem FA.a4m{P:af}{w:World}{K:aa}{mg:bD}{au:Heap}{x:Str}{st:Stmt}{N ps:List Str}{k:Nat}{sp:Sp}(F:FA K mg x st)(S:aW N ps (aP st))(len:∀vs H Q E,sp vs H Q E->vs.length=ps.length) (hb:∀(kV doc pm:Value)(an:Option Addr)(aH ct:Value)(us:List Value),us.length=ps.length->bindArgs (PySem.W.fnOf x x (j8 st) (fg st) (aP st) .none kV doc pm an aH ct) ⟨us,[]⟩=pure (ps.zip us)) (fM:∀(f:Addr)(aH:Value)(A:ai)(outer:List Env)(s:ae)(H:Hp)(vs:List V)(Q:VK),ju k (A.deeper (envOfC x (aP st) s.heap.objs.size f aH))->sp vs H Q (λ_ _ _=>False)->∃t,fz (uV P w K mg au N x (aP st) f aH A outer s H) (fg st) t/\t {nx:=λ_ H'=>Q .bw H',rt:=Q} (start N vs) H):yp P w K mg au x (k+1) sp:=by obtain⟨f,fd,hm,F⟩:=F.ex;have xC:=F.binds hb;have kp:=F.kp;obtain⟨oc,od,kV,doc,pm,an,aH,ct,fw,rfl,lk,fk⟩:=F.ex;exact⟨f,_,ps,a5H lk fk S len λA outer s H vs Q hr fe=>fM f aH A outer s H vs Q hr fe,hm,kp,xC⟩
section
variable {X:Cx}{k:Nat}{x:Str}{p pos:Pos}{e:Expr}{es:List Expr}{t:TA}{sp:Sp}
def VF(sp:Sp)(t:TA):TE:=λO H Q=>t O H λvs H1=>sp vs H1 Q (λ_ _ _=>False)
theorem Om(F:yp X.prog X.w X.K X.mg X.au x k sp)(hr:ju k X.A)(hg:Gl X x)(ha:PA X (e::es) t)(gc:autoParam ((x==("__debug__":Str))=false) q8_._auto_1) (he:autoParam (starEach (e::es) X.env=(false,eval e X.env)::starEach es X.env) r8_._auto_1)(eY:autoParam ((backTo pos (starEach es X.env)).any (·.1)=false) r8_._auto_1):PE X (.Call (.Name x p) (e::es) [] pos) (VF sp t):=by
 obtain⟨f,fd,ps,F,hm,hk,hb⟩:=F;intro ao s O H Q I h;refine yz (pE I hg hm ?_ gc);refine BU (h₀:=X.au) I.ok.mod.mr hk (ba (ha pos ao s O H _ I h) λus s1 ⟨vs,H1,I1,r,q⟩=>⟨I1.fb,?_⟩) he eY;have hl:(us++[]).length=ps.length:=by rw[qt,<-r.length];exact F.1 _ _ _ _ q
 have bt:=hb s1 us I1.fb hl;rw[qt]at bt;refine yy (vq (F.2 X.A X.stack s1 H1 ⟨us,[]⟩ us vs Q hr I1.IK bt r q) λr s' hq=>?_);cases r with |error e=>exact hq.elim |ok fl=>cases fl with |ret u=>exact I1.after hq |next=>exact hq.elim |brk=>exact hq.elim |cont=>exact hq.elim
end
section
variable {P:af}{w:World}{K:aa}{mg:bD}{au:Heap}{N:List Str}{qual:Str}{scope:Scope}{f:Addr}{cd:Value}{A:ai}{outer:List Env}{s:ae}{H:Hp}{E E0:XK}
theorem A8(he:∀cls dx H',E cls dx H'->E0 cls dx H'):Passes (iE P w) (gy (iE P w) P w K mg au N qual scope f cd A outer s H E0) E:=by
 intro ao O H1 s1 e s2 I hx;obtain⟨ex,cls,dx,H',B,rfl,ho,hg,om,F,q⟩:=hx;have om:jy B (envOfC qual scope s.heap.objs.size f cd::outer) ex cls dx .none s2.heap:=om;show wpAny (model P w) (A.deeper (envOfC qual scope s.heap.objs.size f cd)) (leaving (envOfC qual scope s.heap.objs.size f cd) (.ref ex)) _ _ _;refine a28 (L:=s.heap.objs.size) I.ok.frames Z om λh' x1 x2=>?_;have F2:=F.step om.1 x1.1 x2 om.2.2.1;have sub:∀b,b∈ek outer->b∈ek (envOfC qual scope s.heap.objs.size f cd::outer):=λb hb=>by obtain⟨env,h1,h2⟩:=mT.mp hb;exact mT.mpr ⟨env,.tail _ h1,h2⟩
 have pj:∀b o,s.heap.get? b=some o->b∉ek outer->b∉ek (envOfC qual scope s.heap.objs.size f cd::outer):=λb o e hb hm=>by
  obtain⟨env,h1,h2⟩:=mT.mp hm;rcases cj.mp h1 with z|h1
  ·subst z
   have e1:s.heap.objs.size=b:=dG h2;have e2:=cm e;rw[<-e1]at e2;exact absurd e2 (t9 _)
  ·exact hb (mT.mpr ⟨env,h1,h2⟩)
 have nx:∀b:Addr,b∉([]:List Addr):=λ_=>eQ;refine⟨ex,cls,dx,H',B,Z,ho.trans I.os,hg,x1,⟨⟨λb o e n hb _=>?_,λb o e n hb _=>?_,λb o e n _=>?_,λb o e _=>?_,λb xs e=>?_,λb o u e=>?_,λb ps e=>?_⟩,F2.bB,λb o e n hb=>?_,F2.k2,λb o e hb=>?_,λb hb=>F2.fr b (sub b hb),?_,F2.ne⟩,he _ _ _ q⟩
 ·exact F2.un.keep b o (I.au.keep b o e n hb (nx b)) (I.au.free b o e n (nx b)) (pj b o e hb) (nx b)
 ·obtain⟨sl,e1⟩:=I.au.slot b o e n hb (nx b)
  obtain⟨sl2,e2⟩:=F2.un.slot b _ e1 (I.au.free b o e n (nx b)) (sub b hb) (nx b);exact⟨sl2,e2⟩
 ·obtain⟨sl,e1⟩:=I.au.any e n (nx b)
  exact F2.un.free b _ e1 (I.au.free b o e n (nx b)) (nx b)
 ·obtain⟨o1,e1⟩:=I.au.there b o e (nx b)
  exact F2.un.there b o1 e1 (nx b)
 ·exact F2.un.jf b xs (I.au.jf b xs e)
 ·exact F2.un.iZ b o u (I.au.iZ b o u e)
 ·obtain⟨m1,e1⟩:=I.au.jg b ps e
  obtain⟨m2,e2⟩:=F2.un.jg b _ e1;exact⟨m1++m2,by rw[<-Array.append_assoc];exact e2⟩
 ·exact F2.k1 b o (I.au.keep b o e n hb (nx b)) (I.au.free b o e n (nx b)) (pj b o e hb)
 ·obtain⟨o1,e1⟩:=I.au.there b o e (nx b)
  exact F2.k3 b o1 e1 (pj b o e hb)
 ·cases e:s.heap.get? ex with |none=>rfl |some o=>obtain⟨o1,e1⟩:=I.au.there ex o e (nx ex);rw[F2.nw]at e1;cases e1
end
end _L
namespace _L
open PySem PySem.Spec PyProof.Rows
open Builtin Builtin.ObjectAttr
section
variable {prog:af}{w:World}{A:ai}{E:Value->ae->Prop}{s:ae}{K:aa}{x C dx:Addr}{ox:Obj}{fs:Array Value}{name:Str}{v:Value}{Q:Unit->ae->Prop}{mA:bD}{ks:List Str}
end
section
variable {X:Cx}{o e value:Expr}{f:Str}{pos pos' mY:Pos}{ta tv:TE}
end
end _L
namespace _L
open PySem PySem.Spec PyProof.Rows
def ja(P:af)(w:World)(K:aa)(mg:bD)(au:Heap)(C:Addr)(m:Str)(k:Nat)(sp:Sp):Prop:=∃f fd ps,eD P w K mg au (iE P w) k f fd ps sp/\Meth K C m f/\Binds K fd ps []
section
variable {P:af}{w:World}{K:aa}{mg:bD}{au:Heap}
theorem jT.okD{m qual:Str}{st:Stmt}{f:Addr}{fd:FuncData}{N ps:List Str}{k:Nat}{sp:Sp}(F:jT K m qual st f fd)(S:aW N ps (aP st))(len:∀vs H Q E,sp vs H Q E->vs.length=ps.length) (fM:∀(aH:Value)(A:ai)(outer:List Env)(s:ae)(H:Hp)(vs:List V)(Q:VK)(E:XK),cN k (A.deeper (envOfC qual (aP st) s.heap.objs.size f aH))->sp vs H Q E->∃t,fz (gy (iE P w) P w K mg au N qual (aP st) f aH A outer s H E) (fg st) t/\t {nx:=λ_ H'=>Q .bw H',rt:=Q} (start N vs) H):eD P w K mg au (iE P w) (k+1) f fd ps sp:=by obtain⟨oc,od,kV,doc,pm,an,aH,ct,fw,rfl,lk,fk⟩:=F.ex;exact Ip lk fk S len λA outer s H vs Q E hr fe=>fM aH A outer s H vs Q E hr fe
theorem MA.uL{C:Addr}{m qual:Str}{st:Stmt}{N ps:List Str}{k:Nat}{sp:Sp}(F:MA K C m qual st)(S:aW N ps (aP st))(len:∀vs H Q E,sp vs H Q E->vs.length=ps.length) (hb:∀(kV doc pm:Value)(an:Option Addr)(aH ct:Value)(us:List Value),us.length=ps.length->bindArgs (PySem.W.fnOf m qual (j8 st) (fg st) (aP st) .none kV doc pm an aH ct) ⟨us,[]⟩=pure (ps.zip us)) (fM:∀(f:Addr)(aH:Value)(A:ai)(outer:List Env)(s:ae)(H:Hp)(vs:List V)(Q:VK)(E:XK),cN k (A.deeper (envOfC qual (aP st) s.heap.objs.size f aH))->sp vs H Q E->∃t,fz (gy (iE P w) P w K mg au N qual (aP st) f aH A outer s H E) (fg st) t/\t {nx:=λ_ H'=>Q .bw H',rt:=Q} (start N vs) H):ja P w K mg au C m (k+1) sp:=by obtain⟨f,fd,hm,F⟩:=F.ex;exact⟨f,fd,ps,F.okD S len λaH A outer s H vs Q E=>fM f aH A outer s H vs Q E,hm,F.binds hb⟩
end
section
variable {X:Cx}{k:Nat}{x m:Str}{C:Addr}{p pos apos:Pos}{o e:Expr}{es:List Expr}{t:TA}{ta:TE}{sp:Sp}{E:XK}
inductive Tt(C:Addr)(m:Str)(sp:Sp)(E:XK)(t:TA)(O:St)(Q:VK)(x:V)(H1:Hp):Prop |mk (a:Addr)(dx:Addr)(fs:List (Str×V))(h0:x= .ref a)(h1:H1 a=some (.ins C dx fs))(h2:fs.lookup m=none)(h3:t O H1 λvs H2=>sp (x::vs) H2 Q E)
def Ko(C:Addr)(m:Str)(sp:Sp)(E:XK)(ta:TE)(t:TA):TE:=λO H Q=>ta O H λx H1=>Tt C m sp E t O Q x H1
theorem P9{O:St}{Q:VK}{x:V}{H1:Hp}:sS C m sp [] E t O Q x H1=Tt C m sp E t O Q x H1:=by
 have e1:(λ(vs:List V) H1=>sp (x::(vs++[])) H1 Q E)=λvs H1=>sp (x::vs) H1 Q E:=by funext vs H1;rw[qt]
 refine propext ⟨λ⟨a,dx,fs,h0,h1,h2,h3⟩=>⟨a,dx,fs,h0,h1,h2,?_⟩,λ⟨a,dx,fs,h0,h1,h2,h3⟩=>⟨a,dx,fs,h0,h1,h2,?_⟩⟩
 ·rw[<-e1];exact h3
 ·rw[e1];exact h3
theorem A6{pl:Sem Bool}(F:ja X.prog X.w X.K X.mg X.au C m k sp)(hp:Passes (iE X.prog X.w) X E)(c:gU X.K C)(hr:cN k X.A)(he:PE X o ta)(ha:PA X (e::es) t) (gb:autoParam (starEach (e::es) X.env=(false,eval e X.env)::starEach es X.env) r8_._auto_1)(eY:autoParam ((backTo pos (starEach es X.env)).any (·.1)=false) r8_._auto_1) (ht:eval (.Call (.Attribute o m apos) (e::es) [] pos) X.env=(do
 let ov<-eval o X.env
 standAt apos.atName
 let(f,first)<-holding [ov] (getMethod ov m pl)
 callWith pos f first (backTo pos (starEach (e::es) X.env)) (backToKw pos (keywordEach [] X.env))):=by rfl): PE X (.Call (.Attribute o m apos) (e::es) [] pos) (Ko C m sp E ta t):=by
 obtain⟨f,fd,ps,F,hm,hb⟩:=F;have h:=Ol (pos:=pos) (apos:=apos) (pl:=pl) he c hm F hr hb .nil hp ha gb eY ht;intro ao s O H Q I hq;refine h ao s O H Q I ?_;show ta O H λx H1=>sS C m sp [] E t O Q x H1;simp only[P9];exact hq
theorem Oi{pl:Sem Bool}(F:ja X.prog X.w X.K X.mg X.au C m k sp)(hp:Passes (iE X.prog X.w) X E)(c:gU X.K C)(hr:cN k X.A)(he:PE X o ta) (ht:eval (.Call (.Attribute o m apos) [] [] pos) X.env=(do
 let ov<-eval o X.env
 standAt apos.atName
 let(f,first)<-holding [ov] (getMethod ov m pl)
 callWith pos f first (backTo pos (starEach [] X.env)) (backToKw pos (keywordEach [] X.env))):=by rfl): PE X (.Call (.Attribute o m apos) [] [] pos) (Ko C m sp E ta lR):=by
 obtain⟨f,fd,ps,F,hm,hb⟩:=F;have h:=Oj (pos:=pos) (apos:=apos) (pl:=pl) he c hm F hr hb .nil hp ht;intro ao s O H Q I hq;refine h ao s O H Q I ?_;show ta O H λx H1=>sS C m sp [] E lR O Q x H1;simp only[P9];exact hq
end
end _L
namespace _L
open PySem PySem.Spec PyProof.Rows SeqAt
section
variable {X:Cx}{k:Nat}{x:Str}{p pos:Pos}{e:Expr}{es:List Expr}{t:TA}{sp:Sp}{E:XK}
inductive ab4(X:Cx)(i:Nat)(CX:iG)(E:XK)(t:TA)(O:St)(H:Hp)(Q:VK):Prop |mk (f:Addr)(fd:FuncData)(ps:List Str)(k:Nat)(sp:Sp)(h0:O[i]? =some (some (.ref f)))(h1:eD X.prog X.w X.K X.mg X.au CX k f fd ps sp)(h2:PySem.W.keepIn X.K (.ref f)=true)(h3:Binds X.K fd ps [])(h4:cN k X.A)(h5:t O H λvs H1=>sp vs H1 Q E)
theorem Y3(i:Nat){CX:iG}(hp:Passes CX X E)(hN:autoParam (X.N[i]? =some x) r8_._auto_1)(hv:autoParam (BC X.env.scope x) k8_._auto_1)(ha:PA X (e::es) t)(hd:autoParam ((x==("__debug__":Str))=false) q8_._auto_1) (fk:autoParam ((x==("__classdict__":Str))=false) q8_._auto_1)(he:autoParam (starEach (e::es) X.env=(false,eval e X.env)::starEach es X.env) r8_._auto_1)(eY:autoParam ((backTo pos (starEach es X.env)).any (·.1)=false) r8_._auto_1): PE X (.Call (.Name x p) (e::es) [] pos) (λO H Q=>ab4 X i CX E t O H Q):=by intro ao s O H Q I h;obtain⟨f,fd,ps,k,sp,h0,F,hk,hb,hr,ht⟩:=h;refine yz (ba (Oh (pos:=p) hN hv hd fk ao s O H (λv H'=>v= .ref f/\H'=H) I ⟨_,h0,Z,Z⟩) λu s1 ⟨v,H1,I1,rv,e1,e2⟩=>?_);subst e1 e2;cases(show u=Value.ref f from rv);refine BU (h₀:=X.au) I1.ok.mod.mr hk (ba (ha pos ao s1 O H1 _ I1 ht) λus s2 ⟨vs,H2,I2,r,q⟩=>⟨I2.fb,?_⟩) he eY;refine zS F hr hb .nil hp I2 r ?_;rw[qt];exact q
end
section
variable {X:Cx}
theorem Ca:∀{bs:List Bool}{us:List Value},Vals (bs.map V.bl) us->us=bs.map Value.bool |[],_,.nil=>rfl |b::bs,_,.cons q r=>by cases(show _=Value.bool b from q);rw[Ca r];rfl
def rJ:Value->Bool | .bool b=>b |_=>false
theorem RH{bs:List Bool}(A:ai)(s:ae):∀y,y∈(bs.map Value.bool).toArray->EqAt A s y (.bool true) (rJ y):=λy hy=>by obtain⟨b,_,rfl⟩:=cW.mp (List.mem_toArray.mp hy);have:=EqAt.bool_bool (A:=A) (s:=s) b true;cases b<;>exact this
theorem a7O(bs:List Bool):(bs.map Value.bool).countP rJ=bs.count true:=by induction bs with |nil=>rfl |cons b r ih=>cases b<;>simp[List.countP_cons,rJ,ih,List.count_cons]
inductive Tx(K:aa)(x:V)(vs:List V)(H:Hp)(Q:VK):Prop |mk (l:Addr)(bs:List Bool)(h0:x= .ref l)(h1:vs=[.bl true])(h2:aJ K H l (bs.map V.bl))(h3:Q (.int (bs.count true:Nat)) H)
theorem a1h(K:aa)(hK:X.K=K):vk X "list.count" (λx vs H Q=>Tx K x vs H Q):=by subst hK;intro ao s O H x vs v us Q I rx rv h;obtain⟨l,bs,rfl,rfl,hl,q⟩:=h;cases rx;obtain⟨u,rfl,ru⟩:=vals1 rv;cases(show u=Value.bool true from ru);obtain⟨its,r,pl,_⟩:=I.list hl;rw[Ca r]at pl;obtain⟨⟨cls,dd,data,sl⟩,ho,hc,n,hd⟩:=id pl.isList;simp only at hc hd;subst hc hd;refine sW PySem.F.slot_list_count ⟨_,ho,Z⟩ PySem.F.entry_list_count (PySem.F.args_list_count_2 _ _) (list_countAt l _ n dd sl (.bool true) rJ) ⟨ho,RH _ _,?_⟩;rw[show(bs.map Value.bool).toArray.toList=bs.map Value.bool from Z,a7O];exact⟨.int _,H,I.tok _,⟨_,Z⟩,q⟩
inductive Tw(K:aa)(x:V)(vs:List V)(H:Hp)(Q:VK):Prop |mk (l:Addr)(bs:List Bool)(j:Nat)(h0:x= .ref l)(h1:vs=[.bl true])(h2:aJ K H l (bs.map V.bl))(h3:bs[j]? =some true)(h4:∀m,m<j->bs[m]? =some false)(h5:j<1000)(h6:Q (.int (j:Nat)) H)
theorem a1g(K:aa)(hK:X.K=K):vk X "list.index" (λx vs H Q=>Tw K x vs H Q):=by
 subst hK;intro ao s O H x vs v us Q I rx rv h;obtain⟨l,bs,j,rfl,rfl,hl,hj,hm,ac9,q⟩:=h;cases rx;obtain⟨u,rfl,ru⟩:=vals1 rv;cases(show u=Value.bool true from ru);obtain⟨its,r,pl,_⟩:=I.list hl;rw[Ca r]at pl;obtain⟨⟨cls,dd,data,sl⟩,ho,hc,n,hd⟩:=id pl.isList;simp only at hc hd;subst hc hd;have Qu:=(dD.mp hj);obtain⟨hj1,kU⟩:=Qu;refine sW PySem.F.slot_list_index ⟨_,ho,Z⟩ PySem.F.entry_list_index (PySem.F.args_list_index_2 _ _) (list_indexAt l _ n dd sl (.bool true) rJ j (by simpa using hj1) aw ?_ (λm hm1 xq=>?_)) ⟨ho,RH _ _,⟨.int _,H,I.tok _,⟨_,Z⟩,q⟩⟩
 ·simp[kU,rJ]
 ·have:=hm m xq
  obtain⟨h1,h2⟩:=dD.mp this;simp[h2,rJ]
theorem Y8(K:aa)(h:X.K=K){o e:Expr}{to:TE}{t:TA}{apos cn:Pos}(ho:PE X o to)(ha:PA X [e] t) (iX:autoParam (attributeBase o "count" X.env (eval o X.env)=eval o X.env) r8_._auto_1) (iW:autoParam (((backTo cn (starEach [e] X.env)).all (λx=>!x.1)&&(backToKw cn (keywordEach [] X.env)).all (λx=>x.1.isSome) &&decide ([e].length+([]:List Keyword).length+(if([]:List Keyword).isEmpty then 0 else 1)<30))=true) r8_._auto_1) (iV:autoParam ((apos.endLine==cn.line)=true) r8_._auto_1)(hs:autoParam (starEach [e] X.env=(false,eval e X.env)::starEach [] X.env) r8_._auto_1)(iS:autoParam ((backTo cn (starEach [] X.env)).any (·.1)=false) r8_._auto_1): PE X (.Call (.Attribute o "count" apos) [e] [] cn) (oS K "list" (λx vs H Q=>Tx K x vs H Q) to t):=by subst h;exact qU JP PySem.F.slot_list_count PySem.F.type_list_count (a1h X.K rfl) ho ha iX iW iV hs iS
theorem Y6(K:aa)(h:X.K=K){o e:Expr}{to:TE}{t:TA}{apos cn:Pos}(ho:PE X o to)(ha:PA X [e] t) (iX:autoParam (attributeBase o "index" X.env (eval o X.env)=eval o X.env) r8_._auto_1) (iW:autoParam (((backTo cn (starEach [e] X.env)).all (λx=>!x.1)&&(backToKw cn (keywordEach [] X.env)).all (λx=>x.1.isSome) &&decide ([e].length+([]:List Keyword).length+(if([]:List Keyword).isEmpty then 0 else 1)<30))=true) r8_._auto_1) (iV:autoParam ((apos.endLine==cn.line)=true) r8_._auto_1)(hs:autoParam (starEach [e] X.env=(false,eval e X.env)::starEach [] X.env) r8_._auto_1)(iS:autoParam ((backTo cn (starEach [] X.env)).any (·.1)=false) r8_._auto_1): PE X (.Call (.Attribute o "index" apos) [e] [] cn) (oS K "list" (λx vs H Q=>Tw K x vs H Q) to t):=by subst h;exact qU JP PySem.F.slot_list_index PySem.F.type_list_index (a1g X.K rfl) ho ha iX iW iV hs iS
end
end _L
namespace _L
open PySem PySem.Spec PyProof.Rows
section
variable {κ : Type} [DecidableEq κ]
end
section
variable {P:af}{w:World}{H:Hp}{h:Heap}{a:Addr}
end
section
variable {X:Cx}{ao:List (Addr×Obj)}{O:St}{H:Hp}{s:ae}{a:Addr}{y v:V}{u r:Value}{o:Option V}{A:ai}{E:Value->ae->Prop}
end
section
variable {X:Cx}{ao:List (Addr×Obj)}{O:St}{H:Hp}{s:ae}{a:Addr}{dI:List (Key×V)}{k:Key}{u:Value}{A:ai}{E:Value->ae->Prop}
end
def Tr(i:Expr):Prop:=∀ov iv,subscripted i false ov iv=operate [ov,iv] (getItem ov iv)
theorem VQ{prog:af}{w:World}{A:ai}{E:Value->ae->Prop}{s:ae}{env:Env}{value slice:Expr}{pos:Pos}{T id:String}{Q:Value->ae->Prop} (hl:typeLookup (.type T) "__getitem__"=pure (some (.builtin id)))(hs:Tr slice) (h:wpAny (model prog w) A (eval value env) (λo s₁=>wpAny (model prog w) A (eval slice env) (λi s₂=>s₂.TypeIs o T/\wpAny (model prog w) A (getItem o i) Q E s₂) E s₁) E s): wpAny (model prog w) A (eval (.Subscript value slice pos) env) Q E s:=by
 refine Subscript_ (iH h (λo s₁ h₁=>iH h₁ (λi s₂ h₂=>?_) λ_ _ x=>x) λ_ _ x=>x);obtain⟨hT,h₂⟩:=h₂;unfold subscriptTail;refine aM ?_;rw[getitemInPython_of_ne hT.not_modules];refine aM (wpAny_specialOf hT hl ?_);have fin:wpAny (model prog w) A (subscripted slice false o i) (λr s₃=>wpAny (model prog w) A (letTemporaryGo value o r>>=λ_=>pure r) Q E s₃) E s₂:=by rw[hs o i];exact wpAny_operating (iH h₂ (λr s₃ h₃=>aM (wpAny_letTemporaryGo (bV h₃))) λ_ _ x=>x)
 first |exact bV (aM fin) |exact aM (bV (aM fin)) |exact aM fin
section
variable {X:Cx}{o i e value:Expr}{pos pos' mY:Pos}{td ty tv:TE}
end
section
variable {X:Cx} {pos:Pos}
end
section
variable {X:Cx}{ao:List (Addr×Obj)}{O:St}{H:Hp}{s:ae}{a:Addr}{y d:V}{u r:Value}{o:Option V}{A:ai}{E:Value->ae->Prop}
end
section
variable {X:Cx}{o e f:Expr}{apos cn:Pos}{td ty tx:TE}
end
section
variable {X:Cx}{ao:List (Addr×Obj)}{O:St}{H:Hp}{s:ae}{a:Addr}{dI:List (Key×V)}{A:ai}{E:Value->ae->Prop}
end
section
variable {X:Cx}{ao:List (Addr×Obj)}{O:St}{H:Hp}{s:ae}{a:Addr}{y:V}{u:Value}{A:ai}{E:Value->ae->Prop}
end
end _L
namespace _L
open PySem PySem.Spec PyProof.Rows PySem.W
structure GD(w:World)(K:Frag)(mg:bD)(x:Str)(a:Addr):Prop where
 at':mg x=some (.ref a)
 ob:∃es n,K.lookup a=some ⟨.type "dict",none,.dict es n,#[]⟩/\KeysLit w.params es.toList
 lo:(a==sysModules)=false
theorem a5j{w:World}{K:Frag}{mg:bD}{x:Str}{a:Addr}{h:Heap}{es:Array DictEntry}{n:Nat}(X:K.In h)(G:h.Ns mainGlobals mg)(e:nsIn K mainGlobals x=some (some (.ref a)))(hl:K.lookup a=some ⟨.type "dict",none,.dict es n,#[]⟩)(hk:KeysLit w.params es.toList)(lo:(a==sysModules)=false):GD w K mg x a:=⟨mg_of X G e,⟨es,n,hl,hk⟩,lo⟩
section
variable {X:Cx}{i:Expr}{x:Str}{a:Addr}{pos p:Pos}{ty:TE}
inductive ab2(K:Frag)(a:Addr)(Q:VK)(y:V)(H:Hp):Prop |mk (z:Str)(r:Option Value)(h0:y= .str z)(h1:nsIn K a z=some r)(h2:Q (.bl r.isSome) H)
theorem Yc(G:GD X.w X.K X.mg x a)(hg:Gl X x)(hi:PE X i ty)(gc:autoParam ((x==("__debug__":Str))=false) q8_._auto_1):PC X .In i (.Name x p) (λO H Q=>ty O H λy H1=>ab2 X.K a Q y H1):=by intro ao s O H Q I h;obtain⟨es,n,hl,hk⟩:=G.ob;refine ba (hi ao s O H _ I h) λiv s1 ⟨y,H1,I1,ry,z,r,ey,e,q⟩=>pE I1 hg G.at' ?_ gc;subst ey;obtain⟨t,rfl⟩:=ry;refine wpAny_in_of (strKind_is X.prog X.w z t) G.lo (mapOf_K (prog:=X.prog) I1.fb hl hk) ?_;rw[find_K hl e];exact⟨.bl r.isSome,H1,I1.tok _,Z,q⟩
inductive ab3(K:Frag)(a:Addr)(Q:VK)(y:V)(H:Hp):Prop |mk (z:Str)(u:Value)(v:V)(h0:y= .str z)(h1:nsIn K a z=some (some u))(h2:RelV v u)(h3:Q v H)
theorem Y0(G:GD X.w X.K X.mg x a)(hg:Gl X x)(hi:PE X i ty)(hs:Tr i)(gc:autoParam ((x==("__debug__":Str))=false) q8_._auto_1):PE X (.Subscript (.Name x p) i pos) (λO H Q=>ty O H λy H1=>ab3 X.K a Q y H1):=by intro ao s O H Q I h;obtain⟨es,n,hl,hk⟩:=G.ob;refine VQ PySem.F.slot_dict_getitem.lookup hs (pE I hg G.at' ?_ gc);refine ba (hi ao s O H _ I h) λiv s1 ⟨y,H1,I1,ry,z,u,v,ey,e,rv,q⟩=>?_;subst ey;obtain⟨t,rfl⟩:=ry;have hm:=mapOf_K (prog:=X.prog) (w:=X.w) I1.fb hl hk;exact⟨hm.typeIs,wpAny_getItem_of (strKind_is X.prog X.w z t) hm (find_K hl e) ⟨v,H1,I1.tok _,rv,q⟩⟩
end
theorem a2d{l:OpenLaw}{q:af}{loose:List Str}{XP:(bD)->Heap->Prop}{YP:World->Heap->Prop}{d:DefRec}{K:Params->Frag}{k:Nat}{x:Str}{st:Stmt}(hn:l.most=some 63)(xy:d.params.defaults=[]) (hr:cN k callerA)(hY:∀(w:World)(h:Heap),YP w h->(K w.params).In h)(All:World->Frag->(bD)->Prop) (F:∀(w:World)(mg:bD)(h:Heap),(K w.params).In h->h.Ns mainGlobals mg->All w (K w.params) mg) (L:∀(w:World)(K:Frag)(mg:bD),All w K mg->FA K mg d.name st) (hb:∀(kV doc pm:Value)(an:Option Addr)(aH ct u:Value),bindArgs (fnOf d.name d.name (j8 st) (fg st) (aP st) .none kV doc pm an aH ct) ⟨[u],[]⟩=pure [(x,u)]) (ok:∀(P:af)(w:World)(K:Frag)(mg:bD)(au:Heap)(f:Addr)(fd:FuncData),All w K mg->jT K d.name d.name st f fd->eD P w K mg au gW k f fd [x] (λvs H Q _=>∃(a:Addr)(ns:List Int),vs=[.ref a]/\aJ K H a (ns.map V.int)/\ns.length<=63/\∀H',Q (.bl true) H')): WalkO q loose XP YP l.row.toRowW d [] (λf vs=>PySem.call f vs):=_L.UJ (n:=63) (k:=k) (x:=x) (CX:=λ_=>gW) (sp:=λw=>λvs H Q _=>∃(a:Addr)(ns:List Int),vs=[.ref a]/\aJ (K w.params) H a (ns.map V.int)/\ns.length<=63/\∀H',Q (.bl true) H') hn az xy hr hY (λw mg fa h KX G xp=>by
 have A:=F w mg h KX G;obtain⟨f,fd,hm,Fn⟩:=(L _ _ _ A).ex;have e:fa=f:=by rw[xp]at hm;injection (dG hm)
 subst e;refine⟨fd,λs u=>?_,λau _ _=>ok l.prog w _ mg au fa fd A Fn⟩;obtain⟨oc,od,kV,doc,pm,an,aH,ct,fw,rfl,lk,fk⟩:=Fn.ex;exact .of_eq (hb kV doc pm an aH ct u)) (λ_ _ a ns hl _ hS=>⟨a,ns,Z,hS,hl,λ_=>rfl⟩) λ_ _ _ _ _ z=>z
end _L
set_option exponentiation.threshold 6000
namespace _L
open PySem PySem.Spec PyProof.Rows
section
variable {X:Cx}
theorem fq:eF X (.type "str") (λxs H Q=>(∃i,xs=[.int i]/\i.natAbs.log2<1920/\Q (.str (toString i)) H)\/∃z,xs=[.str z]/\Q (.str z) H):=by
 intro ao s O H xs us Q I r h;rcases h with⟨i,rfl,hz,q⟩|⟨z,rfl,q⟩
 ·obtain⟨u,rfl,t,rfl⟩:=vals1 r
  exact PySem.P.str_of_int hz ⟨.str _,H,I.tok _,⟨_,Z⟩,q⟩
 ·obtain⟨u,rfl,t,rfl⟩:=vals1 r
  exact PySem.P.str_of_str ⟨.str _,H,I,⟨_,Z⟩,q⟩
def Xu(x:V)(H:Hp)(Q:VK):Prop:=(∃i,x= .int i/\i.natAbs.log2<1920/\Q (.str (toString i)) H)\/∃z,x= .str z/\z.length<=sizeLine/\Q (.str z) H
theorem jH{e:Expr}{te:TE}{pos:Pos}(h:PE X e te):PE X (.FormattedValue e (-1) none pos) (λO H Q=>te O H λx H'=>Xu x H' Q):=by
 intro ao s O H Q I ht;refine wpAny_FormattedValue_plain (ba (h ao s O H _ I ht) λv s1 ⟨x,H1,I1,r1,q1⟩=>?_);rcases q1 with⟨i,rfl,hz,q⟩|⟨z,rfl,hz,q⟩
 ·obtain⟨t,rfl⟩:=r1
  exact wpAny_formatField_int hz ⟨.str _,H1,I1.tok _,⟨_,Z⟩,q⟩
 ·obtain⟨t,rfl⟩:=r1
  exact wpAny_formatField_str ⟨.str _,H1,I1,⟨_,Z⟩,q⟩ ⟨.str _,H1,I1.tok _,⟨_,Z⟩,q⟩ hz
abbrev TJ:=Str->St->Hp->VK->Prop
def PJ(X:Cx)(es:List Expr)(t:TJ):Prop:=∀(ao:List (Addr×Obj))(s:ae)(O:St)(H:Hp)(Q:VK)(acc:Str),Inv X ao O H s->t acc O H Q->Joins (model X.prog X.w) X.A X.xe (evalEach es X.env) acc (λout s₁=>out.length<=sizeLine/\EP X ao O Q (.str out s₁.toks) {s₁ with toks:=s₁.toks+1}) s
theorem ub:PJ X [] (λacc O H Q=>acc.length<=sizeLine/\Q (.str acc) H):=by intro ao s O H Q acc I h;exact⟨h.1,.str _,H,I.tok _,⟨_,Z⟩,h.2⟩
theorem fR{e:Expr}{es:List Expr}{te:TE}{tj:TJ}(h:PE X e te)(hj:PJ X es tj)(he:autoParam (evalEach (e::es) X.env=eval e X.env::evalEach es X.env) r8_._auto_1): PJ X (e::es) (λacc O H Q=>te O H λx H'=>∃y,x= .str y/\(acc++y).length<=sizeLine/\tj (acc++y) O H' Q):=by intro ao s O H Q acc I ht;rw[he];refine ba (h ao s O H _ I ht) λv s1 ⟨x,H1,I1,r1,q1⟩=>?_;obtain⟨y,rfl,hl,q⟩:=q1;obtain⟨t,rfl⟩:=r1;exact⟨y,t,Z,hl,hj ao s1 O H1 Q _ I1 q⟩
theorem ud{e1 e2:Expr}{es:List Expr}{t:TJ}{pos:Pos}(h:PJ X (e1::e2::es) t):PE X (.JoinedStr (e1::e2::es) pos) (λO H Q=>t Str.empty O H Q):=λao s O H Q I ht=>wpAny_JoinedStr (h ao s O H Q _ I ht)
theorem GG(sep:Str){B:Nat}:∀(zs:List Str),(∀z∈zs,z.length<=B)->(Txt.join sep zs).length<=zs.length*(B+sep.length)
 |[],_=>fU _ |a::r,h=>by
  show(Builtin.Str.glued sep (a::r)).length<=_;rw[yA,len_join_cons];have:=sumLen_le_of_bound id B (a::r) h;rw[List.map_id]at this;rw[gh]at this⊢;have e1:(r.length+1)*(B+sep.length)=B*(r.length+1)+(r.length*sep.length+sep.length):=by rw[Nat.mul_add,Nat.mul_comm (r.length+1) B,Nat.add_mul r.length 1 sep.length,Nat.one_mul]
  lia
inductive aaw(K:aa)(x:V)(vs:List V)(H:Hp)(Q:VK):Prop |mk (sep:Str)(l:Addr)(zs:List Str)(h0:x= .str sep)(h1:vs=[.ref l])(h2:aJ K H l (zs.map V.str))(h3:(∀z∈zs,z.length<=4000))(h4:sep.length<=8)(h5:zs.length<=1000)(h6:Q (.str (Txt.join sep zs)) H)
def O6(K:aa):V->List V->Hp->VK->Prop:=λx vs H Q=>aaw K x vs H Q
theorem a1f(K:aa)(hK:X.K=K):vk X "str.join" (O6 K):=by subst hK;intro ao s O H x vs v us Q I rx rv h;obtain⟨sep,l,zs,rfl,rfl,hl,hz,hs,hn,q⟩:=h;obtain⟨t,rfl⟩:=rx;obtain⟨u,rfl,ru⟩:=vals1 rv;cases(show u=Value.ref l from ru);obtain⟨its,r,pl,_⟩:=I.list hl;have a33:=sumLen_le_of_bound id 4000 zs hz;rw[List.map_id]at a33;have h1:zs.length*sep.length<=1000*8:=t7 hn hs;refine join_list (ys:=zs) pl.isList (StrsAre.of_carried (Sw r)) aw λt' k=>?_;exact⟨.str _,H,I.tok _,⟨_,Z⟩,q⟩
theorem kM(K:aa)(h:X.K=K){o e:Expr}{to:TE}{t:TA}{apos cn:Pos}(ho:PE X o to)(ha:PA X [e] t) (iX:autoParam (attributeBase o "join" X.env (eval o X.env)=eval o X.env) r8_._auto_1) (iW:autoParam (((backTo cn (starEach [e] X.env)).all (λx=>!x.1)&&(backToKw cn (keywordEach [] X.env)).all (λx=>x.1.isSome) &&decide ([e].length+([]:List Keyword).length+(if([]:List Keyword).isEmpty then 0 else 1)<30))=true) r8_._auto_1) (iV:autoParam ((apos.endLine==cn.line)=true) r8_._auto_1)(hs:autoParam (starEach [e] X.env=(false,eval e X.env)::starEach [] X.env) r8_._auto_1)(iS:autoParam ((backTo cn (starEach [] X.env)).any (·.1)=false) r8_._auto_1): PE X (.Call (.Attribute o "join" apos) [e] [] cn) (oS K "str" (O6 K) to t):=by subst h;exact qU U5 PySem.F.slot_str_join PySem.F.type_str_join (a1f X.K rfl) ho ha iX iW iV hs iS
theorem Kh{i:Int}(h:i.natAbs<10^40):(Str.ofString (toString i)).length<=41:=by rw[PySem.ofString_length];exact int_text_length_le10 (k:=40) az h
theorem fS{i:Int}(h:i.natAbs<10^40):i.natAbs.log2<1920:=by
 by_cases h0:i.natAbs=0
 ·rw[h0];decide
 ·exact(Nat.log2_lt h0).mpr (BX h az)
theorem Sx:∀(l:List (Str×Tok)),Vals ((l.map (·.1)).map V.str) (strValues l) |[]=>.nil |(z,t)::l=>.cons ⟨t,Z⟩ (Sx l)
theorem split_len(x y:Str):(Txt.split x y).length<=x.length+2:=by
 unfold Txt.split;split
 ·simp
 ·split
  ·simp
  ·have e1:=StrLaws.occ_length_le x y 0 x.length (x.length+1)
   rw[length_partsBetween];omega
inductive aap(x:V)(vs:List V)(H:Hp)(Q:VK):Prop |mk (z y:Str)(h0:x= .str z)(h1:vs=[.str y])(h2:(y.length==0)=false)(h3:z.length+2<=sizeLine)(h4:∀p H',Nw H H' p (.lst ((Txt.split z y).map V.str))->Q (.ref p) H')
def O3:V->List V->Hp->VK->Prop:=λx vs H Q=>aap x vs H Q
theorem a1d:vk X "str.split" O3:=by
 intro ao s O H x0 vs v us Q I rx rv h;obtain⟨x,y,rfl,rfl,hy,hz,q⟩:=h;obtain⟨t,rfl⟩:=rx;obtain⟨u0,rfl,u,rfl⟩:=vals1 rv;have key:∀(l:List (Str×Tok))(k:Nat),l.map (·.1)=Txt.split x y->EP X ao O Q (.ref s.heap.objs.size) {s with toks:=k,heap:=s.heap.push {cls:=.type "list",data:=.seq (strValues l).toArray}}:=λl k e=>by have nw:Nw H (upd H s.heap.objs.size (.lst ((Txt.split x y).map V.str))) s.heap.objs.size (.lst ((Txt.split x y).map V.str)):=.of (I.bB.fresh (bO _));refine⟨.ref s.heap.objs.size,_,I.laid (t':=k) (o:=.lst ((Txt.split x y).map V.str)) (λb ob q=>cC _ q) (bO _) ?_,Z,q _ _ nw⟩;have:=split_len x y;exact⟨by rw[bS];omega,_,0,by rw[<-e];exact Sx l,dX _ Z⟩
 cases h1:(decide (x.length<y.length)||decide (Builtin.Str.strKind x<Builtin.Str.strKind y))
 ·cases hf:(Builtin.Str.occurrences x y 0 x.length (x.length+1)).isEmpty
  ·have e1:=StrLaws.occ_length_le x y 0 x.length (x.length+1)
   refine sW F.slot_str_split (typeIs_str _ _ _) F.entry_str_split (F.args_str_split_2 _ _) (meets_str_split_sep x y t u h1 hy hf bI (by rw[length_partsBetween];omega)) ?_;show wants _ _ _ {s with toks:=_,heap:=s.heap.push {cls:=.type "list",data:=.seq (strsFrom s.toks (Builtin.Str.partsBetween x (Builtin.Str.occurrences x y 0 x.length (x.length+1)) y.length)).toArray}};rw[strsFrom_eq];exact key (numbered s.toks _) _ ((numbered_texts _ _).trans ((bh (TQ h1)).trans (bh (TQ hf))).symm)
  ·exact sW F.slot_str_split (typeIs_str _ _ _) F.entry_str_split (F.args_str_split_2 _ _) (meets_str_split_not_found x y t u h1 hy hf) (key [(x,t)] s.toks ((bh (TQ h1)).trans (bf hf)).symm)
 ·exact sW F.slot_str_split (typeIs_str _ _ _) F.entry_str_split (F.args_str_split_2 _ _) (meets_str_split_cannot_occur x y t u h1) (key [(x,t)] s.toks (bf h1).symm)
theorem FN(K:aa)(h:X.K=K){o e:Expr}{to:TE}{t:TA}{apos cn:Pos}(ho:PE X o to)(ha:PA X [e] t) (iX:autoParam (attributeBase o "split" X.env (eval o X.env)=eval o X.env) r8_._auto_1) (iW:autoParam (((backTo cn (starEach [e] X.env)).all (λx=>!x.1)&&(backToKw cn (keywordEach [] X.env)).all (λx=>x.1.isSome) &&decide ([e].length+([]:List Keyword).length+(if([]:List Keyword).isEmpty then 0 else 1)<30))=true) r8_._auto_1) (iV:autoParam ((apos.endLine==cn.line)=true) r8_._auto_1)(hs:autoParam (starEach [e] X.env=(false,eval e X.env)::starEach [] X.env) r8_._auto_1)(iS:autoParam ((backTo cn (starEach [] X.env)).any (·.1)=false) r8_._auto_1): PE X (.Call (.Attribute o "split" apos) [e] [] cn) (oS K "str" O3 to t):=by subst h;exact qU U5 PySem.F.slot_str_split PySem.F.type_str_split a1d ho ha iX iW iV hs iS
inductive aau(x:V)(vs:List V)(H:Hp)(Q:VK):Prop |mk (z y:Str)(h0:x= .str z)(h1:vs=[.str y])(h3:z.length<=sizeLine)(h4:Q (.str (Txt.removeprefix z y)) H)
def O4:V->List V->Hp->VK->Prop:=λx vs H Q=>aau x vs H Q
theorem a1e:vk X "str.removeprefix" O4:=by intro ao s O H x0 vs v us Q I rx rv h;obtain⟨x,y,rfl,rfl,hz,q⟩:=h;obtain⟨t,rfl⟩:=rx;obtain⟨u0,rfl,u,rfl⟩:=vals1 rv;exact SC.removeprefix (λt' k=>⟨.str _,H,I.kept (t':=k) (λ_ _ e=>e),⟨_,Z⟩,q⟩) (hsz:=hz)
theorem Y5(K:aa)(h:X.K=K){o e:Expr}{to:TE}{t:TA}{apos cn:Pos}(ho:PE X o to)(ha:PA X [e] t) (iX:autoParam (attributeBase o "removeprefix" X.env (eval o X.env)=eval o X.env) r8_._auto_1) (iW:autoParam (((backTo cn (starEach [e] X.env)).all (λx=>!x.1)&&(backToKw cn (keywordEach [] X.env)).all (λx=>x.1.isSome) &&decide ([e].length+([]:List Keyword).length+(if([]:List Keyword).isEmpty then 0 else 1)<30))=true) r8_._auto_1) (iV:autoParam ((apos.endLine==cn.line)=true) r8_._auto_1)(hs:autoParam (starEach [e] X.env=(false,eval e X.env)::starEach [] X.env) r8_._auto_1)(iS:autoParam ((backTo cn (starEach [] X.env)).any (·.1)=false) r8_._auto_1): PE X (.Call (.Attribute o "removeprefix" apos) [e] [] cn) (oS K "str" O4 to t):=by subst h;exact qU U5 PySem.F.slot_str_removeprefix PySem.F.type_str_removeprefix a1e ho ha iX iW iV hs iS
inductive aaE(xs:List V)(H:Hp)(Q:VK):Prop |mk (z:Str)(n:Int)(h0:xs=[.str z])(h1:PySem.intText? z=some n)(h2:z.length<=640)(h3:Q (.int n) H)
theorem J6:eF X (.type "int") (λxs H Q=>aaE xs H Q):=by intro ao s O H xs us Q I r h;obtain⟨z,n,rfl,hn,hl,q⟩:=h;obtain⟨u,rfl,t,rfl⟩:=vals1 r;exact PySem.W.KIN.call_text hn hl ⟨.int _,H,I.tok _,⟨_,Z⟩,q⟩
inductive aaZ(K:aa)(t1 t2:TG)(v:V)(O:St)(H:Hp)(Q:St->Hp->Prop):Prop |mk (a:Addr)(x:V)(xs:List V)(h0:v= .ref a)(h1:aJ K H a (x::xs))(h2:xs.length<=16000)(h3:∀p H',Nw H H' p (.lst xs)->t1 x O H' λσ1 H1=>t2 (.ref p) σ1 H1 Q)
def a5D(K:aa)(t1 t2:TG):TG:=λv O H Q=>aaZ K t1 t2 v O H Q
theorem Og(K:aa)(hK:X.K=K){e1 e2:Expr}{k:Nat}{t1 t2:TG}{sp pos:Pos}(hc:X.calm=true)(h1:PG X e1 t1)(h2:PG X e2 t2) (hs:autoParam (assignEach [e1,.Starred e2 sp] X.env=[(false,assign e1 X.env),(true,assign e2 X.env)]) r8_._auto_1):PG X (.Tuple [e1,.Starred e2 sp] k pos) (a5D K t1 t2):=by subst hK;intro ao s O H v u Q I r hw;obtain⟨a,x,xs,e,hq,hl,hw⟩:=hw;subst e;cases r;obtain⟨its,rv,ht,hz⟩:=I.list hq;have hh:X.A.handled=none:=I.ok.hd hc;have xt:=ht.isList;cases rv with |cons r1 rr=>
 rename_i ux gM;have hlen:=rr.length;have cH:a≠s.heap.objs.size:=by obtain⟨o,ho,_⟩:=xt;exact eP (cm ho)
 rw[assign_Tuple];refine aM (BH ?_);unfold unpack;rw[hs];refine aM (jW ?_);show wpAny _ _ (unpackItems (.ref a) 2 (some 1)) _ _ _;unfold unpackItems;refine aM ?_;unfold notIterableAtAll;refine aM (wpAny_specialOf xt.typeIs slot_list_iter.lookup ?_);refine bV ?_;simp only[Bool.false_eq_true,if_false];refine aM (jW (yu xt ?_));have sz:(ux::gM).toArray.size=xs.length+1:=by rw[dR,gh,hlen]
 refine aM (jW (PySem.W.kun_draw cH 1 0 _ _ ⟨_,dX _ Z,Z,Z⟩ (xt.push _) bI λh₁ Hi Ql=>?_));have Qs:h₁.IsList a (ux::gM).toArray:=(xt.push _).extBut Ql.extBut cH;rw[Nat.zero_add]at Hi;have a3K:=Hi;obtain⟨oi,iT,_⟩:=a3K;have a3x:=Qs;obtain⟨ol,nY,_⟩:=a3x;rw[bh (by simp)];refine aM (jW (PySem.W.kun_collect (s:={s with heap:=h₁}) (T:="list_iterator") (.inr (.inr (.inl rfl))) (Walks.list (A:=X.A.in1) hh s.heap.objs.size a cH (ux::gM).toArray) (λj u st=>st.1.typeIs) (k:=1) bI ⟨Hi,Qs⟩ (cm iT) (cm nY) (λh₂ tk hk=>?_) (by rw[BN];omega)));have ea:(ux::gM).toArray.toList.drop 1=gM:=by simp
 rw[ea];show wpAny _ _ (if gM.length<2-1-1 then _ else _) _ _ _;rw[bh bI];show wpAny _ _ (newList (gM.take (gM.length-(2-1-1)))>>=λd=>pure ((ux::gM).toArray.toList.take 1++[d]++gM.drop (gM.length-(2-1-1)))) _ _ _;have eb:gM.take (gM.length-(2-1-1))=gM:=yF bI;have ec:gM.drop (gM.length-(2-1-1))=[]:=List.drop_eq_nil_of_le bI;rw[eb,ec];have he:Heap.ExtBut s.heap.objs.size s.heap h₂:=λb o hb e=>hk b o hb (Ql.extBut b o hb (cC _ e));refine aM (wpAny_newList (s:={s with heap:=h₂,toks:=tk}) (bV ?_) ?_)
 ·have I2:Inv X ao O H {s with heap:=h₂,toks:=tk}:=I.kept (t':=tk) λb o e=>he b o (eP (cm e)) e
  have nw:Nw H (upd H h₂.objs.size (.lst xs)) h₂.objs.size (.lst xs):=.of (I2.bB.fresh (bO _));have I3:Inv X ao O (upd H h₂.objs.size (.lst xs)) {s with heap:=h₂.push {cls:=.type "list",data:=.seq gM.toArray},toks:=tk}:=I2.laid (t':=tk) (o:=.lst xs) (λb ob q=>cC _ q) (bO _) ⟨by rw[gh]at hz;omega,gM,0,rr,dX _ rfl⟩;show wpAny _ _ (assignInOrder (assign e1 X.env::[assign e2 X.env]) (ux::[Value.ref h₂.objs.size])) _ _ _;refine BQ (ba (h1 ao _ O _ _ _ _ I3 r1 (hw _ _ nw)) λ_ s1 ⟨σ1,H1,I1,q1⟩=>?_);refine BQ (ba (h2 ao s1 σ1 H1 (.ref h₂.objs.size) _ _ I1 Z q1) λ_ s2 ⟨σ2,H2,I2,q2⟩=>?_);exact assignInOrder_nil ⟨σ2,H2,I2,q2⟩
 ·rw[<-hlen,BN];omega
end
end _L
namespace _T
open PySem PySem.Spec PyProof.Rows PySem.NumText
def Free(c:Nat)(z:Str):Prop:=c∉z.cps.toList
def gl(c:Nat):List (List Nat)->List Nat |[]=>[] |[x]=>x |x::y::r=>x++c::gl c (y::r)
theorem Ib(c:Nat):∀zs:List Str,(PySem.Str.join ⟨#[c]⟩ zs).cps.toList=gl c (zs.map λz=>z.cps.toList) |[]=>by simp[PySem.Str.join,PySem.Str.empty,gl] |[x]=>rfl |x::y::r=>by show((x++⟨#[c]⟩)++PySem.Str.join ⟨#[c]⟩ (y::r)).cps.toList=_;rw[vw,vw,vI,vI,Ib c (y::r)];show(x.cps.toList++[c])++gl c _=x.cps.toList++c::gl c _;rw[List.append_assoc];rfl
theorem Sh{c:Nat}:∀{a b r s:List Nat},c∉a->c∉b->a++c::r=b++c::s->a=b/\r=s |[],[],r,s,_,_,e=>by simpa using e |[],y::b,r,s,_,h,e=>by simp at e;exact(h (by rw[e.1];exact .head _)).elim |x::a,[],r,s,h,_,e=>by simp at e;exact(h (by rw[<-e.1];exact .head _)).elim |x::a,y::b,r,s,h1,h2,e=>by simp only[List.cons_append,List.cons.injEq]at e;obtain⟨e1,e2⟩:=Sh (λz=>h1 (.tail _ z)) (λz=>h2 (.tail _ z)) e.2;exact⟨by rw[e.1,e1],e2⟩
theorem QP{c:Nat}:∀{as bs:List (List Nat)},as≠[]->bs≠[]->(∀a∈as,c∉a)->(∀b∈bs,c∉b)->gl c as=gl c bs->as=bs
 |[],_,h,_,_,_,_=>(h Z).elim |_,[],_,h,_,_,_=>(h Z).elim |[a],[b],_,_,_,_,e=>by rw[show a=b from e] |[a],b::b'::r,_,_,ha,_,e=>by
  have:c∈a:=by rw[show a=b++c::gl c (b'::r)from e];simp
  exact(ha a (.head _) this).elim |a::a'::r,[b],_,_,_,hb,e=>by
  have:c∈b:=by rw[<-show a++c::gl c (a'::r)=b from e];simp
  exact(hb b (.head _) this).elim |a::a'::r,b::b'::s,_,_,ha,hb,e=>by obtain⟨e1,e2⟩:=Sh (ha a (.head _)) (hb b (.head _)) (show a++c::gl c (a'::r)=b++c::gl c (b'::s)from e);rw[e1,QP (by simp) (by simp) (λx hx=>ha x (.tail _ hx)) (λx hx=>hb x (.tail _ hx)) e2]
theorem J0{x y:Str}(h:x.cps.toList=y.cps.toList):x=y:=PySem.Str.ext' (Array.toList_inj.mp h)
theorem map_inj:∀{xs ys:List Str},xs.map (λz=>z.cps.toList)=ys.map (λz=>z.cps.toList)->xs=ys |[],[],_=>rfl |[],y::ys,h=>by simp at h |x::xs,[],h=>by simp at h |x::xs,y::ys,h=>by simp only[qr,List.cons.injEq]at h;rw[J0 h.1,map_inj h.2]
theorem KQ(x y:Str):Txt.split x y≠[]:=by
 unfold Txt.split;split
 ·simp
 ·split
  ·simp
  ·rw[StrLaws.partsBetween_eq]
   obtain⟨p,r,e⟩:=StrLaws.partsFrom_ne x y.length 0 (Builtin.Str.occurrences x y 0 x.length (x.length+1));rw[e];simp
theorem KR{c:Nat}{zs:List Str}(df:zs≠[])(hf:∀z∈zs,Free c z):Txt.split (Txt.join ⟨#[c]⟩ zs) ⟨#[c]⟩=zs:=by
 have e:=StrLaws.join_split (Txt.join ⟨#[c]⟩ zs) ⟨#[c]⟩;have fr:=StrLaws.split_free (Txt.join ⟨#[c]⟩ zs) c;have e2:Txt.join ⟨#[c]⟩ zs=PySem.Str.join ⟨#[c]⟩ zs:=yA _ _;have e3:=lN (λz:Str=>z.cps.toList) (e.trans e2);simp only[Ib]at e3;refine map_inj (QP (by simpa using KQ _ _) (by simpa using df) (λa ha=>?_) (λb hb=>?_) e3)
 ·obtain⟨z,hz,rfl⟩:=cW.mp ha
  exact fr z hz
 ·obtain⟨z,hz,rfl⟩:=cW.mp hb
  exact hf z hz
def numS(i:Int):Str:=Str.ofString (toString i)
def isFig(c:Nat):Bool:=decide (48<=c)&&decide (c<=57)
def figs(z:Str):List Nat:=match z.cps.toList with |45::r=>r |l=>l
def numIn? (z:Str):Option Int:=bif (figs z).isEmpty|| !(figs z).all isFig then none else bif decide ((figs z)[0]? =some 48)&& !decide (z="0")then none else intText? z
theorem Rk{cs:List Nat}(h:cs.all isFig=true):AllDigits cs:=λc hc=>by have:=fV.mp h c hc;simpa[isFig]using this
theorem S8{cs:List Nat}(h:AllDigits cs):cs.all isFig=true:=fV.mpr λc hc=>by have:=h c hc;simpa[isFig]using this
theorem Br(m:Nat):(numS (m:Int)).cps.toList=(Nat.toDigits 10 m).map Char.toNat:=PySem.W.KIN.signs_num m
theorem Bq(m:Nat):(numS (Int.negSucc m)).cps.toList=45::(Nat.toDigits 10 (m+1)).map Char.toNat:=by unfold numS;rw[signs_ofString];show("-"++Nat.repr (m+1)).toList.map Char.toNat=_;rw[String.toList_append,mV,Nat.toList_repr];rfl
theorem oz(m:Nat):AllDigits ((Nat.toDigits 10 m).map Char.toNat):=λc hc=>by obtain⟨ch,kx,e⟩:=cW.mp hc;have r:=digit_range (Nat.isDigit_of_mem_toDigits az az kx);rw[<-e];exact r
theorem Bn(m:Nat):(Nat.toDigits 10 m).map Char.toNat≠[]:=λe=>by have h:=toDigits_len_ge 10 m;rw[List.map_eq_nil_iff.mp e]at h;exact absurd h az
theorem a7J:∀d:Nat,d<10->d≠0->(Nat.digitChar d).toNat≠48:=by decide
theorem PM(m:Nat)(h0:m≠0):((Nat.toDigits 10 m).map Char.toNat)[0]? ≠some 48:=by induction m using Nat.strongRecOn with |_ m ih=>
 by_cases h:m<10
 ·rw[Nat.toDigits_of_lt_base h]
  simpa using a7J m h h0
 ·have hm:m%10<10:=Nat.mod_lt m az
  have t:Nat.toDigits 10 (m/10)++Nat.toDigits 10 (m%10)=Nat.toDigits 10 (10*(m/10)+m%10):=Nat.toDigits_append_toDigits az bI hm;rw[Nat.div_add_mod]at t;rw[<-t,mV,vE (C0.mpr (Bn _))];exact ih (m/10) bI bI
theorem a7F(m:Nat):((Nat.toDigits 10 m).map Char.toNat).head? ≠some 45:=λe=>by have:=oz m 45 (List.mem_of_mem_head? e);omega
theorem a5P{z:Str}{l:List Nat}(h:z.cps.toList=l)(hh:l.head? ≠some 45):figs z=l:=by
 unfold figs;rw[h];split
 ·simp at hh
 ·rfl
theorem a5R(m:Nat):figs (numS (m:Int))=(Nat.toDigits 10 m).map Char.toNat:=a5P (Br m) (a7F m)
theorem a5Q(m:Nat):figs (numS (Int.negSucc m))=(Nat.toDigits 10 (m+1)).map Char.toNat:=by unfold figs;rw[Bq];rfl
theorem RS(m:Nat):((Nat.toDigits 10 m).map Char.toNat).isEmpty=false:=by have:=Bn m;cases h:(Nat.toDigits 10 m).map Char.toNat with |nil=>exact(this h).elim |cons=>rfl
theorem G2{i:Int}(hl:(numS i).length<=4300):numIn? (numS i)=some i:=by unfold numIn?;cases i with
 |ofNat m=>
  have ef:figs (numS (Int.ofNat m))=(Nat.toDigits 10 m).map Char.toNat:=a5R m;have ec:(numS (Int.ofNat m)).cps.toList=(Nat.toDigits 10 m).map Char.toNat:=Br m;have e:=intText_digits (x:=numS (Int.ofNat m)) (by rw[ec];exact oz m) (by rw[ec];exact Bn m) hl;rw[ec,PySem.W.KIN.val_back]at e;rw[ef,S8 (oz m),RS,e];have h2:(decide (((Nat.toDigits 10 m).map Char.toNat)[0]? =some 48)&& !decide (numS (Int.ofNat m)="0"))=false:=by
   by_cases h0:m=0
   ·subst h0;decide+kernel
   ·rw[dE (PM m h0)];rfl
  rw[h2];rfl |negSucc m=>have e:=intText_neg (x:=numS (Int.negSucc m)) (Bq m) (oz (m+1)) (Bn (m+1)) hl;rw[PySem.W.KIN.val_back]at e;rw[a5Q,S8 (oz (m+1)),RS,dE (PM (m+1) bI),e];exact lN some (Int.negSucc_eq m).symm
theorem qZ{i:Int}{c:Nat}(h:c≠45)(h1:c<48):Free c (numS i):=λhc=>by cases i with |ofNat m=>rw[show(numS (Int.ofNat m)).cps.toList=_ from Br m]at hc;have:=oz m c hc;omega |negSucc m=>
 rw[Bq]at hc;rcases cj.mp hc with e|hc
 ·exact h e
 ·have:=oz (m+1) c hc
  omega
theorem a2C{z:Str}(h1:figs z≠[])(h2:(figs z).all isFig=true)(hl:z.length<=4300):∃n,intText? z=some n:=by
 unfold figs at h1 h2;split at h1
 ·rename_i r h
  rw[h]at h2;exact⟨_,intText_neg h (Rk h2) h1 hl⟩
 ·rename_i h
  split at h2
  ·rename_i r h'
   exact(h r h').elim
  ·exact⟨_,intText_digits (Rk h2) h1 hl⟩
theorem X5(z:Str):(Txt.removeprefix z "-").cps.toList=figs z:=by
 rw[StrLaws.removeprefix_eq];have e1:(Str.ofString "-").cps.toList=[45]:=by decide+kernel
 have e2:(Str.ofString "-").length=1:=by decide+kernel
 have hn:z.cps.toList.length=z.length:=by simp[Str.length]
 rw[e2,StrLaws.subAt_eq,e1,e2,List.drop_zero];unfold figs;cases hz:z.cps.toList with |nil=>rw[hz]at hn;have h0:z.length=0:=hn.symm;rw[bh (by simp)];exact hz |cons a r=>
  rw[hz]at hn;simp only[gh]at hn;by_cases ha:a=45
  ·subst ha
   rw[bf (by simp;omega)];show((List.drop 1 (45::r)).take _).toArray.toList=r;rw[List.drop_one,List.tail_cons,yF bI]
  ·rw[bh (by simp;intro _;exact λe=>ha (by simpa using e))]
   rw[hz];split
   ·rename_i h;simp at h;exact(ha h.1).elim
   ·rfl
end _T
namespace _L
open PySem PySem.Spec PyProof.Rows
inductive a91(tb:TE)(O:St)(Q:VK)(x:V)(H1:Hp):Prop |mk (z:Str)(h0:x= .str z)(h1:z.length<=16777216)(h2:if z="" then tb O H1 Q else Q (.str z) H1)
def Vt(ta tb:TE):TE:=λO H Q=>ta O H λx H1=>a91 tb O Q x H1
theorem VS{z:Str}(h:z.length=0):z="":=_T.J0 (by have:z.cps.size=0:=h;rw[Array.eq_empty_of_size_eq_zero this];rfl)
theorem FJ{X:Cx}{a b:Expr}{rest:List Expr}{pos:Pos}{ta tb:TE}(ha:PE X a ta)(hb:PE X (.BoolOp .Or (b::rest) pos) tb):PE X (.BoolOp .Or (a::b::rest) pos) (Vt ta tb):=by
 intro ao s O H Q I h;refine BoolOp_or (ba (ha ao s O H _ I h) λv s1 ⟨x,H1,I1,r1,q1⟩=>?_);obtain⟨z,rfl,hl,q1⟩:=q1;obtain⟨t,rfl⟩:=(show∃t,v=Value.str z t from r1);refine P.truthy_str bI ?_;by_cases e:z=""
 ·rw[bf e]at q1
  subst e;exact hb ao _ O H1 Q (I1.tok _) q1
 ·rw[bh e]at q1
  have:((z.length:Int) !=0)=true:=by rw[bne_iff_ne];intro h0;exact e (VS bI)
  rw[this];exact⟨.str z,H1,I1.tok _,⟨t,Z⟩,q1⟩
section
variable {P:af}{w:World}{K:aa}{mg:bD}{au:Heap}{k:Nat}{sp:Sp}{C:Addr}{x m:Str}{f:Addr}{fd:FuncData}{ps:List Str}
theorem eD.d(F:eD P w K mg au gW k f fd ps sp):eD P w K mg au (iE P w) k f fd ps sp:=⟨F.len,λA outer s H args us vs Q E hr he hb hv hs=>vq (F.run A outer s H args us vs Q E hr he hb hv hs) λr s' hq=>by cases r with |ok fl=>cases fl<;>exact hq |error e=>exact hq.elim⟩
theorem eD.n(F:eD P w K mg au (iE P w) k f fd ps sp):eD P w K mg au gW k f fd ps (λvs H Q _=>sp vs H Q E0):=⟨λvs H Q E h=>F.len vs H Q E0 h,λA outer s H args us vs Q E hr he hb hv hs=>vq (F.run A outer s H args us vs Q E0 hr he hb hv hs) λr s' hq=>by cases r with |ok fl=>cases fl<;>exact hq |error e=>obtain⟨_,_,_,_,_,_,_,_,_,_,z⟩:=hq;exact z⟩
theorem aB.d(F:aB P w K mg au x k sp):qp P w K mg au x k sp:=by obtain⟨f,fd,ps,F,h1,h2,h3⟩:=F;exact⟨f,fd,ps,F.d,h1,h2,h3⟩
theorem qp.le{j:Nat}(F:qp P w K mg au x k sp)(h:k<=j):qp P w K mg au x j sp:=by obtain⟨f,fd,ps,F,h1,h2,h3⟩:=F;exact⟨f,fd,ps,F.mono h,h1,h2,h3⟩
theorem ja.n(F:ja P w K mg au C m k sp):bP P w K mg au C m k (λvs H Q _=>sp vs H Q E0):=by obtain⟨f,fd,ps,F,h1,h2⟩:=F;exact⟨f,fd,ps,F.n,h1,h2⟩
end
end _L
namespace _L
open PySem PySem.Spec PyProof.Rows PySem.W
section
variable {P:af}{w:World}{K:Frag}{mg:bD}{au:Heap}{N:List Str}{qual:Str}{scope:Scope}{f:Addr}{cd:Value}{cl:List (Str×Addr)}{A:ai}{outer:List Env}{s:ae}{H:Hp}{E E0:XK}
end
section
variable {X:Cx}{x:Str}{p pos:Pos}{E:XK}
end
section
variable {X:Cx}{ao:List (Addr×Obj)}{O:St}{H:Hp}{s:ae}{pr:Arguments}{bd:Expr}{sc:Scope}{Po:Pos}{cl:List (Str×Addr)}{T c:Addr}{q:Str}
end
section
variable {X:Cx}{k:Nat}{x:Str}{p pos Po:Pos}{pr:Arguments}{bd:Expr}{sc:Scope}{sp:SpH}{T c:Addr}{q:Str}{N:List Str}
end
section
variable {P:af}{w:World}{K:Frag}{mg:bD}{au:Heap}
end
end _L
namespace _L
open PySem PySem.Spec PyProof.Rows
section
variable {P:af}{w:World}{K:aa}{mg:bD}{au:Heap}{N:List Str}{qual:Str}{scope:Scope}{f:Addr}{cd:Value}{A:ai}{outer:List Env}{s:ae}{H:Hp}{E:XK}{ao:List (Addr×Obj)}{O:St}{H1:Hp}{s1:ae}{ex:Addr}{C:Addr}{dx:Addr}{φ:Heap->Prop}{cls:Value}{dxo:Option Addr}{h2:Heap}{vs:List Value}
theorem C8(I:Inv (gy (iE P w) P w K mg au N qual scope f cd A outer s H E) ao O H1 s1)(hx:Heap.MadeExcOf s1.heap h2 ex cls vs)(q:E cls none H1):(gy (iE P w) P w K mg au N qual scope f cd A outer s H E).xe (.ref ex) {s1 with heap:=h2}:=by
 obtain⟨t,e1,_⟩:=hx.there;have hf:H1 ex=none:=by cases e:H1 ex with |none=>rfl |some o=>obtain⟨ob,e2⟩:=(I.bB ex o e).there;rw[hx.new]at e2;cases e2
 have nw:s.heap.get? ex=none:=by cases e:s.heap.get? ex with |none=>rfl |some o=>obtain⟨ob,e2⟩:=I.au.there ex o e (eQ);rw[hx.new]at e2;cases e2
 have I2:=I.kept (t':=s1.toks) hx.keeps;have gb:h2.FunFrames au (envOfC qual scope s.heap.objs.size f cd::outer):=I2.stack;have Hn:∀env∈(envOfC qual scope s.heap.objs.size f cd::outer),∀b,env.frame=some b->b∈ex::ek (envOfC qual scope s.heap.objs.size f cd::outer):=λenv he b hb=>.tail _ (mT.mpr ⟨env,he,hb⟩);have hB:(PySem.W.hideAll h2 (ex::ek (envOfC qual scope s.heap.objs.size f cd::outer))).StaysIn h2:=λb o e=>PySem.W.of_hideAll _ e;have pj:∀b o,s.heap.get? b=some o->b∉ek outer->b∉ex::ek (envOfC qual scope s.heap.objs.size f cd::outer):=λb o e hb hm=>by
  rcases cj.mp hm with rfl|hm
  ·rw[nw]at e;cases e
  obtain⟨env,he,hf⟩:=mT.mp hm;rcases cj.mp he with rfl|he
  ·have e1:s.heap.objs.size=b:=dG hf
   have h1:=cm e;rw[<-e1]at h1;exact absurd h1 (t9 _)
  ·exact hb (mT.mpr ⟨env,he,hf⟩)
 have F0:Fl P w outer H s.heap ex H1 (PySem.W.hideAll h2 (ex::ek (envOfC qual scope s.heap.objs.size f cd::outer))) h2:=by
  refine⟨I2.au,I2.bB,λb o e n hb=>JL _ (I2.au.keep b o e n hb (eQ)) (pj b o e hb),λb o e=>?_,λb o e hb=>?_,λb hb=>?_,nw,hf⟩
  ·obtain⟨FZ,e1⟩:=(I2.bB b o e).there
   refine⟨FZ,JL _ e1 λhm=>?_⟩;rcases cj.mp hm with z|hm
   ·rw[z,hf]at e;cases e
   ·rw[I2.zq b hm]at e
    cases e
  ·obtain⟨FZ,e1⟩:=I2.au.there b o e (eQ)
   exact⟨FZ,JL _ e1 (pj b o e hb)⟩
  ·obtain⟨env,he,hf⟩:=mT.mp hb
   exact I2.zq b (mT.mpr ⟨env,.tail _ he,hf⟩)
 show wpAny (model P w) (A.deeper (envOfC qual scope s.heap.objs.size f cd)) (leaving (envOfC qual scope s.heap.objs.size f cd) (.ref ex)) _ _ _;refine a29 (L:=s.heap.objs.size) I.ok.frames (PySem.W.funFrames_hide gb Hn) Z e1 hB (PySem.W.hideAll_none _ (.head _)) Z Z Z λh' x1 x2=>?_;exact⟨ex,cls,none,H1,_,Z,I.os,I.bare,x1,F0.step hB x1.1 x2 gb.2.2,q⟩
end
section
variable {X:Cx} {sc:Scope}
end
end _L
namespace _t
open _l
end _t
namespace _b
open PySem PySem.Spec PyProof.Rows _L
def top(i:Nat):Stmt:=PySem.Challenge.pw_glidequeue_k56_asked_at_a_desk.main.body.getD i (.Pass ⟨0,0,0,0⟩)
section
variable {P:af}{w:World}{K:aa}{mg:bD}{au:Heap}
inductive a9g(vs:List V)(H:Hp)(Q:VK):Prop |mk (p:_)(many:_)(h0:vs=[.ref p,.int many])(h1:ft H p)(h2:1<=many)(h3:many<=10^40)(h4:∀d H',0<=d->d<many->bN p H H'->Q (.int d) H')
def lV:Sp:=λvs H Q _=>a9g vs H Q
abbrev Dk:Stmt:=top 106
theorem LU:aW ["_law_bag_here","_law_many","_law_digit","_law_number","_law_room"] ["_law_bag_here","_law_many"] (aP Dk):=bj aI
theorem YG(F:FA K mg "_law_take" Dk)(B:bC mg):aB P w K mg au "_law_take" 1 lV:=by
 refine F.has LU (λvs H Q E h=>?_) (λ_ _ _ _ _ _=>dF λ_ _=>rfl) (λf aH A outer s H vs Q E hr h=>?_)
 ·obtain⟨p,many,rfl,_⟩:=h
  rfl
 ·obtain⟨p,many,rfl,⟨c,m,hp,ok⟩,h1,h2,k⟩:=h
  obtain⟨c0,m0,m1⟩:=id ok;have nd:=LU.nd;refine⟨_,(aE (bJ (bX OD (px K (pv 0) aF) aF (bL _)) (aE (pS 2 nd (aQ p7 (px K (pv 0) aF) (pv 1))) (aE (eL (aQ uh (px K (pv 0) aF) (pv 1)) (qT (pv 0) aF set_list)) (aK (aR (pv 2))))) bK) (aE (pS 3 nd aF) (aE (pS 4 nd aF) (aE (u9 ie (bX m7 (pv 4) (pv 1) (bL _)) (aE (eL (aQ p7 (aQ Ac (aQ dP (aQ cB (px K (pv 0) aF) aF) aF) aF) aF) (qT (pv 0) aF set_list)) (aE (pS 3 nd (aQ dP (aQ cB (pv 3) aF) (aQ p7 (aQ cB (aQ uh (px K (pv 0) aF) aF) aF) aF))) (aK (pS 4 nd (aQ cB (pv 4) aF)))))) (aK (aR (aQ p7 (pv 3) (pv 1)))))))),?_⟩;refine⟨_,Z,.inl ⟨p,_,0,.int c,Z,Z,aJ.of hp,Z,_,_,Z,Z,_,Z,?_⟩⟩;refine fc (λhc=>?_) (λ_=>?_)
  ·refine⟨_,Z,.inl ⟨p,_,0,.int c,Z,Z,aJ.of hp,Z,_,Z,_,_,Z,Z,h1,?_⟩⟩
   refine⟨_,Z,.inl ⟨p,_,0,.int c,Z,Z,aJ.of hp,Z,_,Z,_,_,Z,Z,⟨h1,Kb aw h2⟩,?_⟩⟩;refine⟨_,Z,p,_,0,0,Z,Z,hp,Z,?_⟩;refine⟨_,Z,?_⟩;exact k _ _ (qv _ aw) (tm _ aw) (bN.upd ⟨Int.ediv_nonneg c0 aw,m0,m1⟩)
  ·refine tD (λO H2=>∃(v:Option V)(n r:Int),O=[some (.ref p),some (.int many),v,some (.int n),some (.int r)]/\bN p H H2/\1<=r) (λO _=>match O with|[_,_,_,_,some (.int r)]=>(many-r).toNat|_=>0) ?_ ?_ ?_
   ·exact⟨none,0,1,Z,.refl ⟨c,m,hp,ok⟩,dY _⟩
   ·rintro O H2 ⟨v,n,r,rfl,bx,AO⟩
    obtain⟨c',m',AS,c0',m0',m1'⟩:=id bx.bM;refine⟨_,Z,_,Z,_,_,Z,Z,_,Z,?_⟩;refine fc (λhc=>?_) (λhc=>?_)
    ·have cH:r<many:=lM hc
     refine⟨_,Z,.inl ⟨p,_,1,.int m',Z,Z,aJ.of AS,Z,_,_,Z,Z,.of_right (du az az),_,_,Z,Z,_,_,Z,Z,⟨az,az,?_⟩,_,_,Z,Z,(by show(0:Int)<2147483629;decide),?_⟩⟩
     ·have oh:(2:Nat)^64=18446744073709551616:=by decide
      rw[oh];lia
     refine⟨_,Z,p,_,1,1,Z,Z,AS,Z,?_⟩;have g0:0<=((m'*48271+7919)^(3:Int).toNat)%2147483629:=qv _ az;have g1:((m'*48271+7919)^(3:Int).toNat)%2147483629<2147483629:=tm _ az;have bx2:bN p H (_L.upd H2 p (.lst [.int c',.int (((m'*48271+7919)^(3:Int).toNat)%2147483629)])):=bx.trans (.upd ⟨c0',g0,Int.lt_trans g1 az⟩);refine⟨_,Z,_,_,Z,Z,.of_right (du az az),_,Z,.inl ⟨p,_,1,.int _,Z,Z,aJ.of bW,Z,_,_,Z,Z,⟨az,Kb az az⟩,_,_,Z,Z,.of_right (du az az),_,_,Z,Z,(by show(0:Int)<1073741789;decide),_,_,Z,Z,?_⟩⟩;refine⟨_,Z,_,_,Z,Z,.of_right (du az az),?_⟩;refine⟨⟨v,_,_,Z,bx2,?_⟩,?_⟩
     ·lia
     ·show(many-r*1073741789).toNat<(many-r).toNat
      lia
    ·refine⟨_,Z,_,Z,_,_,Z,Z,h1,?_⟩
     exact k _ _ (qv _ aw) (tm _ aw) bx
   ·rintro O H2 Q1 Q2 hq ⟨v1,e1,v2,e2,i,j,e3,e4,kk,e5,q⟩
    exact⟨v1,e1,v2,e2,i,j,e3,e4,kk,e5,hq _ _ q⟩
inductive aam(K:aa)(vs:List V)(H:Hp)(Q:VK):Prop |mk (a:Addr)(ns:List Int)(at':Int)(h0:vs=[.ref a,.int at'])(h1:aJ K H a (ns.map V.int))(h2:ns.length<=63)(h3:0<=at')(h4:at'<=100)(h5:∀p H',H p=none->ft H' p->aD H H'->Q (.ref p) H')
def Ly(K:aa):Sp:=λvs H Q _=>aam K vs H Q
abbrev EJ:Stmt:=top 105
theorem N5:aW ["_law_script","_law_at","_law_cell","_law_mix","_law_k"] ["_law_script","_law_at"] (aP EJ):=bj aI
theorem Qa{ns:List Int}{j:Nat}(h:j<ns.length):∃z,eZ (ns.map V.int) (j:Int)=some (.int z):=⟨ns[j],a8w (by simp[h])⟩
theorem a04(F:FA K mg "_law_bag" EJ)(B:bC mg):aB P w K mg au "_law_bag" 1 (Ly K):=by
 refine F.has N5 (λvs H Q E h=>?_) (λ_ _ _ _ _ _=>dF λ_ _=>rfl) (λf aH A outer s H vs Q E hr h=>?_)
 ·obtain⟨a,ns,at',rfl,_⟩:=h
  rfl
 ·obtain⟨a,ns,at',rfl,hS,hlen,h0,h1,k⟩:=h
  obtain⟨j,rfl⟩:∃j:Nat,at'=(j:Int):=⟨at'.toNat,aw⟩;have nd:=N5.nd;refine⟨_,(aE (pS 2 nd aF) (aE (iO (bJ (bX m7 (pv 1) (fF K B (ak (pv 0) ay)) (bL _)) (aK (pS 2 nd (dy (x:="abs") uY Z (B.at "abs") yD (ak (px K (pv 0) (pv 1)) ay)))) bK)) (aE (pS 3 nd (aQ dP (aQ dP (aQ cB (aQ cB aF (pv 1)) (pv 1)) (aQ cB aF (pv 1))) aF)) (aE (kf ie Z (p4 Z (B.at "range") (ak (dy (x:="min") (J5 rfl) rfl (B.at "min") Ua (ak (fF K B (ak (pv 0) ay)) (ak aF ay))) ay)) (bo 4 nd) (aK (pS 3 nd (aQ p7 (aQ Ac (aQ dP (aQ dP (aQ cB (pv 3) aF) (aQ p7 (px K (pv 0) (pv 4)) aF)) (aQ cB (pv 4) (pv 4))) aF) aF)))) (aE (iO (bJ (bX m7 (pv 2) (aQ Ac aF aF) (bL _)) (aK (pS 2 nd aF)) bK)) (aK (aR (da (ak (pv 2) (ak (pv 3) ay)))))))))),?_⟩;refine⟨λO H'=>H'=H/\∃c:Int,O=[some (.ref a),some (.int (j:Int)),some (.int c),none,none]/\0<=c,?_,?_⟩
  ·refine⟨_,Z,_,Z,a,_,Z,.inl hS,_,_,Z,Z,_,Z,?_⟩
   refine fc (λhc=>?_) (λ_=>?_)
   ·have hj:(j:Int)<((ns.map V.int).length:Int):=lM hc
    rw[bS]at hj;obtain⟨z,hz⟩:=Qa (ns:=ns) (j:=j) aw;refine⟨_,Z,_,Z,.inl ⟨a,_,_,_,Z,Z,hS,hz,z,Z,?_⟩⟩;exact⟨Z,_,Z,by split<;>lia⟩
   ·exact⟨Z,0,Z,dY _⟩
  rintro O H' ⟨rfl,c,rfl,c0⟩;refine⟨_,Z,_,_,Z,Z,.of_left (du az az),_,Z,_,_,Z,Z,.of_right (du aw aw),_,Z,_,_,Z,Z,.of_left (du az az),_,_,Z,Z,_,_,Z,Z,?_⟩;refine⟨_,Z,a,_,Z,.inl hS,_,_,Z,_,Z,?_,?_,?_⟩
  ·split<;>lia
  ·split<;>(try rw[bS])<;>lia
  refine Bc (Pv:=λi O H2=>H2=H'/\∃(m:Int)(v:Option V),O=[some (.ref a),some (.int (j:Int)),some (.int c),some (.int m),v]/\0<=m/\m<2147483648) ?_ ?_ ?_
  ·refine⟨Z,_,none,Z,?_,?_⟩
   ·have:(0:Int)<=(j:Int)*(j:Int):=jY aw aw
    rw[C3];lia
   ·have:(j:Int)*(j:Int)<=100*100:=yK aw aw aw aw
    rw[C3];lia
  ·rintro i O H2 hi ⟨rfl,m,v,rfl,m0,m1⟩
   have pK:i<ns.length:=by rw[bS]at hi;split at hi<;>lia
   obtain⟨z,hz⟩:=Qa (ns:=ns) (j:=i) pK;rw[<-Int.zero_add (i:Int)]at hz;have Qh:0<=z%2147483647:=qv _ az;have hz1:z%2147483647<2147483647:=tm _ az;have a3R:(0:Int)<=(0+(i:Int))*(0+(i:Int)):=jY aw aw;have hii:(0+(i:Int))*(0+(i:Int))<=100*100:=yK aw aw aw aw;refine⟨_,Z,_,_,Z,Z,.of_right (du az az),_,Z,_,Z,.inl ⟨a,_,_,_,Z,Z,hS,hz,_,_,Z,Z,(by show(0:Int)<2147483647;decide),_,_,Z,Z,_,Z,_,Z,_,_,Z,Z,.of_right (du aw aw),_,_,Z,Z,_,_,Z,Z,⟨az,az,?_⟩,_,_,Z,Z,(by show(0:Int)<2147483629;decide),?_⟩⟩
   ·have oh:(2:Nat)^64=18446744073709551616:=by decide
    rw[oh];generalize(0+(i:Int))*(0+(i:Int))=ii at a3R hii⊢;generalize z%2147483647=zz at Qh hz1⊢
    lia
   ·exact⟨Z,_,_,Z,qv _ az,Int.lt_trans (tm _ az) az⟩
  ·rintro O H2 ⟨rfl,m,v,rfl,m0,m1⟩
   refine⟨λO H3=>H3=H2/\∃c:Int,O=[some (.ref a),some (.int (j:Int)),some (.int c),some (.int m),v]/\0<=c,?_,?_⟩
   ·refine⟨_,Z,_,_,Z,Z,⟨az,az,az⟩,_,_,Z,Z,_,Z,?_⟩
    refine fc (λhc=>?_) (λ_=>?_)
    ·exact⟨Z,0,Z,dY _⟩
    ·exact⟨Z,c,Z,c0⟩
   rintro O H3 ⟨rfl,c,rfl,c0⟩;refine⟨_,Z,_,Z,(by show 2<=sizeLine;decide),λp H4 nw=>?_⟩;exact k p H4 nw.no ⟨c,m,nw.at',c0,m0,m1⟩ nw.same
inductive aad(vs:List V)(H:Hp)(Q:VK):Prop |mk (a:Int)(b:Int)(h0:vs=[.int a,.int b])(h1:Q (.int (Int.gcd a b)) H)
def CS:Sp:=λvs H Q _=>aad vs H Q
inductive a9R(vs:List V)(H:Hp)(Q:VK):Prop |mk (a:Int)(b:Int)(h0:vs=[.int a,.int b])(h1:b≠0)(h2:Wd b)(h3:∀t H',Nw H H' t (.tup [.int (_A.lowP a b),.int (_A.g9 a b)])->Q (.ref t) H')
def tQ:Sp:=λvs H Q _=>a9R vs H Q
def xc(T:String):Bool:=iM T "int"&& !iM T "bool"
inductive aa1(K:aa)(vs:List V)(H:Hp)(Q:VK):Prop |mk (v:_)(T:_)(h0:vs=[v])(h1:sN K H v T)(h2:Q (.bl (xc T)) H)
def zE(K:aa):Sp:=λvs H Q _=>aa1 K vs H Q
abbrev EF:Stmt:=top 48
theorem N1:aW ["p","q","high","low"] ["p","q"] (aP EF):=bj aI
theorem a00(F:FA K mg "common_divisor" EF)(B:bC mg):aB P w K mg au "common_divisor" 1 CS:=by
 refine F.has N1 (λvs H Q E h=>?_) (λ_ _ _ _ _ _=>dF λ_ _=>rfl) (λf aH A outer s H vs Q E hr h=>?_)
 ·obtain⟨a,b,rfl,_⟩:=h
  rfl
 ·obtain⟨a,b,rfl,k⟩:=h
  have nd:=N1.nd;refine⟨_,(aE (FG (i:=2) (j:=3) Z nd Z Z az Z Z (ak (dy (x:="abs") uY Z (B.at "abs") yD (ak (pv 0) ay)) (ak (dy (x:="abs") uY rfl (B.at "abs") yD (ak (pv 1) ay)) ay)) rfl) (aE (u9 ie (bX (m9 K Z hr.units) (pv 3) aF (bL _)) (aK (FG (i:=2) (j:=3) Z nd Z Z az Z Z (ak (pv 3) (ak (aQ p7 (pv 2) (pv 3)) ay)) Z))) (aK (aR (pv 2))))),?_⟩;refine⟨_,Z,_,Z,_,Z,_,Z,_,_,Z,?_⟩;refine tD (λO H2=>H2=H/\∃(x y:Int),O=[some (.int a),some (.int b),some (.int x),some (.int y)]/\0<=x/\0<=y/\Int.gcd x y=Int.gcd a b) (λO _=>match O with|[_,_,_,some (.int y)]=>y.natAbs|_=>0) ?_ ?_ ?_
  ·refine⟨Z,_,_,Z,by split<;>lia,by split<;>lia,?_⟩
   have h1:(if a<0 then-a else a).natAbs=a.natAbs:=by split<;>lia
   have h2:(if b<0 then-b else b).natAbs=b.natAbs:=by split<;>lia
   unfold Int.gcd;rw[h1,h2]
  ·rintro O H2 ⟨rfl,x,y,rfl,x0,y0,e⟩
   refine⟨_,Z,.inl ⟨_,_,Z,Z,_,Z,?_⟩⟩;refine fc (λhc=>?_) (λhc=>?_)
   ·have hy:y≠0:=by simpa using hc
    have rK:0<y:=by lia
    refine⟨_,Z,_,Z,_,Z,_,_,Z,Z,rK,_,_,Z,?_⟩;refine⟨⟨Z,_,_,Z,y0,qv _ hy,(_A.a5l rK).trans e⟩,?_⟩;show(x%y).natAbs<y.natAbs;have:=qv x hy;have:=tm x rK
    lia
   ·have hy:y=0:=by simpa using hc
    subst hy;refine⟨_,Z,?_⟩;rw[Int.gcd_zero_right]at e;have e2:x=((Int.gcd a b:Nat):Int):=by lia
    rw[e2];exact k
  ·rintro O H2 Q1 Q2 hq ⟨v1,e1,h⟩
   refine⟨v1,e1,?_⟩;rcases h with⟨i,j,e3,e4,kk,e5,q⟩|⟨d,e,r1,r2,s1,s2,kk,e5,q⟩
   ·exact .inl ⟨i,j,e3,e4,kk,e5,hq _ _ q⟩
   ·exact .inr ⟨d,e,r1,r2,s1,s2,kk,e5,hq _ _ q⟩
abbrev Em:Stmt:=top 14
theorem ML:aW ["thing"] ["thing"] (aP Em):=bj aI
theorem ZD(F:FA K mg "is_whole" Em)(B:bC mg):aB P w K mg au "is_whole" 1 (zE K):=by
 refine F.has ML (λvs H Q E h=>?_) (λ_ _ _ _ _ _=>cw λ_=>rfl) (λf aH A outer s H vs Q E hr h=>?_)
 ·obtain⟨v,T,rfl,_⟩:=h
  rfl
 ·obtain⟨v,T,rfl,ty,k⟩:=h
  have nd:=ML.nd;refine⟨_,(aK (aR (uf (nH K B (ak (pv 0) (ak (m6 (x:="int") (v:=.ty "int") Z (B.at "int") vx rfl) ay))) (p5 (XW (nH K B (ak (pv 0) (ak (m6 (x:="bool") (v:=.ty "bool") rfl (B.at "bool") PyProof.Rows.boot_bool rfl) ay)))))))),?_⟩;refine⟨_,Z,.inl ⟨_,T,"int",_,Z,ty,az,Z,_,Z,?_⟩⟩;unfold xc at k;refine fc (λhc=>?_) (λhc=>?_)
  ·refine⟨_,Z,.inl ⟨_,T,"bool",_,Z,ty,az,Z,_,Z,?_⟩⟩
   rw[hc,ij]at k;exact k
  ·rw[C4.mpr hc,ip]at k
   exact k
open _l
def eX(ns:List Int)(sp:Int):ah:=.tuple [.str "line",.tuple (ns.map PyData.int),.int sp]
theorem PD(ns:List Int)(sp:Int):eM (eX ns sp)=true:=by simp[eX,eM,cy,nP]
structure eO(ax:Nat)(m:Int)(ns:List Int):Prop where
 len:ns.length=ax
 bd:∀z∈ns,(z.natAbs:Int)<=m
 nz:∃z∈ns,z≠0
theorem eO.lead{ax:Nat}{m:Int}{ns:List Int}(h:eO ax m ns):0<aO ns/\(aO ns:Int)<=m:=by
 refine⟨a2b h.nz,?_⟩;have hm:0<=m:=by obtain⟨z,hz,_⟩:=h.nz;have:=h.bd z hz;lia
 have:=nT (ns:=ns) (m:=m.toNat) λz hz=>by have:=h.bd z hz;lia
 lia
theorem eO.ne{ax:Nat}{m:Int}{ns:List Int}(h:eO ax m ns):ns≠[]:=by obtain⟨z,hz,_⟩:=h.nz;intro e;subst e;cases hz
theorem uC{H:Hp}{v:V}{ns:List Int}{sp:Int}(h:RD K H v (eX ns sp)):∃a b,v= .ref a/\aZ K H a [.str "line",.ref b,.int sp]/\aZ K H b (ns.map V.int):=by obtain⟨a,xs,rfl,h1,h2⟩:=h.cJ;obtain⟨x1,r1,rfl,e1,h2⟩:=h2.cons_inv;obtain⟨x2,r2,rfl,e2,h2⟩:=h2.cons_inv;obtain⟨x3,r3,rfl,e3,h2⟩:=h2.cons_inv;cases h2.nil_inv;cases e1.str_inv;cases e3.int_inv;obtain⟨b,ys,rfl,h3,h4⟩:=e2.cJ;rw[h4.gJ]at h3;exact⟨a,b,Z,h1,h3⟩
inductive a9U(K:aa)(vs:List V)(H:Hp)(Q:VK):Prop |mk (v:_)(ns:_)(sp:_)(h0:vs=[v])(h1:RD K H v (eX ns sp))(h2:ns≠[])(h3:ns.length<=1000)(h4:∀H',aD H H'->Q (.int (aO ns)) H')
def nk(K:aa):Sp:=λvs H Q _=>a9U K vs H Q
theorem rE{ns:List Int}{f:Int->ah}{i:Nat}{d:ah}(h:(ns.map f)[i]? =some d):∃n,ns[i]? =some n/\f n=d:=by rw[bQ]at h;cases e:ns[i]? with |none=>rw[e]at h;cases h |some n=>rw[e]at h;exact⟨n,Z,dG h⟩
theorem Gn{ns:List Int}{i:Nat}{x:V}{n:Int}(h:(ns.map V.int)[i]? =some x)(e:ns[i]? =some n):x= .int n:=by rw[bQ,e]at h;exact(dG h).symm
abbrev Ed:Stmt:=top 50
theorem Mz:aW ["line"] ["line"] (aP Ed):=bj aI
theorem ZA(F:FA K mg "lead_of" Ed)(B:bC mg):aB P w K mg au "lead_of" 1 (nk K):=by
 refine F.has Mz (λvs H Q E h=>?_) (λ_ _ _ _ _ _=>cw λ_=>rfl) (λf aH A outer s H vs Q E hr h=>?_)
 ·obtain⟨v,ns,sp,rfl,_⟩:=h
  rfl
 ·obtain⟨v,ns,sp,rfl,rd,df,hz,k⟩:=h
  have nd:=Mz.nd;obtain⟨a,b,rfl,ha,hb⟩:=uC rd;refine⟨_,(aK (aR (dy (x:="max") (a1o K Z Z) Z (B.at "max") Ub (ak (eW (N:=["step"]) (js:=[none]) rfl rfl rfl (kg K rfl (px K (pv 0) aF)) (λ_ _ _ _ _=>(bo 0 (gR _))) (λ_ _ _ _ _=>dS) (λ_ _ _ _ _=>(dy (x:="abs") uY rfl (B.at "abs") yD (ak (pv 0) ay)))) ay)))),?_⟩;refine⟨_,Z,.inr ⟨a,_,1,.ref b,Z,Z,ha,Z,b,Z,⟨_,hb⟩,λD H0 nw=>?_⟩⟩;refine sI (K:=K) (xs:=ns.map V.int) (ds:=(ns.map mJ).map PyData.int) [] hb nw (by simp) (by simpa using hz) (nP _) ?_ ?_
  ·intro i x d H2 Q' ex ed s2 hq
   obtain⟨m,em,rfl⟩:=rE ed;rw[bQ]at em;cases en:ns[i]? with |none=>rw[en]at em;cases em |some n=>rw[en]at em;cases em;cases Gn ex en;exact⟨_,Z,n,Z,hq _ _ (aD.refl _) (fC _)⟩
  ·intro H' ys s2 d2 r2
   rw[r2.gJ]at d2;refine⟨D,_,Z,aJ.of d2,by simpa using df,λM h1 h2=>?_⟩;rw[a2a df h1 h2];exact k H' s2
open _r
abbrev Ee:Stmt:=top 47
theorem MC:aW ["p","q","divisor"] ["p","q"] (aP Ee):=bj aI
theorem Zu(F:FA K mg "lowest_terms" Ee)(B:bC mg)(a4g:aB P w K mg au "common_divisor" 1 CS):aB P w K mg au "lowest_terms" 2 tQ:=by
 refine F.has MC (λvs H Q E h=>?_) (λ_ _ _ _ _ _=>dF λ_ _=>rfl) (λf aH A outer s H vs Q E hr h=>?_)
 ·obtain⟨a,b,rfl,_⟩:=h
  rfl
 ·obtain⟨a,b,rfl,hb,wb,k⟩:=h
  have nd:=MC.nd;have sw:Wd (_A.sg a b):=JU (_A.Wi hb) wb;refine⟨_,(aE (pS 2 nd (pf a4g hr (ak (pv 0) (ak (pv 1) ay)))) (aE (iO (bJ (bX m7 (pv 1) aF (bL _)) (aK (pS 2 nd (nC mX (pv 2)))) bK)) (aK (aR (gQ (ak (aQ OE (pv 0) (pv 2)) (ak (aQ OE (pv 1) (pv 2)) ay))))))),?_⟩;refine⟨_,Z,_,Z,a,b,Z,?_⟩;refine⟨λO H'=>H'=H/\O=[some (.int a),some (.int b),some (.int (_A.sg a b))],?_,?_⟩
  ·refine⟨_,Z,_,_,Z,Z,_,Z,?_⟩
   refine fc (λhc=>?_) (λhc=>?_)
   ·have hd:b<0:=lM hc
    refine⟨_,Z,_,Z,?_⟩;refine⟨Z,?_⟩;unfold _A.sg;rw[bf hd];rfl
   ·have hd:¬b<0:=λz=>hc (cf z)
    refine⟨Z,?_⟩;unfold _A.sg;rw[bh hd];rfl
  rintro O H' ⟨rfl,rfl⟩;refine⟨_,Z,_,Z,_,_,Z,Z,⟨_A.we hb,sw⟩,_,Z,_,Z,_,_,Z,Z,⟨_A.we hb,sw⟩,(by show 2<=sizeLine;decide),λt H4 nw=>?_⟩;exact k t H4 nw
def bU(K:aa)(H:Hp)(v:V)(r:Rat):Prop:=∃p,v= .ref p/\aZ K H p [.int r.num,.int r.den]
theorem bU.go{H H':Hp}{v:V}{r:Rat}(h:bU K H v r)(s:aD H H'):bU K H' v r:=by obtain⟨p,e,q⟩:=h;exact⟨p,e,q.go s⟩
def dh(r:Rat):ah:=.tuple [.int r.num,.int r.den]
theorem bU.rd{H:Hp}{v:V}{r:Rat}(h:bU K H v r):RD K H v (dh r):=by obtain⟨p,rfl,q⟩:=h;exact fQ q (cI (fC _) (cI (fC _) dv))
theorem Xk(r:Rat):dg 1 (dh r):=gB.tup (.cons (.int _) (.cons (.int _) .nil))
theorem eqR{r s:Rat}(h:r=s):PyData.eqv (dh r) (dh s)=true:=by rw[h];exact(Xk s).refl
theorem jC{n:Nat}{i:Int}(h:i.natAbs<2^n)(l:n<=5000):Wd i:=fK h (t6 az l)
theorem _root_._r.Bd.wn{r:Rat}(h:Bd 2000 r):Wd r.num:=jC h.num az
theorem _root_._r.Bd.wd{r:Rat}(h:Bd 2000 r):Wd (r.den:Int):=jC (n:=2000) (by have:=h.den;omega) az
theorem C9{r s:Rat}(h:Bd 2000 r)(g:Bd 2000 s):Wd ((r.den:Int)*(s.den:Int)):=jC (n:=4000) (IX h g) az
theorem zX{H':Hp}{t:Addr}{a b:Int}{r:Rat}(hb:b≠0)(e:r=Rat.divInt a b)(h:H' t=some (.tup [.int (_A.lowP a b),.int (_A.g9 a b)])):bU K H' (.ref t) r:=by obtain⟨e1,e2⟩:=Gu (a:=a) hb;rw[e1,e2,<-e]at h;exact⟨t,Z,aZ.of h⟩
inductive a9C(op:Rat->Rat->Rat)(K:aa)(vs:List V)(H:Hp)(Q:VK):Prop |mk (v1:_)(v2:_)(r:_)(s:_)(h0:vs=[v1,v2])(h1:bU K H v1 r)(h2:bU K H v2 s)(h3:Bd 2000 r)(h4:Bd 2000 s)(h5:∀v H',bU K H' v (op r s)->aD H H'->Q v H')
def qE(op:Rat->Rat->Rat)(K:aa):Sp:=λvs H Q _=>a9C op K vs H Q
abbrev DY:Stmt:=top 41
theorem Mj:aW ["one","other","p","q","r","s"] ["one","other"] (aP DY):=bj aI
theorem Zg(F:FA K mg "plus" DY)(B:bC mg)(rP:aB P w K mg au "lowest_terms" 2 tQ):aB P w K mg au "plus" 3 (qE (·+·) K):=by
 refine F.has Mj (λvs H Q E h=>?_) (λ_ _ _ _ _ _=>dF λ_ _=>rfl) (λf aH A outer s H vs Q E hr h=>?_)
 ·obtain⟨v1,v2,r,s,rfl,_⟩:=h
  rfl
 ·obtain⟨v1,v2,r,s,rfl,⟨p,rfl,hp⟩,⟨q,rfl,hq⟩,br,bs,k⟩:=h
  have nd:=Mj.nd;refine⟨_,(aE (eL (pv 0) (eV K Z (n:=2) Z (bZ (bo 2 nd) (bZ (bo 3 nd) eU)))) (aE (eL (pv 1) (eV K Z (n:=2) Z (bZ (bo 4 nd) (bZ (bo 5 nd) eU)))) (aK (aR (pf rP hr (ak (aQ dP (aQ cB (pv 2) (pv 5)) (aQ cB (pv 4) (pv 3))) (ak (aQ cB (pv 3) (pv 5)) ay))))))),?_⟩;refine⟨_,Z,_,_,Z,hp,Z,_,_,Z,_,_,Z,Z,?_⟩;refine⟨_,Z,_,_,Z,hq,Z,_,_,Z,_,_,Z,Z,?_⟩;refine⟨_,Z,_,Z,_,_,Z,Z,lO br.wn.bits bs.wd.bits,_,Z,_,Z,_,_,Z,Z,lO bs.wn.bits br.wd.bits,_,_,Z,Z,_,Z,_,Z,_,_,Z,Z,lO br.wd.bits bs.wd.bits,?_⟩;exact⟨_,_,Z,oA r s,C9 br bs,λt H' nw=>k _ _ (zX (oA r s) (add_div r s) nw.at') nw.same⟩
abbrev E9:Stmt:=top 43
theorem Mu:aW ["one","other","p","q","r","s"] ["one","other"] (aP E9):=bj aI
theorem Zs(F:FA K mg "minus" E9)(B:bC mg)(rP:aB P w K mg au "lowest_terms" 2 tQ):aB P w K mg au "minus" 3 (qE (·-·) K):=by
 refine F.has Mu (λvs H Q E h=>?_) (λ_ _ _ _ _ _=>dF λ_ _=>rfl) (λf aH A outer s H vs Q E hr h=>?_)
 ·obtain⟨v1,v2,r,s,rfl,_⟩:=h
  rfl
 ·obtain⟨v1,v2,r,s,rfl,⟨p,rfl,hp⟩,⟨q,rfl,hq⟩,br,bs,k⟩:=h
  have nd:=Mu.nd;refine⟨_,(aE (eL (pv 0) (eV K Z (n:=2) Z (bZ (bo 2 nd) (bZ (bo 3 nd) eU)))) (aE (eL (pv 1) (eV K Z (n:=2) Z (bZ (bo 4 nd) (bZ (bo 5 nd) eU)))) (aK (aR (pf rP hr (ak (aQ jm (aQ cB (pv 2) (pv 5)) (aQ cB (pv 4) (pv 3))) (ak (aQ cB (pv 3) (pv 5)) ay))))))),?_⟩;refine⟨_,Z,_,_,Z,hp,Z,_,_,Z,_,_,Z,Z,?_⟩;refine⟨_,Z,_,_,Z,hq,Z,_,_,Z,_,_,Z,Z,?_⟩;refine⟨_,Z,_,Z,_,_,Z,Z,lO br.wn.bits bs.wd.bits,_,Z,_,Z,_,_,Z,Z,lO bs.wn.bits br.wd.bits,_,_,Z,Z,_,Z,_,Z,_,_,Z,Z,lO br.wd.bits bs.wd.bits,?_⟩;exact⟨_,_,Z,oA r s,C9 br bs,λt H' nw=>k _ _ (zX (oA r s) (VP r s) nw.at') nw.same⟩
abbrev Di:Stmt:=top 44
theorem LR:aW ["one","other","p","q","r","s"] ["one","other"] (aP Di):=bj aI
theorem YE(F:FA K mg "times" Di)(B:bC mg)(rP:aB P w K mg au "lowest_terms" 2 tQ):aB P w K mg au "times" 3 (qE (·*·) K):=by
 refine F.has LR (λvs H Q E h=>?_) (λ_ _ _ _ _ _=>dF λ_ _=>rfl) (λf aH A outer s H vs Q E hr h=>?_)
 ·obtain⟨v1,v2,r,s,rfl,_⟩:=h
  rfl
 ·obtain⟨v1,v2,r,s,rfl,⟨p,rfl,hp⟩,⟨q,rfl,hq⟩,br,bs,k⟩:=h
  have nd:=LR.nd;refine⟨_,(aE (eL (pv 0) (eV K Z (n:=2) Z (bZ (bo 2 nd) (bZ (bo 3 nd) eU)))) (aE (eL (pv 1) (eV K Z (n:=2) Z (bZ (bo 4 nd) (bZ (bo 5 nd) eU)))) (aK (aR (pf rP hr (ak (aQ cB (pv 2) (pv 4)) (ak (aQ cB (pv 3) (pv 5)) ay))))))),?_⟩;refine⟨_,Z,_,_,Z,hp,Z,_,_,Z,_,_,Z,Z,?_⟩;refine⟨_,Z,_,_,Z,hq,Z,_,_,Z,_,_,Z,Z,?_⟩;refine⟨_,Z,_,Z,_,_,Z,Z,lO br.wn.bits bs.wn.bits,_,Z,_,Z,_,_,Z,Z,lO br.wd.bits bs.wd.bits,?_⟩;exact⟨_,_,Z,oA r s,C9 br bs,λt H' nw=>k _ _ (zX (oA r s) (mul_div r s) nw.at') nw.same⟩
inductive a9S(K:aa)(vs:List V)(H:Hp)(Q:VK):Prop |mk (v1:_)(v2:_)(r:_)(s:_)(h0:vs=[v1,v2])(h1:bU K H v1 r)(h2:bU K H v2 s)(h3:Bd 2000 r)(h4:Bd 2000 s)(h5:Q (.bl (decide (r<s))) H)
def zC(K:aa):Sp:=λvs H Q _=>a9S K vs H Q
abbrev Eb:Stmt:=top 45
theorem Mx:aW ["one","other","p","q","r","s"] ["one","other"] (aP Eb):=bj aI
theorem Zx(F:FA K mg "is_less" Eb)(B:bC mg):aB P w K mg au "is_less" 1 (zC K):=by
 refine F.has Mx (λvs H Q E h=>?_) (λ_ _ _ _ _ _=>dF λ_ _=>rfl) (λf aH A outer s H vs Q E hr h=>?_)
 ·obtain⟨v1,v2,r,s,rfl,_⟩:=h
  rfl
 ·obtain⟨v1,v2,r,s,rfl,⟨p,rfl,hp⟩,⟨q,rfl,hq⟩,br,bs,k⟩:=h
  have nd:=Mx.nd;refine⟨_,(aE (eL (pv 0) (eV K Z (n:=2) Z (bZ (bo 2 nd) (bZ (bo 3 nd) eU)))) (aE (eL (pv 1) (eV K Z (n:=2) Z (bZ (bo 4 nd) (bZ (bo 5 nd) eU)))) (aK (aR (jl m7 (aQ cB (pv 2) (pv 5)) (aQ cB (pv 4) (pv 3)) (bL _)))))),?_⟩;refine⟨_,Z,_,_,Z,hp,Z,_,_,Z,_,_,Z,Z,?_⟩;refine⟨_,Z,_,_,Z,hq,Z,_,_,Z,_,_,Z,Z,?_⟩;refine⟨_,Z,_,Z,_,_,Z,Z,lO br.wn.bits bs.wd.bits,_,Z,_,Z,_,_,Z,Z,lO bs.wn.bits br.wd.bits,_,_,Z,Z,?_⟩;have e:decide (r.num*(s.den:Int)<s.num*(r.den:Int))=decide (r<s):=by rw[jd,JE,JE,Rat.lt_iff]
  show Q (.bl (decide (r.num*(s.den:Int)<s.num*(r.den:Int)))) H;rw[e];exact k
def qm(K:aa)(H:Hp):List V->List Rat->Prop |[],[]=>True |v::vs,r::rs=>bU K H v r/\Bd 2000 r/\qm K H vs rs |_,_=>False
theorem qm.length{H:Hp}:∀{vs:List V}{rs:List Rat},qm K H vs rs->vs.length=rs.length |[],[],_=>rfl |v::vs,r::rs,h=>by rw[gh,gh,qm.length h.2.2] |[],_::_,h=>h.elim |_::_,[],h=>h.elim
theorem qm.get{H:Hp}:∀{vs:List V}{rs:List Rat}{i:Nat}{v:V},qm K H vs rs->vs[i]? =some v->∃r,rs[i]? =some r/\bU K H v r/\Bd 2000 r
 |[],[],i,v,_,e=>by simp at e |v::vs,r::rs,0,v',h,e=>by
  have e':v=v':=by simpa using e
  subst e';exact⟨r,Z,h.1,h.2.1⟩ |v::vs,r::rs,i+1,v',h,e=>by obtain⟨r',e1,q⟩:=qm.get h.2.2 (show vs[i]? =some v' by simpa using e);exact⟨r',by simpa using e1,q⟩ |[],_::_,_,_,h,_=>h.elim |_::_,[],_,_,h,_=>h.elim
inductive a9T(K:aa)(vs:List V)(H:Hp)(Q:VK):Prop |mk (l:_)(xs:_)(rs:_)(h0:vs=[.ref l])(h1:aJ K H l xs)(h2:qm K H xs rs)(h3:xs≠[])(h4:∀(i:Nat)(v:V)(r:Rat),xs[i]? =some v->rs[i]? =some r->(∀s∈rs,r<=s)->Q v H)
def kF(K:aa):Sp:=λvs H Q _=>a9T K vs H Q
abbrev Ec:Stmt:=top 46
theorem My:aW ["some","best","one"] ["some"] (aP Ec):=bj aI
theorem Zz(F:FA K mg "least" Ec)(B:bC mg)(Hl:aB P w K mg au "is_less" 1 (zC K)):aB P w K mg au "least" 2 (kF K):=by
 refine F.has My (λvs H Q E h=>?_) (λ_ _ _ _ _ _=>cw λ_=>rfl) (λf aH A outer s H vs Q E hr h=>?_)
 ·obtain⟨l,xs,rs,rfl,_⟩:=h
  rfl
 ·obtain⟨l,xs,rs,rfl,hl,my,df,k⟩:=h
  have nd:=My.nd;refine⟨_,(aE (pS 1 nd (px K (pv 0) aF)) (aE (kf ie Z (kL K Z (pv 0)) (bo 2 nd) (aK (bJ (cK (pf Hl hr (ak (pv 2) (ak (pv 1) ay)))) (aK (pS 1 nd (pv 2))) bK))) (aK (aR (pv 1))))),?_⟩;have hlen:=my.length;have h0:0<xs.length:=C0.mpr df;have e0:=cu h0;refine⟨_,Z,.inl ⟨l,xs,0,xs[0],Z,Z,hl,cF az e0,?_⟩⟩;refine⟨_,Z,l,Z,⟨_,hl⟩,Im (K:=K) (a:=l) (xs:=xs) (λi O H2=>H2=H/\∃(j:Nat)(b:V)(r:Rat)(v:Option V),xs[j]? =some b/\rs[j]? =some r/\(∀(m:Nat)(s:Rat),m<i->rs[m]? =some s->r<=s)/\O=[some (.ref l),some b,v]) ?_ (λi O H2 _ h=>by rw[h.1];exact hl) ?_ ?_⟩
  ·obtain⟨r,e1,_⟩:=my.get e0
   exact⟨Z,0,_,r,none,e0,e1,λm s hm=>absurd hm (Nat.not_lt_zero _),Z⟩
  ·rintro i x O H2 hx ⟨rfl,j,b,r,v,eb,er,hm,rfl⟩
   obtain⟨t,et,rt,bt⟩:=my.get hx;obtain⟨r2,Rx,rb,bb⟩:=my.get eb;rw[er]at Rx;cases Rx;refine⟨_,Z,_,Z,x,b,t,r,Z,rt,rb,bt,bb,_,Z,?_⟩;refine fc (λhc=>?_) (λhc=>?_)
   ·have cH:t<r:=lM hc
    refine⟨_,Z,?_⟩;refine⟨Z,i,x,t,_,hx,et,λm s Hg es=>?_,Z⟩;rcases Nat.lt_succ_iff_lt_or_eq.mp Hg with h|h
    ·exact eG (Rat.le_of_lt cH) (hm m s h es)
    ·subst h
     rw[et]at es;cases es;exact sY
   ·have hnl:¬t<r:=λz=>hc (cf z)
    refine⟨Z,j,b,r,_,eb,er,λm s Hg es=>?_,Z⟩;rcases Nat.lt_succ_iff_lt_or_eq.mp Hg with h|h
    ·exact hm m s h es
    ·subst h
     rw[et]at es;cases es;exact BR.mp hnl
  ·rintro O H2 ⟨rfl,j,b,r,v,eb,er,hm,rfl⟩
   refine⟨_,Z,k j b r eb er λs hs=>?_⟩;obtain⟨m,hml,em⟩:=Uh.mp hs;exact hm m s aw (by rw[cu hml,em])
inductive a9P(K:aa)(vs:List V)(H:Hp)(Q:VK):Prop |mk (a:_)(b:_)(h0:vs=[.int a,.int b])(h1:b≠0)(h2:Wd b)(h3:∀v H',bU K H' v (Rat.divInt a b)->aD H H'->Q v H')
def tP(K:aa):Sp:=λvs H Q _=>a9P K vs H Q
abbrev Eu:Stmt:=top 40
theorem MS:aW ["p","q"] ["p","q"] (aP Eu):=bj aI
theorem ZP(F:FA K mg "fraction" Eu)(B:bC mg)(AX:aB P w K mg au "is_whole" 1 (zE K))(rP:aB P w K mg au "lowest_terms" 2 tQ):aB P w K mg au "fraction" 3 (tP K):=by
 refine F.has MS (λvs H Q E h=>?_) (λ_ _ _ _ _ _=>dF λ_ _=>rfl) (λf aH A outer s H vs Q E hr h=>?_)
 ·obtain⟨a,b,rfl,_⟩:=h
  rfl
 ·obtain⟨a,b,rfl,hb,wb,k⟩:=h
  have nd:=MS.nd;refine⟨_,(aE (bJ (PW.pt (kJ (dw (cK (pf AX hr (ak (pv 0) ay)))) (kI (dw (cK (pf AX hr (ak (pv 1) ay))))))) (aK ua) bK) (aE (bJ (bX (dM K Z hr.units) (pv 1) aF (bL _)) (aK ua) bK) (aK (aR (pf rP hr (ak (pv 0) (ak (pv 1) ay))))))),?_⟩;have iw:xc "int"=true:=by decide
  refine⟨_,Z,_,"int",Z,Z,_,Z,?_⟩;rw[iw];refine aY ?_;refine⟨_,Z,_,"int",Z,Z,_,Z,?_⟩;rw[iw];refine aY ?_;refine⟨_,Z,.inl ⟨_,_,Z,Z,_,Z,?_⟩⟩;rw[dE hb];refine aY ?_;exact⟨_,Z,_,Z,_,_,Z,hb,wb,λt H' nw=>k _ _ (zX hb Z nw.at') nw.same⟩
def gr(rs:List Int)(r f j t:Int):ah:=.tuple [.tuple (rs.map PyData.int),.int r,.int f,.int j,.int t]
theorem iu(rs:List Int)(r f j t:Int):eM (gr rs r f j t)=true:=by simp[gr,eM,cy,nP]
theorem mi{H:Hp}{v:V}{rs:List Int}{r f j t:Int}(h:RD K H v (gr rs r f j t)):∃a b,v= .ref a/\aZ K H a [.ref b,.int r,.int f,.int j,.int t]/\aZ K H b (rs.map V.int):=by obtain⟨a,xs,rfl,h1,h2⟩:=h.cJ;obtain⟨x1,r1,rfl,e1,h2⟩:=h2.cons_inv;obtain⟨x2,r2,rfl,e2,h2⟩:=h2.cons_inv;obtain⟨x3,r3,rfl,e3,h2⟩:=h2.cons_inv;obtain⟨x4,r4,rfl,e4,h2⟩:=h2.cons_inv;obtain⟨x5,r5,rfl,e5,h2⟩:=h2.cons_inv;cases h2.nil_inv;cases e2.int_inv;cases e3.int_inv;cases e4.int_inv;cases e5.int_inv;obtain⟨b,ys,rfl,h3,h4⟩:=e1.cJ;rw[h4.gJ]at h3;exact⟨a,b,Z,h1,h3⟩
structure jw(rs:List Int)(r f j t:Int):Prop where
 len:rs.length=2\/rs.length=3
 rl:∀z∈rs,1<=z/\z<=100
 r1:1<=r/\r<=50
 f1:1<=f/\f<=50
 j1:1<=j/\j<=50
 t1:1<=t/\t<=100
inductive a9Q(K:aa)(vs:List V)(H:Hp)(Q:VK):Prop |mk (p:_)(h0:vs=[.ref p])(h1:ft H p)(h2:∀v rs r f j t H',RD K H' v (gr rs r f j t)->jw rs r f j t->bN p H H'->Q v H')
def Li(K:aa):Sp:=λvs H Q _=>a9Q K vs H Q
abbrev Itm:=Option (List Int × Int)
def itR(d:ah)(o:Itm):Prop:=(∃ns sp,d=eX ns sp/\o=some (ns,sp))\/∃w x,d= .tuple [.str w,x]/\(w="wait"\/w="tool"\/w="mark")/\eM x=true/\o=none
theorem itR.no{d:ah}{o:Itm}(h:itR d o):eM d=true:=by
 rcases h with⟨ns,sp,rfl,_⟩|⟨w,x,rfl,_,h,_⟩
 ·exact PD _ _
 ·simp[eM,cy,h]
theorem a2w{H:Hp}{v:V}{d:ah}{o:Itm}(h:RD K H v d)(i:itR d o):∃a w ys,v= .ref a/\aZ K H a (.str w::ys)/\(PyData.eqv (.str w) (.str "line")=o.isSome)/\SeqAt.shaped (.str w)=true:=by
 rcases i with⟨ns,sp,rfl,rfl⟩|⟨w,x,rfl,hw,_,rfl⟩
 ·obtain⟨a,b,rfl,h1,_⟩:=uC h
  exact⟨a,_,_,Z,h1,(by show PyData.eqv (.str "line") (.str "line")=true;decide+kernel),aI⟩
 ·obtain⟨a,xs,rfl,h1,h2⟩:=h.cJ
  obtain⟨x1,r1,rfl,e1,h2⟩:=h2.cons_inv;cases e1.str_inv;refine⟨a,w,r1,Z,h1,?_,?_⟩
  ·show PyData.eqv (.str w) (.str "line")=false
   rcases hw with rfl|rfl|rfl<;>decide+kernel
  ·rcases hw with rfl|rfl|rfl<;>decide+kernel
theorem a25:SeqAt.shaped (.str "line")=true:=by decide+kernel
theorem mx{d:ah}{ns:List Int}{sp:Int}(h:itR d (some (ns,sp))):d=eX ns sp:=by
 rcases h with⟨G3,CV,e1,e2⟩|⟨_,_,_,_,_,e2⟩
 ·cases e2;exact e1
 ·cases e2
structure fJ(ax:Nat)(ds:List ah)(os:List Itm):Prop where
 len:ds.length=os.length
 it:∀(i:Nat)(d:ah)(o:Itm),ds[i]? =some d->os[i]? =some o->itR d o
 ok:∀(i:Nat)(ns:List Int)(sp:Int),os[i]? =some (some (ns,sp))->eO ax 100 ns/\1<=sp/\sp<=20
theorem fJ.nil{ax:Nat}:fJ ax [] []:=⟨Z,λi d o e=>by simp at e,λi ns sp e=>by simp at e⟩
theorem qH{α:Type}{xs:List α}{x y:α}{j:Nat}(e:(xs++[x])[j]? =some y):xs[j]? =some y\/(j=xs.length/\y=x):=by
 by_cases hj:j<xs.length
 ·rw[vE hj]at e;exact .inl e
 ·have kU:j=xs.length:=by
   have:=(dD.mp e).1;rw[fP]at this;have:j<xs.length+1:=this
   lia
  rw[kU,yJ (bO _),JS]at e;exact .inr ⟨kU,(dG e).symm⟩
theorem fJ.snoc{ax:Nat}{ds:List ah}{os:List Itm}{d:ah}{o:Itm}(h:fJ ax ds os)(i:itR d o)(g:∀ns sp,o=some (ns,sp)->eO ax 100 ns/\1<=sp/\sp<=20):fJ ax (ds++[d]) (os++[o]):=by
 have hl:=h.len;refine⟨by rw[fP,fP,h.len];rfl,λj d' o' e1 e2=>?_,λj ns sp e=>?_⟩
 ·rcases qH e1 with e1|⟨j1,rfl⟩
  ·rcases qH e2 with e2|⟨j2,rfl⟩
   ·exact h.it j d' o' e1 e2
   ·have:=(dD.mp e1).1;lia
  ·rcases qH e2 with e2|⟨j2,rfl⟩
   ·have:=(dD.mp e2).1;lia
   ·exact i
 ·rcases qH e with e|⟨_,e⟩
  ·exact h.ok j ns sp e
  ·exact g ns sp e.symm
theorem fJ.no{ax:Nat}{ds:List ah}{os:List Itm}(h:fJ ax ds os):cy ds=true:=fY.mpr λd hd=>by obtain⟨i,hi⟩:=oO.mp hd;have hl:=(dD.mp hi).1;exact(h.it i d _ hi (cu (by rw[<-h.len];exact hl))).no
theorem fJ.get{ax:Nat}{ds:List ah}{os:List Itm}(h:fJ ax ds os){i:Nat}{d:ah}(e:ds[i]? =some d):∃o,os[i]? =some o/\itR d o:=by have hl:=(dD.mp e).1;have e2:=cu (show i<os.length by rw[<-h.len];exact hl);exact⟨_,e2,h.it i d _ e e2⟩
inductive aa3(K:aa)(vs:List V)(H:Hp)(Q:VK):Prop |mk (v:_)(d:_)(o:_)(h0:vs=[v])(h1:RD K H v d)(h2:itR d o)(h3:Q (.bl o.isSome) H)
def oX(K:aa):Sp:=λvs H Q _=>aa3 K vs H Q
abbrev El:Stmt:=top 32
theorem MJ:aW ["item"] ["item"] (aP El):=bj aI
theorem ZH(F:FA K mg "is_line" El)(B:bC mg):aB P w K mg au "is_line" 1 (oX K):=by
 refine F.has MJ (λvs H Q E h=>?_) (λ_ _ _ _ _ _=>cw λ_=>rfl) (λf aH A outer s H vs Q E hr h=>?_)
 ·obtain⟨v,d,o,rfl,_⟩:=h
  rfl
 ·obtain⟨v,d,o,rfl,ri,it,k⟩:=h
  have nd:=MJ.nd;refine⟨_,(aK (aR (jl (dM K Z hr.units) (px K (pv 0) aF) bu (bL _)))),?_⟩;obtain⟨a,wd,ys,rfl,h1,ew,sw⟩:=a2w ri it;refine⟨_,Z,.inr ⟨a,_,0,.str wd,Z,Z,h1,cF (dY 0) Z,.inr ⟨_,_,bp _,bp _,sw,a25,?_⟩⟩⟩;rw[ew];exact k
theorem jE{H:Hp}:∀{xs:List V}{zs:List Str},aL K H xs (zs.map PyData.str)->xs=zs.map V.str |xs,[],h=>h.nil_inv |xs,n::ns,h=>by obtain⟨y,ys,rfl,h1,h2⟩:=h.cons_inv;rw[h1.str_inv,jE h2];rfl
def iB:Str:="abcdefghijklmnopqrstuvwxyz"
theorem a8L:iB.cps.toList.length=26:=by decide+kernel
theorem a8u{α:Type}{xs:List α}{x:α}(h:xs.getLast? =some x):eZ xs (-1)=some x:=by
 unfold eZ hU;have hl:xs≠[]:=by intro e;rw[e]at h;cases h
 have h0:0<xs.length:=C0.mpr hl;rw[bh az,bf aw];rw[List.getLast?_eq_getElem?]at h;show xs[((-1:Int)+(xs.length:Int)).toNat]? =some x;have e:((-1:Int)+(xs.length:Int)).toNat=xs.length-1:=by lia
 rw[e];exact h
def UI(ns:List Int):ah:=.tuple (ns.map λz=>dh (Rat.divInt z (_l.aO ns)))
theorem qO(r:Rat):eM (dh r)=true:=by simp[dh,eM,cy]
theorem OT{α:Type}{f:α->ah}(h:∀a,eM (f a)=true)(l:List α):cy (l.map f)=true:=fY.mpr λd hd=>by obtain⟨a,_,rfl⟩:=cW.mp hd;exact h a
inductive a97(K:aa)(vs:List V)(H:Hp)(Q:VK):Prop |mk (v:_)(ns:_)(sp:_)(h0:vs=[v])(h1:RD K H v (eX ns sp))(h2:eO ns.length 1000 ns)(h3:ns.length<=1000)(h4:∀v' H',RD K H' v' (UI ns)->aD H H'->Q v' H')
def KU(K:aa):Sp:=λvs H Q _=>a97 K vs H Q
abbrev D9:Stmt:=top 51
theorem LM:aW ["line","lead"] ["line"] (aP D9):=bj aI
theorem YA(F:FA K mg "ways_of" D9)(B:bC mg)(jM:aB P w K mg au "lead_of" 1 (nk K))(pL:aB P w K mg au "fraction" 3 (tP K)):aB P w K mg au "ways_of" 4 (KU K):=by
 refine F.has LM (λvs H Q E h=>?_) (λ_ _ _ _ _ _=>cw λ_=>rfl) (λf aH A outer s H vs Q E hr h=>?_)
 ·obtain⟨v,ns,sp,rfl,_⟩:=h
  rfl
 ·obtain⟨v,ns,sp,rfl,rd,ok,hz,k⟩:=h
  have nd:=LM.nd;refine⟨_,(aE (pS 1 nd (pf jM hr (ak (pv 0) ay))) (aK (aR (cD (x:="tuple") (jZ K Z) Z (B.at "tuple") iJ (ak (eW (N:=["step","lead"]) (js:=[none,some 1]) rfl rfl rfl (kg K rfl (px K (pv 0) aF)) (λ_ _ _ _ _=>(bo 0 (ki az))) (λ_ _ _ _ _=>dS) (λ_ _ _ _ _=>(pf pL hr (ak (pv 0) (ak (pv 1) ay))))) ay))))),?_⟩;refine⟨_,Z,v,ns,sp,Z,rd,ok.ne,hz,λH1 s1=>?_⟩;obtain⟨a,b,rfl,ha,hb⟩:=uC (RD.mono s1 _ rd);obtain⟨lp,lm⟩:=ok.lead;refine⟨_,Z,.inr ⟨a,_,1,.ref b,Z,Z,ha,Z,b,Z,⟨_,hb⟩,λD H0 nw=>?_⟩⟩;refine sI (K:=K) (xs:=ns.map V.int) (ds:=ns.map λz=>dh (Rat.divInt z (_l.aO ns))) _ hb nw (by simp) (by simpa using hz) (OT (λ_=>qO _) _) ?_ ?_
  ·intro i x d H2 Q' ex ed s2 hq
   obtain⟨n,en,rfl⟩:=rE ed;cases Gn ex en;refine⟨_,Z,_,Z,n,_,Z,bI,jC (n:=20) bI az,λv3 H3 r3 s3=>?_⟩;exact hq _ _ s3 r3.rd
  ·intro H' ys s2 d2 r2
   refine⟨D,_,Z,.inl ⟨aJ.of d2,λt H4 n4=>?_⟩⟩;exact k _ _ (fQ (aZ.of n4.at') (aL.mono n4.same _ r2)) (s1.trans (s2.trans n4.same))
theorem oQ:iM "tuple" "tuple"=true:=by decide
theorem UE(d:ah):(∃i,d= .int i/\xc (kD d)=true)\/(xc (kD d)=false/\∀i,d≠ .int i):=by cases d with |int i=>exact .inl ⟨i,Z,by simp[kD];decide⟩ |_=>exact .inr ⟨by simp[kD];decide,λ_ z=>nomatch z⟩
theorem vQ(d:ah):(∃ds,d= .tuple ds)\/(iM (kD d) "tuple"=false/\∀ds,d≠ .tuple ds):=by cases d with |tuple ds=>exact .inl ⟨ds,Z⟩ |_=>exact .inr ⟨by simp[kD];decide,λ_ z=>nomatch z⟩
def cZ(lo hi:Int):ah->Bool | .int i=>decide (lo<=i)&&decide (i<=hi) |_=>false
theorem a2D{lo hi:Int}{d:ah}(h:∀i,d≠ .int i):cZ lo hi d=false:=by cases d<;>first|rfl|exact absurd rfl (h _)
inductive a98(K:aa)(vs:List V)(H:Hp)(Q:VK):Prop |mk (v:_)(d:_)(lo:_)(hi:_)(h0:vs=[v,.int lo,.int hi])(h1:RD K H v d)(h2:Q (.bl (cZ lo hi d)) H)
def lU(K:aa):Sp:=λvs H Q _=>a98 K vs H Q
abbrev De:Stmt:=top 15
theorem LN:aW ["thing","low","high"] ["thing","low","high"] (aP De):=bj aI
theorem Yz(F:FA K mg "is_whole_within" De)(B:bC mg)(AX:aB P w K mg au "is_whole" 1 (zE K)):aB P w K mg au "is_whole_within" 2 (lU K):=by
 refine F.has LN (λvs H Q E h=>?_) (λ_ _ _ _ _ _=>jS λ_ _ _=>rfl) (λf aH A outer s H vs Q E hr h=>?_)
 ·obtain⟨v,d,lo,hi,rfl,_⟩:=h
  rfl
 ·obtain⟨v,d,lo,hi,rfl,rd,k⟩:=h
  have nd:=LN.nd;refine⟨_,(aK (aR (uf (pf AX hr (ak (pv 0) ay)) (p5 (Y2 Ad Ad (pv 1) (pv 0) (pv 2)))))),?_⟩;refine⟨_,Z,_,_,Z,rd.ty,_,Z,?_⟩;rcases UE d with⟨i,rfl,e⟩|⟨e,hn⟩
  ·cases rd.int_inv
   rw[e];refine bG ?_;have k:Q (.bl (decide (lo<=i)&&decide (i<=hi))) H:=k;refine⟨_,Z,_,Z,_,_,Z,Z,_,Z,?_⟩;refine fc (λhc=>?_) (λhc=>?_)
   ·have jN:decide (lo<=i)=true:=hc
    rw[jN,ij]at k;exact⟨_,Z,_,_,Z,Z,k⟩
   ·have jN:decide (lo<=i)=false:=C4.mpr hc
    rw[jN,ip]at k;exact k
  ·rw[e]
   refine aY ?_;rw[a2D hn]at k;exact k
open _C
theorem UA{ns ms:List Int}{i:Nat}{a b:Int}(h1:ns[i]? =some a)(h2:ms[i]? =some b):(fH ns ms)[i]? =some (a*(aO ms:Int)-b*(aO ns:Int)):=by unfold fH;rw[bQ,(K0 (z:=(a,b))).mpr ⟨h1,h2⟩];rfl
def yb(j:Int)(ns ms:List Int):ah:=if aO (fH ns ms)=0 then .none else dh (Rat.divInt ((j*aO ns*aO ms)^2) ((aO (fH ns ms):Int)^2))
inductive aah(K:aa)(vs:List V)(H:Hp)(Q:VK):Prop |mk (v:_)(v1:_)(v2:_)(rs:_)(r:_)(f:_)(j:_)(t:_)(ns:_)(ms:_)(dZ:_)(gX:_)(h0:vs=[v,v1,v2])(h1:RD K H v (gr rs r f j t))(h2:RD K H v1 (eX ns dZ))(h3:RD K H v2 (eX ms gX))(h4:eO ns.length 1000 ns)(h5:eO ns.length 1000 ms)(h6:ns.length<=1000)(h7:1<=j)(h8:j<=50)(h9:∀v' H',RD K H' v' (yb j ns ms)->aD H H'->Q v' H')
def CT(K:aa):Sp:=λvs H Q _=>aah K vs H Q
inductive a9b(K:aa)(vs:List V)(H:Hp)(Q:VK):Prop |mk (v1:_)(v2:_)(ns:_)(ms:_)(dZ:_)(gX:_)(h0:vs=[v1,v2])(h1:RD K H v1 (eX ns dZ))(h2:RD K H v2 (eX ms gX))(h3:eO ns.length 1000 ns)(h4:eO ns.length 1000 ms)(h5:ns.length<=1000)(h6:∀v' H',bU K H' v' (Rat.divInt (aO (fH ns ms)) ((aO ns:Int)*aO ms))->aD H H'->Q v' H')
def KY(K:aa):Sp:=λvs H Q _=>a9b K vs H Q
abbrev Df:Stmt:=top 61
theorem LO:aW ["one","other","greatest","way","new_way","p","q","difference"] ["one","other"] (aP Df):=bj aI
theorem YB(F:FA K mg "greatest_turn" Df)(B:bC mg)(Qj:aB P w K mg au "ways_of" 4 (KU K))(a3w:aB P w K mg au "minus" 3 (qE (·-·) K))(Hl:aB P w K mg au "is_less" 1 (zC K)):aB P w K mg au "greatest_turn" 5 (KY K):=by
 refine F.has LO (λvs H Q E h=>?_) (λ_ _ _ _ _ _=>dF λ_ _=>rfl) (λf aH A outer s H vs Q E hr h=>?_)
 ·obtain⟨v1,v2,ns,ms,dZ,gX,rfl,_⟩:=h
  rfl
 ·obtain⟨v1,v2,ns,ms,dZ,gX,rfl,qM,lY,iR,fX,hz,k⟩:=h
  have nd:=LO.nd;obtain⟨lp1,lm1⟩:=iR.lead;obtain⟨lp2,lm2⟩:=fX.lead;have Qg:ms.length<=1000:=by rw[fX.len];exact hz
  have a0l:eO ms.length 1000 ms:=⟨Z,fX.bd,fX.nz⟩;have cb:=IZ (λz hz=>by have:=iR.bd z hz;lia) (λz hz=>by have:=fX.bd z hz;lia) (ns:=ns) (ms:=ms);have L0:(0:Int)<(aO ns:Int)*aO ms:=jA aw aw;have Lb:((aO ns:Int)*aO ms).natAbs<=1000*1000:=mh aw aw;have acm:(fH ns ms).length=ns.length:=by simp[fH,fX.len]
  have QD:∀c:Int,c.natAbs<=2000000->Bd 2000 (Rat.divInt c ((aO ns:Int)*aO ms)):=λc hc=>(kh (n:=30) aw aw aw).mono az;refine⟨_,(aE (pS 2 nd (gQ (ak aF (ak aF ay)))) (aE (kf ie Z (qS K Z false false Z (B.at "zip") (ak (pf Qj hr (ak (pv 0) ay)) (ak (pf Qj hr (ak (pv 1) ay)) ay))) (eV K rfl (n:=2) rfl (bZ (bo 3 nd) (bZ (bo 4 nd) eU))) (aE (eL (pf a3w hr (ak (pv 4) (ak (pv 3) ay))) (eV K Z (n:=2) Z (bZ (bo 5 nd) (bZ (bo 6 nd) eU)))) (aE (pS 7 nd (gQ (ak (dy (x:="abs") uY Z (B.at "abs") yD (ak (pv 5) ay)) (ak (pv 6) ay)))) (aK (bJ (cK (pf Hl hr (ak (pv 2) (ak (pv 7) ay)))) (aK (pS 2 nd (pv 7))) bK))))) (aK (aR (pv 2))))),?_⟩;refine⟨ck Z,λg0 H1 n1=>?_⟩;refine⟨_,Z,v1,ns,dZ,Z,RD.mono n1.same _ qM,iR,hz,λw1 H2 r2 s2=>?_⟩;have t2:=n1.same.trans s2;refine⟨_,Z,v2,ms,gX,Z,RD.mono t2 _ lY,a0l,Qg,λw2 H3 r3 s3=>?_⟩;have t3:=t2.trans s3;obtain⟨c1,xs1,rfl,h1,q1⟩:=(RD.mono s3 _ r2).cJ;obtain⟨c2,xs2,rfl,h2,q2⟩:=r3.cJ;have l1:=q1.length;have l2:=q2.length;rw[bS]at l1 l2;refine⟨c1,c2,Z,⟨_,h1⟩,⟨_,h2⟩,?_⟩;refine Rf (K:=K) (b1:=false) (b2:=false) (xs:=xs1) (ys:=xs2) ns.length (by rw[l1,l2,fX.len];lia) (λi O H4=>aD H3 H4/\∃g u1 u2 u3 u4 u5,bU K H4 g (Rat.divInt (pJ (fH ns ms) i) ((aO ns:Int)*aO ms))/\O=[some v1,some v2,some g,u1,u2,u3,u4,u5]) ?_ (λi O H4 _ h=>⟨h1.go h.1,h2.go h.1⟩) ?_ ?_
  ·refine⟨aD.refl _,.ref g0,none,none,none,none,none,⟨g0,Z,?_⟩,Z⟩
   have e0:Rat.divInt ((pJ (fH ns ms) 0:Nat):Int) ((aO ns:Int)*aO ms)=0:=by show Rat.divInt 0 _=0;exact Rat.zero_divInt _
   rw[e0];exact aZ.of (s3 _ _ (s2 _ _ n1.at'))
  ·rintro i x y O H4 ex ey ⟨s4,g,u1,u2,u3,u4,u5,rg,rfl⟩ T H5 n5
   obtain⟨d1,e1,rx⟩:=q1.get' i ex;obtain⟨d2,e2,ry⟩:=q2.get' i ey;obtain⟨a,ea,rfl⟩:=rE e1;obtain⟨b,eb,rfl⟩:=rE e2;have qa:=iR.bd a (fA ea);have qb:=fX.bd b (fA eb);have cz:=UA ea eb;have czb:=cb _ (fA cz);have t5:=s4.trans n5.same;refine⟨T,_,Z,aZ.of n5.at',Z,_,_,Z,_,_,Z,Z,?_⟩;have kd:∀{H':Hp}{v:V}{r:Rat},RD K H' v (dh r)->bU K H' v r:=λ{H' v r} h=>by obtain⟨p,xs,rfl,h1,h2⟩:=h.cJ;have:=h2.gJ (ns:=[r.num,r.den]);subst this;exact⟨p,Z,h1⟩
   refine⟨_,Z,_,Z,y,x,_,_,Z,kd (RD.mono t5 _ ry),kd (RD.mono t5 _ rx),(kh (n:=30) aw aw aw).mono az,(kh (n:=30) aw aw aw).mono az,λv6 H6 r6 s6=>?_⟩;have ed:Rat.divInt b (aO ms)-Rat.divInt a (aO ns)=Rat.divInt (b*aO ns-a*aO ms) ((aO ns:Int)*aO ms):=VN aw aw;have r6:bU K H6 v6 (Rat.divInt b (aO ms)-Rat.divInt a (aO ns)):=r6;rw[ed]at r6;obtain⟨p6,rfl,h6⟩:=r6;refine⟨p6,_,Z,h6,Z,_,_,Z,_,_,Z,Z,?_⟩;refine⟨_,Z,_,Z,_,Z,ck Z,λdd H7 n7=>?_⟩;have F3:=s6.trans n7.same;have rD:bU K H7 (.ref dd) (Rat.divInt (((a*(aO ms:Int)-b*(aO ns:Int)).natAbs:Nat):Int) ((aO ns:Int)*aO ms)):=by
    have e:Rat.divInt (((a*(aO ms:Int)-b*(aO ns:Int)).natAbs:Nat):Int) ((aO ns:Int)*aO ms)=sM (Rat.divInt (b*aO ns-a*aO ms) ((aO ns:Int)*aO ms)):=by rw[a8H L0,Jn];congr 1;lia
    rw[e];refine⟨dd,Z,?_⟩;rw[a8G,a8I];exact aZ.of n7.at'
   have rG:bU K H7 g _:=(rg.go n5.same).go F3;have hG:pJ (fH ns ms) i<=2000000:=nT λz hz=>cb z (yH hz);refine⟨_,Z,_,Z,g,.ref dd,_,_,Z,rG,rD,QD _ aw,QD _ aw,_,Z,?_⟩;have hs:=a3V cz;refine fc (λhc=>?_) (λhc=>?_)
   ·have cH:=(S6 L0).mp (lM hc)
    refine⟨_,Z,?_⟩;refine⟨t5.trans F3,_,_,_,_,_,_,?_,Z⟩;rw[hs,Nat.max_eq_right aw];exact rD
   ·have hge:¬_:=λz=>hc (cf ((S6 L0).mpr z))
    refine⟨t5.trans F3,_,_,_,_,_,_,?_,Z⟩;rw[hs,Nat.max_eq_left aw];exact rG
  ·rintro O H4 ⟨s4,g,u1,u2,u3,u4,u5,rg,rfl⟩
   refine⟨_,Z,k _ _ ?_ (t3.trans s4)⟩;have:pJ (fH ns ms) ns.length=aO (fH ns ms):=by unfold pJ;rw[yF aw]
   rw[this]at rg;exact rg
abbrev EE:Stmt:=top 58
theorem MZ:aW ["machine","one","other","jump","p","q"] ["machine","one","other"] (aP EE):=bj aI
theorem ZY(F:FA K mg "corner_square" EE)(B:bC mg)(a3Z:aB P w K mg au "greatest_turn" 5 (KY K))(pL:aB P w K mg au "fraction" 3 (tP K)):aB P w K mg au "corner_square" 6 (CT K):=by
 refine F.has MZ (λvs H Q E h=>?_) (λ_ _ _ _ _ _=>jS λ_ _ _=>rfl) (λf aH A outer s H vs Q E hr h=>?_)
 ·obtain⟨v,v1,v2,rs,r,f',j,t,ns,ms,dZ,gX,rfl,_⟩:=h
  rfl
 ·obtain⟨v,v1,v2,rs,r,f',j,t,ns,ms,dZ,gX,rfl,rd,qM,lY,iR,fX,hz,j1,j2,k⟩:=h
  have nd:=MZ.nd;obtain⟨lp1,lm1⟩:=iR.lead;obtain⟨lp2,lm2⟩:=fX.lead;have L0:(0:Int)<(aO ns:Int)*aO ms:=jA aw aw;have Lb:((aO ns:Int)*aO ms).natAbs<=1000*1000:=mh aw aw;have cb:=IZ (λz hz=>by have:=iR.bd z hz;lia) (λz hz=>by have:=fX.bd z hz;lia) (ns:=ns) (ms:=ms);have hH:=nT cb;refine⟨_,(aE (pS 3 nd (px K (pv 0) aF)) (aE (eL (pf a3Z hr (ak (pv 1) (ak (pv 2) ay))) (eV K Z (n:=2) Z (bZ (bo 4 nd) (bZ (bo 5 nd) eU)))) (aE (bJ (bX (dM K Z hr.units) (pv 4) aF (bL _)) (aK (aR jk)) bK) (aK (aR (pf pL hr (ak (aQ cB (aQ cB (aQ cB (pv 3) (pv 3)) (pv 5)) (pv 5)) (ak (aQ cB (pv 4) (pv 4)) ay)))))))),?_⟩;obtain⟨am,bm,rfl,gK,iU⟩:=mi rd;refine⟨_,Z,.inr ⟨am,_,3,.int j,Z,Z,gK,Z,?_⟩⟩;refine⟨_,Z,_,Z,v1,v2,ns,ms,dZ,gX,Z,qM,lY,iR,fX,hz,λv3 H3 r3 s3=>?_⟩;obtain⟨Je⟩:Nonempty (Bd 30 (Rat.divInt (aO (fH ns ms)) ((aO ns:Int)*aO ms))):=⟨kh (n:=30) aw aw aw⟩;have en:=sX (Rat.divInt (aO (fH ns ms)) ((aO ns:Int)*aO ms));obtain⟨R,hR⟩:∃R,Rat.divInt (aO (fH ns ms)) ((aO ns:Int)*aO ms)=R:=⟨_,Z⟩;rw[hR]at r3 Je en;have dp:=den_pos R;have y9:R.num*((aO ns:Int)*aO ms)=aO (fH ns ms)*R.den:=by rw[<-hR]at en;have:=(Rat.divInt_eq_divInt_iff (by rw[hR];lia) aw).mp en;rw[hR]at this;exact this
  have nb:=Je.num;have db:=Je.den;obtain⟨p3,rfl,h3⟩:=r3;refine⟨p3,_,Z,h3,Z,_,_,Z,_,_,Z,Z,?_⟩;refine⟨_,Z,.inl ⟨_,_,Z,Z,_,Z,?_⟩⟩;refine fc (λhc=>?_) (λhc=>?_)
  ·have h0:R.num=0:=by simpa using hc
   have hl:aO (fH ns ms)=0:=by
    rw[h0,C1]at y9;rcases Int.mul_eq_zero.mp y9.symm with h|h
    ·lia
    ·lia
   refine k .bw H3 ?_ s3;unfold yb;rw[bf hl];exact tV
  ·have h0:R.num≠0:=by simpa using hc
   have hl:aO (fH ns ms)≠0:=by
    intro z;rw[z]at y9;have:R.num*((aO ns:Int)*aO ms)=0:=by rw[y9];exact C1 _
    rcases Int.mul_eq_zero.mp this with h|h
    ·exact h0 h
    ·lia
   have m1:(j*j).natAbs<=50*50:=mh aw aw;have oh:(2:Nat)^64=18446744073709551616:=by decide
   refine⟨_,Z,_,Z,_,_,Z,Z,.of_left (du aw aw),_,Z,_,_,Z,Z,.of_left (du aw aw),_,Z,_,_,Z,Z,.of_right (du aw aw),?_⟩;refine⟨_,Z,_,Z,_,_,Z,Z,.of_left (du aw aw),?_⟩;refine⟨_,_,Z,K4 h0 h0,?_,λv4 H4 r4 s4=>?_⟩
   ·refine jC (n:=60) ?_ az
    rw[iL];exact nR (n:=30) (m:=30) nb nb
   ·refine k _ _ ?_ (s3.trans s4)
    unfold yb;rw[bh hl];have e:=a7P (j:=j) (p:=R.num) (q:=R.den) (h:=aO (fH ns ms)) (L:=(aO ns:Int)*aO ms) h0 aw y9;rw[e,<-C3]at r4;exact r4.rd
def kH (d:ah):Bool:=cZ 10 200 d
inductive a9q(K:aa)(vs:List V)(H:Hp)(Q:VK):Prop |mk (v:_)(d:_)(h0:vs=[v])(h1:RD K H v d)(h2:Q (.bl (kH d)) H)
def zx(K:aa):Sp:=λvs H Q _=>a9q K vs H Q
abbrev Ek:Stmt:=top 60
theorem MI:aW ["thing"] ["thing"] (aP Ek):=bj aI
theorem ZG(F:FA K mg "is_rate" Ek)(B:bC mg)(a4K:GV mg "LEAST_RATE" (.int 10))(a4M:GV mg "GREATEST_RATE" (.int 200))(iz:aB P w K mg au "is_whole_within" 2 (lU K)):aB P w K mg au "is_rate" 3 (zx K):=by
 refine F.has MI (λvs H Q E h=>?_) (λ_ _ _ _ _ _=>cw λ_=>rfl) (λf aH A outer s H vs Q E hr h=>?_)
 ·obtain⟨v,d,rfl,_⟩:=h
  rfl
 ·obtain⟨v,d,rfl,rd,k⟩:=h
  have nd:=MI.nd;refine⟨_,(aK (aR (pf iz hr (ak (pv 0) (ak (cX (x:="LEAST_RATE") Z a4K) (ak (cX (x:="GREATEST_RATE") Z a4M) ay)))))),?_⟩;exact⟨_,Z,v,d,10,200,Z,rd,k⟩
inductive a9c(K:aa)(vs:List V)(H:Hp)(Q:VK):Prop |mk (v:_)(ns:_)(sp:_)(r:_)(h0:vs=[v,.int r])(h1:RD K H v (eX ns sp))(h2:1<=sp)(h3:sp<=20)(h4:10<=r)(h5:r<=200)(h6:∀v' H',bU K H' v' (Rat.divInt ((sp*r)^2) 10000)->aD H H'->Q v' H')
def zu(K:aa):Sp:=λvs H Q _=>a9c K vs H Q
theorem W3(a b:Int):a*a*b*b=(a*b)^2:=by rw[gj,gj,mW,lP];ac_rfl
theorem Xi{r:Int}(h1:10<=r)(h2:r<=200):kH (.int r)=true:=by show(decide (10<=r)&&decide (r<=200))=true;rw[cf h1,cf h2];rfl
abbrev Dg:Stmt:=top 59
theorem LP:aW ["line","rate","speed"] ["line","rate"] (aP Dg):=bj aI
theorem YC(F:FA K mg "top_square" Dg)(B:bC mg)(Hj:aB P w K mg au "is_rate" 3 (zx K))(pL:aB P w K mg au "fraction" 3 (tP K)):aB P w K mg au "top_square" 4 (zu K):=by
 refine F.has LP (λvs H Q E h=>?_) (λ_ _ _ _ _ _=>dF λ_ _=>rfl) (λf aH A outer s H vs Q E hr h=>?_)
 ·obtain⟨v,ns,sp,r,rfl,_⟩:=h
  rfl
 ·obtain⟨v,ns,sp,r,rfl,rd,s1,s2,r1,r2,k⟩:=h
  have nd:=LP.nd;refine⟨_,(aE (bJ (dw (cK (pf Hj hr (ak (pv 1) ay)))) (aK ua) bK) (aE (pS 2 nd (px K (pv 0) aF)) (aK (aR (pf pL hr (ak (aQ cB (aQ cB (aQ cB (pv 2) (pv 2)) (pv 1)) (pv 1)) (ak (aQ cB aF aF) ay))))))),?_⟩;refine⟨_,Z,_,.int r,Z,fC r,_,Z,?_⟩;rw[Xi r1 r2];refine aY ?_;obtain⟨a,b,rfl,ha,hb⟩:=uC rd;refine⟨_,Z,.inr ⟨a,_,2,.int sp,Z,Z,ha,Z,?_⟩⟩;have m1:(sp*sp).natAbs<=20*20:=by rw[iL];exact t7 aw aw
  refine⟨_,Z,_,Z,_,_,Z,Z,.of_left (du aw aw),_,Z,_,_,Z,Z,.of_left (du aw aw),_,Z,_,_,Z,Z,.of_right (du aw aw),?_⟩;refine⟨_,_,Z,Z,.of_left (du az az),?_⟩;refine⟨_,_,Z,az,jC (n:=20) az az,λv' H' r' s'=>k v' H' ?_ s'⟩;rw[W3]at r';exact r'
open _P
open _O (topR cornO mnO betR atO ownF leadF ownL OkI OkIs)
theorem W6(n:Nat)(h:n<=1000):n<sizeLine:=JU h az
theorem kd{H:Hp}{v:V}{r:Rat}(h:RD K H v (dh r)):bU K H v r:=by obtain⟨p,xs,rfl,h1,h2⟩:=h.cJ;have:=h2.gJ (ns:=[r.num,r.den]);subst this;exact⟨p,Z,h1⟩
theorem eO.up{ax:Nat}{ns:List Int}(h:eO ax 100 ns):eO ns.length 1000 ns:=⟨Z,λz hz=>by have:=h.bd z hz;lia,h.nz⟩
theorem fJ.kN{ax:Nat}{ds:List ah}{os:List Itm}(h:fJ ax ds os):OkIs os:=λi ns sp e=>by unfold atO at e;cases ho:os[i]? with |none=>rw[ho]at e;cases e |some o=>rw[ho]at e;have e':o=some (ns,sp):=e;subst e';obtain⟨a,b,c⟩:=h.ok i ns sp ho;exact⟨a.bd,b,c⟩
theorem uv{H:Hp}{a:Addr}(h:aZ K H a [.int 0,.int 1]):bU K H (.ref a) 0:=⟨a,Z,h⟩
theorem a7R(j:Int)(ns ms:List Int):yb j ns ms=match cornO j ns ms with|none=>.none|some c=>dh c:=by unfold yb cornO;split<;>rfl
inductive aak(K:aa)(vs:List V)(H:Hp)(Q:VK):Prop |mk (m:_)(v1:_)(v2:_)(aA:_)(rs:_)(r:_)(f:_)(j:_)(t:_)(d1:_)(d2:_)(o1:_)(o2:_)(ax:_)(h0:vs=[m,v1,v2,.int aA])(h1:RD K H m (gr rs r f j t))(h2:1<=j)(h3:j<=50)(h4:RD K H v1 d1)(h5:RD K H v2 d2)(h6:itR d1 o1)(h7:itR d2 o2)(h8:(∀ns sp,o1=some (ns,sp)->eO ax 100 ns/\1<=sp/\sp<=20))(h9:(∀ns sp,o2=some (ns,sp)->eO ax 100 ns/\1<=sp/\sp<=20))(h10:ax<=100)(h11:10<=aA)(rZ:aA<=200)(h13:∀v H',bU K H' v (betR j aA o1 o2)->aD H H'->Q v H')
def zH(K:aa):Sp:=λvs H Q _=>aak K vs H Q
abbrev EH:Stmt:=top 64
theorem N3:aW ["machine","one","other","rate","squares","corner"] ["machine","one","other","rate"] (aP EH):=bj aI
theorem a02(F:FA K mg "bound_between" EH)(B:bC mg)(gN:GT K mg "NOUGHT" [.int 0,.int 1])(jo:aB P w K mg au "is_line" 1 (oX K))(AJ:aB P w K mg au "top_square" 4 (zu K))(a4e:aB P w K mg au "corner_square" 6 (CT K))(mG:aB P w K mg au "least" 2 (kF K)):aB P w K mg au "bound_between" 7 (zH K):=by
 obtain⟨aN,jO,lT⟩:=gN;refine F.has N3 (λvs H Q E h=>?_) (λ_ _ _ _ _ _=>Jm λ_ _ _ _=>rfl) (λf aH A outer s H vs Q E hr h=>?_)
 ·obtain⟨m,v1,v2,aA,rs,r,f,j,t,d1,d2,o1,o2,ax,rfl,_⟩:=h
  rfl
 ·obtain⟨m,v1,v2,aA,rs,r,f,j,t,d1,d2,o1,o2,ax,rfl,rm,j1,j2,r1,r2,i1,i2,k1,k2,hax,cL,cT,k⟩:=h
  have nd:=N3.nd;refine⟨_,(aE (bJ (PW.pt (kJ (dw (cK (pf jo hr (ak (pv 1) ay)))) (kI (dw (cK (pf jo hr (ak (pv 2) ay))))))) (aK (aR (cX (x:="NOUGHT") Z jO))) bK) (aE (pS 4 nd (da (ak (pf AJ hr (ak (pv 1) (ak (pv 3) ay))) (ak (pf AJ hr (ak (pv 2) (ak (pv 3) ay))) ay)))) (aE (pS 5 nd (pf a4e hr (ak (pv 0) (ak (pv 1) (ak (pv 2) ay))))) (aE (iO (bJ (bX OA (pv 5) jk (bL _)) (aK (lZ (qV K Z (pv 4) (ak (pv 5) ay)))) bK)) (aK (aR (pf mG hr (ak (pv 4) ay)))))))),?_⟩;refine⟨_,Z,v1,d1,o1,Z,r1,i1,_,Z,?_⟩;cases o1 with |none=>refine bG (bG ?_);have:=k _ H (uv (lT H)) (aD.refl _);exact this |some q1=>obtain⟨ns,sp⟩:=q1;refine aY ?_;refine⟨_,Z,v2,d2,o2,Z,r2,i2,_,Z,?_⟩;cases o2 with |none=>refine bG ?_;exact k _ H (uv (lT H)) (aD.refl _) |some q2=>obtain⟨ms,sq⟩:=q2;refine aY ?_;have e1:=mx i1;have e2:=mx i2;subst e1 e2;obtain⟨iR,a1,a2⟩:=k1 ns sp rfl;obtain⟨fX,b1,b2⟩:=k2 ms sq rfl;refine⟨_,Z,_,Z,v1,ns,sp,aA,Z,r1,a1,a2,cL,cT,λt1 H1 WU s1=>?_⟩;refine⟨_,Z,_,Z,v2,ms,sq,aA,Z,RD.mono s1 _ r2,b1,b2,cL,cT,λt2 H2 WT s2=>?_⟩;refine⟨ck Z,λl H3 n3=>?_⟩;have t3:=s1.trans (s2.trans n3.same);have Af:eO ns.length 1000 ms:=⟨by rw[iR.len,fX.len],fX.up.bd,fX.nz⟩;refine⟨_,Z,_,Z,_,Z,m,v1,v2,rs,r,f,j,t,ns,ms,sp,sq,Z,RD.mono t3 _ rm,RD.mono t3 _ r1,RD.mono t3 _ r2,iR.up,Af,by rw[iR.len];lia,j1,j2,λc H4 rc s4=>?_⟩;have T1:Bd 2000 (topR aA sp):=(_O.ze a1 a2 cL cT).mono az;have T2:Bd 2000 (topR aA sq):=(_O.ze b1 b2 cL cT).mono az;have R1:bU K H4 t1 (topR aA sp):=((WU.go s2).go n3.same).go s4;have R2:bU K H4 t2 (topR aA sq):=(WT.go n3.same).go s4;have t4:=t3.trans s4;rw[a7R]at rc;cases hc:cornO j ns ms with
   |none=>
    rw[hc]at rc;cases rc.G5;refine⟨λO H5=>H5=H4/\O=[some m,some v1,some v2,some (.int aA),some (.ref l),some .bw],?_,?_⟩
    ·refine⟨_,Z,Z,_,Z,aY ?_⟩
     exact⟨Z,Z⟩
    rintro O H5 ⟨rfl,rfl⟩;refine⟨_,Z,l,[t1,t2],[topR aA sp,topR aA sq],Z,aJ.of (s4 _ _ n3.at'),⟨R1,T1,R2,T2,trivial⟩,by simp,λi v q e1 e2 hq=>?_⟩;have nX:betR j aA (some (ns,sp)) (some (ms,sq))=q:=by
     show mnO (mn _ _) (cornO j ns ms)=q;rw[hc];refine rB ?_ (hq _ (by simp)) (hq _ (by simp))
     match i,e2 with |0,e2=>cases e2;exact .inl rfl |1,e2=>cases e2;exact .inr rfl
    refine k v _ ?_ t4;rw[nX]
    match i,e1,e2 with |0,e1,e2=>cases e1;cases e2;exact R1 |1,e1,e2=>cases e1;cases e2;exact R2
   |some cq=>
    rw[hc]at rc;have Rc:bU K H4 c cq:=kd rc;have Tc:Bd 2000 cq:=(_O.Sj j1 j2 iR.bd fX.bd hc).mono az;have qd:=s4 _ _ n3.at';have tU:gT H4 (_L.upd H4 l (.lst ([t1,t2]++[c]))):=.tF qd;refine⟨λO H5=>H5=_L.upd H4 l (.lst ([t1,t2]++[c]))/\O=[some m,some v1,some v2,some (.int aA),some (.ref l),some c],?_,?_⟩
    ·obtain⟨pc,rfl,_⟩:=id Rc
     refine⟨_,Z,Z,_,Z,bG ?_⟩;refine⟨_,Z,.inl ⟨Z,_,aJ.of qd⟩,_,Z,l,[t1,t2],_,Z,Z,qd,W6 _ (Ug Z),?_⟩;exact⟨Z,Z⟩
    rintro O H5 ⟨rfl,rfl⟩;have up:∀{v:V}{q:Rat},bU K H4 v q->bU K (_L.upd H4 l (.lst ([t1,t2]++[c]))) v q:=λ{v q} h=>kd (RD.t tU _ (qO q) h.rd);refine⟨_,Z,l,[t1,t2,c],[topR aA sp,topR aA sq,cq],Z,aJ.of bW,⟨up R1,T1,up R2,T2,up Rc,Tc,trivial⟩,by simp,λi v q e1 e2 hq=>?_⟩;have nX:betR j aA (some (ns,sp)) (some (ms,sq))=q:=by
     show mnO (mn _ _) (cornO j ns ms)=q;rw[hc];show mn (mn _ _) cq=q;have h1:=hq _ (show topR aA sp∈[topR aA sp,topR aA sq,cq] by simp);have h2:=hq _ (show topR aA sq∈[topR aA sp,topR aA sq,cq] by simp);have h3:=hq _ (show cq∈[topR aA sp,topR aA sq,cq] by simp);refine rB ?_ (mq h1 h2) h3
     match i,e2 with |0,e2=>cases e2;exact .inl (rB (.inl rfl) h1 h2).symm |1,e2=>cases e2;exact .inl (rB (.inr rfl) h1 h2).symm |2,e2=>cases e2;exact .inr rfl
    have sU:aD H (_L.upd H4 l (.lst ([t1,t2]++[c]))):=λb o e=>by have h0:H2 l=none:=n3.no;have e2:=s2 b o (s1 b o e);rw[aV (g6 e2 h0)];exact t4 b o e
    refine k v _ ?_ sU;rw[nX]
    match i,e1,e2 with |0,e1,e2=>cases e1;cases e2;exact up R1 |1,e1,e2=>cases e1;cases e2;exact up R2 |2,e1,e2=>cases e1;cases e2;exact up Rc
theorem wN(qs:List Rat):cy (qs.map dh)=true:=OT qO qs
theorem aL.D6{H:Hp}{l:Addr}{ys:List V}{y:V}{ds:List ah}{d:ah}{i:Nat}(dl:H l=some (.lst ys))(r:aL K H ys ds)(rd:RD K H y d)(n1:cy ds=true)(n2:eM d=true):aL K (_L.upd H l (.lst (ys.set i y))) (ys.set i y) (ds.set i d):=by have t:gT H (_L.upd H l (.lst (ys.set i y))):=.tF dl;have r':=aL.t t _ n1 r;have NY:=RD.t t _ n2 rd;clear r rd dl t;generalize _L.upd H l (.lst (ys.set i y))=H' at r' NY;induction ds generalizing ys i with |nil=>cases r'.nil_inv;exact dv |cons d0 ds ih=>
 obtain⟨y0,yr,rfl,h1,h2⟩:=r'.cons_inv;have Am:cy ds=true:=by rw[cy,eH]at n1;exact n1.2
 cases i with |zero=>exact cI NY h2 |succ i=>exact cI h1 (ih Am h2)
theorem IY(xs:List V):jQ xs (some 1) none=xs.drop 1:=by unfold jQ;have e:_H.cg xs.length 0 (some 1)=min 1 xs.length:=_H.Np _ _ 1;rw[e,_H.Nl];cases xs with |nil=>rfl |cons x xs=>
 have e2:min 1 (x::xs).length=1:=by simp
 rw[e2,yF (by simp)]
inductive a9H(K:aa)(vs:List V)(H:Hp)(Q:VK):Prop |mk (m:_)(iv:_)(aA:_)(rs:_)(r:_)(f:_)(j:_)(t:_)(ds:_)(os:_)(h0:vs=[m,iv,.int aA])(h1:RD K H m (gr rs r f j t))(h2:jw rs r f j t)(h3:RD K H iv (.tuple ds))(h4:fJ rs.length ds os)(h5:ds.length<=100)(h6:10<=aA)(h7:aA<=200)(h8:∀l ys H',H l=none->H' l=some (.lst ys)->aL K H' ys ((ownL j aA os).map dh)->aD H H'->Q (.ref l) H')
def CK(K:aa):Sp:=λvs H Q _=>a9H K vs H Q
abbrev zM:Stmt:=top 63
theorem zK:aW ["machine","items","rate","between"] ["machine","items","rate"] (aP zM):=bj aI
theorem Zk(F:FA K mg "own_bounds" zM)(B:bC mg)(gN:GT K mg "NOUGHT" [.int 0,.int 1])(Hs:aB P w K mg au "bound_between" 7 (zH K)):aB P w K mg au "own_bounds" 8 (CK K):=by
 obtain⟨aN,jO,lT⟩:=gN;refine F.has zK (λvs H Q E h=>?_) (λ_ _ _ _ _ _=>jS λ_ _ _=>rfl) (λf aH A outer s H vs Q E hr h=>?_)
 ·obtain⟨m,iv,aA,rs,r,f,j,t,ds,os,rfl,_⟩:=h
  rfl
 ·obtain⟨m,iv,aA,rs,r,f,j,t,ds,os,rfl,rm,aG,ri,row,hz,cL,cT,k⟩:=h
  have nd:=zK.nd;have rN:∀H',RD K H' (.ref aN) (dh 0):=λH'=>(uv (lT H')).rd;refine⟨_,(aE (bJ (dw (wD K Z (pv 1))) (aK (aR (da (ak (cX (x:="NOUGHT") Z jO) ay)))) bK) (aE (zZ (i0:=3) nd Z (Or.inl Z) (N:=["one","other","machine","rate"]) (js:=[none,none,some 0,some 2]) Z Z Z (qS K Z false false Z (B.at "zip") (ak (pv 1) (ak (A5 (zI K rfl) (pv 1) (A0 aF) A1) ay))) (λ_ _ _ _ _=>(eV K rfl (n:=2) rfl (bZ (bo 0 (show List.Nodup (["one","other","machine","rate"]:List Str) by decide+kernel)) (bZ (bo 1 (show List.Nodup (["one","other","machine","rate"]:List Str) by decide+kernel)) eU)))) (λ_ _ _ _ _=>dS) (λ_ _ _ _ _=>(pf Hs hr (ak (pv 2) (ak (pv 0) (ak (pv 1) (ak (pv 3) ay))))))) (aK (aR (aQ (oE K Z) (aQ (oE K Z) (da (ak (cX (x:="NOUGHT") Z jO) ay)) (pv 3)) (da (ak (cX (x:="NOUGHT") Z jO) ay))))))),?_⟩;obtain⟨ia,xs,rfl,hi,iy⟩:=ri.cJ;have lx:=iy.length;have ll:=row.len;refine⟨_,Z,_,.inr (.inl ⟨_,hi,Z⟩),?_⟩;cases hd:xs with
  |nil=>
   subst hd;refine bG ?_;refine⟨ck Z,λl H1 n1=>?_⟩;refine k l [.ref aN] H1 n1.no n1.at' ?_ n1.same;have e:os=[]:=by
    have:os.length=0:=by rw[<-ll,<-lx];rfl
    exact Ui.mp this
   rw[e];exact cI (rN H1) dv |cons x0 xr=>
   refine aY ?_;have df:os≠[]:=by intro e;rw[e]at ll;rw[hd]at lx;simp at ll lx;rw[ll]at lx;cases lx
   have xf:0<xs.length:=by rw[hd];simp
   refine⟨_,Z,_,Z,1,Z,ia,xs,Z,.inr ⟨hi,?_,λtl H1 n1=>?_⟩⟩
   ·rintro⟨h1,_⟩
    have e:_H.cg xs.length 0 (some 1)=min 1 xs.length:=_H.Np _ _ 1;rw[e]at h1
    lia
   refine⟨ia,tl,Z,⟨_,hi.go n1.same⟩,⟨_,aZ.of n1.at'⟩,λD H2 n2=>?_⟩;have et:=n1.at';rw[IY]at et;have wJ:∀(i:Nat)(o:Itm),os[i]? =some o->∀(ns:List Int)(sp:Int),o=some (ns,sp)->eO rs.length 100 ns/\1<=sp/\sp<=20:=λi o e ns sp e'=>row.ok i ns sp (by rw[e,e']);have lr:=aG.len;refine Bs (K:=K) (b1:=false) (b2:=false) (xs:=xs) (ys:=xs.drop 1) (ds:=((List.range (os.length-1)).map (λi=>ownF j aA os (i+1))).map dh) _ Z (hi.go n1.same) (aZ.of et) n2 (by rw[JZ];simp;lia) (by simp;lia) (wN _) ?_ ?_
   ·intro i x y d H3 Q' ex ey ed s3 hq
    have eR:=n1.same.trans s3;rw[List.getElem?_drop]at ey;obtain⟨d1,e1,r1⟩:=iy.get' i ex;obtain⟨d2,e2,r2⟩:=iy.get' (1+i) ey;obtain⟨o1,xZ,i1⟩:=row.get e1;obtain⟨o2,sF,i2⟩:=row.get e2;have Qw:1+i<os.length:=(dD.mp sF).1;have dB:d=dh (betR j aA o1 o2):=by rw[bQ,bQ,cu (by simp;lia),yI]at ed;have:=(dG ed).symm;rw[this];show dh (betR j aA (atO os i) (atO os (i+1)))=_;rw[_O.vb xZ,_O.vb (show os[i+1]? =some o2 by rw[Nat.add_comm];exact sF)]
    subst dB;refine⟨_,Z,_,Z,_,Z,_,Z,m,x,y,aA,rs,r,f,j,t,d1,d2,o1,o2,rs.length,Z,RD.mono eR _ rm,aG.j1.1,aG.j1.2,RD.mono eR _ r1,RD.mono eR _ r2,i1,i2,wJ _ _ xZ,wJ _ _ sF,aw,cL,cT,λv H4 rv s4=>?_⟩;exact hq _ _ s4 rv.rd
   ·intro H3 zs s3 d3 r3
    have lz:=r3.length;simp at lz;refine⟨ck Z,λl1 H4 n4=>?_⟩;refine⟨_,Z,l1,D,_,zs,Z,Z,aJ.of n4.at',aJ.of (n4.same _ _ d3),w6 _ (by simp;lia),λl2 H5 n5=>?_⟩;refine⟨ck Z,λl3 H6 n6=>?_⟩;refine⟨l2,l3,_,_,Z,Z,aJ.of (n6.same _ _ n5.at'),aJ.of n6.at',w6 _ (by simp;lia),λl H7 n7=>?_⟩;have wo:aD H H6:=n1.same.trans (s3.trans (n4.same.trans (n5.same.trans n6.same)));have nl:H l=none:=by cases e:H l with |none=>rfl |some o=>have:=wo _ _ e;rw[n7.no]at this;cases this
    refine k l _ H7 nl n7.at' ?_ (wo.trans n7.same);rw[_O.Ou j aA df,mV,mV];exact((cI (rN H7) dv).append (aL.mono (n4.same.trans (n5.same.trans (n6.same.trans n7.same))) _ r3)).append (cI (rN H7) dv)
inductive a9F(K:aa)(vs:List V)(H:Hp)(Q:VK):Prop |mk (v:_)(r:_)(z:_)(h0:vs=[v,.int z])(h1:bU K H v r)(h2:Bd 2000 r)(h3:z.natAbs<2^24)(h4:∀v H',bU K H' v (r+(z:Rat))->aD H H'->Q v H')
def tO(K:aa):Sp:=λvs H Q _=>a9F K vs H Q
abbrev E2:Stmt:=top 42
theorem Mn:aW ["one","more"] ["one","more"] (aP E2):=bj aI
theorem Zf(F:FA K mg "plus_whole" E2)(B:bC mg)(a3e:aB P w K mg au "plus" 3 (qE (·+·) K)):aB P w K mg au "plus_whole" 4 (tO K):=by
 refine F.has Mn (λvs H Q E h=>?_) (λ_ _ _ _ _ _=>dF λ_ _=>rfl) (λf aH A outer s H vs Q E hr h=>?_)
 ·obtain⟨v,r,z,rfl,_⟩:=h
  rfl
 ·obtain⟨v,r,z,rfl,rv,br,hz,k⟩:=h
  have nd:=Mn.nd;refine⟨_,(aK (aR (pf a3e hr (ak (pv 0) (ak (gQ (ak (pv 1) (ak aF ay))) ay))))),?_⟩;refine⟨_,Z,_,Z,ck Z,λt H1 n1=>?_⟩;have bz:Bd 24 (z:Rat):=⟨hz,by show 1<2^24;decide⟩;exact⟨v,.ref t,r,(z:Rat),Z,rv.go n1.same,⟨t,Z,aZ.of n1.at'⟩,br,bz.mono az,λv' H' r' s'=>k v' H' r' (n1.same.trans s')⟩
theorem uD{os:List Itm}{i:Nat}{ns:List Int}{sp:Int}(h:os[i]? =some (some (ns,sp))):leadF os i=some (aO ns):=by unfold leadF;rw[_O.vb h];rfl
theorem Gz{os:List Itm}{i:Nat}(h:os[i]? =some none):leadF os i=none:=by unfold leadF;rw[_O.vb h];rfl
theorem uE{os:List Itm}(h:OkIs os){i m:Nat}(e:leadF os i=some m):m<=100:=by unfold leadF at e;cases ho:atO os i with |none=>rw[ho]at e;cases e |some q=>rw[ho]at e;cases e;obtain⟨a,_,_⟩:=h i q.1 q.2 ho;exact nT λz hz=>by have:=a z hz;lia
theorem tG{r:Int}{m:Nat}(h1:1<=r)(h2:r<=50)(h3:m<=100):(2*r*(m:Int)).natAbs<2^24:=by
 have iY:(2:Nat)^24=16777216:=by decide
 have:=mh (a:=2*r) (b:=(m:Int)) (m:=100) (n:=100) aw aw;rw[iY];lia
inductive a9o(K:aa)(vs:List V)(H:Hp)(Q:VK):Prop |mk (m:_)(iv:_)(l:_)(ys:_)(rs:_)(r:_)(f:_)(j:_)(t:_)(ds:_)(os:_)(g:_)(h0:vs=[m,iv,.ref l])(h1:RD K H m (gr rs r f j t))(h2:jw rs r f j t)(h3:RD K H iv (.tuple ds))(h4:fJ rs.length ds os)(h5:ds.length<=30)(h6:H l=some (.lst ys))(h7:aL K H ys ((lst os.length g).map dh))(h8:(∀i,Bd 64 (g i)))(h9:∀l ys H',H l=none->H' l=some (.lst ys)->aL K H' ys ((lst os.length (Rz g (leadF os) (2*r))).map dh)->aD H H'->Q (.ref l) H')
def La(K:aa):Sp:=λvs H Q _=>a9o K vs H Q
abbrev Dx:Stmt:=top 66
theorem M7:aW ["machine","items","squares","rise","kept","i","item"] ["machine","items","squares"] (aP Dx):=bj aI
theorem Z4(F:FA K mg "kept_by_rise" Dx)(B:bC mg)(jo:aB P w K mg au "is_line" 1 (oX K))(jM:aB P w K mg au "lead_of" 1 (nk K))(mC:aB P w K mg au "plus_whole" 4 (tO K))(mG:aB P w K mg au "least" 2 (kF K)):aB P w K mg au "kept_by_rise" 5 (La K):=by
 refine F.has M7 (λvs H Q E h=>?_) (λ_ _ _ _ _ _=>jS λ_ _ _=>rfl) (λf aH A outer s H vs Q E hr h=>?_)
 · obtain⟨m,iv,l,ys,rs,r,f,j,t,ds,os,g,rfl,_⟩:=h
   rfl
 · obtain⟨m,iv,l,ys,rs,r,f,j,t,ds,os,g,rfl,rm,aG,ri,row,hz,dl,wA,bg,k⟩:=h
   have nd:=M7.nd;refine⟨_,(aE (pS 3 nd (px K (pv 0) aF)) (aE (pS 4 nd (cD (x:="list") (Aw K Z) Z (B.at "list") JR (ak (pv 2) ay))) (aE (kf ie Z (XR K Z false Z (B.at "enumerate") (ak (pv 1) ay)) (eV K rfl (n:=2) rfl (bZ (bo 5 nd) (bZ (bo 6 nd) eU))) (aK (bJ (cK (pf jo hr (ak (pv 6) ay))) (aK (eL (pf mG hr (ak (da (ak (px K (pv 4) (aQ dP (pv 5) aF)) (ak (pf mC hr (ak (px K (pv 4) (pv 5)) (ak (aQ cB (aQ cB aF (pv 3)) (pf jM hr (ak (pv 6) ay))) ay))) ay))) ay)) (qT (pv 4) (aQ dP (pv 5) aF) set_list))) bK))) (aK (aR (pv 4)))))),?_⟩;obtain⟨ma,mb,rfl,gK,iU⟩:=mi rm;obtain⟨ia,xs,rfl,hi,iy⟩:=ri.cJ;have lx:=iy.length;have ll:=row.len;have lr:=aG.len;have hL:∀i m,leadF os i=some m->(2*r*(m:Int)).natAbs<2^24:=λi m e=>tG aG.r1.1 aG.r1.2 (uE row.kN e);have RB:∀i,i<=30->Bd 900 (Rz g (leadF os) (2*r) i):=λi hi=>(BF bg hL i).mono bI;refine⟨_,Z,.inr ⟨ma,_,1,.int r,Z,Z,gK,Z,?_⟩⟩;refine⟨_,Z,l,ys,Z,.inl (aJ.of dl),λD H1 n1=>?_⟩;refine⟨_,Z,ia,Z,⟨_,hi.go n1.same⟩,a5G (K:=K) (b:=false) (a:=ia) (xs:=xs) (λi O H2=>aD H H2/\∃zs v1 v2,H2 D=some (.lst zs)/\aL K H2 zs ((lst os.length λk=>if k<=i then Rz g (leadF os) (2*r) k else g k).map dh)/\O=[some (.ref ma),some (.ref ia),some (.ref l),some (.int r),some (.ref D),v1,v2]) ?_ (λi O H2 _ h=>hi.go h.1) ?_ ?_⟩
   · refine⟨n1.same,ys,none,none,n1.at',?_,Z⟩
     rw[nS (g:=λk=>if k<=0 then Rz g (leadF os) (2*r) k else g k) (g':=g)]
     ·exact aL.mono n1.same _ wA
     · intro k _
       show g k=if k<=0 then Rz g (leadF os) (2*r) k else g k;split
       · next h => have:k=0:=by omega
                   subst this;rfl
       ·rfl
   · rintro i y O H2 hy ⟨s2,zs,v1,v2,dz,rz,rfl⟩ T H3 n3
     have Qv:i<xs.length:=(dD.mp hy).1;obtain⟨d,ed,rd⟩:=iy.get' i hy;obtain⟨o,eo,it⟩:=row.get ed;have s3:=s2.trans n3.same;have lz:=rz.length;rw[bS,kl]at lz;refine⟨T,_,Z,aZ.of n3.at',Z,_,_,Z,_,_,Z,Z,?_⟩;refine⟨_,Z,y,d,o,Z,RD.mono s3 _ rd,it,_,Z,?_⟩;cases o with
     |none=>
       refine aY ?_;refine⟨s3,zs,_,_,n3.same _ _ dz,?_,Z⟩;rw[nS (g:=λk=>if k<=i+1 then Rz g (leadF os) (2*r) k else g k) (g':=λk=>if k<=i then Rz g (leadF os) (2*r) k else g k)]
       ·exact aL.mono n3.same _ rz
       · intro k _
         show(if k<=i then Rz g (leadF os) (2*r) k else g k)=if k<=i+1 then Rz g (leadF os) (2*r) k else g k;by_cases h1:k<=i
         ·rw[bf h1,bf bI]
         · rw[bh h1]
           by_cases h2:k=i+1
           ·subst h2;rw[bf (bO _),Tf (Gz eo)]
           ·rw[bh bI] |some q=>
       obtain⟨ns,sp⟩:=q;refine bG ?_;have dB:=mx it;subst dB;obtain⟨dj,_,_⟩:=row.ok i ns sp eo;have IV:=n3.same _ _ dz;have Fb:=aL.mono n3.same _ rz;obtain⟨z1,pU⟩:∃z,zs[i+1]? =some z:=⟨_,cu (show i+1<zs.length by omega)⟩;obtain⟨z0,pV⟩:∃z,zs[i]? =some z:=⟨_,cu (show i<zs.length by omega)⟩;have R1:bU K H3 z1 (g (i+1)):=by
        obtain⟨d1,e1,r1⟩:=Fb.get' (i+1) pU;rw[bQ,kn _ (show i+1<=os.length by omega)]at e1;cases e1;have:¬(i+1<=i):=by omega
        simp only[bh this]at r1;exact kd r1
       have R0:bU K H3 z0 (Rz g (leadF os) (2*r) i):=by obtain⟨d1,e1,r1⟩:=Fb.get' i pV;rw[bQ,kn _ (show i<=os.length by omega)]at e1;cases e1;simp only[bf (bO i)]at r1;exact kd r1
       have uS:((i:Int)+1).toNat=i+1:=by omega
       have ye:eZ zs ((i:Int)+1)=some z1:=cF bI (by rw[uS];exact pU);have yf:eZ zs (i:Int)=some z0:=cF bI (by simpa using pV);refine⟨_,Z,_,Z,_,_,Z,Z,.inl ⟨D,_,_,_,Z,Z,aJ.of IV,ye,?_⟩⟩;refine⟨_,Z,_,Z,.inl ⟨D,_,_,_,Z,Z,aJ.of IV,yf,?_⟩⟩;refine⟨_,Z,_,_,Z,Z,.of_left (du az az),?_⟩;refine⟨_,Z,y,ns,sp,Z,RD.mono s3 _ rd,dj.ne,by rw[dj.len];omega,λH4 s4=>?_⟩;have tY:=aG.r1;refine⟨_,_,Z,Z,.of_left (du bI bI),?_⟩;have us:=hL i _ (uD eo);refine⟨z0,_,_,Z,R0.go s4,(RB i bI).mono az,us,λu H5 ru s5=>?_⟩;refine⟨ck Z,λl2 H6 n6=>?_⟩;have gO:=s4.trans (s5.trans n6.same);have Th:=R1.go gO;have Ru:=ru.go n6.same;have B1:Bd 2000 (g (i+1)):=(bg _).mono az;have B2:Bd 2000 (Rz g (leadF os) (2*r) i+((2*r*(aO ns:Int):Int):Rat)):=(vf (RB i bI) us).mono az;refine⟨l2,[z1,u],[_,_],Z,aJ.of n6.at',⟨Th,B1,Ru,B2,trivial⟩,by simp,λc v q e1 e2 hq=>?_⟩;have nX:mn (g (i+1)) (Rz g (leadF os) (2*r) i+((2*r*(aO ns:Int):Int):Rat))=q:=by
        refine rB ?_ (hq _ (by simp)) (hq _ (by simp))
        match c,e2 with |0,e2=>cases e2;exact .inl rfl |1,e2=>cases e2;exact .inr rfl
       have Rv:bU K H6 v q:=by match c,e1,e2 with |0,e1,e2=>cases e1;cases e2;exact Th |1,e1,e2=>cases e1;cases e2;exact Ru
       have pY:=gO _ _ IV;have ix1:hU zs.length ((i:Int)+1)=some (i+1):=by unfold hU;rw[bf bI,bf bI,uS]
       refine⟨_,Z,_,Z,_,_,Z,Z,D,zs,_,_,Z,Z,pY,ix1,?_⟩;refine⟨λb o e=>?_,_,_,_,bW,?_,Z⟩
       ·rw[aV (g6 e n1.no)];exact gO b o (s3 b o e)
       · have h:=aL.D6 (i:=i+1) pY (aL.mono gO _ Fb) Rv.rd (wN _) (qO _)
         rw[<-BZ]at h;have e:(lst os.length λk=>if k<=i then Rz g (leadF os) (2*r) k else g k).set (i+1) q=lst os.length λk=>if k<=i+1 then Rz g (leadF os) (2*r) k else g k:=by
          rw[<-Gr (g:=λk=>if k<=i then Rz g (leadF os) (2*r) k else g k) (g':=λk=>if k<=i+1 then Rz g (leadF os) (2*r) k else g k) (i:=i+1)]
          · simp only[bf (bO (i+1))]
            rw[Tg (uD eo),nX]
          · intro k _ hk
            show(if k<=i+1 then _ else _)=if k<=i then _ else _;by_cases h1:k<=i
            ·rw[bf h1,bf bI]
            ·rw[bh h1,bh bI]
         rw[e]at h;exact h
   · rintro O H2 ⟨s2,zs,v1,v2,dz,rz,rfl⟩
     rw[nS (g:=λk=>if k<=xs.length then Rz g (leadF os) (2*r) k else g k) (g':=Rz g (leadF os) (2*r)) (λk hk=>by show _=if k<=xs.length then _ else _;rw[bf bI])]at rz;exact⟨_,Z,k D zs H2 n1.no dz rz s2⟩
inductive aa8(K:aa)(vs:List V)(H:Hp)(Q:VK):Prop |mk (m:_)(iv:_)(l:_)(ys:_)(rs:_)(r:_)(f:_)(j:_)(t:_)(ds:_)(os:_)(g:_)(h0:vs=[m,iv,.ref l])(h1:RD K H m (gr rs r f j t))(h2:jw rs r f j t)(h3:RD K H iv (.tuple ds))(h4:fJ rs.length ds os)(h5:ds.length<=30)(h6:H l=some (.lst ys))(h7:aL K H ys ((lst os.length g).map dh))(h8:(∀i,i<=os.length->Bd 900 (g i)))(h9:∀l ys H',H l=none->H' l=some (.lst ys)->aL K H' ys ((lst os.length (fl os.length (leadF os) (2*f) g)).map dh)->aD H H'->Q (.ref l) H')
def Lq(K:aa):Sp:=λvs H Q _=>aa8 K vs H Q
abbrev zN:Stmt:=top 67
theorem zL:aW ["machine","items","squares","fall","kept","i"] ["machine","items","squares"] (aP zN):=bj aI
theorem ZS(F:FA K mg "kept_by_fall" zN)(B:bC mg)(jo:aB P w K mg au "is_line" 1 (oX K))(jM:aB P w K mg au "lead_of" 1 (nk K))(mC:aB P w K mg au "plus_whole" 4 (tO K))(mG:aB P w K mg au "least" 2 (kF K)):aB P w K mg au "kept_by_fall" 5 (Lq K):=by
 refine F.has zL (λvs H Q E h=>?_) (λ_ _ _ _ _ _=>jS λ_ _ _=>rfl) (λfa aH A outer s H vs Q E hr h=>?_)
 · obtain⟨m,iv,l,ys,rs,r,f,j,t,ds,os,g,rfl,_⟩:=h
   rfl
 · obtain⟨m,iv,l,ys,rs,r,f,j,t,ds,os,g,rfl,rm,aG,ri,row,hz,dl,wA,bg,k⟩:=h
   have nd:=zL.nd;refine⟨_,(aE (pS 3 nd (px K (pv 0) aF)) (aE (pS 4 nd (cD (x:="list") (Aw K Z) Z (B.at "list") JR (ak (pv 2) ay))) (aE (kf ie Z (Of Z (B.at "reversed") (ak (cD (x:="range") Sy rfl (B.at "range") PyProof.Rows.boot_range (ak (fF K B (ak (pv 1) ay)) ay)) ay)) (bo 5 nd) (aK (bJ (cK (pf jo hr (ak (px K (pv 1) (pv 5)) ay))) (aK (eL (pf mG hr (ak (da (ak (px K (pv 4) (pv 5)) (ak (pf mC hr (ak (px K (pv 4) (aQ dP (pv 5) aF)) (ak (aQ cB (aQ cB aF (pv 3)) (pf jM hr (ak (px K (pv 1) (pv 5)) ay))) ay))) ay))) ay)) (qT (pv 4) (pv 5) set_list))) bK))) (aK (aR (pv 4)))))),?_⟩;obtain⟨ma,mb,rfl,gK,iU⟩:=mi rm;obtain⟨ia,xs,rfl,hi,iy⟩:=ri.cJ;have lx:=iy.length;have ll:=row.len;have lr:=aG.len;have hL:∀i m,leadF os i=some m->(2*f*(m:Int)).natAbs<2^24:=λi m e=>tG aG.f1.1 aG.f1.2 (uE row.kN e);have FB:∀i,i<=os.length->Bd 1700 (fl os.length (leadF os) (2*f) g i):=λi hi=>(Iq bg hL i hi).mono aw;refine⟨_,Z,.inr ⟨ma,_,2,.int f,Z,Z,gK,Z,?_⟩⟩;refine⟨_,Z,l,ys,Z,.inl (aJ.of dl),λD H1 n1=>?_⟩;refine⟨_,Z,ia,_,Z,.inr (hi.go n1.same),_,Z,λpr H2 n2=>?_⟩;refine⟨pr,_,Z,n2.at',aw,aw,?_⟩;have eN:((xs.length:Int)).toNat=os.length:=by lia
   rw[eN];refine Rg (Pv:=λi O H5=>aD H H5/\∃zs v1,H5 D=some (.lst zs)/\aL K H5 zs ((lst os.length λk=>if os.length<=k+i then fl os.length (leadF os) (2*f) g k else g k).map dh)/\O=[some (.ref ma),some (.ref ia),some (.ref l),some (.int f),some (.ref D),v1]) ?_ ?_ ?_
   · refine⟨n1.same.trans n2.same,ys,none,n2.same _ _ n1.at',?_,Z⟩
     rw[nS (g:=λk=>if os.length<=k+0 then fl os.length (leadF os) (2*f) g k else g k) (g':=g)]
     ·exact aL.mono (n1.same.trans n2.same) _ wA
     · intro k hk
       show g k=if os.length<=k+0 then _ else g k;split
       · next h => have:k=os.length:=by lia
                   subst this;exact xV.symm
       ·rfl
   · rintro i O H3 Hn ⟨s3,zs,v1,dz,rz,rfl⟩
     obtain⟨x,hx⟩:∃x,xs[os.length-1-i]? =some x:=⟨_,cu (show os.length-1-i<xs.length by lia)⟩;generalize hc:os.length-1-i=c at hx;have oa:c<os.length:=by lia
     have eI:((os.length:Int)-1-(i:Int))=(c:Int):=by lia
     rw[eI];obtain⟨d,ed,rd⟩:=iy.get' c hx;obtain⟨o,eo,it⟩:=row.get ed;have lz:=rz.length;rw[bS,kl]at lz;have yd:eZ xs (c:Int)=some x:=cF aw (by simpa using hx);refine⟨_,Z,_,Z,.inr ⟨ia,_,_,_,Z,Z,hi.go s3,yd,?_⟩⟩;refine⟨x,d,o,Z,RD.mono s3 _ rd,it,_,Z,?_⟩;cases o with
     |none=>
       refine aY ?_;refine⟨s3,zs,_,dz,?_,Z⟩;rw[nS (g:=λk=>if os.length<=k+(i+1)then fl os.length (leadF os) (2*f) g k else g k) (g':=λk=>if os.length<=k+i then fl os.length (leadF os) (2*f) g k else g k)]
       ·exact rz
       · intro k _
         show(if os.length<=k+i then _ else g k)=if os.length<=k+(i+1)then _ else g k;by_cases h1:os.length<=k+i
         ·rw[bf h1,bf aw]
         · rw[bh h1]
           by_cases h2:k=c
           ·subst h2;rw[bf aw,xU oa (Gz eo)]
           ·rw[bh aw] |some q=>
       obtain⟨ns,sp⟩:=q;refine bG ?_;have dB:=mx it;subst dB;obtain⟨dj,_,_⟩:=row.ok c ns sp eo;obtain⟨z1,pU⟩:∃z,zs[c+1]? =some z:=⟨_,cu (show c+1<zs.length by lia)⟩;obtain⟨z0,pV⟩:∃z,zs[c]? =some z:=⟨_,cu (show c<zs.length by lia)⟩;have R1:bU K H3 z1 (fl os.length (leadF os) (2*f) g (c+1)):=by
        obtain⟨d1,e1,r1⟩:=rz.get' (c+1) pU;rw[bQ,kn _ (show c+1<=os.length by lia)]at e1;cases e1;have:os.length<=c+1+i:=by lia
        simp only[bf this]at r1;exact kd r1
       have R0:bU K H3 z0 (g c):=by
        obtain⟨d1,e1,r1⟩:=rz.get' c pV;rw[bQ,kn _ (show c<=os.length by lia)]at e1;cases e1;have:¬os.length<=c+i:=by lia
        simp only[bh this]at r1;exact kd r1
       have uS:((c:Int)+1).toNat=c+1:=by lia
       have ye:eZ zs ((c:Int)+1)=some z1:=cF aw (by rw[uS];exact pU);have yf:eZ zs (c:Int)=some z0:=cF aw (by simpa using pV);refine⟨_,Z,_,Z,.inl ⟨D,_,_,_,Z,Z,aJ.of dz,yf,?_⟩⟩;refine⟨_,Z,_,Z,_,_,Z,Z,.inl ⟨D,_,_,_,Z,Z,aJ.of dz,ye,?_⟩⟩;refine⟨_,Z,_,_,Z,Z,.of_left (du az az),?_⟩;refine⟨_,Z,_,Z,.inr ⟨ia,_,_,_,Z,Z,hi.go s3,yd,?_⟩⟩;refine⟨x,ns,sp,Z,RD.mono s3 _ rd,dj.ne,by rw[dj.len];lia,λH4 s4=>?_⟩;have pT:=aG.f1;refine⟨_,_,Z,Z,.of_left (du aw aw),?_⟩;have us:=hL c _ (uD eo);refine⟨z1,_,_,Z,R1.go s4,(FB (c+1) aw).mono az,us,λu H5 ru s5=>?_⟩;refine⟨ck Z,λl2 H6 n6=>?_⟩;have gO:=s4.trans (s5.trans n6.same);have yj:=R0.go gO;have Ru:=ru.go n6.same;have B1:Bd 2000 (g c):=(bg _ aw).mono az;have B2:Bd 2000 (fl os.length (leadF os) (2*f) g (c+1)+((2*f*(aO ns:Int):Int):Rat)):=(vf (FB (c+1) aw) us).mono az;refine⟨l2,[z0,u],[_,_],Z,aJ.of n6.at',⟨yj,B1,Ru,B2,trivial⟩,by simp,λc' v q e1 e2 hq=>?_⟩;have nX:mn (g c) (fl os.length (leadF os) (2*f) g (c+1)+((2*f*(aO ns:Int):Int):Rat))=q:=by
        refine rB ?_ (hq _ (by simp)) (hq _ (by simp))
        match c',e2 with |0,e2=>cases e2;exact .inl rfl |1,e2=>cases e2;exact .inr rfl
       have Rv:bU K H6 v q:=by match c',e1,e2 with |0,e1,e2=>cases e1;cases e2;exact yj |1,e1,e2=>cases e1;cases e2;exact Ru
       have pY:=gO _ _ dz;have GH:hU zs.length (c:Int)=some c:=by unfold hU;rw[bf aw,bf aw];simp
       refine⟨_,Z,_,Z,D,zs,_,_,Z,Z,pY,GH,?_⟩;refine⟨λb o e=>?_,_,_,bW,?_,Z⟩
       ·rw[aV (g6 e n1.no)];exact gO b o (s3 b o e)
       · have h:=aL.D6 (i:=c) pY (aL.mono gO _ rz) Rv.rd (wN _) (qO _)
         rw[<-BZ]at h;have e:(lst os.length λk=>if os.length<=k+i then fl os.length (leadF os) (2*f) g k else g k).set c q=lst os.length λk=>if os.length<=k+(i+1)then fl os.length (leadF os) (2*f) g k else g k:=by
          rw[<-Gr (g:=λk=>if os.length<=k+i then fl os.length (leadF os) (2*f) g k else g k) (g':=λk=>if os.length<=k+(i+1)then fl os.length (leadF os) (2*f) g k else g k) (i:=c)]
          · have:os.length<=c+(i+1):=by lia
            simp only[bf this];rw[xW oa (uD eo),nX]
          · intro k _ hk
            show(if os.length<=k+(i+1)then _ else g k)=if os.length<=k+i then _ else g k;by_cases h1:os.length<=k+i
            ·rw[bf h1,bf aw]
            ·rw[bh h1,bh aw]
         rw[e]at h;exact h
   · rintro O H3 ⟨s3,zs,v1,dz,rz,rfl⟩
     rw[nS (g:=λk=>if os.length<=k+os.length then fl os.length (leadF os) (2*f) g k else g k) (g':=fl os.length (leadF os) (2*f) g) (λk hk=>by show _=if os.length<=k+os.length then _ else _;rw[bf aw])]at rz;exact⟨_,Z,k D zs H3 n1.no dz rz s3⟩
def A4(r f j aA:Int)(os:List Itm):Nat->Rat:=qR os.length (ownF j aA os) (leadF os) (2*r) (2*f)
def kK(r f j aA:Int)(os:List Itm):List Rat:=lst os.length (A4 r f j aA os)
inductive a9D(K:aa)(vs:List V)(H:Hp)(Q:VK):Prop |mk (m:_)(iv:_)(aA:_)(rs:_)(r:_)(f:_)(j:_)(t:_)(ds:_)(os:_)(h0:vs=[m,iv,.int aA])(h1:RD K H m (gr rs r f j t))(h2:jw rs r f j t)(h3:RD K H iv (.tuple ds))(h4:fJ rs.length ds os)(h5:ds.length<=30)(h6:10<=aA)(h7:aA<=200)(h8:∀l ys H',H l=none->H' l=some (.lst ys)->aL K H' ys ((kK r f j aA os).map dh)->aD H H'->Q (.ref l) H')
def zy(K:aa):Sp:=λvs H Q _=>a9D K vs H Q
abbrev DZ:Stmt:=top 65
theorem Ml:aW ["machine","items","rate","risen"] ["machine","items","rate"] (aP DZ):=bj aI
theorem Zh(F:FA K mg "plan_of" DZ)(B:bC mg)(Ha:aB P w K mg au "own_bounds" 8 (CK K))(a3H:aB P w K mg au "kept_by_rise" 5 (La K))(Hh:aB P w K mg au "kept_by_fall" 5 (Lq K)):aB P w K mg au "plan_of" 9 (zy K):=by
 refine F.has Ml (λvs H Q E h=>?_) (λ_ _ _ _ _ _=>jS λ_ _ _=>rfl) (λfa aH A outer s H vs Q E hr h=>?_)
 ·obtain⟨m,iv,aA,rs,r,f,j,t,ds,os,rfl,_⟩:=h
  rfl
 ·obtain⟨m,iv,aA,rs,r,f,j,t,ds,os,rfl,rm,aG,ri,row,hz,cL,cT,k⟩:=h
  have nd:=Ml.nd;refine⟨_,(aE (pS 3 nd (pf a3H hr (ak (pv 0) (ak (pv 1) (ak (pf Ha hr (ak (pv 0) (ak (pv 1) (ak (pv 2) ay)))) ay))))) (aK (aR (pf Hh hr (ak (pv 0) (ak (pv 1) (ak (pv 3) ay))))))),?_⟩;have ll:=row.len;have hB:=_O.Aa aG.j1.1 aG.j1.2 cL cT row.kN;have hL:∀i m,leadF os i=some m->(2*r*(m:Int)).natAbs<2^24:=λi m e=>tG aG.r1.1 aG.r1.2 (uE row.kN e);refine⟨_,Z,_,Z,_,Z,_,Z,_,Z,m,iv,aA,rs,r,f,j,t,ds,os,Z,rm,aG,ri,row,bI,cL,cT,λl1 y1 H1 nl1 d1 r1 s1=>?_⟩;refine⟨m,iv,l1,y1,rs,r,f,j,t,ds,os,ownF j aA os,Z,RD.mono s1 _ rm,aG,RD.mono s1 _ ri,row,hz,d1,r1,hB,λl2 y2 H2 G8 d2 r2 s2=>?_⟩;have gY:=s1.trans s2;refine⟨_,Z,_,Z,_,Z,m,iv,l2,y2,rs,r,f,j,t,ds,os,_,Z,RD.mono gY _ rm,aG,RD.mono gY _ ri,row,hz,d2,r2,λi hi=>(BF hB hL i).mono bI,λl3 y3 H3 OW d3 r3 s3=>?_⟩;have nl:H l3=none:=by cases e:H l3 with |none=>rfl |some o=>have:=gY _ _ e;rw[OW]at this;cases this
  exact k l3 y3 H3 nl d3 r3 (gY.trans s3)
theorem mn3{x y z q:Rat}(h:q=x\/q=y\/q=z)(h1:q<=x)(h2:q<=y)(h3:q<=z):mn (mn x y) z=q:=by
 refine JK ?_ (mq (mq h1 h2) h3);rcases h with h|h|h
 ·rw[h];exact eG (gq _ _) (gq _ _)
 ·rw[h];exact eG (gq _ _) (kP _ _)
 ·rw[h];exact kP _ _
theorem PN{n:Nat}{ns:List Int}(h:eO n 100 ns):aO ns<=100:=by have:=h.lead;lia
open _W
def fE(pl:List Int):ah:=.tuple (pl.map PyData.int)
theorem m4(pl:List Int):eM (fE pl)=true:=by rw[fE,eM];exact nP pl
theorem XI{H:Hp}{v:V}{pl:List Int}(h:RD K H v (fE pl)):∃a,v= .ref a/\aZ K H a (pl.map V.int):=by obtain⟨a,xs,rfl,h1,h2⟩:=h.cJ;rw[h2.gJ]at h1;exact⟨a,Z,h1⟩
theorem Oc{H:Hp}{a:Addr}{pl:List Int}(h:aZ K H a (pl.map V.int)):RD K H (.ref a) (fE pl):=fQ h (wz pl)
def hZ(pl:List Int):Itm->List Int |none=>pl |some (ns,_)=>j9 pl ns
inductive a9E(K:aa)(vs:List V)(H:Hp)(Q:VK):Prop |mk (p:_)(m:_)(rs:_)(r:_)(f:_)(j:_)(t:_)(h0:vs=[.ref p,m])(h1:ft H p)(h2:RD K H m (gr rs r f j t))(h3:jw rs r f j t)(h4:∀v pl H',RD K H' v (fE pl)->fO rs pl->bN p H H'->Q v H')
def Lf(K:aa):Sp:=λvs H Q _=>a9E K vs H Q
abbrev E1:Stmt:=top 108
theorem Mm:aW ["_law_bag_here","_law_machine_here"] ["_law_bag_here","_law_machine_here"] (aP E1):=bj aI
theorem Zi(F:FA K mg "_law_place" E1)(B:bC mg)(dJ:aB P w K mg au "_law_take" 1 lV):aB P w K mg au "_law_place" 2 (Lf K):=by
 refine F.has Mm (λvs H Q E h=>?_) (λ_ _ _ _ _ _=>dF λ_ _=>rfl) (λf aH A outer s H vs Q E hr h=>?_)
 ·obtain⟨p,m,rs,r,f,j,t,rfl,_⟩:=h
  rfl
 ·obtain⟨p,m,rs,r,f,j,t,rfl,bg,rm,uj,k⟩:=h
  have nd:=Mm.nd;refine⟨_,(aK (aR (cD (x:="tuple") (jZ K Z) Z (B.at "tuple") iJ (ak (eW (N:=["_law_rail","_law_bag_here"]) (js:=[none,some 0]) rfl rfl rfl (kg K rfl (px K (pv 1) aF)) (λ_ _ _ _ _=>(bo 0 (ki az))) (λ_ _ _ _ _=>dS) (λ_ _ _ _ _=>(pf dJ hr (ak (pv 1) (ak (aQ dP (pv 0) aF) ay))))) ay)))),?_⟩;obtain⟨ma,mb,rfl,gK,iU⟩:=mi rm;have lr:=uj.len;refine⟨_,Z,.inr ⟨ma,_,0,.ref mb,Z,Z,gK,cF (dY 0) Z,mb,Z,⟨_,iU⟩,λD H1 n1=>?_⟩⟩;refine J1 (K:=K) (J:=yn K mb) (p:=p) (H:=H) rs.length _ n1 bg aw (λi=>.int (rs.getD i 0)) (λi H2 hi b2=>?_) (λH2 b2=>?_) (λi d=>∃z r,d= .int z/\rs[i]? =some r/\0<=z/\z<=r) ?_ ?_
  ·have xq:=iU.t (bN.t bg b2)
   have e:(rs.map V.int)[i]? =some (.int (rs.getD i 0)):=by rw[bQ,List.getD_eq_getElem?_getD,cu hi];rfl
   exact⟨⟨_,_,xq,e⟩,λy H3 ⟨e3,y3⟩=>⟨e3,by have:=y3 _ xq;rw[e]at this;exact(dG this).symm⟩⟩
  ·exact⟨_,iU.t (bN.t bg b2),by rw[bS];exact bO _⟩
  ·intro i H2 Q' hi b2 hq
   have er:rs[i]? =some (rs.getD i 0):=by rw[List.getD_eq_getElem?_getD,cu hi];rfl
   obtain⟨r0,r1⟩:=uj.rl _ (fA er);refine⟨_,Z,_,Z,_,_,Z,Z,p,_,Z,b2.bM,aw,aw,λz H3 z0 z1 b3=>?_⟩;exact hq _ _ _ ⟨z,_,Z,er,z0,aw⟩ Z (fC z) b3
  ·intro H2 ys ds b2 d2 r2 l2 nl pd
   have pN:∃pl:List Int,ds=pl.map PyData.int/\fO rs pl:=by
    have key:∀(ds:List ah),(∀d∈ds,∃z:Int,d= .int z)->∃pl:List Int,ds=pl.map PyData.int:=by intro ds;induction ds with |nil=>exact λ_=>⟨[],Z⟩ |cons d ds ih=>intro h;obtain⟨z,rfl⟩:=h d (.head _);obtain⟨pl,rfl⟩:=ih λx hx=>h x (.tail _ hx);exact⟨z::pl,Z⟩
    obtain⟨pl,rfl⟩:=key ds λd hd=>by obtain⟨i,hi⟩:=oO.mp hd;obtain⟨z,_,e,_⟩:=pd i d hi;exact⟨z,e⟩
    refine⟨pl,Z,by simpa using l2,λi x r e1 e2=>?_⟩;obtain⟨z,r',e,er,h0,h1⟩:=pd i (.int x) (by rw[bQ,e1];rfl);cases e;rw[e2]at er;cases er;exact⟨h0,h1⟩
   obtain⟨pl,rfl,on⟩:=pN;refine⟨D,_,Z,.inl ⟨aJ.of d2,λt H3 n3=>?_⟩⟩;have et:=n3.at';rw[r2.gJ]at et;exact k (.ref t) pl H3 (Oc (aZ.of et)) on (b2.trans (.eg b2.bM n3.same))
def cS(z:Str):Prop:=∀c∈z.cps.toList,c<0x110000
theorem cS.app{a b:Str}(ha:cS a)(hb:cS b):cS (a++b):=λc hc=>by rw[vw,vI,mU]at hc;exact hc.elim (ha c) (hb c)
theorem cS.joined{sep:Str}(hs:cS sep):∀l:List Str,(∀a∈l,cS a)->cS (PySem.Str.join sep l) |[],_=>λc hc=>by simp[PySem.Str.join,PySem.Str.empty]at hc |[x],h=>h x (.head _) |x::y::r,h=>((h x (.head _)).app hs).app (cS.joined hs (y::r) λa ha=>h a (.tail _ ha))
theorem cS.join{sep:Str}{l:List Str}(hs:cS sep)(h:∀a∈l,cS a):cS (Txt.join sep l):=by show cS (Builtin.Str.glued sep l);rw[yA];exact cS.joined hs l h
theorem Yy{n:Nat}{z:Str}(h:cS z):dg n (.str z):=⟨by show PyData.strOk z=true;unfold PyData.strOk;rw[K9];exact λc hc=>cf (h c (by simpa using hc)),fU _⟩
theorem OH{n:Nat}{z:Str}(h:dg n (.str z)):cS z:=λc hc=>by have q:PyData.strOk z=true:=h.lay;unfold PyData.strOk at q;rw[K9]at q;exact lM (q c (by simpa using hc))
theorem iQ{z:Str}(h:z.cps.all (·<0x110000)=true):cS z:=OH (n:=0) ⟨h,fU _⟩
theorem KA:∀(ds:List ah),(∀d∈ds,∃z:Str,d= .str z/\z.length=1/\cS z/\z.cps.toList.all (λc=>decide (97<=c)&&decide (c<=122))=true)->∃zs:List Str,ds=zs.map PyData.str/\∀z∈zs,z.length=1/\cS z/\z.cps.toList.all (λc=>decide (97<=c)&&decide (c<=122))=true |[],_=>⟨[],Z,λ_ h=>nomatch h⟩ |d::ds,h=>by obtain⟨z,rfl,e⟩:=h d (.head _);obtain⟨zs,rfl,q⟩:=KA ds λx hx=>h x (.tail _ hx);exact⟨z::zs,Z,λy hy=>by
 rcases cj.mp hy with rfl|hy
 ·exact e
 ·exact q y hy⟩
theorem a8J:cS iB:=iQ aI
def As(c:Nat):Bool:=decide (97<=c)&&decide (c<=122)
def nQ(s:Str):Bool:=(decide (1<=s.length)&&decide (s.length<=8))&&s.cps.toList.all As
def FO(w s:Str):Prop:=(w="tool"/\(s="up"\/s="down"))\/(w="mark"/\nQ s=true)
def vi(d:ah):Prop:=(∃n,d= .tuple [.str "wait",.int n]/\1<=n/\n<=1000)\/∃w s,d= .tuple [.str w,.str s]/\(w="tool"\/w="mark")/\dg 0 (.str s)/\FO w s
theorem QM:∀l:List Str,(PySem.Str.join ("":Str) l).cps.toList=(l.map λz=>z.cps.toList).flatten
 |[]=>by simp[PySem.Str.join,PySem.Str.empty] |[x]=>by simp[PySem.Str.join] |x::y::r=>by
  show((x++("":Str))++PySem.Str.join ("":Str) (y::r)).cps.toList=_;rw[vw,vw,vI,vI,QM (y::r)];have:(("":Str)).cps.toList=[]:=by decide+kernel
  rw[this];simp
theorem a0W{l:List Str}(h1:1<=l.length)(h8:l.length<=8)(h:∀z∈l,z.length=1/\z.cps.toList.all As=true):nQ (Txt.join ("":Str) l)=true:=by
 have e:(Txt.join ("":Str) l).cps.toList=(l.map λz=>z.cps.toList).flatten:=by show(Builtin.Str.glued ("":Str) l).cps.toList=_;rw[yA];exact QM l
 have el:(Txt.join ("":Str) l).length=l.length:=by
  show(Txt.join ("":Str) l).cps.size=_;rw[<-yN,e,List.length_flatten,JY];have:∀(l:List Str),(∀z∈l,z.length=1/\z.cps.toList.all As=true)->(l.map (List.length∘λz=>z.cps.toList)).sum=l.length:=by intro l;induction l with |nil=>intro _;rfl |cons a r ih=>
   intro h;rw[qr,List.sum_cons,ih λz hz=>h z (.tail _ hz),gh];have:=(h a (.head _)).1;have e2:(List.length∘λz:Str=>z.cps.toList) a=1:=by show a.cps.toList.length=1;rw[yN];exact this
   rw[e2,Nat.add_comm]
  exact this l h
 unfold nQ;rw[el,e,cf h1,cf h8,ij,ij,fV];intro c hc;obtain⟨cs,B5,gu⟩:=List.mem_flatten.mp hc;obtain⟨z,hz,rfl⟩:=cW.mp B5;exact fV.mp (h z hz).2 c gu
theorem vi.it{d:ah}(h:vi d):itR d none:=by
 rcases h with⟨n,rfl,_⟩|⟨w,s,rfl,hw|hw,_⟩
 ·exact .inr ⟨_,_,Z,.inl Z,Z,Z⟩
 ·exact .inr ⟨_,_,Z,.inr (.inl hw),Z,Z⟩
 ·exact .inr ⟨_,_,Z,.inr (.inr hw),Z,Z⟩
def RowW(ds:List ah)(os:List Itm):Prop:=∀(i:Nat)(d:ah),os[i]? =some none->ds[i]? =some d->vi d
theorem RowW.snoc{ds:List ah}{os:List Itm}{d:ah}{o:Itm}(h:RowW ds os)(hl:ds.length=os.length)(hd:o=none->vi d):RowW (ds++[d]) (os++[o]):=by
 intro i x e1 e2;rcases qH e1 with h1|⟨h1,xP⟩
 ·rcases qH e2 with h2|⟨h2,_⟩
  ·exact h i x h1 h2
  ·have:=(dD.mp h1).1;lia
 ·rcases qH e2 with h2|⟨_,rY⟩
  ·have:=(dD.mp h2).1;lia
  ·subst rY;exact hd xP.symm
theorem UH{j:Int}(h:j.natAbs<2^64):Wd j:=BX h aI
inductive a9M(vs:List V)(H:Hp)(Q:VK):Prop |mk (p:Int)(q:Int)(h0:vs=[.int p,.int q])(h1:0<q)(h2:q<=10^6)(h3:p.natAbs<=10^9)(h4:Q (.int (fZ p q)) H)
def CN:Sp:=λvs H Q _=>a9M vs H Q
abbrev E5:Stmt:=top 54
theorem Mq:aW ["p","q","size"] ["p","q"] (aP E5):=bj aI
theorem Zo(F:FA K mg "nearest" E5)(B:bC mg):aB P w K mg au "nearest" 1 CN:=by
 refine F.has Mq (λvs H Q E h=>?_) (λ_ _ _ _ _ _=>dF λ_ _=>rfl) (λf aH A outer s H vs Q E hr h=>?_)
 ·obtain⟨p,q,rfl,_⟩:=h
  rfl
 ·obtain⟨p,q,rfl,q0,q1,p1,k⟩:=h
  have nd:=Mq.nd;refine⟨_,(aE (pS 2 nd (aQ uh (aQ dP (aQ cB aF (dy (x:="abs") uY Z (B.at "abs") yD (ak (pv 0) ay))) (pv 1)) (aQ cB aF (pv 1)))) (aK (aR (iP (bX FP (pv 0) aF (bL _)) (pv 2) (nC mX (pv 2)))))),?_⟩;refine⟨_,Z,p,Z,_,_,Z,Z,.of_left (du az az),_,Z,_,_,Z,Z,_,Z,_,_,Z,Z,.of_left (du az az),_,_,Z,Z,⟨aw,UH aw⟩,?_⟩;have e:(2*(if p<0 then-p else p)+q)/(2*q)=iq p q:=by unfold iq;rw[<-Jn];rfl
  refine⟨_,Z,_,_,Z,Z,_,Z,?_⟩;unfold fZ at k;rw[<-e]at k;refine fc (λhc=>?_) (λhc=>?_)
  ·have hp:p>=0:=lM hc
   rw[bf hp]at k;exact⟨_,Z,k⟩
  ·have hp:¬p>=0:=λz=>hc (cf z)
   rw[bh hp]at k;exact⟨_,Z,_,Z,k⟩
def KL(ns:List Int)(k:Int):ah:=.tuple ((ns.map λz=>fZ (k*z) (aO ns)).map PyData.int)
theorem XE{k z:Int}(h:k.natAbs<=10^6)(g:(z.natAbs:Int)<=1000):(k*z).natAbs<=10^9:=by rw[iL];exact gC (t7 h (show z.natAbs<=1000 by lia)) az
inductive a9h(K:aa)(vs:List V)(H:Hp)(Q:VK):Prop |mk (v:_)(ns:_)(sp:_)(k:_)(h0:vs=[v,.int k])(h1:RD K H v (eX ns sp))(h2:eO ns.length 1000 ns)(h3:ns.length<=1000)(h4:k.natAbs<=10^6)(h5:∀v' H',RD K H' v' (KL ns k)->aD H H'->Q v' H')
def zv(K:aa):Sp:=λvs H Q _=>a9h K vs H Q
abbrev Dl:Stmt:=top 52
theorem LV:aW ["line","k","lead"] ["line","k"] (aP Dl):=bj aI
theorem YH(F:FA K mg "stand_at" Dl)(B:bC mg)(jM:aB P w K mg au "lead_of" 1 (nk K))(a3t:aB P w K mg au "nearest" 1 CN):aB P w K mg au "stand_at" 2 (zv K):=by
 refine F.has LV (λvs H Q E h=>?_) (λ_ _ _ _ _ _=>dF λ_ _=>rfl) (λf aH A outer s H vs Q E hr h=>?_)
 ·obtain⟨v,ns,sp,k,rfl,_⟩:=h
  rfl
 ·obtain⟨v,ns,sp,kk,rfl,rd,ok,hz,hk,k⟩:=h
  have nd:=LV.nd;refine⟨_,(aE (pS 2 nd (pf jM hr (ak (pv 0) ay))) (aK (aR (cD (x:="tuple") (jZ K Z) Z (B.at "tuple") iJ (ak (eW (N:=["step","lead","k"]) (js:=[none,some 2,some 1]) rfl rfl rfl (kg K rfl (px K (pv 0) aF)) (λ_ _ _ _ _=>(bo 0 (show List.Nodup (["step","lead","k"]:List Str) by decide+kernel))) (λ_ _ _ _ _=>dS) (λ_ _ _ _ _=>(pf a3t hr (ak (aQ cB (pv 2) (pv 0)) (ak (pv 1) ay))))) ay))))),?_⟩;refine⟨_,Z,v,ns,sp,Z,rd,ok.ne,hz,λH1 s1=>?_⟩;obtain⟨a,b,rfl,ha,hb⟩:=uC (RD.mono s1 _ rd);obtain⟨lp,lm⟩:=ok.lead;refine⟨_,Z,.inr ⟨a,_,1,.ref b,Z,Z,ha,Z,b,Z,⟨_,hb⟩,λD H0 nw=>?_⟩⟩;refine sI (K:=K) (xs:=ns.map V.int) (ds:=(ns.map λz=>fZ (kk*z) (aO ns)).map PyData.int) _ hb nw (by simp) (by simpa using hz) (nP _) ?_ ?_
  ·intro i x d H2 Q' ex ed s2 hq
   rw[JY]at ed;obtain⟨n,en,rfl⟩:=rE ed;cases Gn ex en;refine⟨_,Z,_,Z,_,_,Z,Z,.of_left (du aw aw),_,Z,_,_,Z,aw,aw,XE hk (ok.bd n (fA en)),?_⟩;exact hq _ _ (aD.refl _) (fC _)
  ·intro H' ys s2 d2 r2
   refine⟨D,_,Z,.inl ⟨aJ.of d2,λt H4 n4=>?_⟩⟩;exact k _ _ (fQ (aZ.of n4.at') (aL.mono n4.same _ r2)) (s1.trans (s2.trans n4.same))
def lX(ns:List Int)(j:Nat):List Int:=ns.map λz=>fZ (((j:Int)+1)*z) (aO ns)-fZ ((j:Int)*z) (aO ns)
def ny(ns:List Int):List ah:=(List.range (aO ns)).map λj=>.tuple ((lX ns j).map PyData.int)
theorem Fj(zs:List Int):eM (.tuple (zs.map PyData.int))=true:=by rw[eM];exact nP zs
theorem Fh(ns:List Int):cy (ny ns)=true:=fY.mpr λd hd=>by obtain⟨j,_,rfl⟩:=cW.mp hd;exact Fj _
theorem NL{ns:List Int}{i:Nat}(h:i<aO ns):(ny ns)[i]? =some (.tuple ((lX ns i).map PyData.int)):=by unfold ny;rw[bQ,cu (by simpa using h),yI];rfl
theorem Fi(ns:List Int):(ny ns).length=aO ns:=by simp[ny]
inductive a9n(K:aa)(vs:List V)(H:Hp)(Q:VK):Prop |mk (v:_)(ns:_)(sp:_)(h0:vs=[v])(h1:RD K H v (eX ns sp))(h2:eO ns.length 1000 ns)(h3:ns.length<=1000)(h4:∀l ys H',H l=none->H' l=some (.lst ys)->aL K H' ys (ny ns)->aD H H'->Q (.ref l) H')
def Cw(K:aa):Sp:=λvs H Q _=>a9n K vs H Q
abbrev Dw:Stmt:=top 53
theorem M6:aW ["line","rows","before","k","behind"] ["line"] (aP Dw):=bj aI
theorem Z0(F:FA K mg "step_rows" Dw)(B:bC mg)(jM:aB P w K mg au "lead_of" 1 (nk K))(AL:aB P w K mg au "stand_at" 2 (zv K)):aB P w K mg au "step_rows" 3 (Cw K):=by
 refine F.has M6 (λvs H Q E h=>?_) (λ_ _ _ _ _ _=>cw λ_=>rfl) (λf aH A outer s H vs Q E hr h=>?_)
 ·obtain⟨v,ns,sp,rfl,_⟩:=h
  rfl
 ·obtain⟨v,ns,sp,rfl,rd,ok,hz,k⟩:=h
  have nd:=M6.nd;obtain⟨lp,lm⟩:=ok.lead;refine⟨_,(aE (pS 1 nd (da ay)) (aE (pS 2 nd (pf AL hr (ak (pv 0) (ak aF ay)))) (aE (kf ie Z (XO Z (B.at "range") (ak aF (ak (aQ dP (pf jM hr (ak (pv 0) ay)) aF) ay))) (bo 3 nd) (aE (pS 4 nd (pf AL hr (ak (pv 0) (ak (pv 3) ay)))) (aE (lZ (qV K Z (pv 1) (ak (cD (x:="tuple") (jZ K Z) Z (B.at "tuple") iJ (ak (eW (N:=["new","old"]) (js:=[none,none]) rfl rfl rfl (qS K rfl false false rfl (B.at "zip") (ak (pv 4) (ak (pv 2) ay))) (λ_ _ _ _ _=>(eV K rfl (n:=2) rfl (bZ (bo 0 (ki az)) (bZ (bo 1 (ki az)) eU)))) (λ_ _ _ _ _=>dS) (λ_ _ _ _ _=>(aQ jm (pv 0) (pv 1)))) ay)) ay))) (aK (pS 2 nd (pv 4)))))) (aK (aR (pv 1)))))),?_⟩;refine⟨ck Z,λl H1 n1=>?_⟩;refine⟨_,Z,v,ns,sp,0,Z,RD.mono n1.same _ rd,ok,hz,az,λu H2 ru s2=>?_⟩;have t2:=n1.same.trans s2;refine⟨_,Z,v,ns,sp,Z,RD.mono t2 _ rd,ok.ne,hz,λH3 s3=>?_⟩;refine⟨_,_,Z,Z,_,_,Z,⟨aw,aw,aw,aw⟩,?_⟩;have t3:=t2.trans s3;have e3:((aO ns:Int)+1-1).toNat=aO ns:=by lia
  refine Bc (Pv:=λi O H4=>aD H H4/\(∃ys,H4 l=some (.lst ys)/\aL K H4 ys ((ny ns).take i))/\∃b v1 v2,RD K H4 b (KL ns i)/\O=[some v,some (.ref l),some b,v1,v2]) ?_ ?_ ?_
  ·exact⟨t3,⟨[],s3 _ _ (s2 _ _ n1.at'),dv⟩,u,none,none,RD.mono s3 _ ru,Z⟩
  ·rintro i O H4 hi ⟨t4,⟨ys,dl,ry⟩,b,v1,v2,rb,rfl⟩
   have pK:i<aO ns:=by lia
   refine⟨_,Z,_,Z,v,ns,sp,_,Z,RD.mono t4 _ rd,ok,hz,aw,λb2 H5 Fs s5=>?_⟩;refine⟨_,Z,.inl ⟨Z,_,aJ.of (s5 _ _ dl)⟩,?_⟩;obtain⟨a1,xs1,rfl,h1,q1⟩:=Fs.cJ;have e1:=q1.gJ;subst e1;obtain⟨a0,xs0,rfl,h0,q0⟩:=(RD.mono s5 _ rb).cJ;have e0:=q0.gJ;subst e0;refine⟨_,Z,_,Z,a1,a0,Z,⟨_,h1⟩,⟨_,h0⟩,λD H6 nw=>?_⟩;refine Bs (K:=K) (b1:=false) (b2:=false) (ds:=(lX ns i).map PyData.int) [] rfl h1 h0 nw (by simp[lX]) (by simpa[lX]using hz) (nP _) ?_ ?_
   ·intro j x y d H7 Q' ex ey ed s7 hq
    obtain⟨m,em,rfl⟩:=rE ed;unfold lX at em;rw[bQ]at em ex ey;rw[bQ]at ex ey;cases en:ns[j]? with |none=>rw[en]at em;cases em |some n=>
     rw[en]at em ex ey;cases em;cases ex;cases ey;refine⟨_,Z,_,Z,_,_,Z,Z,?_⟩;have ee:(1:Int)+(i:Int)=(i:Int)+1:=by lia
     rw[ee];exact hq _ _ (aD.refl _) (fC _)
   ·intro H7 zs s7 d7 r7
    refine⟨D,_,Z,.inl ⟨aJ.of d7,λt H8 n8=>?_⟩⟩;have F7:=s5.trans (s7.trans n8.same);have y8:=F7 _ _ dl;have len:=ry.length;rw[tf,Fi]at len;refine⟨l,ys,_,Z,Z,y8,?_,?_⟩
    ·have:(1000:Nat)<sizeLine:=by decide
     lia
    refine⟨_,Z,?_⟩;have tt:gT H8 (_L.upd H8 l (.lst (ys++[.ref t]))):=.tF y8;refine⟨λb o e=>?_,⟨_,bW,?_⟩,_,_,_,?_,Z⟩
    ·rw[aV (g6 e n1.no)];exact F7 b o (t4 b o e)
    ·rw[vy,NL pK]
     have nt:cy ((ny ns).take i)=true:=fY.mpr λd hd=>fY.mp (Fh ns) d (yH hd);exact(aL.t tt _ nt (aL.mono F7 _ ry)).append (cI (RD.t tt _ (Fj _) (fQ (aZ.of n8.at') (aL.mono n8.same _ r7))) dv)
    ·have ee:(1:Int)+(i:Int)=((i+1:Nat):Int):=by lia
     rw[ee]at Fs;exact RD.t tt _ (Fj _) (RD.mono (s7.trans n8.same) _ Fs)
  ·rintro O H4 ⟨t4,⟨ys,dl,ry⟩,b,v1,v2,rb,rfl⟩
   rw[e3,yF (by rw[Fi];exact bO _)]at ry;exact⟨_,Z,k l ys H4 n1.no dl ry t4⟩
def jr(ti:Int)(q:Rat)(t:Int):Bool:=decide (ti*ti*(q.den:Int)<=t*t*q.num)
inductive aab(K:aa)(vs:List V)(H:Hp)(Q:VK):Prop |mk (m:_)(sq:_)(t:_)(rs:_)(r:_)(f:_)(j:_)(ti:_)(q:_)(h0:vs=[m,sq,.int t])(h1:RD K H m (gr rs r f j ti))(h2:bU K H sq q)(h3:Bd 2000 q)(h4:1<=ti)(h5:ti<=100)(h6:0<=t)(h7:t.natAbs<2^2400)(h8:Q (.bl (jr ti q t)) H)
def Lr(K:aa):Sp:=λvs H Q _=>aab K vs H Q
abbrev Ez:Stmt:=top 70
theorem MV:aW ["machine","square","t","p","q","ticks"] ["machine","square","t"] (aP Ez):=bj aI
theorem ZU(F:FA K mg "are_enough" Ez)(B:bC mg):aB P w K mg au "are_enough" 1 (Lr K):=by
 refine F.has MV (λvs H Q E h=>?_) (λ_ _ _ _ _ _=>jS λ_ _ _=>rfl) (λf aH A outer s H vs Q E hr h=>?_)
 ·obtain⟨m,sq,t,rs,r,f,j,ti,q,rfl,_⟩:=h
  rfl
 ·obtain⟨m,sq,t,rs,r,f,j,ti,q,rfl,rm,⟨p,rfl,hp⟩,bq,t1,t2,t0,tw,k⟩:=h
  have nd:=MV.nd;refine⟨_,(aE (eL (pv 1) (eV K Z (n:=2) Z (bZ (bo 3 nd) (bZ (bo 4 nd) eU)))) (aE (pS 5 nd (px K (pv 0) aF)) (aK (aR (jl FP (aQ cB (aQ cB (pv 2) (pv 2)) (pv 3)) (aQ cB (aQ cB (pv 5) (pv 5)) (pv 4)) (bL _)))))),?_⟩;obtain⟨a,b,rfl,ha,hb⟩:=mi rm;have wt:Wd t:=jC tw az;have UC:Wd (t*t):=jC (n:=4800) (by rw[iL];exact nR (n:=2400) (m:=2400) tw tw) az;have m1:(ti*ti).natAbs<=100*100:=by rw[iL];exact t7 bI bI
  refine⟨_,Z,_,_,Z,hp,Z,_,_,Z,_,_,Z,Z,?_⟩;refine⟨_,Z,.inr ⟨a,_,4,.int ti,Z,Z,ha,Z,?_⟩⟩;refine⟨_,Z,_,Z,_,_,Z,Z,lO wt.bits wt.bits,_,Z,_,_,Z,Z,lO UC.bits bq.wn.bits,?_⟩;refine⟨_,Z,_,Z,_,_,Z,Z,.of_left (du bI bI),_,Z,_,_,Z,Z,.of_left (du bI bI),?_⟩;exact⟨_,_,Z,Z,k⟩
theorem RP{ti t:Int}{q:Rat}(hq:0<q.num)(h0:0<=t)(h:ti*ti*(q.den:Int)<=t):jr ti q t=true:=by
 refine cf (Int.le_trans h ?_);by_cases ht:t=0
 ·subst ht;simp
 ·have e1:t*1<=t*t:=K5 aw h0
  have e2:t*t*1<=t*t*q.num:=K5 aw (jY h0 h0)
  lia
theorem a7l{ti:Int}{q:Rat}(h1:1<=ti):jr ti q 0=false:=by
 refine dE λh=>?_;have:=jA (jA (show 0<ti by lia) (show 0<ti by lia)) (den_pos q);simp only[C1]at h
 lia
inductive a9e(K:aa)(vs:List V)(H:Hp)(Q:VK):Prop |mk (m:_)(sq:_)(rs:_)(r:_)(f:_)(j:_)(ti:_)(q:_)(h0:vs=[m,sq])(h1:RD K H m (gr rs r f j ti))(h2:bU K H sq q)(h3:Bd 2000 q)(h4:1<=ti)(h5:ti<=100)(h6:0<q.num)(h7:∀T,1<=T->T.natAbs<2^2400->jr ti q T=true->jr ti q (T-1)=false->Q (.int T) H)
def L5(K:aa):Sp:=λvs H Q _=>a9e K vs H Q
abbrev Dj:Stmt:=top 69
theorem LS:aW ["machine","square","enough","too_few","between"] ["machine","square"] (aP Dj):=bj aI
theorem YF(F:FA K mg "ticks_of" Dj)(B:bC mg)(QF:aB P w K mg au "are_enough" 1 (Lr K)):aB P w K mg au "ticks_of" 2 (L5 K):=by
 refine F.has LS (λvs H Q E h=>?_) (λ_ _ _ _ _ _=>dF λ_ _=>rfl) (λf aH A outer s H vs Q E hr h=>?_)
 ·obtain⟨m,sq,rs,r,f,j,ti,q,rfl,_⟩:=h
  rfl
 ·obtain⟨m,sq,rs,r,f,j,ti,q,rfl,rm,rq,bq,t1,t2,hq,k⟩:=h
  have nd:=LS.nd;refine⟨_,(aE (pS 2 nd aF) (aE (u9 ie (dw (cK (pf QF hr (ak (pv 0) (ak (pv 1) (ak (pv 2) ay)))))) (aK (pS 2 nd (aQ cB aF (pv 2))))) (aE (pS 3 nd (aQ uh (pv 2) aF)) (aE (u9 ie (bX OD (aQ jm (pv 2) (pv 3)) aF (bL _)) (aE (pS 4 nd (aQ uh (aQ dP (pv 3) (pv 2)) aF)) (aK (bJ (cK (pf QF hr (ak (pv 0) (ak (pv 1) (ak (pv 4) ay))))) (aK (pS 2 nd (pv 4))) (aK (pS 3 nd (pv 4))))))) (aK (aR (pv 2))))))),?_⟩;have lim:(ti*ti*(q.den:Int)).natAbs<2^2399:=by
   have m1:(ti*ti).natAbs<=100*100:=by rw[iL];exact t7 aw aw
   have hd:=bq.den;rw[iL];have:(q.den:Int).natAbs=q.den:=rfl;rw[this];have:=nR (n:=14) (m:=2000) (a:=(ti*ti).natAbs) (b:=q.den) (JU m1 az) hd;exact fK this (t6 az az)
  have p0:0<ti*ti*(q.den:Int):=jA (jA aw aw) (den_pos q);have e2:(2:Nat)^2400=2^2399*2:=Nat.pow_succ 2 2399;generalize hL:ti*ti*(q.den:Int)=L at lim p0;refine tD (λO H2=>H2=H/\∃(x:Int),O=[some m,some sq,some (.int x),none,none]/\1<=x/\x<=2*L/\jr ti q (x/2)=false) (λO _=>match O with|[_,_,some (.int x),_,_]=>(L-x).toNat|_=>0) ?_ ?_ ?_
  ·exact⟨Z,1,Z,aw,aw,a7l t1⟩
  ·rintro O H2 ⟨rfl,x,rfl,x1,xL,hx⟩
   have xw:x.natAbs<2^2400:=by lia
   refine⟨_,Z,_,Z,_,Z,m,sq,x,rs,r,f,j,ti,q,Z,rm,rq,bq,t1,t2,aw,xw,_,Z,?_⟩;cases AZ:jr ti q x with
   |false=>
    have cH:x<L:=by
     by_cases cH:x<L
     ·exact cH
     ·rw[RP hq aw aw]at AZ;cases AZ
    refine fc (λhc=>?_) (λhc=>(hc Z).elim);refine⟨_,Z,_,_,Z,Z,.of_left (du az az),?_⟩;refine⟨⟨Z,_,Z,aw,aw,?_⟩,?_⟩
    ·have:2*x/2=x:=by lia
     rw[this];exact AZ
    ·show(L-2*x).toNat<(L-x).toNat
     lia |true=>
    refine fc (λhc=>nomatch hc) (λhc=>?_);refine⟨_,Z,_,_,Z,Z,⟨az,jC (n:=2) az az⟩,?_⟩;refine tD (λO H3=>H3=H2/\∃(lo hi:Int)(v:Option V),O=[some m,some sq,some (.int hi),some (.int lo),v]/\0<=lo/\lo<hi/\hi<=2*L/\jr ti q lo=false/\jr ti q hi=true) (λO _=>match O with|[_,_,some (.int x),some (.int y),_]=>(x-y).toNat|_=>0) ?_ ?_ ?_
    ·exact⟨Z,x/2,x,none,Z,aw,aw,xL,hx,AZ⟩
    ·rintro O H3 ⟨rfl,lo,hi,v,rfl,l0,lh,xJ,RU,Bi⟩
     refine⟨_,Z,_,Z,_,_,Z,Z,_,_,Z,Z,_,Z,?_⟩;refine fc (λhc=>?_) (λhc=>?_)
     ·have hgt:hi-lo>1:=lM hc
      refine⟨_,Z,_,Z,_,_,Z,Z,_,_,Z,Z,⟨az,jC (n:=2) az az⟩,?_⟩;have mw:((lo+hi)/2).natAbs<2^2400:=by lia
      refine⟨_,Z,_,Z,_,Z,m,sq,(lo+hi)/2,rs,r,f,j,ti,q,Z,rm,rq,bq,t1,t2,aw,mw,_,Z,?_⟩;cases hm:jr ti q ((lo+hi)/2)with
      |true=>
       refine bG ?_;refine⟨_,Z,⟨Z,lo,_,_,Z,l0,aw,aw,RU,hm⟩,?_⟩;show((lo+hi)/2-lo).toNat<(hi-lo).toNat
       lia |false=>
       refine aY ?_;refine⟨_,Z,⟨Z,_,hi,_,Z,aw,aw,xJ,hm,Bi⟩,?_⟩;show(hi-(lo+hi)/2).toNat<(hi-lo).toNat
       lia
     ·have hle:¬hi-lo>1:=λz=>hc (cf z)
      have e:lo=hi-1:=by lia
      subst e;exact⟨_,Z,k hi aw aw Bi RU⟩
    ·rintro O H2 Q1 Q2 hq ⟨v1,e1,v2,e2,i,j,e3,e4,i2,j2,e5,e6,kk,e7,q⟩
     exact⟨v1,e1,v2,e2,i,j,e3,e4,i2,j2,e5,e6,kk,e7,hq _ _ q⟩
  ·rintro O H2 Q1 Q2 hq ⟨v1,e1,v2,e2,v3,e3,m',W4,x',qJ,r',f',j',Ve,q',e4,h1,h2,h3,h4,h5,h6,h7,b,eb,q⟩
   exact⟨v1,e1,v2,e2,v3,e3,m',W4,x',qJ,r',f',j',Ve,q',e4,h1,h2,h3,h4,h5,h6,h7,b,eb,hq _ _ q⟩
def yh(ti:Int)(q:Rat)(T:Int):Prop:=1<=T/\jr ti q T=true/\jr ti q (T-1)=false
open Classical in
noncomputable def vR(ti:Int)(q:Rat):Int:=if h:∃T,yh ti q T then h.choose else 0
theorem RO{ti:Int}{q:Rat}{s t:Int}(hq:0<=q.num)(h0:0<=s)(h:s<=t)(e:jr ti q s=true):jr ti q t=true:=by refine cf (Int.le_trans (lM e) ?_);exact C2 (yK h h h0 aw) hq
theorem Vi{ti:Int}{q:Rat}{S T:Int}(hq:0<=q.num)(h1:yh ti q S)(h2:yh ti q T):S=T:=by
 obtain⟨a1,a2,a3⟩:=h1;obtain⟨b1,b2,b3⟩:=h2;by_cases h:S<=T-1
 ·have:=RO hq aw h a2
  rw[b3]at this;cases this
 ·by_cases h':T<=S-1
  ·have:=RO hq aw h' b2
   rw[a3]at this;cases this
  ·lia
theorem Vd{ti:Int}{q:Rat}{T:Int}(hq:0<=q.num)(h:yh ti q T):vR ti q=T:=by have hx:∃T,yh ti q T:=⟨T,h⟩;unfold vR;rw[dif_pos hx];exact Vi hq hx.choose_spec h
theorem OM{q:Rat}(h:0<q):0<q.num:=by
 have h1:=JJ.mpr (Rat.le_of_lt h);have h2:q.num≠0:=λe=>by rw[Rat.num_eq_zero.mp e]at h;exact absurd h az
 lia
noncomputable def tL(ti:Int)(zs:List Int)(q:Rat):ah:=.tuple [.str "step",.tuple (zs.map PyData.int),.int (vR ti q),dh q]
theorem KJ(ti:Int)(zs:List Int)(q:Rat):eM (tL ti zs q)=true:=by simp[tL,eM,cy,nP,qO]
inductive aaa(K:aa)(vs:List V)(H:Hp)(Q:VK):Prop |mk (m:_)(rv:_)(sq:_)(rs:_)(r:_)(f:_)(j:_)(ti:_)(zs:_)(q:_)(h0:vs=[m,rv,sq])(h1:RD K H m (gr rs r f j ti))(h2:jw rs r f j ti)(h3:RD K H rv (.tuple (zs.map PyData.int)))(h4:bU K H sq q)(h5:Bd 2000 q)(h6:0<q)(h7:∀v H',RD K H' v (tL ti zs q)->aD H H'->Q v H')
def CQ(K:aa):Sp:=λvs H Q _=>aaa K vs H Q
abbrev Ey:Stmt:=top 71
theorem MU:aW ["machine","row","square"] ["machine","row","square"] (aP Ey):=bj aI
theorem ZT(F:FA K mg "step_entry" Ey)(B:bC mg)(a2Y:aB P w K mg au "ticks_of" 2 (L5 K)):aB P w K mg au "step_entry" 3 (CQ K):=by
 refine F.has MU (λvs H Q E h=>?_) (λ_ _ _ _ _ _=>jS λ_ _ _=>rfl) (λf aH A outer s H vs Q E hr h=>?_)
 ·obtain⟨m,rv,sq,rs,r,f,j,ti,zs,q,rfl,_⟩:=h
  rfl
 ·obtain⟨m,rv,sq,rs,r,f,j,ti,zs,q,rfl,rm,aG,rr,Rq,bq,q0,k⟩:=h
  have nd:=MU.nd;refine⟨_,(aK (aR (gQ (ak bu (ak (pv 1) (ak (pf a2Y hr (ak (pv 0) (ak (pv 2) ay))) (ak (pv 2) ay))))))),?_⟩;have t1:=aG.t1;have qn:0<q.num:=OM q0;refine⟨_,Z,_,Z,_,Z,m,sq,rs,r,f,j,ti,q,Z,rm,Rq,bq,t1.1,t1.2,qn,λT T1 _ T2 T3=>?_⟩;refine⟨_,Z,ck Z,λt H1 n1=>k (.ref t) H1 ?_ n1.same⟩;have e:=Vd aw ⟨T1,T2,T3⟩;unfold tL;rw[e];exact fQ (aZ.of n1.at') (cI (bp _) (cI (RD.mono n1.same _ rr) (cI (fC _) (cI (Rq.go n1.same).rd dv))))
theorem Kj{aA sp:Int}(h1:1<=sp)(h2:10<=aA):0<topR aA sp:=by
 have h0:=_O.zd aA sp;refine JI h0 λe=>?_;have hp:0<(sp*aA)^2:=by rw[gj,gj,mW,lP];exact jA (jA aw aw) (jA aw aw)
 have h2:0<=Rat.divInt (-((sp*aA)^2)) 10000:=by rw[<-Rat.neg_divInt];show 0<=-(topR aA sp);rw[<-e];decide
 have:=(vt az).mp h2
 lia
theorem A3{rs:List Int}{r f j t aA:Int}{ds:List ah}{os:List Itm}(aG:jw rs r f j t)(row:fJ rs.length ds os)(hz:ds.length<=30)(cL:10<=aA)(cT:aA<=200):∀i,i<=os.length->Bd 1700 (A4 r f j aA os i):=λi hi=>by have ll:=row.len;have hB:=_O.Aa aG.j1.1 aG.j1.2 cL cT row.kN;have hL:∀i m,leadF os i=some m->(2*r*(m:Int)).natAbs<2^24:=λi m e=>tG aG.r1.1 aG.r1.2 (uE row.kN e);have xJ:∀i m,leadF os i=some m->(2*f*(m:Int)).natAbs<2^24:=λi m e=>tG aG.f1.1 aG.f1.2 (uE row.kN e);exact(Iq (b:=900) (λi hi=>(BF hB hL i).mono aw) xJ i hi).mono aw
inductive a9G(K:aa)(vs:List V)(H:Hp)(Q:VK):Prop |mk (m:_)(iv:_)(aA:_)(rs:_)(r:_)(f:_)(j:_)(t:_)(ds:_)(os:_)(h0:vs=[m,iv,.int aA])(h1:RD K H m (gr rs r f j t))(h2:jw rs r f j t)(h3:RD K H iv (.list ds))(h4:fJ rs.length ds os)(h5:ds.length<=100)(h6:10<=aA)(h7:aA<=200)(h8:∀l ys H',H l=none->H' l=some (.lst ys)->aL K H' ys ((ownL j aA os).map dh)->aD H H'->Q (.ref l) H')
def Lg(K:aa):Sp:=λvs H Q _=>a9G K vs H Q
theorem Zj(F:FA K mg "own_bounds" zM)(B:bC mg)(gN:GT K mg "NOUGHT" [.int 0,.int 1])(Hs:aB P w K mg au "bound_between" 7 (zH K)):aB P w K mg au "own_bounds" 8 (Lg K):=by
 obtain⟨aN,jO,lT⟩:=gN;refine F.has zK (λvs H Q E h=>?_) (λ_ _ _ _ _ _=>jS λ_ _ _=>rfl) (λf aH A outer s H vs Q E hr h=>?_)
 ·obtain⟨m,iv,aA,rs,r,f,j,t,ds,os,rfl,_⟩:=h
  rfl
 ·obtain⟨m,iv,aA,rs,r,f,j,t,ds,os,rfl,rm,aG,ri,row,hz,cL,cT,k⟩:=h
  have nd:=zK.nd;have rN:∀H',RD K H' (.ref aN) (dh 0):=λH'=>(uv (lT H')).rd;refine⟨_,(aE (bJ (dw (wD K Z (pv 1))) (aK (aR (da (ak (cX (x:="NOUGHT") Z jO) ay)))) bK) (aE (zZ (i0:=3) nd Z (Or.inl Z) (N:=["one","other","machine","rate"]) (js:=[none,none,some 0,some 2]) Z Z Z (qS K Z true true Z (B.at "zip") (ak (pv 1) (ak (A5 (zI K rfl) (pv 1) (A0 aF) A1) ay))) (λ_ _ _ _ _=>(eV K rfl (n:=2) rfl (bZ (bo 0 (show List.Nodup (["one","other","machine","rate"]:List Str) by decide+kernel)) (bZ (bo 1 (show List.Nodup (["one","other","machine","rate"]:List Str) by decide+kernel)) eU)))) (λ_ _ _ _ _=>dS) (λ_ _ _ _ _=>(pf Hs hr (ak (pv 2) (ak (pv 0) (ak (pv 1) (ak (pv 3) ay))))))) (aK (aR (aQ (oE K Z) (aQ (oE K Z) (da (ak (cX (x:="NOUGHT") Z jO) ay)) (pv 3)) (da (ak (cX (x:="NOUGHT") Z jO) ay))))))),?_⟩;obtain⟨ia,xs,rfl,hi,iy⟩:=ri.lst_inv;have lx:=iy.length;have ll:=row.len;refine⟨_,Z,_,.inl ⟨_,hi,Z⟩,?_⟩;cases hd:xs with
  |nil=>
   subst hd;refine bG ?_;refine⟨ck Z,λl H1 n1=>?_⟩;refine k l [.ref aN] H1 n1.no n1.at' ?_ n1.same;have e:os=[]:=by
    have:os.length=0:=by rw[<-ll,<-lx];rfl
    exact Ui.mp this
   rw[e];exact cI (rN H1) dv |cons x0 xr=>
   refine aY ?_;have df:os≠[]:=by intro e;rw[e]at ll;rw[hd]at lx;simp at ll lx;rw[ll]at lx;cases lx
   have xf:0<xs.length:=by rw[hd];simp
   refine⟨_,Z,_,Z,1,Z,ia,xs,Z,.inl ⟨hi,λtl H1 n1=>?_⟩⟩;refine⟨ia,tl,Z,⟨_,hi.go n1.same⟩,⟨_,aJ.of n1.at'⟩,λD H2 n2=>?_⟩;have et:=n1.at';rw[IY]at et;have wJ:∀(i:Nat)(o:Itm),os[i]? =some o->∀(ns:List Int)(sp:Int),o=some (ns,sp)->eO rs.length 100 ns/\1<=sp/\sp<=20:=λi o e ns sp e'=>row.ok i ns sp (by rw[e,e']);have lr:=aG.len;refine Bs (K:=K) (b1:=true) (b2:=true) (xs:=xs) (ys:=xs.drop 1) (ds:=((List.range (os.length-1)).map (λi=>ownF j aA os (i+1))).map dh) _ Z (hi.go n1.same) (aJ.of et) n2 (by rw[JZ];simp;lia) (by simp;lia) (wN _) ?_ ?_
   ·intro i x y d H3 Q' ex ey ed s3 hq
    have eR:=n1.same.trans s3;rw[List.getElem?_drop]at ey;obtain⟨d1,e1,r1⟩:=iy.get' i ex;obtain⟨d2,e2,r2⟩:=iy.get' (1+i) ey;obtain⟨o1,xZ,i1⟩:=row.get e1;obtain⟨o2,sF,i2⟩:=row.get e2;have Qw:1+i<os.length:=(dD.mp sF).1;have dB:d=dh (betR j aA o1 o2):=by rw[bQ,bQ,cu (by simp;lia),yI]at ed;have:=(dG ed).symm;rw[this];show dh (betR j aA (atO os i) (atO os (i+1)))=_;rw[_O.vb xZ,_O.vb (show os[i+1]? =some o2 by rw[Nat.add_comm];exact sF)]
    subst dB;refine⟨_,Z,_,Z,_,Z,_,Z,m,x,y,aA,rs,r,f,j,t,d1,d2,o1,o2,rs.length,Z,RD.mono eR _ rm,aG.j1.1,aG.j1.2,RD.mono eR _ r1,RD.mono eR _ r2,i1,i2,wJ _ _ xZ,wJ _ _ sF,aw,cL,cT,λv H4 rv s4=>?_⟩;exact hq _ _ s4 rv.rd
   ·intro H3 zs s3 d3 r3
    have lz:=r3.length;simp at lz;refine⟨ck Z,λl1 H4 n4=>?_⟩;refine⟨_,Z,l1,D,_,zs,Z,Z,aJ.of n4.at',aJ.of (n4.same _ _ d3),w6 _ (by simp;lia),λl2 H5 n5=>?_⟩;refine⟨ck Z,λl3 H6 n6=>?_⟩;refine⟨l2,l3,_,_,Z,Z,aJ.of (n6.same _ _ n5.at'),aJ.of n6.at',w6 _ (by simp;lia),λl H7 n7=>?_⟩;have wo:aD H H6:=n1.same.trans (s3.trans (n4.same.trans (n5.same.trans n6.same)));have nl:H l=none:=by cases e:H l with |none=>rfl |some o=>have:=wo _ _ e;rw[n7.no]at this;cases this
    refine k l _ H7 nl n7.at' ?_ (wo.trans n7.same);rw[_O.Ou j aA df,mV,mV];exact((cI (rN H7) dv).append (aL.mono (n4.same.trans (n5.same.trans (n6.same.trans n7.same))) _ r3)).append (cI (rN H7) dv)
inductive aa7(K:aa)(vs:List V)(H:Hp)(Q:VK):Prop |mk (m:_)(iv:_)(l:_)(ys:_)(rs:_)(r:_)(f:_)(j:_)(t:_)(ds:_)(os:_)(g:_)(h0:vs=[m,iv,.ref l])(h1:RD K H m (gr rs r f j t))(h2:jw rs r f j t)(h3:RD K H iv (.list ds))(h4:fJ rs.length ds os)(h5:ds.length<=30)(h6:H l=some (.lst ys))(h7:aL K H ys ((lst os.length g).map dh))(h8:(∀i,i<=os.length->Bd 900 (g i)))(h9:∀l ys H',H l=none->H' l=some (.lst ys)->aL K H' ys ((lst os.length (fl os.length (leadF os) (2*f) g)).map dh)->aD H H'->Q (.ref l) H')
def Lp(K:aa):Sp:=λvs H Q _=>aa7 K vs H Q
theorem ZR(F:FA K mg "kept_by_fall" zN)(B:bC mg)(jo:aB P w K mg au "is_line" 1 (oX K))(jM:aB P w K mg au "lead_of" 1 (nk K))(mC:aB P w K mg au "plus_whole" 4 (tO K))(mG:aB P w K mg au "least" 2 (kF K)):aB P w K mg au "kept_by_fall" 5 (Lp K):=by
 refine F.has zL (λvs H Q E h=>?_) (λ_ _ _ _ _ _=>jS λ_ _ _=>rfl) (λfa aH A outer s H vs Q E hr h=>?_)
 · obtain⟨m,iv,l,ys,rs,r,f,j,t,ds,os,g,rfl,_⟩:=h
   rfl
 · obtain⟨m,iv,l,ys,rs,r,f,j,t,ds,os,g,rfl,rm,aG,ri,row,hz,dl,wA,bg,k⟩:=h
   have nd:=zL.nd;refine⟨_,(aE (pS 3 nd (px K (pv 0) aF)) (aE (pS 4 nd (cD (x:="list") (Aw K Z) Z (B.at "list") JR (ak (pv 2) ay))) (aE (kf ie Z (Of Z (B.at "reversed") (ak (cD (x:="range") Sy rfl (B.at "range") PyProof.Rows.boot_range (ak (fF K B (ak (pv 1) ay)) ay)) ay)) (bo 5 nd) (aK (bJ (cK (pf jo hr (ak (px K (pv 1) (pv 5)) ay))) (aK (eL (pf mG hr (ak (da (ak (px K (pv 4) (pv 5)) (ak (pf mC hr (ak (px K (pv 4) (aQ dP (pv 5) aF)) (ak (aQ cB (aQ cB aF (pv 3)) (pf jM hr (ak (px K (pv 1) (pv 5)) ay))) ay))) ay))) ay)) (qT (pv 4) (pv 5) set_list))) bK))) (aK (aR (pv 4)))))),?_⟩;obtain⟨ma,mb,rfl,gK,iU⟩:=mi rm;obtain⟨ia,xs,rfl,hi,iy⟩:=ri.lst_inv;have lx:=iy.length;have ll:=row.len;have lr:=aG.len;have hL:∀i m,leadF os i=some m->(2*f*(m:Int)).natAbs<2^24:=λi m e=>tG aG.f1.1 aG.f1.2 (uE row.kN e);have FB:∀i,i<=os.length->Bd 1700 (fl os.length (leadF os) (2*f) g i):=λi hi=>(Iq bg hL i hi).mono aw;refine⟨_,Z,.inr ⟨ma,_,2,.int f,Z,Z,gK,Z,?_⟩⟩;refine⟨_,Z,l,ys,Z,.inl (aJ.of dl),λD H1 n1=>?_⟩;refine⟨_,Z,ia,_,Z,.inl (hi.go n1.same),_,Z,λpr H2 n2=>?_⟩;refine⟨pr,_,Z,n2.at',aw,aw,?_⟩;have eN:((xs.length:Int)).toNat=os.length:=by lia
   rw[eN];refine Rg (Pv:=λi O H5=>aD H H5/\∃zs v1,H5 D=some (.lst zs)/\aL K H5 zs ((lst os.length λk=>if os.length<=k+i then fl os.length (leadF os) (2*f) g k else g k).map dh)/\O=[some (.ref ma),some (.ref ia),some (.ref l),some (.int f),some (.ref D),v1]) ?_ ?_ ?_
   · refine⟨n1.same.trans n2.same,ys,none,n2.same _ _ n1.at',?_,Z⟩
     rw[nS (g:=λk=>if os.length<=k+0 then fl os.length (leadF os) (2*f) g k else g k) (g':=g)]
     ·exact aL.mono (n1.same.trans n2.same) _ wA
     · intro k hk
       show g k=if os.length<=k+0 then _ else g k;split
       · next h => have:k=os.length:=by lia
                   subst this;exact xV.symm
       ·rfl
   · rintro i O H3 Hn ⟨s3,zs,v1,dz,rz,rfl⟩
     obtain⟨x,hx⟩:∃x,xs[os.length-1-i]? =some x:=⟨_,cu (show os.length-1-i<xs.length by lia)⟩;generalize hc:os.length-1-i=c at hx;have oa:c<os.length:=by lia
     have eI:((os.length:Int)-1-(i:Int))=(c:Int):=by lia
     rw[eI];obtain⟨d,ed,rd⟩:=iy.get' c hx;obtain⟨o,eo,it⟩:=row.get ed;have lz:=rz.length;rw[bS,kl]at lz;have yd:eZ xs (c:Int)=some x:=cF aw (by simpa using hx);refine⟨_,Z,_,Z,.inl ⟨ia,_,_,_,Z,Z,hi.go s3,yd,?_⟩⟩;refine⟨x,d,o,Z,RD.mono s3 _ rd,it,_,Z,?_⟩;cases o with
     |none=>
       refine aY ?_;refine⟨s3,zs,_,dz,?_,Z⟩;rw[nS (g:=λk=>if os.length<=k+(i+1)then fl os.length (leadF os) (2*f) g k else g k) (g':=λk=>if os.length<=k+i then fl os.length (leadF os) (2*f) g k else g k)]
       ·exact rz
       · intro k _
         show(if os.length<=k+i then _ else g k)=if os.length<=k+(i+1)then _ else g k;by_cases h1:os.length<=k+i
         ·rw[bf h1,bf aw]
         · rw[bh h1]
           by_cases h2:k=c
           ·subst h2;rw[bf aw,xU oa (Gz eo)]
           ·rw[bh aw] |some q=>
       obtain⟨ns,sp⟩:=q;refine bG ?_;have dB:=mx it;subst dB;obtain⟨dj,_,_⟩:=row.ok c ns sp eo;obtain⟨z1,pU⟩:∃z,zs[c+1]? =some z:=⟨_,cu (show c+1<zs.length by lia)⟩;obtain⟨z0,pV⟩:∃z,zs[c]? =some z:=⟨_,cu (show c<zs.length by lia)⟩;have R1:bU K H3 z1 (fl os.length (leadF os) (2*f) g (c+1)):=by
        obtain⟨d1,e1,r1⟩:=rz.get' (c+1) pU;rw[bQ,kn _ (show c+1<=os.length by lia)]at e1;cases e1;have:os.length<=c+1+i:=by lia
        simp only[bf this]at r1;exact kd r1
       have R0:bU K H3 z0 (g c):=by
        obtain⟨d1,e1,r1⟩:=rz.get' c pV;rw[bQ,kn _ (show c<=os.length by lia)]at e1;cases e1;have:¬os.length<=c+i:=by lia
        simp only[bh this]at r1;exact kd r1
       have uS:((c:Int)+1).toNat=c+1:=by lia
       have ye:eZ zs ((c:Int)+1)=some z1:=cF aw (by rw[uS];exact pU);have yf:eZ zs (c:Int)=some z0:=cF aw (by simpa using pV);refine⟨_,Z,_,Z,.inl ⟨D,_,_,_,Z,Z,aJ.of dz,yf,?_⟩⟩;refine⟨_,Z,_,Z,_,_,Z,Z,.inl ⟨D,_,_,_,Z,Z,aJ.of dz,ye,?_⟩⟩;refine⟨_,Z,_,_,Z,Z,.of_left (du az az),?_⟩;refine⟨_,Z,_,Z,.inl ⟨ia,_,_,_,Z,Z,hi.go s3,yd,?_⟩⟩;refine⟨x,ns,sp,Z,RD.mono s3 _ rd,dj.ne,by rw[dj.len];lia,λH4 s4=>?_⟩;have pT:=aG.f1;refine⟨_,_,Z,Z,.of_left (du aw aw),?_⟩;have us:=hL c _ (uD eo);refine⟨z1,_,_,Z,R1.go s4,(FB (c+1) aw).mono az,us,λu H5 ru s5=>?_⟩;refine⟨ck Z,λl2 H6 n6=>?_⟩;have gO:=s4.trans (s5.trans n6.same);have yj:=R0.go gO;have Ru:=ru.go n6.same;have B1:Bd 2000 (g c):=(bg _ aw).mono az;have B2:Bd 2000 (fl os.length (leadF os) (2*f) g (c+1)+((2*f*(aO ns:Int):Int):Rat)):=(vf (FB (c+1) aw) us).mono az;refine⟨l2,[z0,u],[_,_],Z,aJ.of n6.at',⟨yj,B1,Ru,B2,trivial⟩,by simp,λc' v q e1 e2 hq=>?_⟩;have nX:mn (g c) (fl os.length (leadF os) (2*f) g (c+1)+((2*f*(aO ns:Int):Int):Rat))=q:=by
        refine rB ?_ (hq _ (by simp)) (hq _ (by simp))
        match c',e2 with |0,e2=>cases e2;exact .inl rfl |1,e2=>cases e2;exact .inr rfl
       have Rv:bU K H6 v q:=by match c',e1,e2 with |0,e1,e2=>cases e1;cases e2;exact yj |1,e1,e2=>cases e1;cases e2;exact Ru
       have pY:=gO _ _ dz;have GH:hU zs.length (c:Int)=some c:=by unfold hU;rw[bf aw,bf aw];simp
       refine⟨_,Z,_,Z,D,zs,_,_,Z,Z,pY,GH,?_⟩;refine⟨λb o e=>?_,_,_,bW,?_,Z⟩
       ·rw[aV (g6 e n1.no)];exact gO b o (s3 b o e)
       · have h:=aL.D6 (i:=c) pY (aL.mono gO _ rz) Rv.rd (wN _) (qO _)
         rw[<-BZ]at h;have e:(lst os.length λk=>if os.length<=k+i then fl os.length (leadF os) (2*f) g k else g k).set c q=lst os.length λk=>if os.length<=k+(i+1)then fl os.length (leadF os) (2*f) g k else g k:=by
          rw[<-Gr (g:=λk=>if os.length<=k+i then fl os.length (leadF os) (2*f) g k else g k) (g':=λk=>if os.length<=k+(i+1)then fl os.length (leadF os) (2*f) g k else g k) (i:=c)]
          · have:os.length<=c+(i+1):=by lia
            simp only[bf this];rw[xW oa (uD eo),nX]
          · intro k _ hk
            show(if os.length<=k+(i+1)then _ else g k)=if os.length<=k+i then _ else g k;by_cases h1:os.length<=k+i
            ·rw[bf h1,bf aw]
            ·rw[bh h1,bh aw]
         rw[e]at h;exact h
   · rintro O H3 ⟨s3,zs,v1,dz,rz,rfl⟩
     rw[nS (g:=λk=>if os.length<=k+os.length then fl os.length (leadF os) (2*f) g k else g k) (g':=fl os.length (leadF os) (2*f) g) (λk hk=>by show _=if os.length<=k+os.length then _ else _;rw[bf aw])]at rz;exact⟨_,Z,k D zs H3 n1.no dz rz s3⟩
def NX(f j aA:Int)(os:List Itm):Rat:=fl os.length (leadF os) (2*f) (ownF j aA os) 1
inductive a9p(K:aa)(vs:List V)(H:Hp)(Q:VK):Prop |mk (m:_)(iv:_)(aA:_)(rs:_)(r:_)(f:_)(j:_)(t:_)(ds:_)(os:_)(h0:vs=[m,iv,.int aA])(h1:RD K H m (gr rs r f j t))(h2:jw rs r f j t)(h3:RD K H iv (.list ds))(h4:fJ rs.length ds os)(h5:ds.length<=30)(h6:1<=ds.length)(h7:10<=aA)(h8:aA<=200)(h9:∀v H',bU K H' v (NX f j aA os)->aD H H'->Q v H')
def Cy(K:aa):Sp:=λvs H Q _=>a9p K vs H Q
abbrev Dy:Stmt:=top 76
theorem M8:aW ["machine","items","rate"] ["machine","items","rate"] (aP Dy):=bj aI
theorem Ze(F:FA K mg "reach_behind_first" Dy)(B:bC mg)(Ha:aB P w K mg au "own_bounds" 8 (Lg K))(Hh:aB P w K mg au "kept_by_fall" 5 (Lp K)):aB P w K mg au "reach_behind_first" 9 (Cy K):=by
 refine F.has M8 (λvs H Q E h=>?_) (λ_ _ _ _ _ _=>jS λ_ _ _=>rfl) (λfa aH A outer s H vs Q E hr h=>?_)
 ·obtain⟨m,iv,aA,rs,r,f,j,t,ds,os,rfl,_⟩:=h
  rfl
 ·obtain⟨m,iv,aA,rs,r,f,j,t,ds,os,rfl,rm,aG,ri,row,hz,h1,cL,cT,k⟩:=h
  have nd:=M8.nd;refine⟨_,(aK (aR (px K (pf Hh hr (ak (pv 0) (ak (pv 1) (ak (pf Ha hr (ak (pv 0) (ak (pv 1) (ak (pv 2) ay)))) ay)))) aF))),?_⟩;have ll:=row.len;have hB:=_O.Aa aG.j1.1 aG.j1.2 cL cT row.kN;refine⟨_,Z,_,Z,_,Z,_,Z,_,Z,m,iv,aA,rs,r,f,j,t,ds,os,Z,rm,aG,ri,row,aw,cL,cT,λl1 y1 H1 nl1 d1 r1 s1=>?_⟩;refine⟨m,iv,l1,y1,rs,r,f,j,t,ds,os,ownF j aA os,Z,RD.mono s1 _ rm,aG,RD.mono s1 _ ri,row,hz,d1,r1,λi _=>(hB i).mono az,λl2 y2 H2 G8 d2 r2 s2=>?_⟩;have ly:=r2.length;rw[bS,kl]at ly;obtain⟨z,ez⟩:∃z,y2[1]? =some z:=⟨_,cu (show 1<y2.length by lia)⟩;refine .inl ⟨l2,_,1,z,Z,Z,aJ.of d2,cF az ez,?_⟩;obtain⟨d,ed,rd⟩:=r2.get' 1 ez;rw[bQ,kn _ (show 1<=os.length by lia)]at ed;cases ed;exact k z H2 (kd rd) (s1.trans s2)
open _O (Itm)
theorem a1u{H:Hp}{v:V}{rs:List Int}{es:List ah}(h:RD K H v (.tuple (.tuple (rs.map PyData.int)::es))):∃a b ys,v= .ref a/\aZ K H a (.ref b::ys)/\aZ K H b (rs.map V.int):=by obtain⟨a,xs,rfl,h1,h2⟩:=h.cJ;obtain⟨x1,r1,rfl,e1,h2⟩:=h2.cons_inv;obtain⟨b,ys,rfl,h3,h4⟩:=e1.cJ;rw[h4.gJ]at h3;exact⟨a,b,r1,Z,h1,h3⟩
def gs(z:Str):ah->Bool | .str x=>x==z |_=>false
theorem Bg(z:Str)(d:ah):PyData.eqv d (.str z)=gs z d:=by cases d<;>simp[PyData.eqv,gs]
theorem Ry(z:Str)(d:ah):PyData.eqv (.str z) d=gs z d:=by cases d<;>simp[PyData.eqv,gs];rw[jd];simp;exact eq_comm
theorem VT(d:ah):(∃z,d= .str z)\/(iM (kD d) "str"=false/\∀z,d≠ .str z):=by cases d with |str z=>exact .inl ⟨z,Z⟩ |_=>exact .inr ⟨by simp[kD];decide,λ_ z=>nomatch z⟩
theorem V0:iM "str" "str"=true:=by decide
def GJ(d:ah):Bool:=gs "up" d||gs "down" d
def uq(c:Nat):Bool:=decide (97<=c)&&decide (c<=122)
def isNm:ah->Bool | .str x=>(decide (1<=x.length)&&decide (x.length<=8))&&x.cps.toList.all uq |_=>false
def nV(wd v:ah):Bool:=if gs "wait" wd then cZ 1 1000 v else if gs "tool" wd then GJ v else gs "mark" wd&&isNm v
def wL:ah->Bool | .int i=>i !=0 |_=>true
def qY(n:Nat):ah->Bool | .tuple ds=>(ds.length==n&&ds.all (cZ (-100) 100))&&ds.any wL |_=>false
def kQ(n:Nat):ah->Bool | .tuple [wd,a,b]=>gs "line" wd&&(qY n a&&cZ 1 20 b) | .tuple [wd,v]=>nV wd v |_=>false
def jh:ah->Bool | .str x=>decide (x.length<=900) |_=>true
def zJ:ah->Bool | .tuple ds=>ds.all jh |_=>true
inductive a9a(f:ah->Bool)(K:aa)(vs:List V)(H:Hp)(Q:VK):Prop |mk (v:_)(d:_)(h0:vs=[v])(h1:RD K H v d)(h2:jh d=true)(h3:∀H',aD H H'->Q (.bl (f d)) H')
def KW(f:ah->Bool)(K:aa):Sp:=λvs H Q _=>a9a f K vs H Q
theorem Wg{z:Str}(h:jh (.str z)=true):z.length<=900:=lM h
theorem P1(n:Nat):decide ((1:Int)<=(n:Int))=decide (1<=n):=by rw[jd];simp;omega
theorem a0U(n:Nat):decide ((n:Int)<=8)=decide (n<=8):=by rw[jd];simp;omega
theorem SX{l:List Nat}{f:Nat->Bool}:(l.map f).all id=l.all f:=by rw[List.all_map];rfl
theorem a8K:∀c<128,decide (c∈iB.cps.toList)=uq c:=by decide+kernel
theorem a8N:∀c∈iB.cps.toList,c<128:=by decide+kernel
theorem a8M(c:Nat):decide (c∈iB.cps.toList)=uq c:=by
 by_cases h:c<128
 ·exact a8K c h
 ·rw[dE (λhc=>h (a8N c hc)),uq,dE (show¬c<=122 by omega),C5]
abbrev Ep:Stmt:=top 37
theorem MO:aW ["thing"] ["thing"] (aP Ep):=bj aI
theorem ZL(F:FA K mg "is_name" Ep)(B:bC mg)(a4I:GV mg "LONGEST_NAME" (.int 8))(a4J:GV mg "LETTERS" (.str iB)):aB P w K mg au "is_name" 1 (KW isNm K):=by
 refine F.has MO (λvs H Q E h=>?_) (λ_ _ _ _ _ _=>cw λ_=>rfl) (λf aH A outer s H vs Q E hr h=>?_)
 ·obtain⟨v,d,rfl,_⟩:=h
  rfl
 ·obtain⟨v,d,rfl,rd,sh,k⟩:=h
  have nd:=MO.nd;refine⟨_,(aE (bJ (PW.pt (kJ (dw (cK (nH K B (ak (pv 0) (ak (m6 (x:="str") (v:=.ty "str") Z (B.at "str") fj rfl) ay))))) (kI (dw (XC Ad Ad aF (dy (x:="len") a89 rfl (B.at "len") PySem.boot_len (ak (pv 0) ay)) (cX (x:="LONGEST_NAME") rfl a4I)))))) (aK (aR gE)) bK) (aK (aR (dy (x:="all") (vc K Z Z) Z (B.at "all") yC (ak (eW (N:=["letter"]) (js:=[none]) rfl rfl rfl (Oe (pv 0)) (λ_ _ _ _ _=>(bo 0 (gR _))) (λ_ _ _ _ _=>dS) (λ_ _ _ _ _=>(jl OC (pv 0) (cX (x:="LETTERS") rfl a4J) (by with_unfolding_all rfl)))) ay))))),?_⟩;rcases VT d with⟨z,rfl⟩|⟨ht,hn⟩
  ·refine⟨_,Z,.inl ⟨_,_,"str",true,Z,rd.ty,az,V0,_,Z,aY ?_⟩⟩
   cases rd.str_inv;have hl:=Wg sh;have k:∀H',aD H H'->Q (.bl ((decide (1<=z.length)&&decide (z.length<=8))&&z.cps.toList.all uq)) H':=k;refine⟨_,Z,z,Z,gC hl az,_,_,Z,Z,_,Z,?_⟩;refine fc (λh1=>?_) (λh1=>?_)
   ·rw[<-P1,show decide ((1:Int)<=(z.length:Int))=true from h1,ij]at k
    refine⟨_,_,Z,Z,_,Z,?_⟩;rw[a0U];cases e8:decide (z.length<=8)with |false=>rw[e8,ip]at k;exact bG (k H (aD.refl _)) |true=>
     rw[e8,ij]at k;refine aY ⟨_,Z,z,Z,λD H0 nw=>?_⟩;refine Sl (f:=uq) [] nw aw (λc H2 Q' hc s2 hq=>?_) (λH2 s2 d2=>?_)
     ·refine⟨_,Z,c,iB,Z,Z,?_⟩
      rw[a8M];exact hq _ (aD.refl _)
     ·refine⟨D,_,Z,aJ.of d2,?_⟩
      rw[SX];exact k H2 s2
   ·rw[<-P1,show decide ((1:Int)<=(z.length:Int))=false from C4.mpr h1,ip,ip]at k
    exact⟨_,Z,bG (k H (aD.refl _))⟩
  ·have e:isNm d=false:=by cases d<;>first|rfl|exact absurd rfl (hn _)
   rw[e]at k;refine⟨_,Z,.inl ⟨_,_,"str",false,Z,rd.ty,az,ht,_,Z,bG ?_⟩⟩;exact k H (aD.refl _)
inductive a9j(K:aa)(vs:List V)(H:Hp)(Q:VK):Prop |mk (x:_)(v:_)(wd:_)(d:_)(h0:vs=[x,v])(h1:RD K H x wd)(h2:RD K H v d)(h3:dg 8 wd)(h4:dg 8 d)(h5:jh d=true)(h6:∀H',aD H H'->Q (.bl (nV wd d)) H')
def L7(K:aa):Sp:=λvs H Q _=>a9j K vs H Q
theorem wc{d:ah}(h:dg 8 d):SeqAt.shaped d=true:=h.shaped az
abbrev En:Stmt:=top 36
theorem MM:aW ["word","value"] ["word","value"] (aP En):=bj aI
theorem ZJ(F:FA K mg "is_short_item" En)(B:bC mg)(a4G:GV mg "LONGEST_WAIT" (.int 1000))(gS:GT K mg "SIDES" [.str "up",.str "down"])(iz:aB P w K mg au "is_whole_within" 2 (lU K))(a3N:aB P w K mg au "is_name" 1 (KW isNm K)):aB P w K mg au "is_short_item" 3 (L7 K):=by
 refine F.has MM (λvs H Q E h=>?_) (λ_ _ _ _ _ _=>dF λ_ _=>rfl) (λf aH A outer s H vs Q E hr h=>?_)
 ·obtain⟨x,v,wd,d,rfl,_⟩:=h
  rfl
 ·obtain⟨x,v,wd,d,rfl,Fc,rd,FU,uo,sh,k⟩:=h
  have nd:=MM.nd;obtain⟨aS,a4t,W2⟩:=gS;refine⟨_,(aE (bJ (bX (dM K Z hr.units) (pv 0) bu (bL _)) (aK (aR (pf iz hr (ak (pv 1) (ak aF (ak (cX (x:="LONGEST_WAIT") Z a4G) ay)))))) bK) (aE (bJ (bX (dM K Z hr.units) (pv 0) bu (bL _)) (aK (aR (jl (a2F K Z (hr.UU)) (pv 1) (cX (x:="SIDES") Z a4t) (by with_unfolding_all rfl)))) bK) (aK (aR (uf (jl (dM K Z hr.units) (pv 0) bu (bL _)) (p5 (pf a3N hr (ak (pv 1) ay)))))))),?_⟩;have k:∀H',aD H H'->Q (.bl (if gs "wait" wd then cZ 1 1000 d else if gs "tool" wd then GJ d else gs "mark" wd&&isNm d)) H':=k;refine⟨_,Z,.inr ⟨_,_,Fc,bp _,wc FU,aI,_,Z,?_⟩⟩;rw[Bg];cases e1:gs "wait" wd with |true=>rw[e1,bf rfl]at k;exact bG ⟨_,Z,_,d,1,1000,Z,rd,k H (aD.refl _)⟩ |false=>rw[e1,bh dN]at k;refine aY ⟨_,Z,.inr ⟨_,_,Fc,bp _,wc FU,aI,_,Z,?_⟩⟩;rw[Bg];cases e2:gs "tool" wd with
   |true=>
    rw[e2,bf rfl]at k;refine bG ⟨_,Z,aS,_,d,[.str "up",.str "down"],Z,W2 H,rd,cI (bp _) (cI (bp _) dv),wc uo,?_,?_⟩
    ·intro e he
     rcases cj.mp he with rfl|he
     ·decide+kernel
     rcases cj.mp he with rfl|he
     ·decide+kernel
     ·exact(eQ he).elim
    ·have e:([.str "up",.str "down"]:List ah).any (λe=>PyData.eqv e d)=GJ d:=by rw[vF,vF,List.any_nil,Ry,Ry,Bool.or_false];rfl
     rw[e];exact k H (aD.refl _) |false=>rw[e2,bh dN]at k;refine aY ⟨_,Z,.inr ⟨_,_,Fc,bp _,wc FU,aI,_,Z,?_⟩⟩;rw[Bg];cases e3:gs "mark" wd with |true=>rw[e3,ij]at k;exact bG ⟨_,Z,_,d,Z,rd,sh,k⟩ |false=>rw[e3,ip]at k;exact aY (k H (aD.refl _))
theorem a0q(i:Int):(!decide (i=0))=(i !=0):=by rw[jd];simp
theorem a2E{lo hi:Int}{d:ah}(h:cZ lo hi d=true):∃i,d= .int i:=by cases d<;>simp[cZ]at h;exact⟨_,Z⟩
theorem any_map'{ds:List ah}{f:ah->Bool}:(ds.map f).any id=ds.any f:=by rw[List.any_map];rfl
inductive a9i(K:aa)(vs:List V)(H:Hp)(Q:VK):Prop |mk (m:V)(v:V)(rs:List Int)(es:List ah)(d:ah)(h0:vs=[m,v])(h1:RD K H m ((.tuple (.tuple (rs.map PyData.int)::es))))(h2:RD K H v d)(h3:rs.length<=3)(h4:∀H',aD H H'->Q (.bl (qY rs.length d)) H')
def L6(K:aa):Sp:=λvs H Q _=>a9i K vs H Q
abbrev ER:Stmt:=top 35
theorem Nb:aW ["machine","thing","rails"] ["machine","thing"] (aP ER):=bj aI
theorem a0a(F:FA K mg "are_steps" ER)(B:bC mg)(QH:GV mg "MOST_STEPS" (.int 100))(iz:aB P w K mg au "is_whole_within" 2 (lU K)):aB P w K mg au "are_steps" 3 (L6 K):=by
 refine F.has Nb (λvs H Q E h=>?_) (λ_ _ _ _ _ _=>dF λ_ _=>rfl) (λf aH A outer s H vs Q E hr h=>?_)
 ·obtain⟨m,v,rs,es,d,rfl,_⟩:=h
  rfl
 ·obtain⟨m,v,rs,es,d,rfl,rm,rd,l3,k⟩:=h
  have nd:=Nb.nd;refine⟨_,(aE (pS 2 nd (px K (pv 0) aF)) (aE (bJ (PW.pt (kJ (dw (cK (nH K B (ak (pv 1) (ak (m6 (x:="tuple") (v:=.ty "tuple") Z (B.at "tuple") iJ rfl) ay))))) (kI (bX (m9 K rfl hr.units) (fF K B (ak (pv 1) ay)) (fF K B (ak (pv 2) ay)) (bL _))))) (aK (aR gE)) bK) (aE (bJ (dw (cK (dy (x:="all") (vc K Z Z) Z (B.at "all") yC (ak (eW (N:=["step"]) (js:=[none]) rfl rfl rfl (kg K rfl (pv 1)) (λ_ _ _ _ _=>(bo 0 (gR _))) (λ_ _ _ _ _=>dS) (λ_ _ _ _ _=>(pf iz hr (ak (pv 0) (ak (nC mX (cX (x:="MOST_STEPS") rfl QH)) (ak (cX (x:="MOST_STEPS") rfl QH) ay)))))) ay)))) (aK (aR gE)) bK) (aK (aR (dy (x:="any") (a8y K Z Z) Z (B.at "any") Uc (ak (eW (N:=["step"]) (js:=[none]) rfl rfl rfl (kg K rfl (pv 1)) (λ_ _ _ _ _=>(bo 0 (gR _))) (λ_ _ _ _ _=>dS) (λ_ _ _ _ _=>(jl (m9 K rfl hr.units) (pv 0) aF (bL _)))) ay))))))),?_⟩;obtain⟨am,ar,ym,rfl,hm,har⟩:=a1u rm;refine⟨_,Z,.inr ⟨am,_,0,_,Z,Z,hm,cF (dY 0) Z,?_⟩⟩;rcases vQ d with⟨ds,rfl⟩|⟨ht,hn⟩
  ·refine⟨_,Z,.inl ⟨_,_,"tuple",true,Z,rd.ty,az,oQ,_,Z,aY ?_⟩⟩
   obtain⟨av,xs,rfl,hx,hd⟩:=rd.cJ;have hl:=hd.length;refine⟨_,Z,av,_,Z,.inr hx,_,Z,ar,_,Z,.inr har,.inl ⟨_,_,Z,Z,_,Z,?_⟩⟩;have k:∀H',aD H H'->Q (.bl ((ds.length==rs.length&&ds.all (cZ (-100) 100))&&ds.any wL)) H':=k;have e0:(!decide ((xs.length:Int)=((rs.map V.int).length:Int)))= !(ds.length==rs.length):=by rw[hl,bS];congr 1;rw[jd];simp;lia
   rw[e0];cases e:(ds.length==rs.length)with |false=>rw[e,ip,ip]at k;exact bG (k H (aD.refl _)) |true=>
    rw[e,ij]at k;refine aY ?_;have el:ds.length=rs.length:=fi.mp e;refine⟨_,Z,av,Z,⟨_,hx⟩,λD H0 nw=>?_⟩;refine Bt (xs:=xs) (bs:=ds.map (cZ (-100) 100)) [] hx nw (by rw[bS,hl]) aw ?_ ?_
    ·intro i x b H2 Q' ex eb s2 hq
     obtain⟨d,ed,rfl⟩:=Aq eb;obtain⟨x',j7,rx⟩:=hd.get i ed;rw[ex]at j7;cases j7;exact⟨_,Z,_,Z,_,d,-100,100,Z,RD.mono s2 _ rx,hq _ (aD.refl _)⟩
    ·intro H2 s2 d2
     refine⟨D,_,Z,aJ.of d2,_,Z,?_⟩;rw[all_map];cases e1:ds.all (cZ (-100) 100)with |false=>rw[e1,ip]at k;exact bG (k H2 s2) |true=>
      rw[e1,ij]at k;refine aY ⟨_,Z,av,Z,⟨_,hx.go s2⟩,λD2 H3 n3=>?_⟩;refine Bt (xs:=xs) (bs:=ds.map wL) [] (hx.go s2) n3 (by rw[bS,hl]) aw ?_ ?_
      ·intro i x b H4 Q' ex eb s4 hq
       obtain⟨d,ed,rfl⟩:=Aq eb;obtain⟨x',j7,rx⟩:=hd.get i ed;rw[ex]at j7;cases j7;obtain⟨z,rfl⟩:=a2E (fV.mp e1 d (fA ed));cases rx.int_inv;refine⟨_,Z,.inl ⟨_,_,Z,Z,?_⟩⟩;show Q' (.bl (!decide (z=0))) H4;rw[a0q];exact hq _ (aD.refl _)
      ·intro H4 s4 d4
       refine⟨D2,_,Z,aJ.of d4,?_⟩;rw[any_map'];exact k H4 (s2.trans s4)
  ·have e:qY rs.length d=false:=by cases d<;>first|rfl|exact absurd rfl (hn _)
   rw[e]at k;refine⟨_,Z,.inl ⟨_,_,"tuple",false,Z,rd.ty,az,ht,_,Z,bG ?_⟩⟩;exact k H (aD.refl _)
theorem item_cases(n:Nat)(d:ah):(∃wd a b,d= .tuple [wd,a,b])\/(∃wd v,d= .tuple [wd,v])\/(∃ds,d= .tuple ds/\ds.length≠3/\ds.length≠2/\kQ n d=false)\/(iM (kD d) "tuple"=false/\kQ n d=false):=by
 rcases vQ d with⟨ds,rfl⟩|⟨ht,hn⟩
 ·match ds with |[r,a,b]=>exact .inl ⟨r,a,b,Z⟩ |[r,a]=>exact .inr (.inl ⟨r,a,Z⟩) |[]=>exact .inr (.inr (.inl ⟨_,Z,by simp,by simp,by simp[kQ]⟩)) |[_]=>exact .inr (.inr (.inl ⟨_,Z,by simp,by simp,by simp[kQ]⟩)) |_::_::_::_::_=>exact .inr (.inr (.inl ⟨_,Z,by simp,by simp,by simp[kQ]⟩))
 ·exact .inr (.inr (.inr ⟨ht,by cases d<;>first|rfl|exact absurd rfl (hn _)⟩))
inductive a9Y(K:aa)(vs:List V)(H:Hp)(Q:VK):Prop |mk (m:V)(v:V)(rs:List Int)(es:List ah)(d:ah)(h0:vs=[m,v])(h1:RD K H m ((.tuple (.tuple (rs.map PyData.int)::es))))(h2:RD K H v d)(h3:rs.length<=3)(h4:dg 8 d)(h5:zJ d=true)(h6:∀H',aD H H'->Q (.bl (kQ rs.length d)) H')
def zD(K:aa):Sp:=λvs H Q _=>a9Y K vs H Q
theorem FX{ds:List ah}(h:dg 8 (.tuple ds)){d:ah}(hd:d∈ds):dg 8 d:=((dg.cJ (n:=7) h) d hd).le az
theorem Wh{ds:List ah}(h:zJ (.tuple ds)=true){d:ah}(hd:d∈ds):jh d=true:=fV.mp (show ds.all jh=true from h) d hd
abbrev Es:Stmt:=top 31
theorem MQ:aW ["machine","thing","word","steps","speed","value"] ["machine","thing"] (aP Es):=bj aI
theorem ZN(F:FA K mg "is_item" Es)(B:bC mg)(a4L:GV mg "GREATEST_SPEED" (.int 20))(iz:aB P w K mg au "is_whole_within" 2 (lU K))(a4n:aB P w K mg au "are_steps" 3 (L6 K))(a3M:aB P w K mg au "is_short_item" 3 (L7 K)):aB P w K mg au "is_item" 4 (zD K):=by
 refine F.has MQ (λvs H Q E h=>?_) (λ_ _ _ _ _ _=>dF λ_ _=>rfl) (λf aH A outer s H vs Q E hr h=>?_)
 ·obtain⟨m,v,rs,es,d,rfl,_⟩:=h
  rfl
 ·obtain⟨m,v,rs,es,d,rfl,rm,rd,l3,uo,sh,k⟩:=h
  have nd:=MQ.nd;refine⟨_,(aE (bJ (dw (cK (nH K B (ak (pv 1) (ak (m6 (x:="tuple") (v:=.ty "tuple") Z (B.at "tuple") iJ rfl) ay))))) (aK (aR gE)) bK) (aE (bJ (bX (dM K Z hr.units) (fF K B (ak (pv 1) ay)) aF (bL _)) (aE (eL (pv 1) (eV K Z (n:=3) Z (bZ (bo 2 nd) (bZ (bo 3 nd) (bZ (bo 4 nd) eU))))) (aK (aR (uf (jl (dM K Z hr.units) (pv 2) bu (bL _)) (uf (pf a4n hr (ak (pv 0) (ak (pv 3) ay))) (p5 (pf iz hr (ak (pv 4) (ak aF (ak (cX (x:="GREATEST_SPEED") Z a4L) ay)))))))))) bK) (aE (bJ (bX (dM K Z hr.units) (fF K B (ak (pv 1) ay)) aF (bL _)) (aE (eL (pv 1) (eV K Z (n:=2) Z (bZ (bo 2 nd) (bZ (bo 5 nd) eU)))) (aK (aR (pf a3M hr (ak (pv 2) (ak (pv 5) ay)))))) bK) (aK (aR gE))))),?_⟩;rcases item_cases rs.length d with⟨wd,a,b,rfl⟩|⟨wd,a,rfl⟩|⟨ds,rfl,h3,h2,hf⟩|⟨ht,hf⟩
  ·refine⟨_,Z,.inl ⟨_,_,"tuple",true,Z,rd.ty,az,oQ,_,Z,aY ?_⟩⟩
   obtain⟨p,xs,rfl,hx,hd⟩:=rd.cJ;obtain⟨u1,ys,rfl,r1,hd⟩:=hd.cons_inv;obtain⟨u2,ys,rfl,r2,hd⟩:=hd.cons_inv;obtain⟨u3,ys,rfl,r3,hd⟩:=hd.cons_inv;cases hd.nil_inv;have k:∀H',aD H H'->Q (.bl (gs "line" wd&&(qY rs.length a&&cZ 1 20 b))) H':=k;refine⟨_,Z,p,_,Z,.inr hx,.inl ⟨_,_,Z,Z,_,Z,bG ?_⟩⟩;refine⟨_,Z,p,_,Z,hx,Z,_,_,Z,_,_,Z,_,_,Z,Z,?_⟩;refine⟨_,Z,.inr ⟨_,_,r1,bp _,wc (FX uo (by simp)),aI,_,Z,?_⟩⟩;rw[Bg];cases e1:gs "line" wd with |false=>rw[e1,ip]at k;exact aY (k H (aD.refl _)) |true=>rw[e1,ij]at k;refine bG ⟨_,Z,_,Z,_,_,rs,es,a,Z,rm,r2,l3,λH1 s1=>⟨_,Z,?_⟩⟩;cases e2:qY rs.length a with |false=>rw[e2,ip]at k;exact aY (k H1 s1) |true=>rw[e2,ij]at k;exact bG ⟨_,Z,_,b,1,20,Z,RD.mono s1 _ r3,k H1 s1⟩
  ·refine⟨_,Z,.inl ⟨_,_,"tuple",true,Z,rd.ty,az,oQ,_,Z,aY ?_⟩⟩
   obtain⟨p,xs,rfl,hx,hd⟩:=rd.cJ;obtain⟨u1,ys,rfl,r1,hd⟩:=hd.cons_inv;obtain⟨u2,ys,rfl,r2,hd⟩:=hd.cons_inv;cases hd.nil_inv;have k:∀H',aD H H'->Q (.bl (nV wd a)) H':=k;refine⟨_,Z,p,_,Z,.inr hx,.inl ⟨_,_,Z,Z,_,Z,aY ?_⟩⟩;refine⟨_,Z,p,_,Z,.inr hx,.inl ⟨_,_,Z,Z,_,Z,bG ?_⟩⟩;refine⟨_,Z,p,_,Z,hx,Z,_,_,Z,_,_,Z,Z,?_⟩;exact⟨_,Z,_,Z,_,_,wd,a,Z,r1,r2,FX uo (by simp),FX uo (by simp),Wh sh (by simp),k⟩
  ·rw[hf]at k
   refine⟨_,Z,.inl ⟨_,_,"tuple",true,Z,rd.ty,az,oQ,_,Z,aY ?_⟩⟩;obtain⟨p,xs,rfl,hx,hd⟩:=rd.cJ;have hl:=hd.length;refine⟨_,Z,p,_,Z,.inr hx,.inl ⟨_,_,Z,Z,_,Z,?_⟩⟩;rw[show decide ((xs.length:Int)=3)=false from dE aw];refine aY ⟨_,Z,p,_,Z,.inr hx,.inl ⟨_,_,Z,Z,_,Z,?_⟩⟩;rw[show decide ((xs.length:Int)=2)=false from dE aw];exact aY (k H (aD.refl _))
  ·rw[hf]at k
   refine⟨_,Z,.inl ⟨_,_,"tuple",false,Z,rd.ty,az,ht,_,Z,bG ?_⟩⟩;exact k H (aD.refl _)
def GK(rs:List Int):ah->Bool | .tuple es=>es.length==rs.length&&((es.zip rs).map λp=>cZ 0 p.2 p.1).all id |_=>false
inductive aa2(K:aa)(vs:List V)(H:Hp)(Q:VK):Prop |mk (m:V)(v:V)(rs:List Int)(ds:List ah)(d:ah)(h0:vs=[m,v])(h1:RD K H m (.tuple (.tuple (rs.map PyData.int)::ds)))(h2:RD K H v d)(h3:rs.length<=3)(h4:∀H',aD H H'->Q (.bl (GK rs d)) H')
def zF(K:aa):Sp:=λvs H Q _=>aa2 K vs H Q
theorem zip_get{es:List ah}{rs:List Int}{i:Nat}{b:Bool}(h:((es.zip rs).map λp=>cZ 0 p.2 p.1)[i]? =some b):∃e r,es[i]? =some e/\rs[i]? =some r/\cZ 0 r e=b:=by rw[bQ]at h;cases q:(es.zip rs)[i]? with |none=>rw[q]at h;cases h |some p=>rw[q]at h;obtain⟨e1,e2⟩:=K0.mp q;exact⟨p.1,p.2,e1,e2,dG h⟩
theorem ints_get{rs:List Int}{i:Nat}{r:Int}(h:rs[i]? =some r):(rs.map V.int)[i]? =some (.int r):=by rw[bQ,h];rfl
abbrev Eo:Stmt:=top 22
theorem MN:aW ["machine","thing","rails"] ["machine","thing"] (aP Eo):=bj aI
theorem ZK(F:FA K mg "is_place" Eo)(B:bC mg)(iz:aB P w K mg au "is_whole_within" 2 (lU K)):aB P w K mg au "is_place" 3 (zF K):=by
 refine F.has MN (λvs H Q E h=>?_) (λ_ _ _ _ _ _=>dF λ_ _=>rfl) (λf aH A outer s H vs Q E hr h=>?_)
 ·obtain⟨m,v,rs,ds,d,rfl,_⟩:=h
  rfl
 ·obtain⟨m,v,rs,ds,d,rfl,rm,rd,l3,k⟩:=h
  have nd:=MN.nd;refine⟨_,(aE (pS 2 nd (px K (pv 0) aF)) (aE (bJ (PW.pt (kJ (dw (cK (nH K B (ak (pv 1) (ak (m6 (x:="tuple") (v:=.ty "tuple") Z (B.at "tuple") iJ rfl) ay))))) (kI (bX (m9 K rfl hr.units) (fF K B (ak (pv 1) ay)) (fF K B (ak (pv 2) ay)) (bL _))))) (aK (aR gE)) bK) (aK (aR (dy (x:="all") (vc K Z Z) Z (B.at "all") yC (ak (eW (N:=["number","rail"]) (js:=[none,none]) rfl rfl rfl (qS K rfl false false rfl (B.at "zip") (ak (pv 1) (ak (pv 2) ay))) (λ_ _ _ _ _=>(eV K rfl (n:=2) rfl (bZ (bo 0 (ki az)) (bZ (bo 1 (ki az)) eU)))) (λ_ _ _ _ _=>dS) (λ_ _ _ _ _=>(pf iz hr (ak (pv 0) (ak aF (ak (pv 1) ay)))))) ay)))))),?_⟩;obtain⟨am,xm,rfl,hm,hdm⟩:=rm.cJ;obtain⟨yr,ym,rfl,r1,ac0⟩:=hdm.cons_inv;obtain⟨ar,xr,rfl,AO,hdr⟩:=r1.cJ;cases hdr.gJ;refine⟨_,Z,.inr ⟨am,_,0,_,Z,Z,hm,cF (dY 0) Z,?_⟩⟩;rcases vQ d with⟨es,rfl⟩|⟨ht,hn⟩
  ·refine⟨_,Z,.inl ⟨_,_,"tuple",true,Z,rd.ty,az,oQ,_,Z,aY ?_⟩⟩
   obtain⟨av,xs,rfl,hx,hd⟩:=rd.cJ;have hl:=hd.length;refine⟨_,Z,av,_,Z,.inr hx,_,Z,ar,_,Z,.inr AO,.inl ⟨_,_,Z,Z,_,Z,?_⟩⟩;have k:∀H',aD H H'->Q (.bl (es.length==rs.length&&((es.zip rs).map λp=>cZ 0 p.2 p.1).all id)) H':=k;have e0:(decide ((xs.length:Int)=((rs.map V.int).length:Int)))=(es.length==rs.length):=by rw[hl,bS,jd];simp;lia
   rw[e0];cases e:(es.length==rs.length)with |false=>rw[e,ip]at k;exact bG (k H (aD.refl _)) |true=>
    rw[e,ij]at k;refine aY ?_;have el:es.length=rs.length:=fi.mp e;refine⟨_,Z,_,Z,av,ar,Z,⟨_,hx⟩,⟨_,AO⟩,λD H0 nw=>?_⟩;refine a7S (b1:=false) (b2:=false) (xs:=xs) (ys:=rs.map V.int) (bs:=(es.zip rs).map λp=>cZ 0 p.2 p.1) [] rfl hx AO nw (by rw[bS,bS,List.length_zip,hl]) (by rw[bS,List.length_zip];lia) ?_ ?_
    ·intro i x y b H2 Q' ex ey eb s2 hq
     obtain⟨e',r,ee,er,rfl⟩:=zip_get eb;obtain⟨x',j7,rx⟩:=hd.get i ee;rw[ex]at j7;cases j7;rw[ints_get er]at ey;cases ey;exact⟨_,Z,_,Z,_,e',0,r,Z,RD.mono s2 _ rx,hq _ (aD.refl _)⟩
    ·intro H2 s2 d2
     exact⟨D,_,Z,aJ.of d2,k H2 s2⟩
  ·have e:GK rs d=false:=by cases d<;>first|rfl|exact absurd rfl (hn _)
   rw[e]at k;refine⟨_,Z,.inl ⟨_,_,"tuple",false,Z,rd.ty,az,ht,_,Z,bG ?_⟩⟩;exact k H (aD.refl _)
inductive a9O(K:aa)(vs:List V)(H:Hp)(Q:VK):Prop |mk (pw:_)(b:_)(pl:_)(ns:_)(h0:vs=[pw,.ref b])(h1:RD K H pw (fE pl))(h2:aZ K H b (ns.map V.int))(h3:ns.length=pl.length)(h4:pl.length<=1000)(h5:∀v' H',RD K H' v' (fE (j9 pl ns))->aD H H'->Q v' H')
def zB(K:aa):Sp:=λvs H Q _=>a9O K vs H Q
abbrev E8:Stmt:=top 34
theorem Mt:aW ["place","steps"] ["place","steps"] (aP E8):=bj aI
theorem Zr(F:FA K mg "moved" E8)(B:bC mg):aB P w K mg au "moved" 1 (zB K):=by
 refine F.has Mt (λvs H Q E h=>?_) (λ_ _ _ _ _ _=>dF λ_ _=>rfl) (λf aH A outer s H vs Q E hr h=>?_)
 ·obtain⟨pw,b,pl,ns,rfl,_⟩:=h
  rfl
 ·obtain⟨pw,b,pl,ns,rfl,rp,hb,ln,hz,k⟩:=h
  have nd:=Mt.nd;refine⟨_,(aK (aR (cD (x:="tuple") (jZ K Z) Z (B.at "tuple") iJ (ak (eW (N:=["number","step"]) (js:=[none,none]) rfl rfl rfl (qS K rfl false false rfl (B.at "zip") (ak (pv 0) (ak (pv 1) ay))) (λ_ _ _ _ _=>(eV K rfl (n:=2) rfl (bZ (bo 0 (ki az)) (bZ (bo 1 (ki az)) eU)))) (λ_ _ _ _ _=>dS) (λ_ _ _ _ _=>(aQ dP (pv 0) (pv 1)))) ay)))),?_⟩;obtain⟨pa,rfl,hp⟩:=XI rp;refine⟨_,Z,_,Z,pa,b,Z,⟨_,hp⟩,⟨_,hb⟩,λD H1 n1=>?_⟩;refine Bs (K:=K) (b1:=false) (b2:=false) (xs:=pl.map V.int) (ys:=ns.map V.int) (ds:=(j9 pl ns).map PyData.int) [] rfl hp hb n1 (by simp[oG ln,ln]) (by rw[bS,oG ln];exact hz) (nP _) ?_ ?_
  ·intro i x y d H2 Q' ex ey ed s2 hq
   obtain⟨m,em,rfl⟩:=rE ed;rw[bQ]at ex ey;cases e1:pl[i]? with |none=>rw[e1]at ex;cases ex |some u=>cases e2:ns[i]? with |none=>rw[e2]at ey;cases ey |some v=>rw[e1]at ex;rw[e2]at ey;cases ex;cases ey;rw[yg e1 e2]at em;cases em;exact⟨_,Z,_,Z,_,_,Z,Z,hq _ _ (aD.refl _) (fC _)⟩
  ·intro H2 zs s2 d2 r2
   refine⟨D,_,Z,.inl ⟨aJ.of d2,λt H3 n3=>?_⟩⟩;have et:=n3.at';rw[r2.gJ]at et;exact k (.ref t) H3 (Oc (aZ.of et)) (s2.trans n3.same)
inductive aal(K:aa)(vs:List V)(H:Hp)(Q:VK):Prop |mk (pw:_)(iv:_)(pl:_)(d:_)(o:_)(h0:vs=[pw,iv])(h1:RD K H pw (fE pl))(h2:RD K H iv d)(h3:itR d o)(h4:(∀ns sp,o=some (ns,sp)->ns.length=pl.length))(h5:pl.length<=1000)(h6:∀v' H',RD K H' v' (fE (hZ pl o))->aD H H'->Q v' H')
def vZ(K:aa):Sp:=λvs H Q _=>aal K vs H Q
abbrev EI:Stmt:=top 33
theorem N4:aW ["place","item"] ["place","item"] (aP EI):=bj aI
theorem a03(F:FA K mg "place_behind" EI)(B:bC mg)(jo:aB P w K mg au "is_line" 1 (oX K))(Hf:aB P w K mg au "moved" 1 (zB K)):aB P w K mg au "place_behind" 2 (vZ K):=by
 refine F.has N4 (λvs H Q E h=>?_) (λ_ _ _ _ _ _=>dF λ_ _=>rfl) (λf aH A outer s H vs Q E hr h=>?_)
 ·obtain⟨pw,iv,pl,d,o,rfl,_⟩:=h
  rfl
 ·obtain⟨pw,iv,pl,d,o,rfl,rp,ri,it,hl,hz,k⟩:=h
  have nd:=N4.nd;refine⟨_,(aK (aR (iP (cK (pf jo hr (ak (pv 1) ay))) (pf Hf hr (ak (pv 0) (ak (px K (pv 1) aF) ay))) (pv 0)))),?_⟩;refine⟨_,Z,iv,d,o,Z,ri,it,_,Z,?_⟩;cases o with |some q=>obtain⟨ns,sp⟩:=q;refine bG ?_;have ed:=mx it;subst ed;obtain⟨a,b,rfl,ha,hb⟩:=uC ri;exact⟨_,Z,_,Z,.inr ⟨a,_,1,.ref b,Z,Z,ha,Z,pw,b,pl,ns,Z,rp,hb,hl ns sp Z,hz,λv' H' r s=>k v' H' r s⟩⟩ |none=>refine aY ?_;exact⟨_,Z,k pw H rp (aD.refl _)⟩
open _R
def eT(m b d q p r s k t:V):List (Str×V):=[("machine",m),("begun_at",b),("done",d),("queue",q),("pace",p),("rate_now",r),("side",s),("mark",k),("stopping",t)]
structure cU(K:aa)(C:Addr):Prop where
 cl:gU K C
 kj:gL K C "machine"
 rk:gL K C "begun_at"
 md:gL K C "done"
 hJ:gL K C "queue"
 pk:gL K C "pace"
 wX:gL K C "rate_now"
 Gb:gL K C "side"
 Gd:gL K C "mark"
 uy:gL K C "stopping"
structure bE where
 rs:List Int
 r:Int
 f:Int
 j:Int
 t:Int
abbrev bE.D(M:bE):ah:=gr M.rs M.r M.f M.j M.t
abbrev bE.Ok(M:bE):Prop:=jw M.rs M.r M.f M.j M.t
structure bc where
 pl:List Int
 dn:Nat
 ds:List ah
 os:List Itm
 pc:Rat
 aA:Int
 side:Str
 mark:Str
 aU:_R.lI
def vg(K:aa)(H:Hp)(v:V):_R.lI->Prop |none=>v= .bw |some (sq,st,gn)=>∃a u,v= .ref a/\aZ K H a [u,.int st,.int gn]/\bU K H u sq
structure cx(M:bE)(D:Nat)(S:bc):Prop where
 row:fJ M.rs.length S.ds S.os
 rw:RowW S.ds S.os
 len:S.ds.length<=20
 cL:10<=S.aA
 cT:S.aA<=200
 dn:S.dn=0\/∃ns sp,S.os[0]? =some (some (ns,sp))/\S.dn<aO ns
 pl:S.pl.length=M.rs.length
 pd:Dd (D+10) S.pc
 pm:S.pc<=1600
 aU:qk D S.pc S.aU
 D1:64<=D
 D2:D<=1500
structure bT(K:aa)(C:Addr)(H:Hp)(a q:Addr)(M:bE)(S:bc):Prop where
 ob:∃dx mv bv bR tv,H a=some (.ins C dx (eT mv bv (.int S.dn) (.ref q) bR (.int S.aA) (.str S.side) (.str S.mark) tv))/\RD K H mv M.D/\RD K H bv (fE S.pl)/\bU K H bR S.pc/\vg K H tv S.aU
 qu:∃ys,H q=some (.lst ys)/\aL K H ys S.ds
theorem bU.v{H H':Hp}{v:V}{q:Rat}(s:cQ H H')(h:bU K H v q):bU K H' v q:=by obtain⟨p,rfl,hp⟩:=h;exact⟨p,Z,aZ.v s hp⟩
theorem vg.v{H H':Hp}{v:V}{t:_R.lI}(s:cQ H H')(h:vg K H v t):vg K H' v t:=by cases t with |none=>exact h |some q=>obtain⟨sq,st,gn⟩:=q;obtain⟨a,u,rfl,h1,h2⟩:=h;exact⟨a,u,Z,aZ.v s h1,bU.v s h2⟩
theorem bT.go{C:Addr}{H H':Hp}{a q:Addr}{M:bE}{S:bc}(h:bT K C H a q M S)(hn:cy S.ds=true)(s:cQ H H')(ea:∀o,H a=some o->H' a=some o)(eq:∀o,H q=some o->H' q=some o):bT K C H' a q M S:=by obtain⟨⟨dx,mv,bv,bR,tv,e,r1,r2,r3,r4⟩,ys,sA,rq⟩:=h;exact⟨⟨dx,mv,bv,bR,tv,ea _ e,RD.v s _ (iu _ _ _ _ _) r1,RD.v s _ (m4 _) r2,r3.v s,r4.v s⟩,ys,eq _ sA,aL.v s _ hn rq⟩
theorem bT.same{C:Addr}{H H':Hp}{a q:Addr}{M:bE}{S:bc}(h:bT K C H a q M S)(hn:cy S.ds=true)(s:aD H H'):bT K C H' a q M S:=h.go hn s.v (λo e=>s _ _ e) (λo e=>s _ _ e)
theorem bT.ne{C:Addr}{H:Hp}{a q:Addr}{M:bE}{S:bc}(h:bT K C H a q M S):a≠q:=by obtain⟨⟨dx,mv,bv,bR,tv,e,_⟩,ys,sA,_⟩:=h;exact wU e sA (by intro z;cases z)
theorem bT.v{C:Addr}{H H':Hp}{a q:Addr}{M:bE}{S:bc}(h:bT K C H a q M S)(b:cA [a,q] H H'):cQ H H':=by
 obtain⟨⟨dx,mv,bv,bR,tv,e,_⟩,ys,sA,_⟩:=h;refine b.v λx hx o eo=>?_;simp only[cj,eQ,iI]at hx;rcases hx with rfl|rfl
 ·rw[e]at eo;cases eo;trivial
 ·rw[sA]at eo;cases eo;trivial
inductive a9f(K:aa)(C:Addr)(G:bE->bc->Hp->VK->Prop)(vs:List V)(H:Hp)(Q:VK):Prop |mk (a:_)(q:_)(M:_)(D:_)(S:_)(h0:vs=[.ref a])(h1:bT K C H a q M S)(h2:cx M D S)(h3:M.Ok)(h4:G M S H Q)
def cP(K:aa)(C:Addr)(G:bE->bc->Hp->VK->Prop):Sp:=λvs H Q _=>a9f K C G vs H Q
abbrev DE:Stmt:=inClass (top 75) 3
theorem Wr:aW ["self"] ["self"] (aP DE):=bj aI
def Ig(K:aa):bE->bc->Hp->VK->Prop:=λ_ S H Q=>∀v,bU K H v S.pc->Q v H
theorem YU{C:Addr}(F:MA K C "square" "Runner.square" DE)(TC:cU K C):bP P w K mg au C "square" 1 (cP K C (Ig K)):=by
 refine F.has Wr (λvs H Q E h=>?_) (λ_ _ _ _ _ _=>cw λ_=>rfl) (λf aH A outer s H vs Q E hr h=>?_)
 ·obtain⟨a,q,M,D,S,rfl,_⟩:=h
  rfl
 ·obtain⟨a,q,M,D,S,rfl,R,ok,aG,k⟩:=h
  obtain⟨dx,mv,bv,bR,tv,e,r1,r2,r3,r4⟩:=R.ob;exact⟨_,(aK (aR (cE TC.cl TC.pk (pv 0)))),_,Z,a,dx,_,_,Z,e,Z,k bR r3⟩
abbrev DI:Stmt:=inClass (top 75) 4
theorem Wt:aW ["self"] ["self"] (aP DI):=bj aI
theorem YY{C:Addr}(F:MA K C "rate" "Runner.rate" DI)(TC:cU K C):bP P w K mg au C "rate" 1 (cP K C λ_ S H Q=>Q (.int S.aA) H):=by
 refine F.has Wt (λvs H Q E h=>?_) (λ_ _ _ _ _ _=>cw λ_=>rfl) (λf aH A outer s H vs Q E hr h=>?_)
 ·obtain⟨a,q,M,D,S,rfl,_⟩:=h
  rfl
 ·obtain⟨a,q,M,D,S,rfl,R,ok,aG,k⟩:=h
  obtain⟨dx,mv,bv,bR,tv,e,r1,r2,r3,r4⟩:=R.ob;exact⟨_,(aK (aR (cE TC.cl TC.wX (pv 0)))),_,Z,a,dx,_,_,Z,e,Z,k⟩
abbrev DD:Stmt:=inClass (top 75) 5
theorem Wq:aW ["self"] ["self"] (aP DD):=bj aI
theorem YS{C:Addr}(F:MA K C "tool" "Runner.tool" DD)(TC:cU K C):bP P w K mg au C "tool" 1 (cP K C λ_ S H Q=>Q (.str S.side) H):=by
 refine F.has Wq (λvs H Q E h=>?_) (λ_ _ _ _ _ _=>cw λ_=>rfl) (λf aH A outer s H vs Q E hr h=>?_)
 ·obtain⟨a,q,M,D,S,rfl,_⟩:=h
  rfl
 ·obtain⟨a,q,M,D,S,rfl,R,ok,aG,k⟩:=h
  obtain⟨dx,mv,bv,bR,tv,e,r1,r2,r3,r4⟩:=R.ob;exact⟨_,(aK (aR (cE TC.cl TC.Gb (pv 0)))),_,Z,a,dx,_,_,Z,e,Z,k⟩
abbrev DL:Stmt:=inClass (top 75) 6
theorem Wv:aW ["self"] ["self"] (aP DL):=bj aI
theorem Z2{C:Addr}(F:MA K C "last_mark" "Runner.last_mark" DL)(TC:cU K C):bP P w K mg au C "last_mark" 1 (cP K C λ_ S H Q=>Q (.str S.mark) H):=by
 refine F.has Wv (λvs H Q E h=>?_) (λ_ _ _ _ _ _=>cw λ_=>rfl) (λf aH A outer s H vs Q E hr h=>?_)
 ·obtain⟨a,q,M,D,S,rfl,_⟩:=h
  rfl
 ·obtain⟨a,q,M,D,S,rfl,R,ok,aG,k⟩:=h
  obtain⟨dx,mv,bv,bR,tv,e,r1,r2,r3,r4⟩:=R.ob;exact⟨_,(aK (aR (cE TC.cl TC.Gd (pv 0)))),_,Z,a,dx,_,_,Z,e,Z,k⟩
abbrev Dz:Stmt:=inClass (top 75) 7
theorem Wn:aW ["self"] ["self"] (aP Dz):=bj aI
theorem YR{C:Addr}(F:MA K C "waiting" "Runner.waiting" Dz)(TC:cU K C)(B:bC mg):bP P w K mg au C "waiting" 1 (cP K C λ_ S H Q=>∀l ys H',H l=none->H' l=some (.lst ys)->aL K H' ys S.ds->aD H H'->Q (.ref l) H'):=by
 refine F.has Wn (λvs H Q E h=>?_) (λ_ _ _ _ _ _=>cw λ_=>rfl) (λf aH A outer s H vs Q E hr h=>?_)
 ·obtain⟨a,q,M,D,S,rfl,_⟩:=h
  rfl
 ·obtain⟨a,q,M,D,S,rfl,R,ok,aG,k⟩:=h
  obtain⟨dx,mv,bv,bR,tv,e,r1,r2,r3,r4⟩:=R.ob;obtain⟨ys,eq,rq⟩:=R.qu;refine⟨_,(aK (aR (cD (x:="list") (Aw K Z) Z (B.at "list") JR (ak (cE TC.cl TC.hJ (pv 0)) ay)))),_,Z,a,dx,_,_,Z,e,Z,q,ys,Z,.inl (aJ.of eq),λl H1 n1=>?_⟩;exact k l ys H1 n1.no n1.at' (aL.mono n1.same _ rq) n1.same
abbrev DR:Stmt:=inClass (top 75) 8
theorem Wy:aW ["self"] ["self"] (aP DR):=bj aI
theorem Z7{C:Addr}(F:MA K C "is_held" "Runner.is_held" DR)(TC:cU K C):bP P w K mg au C "is_held" 1 (cP K C λ_ S H Q=>Q (.bl S.aU.isSome) H):=by
 refine F.has Wy (λvs H Q E h=>?_) (λ_ _ _ _ _ _=>cw λ_=>rfl) (λf aH A outer s H vs Q E hr h=>?_)
 ·obtain⟨a,q,M,D,S,rfl,_⟩:=h
  rfl
 ·obtain⟨a,q,M,D,S,rfl,R,ok,aG,k⟩:=h
  obtain⟨dx,mv,bv,bR,tv,e,r1,r2,r3,r4⟩:=R.ob;refine⟨_,(aK (aR (jl OA (cE TC.cl TC.uy (pv 0)) jk (bL _)))),_,Z,a,dx,_,_,Z,e,Z,?_⟩;cases hs:S.aU with |none=>rw[hs]at r4 k;cases(show tv= .bw from r4);exact⟨Z,k⟩ |some z=>rw[hs]at r4 k;obtain⟨sq,st,gn⟩:=z;obtain⟨b,u,rfl,_⟩:=r4;exact⟨Z,k⟩
theorem Xj(q:Rat):PyData.eqv (dh q) (dh 0)=decide (q=0):=by
 by_cases h:q=0
 ·rw[cf h];exact eqR h
 ·rw[dE h]
  cases e:PyData.eqv (dh q) (dh 0)with |false=>rfl |true=>
   exfalso;apply h;have e':(PyData.eqv (.int q.num) (.int (0:Rat).num)&&(PyData.eqv (.int (q.den:Int)) (.int ((0:Rat).den:Int))&&true))=true:=e;rw[yM,eH]at e';obtain⟨a,b⟩:=e';have h1:q.num=(0:Rat).num:=by simpa[PyData.eqv]using a
   have h2:(q.den:Int)=((0:Rat).den:Int):=by simpa[PyData.eqv]using b
   exact Rat.ext h1 aw
abbrev DH:Stmt:=inClass (top 75) 9
theorem Ws:aW ["self"] ["self"] (aP DH):=bj aI
theorem YX{C:Addr}(F:MA K C "stands" "Runner.stands" DH)(TC:cU K C)(gN:GT K mg "NOUGHT" [.int 0,.int 1]):bP P w K mg au C "stands" 1 (cP K C λ_ S H Q=>Q (.bl (decide (S.pc=0))) H):=by
 obtain⟨aN,jO,lT⟩:=gN;refine F.has Ws (λvs H Q E h=>?_) (λ_ _ _ _ _ _=>cw λ_=>rfl) (λf aH A outer s H vs Q E hr h=>?_)
 ·obtain⟨a,q,M,D,S,rfl,_⟩:=h
  rfl
 ·obtain⟨a,q,M,D,S,rfl,R,ok,aG,k⟩:=h
  obtain⟨dx,mv,bv,bR,tv,e,r1,r2,r3,r4⟩:=R.ob;refine⟨_,(aK (aR (jl (dM K Z hr.units) (cE TC.cl TC.pk (pv 0)) (cX (x:="NOUGHT") rfl jO) (bL _)))),_,Z,a,dx,_,_,Z,e,Z,.inr ⟨_,_,r3.rd,(uv (lT H)).rd,Z,Z,?_⟩⟩;rw[Xj];exact k
abbrev DQ:Stmt:=inClass (top 75) 10
theorem Wx:aW ["self"] ["self"] (aP DQ):=bj aI
theorem Z6{C:Addr}(F:MA K C "is_halted" "Runner.is_halted" DQ)(TC:cU K C)(og:bP P w K mg au C "is_held" 1 (cP K C λ_ S H Q=>Q (.bl S.aU.isSome) H))(rX:bP P w K mg au C "stands" 1 (cP K C λ_ S H Q=>Q (.bl (decide (S.pc=0))) H)):bP P w K mg au C "is_halted" 2 (cP K C λ_ S H Q=>Q (.bl (S.aU.isSome&&decide (S.pc=0))) H):=by
 refine F.has Wx (λvs H Q E h=>?_) (λ_ _ _ _ _ _=>cw λ_=>rfl) (λf aH A outer s H vs Q E hr h=>?_)
 ·obtain⟨a,q,M,D,S,rfl,_⟩:=h
  rfl
 ·obtain⟨a,q,M,D,S,rfl,R,ok,aG,k⟩:=h
  obtain⟨dx,mv,bv,bR,tv,e,r1,r2,r3,r4⟩:=R.ob;refine⟨_,(aK (aR (uf (cY og TC.cl (hr.mono az) (pv 0)) (p5 (cY rX TC.cl (hr.mono az) (pv 0)))))),_,Z,a,dx,_,Z,e,Z,a,q,M,D,S,Z,R,ok,aG,_,Z,?_⟩;cases hs:S.aU.isSome with |false=>rw[hs]at k;exact aY k |true=>rw[hs]at k;refine bG ⟨_,Z,a,dx,_,Z,e,Z,a,q,M,D,S,Z,R,ok,aG,?_⟩;exact k
structure iC(n:Nat)(d:ah)(o:Itm):Prop where
 it:itR d o
 ln:∀ns sp,o=some (ns,sp)->eO n 100 ns/\1<=sp/\sp<=20
 ot:o=none->vi d
theorem a0V{z:Str}(h:nQ z=true):isNm (.str z)=true:=h
theorem a8x:∀{ns:List Int},(∃z∈ns,z≠0)->(ns.map PyData.int).any wL=true:=λ{ns} ⟨z,hz,h⟩=>Uq.mpr ⟨.int z,cW.mpr ⟨z,hz,Z⟩,by show(z !=0)=true;simpa using h⟩
theorem a8C{ns:List Int}(h:∀z∈ns,(z.natAbs:Int)<=100):(ns.map PyData.int).all (cZ (-100) 100)=true:=by rw[fV];intro d hd;obtain⟨z,hz,rfl⟩:=cW.mp hd;have:=h z hz;show(decide (-100<=z)&&decide (z<=100))=true;rw[cf bI,cf bI];rfl
theorem iC.is{n:Nat}{d:ah}{o:Itm}(h:iC n d o):kQ n d=true/\dg 8 d/\zJ d=true:=by cases o with
 |some q=>
  obtain⟨ns,sp⟩:=q;have ed:=mx h.it;subst ed;obtain⟨dj,s1,s2⟩:=h.ln ns sp rfl;refine⟨?_,?_,Z⟩
  ·show(gs "line" (.str "line")&&(qY n (.tuple (ns.map PyData.int))&&cZ 1 20 (.int sp)))=true
   have e1:gs "line" (.str "line")=true:=by decide+kernel
   have e2:qY n (.tuple (ns.map PyData.int))=true:=by show(((ns.map PyData.int).length==n&&(ns.map PyData.int).all (cZ (-100) 100))&&(ns.map PyData.int).any wL)=true;rw[a8C dj.bd,a8x dj.nz,bS,dj.len,JF];rfl
   have e3:cZ 1 20 (.int sp)=true:=by show(decide (1<=sp)&&decide (sp<=20))=true;rw[cf s1,cf s2];rfl
   rw[e1,e2,e3];rfl
  ·refine(gB.tup (n:=1) (.cons ⟨aI,fU _⟩ (.cons (gB.tup (n:=0) λd hd=>?_) (.cons (.int _) .nil)))).le az
   obtain⟨a,_,rfl⟩:=cW.mp hd;exact .int _ |none=>
  rcases h.ot rfl with⟨z,rfl,z1,z2⟩|⟨w,s,rfl,hw,qX,on⟩
  ·refine⟨?_,(gB.tup (n:=0) (.cons ⟨aI,fU _⟩ (.cons (.int _) .nil))).le az,Z⟩
   show nV (.str "wait") (.int z)=true;unfold nV;rw[bf aI];show(decide (1<=z)&&decide (z<=1000))=true;rw[cf z1,cf z2];rfl
  ·have a2f:jh (.str s)=true:=by
    refine cf ?_;rcases on with⟨_,rfl|rfl⟩|⟨_,hn⟩
    ·decide+kernel
    ·decide+kernel
    ·unfold nQ at hn
     simp only[eH,BP]at hn
     lia
   refine⟨?_,(gB.tup (n:=0) (.cons ?_ (.cons qX .nil))).le az,?_⟩
   ·rcases on with⟨rfl,hs⟩|⟨rfl,hn⟩
    ·show nV (.str "tool") (.str s)=true
     unfold nV;rw[bh aI,bf aI];rcases hs with rfl|rfl<;>decide+kernel
    ·show nV (.str "mark") (.str s)=true
     unfold nV;rw[bh aI,bh aI];rw[a0V hn];decide+kernel
   ·rcases hw with rfl|rfl<;>exact⟨aI,fU _⟩
   ·show([.str w,.str s]:List ah).all jh=true
    rw[vG,vG,K3,a2f];rcases hw with rfl|rfl<;>decide+kernel
def oT(ns:List Int)(k:Int):List Int:=ns.map λz=>fZ (k*z) (aO ns)
def gD(S:bc):List Int:=if S.dn=0 then S.pl else match S.os[0]? with |some (some (ns,_))=>j9 S.pl (oT ns S.dn) |_=>S.pl
def jq(S:bc):List Int:=S.os.foldl hZ S.pl
theorem SM{n:Nat}{pl:List Int}{o:Itm}(h:pl.length=n)(ho:∀ns sp,o=some (ns,sp)->ns.length=n):(hZ pl o).length=n:=by cases o with |none=>exact h |some q=>obtain⟨ns,sp⟩:=q;show(j9 pl ns).length=n;rw[oG (by rw[ho ns sp Z,h])];exact h
theorem Io{n:Nat}:∀(os:List Itm)(pl:List Int),pl.length=n->(∀o∈os,∀ns sp,o=some (ns,sp)->ns.length=n)->(os.foldl hZ pl).length=n |[],pl,h,_=>h |o::os,pl,h,ho=>Io os (hZ pl o) (SM h (ho o (.head _))) λx hx=>ho x (.tail _ hx)
theorem cx.qX{M:bE}{D:Nat}{S:bc}(h:cx M D S):∀o∈S.os,∀ns sp,o=some (ns,sp)->ns.length=M.rs.length:=λo ho ns sp e=>by obtain⟨i,hi⟩:=oO.mp ho;rw[e]at hi;exact(h.row.ok i ns sp hi).1.len
theorem cx.first{M:bE}{D:Nat}{S:bc}(h:cx M D S)(hn:S.dn≠0):∃ns sp,S.os[0]? =some (some (ns,sp))/\S.dn<aO ns:=by
 rcases h.dn with e|e
 ·exact(hn e).elim
 ·exact e
abbrev DJ:Stmt:=inClass (top 75) 1
theorem Wu:aW ["self"] ["self"] (aP DJ):=bj aI
theorem YZ{C:Addr}(F:MA K C "place" "Runner.place" DJ)(TC:cU K C)(Hf:aB P w K mg au "moved" 1 (zB K))(AL:aB P w K mg au "stand_at" 2 (zv K)):bP P w K mg au C "place" 3 (cP K C λ_ S H Q=>∀v H',RD K H' v (fE (gD S))->aD H H'->Q v H'):=by
 refine F.has Wu (λvs H Q E h=>?_) (λ_ _ _ _ _ _=>cw λ_=>rfl) (λf aH A outer s H vs Q E hr h=>?_)
 ·obtain⟨a,q,M,D,S,rfl,_⟩:=h
  rfl
 ·obtain⟨a,q,M,D,S,rfl,R,ok,aG,k⟩:=h
  obtain⟨dx,mv,bv,bR,tv,e,r1,r2,r3,r4⟩:=R.ob;obtain⟨ys,eq,rq⟩:=R.qu;refine⟨_,(aE (bJ (bX (dM K Z hr.units) (cE TC.cl TC.md (pv 0)) aF (bL _)) (aK (aR (cE TC.cl TC.rk (pv 0)))) bK) (aK (aR (pf Hf hr (ak (cE TC.cl TC.rk (pv 0)) (ak (pf AL hr (ak (px K (cE TC.cl TC.hJ (pv 0)) aF) (ak (cE TC.cl TC.md (pv 0)) ay))) ay)))))),_,Z,a,dx,_,_,Z,e,Z,.inl ⟨_,_,Z,Z,_,Z,?_⟩⟩;by_cases h0:S.dn=0
  ·rw[cf aw]
   have ep:gD S=S.pl:=by unfold gD;rw[bf h0]
   rw[ep]at k;exact bG ⟨_,Z,a,dx,_,_,Z,e,Z,k bv H r2 (aD.refl _)⟩
  ·rw[dE aw]
   refine aY ?_;obtain⟨ns,sp,eo,hd⟩:=ok.first h0;obtain⟨dj,dZ,gX⟩:=ok.row.ok 0 ns sp eo;have ep:gD S=j9 S.pl (oT ns S.dn):=by unfold gD;rw[bh h0,eo]
   rw[ep]at k;have ll:=ok.row.len;have xu:0<S.os.length:=(dD.mp eo).1;obtain⟨d,ed⟩:∃d,S.ds[0]? =some d:=⟨_,cu (show 0<S.ds.length by lia)⟩;obtain⟨y,ey,ry⟩:=rq.get 0 ed;have it:=ok.row.it 0 d _ ed eo;have dB:=mx it;subst dB;have a2g:=PN dj;have lr:=aG.len;refine⟨_,Z,a,dx,_,_,Z,e,Z,?_⟩;refine⟨_,Z,a,dx,_,_,Z,e,Z,.inl ⟨q,_,0,y,Z,Z,aJ.of eq,cF (dY 0) ey,?_⟩⟩;refine⟨_,Z,a,dx,_,_,Z,e,Z,y,ns,sp,_,Z,ry,⟨Z,λz hz=>by have:=dj.bd z hz;lia,dj.nz⟩,by rw[dj.len];lia,aw,λu H1 ru s1=>?_⟩;obtain⟨b,xs,rfl,hb,hx⟩:=ru.cJ;rw[hx.gJ]at hb;exact⟨bv,b,S.pl,_,Z,RD.mono s1 _ r2,hb,by rw[bS,dj.len,ok.pl],by rw[ok.pl];lia,λv H2 rv s2=>k v H2 rv (s1.trans s2)⟩
abbrev DM:Stmt:=inClass (top 75) 2
theorem Mc:aW ["self","here","item"] ["self"] (aP DM):=bj aI
theorem Z3{C:Addr}(F:MA K C "leads_to" "Runner.leads_to" DM)(TC:cU K C)(xj:aB P w K mg au "place_behind" 2 (vZ K)):bP P w K mg au C "leads_to" 3 (cP K C λ_ S H Q=>∀v H',RD K H' v (fE (jq S))->aD H H'->Q v H'):=by
 refine F.has Mc (λvs H Q E h=>?_) (λ_ _ _ _ _ _=>cw λ_=>rfl) (λf aH A outer s H vs Q E hr h=>?_)
 ·obtain⟨a,q,M,D,S,rfl,_⟩:=h
  rfl
 ·obtain⟨a,q,M,D,S,rfl,R,ok,aG,k⟩:=h
  obtain⟨dx,mv,bv,bR,tv,e,r1,r2,r3,r4⟩:=R.ob;obtain⟨ys,eq,rq⟩:=R.qu;have nd:=Mc.nd;have ll:=ok.row.len;have ly:=rq.length;have lr:=aG.len;refine⟨_,(aE (pS 1 nd (cE TC.cl TC.rk (pv 0))) (aE (kf ie Z (kL K Z (cE TC.cl TC.hJ (pv 0))) (bo 2 nd) (aK (pS 1 nd (pf xj hr (ak (pv 1) (ak (pv 2) ay)))))) (aK (aR (pv 1))))),_,Z,a,dx,_,_,Z,e,Z,_,Z,a,dx,_,_,Z,e,Z,q,Z,⟨_,aJ.of eq⟩,?_⟩;refine Im (K:=K) (a:=q) (xs:=ys) (λi O H1=>aD H H1/\∃hv v2,RD K H1 hv (fE ((S.os.take i).foldl hZ S.pl))/\O=[some (.ref a),some hv,v2]) ⟨aD.refl _,bv,none,r2,Z⟩ (λi O H1 _ h=>aJ.of (h.1 _ _ eq)) ?_ ?_
  ·rintro i x O H1 hx ⟨s1,hv,v2,rh,rfl⟩
   obtain⟨d,ed,rd⟩:=rq.get' i hx;obtain⟨o,eo,it⟩:=ok.row.get ed;have lp:((S.os.take i).foldl hZ S.pl).length=M.rs.length:=Io _ _ ok.pl λo ho=>ok.qX o (yH ho);refine⟨_,Z,_,Z,hv,x,_,d,o,Z,rh,RD.mono s1 _ rd,it,λns sp e'=>by rw[lp];exact ok.qX o (fA eo) ns sp e',aw,λv H2 rv s2=>?_⟩;refine⟨s1.trans s2,v,_,?_,Z⟩;rw[vy,eo,List.foldl_append];exact rv
  ·rintro O H1 ⟨s1,hv,v2,rh,rfl⟩
   rw[ly,ll,yG]at rh;exact⟨_,Z,k hv H1 rh s1⟩
structure Mv(a q:Addr)(H:Hp)(q':Addr)(H':Hp):Prop where
 but:cA [a,q] H H'
 nq:q'=q\/H q'=none
abbrev DN:Stmt:=inClass (top 75) 0
theorem Ww:aW ["self","machine","place"] ["self","machine","place"] (aP DN):=bj aI
def nj(pl:List Int):bc:=⟨pl,0,[],[],0,100,"up","",none⟩
inductive a9u(K:aa)(C:Addr)(vs:List V)(H:Hp)(Q:VK):Prop |mk (a:_)(dx:_)(mv:_)(gP:_)(M:_)(pl:_)(h0:vs=[.ref a,mv,gP])(h1:H a=some (.ins C dx []))(h2:RD K H mv (bE.D M))(h3:RD K H gP (fE pl))(h4:∀q H',bT K C H' a q M (nj pl)->H q=none->cA [a] H H'->Q .bw H')
def CB(K:aa)(C:Addr):Sp:=λvs H Q _=>a9u K C vs H Q
theorem OI{C:Addr}(F:CA K mg C "Runner" "Runner.__init__" DN)(TC:cU K C)(gN:GT K mg "NOUGHT" [.int 0,.int 1])(a4P:GV mg "FIRST_RATE" (.int 100)):sQ P w K mg au C "Runner" 1 (CB K C):=by
 obtain⟨aN,jO,lT⟩:=gN;refine F.has Ww (λvs H Q E h=>?_) (λ_ _ _ _ _ _=>jS λ_ _ _=>rfl) (λf aH A outer s H vs Q E hr h=>?_)
 ·obtain⟨a,dx,mv,gP,M,pl,rfl,_⟩:=h
  rfl
 ·obtain⟨a,dx,mv,gP,M,pl,rfl,e,rm,rp,k⟩:=h
  refine⟨_,(aE (fD TC.cl TC.kj (pv 0) (pv 1)) (aE (fD TC.cl TC.rk (pv 0) (pv 2)) (aE (fD TC.cl TC.md (pv 0) aF) (aE (fD TC.cl TC.hJ (pv 0) (da ay)) (aE (fD TC.cl TC.pk (pv 0) (cX (x:="NOUGHT") rfl jO)) (aE (fD TC.cl TC.wX (pv 0) (cX (x:="FIRST_RATE") rfl a4P)) (aE (fD TC.cl TC.Gb (pv 0) bu) (aE (fD TC.cl TC.Gd (pv 0) bu) (aK (fD TC.cl TC.uy (pv 0) jk)))))))))),?_⟩;refine⟨_,Z,_,Z,a,dx,_,Z,e,az,?_⟩;refine⟨_,Z,_,Z,a,dx,_,Z,bW,by show 1<1000;decide,?_⟩;refine⟨_,Z,a,dx,_,Z,bW,by show 2<1000;decide,?_⟩;refine⟨ck Z,λq H1 n1=>?_⟩;have aq:a≠q:=λz=>by have:=n1.no;rw[<-z,bW]at this;cases this
  have e1:=n1.same _ _ (bW (a:=a));refine⟨_,Z,a,dx,_,Z,e1,by show 3<1000;decide,?_⟩;refine⟨_,Z,a,dx,_,Z,bW,by show 4<1000;decide,?_⟩;refine⟨_,Z,a,dx,_,Z,bW,by show 5<1000;decide,?_⟩;refine⟨_,Z,a,dx,_,Z,bW,by show 6<1000;decide,?_⟩;refine⟨_,Z,a,dx,_,Z,bW,by show 7<1000;decide,?_⟩;refine⟨_,Z,a,dx,_,Z,bW,by show 8<1000;decide,?_⟩;have key:∀X:Hp,(∀b,b≠a->X b=H1 b)->Q .bw (_L.upd X a (.ins C dx (eT mv gP (.int 0) (.ref q) (.ref aN) (.int 100) (.str "up") (.str "") .bw))):=by
   intro X hX;have bt:cA [a] H (_L.upd X a (.ins C dx (eT mv gP (.int 0) (.ref q) (.ref aN) (.int 100) (.str "up") (.str "") .bw))):=λb o eb hb=>by have ha:b≠a:=λz=>hb (by rw[z];exact .head _);rw[aV ha,hX b ha];exact n1.same _ _ (by rw[aV ha,aV ha,aV ha];exact eb)
   have sv:=bt.v λx hx o eo=>by rw[dH]at hx;rw[hx,e]at eo;cases eo;trivial
   refine k q _ ⟨⟨dx,mv,gP,.ref aN,.bw,bW,RD.v sv _ (iu _ _ _ _ _) rm,RD.v sv _ (m4 _) rp,uv (lT _),Z⟩,[],?_,dv⟩ ?_ bt
   ·rw[aV aq.symm,hX q aq.symm];exact n1.at'
   ·have:=n1.no
    rw[aV aq.symm,aV aq.symm,aV aq.symm]at this;exact this
  exact key _ (λb hb=>by rw[aV hb,aV hb,aV hb,aV hb,aV hb])
theorem X3{M:bE}{pl:List Int}(hp:pl.length=M.rs.length):cx M 64 (nj pl):=⟨.nil,λi d e=>by simp[nj]at e,by simp[nj],(show(10:Int)<=100 by decide),(show(100:Int)<=200 by decide),.inl rfl,hp,⟨(show(0:Rat)<=0 by decide),(show(0:Rat).den<2^74 by decide+kernel)⟩,(show(0:Rat)<=1600 by decide+kernel),trivial,az,az⟩
theorem OG{rs pl:List Int}(h:fO rs pl):GK rs (fE pl)=true:=by show((pl.map PyData.int).length==rs.length&&(((pl.map PyData.int).zip rs).map λp=>cZ 0 p.2 p.1).all id)=true;rw[bS,h.len,JF,ij,fV];intro b hb;obtain⟨⟨d,r⟩,hm,rfl⟩:=cW.mp hb;obtain⟨i,hi⟩:=oO.mp hm;obtain⟨e1,e2⟩:=(K0 (z:=(d,r))).mp hi;rw[bQ]at e1;cases e:pl[i]? with |none=>rw[e]at e1;cases e1 |some x=>rw[e]at e1;cases e1;obtain⟨a1,a2⟩:=h.at' i x r e e2;show(decide (0<=x)&&decide (x<=r))=true;rw[cf a1,cf a2];rfl
def uP(S:bc)(d:ah)(o:Itm):bc:={S with ds:=S.ds++[d],os:=S.os++[o]}
theorem cx.sj{M:bE}{D:Nat}{S:bc}{d:ah}{o:Itm}(h:cx M D S)(it:iC M.rs.length d o)(hl:S.ds.length<20):cx M D (uP S d o):=by
 have ll:=h.row.len;refine⟨h.row.snoc it.it it.ln,RowW.snoc h.rw ll it.ot,by show(S.ds++[d]).length<=20;rw[fP];show _+1<=20;lia,h.cL,h.cT,?_,h.pl,h.pd,h.pm,h.aU,h.D1,h.D2⟩;rcases h.dn with e|⟨ns,sp,e,e2⟩
 ·exact .inl e
 ·refine .inr ⟨ns,sp,?_,e2⟩
  show(S.os++[o])[0]? =_;rw[vE (dD.mp e).1];exact e
abbrev DT:Stmt:=inClass (top 75) 11
theorem Me:aW ["self","item"] ["self","item"] (aP DT):=bj aI
inductive a9x(K:aa)(C:Addr)(vs:List V)(H:Hp)(Q:VK):Prop |mk (a:_)(q:_)(M:_)(D:_)(S:_)(v:_)(d:_)(o:_)(h0:vs=[.ref a,v])(h1:bT K C H a q M S)(h2:cx M D S)(h3:M.Ok)(h4:RD K H v d)(h5:iC M.rs.length d o)(h6:fO M.rs (hZ (jq S) o))(h7:S.ds.length<20)(h8:∀H',bT K C H' a q M (uP S d o)->cA [a,q] H H'->Q (.int (S.ds.length+1:Nat)) H')
def CG(K:aa)(C:Addr):Sp:=λvs H Q _=>a9x K C vs H Q
theorem Z9{C:Addr}(F:MA K C "feed" "Runner.feed" DT)(TC:cU K C)(B:bC mg)(a4D:GV mg "MOST_WAITING" (.int 20))(Hm:aB P w K mg au "is_item" 4 (zD K))(Hk:aB P w K mg au "is_place" 3 (zF K))(xj:aB P w K mg au "place_behind" 2 (vZ K))(HN:bP P w K mg au C "leads_to" 3 (cP K C λ_ S H Q=>∀v H',RD K H' v (fE (jq S))->aD H H'->Q v H')):bP P w K mg au C "feed" 5 (CG K C):=by
 refine F.has Me (λvs H Q E h=>?_) (λ_ _ _ _ _ _=>dF λ_ _=>rfl) (λf aH A outer s H vs Q E hr h=>?_)
 ·obtain⟨a,q,M,D,S,v,d,o,rfl,_⟩:=h
  rfl
 ·obtain⟨a,q,M,D,S,v,d,o,rfl,R,ok,aG,rd,it,jI,hl,k⟩:=h
  obtain⟨dx,mv,bv,bR,tv,e,r1,r2,r3,r4⟩:=R.ob;obtain⟨ys,eq,rq⟩:=R.qu;have nd:=Me.nd;have lr:=aG.len;have ly:=rq.length;obtain⟨i1,i2,i3⟩:=it.is;refine⟨_,(aE (bJ (dw (cK (pf Hm hr (ak (cE TC.cl TC.kj (pv 0)) (ak (pv 1) ay))))) (aK ua) bK) (aE (bJ (dw (cK (pf Hk hr (ak (cE TC.cl TC.kj (pv 0)) (ak (pf xj hr (ak (cY HN TC.cl (hr.mono az) (pv 0)) (ak (pv 1) ay))) ay))))) (aK ua) bK) (aE (bJ (bX FP (fF K B (ak (cE TC.cl TC.hJ (pv 0)) ay)) (cX (x:="MOST_WAITING") rfl a4D) (bL _)) (aK ua) bK) (aE (lZ (qV K Z (cE TC.cl TC.hJ (pv 0)) (ak (pv 1) ay))) (aK (aR (fF K B (ak (cE TC.cl TC.hJ (pv 0)) ay)))))))),?_⟩;refine⟨_,Z,a,dx,_,_,Z,e,Z,_,Z,mv,v,M.rs,_,d,Z,r1,rd,aw,i2,i3,λH1 s1=>⟨_,Z,?_⟩⟩;rw[i1];refine aY ?_;have e1:=s1 _ _ e;have R1:=R.same ok.row.no s1;refine⟨_,Z,a,dx,_,_,Z,e1,Z,?_⟩;refine⟨_,Z,a,dx,_,Z,e1,Z,a,q,M,D,S,Z,R1,ok,aG,λg H2 rg s2=>?_⟩;have gY:=s1.trans s2;have gl:(jq S).length=M.rs.length:=Io _ _ ok.pl ok.qX;refine⟨_,Z,g,v,jq S,d,o,Z,rg,RD.mono gY _ rd,it.it,λns sp e'=>by rw[gl];exact(it.ln ns sp e').1.len,aw,λu H3 ru s3=>?_⟩;have eR:=gY.trans s3;refine⟨mv,u,M.rs,_,_,Z,RD.mono eR _ r1,ru,aw,λH4 s4=>⟨_,Z,?_⟩⟩;rw[OG jI];refine aY ?_;have ji:=eR.trans s4;have e4:=ji _ _ e;have eq4:=ji _ _ eq;refine⟨_,Z,a,dx,_,_,Z,e4,Z,q,_,Z,.inl (aJ.of eq4),_,_,Z,Z,_,Z,?_⟩;rw[show decide ((ys.length:Int)>=20)=false from dE aw];refine aY ?_;have iY:sizeLine=16777216:=by decide
  refine⟨_,Z,a,dx,_,_,Z,e4,Z,.inl ⟨Z,_,aJ.of eq4⟩,_,Z,q,ys,_,Z,Z,eq4,aw,?_⟩;have aq:=R.ne;have tu:cQ H4 (_L.upd H4 q (.lst (ys++[v]))):=.upd eq4 trivial;have e5:(_L.upd H4 q (.lst (ys++[v]))) a=some (.ins C dx (eT mv bv (.int S.dn) (.ref q) bR (.int S.aA) (.str S.side) (.str S.mark) tv)):=by rw[aV aq];exact e4
  refine⟨_,Z,a,dx,_,_,Z,e5,Z,q,_,Z,.inl (aJ.of bW),?_⟩;have sv:cQ H (_L.upd H4 q (.lst (ys++[v]))):=ji.v.trans tu;have el:((ys++[v]).length:Int)=((S.ds.length+1:Nat):Int):=by rw[fP,ly];rfl
  rw[el];refine k _ ⟨⟨dx,mv,bv,bR,tv,e5,RD.v sv _ (iu _ _ _ _ _) r1,RD.v sv _ (m4 _) r2,r3.v sv,r4.v sv⟩,_,bW,?_⟩ λb o' eb hb=>?_
  ·exact(aL.v sv _ ok.row.no rq).append (cI (RD.v sv _ it.it.no rd) dv)
  ·have rV:b≠q:=λz=>hb (by rw[z];simp)
   rw[aV rV];exact ji _ _ eb
def mI(S:bc):bc:=match S.os with |o::os=>{S with pl:=hZ S.pl o,ds:=S.ds.tail,os:=os,dn:=0} |[]=>S
theorem fJ.tail{n:Nat}{d:ah}{ds:List ah}{o:Itm}{os:List Itm}(h:fJ n (d::ds) (o::os)):fJ n ds os:=⟨by have:=h.len;simpa using this,λi d' o' e1 e2=>h.it (i+1) d' o' (by simpa using e1) (by simpa using e2),λi ns sp e=>h.ok (i+1) ns sp (by simpa using e)⟩
theorem RowW.tail{d:ah}{ds:List ah}{o:Itm}{os:List Itm}(h:RowW (d::ds) (o::os)):RowW ds os:=λi d' e1 e2=>h (i+1) d' (by simpa using e1) (by simpa using e2)
structure jv(M:bE)(D:Nat)(S:bc):Prop where
 row:fJ M.rs.length S.ds S.os
 rw:RowW S.ds S.os
 len:S.ds.length<=20
 cL:10<=S.aA
 cT:S.aA<=200
 pl:S.pl.length=M.rs.length
 pd:Dd (D+10) S.pc
 pm:S.pc<=1600
 aU:qk D S.pc S.aU
 D1:64<=D
 D2:D<=1500
theorem cx.raw{M:bE}{D:Nat}{S:bc}(h:cx M D S):jv M D S:=⟨h.row,h.rw,h.len,h.cL,h.cT,h.pl,h.pd,h.pm,h.aU,h.D1,h.D2⟩
theorem jv.ok{M:bE}{D:Nat}{S:bc}(h:jv M D S)(hd:S.dn=0\/∃ns sp,S.os[0]? =some (some (ns,sp))/\S.dn<aO ns):cx M D S:=⟨h.row,h.rw,h.len,h.cL,h.cT,hd,h.pl,h.pd,h.pm,h.aU,h.D1,h.D2⟩
theorem jv.end{M:bE}{D:Nat}{S:bc}(h:jv M D S)(hn:S.os≠[]):cx M D (mI S):=by obtain⟨pl,dn,ds,os,pc,aA,side,mark,aU⟩:=S;cases os with |nil=>exact(hn Z).elim |cons o os=>have ll:=h.row.len;cases ds with |nil=>simp at ll |cons d ds=>
 refine⟨h.row.tail,h.rw.tail,?_,h.cL,h.cT,.inl Z,?_,h.pd,h.pm,h.aU,h.D1,h.D2⟩
 ·have:=h.len
  simp only[gh]at this;show ds.length<=20
  lia
 ·exact SM h.pl λns sp e=>(h.row.ok 0 ns sp (by rw[<-e];rfl)).1.len
theorem a7K(xs:List V):jQ xs (some 1) none=xs.drop 1:=IY xs
abbrev DW:Stmt:=inClass (top 75) 16
theorem Mh:aW ["self"] ["self"] (aP DW):=bj aI
inductive a9A(K:aa)(C:Addr)(vs:List V)(H:Hp)(Q:VK):Prop |mk (a:_)(q:_)(M:_)(D:_)(S:_)(h0:vs=[.ref a])(h1:bT K C H a q M S)(h2:jv M D S)(h3:M.Ok)(h4:S.os≠[])(h5:∀q' H',bT K C H' a q' M (mI S)->H q'=none->cA [a] H H'->Q .bw H')
def CI(K:aa)(C:Addr):Sp:=λvs H Q _=>a9A K C vs H Q
theorem Zc{C:Addr}(F:MA K C "end_first" "Runner.end_first" DW)(TC:cU K C)(xj:aB P w K mg au "place_behind" 2 (vZ K)):bP P w K mg au C "end_first" 3 (CI K C):=by
 refine F.has Mh (λvs H Q E h=>?_) (λ_ _ _ _ _ _=>cw λ_=>rfl) (λf aH A outer s H vs Q E hr h=>?_)
 ·obtain⟨a,q,M,D,S,rfl,_⟩:=h
  rfl
 ·obtain⟨a,q,M,D,S,rfl,R,ok,aG,hn,k⟩:=h
  obtain⟨dx,mv,bv,bR,tv,e,r1,r2,r3,r4⟩:=R.ob;obtain⟨ys,eq,rq⟩:=R.qu;have aq:=R.ne;have nd:=Mh.nd;have lr:=aG.len;have ll:=ok.row.len;refine⟨_,(aE (fD TC.cl TC.rk (pv 0) (pf xj hr (ak (cE TC.cl TC.rk (pv 0)) (ak (px K (cE TC.cl TC.hJ (pv 0)) aF) ay)))) (aE (fD TC.cl TC.hJ (pv 0) (A5 (zI K rfl) (cE TC.cl TC.hJ (pv 0)) (A0 aF) A1)) (aK (fD TC.cl TC.md (pv 0) aF)))),?_⟩;obtain⟨pl,dn,ds,os,pc,aA,side,mark,aU⟩:=S;cases os with |nil=>exact(hn Z).elim |cons o os=>cases ds with |nil=>simp at ll |cons d ds=>
   obtain⟨y,yr,rfl,ry,rr⟩:=rq.cons_inv;have it:itR d o:=ok.row.it 0 d o Z rfl;have lp:pl.length=M.rs.length:=ok.pl;refine⟨_,Z,a,dx,_,_,Z,e,Z,?_⟩;refine⟨_,Z,a,dx,_,_,Z,e,Z,.inl ⟨q,_,0,y,Z,Z,aJ.of eq,cF (dY 0) Z,?_⟩⟩;refine⟨bv,y,pl,d,o,Z,r2,ry,it,λns sp e'=>by rw[lp];exact(ok.row.ok 0 ns sp (by rw[<-e'];rfl)).1.len,aw,λu H1 ru s1=>?_⟩;have e1:=s1 _ _ e;refine⟨_,Z,a,dx,_,Z,e1,by show 9<1000;decide,?_⟩;have eq1:(_L.upd H1 a (.ins C dx (eT mv u (.int dn) (.ref q) bR (.int aA) (.str side) (.str mark) tv))) q=some (.lst (y::yr)):=by rw[aV aq.symm];exact s1 _ _ eq
   refine⟨_,Z,a,dx,_,_,Z,bW,Z,_,Z,q,_,Z,.inl ⟨aJ.of eq1,λq' H2 n2=>?_⟩⟩;have e2:=n2.same _ _ (bW (a:=a));refine⟨_,Z,a,dx,_,Z,e2,by show 9<1000;decide,?_⟩;refine⟨_,Z,a,dx,_,Z,bW,by show 9<1000;decide,?_⟩;have qj:a≠q':=λz=>by have:=n2.no;rw[<-z,bW]at this;cases this
   have key:∀X:Hp,(∀b,b≠a->X b=H2 b)->Q .bw (_L.upd X a (.ins C dx (eT mv u (.int 0) (.ref q') bR (.int aA) (.str side) (.str mark) tv))):=by
    intro X hX;have bt:cA [a] H (_L.upd X a (.ins C dx (eT mv u (.int 0) (.ref q') bR (.int aA) (.str side) (.str mark) tv))):=λb o' eb hb=>by have ha:b≠a:=λz=>hb (by rw[z];exact .head _);rw[aV ha,hX b ha];exact n2.same _ _ (by rw[aV ha];exact s1 _ _ eb)
    have sv:=bt.v λx hx o' eo=>by rw[dH]at hx;rw[hx,e]at eo;cases eo;trivial
    have Cq:cQ H1 (_L.upd X a (.ins C dx (eT mv u (.int 0) (.ref q') bR (.int aA) (.str side) (.str mark) tv))):=λb o' nb eb=>by
     have ha:b≠a:=λz=>by rw[z,e1]at eb;cases eb;exact nb trivial
     rw[aV ha,hX b ha];exact n2.same _ _ (by rw[aV ha];exact eb)
    have mz:=n2.at';rw[a7K]at mz;refine k q' _ ⟨⟨dx,mv,u,bR,tv,bW,RD.v sv _ (iu _ _ _ _ _) r1,RD.v Cq _ (m4 _) ru,r3.v sv,r4.v sv⟩,yr,?_,?_⟩ ?_ bt
    ·rw[aV qj.symm,hX q' qj.symm];exact mz
    ·exact aL.v sv _ ok.row.tail.no rr
    ·cases e':H q' with |none=>rfl |some o'=>have h1:=s1 _ _ e';have h2:=n2.no;rw[aV qj.symm,h1]at h2;cases h2
   exact key _ (λb hb=>by rw[aV hb])
theorem mn4{x y z u q:Rat}(h:q=x\/q=y\/q=z\/q=u)(h1:q<=x)(h2:q<=y)(h3:q<=z)(h4:q<=u):mn (mn (mn x y) z) u=q:=by
 refine JK ?_ (mq (mq (mq h1 h2) h3) h4);rcases h with h|h|h|h
 ·rw[h];exact eG (gq _ _) (eG (gq _ _) (gq _ _))
 ·rw[h];exact eG (gq _ _) (eG (gq _ _) (kP _ _))
 ·rw[h];exact eG (gq _ _) (kP _ _)
 ·rw[h];exact kP _ _
theorem PL{H:Hp}{Q:VK}{l:Addr}{u1 u2 u3:V}{x y z:Rat}(dl:H l=some (.lst [u1,u2,u3]))(R1:bU K H u1 x)(R2:bU K H u2 y)(R3:bU K H u3 z)(b1:Bd 2000 x)(b2:Bd 2000 y)(b3:Bd 2000 z)(k:∀v,bU K H v (mn (mn x y) z)->Q v H):kF K [.ref l] H Q E0:=by
 refine⟨l,[u1,u2,u3],[x,y,z],Z,aJ.of dl,⟨R1,b1,R2,b2,R3,b3,trivial⟩,by simp,λc v q e1 e2 hq=>k v ?_⟩;have e:mn (mn x y) z=q:=by
  refine mn3 ?_ (hq _ (by simp)) (hq _ (by simp)) (hq _ (by simp))
  match c,e2 with |0,e2=>cases e2;exact .inl rfl |1,e2=>cases e2;exact .inr (.inl rfl) |2,e2=>cases e2;exact .inr (.inr rfl)
 rw[e]
 match c,e1,e2 with |0,e1,e2=>cases e1;cases e2;exact R1 |1,e1,e2=>cases e1;cases e2;exact R2 |2,e1,e2=>cases e1;cases e2;exact R3
theorem PK{H:Hp}{Q:VK}{l:Addr}{u1 u2 u3 u4:V}{x y z t:Rat}(dl:H l=some (.lst [u1,u2,u3,u4]))(R1:bU K H u1 x)(R2:bU K H u2 y)(R3:bU K H u3 z)(R4:bU K H u4 t)(b1:Bd 2000 x)(b2:Bd 2000 y)(b3:Bd 2000 z)(b4:Bd 2000 t)(k:∀v,bU K H v (mn (mn (mn x y) z) t)->Q v H):kF K [.ref l] H Q E0:=by
 refine⟨l,[u1,u2,u3,u4],[x,y,z,t],Z,aJ.of dl,⟨R1,b1,R2,b2,R3,b3,R4,b4,trivial⟩,by simp,λc v q e1 e2 hq=>k v ?_⟩;have e:mn (mn (mn x y) z) t=q:=by
  refine mn4 ?_ (hq _ (by simp)) (hq _ (by simp)) (hq _ (by simp)) (hq _ (by simp))
  match c,e2 with |0,e2=>cases e2;exact .inl rfl |1,e2=>cases e2;exact .inr (.inl rfl) |2,e2=>cases e2;exact .inr (.inr (.inl rfl)) |3,e2=>cases e2;exact .inr (.inr (.inr rfl))
 rw[e]
 match c,e1,e2 with |0,e1,e2=>cases e1;cases e2;exact R1 |1,e1,e2=>cases e1;cases e2;exact R2 |2,e1,e2=>cases e1;cases e2;exact R3 |3,e1,e2=>cases e1;cases e2;exact R4
theorem Bp{D:Nat}{q:Rat}{z:Int}(h:Dd D q)(hl:q<=1600)(hz:0<=z)(Qg:z<2^24)(hD:D<=1700):Bd 2000 (q+(z:Rat)):=by have b:Bd (D+11) q:=h.bd (eG hl aI);exact(vf b aw).mono aw
abbrev DK:Stmt:=inClass (top 75) 15
theorem Mb:aW ["self","top","reach","left","rise","fall","middles","ends","square","steps","gone","still"] ["self","top","reach","left"] (aP DK):=bj aI
def G1(M:bE)(S:bc)(top R:Rat)(left:Int):bc:={S with pc:=ur M.r M.f S.pc top R left S.aU,aU:=G0 S.aU}
inductive a9t(K:aa)(C:Addr)(vs:List V)(H:Hp)(Q:VK):Prop |mk (a:_)(q:_)(M:_)(D:_)(S:_)(tv:_)(Rv:_)(top:_)(R:_)(left:_)(h0:vs=[.ref a,tv,Rv,.int left])(h1:bT K C H a q M S)(h2:cx M D S)(h3:M.Ok)(h4:bU K H tv top)(h5:Dd 14 top)(h6:top<=1600)(h7:bU K H Rv R)(h8:Dd 64 R)(h9:R<=1600)(h10:1<=left)(h11:left<=100)(rZ:¬Halt S.pc S.aU)(h13:∀v H',bU K H' v (nK M.r M.f S.pc top R left S.aU)->bT K C H' a q M (G1 M S top R left)->cA [a] H H'->Q v H')
def Ld(K:aa)(C:Addr):Sp:=λvs H Q _=>a9t K C vs H Q
theorem Z1{C:Addr}(F:MA K C "next_square" "Runner.next_square" DK)(TC:cU K C)(mC:aB P w K mg au "plus_whole" 4 (tO K))(Qk:aB P w K mg au "times" 3 (qE (·*·) K))(pL:aB P w K mg au "fraction" 3 (tP K))(mG:aB P w K mg au "least" 2 (kF K))(og:bP P w K mg au C "is_held" 1 (cP K C λ_ S H Q=>Q (.bl S.aU.isSome) H)):bP P w K mg au C "next_square" 5 (Ld K C):=by
 refine F.has Mb (λvs H Q E h=>?_) (λ_ _ _ _ _ _=>Jm λ_ _ _ _=>rfl) (λf aH A outer s H vs Q E hr h=>?_)
 ·obtain⟨a,q,M,D,S,tv,Rv,top,R,left,rfl,_⟩:=h
  rfl
 ·obtain⟨a,q,M,D,S,tv,Rv,top,R,left,rfl,R0,ok,aG,rt,td,tl,rR,Rd,Rl,l1,l2,nh,k⟩:=h
  obtain⟨dx,mv,bv,bR,sv,e,r1,r2,r3,r4⟩:=R0.ob;obtain⟨ys,eq,rq⟩:=R0.qu;have aq:=R0.ne;have nd:=Mb.nd;have tY:=aG.r1;have pT:=aG.f1;have D1:=ok.D1;have D2:=ok.D2;have iY:(2:Int)^24=16777216:=by decide
  obtain⟨ma,mb,rfl,gK,iU⟩:=mi r1;refine⟨_,(aE (FG (i:=4) (j:=5) Z nd Z Z az Z Z (ak (px K (cE TC.cl TC.kj (pv 0)) aF) (ak (px K (cE TC.cl TC.kj (pv 0)) aF) ay)) rfl) (aE (pS 6 nd (da (ak (pf mC hr (ak (cE TC.cl TC.pk (pv 0)) (ak (pv 4) ay))) (ak (pv 1) (ak (pf mC hr (ak (pv 2) (ak (aQ cB (pv 5) (aQ jm (aQ cB aF (pv 3)) aF)) ay))) ay))))) (aE (pS 7 nd (da (ak (pf mC hr (ak (cE TC.cl TC.pk (pv 0)) (ak (aQ cB aF (pv 4)) ay))) (ak (pv 1) (ak (pf mC hr (ak (pv 2) (ak (aQ cB (aQ cB aF (pv 5)) (aQ jm (pv 3) aF)) ay))) ay))))) (aE (iO (bJ (cK (cY og TC.cl (hr.mono az) (pv 0))) (aE (eL (cE TC.cl TC.uy (pv 0)) (eV K rfl (n:=3) rfl (bZ (bo 8 nd) (bZ (bo 9 nd) (bZ (bo 10 nd) eU))))) (aE (pS 11 nd (aQ jm (aQ jm (pv 9) (pv 10)) aF)) (aE (lZ (qV K Z (pv 6) (ak (pf Qk hr (ak (pv 8) (ak (pf pL hr (ak (aQ dP (aQ cB aF (pv 11)) aF) (ak (aQ cB aF (pv 9)) ay))) ay))) ay))) (aE (lZ (qV K Z (pv 7) (ak (pf Qk hr (ak (pv 8) (ak (pf pL hr (ak (pv 11) (ak (pv 9) ay))) ay))) ay))) (aK (fD TC.cl TC.uy (pv 0) (gQ (ak (pv 8) (ak (pv 9) (ak (aQ dP (pv 10) aF) ay)))))))))) bK)) (aE (fD TC.cl TC.pk (pv 0) (pf mG hr (ak (pv 7) ay))) (aK (aR (pf mG hr (ak (pv 6) ay))))))))),?_⟩;refine⟨_,Z,a,dx,_,_,Z,e,Z,.inr ⟨ma,_,1,.int M.r,Z,Z,gK,Z,?_⟩⟩;refine⟨_,Z,a,dx,_,_,Z,e,Z,.inr ⟨ma,_,2,.int M.f,Z,Z,gK,Z,_,_,Z,?_⟩⟩;have fl1:(M.f*(2*left-1)).natAbs<=50*200:=by rw[iL];exact t7 aw aw
  have a5N:0<=M.f*(2*left-1):=jY aw aw;have fl2:(2*M.f*(left-1)).natAbs<=100*100:=by rw[iL];exact t7 aw aw
  have a5M:0<=2*M.f*(left-1):=jY aw aw;have Oo:Bd 2000 S.pc:=(ok.pd.bd (eG ok.pm aI)).mono aw;have RB:Bd 2000 R:=(Rd.bd (eG Rl aI)).mono az;have tB:Bd 2000 top:=(td.bd (eG tl aI)).mono az;have B1:Bd 2000 (S.pc+(M.r:Rat)):=Bp ok.pd ok.pm aw aw aw;have B2:Bd 2000 (R+((M.f*(2*left-1):Int):Rat)):=Bp Rd Rl a5N aw aw;have B3:Bd 2000 (S.pc+((2*M.r:Int):Rat)):=Bp ok.pd ok.pm aw aw aw;have B4:Bd 2000 (R+((2*M.f*(left-1):Int):Rat)):=Bp Rd Rl a5M aw aw;refine⟨_,Z,a,dx,_,_,Z,e,Z,_,Z,bR,_,_,Z,r3,Oo,aw,λu1 H1 kG s1=>?_⟩;refine⟨_,Z,_,Z,_,Z,_,Z,_,_,Z,Z,.of_left (du az az),_,_,Z,Z,_,_,Z,Z,.of_left (du aw aw),Rv,_,_,Z,rR.go s1,RB,aw,λu2 H2 wu s2=>?_⟩;refine⟨ck Z,λlm H3 n3=>?_⟩;have eR:=s1.trans (s2.trans n3.same);refine⟨_,Z,a,dx,_,_,Z,eR _ _ e,Z,_,Z,_,_,Z,Z,.of_left (du az az),bR,_,_,Z,r3.go eR,Oo,aw,λu3 H4 WQ s4=>?_⟩;have ji:=eR.trans s4;refine⟨_,Z,_,Z,_,Z,_,_,Z,Z,.of_left (du az az),_,Z,_,_,Z,Z,_,_,Z,Z,.of_left (du aw aw),Rv,_,_,Z,rR.go ji,RB,aw,λu4 H5 WO s5=>?_⟩;refine⟨ck Z,λle H6 n6=>?_⟩;have nu:=ji.trans (s5.trans n6.same);have gO:=s4.trans (s5.trans n6.same);have e6:=nu _ _ e;have R6:=R0.same ok.row.no nu;have U1:=kG.go (s2.trans (n3.same.trans gO));have U2:=wu.go (n3.same.trans gO);have U3:=WQ.go (s5.trans n6.same);have U4:=WO.go n6.same;have T6:=rt.go nu;have dm:=gO _ _ n3.at';have de:=n6.at';have Jl:a≠lm:=λz=>by have:=n3.no;rw[<-z,(s1.trans s2) _ _ e]at this;cases this
  have SY:a≠le:=λz=>by have:=n6.no;rw[<-z,(ji.trans s5) _ _ e]at this;cases this
  have Px:lm≠le:=λz=>by have:=n6.no;rw[<-z,(s4.trans s5) _ _ n3.at']at this;cases this
  have nlm:H lm=none:=by cases e':H lm with |none=>rfl |some o=>have:=(s1.trans s2) _ _ e';rw[n3.no]at this;cases this
  have nle:H le=none:=by cases e':H le with |none=>rfl |some o=>have:=(ji.trans s5) _ _ e';rw[n6.no]at this;cases this
  refine⟨λO H7=>∃qB w8 w9 tE Kc um ue,O=[some (.ref a),some tv,some Rv,some (.int left),some (.int M.r),some (.int M.f),some (.ref lm),some (.ref le),w8,w9,tE,Kc]/\cA [a,lm,le] H6 H7/\H7 a=some (.ins C dx (eT (.ref ma) bv (.int S.dn) (.ref q) bR (.int S.aA) (.str S.side) (.str S.mark) qB))/\vg K H7 qB (G0 S.aU)/\H7 lm=some (.lst um)/\H7 le=some (.lst ue)/\(∀H8 Q',cQ H7 H8->H8 lm=some (.lst um)->(∀v,bU K H8 v (nK M.r M.f S.pc top R left S.aU)->Q' v H8)->kF K [.ref lm] H8 Q' E0)/\(∀H8 Q',cQ H7 H8->H8 le=some (.lst ue)->(∀v,bU K H8 v (ur M.r M.f S.pc top R left S.aU)->Q' v H8)->kF K [.ref le] H8 Q' E0),?_,?_⟩
  ·refine⟨_,Z,a,dx,_,Z,e6,Z,a,q,M,D,S,Z,R6,ok,aG,_,Z,?_⟩
   cases hs:S.aU with |none=>rw[hs]at r4;refine aY ⟨sv,_,_,_,_,_,_,Z,cA.refl _ _,e6,r4,dm,de,λH8 Q' sV d8 kq=>PL d8 (U1.v sV) (T6.v sV) (U2.v sV) B1 tB B2 kq,λH8 Q' sV d8 kq=>PL d8 (U3.v sV) (T6.v sV) (U4.v sV) B3 tB B4 kq⟩ |some z=>
    obtain⟨sq,st,gn⟩:=z;rw[hs]at r4;have sk:=ok.aU;rw[hs]at sk nh;obtain⟨g1,g2,g3⟩:=wM sk ok.pd.nn nh;obtain⟨gn0,gn1,zr,Cu,Ct,_,_⟩:=sk;obtain⟨ta,su,rfl,hta,hsu⟩:=r4;refine bG ?_;have a30:=hta.go nu;have GW:=hsu.go nu;have KO:Bd 2000 sq:=(Cu.bd Ct).mono aw;refine⟨_,Z,a,dx,_,_,Z,e6,Z,ta,_,Z,a30,Z,_,_,Z,_,_,Z,_,_,Z,Z,?_⟩;refine⟨_,Z,_,Z,_,_,Z,Z,_,_,Z,Z,?_⟩;have iY:sizeLine=16777216:=by decide
    refine⟨_,Z,.inl ⟨Z,_,aJ.of dm⟩,_,Z,_,Z,_,_,Z,Z,.of_left (du az az),_,_,Z,Z,_,Z,_,_,Z,Z,.of_left (du az az),_,_,Z,aw,jC (n:=64) aw az,λfv H7 rf s7=>?_⟩;have fB:Bd 2000 (Rat.divInt (2*(st-gn-1)+1) (2*st)):=(kh (n:=12) aw aw aw).mono az;have fB2:Bd 2000 (Rat.divInt (st-gn-1) st):=(kh (n:=12) aw aw aw).mono az;have pB:Bd 2000 (sq*Rat.divInt (2*(st-gn-1)+1) (2*st)):=((Cu.bd Ct).mul (kh (n:=12) aw aw aw)).mono aw;have Yd:Bd 2000 (sq*Rat.divInt (st-gn-1) st):=((Cu.bd Ct).mul (kh (n:=12) aw aw aw)).mono aw;refine⟨su,fv,sq,_,Z,GW.go s7,rf,KO,fB,λx1 H8 WK s8=>?_⟩;have tT:=s7.trans s8;have RY:=tT _ _ dm;refine⟨lm,_,_,Z,Z,RY,by show 3<sizeLine;lia,?_⟩;have v8:cQ H8 (_L.upd H8 lm (.lst ([u1,tv,u2]++[x1]))):=.upd RY trivial;have Se:(_L.upd H8 lm (.lst ([u1,tv,u2]++[x1]))) le=some (.lst [u3,tv,u4]):=by rw[aV Px.symm];exact tT _ _ de
    refine⟨_,Z,.inl ⟨Z,_,aJ.of Se⟩,_,Z,_,Z,_,Z,_,_,Z,aw,jC (n:=64) aw az,λgv H9 rg s9=>?_⟩;refine⟨su,gv,sq,_,Z,((GW.go tT).v v8).go s9,rg,KO,fB2,λx2 mQ WJ qI=>?_⟩;have tS:=s9.trans qI;have Sf:=tS _ _ Se;refine⟨le,_,_,Z,Z,Sf,by show 3<sizeLine;lia,?_⟩;have v10:cQ mQ (_L.upd mQ le (.lst ([u3,tv,u4]++[x2]))):=.upd Sf trivial;refine⟨_,Z,_,Z,_,Z,_,_,Z,Z,ck Z,λtn kA pA=>?_⟩;have UM:cQ H6 mQ:=(tT.v.trans v8).trans tS.v;have UL:cQ H6 kA:=(UM.trans v10).trans pA.same.v;have e8:(_L.upd H8 lm (.lst ([u1,tv,u2]++[x1]))) a=some (.ins C dx (eT (.ref ma) bv (.int S.dn) (.ref q) bR (.int S.aA) (.str S.side) (.str S.mark) (.ref ta))):=by rw[aV Jl];exact tT _ _ e6
    have RX:kA a=some (.ins C dx (eT (.ref ma) bv (.int S.dn) (.ref q) bR (.int S.aA) (.str S.side) (.str S.mark) (.ref ta))):=pA.same _ _ (by rw[aV SY];exact tS _ _ e8);refine⟨_,Z,a,dx,_,Z,RX,by show 9<1000;decide,?_⟩;have yY:cQ kA (_L.upd kA a (.ins C dx (eT (.ref ma) bv (.int S.dn) (.ref q) bR (.int S.aA) (.str S.side) (.str S.mark) (.ref tn)))):=.upd RX trivial;have qy:=UL.trans yY;have UK:=(((v8.trans tS.v).trans v10).trans pA.same.v).trans yY;have UO:=(v10.trans pA.same.v).trans yY;refine⟨.ref tn,_,_,_,_,[u1,tv,u2,x1],[u3,tv,u4,x2],Z,λb o' eb hb=>?_,bW,⟨tn,su,Z,aZ.v yY (aZ.of pA.at'),GW.v qy⟩,?_,?_,λH' Q' sV d' kq=>?_,λH' Q' sV d' kq=>?_⟩
    ·have ha:b≠a:=λz=>hb (by rw[z];simp)
     have hlm:b≠lm:=λz=>hb (by rw[z];simp);have hle:b≠le:=λz=>hb (by rw[z];simp);rw[aV ha];exact pA.same _ _ (by rw[aV hle];exact tS _ _ (by rw[aV hlm];exact tT _ _ eb))
    ·rw[aV Jl.symm]
     exact pA.same _ _ (by rw[aV Px];exact tS _ _ bW)
    ·rw[aV SY.symm]
     exact pA.same _ _ bW
    ·exact PK d' ((U1.v qy).v sV) ((T6.v qy).v sV) ((U2.v qy).v sV) ((WK.v UK).v sV) B1 tB B2 pB kq
    ·exact PK d' ((U3.v qy).v sV) ((T6.v qy).v sV) ((U4.v qy).v sV) ((WJ.v UO).v sV) B3 tB B4 Yd kq
  ·rintro O H7 ⟨qB,w8,w9,tE,Kc,um,ue,rfl,bt,e7,nc,dm7,de7,km,ke⟩
   refine⟨_,Z,?_⟩;dsimp only[lR];refine ke H7 _ .refl de7 λpe X0=>?_;refine⟨_,Z,a,dx,_,Z,e7,by show 9<1000;decide,?_⟩;have v8:cQ H7 (_L.upd H7 a (.ins C dx (eT (.ref ma) bv (.int S.dn) (.ref q) pe (.int S.aA) (.str S.side) (.str S.mark) qB))):=.upd e7 trivial;refine⟨_,Z,?_⟩;dsimp only[lR];refine km _ _ v8 (by rw[aV Jl.symm];exact dm7) λv rv=>?_;have bH:cA [a] H (_L.upd H7 a (.ins C dx (eT (.ref ma) bv (.int S.dn) (.ref q) pe (.int S.aA) (.str S.side) (.str S.mark) qB))):=λb o' eb hb=>by
    have ha:b≠a:=λz=>hb (by rw[z];simp);rw[aV ha];refine bt b o' (nu _ _ eb) λhm=>?_;simp only[cj,eQ,iI]at hm;rcases hm with h|h|h
    ·exact ha h
    ·rw[h,nlm]at eb;cases eb
    ·rw[h,nle]at eb;cases eb
   have vH:cQ H (_L.upd H7 a (.ins C dx (eT (.ref ma) bv (.int S.dn) (.ref q) pe (.int S.aA) (.str S.side) (.str S.mark) qB))):=bH.v λx hx o' eo=>by rw[dH]at hx;rw[hx,e]at eo;cases eo;trivial
   refine k v _ rv ⟨⟨dx,.ref ma,bv,pe,qB,bW,RD.v vH _ (iu _ _ _ _ _) r1,RD.v vH _ (m4 _) r2,X0.v v8,nc.v v8⟩,ys,bH _ _ eq (by rw[dH];exact aq.symm),aL.v vH _ ok.row.no rq⟩ bH
end
end _b
set_option maxHeartbeats 2000000
namespace _b
open PySem PySem.Spec PyProof.Rows _L _r _l _C _P _W _R
open _O (topR cornO mnO betR atO ownF leadF ownL OkI OkIs)
section
variable {P:af}{w:World}{K:aa}{mg:bD}{au:Heap}
noncomputable def jG(M:bE)(S:bc):Rat:=NX M.f M.j S.aA S.os
noncomputable def x8(M:bE)(S:bc)(ns:List Int)(sp:Int):Rat:=nK M.r M.f S.pc (topR S.aA sp) (jG M S) ((aO ns:Int)-S.dn) S.aU
noncomputable def uB(M:bE)(S:bc)(ns:List Int)(sp:Int):ah:=tL M.t (lX ns S.dn) (x8 M S ns sp)
noncomputable def ml(M:bE)(S:bc)(ns:List Int)(sp:Int):bc:={G1 M S (topR S.aA sp) (jG M S) ((aO ns:Int)-S.dn)with dn:=S.dn+1}
def ir(ns:List Int)(S:bc):bc:=if S.dn=aO ns then mI S else S
def eK(d:ah)(S:bc):bc:=match d with | .tuple [.str w,.str s]=>if w="tool" then{S with side:=s}else if w="mark" then{S with mark:=s}else S |_=>S
inductive One(M:bE):bc->ah->bc->Prop |line {S:bc}{ns:List Int}{sp:Int}:S.os[0]? =some (some (ns,sp))->¬Halt S.pc S.aU->One M S (uB M S ns sp) (ir ns (ml M S ns sp)) |gF {S:bc}{d:ah}:S.os[0]? =some none->S.ds[0]? =some d->¬Halt S.pc S.aU->One M S d (mI (eK d S))
inductive Run(M:bE):bc->List ah->bc->Prop |nil (S:bc):Run M S [] S |cons {S S1 S2:bc}{e:ah}{es:List ah}:One M S e S1->Run M S1 es S2->Run M S (e::es) S2
theorem Run.trans{M:bE}{S S1 S2:bc}{es fs:List ah}(h:Run M S es S1)(g:Run M S1 fs S2):Run M S (es++fs) S2:=by induction h with |nil=>exact g |cons o _ ih=>exact .cons o (ih g)
theorem Run.snoc{M:bE}{S S1 S2:bc}{es:List ah}{e:ah}(h:Run M S es S1)(g:One M S1 e S2):Run M S (es++[e]) S2:=h.trans (.cons g (.nil _))
theorem D7{M:bE}{D:Nat}{S:bc}(h:jv M D S)(d:ah):jv M D (eK d S)/\(eK d S).os=S.os/\(eK d S).ds=S.ds/\(eK d S).dn=S.dn/\(eK d S).pl=S.pl:=by
 unfold eK;split
 ·split
  ·exact⟨⟨h.row,h.rw,h.len,h.cL,h.cT,h.pl,h.pd,h.pm,h.aU,h.D1,h.D2⟩,Z,Z,Z,Z⟩
  ·split
   ·exact⟨⟨h.row,h.rw,h.len,h.cL,h.cT,h.pl,h.pd,h.pm,h.aU,h.D1,h.D2⟩,Z,Z,Z,Z⟩
   ·exact⟨h,Z,Z,Z,Z⟩
 ·exact⟨h,Z,Z,Z,Z⟩
theorem Fq{M:bE}{D:Nat}{S:bc}(h:jv M D S)(aG:M.Ok)(hn:S.os≠[]):Dd 64 (jG M S)/\jG M S<=1600:=by
 have h1:1<=S.os.length:=by cases e:S.os with|nil=>exact(hn e).elim|cons _ _=>simp
 refine⟨a5L (by have:=aG.f1;lia) (λi _=>Yf aG.j1.1 aG.j1.2 h.cL h.cT h.row.kN i) 1 h1,?_⟩;exact eG (a5K h1) (Ye h.cL h.cT h.row.kN 1)
theorem Pw{M:bE}{D:Nat}{S:bc}{ns:List Int}{sp:Int}(h:jv M D S)(aG:M.Ok)(eo:S.os[0]? =some (some (ns,sp)))(hd:S.dn<aO ns)(nh:¬Halt S.pc S.aU):jv M D (ml M S ns sp):=by
 have hn:S.os≠[]:=λe=>by rw[e]at eo;simp at eo
 obtain⟨R1,R2⟩:=Fq h aG hn;obtain⟨dj,s1,s2⟩:=h.row.ok 0 ns sp eo;have D1:=h.D1;have tY:=aG.r1;have pT:=aG.f1;refine⟨h.row,h.rw,h.len,h.cL,h.cT,h.pl,?_,?_,?_,h.D1,h.D2⟩
 ·exact a7k aw aw aw h.pd ((Cd _ _).mono aw) (R1.mono aw) h.aU nh
 ·exact eG a7j (zc s1 s2 h.cL h.cT)
 ·exact VU h.aU h.pd.nn nh
theorem One.ok{M:bE}{D:Nat}{S S1:bc}{e:ah}(h:cx M D S)(aG:M.Ok)(o:One M S e S1):cx M D S1:=by cases o with
 |@line ns sp eo nh=>
  have hd:S.dn<aO ns:=by
   rcases h.dn with e|⟨G3,CV,e1,e2⟩
   ·rw[e];exact(h.row.ok 0 ns sp eo).1.lead.1
   ·rw[eo]at e1;cases e1;exact e2
  have raw:=Pw h.raw aG eo hd nh;have hn:S.os≠[]:=λe=>by rw[e]at eo;simp at eo
  unfold ir;split
  ·exact raw.end hn
  ·next df=>
   refine raw.ok (.inr ⟨ns,sp,eo,?_⟩);have:(ml M S ns sp).dn=S.dn+1:=rfl
   lia |gF eo ed nh=>obtain⟨h1,h2,_⟩:=D7 h.raw e;refine h1.end ?_;rw[h2];intro z;rw[z]at eo;simp at eo
theorem Run.ok{M:bE}{D:Nat}{S S1:bc}{es:List ah}(h:cx M D S)(aG:M.Ok)(r:Run M S es S1):cx M D S1:=by induction r with |nil=>exact h |cons o _ ih=>exact ih (o.ok h aG)
theorem One.no{M:bE}{D:Nat}{S S1:bc}{e:ah}(h:cx M D S)(o:One M S e S1):eM e=true:=by cases o with |line _ _=>exact KJ _ _ _ |gF eo ed _=>exact fY.mp h.row.no _ (fA ed)
theorem Run.no{M:bE}{D:Nat}{S S1:bc}{es:List ah}(h:cx M D S)(aG:M.Ok)(r:Run M S es S1):cy es=true:=by induction r with |nil=>rfl |cons o _ ih=>rw[cy,eH];exact⟨o.no h,ih (o.ok h aG)⟩
theorem AB{b:Bool}{A B A' B':Prop}(h1:A->A')(h2:B->B'):(if b=true then A else B)->(if b=true then A' else B'):=by
 cases b
 ·exact h2
 ·exact h1
abbrev DG:Stmt:=inClass (top 75) 14
theorem Ma:aW ["self","most","line","lead","rows","top","reach","told","middle"] ["self","most"] (aP DG):=bj aI
inductive a9s(K:aa)(C:Addr)(vs:List V)(H:Hp)(Q:VK):Prop |mk (a:_)(q:_)(M:_)(D:_)(S:_)(ns:_)(sp:_)(most:_)(h0:vs=[.ref a,.int most])(h1:bT K C H a q M S)(h2:cx M D S)(h3:M.Ok)(h4:S.os[0]? =some (some (ns,sp)))(h5:¬Halt S.pc S.aU)(h6:1<=most)(h7:most<=1000)(h8:∀l ys es S' q' H',H l=none->H' l=some (.lst ys)->aL K H' ys es->Run M S es S'->1<=es.length->(es.length:Int)<=most->bT K C H' a q' M S'->Mv a q H q' H'->l≠q'->Q (.ref l) H')
def Lc(K:aa)(C:Addr):Sp:=λvs H Q _=>a9s K C vs H Q
theorem YW{C:Addr}(F:MA K C "steps_of_first" "Runner.steps_of_first" DG)(TC:cU K C)(B:bC mg)(jM:aB P w K mg au "lead_of" 1 (nk K))(a35:aB P w K mg au "step_rows" 3 (Cw K))(AJ:aB P w K mg au "top_square" 4 (zu K))(a3c:aB P w K mg au "reach_behind_first" 9 (Cy K))(a36:aB P w K mg au "step_entry" 3 (CQ K))(xH:bP P w K mg au C "is_halted" 2 (cP K C λ_ S H Q=>Q (.bl (S.aU.isSome&&decide (S.pc=0))) H))(a4U:bP P w K mg au C "next_square" 5 (Ld K C))(HU:bP P w K mg au C "end_first" 3 (CI K C)):bP P w K mg au C "steps_of_first" 10 (Lc K C):=by
 refine F.has Ma (λvs H Q E h=>?_) (λ_ _ _ _ _ _=>dF λ_ _=>rfl) (λf aH A outer s H vs Q E hr h=>?_)
 ·obtain⟨a,q,M,D,S,ns,sp,most,rfl,_⟩:=h
  rfl
 ·obtain⟨a,q,M,D,S,ns,sp,most,rfl,R0,ok,aG,eo,nh,m1,m2,k⟩:=h
  obtain⟨dx,mv,bv,bR,tv,e,r1,r2,r3,r4⟩:=R0.ob;obtain⟨ys,eq,rq⟩:=R0.qu;have aq:=R0.ne;have nd:=Ma.nd;have lr:=aG.len;have tY:=aG.r1;have pT:=aG.f1;have ll:=ok.row.len;have h20:=ok.len;have xu:0<S.os.length:=(dD.mp eo).1;have df:S.os≠[]:=λz=>by rw[z]at xu;exact absurd xu az
  obtain⟨d,ed⟩:∃d,S.ds[0]? =some d:=⟨_,cu (show 0<S.ds.length by lia)⟩;obtain⟨y,ey,ry⟩:=rq.get 0 ed;have dB:=mx (ok.row.it 0 d _ ed eo);subst dB;obtain⟨dj,dZ,gX⟩:=ok.row.ok 0 ns sp eo;have Yx:eO ns.length 1000 ns:=⟨Z,λz hz=>by have:=dj.bd z hz;lia,dj.nz⟩;have Po:=dj.lead.1;have a2g:=PN dj;have OW:ns.length<=3:=by rw[dj.len];lia
  have hd0:S.dn<aO ns:=by
   rcases ok.dn with e'|⟨G3,CV,e1,e2⟩
   ·lia
   ·rw[eo]at e1;cases e1;exact e2
  obtain⟨Rd,Rl⟩:=Fq ok.raw aG df;refine⟨_,(aE (pS 2 nd (px K (cE TC.cl TC.hJ (pv 0)) aF)) (aE (pS 3 nd (pf jM hr (ak (pv 2) ay))) (aE (pS 4 nd (pf a35 hr (ak (pv 2) ay))) (aE (pS 5 nd (pf AJ hr (ak (pv 2) (ak (cE TC.cl TC.wX (pv 0)) ay)))) (aE (pS 6 nd (pf a3c hr (ak (cE TC.cl TC.kj (pv 0)) (ak (cE TC.cl TC.hJ (pv 0)) (ak (cE TC.cl TC.wX (pv 0)) ay))))) (aE (pS 7 nd (da ay)) (aE (iO (u9 ie (PW.pt (qP (bX m7 (fF K B (ak (pv 7) ay)) (pv 1) (bL _)) (qP (bX m7 (cE TC.cl TC.md (pv 0)) (pv 3) (bL _)) (wC (dw (cK (cY xH TC.cl (hr.mono az) (pv 0)))))))) (aE (pS 8 nd (m5 a4U TC.cl (hr.mono az) (pv 0) (ak (pv 5) (ak (pv 6) (ak (aQ jm (pv 3) (cE TC.cl TC.md (pv 0))) ay))))) (aE (lZ (qV K Z (pv 7) (ak (pf a36 hr (ak (cE TC.cl TC.kj (pv 0)) (ak (px K (pv 4) (cE TC.cl TC.md (pv 0))) (ak (pv 8) ay)))) ay))) (aK (XD TC.cl TC.md (pv 0) aF a2z)))))) (aE (iO (bJ (bX (dM K Z hr.units) (cE TC.cl TC.md (pv 0)) (pv 3) (bL _)) (aK (lZ (cY HU TC.cl (hr.mono az) (pv 0)))) bK)) (aK (aR (pv 7))))))))))),?_⟩;refine⟨_,Z,a,dx,_,_,Z,e,Z,.inl ⟨q,_,0,y,Z,Z,aJ.of eq,cF (dY 0) ey,?_⟩⟩;refine⟨_,Z,y,ns,sp,Z,ry,dj.ne,aw,λH1 s1=>?_⟩;refine⟨_,Z,y,ns,sp,Z,RD.mono s1 _ ry,Yx,aw,λmj yr H2 nlr RZ NP s2=>?_⟩;have gY:=s1.trans s2;refine⟨_,Z,_,Z,a,dx,_,_,Z,gY _ _ e,Z,y,ns,sp,S.aA,Z,RD.mono gY _ ry,dZ,gX,ok.cL,ok.cT,λqz H3 WS s3=>?_⟩;have eR:=gY.trans s3;have e3:=eR _ _ e;refine⟨_,Z,a,dx,_,_,Z,e3,Z,_,Z,a,dx,_,_,Z,e3,Z,_,Z,a,dx,_,_,Z,e3,Z,mv,.ref q,S.aA,M.rs,M.r,M.f,M.j,M.t,S.ds,S.os,Z,RD.mono eR _ r1,aG,wB (aJ.of (eR _ _ eq)) (aL.mono eR _ rq),ok.row,aw,aw,ok.cL,ok.cT,λqN H4 WX s4=>?_⟩;have ji:=eR.trans s4;refine⟨ck Z,λl H5 n5=>?_⟩;have oZ:=ji.trans n5.same;have Nt:aD H2 H5:=s3.trans (s4.trans n5.same);have nl:H l=none:=by cases e':H l with |none=>rfl |some o=>have:=ji _ _ e';rw[n5.no]at this;cases this
  have OV:H mj=none:=by cases e':H mj with |none=>rfl |some o=>have:=s1 _ _ e';rw[nlr]at this;cases this
  have al:a≠l:=λz=>by rw[<-z,e]at nl;cases nl
  have ql:q≠l:=λz=>by rw[<-z,eq]at nl;cases nl
  have SW:a≠mj:=λz=>by rw[<-z,e]at OV;cases OV
  have llr:l≠mj:=λz=>by have:=n5.no;rw[z,(s3.trans s4) _ _ RZ]at this;cases this
  have UB:=NP.length;rw[Fi]at UB;have td:=Cd S.aA sp;have tl:=zc dZ gX ok.cL ok.cT;have tp:=Kj dZ ok.cL;have a0w:ir ns S=S:=by unfold ir;rw[bh aw]
  have iY:sizeLine=16777216:=by decide
  refine⟨λO H6=>∃T es us w8,O=[some (.ref a),some (.int most),some y,some (.int (aO ns)),some (.ref mj),some qz,some qN,some (.ref l),w8]/\cA [a,l] H5 H6/\bT K C H6 a q M T/\jv M D T/\T.os=S.os/\T.ds=S.ds/\T.aA=S.aA/\T.dn<=aO ns/\1<=es.length/\(es.length:Int)<=most/\H6 l=some (.lst us)/\aL K H6 us es/\cy es=true/\Run M S es (ir ns T),?_,?_⟩
  ·refine tD (λO H6=>∃T es us w8,O=[some (.ref a),some (.int most),some y,some (.int (aO ns)),some (.ref mj),some qz,some qN,some (.ref l),w8]/\cA [a,l] H5 H6/\bT K C H6 a q M T/\jv M D T/\T.os=S.os/\T.ds=S.ds/\T.aA=S.aA/\T.dn=S.dn+es.length/\T.dn<=aO ns/\(es.length:Int)<=most/\H6 l=some (.lst us)/\aL K H6 us es/\cy es=true/\Run M S es (ir ns T)/\(es=[]->¬Halt T.pc T.aU)) (λ_ H6=>match H6 l with|some (.lst us)=>2000-us.length|_=>0) ?_ ?_ ?_
   ·exact⟨S,[],[],none,Z,cA.refl _ _,R0.same ok.row.no oZ,ok.raw,Z,Z,Z,Z,aw,by simp;lia,n5.at',dv,Z,by rw[a0w];exact .nil _,λ_=>nh⟩
   ·rintro O H6 ⟨T,es,us,w8,rfl,bt,RT,raw,pX,Bk,uQ,edn,Qy,o9,dl,rd,kv,run,hnh⟩
    have lu:=rd.length;obtain⟨sG,mv6,bv6,Ya,V1,e6,t1,t2,t3,t4⟩:=RT.ob;have Cb:cQ H5 H6:=bt.v λx hx o' fm=>by
     simp only[cj,eQ,iI]at hx;rcases hx with rfl|rfl
     ·rw[oZ _ _ e]at fm;cases fm;trivial
     ·rw[n5.at']at fm;cases fm;trivial
    have nos:cy T.ds=true:=by rw[Bk];exact ok.row.no
    have II:1<=es.length->∃T' oq kC yW,[some (.ref a),some (.int most),some y,some (.int (aO ns)),some (.ref mj),some qz,some qN,some (.ref l),w8]=[some (.ref a),some (.int most),some y,some (.int (aO ns)),some (.ref mj),some qz,some qN,some (.ref l),yW]/\cA [a,l] H5 H6/\bT K C H6 a q M T'/\jv M D T'/\T'.os=S.os/\T'.ds=S.ds/\T'.aA=S.aA/\T'.dn<=aO ns/\1<=oq.length/\(oq.length:Int)<=most/\H6 l=some (.lst kC)/\aL K H6 kC oq/\cy oq=true/\Run M S oq (ir ns T'):=λh1=>⟨T,es,us,w8,Z,bt,RT,raw,pX,Bk,uQ,Qy,h1,o9,dl,rd,kv,run⟩;refine⟨_,Z,l,us,Z,.inl (aJ.of dl),_,Z,_,_,Z,Z,_,Z,?_⟩;show if decide ((us.length:Int)<most)=true then _ else _;by_cases c1:(us.length:Int)<most
    ·rw[cf c1]
     refine bG ?_;refine⟨_,Z,a,sG,_,_,Z,e6,Z,_,Z,_,_,Z,Z,_,Z,?_⟩;show if decide ((T.dn:Int)<(aO ns:Int))=true then _ else _;by_cases c2:T.dn<aO ns
     ·rw[cf aw]
      refine bG ?_;have OJ:cx M D T:=raw.ok (.inr ⟨ns,sp,by rw[pX];exact eo,c2⟩);have a0v:ir ns T=T:=by unfold ir;rw[bh aw]
      refine⟨_,Z,a,sG,_,Z,e6,Z,a,q,M,D,T,Z,RT,OJ,aG,_,Z,?_⟩;by_cases c3:Halt T.pc T.aU
      ·have hb:(T.aU.isSome&&decide (T.pc=0))=true:=by obtain⟨h1,h2⟩:=c3;rw[cf h2,yM];cases hs:T.aU with |none=>exact(h1 hs).elim |some _=>rfl
       rw[hb];refine aY ?_;refine II ?_;cases es with |nil=>exact(hnh Z c3).elim |cons _ _=>simp
      ·have hb:(T.aU.isSome&&decide (T.pc=0))=false:=by cases hs:T.aU with |none=>rfl |some _=>show decide (T.pc=0)=false;exact dE λh2=>c3 ⟨by rw[hs];simp,h2⟩
       rw[hb];refine bG ?_;have rT:jG M T=jG M S:=by unfold jG;rw[pX,uQ]
       refine⟨_,Z,a,sG,_,Z,e6,Z,?_⟩;refine⟨_,Z,_,Z,_,Z,_,Z,a,sG,_,_,Z,e6,Z,_,_,Z,Z,?_⟩;have WR:bU K H6 qz (topR S.aA sp):=((WS.go s4).go n5.same).v Cb;have WW:bU K H6 qN (jG M S):=(WX.go n5.same).v Cb;refine⟨a,q,M,D,T,qz,qN,topR S.aA sp,jG M S,_,Z,RT,OJ,aG,WR,td,tl,WW,Rd,Rl,aw,aw,c3,λmid H7 X6 R7 b7=>?_⟩;obtain⟨pZ,rn,Bx,A7,z9,e7',Ku,VM,VL,VJ⟩:=R7.ob;have e7:H7 a=some (.ins C pZ (eT rn Bx (.int T.dn) (.ref q) A7 (.int T.aA) (.str T.side) (.str T.mark) z9)):=e7';have yX:cQ H6 H7:=b7.v λx hx o' fm=>by rw[dH]at hx;rw[hx,e6]at fm;cases fm;trivial
       have Bm:=b7 _ _ dl (by rw[dH];exact al.symm);have a7z:=Nt _ _ RZ;have a7y:=bt _ _ a7z (by simp;exact⟨SW.symm,llr.symm⟩);have a7x:=b7 _ _ a7y (by rw[dH];exact SW.symm);have X7:aL K H7 yr (ny ns):=aL.v yX _ (Fh ns) (aL.v Cb _ (Fh ns) (aL.mono Nt _ NP));obtain⟨rv,Rw⟩:∃rv,yr[T.dn]? =some rv:=⟨_,cu (show T.dn<yr.length by lia)⟩;obtain⟨dr,RV,zW⟩:=X7.get' T.dn Rw;rw[NL c2]at RV;cases RV;have mB:Bd 2000 (nK M.r M.f T.pc (topR S.aA sp) (jG M S) ((aO ns:Int)-T.dn) T.aU):=by have D1:=raw.D1;have D2:=raw.D2;exact((Pg aw aw aw raw.pd (td.mono aw) (Rd.mono aw) raw.aU c3).bd (eG Pe (eG tl aI))).mono aw
       have mP:0<nK M.r M.f T.pc (topR S.aA sp) (jG M S) ((aO ns:Int)-T.dn) T.aU:=Pf tY.1 pT.1 aw raw.pd.nn tp Rd.nn raw.aU c3;refine⟨_,Z,.inl ⟨Z,_,aJ.of Bm⟩,?_⟩;refine⟨_,Z,a,pZ,_,_,Z,e7,Z,?_⟩;refine⟨_,Z,_,Z,a,pZ,_,_,Z,e7,Z,.inl ⟨mj,_,_,_,Z,Z,aJ.of a7x,cF (show(0:Int)<=(T.dn:Int) by lia) (by simpa using Rw),?_⟩⟩;refine⟨_,Z,rn,rv,mid,M.rs,M.r,M.f,M.j,M.t,lX ns T.dn,_,Z,Ku,aG,zW,X6,mB,mP,λent H8 Xc s8=>?_⟩;have y8:=s8 _ _ Bm;refine⟨l,us,_,Z,Z,y8,aw,?_⟩;have e8:(_L.upd H8 l (.lst (us++[ent]))) a=some (.ins C pZ (eT rn Bx (.int T.dn) (.ref q) A7 (.int T.aA) (.str T.side) (.str T.mark) z9)):=by rw[aV al];exact s8 _ _ e7
       refine⟨_,Z,a,pZ,_,_,Z,e8,Z,_,_,Z,Z,pZ,_,e8,by show 9<1000;decide,?_⟩;have vl:cQ H8 (_L.upd H8 l (.lst (us++[ent]))):=.upd y8 trivial;have va:cQ (_L.upd H8 l (.lst (us++[ent]))) (_L.upd (_L.upd H8 l (.lst (us++[ent]))) a (.ins C pZ (eT rn Bx (.int ((T.dn:Int)+1)) (.ref q) A7 (.int T.aA) (.str T.side) (.str T.mark) z9))):=.upd e8 trivial;have v7:=(s8.v.trans vl).trans va;have eS:ml M T ns sp={G1 M T (topR S.aA sp) (jG M S) ((aO ns:Int)-T.dn)with dn:=T.dn+1}:=by unfold ml;rw[rT,uQ]
       have eE:uB M T ns sp=tL M.t (lX ns T.dn) (nK M.r M.f T.pc (topR S.aA sp) (jG M S) ((aO ns:Int)-T.dn) T.aU):=by unfold uB x8;rw[rT,uQ]
       have a3h:One M T (uB M T ns sp) (ir ns (ml M T ns sp)):=.line (by rw[pX];exact eo) c3;obtain⟨yq,eq7,WY⟩:=R7.qu;have G7:cy (es++[uB M T ns sp])=true:=fY.mpr λd hd=>by
        rcases mU.mp hd with h|h
        ·exact fY.mp kv d h
        ·rw[dH]at h;rw[h];exact KJ _ _ _
       have q7l:q≠l:=ql;refine⟨⟨ml M T ns sp,es++[uB M T ns sp],us++[ent],_,Z,λb o' eb hb=>?_,?_,Pw raw aG (by rw[pX];exact eo) c2 c3,pX,Bk,uQ,?_,?_,?_,?_,?_,?_,?_,λz=>by simp at z⟩,?_⟩
       ·have ha:b≠a:=λz=>hb (by rw[z];simp)
        have fT:b≠l:=λz=>hb (by rw[z];simp);rw[aV ha,aV fT];exact s8 _ _ (b7 _ _ (bt _ _ eb hb) (by rw[dH];exact ha))
       ·rw[eS]
        refine⟨⟨pZ,rn,Bx,A7,z9,?_,RD.v v7 _ (iu _ _ _ _ _) Ku,RD.v v7 _ (m4 _) VM,VL.v v7,VJ.v v7⟩,yq,?_,aL.v v7 _ nos WY⟩
        ·exact bW
        ·rw[aV aq.symm,aV ql];exact s8 _ _ eq7
       ·show T.dn+1=_
        rw[fP];show _=_+(_+1);lia
       ·show T.dn+1<=_
        lia
       ·rw[fP];show((es.length+1:Nat):Int)<=most;lia
       ·rw[aV al.symm,bW]
       ·refine aL.v va _ G7 (aL.v vl _ G7 ?_)
        have r7:aL K H8 us es:=aL.mono s8 _ (aL.v yX _ kv rd);refine r7.append (cI ?_ dv);rw[eE];exact Xc
       ·exact G7
       ·rw[a0v]at run
        exact run.snoc a3h
       ·show(match(_L.upd (_L.upd H8 l (.lst (us++[ent]))) a _) l with|some (.lst us)=>2000-us.length|_=>0)<(match H6 l with|some (.lst us)=>2000-us.length|_=>0)
        rw[aV al.symm,bW,dl];show 2000-(us++[ent]).length<2000-us.length;rw[fP];show 2000-(us.length+1)<_
        lia
     ·rw[dE aw]
      refine aY ?_;exact II aw
    ·rw[dE c1]
     refine aY ?_;exact II aw
   ·rintro O H6 Q1 Q2 hq ⟨v1,f1,l',kC,f2,f3,v2,f4,i1,i2,f5,f6,b1,f7,h⟩
    refine⟨v1,f1,l',kC,f2,f3,v2,f4,i1,i2,f5,f6,b1,f7,AB ?_ (hq _ _) h⟩;rintro⟨v3,f8,a',qc,lj,u',f9,IG,IE,v4,f12,i3,i4,f13,f14,b2,ID,h⟩;refine⟨v3,f8,a',qc,lj,u',f9,IG,IE,v4,f12,i3,i4,f13,f14,b2,ID,AB ?_ (hq _ _) h⟩;rintro⟨v5,IC,a2,jP,Ij,IB,IA,Iz,a3,q3,M3,D3,S3,Iy,Iw,Iv,Iu,b3,Ir,h⟩;exact⟨v5,IC,a2,jP,Ij,IB,IA,Iz,a3,q3,M3,D3,S3,Iy,Iw,Iv,Iu,b3,Ir,hq _ _ h⟩
  ·rintro O H6 ⟨T,es,us,w8,rfl,bt,RT,raw,pX,Bk,uQ,Qy,h1,o9,dl,rd,kv,run⟩
   obtain⟨sG,mv6,bv6,Ya,V1,e6,t1,t2,t3,t4⟩:=RT.ob;have a3u:T.os≠[]:=by rw[pX];exact df
   have bH:∀{H7:Hp},cA [a] H6 H7->cA [a,q] H H7:=λ{H7} b7 b o' eb hb=>by
    have ha:b≠a:=λz=>hb (by rw[z];simp);refine b7 _ _ (bt _ _ (oZ _ _ eb) λhm=>?_) (by rw[dH];exact ha);simp only[cj,eQ,iI]at hm;rcases hm with h|h
    ·exact ha h
    ·rw[h,nl]at eb;cases eb
   refine⟨λO H7=>∃q' yW,O=[some (.ref a),some (.int most),some y,some (.int (aO ns)),some (.ref mj),some qz,some qN,some (.ref l),yW]/\bT K C H7 a q' M (ir ns T)/\Mv a q H q' H7/\l≠q'/\∃kC,H7 l=some (.lst kC)/\aL K H7 kC es,?_,?_⟩
   ·refine⟨_,Z,a,sG,_,_,Z,e6,Z,_,Z,.inl ⟨_,_,Z,Z,_,Z,?_⟩⟩
    show if decide ((T.dn:Int)=(aO ns:Int))=true then _ else _;by_cases c:T.dn=aO ns
    ·rw[cf aw]
     refine bG ?_;refine⟨_,Z,a,sG,_,Z,e6,Z,a,q,M,D,T,Z,RT,raw,aG,a3u,λq' H7 R7 nq b7=>?_⟩;have yX:cQ H6 H7:=b7.v λx hx o' fm=>by rw[dH]at hx;rw[hx,e6]at fm;cases fm;trivial
     refine⟨q',_,Z,by unfold ir;rw[bf c];exact R7,⟨bH b7,.inr ?_⟩,λz=>?_,us,b7 _ _ dl (by rw[dH];exact al.symm),aL.v yX _ kv rd⟩
     ·cases e':H q' with |none=>rfl |some o'=>
      have h5:=oZ _ _ e';by_cases ha:q'=a
      ·rw[ha,e6]at nq;cases nq
      ·by_cases fT:q'=l
       ·rw[fT,nl]at e';cases e'
       ·have:=bt _ _ h5 (by simp;exact⟨ha,fT⟩)
        rw[nq]at this;cases this
     ·rw[<-z,dl]at nq;cases nq
    ·rw[dE aw]
     refine aY ?_;exact⟨q,_,Z,by unfold ir;rw[bh c];exact RT,⟨bH (cA.refl _ _),.inl Z⟩,ql.symm,us,dl,rd⟩
   ·rintro O H7 ⟨q',yW,rfl,R7,rn,lq,kC,Bm,Xe⟩
    exact⟨_,Z,k l kC es (ir ns T) q' H7 nl Bm Xe run h1 o9 R7 rn lq⟩
theorem Mv.trans{a q q1 q2:Addr}{H H1 H2:Hp}(m1:Mv a q H q1 H1)(m2:Mv a q1 H1 q2 H2)(ha:H1 a≠none):Mv a q H q2 H2:=by
 refine⟨λb o e hb=>?_,?_⟩
 ·refine m2.but _ _ (m1.but _ _ e hb) λhm=>?_
  simp only[cj,eQ,iI]at hm hb;rcases hm with h|h
  ·exact hb (.inl h)
  ·rcases m1.nq with h1|h1
   ·exact hb (.inr (h.trans h1))
   ·rw[<-h]at h1;rw[h1]at e;cases e
 ·rcases m2.nq with h|h
  ·rw[h];exact m1.nq
  ·cases e:H q2 with |none=>exact .inr rfl |some o=>
   by_cases h1:q2=q
   ·exact .inl h1
   ·by_cases h2:q2=a
    ·rw[h2]at h;exact(ha h).elim
    ·have:=m1.but _ _ e (by simp;exact⟨h2,h1⟩)
     rw[h]at this;cases this
inductive a9y(K:aa)(C:Addr)(vs:List V)(H:Hp)(Q:VK):Prop |mk (a:_)(q:_)(M:_)(D:_)(S:_)(most:_)(h0:vs=[.ref a,.int most])(h1:bT K C H a q M S)(h2:cx M D S)(h3:M.Ok)(h4:S.os≠[])(h5:¬Halt S.pc S.aU)(h6:1<=most)(h7:most<=1000)(h8:∀l ys es S' q' H',H l=none->H' l=some (.lst ys)->aL K H' ys es->Run M S es S'->1<=es.length->(es.length:Int)<=most->bT K C H' a q' M S'->Mv a q H q' H'->l≠q'->Q (.ref l) H')
def Le(K:aa)(C:Addr):Sp:=λvs H Q _=>a9y K C vs H Q
abbrev DU:Stmt:=inClass (top 75) 13
theorem Mf:aW ["self","most","item"] ["self","most"] (aP DU):=bj aI
theorem Za{C:Addr}(F:MA K C "entries_of_first" "Runner.entries_of_first" DU)(TC:cU K C)(jo:aB P w K mg au "is_line" 1 (oX K))(a4T:bP P w K mg au C "steps_of_first" 10 (Lc K C))(HU:bP P w K mg au C "end_first" 3 (CI K C)):bP P w K mg au C "entries_of_first" 11 (Le K C):=by
 refine F.has Mf (λvs H Q E h=>?_) (λ_ _ _ _ _ _=>dF λ_ _=>rfl) (λf aH A outer s H vs Q E hr h=>?_)
 · obtain⟨a,q,M,D,S,most,rfl,_⟩:=h
   rfl
 · obtain⟨a,q,M,D,S,most,rfl,R0,ok,aG,df,nh,m1,m2,k⟩:=h
   obtain⟨dx,mv,bv,bR,tv,e,r1,r2,r3,r4⟩:=R0.ob;obtain⟨ys,eq,rq⟩:=R0.qu;have aq:=R0.ne;have nd:=Mf.nd;have ll:=ok.row.len;have xu:0<S.os.length:=by cases h:S.os with|nil=>exact(df h).elim|cons _ _=>simp
   obtain⟨d,ed⟩:∃d,S.ds[0]? =some d:=⟨_,cu (show 0<S.ds.length by lia)⟩;obtain⟨y,ey,ry⟩:=rq.get 0 ed;obtain⟨o,eo,it⟩:=ok.row.get ed;refine⟨_,(aE (pS 2 nd (px K (cE TC.cl TC.hJ (pv 0)) aF)) (aE (bJ (cK (pf jo hr (ak (pv 2) ay))) (aK (aR (m5 a4T TC.cl (hr.mono az) (pv 0) (ak (pv 1) ay)))) bK) (aE (iO (bJ (bX (dM K Z hr.units) (px K (pv 2) aF) bu (bL _)) (aK (fD TC.cl TC.Gb (pv 0) (px K (pv 2) aF))) bK)) (aE (iO (bJ (bX (dM K Z hr.units) (px K (pv 2) aF) bu (bL _)) (aK (fD TC.cl TC.Gd (pv 0) (px K (pv 2) aF))) bK)) (aE (lZ (cY HU TC.cl (hr.mono az) (pv 0))) (aK (aR (da (ak (pv 2) ay))))))))),?_⟩;refine⟨_,Z,a,dx,_,_,Z,e,Z,.inl ⟨q,_,0,y,Z,Z,aJ.of eq,cF (dY 0) ey,?_⟩⟩;refine⟨_,Z,y,d,o,Z,ry,it,_,Z,?_⟩;cases o with |some z=>obtain⟨ns,sp⟩:=z;refine bG ?_;exact⟨_,Z,a,dx,_,Z,e,Z,_,Z,a,q,M,D,S,ns,sp,most,Z,R0,ok,aG,eo,nh,m1,m2,k⟩ |none=>
     refine aY ?_;have gF:=ok.rw 0 d eo ed;have wd:∃z u ya yr,d= .tuple [.str z,u]/\y= .ref ya/\aZ K H ya (.str z::[yr])/\RD K H yr u/\SeqAt.shaped (.str z)=true:=by
      rcases gF with⟨n,rfl,_⟩|⟨w',s',rfl,hw,_⟩
      · obtain⟨ya,xs,rfl,h1,h2⟩:=ry.cJ
        obtain⟨x1,rr,rfl,e1,h2⟩:=h2.cons_inv;obtain⟨x2,rr,rfl,e2,h2⟩:=h2.cons_inv;cases h2.nil_inv;cases e1.str_inv;exact⟨_,_,ya,x2,Z,Z,h1,e2,aI⟩
      · obtain⟨ya,xs,rfl,h1,h2⟩:=ry.cJ
        obtain⟨x1,rr,rfl,e1,h2⟩:=h2.cons_inv;obtain⟨x2,rr,rfl,e2,h2⟩:=h2.cons_inv;cases h2.nil_inv;cases e1.str_inv;exact⟨_,_,ya,x2,Z,Z,h1,e2,by rcases hw with rfl|rfl<;>decide+kernel⟩
     obtain⟨z,u,ya,yr,rfl,rfl,GP,NB,sz⟩:=wd;have tU:SeqAt.shaped (.str "tool")=true:=by decide+kernel
     have tM:SeqAt.shaped (.str "mark")=true:=by decide+kernel
     have eqT:∀(x y:Str),PyData.eqv (.str x) (.str y)=decide (x=y):=λx y=>by show(x==y)=decide (x=y);rw[jd];simp
     refine⟨λO H1=>O=[some (.ref a),some (.int most),some (.ref ya)]/\cA [a] H H1/\H1 a=some (.ins C dx (eT mv bv (.int S.dn) (.ref q) bR (.int S.aA) (.str (if z="tool" then(eK (.tuple [.str z,u]) S).side else S.side)) (.str S.mark) tv)),?_,?_⟩
     · refine⟨_,Z,.inr ⟨ya,_,0,.str z,Z,Z,GP,cF (dY 0) Z,.inr ⟨_,_,bp _,bp _,sz,tU,_,Z,?_⟩⟩⟩
       rw[eqT];by_cases c:z="tool"
       · rw[cf c]
         refine bG ?_;have hu:∃s',u= .str s':=by
          rcases gF with⟨n,h,_⟩|⟨w',s',h,hw,_⟩
          ·cases h;exact absurd c aI
          ·cases h;exact⟨_,rfl⟩
         obtain⟨s',rfl⟩:=hu;cases NB.str_inv;refine⟨_,Z,.inr ⟨ya,_,1,.str s',Z,Z,GP,cF az Z,_,Z,a,dx,_,Z,e,by show 9<1000;decide,?_⟩⟩;refine⟨Z,Bz (by simp),?_⟩;rw[bf c];have es:(eK (.tuple [.str z,.str s']) S).side=s':=by unfold eK;simp only[bf c]
         rw[es];exact bW
       · rw[dE c]
         refine aY ⟨Z,cA.refl _ _,?_⟩;rw[bh c];exact e
     rintro O H1 ⟨rfl,b1,e1⟩;have UQ:cQ H H1:=b1.v λx hx o' fm=>by rw[dH]at hx;rw[hx,e]at fm;cases fm;trivial
     have Qi:=aZ.v UQ GP;refine⟨λO H2=>O=[some (.ref a),some (.int most),some (.ref ya)]/\cA [a] H H2/\H2 a=some (.ins C dx (eT mv bv (.int S.dn) (.ref q) bR (.int S.aA) (.str (eK (.tuple [.str z,u]) S).side) (.str (eK (.tuple [.str z,u]) S).mark) tv)),?_,?_⟩
     · refine⟨_,Z,.inr ⟨ya,_,0,.str z,Z,Z,Qi,cF (dY 0) Z,.inr ⟨_,_,bp _,bp _,sz,tM,_,Z,?_⟩⟩⟩
       rw[eqT];by_cases c:z="mark"
       · rw[cf c]
         refine bG ?_;have nt:¬z="tool":=by rw[c];decide+kernel
         rw[bh nt]at e1;have hu:∃s',u= .str s':=by
          rcases gF with⟨n,h,_⟩|⟨w',s',h,hw,_⟩
          ·cases h;exact absurd c aI
          ·cases h;exact⟨_,rfl⟩
         obtain⟨s',rfl⟩:=hu;cases NB.str_inv;refine⟨_,Z,.inr ⟨ya,_,1,.str s',Z,Z,Qi,cF az Z,_,Z,a,dx,_,Z,e1,by show 9<1000;decide,?_⟩⟩;refine⟨Z,b1.trans (Bz (by simp)),?_⟩;have es:(eK (.tuple [.str z,.str s']) S).side=S.side/\(eK (.tuple [.str z,.str s']) S).mark=s':=by constructor<;>(unfold eK;simp only[bh nt,bf c])
         rw[es.1,es.2];exact bW
       · rw[dE c]
         refine aY ⟨Z,b1,?_⟩;have em:(eK (.tuple [.str z,u]) S).mark=S.mark:=by
          unfold eK;split
          · next h => cases h;split
                      ·rfl
                      ·first|rfl|rw[bh c]
          ·rfl
         have es:(if z="tool" then(eK (.tuple [.str z,u]) S).side else S.side)=(eK (.tuple [.str z,u]) S).side:=by
          by_cases c2:z="tool"
          ·rw[bf c2]
          · rw[bh c2]
            unfold eK;split
            ·next h=>cases h;first|rfl|rw[bh c2,bh c]
            ·rfl
         rw[es]at e1;rw[em];exact e1
     rintro O H2 ⟨rfl,b2,e2⟩;have vL:cQ H H2:=b2.v λx hx o' fm=>by rw[dH]at hx;rw[hx,e]at fm;cases fm;trivial
     obtain⟨O0,Ab,IW,dn',XJ⟩:=D7 ok.raw (.tuple [.str z,u]);have fx:(eK (.tuple [.str z,u]) S).pc=S.pc/\(eK (.tuple [.str z,u]) S).aA=S.aA/\(eK (.tuple [.str z,u]) S).aU=S.aU:=by
      unfold eK;split
      · split
        ·exact⟨Z,Z,Z⟩
        ·split<;>exact⟨Z,Z,Z⟩
      ·exact⟨Z,Z,Z⟩
     have R2:bT K C H2 a q M (eK (.tuple [.str z,u]) S):=by
      refine⟨⟨dx,mv,bv,bR,tv,?_,RD.v vL _ (iu _ _ _ _ _) r1,?_,?_,?_⟩,ys,b2 _ _ eq (by rw[dH];exact aq.symm),?_⟩
      ·rw[dn',fx.2.1];exact e2
      ·rw[XJ];exact RD.v vL _ (m4 _) r2
      ·rw[fx.1];exact r3.v vL
      ·rw[fx.2.2];exact r4.v vL
      ·rw[IW];exact aL.v vL _ ok.row.no rq
     refine⟨_,Z,a,dx,_,Z,e2,Z,a,q,M,D,_,Z,R2,O0,aG,by rw[Ab];exact df,λq' H3 R3 nq b3=>?_⟩;have Jh:=b2.trans b3;have UP:cQ H H3:=Jh.v λx hx o' fm=>by rw[dH]at hx;rw[hx,e]at fm;cases fm;trivial
     have nq0:H q'=none:=by cases e':H q' with |none=>rfl |some o'=>
        by_cases ha:q'=a
        ·rw[ha,e2]at nq;cases nq
        · have:=b2 _ _ e' (by rw[dH];exact ha)
          rw[nq]at this;cases this
     refine⟨_,Z,ck Z,λl H4 n4=>?_⟩;have nl:H l=none:=by cases e':H l with |none=>rfl |some o'=>
        by_cases ha:l=a
        · obtain⟨dx3,_,_,_,_,e3,_⟩:=R3.ob
          have:=n4.no;rw[ha,e3]at this;cases this
        · have:=Jh _ _ e' (by rw[dH];exact ha)
          rw[n4.no]at this;cases this
     have okS:cx M D (mI (eK (.tuple [.str z,u]) S)):=O0.end (by rw[Ab];exact df);refine k l [.ref ya] [.tuple [.str z,u]] _ q' H4 nl n4.at' (cI (RD.v (UP.trans n4.same.v) _ (fY.mp ok.row.no _ (fA ed)) ry) dv) (.cons (.gF eo ed nh) (.nil _)) (by simp) (by simpa using m1) (R3.same okS.row.no n4.same) ⟨λb o' eb hb=>n4.same _ _ (Jh _ _ eb (by rw[dH];intro h;exact hb (by rw[h];simp))),.inr nq0⟩ ?_;intro h;have:=n4.no;obtain⟨yq,eq3,_⟩:=R3.qu;rw[h,eq3]at this;cases this
inductive a9z(K:aa)(C:Addr)(vs:List V)(H:Hp)(Q:VK):Prop |mk (a:_)(q:_)(M:_)(D:_)(S:_)(n:_)(h0:vs=[.ref a,.int n])(h1:bT K C H a q M S)(h2:cx M D S)(h3:M.Ok)(h4:0<=n)(h5:n<=1000)(h6:∀l ys es S' q' H',H l=none->H' l=some (.lst ys)->aL K H' ys es->Run M S es S'->(es.length:Int)<=n->((es.length:Int)=n\/S'.os=[]\/Halt S'.pc S'.aU)->bT K C H' a q' M S'->Mv a q H q' H'->l≠q'->Q (.ref l) H')
def CH(K:aa)(C:Addr):Sp:=λvs H Q _=>a9z K C vs H Q
abbrev DV:Stmt:=inClass (top 75) 12
theorem Mg:aW ["self","n","told"] ["self","n"] (aP DV):=bj aI
theorem Zb{C:Addr}(F:MA K C "entries" "Runner.entries" DV)(TC:cU K C)(B:bC mg)(xH:bP P w K mg au C "is_halted" 2 (cP K C λ_ S H Q=>Q (.bl (S.aU.isSome&&decide (S.pc=0))) H))(a4V:bP P w K mg au C "entries_of_first" 11 (Le K C)):bP P w K mg au C "entries" 12 (CH K C):=by
 refine F.has Mg (λvs H Q E h=>?_) (λ_ _ _ _ _ _=>dF λ_ _=>rfl) (λf aH A outer s H vs Q E hr h=>?_)
 ·obtain⟨a,q,M,D,S,n,rfl,_⟩:=h
  rfl
 ·obtain⟨a,q,M,D,S,n,rfl,R0,ok,aG,n0,n1,k⟩:=h
  have nd:=Mg.nd;refine⟨_,(aE (pS 2 nd (da ay)) (aE (iO (u9 ie (PW.pt (qP (bX m7 (fF K B (ak (pv 2) ay)) (pv 1) (bL _)) (qP (wD K Z (cE TC.cl TC.hJ (pv 0))) (wC (dw (cK (cY xH TC.cl (hr.mono az) (pv 0)))))))) (aK (lZ (Y7 K Z (pv 2) (ak (m5 a4V TC.cl (hr.mono az) (pv 0) (ak (aQ jm (pv 1) (fF K B (ak (pv 2) ay))) ay)) ay)))))) (aK (aR (pv 2))))),?_⟩;refine⟨ck Z,λl H1 nw=>?_⟩;obtain⟨dx,mv,bv,bR,tv,e,r1,r2,r3,r4⟩:=R0.ob;obtain⟨ys,eq,rq⟩:=R0.qu;have al:a≠l:=λz=>by have:=nw.no;rw[<-z,e]at this;cases this
  have ql:q≠l:=λz=>by have:=nw.no;rw[<-z,eq]at this;cases this
  have hq0:H q≠none:=by rw[eq];simp
  have ha0:H a≠none:=by rw[e];simp
  refine⟨λO H2=>∃es S' q' us,O=[some (.ref a),some (.int n),some (.ref l)]/\bT K C H2 a q' M S'/\H2 l=some (.lst us)/\aL K H2 us es/\Run M S es S'/\(es.length:Int)<=n/\((es.length:Int)=n\/S'.os=[]\/Halt S'.pc S'.aU)/\Mv a q H q' H2/\l≠q',?_,?_⟩
  ·refine tD (λO H2=>∃es S' q' us,O=[some (.ref a),some (.int n),some (.ref l)]/\bT K C H2 a q' M S'/\H2 l=some (.lst us)/\aL K H2 us es/\Run M S es S'/\(es.length:Int)<=n/\Mv a q H q' H2/\l≠q') (λ_ H2=>match H2 l with|some (.lst us)=>2000-us.length|_=>0) ?_ ?_ ?_
   ·exact⟨[],S,q,[],Z,R0.same ok.row.no nw.same,nw.at',dv,.nil _,by simpa using n0,⟨.of nw.same,.inl rfl⟩,ql.symm⟩
   ·rintro O H2 ⟨es,S',q',us,rfl,R2,dl,rd,run,o9,uz,lq⟩
    have wK:=run.ok ok aG;have kv:=run.no ok aG;have lu:=rd.length;obtain⟨jP,me,bv2,Yb,V2,e2,t1,t2,t3,t4⟩:=R2.ob;obtain⟨yq,eq2,WZ⟩:=R2.qu;have Gp:=WZ.length;have Py:=wK.row.len;refine⟨_,Z,l,us,Z,.inl (aJ.of dl),_,Z,_,_,Z,Z,_,Z,?_⟩;show if decide ((us.length:Int)<n)=true then _ else _;by_cases c1:(us.length:Int)<n
    ·rw[cf c1]
     refine bG ?_;refine⟨_,Z,a,jP,_,_,Z,e2,Z,_,.inl ⟨_,aJ.of eq2,Z⟩,?_⟩;cases mE:S'.os with |nil=>have:yq=[]:=Ui.mp (by rw[Gp,Py,mE];rfl);subst this;refine aY ?_;exact⟨es,S',q',us,Z,R2,dl,rd,run,o9,.inr (.inl mE),uz,lq⟩ |cons o os=>
      have df:S'.os≠[]:=by rw[mE];simp
      have:∃y yr,yq=y::yr:=by cases yq with |nil=>rw[Py,mE]at Gp;simp at Gp |cons y yr=>exact⟨y,yr,Z⟩
      obtain⟨y,yr,rfl⟩:=this;refine bG ?_;refine⟨_,Z,a,jP,_,Z,e2,Z,a,q',M,D,S',Z,R2,wK,aG,_,Z,?_⟩;by_cases c3:Halt S'.pc S'.aU
      ·have hb:(S'.aU.isSome&&decide (S'.pc=0))=true:=by obtain⟨h1,h2⟩:=c3;rw[cf h2,yM];cases hs:S'.aU with |none=>exact(h1 hs).elim |some _=>rfl
       rw[hb];exact aY ⟨es,S',q',us,Z,R2,dl,rd,run,o9,.inr (.inr c3),uz,lq⟩
      ·have hb:(S'.aU.isSome&&decide (S'.pc=0))=false:=by cases hs:S'.aU with |none=>rfl |some _=>show decide (S'.pc=0)=false;exact dE λh2=>c3 ⟨by rw[hs];simp,h2⟩
       rw[hb];refine bG ?_;refine⟨_,Z,.inl ⟨Z,_,aJ.of dl⟩,?_⟩;refine⟨_,Z,a,jP,_,Z,e2,Z,_,Z,_,Z,l,us,Z,.inl (aJ.of dl),_,_,Z,Z,?_⟩;refine⟨a,q',M,D,S',_,Z,R2,wK,aG,df,c3,aw,aw,λl2 y2 fs S2 q2 H3 G8 dl2 lY Fe f1 f2 R3 An lq2=>?_⟩;have UN:=R2.v An.but;have S0:=An.but _ _ dl (by simp;exact⟨al.symm,lq⟩);have Xf:=aL.v UN _ kv rd;have ly2:=lY.length;have iY:sizeLine=16777216:=by decide
       refine⟨l,l2,us,y2,Z,Z,S0,dl2,aw,?_⟩;have vu:cQ H3 (_L.upd H3 l (.lst (us++y2))):=.upd S0 trivial;have a3q:=Fe.no wK aG;have fX:=Fe.ok wK aG;have Pm:l≠q2:=λz=>by
        rcases An.nq with h|h
        ·exact lq (z.trans h)
        ·rw[<-z,dl]at h;cases h
       refine⟨⟨es++fs,S2,q2,us++y2,Z,R3.go fX.row.no vu (λo' fm=>by rw[aV al];exact fm) (λo' fm=>by rw[aV Pm.symm];exact fm),bW,(aL.v vu _ kv Xf).append (aL.v vu _ a3q lY),run.trans Fe,by rw[fP];lia,?_,Pm⟩,?_⟩
       ·have m:=uz.trans An (by rw[e2];simp)
        exact⟨λb o' eb hb=>by
         have fT:b≠l:=λz=>by have:=nw.no;rw[<-z,eb]at this;cases this
         rw[aV fT];exact m.but _ _ eb hb,m.nq⟩
       ·show(match(_L.upd H3 l (.lst (us++y2))) l with|some (.lst us)=>2000-us.length|_=>0)<(match H2 l with|some (.lst us)=>2000-us.length|_=>0)
        rw[bW,dl];show 2000-(us++y2).length<2000-us.length;rw[fP]
        lia
    ·rw[dE c1]
     refine aY ?_;exact⟨es,S',q',us,Z,R2,dl,rd,run,o9,.inl aw,uz,lq⟩
   ·rintro O H6 Q1 Q2 hq ⟨v1,f1,l',kC,f2,f3,v2,f4,i1,i2,f5,f6,b1,f7,h⟩
    refine⟨v1,f1,l',kC,f2,f3,v2,f4,i1,i2,f5,f6,b1,f7,AB ?_ (hq _ _) h⟩;rintro⟨v3,f8,a',qc,lj,u',f9,IG,IE,b2,ID,h⟩;refine⟨v3,f8,a',qc,lj,u',f9,IG,IE,b2,ID,AB ?_ (hq _ _) h⟩;rintro⟨v5,IC,a2,jP,Ij,IB,IA,Iz,a3,q3,M3,D3,S3,Iy,Iw,Iv,Iu,b3,Ir,h⟩;exact⟨v5,IC,a2,jP,Ij,IB,IA,Iz,a3,q3,M3,D3,S3,Iy,Iw,Iv,Iu,b3,Ir,hq _ _ h⟩
  ·rintro O H2 ⟨es,S',q',us,rfl,R2,dl,rd,run,o9,kW,uz,lq⟩
   exact⟨_,Z,k l us es S' q' H2 nw.no dl rd run o9 kW R2 uz lq⟩
end
end _b
set_option maxHeartbeats 4000000
namespace _b
open PySem PySem.Spec PyProof.Rows _L _r _l _C _P _W _R
open _O (topR cornO mnO betR atO ownF leadF ownL OkI OkIs)
section
variable {P:af}{w:World}{K:aa}{mg:bD}{au:Heap}
theorem bT.FD{C:Addr}{H:Hp}{a q dx:Addr}{M:bE}{S S':bc}{mv bv bR tv:V}(R:bT K C H a q M S)(e:H a=some (.ins C dx (eT mv bv (.int S.dn) (.ref q) bR (.int S.aA) (.str S.side) (.str S.mark) tv))){yc wG vO:V}(hn:cy S.ds=true)(hd:S'.ds=S.ds) (r1:RD K H mv M.D)(r2:RD K H yc (fE S'.pl))(r3:bU K H wG S'.pc)(r4:vg K H vO S'.aU):bT K C (_L.upd H a (.ins C dx (eT mv yc (.int S'.dn) (.ref q) wG (.int S'.aA) (.str S'.side) (.str S'.mark) vO))) a q M S':=by
 have v:cQ H (_L.upd H a (.ins C dx (eT mv yc (.int S'.dn) (.ref q) wG (.int S'.aA) (.str S'.side) (.str S'.mark) vO))):=.upd e trivial;obtain⟨ys,eq,rq⟩:=R.qu;refine⟨⟨dx,mv,yc,wG,vO,bW,RD.v v _ (iu _ _ _ _ _) r1,RD.v v _ (m4 _) r2,r3.v v,r4.v v⟩,ys,?_,?_⟩
 ·rw[aV R.ne.symm];exact eq
 ·rw[hd];exact aL.v v _ hn rq
def gm(f:Int)(pc:Rat):Int:=(pc.num+2*f*(pc.den:Int)-1)/(2*f*(pc.den:Int))
theorem KG{f:Int}(hf:1<=f){pc:Rat}(h:0<=pc):(0<=gm f pc)/\(gm f pc=0->pc=0)/\pc<=((2*f*gm f pc:Int):Rat)/\(pc<=1600->gm f pc<=1000):=by
 have hn:=JJ.mpr h;have hd:0<2*f*(pc.den:Int):=jA aw (den_pos pc);have hd1:2*(pc.den:Int)<=2*f*(pc.den:Int):=by
  have:2*1*(pc.den:Int)<=2*f*(pc.den:Int):=C2 aw aw
  lia
 unfold gm;generalize hD:2*f*(pc.den:Int)=dd at hd hd1;have q1:=Int.mul_ediv_add_emod (pc.num+dd-1) dd;have q2:=qv (pc.num+dd-1) (show dd≠0 by lia);have q3:=tm (pc.num+dd-1) hd;have q0:0<=(pc.num+dd-1)/dd:=Int.ediv_nonneg aw aw;generalize hQ:(pc.num+dd-1)/dd=Q at q0 q1;generalize(pc.num+dd-1)%dd=R at q1 q2 q3;have hle:pc.num<=dd*Q:=by lia
 refine⟨q0,λe=>?_,?_,λhm=>?_⟩
 ·rw[e,Int.mul_zero]at hle
  have:pc.num=0:=by lia
  exact Rat.num_eq_zero.mp this
 ·refine BR.mp λcH=>?_
  rw[Rat.lt_iff,Rat.num_intCast,Rat.den_intCast]at cH;have e1:2*f*Q*(pc.den:Int)=dd*Q:=by rw[<-hD,Int.mul_right_comm]
  rw[e1]at cH
  lia
 ·have rY:¬((1600:Rat)<pc):=BR.mpr hm
  rw[Rat.lt_iff]at rY;have e1:(1600:Rat).num=1600:=rfl;have e2:(1600:Rat).den=1:=rfl;rw[e1,e2]at rY;have h3:pc.num<=1600*(pc.den:Int):=by lia
  refine Int.not_lt.mp λcH=>?_;have h4:dd*1001<=dd*Q:=K5 aw aw
  lia
abbrev DF:Stmt:=inClass (top 75) 17
theorem M9:aW ["self","p","q","in_one"] ["self"] (aP DF):=bj aI
theorem YV{C:Addr}(F:MA K C "stops_in" "Runner.stops_in" DF)(TC:cU K C):bP P w K mg au C "stops_in" 1 (cP K C λM S H Q=>Q (.int (gm M.f S.pc)) H):=by
 refine F.has M9 (λvs H Q E h=>?_) (λ_ _ _ _ _ _=>cw λ_=>rfl) (λf aH A outer s H vs Q E hr h=>?_)
 ·obtain⟨a,q,M,D,S,rfl,_⟩:=h
  rfl
 ·obtain⟨a,q,M,D,S,rfl,R,ok,aG,k⟩:=h
  obtain⟨dx,mv,bv,bR,tv,e,r1,r2,⟨pa,rfl,xl⟩,r4⟩:=R.ob;have nd:=M9.nd;have pT:=aG.f1;obtain⟨ma,mb,rfl,gK,iU⟩:=mi r1;have bd:Bd 1600 S.pc:=(ok.pd.bd (eG ok.pm aI)).mono (by have:=ok.D2;lia);have hd:0<2*M.f*(S.pc.den:Int):=jA aw (den_pos S.pc);have wd:Wd (2*M.f*(S.pc.den:Int)):=by
   refine jC (n:=1700) ?_ az;rw[iL];have h1:(2*M.f).natAbs<2^7:=by lia
   have:=nR h1 bd.den;exact fK this (t6 az az)
  refine⟨_,(aE (eL (cE TC.cl TC.pk (pv 0)) (eV K rfl (n:=2) rfl (bZ (bo 1 nd) (bZ (bo 2 nd) eU)))) (aE (pS 3 nd (aQ cB (aQ cB aF (px K (cE TC.cl TC.kj (pv 0)) aF)) (pv 2))) (aK (aR (aQ uh (aQ jm (aQ dP (pv 1) (pv 3)) aF) (pv 3)))))),?_⟩;refine⟨_,Z,a,dx,_,_,Z,e,Z,pa,_,Z,xl,Z,_,_,Z,_,_,Z,Z,?_⟩;refine⟨_,Z,a,dx,_,_,Z,e,Z,.inr ⟨ma,_,2,.int M.f,Z,Z,gK,Z,_,_,Z,Z,.of_left (du az az),?_⟩⟩;refine⟨_,Z,_,_,Z,Z,.of_left (du aw aw),?_⟩;refine⟨_,Z,_,Z,_,_,Z,Z,_,_,Z,Z,_,Z,_,_,Z,Z,⟨hd,wd⟩,?_⟩;exact k
abbrev DP:Stmt:=inClass (top 75) 18
theorem Md:aW ["self","steps"] ["self"] (aP DP):=bj aI
def ku(M:bE)(S:bc):bc:=match S.aU with |none=>{S with aU:=some (S.pc,gm M.f S.pc,0)} |some _=>S
inductive a9v(K:aa)(C:Addr)(vs:List V)(H:Hp)(Q:VK):Prop |mk (a:_)(q:_)(M:_)(D:_)(S:_)(h0:vs=[.ref a])(h1:bT K C H a q M S)(h2:cx M D S)(h3:M.Ok)(h4:∀H',bT K C H' a q M (ku M S)->cA [a] H H'->Q (.int (gm M.f S.pc)) H')
def CD(K:aa)(C:Addr):Sp:=λvs H Q _=>a9v K C vs H Q
theorem cx.hold{M:bE}{D:Nat}{S:bc}(h:cx M D S)(aG:M.Ok)(hD:D<=1490):cx M (D+10) (ku M S):=by have D1:=h.D1;unfold ku;cases hs:S.aU with |some z=>show cx M (D+10) S;have st:=h.aU;refine⟨h.row,h.rw,h.len,h.cL,h.cT,h.dn,h.pl,h.pd.mono aw,h.pm,?_,aw,aw⟩;rw[hs]at st⊢;obtain⟨sq,gp,gn⟩:=z;obtain⟨a1,a2,a3,a4,a5⟩:=st;exact⟨a1,a2,a3,a4.mono aw,a5⟩ |none=>obtain⟨z1,z2,z3,z4⟩:=KG aG.f1.1 h.pd.nn;refine⟨h.row,h.rw,h.len,h.cL,h.cT,h.dn,h.pl,h.pd.mono aw,h.pm,?_,aw,aw⟩;refine⟨dY _,z1,z4 h.pm,h.pd,eG h.pm aI,z2,?_⟩;show S.pc*(gm M.f S.pc:Rat)<=S.pc*((gm M.f S.pc-0:Int):Rat);rw[Int.sub_zero];exact sY
theorem Z5{C:Addr}(F:MA K C "hold" "Runner.hold" DP)(TC:cU K C)(xF:bP P w K mg au C "stops_in" 1 (cP K C λM S H Q=>Q (.int (gm M.f S.pc)) H))(og:bP P w K mg au C "is_held" 1 (cP K C λ_ S H Q=>Q (.bl S.aU.isSome) H)):bP P w K mg au C "hold" 2 (CD K C):=by
 refine F.has Md (λvs H Q E h=>?_) (λ_ _ _ _ _ _=>cw λ_=>rfl) (λf aH A outer s H vs Q E hr h=>?_)
 ·obtain⟨a,q,M,D,S,rfl,_⟩:=h
  rfl
 ·obtain⟨a,q,M,D,S,rfl,R,ok,aG,k⟩:=h
  obtain⟨dx,mv,bv,bR,tv,e,r1,r2,r3,r4⟩:=R.ob;have nd:=Md.nd;refine⟨_,(aE (pS 1 nd (cY xF TC.cl (hr.mono az) (pv 0))) (aE (iO (bJ (dw (cK (cY og TC.cl (hr.mono az) (pv 0)))) (aK (fD TC.cl TC.uy (pv 0) (gQ (ak (cE TC.cl TC.pk (pv 0)) (ak (pv 1) (ak aF ay)))))) bK)) (aK (aR (pv 1))))),?_⟩;refine⟨_,Z,a,dx,_,Z,e,Z,a,q,M,D,S,Z,R,ok,aG,?_⟩;refine⟨λO H1=>O=[some (.ref a),some (.int (gm M.f S.pc))]/\bT K C H1 a q M (ku M S)/\cA [a] H H1,?_,?_⟩
  ·refine⟨_,Z,a,dx,_,Z,e,Z,a,q,M,D,S,Z,R,ok,aG,_,Z,?_⟩
   cases hs:S.aU with |some z=>refine aY ⟨Z,?_,cA.refl _ _⟩;unfold ku;rw[hs];exact R |none=>
    refine bG ?_;refine⟨_,Z,a,dx,_,_,Z,e,Z,_,Z,ck Z,λt H1 n1=>?_⟩;have e1:=n1.same _ _ e;refine⟨_,Z,a,dx,_,Z,e1,by show 9<1000;decide,?_⟩;have eh:ku M S={S with aU:=some (S.pc,gm M.f S.pc,0)}:=by unfold ku;rw[hs]
    refine⟨Z,?_,λb o' eb hb=>?_⟩
    ·rw[eh]
     exact(R.same ok.row.no n1.same).FD (S':={S with aU:=some (S.pc,gm M.f S.pc,0)}) e1 ok.row.no rfl (RD.mono n1.same _ r1) (RD.mono n1.same _ r2) (r3.go n1.same) ⟨t,bR,Z,aZ.of n1.at',r3.go n1.same⟩
    ·have ha:b≠a:=λz=>hb (by rw[z];simp)
     rw[aV ha];exact n1.same _ _ eb
  ·rintro O H1 ⟨rfl,R1,b1⟩
   exact⟨_,Z,k H1 R1 b1⟩
abbrev DS:Stmt:=inClass (top 75) 19
theorem Wz:aW ["self"] ["self"] (aP DS):=bj aI
inductive a9w(K:aa)(C:Addr)(vs:List V)(H:Hp)(Q:VK):Prop |mk (a:_)(q:_)(M:_)(D:_)(S:_)(h0:vs=[.ref a])(h1:bT K C H a q M S)(h2:cx M D S)(h3:∀H',bT K C H' a q M {S with aU:=none}->cA [a] H H'->Q (.int (S.ds.length:Nat)) H')
def CF(K:aa)(C:Addr):Sp:=λvs H Q _=>a9w K C vs H Q
theorem Z8{C:Addr}(F:MA K C "go" "Runner.go" DS)(TC:cU K C)(B:bC mg):bP P w K mg au C "go" 1 (CF K C):=by
 refine F.has Wz (λvs H Q E h=>?_) (λ_ _ _ _ _ _=>cw λ_=>rfl) (λf aH A outer s H vs Q E hr h=>?_)
 ·obtain⟨a,q,M,D,S,rfl,_⟩:=h
  rfl
 ·obtain⟨a,q,M,D,S,rfl,R,ok,k⟩:=h
  obtain⟨dx,mv,bv,bR,tv,e,r1,r2,r3,r4⟩:=R.ob;obtain⟨ys,eq,rq⟩:=R.qu;refine⟨_,(aE (fD TC.cl TC.uy (pv 0) jk) (aK (aR (fF K B (ak (cE TC.cl TC.hJ (pv 0)) ay))))),?_⟩;refine⟨_,Z,a,dx,_,Z,e,by show 9<1000;decide,?_⟩;have sA:(_L.upd H a (.ins C dx (eT mv bv (.int S.dn) (.ref q) bR (.int S.aA) (.str S.side) (.str S.mark) .bw))) q=some (.lst ys):=by rw[aV R.ne.symm];exact eq
  refine⟨_,Z,a,dx,_,_,Z,bW,Z,q,_,Z,.inl (aJ.of sA),?_⟩;rw[rq.length];exact k _ (R.FD (S':={S with aU:=none}) e ok.row.no rfl r1 r2 r3 rfl) (Bz (by simp))
theorem FH{M:bE}{D:Nat}{S:bc}(ok:cx M D S):(gD S).length=M.rs.length:=by
 unfold gD;split
 ·exact ok.pl
 ·split
  ·next ns sp eo=>rw[oG (by rw[ok.pl];simp[oT];exact(ok.row.ok 0 ns sp eo).1.len)];exact ok.pl
  ·exact ok.pl
def sH(S:bc):bc:={S with pl:=gD S,dn:=0,ds:=[],os:=[]}
theorem cx.drop{M:bE}{D:Nat}{S:bc}(h:cx M D S):cx M D (sH S):=⟨.nil,λi d e=>by simp[sH]at e,by simp[sH],h.cL,h.cT,.inl rfl,FH h,h.pd,h.pm,h.aU,h.D1,h.D2⟩
theorem QG{pc:Rat}{t:_R.lI}:(t.isSome&&decide (pc=0))=true↔Halt pc t:=by unfold Halt;cases t with |none=>simp |some z=>simp
abbrev DX:Stmt:=inClass (top 75) 20
theorem Mi:aW ["self","dropped"] ["self"] (aP DX):=bj aI
inductive a9B(K:aa)(C:Addr)(cM:Addr)(vs:List V)(H:Hp)(Q:VK)(E:XK):Prop |mk (a:_)(q:_)(M:_)(D:_)(S:_)(h0:vs=[.ref a])(h1:bT K C H a q M S)(h2:cx M D S)(h3:M.Ok)(h4:(¬Halt S.pc S.aU->∀H',aD H H'->E (.ref cM) none H'))(h5:(Halt S.pc S.aU->∀q' H',bT K C H' a q' M (sH S)->H q'=none->cA [a] H H'->Q (.int (S.ds.length:Nat)) H'))
def CJ(K:aa)(C cM:Addr):Sp:=λvs H Q E=>a9B K C cM vs H Q E
theorem Zd{C cM:Addr}(F:MA K C "drop" "Runner.drop" DX)(TC:cU K C)(B:bC mg)(HX:Exc K mg "Moving" cM lF nN)(xH:bP P w K mg au C "is_halted" 2 (cP K C λ_ S H Q=>Q (.bl (S.aU.isSome&&decide (S.pc=0))) H))(xG:bP P w K mg au C "place" 3 (cP K C λ_ S H Q=>∀v H',RD K H' v (fE (gD S))->aD H H'->Q v H')):ja P w K mg au C "drop" 5 (CJ K C cM):=by
 refine F.uL Mi (λvs H Q E h=>?_) (λ_ _ _ _ _ _=>cw λ_=>rfl) (λf aH A outer s H vs Q E hr h=>?_)
 ·obtain⟨a,q,M,D,S,rfl,_⟩:=h
  rfl
 ·obtain⟨a,q,M,D,S,rfl,Ra,ok,aG,k1,k2⟩:=h
  obtain⟨dx,mv,bv,bR,tv,e,r1,r2,r3,r4⟩:=Ra.ob;obtain⟨ys,eq,rq⟩:=Ra.qu;have aq:=Ra.ne;have nd:=Mi.nd;have ly:=rq.length;refine⟨_,(aE (bJ (dw (cK (cY xH TC.cl (hr.mono az) (pv 0)))) (aK (FF (λ_ _ _ _ _ _ _ I m q=>C8 I m q) HX U6 hr.hd Z (ak bu ay))) bK) (aE (pS 1 nd (fF K B (ak (cE TC.cl TC.hJ (pv 0)) ay))) (aE (fD TC.cl TC.rk (pv 0) (cY xG TC.cl (hr.mono az) (pv 0))) (aE (fD TC.cl TC.md (pv 0) aF) (aE (fD TC.cl TC.hJ (pv 0) (da ay)) (aK (aR (pv 1)))))))),?_⟩;refine⟨_,Z,a,dx,_,Z,e,Z,a,q,M,D,S,Z,Ra,ok,aG,_,Z,?_⟩;cases hh:(S.aU.isSome&&decide (S.pc=0))with |false=>exact bG ⟨ck Z,k1 (λz=>by rw[QG.mpr z]at hh;cases hh) _ (aD.refl _)⟩ |true=>
   refine aY ?_;have hH:=QG.mp hh;refine⟨_,Z,a,dx,_,_,Z,e,Z,q,_,Z,.inl (aJ.of eq),?_⟩;refine⟨_,Z,a,dx,_,Z,e,Z,a,q,M,D,S,Z,Ra,ok,aG,λu H1 ru s1=>?_⟩;have e1:=s1 _ _ e;refine⟨_,Z,a,dx,_,Z,e1,by show 9<1000;decide,?_⟩;refine⟨_,Z,a,dx,_,Z,bW,by show 9<1000;decide,?_⟩;refine⟨ck Z,λq' H2 n2=>?_⟩;have e2:=n2.same _ _ (bW (a:=a));refine⟨_,Z,a,dx,_,Z,e2,by show 9<1000;decide,?_⟩;have qj:a≠q':=λz=>by have:=n2.no;rw[<-z,bW]at this;cases this
   have key:∀X:Hp,(∀b,b≠a->X b=H2 b)->Q (.int (S.ds.length:Nat)) (_L.upd X a (.ins C dx (eT mv u (.int 0) (.ref q') bR (.int S.aA) (.str S.side) (.str S.mark) tv))):=by
    intro X hX;have rZ:∀b o',b≠a->H1 b=some o'->H2 b=some o':=λb o' ha eb=>n2.same _ _ (by rw[aV ha,aV ha];exact eb);have bt:cA [a] H (_L.upd X a (.ins C dx (eT mv u (.int 0) (.ref q') bR (.int S.aA) (.str S.side) (.str S.mark) tv))):=λb o' eb hb=>by have ha:b≠a:=λz=>hb (by rw[z];exact .head _);rw[aV ha,hX b ha];exact rZ _ _ ha (s1 _ _ eb)
    have sv:=bt.v λx hx o' eo=>by rw[dH]at hx;rw[hx,e]at eo;cases eo;trivial
    have Cq:cQ H1 (_L.upd X a (.ins C dx (eT mv u (.int 0) (.ref q') bR (.int S.aA) (.str S.side) (.str S.mark) tv))):=λb o' nb eb=>by
     have ha:b≠a:=λz=>by rw[z,e1]at eb;cases eb;exact nb trivial
     rw[aV ha,hX b ha];exact rZ _ _ ha eb
    refine k2 hH q' _ ⟨⟨dx,mv,u,bR,tv,bW,RD.v sv _ (iu _ _ _ _ _) r1,RD.v Cq _ (m4 _) ru,r3.v sv,r4.v sv⟩,[],?_,dv⟩ ?_ bt
    ·rw[aV qj.symm,hX q' qj.symm];exact n2.at'
    ·cases e':H q' with |none=>rfl |some o'=>have h1:=s1 _ _ e';have h2:=n2.no;rw[aV qj.symm,aV qj.symm,h1]at h2;cases h2
   refine⟨_,Z,?_⟩;rw[ly];exact key _ (λb hb=>rfl)
theorem Xh{d:ah}(h:kH d=true):∃aA:Int,d= .int aA/\10<=aA/\aA<=200:=by cases d with |int i=>have h:(decide (10<=i)&&decide (i<=200))=true:=h;rw[eH,JE,JE]at h;exact⟨i,Z,h⟩ |_=>cases h
inductive a9r(K:aa)(C:Addr)(cR:Addr)(cM:Addr)(vs:List V)(H:Hp)(Q:VK)(E:XK):Prop |mk (a:_)(q:_)(M:_)(D:_)(S:_)(v:_)(d:_)(h0:vs=[.ref a,v])(h1:bT K C H a q M S)(h2:cx M D S)(h3:M.Ok)(h4:RD K H v d)(h5:(kH d=false->∀H',aD H H'->E (.ref cR) none H'))(h6:(kH d=true->S.pc≠0->∀H',aD H H'->E (.ref cM) none H'))(h7:(∀aA,d= .int aA->10<=aA->aA<=200->S.pc=0->∀H',bT K C H' a q M {S with aA:=aA}->cA [a] H H'->Q (.int aA) H'))
def Cz(K:aa)(C cR cM:Addr):Sp:=λvs H Q E=>a9r K C cR cM vs H Q E
abbrev DA:Stmt:=inClass (top 75) 21
theorem Wo:aW ["self","rate"] ["self","rate"] (aP DA):=bj aI
theorem YT{C cR cM:Addr}(F:MA K C "turn_rate" "Runner.turn_rate" DA)(TC:cU K C)(a5a:Exc K mg "NoRate" cR lF nN)(HX:Exc K mg "Moving" cM lF nN)(Hj:aB P w K mg au "is_rate" 3 (zx K))(rX:bP P w K mg au C "stands" 1 (cP K C λ_ S H Q=>Q (.bl (decide (S.pc=0))) H)):ja P w K mg au C "turn_rate" 5 (Cz K C cR cM):=by
 refine F.uL Wo (λvs H Q E h=>?_) (λ_ _ _ _ _ _=>dF λ_ _=>rfl) (λf aH A outer s H vs Q E hr h=>?_)
 ·obtain⟨a,q,M,D,S,v,d,rfl,_⟩:=h
  rfl
 ·obtain⟨a,q,M,D,S,v,d,rfl,Ra,ok,aG,rd,k1,k2,k3⟩:=h
  obtain⟨dx,mv,bv,bR,tv,e,r1,r2,r3,r4⟩:=Ra.ob;refine⟨_,(aE (bJ (dw (cK (pf Hj hr (ak (pv 1) ay)))) (aK (FF (λ_ _ _ _ _ _ _ I m q=>C8 I m q) a5a U6 hr.hd Z (ak bu ay))) bK) (aE (bJ (dw (cK (cY rX TC.cl (hr.mono az) (pv 0)))) (aK (FF (λ_ _ _ _ _ _ _ I m q=>C8 I m q) HX U6 hr.hd Z (ak bu ay))) bK) (aE (fD TC.cl TC.wX (pv 0) (pv 1)) (aK (aR (pv 1)))))),?_⟩;refine⟨_,Z,v,d,Z,rd,_,Z,?_⟩;cases hd:kH d with |false=>exact bG ⟨ck Z,k1 hd _ (aD.refl _)⟩ |true=>
   refine aY ?_;refine⟨_,Z,a,dx,_,Z,e,Z,a,q,M,D,S,Z,Ra,ok,aG,_,Z,?_⟩;by_cases hp:S.pc=0
   ·rw[cf hp]
    refine aY ?_;obtain⟨aA,rfl,h1,h2⟩:=Xh hd;cases rd.int_inv;refine⟨_,Z,_,Z,a,dx,_,Z,e,by show 9<1000;decide,?_⟩;exact⟨_,Z,k3 aA Z h1 h2 hp _ (Ra.FD (S':={S with aA:=aA}) e ok.row.no rfl r1 r2 r3 r4) (Bz (by simp))⟩
   ·rw[dE hp]
    exact bG ⟨ck Z,k2 hd hp _ (aD.refl _)⟩
theorem One.det{M:bE}{S S1 S2:bc}{e f:ah}(h:One M S e S1)(g:One M S f S2):e=f/\S1=S2:=by cases h with
 |line h1 _=>cases g with |line g1 _=>rw[h1]at g1;cases g1;exact⟨rfl,rfl⟩ |gF g1 _ _=>rw[h1]at g1;cases g1
 |gF h1 h2 _=>cases g with |line g1 _=>rw[h1]at g1;cases g1 |gF g1 g2 _=>rw[h2]at g2;cases g2;exact⟨rfl,rfl⟩
theorem One.go{M:bE}{S S1:bc}{e:ah}(h:One M S e S1):¬(S.os=[]\/Halt S.pc S.aU):=by
 rintro(z|z)
 ·cases h with |line h1 _=>rw[z]at h1;simp at h1 |gF h1 _ _=>rw[z]at h1;simp at h1
 ·cases h with |line _ nh=>exact nh z |gF _ _ nh=>exact nh z
theorem Run.a7H{M:bE}{S S1 S2:bc}{es fs:List ah}(h:Run M S es S1){n:Int}(l1:(es.length:Int)<=n)(c1:(es.length:Int)=n\/S1.os=[]\/Halt S1.pc S1.aU)(g:Run M S fs S2)(l2:(fs.length:Int)<=n)(c2:(fs.length:Int)=n\/S2.os=[]\/Halt S2.pc S2.aU):es=fs/\S1=S2:=by induction h generalizing fs n with
 |nil=>cases g with |nil=>exact⟨Z,Z⟩ |cons o r=>
  rcases c1 with z|z
  ·simp only[gh,List.length_nil]at z l2;lia
  ·exact(o.go z).elim
 |cons o r ih=>cases g with
  |nil=>
   rcases c2 with z|z
   ·simp only[gh,List.length_nil]at z l1;lia
   ·exact(o.go z).elim |cons o2 r2=>obtain⟨e,z⟩:=o.det o2;subst e z;simp only[gh]at l1 c1 l2 c2;obtain⟨e1,e2⟩:=ih (n:=n-1) aw (c1.imp (λh=>by lia) id) r2 aw (c2.imp (λh=>by lia) id);exact⟨by rw[e1],e2⟩
theorem Ak{z q k:Int}(hq:0<q)(hk:0<=k)(nZ:k<=q)(hz:0<=z):0<=fZ (k*z) q/\fZ (k*z) q<=z:=by
 have hp:0<=k*z:=jY hk hz;refine⟨a0Q hq hp,?_⟩;have h1:k*z<=q*z:=C2 nZ hz;unfold fZ;rw[bf hp];obtain⟨a,_⟩:=LD (p:=k*z) hq;have e:(((k*z).natAbs:Nat):Int)=k*z:=Int.natAbs_of_nonneg hp;rw[e]at a;by_cases hh:iq (k*z) q<=z
 ·exact hh
 ·exfalso
  have h2:z+1<=iq (k*z) q:=by lia
  have h3:q*(z+1)<=q*iq (k*z) q:=K5 h2 (K6 hq);have h4:q*(z+1)=q*z+q:=by rw[Int.mul_add,Int.mul_one]
  have h5:2*q*iq (k*z) q=2*(q*iq (k*z) q):=by rw[C3]
  rw[h5]at a
  lia
theorem a0S{z q k a r:Int}(hq:0<q)(hk:0<=k)(nZ:k<=q)(a0:0<=a)(a1:a<=r)(b0:0<=a+z)(b1:a+z<=r):0<=a+fZ (k*z) q/\a+fZ (k*z) q<=r:=by
 by_cases hz:0<=z
 ·have:=Ak hq hk nZ hz
  lia
 ·have h:=Ak (z:=-z) hq hk nZ aw
  rw[show k*-z=-(k*z) by rw[Int.mul_neg],OX hq]at h
  lia
theorem Yv{rs pl ns:List Int}{k:Int}(hn:ns.length=pl.length)(hq:0<(aO ns:Int))(hk:0<=k)(nZ:k<=aO ns)(h0:fO rs pl)(h1:fO rs (j9 pl ns)):fO rs (j9 pl (oT ns k)):=by
 have ls:(oT ns k).length=pl.length:=by unfold oT;rw[bS];exact hn
 refine⟨by rw[oG ls];exact h0.len,λi x r e1 e2=>?_⟩;have hi:i<rs.length:=(dD.mp e2).1;have hip:i<pl.length:=by rw[h0.len];exact hi
 obtain⟨a,ea⟩:∃a,pl[i]? =some a:=⟨_,cu hip⟩;obtain⟨z,ez⟩:∃z,ns[i]? =some z:=⟨_,cu (show i<ns.length by lia)⟩;have es:(oT ns k)[i]? =some (fZ (k*z) (aO ns)):=by unfold oT;rw[bQ,ez];rfl
 rw[yg ea es]at e1;cases e1;have p0:=h0.at' i a r ea e2;have p1:=h1.at' i (a+z) r (yg ea ez) e2;exact a0S hq hk nZ p0.1 p0.2 p1.1 p1.2
def fh(M:bE)(S:bc):Prop:=∀i,i<=S.os.length->fO M.rs ((S.os.take i).foldl hZ S.pl)
theorem fh.goal{M:bE}{S:bc}(h:fh M S):fO M.rs (jq S):=by have:=h S.os.length (bO _);rw[yG]at this;exact this
theorem fh.pl{M:bE}{S:bc}(h:fh M S):fO M.rs S.pl:=h 0 (fU _)
theorem fh.eq{M:bE}{S S':bc}(h:fh M S)(e1:S'.os=S.os)(e2:S'.pl=S.pl):fh M S':=by unfold fh;rw[e1,e2];exact h
theorem fh.sj{M:bE}{S:bc}{d:ah}{o:Itm}(h:fh M S)(ho:fO M.rs (hZ (jq S) o)):fh M (uP S d o):=λi hi=>by
 show fO M.rs (((S.os++[o]).take i).foldl hZ S.pl);have pK:i<=S.os.length+1:=by
  have:(uP S d o).os.length=S.os.length+1:=by show(S.os++[o]).length=_;rw[fP];rfl
  lia
 by_cases hl:i<=S.os.length
 ·rw[List.take_append_of_le_length hl]
  exact h i hl
 ·rw[yF (by rw[fP];show S.os.length+1<=i;lia),List.foldl_append]
  exact ho
theorem fh.end{M:bE}{S:bc}(h:fh M S):fh M (mI S):=by unfold mI;cases e:S.os with |nil=>exact h |cons o os=>intro i hi;have:=h (i+1) (by rw[e];exact Nat.succ_le_succ hi);rw[e]at this;exact this
theorem fh.place{M:bE}{D:Nat}{S:bc}(ok:cx M D S)(h:fh M S):fO M.rs (gD S):=by
 by_cases h0:S.dn=0
 ·unfold gD
  rw[bf h0];exact h.pl
 ·obtain⟨ns,sp,eo,hd⟩:=ok.first h0
  have dj:=(ok.row.ok 0 ns sp eo).1;unfold gD;rw[bh h0,eo];have lp:=dj.lead.1;have h1:=h 1 (by have:=(dD.mp eo).1;lia);have e1:(S.os.take 1).foldl hZ S.pl=j9 S.pl ns:=by cases e:S.os with |nil=>rw[e]at eo;simp at eo |cons o os=>rw[e]at eo;cases(dG eo);rfl
  rw[e1]at h1;exact Yv (by rw[dj.len];exact h.pl.len.symm) aw aw aw h.pl h1
theorem fh.drop{M:bE}{D:Nat}{S:bc}(ok:cx M D S)(h:fh M S):fh M (sH S):=λi hi=>by have:i=0:=Nat.le_zero.mp hi;rw[this];exact h.place ok
theorem One.FR{M:bE}{D:Nat}{S S1:bc}{e:ah}(ok:cx M D S)(o:One M S e S1)(h:fh M S):fh M S1:=by cases o with
 |@line ns sp eo nh=>
  have h1:fh M (ml M S ns sp):=h.eq Z rfl;unfold ir;split
  ·exact h1.end
  ·exact h1 |gF eo ed nh=>obtain⟨_,e1,_,_,e2⟩:=D7 ok.raw e;exact(h.eq e1 e2).end
theorem Run.FR{M:bE}{D:Nat}{S S1:bc}{es:List ah}(ok:cx M D S)(aG:M.Ok)(r:Run M S es S1)(h:fh M S):fh M S1:=by induction r with |nil=>exact h |cons o _ ih=>exact ih (One.ok ok aG o) (o.FR ok h)
theorem a3i{M:bE}{S:bc}(h:fh M S):fh M (ku M S):=by
 unfold ku;split
 ·exact h
 ·exact h
end
end _b
set_option maxHeartbeats 1000000
namespace _b
open PySem PySem.Spec PyProof.Rows _L _l _W
open _T (numS numIn? figs isFig Free)
section
variable {P:af}{w:World}{K:aa}{mg:bD}{au:Heap}
def oV:Option Int->V |some i=>.int i |none=>.bw
def oD:Option Int->ah |some i=>.int i |none=>.none
def uO:Str:="0123456789"
theorem a5S:∀c<128,decide (c∈uO.cps.toList)=isFig c:=by decide+kernel
theorem a5U:∀c∈uO.cps.toList,c<128:=by decide+kernel
theorem a5T(c:Nat):decide (c∈uO.cps.toList)=isFig c:=by
 by_cases h:c<128
 ·exact a5S c h
 ·rw[dE (λhc=>h (a5U c hc)),isFig,dE (show¬c<=57 by omega),C5]
inductive a9L(vs:List V)(H:Hp)(Q:VK):Prop |mk (z:Str)(h0:vs=[.str z])(h1:z.length<=640)(h2:∀H',aD H H'->Q (oV (numIn? z)) H')
def vX:Sp:=λvs H Q _=>a9L vs H Q
abbrev E7:Stmt:=top 86
theorem Ms:aW ["word","figures"] ["word"] (aP E7):=bj aI
theorem Zn(F:FA K mg "number_in" E7)(B:bC mg)(a4Q:GV mg "FIGURES" (.str uO)):aB P w K mg au "number_in" 1 vX:=by
 refine F.has Ms (λvs H Q E h=>?_) (λ_ _ _ _ _ _=>cw λ_=>rfl) (λf aH A outer s H vs Q E hr h=>?_)
 ·obtain⟨z,rfl,_⟩:=h
  rfl
 ·obtain⟨z,rfl,hl,k⟩:=h
  have nd:=Ms.nd;have iY:sizeLine=16777216:=by decide
  refine⟨_,(aE (pS 1 nd (Y5 K Z (pv 0) (ak bu ay))) (aE (bJ (PW.pt (kJ (bX wH (pv 1) bu (bL _)) (kI (dw (cK (dy (x:="all") (vc K Z Z) Z (B.at "all") yC (ak (eW (N:=["sign"]) (js:=[none]) rfl rfl rfl (Oe (pv 1)) (λ_ _ _ _ _=>(bo 0 (gR _))) (λ_ _ _ _ _=>dS) (λ_ _ _ _ _=>(jl OC (pv 0) (cX (x:="FIGURES") rfl a4Q) (by with_unfolding_all rfl)))) ay))))))) (aK (aR jk)) bK) (aE (bJ (PW.pt (qP (bX wH (FL PZ (pv 1) aF (λ_ _=>rfl)) bu (bL _)) (wC (bX ug (pv 0) bu (bL _))))) (aK (aR jk)) bK) (aK (aR (cD (x:="int") J6 Z (B.at "int") vx (ak (pv 0) ay))))))),?_⟩;refine⟨_,Z,Z,z,"-",Z,Z,bI,?_⟩;have ef:=_T.X5 z;generalize hz:Txt.removeprefix z "-"=y at ef;unfold numIn? at k;rw[<-ef]at k;have hly:y.length<=z.length:=by
   have e1:y.cps.toList.length=(figs z).length:=by rw[ef]
   have e2:(figs z).length<=z.cps.toList.length:=by
    unfold figs;split
    ·rename_i h;rw[h];simp
    ·rename_i h _;exact bO _
   simpa[Str.length]using gC (Nat.le_of_eq e1) e2
  refine⟨_,Z,Z,_,Z,?_⟩;refine fc (λh0=>?_) (λh0=>?_)
  ·have hy:y="":=by simpa using h0
   rw[hy]at k;exact bG (k H (aD.refl _))
  ·have hy:y≠"":=by simpa using h0
   have df:y.cps.toList≠[]:=λe=>hy (_T.J0 (by rw[e];rfl));have he:y.cps.toList.isEmpty=false:=by cases h:y.cps.toList with|nil=>exact(df h).elim|cons=>rfl
   rw[he,Bool.false_or]at k;refine⟨_,Z,y,Z,λD H0 nw=>?_⟩;refine Sl (f:=isFig) [] nw bI (λc H2 Q' hc s2 hq=>?_) (λH2 s2 d2=>?_)
   ·refine⟨_,Z,c,uO,Z,Z,?_⟩
    rw[a5T];exact hq _ (aD.refl _)
   ·refine⟨D,_,Z,aJ.of d2,?_⟩
    rw[SX];refine⟨_,Z,?_⟩;cases hf:y.cps.toList.all isFig with |false=>rw[hf]at k;exact bG (k H2 s2) |true=>rw[hf]at k;refine aY ?_;obtain⟨n,hn⟩:=_T.a2C (z:=z) (by rw[<-ef];exact df) (by rw[<-ef];exact hf) bI;rw[hn]at k;cases hc:y.cps.toList with |nil=>exact(df hc).elim |cons c r=>
     refine⟨_,Z,y,0,c,Z,Z,bI,cF (dY 0) (by rw[hc];rfl),Z,_,Z,?_⟩;have e0:decide (y.cps.toList[0]? =some 48)=decide (V.str ⟨#[c]⟩=V.str "0"):=by
      rw[hc,jd];simp only[BP];refine⟨λh=>?_,λh=>?_⟩
      ·have h:c=48:=by simpa using h
       rw[h];decide+kernel
      ·have h:(⟨#[c]⟩:Str)="0":=by simpa using h
       have h2:[c]=[48]:=(lN (λz:Str=>z.cps.toList) h).trans aI;simpa using h2
     rw[e0]at k;have e1:(!decide (z="0"))= !decide (V.str z=V.str "0"):=by simp
     rw[e1]at k;cases h1:decide (V.str ⟨#[c]⟩=V.str "0")with
     |true=>rw[h1,ij]at k;refine bG ⟨_,Z,Z,_,Z,?_⟩;cases h2: !decide (V.str z=V.str "0")with |true=>rw[h2]at k;exact bG (k H2 s2) |false=>rw[h2]at k;exact aY ⟨_,Z,z,n,Z,hn,hl,k H2 s2⟩
     |false=>rw[h1,ip]at k;exact aY ⟨_,Z,z,n,Z,hn,hl,k H2 s2⟩
inductive a9J(K:aa)(vs:List V)(H:Hp)(Q:VK):Prop |mk (l:Addr)(zs:List Str)(h0:vs=[.ref l])(h1:aJ K H l (zs.map V.str))(h2:zs.length<=1000)(h3:(∀z∈zs,z.length<=640))(h4:∀p H',aD H H'->H p=none->H' p=some (.lst (zs.map λz=>oV (numIn? z)))->Q (.ref p) H')
def CM(K:aa):Sp:=λvs H Q _=>a9J K vs H Q
theorem Ag{H:Hp}(o:Option Int):RD K H (oV o) (oD o):=by cases o with |none=>exact tV |some i=>exact fC _
theorem a0o{H:Hp}{v:V}{o:Option Int}(h:RD K H v (oD o)):v=oV o:=by cases o with |none=>exact h.G5 |some i=>exact h.int_inv
theorem OL{H:Hp}:∀{xs:List V}{zs:List Str},aL K H xs (zs.map λz=>oD (numIn? z))->xs=zs.map λz=>oV (numIn? z) |xs,[],h=>h.nil_inv |xs,n::ns,h=>by obtain⟨y,ys,rfl,h1,h2⟩:=h.cons_inv;rw[a0o h1,OL h2];rfl
theorem a0p(zs:List Str):cy (zs.map λz=>oD (numIn? z))=true:=fY.mpr λd hd=>by obtain⟨z,_,rfl⟩:=cW.mp hd;cases numIn? z<;>rfl
abbrev E4:Stmt:=top 85
theorem Mp:aW ["words"] ["words"] (aP E4):=bj aI
theorem Zm(F:FA K mg "numbers_in" E4)(B:bC mg)(xn:aB P w K mg au "number_in" 1 vX):aB P w K mg au "numbers_in" 2 (CM K):=by
 refine F.has Mp (λvs H Q E h=>?_) (λ_ _ _ _ _ _=>cw λ_=>rfl) (λf aH A outer s H vs Q E hr h=>?_)
 ·obtain⟨l,zs,rfl,_⟩:=h
  rfl
 ·obtain⟨l,zs,rfl,hl,hn,hz,k⟩:=h
  have nd:=Mp.nd;refine⟨_,(aK (aR (eW (N:=["word"]) (js:=[none]) Z Z Z (kL K Z (pv 0)) (λ_ _ _ _ _=>(bo 0 (gR _))) (λ_ _ _ _ _=>dS) (λ_ _ _ _ _=>(pf xn hr (ak (pv 0) ay)))))),?_⟩;refine⟨_,Z,l,Z,⟨_,hl⟩,λD H1 n1=>?_⟩;refine qe (K:=K) (ds:=zs.map λz=>oD (numIn? z)) _ hl n1 (by simp) (by simp;omega) (a0p _) ?_ ?_
  ·intro i x d H2 Q' ex ed s2 hq
   rw[bQ]at ex ed;obtain⟨z,ez,rfl⟩:=yE.mp ex;rw[ez]at ed;cases ed;exact⟨_,Z,z,Z,hz z (fA ez),λH3 s3=>hq _ _ s3 (Ag _)⟩
  ·intro H2 ys s2 d2 r2
   rw[OL r2]at d2;exact k D H2 s2 n1.no d2
def sO(z:Str):Prop:=∀c∈z.cps.toList,c<0x110000
theorem FW{n:Nat}{z:Str}(h:sO z):dg n (.str z):=⟨by show PyData.strOk z=true;unfold PyData.strOk;rw[K9];exact λc hc=>cf (h c (by simpa using hc)),fU _⟩
theorem QN{c x:Nat}:∀{as:List (List Nat)}{a:List Nat},a∈as->x∈a->x∈_T.gl c as
 |[],a,h,_=>nomatch h |[b],a,h,hx=>by rw[dH.mp h]at hx;exact hx |b::d::r,a,h,hx=>by
  show x∈b++c::_T.gl c (d::r);rcases cj.mp h with rfl|h
  ·exact JX _ hx
  ·exact jz _ (.tail _ (QN h hx))
theorem QO{c:Nat}:∀{as:List (List Nat)}{a:List Nat},a∈as->a.length<=(_T.gl c as).length
 |[],a,h=>nomatch h |[b],a,h=>by rw[dH.mp h];exact bO _ |b::d::r,a,h=>by
  show a.length<=(b++c::_T.gl c (d::r)).length;rw[fP,gh];rcases cj.mp h with rfl|h
  ·omega
  ·have:=QO (c:=c) h;omega
theorem KS(z:Str)(c:Nat):_T.gl c ((Txt.split z ⟨#[c]⟩).map λy=>y.cps.toList)=z.cps.toList:=by rw[<-_T.Ib,StrLaws.join_split]
theorem W5{z y:Str}{c:Nat}(h:sO z)(hy:y∈Txt.split z ⟨#[c]⟩):sO y:=λx hx=>h x (by rw[<-KS z c];exact QN (cW.mpr ⟨y,hy,Z⟩) hx)
theorem split_le{z y:Str}{c:Nat}(hy:y∈Txt.split z ⟨#[c]⟩):y.length<=z.length:=by have:=QO (c:=c) (cW.mpr ⟨y,hy,Z⟩:y.cps.toList∈(Txt.split z ⟨#[c]⟩).map λy=>y.cps.toList);rw[KS]at this;simpa[Str.length]using this
theorem oW:(" ":Str)=⟨#[32]⟩:=by decide+kernel
def nI (z:Str):ah:=oD (numIn? z)
def fW:List Str->ah |[]=>.none |w::rest=>if w="line" then(match rest with |[]=>.none |r::rs=>.tuple [.str w,.tuple (((r::rs).map nI).take rs.length),((r::rs).map nI).getLastD .none]) else match rest with |[r]=>.tuple [.str w,if w="wait" then nI r else .str r] |_=>.none
def rH(n:Nat)(z:Str):ah:=bif kQ n (fW (Txt.split z " "))then fW (Txt.split z " ")else .none
theorem OK{H:Hp}:∀(zs:List Str),aL K H (zs.map λz=>oV (numIn? z)) (zs.map nI) |[]=>by simp[aL] |z::zs=>by rw[qr,qr,aL];exact⟨_,_,Z,Ag _,OK zs⟩
theorem qL{H:Hp}{x:V}{xs:List V}{d:ah}{ds:List ah}(h:RD K H x d)(r:aL K H xs ds):aL K H (x::xs) (d::ds):=by rw[aL];exact⟨_,_,Z,h,r⟩
theorem Fp{H:Hp}:aL K H [] []:=by simp[aL]
theorem Ge{n:Nat}(z:Str):dg n (nI z):=by unfold nI;cases numIn? z with |none=>exact .bw |some i=>exact .int i
theorem P4(z:Str):jh (nI z)=true:=by unfold nI;cases numIn? z<;>rfl
theorem Kk:fW ["line"]= .none:=by unfold fW;dsimp only;rw[bf rfl]
theorem Cg{r:Str}{rs:List Str}:fW ("line"::r::rs)= .tuple [.str "line",.tuple (((r::rs).map nI).take rs.length),((r::rs).map nI).getLastD .none]:=by unfold fW;dsimp only;rw[bf rfl]
theorem zf{w r:Str}(h:w≠"line"):fW [w,r]= .tuple [.str w,if w="wait" then nI r else .str r]:=by unfold fW;dsimp only;rw[bh h]
theorem Cf{w:Str}{ws:List Str}(h:w≠"line")(hl:ws.length≠1):fW (w::ws)= .none:=by
 unfold fW;dsimp only;rw[bh h];split
 ·exact(hl Z).elim
 ·rfl
theorem Vg{ws:List Str}(h:∀w∈ws,sO w/\w.length<=640):dg 8 (fW ws)/\zJ (fW ws)=true:=by cases ws with |nil=>exact⟨.bw,Z⟩ |cons w rest=>
 obtain⟨hw,hl⟩:=h w (.head _);have sw:jh (.str w)=true:=cf bI;by_cases hx:w="line"
 ·subst hx
  cases rest with |nil=>rw[Kk];exact⟨.bw,Z⟩ |cons r rs=>
   rw[Cg];have hm:∀d∈(r::rs).map nI,dg 0 d:=λd hd=>by obtain⟨z,_,rfl⟩:=cW.mp hd;exact Ge z
   have Qt:dg 0 (((r::rs).map nI).getLastD .none)/\jh (((r::rs).map nI).getLastD .none)=true:=by rw[Uj];cases e:((r::rs).map nI).getLast? with |none=>exact⟨.bw,Z⟩ |some d=>obtain⟨z,_,rfl⟩:=cW.mp (List.mem_of_getLast? e);exact⟨Ge z,P4 z⟩
   have hs:gB 2 [.str "line",.tuple (((r::rs).map nI).take rs.length),((r::rs).map nI).getLastD .none]:=λd hd=>by
    simp only[cj,eQ,iI]at hd;rcases hd with rfl|rfl|rfl
    ·exact FW hw
    ·exact(gB.tup (n:=0) λd hd=>hm d (yH hd)).le az
    ·exact Qt.1.le az
   refine⟨hs.tup.le az,?_⟩;show[_,_,_].all jh=true;simp only[vG,K3,yM,sw,Qt.2];rfl
 ·match rest,h with
  |[],_=>rw[Cf hx (by simp)];exact⟨.bw,Z⟩ |[r],h=>
   rw[zf hx];obtain⟨hr,hlr⟩:=h r (.tail _ (.head _));have hv:dg 0 (if w="wait" then nI r else .str r)/\jh (if w="wait" then nI r else .str r)=true:=by
    split
    ·exact⟨Ge r,P4 r⟩
    ·exact⟨FW hr,cf bI⟩
   have hs:gB 1 [.str w,if w="wait" then nI r else .str r]:=λd hd=>by
    simp only[cj,eQ,iI]at hd;rcases hd with rfl|rfl
    ·exact FW hw
    ·exact hv.1.le az
   refine⟨hs.tup.le az,?_⟩;show[_,_].all jh=true;simp only[vG,K3,yM,sw,hv.2] |_::_::_,_=>rw[Cf hx (by simp)];exact⟨.bw,Z⟩
inductive a9X(K:aa)(vs:List V)(H:Hp)(Q:VK):Prop |mk (m:V)(rs:List Int)(es:List ah)(z:Str)(h0:vs=[m,.str z])(h1:RD K H m (.tuple (.tuple (rs.map PyData.int)::es)))(h2:cy es=true)(h3:rs.length<=3)(h4:z.length<=600)(h5:sO z)(h6:∀v H',aD H H'->RD K H' v (rH rs.length z)->Q v H')
def CO(K:aa):Sp:=λvs H Q _=>a9X K vs H Q
abbrev Ej:Stmt:=top 84
theorem MH:aW ["machine","row","word","rest","thing","numbers"] ["machine","row"] (aP Ej):=bj aI
theorem ZE(F:FA K mg "item_in" Ej)(B:bC mg)(xn:aB P w K mg au "number_in" 1 vX)(a3p:aB P w K mg au "numbers_in" 2 (CM K))(Hm:aB P w K mg au "is_item" 4 (zD K)):aB P w K mg au "item_in" 5 (CO K):=by
 refine F.has MH (λvs H Q E h=>?_) (λ_ _ _ _ _ _=>dF λ_ _=>rfl) (λf aH A outer s H vs Q E hr h=>?_)
 ·obtain⟨m,rs,es,z,rfl,_⟩:=h
  rfl
 ·obtain⟨m,rs,es,z,rfl,rm,ne,l3,hz,tz,k⟩:=h
  have nd:=MH.nd;have iY:sizeLine=16777216:=by decide
  have rL:∀y∈Txt.split z " ",sO y/\y.length<=640:=λy hy=>by rw[oW]at hy;have:=split_le hy;exact⟨W5 tz hy,bI⟩
  have AM:=split_len z " ";refine⟨_,(aE (eL (FN K Z (pv 1) (ak bu ay)) (Og K Z Z (bo 2 nd) (bo 3 nd))) (aE (pS 4 nd jk) (aE (iO (bJ (bX wH (pv 2) bu (bL _)) (aE (pS 5 nd (pf a3p hr (ak (pv 3) ay))) (aK (pS 4 nd (iP (wD K Z (pv 5)) (gQ (ak (pv 2) (ak (cD (x:="tuple") (jZ K Z) Z (B.at "tuple") iJ (ak (A5 (zI K rfl) (pv 5) A1 (A0 (nC mX aF))) ay)) (ak (px K (pv 5) (nC mX aF)) ay)))) jk)))) (aK (bJ (bX wH (fF K B (ak (pv 3) ay)) aF (bL _)) (aK (pS 4 nd (gQ (ak (pv 2) (ak (iP (bX wH (pv 2) bu (bL _)) (pf xn hr (ak (px K (pv 3) aF) ay)) (px K (pv 3) aF)) ay))))) bK)))) (aK (aR (iP (cK (pf Hm hr (ak (pv 0) (ak (pv 4) ay)))) (pv 4) jk)))))),?_⟩;refine⟨_,Z,Z,z," ",Z,Z,aI,bI,λl H1 n1=>?_⟩;obtain⟨x,ws,ew⟩:∃x ws,Txt.split z " "=x::ws:=by cases e:Txt.split z " " with |nil=>exact(_T.KQ _ _ e).elim |cons x ws=>exact⟨x,ws,Z⟩
  unfold rH at k;rw[ew]at n1 rL AM k;rw[gh]at AM;refine⟨l,.str x,ws.map V.str,Z,aJ.of n1.at',by rw[bS];omega,λp H2 n2=>?_⟩;have s2:=n1.same.trans n2.same;have AI:∀y∈ws,y.length<=640:=λy hy=>(rL y (.tail _ hy)).2;refine⟨λO H3=>∃t w5,O=[some m,some (.str z),some (.str x),some (.ref p),some t,w5]/\aD H H3/\RD K H3 t (fW (x::ws)),?_,?_⟩
  ·refine⟨_,Z,Z,_,Z,?_⟩
   refine fc (λh0=>?_) (λh0=>?_)
   ·have hx:x="line":=by simpa using h0
    subst hx;refine⟨_,Z,p,ws,Z,aJ.of n2.at',bI,AI,λq H3 s3 nq e3=>?_⟩;refine⟨_,Z,!(ws.map λz=>oV (numIn? z)).isEmpty,.inl ⟨_,aJ.of e3,Z⟩,?_⟩;cases ws with |nil=>refine aY ⟨.bw,_,Z,s2.trans s3,?_⟩;rw[Kk];exact tV |cons r qJ=>
     refine bG ⟨_,Z,?_⟩;refine⟨_,Z,1,Z,_,Z,q,_,Z,.inl ⟨aJ.of e3,λq2 H4 n4=>?_⟩⟩;rw[a7L]at n4;have n4':=n4.at';refine⟨q2,_,Z,.inl ⟨aJ.of n4',λq3 H5 n5=>?_⟩⟩;obtain⟨v,ev⟩:∃v,((r::qJ).map λz=>oV (numIn? z)).getLast? =some v:=⟨_,Uk (by simp)⟩;have e5:=n5.same _ _ (n4.same _ _ e3);refine⟨_,Z,1,Z,.inl ⟨q,_,-1,v,Z,Z,aJ.of e5,a8u ev,?_⟩⟩;refine⟨by show 3<=sizeLine;omega,λq6 H6 n6=>?_⟩;have s6:=(((s2.trans s3).trans n4.same).trans n5.same).trans n6.same;refine⟨_,_,Z,s6,?_⟩;rw[Cg];have el:((r::qJ).map nI).getLastD .none=oD (numIn? ((r::qJ).getLast (by simp))):=by rw[Uj,List.getLast?_map,Uk (by simp)];rfl
     have evv:v=oV (numIn? ((r::qJ).getLast (by simp))):=by rw[List.getLast?_map,Uk (by simp)]at ev;exact(dG ev).symm
     refine fQ (aZ.of n6.at') (qL (bp _) (qL ?_ (qL ?_ Fp)))
     ·refine fQ (aZ.of (n6.same _ _ n5.at')) ?_
      rw[bS,gh,Nat.add_sub_cancel];exact(OK (r::qJ)).take _
     ·rw[el,evv];exact Ag _
   ·have hx:x≠"line":=by simpa using h0
    refine⟨_,Z,p,_,Z,.inl (aJ.of n2.at'),Z,_,Z,?_⟩;refine fc (λh1=>?_) (λh1=>?_)
    ·have kS:ws.length=1:=by have h1:=lM h1;rw[bS]at h1;injection h1 with h1;omega
     match ws,kS,n2,AI,k with
     |[r],_,n2,AI,k=>
      refine⟨_,Z,_,Z,Z,_,Z,?_⟩;refine fc (λh2=>?_) (λh2=>?_)
      ·have GQ:x="wait":=by simpa using h2
       refine⟨_,Z,.inl ⟨p,_,0,.str r,Z,Z,aJ.of n2.at',Z,?_⟩⟩;refine⟨r,Z,AI r (.head _),λH3 s3=>?_⟩;refine⟨by show 2<=sizeLine;omega,λq6 H6 n6=>?_⟩;refine⟨_,_,Z,(s2.trans s3).trans n6.same,?_⟩;rw[zf hx,bf GQ];exact fQ (aZ.of n6.at') (qL (bp _) (qL (Ag _) Fp))
      ·have GQ:x≠"wait":=by simpa using h2
       refine⟨_,Z,.inl ⟨p,_,0,.str r,Z,Z,aJ.of n2.at',Z,?_⟩⟩;refine⟨by show 2<=sizeLine;omega,λq6 H6 n6=>?_⟩;refine⟨_,_,Z,s2.trans n6.same,?_⟩;rw[zf hx,bh GQ];exact fQ (aZ.of n6.at') (qL (bp _) (qL (bp _) Fp))
    ·have kS:ws.length≠1:=λe=>h1 (cf (by rw[bS,e];rfl))
     refine⟨.bw,_,Z,s2,?_⟩;rw[Cf hx kS];exact tV
  ·rintro O H3 ⟨t,w5,rfl,s3,rt⟩
   have ok:=Vg (ws:=x::ws) rL;refine⟨_,Z,_,Z,m,t,rs,es,fW (x::ws),Z,RD.mono s3 _ rm,rt,l3,ok.1,ok.2,λH4 s4=>⟨_,Z,?_⟩⟩;cases hi:kQ rs.length (fW (x::ws))with |true=>rw[hi]at k;exact bG ⟨_,Z,k _ _ (s3.trans s4) (RD.mono s4 _ rt)⟩ |false=>rw[hi]at k;exact aY (k _ _ (s3.trans s4) tV)
end
end _b
set_option maxHeartbeats 2000000
namespace _b
open PySem PySem.Spec PyProof.Rows _L _l _W
open _T (numS numIn? figs isFig Free)
section
variable {P:af}{w:World}{K:aa}{mg:bD}{au:Heap}
def qx:ah->Str | .int i=>numS i | .str z=>z |_=>Str.empty
def gI(ns:List Int):Str:=Txt.join " " (ns.map numS)
def hV(a b:Int):Str:=if b=1 then numS a else numS a++"/"++numS b
def dU:ah->Str | .tuple [.str _,.tuple xs,.int sp]=>"line "++Txt.join " " (xs.map qx)++" "++numS sp | .tuple [.str w,u]=>w++" "++qx u |_=>Str.empty
def lC:ah->Str | .tuple [.str _,.tuple xs,.int t,.tuple [.int a,.int b]]=>"step "++Txt.join " " (xs.map qx)++" "++numS t++" "++hV a b |d=>dU d
def Nm (i:Int):Prop:=i.natAbs<10^40
def oH(w:Str):Prop:=w="wait"\/w="tool"\/w="mark"
def TI(d:ah):Prop:=(∃ns sp,d=eX ns sp/\ns.length<=3/\(∀n∈ns,Nm n)/\Nm sp)\/(∃w i,d= .tuple [.str w,.int i]/\oH w/\Nm i)\/∃w z,d= .tuple [.str w,.str z]/\oH w/\z.length<=100
theorem Ph(ns:List Int):(ns.map PyData.int).map qx=ns.map numS:=by rw[JY];rfl
theorem AA(ns:List Int)(sp:Int):dU (eX ns sp)="line "++gI ns++" "++numS sp:=by show Str.ofString "line "++Txt.join " " ((ns.map PyData.int).map qx)++" "++numS sp=_;rw[Ph];rfl
theorem fL{i:Int}(h:Nm i):(numS i).length<=41:=Kh h
theorem uu{ns:List Int}(h:∀n∈ns,Nm n)(hl:ns.length<=3):(gI ns).length<=126:=by
 have:=GG " " (B:=41) (ns.map numS) (λz hz=>by obtain⟨n,hn,rfl⟩:=cW.mp hz;exact fL (h n hn));rw[bS]at this;have e:Str.length " "=1:=by decide+kernel
 rw[e]at this;unfold gI
 lia
theorem yU{w:Str}(h:oH w):w.length=4:=by rcases h with rfl|rfl|rfl<;>decide+kernel
theorem uF{d:ah}(h:TI d):(dU d).length<=400:=by
 have e1:Str.length " "=1:=by decide+kernel
 have e2:Str.length "line "=5:=by decide+kernel
 rcases h with⟨ns,sp,rfl,hl,hb,hs⟩|⟨w,i,rfl,hw,hi⟩|⟨w,z,rfl,hw,hz⟩
 ·rw[AA]
  have h1:=uu hb hl;have h2:=fL hs;simp only[cV]
  lia
 ·show(w++" "++numS i).length<=400
  have h2:=fL hi;have h3:=yU hw;simp only[cV]
  lia
 ·show(w++" "++z).length<=400
  have h3:=yU hw;simp only[cV]
  lia
theorem pD:SeqAt.shaped (.str "line")=true:=by decide+kernel
theorem tN:SeqAt.shaped (.str "step")=true:=by decide+kernel
theorem ou(x y:Str):PyData.eqv (.str x) (.str y)=decide (x=y):=by show(x==y)=decide (x=y);rw[jd];simp
theorem vS{H:Hp}{v:V}{d:ah}(h:RD K H v d)(i:TI d):(∃ns sp a b,d=eX ns sp/\v= .ref a/\aZ K H a [.str "line",.ref b,.int sp]/\RD K H (.ref b) (.tuple (ns.map PyData.int))/\ns.length<=3/\(∀n∈ns,Nm n)/\Nm sp)\/∃w u a y,d= .tuple [.str w,u]/\oH w/\v= .ref a/\aZ K H a [.str w,y]/\RD K H y u/\((∃i,u= .int i/\y= .int i/\Nm i)\/∃z,u= .str z/\y= .str z/\z.length<=100):=by
 rcases i with⟨ns,sp,rfl,hl,hb,hs⟩|⟨w,i,rfl,hw,hi⟩|⟨w,z,rfl,hw,hz⟩
 ·obtain⟨a,xs,rfl,h1,h2⟩:=h.cJ
  obtain⟨x1,r,rfl,e1,h2⟩:=h2.cons_inv;obtain⟨x2,r,rfl,e2,h2⟩:=h2.cons_inv;obtain⟨x3,r,rfl,e3,h2⟩:=h2.cons_inv;cases h2.nil_inv;cases e1.str_inv;cases e3.int_inv;obtain⟨b,ys,rfl,_,_⟩:=id e2.cJ;exact .inl ⟨ns,sp,a,b,Z,Z,h1,e2,hl,hb,hs⟩
 ·obtain⟨a,xs,rfl,h1,h2⟩:=h.cJ
  obtain⟨x1,r,rfl,e1,h2⟩:=h2.cons_inv;obtain⟨x2,r,rfl,e2,h2⟩:=h2.cons_inv;cases h2.nil_inv;cases e1.str_inv;cases e2.int_inv;exact .inr ⟨w,_,a,_,Z,hw,Z,h1,e2,.inl ⟨i,Z,Z,hi⟩⟩
 ·obtain⟨a,xs,rfl,h1,h2⟩:=h.cJ
  obtain⟨x1,r,rfl,e1,h2⟩:=h2.cons_inv;obtain⟨x2,r,rfl,e2,h2⟩:=h2.cons_inv;cases h2.nil_inv;cases e1.str_inv;cases e2.str_inv;exact .inr ⟨w,_,a,_,Z,hw,Z,h1,e2,.inr ⟨z,Z,Z,hz⟩⟩
theorem vJ{w:Str}(h:oH w):SeqAt.shaped (.str w)=true:=by rcases h with rfl|rfl|rfl<;>decide+kernel
theorem yT{w:Str}(h:oH w):decide (w="line")=false/\decide (w="step")=false:=by rcases h with rfl|rfl|rfl<;>decide+kernel
inductive a9K(K:aa)(vs:List V)(H:Hp)(Q:VK):Prop |mk (v:_)(ns:_)(h0:vs=[v])(h1:RD K H v (.tuple (ns.map PyData.int)))(h2:ns.length<=3)(h3:(∀n∈ns,Nm n))(h4:∀H',aD H H'->Q (.str (gI ns)) H')
def zA(K:aa):Sp:=λvs H Q _=>a9K K vs H Q
theorem kO(zs:List Str):cy (zs.map PyData.str)=true:=fY.mpr λd hd=>by obtain⟨z,_,rfl⟩:=cW.mp hd;rfl
abbrev Dq:Stmt:=top 80
theorem LZ:aW ["numbers"] ["numbers"] (aP Dq):=bj aI
theorem YK(F:FA K mg "show_numbers" Dq)(B:bC mg):aB P w K mg au "show_numbers" 1 (zA K):=by
 refine F.has LZ (λvs H Q E h=>?_) (λ_ _ _ _ _ _=>cw λ_=>rfl) (λf aH A outer s H vs Q E hr h=>?_)
 ·obtain⟨v,ns,rfl,_⟩:=h
  rfl
 ·obtain⟨v,ns,rfl,rv,hl,hb,k⟩:=h
  have nd:=LZ.nd;refine⟨_,(aK (aR (kM K Z bu (ak (eW (N:=["number"]) (js:=[none]) Z Z Z (kg K Z (pv 0)) (λ_ _ _ _ _=>(bo 0 (gR _))) (λ_ _ _ _ _=>dS) (λ_ _ _ _ _=>(cD (x:="str") fq Z (B.at "str") fj (ak (pv 0) ay)))) ay)))),?_⟩;obtain⟨a,xs,rfl,h1,h2⟩:=rv.cJ;rw[h2.gJ]at h1;refine⟨Z,?_⟩;refine⟨_,Z,a,Z,⟨_,h1⟩,λD H1 n1=>?_⟩;refine sI (K:=K) (ds:=(ns.map numS).map PyData.str) _ h1 n1 (by simp) (by simp;lia) (kO _) ?_ ?_
  ·intro i x d H2 Q' ex ed s2 hq
   rw[bQ]at ex;obtain⟨n,en,rfl⟩:=yE.mp ex;rw[bQ,bQ,en]at ed;cases ed;have hn:=hb n (fA en);exact⟨_,Z,.inl ⟨n,Z,fS hn,hq _ _ (aD.refl _) (bp _)⟩⟩
  ·intro H2 zs s2 d2 r2
   rw[jE r2]at d2;refine⟨" ",D,ns.map numS,Z,Z,aJ.of d2,λz hz=>?_,aI,by rw[bS];lia,k _ s2⟩;obtain⟨n,hn,rfl⟩:=cW.mp hz;have:=fL (hb n hn)
   lia
inductive aa0(K:aa)(vs:List V)(H:Hp)(Q:VK):Prop |mk (v:_)(d:_)(h0:vs=[v])(h1:RD K H v d)(h2:TI d)(h3:(∀b:Bool,(b=true↔∃ns sp,d=eX ns sp)->Q (.bl b) H))
def Lm(K:aa):Sp:=λvs H Q _=>aa0 K vs H Q
theorem Ce{w:Str}{u:ah}(h:oH w):¬∃ns sp,PyData.tuple [.str w,u]=eX ns sp:=by rintro⟨ns,sp,e⟩;unfold eX at e;injection e with e;injection e with e1 e2;injection e2 with e2 e3;cases e3
abbrev Nq:Stmt:=top 32
theorem MK:aW ["item"] ["item"] (aP Nq):=bj aI
theorem ZI(F:FA K mg "is_line" Nq)(B:bC mg):aB P w K mg au "is_line" 1 (Lm K):=by
 refine F.has MK (λvs H Q E h=>?_) (λ_ _ _ _ _ _=>cw λ_=>rfl) (λf aH A outer s H vs Q E hr h=>?_)
 ·obtain⟨v,d,rfl,_⟩:=h
  rfl
 ·obtain⟨v,d,rfl,rv,ti,k⟩:=h
  have nd:=MK.nd;refine⟨_,(aK (aR (jl (dM K Z hr.units) (px K (pv 0) aF) bu (bL _)))),?_⟩;rcases vS rv ti with⟨ns,sp,a,b,rfl,rfl,h1,_⟩|⟨w,u,a,y,rfl,hw,rfl,h1,_⟩
  ·refine⟨_,Z,.inr ⟨a,_,0,.str "line",Z,Z,h1,cF (dY 0) Z,.inr ⟨_,_,bp _,bp _,pD,pD,?_⟩⟩⟩
   rw[ou,cf rfl];exact k true ⟨λ_=>⟨_,_,Z⟩,λ_=>rfl⟩
  ·refine⟨_,Z,.inr ⟨a,_,0,.str w,Z,Z,h1,cF (dY 0) Z,.inr ⟨_,_,bp _,bp _,vJ hw,pD,?_⟩⟩⟩
   rw[ou,(yT hw).1];exact k false ⟨λz=>(by cases z),λz=>(Ce hw z).elim⟩
inductive a9W(K:aa)(vs:List V)(H:Hp)(Q:VK):Prop |mk (v:_)(d:_)(h0:vs=[v])(h1:RD K H v d)(h2:TI d)(h3:∀H',aD H H'->Q (.str (dU d)) H')
def qF(K:aa):Sp:=λvs H Q _=>a9W K vs H Q
abbrev Dr:Stmt:=top 81
theorem M0:aW ["item","word","steps","speed","value"] ["item"] (aP Dr):=bj aI
theorem YL(F:FA K mg "show_item" Dr)(B:bC mg)(jo:aB P w K mg au "is_line" 1 (Lm K))(xg:aB P w K mg au "show_numbers" 1 (zA K)):aB P w K mg au "show_item" 2 (qF K):=by
 refine F.has M0 (λvs H Q E h=>?_) (λ_ _ _ _ _ _=>cw λ_=>rfl) (λf aH A outer s H vs Q E hr h=>?_)
 ·obtain⟨v,d,rfl,_⟩:=h
  rfl
 ·obtain⟨v,d,rfl,rv,ti,k⟩:=h
  have nd:=M0.nd;have iY:sizeLine=16777216:=by decide
  have e1:Str.length " "=1:=by decide+kernel
  have e2:Str.length "line"=4:=by decide+kernel
  have e0:Str.empty.length=0:=by decide+kernel
  refine⟨_,(aE (bJ (cK (pf jo hr (ak (pv 0) ay))) (aE (eL (pv 0) (eV K Z (n:=3) Z (bZ (bo 1 nd) (bZ (bo 2 nd) (bZ (bo 3 nd) eU))))) (aK (aR (ud (fR (jH (pv 1)) (fR bu (fR (jH (pf xg hr (ak (pv 2) ay))) (fR bu (fR (jH (pv 3)) ub))))))))) bK) (aE (eL (pv 0) (eV K Z (n:=2) Z (bZ (bo 1 nd) (bZ (bo 4 nd) eU)))) (aK (aR (ud (fR (jH (pv 1)) (fR bu (fR (jH (pv 4)) ub)))))))),?_⟩;refine⟨_,Z,v,d,Z,rv,ti,λb hb=>⟨_,Z,?_⟩⟩;rcases vS rv ti with⟨ns,sp,a,b',rfl,rfl,h1,r2,hl,hn,hs⟩|⟨w,u,a,y,rfl,hw,rfl,h1,ry,hv⟩
  ·cases(hb.mpr ⟨_,_,rfl⟩)
   refine bG ?_;have B9:=uu hn hl;have uM:=fL hs;refine⟨_,Z,a,_,Z,h1,Z,_,_,Z,_,_,Z,_,_,Z,Z,?_⟩;refine⟨_,Z,.inr ⟨"line",Z,aw,_,Z,by simp only[cV];lia,?_⟩⟩;refine⟨_,Z,by simp only[cV];lia,?_⟩;refine⟨_,Z,.ref b',ns,Z,r2,hl,hn,λH1 s1=>.inr ⟨_,Z,aw,_,Z,by simp only[cV];lia,?_⟩⟩;refine⟨_,Z,by simp only[cV];lia,?_⟩;refine⟨_,Z,.inl ⟨sp,Z,fS hs,_,Z,by simp only[cV];change _+(numS sp).length<=_;lia,?_⟩⟩;refine⟨by simp only[cV];change _+(numS sp).length<=_;lia,?_⟩;have e:Str.empty++"line"++" "++gI ns++" "++numS sp=dU (eX ns sp):=by
    rw[AA,JH];have:(Str.ofString "line"++Str.ofString " ")=Str.ofString "line ":=by decide+kernel
    rw[this]
   have:=k H1 s1;rw[<-e]at this;exact this
  ·have rV:b=false:=by cases b with |false=>rfl |true=>exact(Ce hw (hb.mp Z)).elim
   subst rV;refine aY ?_;have w4:=yU hw;refine⟨_,Z,a,_,Z,h1,Z,_,_,Z,_,_,Z,Z,?_⟩;refine⟨_,Z,.inr ⟨w,Z,aw,_,Z,by simp only[cV];lia,?_⟩⟩;refine⟨_,Z,by simp only[cV];lia,?_⟩;have fin:=k H (aD.refl _);have e:Str.empty++w++" "++qx u=dU (.tuple [.str w,u]):=by rw[JH];rcases hv with⟨i,rfl,_⟩|⟨z,rfl,_⟩<;>rfl
   rw[<-e]at fin;rcases hv with⟨i,rfl,rfl,hi⟩|⟨z,rfl,rfl,hz⟩
   ·have uM:=fL hi
    refine⟨_,Z,.inl ⟨i,Z,fS hi,_,Z,by simp only[cV];change _+(numS i).length<=_;lia,?_⟩⟩;exact⟨by simp only[cV];change _+(numS i).length<=_;lia,fin⟩
   ·refine⟨_,Z,.inr ⟨z,Z,aw,_,Z,by simp only[cV];lia,?_⟩⟩
    exact⟨by simp only[cV];lia,fin⟩
theorem sz:sizeLine=16777216:=by decide
theorem dZ:Str.length " "=1:=by decide+kernel
theorem LA:Str.empty.length=0:=by decide+kernel
inductive a9V(K:aa)(vs:List V)(H:Hp)(Q:VK):Prop |mk (v:_)(ds:_)(h0:vs=[v])(h1:RD K H v (.list ds))(h2:(∀d∈ds,TI d))(h3:cy ds=true)(h4:ds.length<=30)(h5:∀H',aD H H'->Q (.str (Txt.join "\n" (ds.map dU))) H')
def Lk(K:aa):Sp:=λvs H Q _=>a9V K vs H Q
abbrev Dt:Stmt:=top 82
theorem M1:aW ["items"] ["items"] (aP Dt):=bj aI
theorem YM(F:FA K mg "show_items" Dt)(B:bC mg)(GX:aB P w K mg au "show_item" 2 (qF K)):aB P w K mg au "show_items" 3 (Lk K):=by
 refine F.has M1 (λvs H Q E h=>?_) (λ_ _ _ _ _ _=>cw λ_=>rfl) (λf aH A outer s H vs Q E hr h=>?_)
 ·obtain⟨v,ds,rfl,_⟩:=h
  rfl
 ·obtain⟨v,ds,rfl,rv,ti,no,hl,k⟩:=h
  have nd:=M1.nd;refine⟨_,(aK (aR (kM K Z bu (ak (eW (N:=["item"]) (js:=[none]) Z Z Z (kL K Z (pv 0)) (λ_ _ _ _ _=>(bo 0 (gR _))) (λ_ _ _ _ _=>dS) (λ_ _ _ _ _=>(pf GX hr (ak (pv 0) ay)))) ay)))),?_⟩;obtain⟨a,xs,rfl,h1,h2⟩:=rv.lst_inv;have lx:=h2.length;refine⟨Z,?_⟩;refine⟨_,Z,a,Z,⟨_,h1⟩,λD H1 n1=>?_⟩;refine qe (K:=K) (ds:=(ds.map dU).map PyData.str) _ h1 n1 (by simp;exact lx) aw (kO _) ?_ ?_
  ·intro i x d H2 Q' ex ed s2 hq
   obtain⟨d',dB,rx⟩:=h2.get' i ex;rw[bQ,bQ,dB]at ed;cases ed;exact⟨_,Z,x,d',Z,RD.mono s2 _ rx,ti d' (fA dB),λH3 s3=>hq _ _ s3 (bp _)⟩
  ·intro H2 zs s2 d2 r2
   rw[jE r2]at d2;refine⟨"\n",D,ds.map dU,Z,Z,aJ.of d2,λz hz=>?_,aI,by rw[bS];lia,k _ s2⟩;obtain⟨d,hd,rfl⟩:=cW.mp hz;have:=uF (ti d hd)
   lia
def jx (i:Int):Prop:=i.natAbs<10^540
theorem nO{i:Int}(h:jx i):(numS i).length<=541:=by show(Str.ofString (toString i)).length<=541;rw[PySem.ofString_length];exact int_text_length_le10 (k:=540) az h
theorem pC{i:Int}(h:jx i):i.natAbs.log2<1920:=by
 by_cases h0:i.natAbs=0
 ·rw[h0];decide
 ·exact(Nat.log2_lt h0).mpr (BX h aI)
inductive aa4(K:aa)(vs:List V)(H:Hp)(Q:VK):Prop |mk (v:_)(a:_)(b:_)(h0:vs=[v])(h1:RD K H v (.tuple [.int a,.int b]))(h2:jx a)(h3:jx b)(h4:Q (.str (hV a b)) H)
def qG(K:aa):Sp:=λvs H Q _=>aa4 K vs H Q
theorem Cc{H:Hp}{v:V}{a b:Int}(h:RD K H v (.tuple [.int a,.int b])):∃p,v= .ref p/\aZ K H p [.int a,.int b]:=by obtain⟨p,xs,rfl,h1,h2⟩:=h.cJ;obtain⟨x1,r,rfl,e1,h2⟩:=h2.cons_inv;obtain⟨x2,r,rfl,e2,h2⟩:=h2.cons_inv;cases h2.nil_inv;cases e1.int_inv;cases e2.int_inv;exact⟨p,Z,h1⟩
theorem CY:Str.length "/"=1:=by decide+kernel
theorem xT{a b:Int}(ha:jx a)(hb:jx b):(hV a b).length<=1100:=by
 have h1:=nO ha;have h2:=nO hb;have h3:=CY;unfold hV;split
 ·lia
 ·simp only[cV];lia
abbrev Du:Stmt:=top 79
theorem M4:aW ["one","p","q"] ["one"] (aP Du):=bj aI
theorem YN(F:FA K mg "show_fraction" Du)(B:bC mg):aB P w K mg au "show_fraction" 1 (qG K):=by
 refine F.has M4 (λvs H Q E h=>?_) (λ_ _ _ _ _ _=>cw λ_=>rfl) (λf aH A outer s H vs Q E hr h=>?_)
 ·obtain⟨v,a,b,rfl,_⟩:=h
  rfl
 ·obtain⟨v,a,b,rfl,rv,na,nb,k⟩:=h
  have nd:=M4.nd;refine⟨_,(aE (eL (pv 0) (eV K Z (n:=2) Z (bZ (bo 1 nd) (bZ (bo 2 nd) eU)))) (aK (aR (iP (bX (dM K Z hr.units) (pv 2) aF (bL _)) (cD (x:="str") fq Z (B.at "str") fj (ak (pv 1) ay)) (ud (fR (jH (pv 1)) (fR bu (fR (jH (pv 2)) ub)))))))),?_⟩;obtain⟨p,rfl,h1⟩:=Cc rv;have l1:=nO na;have l2:=nO nb;have hs:=sz;have h0:=LA;have AM:=CY;refine⟨_,Z,p,_,Z,h1,Z,_,_,Z,_,_,Z,Z,?_⟩;refine⟨_,Z,.inl ⟨_,_,Z,Z,_,Z,?_⟩⟩;by_cases hb:b=1
  ·rw[cf hb]
   refine bG ⟨_,Z,.inl ⟨a,Z,pC na,?_⟩⟩;unfold hV at k;rw[bf hb]at k;exact k
  ·rw[dE hb]
   refine aY ⟨_,Z,.inl ⟨a,Z,pC na,_,Z,by simp only[cV];change _+(numS a).length<=_;lia,?_⟩⟩;refine⟨_,Z,by simp only[cV];change _+(numS a).length+_<=_;lia,?_⟩;refine⟨_,Z,.inl ⟨b,Z,pC nb,_,Z,by simp only[cV];change _+(numS a).length+_+(numS b).length<=_;lia,?_⟩⟩;refine⟨by simp only[cV];change _+(numS a).length+_+(numS b).length<=_;lia,?_⟩;unfold hV at k;rw[bh hb]at k;have e:Str.empty++numS a++"/"++numS b=numS a++"/"++numS b:=by rw[JH]
   rw[<-e]at k;exact k
abbrev Eg:Stmt:=top 114
theorem ME:aW ["_law_one"] ["_law_one"] (aP Eg):=bj aI
theorem Zw(F:FA K mg "_law_fraction_text" Eg)(B:bC mg):aB P w K mg au "_law_fraction_text" 1 (qG K):=by
 refine F.has ME (λvs H Q E h=>?_) (λ_ _ _ _ _ _=>cw λ_=>rfl) (λf aH A outer s H vs Q E hr h=>?_)
 ·obtain⟨v,a,b,rfl,_⟩:=h
  rfl
 ·obtain⟨v,a,b,rfl,rv,na,nb,k⟩:=h
  have nd:=ME.nd;refine⟨_,(aK (aR (iP (bX (dM K Z hr.units) (px K (pv 0) aF) aF (bL _)) (cD (x:="str") fq Z (B.at "str") fj (ak (px K (pv 0) aF) ay)) (aQ gH (aQ gH (cD (x:="str") fq rfl (B.at "str") fj (ak (px K (pv 0) aF) ay)) bu) (cD (x:="str") fq rfl (B.at "str") fj (ak (px K (pv 0) aF) ay)))))),?_⟩;obtain⟨p,rfl,h1⟩:=Cc rv;have l1:=nO na;have l2:=nO nb;have hs:=sz;have AM:=CY;refine⟨_,Z,.inr ⟨p,_,1,.int b,Z,Z,h1,Z,.inl ⟨_,_,Z,Z,_,Z,?_⟩⟩⟩;by_cases hb:b=1
  ·rw[cf hb]
   refine bG ⟨_,Z,.inr ⟨p,_,0,.int a,Z,Z,h1,Z,.inl ⟨a,Z,pC na,?_⟩⟩⟩;unfold hV at k;rw[bf hb]at k;exact k
  ·rw[dE hb]
   refine aY ⟨_,Z,.inr ⟨p,_,0,.int a,Z,Z,h1,Z,.inl ⟨a,Z,pC na,?_⟩⟩⟩;refine⟨_,_,Z,Z,by change (numS a).length+_<=_;lia,?_⟩;refine⟨_,Z,.inr ⟨p,_,1,.int b,Z,Z,h1,Z,.inl ⟨b,Z,pC nb,?_⟩⟩⟩;refine⟨_,_,Z,Z,by simp only[cV];change (numS a).length+_+(numS b).length<=_;lia,?_⟩;unfold hV at k;rw[bh hb]at k;exact k
abbrev Ef:Stmt:=top 113
theorem MD:aW ["_law_item_here"] ["_law_item_here"] (aP Ef):=bj aI
theorem Zv(F:FA K mg "_law_item_text" Ef)(B:bC mg):aB P w K mg au "_law_item_text" 1 (qF K):=by
 refine F.has MD (λvs H Q E h=>?_) (λ_ _ _ _ _ _=>cw λ_=>rfl) (λf aH A outer s H vs Q E hr h=>?_)
 ·obtain⟨v,d,rfl,_⟩:=h
  rfl
 ·obtain⟨v,d,rfl,rv,ti,k⟩:=h
  have nd:=MD.nd;refine⟨_,(aE (bJ (bX (dM K Z hr.units) (px K (pv 0) aF) bu (bL _)) (aK (aR (aQ gH (aQ gH (aQ gH bu (kM K Z bu (ak (eW (N:=["_law_step"]) (js:=[none]) Z Z Z (kg K Z (px K (pv 0) aF)) (λ_ _ _ _ _=>(bo 0 (gR _))) (λ_ _ _ _ _=>dS) (λ_ _ _ _ _=>(cD (x:="str") fq Z (B.at "str") fj (ak (pv 0) ay)))) ay))) bu) (cD (x:="str") fq rfl (B.at "str") fj (ak (px K (pv 0) aF) ay))))) bK) (aK (aR (aQ gH (aQ gH (px K (pv 0) aF) bu) (cD (x:="str") fq Z (B.at "str") fj (ak (px K (pv 0) aF) ay)))))),?_⟩;have hs:=sz;have xP:=dZ;have h5:Str.length "line "=5:=by decide+kernel
  rcases vS rv ti with⟨ns,sp,a,b,rfl,rfl,h1,r2,hl,hn,fe⟩|⟨w,u,a,y,rfl,hw,rfl,h1,ry,hv⟩
  ·refine⟨_,Z,.inr ⟨a,_,0,.str "line",Z,Z,h1,cF (dY 0) Z,.inr ⟨_,_,bp _,bp _,pD,pD,_,Z,?_⟩⟩⟩
   rw[ou,cf rfl];refine bG ?_;have B9:=uu hn hl;have uM:=fL fe;obtain⟨b',xs,e',g1,g2⟩:=r2.cJ;cases e';rw[g2.gJ]at g1;refine⟨Z,?_⟩;refine⟨_,Z,.inr ⟨a,_,1,.ref b,Z,Z,h1,cF az Z,b,Z,⟨_,g1⟩,λD H1 n1=>?_⟩⟩;refine sI (K:=K) (ds:=(ns.map numS).map PyData.str) _ g1 n1 (by simp) (by simp;lia) (kO _) ?_ ?_
   ·intro i x d H2 Q' ex ed s2 hq
    rw[bQ]at ex;obtain⟨n,en,rfl⟩:=yE.mp ex;rw[bQ,bQ,en]at ed;cases ed;have hn:=hn n (fA en);exact⟨_,Z,.inl ⟨n,Z,fS hn,hq _ _ (aD.refl _) (bp _)⟩⟩
   ·intro H2 zs s2 d2 r2
    rw[jE r2]at d2;refine⟨" ",D,ns.map numS,Z,Z,aJ.of d2,λz hz=>?_,aI,by rw[bS];lia,?_⟩
    ·obtain⟨n,rO,rfl⟩:=cW.mp hz
     have:=fL (hn n rO)
     lia
    refine⟨_,_,Z,Z,by change _+(gI ns).length<=_;lia,?_⟩;refine⟨_,_,Z,Z,by simp only[cV];change _+(gI ns).length+_<=_;lia,?_⟩;refine⟨_,Z,.inr ⟨a,_,2,.int sp,Z,Z,h1.go s2,cF az Z,.inl ⟨sp,Z,fS fe,?_⟩⟩⟩;refine⟨_,_,Z,Z,by simp only[cV];change _+(gI ns).length+_+(numS sp).length<=_;lia,?_⟩;have:=k H2 s2;rw[AA]at this;exact this
  ·refine⟨_,Z,.inr ⟨a,_,0,.str w,Z,Z,h1,cF (dY 0) Z,.inr ⟨_,_,bp _,bp _,vJ hw,pD,_,Z,?_⟩⟩⟩
   rw[ou,(yT hw).1];refine aY ?_;have w4:=yU hw;have fin:=k H (aD.refl _);refine⟨_,Z,.inr ⟨a,_,0,.str w,Z,Z,h1,cF (dY 0) Z,?_⟩⟩;refine⟨_,_,Z,Z,aw,?_⟩;refine⟨_,Z,.inr ⟨a,_,1,y,Z,Z,h1,cF az Z,?_⟩⟩;rcases hv with⟨i,rfl,rfl,hi⟩|⟨z,rfl,rfl,hz⟩
   ·have uM:=fL hi
    exact .inl ⟨i,Z,fS hi,_,_,Z,Z,by simp only[cV];change _+(numS i).length<=_;lia,fin⟩
   ·exact .inr ⟨z,Z,_,_,Z,Z,by simp only[cV];lia,fin⟩
def BD(d:ah):Prop:=TI d/\(∀ns sp,d≠eX ns sp)\/∃(ns:List Int)(t a b:Int),d= .tuple [.str "step",.tuple (ns.map PyData.int),.int t,.tuple [.int a,.int b]]/\ns.length<=3/\(∀n∈ns,Nm n)/\jx t/\jx a/\jx b
inductive aa9(K:aa)(vs:List V)(H:Hp)(Q:VK):Prop |mk (v:_)(d:_)(h0:vs=[v])(h1:RD K H v d)(h2:BD d)(h3:∀H',aD H H'->Q (.str (lC d)) H')
def zG(K:aa):Sp:=λvs H Q _=>aa9 K vs H Q
theorem IP{d:ah}(h:TI d)(hn:∀ns sp,d≠eX ns sp):lC d=dU d:=by
 rcases h with⟨ns,sp,rfl,_⟩|⟨w,i,rfl,_⟩|⟨w,z,rfl,_⟩
 ·exact(hn _ _ Z).elim
 ·rfl
 ·rfl
theorem IL(ns:List Int)(t a b:Int):lC (.tuple [.str "step",.tuple (ns.map PyData.int),.int t,.tuple [.int a,.int b]])="step "++gI ns++" "++numS t++" "++hV a b:=by show Str.ofString "step "++Txt.join " " ((ns.map PyData.int).map qx)++" "++numS t++" "++hV a b=_;rw[Ph];rfl
theorem KI{H:Hp}{v:V}{ns:List Int}{t a b:Int}(h:RD K H v (.tuple [.str "step",.tuple (ns.map PyData.int),.int t,.tuple [.int a,.int b]])):∃p r q,v= .ref p/\aZ K H p [.str "step",.ref r,.int t,.ref q]/\RD K H (.ref r) (.tuple (ns.map PyData.int))/\aZ K H r (ns.map V.int)/\RD K H (.ref q) (.tuple [.int a,.int b]):=by obtain⟨p,xs,rfl,h1,h2⟩:=h.cJ;obtain⟨x1,r,rfl,e1,h2⟩:=h2.cons_inv;obtain⟨x2,r,rfl,e2,h2⟩:=h2.cons_inv;obtain⟨x3,r,rfl,e3,h2⟩:=h2.cons_inv;obtain⟨x4,r,rfl,e4,h2⟩:=h2.cons_inv;cases h2.nil_inv;cases e1.str_inv;cases e3.int_inv;obtain⟨r',ys,rfl,g1,g2⟩:=id e2.cJ;rw[g2.gJ]at g1;obtain⟨q,rfl,_⟩:=Cc e4;exact⟨p,r',q,Z,h1,e2,g1,e4⟩
abbrev Dv:Stmt:=top 83
theorem M5:aW ["entry","word","row","t","square"] ["entry"] (aP Dv):=bj aI
theorem YO(F:FA K mg "show_entry" Dv)(B:bC mg)(GX:aB P w K mg au "show_item" 2 (qF K))(xg:aB P w K mg au "show_numbers" 1 (zA K))(xh:aB P w K mg au "show_fraction" 1 (qG K)):aB P w K mg au "show_entry" 3 (zG K):=by
 refine F.has M5 (λvs H Q E h=>?_) (λ_ _ _ _ _ _=>cw λ_=>rfl) (λf aH A outer s H vs Q E hr h=>?_)
 ·obtain⟨v,d,rfl,_⟩:=h
  rfl
 ·obtain⟨v,d,rfl,rv,te,k⟩:=h
  have nd:=M5.nd;refine⟨_,(aE (bJ (bX (m9 K Z hr.units) (px K (pv 0) aF) bu (bL _)) (aK (aR (pf GX hr (ak (pv 0) ay)))) bK) (aE (eL (pv 0) (eV K Z (n:=4) Z (bZ (bo 1 nd) (bZ (bo 2 nd) (bZ (bo 3 nd) (bZ (bo 4 nd) eU)))))) (aK (aR (ud (fR (jH (pv 1)) (fR bu (fR (jH (pf xg hr (ak (pv 2) ay))) (fR bu (fR (jH (pv 3)) (fR bu (fR (jH (pf xh hr (ak (pv 4) ay))) ub)))))))))))),?_⟩;have hs:=sz;have xP:=dZ;have h0:=LA;have h4:Str.length "step"=4:=by decide+kernel
  rcases te with⟨ti,hn⟩|⟨ns,t,a,b,rfl,hl,hn,ht,ha,hb⟩
  ·rw[IP ti hn]at k
   rcases vS rv ti with⟨ns,sp,a,b,rfl,_⟩|⟨w,u,a,y,rfl,hw,rfl,h1,ry,hv⟩
   ·exact(hn _ _ Z).elim
   ·refine⟨_,Z,.inr ⟨a,_,0,.str w,Z,Z,h1,cF (dY 0) Z,.inr ⟨_,_,bp _,bp _,vJ hw,tN,_,Z,?_⟩⟩⟩
    rw[ou,(yT hw).2];exact bG ⟨_,Z,_,_,Z,rv,ti,k⟩
  ·obtain⟨p,r,q,rfl,h1,g2,g3,g4⟩:=KI rv
   refine⟨_,Z,.inr ⟨p,_,0,.str "step",Z,Z,h1,cF (dY 0) Z,.inr ⟨_,_,bp _,bp _,tN,tN,_,Z,?_⟩⟩⟩;rw[ou,cf rfl];refine aY ?_;have B9:=uu hn hl;have uM:=nO ht;have QL:=xT ha hb;refine⟨_,Z,p,_,Z,h1,Z,_,_,Z,_,_,Z,_,_,Z,_,_,Z,Z,?_⟩;refine⟨_,Z,.inr ⟨"step",Z,aw,_,Z,by simp only[cV];lia,?_⟩⟩;refine⟨_,Z,by simp only[cV];lia,?_⟩;refine⟨_,Z,.ref r,ns,Z,g2,hl,hn,λH1 s1=>.inr ⟨_,Z,aw,_,Z,by simp only[cV];lia,?_⟩⟩;refine⟨_,Z,by simp only[cV];lia,?_⟩;refine⟨_,Z,.inl ⟨t,Z,pC ht,_,Z,by simp only[cV];change _+(numS t).length<=_;lia,?_⟩⟩;refine⟨_,Z,by simp only[cV];change _+(numS t).length+_<=_;lia,?_⟩;refine⟨_,Z,.ref q,a,b,Z,RD.mono s1 _ g4,ha,hb,.inr ⟨_,Z,aw,_,Z,by simp only[cV];change _+(numS t).length+_+_<=_;lia,?_⟩⟩;refine⟨by simp only[cV];change _+(numS t).length+_+_<=_;lia,?_⟩;have e:Str.empty++"step"++" "++gI ns++" "++numS t++" "++hV a b="step "++gI ns++" "++numS t++" "++hV a b:=by
    rw[JH];have:(Str.ofString "step"++Str.ofString " ")=Str.ofString "step ":=by decide+kernel
    rw[this]
   have:=k H1 s1;rw[IL,<-e]at this;exact this
abbrev Eh:Stmt:=top 115
theorem MF:aW ["_law_entry","_law_told_here"] ["_law_entry"] (aP Eh):=bj aI
theorem Zy(F:FA K mg "_law_entry_text" Eh)(B:bC mg)(xI:aB P w K mg au "_law_item_text" 1 (qF K))(B7:aB P w K mg au "_law_fraction_text" 1 (qG K)):aB P w K mg au "_law_entry_text" 2 (zG K):=by
 refine F.has MF (λvs H Q E h=>?_) (λ_ _ _ _ _ _=>cw λ_=>rfl) (λf aH A outer s H vs Q E hr h=>?_)
 ·obtain⟨v,d,rfl,_⟩:=h
  rfl
 ·obtain⟨v,d,rfl,rv,te,k⟩:=h
  have nd:=MF.nd;refine⟨_,(aE (bJ (bX (m9 K Z hr.units) (px K (pv 0) aF) bu (bL _)) (aK (aR (pf xI hr (ak (pv 0) ay)))) bK) (aE (pS 1 nd (kM K Z bu (ak (eW (N:=["_law_step"]) (js:=[none]) Z Z Z (kg K Z (px K (pv 0) aF)) (λ_ _ _ _ _=>(bo 0 (gR _))) (λ_ _ _ _ _=>dS) (λ_ _ _ _ _=>(cD (x:="str") fq Z (B.at "str") fj (ak (pv 0) ay)))) ay))) (aK (aR (aQ gH (aQ gH (aQ gH (aQ gH (aQ gH bu (pv 1)) bu) (cD (x:="str") fq Z (B.at "str") fj (ak (px K (pv 0) aF) ay))) bu) (pf B7 hr (ak (px K (pv 0) aF) ay))))))),?_⟩;have hs:=sz;have xP:=dZ;have h5:Str.length "step "=5:=by decide+kernel
  rcases te with⟨ti,hn⟩|⟨ns,t,a,b,rfl,hl,hn,ht,ha,hb⟩
  ·rw[IP ti hn]at k
   rcases vS rv ti with⟨ns,sp,a,b,rfl,_⟩|⟨w,u,a,y,rfl,hw,rfl,h1,ry,hv⟩
   ·exact(hn _ _ Z).elim
   ·refine⟨_,Z,.inr ⟨a,_,0,.str w,Z,Z,h1,cF (dY 0) Z,.inr ⟨_,_,bp _,bp _,vJ hw,tN,_,Z,?_⟩⟩⟩
    rw[ou,(yT hw).2];exact bG ⟨_,Z,_,_,Z,rv,ti,k⟩
  ·obtain⟨p,r,q,rfl,h1,g2,g3,g4⟩:=KI rv
   refine⟨_,Z,.inr ⟨p,_,0,.str "step",Z,Z,h1,cF (dY 0) Z,.inr ⟨_,_,bp _,bp _,tN,tN,_,Z,?_⟩⟩⟩;rw[ou,cf rfl];refine aY ?_;have B9:=uu hn hl;have uM:=nO ht;have QL:=xT ha hb;refine⟨Z,?_⟩;refine⟨_,Z,.inr ⟨p,_,1,.ref r,Z,Z,h1,cF az Z,r,Z,⟨_,g3⟩,λD H1 n1=>?_⟩⟩;refine sI (K:=K) (ds:=(ns.map numS).map PyData.str) _ g3 n1 (by simp) (by simp;lia) (kO _) ?_ ?_
   ·intro i x d H2 Q' ex ed s2 hq
    rw[bQ]at ex;obtain⟨n,en,rfl⟩:=yE.mp ex;rw[bQ,bQ,en]at ed;cases ed;have hn:=hn n (fA en);exact⟨_,Z,.inl ⟨n,Z,fS hn,hq _ _ (aD.refl _) (bp _)⟩⟩
   ·intro H2 zs s2 d2 r2
    rw[jE r2]at d2;refine⟨" ",D,ns.map numS,Z,Z,aJ.of d2,λz hz=>?_,aI,by rw[bS];lia,?_⟩
    ·obtain⟨n,rO,rfl⟩:=cW.mp hz
     have:=fL (hn n rO)
     lia
    have rZ:=h1.go s2;refine⟨_,Z,?_⟩;refine⟨_,_,Z,Z,by change _+(gI ns).length<=_;lia,?_⟩;refine⟨_,_,Z,Z,by simp only[cV];change _+(gI ns).length+_<=_;lia,?_⟩;refine⟨_,Z,.inr ⟨p,_,2,.int t,Z,Z,rZ,cF az Z,.inl ⟨t,Z,pC ht,?_⟩⟩⟩;refine⟨_,_,Z,Z,by simp only[cV];change _+(gI ns).length+_+(numS t).length<=_;lia,?_⟩;refine⟨_,_,Z,Z,by simp only[cV];change _+(gI ns).length+_+(numS t).length+_<=_;lia,?_⟩;refine⟨_,Z,.inr ⟨p,_,3,.ref q,Z,Z,rZ,cF az Z,.ref q,a,b,Z,RD.mono s2 _ g4,ha,hb,?_⟩⟩;refine⟨_,_,Z,Z,by simp only[cV];change _+(gI ns).length+_+(numS t).length+_+_<=_;lia,?_⟩;have:=k H2 s2;rw[IL]at this;exact this
end
end _b
set_option maxHeartbeats 1000000
namespace _b
open PySem PySem.Spec PyProof.Rows _L _r _l _W
open _O (Itm)
section
variable {P:af}{w:World}{K:aa}{mg:bD}{au:Heap}
abbrev Ea:Stmt:=top 107
theorem Mw:aW ["_law_bag_here","_law_axes","_law_far","_law_rails","_law_bounds"] ["_law_bag_here"] (aP Ea):=bj aI
theorem Zt(F:FA K mg "_law_machine" Ea)(B:bC mg)(dJ:aB P w K mg au "_law_take" 1 lV):aB P w K mg au "_law_machine" 2 (Li K):=by
 refine F.has Mw (λvs H Q E h=>?_) (λ_ _ _ _ _ _=>cw λ_=>rfl) (λf aH A outer s H vs Q E hr h=>?_)
 ·obtain⟨p,rfl,_⟩:=h
  rfl
 ·obtain⟨p,rfl,bg,k⟩:=h
  have nd:=Mw.nd;refine⟨_,(aE (pS 1 nd (aQ dP aF (pf dJ hr (ak (pv 0) (ak aF ay))))) (aE (pS 2 nd (px K (da (ak aF (ak aF ay))) (pf dJ hr (ak (pv 0) (ak aF ay))))) (aE (pS 3 nd (cD (x:="tuple") (jZ K Z) Z (B.at "tuple") iJ (ak (eW (N:=["_law_axis","_law_bag_here","_law_far"]) (js:=[none,some 0,some 2]) rfl rfl rfl (p4 rfl (B.at "range") (ak (pv 1) ay)) (λ_ _ _ _ _=>(bo 0 (show List.Nodup (["_law_axis","_law_bag_here","_law_far"]:List Str) by decide+kernel))) (λ_ _ _ _ _=>dS) (λ_ _ _ _ _=>(aQ dP aF (pf dJ hr (ak (pv 1) (ak (pv 2) ay)))))) ay))) (aE (pS 4 nd (cD (x:="tuple") (jZ K Z) Z (B.at "tuple") iJ (ak (eW (N:=["_law_k","_law_bag_here"]) (js:=[none,some 0]) rfl rfl rfl (p4 rfl (B.at "range") (ak aF ay)) (λ_ _ _ _ _=>(bo 0 (ki az))) (λ_ _ _ _ _=>dS) (λ_ _ _ _ _=>(aQ dP aF (pf dJ hr (ak (pv 1) (ak aF ay)))))) ay))) (aK (aR (aQ (Sv K Z) (aQ (Sv K Z) (gQ (ak (pv 3) ay)) (pv 4)) (gQ (ak (aQ dP aF (pf dJ hr (ak (pv 0) (ak aF ay)))) ay))))))))),?_⟩;refine⟨_,Z,p,2,Z,bg,az,az,λt0 H1 Kx Kw b1=>?_⟩;refine⟨_,_,Z,Z,?_⟩;refine⟨ck Z,λl H2 nw=>?_⟩;have b2:bN p H1 H2:=.eg b1.bM nw.same;have x6:l≠p:=λe=>b1.bM.ne (e▸nw.no);refine⟨_,Z,p,2,Z,b2.bM,az,az,λi H3 i0 i1 b3=>?_⟩;obtain⟨sx,mf,ef⟩:=AD [100,20] i0 i1;have f1:1<=sx/\sx<=100:=by
   rcases cj.mp mf with rfl|mf
   ·exact⟨az,az⟩
   rcases cj.mp mf with rfl|mf
   ·exact⟨az,az⟩
   ·exact(eQ mf).elim
  refine .inl ⟨l,_,_,_,Z,Z,aJ.of (b3.same _ _ x6 nw.at'),ef,?_⟩;refine⟨_,Z,_,Z,aw,aw,λD H4 n4=>?_⟩;have hN:(2+t0).toNat<=1000:=by lia
  refine J2 (2+t0).toNat [some (.ref p),some (.int sx)] n4 b3.bM hN (λi=>.int (0+(i:Int))) (λi H5 hi b5=>⟨hi,λy H6 ⟨e1,e2⟩=>⟨e1,e2⟩⟩) (λH5 b5=>bO _) (λz=>1<=z/\z<=100) ?_ ?_
  ·intro i H5 Q' hi b5 hq
   refine⟨_,Z,_,Z,p,sx,Z,b5.bM,f1.1,aw,λz H6 z0 z1 b6=>?_⟩;exact⟨_,_,Z,Z,hq _ _ ⟨aw,aw⟩ b6⟩
  intro H5 rs b5 d5 lr pr;refine⟨D,_,Z,.inl ⟨aJ.of d5,λq H6 n6=>?_⟩⟩;have b6:bN p H5 H6:=.eg b5.bM n6.same;refine⟨3,Z,az,az,λD2 H7 n7=>?_⟩;refine J2 3 [some (.ref p)] n7 b6.bM az (λi=>.int (0+(i:Int))) (λi H8 hi b8=>⟨hi,λy H9 ⟨e1,e2⟩=>⟨e1,e2⟩⟩) (λH8 b8=>bO _) (λz=>1<=z/\z<=50) ?_ ?_
  ·intro i H8 Q' hi b8 hq
   refine⟨_,Z,p,50,Z,b8.bM,az,az,λz H9 z0 z1 b9=>?_⟩;exact⟨_,_,Z,Z,hq _ _ ⟨aw,aw⟩ b9⟩
  intro H8 bs b8 d8 lb pb;refine⟨D2,_,Z,.inl ⟨aJ.of d8,λq2 H9 n9=>?_⟩⟩;have b9:bN p H8 H9:=.eg b8.bM n9.same;refine⟨_,Z,ck Z,λt1 mQ Gh=>?_⟩;have gz:bN p H9 mQ:=.eg b9.bM Gh.same
  match bs,lb,pb,n9 with |[x1,x2,x3],_,pb,n9=>have p1:=pb x1 (.head _);have p2:=pb x2 (.tail _ (.head _));have p3:=pb x3 (.tail _ (.tail _ (.head _)));refine⟨_,Z,t1,q2,_,_,Z,Z,aZ.of Gh.at',aZ.of (Gh.same _ _ n9.at'),ck Z,λv1 kA F9 a11=>?_⟩;have BB:bN p mQ kA:=.eg gz.bM F9;refine⟨_,Z,p,100,Z,BB.bM,az,az,λz H12 z0 z1 sL=>?_⟩;refine⟨_,_,Z,Z,ck Z,λt2 TB Gg=>?_⟩;have Jg:bN p H12 TB:=.eg sL.bM Gg.same;refine⟨v1,t2,_,_,Z,Z,(aZ.t (bN.t BB.bM sL) a11).go Gg.same,aZ.of Gg.at',ck Z,λv2 JB ji a14=>?_⟩;have sJ:bN p TB JB:=.eg Jg.bM ji;have sq:aZ K JB q (rs.map V.int):=aZ.t (bN.t b6.bM (b8.trans (b9.trans (gz.trans (BB.trans (sL.trans (Jg.trans sJ))))))) (aZ.of n6.at');refine k (.ref v2) rs x1 x2 x3 (1+z) JB (fQ a14 (cI (fQ sq (wz rs)) (cI (fC _) (cI (fC _) (cI (fC _) (cI (fC _) dv)))))) ⟨aw,pr,p1,p2,p3,aw⟩ (b1.trans (b2.trans (b3.trans (b5.trans (b6.trans (b8.trans (b9.trans (gz.trans (BB.trans (sL.trans (Jg.trans sJ)))))))))))
inductive a9N(vs:List V)(H:Hp)(Q:VK):Prop |mk (p:_)(h0:vs=[.ref p])(h1:ft H p)(h2:∀z H',dg 0 (.str z)->nQ z=true->bN p H H'->Q (.str z) H')
def Lh(K:aa):Sp:=λvs H Q _=>a9N vs H Q
abbrev E6:Stmt:=top 109
theorem Mr:aW ["_law_bag_here"] ["_law_bag_here"] (aP E6):=bj aI
theorem Zq(F:FA K mg "_law_name" E6)(B:bC mg)(dJ:aB P w K mg au "_law_take" 1 lV):aB P w K mg au "_law_name" 2 (Lh K):=by
 refine F.has Mr (λvs H Q E h=>?_) (λ_ _ _ _ _ _=>cw λ_=>rfl) (λf aH A outer s H vs Q E hr h=>?_)
 ·obtain⟨p,rfl,_⟩:=h
  rfl
 ·obtain⟨p,rfl,bg,k⟩:=h
  have nd:=Mr.nd;refine⟨_,(aK (aR (kM K Z bu (ak (eW (N:=["_law_k","_law_bag_here"]) (js:=[none,some 0]) Z Z Z (p4 Z (B.at "range") (ak (aQ dP aF (pf dJ hr (ak (pv 0) (ak aF ay)))) ay)) (λ_ _ _ _ _=>(bo 0 (ki az))) (λ_ _ _ _ _=>dS) (λ_ _ _ _ _=>(FL PZ bu (pf dJ hr (ak (pv 1) (ak aF ay))) (λ_ _=>rfl)))) ay)))),?_⟩;refine⟨Z,?_⟩;refine⟨_,Z,p,8,Z,bg,az,az,λn H1 n0 n1 b1=>?_⟩;refine⟨_,_,Z,Z,_,Z,bI,bI,λD H2 nD=>?_⟩;refine J1 (K:=K) (J:=mO 0 (1+n).toNat) (p:=p) (H:=H1) (1+n).toNat _ nD b1.bM bI (λi=>.int (0+(i:Int))) (λi H3 hi _=>⟨hi,λy H4 ⟨e,q⟩=>⟨e,q⟩⟩) (λH3 _=>bO _) (λ_ d=>∃z:Str,d= .str z/\z.length=1/\cS z/\z.cps.toList.all (λc=>decide (97<=c)&&decide (c<=122))=true) ?_ ?_
  ·intro i H3 Q' hi b3 hq
   refine⟨_,Z,p,26,Z,b3.bM,az,az,λd H4 d0 d1 b4=>?_⟩;have hd:d.toNat<iB.cps.toList.length:=by rw[a8L];omega
   refine⟨iB,d,iB.cps.toList[d.toNat],Z,Z,aI,cF d0 (cu hd),?_⟩;have iR:cS ⟨#[iB.cps.toList[d.toNat]]⟩:=λc hc=>by have jN:c=iB.cps.toList[d.toNat]:=dH.mp hc;rw[jN];exact a8J _ (vC hd)
   have fX:(⟨#[iB.cps.toList[d.toNat]]⟩:Str).cps.toList.all (λc=>decide (97<=c)&&decide (c<=122))=true:=by have:=fV.mp (show iB.cps.toList.all (λc=>decide (97<=c)&&decide (c<=122))=true by decide+kernel) _ (vC hd);show([iB.cps.toList[d.toNat]]:List Nat).all _=true;rw[vG,K3,yM];exact this
   exact hq _ _ _ ⟨_,Z,Z,iR,fX⟩ Z (bp _) b4
  ·intro H3 ys ds b3 d3 r3 l3 nl pd
   obtain⟨zs,rfl,hz⟩:=KA ds λd hd=>by obtain⟨i,hi⟩:=oO.mp hd;exact pd i d hi
   rw[jE r3]at d3;rw[bS]at l3;refine⟨"",D,zs,Z,Z,aJ.of d3,λz kr=>by rw[(hz z kr).1];decide,az,bI,?_⟩;exact k _ _ (Yy (cS.join (iQ aI) λa ha=>(hz a ha).2.1)) (a0W bI bI λz kr=>⟨(hz z kr).1,(hz z kr).2.2⟩) (b1.trans b3)
inductive a9Z(K:aa)(vs:List V)(H:Hp)(Q:VK):Prop |mk (p:Addr)(ax:Nat)(h0:vs=[.ref p,.int ax])(h1:ft H p)(h2:1<=ax)(h3:ax<=3)(h4:∀v d o H',RD K H' v d->iC ax d o->bN p H H'->Q v H')
def Ll(K:aa):Sp:=λvs H Q _=>a9Z K vs H Q
theorem iC.gF{n:Nat}{d:ah}(h:vi d):iC n d none:=⟨h.it,(λ_ _ z=>nomatch z),λ_=>h⟩
abbrev Ei:Stmt:=top 110
theorem MG:aW ["_law_bag_here","_law_axes","_law_sort","_law_speed","_law_most","_law_steps"] ["_law_bag_here","_law_axes"] (aP Ei):=bj aI
theorem ZF(F:FA K mg "_law_item" Ei)(B:bC mg)(dJ:aB P w K mg au "_law_take" 1 lV)(a50:aB P w K mg au "_law_name" 2 (Lh K)):aB P w K mg au "_law_item" 3 (Ll K):=by
 refine F.has MG (λvs H Q E h=>?_) (λ_ _ _ _ _ _=>dF λ_ _=>rfl) (λf aH A outer s H vs Q E hr h=>?_)
 ·obtain⟨p,ax,rfl,_⟩:=h
  rfl
 ·obtain⟨p,ax,rfl,bg,ax1,ax2,k⟩:=h
  have nd:=MG.nd;refine⟨_,(aE (pS 2 nd (pf dJ hr (ak (pv 0) (ak aF ay)))) (aE (bJ (bX (dM K Z hr.units) (pv 2) aF (bL _)) (aK (aR (gQ (ak bu (ak (aQ dP aF (pf dJ hr (ak (pv 0) (ak aF ay)))) ay))))) bK) (aE (bJ (bX (dM K Z hr.units) (pv 2) aF (bL _)) (aK (aR (gQ (ak bu (ak (px K (da (ak bu (ak bu ay))) (pf dJ hr (ak (pv 0) (ak aF ay)))) ay))))) bK) (aE (bJ (bX (dM K Z hr.units) (pv 2) aF (bL _)) (aK (aR (gQ (ak bu (ak (pf a50 hr (ak (pv 0) ay)) ay))))) bK) (aE (pS 3 nd (aQ dP aF (pf dJ hr (ak (pv 0) (ak aF ay))))) (aE (pS 4 nd (px K (da (ak aF (ak aF (ak aF ay)))) (pf dJ hr (ak (pv 0) (ak aF ay))))) (aE (zZ (i0:=5) nd Z (Or.inl Z) (N:=["_law_axis","_law_most","_law_bag_here"]) (js:=[none,some 4,some 0]) Z Z Z (p4 Z (B.at "range") (ak (pv 1) ay)) (λ_ _ _ _ _=>(bo 0 (show List.Nodup (["_law_axis","_law_most","_law_bag_here"]:List Str) by decide+kernel))) (λ_ _ _ _ _=>dS) (λ_ _ _ _ _=>(aQ jm (pf dJ hr (ak (pv 2) (ak (aQ dP (aQ cB aF (pv 1)) aF) ay))) (pv 1)))) (aE (iO (bJ (dw (cK (dy (x:="any") (SV K Z Z) Z (B.at "any") Uc (ak (pv 5) ay)))) (aK (eL aF (qT (pv 5) (pf dJ hr (ak (pv 0) (ak (pv 1) ay))) set_list))) bK)) (aK (aR (gQ (ak bu (ak (cD (x:="tuple") (jZ K Z) Z (B.at "tuple") iJ (ak (pv 5) ay)) (ak (pv 3) ay)))))))))))))),?_⟩;refine⟨_,Z,p,6,Z,bg,az,az,λso H1 s0 s1 b1=>?_⟩;refine⟨_,Z,.inl ⟨_,_,Z,Z,_,Z,?_⟩⟩;refine fc (λhc=>?_) (λhc=>?_)
  ·refine⟨_,Z,p,1000,Z,b1.bM,az,az,λn H2 n0 n1 b2=>?_⟩
   refine⟨_,_,Z,Z,ck Z,λt H3 n3=>?_⟩;exact k (.ref t) _ none H3 (fQ (aZ.of n3.at') (cI (bp _) (cI (fC _) dv))) (.gF (.inl ⟨_,Z,bI,bI⟩)) (b1.trans (b2.trans (.eg b2.bM n3.same)))
  refine⟨_,Z,.inl ⟨_,_,Z,Z,_,Z,?_⟩⟩;refine fc (λhc=>?_) (λhc=>?_)
  ·refine⟨ck Z,λc H2 n2=>?_⟩
   have b2:bN p H1 H2:=.eg b1.bM n2.same;have cp:c≠p:=λz=>b1.bM.ne (z▸n2.no);refine⟨_,Z,p,2,Z,b2.bM,az,az,λi H3 i0 i1 b3=>?_⟩;have hi:∃z:Str,eZ ([.str "up",.str "down"]:List V) i=some (.str z)/\dg 0 (.str z)/\FO "tool" z:=by
    rcases(show i=0\/i=1 by omega)with rfl|rfl
    ·exact⟨"up",Z,⟨aI,aI⟩,.inl ⟨Z,.inl Z⟩⟩
    ·exact⟨"down",Z,⟨aI,aI⟩,.inl ⟨Z,.inr Z⟩⟩
   obtain⟨z,ez,FT,Yt⟩:=hi;refine .inl ⟨c,_,_,_,Z,Z,aJ.of (b3.same _ _ cp n2.at'),ez,ck Z,λt H4 n4=>?_⟩;exact k (.ref t) _ none H4 (fQ (aZ.of n4.at') (cI (bp _) (cI (bp _) dv))) (.gF (.inr ⟨_,_,Z,.inl Z,FT,Yt⟩)) (b1.trans (b2.trans (b3.trans (.eg b3.bM n4.same))))
  refine⟨_,Z,.inl ⟨_,_,Z,Z,_,Z,?_⟩⟩;refine fc (λhc=>?_) (λhc=>?_)
  ·refine⟨_,Z,p,Z,b1.bM,λz H2 FT nz b2=>⟨ck Z,λt H3 n3=>?_⟩⟩
   exact k (.ref t) _ none H3 (fQ (aZ.of n3.at') (cI (bp _) (cI (bp _) dv))) (.gF (.inr ⟨_,_,Z,.inr Z,FT,.inr ⟨Z,nz⟩⟩)) (b1.trans (b2.trans (.eg b2.bM n3.same)))
  refine⟨_,Z,p,20,Z,b1.bM,az,az,λsp H2 p0 p1 b2=>?_⟩;refine⟨_,_,Z,Z,?_⟩;refine⟨ck Z,λc H3 n3=>?_⟩;have b3:bN p H2 H3:=.eg b2.bM n3.same;have cp:c≠p:=λz=>b2.bM.ne (z▸n3.no);refine⟨_,Z,p,3,Z,b3.bM,az,az,λi H4 i0 i1 b4=>?_⟩;have hm:∃m:Int,eZ ([.int 3,.int 20,.int 100]:List V) i=some (.int m)/\1<=m/\m<=100:=by
   rcases(show i=0\/i=1\/i=2 by omega)with rfl|rfl|rfl
   ·exact⟨3,Z,az,az⟩
   ·exact⟨20,Z,az,az⟩
   ·exact⟨100,Z,az,az⟩
  obtain⟨m,em,m1,m2⟩:=hm;refine .inl ⟨c,_,_,_,Z,Z,aJ.of (b4.same _ _ cp n3.at'),em,?_⟩;have sJ:=b1.trans (b2.trans (b3.trans b4));refine⟨_,Z,_,Z,bI,bI,λD H5 nD=>?_⟩;refine J2 (J:=mO 0 ax) (p:=p) (H:=H4) ax _ nD sJ.bM bI (λi=>.int (0+(i:Int))) (λi H3 hi _=>⟨hi,λy H4 ⟨e,q⟩=>⟨e,q⟩⟩) (λH3 _=>bO _) (λz=>(z.natAbs:Int)<=m) ?_ ?_
  ·intro i H6 Q' hi b6 hq
   refine⟨_,Z,_,Z,_,_,Z,Z,.of_left (du az az),_,_,Z,Z,p,2*m+1,Z,b6.bM,bI,bI,λd H7 d0 d1 b7=>?_⟩;exact⟨_,Z,_,_,Z,Z,hq _ _ bI b7⟩
  intro H6 is b6 d6 l6 SN;have Jf:=sJ.trans b6;have lp:D≠p:=λz=>sJ.bM.ne (z▸nD.no);have nl:H D=none:=by cases e:H D with |none=>rfl |some o=>have:=sJ.same _ _ lp e;rw[nD.no]at this;cases this
  refine⟨λO H7=>bN p H H7/\∃(is:List Int),H7 D=some (.lst (is.map V.int))/\eO ax 100 is/\O=[some (.ref p),some (.int ax),some (.int so),some (.int (1+sp)),some (.int m),some (.ref D)],?_,?_⟩
  ·refine⟨_,Z,D,is,Z,.inl (aJ.of d6),_,Z,?_⟩
   cases ha:is.any (· !=0)with |false=>
    refine bG ?_;refine⟨_,Z,_,Z,_,Z,p,(ax:Int),Z,Jf.bM,bI,bI,λix H7 i0 i1 b7=>?_⟩;have d7:=b7.same _ _ lp d6;refine⟨D,_,ix,ix.toNat,Z,Z,d7,?_,?_⟩
    ·unfold hU;rw[bf i0,bf (by rw[bS,l6];exact i1)]
    refine⟨?_,is.set ix.toNat 1,?_,⟨?_,?_,?_⟩,Z⟩
    ·have SR:=Jf.trans b7
     refine⟨?_,λb o n e=>?_⟩
     ·obtain⟨c',m',e,ok⟩:=SR.bM
      exact⟨c',m',by rw[aV lp.symm];exact e,ok⟩
     ·rw[aV (g6 e nl)];exact SR.same b o n e
    ·rw[bW,BZ]
    ·rw[vB];exact l6
    ·intro z hz
     rcases List.mem_or_eq_of_mem_set hz with h|h
     ·have:=SN z h;omega
     ·rw[h];decide
    ·exact⟨1,Uh.mpr ⟨ix.toNat,by rw[vB];omega,by rw[Ul]⟩,az⟩ |true=>refine aY ?_;refine⟨Jf,is,d6,⟨l6,λz hz=>by have:=SN z hz;omega,?_⟩,Z⟩;obtain⟨z,hz,h0⟩:=Uq.mp ha;exact⟨z,hz,by simpa using h0⟩
  rintro O H7 ⟨b7,is,d7,ok,rfl⟩;refine⟨_,Z,D,_,Z,.inl ⟨aJ.of d7,λq H8 n8=>?_⟩⟩;refine⟨_,Z,ck Z,λt H9 n9=>?_⟩;refine k (.ref t) (eX is (1+sp)) (some (is,1+sp)) H9 (fQ (aZ.of n9.at') (cI (bp _) (cI (fQ (aZ.of (n9.same _ _ n8.at')) (wz is)) (cI (fC _) dv)))) ⟨.inl ⟨is,_,Z,Z⟩,λns sp e=>by cases e;exact⟨ok,bI,bI⟩,λz=>nomatch z⟩ (b7.trans (.eg b7.bM (n8.same.trans n9.same)))
end
end _b
set_option maxHeartbeats 2000000
namespace _b
open PySem PySem.Spec PyProof.Rows _L _l _W
open _T (numS numIn? figs isFig Free)
open _O (Itm)
section
variable {P:af}{w:World}{K:aa}{mg:bD}{au:Heap}
theorem Ay(sep a:Str)(as:List Str)(h:as≠[]):Txt.join sep (a::as)=a++sep++Txt.join sep as:=by show Builtin.Str.glued sep (a::as)=a++sep++Builtin.Str.glued sep as;rw[yA,yA];cases as with |nil=>exact(h Z).elim |cons b r=>rfl
theorem join_snoc(sep b:Str):∀(as:List Str),as≠[]->Txt.join sep (as++[b])=Txt.join sep as++sep++b |[],h=>(h Z).elim |[a],_=>rfl |a::c::r,_=>by have e:=join_snoc sep b (c::r) (by simp);rw[List.cons_append,Ay sep a (c::r++[b]) (by simp),e,Ay sep a (c::r) (by simp)];simp only[PySem.Str.append_assoc]
theorem Gw(ns:List Int)(sp:Int)(h:ns≠[]):dU (eX ns sp)=Txt.join ⟨#[32]⟩ ("line"::(ns.map numS++[numS sp])):=by
 have hn:ns.map numS≠[]:=by simpa using h
 rw[AA,<-oW,Ay _ _ _ (by simp),join_snoc _ _ _ hn];have e:("line ":Str)="line"++" ":=by decide+kernel
 rw[e];unfold gI;simp only[PySem.Str.append_assoc]
theorem Bb{c:Nat}{a b:Str}(ha:Free c a)(hb:Free c b):Free c (a++b):=λh=>by rw[vw,vI,mU]at h;exact h.elim ha hb
theorem QY{c:Nat}{sep:Str}(hs:Free c sep):∀l:List Str,(∀a∈l,Free c a)->Free c (Txt.join sep l) |[],_=>λh=>by have e:(Txt.join sep []).cps.toList=[]:=rfl;rw[e]at h;cases h |[x],h=>h x (.head _) |x::y::r,h=>by rw[Ay _ _ _ (by simp)];exact Bb (Bb (h x (.head _)) hs) (QY hs (y::r) λa ha=>h a (.tail _ ha))
theorem p8(i:Int):cS (numS i):=λc hc=>by cases i with |ofNat m=>rw[show(numS (Int.ofNat m)).cps.toList=_ from _T.Br m]at hc;have:=_T.oz m c hc;omega |negSucc m=>
 rw[_T.Bq]at hc;rcases cj.mp hc with e|hc
 ·omega
 ·have:=_T.oz (m+1) c hc
  omega
structure oK(n:Nat)(d:ah):Prop where
 rt:rH n (dU d)=d
 len:(dU d).length<=400
 ok:sO (dU d)
 fr:Free 10 (dU d)
 ti:TI d
 uo:dg 8 d
theorem j4{c:Nat}{z:Str}(h:(z.cps.toList.all λx=>x !=c)=true):Free c z:=λhc=>by have:=fV.mp h c hc;simp at this
theorem a0X{c:Nat}{z:Str}(h:nQ z=true)(hc:c<97):Free c z:=λh'=>by unfold nQ at h;rw[eH]at h;have:=fV.mp h.2 c h';unfold As at this;simp at this;omega
theorem Oz{c:Nat}{w s:Str}(h:FO w s)(hc:c=10\/c=32):Free c s:=by
 rcases h with⟨_,rfl|rfl⟩|⟨_,hn⟩
 ·rcases hc with rfl|rfl<;>exact j4 aI
 ·rcases hc with rfl|rfl<;>exact j4 aI
 ·exact a0X hn bI
theorem Gf{i:Int}(h:i.natAbs<10^40):nI (numS i)= .int i:=by unfold nI;have:(numS i).length<=41:=Kh h;rw[_T.G2 bI];rfl
theorem a0Y{ns:List Int}(h:∀z∈ns,z.natAbs<10^40):(ns.map numS).map nI=ns.map PyData.int:=by rw[JY];exact List.map_congr_left λz hz=>Gf (h z hz)
theorem Q4{n:Nat}{d:ah}{ws:List Str}(e:dU d=Txt.join ⟨#[32]⟩ ws)(hn:ws≠[])(hf:∀z∈ws,Free 32 z)(ht:fW ws=d)(hi:kQ n d=true):rH n (dU d)=d:=by unfold rH;rw[e,oW,_T.KR hn hf,ht,hi];rfl
theorem iC.tx{n:Nat}{d:ah}{o:Itm}(h:iC n d o)(n1:1<=n)(n3:n<=3):oK n d:=by have hi:=h.is.1;have dZ:cS (" ":Str):=iQ aI;have QU:Free 10 (" ":Str):=j4 aI;cases o with
 |some q=>
  obtain⟨ns,sp⟩:=q;have ed:=mx h.it;subst ed;obtain⟨dj,s1,s2⟩:=h.ln ns sp rfl;have hb:∀z∈ns,z.natAbs<10^40:=λz hz=>by have:=dj.bd z hz;omega
  have hs:sp.natAbs<10^40:=by omega
  have df:ns≠[]:=λe=>by rw[e]at dj;have:=dj.len;simp at this;omega
  have ti:TI (eX ns sp):=.inl ⟨ns,sp,Z,by rw[dj.len];exact n3,hb,hs⟩;refine⟨Q4 (Gw ns sp df) (by simp) (λz hz=>?_) ?_ hi,uF ti,?_,?_,ti,h.is.2.1⟩
  ·rcases cj.mp hz with rfl|hz
   ·exact j4 aI
   ·rcases mU.mp hz with hz|hz
    ·obtain⟨i,_,rfl⟩:=cW.mp hz
     exact _T.qZ az az
    ·rw[dH.mp hz];exact _T.qZ az az
  ·obtain⟨x,xs,rfl⟩:∃x xs,ns=x::xs:=by cases ns with|nil=>exact(df rfl).elim|cons x xs=>exact⟨x,xs,rfl⟩
   have e1:(x::xs).map numS++[numS sp]=numS x::(xs.map numS++[numS sp]):=rfl;have e2:(numS x::(xs.map numS++[numS sp])).map nI=(x::xs).map PyData.int++[.int sp]:=by rw[<-e1,mV,a0Y hb];show _++[nI (numS sp)]=_;rw[Gf hs]
   rw[e1,Cg,e2,fP,bS,List.length_singleton,List.take_left' (by simp),Uj,List.getLast?_append,List.getLast?_singleton];rfl
  ·rw[Gw ns sp df,<-oW]
   refine cS.join dZ λa ha=>?_;rcases cj.mp ha with rfl|ha
   ·exact iQ aI
   ·rcases mU.mp ha with ha|ha
    ·obtain⟨i,_,rfl⟩:=cW.mp ha
     exact p8 i
    ·rw[dH.mp ha];exact p8 sp
  ·rw[Gw ns sp df,<-oW]
   refine QY QU _ λa ha=>?_;rcases cj.mp ha with rfl|ha
   ·exact j4 aI
   ·rcases mU.mp ha with ha|ha
    ·obtain⟨i,_,rfl⟩:=cW.mp ha
     exact _T.qZ az az
    ·rw[dH.mp ha];exact _T.qZ az az |none=>
  have key:∀(w y:Str)(u:ah),d= .tuple [.str w,u]->dU d=w++" "++y->w≠"line"->(if w="wait" then nI y else .str y)=u->Free 32 w->Free 32 y->Free 10 w->Free 10 y->cS w->cS y->TI d->oK n d:=λw y u e1 e2 hw hu f1 f2 f3 f4 o1 o2 ti=>by
   have ej:dU d=Txt.join ⟨#[32]⟩ [w,y]:=by rw[e2,<-oW];rfl
   refine⟨Q4 ej (by simp) (λz hz=>?_) ?_ hi,uF ti,?_,?_,ti,h.is.2.1⟩
   ·simp only[cj,eQ,iI]at hz
    rcases hz with rfl|rfl
    ·exact f1
    ·exact f2
   ·rw[zf hw,hu,e1]
   ·rw[e2];exact(o1.app dZ).app o2
   ·rw[e2];exact Bb (Bb f3 QU) f4
  rcases h.ot rfl with⟨z,rfl,z1,z2⟩|⟨w,s,rfl,hw,qX,on⟩
  ·have hb:z.natAbs<10^40:=by omega
   exact key "wait" (numS z) (.int z) Z Z aI (by rw[bf Z,Gf hb]) (j4 aI) (_T.qZ az az) (j4 aI) (_T.qZ az az) (iQ aI) (p8 z) (.inr (.inl ⟨_,_,Z,.inl Z,hb⟩))
  ·have hl:s.length<=100:=by
    rcases on with⟨_,rfl|rfl⟩|⟨_,hn⟩
    ·decide+kernel
    ·decide+kernel
    ·unfold nQ at hn
     simp only[eH,BP]at hn;omega
   have df:w≠"line"/\w≠"wait"/\Free 32 w/\Free 10 w/\cS w:=by
    rcases hw with rfl|rfl
    ·exact⟨aI,aI,j4 aI,j4 aI,iQ aI⟩
    ·exact⟨aI,aI,j4 aI,j4 aI,iQ aI⟩
   exact key w s (.str s) Z Z df.1 (by rw[bh df.2.1]) df.2.2.1 (Oz on (.inr Z)) df.2.2.2.1 (Oz on (.inl Z)) df.2.2.2.2 (OH qX) (.inr (.inr ⟨_,_,Z,.inr hw,hl⟩))
theorem oK.no{n:Nat}{d:ah}(h:oK n d):eM d=true:=by
 rcases h.ti with⟨ns,sp,rfl,_⟩|⟨w,i,rfl,_⟩|⟨w,z,rfl,_⟩
 ·exact PD _ _
 ·rfl
 ·rfl
theorem oK.ne{n:Nat}{d:ah}(h:oK n d):d≠ .none:=by rcases h.ti with⟨ns,sp,rfl,_⟩|⟨w,i,rfl,_⟩|⟨w,z,rfl,_⟩<;>exact λz=>nomatch z
open _r _C _P _R
open _O (topR cornO mnO betR atO ownF leadF ownL OkI OkIs)
open _T (numS)
theorem cx.item{M:bE}{D:Nat}{S:bc}(ok:cx M D S){i:Nat}{d:ah}(ed:S.ds[i]? =some d):∃o,S.os[i]? =some o/\iC M.rs.length d o:=by obtain⟨o,eo,it⟩:=ok.row.get ed;exact⟨o,eo,it,λns sp e=>ok.row.ok i ns sp (by rw[eo,e]),λe=>ok.rw i d (by rw[eo,e]) ed⟩
theorem bE.Ok.n3{M:bE}(aG:M.Ok):1<=M.rs.length/\M.rs.length<=3:=by
 have:=aG.len
 lia
theorem cx.tx{M:bE}{D:Nat}{S:bc}(ok:cx M D S)(aG:M.Ok):∀d∈S.ds,oK M.rs.length d:=λd hd=>by obtain⟨i,hi⟩:=oO.mp hd;obtain⟨o,_,h⟩:=ok.item hi;exact h.tx aG.n3.1 aG.n3.2
structure lJ(S:bc):Prop where
 s1:S.side.length<=100
 m1:S.mark.length<=100
 s2:cS S.side
 m2:cS S.mark
theorem lJ.eq{S S':bc}(h:lJ S)(a:S'.side=S.side)(b:S'.mark=S.mark):lJ S':=⟨by rw[a];exact h.s1,by rw[b];exact h.m1,by rw[a];exact h.s2,by rw[b];exact h.m2⟩
theorem Ot:2^1700<10^540:=by decide+kernel
theorem uZ{q:Rat}(h:Bd 1700 q):jx q.num/\jx q.den:=⟨BX h.num Ot,BX (show(q.den:Int).natAbs<2^1700 from h.den) Ot⟩
theorem OY{z q k:Int}(hq:0<q)(hk:0<=k)(nZ:k<=q):(fZ (k*z) q).natAbs<=z.natAbs:=by
 by_cases hz:0<=z
 ·have:=Ak hq hk nZ hz
  omega
 ·have h:=Ak (z:=-z) hq hk nZ bI
  rw[show k*-z=-(k*z) by rw[Int.mul_neg],OX hq]at h;omega
theorem Vc{ti:Int}{q:Rat}(h1:1<=ti)(h2:ti<=100)(hq:0<q.num)(hd:q.den<2^1600):jx (vR ti q):=by
 unfold vR;split
 ·next hx=>
  obtain⟨a,b,c⟩:=hx.choose_spec;generalize hx.choose=T at a b c;have hm:ti*ti<=10000:=by
   have:=yK h2 h2 aw az
   lia
  have xq:ti*ti*(q.den:Int)<=10000*(q.den:Int):=C2 hm aw;have cH:T-1<ti*ti*(q.den:Int):=Int.not_le.mp λh=>by rw[RP hq aw h]at c;cases c
  have hp:10001*2^1600<10^540:=by decide+kernel
  show T.natAbs<10^540;generalize(10:Nat)^540=X at hp⊢;generalize(2:Nat)^1600=Y at hp hd
  lia
 ·show(0:Int).natAbs<10^540
  decide+kernel
theorem One.zh{M:bE}{D:Nat}{S S1:bc}{e:ah}(h:cx M D S)(aG:M.Ok)(hD:D<=1000)(o:One M S e S1):BD e:=by cases o with
 |@line ns sp eo nh=>
  obtain⟨dj,s1,s2⟩:=h.row.ok 0 ns sp eo;have hd:S.dn<aO ns:=by
   rcases h.dn with e|⟨G3,CV,e1,e2⟩
   ·rw[e];exact dj.lead.1
   ·rw[eo]at e1;cases e1;exact e2
  have hn:S.os≠[]:=λe=>by rw[e]at eo;simp at eo
  obtain⟨R1,R2⟩:=Fq h.raw aG hn;have D1:=h.D1;have tY:=aG.r1;have pT:=aG.f1;have mD:=Pg (r:=M.r) (f:=M.f) (left:=(aO ns:Int)-S.dn) aw aw aw h.pd ((Cd S.aA sp).mono aw) (R1.mono aw) h.aU nh;have mL:x8 M S ns sp<=1600:=eG Pe (zc s1 s2 h.cL h.cT);have tp:0<topR S.aA sp:=Kj s1 h.cL;have mP:0<x8 M S ns sp:=Pf tY.1 pT.1 aw h.pd.nn tp R1.nn h.aU nh;have bd:Bd 1700 (x8 M S ns sp):=(mD.bd (eG mL aI)).mono aw;obtain⟨b1,b2⟩:=uZ bd;have Kv:=aG.t1;have n3:=aG.n3;refine .inr ⟨lX ns S.dn,_,_,_,Z,?_,λz hz=>?_,Vc Kv.1 Kv.2 (OM mP) (fK mD.den (t6 az aw)),b1,b2⟩
  ·show(ns.map _).length<=3
   rw[bS,dj.len];exact n3.2
  ·obtain⟨y,hy,rfl⟩:=cW.mp hz
   have hy2:=dj.bd y hy;have c1:=OY (z:=y) (q:=(aO ns:Int)) (k:=(S.dn:Int)+1) aw aw aw;have c2:=OY (z:=y) (q:=(aO ns:Int)) (k:=(S.dn:Int)) aw aw aw;show Int.natAbs _<10^40
   lia |gF eo ed nh=>
  obtain⟨o,fm,it⟩:=h.item ed;rw[eo]at fm;cases fm;refine .inl ⟨(it.tx aG.n3.1 aG.n3.2).ti,λns sp e=>?_⟩;rcases it.it with⟨_,_,_,z⟩|⟨w,x,e2,hw,_⟩
  ·cases z
  ·rw[e2]at e
   exact Ce (show oH w from hw) ⟨ns,sp,e⟩
theorem Run.zh{M:bE}{D:Nat}{S S1:bc}{es:List ah}(h:cx M D S)(aG:M.Ok)(hD:D<=1000)(r:Run M S es S1):∀e∈es,BD e:=by induction r with |nil=>exact λe he=>nomatch he |cons o _ ih=>
 intro e he;rcases cj.mp he with rfl|he
 ·exact o.zh h aG hD
 ·exact ih (o.ok h aG) e he
theorem RN(S:bc):(mI S).side=S.side/\(mI S).mark=S.mark:=by unfold mI;split<;>exact⟨Z,Z⟩
theorem One.sd{M:bE}{D:Nat}{S S1:bc}{e:ah}(h:cx M D S)(aG:M.Ok)(o:One M S e S1)(hs:lJ S):lJ S1:=by cases o with
 |@line ns sp eo nh=>
  have h1:lJ (ml M S ns sp):=hs.eq Z rfl;unfold ir;split
  ·obtain⟨a,b⟩:=RN (ml M S ns sp)
   exact h1.eq a b
  ·exact h1 |gF eo ed nh=>
  have tx:=h.tx aG e (fA ed);obtain⟨a,b⟩:=RN (eK e S);refine lJ.eq ?_ a b;rcases tx.ti with⟨ns,sp,rfl,_⟩|⟨w,i,rfl,_⟩|⟨w,y,rfl,_,hy⟩
  ·exact hs
  ·exact hs
  ·have oy:cS y:=λc hc=>tx.ok c (by rw[show dU (.tuple [.str w,.str y])=w++" "++y from Z,vw,vI,mU];exact .inr hc);show lJ (eK (.tuple [.str w,.str y]) S);unfold eK;dsimp only;split
   ·exact⟨hy,hs.m1,oy,hs.m2⟩
   ·split
    ·exact⟨hs.s1,hy,hs.s2,oy⟩
    ·exact hs
theorem Run.sd{M:bE}{D:Nat}{S S1:bc}{es:List ah}(h:cx M D S)(aG:M.Ok)(r:Run M S es S1)(hs:lJ S):lJ S1:=by induction r with |nil=>exact hs |cons o _ ih=>exact ih (o.ok h aG) (o.sd h aG hs)
theorem Yu{rs pl:List Int}(h:fO rs pl)(hr:∀z∈rs,1<=z/\z<=100):∀n∈pl,0<=n/\n<=100:=λn hn=>by
 obtain⟨i,hi⟩:=oO.mp hn;have hl:i<rs.length:=by rw[<-h.len];exact(dD.mp hi).1
 have e:=cu hl;have:=h.at' i n _ hi e;have:=hr _ (vC hl)
 lia
structure RG(M:bE)(D:Nat)(S:bc):Prop where
 ok:cx M D S
 aG:M.Ok
 sd:lJ S
 on:fh M S
 hD:D<=1000
theorem RG.place{M:bE}{D:Nat}{S:bc}(g:RG M D S):∀n∈gD S,Nm n:=λn hn=>by
 have:=Yu (g.on.place g.ok) g.aG.rl n hn;show n.natAbs<10^40
 lia
theorem RG.pc{M:bE}{D:Nat}{S:bc}(g:RG M D S):jx S.pc.num/\jx S.pc.den:=by have:=g.hD;exact uZ ((g.ok.pd.bd (eG g.ok.pm aI)).mono aw)
theorem RG.zp{M:bE}{D:Nat}{S:bc}(g:RG M D S):Nm (gm M.f S.pc):=by
 obtain⟨z1,_,_,z4⟩:=KG g.aG.f1.1 g.ok.pd.nn;have:=z4 g.ok.pm;show Int.natAbs _<10^40
 lia
theorem RG.len{M:bE}{D:Nat}{S:bc}(g:RG M D S):Nm (S.ds.length:Int):=by have:=g.ok.len;show Int.natAbs _<10^40;omega
def jJ(z:Str):Str:=if z="" then "none" else z
def zY (q:Rat):Str:=hV q.num q.den
def XG(r f j aA:Int)(os:List Itm):Str:=Txt.join " " ((kK r f j aA os).map zY)
def qD(S:bc):Str:=match S.aU.isSome,decide (S.pc=0)with |true,true=>"held stands" |true,false=>"held goes" |false,true=>"free stands" |false,false=>"free goes"
inductive Wd |place |square |stop |vK |qR |qA |mark |state |hold |go |drop
def Wd.txt:Wd->Str | .place=>"place" | .square=>"square" | .stop=>"stop" | .vK=>"waits" | .qR=>"plan" | .qA=>"tool" | .mark=>"mark" | .state=>"state" | .hold=>"hold" | .go=>"go" | .drop=>"drop"
def Jj(M:bE)(S:bc):Wd->Str | .place=>gI (gD S) | .square=>zY S.pc | .stop=>numS (gm M.f S.pc) | .vK=>jJ (Txt.join "\n" (S.ds.map dU)) | .qR=>XG M.r M.f M.j S.aA S.os | .qA=>S.side | .mark=>jJ S.mark | .state=>qD S |_=>""
def Wd.Ok(K:aa)(C cM:Addr)(a q:Addr)(M:bE)(S:bc)(H:Hp)(Q:VK)(E:XK):Wd->Prop | .hold=>∀H',bT K C H' a q M (ku M S)->cA [a] H H'->Q (.str (numS (gm M.f S.pc))) H' | .go=>∀H',bT K C H' a q M {S with aU:=none}->cA [a] H H'->Q (.str (numS (S.ds.length:Nat))) H' | .drop=>(¬Halt S.pc S.aU->∀H',aD H H'->E (.ref cM) none H')/\(Halt S.pc S.aU->∀q' H',bT K C H' a q' M (sH S)->H q'=none->cA [a] H H'->Q (.str (numS (S.ds.length:Nat))) H') |w=>∀H',aD H H'->Q (.str (Jj M S w)) H'
inductive a99(K:aa)(C:Addr)(cM:Addr)(w:Wd)(vs:List V)(H:Hp)(Q:VK)(E:XK):Prop |mk (a:_)(q:_)(M:_)(D:_)(S:_)(h0:vs=[.ref a])(h1:bT K C H a q M S)(h2:RG M D S)(h3:w.Ok K C cM a q M S H Q E)
def jF(K:aa)(C cM:Addr)(w:Wd):Sp:=λvs H Q E=>a99 K C cM w vs H Q E
abbrev EY:Stmt:=top 90
theorem Ni:aW ["runner"] ["runner"] (aP EY):=bj aI
theorem a0g{C cM:Addr}(F:FA K mg "answer_hold" EY)(B:bC mg)(TC:cU K C)(HP:bP P w K mg au C "hold" 2 (CD K C)):aB P w K mg au "answer_hold" 3 (jF K C cM .hold):=by
 refine F.has Ni (λvs H Q E h=>?_) (λ_ _ _ _ _ _=>cw λ_=>rfl) (λf aH A outer s H vs Q E hr h=>?_)
 ·obtain⟨a,q,M,D,S,rfl,_⟩:=h
  rfl
 ·obtain⟨a,q,M,D,S,rfl,R,g,k⟩:=h
  obtain⟨dx,mv,bv,bR,tv,e,r1,r2,r3,r4⟩:=R.ob;have nd:=Ni.nd;refine⟨_,(aK (aR (cD (x:="str") fq Z (B.at "str") fj (ak (cY HP TC.cl (hr.mono az) (pv 0)) ay)))),?_⟩;exact⟨_,Z,a,dx,_,Z,e,Z,a,q,M,D,S,Z,R,g.ok,g.aG,λH' R' b'=>.inl ⟨_,Z,fS g.zp,k H' R' b'⟩⟩
abbrev EZ:Stmt:=top 91
theorem Nj:aW ["runner"] ["runner"] (aP EZ):=bj aI
theorem a0h{C cM:Addr}(F:FA K mg "answer_go" EZ)(B:bC mg)(TC:cU K C)(HQ:bP P w K mg au C "go" 1 (CF K C)):aB P w K mg au "answer_go" 2 (jF K C cM .go):=by
 refine F.has Nj (λvs H Q E h=>?_) (λ_ _ _ _ _ _=>cw λ_=>rfl) (λf aH A outer s H vs Q E hr h=>?_)
 ·obtain⟨a,q,M,D,S,rfl,_⟩:=h
  rfl
 ·obtain⟨a,q,M,D,S,rfl,R,g,k⟩:=h
  obtain⟨dx,mv,bv,bR,tv,e,r1,r2,r3,r4⟩:=R.ob;have nd:=Nj.nd;refine⟨_,(aK (aR (cD (x:="str") fq Z (B.at "str") fj (ak (cY HQ TC.cl (hr.mono az) (pv 0)) ay)))),?_⟩;exact⟨_,Z,a,dx,_,Z,e,Z,a,q,M,D,S,Z,R,g.ok,λH' R' b'=>.inl ⟨_,Z,fS g.len,k H' R' b'⟩⟩
abbrev tR:Stmt:=top 92
theorem Nk:aW ["runner"] ["runner"] (aP tR):=bj aI
theorem a0i{C cM:Addr}(F:FA K mg "answer_drop" tR)(B:bC mg)(TC:cU K C)(HV:ja P w K mg au C "drop" 5 (CJ K C cM)):qp P w K mg au "answer_drop" 6 (jF K C cM .drop):=by
 refine F.uL Nk (λvs H Q E h=>?_) (λ_ _ _ _ _ _=>cw λ_=>rfl) (λf aH A outer s H vs Q E hr h=>?_)
 ·obtain⟨a,q,M,D,S,rfl,_⟩:=h
  rfl
 ·obtain⟨a,q,M,D,S,rfl,R,g,k⟩:=h
  obtain⟨dx,mv,bv,bR,tv,e,r1,r2,r3,r4⟩:=R.ob;have nd:=Nk.nd;refine⟨_,(aK (aR (cD (x:="str") fq Z (B.at "str") fj (ak (Oi HV (A8 λ_ _ _ z=>z) TC.cl (hr.mono az) (pv 0)) ay)))),?_⟩;exact⟨_,Z,a,dx,_,Z,e,Z,a,q,M,D,S,Z,R,g.ok,g.aG,k.1,λhH q' H' R' nq b'=>.inl ⟨_,Z,fS g.len,k.2 hH q' H' R' nq b'⟩⟩
abbrev EV:Stmt:=top 93
theorem Ng:aW ["runner"] ["runner"] (aP EV):=bj aI
theorem a0e{C cM:Addr}(F:FA K mg "answer_place" EV)(B:bC mg)(TC:cU K C)(xg:aB P w K mg au "show_numbers" 1 (zA K))(xG:bP P w K mg au C "place" 3 (cP K C λ_ S H Q=>∀v H',RD K H' v (fE (gD S))->aD H H'->Q v H')):aB P w K mg au "answer_place" 4 (jF K C cM .place):=by
 refine F.has Ng (λvs H Q E h=>?_) (λ_ _ _ _ _ _=>cw λ_=>rfl) (λf aH A outer s H vs Q E hr h=>?_)
 ·obtain⟨a,q,M,D,S,rfl,_⟩:=h
  rfl
 ·obtain⟨a,q,M,D,S,rfl,R,g,k⟩:=h
  obtain⟨dx,mv,bv,bR,tv,e,r1,r2,r3,r4⟩:=R.ob;have nd:=Ng.nd;have lr:=g.aG.n3;have lp:=FH g.ok;refine⟨_,(aK (aR (pf xg hr (ak (cY xG TC.cl (hr.mono az) (pv 0)) ay)))),?_⟩;exact⟨_,Z,a,dx,_,Z,e,Z,a,q,M,D,S,Z,R,g.ok,g.aG,λv H1 rv s1=>⟨v,gD S,Z,rv,aw,g.place,λH2 s2=>k _ (s1.trans s2)⟩⟩
abbrev ET:Stmt:=top 94
theorem Nd:aW ["runner"] ["runner"] (aP ET):=bj aI
theorem a0c{C cM:Addr}(F:FA K mg "answer_square" ET)(B:bC mg)(TC:cU K C)(xh:aB P w K mg au "show_fraction" 1 (qG K))(HH:bP P w K mg au C "square" 1 (cP K C (Ig K))):aB P w K mg au "answer_square" 2 (jF K C cM .square):=by
 refine F.has Nd (λvs H Q E h=>?_) (λ_ _ _ _ _ _=>cw λ_=>rfl) (λf aH A outer s H vs Q E hr h=>?_)
 ·obtain⟨a,q,M,D,S,rfl,_⟩:=h
  rfl
 ·obtain⟨a,q,M,D,S,rfl,R,g,k⟩:=h
  obtain⟨dx,mv,bv,bR,tv,e,r1,r2,r3,r4⟩:=R.ob;have nd:=Nd.nd;refine⟨_,(aK (aR (pf xh hr (ak (cY HH TC.cl (hr.mono az) (pv 0)) ay)))),?_⟩;exact⟨_,Z,a,dx,_,Z,e,Z,a,q,M,D,S,Z,R,g.ok,g.aG,λv rv=>⟨v,_,_,Z,rv.rd,g.pc.1,g.pc.2,k H (aD.refl _)⟩⟩
abbrev EO:Stmt:=top 95
theorem Na:aW ["runner"] ["runner"] (aP EO):=bj aI
theorem a08{C cM:Addr}(F:FA K mg "answer_stop" EO)(B:bC mg)(TC:cU K C)(xF:bP P w K mg au C "stops_in" 1 (cP K C λM S H Q=>Q (.int (gm M.f S.pc)) H)):aB P w K mg au "answer_stop" 2 (jF K C cM .stop):=by
 refine F.has Na (λvs H Q E h=>?_) (λ_ _ _ _ _ _=>cw λ_=>rfl) (λf aH A outer s H vs Q E hr h=>?_)
 ·obtain⟨a,q,M,D,S,rfl,_⟩:=h
  rfl
 ·obtain⟨a,q,M,D,S,rfl,R,g,k⟩:=h
  obtain⟨dx,mv,bv,bR,tv,e,r1,r2,r3,r4⟩:=R.ob;have nd:=Na.nd;refine⟨_,(aK (aR (cD (x:="str") fq Z (B.at "str") fj (ak (cY xF TC.cl (hr.mono az) (pv 0)) ay)))),?_⟩;exact⟨_,Z,a,dx,_,Z,e,Z,a,q,M,D,S,Z,R,g.ok,g.aG,.inl ⟨_,Z,fS g.zp,k H (aD.refl _)⟩⟩
abbrev EN:Stmt:=top 98
theorem N9:aW ["runner"] ["runner"] (aP EN):=bj aI
theorem a07{C cM:Addr}(F:FA K mg "answer_tool" EN)(B:bC mg)(TC:cU K C)(Hy:bP P w K mg au C "tool" 1 (cP K C λ_ S H Q=>Q (.str S.side) H)):aB P w K mg au "answer_tool" 2 (jF K C cM .qA):=by
 refine F.has N9 (λvs H Q E h=>?_) (λ_ _ _ _ _ _=>cw λ_=>rfl) (λf aH A outer s H vs Q E hr h=>?_)
 ·obtain⟨a,q,M,D,S,rfl,_⟩:=h
  rfl
 ·obtain⟨a,q,M,D,S,rfl,R,g,k⟩:=h
  obtain⟨dx,mv,bv,bR,tv,e,r1,r2,r3,r4⟩:=R.ob;have nd:=N9.nd;refine⟨_,(aK (aR (cY Hy TC.cl (hr.mono az) (pv 0)))),?_⟩;exact⟨_,Z,a,dx,_,Z,e,Z,a,q,M,D,S,Z,R,g.ok,g.aG,k H (aD.refl _)⟩
abbrev EW:Stmt:=top 99
theorem Nh:aW ["runner"] ["runner"] (aP EW):=bj aI
theorem a0f{C cM:Addr}(F:FA K mg "answer_mark" EW)(B:bC mg)(TC:cU K C)(xE:GV mg "NOTHING" (.str "none"))(B6:bP P w K mg au C "last_mark" 1 (cP K C λ_ S H Q=>Q (.str S.mark) H)):aB P w K mg au "answer_mark" 2 (jF K C cM .mark):=by
 refine F.has Nh (λvs H Q E h=>?_) (λ_ _ _ _ _ _=>cw λ_=>rfl) (λf aH A outer s H vs Q E hr h=>?_)
 ·obtain⟨a,q,M,D,S,rfl,_⟩:=h
  rfl
 ·obtain⟨a,q,M,D,S,rfl,R,g,k⟩:=h
  obtain⟨dx,mv,bv,bR,tv,e,r1,r2,r3,r4⟩:=R.ob;have nd:=Nh.nd;have sd:=g.sd.m1;refine⟨_,(aK (aR (FJ (cY B6 TC.cl (hr.mono az) (pv 0)) (p5 (cX (x:="NOTHING") Z xE))))),?_⟩;have k2:Q (.str (jJ S.mark)) H:=k H (aD.refl _);unfold jJ at k2;refine⟨_,Z,a,dx,_,Z,e,Z,a,q,M,D,S,Z,R,g.ok,g.aG,?_⟩;refine⟨_,Z,aw,?_⟩;split
  ·next e0=>rw[bf e0]at k2;exact k2
  ·next e0=>rw[bh e0]at k2;exact k2
abbrev EL:Stmt:=top 100
theorem N7:aW ["runner","held"] ["runner"] (aP EL):=bj aI
theorem a05{C cM:Addr}(F:FA K mg "answer_state" EL)(B:bC mg)(TC:cU K C)(og:bP P w K mg au C "is_held" 1 (cP K C λ_ S H Q=>Q (.bl S.aU.isSome) H))(rX:bP P w K mg au C "stands" 1 (cP K C λ_ S H Q=>Q (.bl (decide (S.pc=0))) H)):aB P w K mg au "answer_state" 2 (jF K C cM .state):=by
 refine F.has N7 (λvs H Q E h=>?_) (λ_ _ _ _ _ _=>cw λ_=>rfl) (λf aH A outer s H vs Q E hr h=>?_)
 ·obtain⟨a,q,M,D,S,rfl,_⟩:=h
  rfl
 ·obtain⟨a,q,M,D,S,rfl,R,g,k⟩:=h
  obtain⟨dx,mv,bv,bR,tv,e,r1,r2,r3,r4⟩:=R.ob;have nd:=N7.nd;have iY:sizeLine=16777216:=by decide
  refine⟨_,(aE (pS 1 nd (iP (cK (cY og TC.cl (hr.mono az) (pv 0))) bu bu)) (aK (aR (iP (cK (cY rX TC.cl (hr.mono az) (pv 0))) (ud (fR (jH (pv 1)) (fR bu ub))) (ud (fR (jH (pv 1)) (fR bu ub))))))),?_⟩;have k2:Q (.str (qD S)) H:=k H (aD.refl _);unfold qD at k2;refine⟨_,Z,a,dx,_,Z,e,Z,a,q,M,D,S,Z,R,g.ok,g.aG,_,Z,?_⟩;cases h1:S.aU.isSome with
  |false=>refine aY ?_;refine⟨_,Z,a,dx,_,Z,e,Z,a,q,M,D,S,Z,R,g.ok,g.aG,_,Z,?_⟩;cases h2:decide (S.pc=0)with |false=>rw[h1,h2]at k2;refine aY ⟨_,Z,.inr ⟨"free",Z,aI,_,Z,aI,?_⟩⟩;refine⟨_,Z,aI,aI,?_⟩;rw[show Str.empty++Str.ofString "free"++Str.ofString " goes"=Str.ofString "free goes" by decide+kernel];exact k2 |true=>rw[h1,h2]at k2;refine bG ⟨_,Z,.inr ⟨"free",Z,aI,_,Z,aI,?_⟩⟩;refine⟨_,Z,aI,aI,?_⟩;rw[show Str.empty++Str.ofString "free"++Str.ofString " stands"=Str.ofString "free stands" by decide+kernel];exact k2
  |true=>refine bG ?_;refine⟨_,Z,a,dx,_,Z,e,Z,a,q,M,D,S,Z,R,g.ok,g.aG,_,Z,?_⟩;cases h2:decide (S.pc=0)with |false=>rw[h1,h2]at k2;refine aY ⟨_,Z,.inr ⟨"held",Z,aI,_,Z,aI,?_⟩⟩;refine⟨_,Z,aI,aI,?_⟩;rw[show Str.empty++Str.ofString "held"++Str.ofString " goes"=Str.ofString "held goes" by decide+kernel];exact k2 |true=>rw[h1,h2]at k2;refine bG ⟨_,Z,.inr ⟨"held",Z,aI,_,Z,aI,?_⟩⟩;refine⟨_,Z,aI,aI,?_⟩;rw[show Str.empty++Str.ofString "held"++Str.ofString " stands"=Str.ofString "held stands" by decide+kernel];exact k2
abbrev EM:Stmt:=top 96
theorem N8:aW ["runner"] ["runner"] (aP EM):=bj aI
theorem a06{C cM:Addr}(F:FA K mg "answer_waits" EM)(B:bC mg)(TC:cU K C)(xE:GV mg "NOTHING" (.str "none"))(a37:aB P w K mg au "show_items" 3 (Lk K))(pP:bP P w K mg au C "waiting" 1 (cP K C λ_ S H Q=>∀l ys H',H l=none->H' l=some (.lst ys)->aL K H' ys S.ds->aD H H'->Q (.ref l) H')):aB P w K mg au "answer_waits" 4 (jF K C cM .vK):=by
 refine F.has N8 (λvs H Q E h=>?_) (λ_ _ _ _ _ _=>cw λ_=>rfl) (λf aH A outer s H vs Q E hr h=>?_)
 ·obtain⟨a,q,M,D,S,rfl,_⟩:=h
  rfl
 ·obtain⟨a,q,M,D,S,rfl,R,g,k⟩:=h
  obtain⟨dx,mv,bv,bR,tv,e,r1,r2,r3,r4⟩:=R.ob;have nd:=N8.nd;have hl:=g.ok.len;have hn:∀d∈S.ds,TI d:=λd hd=>(g.ok.tx g.aG d hd).ti;refine⟨_,(aK (aR (FJ (pf a37 hr (ak (cY pP TC.cl (hr.mono az) (pv 0)) ay)) (p5 (cX (x:="NOTHING") Z xE))))),?_⟩;refine⟨_,Z,a,dx,_,Z,e,Z,a,q,M,D,S,Z,R,g.ok,g.aG,λl ys H1 nl el rl s1=>?_⟩;refine⟨.ref l,S.ds,Z,wB (aJ.of el) rl,hn,g.ok.row.no,aw,λH2 s2=>?_⟩;have hj:=GG "\n" (B:=400) (S.ds.map dU) (λz hz=>by obtain⟨d,hd,rfl⟩:=cW.mp hz;exact uF (hn d hd));have n1:Str.length "\n"=1:=by decide+kernel
  rw[n1,bS]at hj;have kU:S.ds.length*(400+1)<=20*401:=Nat.mul_le_mul_right _ hl;have k2:Q (.str (jJ (Txt.join "\n" (S.ds.map dU)))) H2:=k H2 (s1.trans s2);unfold jJ at k2;refine⟨_,Z,aw,?_⟩;split
  ·next e0=>rw[bf e0]at k2;exact k2
  ·next e0=>rw[bh e0]at k2;exact k2
theorem A2{r f j aA:Int}{os:List Itm}{i:Nat}{q:Rat}(h:(kK r f j aA os)[i]? =some q):i<=os.length/\q=A4 r f j aA os i:=by
 have hl:i<(kK r f j aA os).length:=(dD.mp h).1;have e:(kK r f j aA os).length=os.length+1:=kl _ _;have h2:i<=os.length:=by lia
 refine⟨h2,?_⟩;have:=kn (A4 r f j aA os) h2;exact dG (h.symm.trans this)
abbrev EU:Stmt:=top 97
theorem Nf:aW ["runner","plan"] ["runner"] (aP EU):=bj aI
theorem a0d{C cM:Addr}(F:FA K mg "answer_plan" EU)(B:bC mg)(TC:cU K C)(GZ:aB P w K mg au "plan_of" 9 (zy K))(xh:aB P w K mg au "show_fraction" 1 (qG K))(pP:bP P w K mg au C "waiting" 1 (cP K C λ_ S H Q=>∀l ys H',H l=none->H' l=some (.lst ys)->aL K H' ys S.ds->aD H H'->Q (.ref l) H'))(HK:bP P w K mg au C "rate" 1 (cP K C λ_ S H Q=>Q (.int S.aA) H)):aB P w K mg au "answer_plan" 10 (jF K C cM .qR):=by
 refine F.has Nf (λvs H Q E h=>?_) (λ_ _ _ _ _ _=>cw λ_=>rfl) (λf aH A outer s H vs Q E hr h=>?_)
 ·obtain⟨a,q,M,D,S,rfl,_⟩:=h
  rfl
 ·obtain⟨a,q,M,D,S,rfl,R,g,k⟩:=h
  obtain⟨dx,mv,bv,bR,tv,e,r1,r2,r3,r4⟩:=R.ob;have nd:=Nf.nd;have ok:=g.ok;have aG:=g.aG;have hl:=ok.len;refine⟨_,(aE (pS 1 nd (pf GZ hr (ak (cE TC.cl TC.kj (pv 0)) (ak (cD (x:="tuple") (jZ K rfl) rfl (B.at "tuple") iJ (ak (cY pP TC.cl (hr.mono az) (pv 0)) ay)) (ak (cY HK TC.cl (hr.mono az) (pv 0)) ay))))) (aK (aR (kM K Z bu (ak (eW (N:=["square"]) (js:=[none]) Z Z Z (kL K Z (pv 1)) (λ_ _ _ _ _=>(bo 0 (gR _))) (λ_ _ _ _ _=>dS) (λ_ _ _ _ _=>(pf xh hr (ak (pv 0) ay)))) ay))))),?_⟩;refine⟨_,Z,a,dx,_,_,Z,e,Z,?_⟩;refine⟨_,Z,a,dx,_,Z,e,Z,a,q,M,D,S,Z,R,ok,aG,λl ys H1 nl el rl s1=>?_⟩;refine⟨l,ys,Z,.inl ⟨aJ.of el,λt H2 n2=>?_⟩⟩;have s2:=s1.trans n2.same;have e2:=s2 _ _ e;refine⟨_,Z,a,dx,_,Z,e2,Z,a,q,M,D,S,Z,R.same ok.row.no s2,ok,aG,?_⟩;refine⟨mv,.ref t,S.aA,M.rs,M.r,M.f,M.j,M.t,S.ds,S.os,Z,RD.mono s2 _ r1,aG,fQ (aZ.of n2.at') (aL.mono n2.same _ rl),ok.row,aw,ok.cL,ok.cT,λp zs H3 np ep rp s3=>?_⟩;refine⟨Z,?_⟩;have lz:=rp.length;have lp:(kK M.r M.f M.j S.aA S.os).length=S.os.length+1:=kl _ _;have ll:=ok.row.len;rw[bS,lp]at lz;refine⟨_,Z,p,Z,⟨_,aJ.of ep⟩,λD2 H4 n4=>?_⟩;refine qe (K:=K) (ds:=((kK M.r M.f M.j S.aA S.os).map zY).map PyData.str) _ (aJ.of ep) n4 (by rw[bS,bS,lp];exact lz) aw (kO _) ?_ ?_
  ·intro i x d H5 Q' ex ed s5 hq
   obtain⟨d',dB,rx⟩:=rp.get' i ex;rw[bQ]at dB;rw[bQ,bQ]at ed;cases eq:(kK M.r M.f M.j S.aA S.os)[i]? with |none=>rw[eq]at dB;cases dB |some qq=>rw[eq]at dB ed;cases dB;cases ed;obtain⟨hi,rfl⟩:=A2 eq;obtain⟨n1,n2⟩:=uZ (A3 aG ok.row aw ok.cL ok.cT i hi);exact⟨_,Z,x,_,_,Z,RD.mono s5 _ rx,n1,n2,hq _ _ (aD.refl _) (bp _)⟩
  ·intro H5 ws s5 d5 r5
   rw[jE r5]at d5;refine⟨" ",D2,_,Z,Z,aJ.of d5,λz hz=>?_,aI,by rw[bS,lp];lia,k _ (s2.trans (s3.trans s5))⟩;obtain⟨qq,hq,rfl⟩:=cW.mp hz;obtain⟨i,hi⟩:=oO.mp hq;obtain⟨pK,rfl⟩:=A2 hi;obtain⟨n1,n2⟩:=uZ (A3 aG ok.row aw ok.cL ok.cT i pK);have:=xT n1 n2;show(hV _ _).length<=_
   lia
end
end _b
set_option maxHeartbeats 1000000
namespace _b
open PySem PySem.Spec PyProof.Rows _L _r _l _C _P _W
open _O (topR cornO mnO betR atO ownF leadF ownL OkI OkIs)
open _T (numS)
section
variable {P:af}{w:World}{K:aa}{mg:bD}{au:Heap}
def pG:ah->Bool | .tuple ds=>(ds.length==2||ds.length==3)&&ds.all (cZ 1 100) |_=>false
def ko:ah->Bool | .tuple [r,a,b,c,t]=>pG r&&cZ 1 100 t&&[a,b,c].all (cZ 1 50) |_=>false
theorem a2H(n:Nat):AF (.int n) [.int 2,.int 3]=(n==2||n==3):=by
 show((2:Int)==n||((3:Int)==n||false))=_;rw[Bool.or_false];congr 1
 ·rw[jd];simp;lia
 ·rw[jd];simp;lia
inductive aag(f:ah->Bool)(K:aa)(vs:List V)(H:Hp)(Q:VK):Prop |mk (v:_)(d:_)(h0:vs=[v])(h1:RD K H v d)(h2:∀H',aD H H'->Q (.bl (f d)) H')
def vY(f:ah->Bool)(K:aa):Sp:=λvs H Q _=>aag f K vs H Q
abbrev ES:Stmt:=top 23
theorem Nc:aW ["thing"] ["thing"] (aP ES):=bj aI
theorem a0b(F:FA K mg "are_rails" ES)(B:bC mg)(g1:GT K mg "AXES" [.int 2,.int 3])(a4H:GV mg "LONGEST_RAIL" (.int 100))(iz:aB P w K mg au "is_whole_within" 2 (lU K)):aB P w K mg au "are_rails" 3 (vY pG K):=by
 refine F.has Nc (λvs H Q E h=>?_) (λ_ _ _ _ _ _=>cw λ_=>rfl) (λf aH A outer s H vs Q E hr h=>?_)
 ·obtain⟨v,d,rfl,_⟩:=h
  rfl
 ·obtain⟨v,d,rfl,rd,k⟩:=h
  have nd:=Nc.nd;obtain⟨aX,a4R,W0⟩:=g1;refine⟨_,(aE (bJ (PW.pt (kJ (dw (cK (nH K B (ak (pv 0) (ak (m6 (x:="tuple") (v:=.ty "tuple") Z (B.at "tuple") iJ rfl) ay))))) (kI (bX (a0B K rfl) (fF K B (ak (pv 0) ay)) (cX (x:="AXES") rfl a4R) (by with_unfolding_all rfl))))) (aK (aR gE)) bK) (aK (aR (dy (x:="all") (vc K Z Z) Z (B.at "all") yC (ak (eW (N:=["rail"]) (js:=[none]) rfl rfl rfl (kg K rfl (pv 0)) (λ_ _ _ _ _=>(bo 0 (gR _))) (λ_ _ _ _ _=>dS) (λ_ _ _ _ _=>(pf iz hr (ak (pv 0) (ak aF (ak (cX (x:="LONGEST_RAIL") rfl a4H) ay)))))) ay))))),?_⟩;rcases vQ d with⟨ds,rfl⟩|⟨ht,hn⟩
  ·refine⟨_,Z,.inl ⟨_,_,"tuple",true,Z,rd.ty,az,oQ,_,Z,aY ?_⟩⟩
   obtain⟨p,xs,rfl,hx,hd⟩:=rd.cJ;have hl:=hd.length;refine⟨_,Z,p,_,Z,.inr hx,aX,_,Z,.inr (W0 H),Z,Z,_,Z,?_⟩;have k:∀H',aD H H'->Q (.bl ((ds.length==2||ds.length==3)&&ds.all (cZ 1 100))) H':=k;show if(!AF (.int xs.length) [.int 2,.int 3])=true then _ else _;rw[a2H,hl];cases IU:(ds.length==2||ds.length==3)with |false=>rw[IU,ip]at k;exact bG (k H (aD.refl _)) |true=>
    rw[IU,ij]at k;refine aY ?_;have l3:ds.length<=3:=by rw[Bool.or_eq_true,fi,fi]at IU;lia
    refine⟨_,Z,p,Z,⟨_,hx⟩,λD H0 nw=>?_⟩;refine Bt (xs:=xs) (bs:=ds.map (cZ 1 100)) [] hx nw (by rw[bS,hl]) aw ?_ ?_
    ·intro i x b H2 Q' ex eb s2 hq
     obtain⟨d,ed,rfl⟩:=Aq eb;obtain⟨x',j7,rx⟩:=hd.get i ed;rw[ex]at j7;cases j7;exact⟨_,Z,_,d,1,100,Z,RD.mono s2 _ rx,hq _ (aD.refl _)⟩
    ·intro H2 s2 d2
     refine⟨D,_,Z,aJ.of d2,?_⟩;rw[all_map];exact k H2 s2
  ·have e:pG d=false:=by cases d<;>first|rfl|exact absurd rfl (hn _)
   rw[e]at k;refine⟨_,Z,.inl ⟨_,_,"tuple",false,Z,rd.ty,az,ht,_,Z,bG ?_⟩⟩;exact k H (aD.refl _)
theorem a1v(d:ah):(∃r a b c t,d= .tuple [r,a,b,c,t])\/(∃ds,d= .tuple ds/\ds.length≠5/\ko d=false)\/(iM (kD d) "tuple"=false/\ko d=false):=by
 rcases vQ d with⟨ds,rfl⟩|⟨ht,hn⟩
 ·match ds with |[r,a,b,c,t]=>exact .inl ⟨r,a,b,c,t,Z⟩ |[]=>exact .inr (.inl ⟨_,Z,by simp,by simp[ko]⟩) |[_]=>exact .inr (.inl ⟨_,Z,by simp,by simp[ko]⟩) |[_,_]=>exact .inr (.inl ⟨_,Z,by simp,by simp[ko]⟩) |[_,_,_]=>exact .inr (.inl ⟨_,Z,by simp,by simp[ko]⟩) |[_,_,_,_]=>exact .inr (.inl ⟨_,Z,by simp,by simp[ko]⟩) |_::_::_::_::_::_::_=>exact .inr (.inl ⟨_,Z,by simp,by simp[ko]⟩)
 ·exact .inr (.inr ⟨ht,by cases d<;>first|rfl|exact absurd rfl (hn _)⟩)
abbrev Er:Stmt:=top 21
theorem MP:aW ["thing","rails","rise","fall","jump","ticks"] ["thing"] (aP Er):=bj aI
theorem ZM(F:FA K mg "is_machine" Er)(B:bC mg)(a4E:GV mg "MOST_TICKS" (.int 100))(a4N:GV mg "GREATEST_CHANGE" (.int 50))(iz:aB P w K mg au "is_whole_within" 2 (lU K))(a4o:aB P w K mg au "are_rails" 3 (vY pG K)):aB P w K mg au "is_machine" 4 (vY ko K):=by
 refine F.has MP (λvs H Q E h=>?_) (λ_ _ _ _ _ _=>cw λ_=>rfl) (λf aH A outer s H vs Q E hr h=>?_)
 ·obtain⟨v,d,rfl,_⟩:=h
  rfl
 ·obtain⟨v,d,rfl,rd,k⟩:=h
  have nd:=MP.nd;refine⟨_,(aE (bJ (PW.pt (kJ (dw (cK (nH K B (ak (pv 0) (ak (m6 (x:="tuple") (v:=.ty "tuple") Z (B.at "tuple") iJ rfl) ay))))) (kI (bX (m9 K rfl hr.units) (fF K B (ak (pv 0) ay)) aF (bL _))))) (aK (aR gE)) bK) (aE (eL (pv 0) (eV K Z (n:=5) Z (bZ (bo 1 nd) (bZ (bo 2 nd) (bZ (bo 3 nd) (bZ (bo 4 nd) (bZ (bo 5 nd) eU))))))) (aE (bJ (PW.pt (kJ (dw (cK (pf a4o hr (ak (pv 1) ay)))) (kI (dw (cK (pf iz hr (ak (pv 5) (ak aF (ak (cX (x:="MOST_TICKS") Z a4E) ay))))))))) (aK (aR gE)) bK) (aK (aR (dy (x:="all") (vc K Z Z) Z (B.at "all") yC (ak (eW (N:=["change"]) (js:=[none]) rfl rfl rfl (kg K rfl (gQ (ak (pv 2) (ak (pv 3) (ak (pv 4) ay))))) (λ_ _ _ _ _=>(bo 0 (gR _))) (λ_ _ _ _ _=>dS) (λ_ _ _ _ _=>(pf iz hr (ak (pv 0) (ak aF (ak (cX (x:="GREATEST_CHANGE") rfl a4N) ay)))))) ay))))))),?_⟩;rcases a1v d with⟨r,a,b,c,t,rfl⟩|⟨ds,rfl,hl,hf⟩|⟨ht,hf⟩
  ·refine⟨_,Z,.inl ⟨_,_,"tuple",true,Z,rd.ty,az,oQ,_,Z,aY ?_⟩⟩
   obtain⟨p,xs,rfl,hx,hd⟩:=rd.cJ;obtain⟨u1,ys,rfl,r1,hd⟩:=hd.cons_inv;obtain⟨u2,ys,rfl,r2,hd⟩:=hd.cons_inv;obtain⟨u3,ys,rfl,r3,hd⟩:=hd.cons_inv;obtain⟨u4,ys,rfl,r4,hd⟩:=hd.cons_inv;obtain⟨u5,ys,rfl,r5,hd⟩:=hd.cons_inv;cases hd.nil_inv;have k:∀H',aD H H'->Q (.bl (pG r&&cZ 1 100 t&&[a,b,c].all (cZ 1 50))) H':=k;refine⟨_,Z,p,_,Z,.inr hx,.inl ⟨_,_,Z,Z,_,Z,aY ?_⟩⟩;refine⟨_,Z,p,_,Z,hx,Z,_,_,Z,_,_,Z,_,_,Z,_,_,Z,_,_,Z,Z,?_⟩;refine⟨_,Z,_,r,Z,r1,λH1 s1=>⟨_,Z,?_⟩⟩;cases e1:pG r with |false=>rw[e1,ip,ip]at k;exact bG (k H1 s1) |true=>rw[e1,ij]at k;refine aY ?_;refine⟨_,Z,_,t,1,100,Z,RD.mono s1 _ r5,_,Z,?_⟩;cases e2:cZ 1 100 t with |false=>rw[e2,ip]at k;exact bG (k H1 s1) |true=>
    rw[e2,ij]at k;refine aY ?_;refine⟨_,Z,_,Z,_,Z,ck Z,λq H2 nq=>?_⟩;have s2:=s1.trans nq.same;refine⟨q,Z,⟨_,aZ.of nq.at'⟩,λD H0 nw=>?_⟩;have hd3:aL K H2 [u2,u3,u4] [a,b,c]:=cI (RD.mono s2 _ r2) (cI (RD.mono s2 _ r3) (cI (RD.mono s2 _ r4) dv));refine Bt (xs:=[u2,u3,u4]) (bs:=[a,b,c].map (cZ 1 50)) [] (aZ.of nq.at') nw Z (Ug Z) ?_ ?_
    ·intro i x b' H3 Q' ex eb s3 hq
     obtain⟨d,ed,rfl⟩:=Aq eb;obtain⟨x',j7,rx⟩:=hd3.get i ed;rw[ex]at j7;cases j7;exact⟨_,Z,_,d,1,50,Z,RD.mono s3 _ rx,hq _ (aD.refl _)⟩
    ·intro H3 s3 d3
     refine⟨D,_,Z,aJ.of d3,?_⟩;rw[all_map];exact k H3 (s2.trans s3)
  ·rw[hf]at k
   refine⟨_,Z,.inl ⟨_,_,"tuple",true,Z,rd.ty,az,oQ,_,Z,aY ?_⟩⟩;obtain⟨p,xs,rfl,hx,hd⟩:=rd.cJ;refine⟨_,Z,p,_,Z,.inr hx,.inl ⟨_,_,Z,Z,_,Z,?_⟩⟩;have e:(!decide ((xs.length:Int)=5))=true:=by rw[hd.length];simp;lia
   rw[e];exact bG (k H (aD.refl _))
  ·rw[hf]at k
   refine⟨_,Z,.inl ⟨_,_,"tuple",false,Z,rd.ty,az,ht,_,Z,bG ?_⟩⟩;exact k H (aD.refl _)
end
end _b
set_option maxHeartbeats 2000000
namespace _b
open PySem PySem.Spec PyProof.Rows _L _r _l _C _P _W _R
open _O (topR cornO mnO betR atO ownF leadF ownL OkI OkIs)
open _T (numS numIn? Free)
section
variable {P:af}{w:World}{K:aa}{mg:bD}{au:Heap}
structure mR(K:aa)(D:Addr):Prop where
 cl:gU K D
 kj:gL K D "machine"
 wW:gL K D "runner"
def lL(K:aa)(D:Addr)(H:Hp)(a r:Addr)(M:bE):Prop:=∃dx mv,H a=some (.ins D dx [("machine",mv),("runner",.ref r)])/\RD K H mv M.D
theorem a1t{rs:List Int}{r f j t:Int}(h:jw rs r f j t):ko (gr rs r f j t)=true:=by
 show(pG (.tuple (rs.map PyData.int))&&cZ 1 100 (.int t)&&[PyData.int r,.int f,.int j].all (cZ 1 50))=true;have h1:pG (.tuple (rs.map PyData.int))=true:=by show(((rs.map PyData.int).length==2||(rs.map PyData.int).length==3)&&(rs.map PyData.int).all (cZ 1 100))=true;rw[bS,eH,Bool.or_eq_true,fi,fi];refine⟨h.len,fV.mpr λd hd=>?_⟩;obtain⟨z,hz,rfl⟩:=cW.mp hd;have:=h.rl z hz;show(decide (1<=z)&&decide (z<=100))=true;rw[cf this.1,cf this.2];rfl
 have q:∀{lo hi z:Int},lo<=z/\z<=hi->cZ lo hi (.int z)=true:=λ{lo hi z} h=>by show(decide (lo<=z)&&decide (z<=hi))=true;rw[cf h.1,cf h.2];rfl
 rw[h1,q h.t1];show(cZ 1 50 (.int r)&&(cZ 1 50 (.int f)&&(cZ 1 50 (.int j)&&true)))=true;rw[q h.r1,q h.f1,q h.j1];rfl
abbrev ED:Stmt:=inClass (top 102) 0
theorem MY:aW ["self","machine","place"] ["self","machine","place"] (aP ED):=bj aI
inductive aaf(K:aa)(C:Addr)(D:Addr)(vs:List V)(H:Hp)(Q:VK):Prop |mk (a:_)(dx:_)(mv:_)(gP:_)(M:_)(pl:_)(h0:vs=[.ref a,mv,gP])(h1:H a=some (.ins D dx []))(h2:RD K H mv (bE.D M))(h3:RD K H gP (fE pl))(h4:M.Ok)(h5:fO M.rs pl)(h6:∀r q H',lL K D H' a r M->bT K C H' r q M (nj pl)->H r=none->H q=none->cA [a] H H'->Q .bw H')
def Lv(K:aa)(C D:Addr):Sp:=λvs H Q _=>aaf K C D vs H Q
theorem ZW{C D:Addr}(F:CA K mg D "Desk" "Desk.__init__" ED)(TC:mR K D)(a3O:aB P w K mg au "is_machine" 4 (vY ko K))(Hk:aB P w K mg au "is_place" 3 (zF K))(Hv:sQ P w K mg au C "Runner" 1 (CB K C)):sQ P w K mg au D "Desk" 5 (Lv K C D):=by
 refine F.has MY (λvs H Q E h=>?_) (λ_ _ _ _ _ _=>jS λ_ _ _=>rfl) (λf aH A outer s H vs Q E hr h=>?_)
 ·obtain⟨a,dx,mv,gP,M,pl,rfl,_⟩:=h
  rfl
 ·obtain⟨a,dx,mv,gP,M,pl,rfl,e,rm,rp,aG,jI,k⟩:=h
  have nd:=MY.nd;have lr:=aG.len;refine⟨_,(aE (bJ (dw (cK (pf a3O hr (ak (pv 1) ay)))) qQ bK) (aE (bJ (dw (cK (pf Hk hr (ak (pv 1) (ak (pv 2) ay))))) qQ bK) (aE (fD TC.cl TC.kj (pv 0) (pv 1)) (aK (fD TC.cl TC.wW (pv 0) (FK Hv (hr.mono az) rfl (ak (pv 1) (ak (pv 2) ay)))))))),?_⟩;refine⟨_,Z,mv,_,Z,rm,λH1 s1=>⟨_,Z,?_⟩⟩;rw[a1t aG];refine aY ?_;refine⟨_,Z,_,Z,mv,gP,M.rs,_,_,Z,RD.mono s1 _ rm,RD.mono s1 _ rp,aw,λH2 s2=>⟨_,Z,?_⟩⟩;rw[OG jI];refine aY ?_;have gY:=s1.trans s2;have e2:=gY _ _ e;refine⟨_,Z,_,Z,a,dx,_,Z,e2,az,?_⟩;have v2:cQ H (_L.upd H2 a (.ins D dx [("machine",mv)])):=gY.v.trans (.upd e2 trivial);refine⟨_,Z,_,Z,λr rx my GY ne=>?_⟩;have ar:a≠r:=λz=>by rw[<-z,bW]at my;cases my
  have SU:a≠rx:=λz=>by rw[<-z,bW]at GY;cases GY
  have s3:aD (_L.upd H2 a (.ins D dx [("machine",mv)])) (_L.upd (_L.upd (_L.upd H2 a (.ins D dx [("machine",mv)])) rx (.own r)) r (.ins C rx [])):=(aD.new GY).trans (aD.new (by rw[aV ne.symm];exact my));have v3:=v2.trans s3.v;refine⟨r,rx,mv,gP,M,pl,Z,bW,RD.v v3 _ (iu _ _ _ _ _) rm,RD.v v3 _ (m4 _) rp,λq H3 R3 nq bt=>⟨Z,?_⟩⟩;have nr:H r=none:=by cases e':H r with |none=>rfl |some o=>rw[aV ar.symm,gY _ _ e']at my;cases my
  have OO:q≠a:=λz=>by rw[z,aV ar,aV SU,bW]at nq;cases nq
  have nqH:H q=none:=by cases e':H q with |none=>rfl |some o=>
   have h1:(_L.upd H2 a (.ins D dx [("machine",mv)])) q=some o:=by rw[aV OO];exact gY _ _ e'
   cases(s3 _ _ h1).symm.trans nq
  have e3:=bt a _ (by rw[aV ar,aV SU];exact bW) (λz=>ar (dH.mp z));refine⟨_,Z,a,dx,_,Z,e3,by show 1<1000;decide,?_⟩;have v4:cQ H3 (_L.upd H3 a (.ins D dx [("machine",mv),("runner",.ref r)])):=.upd e3 trivial;have bH:cA [a] H (_L.upd H3 a (.ins D dx [("machine",mv),("runner",.ref r)])):=λb o eb hb=>by
   have ha:b≠a:=λz=>hb (by rw[z];exact .head _);have hbr:b≠r:=λz=>by rw[z,nr]at eb;cases eb
   rw[aV ha];refine bt b o (s3 _ _ (by rw[aV ha];exact gY _ _ eb)) (λz=>hbr (dH.mp z))
  have vH:=bH.v λx hx o eo=>by rw[dH]at hx;rw[hx,e]at eo;cases eo;trivial
  refine k r q _ ⟨dx,mv,bW,RD.v vH _ (iu _ _ _ _ _) rm⟩ ?_ nr nqH bH;exact R3.go Z v4 (λo eo=>by rw[aV ar.symm];exact eo) (λo eo=>by rw[aV OO];exact eo)
inductive a9I(K:aa)(vs:List V)(H:Hp)(Q:VK):Prop |mk (l:Addr)(z:Str)(h0:vs=[.ref l])(h1:aJ K H l [.str z])(h2:z.length<=640)(h3:∀H',aD H H'->Q (oV (numIn? z)) H')
def CL(K:aa):Sp:=λvs H Q _=>a9I K vs H Q
abbrev E3:Stmt:=top 103
theorem Mo:aW ["words"] ["words"] (aP E3):=bj aI
theorem Zl(F:FA K mg "only_number" E3)(B:bC mg)(xn:aB P w K mg au "number_in" 1 vX):aB P w K mg au "only_number" 2 (CL K):=by
 refine F.has Mo (λvs H Q E h=>?_) (λ_ _ _ _ _ _=>cw λ_=>rfl) (λf aH A outer s H vs Q E hr h=>?_)
 ·obtain⟨l,z,rfl,_⟩:=h
  rfl
 ·obtain⟨l,z,rfl,hl,zl,k⟩:=h
  have nd:=Mo.nd;refine⟨_,(aK (aR (iP (bX (dM K Z hr.units) (fF K B (ak (pv 0) ay)) aF (bL _)) (pf xn hr (ak (px K (pv 0) aF) ay)) jk))),?_⟩;refine⟨_,Z,l,_,Z,.inl hl,.inl ⟨_,_,Z,Z,_,Z,bG ?_⟩⟩;exact⟨_,Z,.inl ⟨l,_,0,.str z,Z,Z,hl,Z,z,Z,zl,k⟩⟩
theorem Mv.same{a q q':Addr}{H H' H2:Hp}(m:Mv a q H q' H')(s:aD H' H2):Mv a q H q' H2:=⟨λb o e hb=>s _ _ (m.but b o e hb),m.nq⟩
theorem Mv.ahead{a q q':Addr}{H H' H2:Hp}(s:aD H H')(m:Mv a q H' q' H2):Mv a q H q' H2:=⟨λb o e hb=>m.but b o (s _ _ e) hb,m.nq.imp id λe=>by cases h:H q' with |none=>rfl |some o=>rw[s _ _ h]at e;cases e⟩
theorem IM{d:ah}(h:BD d):(lC d).length<=2000:=by
 rcases h with⟨ti,hn⟩|⟨ns,t,a,b,rfl,hl,hn,ht,ha,hb⟩
 ·rw[IP ti hn]
  have:=uF ti
  lia
 ·rw[IL]
  have B9:=uu hn hl;have uM:=nO ht;have QL:=xT ha hb;have xP:=dZ;have h5:Str.length "step "=5:=by decide+kernel
  simp only[cV]
  lia
def Bh(es:List ah):Str:=jJ (Txt.join "\n" (es.map lC))
theorem ON{n:Int}(h:Nm n):oV (numIn? (numS n))=V.int n:=by rw[_T.G2 (by have:=fL h;lia)];rfl
def Te(K:aa)(C r q:Addr)(M:bE)(S:bc)(n:Int)(H:Hp)(Q:VK):Prop:=∀es S' q' H',Run M S es S'->(es.length:Int)<=n->((es.length:Int)=n\/S'.os=[]\/Halt S'.pc S'.aU)->bT K C H' r q' M S'->Mv r q H q' H'->Q (.str (Bh es)) H'
abbrev Dn:Stmt:=inClass (top 102) 3
theorem LX:aW ["self","words","number"] ["self","words"] (aP Dn):=bj aI
inductive a9l(K:aa)(C:Addr)(D:Addr)(vs:List V)(H:Hp)(Q:VK):Prop |mk (a:_)(r:_)(q:_)(M:_)(D':_)(S:_)(l:_)(n:_)(h0:vs=[.ref a,.ref l])(h1:lL K D H a r M)(h2:bT K C H r q M S)(h3:RG M D' S)(h4:aJ K H l [.str (numS n)])(h5:0<=n)(h6:n<=100)(h7:Te K C r q M S n H Q)
def L8(K:aa)(C D:Addr):Sp:=λvs H Q _=>a9l K C D vs H Q
theorem YI{C D:Addr}(F:MA K D "say_steps" "Desk.say_steps" Dn)(TC:mR K D)(RC:cU K C)(B:bC mg)(a4F:GV mg "MOST_ENTRIES" (.int 100))(xE:GV mg "NOTHING" (.str "none"))(Hc:aB P w K mg au "only_number" 2 (CL K))(iz:aB P w K mg au "is_whole_within" 2 (lU K))(a38:aB P w K mg au "show_entry" 3 (zG K))(HS:bP P w K mg au C "entries" 12 (CH K C)):bP P w K mg au D "say_steps" 13 (L8 K C D):=by
 refine F.has LX (λvs H Q E h=>?_) (λ_ _ _ _ _ _=>dF λ_ _=>rfl) (λf0 aH A outer s H vs Q E hr h=>?_)
 ·obtain⟨a,r,q,M,D',S,l,n,rfl,_⟩:=h
  rfl
 ·obtain⟨a,r,q,M,D',S,l,n,rfl,⟨dx,mv,ea,rm⟩,Ra,g,hl,n0,n1,k⟩:=h
  have nd:=LX.nd;have nm:Nm n:=by show n.natAbs<10^40;lia
  refine⟨_,(aE (pS 2 nd (pf Hc hr (ak (pv 1) ay))) (aE (bJ (dw (cK (pf iz hr (ak (pv 2) (ak aF (ak (cX (x:="MOST_ENTRIES") Z a4F) ay)))))) qQ bK) (aK (aR (FJ (kM K Z bu (ak (eW (N:=["entry"]) (js:=[none]) Z Z Z (kL K Z (m5 HS RC.cl (hr.mono az) (cE TC.cl TC.wW (pv 0)) (ak (pv 2) ay))) (λ_ _ _ _ _=>(bo 0 (gR _))) (λ_ _ _ _ _=>dS) (λ_ _ _ _ _=>(pf a38 hr (ak (pv 0) ay)))) ay)) (p5 (cX (x:="NOTHING") rfl xE))))))),?_⟩;refine⟨_,Z,l,_,Z,hl,by have:=fL nm;lia,λH1 s1=>?_⟩;rw[ON nm];refine⟨_,Z,.int n,.int n,0,100,Z,fC _,_,Z,?_⟩;rw[show cZ 0 100 (.int n)=true by show(decide (0<=n)&&decide (n<=100))=true;rw[cf n0,cf n1];rfl];refine aY ?_;obtain⟨rx,NM,NZ,NK,NF,er,_⟩:=Ra.ob;refine⟨Z,?_⟩;refine⟨_,Z,a,dx,_,_,Z,s1 _ _ ea,Z,r,rx,_,Z,s1 _ _ er,Z,_,Z,r,q,M,D',S,n,Z,Ra.same g.ok.row.no s1,g.ok,g.aG,n0,aw,λle ys es S' q' H2 nl dl rd run he kW R2 me lq=>?_⟩;have ly:=rd.length;have te:=run.zh g.ok g.aG g.hD;refine⟨le,Z,⟨_,aJ.of dl⟩,λD2 H4 n4=>?_⟩;refine qe (K:=K) (ds:=(es.map lC).map PyData.str) _ (aJ.of dl) n4 (by simp;exact ly) aw (kO _) ?_ ?_
  ·intro i x d H5 Q' ex ed s5 hq
   obtain⟨d',dB,rx⟩:=rd.get' i ex;rw[bQ,bQ,dB]at ed;cases ed;exact⟨_,Z,x,d',Z,RD.mono s5 _ rx,te d' (fA dB),λH6 s6=>hq _ _ s6 (bp _)⟩
  ·intro H5 ws s5 d5 r5
   rw[jE r5]at d5;refine⟨"\n",D2,es.map lC,Z,Z,aJ.of d5,λz hz=>?_,aI,by rw[bS];lia,?_⟩
   ·obtain⟨d,hd,rfl⟩:=cW.mp hz
    have:=IM (te d hd)
    lia
   have hj:=GG "\n" (B:=2000) (es.map lC) (λz hz=>by obtain⟨d,hd,rfl⟩:=cW.mp hz;exact IM (te d hd));have n1:Str.length "\n"=1:=by decide+kernel
   rw[n1,bS]at hj;have kU:es.length*(2000+1)<=100*2001:=Nat.mul_le_mul_right _ aw;have k2:=k es S' q' H5 run he kW (R2.same (run.ok g.ok g.aG).row.no s5) (Mv.ahead s1 (me.same s5));unfold Bh jJ at k2;refine⟨_,Z,aw,?_⟩;split
   ·next e0=>rw[bf e0]at k2;exact k2
   ·next e0=>rw[bh e0]at k2;exact k2
def Ti(K:aa)(C cR cM r q:Addr)(M:bE)(S:bc)(n:Int)(H:Hp)(Q:VK)(E:XK):Prop:=(kH (.int n)=false->∀H',aD H H'->E (.ref cR) none H')/\(kH (.int n)=true->S.pc≠0->∀H',aD H H'->E (.ref cM) none H')/\(10<=n->n<=200->S.pc=0->∀H',bT K C H' r q M {S with aA:=n}->cA [r] H H'->Q (.str (numS n)) H')
abbrev Dp:Stmt:=inClass (top 102) 4
theorem LY:aW ["self","words","number"] ["self","words"] (aP Dp):=bj aI
inductive a9m(K:aa)(C:Addr)(D:Addr)(cR:Addr)(cM:Addr)(vs:List V)(H:Hp)(Q:VK)(E:XK):Prop |mk (a:_)(r:_)(q:_)(M:_)(D':_)(S:_)(l:_)(n:_)(h0:vs=[.ref a,.ref l])(h1:lL K D H a r M)(h2:bT K C H r q M S)(h3:RG M D' S)(h4:aJ K H l [.str (numS n)])(h5:Nm n)(h6:Ti K C cR cM r q M S n H Q E)
def L9(K:aa)(C D cR cM:Addr):Sp:=λvs H Q E=>a9m K C D cR cM vs H Q E
theorem YJ{C D cR cM:Addr}(F:MA K D "say_rate" "Desk.say_rate" Dp)(TC:mR K D)(RC:cU K C)(B:bC mg)(Hc:aB P w K mg au "only_number" 2 (CL K))(Hw:ja P w K mg au C "turn_rate" 5 (Cz K C cR cM)):ja P w K mg au D "say_rate" 6 (L9 K C D cR cM):=by
 refine F.uL LY (λvs H Q E h=>?_) (λ_ _ _ _ _ _=>dF λ_ _=>rfl) (λf0 aH A outer s H vs Q E hr h=>?_)
 ·obtain⟨a,r,q,M,D',S,l,n,rfl,_⟩:=h
  rfl
 ·obtain⟨a,r,q,M,D',S,l,n,rfl,⟨dx,mv,ea,rm⟩,Ra,g,hl,nm,k1,k2,k3⟩:=h
  have nd:=LY.nd;refine⟨_,(aE (pS 2 nd (pf Hc hr (ak (pv 1) ay))) (aE (bJ (bX OB (pv 2) jk (bL _)) qQ bK) (aK (aR (cD (x:="str") fq Z (B.at "str") fj (ak (A6 Hw (A8 λ_ _ _ z=>z) RC.cl (hr.mono az) (cE TC.cl TC.wW (pv 0)) (ak (pv 2) ay)) ay)))))),?_⟩;refine⟨_,Z,l,_,Z,hl,by have:=fL nm;lia,λH1 s1=>?_⟩;rw[ON nm];refine⟨_,Z,Z,_,Z,aY ?_⟩;obtain⟨rx,NM,NZ,NK,NF,er,_⟩:=Ra.ob;refine⟨_,Z,a,dx,_,_,Z,s1 _ _ ea,Z,r,rx,_,Z,s1 _ _ er,Z,_,Z,r,q,M,D',S,.int n,.int n,Z,Ra.same g.ok.row.no s1,g.ok,g.aG,fC _,λh H' s'=>k1 h H' (s1.trans s'),λh hp H' s'=>k2 h hp H' (s1.trans s'),λaA e h1 h2 hp H' R' b'=>?_⟩;cases e;exact .inl ⟨n,Z,fS nm,k3 h1 h2 hp H' R' λb o eb hb=>b' b o (s1 _ _ eb) hb⟩
inductive dW |wd (w:Wd) |steps (n:Int) |aA (n:Int) |item (d:ah)(o:Itm)
def dW.txt:dW->Str | .wd w=>w.txt | .steps n=>"steps"++" "++numS n | .aA n=>"rate"++" "++numS n | .item d _=>dU d
def dW.Ok(K:aa)(C cR cM:Addr)(r q:Addr)(M:bE)(S:bc)(H:Hp)(Q:VK)(E:XK):dW->Prop | .wd w=>w.Ok K C cM r q M S H Q E | .steps n=>0<=n/\n<=100/\Te K C r q M S n H Q | .aA n=>Nm n/\Ti K C cR cM r q M S n H Q E | .item d o=>iC M.rs.length d o/\fO M.rs (hZ (jq S) o)/\S.ds.length<20/\∀H',bT K C H' r q M (uP S d o)->cA [r,q] H H'->Q (.str (numS (S.ds.length+1:Nat))) H'
theorem Wd.Ok.go{C cM r q:Addr}{M:bE}{S:bc}{H H1:Hp}{Q:VK}{E:XK}{w:Wd}(h:w.Ok K C cM r q M S H Q E)(s:aD H H1):w.Ok K C cM r q M S H1 Q E:=by cases w with |hold=>exact λH' R b=>h H' R λx o e hx=>b x o (s _ _ e) hx |go=>exact λH' R b=>h H' R λx o e hx=>b x o (s _ _ e) hx |drop=>exact⟨λz H' s'=>h.1 z H' (s.trans s'),λz q' H' R nq b=>h.2 z q' H' R (by cases e:H q' with |none=>rfl |some o=>rw[s _ _ e]at nq;cases nq) λx o e hx=>b x o (s _ _ e) hx⟩ |_=>exact λH' s'=>h H' (s.trans s')
theorem Vf{ws:List Str}{d:ah}(h:fW ws=d)(hd:d≠ .none):∃z y rest ds,ws=z::y::rest/\d= .tuple (.str z::ds):=by
 subst h
 match ws with
 |[]=>exact(hd Z).elim |[z]=>exact(hd (by unfold fW;dsimp only;split<;>rfl)).elim |z::y::rest=>
  refine⟨z,y,rest,?_⟩;unfold fW at hd⊢;dsimp only at hd⊢;split
  ·exact⟨_,Z,Z⟩
  ·next hz=>
   rw[bh hz]at hd
   match rest,hd with |[],_=>exact⟨_,Z,Z⟩ |_::_,hd=>exact(hd Z).elim
def Jr (z:Str):Prop:=z = "line" \/ oH z
theorem oK.word{n:Nat}{d:ah}(h:oK n d):∃z y rest,Txt.split (dU d) " "=z::y::rest/\Jr z:=by
 have e:=h.rt;unfold rH at e;have e2:fW (Txt.split (dU d) " ")=d:=by cases hc:kQ n (fW (Txt.split (dU d) " "))with |true=>rw[hc]at e;exact e |false=>rw[hc]at e;exact(h.ne e.symm).elim
 obtain⟨z,y,rest,ds,hw,hd⟩:=Vf e2 h.ne;refine⟨z,y,rest,hw,?_⟩;rcases h.ti with⟨ns,sp,rfl,_⟩|⟨w,i,rfl,hw,_⟩|⟨w,y,rfl,hw,_⟩
 ·cases hd;exact .inl rfl
 ·cases hd;exact .inr hw
 ·cases hd;exact .inr hw
structure Jw(K:aa)(gA:Addr):Prop where
 line:PySem.W.nsIn K gA "line"=some none
 wait:PySem.W.nsIn K gA "wait"=some none
 qA:∃v,PySem.W.nsIn K gA "tool"=some (some v)
 mark:∃v,PySem.W.nsIn K gA "mark"=some (some v)
 steps:PySem.W.nsIn K gA "steps"=some none
 aA:PySem.W.nsIn K gA "rate"=some none
theorem a8A{ta tb:TT}{O:_L.St}{H:Hp}{Q:Bool->Hp->Prop}(h1:∀Q':Bool->Hp->Prop,(∀c,Q' c H)->ta O H Q')(h2:∀Q':Bool->Hp->Prop,Q' false H->tb O H Q')(k:Q false H):Kt ta tb O H Q:=h1 _ λc=>by cases c with |true=>exact h2 _ k |false=>exact k
structure RwW(y:Str):Prop where
 sh:SeqAt.shaped (.str y)=true
 n1:PyData.eqv (.str y) (.str "to")=false
 n2:PyData.eqv (.str y) (.str "steps")=false
 n3:PyData.eqv (.str y) (.str "rate")=false
theorem WL{y:Str}(h:Jr y):RwW y:=by rcases h with rfl|rfl|rfl|rfl<;>exact⟨aI,aI,aI,aI⟩
theorem fu:SeqAt.shaped (.str "to")=true/\SeqAt.shaped (.str "steps")=true/\SeqAt.shaped (.str "rate")=true/\PyData.eqv (.str "to") (.str "to")=true:=by decide+kernel
theorem Jw.row{gA:Addr}(h:Jw K gA){y:Str}(hy:Jr y):∃ov,PySem.W.nsIn K gA y=some ov:=by
 rcases hy with rfl|rfl|rfl|rfl
 ·exact⟨_,h.line⟩
 ·exact⟨_,h.wait⟩
 ·exact⟨_,h.qA.choose_spec⟩
 ·exact⟨_,h.mark.choose_spec⟩
theorem yV(w:Wd):Txt.split w.txt " "=[w.txt]/\w.txt.length<=100:=by cases w<;>exact⟨aI,aI⟩
theorem zt{z:Str}(hz:Free 32 z)(n:Int):Txt.split (z++" "++numS n) " "=[z,numS n]:=by
 have ej:z++" "++numS n=Txt.join ⟨#[32]⟩ [z,numS n]:=by rw[<-oW];rfl
 rw[ej,oW];refine _T.KR (by simp) λy hy=>?_;simp only[cj,eQ,iI]at hy;rcases hy with rfl|rfl
 ·exact hz
 ·exact _T.qZ az az
theorem oY:PyData.eqv (.str "steps") (.str "to")=false/\PyData.eqv (.str "steps") (.str "steps")=true/\PyData.eqv (.str "rate") (.str "to")=false/\PyData.eqv (.str "rate") (.str "steps")=false/\PyData.eqv (.str "rate") (.str "rate")=true:=by decide+kernel
inductive a9k(K:aa)(C:Addr)(D:Addr)(cR:Addr)(cM:Addr)(vs:List V)(H:Hp)(Q:VK)(E:XK):Prop |mk (a:_)(r:_)(q:_)(M:_)(D':_)(S:_)(c:_)(h0:vs=[.ref a,.str (dW.txt c)])(h1:lL K D H a r M)(h2:bT K C H r q M S)(h3:RG M D' S)(h4:c.Ok K C cR cM r q M S H Q E)
def zw(K:aa)(C D cR cM:Addr):Sp:=λvs H Q E=>a9k K C D cR cM vs H Q E
abbrev Dm:Stmt:=inClass (top 102) 1
theorem LW:aW ["self","text","word","rest","answer","item"] ["self","text"] (aP Dm):=bj aI
theorem YQ{C D gA cR cM:Addr}(F:MA K D "say" "Desk.say" Dm)(TC:mR K D)(RC:cU K C)(B:bC mg)(GA:GD w K mg "ANSWERS" gA)(NA:Jw K gA)(hW:∀v:Wd,∃fn,PySem.W.nsIn K gA v.txt=some (mg fn)/\qp P w K mg au fn 10 (jF K C cM v))(a3L:aB P w K mg au "item_in" 5 (CO K))(a5c:bP P w K mg au D "say_steps" 13 (L8 K C D))(a5d:ja P w K mg au D "say_rate" 6 (L9 K C D cR cM))(HR:bP P w K mg au C "feed" 5 (CG K C)):ja P w K mg au D "say" 14 (zw K C D cR cM):=by
 refine F.uL LW (λvs H Q E h=>?_) (λ_ _ _ _ _ _=>dF λ_ _=>rfl) (λf0 aH A outer s H vs Q E hr h=>?_)
 ·obtain⟨a,r,q,M,D',S,c,rfl,_⟩:=h
  rfl
 ·obtain⟨a,r,q,M,D',S,c,rfl,⟨dx,mv,ea,rm⟩,Ra,g,k⟩:=h
  have nd:=LW.nd;have lr:=g.aG.n3;have iY:sizeLine=16777216:=by decide
  refine⟨_,(aE (bJ (dw (cK (nH K B (ak (pv 1) (ak (m6 (x:="str") (v:=.ty "str") Z (B.at "str") fj rfl) ay))))) qQ bK) (aE (eL (FN K Z (pv 1) (ak bu ay)) (Og K Z Z (bo 2 nd) (bo 3 nd))) (aE (bJ (PW.pt (qP (XB (Yc GA Z (pv 2)) (by with_unfolding_all rfl)) (wC (dw (wD K Z (pv 3)))))) (aE (pS 4 nd (Y0 GA Z (pv 2) (λ_ _=>rfl))) (aK (aR (Y3 4 (A8 λ_ _ _ z=>z) (ha:=(ak (cE TC.cl TC.wW (pv 0)) ay)))))) bK) (aE (bJ (bX (dM K Z hr.units) (pv 2) bu (bL _)) qQ bK) (aE (bJ (bX (dM K Z hr.units) (pv 2) bu (bL _)) (aK (aR (m5 a5c TC.cl (hr.mono az) (pv 0) (ak (pv 3) ay)))) bK) (aE (bJ (bX (dM K Z hr.units) (pv 2) bu (bL _)) (aK (aR (A6 a5d (A8 λ_ _ _ z=>z) TC.cl (hr.mono az) (pv 0) (ak (pv 3) ay)))) bK) (aE (pS 5 nd (pf a3L hr (ak (cE TC.cl TC.kj (pv 0)) (ak (pv 1) ay)))) (aE (bJ (bX OB (pv 5) jk (bL _)) qQ bK) (aK (aR (cD (x:="str") fq Z (B.at "str") fj (ak (m5 HR RC.cl (hr.mono az) (cE TC.cl TC.wW (pv 0)) (ak (pv 5) ay)) ay)))))))))))),?_⟩;refine⟨_,Z,.inl ⟨_,"str","str",true,Z,Z,az,az,_,Z,aY ?_⟩⟩;cases c with
  |wd v=>obtain⟨hz,hl⟩:=yV v;obtain⟨fn,hG,f,fd,ps,Fo,hm,hk,hb⟩:=hW v;rw[hm]at hG;refine⟨_,Z,Z,v.txt," ",Z,Z,aI,aw,λl H1 n1=>?_⟩;rw[hz]at n1;refine⟨l,.str v.txt,[],Z,aJ.of n1.at',az,λp H2 n2=>?_⟩;have s2:=n1.same.trans n2.same;refine⟨_,Z,v.txt,_,Z,hG,true,Z,bG ?_⟩;refine⟨_,Z,false,.inl ⟨_,aJ.of n2.at',Z⟩,bG ?_⟩;refine⟨_,Z,v.txt,_,.ref f,Z,hG,Z,?_⟩;exact⟨f,fd,ps,10,_,Z,Fo,hk,hb,hr.mono az,_,Z,a,dx,_,_,Z,s2 _ _ ea,Z,r,q,M,D',S,Z,Ra.same g.ok.row.no s2,g,Wd.Ok.go k s2⟩ |steps n=>
   obtain⟨n0,Am,k⟩:=k;have nm:Nm n:=by show n.natAbs<10^40;lia
   have hl:=fL nm;have e5:Str.length "steps"=5:=by decide+kernel
   have h1:=dZ;refine⟨_,Z,Z,_," ",Z,Z,aI,by simp only[dW.txt,cV];lia,λl H1 n1=>?_⟩;rw[show Txt.split (dW.txt (.steps n)) " "=[Str.ofString "steps",numS n]from zt (j4 aI) n]at n1;refine⟨l,.str "steps",[.str (numS n)],Z,aJ.of n1.at',by show 1<=16000;decide,λp H2 n2=>?_⟩;have s2:=n1.same.trans n2.same;refine⟨_,Z,"steps",_,Z,NA.steps,false,Z,aY ?_⟩;refine⟨_,Z,.inr ⟨_,_,bp _,bp _,fu.2.1,fu.1,_,Z,?_⟩⟩;rw[oY.1];refine aY ⟨_,Z,.inr ⟨_,_,bp _,bp _,fu.2.1,fu.2.1,_,Z,?_⟩⟩;rw[oY.2.1];refine bG ?_;exact⟨_,Z,a,dx,_,Z,s2 _ _ ea,Z,_,Z,a,r,q,M,D',S,p,n,Z,⟨dx,mv,s2 _ _ ea,RD.mono s2 _ rm⟩,Ra.same g.ok.row.no s2,g,aJ.of n2.at',n0,Am,λes S' q' H' h1 h2 h3 h4 h5=>k es S' q' H' h1 h2 h3 h4 (Mv.ahead s2 h5)⟩ |aA n=>
   obtain⟨nm,k1,k2,k3⟩:=k;have hl:=fL nm;have e5:Str.length "rate"=4:=by decide+kernel
   have h1:=dZ;refine⟨_,Z,Z,_," ",Z,Z,aI,by simp only[dW.txt,cV];lia,λl H1 n1=>?_⟩;rw[show Txt.split (dW.txt (.aA n)) " "=[Str.ofString "rate",numS n]from zt (j4 aI) n]at n1;refine⟨l,.str "rate",[.str (numS n)],Z,aJ.of n1.at',by show 1<=16000;decide,λp H2 n2=>?_⟩;have s2:=n1.same.trans n2.same;refine⟨_,Z,"rate",_,Z,NA.aA,false,Z,aY ?_⟩;refine⟨_,Z,.inr ⟨_,_,bp _,bp _,fu.2.2.1,fu.1,_,Z,?_⟩⟩;rw[oY.2.2.1];refine aY ⟨_,Z,.inr ⟨_,_,bp _,bp _,fu.2.2.1,fu.2.1,_,Z,?_⟩⟩;rw[oY.2.2.2.1];refine aY ⟨_,Z,.inr ⟨_,_,bp _,bp _,fu.2.2.1,fu.2.2.1,_,Z,?_⟩⟩;rw[oY.2.2.2.2];refine bG ?_;exact⟨_,Z,a,dx,_,Z,s2 _ _ ea,Z,_,Z,a,r,q,M,D',S,p,n,Z,⟨dx,mv,s2 _ _ ea,RD.mono s2 _ rm⟩,Ra.same g.ok.row.no s2,g,aJ.of n2.at',nm,λz H' s'=>k1 z H' (s2.trans s'),λz1 z2 H' s'=>k2 z1 z2 H' (s2.trans s'),λz1 z2 z3 H' R' b'=>k3 z1 z2 z3 H' R' λx o e hx=>b' x o (s2 _ _ e) hx⟩ |item d o=>
   obtain⟨it,jI,l20,k⟩:=k;have tx:=it.tx lr.1 lr.2;have ok:=g.ok;have aG:=g.aG;obtain⟨y,y2,C7,hs,hy⟩:=tx.word;obtain⟨ov,hov⟩:=NA.row hy;generalize eys:y2::C7=ys at hs;have W:=WL hy;have hl:(dW.txt (.item d o)).length<=400:=tx.len;have xu:=tx.len;have AG:ys.length<=1000:=by
    have:=split_len (dU d) " ";rw[hs,gh]at this
    lia
   refine⟨_,Z,Z,_," ",Z,Z,aI,aw,λl H1 n1=>?_⟩;change Nw H H1 l (.lst ((Txt.split (dU d) " ").map V.str))at n1;rw[hs]at n1;refine⟨l,.str y,ys.map V.str,Z,aJ.of n1.at',by rw[bS];lia,λp H2 n2=>?_⟩;have s2:=n1.same.trans n2.same;unfold gw;dsimp only;unfold Km zj;dsimp only;refine a8A (λQ' hq=>⟨_,Z,y,ov,Z,hov,_,Z,hq _⟩) (λQ' hq=>⟨_,Z,true,.inl ⟨_,aJ.of n2.at',by rw[<-eys];rfl⟩,hq⟩) ?_;refine aY ?_;refine⟨_,Z,.inr ⟨_,_,bp _,bp _,W.sh,fu.1,_,Z,?_⟩⟩;rw[W.n1];refine aY ⟨_,Z,.inr ⟨_,_,bp _,bp _,W.sh,fu.2.1,_,Z,?_⟩⟩;rw[W.n2];refine aY ⟨_,Z,.inr ⟨_,_,bp _,bp _,W.sh,fu.2.2.1,_,Z,?_⟩⟩;rw[W.n3];refine aY ?_;refine⟨_,Z,a,dx,_,_,Z,s2 _ _ ea,Z,_,Z,mv,M.rs,_,_,Z,RD.mono s2 _ rm,Z,aw,aw,tx.ok,λv H3 s3 rv=>?_⟩;change RD K H3 v (rH M.rs.length (dU d))at rv;rw[tx.rt]at rv;have zP:=s2.trans s3;have nv:v≠ .bw:=λe=>by rw[e]at rv;rcases tx.ti with⟨ns,sp,rfl,_⟩|⟨w,i,rfl,_⟩|⟨w,z,rfl,_⟩<;>(obtain⟨p,xs,e,_⟩:=rv.cJ;cases e)
   refine⟨_,Z,Z,_,Z,?_⟩;rw[dE nv];refine aY ?_;obtain⟨rx,NM,NZ,NK,NF,er,_⟩:=Ra.ob;refine⟨_,Z,a,dx,_,_,Z,zP _ _ ea,Z,r,rx,_,Z,zP _ _ er,Z,_,Z,?_⟩;refine⟨r,q,M,D',S,v,d,o,Z,Ra.same ok.row.no zP,ok,aG,rv,it,jI,l20,λH' R' b'=>.inl ⟨_,Z,?_,k H' R' λx o e hx=>b' x o (zP _ _ e) hx⟩⟩;exact fS (show((S.ds.length+1:Nat):Int).natAbs<10^40 by lia)
end
end _b
set_option maxHeartbeats 1000000
namespace _b
open PySem PySem.Spec PyProof.Rows _L _r _l _C _P _W _R
open _O (topR cornO mnO betR atO ownF leadF ownL OkI OkIs)
open _T (numS numIn? Free)
section
variable {P:af}{w:World}{K:aa}{mg:bD}{au:Heap}
structure CC where
 g:Addr
 c0:Addr
 c1:Addr
 c2:Addr
 c3:Addr
 c4:Addr
 c5:Addr
 c6:Addr
 c7:Addr
 c8:Addr
 c9:Addr
 c10:Addr
structure KC(K:aa)(X:CC)(C:Addr)(b0 b1 b2 b3 b4 b5 b6 b7 b8 b9 gz:Bool):Prop where
 tk:takes K C X.g
 k:jV K C
 i0:PySem.W.kitOne K (.ref C) (.ref X.c0)=some b0
 i1:PySem.W.kitOne K (.ref C) (.ref X.c1)=some b1
 i2:PySem.W.kitOne K (.ref C) (.ref X.c2)=some b2
 i3:PySem.W.kitOne K (.ref C) (.ref X.c3)=some b3
 i4:PySem.W.kitOne K (.ref C) (.ref X.c4)=some b4
 i5:PySem.W.kitOne K (.ref C) (.ref X.c5)=some b5
 i6:PySem.W.kitOne K (.ref C) (.ref X.c6)=some b6
 i7:PySem.W.kitOne K (.ref C) (.ref X.c7)=some b7
 i8:PySem.W.kitOne K (.ref C) (.ref X.c8)=some b8
 i9:PySem.W.kitOne K (.ref C) (.ref X.c9)=some b9
 i10:PySem.W.kitOne K (.ref C) (.ref X.c10)=some gz
 ve:PySem.W.kitOne K (.ref C) (.type "ValueError")=some true
structure JD(mg:bD)(X:CC):Prop where
 h0:GV mg "NoFraction" (.ref X.c0)
 h1:GV mg "NoRate" (.ref X.c1)
 h2:GV mg "NoItem" (.ref X.c2)
 h3:GV mg "OffRails" (.ref X.c3)
 h4:GV mg "Full" (.ref X.c4)
 h5:GV mg "Moving" (.ref X.c5)
 h6:GV mg "NoTape" (.ref X.c6)
 h7:GV mg "NoText" (.ref X.c7)
 h8:GV mg "NoMachine" (.ref X.c8)
 h9:GV mg "NoPlace" (.ref X.c9)
 h10:GV mg "NoLine" (.ref X.c10)
 v:mg "ValueError"=none
def oB:List Str:=["fraction","rate","item","off","full","moving","tape","text","machine","place","line"]
inductive aai(K:aa)(X:CC)(vs:List V)(H:Hp)(Q:VK):Prop |mk (ex:Addr)(C:Addr)(dx:Option Addr)(b0:Bool)(b1:Bool)(b2:Bool)(b3:Bool)(b4:Bool)(b5:Bool)(b6:Bool)(b7:Bool)(b8:Bool)(b9:Bool)(gz:Bool)(j:Nat)(z:Str)(h0:vs=[.ref ex])(h1:H ex=some (.ext (iD ex (.ref C) dx)))(h2:KC K X C b0 b1 b2 b3 b4 b5 b6 b7 b8 b9 gz)(h3:[b0,b1,b2,b3,b4,b5,b6,b7,b8,b9,gz].count true=1)(h4:[b0,b1,b2,b3,b4,b5,b6,b7,b8,b9,gz][j]? =some true)(h5:(∀m:Nat,m<j->[b0,b1,b2,b3,b4,b5,b6,b7,b8,b9,gz][m]? =some false))(h6:oB[j]? =some z)(h7:∀H',aD H H'->Q (.str ("refused "++z)) H')
def CU(K:aa)(X:CC):Sp:=λvs H Q _=>aai K X vs H Q
abbrev lW:Stmt:=top 118
theorem N0:aW ["_law_e","_law_some","_law_names"] ["_law_e"] (aP lW):=bj aI
theorem a7Y{j:Nat}{z:Str}(h:oB[j]? =some z):j<1000/\z.length<=100:=by
 have hm:=fA h;refine⟨by have:=(dD.mp h).1;have e:oB.length=11:=rfl;lia,?_⟩;have:∀y∈oB,y.length<=100:=by decide+kernel
 exact this z hm
def Bu:Expr:=match fg lW with|_::_::_:: .Assign _ e _::_=>e|_=>.Constant .none 0 ⟨0,0,0,0⟩
theorem a82:lit 4 Bu=some (.list (oB.map PyData.str)):=by kernel_rfl
def Pc(e:Expr):List Stmt:=match fg lW with|a::b::c:: .Assign ts _ p::r=>a::b::c:: .Assign ts e p::r|r=>r
theorem a1k:Pc Bu=fg lW:=by kernel_rfl
theorem a7Z{X:CC}{f:Addr}{aH:Value}{A:ai}{outer:List Env}{s:ae}{H:Hp}{Q:VK}(e:Expr)(hr:ju 0 (A.deeper (envOfC "_law_class" (aP lW) s.heap.objs.size f aH))) (he:Tp (uV P w K mg au ["_law_e","_law_some","_law_names"] "_law_class" (aP lW) f aH A outer s H) e (zi K (.list (oB.map PyData.str)))) (nW:∀x l,swapsWith e (some x) l (uV P w K mg au ["_law_e","_law_some","_law_names"] "_law_class" (aP lW) f aH A outer s H).env=pure false)(B:bC mg)(N:JD mg X) {ex C:Addr}{dx:Option Addr}{b0 b1 b2 b3 b4 b5 b6 b7 b8 b9 gz:Bool}{j:Nat}{z:Str}(e1:H ex=some (.ext (iD ex (.ref C) dx)))(kc:KC K X C b0 b1 b2 b3 b4 b5 b6 b7 b8 b9 gz)(cnt:[b0,b1,b2,b3,b4,b5,b6,b7,b8,b9,gz].count true=1)(o2:[b0,b1,b2,b3,b4,b5,b6,b7,b8,b9,gz][j]? =some true)(o3:∀m:Nat,m<j->[b0,b1,b2,b3,b4,b5,b6,b7,b8,b9,gz][m]? =some false)(o5:oB[j]? =some z)(k:∀H',aD H H'->Q (.str ("refused "++z)) H'): ∃t,fz (uV P w K mg au ["_law_e","_law_some","_law_names"] "_law_class" (aP lW) f aH A outer s H) (Pc e) t/\t {nx:=λ_ H'=>Q .bw H',rt:=Q} (start ["_law_e","_law_some","_law_names"] [.ref ex]) H:=by
 have nd:=N0.nd;have a4B:=N.h0;have a4w:=N.h1;have a4A:=N.h2;have Hu:=N.h3;have a4O:=N.h4;have a4C:=N.h5;have a4v:=N.h6;have a4u:=N.h7;have a4y:=N.h8;have a4x:=N.h9;have a4z:=N.h10;have a4s:=N.v;have iY:sizeLine=16777216:=by decide
 refine⟨_,(aE (pS 1 nd (da (ak (dy (x:="isinstance") (jL K Z) Z (B.at "isinstance") jX (ak (pv 0) (ak (cX (x:="NoFraction") rfl a4B) ay))) (ak (dy (x:="isinstance") (jL K rfl) rfl (B.at "isinstance") jX (ak (pv 0) (ak (cX (x:="NoRate") rfl a4w) ay))) (ak (dy (x:="isinstance") (jL K rfl) rfl (B.at "isinstance") jX (ak (pv 0) (ak (cX (x:="NoItem") rfl a4A) ay))) (ak (dy (x:="isinstance") (jL K rfl) rfl (B.at "isinstance") jX (ak (pv 0) (ak (cX (x:="OffRails") rfl Hu) ay))) ay)))))) (aE (pS 1 nd (aQ (oE K Z) (pv 1) (da (ak (dy (x:="isinstance") (jL K Z) Z (B.at "isinstance") jX (ak (pv 0) (ak (cX (x:="Full") rfl a4O) ay))) (ak (dy (x:="isinstance") (jL K rfl) rfl (B.at "isinstance") jX (ak (pv 0) (ak (cX (x:="Moving") rfl a4C) ay))) (ak (dy (x:="isinstance") (jL K rfl) rfl (B.at "isinstance") jX (ak (pv 0) (ak (cX (x:="NoTape") rfl a4v) ay))) (ak (dy (x:="isinstance") (jL K rfl) rfl (B.at "isinstance") jX (ak (pv 0) (ak (cX (x:="NoText") rfl a4u) ay))) ay))))))) (aE (pS 1 nd (aQ (oE K Z) (pv 1) (da (ak (dy (x:="isinstance") (jL K Z) Z (B.at "isinstance") jX (ak (pv 0) (ak (cX (x:="NoMachine") rfl a4y) ay))) (ak (dy (x:="isinstance") (jL K rfl) rfl (B.at "isinstance") jX (ak (pv 0) (ak (cX (x:="NoPlace") rfl a4x) ay))) (ak (dy (x:="isinstance") (jL K rfl) rfl (B.at "isinstance") jX (ak (pv 0) (ak (cX (x:="NoLine") rfl a4z) ay))) ay)))))) (aE (Ob (i:=2) nd Z (Or.inl Z) he.out (nW _ _)) (aE (bJ (PW.pt (kJ (bX (m9 K Z hr.units) (Y8 K Z (pv 1) (ak gE ay)) aF (bL _)) (kI (dw (cK (dy (x:="isinstance") (jL K Z) Z (B.at "isinstance") jX (ak (pv 0) (ak (m6 (x:="ValueError") (v:=.ty "ValueError") rfl a4s a8l rfl) ay)))))))) (aK (aR bu)) bK) (aK (aR (aQ gH bu (px K (pv 2) (Y6 K Z (pv 1) (ak gE ay))))))))))),?_⟩;refine⟨_,Z,.inl ⟨ex,C,dx,.ref X.c0,.ref X.c0,b0,Z,e1,kc.k,Z,kc.i0,?_⟩⟩;refine⟨_,Z,.inl ⟨ex,C,dx,.ref X.c1,.ref X.c1,b1,Z,e1,kc.k,Z,kc.i1,?_⟩⟩;refine⟨_,Z,.inl ⟨ex,C,dx,.ref X.c2,.ref X.c2,b2,Z,e1,kc.k,Z,kc.i2,?_⟩⟩;refine⟨_,Z,.inl ⟨ex,C,dx,.ref X.c3,.ref X.c3,b3,Z,e1,kc.k,Z,kc.i3,?_⟩⟩;refine⟨ck Z,λl1 H1 n1=>?_⟩;have e2:=n1.same _ _ e1;refine⟨_,Z,?_⟩;refine⟨_,Z,.inl ⟨ex,C,dx,.ref X.c4,.ref X.c4,b4,Z,e2,kc.k,Z,kc.i4,?_⟩⟩;refine⟨_,Z,.inl ⟨ex,C,dx,.ref X.c5,.ref X.c5,b5,Z,e2,kc.k,Z,kc.i5,?_⟩⟩;refine⟨_,Z,.inl ⟨ex,C,dx,.ref X.c6,.ref X.c6,b6,Z,e2,kc.k,Z,kc.i6,?_⟩⟩;refine⟨_,Z,.inl ⟨ex,C,dx,.ref X.c7,.ref X.c7,b7,Z,e2,kc.k,Z,kc.i7,?_⟩⟩;refine⟨ck Z,λl2 H2 n2=>?_⟩;refine⟨l1,l2,_,_,Z,Z,aJ.of (n2.same _ _ n1.at'),aJ.of n2.at',by show 8<=_;lia,λl3 H3 n3=>?_⟩;have s3:=n1.same.trans (n2.same.trans n3.same);have e3:=s3 _ _ e1;refine⟨_,Z,?_⟩;refine⟨_,Z,.inl ⟨ex,C,dx,.ref X.c8,.ref X.c8,b8,Z,e3,kc.k,Z,kc.i8,?_⟩⟩;refine⟨_,Z,.inl ⟨ex,C,dx,.ref X.c9,.ref X.c9,b9,Z,e3,kc.k,Z,kc.i9,?_⟩⟩;refine⟨_,Z,.inl ⟨ex,C,dx,.ref X.c10,.ref X.c10,gz,Z,e3,kc.k,Z,kc.i10,?_⟩⟩;refine⟨ck Z,λl4 H4 n4=>?_⟩;refine⟨l3,l4,_,_,Z,Z,aJ.of (n4.same _ _ n3.at'),aJ.of n4.at',by show 11<=_;lia,λl5 H5 n5=>?_⟩;have hl5:aJ K H5 l5 ([b0,b1,b2,b3,b4,b5,b6,b7,b8,b9,gz].map V.bl):=aJ.of n5.at';have s5:=s3.trans (n4.same.trans n5.same);intro l6v H6 P5 r6;obtain⟨l6,xs6,rfl,hx6,hd6⟩:=(RD.mono a5E _ r6).lst_inv;cases jE hd6;have s6:=s5.trans P5;have AV:=hl5.go P5;have e6:=s6 _ _ e1;refine⟨_,Z,.inl ⟨Z,_,AV⟩,l5,_,Z,Z,AV,.inl ⟨_,_,Z,Z,_,Z,?_⟩⟩;rw[show(!decide (((([b0,b1,b2,b3,b4,b5,b6,b7,b8,b9,gz].count true:Nat)):Int)=1))=false by rw[cnt];rfl];refine aY ?_;refine⟨_,Z,.inl ⟨ex,C,dx,.ty "ValueError",.type "ValueError",true,Z,e6,kc.k,Z,kc.ve,_,Z,aY ?_⟩⟩;obtain⟨j1,z1⟩:=a7Y o5;have o6:(oB.map V.str)[j]? =some (.str z):=by rw[bQ,o5];rfl
 refine⟨_,Z,_,Z,.inl ⟨Z,_,AV⟩,l5,_,j,Z,Z,AV,o2,o3,j1,?_⟩;refine .inl ⟨l6,oB.map V.str,_,_,Z,Z,hx6,cF aw o6,?_⟩;refine⟨_,_,Z,Z,?_,k _ s6⟩;have e8:Str.length "refused "=8:=by decide+kernel
 lia
theorem ZZ{X:CC}(F:FA K mg "_law_class" lW)(B:bC mg)(N:JD mg X):yp P w K mg au "_law_class" 1 (CU K X):=by
 refine F.a4m N0 (λvs H Q E h=>?_) (λ_ _ _ _ _ _=>cw λ_=>rfl) (λf aH A outer s H vs Q hr h=>?_)
 ·obtain⟨ex,C,dx,b0,b1,b2,b3,b4,b5,b6,b7,b8,b9,gz,j,z,rfl,_⟩:=h
  rfl
 ·obtain⟨ex,C,dx,b0,b1,b2,b3,b4,b5,b6,b7,b8,b9,gz,j,z,rfl,e1,kc,cnt,o2,o3,o5,k⟩:=h
  rw[<-a1k];exact a7Z Bu hr (XY K Z 4 Bu _ a82) (λ_ _=>rfl) B N e1 kc cnt o2 o3 o5 k
end
end _b
set_option maxHeartbeats 2000000
namespace _b
open PySem PySem.Spec PyProof.Rows _L _r _l _C _P _W _R
open _O (topR cornO mnO betR atO ownF leadF ownL OkI OkIs)
open _T (numS numIn? Free)
section
variable {P:af}{w:World}{K:aa}{mg:bD}{au:Heap}
structure yi(K:aa)(mg:bD)(X:CC):Prop where
 g:Exc K mg "GlideError" X.g lF nN
 n:JD mg X
 r:Exc K mg "NoRate" X.c1 lF nN
 m:Exc K mg "Moving" X.c5 lF nN
 k1:KC K X X.c1 false true false false false false false false false false false
 k5:KC K X X.c5 false false false false false true false false false false false
inductive Out(M:bE)(S:bc):dW->bc->Str->Prop |hold:Out M S (.wd .hold) (ku M S) (numS (gm M.f S.pc)) |go:Out M S (.wd .go) {S with aU:=none} (numS (S.ds.length:Nat)) |y6:¬Halt S.pc S.aU->Out M S (.wd .drop) S "refused moving" |drop:Halt S.pc S.aU->Out M S (.wd .drop) (sH S) (numS (S.ds.length:Nat)) |steps {n:Int}{es:List ah}{S':bc}:Run M S es S'->(es.length:Int)<=n->((es.length:Int)=n\/S'.os=[]\/Halt S'.pc S'.aU)->Out M S (.steps n) S' (Bh es) |tX {n:Int}:kH (.int n)=false->Out M S (.aA n) S "refused rate" |tW {n:Int}:kH (.int n)=true->S.pc≠0->Out M S (.aA n) S "refused moving" |aA {n:Int}:10<=n->n<=200->S.pc=0->Out M S (.aA n) {S with aA:=n} (numS n)
theorem O1{n:Int}(h1:10<=n)(h2:n<=200):kH (.int n)=true:=by show(decide (10<=n)&&decide (n<=200))=true;rw[cf h1,cf h2];rfl
theorem Out.det{M:bE}{S S1 S2:bc}{c:dW}{z1 z2:Str}(h:Out M S c S1 z1)(g:Out M S c S2 z2):S1=S2/\z1=z2:=by cases h with
 |hold=>cases g;exact⟨rfl,rfl⟩ |go=>cases g;exact⟨rfl,rfl⟩ |y6 n=>cases g with |y6=>exact⟨Z,Z⟩ |drop m=>exact(n m).elim
 |drop n=>cases g with |y6 m=>exact(m n).elim |drop m=>exact⟨Z,Z⟩
 |steps r l c=>cases g with |steps r2 l2 c2=>obtain⟨e1,e2⟩:=r.a7H l c r2 l2 c2;rw[e1,e2];exact⟨Z,Z⟩
 |tX a=>cases g with |tX=>exact⟨Z,Z⟩ |tW b=>rw[a]at b;cases b |aA b1 b2=>rw[O1 b1 b2]at a;cases a
 |tW a p=>cases g with |tX b=>rw[a]at b;cases b |tW b=>exact⟨Z,Z⟩ |aA b1 b2 b3=>exact(p b3).elim
 |aA a1 a2 a3=>cases g with |tX b=>rw[O1 a1 a2]at b;cases b |tW b b2=>exact(b2 a3).elim |aA b1 b2 b3=>exact⟨Z,Z⟩
def vo:dW->Prop | .wd .hold| .wd .go| .wd .drop=>True | .steps n=>0<=n/\n<=100 | .aA n=>Nm n |_=>False
theorem Mv.FY{a q:Addr}{H H':Hp}(b:cA [a] H H'):Mv a q H q H':=⟨b.mono λx hx=>by rw[dH.mp hx];exact .head _,.inl Z⟩
theorem Mv.a0M{a q q':Addr}{H H':Hp}(b:cA [a] H H')(nq:H q'=none):Mv a q H q' H':=⟨b.mono λx hx=>by rw[dH.mp hx];exact .head _,.inr nq⟩
theorem Mv.eg{a q:Addr}{H H':Hp}(s:aD H H'):Mv a q H q H':=⟨λb o e _=>s _ _ e,.inl Z⟩
def After(K:aa)(C r q:Addr)(M:bE)(S:bc)(c:dW)(H:Hp)(Q:VK):Prop:=∀S' z q' H',Out M S c S' z->bT K C H' r q' M S'->Mv r q H q' H'->Q (.str z) H'
def Js(X:CC)(H:Hp)(Q:VK):XK:=λcls _ H'=>aD H H'/\((cls= .ref X.c1/\∀lK,aD H lK->Q (.str "refused rate") lK)\/(cls= .ref X.c5/\∀lK,aD H lK->Q (.str "refused moving") lK))
theorem After.cmd{C r q:Addr}{X:CC}{M:bE}{D:Nat}{S:bc}{c:dW}{H:Hp}{Q:VK}(R:bT K C H r q M S)(g:RG M D S)(d:vo c)(k:After K C r q M S c H Q):c.Ok K C X.c1 X.c5 r q M S H Q (Js X H Q):=by
 have no:=g.ok.row.no
 match c,d,k with | .wd .hold,_,k=>exact λH' R' b=>k _ _ q H' .hold R' (.FY b) | .wd .go,_,k=>exact λH' R' b=>k _ _ q H' .go R' (.FY b) | .wd .drop,_,k=>exact⟨λh H' s'=>⟨s',.inr ⟨Z,λlK ka=>k _ _ q lK (.y6 h) (R.same no ka) (.eg ka)⟩⟩,λh q' H' R' nq b=>k _ _ q' H' (.drop h) R' (.a0M b nq)⟩ | .steps n,d,k=>exact⟨d.1,d.2,λes S' q' H' h1 h2 h3 R' m'=>k _ _ q' H' (.steps h1 h2 h3) R' m'⟩ | .aA n,d,k=>exact⟨d,λh H' s'=>⟨s',.inl ⟨Z,λlK ka=>k _ _ q lK (.tX h) (R.same no ka) (.eg ka)⟩⟩,λh hp H' s'=>⟨s',.inr ⟨Z,λlK ka=>k _ _ q lK (.tW h hp) (R.same no ka) (.eg ka)⟩⟩,λh1 h2 h3 H' R' b=>k _ _ q H' (.aA h1 h2 h3) R' (.FY b)⟩
theorem NW{X:CC}{H:Hp}{Q:VK}(EX:yi K mg X):∀C',(C'=X.c1\/C'=X.c5)->ClsAt K C'/\takes K C' X.g:=λC' e=>by
 rcases e with rfl|rfl
 ·exact⟨EX.r.cls,EX.k1.tk⟩
 ·exact⟨EX.m.cls,EX.k5.tk⟩
theorem Rj:∀m:Nat,m<1->[false,true,false,false,false,false,false,false,false,false,false][m]? =some false:=by decide
theorem Ri:∀m:Nat,m<5->[false,false,false,false,false,true,false,false,false,false,false][m]? =some false:=by decide
inductive a9d(K:aa)(C:Addr)(D:Addr)(vs:List V)(H:Hp)(Q:VK):Prop |mk (a:_)(r:_)(q:_)(M:_)(D':_)(S:_)(c:_)(h0:vs=[.ref a,.str (dW.txt c)])(h1:lL K D H a r M)(h2:bT K C H r q M S)(h3:RG M D' S)(h4:vo c)(h5:After K C r q M S c H Q)
def KZ(K:aa)(C D:Addr):Sp:=λvs H Q _=>a9d K C D vs H Q
abbrev Dh:Stmt:=top 119
theorem LQ:aW ["_law_desk","_law_text","_law_e"] ["_law_desk","_law_text"] (aP Dh):=bj aI
theorem YD{C D:Addr}{X:CC}(F:FA K mg "_law_told" Dh)(B:bC mg)(DC:mR K D)(EX:yi K mg X)(xN:ja P w K mg au D "say" 14 (zw K C D X.c1 X.c5))(HW:yp P w K mg au "_law_class" 1 (CU K X)):aB P w K mg au "_law_told" 15 (KZ K C D):=by
 refine F.QE LQ (λvs H Q E h=>?_) (λ_ _ _ _ _ _=>dF λ_ _=>rfl) (λf aH A outer s H vs Q E hr h=>?_)
 ·obtain⟨a,r,q,M,D',S,c,rfl,_⟩:=h
  rfl
 ·obtain⟨a,r,q,M,D',S,c,rfl,dk,Ra,g,hd,k⟩:=h
  have nd:=LQ.nd;have hy:=EX.g;have Hu:=EX.n.h3;have xD:(lF).contains (.type "BaseException")=true:=by decide
  have xO:=NW (H:=H) (Q:=Q) EX;refine⟨_,(vh.one (Oa (i:=2) Z Z nd Z Z Z (λE xe hp=>(aK (aR (A6 xN hp DC.cl (hr.mono az) (pv 0) (ak (pv 1) ay))))) Z hy xD xO (λex=>(aK (aR (aQ gH (Om HW ((hr.mark _).mono az) Z (ak (pv 2) ay)) (iP (cK (dy (x:="isinstance") (jL K Z) Z (B.at "isinstance") jX (ak (pv 2) (ak (cX (x:="OffRails") rfl Hu) ay)))) (aQ gH bu (cD (x:="str") fq rfl (B.at "str") fj (ak (XU K rfl (pv 2)) ay))) bu))))))),?_⟩;obtain⟨dx0,mv,ea,rm⟩:=id dk;refine⟨Js X H Q,?_,λcls dx H' h=>?_,?_⟩
  ·exact⟨_,Z,a,dx0,_,Z,ea,Z,_,Z,a,r,q,M,D',S,c,Z,dk,Ra,g,After.cmd Ra g hd k⟩
  ·rcases h.2 with⟨e,_⟩|⟨e,_⟩
   ·exact⟨_,e,.inl Z⟩
   ·exact⟨_,e,.inr Z⟩
  ·rintro C' ex dx σ' H' hl ⟨sm,hE⟩ hex
   have hl3:σ'.length=3:=hl
   match σ',hl3 with
   |[u1,u2,u3],_=>
    have e1:(_L.upd H' ex (.ext (iD ex (.ref C') dx))) ex=some (.ext (iD ex (.ref C') dx)):=bW;have sn:=sm.trans (aD.new (o:=.ext (iD ex (.ref C') dx)) hex);rcases hE with⟨eC,kk⟩|⟨eC,kk⟩
    ·cases eC
     refine⟨_,Z,ex,X.c1,dx,_,_,_,_,_,_,_,_,_,_,_,1,"rate",Z,e1,EX.k1,az,Z,Rj,Z,λH2 s2=>?_⟩;refine⟨_,Z,.inl ⟨ex,X.c1,dx,.ref X.c3,.ref X.c3,false,Z,s2 _ _ e1,EX.k1.k,Z,EX.k1.i3,_,Z,aY ?_⟩⟩;refine⟨_,_,Z,Z,aI,?_⟩;have:=kk H2 (sn.trans s2);rw[show(Str.ofString "refused rate")=Str.ofString "refused "++Str.ofString "rate"++Str.ofString "" by decide+kernel]at this;exact this
    ·cases eC
     refine⟨_,Z,ex,X.c5,dx,_,_,_,_,_,_,_,_,_,_,_,5,"moving",Z,e1,EX.k5,az,Z,Ri,Z,λH2 s2=>?_⟩;refine⟨_,Z,.inl ⟨ex,X.c5,dx,.ref X.c3,.ref X.c3,false,Z,s2 _ _ e1,EX.k5.k,Z,EX.k5.i3,_,Z,aY ?_⟩⟩;refine⟨_,_,Z,Z,aI,?_⟩;have:=kk H2 (sn.trans s2);rw[show(Str.ofString "refused moving")=Str.ofString "refused "++Str.ofString "moving"++Str.ofString "" by decide+kernel]at this;exact this
theorem Qb{n:Int}(h:Nm n):intText? (numS n)=some n:=by
 have h1:=_T.G2 (i:=n) (by have:=fL h;lia);unfold _T.numIn? at h1;simp only[cond_eq_ite]at h1;split at h1
 ·cases h1
 ·split at h1
  ·cases h1
  ·exact h1
inductive aaj(K:aa)(C:Addr)(vs:List V)(H:Hp)(Q:VK):Prop |mk (r:_)(q:_)(M:_)(D':_)(S:_)(c:_)(l:_)(h0:vs=[.ref r,.ref l])(h1:aJ K H l ((Txt.split (dW.txt c) " ").map V.str))(h2:bT K C H r q M S)(h3:RG M D' S)(h4:vo c)(h5:After K C r q M S c H Q)
def Lx(K:aa)(C:Addr):Sp:=λvs H Q _=>aaj K C vs H Q
abbrev EG:Stmt:=top 121
theorem N2:aW ["_law_runner","_law_words","_law_told_here","_law_e"] ["_law_runner","_law_words"] (aP EG):=bj aI
theorem a01{C:Addr}{X:CC}(F:FA K mg "_law_by_runner" EG)(B:bC mg)(TC:cU K C)(EX:yi K mg X)(a55:aB P w K mg au "_law_entry_text" 2 (zG K))(HS:bP P w K mg au C "entries" 12 (CH K C))(Hw:ja P w K mg au C "turn_rate" 5 (Cz K C X.c1 X.c5))(HP:bP P w K mg au C "hold" 2 (CD K C))(HQ:bP P w K mg au C "go" 1 (CF K C))(HV:ja P w K mg au C "drop" 5 (CJ K C X.c5))(HW:yp P w K mg au "_law_class" 1 (CU K X)):aB P w K mg au "_law_by_runner" 13 (Lx K C):=by
 refine F.QE N2 (λvs H Q E h=>?_) (λ_ _ _ _ _ _=>dF λ_ _=>rfl) (λf aH A outer s H vs Q E hr h=>?_)
 ·obtain⟨r,q,M,D',S,c,l,rfl,_⟩:=h
  rfl
 ·obtain⟨r,q,M,D',S,c,l,rfl,hl,Ra,g,hd,k⟩:=h
  have nd:=N2.nd;have hy:=EX.g;have xD:(lF).contains (.type "BaseException")=true:=by decide
  have xO:=NW (H:=H) (Q:=Q) EX;obtain⟨dx,mv,bv,bR,tv,e,r1,r2,r3,r4⟩:=Ra.ob;refine⟨_,(vh.one (Oa (i:=3) Z Z nd Z Z Z (λE xe hp=>(aE (bJ (bX (dM K Z hr.units) (px K (pv 1) aF) bu (bL _)) (aE (pS 2 nd (kM K Z bu (ak (eW (N:=["_law_entry"]) (js:=[none]) Z Z Z (kL K Z (m5 HS TC.cl (hr.mono az) (pv 0) (ak (cD (x:="int") J6 Z (B.at "int") vx (ak (px K (pv 1) aF) ay)) ay))) (λ_ _ _ _ _=>(bo 0 (gR _))) (λ_ _ _ _ _=>dS) (λ_ _ _ _ _=>(pf a55 hr (ak (pv 0) ay)))) ay))) (aK (aR (iP (bX ug (pv 2) bu (bL _)) (pv 2) bu)))) bK) (aE (bJ (bX (dM K Z hr.units) (px K (pv 1) aF) bu (bL _)) (aK (aR (cD (x:="str") fq Z (B.at "str") fj (ak (A6 Hw hp TC.cl (hr.mono az) (pv 0) (ak (cD (x:="int") J6 rfl (B.at "int") vx (ak (px K (pv 1) aF) ay)) ay)) ay)))) bK) (aE (bJ (bX (dM K Z hr.units) (px K (pv 1) aF) bu (bL _)) (aK (aR (cD (x:="str") fq Z (B.at "str") fj (ak (cY HP TC.cl (hr.mono az) (pv 0)) ay)))) bK) (aK (aR (iP (bX (dM K Z hr.units) (px K (pv 1) aF) bu (bL _)) (cD (x:="str") fq Z (B.at "str") fj (ak (cY HQ TC.cl (hr.mono az) (pv 0)) ay)) (cD (x:="str") fq rfl (B.at "str") fj (ak (Oi HV hp TC.cl (hr.mono az) (pv 0)) ay))))))))) rfl hy xD xO (λex=>(aK (aR (Om HW ((hr.mark _).mono az) rfl (ak (pv 3) ay))))))),?_⟩;refine⟨Js X H Q,?_,λcls dx H' h=>?_,?_⟩
  ·have co:=After.cmd (X:=X) Ra g hd k
   have w0:∀(z:Str)(zs:List Str),Txt.split (dW.txt c) " "=z::zs->eZ ((Txt.split (dW.txt c) " ").map V.str) 0=some (.str z):=λz zs e=>by rw[e];exact cF (dY 0) rfl
   have w1:∀(z y:Str),Txt.split (dW.txt c) " "=[z,y]->eZ ((Txt.split (dW.txt c) " ").map V.str) 1=some (.str y):=λz y e=>by rw[e];exact cF az rfl
   match c,hd,k,co,hl,w0,w1 with
   | .steps n,hd,k,co,hl,w0,w1=>
    have sp:Txt.split (dW.txt (.steps n)) " "=[Str.ofString "steps",numS n]:=zt (j4 aI) n;have Am:=hd.2;have n0:=hd.1;have nm:Nm n:=by show n.natAbs<10^40;lia
    refine⟨_,Z,.inl ⟨l,_,0,.str "steps",Z,Z,hl,w0 _ _ sp,.inr ⟨_,_,bp _,bp _,fu.2.1,fu.2.1,_,Z,?_⟩⟩⟩;rw[oY.2.1];refine bG ?_;refine⟨Z,?_⟩;refine⟨_,Z,r,dx,_,Z,e,Z,_,Z,.inl ⟨l,_,1,.str (numS n),Z,Z,hl,w1 _ _ sp,numS n,n,Z,Qb nm,by have:=fL nm;lia,r,q,M,D',S,n,Z,Ra,g.ok,g.aG,n0,aw,λle ys es S' q' H2 nl dl rd run he kW R2 me lq=>?_⟩⟩;have ly:=rd.length;have te:=run.zh g.ok g.aG g.hD;refine⟨le,Z,⟨_,aJ.of dl⟩,λD2 H4 n4=>?_⟩;refine qe (K:=K) (ds:=(es.map lC).map PyData.str) _ (aJ.of dl) n4 (by simp;exact ly) aw (kO _) ?_ ?_
    ·intro i x d H5 Q' ex ed s5 hq
     obtain⟨d',dB,rx⟩:=rd.get' i ex;rw[bQ,bQ,dB]at ed;cases ed;exact⟨_,Z,x,d',Z,RD.mono s5 _ rx,te d' (fA dB),λH6 s6=>hq _ _ s6 (bp _)⟩
    ·intro H5 ws s5 d5 r5
     rw[jE r5]at d5;refine⟨"\n",D2,es.map lC,Z,Z,aJ.of d5,λz hz=>?_,aI,by rw[bS];lia,?_⟩
     ·obtain⟨d,hd,rfl⟩:=cW.mp hz
      have:=IM (te d hd)
      lia
     have k2:=k S' _ q' H5 (.steps run he kW) (R2.same (run.ok g.ok g.aG).row.no s5) (me.same s5);unfold Bh jJ at k2;refine⟨_,Z,Z,_,Z,?_⟩;by_cases e0:Txt.join "\n" (es.map lC)=""
     ·rw[bf e0]at k2
      rw[e0,cf rfl];exact aY k2
     ·rw[bh e0]at k2
      rw[dE (λz=>e0 (V.str.inj z))];exact bG ⟨_,Z,k2⟩ | .aA n,hd,k,co,hl,w0,w1=>have sp:Txt.split (dW.txt (.aA n)) " "=[Str.ofString "rate",numS n]:=zt (j4 aI) n;refine⟨_,Z,.inl ⟨l,_,0,.str "rate",Z,Z,hl,w0 _ _ sp,.inr ⟨_,_,bp _,bp _,fu.2.2.1,fu.2.1,_,Z,?_⟩⟩⟩;rw[oY.2.2.2.1];refine aY ?_;refine⟨_,Z,.inl ⟨l,_,0,.str "rate",Z,Z,hl,w0 _ _ sp,.inr ⟨_,_,bp _,bp _,fu.2.2.1,fu.2.2.1,_,Z,?_⟩⟩⟩;rw[oY.2.2.2.2];refine bG ?_;obtain⟨nm,k1,k2,k3⟩:=co;refine⟨_,Z,r,dx,_,Z,e,Z,_,Z,.inl ⟨l,_,1,.str (numS n),Z,Z,hl,w1 _ _ sp,numS n,n,Z,Qb nm,by have:=fL nm;lia,r,q,M,D',S,.int n,.int n,Z,Ra,g.ok,g.aG,fC _,k1,k2,λaA e h1 h2 hp H' R' b'=>?_⟩⟩;cases e;exact .inl ⟨n,Z,fS nm,k3 h1 h2 hp H' R' b'⟩ | .wd .hold,hd,k,co,hl,w0,w1=>
    have sp:Txt.split (dW.txt (.wd .hold)) " "=[Str.ofString "hold"]:=(yV .hold).1;have sh:SeqAt.shaped (.str "hold")=true:=by decide+kernel
    refine⟨_,Z,.inl ⟨l,_,0,.str "hold",Z,Z,hl,w0 _ _ sp,.inr ⟨_,_,bp _,bp _,sh,fu.2.1,_,Z,?_⟩⟩⟩;rw[show PyData.eqv (.str "hold") (.str "steps")=false by decide+kernel];refine aY ?_;refine⟨_,Z,.inl ⟨l,_,0,.str "hold",Z,Z,hl,w0 _ _ sp,.inr ⟨_,_,bp _,bp _,sh,fu.2.2.1,_,Z,?_⟩⟩⟩;rw[show PyData.eqv (.str "hold") (.str "rate")=false by decide+kernel];refine aY ?_;refine⟨_,Z,.inl ⟨l,_,0,.str "hold",Z,Z,hl,w0 _ _ sp,.inr ⟨_,_,bp _,bp _,sh,sh,_,Z,?_⟩⟩⟩;rw[show PyData.eqv (.str "hold") (.str "hold")=true by decide+kernel];exact bG ⟨_,Z,r,dx,_,Z,e,Z,r,q,M,D',S,Z,Ra,g.ok,g.aG,λH' R' b'=>.inl ⟨_,Z,fS g.zp,co H' R' b'⟩⟩ | .wd .go,hd,k,co,hl,w0,w1=>
    have sp:Txt.split (dW.txt (.wd .go)) " "=[Str.ofString "go"]:=(yV .go).1;have sh:SeqAt.shaped (.str "go")=true:=by decide+kernel
    have D4:SeqAt.shaped (.str "hold")=true:=by decide+kernel
    refine⟨_,Z,.inl ⟨l,_,0,.str "go",Z,Z,hl,w0 _ _ sp,.inr ⟨_,_,bp _,bp _,sh,fu.2.1,_,Z,?_⟩⟩⟩;rw[show PyData.eqv (.str "go") (.str "steps")=false by decide+kernel];refine aY ?_;refine⟨_,Z,.inl ⟨l,_,0,.str "go",Z,Z,hl,w0 _ _ sp,.inr ⟨_,_,bp _,bp _,sh,fu.2.2.1,_,Z,?_⟩⟩⟩;rw[show PyData.eqv (.str "go") (.str "rate")=false by decide+kernel];refine aY ?_;refine⟨_,Z,.inl ⟨l,_,0,.str "go",Z,Z,hl,w0 _ _ sp,.inr ⟨_,_,bp _,bp _,sh,D4,_,Z,?_⟩⟩⟩;rw[show PyData.eqv (.str "go") (.str "hold")=false by decide+kernel];refine aY ?_;refine⟨_,Z,.inl ⟨l,_,0,.str "go",Z,Z,hl,w0 _ _ sp,.inr ⟨_,_,bp _,bp _,sh,sh,_,Z,?_⟩⟩⟩;rw[show PyData.eqv (.str "go") (.str "go")=true by decide+kernel];exact bG ⟨_,Z,r,dx,_,Z,e,Z,r,q,M,D',S,Z,Ra,g.ok,λH' R' b'=>.inl ⟨_,Z,fS g.len,co H' R' b'⟩⟩ | .wd .drop,hd,k,co,hl,w0,w1=>
    have sp:Txt.split (dW.txt (.wd .drop)) " "=[Str.ofString "drop"]:=(yV .drop).1;have sh:SeqAt.shaped (.str "drop")=true:=by decide+kernel
    have D4:SeqAt.shaped (.str "hold")=true:=by decide+kernel
    have Wf:SeqAt.shaped (.str "go")=true:=by decide+kernel
    refine⟨_,Z,.inl ⟨l,_,0,.str "drop",Z,Z,hl,w0 _ _ sp,.inr ⟨_,_,bp _,bp _,sh,fu.2.1,_,Z,?_⟩⟩⟩;rw[show PyData.eqv (.str "drop") (.str "steps")=false by decide+kernel];refine aY ?_;refine⟨_,Z,.inl ⟨l,_,0,.str "drop",Z,Z,hl,w0 _ _ sp,.inr ⟨_,_,bp _,bp _,sh,fu.2.2.1,_,Z,?_⟩⟩⟩;rw[show PyData.eqv (.str "drop") (.str "rate")=false by decide+kernel];refine aY ?_;refine⟨_,Z,.inl ⟨l,_,0,.str "drop",Z,Z,hl,w0 _ _ sp,.inr ⟨_,_,bp _,bp _,sh,D4,_,Z,?_⟩⟩⟩;rw[show PyData.eqv (.str "drop") (.str "hold")=false by decide+kernel];refine aY ?_;refine⟨_,Z,.inl ⟨l,_,0,.str "drop",Z,Z,hl,w0 _ _ sp,.inr ⟨_,_,bp _,bp _,sh,Wf,_,Z,?_⟩⟩⟩;rw[show PyData.eqv (.str "drop") (.str "go")=false by decide+kernel];exact aY ⟨_,Z,r,dx,_,Z,e,Z,r,q,M,D',S,Z,Ra,g.ok,g.aG,co.1,λhH q' H' R' nq b'=>.inl ⟨_,Z,fS g.len,co.2 hH q' H' R' nq b'⟩⟩
  ·rcases h.2 with⟨e,_⟩|⟨e,_⟩
   ·exact⟨_,e,.inl Z⟩
   ·exact⟨_,e,.inr Z⟩
  ·rintro C' ex dx σ' H' hl ⟨sm,hE⟩ hex
   have hl4:σ'.length=4:=hl
   match σ',hl4 with
   |[u1,u2,u3,u4],_=>
    have e1:(_L.upd H' ex (.ext (iD ex (.ref C') dx))) ex=some (.ext (iD ex (.ref C') dx)):=bW;have sn:=sm.trans (aD.new (o:=.ext (iD ex (.ref C') dx)) hex);rcases hE with⟨eC,kk⟩|⟨eC,kk⟩
    ·cases eC
     refine⟨_,Z,ex,X.c1,dx,_,_,_,_,_,_,_,_,_,_,_,1,"rate",Z,e1,EX.k1,az,Z,Rj,Z,λH2 s2=>?_⟩;have:=kk H2 (sn.trans s2);rw[show(Str.ofString "refused rate")=Str.ofString "refused "++Str.ofString "rate" by decide+kernel]at this;exact this
    ·cases eC
     refine⟨_,Z,ex,X.c5,dx,_,_,_,_,_,_,_,_,_,_,_,5,"moving",Z,e1,EX.k5,az,Z,Ri,Z,λH2 s2=>?_⟩;have:=kk H2 (sn.trans s2);rw[show(Str.ofString "refused moving")=Str.ofString "refused "++Str.ofString "moving" by decide+kernel]at this;exact this
end
end _b
set_option maxHeartbeats 1000000
namespace _b
open PySem PySem.Spec PyProof.Rows _L _l _W
section
variable {P:af}{w:World}{K:aa}{mg:bD}{au:Heap}
inductive aa5(K:aa)(vs:List V)(H:Hp)(Q:VK):Prop |mk (p:_)(m:_)(rs:_)(r:_)(f:_)(j:_)(t:_)(x:_)(pl:_)(mo:_)(h0:vs=[.ref p,m,x,.int mo])(h1:ft H p)(h2:RD K H m (gr rs r f j t))(h3:jw rs r f j t)(h4:RD K H x (fE pl))(h5:fO rs pl)(h6:1<=mo)(h7:mo<=100)(h8:∀v ns sp H',RD K H' v (eX ns sp)->eO rs.length 100 ns->fO rs (j9 pl ns)->1<=sp->sp<=20->bN p H H'->Q v H')
def CP(K:aa):Sp:=λvs H Q _=>aa5 K vs H Q
abbrev Et:Stmt:=top 111
theorem MR:aW ["_law_bag_here","_law_machine_here","_law_here","_law_most","_law_speed","_law_steps","_law_at","_law_rail","_law_low"] ["_law_bag_here","_law_machine_here","_law_here","_law_most"] (aP Et):=bj aI
theorem ZO(F:FA K mg "_law_line_from" Et)(B:bC mg)(dJ:aB P w K mg au "_law_take" 1 lV):aB P w K mg au "_law_line_from" 2 (CP K):=by
 refine F.has MR (λvs H Q E h=>?_) (λ_ _ _ _ _ _=>Jm λ_ _ _ _=>rfl) (λf aH A outer s H vs Q E hr h=>?_)
 ·obtain⟨p,m,rs,r0,f0,j0,t0,x,pl,mo,rfl,_⟩:=h
  rfl
 ·obtain⟨p,m,rs,r0,f0,j0,t0,x,pl,mo,rfl,bg,rm,uj,rx,on,Pb,Pa,k⟩:=h
  have nd:=MR.nd;refine⟨_,(aE (pS 4 nd (aQ dP aF (pf dJ hr (ak (pv 0) (ak aF ay))))) (aE (pS 5 nd (da ay)) (aE (kf ie Z (qS K Z false false Z (B.at "zip") (ak (pv 2) (ak (px K (pv 1) aF) ay))) (eV K rfl (n:=2) rfl (bZ (bo 6 nd) (bZ (bo 7 nd) eU))) (aE (pS 8 nd (dy (x:="max") (Sz Z) Z (B.at "max") Ub (ak (nC mX (pv 6)) (ak (nC mX (pv 3)) ay)))) (aK (lZ (qV K Z (pv 5) (ak (aQ dP (pv 8) (pf dJ hr (ak (pv 0) (ak (aQ dP (aQ jm (dy (x:="min") (J5 Z) Z (B.at "min") Ua (ak (aQ jm (pv 7) (pv 6)) (ak (pv 3) ay))) (pv 8)) aF) ay)))) ay)))))) (aE (iO (bJ (dw (cK (dy (x:="any") (SV K Z Z) Z (B.at "any") Uc (ak (pv 5) ay)))) (aK (eL (px K (da (ak aF (ak (nC mX aF) ay))) (cD (x:="int") J8 Z (B.at "int") vx (ak (jl (dM K rfl hr.units) (px K (pv 2) aF) (px K (px K (pv 1) aF) aF) (bL _)) ay))) (qT (pv 5) aF set_list))) bK)) (aK (aR (gQ (ak bu (ak (cD (x:="tuple") (jZ K Z) Z (B.at "tuple") iJ (ak (pv 5) ay)) (ak (pv 4) ay)))))))))),?_⟩;have lr:=uj.len;have lp:=on.len;obtain⟨ma,mb,rfl,gK,iU⟩:=mi rm;obtain⟨xa,xx,rfl,AH,hxx⟩:=rx.cJ;rw[hxx.gJ]at AH;refine⟨_,Z,p,20,Z,bg,az,az,λsp H1 p0 p1 b1=>?_⟩;refine⟨_,_,Z,Z,?_⟩;refine⟨ck Z,λl H2 n2=>?_⟩;have b2:bN p H1 H2:=.eg b1.bM n2.same;have sL:=b1.trans b2;have Av:l≠p:=λz=>b1.bM.ne (z▸n2.no);have nl:H l=none:=by cases e:H l with |none=>rfl |some o=>have:=b1.same _ _ Av e;rw[n2.no]at this;cases this
  have Cm:=bN.t bg sL;refine⟨_,Z,_,Z,.inr ⟨ma,_,0,.ref mb,Z,Z,gK.t Cm,cF (dY 0) Z,xa,mb,Z,⟨_,AH.t Cm⟩,⟨_,iU.t Cm⟩,?_⟩⟩;refine Rf (K:=K) (b1:=false) (b2:=false) (xs:=pl.map V.int) (ys:=rs.map V.int) rs.length (by simp[lp]) (λi O H3=>bN p H H3/\∃(is:List Int)(v1 v2 v3:Option V),H3 l=some (.lst (is.map V.int))/\is.length=i/\(∀(j:Nat)(z a r:Int),is[j]? =some z->pl[j]? =some a->rs[j]? =some r->0<=a+z/\a+z<=r/\(z.natAbs:Int)<=mo)/\O=[some (.ref p),some (.ref ma),some (.ref xa),some (.int mo),some (.int (1+sp)),some (.ref l),v1,v2,v3]) ?_ (λi O H3 _ h=>⟨AH.t (bN.t bg h.1),iU.t (bN.t bg h.1)⟩) ?_ ?_
  ·exact⟨sL,[],none,none,none,n2.at',Z,λj z a r e=>by simp at e,Z⟩
  ·rintro i x y O H3 ex ey ⟨b3,is,v1,v2,v3,dl,li,hz,rfl⟩ T H4 n4
   have b4:bN p H3 H4:=.eg b3.bM n4.same;have hx:∃a r,pl[i]? =some a/\rs[i]? =some r/\x= .int a/\y= .int r:=by rw[bQ]at ex ey;cases e1:pl[i]? with |none=>rw[e1]at ex;cases ex |some u=>cases e2:rs[i]? with |none=>rw[e2]at ey;cases ey |some v=>rw[e1]at ex;rw[e2]at ey;exact⟨u,v,Z,Z,(dG ex).symm,(dG ey).symm⟩
   obtain⟨a,r,ea,er,rfl,rfl⟩:=hx;obtain⟨a0,a1⟩:=on.at' i a r ea er;obtain⟨r0,r1⟩:=uj.rl r (fA er);refine⟨T,_,Z,aZ.of n4.at',Z,_,_,Z,_,_,Z,Z,?_⟩;refine⟨_,Z,_,Z,_,Z,_,Z,_,_,Z,?_⟩;have qd:=n4.same _ _ dl;have a3y:∃low:Int,(if(-mo:Int)>-a then-mo else-a)=low/\low<=0/\-mo<=low/\-a<=low:=⟨_,Z,by split<;>lia,by split<;>lia,by split<;>lia⟩;obtain⟨low,a7p,lo0,lo1,lo2⟩:=a3y;rw[a7p];have hhi:∃hi:Int,(if mo<r-a then mo else r-a)=hi/\0<=hi/\hi<=mo/\hi<=r-a:=⟨_,Z,by split<;>lia,by split<;>lia,by split<;>lia⟩;obtain⟨hi,Bi,hi0,hi1,Qw⟩:=hhi;refine⟨_,Z,.inl ⟨Z,_,aJ.of qd⟩,?_⟩;refine⟨_,Z,_,Z,_,Z,_,Z,_,_,Z,Z,_,Z,_,_,Z,?_⟩;rw[Bi];refine⟨_,Z,_,_,Z,Z,_,_,Z,Z,p,hi-low+1,Z,b4.bM,aw,aw,λd H5 d0 d1 b5=>?_⟩;have dl5:=b5.same _ _ Av qd;refine⟨_,_,Z,Z,l,_,_,Z,Z,dl5,?_,?_⟩
   ·rw[bS,li]
    have:(1000:Nat)<sizeLine:=by decide
    have:=(dD.mp er).1
    lia
   have qi:=b3.trans (b4.trans b5);refine⟨?_,is++[low+d],_,_,_,?_,?_,?_,Z⟩
   ·refine⟨?_,λb o n e=>?_⟩
    ·obtain⟨c',m',e,ok⟩:=qi.bM
     exact⟨c',m',by rw[aV Av.symm];exact e,ok⟩
    ·rw[aV (g6 e nl)];exact qi.same b o n e
   ·rw[bW,mV];rfl
   ·rw[fP,li];rfl
   ·intro j z a' r' ej uR mH
    by_cases hj:j<is.length
    ·rw[vE hj]at ej
     exact hz j z a' r' ej uR mH
    ·have kU:j=is.length:=by
      have:=(dD.mp ej).1;rw[fP]at this;have:j<is.length+1:=this
      lia
     rw[kU,yJ (bO _),JS]at ej;cases ej;rw[kU,li]at uR mH;rw[ea]at uR;rw[er]at mH;cases uR;cases mH
     lia
  ·rintro O H3 ⟨b3,is,v1,v2,v3,dl,li,hz,rfl⟩
   have l0:0<is.length:=by lia
   have lp0:0<pl.length:=by lia
   have lr0:0<rs.length:=by lia
   have ea:=cu lp0;have er:=cu lr0;have a3:=AH.t (bN.t bg b3);have m3:=gK.t (bN.t bg b3);have mb3:=iU.t (bN.t bg b3);refine⟨λO H4=>bN p H H4/\∃(is:List Int),H4 l=some (.lst (is.map V.int))/\eO rs.length 100 is/\fO rs (j9 pl is)/\O=[some (.ref p),some (.ref ma),some (.ref xa),some (.int mo),some (.int (1+sp)),some (.ref l),v1,v2,v3],?_,?_⟩
   ·refine⟨_,Z,l,is,Z,.inl (aJ.of dl),_,Z,?_⟩
    cases ha:is.any (· !=0)with
    |false=>
     refine bG ?_;have z0:∀z∈is,z=0:=λz kr=>by have:=List.any_eq_false.mp ha z kr;simpa using this
     refine⟨_,Z,ck Z,λc H4 n4=>?_⟩;have s4:=n4.same;refine⟨_,Z,.inr ⟨xa,_,0,.int pl[0],Z,Z,a3.go s4,cF (dY 0) (by rw[bQ];show Option.map _ pl[0]? =_;rw[ea];rfl),?_⟩⟩;refine⟨_,Z,.inr ⟨ma,_,0,.ref mb,Z,Z,m3.go s4,cF (dY 0) Z,?_⟩⟩;refine .inr ⟨mb,_,0,.int rs[0],Z,Z,mb3.go s4,cF (dY 0) (by rw[bQ];show Option.map _ rs[0]? =_;rw[er];rfl),?_⟩;refine .inl ⟨_,_,Z,Z,.inr ⟨_,Z,?_⟩⟩;obtain⟨a0,a1⟩:=on.at' 0 _ _ ea er;obtain⟨r0,r1⟩:=uj.rl _ (fA er);have hy:∃y:Int,eZ ([.int 1,.int (-1)]:List V) (if decide (pl[0]=rs[0])=true then 1 else 0)=some (.int y)/\y.natAbs=1/\0<=pl[0]+y/\pl[0]+y<=rs[0]:=by
      by_cases h:pl[0]=rs[0]
      ·rw[cf h];exact⟨-1,Z,Z,aw,aw⟩
      ·rw[dE h];exact⟨1,Z,Z,aw,aw⟩
     obtain⟨y,ey,y1,y2,y3⟩:=hy;refine .inl ⟨c,_,_,_,Z,Z,aJ.of n4.at',ey,?_⟩;have qd:=s4 _ _ dl;refine⟨_,Z,l,_,0,0,Z,Z,qd,?_,?_⟩
     ·unfold hU;rw[bf (dY 0),bf (by rw[bS];lia)];rfl
     have b4:bN p H3 H4:=.eg b3.bM s4;have SQ:=b3.trans b4;have ls:(is.set 0 y).length=pl.length:=by rw[vB];lia
     refine⟨?_,is.set 0 y,?_,⟨?_,?_,?_⟩,⟨?_,?_⟩,Z⟩
     ·refine⟨?_,λb o n e=>?_⟩
      ·obtain⟨c',m',e,ok⟩:=SQ.bM
       exact⟨c',m',by rw[aV Av.symm];exact e,ok⟩
      ·rw[aV (g6 e nl)];exact SQ.same b o n e
     ·rw[bW,BZ]
     ·rw[vB];exact li
     ·intro z kr
      rcases List.mem_or_eq_of_mem_set kr with h|h
      ·rw[z0 z h];decide
      ·rw[h];lia
     ·exact⟨y,Uh.mpr ⟨0,by rw[vB];lia,by rw[Ul]⟩,aw⟩
     ·rw[oG ls];exact lp
     ·intro j x r ej mH
      have hj:j<pl.length:=by have:=(dD.mp ej).1;rw[oG ls]at this;exact this
      have y4:=yg (cu hj) (cu (show j<(is.set 0 y).length by lia));rw[ej]at y4;have IS:=dG y4;by_cases h0:j=0
      ·subst h0
       rw[Ul]at IS;rw[er]at mH;cases mH
       lia
      ·rw[List.getElem_set_ne (iK h0)]at IS
       have Qh:=z0 _ (vC (show j<is.length by lia));have:=on.at' j _ r (cu hj) mH
       lia |true=>
     refine aY ?_;have ls:is.length=pl.length:=by lia
     refine⟨b3,is,dl,⟨li,λz kr=>?_,?_⟩,⟨?_,?_⟩,Z⟩
     ·obtain⟨j,hj⟩:=oO.mp kr
      have Qu:=(dD.mp hj).1;have:=hz j z _ _ hj (cu (show j<pl.length by lia)) (cu (show j<rs.length by lia))
      lia
     ·obtain⟨z,kr,h0⟩:=Uq.mp ha
      exact⟨z,kr,by simpa using h0⟩
     ·rw[oG ls];exact lp
     ·intro j x r ej mH
      have hj:j<pl.length:=by have:=(dD.mp ej).1;rw[oG ls]at this;exact this
      have y4:=yg (cu hj) (cu (show j<is.length by lia));rw[ej]at y4;have IS:=dG y4;have:=hz j _ _ r (cu (show j<is.length by lia)) (cu hj) mH
      lia
   rintro O H4 ⟨b4,is,dl,ok,Yw,rfl⟩;refine⟨_,Z,l,_,Z,.inl ⟨aJ.of dl,λq H5 n5=>?_⟩⟩;refine⟨_,Z,ck Z,λt H6 n6=>?_⟩;exact k (.ref t) is (1+sp) H6 (fQ (aZ.of n6.at') (cI (bp _) (cI (fQ (aZ.of (n6.same _ _ n5.at')) (wz is)) (cI (fC _) dv)))) ok Yw aw aw (b4.trans (.eg b4.bM (n5.same.trans n6.same)))
end
end _b
set_option maxHeartbeats 4000000
namespace _b
open PySem PySem.Spec PyProof.Rows _L _r _l _C _P _W _R
open _O (topR cornO mnO betR atO ownF leadF ownL OkI OkIs)
open _T (numS numIn? Free)
section
variable {P:af}{w:World}{K:aa}{mg:bD}{au:Heap}
def oP:List Wd:=[.place,.square,.stop,.vK,.qR,.qA,.mark,.state]
def oF(M:bE)(S:bc):List Str:=oP.map (Jj M S)
theorem UG{C cM a q:Addr}{M:bE}{S:bc}{H:Hp}{Q:VK}{E:XK}{v:Wd}(hv:v∈oP)(k:∀H',aD H H'->Q (.str (Jj M S v)) H'):v.Ok K C cM a q M S H Q E:=by cases v with |hold=>simp[oP]at hv |go=>simp[oP]at hv |drop=>simp[oP]at hv |_=>exact k
inductive aan(K:aa)(C:Addr)(D:Addr)(vs:List V)(H:Hp)(Q:VK):Prop |mk (a:_)(r:_)(q:_)(M:_)(D':_)(S:_)(h0:vs=[.ref a])(h1:lL K D H a r M)(h2:bT K C H r q M S)(h3:RG M D' S)(h4:∀v H',RD K H' v (.list ((oF M S).map PyData.str))->aD H H'->Q v H')
def Lz(K:aa)(C D:Addr):Sp:=λvs H Q _=>aan K C D vs H Q
abbrev EK:Stmt:=top 116
theorem N6:aW ["_law_desk"] ["_law_desk"] (aP EK):=bj aI
theorem a09{C D cR cM:Addr}(F:FA K mg "_law_asked" EK)(B:bC mg)(DC:mR K D)(xN:bP P w K mg au D "say" 14 (λvs H Q _=>zw K C D cR cM vs H Q E0)):aB P w K mg au "_law_asked" 15 (Lz K C D):=by
 refine F.has N6 (λvs H Q E h=>?_) (λ_ _ _ _ _ _=>cw λ_=>rfl) (λf aH A outer s H vs Q E hr h=>?_)
 ·obtain⟨a,r,q,M,D',S,rfl,_⟩:=h
  rfl
 ·obtain⟨a,r,q,M,D',S,rfl,⟨dx,mv,ea,rm⟩,Ra,g,k⟩:=h
  have nd:=N6.nd;refine⟨_,(aK (aR (eW (N:=["_law_word","_law_desk"]) (js:=[none,some 0]) Z Z Z (kL K Z (da (ak bu (ak bu (ak bu (ak bu (ak bu (ak bu (ak bu (ak bu ay)))))))))) (λ_ _ _ _ _=>(bo 0 (ki az))) (λ_ _ _ _ _=>dS) (λ_ _ _ _ _=>(m5 xN DC.cl (hr.mono az) (pv 1) (ak (pv 0) ay)))))),?_⟩;refine⟨ck Z,λl H1 n1=>?_⟩;have hl:aJ K H1 l (oP.map λv=>V.str v.txt):=aJ.of n1.at';refine⟨l,Z,⟨_,hl⟩,λD2 H2 n2=>?_⟩;refine qe (K:=K) (ds:=(oF M S).map PyData.str) _ hl n2 (by rfl) az (kO _) ?_ ?_
  ·intro i x d H3 Q' ex ed s3 hq
   rw[bQ]at ex;obtain⟨v,ev,rfl⟩:=yE.mp ex;unfold oF at ed;rw[bQ,bQ,ev]at ed;cases ed;have eR:=n1.same.trans s3;exact⟨_,Z,a,dx,_,Z,eR _ _ ea,Z,_,Z,a,r,q,M,D',S,.wd v,Z,⟨dx,mv,eR _ _ ea,RD.mono eR _ rm⟩,Ra.same g.ok.row.no eR,g,UG (fA ev) λH4 s4=>hq _ _ s4 (bp _)⟩
  ·intro H3 zs s3 d3 r3
   exact k _ _ (wB (aJ.of d3) r3) (n1.same.trans s3)
theorem Qd{t:TE}{z:Str}{O:_L.St}{H:Hp}{Q:VK}(ht:∀Q':VK,Q' (.str z) H->t O H Q')(k:Q (.str (jJ z)) H):Kq (Ci (tJ O5 t (tC (.str "")))) t (tC (.str "none")) O H Q:=by
 refine ht _ ⟨Z,_,Z,?_⟩;unfold jJ at k;by_cases e0:z=""
 ·rw[bf e0]at k
  rw[e0,cf rfl];exact aY k
 ·rw[bh e0]at k
  rw[dE (λz=>e0 (V.str.inj z))];exact bG (ht _ k)
theorem Kz{H:Hp}:∀zs:List Str,aL K H (zs.map V.str) (zs.map PyData.str) |[]=>dv |z::zs=>cI (bp z) (Kz zs)
def rQ(S:bc):Str:=if S.aU.isSome=true then "held" else "free"
def xR(S:bc):Str:=if decide (S.pc=0)=true then "stands" else "goes"
theorem VV(S:bc):rQ S++" "++xR S=qD S/\(rQ S).length<=10/\(xR S).length<=10:=by unfold rQ xR qD;cases S.aU.isSome<;>cases decide (S.pc=0)<;>decide+kernel
theorem a43(S:bc):eZ ([.str "free",.str "held"]:List V) (if S.aU.isSome=true then 1 else 0)=some (.str (rQ S))/\eZ ([.str "goes",.str "stands"]:List V) (if decide (S.pc=0)=true then 1 else 0)=some (.str (xR S)):=by unfold rQ xR;cases S.aU.isSome<;>cases decide (S.pc=0)<;>exact⟨rfl,rfl⟩
inductive aac(K:aa)(C:Addr)(vs:List V)(H:Hp)(Q:VK):Prop |mk (m:_)(r:_)(q:_)(M:_)(D':_)(S:_)(h0:vs=[m,.ref r])(h1:RD K H m (bE.D M))(h2:bT K C H r q M S)(h3:RG M D' S)(h4:∀v H',RD K H' v (.list ((oF M S).map PyData.str))->aD H H'->Q v H')
def Ls(K:aa)(C:Addr):Sp:=λvs H Q _=>aac K C vs H Q
abbrev EA:Stmt:=top 117
theorem MW:aW ["_law_machine_here","_law_runner","_law_waits","_law_squares","_law_due","_law_held"] ["_law_machine_here","_law_runner"] (aP EA):=bj aI
theorem ZV{C:Addr}(F:FA K mg "_law_state_due" EA)(B:bC mg)(TC:cU K C)(xI:aB P w K mg au "_law_item_text" 1 (qF K))(B7:aB P w K mg au "_law_fraction_text" 1 (qG K))(GZ:aB P w K mg au "plan_of" 9 (zy K))(pP:bP P w K mg au C "waiting" 1 (cP K C λ_ S H Q=>∀l ys H',H l=none->H' l=some (.lst ys)->aL K H' ys S.ds->aD H H'->Q (.ref l) H'))(HK:bP P w K mg au C "rate" 1 (cP K C λ_ S H Q=>Q (.int S.aA) H))(xG:bP P w K mg au C "place" 3 (cP K C λ_ S H Q=>∀v H',RD K H' v (fE (gD S))->aD H H'->Q v H'))(HH:bP P w K mg au C "square" 1 (cP K C (Ig K)))(xF:bP P w K mg au C "stops_in" 1 (cP K C λM S H Q=>Q (.int (gm M.f S.pc)) H))(Hy:bP P w K mg au C "tool" 1 (cP K C λ_ S H Q=>Q (.str S.side) H))(B6:bP P w K mg au C "last_mark" 1 (cP K C λ_ S H Q=>Q (.str S.mark) H))(og:bP P w K mg au C "is_held" 1 (cP K C λ_ S H Q=>Q (.bl S.aU.isSome) H))(rX:bP P w K mg au C "stands" 1 (cP K C λ_ S H Q=>Q (.bl (decide (S.pc=0))) H)):aB P w K mg au "_law_state_due" 10 (Ls K C):=by
 refine F.has MW (λvs H Q E h=>?_) (λ_ _ _ _ _ _=>dF λ_ _=>rfl) (λf aH A outer s H vs Q E hr h=>?_)
 ·obtain⟨m,r,q,M,D',S,rfl,_⟩:=h
  rfl
 ·obtain⟨m,r,q,M,D',S,rfl,rm,R,g,k⟩:=h
  have nd:=MW.nd;have ok:=g.ok;have aG:=g.aG;have hl:=ok.len;have ll:=ok.row.len;have ti:∀d∈S.ds,TI d:=λd hd=>(ok.tx aG d hd).ti;have iY:sizeLine=16777216:=by decide
  obtain⟨dx,mv,bv,bR,tv,e,r1,r2,r3,r4⟩:=R.ob;have RR:∀{H':Hp},aD H H'->bT K C H' r q M S/\H' r=some (.ins C dx (eT mv bv (.int S.dn) (.ref q) bR (.int S.aA) (.str S.side) (.str S.mark) tv)):=λs=>⟨R.same ok.row.no s,s _ _ e⟩;refine⟨_,(aE (pS 2 nd (kM K Z bu (ak (eW (N:=["_law_item_here"]) (js:=[none]) Z Z Z (kL K Z (cY pP TC.cl (hr.mono az) (pv 1))) (λ_ _ _ _ _=>(bo 0 (gR _))) (λ_ _ _ _ _=>dS) (λ_ _ _ _ _=>(pf xI hr (ak (pv 0) ay)))) ay))) (aE (pS 3 nd (pf GZ hr (ak (pv 0) (ak (cD (x:="tuple") (jZ K Z) Z (B.at "tuple") iJ (ak (cY pP TC.cl (hr.mono az) (pv 1)) ay)) (ak (cY HK TC.cl (hr.mono az) (pv 1)) ay))))) (aE (pS 4 nd (da (ak (kM K Z bu (ak (eW (N:=["_law_at"]) (js:=[none]) Z Z Z (kg K Z (cY xG TC.cl (hr.mono az) (pv 1))) (λ_ _ _ _ _=>(bo 0 (gR _))) (λ_ _ _ _ _=>dS) (λ_ _ _ _ _=>(cD (x:="str") fq Z (B.at "str") fj (ak (pv 0) ay)))) ay)) (ak (pf B7 hr (ak (cY HH TC.cl (hr.mono az) (pv 1)) ay)) (ak (cD (x:="str") fq rfl (B.at "str") fj (ak (cY xF TC.cl (hr.mono az) (pv 1)) ay)) ay))))) (aE (pS 4 nd (aQ (oE K Z) (pv 4) (da (ak (iP (bX ug (pv 2) bu (bL _)) (pv 2) bu) (ak (kM K Z bu (ak (eW (N:=["_law_one"]) (js:=[none]) Z Z Z (kL K Z (pv 3)) (λ_ _ _ _ _=>(bo 0 (gR _))) (λ_ _ _ _ _=>dS) (λ_ _ _ _ _=>(pf B7 hr (ak (pv 0) ay)))) ay)) ay))))) (aE (pS 4 nd (aQ (oE K Z) (pv 4) (da (ak (cY Hy TC.cl (hr.mono az) (pv 1)) (ak (iP (bX ug (cY B6 TC.cl (hr.mono az) (pv 1)) bu (bL _)) (cY B6 TC.cl (hr.mono az) (pv 1)) bu) ay))))) (aE (pS 5 nd (px K (da (ak bu (ak bu ay))) (cD (x:="int") J8 Z (B.at "int") vx (ak (cY og TC.cl (hr.mono az) (pv 1)) ay)))) (aK (aR (aQ (oE K Z) (pv 4) (da (ak (aQ gH (aQ gH (pv 5) bu) (px K (da (ak bu (ak bu ay))) (cD (x:="int") J8 Z (B.at "int") vx (ak (cY rX TC.cl (hr.mono az) (pv 1)) ay)))) ay))))))))))),?_⟩;refine⟨Z,?_⟩;refine⟨_,Z,r,dx,_,Z,e,Z,r,q,M,D',S,Z,R,ok,aG,λl ys H1 nl el rl s1=>?_⟩;have ly:=rl.length;refine⟨l,Z,⟨_,aJ.of el⟩,λD1 H2 n2=>?_⟩;refine qe (K:=K) (ds:=(S.ds.map dU).map PyData.str) _ (aJ.of el) n2 (by simp;exact ly) aw (kO _) ?_ ?_
  ·intro i x d H3 Q' ex ed s3 hq
   obtain⟨d',dB,rx⟩:=rl.get' i ex;rw[bQ,bQ,dB]at ed;cases ed;exact⟨_,Z,x,d',Z,RD.mono s3 _ rx,ti d' (fA dB),λH4 s4=>hq _ _ s4 (bp _)⟩
  intro H3 ws s3 d3 Xy;rw[jE Xy]at d3;refine⟨"\n",D1,S.ds.map dU,Z,Z,aJ.of d3,λz hz=>?_,aI,by rw[bS];lia,?_⟩
  ·obtain⟨d,hd,rfl⟩:=cW.mp hz
   have:=uF (ti d hd)
   lia
  have eR:=s1.trans s3;obtain⟨R3,e3⟩:=RR eR;refine⟨_,Z,_,Z,r,dx,_,Z,e3,Z,r,q,M,D',S,Z,R3,ok,aG,λl2 C7 H4 G8 el2 X8 s4=>?_⟩;refine⟨l2,C7,Z,.inl ⟨aJ.of el2,λt H5 n5=>?_⟩⟩;have WG:=s4.trans n5.same;have oZ:=eR.trans WG;obtain⟨R5,e5⟩:=RR oZ;refine⟨_,Z,r,dx,_,Z,e5,Z,r,q,M,D',S,Z,R5,ok,aG,?_⟩;refine⟨m,.ref t,S.aA,M.rs,M.r,M.f,M.j,M.t,S.ds,S.os,Z,RD.mono oZ _ rm,aG,fQ (aZ.of n5.at') (aL.mono n5.same _ X8),ok.row,aw,ok.cL,ok.cT,λp zs H6 np ep rp s6=>?_⟩;have nu:=oZ.trans s6;obtain⟨R6,e6⟩:=RR nu;refine⟨Z,?_⟩;refine⟨_,Z,r,dx,_,Z,e6,Z,r,q,M,D',S,Z,R6,ok,aG,λpv7 H7 X2 s7=>?_⟩;obtain⟨pa,px7,rfl,xl,hpx⟩:=X2.cJ;rw[hpx.gJ]at xl;have lpz:=FH ok;have n3:=aG.n3;have WI:=nu.trans s7;refine⟨pa,Z,⟨_,xl⟩,λD8 H8 n8=>?_⟩;refine sI (K:=K) (ds:=((gD S).map numS).map PyData.str) _ xl n8 (by simp) (by simp;lia) (kO _) ?_ ?_
  ·intro i x d H9 Q' ex ed s9 hq
   rw[bQ]at ex;obtain⟨n,en,rfl⟩:=yE.mp ex;rw[bQ,bQ,en]at ed;cases ed;exact⟨_,Z,.inl ⟨n,Z,fS (g.place n (fA en)),hq _ _ (aD.refl _) (bp _)⟩⟩
  intro H9 zs9 s9 d9 r9;rw[jE r9]at d9;refine⟨" ",D8,(gD S).map numS,Z,Z,aJ.of d9,λz hz=>?_,aI,by rw[bS];lia,?_⟩
  ·obtain⟨n,hn,rfl⟩:=cW.mp hz
   have:=fL (g.place n hn)
   lia
  have Nz:=WI.trans s9;obtain⟨R9,e9⟩:=RR Nz;refine⟨_,Z,r,dx,_,Z,e9,Z,r,q,M,D',S,Z,R9,ok,aG,λv9 WM=>⟨v9,_,_,Z,WM.rd,g.pc.1,g.pc.2,?_⟩⟩;refine⟨_,Z,r,dx,_,Z,e9,Z,r,q,M,D',S,Z,R9,ok,aG,.inl ⟨_,Z,fS g.zp,?_⟩⟩;refine⟨ck Z,λla HA nA=>?_⟩;have Ny:=Nz.trans nA.same;obtain⟨RA,eA⟩:=RR Ny;have Nr:=s7.trans (s9.trans nA.same);refine⟨_,Z,?_⟩;refine Qd (λQ' hq=>⟨_,Z,hq⟩) ?_;refine⟨Z,?_⟩;have lz:=rp.length;have lp:(kK M.r M.f M.j S.aA S.os).length=S.os.length+1:=kl _ _;rw[bS,lp]at lz;have RL:=Nr _ _ ep;have X1:=aL.mono Nr _ rp;refine⟨_,Z,p,Z,⟨_,aJ.of RL⟩,λDB HB nB=>?_⟩;refine qe (K:=K) (ds:=((kK M.r M.f M.j S.aA S.os).map zY).map PyData.str) _ (aJ.of RL) nB (by rw[bS,bS,lp];exact lz) aw (kO _) ?_ ?_
  ·intro i x d H5 Q' ex ed s5 hq
   obtain⟨d',dB,rx⟩:=X1.get' i ex;rw[bQ]at dB;rw[bQ,bQ]at ed;cases eq:(kK M.r M.f M.j S.aA S.os)[i]? with |none=>rw[eq]at dB;cases dB |some qq=>rw[eq]at dB ed;cases dB;cases ed;obtain⟨hi,rfl⟩:=A2 eq;obtain⟨n1,n2⟩:=uZ (A3 aG ok.row aw ok.cL ok.cT i hi);exact⟨_,Z,x,_,_,Z,RD.mono s5 _ rx,n1,n2,hq _ _ (aD.refl _) (bp _)⟩
  intro HC ws sC dC rC;rw[jE rC]at dC;refine⟨" ",DB,_,Z,Z,aJ.of dC,λz hz=>?_,aI,by rw[bS,lp];lia,?_⟩
  ·obtain⟨qq,hq,rfl⟩:=cW.mp hz
   obtain⟨i,hi⟩:=oO.mp hq;obtain⟨pK,rfl⟩:=A2 hi;obtain⟨n1,n2⟩:=uZ (A3 aG ok.row aw ok.cL ok.cT i pK);have:=xT n1 n2;show(hV _ _).length<=_
   lia
  refine⟨ck Z,λlb HD nD=>?_⟩;have tR:=sC.trans nD.same;refine⟨la,lb,_,_,Z,Z,aJ.of (tR _ _ nA.at'),aJ.of nD.at',by show 5<=_;lia,λlc HE nE=>?_⟩;have Nx:=Ny.trans (tR.trans nE.same);obtain⟨RE,eE⟩:=RR Nx;refine⟨_,Z,?_⟩;refine⟨_,Z,r,dx,_,Z,eE,Z,r,q,M,D',S,Z,RE,ok,aG,?_⟩;refine Qd (z:=S.mark) (λQ' hq=>⟨_,Z,r,dx,_,Z,eE,Z,r,q,M,D',S,Z,RE,ok,aG,hq⟩) ?_;refine⟨ck Z,λld HF nF=>?_⟩;refine⟨lc,ld,_,_,Z,Z,aJ.of (nF.same _ _ nE.at'),aJ.of nF.at',by show 7<=_;lia,λlE HG nG=>?_⟩;have WH:=Nx.trans (nF.same.trans nG.same);refine⟨ck Z,λlf HI nI=>?_⟩;have Nv:=WH.trans nI.same;obtain⟨RI,eI⟩:=RR Nv;obtain⟨hh1,hh2⟩:=a43 S;obtain⟨st,zr,oU⟩:=VV S;have abl:=dZ;refine⟨_,Z,r,dx,_,Z,eI,Z,r,q,M,D',S,Z,RI,ok,aG,.inr ⟨_,Z,.inl ⟨lf,_,_,_,Z,Z,aJ.of nI.at',hh1,?_⟩⟩⟩;refine⟨_,Z,_,Z,_,_,Z,Z,by show(rQ S).length+Str.length " "<=_;lia,?_⟩;refine⟨ck Z,λlg HJ nJ=>?_⟩;have Nu:=Nv.trans nJ.same;obtain⟨RJ,eJ⟩:=RR Nu;refine⟨_,Z,r,dx,_,Z,eJ,Z,r,q,M,D',S,Z,RJ,ok,aG,.inr ⟨_,Z,.inl ⟨lg,_,_,_,Z,Z,aJ.of nJ.at',hh2,?_⟩⟩⟩;refine⟨_,_,Z,Z,by simp only[cV];change (rQ S).length+Str.length " "+_<=_;lia,?_⟩;refine⟨ck Z,λlh HL nL=>?_⟩;refine⟨lE,lh,_,_,Z,Z,aJ.of (nL.same _ _ (nJ.same _ _ (nI.same _ _ nG.at'))),aJ.of nL.at',by show 8<=_;lia,λli HM nM=>?_⟩;refine k _ _ (wB (aJ.of nM.at') ?_) (Nu.trans (nL.same.trans nM.same));have fin:aL K HM ((oF M S).map V.str) ((oF M S).map PyData.str):=Kz _;unfold oF oP at fin;show aL K HM _ _;rw[st];exact fin
end
open _T (numS numIn? Free)
section
variable {P:af}{w:World}{K:aa}{mg:bD}{au:Heap}
theorem a7U(n:Int):("steps ":Str)++numS n=dW.txt (.steps n):=by show _=("steps":Str)++" "++numS n;rw[show("steps ":Str)="steps"++" " by decide+kernel]
theorem a7V(n:Int):("rate ":Str)++numS n=dW.txt (.aA n):=by show _=("rate":Str)++" "++numS n;rw[show("rate ":Str)="rate"++" " by decide+kernel]
inductive aae(vs:List V)(H:Hp)(Q:VK):Prop |mk (p:_)(h0:vs=[.ref p])(h1:ft H p)(h2:∀c H',vo c->bN p H H'->Q (.str (dW.txt c)) H')
def Lu(K:aa):Sp:=λvs H Q _=>aae vs H Q
abbrev EB:Stmt:=top 120
theorem MX:aW ["_law_bag_here","_law_how"] ["_law_bag_here"] (aP EB):=bj aI
theorem ZX(F:FA K mg "_law_deed" EB)(B:bC mg)(dJ:aB P w K mg au "_law_take" 1 lV):aB P w K mg au "_law_deed" 2 (Lu K):=by
 refine F.has MX (λvs H Q E h=>?_) (λ_ _ _ _ _ _=>cw λ_=>rfl) (λf aH A outer s H vs Q E hr h=>?_)
 ·obtain⟨p,rfl,_⟩:=h
  rfl
 ·obtain⟨p,rfl,bg,k⟩:=h
  have nd:=MX.nd;have iY:sizeLine=16777216:=by decide
  refine⟨_,(aE (pS 1 nd (pf dJ hr (ak (pv 0) (ak aF ay)))) (aE (bJ (bX m7 (pv 1) aF (bL _)) (aK (aR (aQ gH bu (cD (x:="str") fq Z (B.at "str") fj (ak (px K (da (ak (pf dJ hr (ak (pv 0) (ak aF ay))) (ak (pf dJ hr (ak (pv 0) (ak aF ay))) ay))) (aQ p7 (pv 1) aF)) ay))))) bK) (aE (bJ (bX (dM K Z hr.units) (pv 1) aF (bL _)) (aK (aR (aQ gH bu (cD (x:="str") fq Z (B.at "str") fj (ak (px K (da (ak (aQ dP aF (pf dJ hr (ak (pv 0) (ak aF ay)))) (ak aF (ak aF (ak aF ay))))) (pf dJ hr (ak (pv 0) (ak aF ay)))) ay))))) bK) (aK (aR (px K (da (ak bu (ak bu (ak bu ay)))) (aQ jm (pv 1) aF))))))),?_⟩;refine⟨_,Z,p,8,Z,bg,az,az,λhow H1 h0 h1 b1=>?_⟩;refine⟨_,Z,_,_,Z,Z,_,Z,?_⟩;refine fc (λ_=>?_) (λh4=>?_)
  ·refine⟨_,Z,p,41,Z,b1.bM,az,az,λt1 H2 Cp Co b2=>?_⟩
   refine⟨_,Z,p,5,Z,b2.bM,az,az,λt2 H3 t20 t21 b3=>?_⟩;refine⟨ck Z,λl H4 n4=>?_⟩;have b4:bN p H3 H4:=.eg b3.bM n4.same;refine⟨_,Z,_,_,Z,Z,(by decide:(0:Int)<2),?_⟩;obtain⟨n,mn,en⟩:=AD [t1,t2] (i:=how%2) aw (show how%2<2 by lia);have n40:0<=n/\n<=40:=by
    rcases cj.mp mn with rfl|mn
    ·lia
    rcases cj.mp mn with rfl|mn
    ·lia
    ·exact(eQ mn).elim
   have nm:Nm n:=by show n.natAbs<10^40;lia
   have nl:=fL nm;have l6:Str.length "steps "=6:=by decide+kernel
   refine .inl ⟨l,_,_,_,Z,Z,aJ.of n4.at',en,.inl ⟨n,Z,fS nm,_,_,Z,Z,by rw[l6];change _+(numS n).length<=_;lia,?_⟩⟩;have:=k (.steps n) H4 ⟨n40.1,aw⟩ (b1.trans (b2.trans (b3.trans b4)));rw[<-a7U]at this;exact this
  ·refine⟨_,Z,.inl ⟨_,_,Z,Z,_,Z,?_⟩⟩
   refine fc (λ_=>?_) (λh5=>?_)
   ·refine⟨_,Z,p,191,Z,b1.bM,az,az,λt1 H2 Cp Co b2=>?_⟩
    refine⟨_,_,Z,Z,?_⟩;refine⟨ck Z,λl H3 n3=>?_⟩;have b3:bN p H2 H3:=.eg b2.bM n3.same;have x6:l≠p:=λe=>b2.bM.ne (e▸n3.no);refine⟨_,Z,p,4,Z,b3.bM,az,az,λix H4 i0 i1 b4=>?_⟩;obtain⟨n,mn,en⟩:=AD [10+t1,9,201,100] i0 i1;have abx:0<=n/\n<=300:=by
     rcases cj.mp mn with rfl|mn
     ·lia
     rcases cj.mp mn with rfl|mn
     ·lia
     rcases cj.mp mn with rfl|mn
     ·lia
     rcases cj.mp mn with rfl|mn
     ·lia
     ·exact(eQ mn).elim
    have nm:Nm n:=by show n.natAbs<10^40;lia
    have nl:=fL nm;have l6:Str.length "rate "=5:=by decide+kernel
    refine .inl ⟨l,_,_,_,Z,Z,aJ.of (b4.same _ _ x6 n3.at'),en,.inl ⟨n,Z,fS nm,_,_,Z,Z,by rw[l6];change _+(numS n).length<=_;lia,?_⟩⟩;have:=k (.aA n) H4 nm (b1.trans (b2.trans (b3.trans b4)));rw[<-a7V]at this;exact this
   ·refine⟨ck Z,λl H2 n2=>?_⟩
    have b2:bN p H1 H2:=.eg b1.bM n2.same;refine⟨_,Z,_,_,Z,Z,?_⟩;have g4:¬(how<4):=λz=>h4 (cf z);have g5:¬(how=4):=λz=>h5 (cf z);rcases(show how-5=0\/how-5=1\/how-5=2 by lia)with e|e|e
    ·rw[e]
     exact .inl ⟨l,_,_,_,Z,Z,aJ.of n2.at',Z,k (.wd .hold) H2 trivial (b1.trans b2)⟩
    ·rw[e]
     exact .inl ⟨l,_,_,_,Z,Z,aJ.of n2.at',Z,k (.wd .go) H2 trivial (b1.trans b2)⟩
    ·rw[e]
     exact .inl ⟨l,_,_,_,Z,Z,aJ.of n2.at',Z,k (.wd .drop) H2 trivial (b1.trans b2)⟩
theorem ft.but{H H':Hp}{p:Addr}{S':List Addr}(h:ft H p)(b:cA S' H H')(hp:p∉S'):ft H' p:=by obtain⟨c,m,e,k⟩:=h;exact⟨c,m,b _ _ e hp,k⟩
theorem a2v{M:bE}{ms:List Int}{sp:Int}(FV:eO M.rs.length 100 ms)(dZ:1<=sp)(gX:sp<=20):iC M.rs.length (eX ms sp) (some (ms,sp)):=⟨.inl ⟨ms,sp,Z,Z⟩,λn' s' e=>by cases e;exact⟨FV,dZ,gX⟩,λe=>by cases e⟩
structure TW(K:aa)(C D:Addr)(H0:Hp)(M:bE)(p a r1 r2:Addr)(m:V)(H:Hp)(q1 q2:Addr)(S1 S2:bc):Prop where
 bg:ft H p
 dk:lL K D H a r1 M
 x1:bT K C H r1 q1 M S1
 x2:bT K C H r2 q2 M S2
 ms:RD K H m M.D
 hp:H0 p≠none
 fr:∀x o,H0 x=some o->x≠p->H x=some o
 za:H0 a=none
 z1:H0 r1=none
 z2:H0 r2=none
 y1:H0 q1=none
 y2:H0 q2=none
 rr:r1≠r2
 qq:q1≠q2
section
variable {C D:Addr}{H0:Hp}{M:bE}{p a r1 r2 q1 q2 q':Addr}{m:V}{H H':Hp}{S1 S2 S':bc}
theorem AE{H:Hp}{x y C dx:Addr}{fs:List (Str×V)}{ys:List V}(h1:H x=some (.ins C dx fs))(h2:H y=some (.lst ys)):x≠y:=wU h1 h2 (by intro z;cases z)
theorem zT(x:bT K C H r1 q1 M S1)(bg:ft H p):p≠r1:=by obtain⟨c,m',ep,_⟩:=bg;obtain⟨rx,mv,bv,bR,tv,er,_⟩:=x.ob;exact(AE er ep).symm
theorem ND(x:bT K C H r1 q1 M S1){r:Addr}(dk:lL K D H a r M):a≠r1/\a≠q1:=by obtain⟨dx,mv,ea,_⟩:=dk;obtain⟨rx,P7,bv,bR,tv,er,_⟩:=x.ob;obtain⟨ys,eq,_⟩:=x.qu;exact⟨wU ea er (by intro z;injection z with _ _ z;cases z),AE ea eq⟩
theorem zR(x:bT K C H r1 q1 M S1)(y:bT K C H r2 q2 M S2):r1≠q2:=by obtain⟨rx,P7,bv,bR,tv,er,_⟩:=x.ob;obtain⟨ys,eq,_⟩:=y.qu;exact AE er eq
theorem lL.v{r:Addr}(dk:lL K D H a r M)(v:cQ H H')(ea:∀o,H a=some o->H' a=some o):lL K D H' a r M:=by obtain⟨dx,mv,e,rm⟩:=dk;exact⟨dx,mv,ea _ e,RD.v v _ (iu _ _ _ _ _) rm⟩
theorem TW.pq(h:TW K C D H0 M p a r1 r2 m H q1 q2 S1 S2):p≠q1/\p≠q2:=⟨λz=>h.hp (by rw[z];exact h.y1),λz=>h.hp (by rw[z];exact h.y2)⟩
theorem TW.same(h:TW K C D H0 M p a r1 r2 m H q1 q2 S1 S2)(n1:cy S1.ds=true)(n2:cy S2.ds=true)(s:aD H H'):TW K C D H0 M p a r1 r2 m H' q1 q2 S1 S2:=⟨(bN.eg h.bg s).bM,h.dk.v s.v (λo e=>s _ _ e),h.x1.same n1 s,h.x2.same n2 s,RD.mono s _ h.ms,h.hp,λx o e n=>s _ _ (h.fr x o e n),h.za,h.z1,h.z2,h.y1,h.y2,h.rr,h.qq⟩
theorem TW.draw(h:TW K C D H0 M p a r1 r2 m H q1 q2 S1 S2)(n1:cy S1.ds=true)(n2:cy S2.ds=true)(b:bN p H H'):TW K C D H0 M p a r1 r2 m H' q1 q2 S1 S2:=by
 have v:=(bN.t h.bg b).v;have ap:a≠p:=by obtain⟨dx,mv,ea,_⟩:=h.dk;obtain⟨c,m',ep,_⟩:=h.bg;exact AE ea ep
 exact⟨b.bM,h.dk.v v (λo e=>b.same _ _ ap e),h.x1.go n1 v (λo e=>b.same _ _ (zT h.x1 h.bg).symm e) (λo e=>b.same _ _ h.pq.1.symm e),h.x2.go n2 v (λo e=>b.same _ _ (zT h.x2 h.bg).symm e) (λo e=>b.same _ _ h.pq.2.symm e),RD.v v _ (iu _ _ _ _ _) h.ms,h.hp,λx o e n=>b.same _ _ n (h.fr x o e n),h.za,h.z1,h.z2,h.y1,h.y2,h.rr,h.qq⟩
theorem m8{x r q:Addr}(h1:x≠r)(h2:x≠q):x∉[r,q]:=λz=>by simp only[cj,eQ,iI]at z;exact z.elim h1 h2
theorem QX(hp:H0 p≠none)(fr:∀x o,H0 x=some o->x≠p->H x=some o)(bg:ft H p)(nq:H q'=none):H0 q'=none:=by cases e:H0 q' with |none=>rfl |some o=>
 by_cases z:q'=p
 ·exact absurd nq (by rw[z];exact bg.ne)
 ·rw[fr _ _ e z]at nq;cases nq
theorem TW.Ao(h:TW K C D H0 M p a r1 r2 m H q1 q2 S1 S2)(n2:cy S2.ds=true)(mv:Mv r1 q1 H q' H')(R:bT K C H' r1 q' M S'):TW K C D H0 M p a r1 r2 m H' q' q2 S' S2:=by
 have v:=h.x1.v mv.but;obtain⟨d1,d2⟩:=ND h.x1 h.dk;have y':H0 q'=none:=mv.nq.elim (λe=>by rw[e];exact h.y1) λe=>QX h.hp h.fr h.bg e;refine⟨ft.but h.bg mv.but (m8 (zT h.x1 h.bg) h.pq.1),h.dk.v v (λo e=>mv.but _ _ e (m8 d1 d2)),R,h.x2.go n2 v (λo e=>mv.but _ _ e (m8 h.rr.symm (zR h.x2 h.x1))) (λo e=>mv.but _ _ e (m8 (zR h.x1 h.x2).symm h.qq.symm)),RD.v v _ (iu _ _ _ _ _) h.ms,h.hp,λx o e n=>mv.but _ _ (h.fr x o e n) (m8 (λz=>by rw[z,h.z1]at e;cases e) (λz=>by rw[z,h.y1]at e;cases e)),h.za,h.z1,h.z2,y',h.y2,h.rr,λz=>?_⟩;rcases mv.nq with e|e
 ·exact h.qq (by rw[<-e,z])
 ·obtain⟨ys,eq,_⟩:=h.x2.qu
  rw[z,eq]at e;cases e
theorem TW.me(h:TW K C D H0 M p a r1 r2 m H q1 q2 S1 S2)(n1:cy S1.ds=true)(mv:Mv r2 q2 H q' H')(R:bT K C H' r2 q' M S'):TW K C D H0 M p a r1 r2 m H' q1 q' S1 S':=by
 have v:=h.x2.v mv.but;obtain⟨d1,d2⟩:=ND h.x2 h.dk;have y':H0 q'=none:=mv.nq.elim (λe=>by rw[e];exact h.y2) λe=>QX h.hp h.fr h.bg e;refine⟨ft.but h.bg mv.but (m8 (zT h.x2 h.bg) h.pq.2),h.dk.v v (λo e=>mv.but _ _ e (m8 d1 d2)),h.x1.go n1 v (λo e=>mv.but _ _ e (m8 h.rr (zR h.x1 h.x2))) (λo e=>mv.but _ _ e (m8 (zR h.x2 h.x1).symm h.qq)),R,RD.v v _ (iu _ _ _ _ _) h.ms,h.hp,λx o e n=>mv.but _ _ (h.fr x o e n) (m8 (λz=>by rw[z,h.z2]at e;cases e) (λz=>by rw[z,h.y2]at e;cases e)),h.za,h.z1,h.z2,h.y1,y',h.rr,λz=>?_⟩;rcases mv.nq with e|e
 ·exact h.qq (by rw[<-e,z])
 ·obtain⟨ys,eq,_⟩:=h.x1.qu
  rw[<-z,eq]at e;cases e
end
theorem RG.sj{M:bE}{D:Nat}{S:bc}{d:ah}{o:Itm}(g:RG M D S)(it:iC M.rs.length d o)(hl:S.ds.length<20)(jI:fO M.rs (hZ (jq S) o)):RG M D (uP S d o):=⟨g.ok.sj it hl,g.aG,g.sd.eq Z Z,g.on.sj jI,g.hD⟩
theorem a5O{n:Nat}{d:ah}{o:Itm}{H:Hp}{v:V}(it:iC n d o)(r:RD K H v d):∃a y xs,v= .ref a/\aZ K H a (.str y::xs)/\SeqAt.shaped (.str y)=true/\(PyData.eqv (.str y) (.str "line")=false->o=none):=by
 rcases it.it with⟨ns,sp,rfl,_⟩|⟨z,x,rfl,hw,_,rfl⟩
 ·obtain⟨a,xs,rfl,h1,h2⟩:=r.cJ
  obtain⟨x1,rr,rfl,e1,h2⟩:=h2.cons_inv;cases e1.str_inv;exact⟨a,"line",rr,Z,h1,pD,λz=>by rw[ou,cf rfl]at z;cases z⟩
 ·obtain⟨a,xs,rfl,h1,h2⟩:=r.cJ
  obtain⟨x1,rr,rfl,e1,h2⟩:=h2.cons_inv;cases e1.str_inv;exact⟨a,z,rr,Z,h1,vJ hw,λ_=>rfl⟩
inductive aa6(K:aa)(C:Addr)(D:Addr)(vs:List V)(H:Hp)(Q:VK):Prop |mk (H0:_)(p:_)(a:_)(r1:_)(r2:_)(m:_)(q1:_)(q2:_)(M:_)(D':_)(S:_)(most:_)(h0:vs=[.ref p,.ref a,.ref r2,m,.int most])(h1:TW K C D H0 M p a r1 r2 m H q1 q2 S S)(h2:RG M D' S)(h3:1<=most)(h4:most<=100)(h5:∀u6 tZ S' H',TW K C D H0 M p a r1 r2 m H' u6 tZ S' S'->RG M D' S'->Q (.bl true) H')
def Lo(K:aa)(C D:Addr):Sp:=λvs H Q _=>aa6 K C D vs H Q
abbrev Ew:Stmt:=top 122
theorem MT:aW ["_law_bag_here","_law_desk","_law_runner","_law_machine_here","_law_most","_law_k","_law_plain","_law_item_here"] ["_law_bag_here","_law_desk","_law_runner","_law_machine_here","_law_most"] (aP Ew):=bj aI
theorem ZQ{C D cR cM:Addr}(F:FA K mg "_law_fed" Ew)(B:bC mg)(DC:mR K D)(TC:cU K C)(dJ:aB P w K mg au "_law_take" 1 lV)(a53:aB P w K mg au "_law_item" 3 (Ll K))(a52:aB P w K mg au "_law_line_from" 2 (CP K))(xI:aB P w K mg au "_law_item_text" 1 (qF K))(HN:bP P w K mg au C "leads_to" 3 (cP K C λ_ S H Q=>∀v H',RD K H' v (fE (jq S))->aD H H'->Q v H'))(pP:bP P w K mg au C "waiting" 1 (cP K C λ_ S H Q=>∀l ys H',H l=none->H' l=some (.lst ys)->aL K H' ys S.ds->aD H H'->Q (.ref l) H'))(HR:bP P w K mg au C "feed" 5 (CG K C))(xN:bP P w K mg au D "say" 14 (λvs H Q _=>zw K C D cR cM vs H Q E0)):aB P w K mg au "_law_fed" 15 (Lo K C D):=by
 refine F.has MT (λvs H Q E h=>?_) (λ_ _ _ _ _ _=>al5 λ_ _ _ _ _=>rfl) (λf aH A outer s H vs Q E hr h=>?_)
 ·obtain⟨H0,p,a,r1,r2,m,q1,q2,M,D',S,most,rfl,_⟩:=h
  rfl
 ·obtain⟨H0,p,a,r1,r2,m,q1,q2,M,D',S,most,rfl,T,g,Pb,Pa,k⟩:=h
  have nd:=MT.nd;have aG:=g.aG;have n3:=aG.n3;refine⟨_,(aE (kf ie Z (p4 Z (B.at "range") (ak (aQ dP aF (pf dJ hr (ak (pv 0) (ak aF ay)))) ay)) (bo 5 nd) (aE (pS 6 nd (jl (dM K Z hr.units) (pf dJ hr (ak (pv 0) (ak aF ay))) aF (bL _))) (aE (pS 7 nd (pf a53 hr (ak (pv 0) (ak (fF K B (ak (px K (pv 3) aF) ay)) ay)))) (aE (iO (bJ (PW.pt (kJ (dw (cK (pv 6))) (kI (bX (dM K Z hr.units) (px K (pv 7) aF) bu (bL _))))) (aK (pS 7 nd (pf a52 hr (ak (pv 0) (ak (pv 3) (ak (cY HN TC.cl (hr.mono az) (pv 2)) (ak (pv 4) ay))))))) bK)) (aK (bJ (bX m7 (fF K B (ak (cY pP TC.cl (hr.mono az) (pv 2)) ay)) aF (bL _)) (aK (bJ (bX ug (m5 xN DC.cl (hr.mono az) (pv 1) (ak (pf xI hr (ak (pv 7) ay)) ay)) (cD (x:="str") fq Z (B.at "str") fj (ak (m5 HR TC.cl (hr.mono az) (pv 2) (ak (pv 7) ay)) ay)) (bL _)) (aK (aR gE)) bK)) bK)))))) (aK (aR gE))),?_⟩;refine⟨_,Z,p,3,Z,T.bg,az,az,λt0 H1 Kx Kw b1=>?_⟩;refine⟨_,_,Z,Z,_,Z,?_,?_,?_⟩
  ·lia
  ·lia
  refine Bc (Pv:=λi O H2=>∃q1 q2 S v5 v6 v7,O=[some (.ref p),some (.ref a),some (.ref r2),some m,some (.int most),v5,v6,v7]/\TW K C D H0 M p a r1 r2 m H2 q1 q2 S S/\RG M D' S) ?_ ?_ ?_
  ·exact⟨q1,q2,S,none,none,none,Z,T.draw g.ok.row.no g.ok.row.no b1,g⟩
  ·rintro i O H2 hi ⟨q1,q2,S,v5,v6,v7,rfl,T2,g⟩
   have no:=g.ok.row.no;refine⟨_,Z,p,3,Z,T2.bg,az,az,λt1 H3 Cp Co b3=>.inl ⟨_,_,Z,Z,?_⟩⟩;have T3:=T2.draw no no b3;obtain⟨ma,mb,hm,gK,iU⟩:=mi T3.ms;refine⟨_,Z,_,Z,.inr ⟨ma,_,0,.ref mb,hm,Z,gK,cF (dY 0) Z,mb,_,Z,.inr iU,?_⟩⟩;rw[bS];refine⟨p,M.rs.length,Z,T3.bg,n3.1,n3.2,λiv d o H4 ri it b4=>?_⟩;have T4:=T3.draw no no b4;refine⟨λO H5=>∃iv d o v6,O=[some (.ref p),some (.ref a),some (.ref r2),some m,some (.int most),some (.int (0+(i:Int))),v6,some iv]/\TW K C D H0 M p a r1 r2 m H5 q1 q2 S S/\RD K H5 iv d/\iC M.rs.length d o/\fO M.rs (hZ (jq S) o),?_,?_⟩
   ·have line:∀(v6:Option V)(iv:Option V),∀H4,TW K C D H0 M p a r1 r2 m H4 q1 q2 S S->vU (Ck (CP K) (vT (tI 0) (vT (tI 3) (vT (Cj C "leads_to" (cP K C λ_ S H Q=>∀v H',RD K H' v (fE (jq S))->aD H H'->Q v H') (tI 2) lR) (vT (tI 4) lR))))) (gw 7) {nx:=λO H5=>∃iv d o v6,O=[some (.ref p),some (.ref a),some (.ref r2),some m,some (.int most),some (.int (0+(i:Int))),v6,some iv]/\TW K C D H0 M p a r1 r2 m H5 q1 q2 S S/\RD K H5 iv d/\iC M.rs.length d o/\fO M.rs (hZ (jq S) o),rt:=Q} [some (.ref p),some (.ref a),some (.ref r2),some m,some (.int most),some (.int (0+(i:Int))),v6,iv] H4:=λv6 iv H4 T4=>by obtain⟨dx,mv,bv,bR,tv,e,_⟩:=T4.x2.ob;refine⟨_,Z,_,Z,_,Z,r2,dx,_,Z,e,Z,r2,q2,M,D',S,Z,T4.x2,g.ok,aG,λgv H5 rg s5=>?_⟩;have T5:=T4.same no no s5;refine⟨_,Z,p,m,M.rs,M.r,M.f,M.j,M.t,gv,jq S,most,Z,T5.bg,T5.ms,aG,rg,g.on.goal,Pb,Pa,λiv' ns sp H6 rl FV Ae dZ gX b6=>?_⟩;exact⟨iv',_,some (ns,sp),v6,Z,T5.draw no no b6,rl,a2v FV dZ gX,Ae⟩
    obtain⟨wa,y,xs,rfl,hwa,We,kv⟩:=a5O it ri;by_cases hb:t1=0
    ·refine⟨_,Z,_,Z,?_⟩
     rw[cf hb];refine aY ⟨_,Z,.inr ⟨wa,_,0,.str y,Z,Z,hwa,cF (dY 0) Z,.inr ⟨_,_,bp _,bp _,We,pD,_,Z,?_⟩⟩⟩;cases hc:PyData.eqv (.str y) (.str "line")with |true=>exact bG (line _ _ H4 T4) |false=>refine aY ⟨_,d,o,_,Z,T4,ri,it,?_⟩;rw[kv hc];exact g.on.goal
    ·refine⟨_,Z,_,Z,?_⟩
     rw[dE hb];exact bG (line _ _ H4 T4)
   ·rintro O H5 ⟨iv,d,o,v6,rfl,T5,ri,it,jI⟩
    obtain⟨dx,mv,bv,bR,tv,e,_⟩:=T5.x2.ob;refine⟨_,Z,r2,dx,_,Z,e,Z,r2,q2,M,D',S,Z,T5.x2,g.ok,aG,λl ys H6 nl el rl s6=>?_⟩;have T6:=T5.same no no s6;have NQ:=RD.mono s6 _ ri;refine⟨l,_,Z,.inl (aJ.of el),_,_,Z,Z,_,Z,?_⟩;have ly:=rl.length;refine fc (λhl=>?_) (λhl=>?_)
    ·have l10:S.ds.length<10:=by
      have:=lM hl
      lia
     have tx:=it.tx n3.1 n3.2;obtain⟨dxa,mva,ea,_⟩:=T6.dk;refine⟨_,Z,a,dxa,_,Z,ea,Z,_,Z,iv,d,Z,NQ,tx.ti,λH7 s7=>?_⟩;have T7:=T6.same no no s7;refine⟨a,r1,q1,M,D',S,.item d o,Z,T7.dk,T7.x1,g,it,jI,aw,λH8 R8 b8=>?_⟩;have T8:=T7.Ao no ⟨b8,.inl Z⟩ R8;have v8:=T7.x1.v b8;have X9:=RD.v v8 _ tx.no (RD.mono s7 _ NQ);obtain⟨jP,me,bv2,Yb,V2,e2,_⟩:=T8.x2.ob;refine⟨_,Z,r2,jP,_,Z,e2,Z,_,Z,r2,q2,M,D',S,iv,d,o,Z,T8.x2,g.ok,aG,X9,it,jI,aw,λH9 R9 b9=>.inl ⟨_,Z,fS (show((S.ds.length+1:Nat):Int).natAbs<10^40 by lia),Z,_,Z,?_⟩⟩;have g':=g.sj it aw jI;have T9:=T8.me g'.ok.row.no ⟨b9,.inl Z⟩ R9;rw[cf (show V.str (numS ((S.ds.length+1:Nat):Int))=V.str (Str.ofString (toString ((S.ds.length+1:Nat):Int)))from Z)];exact aY ⟨q1,q2,_,_,_,_,Z,T9,g'⟩
    ·exact⟨q1,q2,S,_,_,_,Z,T6,g⟩
  ·rintro O H2 ⟨q1,q2,S,v5,v6,v7,rfl,T2,g⟩
   exact k q1 q2 S H2 T2 g
end
open _T (numS numIn? Free)
section
variable {P:af}{w:World}{K:aa}{mg:bD}{au:Heap}
theorem RG.out{M:bE}{D:Nat}{S S':bc}{c:dW}{z:Str}(g:RG M D S)(h:Out M S c S' z)(hD:D<=900):RG M (D+10) S':=by
 have o:=g.ok;have D1:=o.D1;have up:∀{S1:bc},cx M D S1->cx M (D+10) S1:=λ{S1} o=>by refine⟨o.row,o.rw,o.len,o.cL,o.cT,o.dn,o.pl,o.pd.mono aw,o.pm,?_,aw,aw⟩;have st:=o.aU;cases hs:S1.aU with |none=>trivial |some z=>rw[hs]at st;obtain⟨sq,gp,gn⟩:=z;obtain⟨a1,a2,a3,a4,a5⟩:=st;exact⟨a1,a2,a3,a4.mono aw,a5⟩
 cases h with |hold=>exact⟨o.hold g.aG aw,g.aG,by unfold ku;split<;>exact g.sd.eq Z Z,a3i g.on,aw⟩ |go=>exact⟨up ⟨o.row,o.rw,o.len,o.cL,o.cT,o.dn,o.pl,o.pd,o.pm,trivial,o.D1,o.D2⟩,g.aG,g.sd.eq Z Z,g.on.eq Z Z,aw⟩ |y6=>exact⟨up o,g.aG,g.sd,g.on,aw⟩ |drop=>exact⟨up o.drop,g.aG,g.sd.eq Z Z,g.on.drop o,aw⟩ |steps r=>exact⟨up (r.ok o g.aG),g.aG,r.sd o g.aG g.sd,r.FR o g.aG g.on,aw⟩ |tX=>exact⟨up o,g.aG,g.sd,g.on,aw⟩ |tW=>exact⟨up o,g.aG,g.sd,g.on,aw⟩ |aA h1 h2=>exact⟨up ⟨o.row,o.rw,o.len,h1,h2,o.dn,o.pl,o.pd,o.pm,o.aU,o.D1,o.D2⟩,g.aG,g.sd.eq Z Z,g.on.eq Z Z,aw⟩
theorem a0s(ns:List Int):cS (gI ns):=cS.join (iQ aI) λa ha=>by obtain⟨i,_,rfl⟩:=cW.mp ha;exact p8 i
theorem QZ(a b:Int):cS (hV a b):=by
 unfold hV;split
 ·exact p8 a
 ·exact((p8 a).app (iQ aI)).app (p8 b)
theorem OS{z:Str}(h:cS z):cS (jJ z):=by
 unfold jJ;split
 ·exact iQ aI
 ·exact h
theorem vd{M:bE}{D:Nat}{S:bc}(g:RG M D S):dg 1 (.list ((oF M S).map PyData.str)):=by
 refine gB.lst (n:=0) λd hd=>?_;obtain⟨z,hz,rfl⟩:=cW.mp hd;refine⟨?_,fU _⟩;have key:cS z:=by
  unfold oF oP at hz;simp only[qr,List.map_nil,cj,eQ,iI]at hz;rcases hz with rfl|rfl|rfl|rfl|rfl|rfl|rfl|rfl
  ·exact a0s _
  ·exact QZ _ _
  ·exact p8 _
  ·refine OS (cS.join (iQ aI) λa ha=>?_)
   obtain⟨d,hd,rfl⟩:=cW.mp ha;exact(g.ok.tx g.aG d hd).ok
  ·refine cS.join (iQ aI) λa ha=>?_
   obtain⟨q,_,rfl⟩:=cW.mp ha;exact QZ _ _
  ·exact g.sd.s2
  ·exact OS g.sd.m2
  ·show cS (qD S)
   unfold qD;split<;>exact iQ aI
 show z.cps.all (·<0x110000)=true;rw[K9];exact λc hc=>cf (key c (Array.mem_toList_iff.mpr hc))
theorem a7W{c:dW}(h:vo c):c.txt.length<=100:=by
 have h1:=dZ
 match c,h with
 | .wd .hold,_=>decide+kernel | .wd .go,_=>decide+kernel | .wd .drop,_=>decide+kernel | .steps n,h=>
  have:=fL (show Nm n by show n.natAbs<10^40;have:=h.1;have:=h.2;lia);have e5:Str.length "steps"=5:=by decide+kernel
  show(("steps":Str)++" "++numS n).length<=100;simp only[cV]
  lia | .aA n,h=>
  have:=fL (show Nm n from h);have e5:Str.length "rate"=4:=by decide+kernel
  show(("rate":Str)++" "++numS n).length<=100;simp only[cV]
  lia
theorem a2J{c:TT}{ta tb:TS}{D:Ends}{O:_L.St}{H:Hp}(Pz:Hp->Prop)(hr:∀H',Pz H'->tb D O H')(h:(∀H',Pz H'->tb D O H')->zj c ta tb D O H):zj c ta tb D O H:=h hr
def Lj(K:aa):Sp:=λvs H Q _=>∃(a:Addr)(ns:List Int),vs=[.ref a]/\aJ K H a (ns.map V.int)/\ns.length<=63/\∀H',Q (.bl true) H'
abbrev wg:Stmt:=top 123
theorem MB:aW ["_law_script","_law_at","_law_bag_here","_law_most","_law_deeds","_law_machine_here","_law_place_here","_law_desk","_law_runner","_law_deed_here"] ["_law_script"] (aP wg):=bj aI
theorem ZC{C D:Addr}{f:Addr}{fd:FuncData}(F:jT K "law" "law" wg f fd)(B:bC mg)(DC:mR K D)(TC:cU K C)(a58:aB P w K mg au "_law_bag" 1 (Ly K))(dJ:aB P w K mg au "_law_take" 1 lV)(a51:aB P w K mg au "_law_machine" 2 (Li K))(a4Z:aB P w K mg au "_law_place" 2 (Lf K))(a56:aB P w K mg au "_law_deed" 2 (Lu K))(a5b:sQ P w K mg au D "Desk" 5 (Lv K C D))(Hv:sQ P w K mg au C "Runner" 1 (CB K C))(QJ:aB P w K mg au "_law_asked" 15 (Lz K C D))(QI:aB P w K mg au "_law_state_due" 10 (Ls K C))(a54:aB P w K mg au "_law_fed" 15 (Lo K C D))(a4Y:aB P w K mg au "_law_told" 15 (KZ K C D))(a57:aB P w K mg au "_law_by_runner" 13 (Lx K C)):eD P w K mg au gW 16 f fd ["_law_script"] (Lj K):=by
 refine F.ok MB (λvs H Q E h=>?_) (λaH A outer s H vs Q E hr h=>?_)
 ·obtain⟨a,ns,rfl,_⟩:=h
  rfl
 ·obtain⟨a,ns,rfl,hS,hlen,k⟩:=h
  have nd:=MB.nd;have iY:sizeLine=16777216:=by decide
  refine⟨_,(aE (kf ie Z (p4 Z (B.at "range") (ak (dy (x:="max") (Sz rfl) rfl (B.at "max") Ub (ak aF (ak (dy (x:="min") (J5 rfl) rfl (B.at "min") Ua (ak aF (ak (fF K B (ak (pv 0) ay)) ay))) ay))) ay)) (bo 1 nd) (aE (pS 2 nd (pf a58 hr (ak (pv 0) (ak (pv 1) ay)))) (aE (pS 3 nd (px K (da (ak aF (ak aF (ak aF ay)))) (pf dJ hr (ak (pv 2) (ak aF ay))))) (aE (zZ (i0:=4) nd Z (Or.inl Z) (N:=["_law_k","_law_bag_here"]) (js:=[none,some 2]) Z Z Z (p4 Z (B.at "range") (ak (aQ dP aF (pf dJ hr (ak (pv 2) (ak aF ay)))) ay)) (λ_ _ _ _ _=>(bo 0 (ki az))) (λ_ _ _ _ _=>dS) (λ_ _ _ _ _=>(pf a56 hr (ak (pv 1) ay)))) (aE (pS 5 nd (pf a51 hr (ak (pv 2) ay))) (aE (pS 6 nd (pf a4Z hr (ak (pv 2) (ak (pv 5) ay)))) (aE (pS 7 nd (FK a5b (hr.mono az) Z (ak (pv 5) (ak (pv 6) ay)))) (aE (pS 8 nd (FK Hv (hr.mono az) Z (ak (pv 5) (ak (pv 6) ay)))) (aE (bJ (bX (m9 K Z hr.units) (pf QJ hr (ak (pv 7) ay)) (pf QI hr (ak (pv 5) (ak (pv 8) ay))) (bL _)) (aK (aR gE)) bK) (aK (kf ie Z (kL K Z (pv 4)) (bo 9 nd) (aE (bJ (PW.pt (qP (bX (dM K Z hr.units) (pf dJ hr (ak (pv 2) (ak aF ay))) aF (bL _)) (wC (dw (cK (pf a54 hr (ak (pv 2) (ak (pv 7) (ak (pv 8) (ak (pv 5) (ak (pv 3) ay))))))))))) (aK (aR gE)) bK) (aE (bJ (bX ug (pf a4Y hr (ak (pv 7) (ak (pv 9) ay))) (pf a57 hr (ak (pv 8) (ak (FN K Z (pv 9) (ak bu ay)) ay))) (bL _)) (aK (aR gE)) bK) (aK (bJ (bX (m9 K Z hr.units) (pf QJ hr (ak (pv 7) ay)) (pf QI hr (ak (pv 5) (ak (pv 8) ay))) (bL _)) (aK (aR gE)) bK))))))))))))))) (aK (aR gE))),?_⟩;refine⟨_,Z,a,_,Z,.inl hS,_,_,Z,_,_,Z,_,Z,?_,?_,?_⟩
  ·split<;>(try split)<;>lia
  ·split<;>(try split)<;>(try rw[bS])<;>lia
  have hN:(if(if((ns.map V.int).length:Int)<3 then((ns.map V.int).length:Int)else 3)>1 then(if((ns.map V.int).length:Int)<3 then((ns.map V.int).length:Int)else 3)else 1).toNat<=4:=by split<;>(try split)<;>lia
  refine Bc (Pv:=λi O H2=>aD H H2/\∃v1 v2 v3 v4 v5 v6 v7 v8 v9,O=[some (.ref a),v1,v2,v3,v4,v5,v6,v7,v8,v9]) ?_ ?_ ?_
  ·exact⟨aD.refl _,none,none,none,none,none,none,none,none,none,Z⟩
  ·rintro i O H2 hi ⟨s2,v1,v2,v3,v4,v5,v6,v7,v8,v9,rfl⟩
   have hi8:i<4:=fK hi hN;refine⟨_,Z,_,Z,a,ns,_,Z,s2.seq hS,hlen,aw,aw,λp H3 np SI s3=>?_⟩;refine⟨ck Z,λl H4 n4=>?_⟩;have b4:bN p H3 H4:=.eg SI n4.same;have x6:l≠p:=λe=>SI.ne (e▸n4.no);refine⟨_,Z,p,3,Z,b4.bM,az,az,λix H5 i0 i1 b5=>?_⟩;obtain⟨most,mm,em⟩:=AD [3,12,30] i0 i1;have Pk:1<=most/\most<=100:=by
    rcases cj.mp mm with rfl|mm
    ·lia
    rcases cj.mp mm with rfl|mm
    ·lia
    rcases cj.mp mm with rfl|mm
    ·lia
    ·exact(eQ mm).elim
   refine .inl ⟨l,_,_,_,Z,Z,aJ.of (b5.same _ _ x6 n4.at'),em,?_⟩;refine⟨_,Z,p,10,Z,b5.bM,az,az,λt0 H6 Kx Kw b6=>?_⟩;refine⟨_,_,Z,Z,_,Z,aw,aw,λld H7 n7=>?_⟩;refine J1 (K:=K) (J:=mO 0 (3+t0).toNat) (p:=p) (H:=H6) (3+t0).toNat _ n7 b6.bM aw (λi=>.int (0+(i:Int))) (λi H3 hi _=>⟨hi,λy H4 ⟨e,q⟩=>⟨e,q⟩⟩) (λH3 _=>bO _) (λ_ d=>∃c,vo c/\d= .str (dW.txt c)) ?_ ?_
   ·intro i H8 Q' hi b8 hq
    exact⟨_,Z,p,Z,b8.bM,λc H9 dc b9=>hq _ (.str c.txt) _ ⟨c,dc,Z⟩ Z (bp _) b9⟩
   intro H8 ys ds b8 d8 r8 l8 nl8 Y9;refine⟨_,Z,p,Z,b8.bM,λm rs r f' j t H9 rm aG b9=>?_⟩;refine⟨_,Z,_,Z,p,m,rs,r,f',j,t,Z,b9.bM,rm,aG,λgP pl HA rp jI bA=>?_⟩;have AR:H p=none:=by cases e:H p with |none=>rfl |some o=>exact absurd (s2 _ _ e) (by rw[np];exact λz=>nomatch z)
   have WE:aD H HA:=bN.WC (s2.trans s3) AR (b4.trans (b5.trans (b6.trans (b8.trans (b9.trans bA)))));have zV:RD K HA m (bE.D ⟨rs,r,f',j,t⟩):=RD.v (bN.t b9.bM bA).v _ (iu _ _ _ _ _) rm;generalize hM:(⟨rs,r,f',j,t⟩:bE)=M at zV;have Af:M.Ok:=by rw[<-hM];exact aG
   have FQ:fO M.rs pl:=by rw[<-hM];exact jI
   have Ax:ld≠p:=λe=>b6.bM.ne (e▸n7.no);have dA:HA ld=some (.lst ys):=bA.same _ _ Ax (b9.same _ _ Ax d8);have rA:aL K HA ys ds:=aL.v ((bN.t b8.bM (b9.trans bA)).v) _ nl8 r8;have ly:=r8.length;refine⟨_,Z,_,Z,λx dx hx hdx ne=>?_⟩;have wk:aD HA (_L.upd (_L.upd HA dx (.own x)) x (.ins D dx [])):=(aD.new hdx).trans (aD.new (by rw[aV ne.symm];exact hx));refine⟨x,dx,m,gP,M,pl,Z,bW,RD.mono wk _ zV,RD.mono wk _ rp,Af,FQ,λr1 q1 HB dk R1 nr nq bt=>⟨Z,?_⟩⟩;have wm:aD HA HB:=λb o eb=>bt b o (wk b o eb) λz=>by rw[dH.mp z,hx]at eb;cases eb
   have nA:∀{Hz:Hp}{b:Addr},aD HA Hz->Hz b=none->HA b=none:=λ{Hz b} s h=>by cases e:HA b with |none=>rfl |some o=>rw[s _ _ e]at h;cases h
   refine⟨_,Z,_,Z,λr2 jP pH a45 ne2=>?_⟩;have wj:aD HB (_L.upd (_L.upd HB jP (.own r2)) r2 (.ins C jP [])):=(aD.new a45).trans (aD.new (by rw[aV ne2.symm];exact pH));refine⟨r2,jP,m,gP,M,pl,Z,bW,RD.mono wj _ (RD.mono wm _ zV),RD.mono wj _ (RD.mono wm _ rp),λq2 HC R2 G4 bt2=>⟨Z,?_⟩⟩;have zO:aD HB HC:=λb o eb=>bt2 b o (wj b o eb) λz=>by rw[dH.mp z,pH]at eb;cases eb
   have F1:=wm.trans zO;have wQ:cy (nj pl).ds=true:=rfl;have T:TW K C D HA M p x r1 r2 m HC q1 q2 (nj pl) (nj pl):=by
    refine⟨(bN.eg bA.bM F1).bM,dk.v zO.v (λo e=>zO _ _ e),R1.same wQ zO,R2,RD.mono F1 _ zV,bA.bM.ne,λb o e _=>F1 _ _ e,hx,nA wk nr,nA wm pH,nA wk nq,nA (wm.trans wj) G4,λz=>?_,λz=>?_⟩
    ·obtain⟨qc,P7,yc,wG,vO,e',_⟩:=R1.ob
     rw[z,pH]at e';cases e'
    ·obtain⟨ys',e',_⟩:=R1.qu
     rw[z]at e';rw[wj _ _ e']at G4;cases G4
   have g:RG M 64 (nj pl):=⟨X3 FQ.len,Af,⟨show Str.length "up"<=100 by decide+kernel,show Str.length ""<=100 by decide+kernel,show cS "up" from iQ aI,show cS "" from iQ aI⟩,λi hi=>by have:i=0:=Nat.le_zero.mp hi;rw[this];exact FQ,az⟩;refine⟨_,Z,x,r1,q1,M,64,_,Z,T.dk,T.x1,g,λv1 HD qM sD=>?_⟩;have TD:=T.same wQ wQ sD;refine⟨_,Z,_,Z,m,r2,q2,M,64,_,Z,TD.ms,TD.x2,g,λv2 HE lY sE=>.inr ⟨_,_,RD.mono sE _ qM,lY,(vd g).shaped az,(vd g).shaped az,_,Z,?_⟩⟩;have TE:=TD.same wQ wQ sE;rw[(vd g).refl];refine aY ?_;refine⟨_,Z,ld,Z,⟨_,aJ.of (TE.fr _ _ dA Ax)⟩,?_⟩;refine Im (K:=K) (a:=ld) (xs:=ys) (λn O Hx=>∃q1 q2 S v9,O=[some (.ref a),some (.int (0+(i:Int))),some (.ref p),some (.int most),some (.ref ld),some m,some gP,some (.ref x),some (.ref r2),v9]/\TW K C D HA M p x r1 r2 m Hx q1 q2 S S/\RG M (64+10*n) S) ⟨q1,q2,_,_,Z,TE,g⟩ (λn O Hx _ h=>by obtain⟨_,_,_,_,_,T,_⟩:=h;exact aJ.of (T.fr _ _ dA Ax)) ?_ ?_
   ·rintro n y O Hx hy ⟨q1,q2,S,v9,rfl,T,g⟩
    obtain⟨d,ed,rd⟩:=rA.get' n hy;obtain⟨c,dc,rfl⟩:=Y9 n d ed;cases rd.str_inv;have n12:n<12:=by
     have:=(dD.mp hy).1
     lia
    have no:=g.ok.row.no;refine a2J (λH'=>∃q1 q2 S,TW K C D HA M p x r1 r2 m H' q1 q2 S S/\RG M (64+10*n) S) (λHF hF=>?_) (λQm=>?_)
    ·obtain⟨q1,q2,S,T,g⟩:=hF
     have no:=g.ok.row.no;refine⟨_,Z,_,Z,x,r1,q1,M,_,S,c,Z,T.dk,T.x1,g,dc,λS1 z1 u6 HG Oy RG1 Ao=>?_⟩;have T1:=T.Ao no Ao RG1;have g1:=g.out Oy aw;have cl:=a7W dc;refine⟨_,Z,_,Z,Z,c.txt," ",Z,Z,aI,aw,λlw HI nI=>?_⟩;have T2:=T1.same g1.ok.row.no no nI.same;refine⟨r2,q2,M,_,S,c,lw,Z,aJ.of nI.at',T2.x2,g,dc,λS2 z2 tZ HJ Yk RG2 me=>⟨Z,_,Z,?_⟩⟩;obtain⟨e1,e2⟩:=Oy.det Yk;subst e1 e2;have T3:=T2.me g1.ok.row.no me RG2;rw[cf rfl];refine aY ?_;have Aj:=g1.ok.row.no;refine⟨_,Z,x,r1,u6,M,_,_,Z,T3.dk,T3.x1,g1,λv1 HD qM sD=>?_⟩;have TD:=T3.same Aj Aj sD;refine⟨_,Z,_,Z,m,r2,tZ,M,_,_,Z,TD.ms,TD.x2,g1,λv2 HE lY sE=>.inr ⟨_,_,RD.mono sE _ qM,lY,(vd g1).shaped az,(vd g1).shaped az,_,Z,?_⟩⟩;have TE:=TD.same Aj Aj sE;rw[(vd g1).refl];exact aY ⟨u6,tZ,_,_,Z,TE,g1⟩
    ·refine⟨_,Z,p,2,Z,T.bg,az,az,λt1 HF Cp Co bF=>.inl ⟨_,_,Z,Z,_,Z,?_⟩⟩
     have TF:=T.draw no no bF;refine fc (λ_=>?_) (λ_=>?_)
     ·exact⟨_,Z,_,Z,_,Z,_,Z,_,Z,HA,p,x,r1,r2,m,q1,q2,M,_,S,most,Z,TF,g,Pk.1,Pk.2,λu6 tZ S' HG TG gG=>⟨_,Z,aY (Qm _ ⟨u6,tZ,S',TG,gG⟩)⟩⟩
     ·exact aY (Qm _ ⟨q1,q2,S,TF,g⟩)
   ·rintro O Hx ⟨q1,q2,S,v9,rfl,T,g⟩
    exact⟨λb o e=>T.fr b o (WE _ _ e) (λz=>by rw[z,AR]at e;cases e),_,_,_,_,_,_,_,_,_,rfl⟩
  ·rintro O H2 ⟨s2,v1,v2,v3,v4,v5,v6,v7,v8,v9,rfl⟩
   exact k H2
end
end _b
set_option maxHeartbeats 1000000
namespace _b
open PySem PySem.Spec PyProof.Rows _L
theorem kZ{K:aa}{mg:bD}{h:Heap}{x:Str}{c:Addr}(X:K.In h)(G:h.Ns mainGlobals mg)(a:PySem.W.nsIn K mainGlobals x=some (some (.ref c))):GV mg x (.ref c):=⟨_,sZ X G a,Z⟩
theorem IH{K:aa}{mg:bD}{h:Heap}{x:Str}{c:Addr}{bm:List Value}{nw:String}(X:K.In h)(G:h.Ns mainGlobals mg)(a:PySem.W.nsIn K mainGlobals x=some (some (.ref c)))(q:PySem.W.excIn K c bm nw=true):Exc K mg x c bm nw:=⟨sZ X G a,q⟩
theorem lH{K:aa}{mg:bD}{h:Heap}{a:Addr}{v:Value}{fn z:Str}(X:K.In h)(G:h.Ns mainGlobals mg)(e1:PySem.W.nsIn K mainGlobals fn=some (some v))(e2:PySem.W.nsIn K a z=some (some v)):PySem.W.nsIn K a z=some (mg fn)/\∃v,PySem.W.nsIn K a z=some (some v):=by rw[e2,sZ X G e1];exact⟨Z,v,Z⟩
theorem a7X{K:aa}{mg:bD}{h:Heap}{cG c0 c1 c2 c3 c4 c5 c6 c7 c8 c9 c10:Addr}(X:K.In h)(G:h.Ns mainGlobals mg)(ag:PySem.W.nsIn K mainGlobals "GlideError"=some (some (.ref cG)))(qg:PySem.W.excIn K cG lF nN=true) (h0:PySem.W.nsIn K mainGlobals "NoFraction"=some (some (.ref c0)))(h1:PySem.W.nsIn K mainGlobals "NoRate"=some (some (.ref c1)))(h2:PySem.W.nsIn K mainGlobals "NoItem"=some (some (.ref c2)))(h3:PySem.W.nsIn K mainGlobals "OffRails"=some (some (.ref c3)))(h4:PySem.W.nsIn K mainGlobals "Full"=some (some (.ref c4)))(h5:PySem.W.nsIn K mainGlobals "Moving"=some (some (.ref c5)))(h6:PySem.W.nsIn K mainGlobals "NoTape"=some (some (.ref c6)))(h7:PySem.W.nsIn K mainGlobals "NoText"=some (some (.ref c7)))(h8:PySem.W.nsIn K mainGlobals "NoMachine"=some (some (.ref c8)))(h9:PySem.W.nsIn K mainGlobals "NoPlace"=some (some (.ref c9)))(h10:PySem.W.nsIn K mainGlobals "NoLine"=some (some (.ref c10)))(v:PySem.W.nsIn K mainGlobals "ValueError"=some none) (q1:PySem.W.excIn K c1 lF nN=true)(q5:PySem.W.excIn K c5 lF nN=true) (kat:takes K c1 cG)(kax:jV K c1)(kai0:PySem.W.kitOne K (.ref c1) (.ref c0)=some false)(kai1:PySem.W.kitOne K (.ref c1) (.ref c1)=some true)(kai2:PySem.W.kitOne K (.ref c1) (.ref c2)=some false)(kai3:PySem.W.kitOne K (.ref c1) (.ref c3)=some false)(kai4:PySem.W.kitOne K (.ref c1) (.ref c4)=some false)(kai5:PySem.W.kitOne K (.ref c1) (.ref c5)=some false)(kai6:PySem.W.kitOne K (.ref c1) (.ref c6)=some false)(kai7:PySem.W.kitOne K (.ref c1) (.ref c7)=some false)(kai8:PySem.W.kitOne K (.ref c1) (.ref c8)=some false)(kai9:PySem.W.kitOne K (.ref c1) (.ref c9)=some false)(kai10:PySem.W.kitOne K (.ref c1) (.ref c10)=some false)(kav:PySem.W.kitOne K (.ref c1) (.type "ValueError")=some true) (kbt:takes K c5 cG)(kbx:jV K c5)(kbi0:PySem.W.kitOne K (.ref c5) (.ref c0)=some false)(kbi1:PySem.W.kitOne K (.ref c5) (.ref c1)=some false)(kbi2:PySem.W.kitOne K (.ref c5) (.ref c2)=some false)(kbi3:PySem.W.kitOne K (.ref c5) (.ref c3)=some false)(kbi4:PySem.W.kitOne K (.ref c5) (.ref c4)=some false)(kbi5:PySem.W.kitOne K (.ref c5) (.ref c5)=some true)(kbi6:PySem.W.kitOne K (.ref c5) (.ref c6)=some false)(kbi7:PySem.W.kitOne K (.ref c5) (.ref c7)=some false)(kbi8:PySem.W.kitOne K (.ref c5) (.ref c8)=some false)(kbi9:PySem.W.kitOne K (.ref c5) (.ref c9)=some false)(kbi10:PySem.W.kitOne K (.ref c5) (.ref c10)=some false)(kbv:PySem.W.kitOne K (.ref c5) (.type "ValueError")=some true) :∃X,yi K mg X:=⟨⟨cG,c0,c1,c2,c3,c4,c5,c6,c7,c8,c9,c10⟩,⟨IH X G ag qg,⟨kZ X G h0,kZ X G h1,kZ X G h2,kZ X G h3,kZ X G h4,kZ X G h5,kZ X G h6,kZ X G h7,kZ X G h8,kZ X G h9,kZ X G h10,PySem.W.mg_none_of X G v⟩,IH X G h1 q1,IH X G h5 q5,⟨kat,kax,kai0,kai1,kai2,kai3,kai4,kai5,kai6,kai7,kai8,kai9,kai10,kav⟩,⟨kbt,kbx,kbi0,kbi1,kbi2,kbi3,kbi4,kbi5,kbi6,kbi7,kbi8,kbi9,kbi10,kbv⟩⟩⟩
structure TK(K:aa)(mg:bD)(C D:Addr):Prop where
 tc:cU K C
 init:CA K mg C "Runner" "Runner.__init__" DN
 a1E:MA K C "place" "Runner.place" DJ
 a1G:MA K C "leads_to" "Runner.leads_to" DM
 a1C:MA K C "square" "Runner.square" DE
 a1D:MA K C "rate" "Runner.rate" DI
 a1y:MA K C "tool" "Runner.tool" DD
 a1H:MA K C "last_mark" "Runner.last_mark" DL
 a1w:MA K C "waiting" "Runner.waiting" Dz
 a1I:MA K C "is_held" "Runner.is_held" DR
 a1B:MA K C "stands" "Runner.stands" DH
 a1J:MA K C "is_halted" "Runner.is_halted" DQ
 a1M:MA K C "feed" "Runner.feed" DT
 a1O:MA K C "entries" "Runner.entries" DV
 a1N:MA K C "entries_of_first" "Runner.entries_of_first" DU
 a1A:MA K C "steps_of_first" "Runner.steps_of_first" DG
 a1F:MA K C "next_square" "Runner.next_square" DK
 a1P:MA K C "end_first" "Runner.end_first" DW
 a1z:MA K C "stops_in" "Runner.stops_in" DF
 a1K:MA K C "hold" "Runner.hold" DP
 a1L:MA K C "go" "Runner.go" DS
 a1Q:MA K C "drop" "Runner.drop" DX
 a1x:MA K C "turn_rate" "Runner.turn_rate" DA
 td:mR K D
 a7E:CA K mg D "Desk" "Desk.__init__" ED
 say:MA K D "say" "Desk.say" Dm
 WA:MA K D "say_steps" "Desk.say_steps" Dn
 WB:MA K D "say_rate" "Desk.say_rate" Dp
structure All(w:World)(K:aa)(mg:bD):Prop where
 B:bC mg
 uN:GT K mg "NOUGHT" [.int 0,.int 1]
 a5n:GT K mg "SIDES" [.str "up",.str "down"]
 a5B:GT K mg "AXES" [.int 2,.int 3]
 a5t:GV mg "LONGEST_RAIL" (.int 100)
 a5z:GV mg "GREATEST_CHANGE" (.int 50)
 a5p:GV mg "MOST_TICKS" (.int 100)
 a5q:GV mg "MOST_STEPS" (.int 100)
 a5x:GV mg "GREATEST_SPEED" (.int 20)
 a5s:GV mg "LONGEST_WAIT" (.int 1000)
 a5u:GV mg "LONGEST_NAME" (.int 8)
 a5w:GV mg "LEAST_RATE" (.int 10)
 a5y:GV mg "GREATEST_RATE" (.int 200)
 QT:GV mg "FIRST_RATE" (.int 100)
 a5o:GV mg "MOST_WAITING" (.int 20)
 a5r:GV mg "MOST_ENTRIES" (.int 100)
 a5v:GV mg "LETTERS" (.str iB)
 a5A:GV mg "FIGURES" (.str uO)
 Ie:GV mg "NOTHING" (.str "none")
 ans:∃a,GD w K mg "ANSWERS" a/\(PySem.W.nsIn K a "place"=some (mg "answer_place")/\∃v,PySem.W.nsIn K a "place"=some (some v))/\(PySem.W.nsIn K a "square"=some (mg "answer_square")/\∃v,PySem.W.nsIn K a "square"=some (some v))/\(PySem.W.nsIn K a "stop"=some (mg "answer_stop")/\∃v,PySem.W.nsIn K a "stop"=some (some v))/\(PySem.W.nsIn K a "waits"=some (mg "answer_waits")/\∃v,PySem.W.nsIn K a "waits"=some (some v))/\(PySem.W.nsIn K a "plan"=some (mg "answer_plan")/\∃v,PySem.W.nsIn K a "plan"=some (some v))/\(PySem.W.nsIn K a "tool"=some (mg "answer_tool")/\∃v,PySem.W.nsIn K a "tool"=some (some v))/\(PySem.W.nsIn K a "mark"=some (mg "answer_mark")/\∃v,PySem.W.nsIn K a "mark"=some (some v))/\(PySem.W.nsIn K a "state"=some (mg "answer_state")/\∃v,PySem.W.nsIn K a "state"=some (some v))/\(PySem.W.nsIn K a "hold"=some (mg "answer_hold")/\∃v,PySem.W.nsIn K a "hold"=some (some v))/\(PySem.W.nsIn K a "go"=some (mg "answer_go")/\∃v,PySem.W.nsIn K a "go"=some (some v))/\(PySem.W.nsIn K a "drop"=some (mg "answer_drop")/\∃v,PySem.W.nsIn K a "drop"=some (some v))/\PySem.W.nsIn K a "line"=some none/\PySem.W.nsIn K a "wait"=some none/\PySem.W.nsIn K a "steps"=some none/\PySem.W.nsIn K a "rate"=some none
 cls:∃X,yi K mg X
 dk:∃C D,TK K mg C D
 law:FA K mg "law" wg
 a6p:FA K mg "is_whole" Em
 a6o:FA K mg "is_whole_within" De
 a6u:FA K mg "is_machine" Er
 a6s:FA K mg "is_place" Eo
 a6D:FA K mg "are_rails" ES
 a6w:FA K mg "is_item" Es
 Rp:FA K mg "is_line" El
 a6c:FA K mg "place_behind" EI
 a6h:FA K mg "moved" E8
 a6C:FA K mg "are_steps" ER
 a6q:FA K mg "is_short_item" En
 a6t:FA K mg "is_name" Ep
 a6y:FA K mg "fraction" Eu
 a6a:FA K mg "plus" DY
 a69:FA K mg "plus_whole" E2
 a6i:FA K mg "minus" E9
 a5Y:FA K mg "times" Di
 a6v:FA K mg "is_less" Eb
 a6k:FA K mg "least" Ec
 a6j:FA K mg "lowest_terms" Ee
 a6A:FA K mg "common_divisor" EF
 a6l:FA K mg "lead_of" Ed
 a5W:FA K mg "ways_of" D9
 a62:FA K mg "stand_at" Dl
 a60:FA K mg "step_rows" Dw
 a6g:FA K mg "nearest" E5
 a6z:FA K mg "corner_square" EE
 a5X:FA K mg "top_square" Dg
 a6r:FA K mg "is_rate" Ek
 a6x:FA K mg "greatest_turn" Df
 Rm:FA K mg "own_bounds" zM
 a6B:FA K mg "bound_between" EH
 a6b:FA K mg "plan_of" DZ
 a6m:FA K mg "kept_by_rise" Dx
 Ro:FA K mg "kept_by_fall" zN
 a5Z:FA K mg "ticks_of" Dj
 a6E:FA K mg "are_enough" Ez
 a61:FA K mg "step_entry" Ey
 a68:FA K mg "reach_behind_first" Dy
 a66:FA K mg "show_fraction" Du
 a63:FA K mg "show_numbers" Dq
 a65:FA K mg "show_item" Dr
 a64:FA K mg "show_items" Dt
 a67:FA K mg "show_entry" Dv
 a6n:FA K mg "item_in" Ej
 a6e:FA K mg "numbers_in" E4
 a6f:FA K mg "number_in" E7
 a6N:FA K mg "answer_hold" EY
 a6O:FA K mg "answer_go" EZ
 a6P:FA K mg "answer_drop" tR
 a6L:FA K mg "answer_place" EV
 a6J:FA K mg "answer_square" ET
 a6H:FA K mg "answer_stop" EO
 a6F:FA K mg "answer_waits" EM
 a6K:FA K mg "answer_plan" EU
 a6G:FA K mg "answer_tool" EN
 a6M:FA K mg "answer_mark" EW
 a6I:FA K mg "answer_state" EL
 a6d:FA K mg "only_number" E3
 a75:FA K mg "_law_bag" EJ
 a6R:FA K mg "_law_take" Dk
 a6V:FA K mg "_law_machine" Ea
 a6T:FA K mg "_law_place" E1
 a6U:FA K mg "_law_name" E6
 a6Y:FA K mg "_law_item" Ei
 a6W:FA K mg "_law_line_from" Et
 a6X:FA K mg "_law_item_text" Ef
 a6Z:FA K mg "_law_fraction_text" Eg
 a71:FA K mg "_law_entry_text" Eh
 a76:FA K mg "_law_asked" EK
 a6S:FA K mg "_law_state_due" EA
 a73:FA K mg "_law_class" lW
 a6Q:FA K mg "_law_told" Dh
 a72:FA K mg "_law_deed" EB
 a74:FA K mg "_law_by_runner" EG
 a70:FA K mg "_law_fed" Ew
theorem a8B{P:af}{w:World}{K:aa}{mg:bD}{au:Heap}{f:Addr}{fd:FuncData}(A:All w K mg)(F:jT K "law" "law" wg f fd):eD P w K mg au gW 16 f fd ["_law_script"] (Lj K):=by
 obtain⟨gA,GA,a0,a1,a2,a3,a4,a5,a6,a7,a8,a9,a10,b1,b2,b3,b4⟩:=A.ans;obtain⟨X,EX⟩:=A.cls;obtain⟨C,D,R⟩:=A.dk;have TC:=R.tc;have tk:aB P w K mg au "_law_take" 1 lV:=YG A.a6R A.B;have cd:aB P w K mg au "common_divisor" 1 CS:=a00 A.a6A A.B;have lt:aB P w K mg au "lowest_terms" 2 tQ:=Zu A.a6j A.B cd;have iw:aB P w K mg au "is_whole" 1 (zE K):=ZD A.a6p A.B;have ww:aB P w K mg au "is_whole_within" 2 (lU K):=Yz A.a6o A.B iw;have fn:aB P w K mg au "fraction" 3 (tP K):=ZP A.a6y A.B iw lt;have ld:aB P w K mg au "lead_of" 1 (nk K):=ZA A.a6l A.B;have ls:aB P w K mg au "is_less" 1 (zC K):=Zx A.a6v A.B;have cp:aB P w K mg au "corner_square" 6 (CT K):=ZY A.a6z A.B (YB A.a6x A.B (YA A.a5W A.B ld fn) (Zs A.a6i A.B lt) ls) fn;have Q7:aB P w K mg au "is_rate" 3 (zx K):=ZG A.a6r A.B A.a5w A.a5y ww;have tp:aB P w K mg au "top_square" 4 (zu K):=YC A.a5X A.B Q7 fn;have uG:aB P w K mg au "is_line" 1 (oX K):=ZH A.Rp A.B;have lst:aB P w K mg au "least" 2 (kF K):=Zz A.a6k A.B ls;have SK:aB P w K mg au "bound_between" 7 (zH K):=a02 A.a6B A.B A.uN uG tp cp lst;have own:aB P w K mg au "own_bounds" 8 (CK K):=Zk A.Rm A.B A.uN SK;have pw:aB P w K mg au "plus_whole" 4 (tO K):=Zf A.a69 A.B (Zg A.a6a A.B lt);have pl:aB P w K mg au "plan_of" 9 (zy K):=Zh A.a6b A.B own (Z4 A.a6m A.B uG ld pw lst) (ZS A.Ro A.B uG ld pw lst);have nr:aB P w K mg au "nearest" 1 CN:=Zo A.a6g A.B;have KH:aB P w K mg au "stand_at" 2 (zv K):=YH A.a62 A.B ld nr;have sr:aB P w K mg au "step_rows" 3 (Cw K):=Z0 A.a60 A.B ld KH;have ent:aB P w K mg au "step_entry" 3 (CQ K):=ZT A.a61 A.B (YF A.a5Z A.B (ZU A.a6E A.B));have Q3:aB P w K mg au "is_item" 4 (zD K):=ZN A.a6w A.B A.a5x ww (a0a A.a6C A.B A.a5q ww) (ZJ A.a6q A.B A.a5s A.a5n ww (ZL A.a6t A.B A.a5u A.a5v));have Q5:aB P w K mg au "is_place" 3 (zF K):=ZK A.a6s A.B ww;have P6:aB P w K mg au "moved" 1 (zB K):=Zr A.a6h A.B;have Jd:aB P w K mg au "place_behind" 2 (vZ K):=a03 A.a6c A.B uG P6;have Vb:aB P w K mg au "times" 3 (qE (·*·) K):=YE A.a5Y A.B lt;have Xg:aB P w K mg au "reach_behind_first" 9 (Cy K):=Ze A.a68 A.B (Zj A.Rm A.B A.uN SK) (ZR A.Ro A.B uG ld pw lst);have wy:=Z7 (P:=P) (w:=w) (mg:=mg) (au:=au) R.a1I TC;have zU:=YX (P:=P) (w:=w) (au:=au) R.a1B TC A.uN;have Fm:=Z6 R.a1J TC wy zU;have NO:=Z3 R.a1G TC Jd;have NT:=Z9 R.a1M TC A.B A.a5o Q3 Q5 Jd NO;have X4:=Z1 R.a1F TC pw Vb fn lst wy;have ref:=Zc R.a1P TC Jd;have WV:=YW R.a1A TC A.B ld sr tp Xg ent Fm X4 ref;have Xb:=Za R.a1N TC uG WV ref;have NU:=Zb R.a1O TC A.B Fm Xb;have Ff:=YV (P:=P) (w:=w) (mg:=mg) (au:=au) R.a1z TC;have NR:=Z5 R.a1K TC Ff wy;have NS:=Z8 (P:=P) (w:=w) (au:=au) R.a1L TC A.B;have Fg:=YZ R.a1E TC P6 KH;have zQ:=YR (P:=P) (w:=w) (au:=au) R.a1w TC A.B;have NI:=YU (P:=P) (w:=w) (mg:=mg) (au:=au) R.a1C TC;have NJ:=YY (P:=P) (w:=w) (mg:=mg) (au:=au) R.a1D TC;have NG:=YS (P:=P) (w:=w) (mg:=mg) (au:=au) R.a1y TC;have NN:=Z2 (P:=P) (w:=w) (mg:=mg) (au:=au) R.a1H TC;have im:aB P w K mg au "is_machine" 4 (vY ko K):=ZM A.a6u A.B A.a5p A.a5z ww (a0b A.a6D A.B A.a5B A.a5t ww);have zW:=Zd R.a1Q TC A.B EX.m Fm Fg;have NH:=YT R.a1x TC EX.r EX.m Q7 zU;have G9:aB P w K mg au "number_in" 1 vX:=Zn A.a6f A.B A.a5A;have nsi:aB P w K mg au "numbers_in" 2 (CM K):=Zm A.a6e A.B G9;have iti:aB P w K mg au "item_in" 5 (CO K):=ZE A.a6n A.B G9 nsi Q3;have CW:=YK (P:=P) (w:=w) (au:=au) A.a63 A.B;have LG:=YL A.a65 A.B (ZI A.Rp A.B) CW;have Wc:=YM (P:=P) (w:=w) (au:=au) A.a64 A.B LG;have D5:=YN (P:=P) (w:=w) (au:=au) A.a66 A.B;have lit:=Zv (P:=P) (w:=w) (au:=au) A.a6X A.B;have PF:=Zw (P:=P) (w:=w) (au:=au) A.a6Z A.B;have len:=Zy A.a71 A.B lit PF;have Ae:=Zl A.a6d A.B G9;have VX:=YI R.WA R.td TC A.B A.a5r A.Ie Ae ww (YO A.a67 A.B LG CW D5) NU;have VY:=YJ R.WB R.td TC A.B Ae NH;have hW:∀v:Wd,∃fn,PySem.W.nsIn K gA v.txt=some (mg fn)/\qp P w K mg au fn 10 (jF K C X.c5 v):=λv=>by cases v with |place=>exact⟨_,a0.1,(a0e A.a6L A.B TC CW Fg).d.le az⟩ |square=>exact⟨_,a1.1,(a0c A.a6J A.B TC D5 NI).d.le az⟩ |stop=>exact⟨_,a2.1,(a08 A.a6H A.B TC Ff).d.le az⟩ |vK=>exact⟨_,a3.1,(a06 A.a6F A.B TC A.Ie Wc zQ).d.le az⟩ |qR=>exact⟨_,a4.1,(a0d A.a6K A.B TC pl D5 zQ NJ).d.le az⟩ |qA=>exact⟨_,a5.1,(a07 A.a6G A.B TC NG).d.le az⟩ |mark=>exact⟨_,a6.1,(a0f A.a6M A.B TC A.Ie NN).d.le az⟩ |state=>exact⟨_,a7.1,(a05 A.a6I A.B TC wy zU).d.le az⟩ |hold=>exact⟨_,a8.1,(a0g A.a6N A.B TC NR).d.le az⟩ |go=>exact⟨_,a9.1,(a0h A.a6O A.B TC NS).d.le az⟩ |drop=>exact⟨_,a10.1,(a0i A.a6P A.B TC zW).le az⟩
 have say:=YQ R.say R.td TC A.B GA ⟨b1,b2,a5.2,a6.2,b3,b4⟩ hW iti VX VY NT;have cls:=ZZ (P:=P) (w:=w) (au:=au) A.a73 A.B EX.n;have ask:=a09 A.a76 A.B R.td say.n;have due:=ZV A.a6S A.B TC lit PF pl zQ NJ Fg NI Ff NG NN wy zU;have told:=YD A.a6Q A.B R.td EX say cls;have byr:=a01 A.a74 A.B TC EX len NU NH NR NS zW cls;have itl:=ZF A.a6Y A.B tk (Zq A.a6U A.B tk);have sj:=ZQ A.a70 A.B R.td TC tk itl (ZO A.a6W A.B tk) lit NO zQ NT say.n;exact ZC F A.B R.td TC (a04 A.a75 A.B) tk (Zt A.a6V A.B tk) (Zi A.a6T A.B tk) (ZX A.a72 A.B tk) (ZW R.a7E R.td im Q5 (OI R.init TC A.uN A.QT)) (OI R.init TC A.uN A.QT) ask due sj told byr
end _b
end
set_option maxHeartbeats 1000000
set_option exponentiation.threshold 6000
def PySem.W.Fast.tw9336767466919772064:PySem.Program:=PySem.Challenge.pw_glidequeue_k56_asked_at_a_desk
theorem PySem.W.Fast.te9336767466919772064:PySem.Challenge.pw_glidequeue_k56_asked_at_a_desk=PySem.W.Fast.tw9336767466919772064:=rfl
def PySem.W.Fast.tw12544306053736075689:Nat:=0
def PySem.W.Fast.tw15601225752959538550:Nat:=0
def PySem.W.Fast.tw14850297542311863081:Nat:=0
def PySem.W.Fast.tw13414101626227541186:Nat:=0
def PySem.W.Fast.tw13775196962391692235:Nat:=0
def PySem.W.Fast.tw1293044742560601228:Nat:=0
def PySem.W.Fast.tw2716939926459757164:Nat:=0
def PySem.W.Fast.tw12598922813399271469:Nat:=0
def PySem.W.Fast.tw11968071504133558107:Nat:=0
def PySem.W.Fast.tw3211333539451805732:Nat:=0
def PySem.W.Fast.tw14451455880143347585:Nat:=0
def PySem.W.Fast.tw3487486635545928942:Nat:=0
def PySem.W.Fast.tw31349078843444799:Nat:=0
def PySem.W.Fast.tw2200588368175104123:Nat:=0
def PySem.W.Fast.tw2151112154749947213:Nat:=0
def PySem.W.Fast.tw6105650851929647752:Nat:=0
def PySem.W.Fast.tw3071632996955330049:Nat:=0
def PySem.W.Fast.tw17065236031132396949:Nat:=0
def PySem.W.Fast.tw17736066629711428141:Nat:=0
def PySem.W.Fast.tw7080797552560095799:Nat:=0
def PySem.W.Fast.tw6954245104496420328:Nat:=0
def PySem.W.Fast.tw13677440650738923275:Nat:=0
def PySem.W.Fast.tw16716919241834159608:Nat:=0
def PySem.W.Fast.tw5920504206966745111:Nat:=0
def PySem.W.Fast.tw3286264844084919521:Nat:=0
def PySem.W.Fast.tw12845333430703045764:Nat:=0
def PySem.W.Fast.tw17197788266250321777:Nat:=0
def PySem.W.Fast.tw14500643993123536794:Nat:=0
def PySem.W.Fast.tw12000091736623967539:Nat:=0
def PySem.W.Fast.tw12682839713000802507:Nat:=0
def PySem.W.Fast.tw10567399544463497705:Nat:=0
def PySem.W.Fast.tw4800982640610284379:Nat:=0
def PySem.W.Fast.tw9347626274609597307:Nat:=0
def PySem.W.Fast.tw9565629720090394272:Nat:=0
def PySem.W.Fast.tw10065668965794730650:Nat:=0
def PySem.W.Fast.tw4193175826625418507:Nat:=0
def PySem.W.Fast.tw6775314494110945562:Nat:=0
def PySem.W.Fast.tw4954487729245541066:Nat:=0
def PySem.W.Fast.tw14383398005149824871:Nat:=0
def PySem.W.Fast.tw16067794256440844875:Nat:=0
def PySem.W.Fast.tw12579744776536200361:Nat:=0
def PySem.W.Fast.tw10721501641337012378:Nat:=0
def PySem.W.Fast.tw15942743686201406088:Nat:=0
def PySem.W.Fast.tw5232881712864020491:Nat:=0
def PySem.W.Fast.tw6513211749802853986:Nat:=0
def PySem.W.Fast.tw6932736130614408426:Nat:=0
def PySem.W.Fast.tw9356596746582273126:Nat:=0
def PySem.W.Fast.tw14688602213558997252:Nat:=0
def PySem.W.Fast.tw17839961071965002082:Nat:=0
def PySem.W.Fast.tw11829750726147092372:Nat:=0
def PySem.W.Fast.tw14891219642279961236:Nat:=0
def PySem.W.Fast.tw14290193396772569539:Nat:=0
def PySem.W.Fast.tw1243904596672095492:Nat:=0
def PySem.W.Fast.tw1954242124711951531:Nat:=0
def PySem.W.Fast.tw14222393476702480084:Nat:=0
def PySem.W.Fast.tw4735154673995368599:Nat:=0
def PySem.W.Fast.tw4691055484936153005:Nat:=0
def PySem.W.Fast.tw153146664650693929:Nat:=0
def PySem.W.Fast.tw6289503761201941475:Nat:=0
def PySem.W.Fast.tw1076014440035996882:Nat:=0
def PySem.W.Fast.tw10983187141302144362:Nat:=0
def PySem.W.Fast.tw9084844109636733040:Nat:=0
def PySem.W.Fast.tw14849953559034332341:Nat:=0
def PySem.W.Fast.tw12406744084189462495:Nat:=0
def PySem.W.Fast.tw9262316839703412319:Nat:=0
def PySem.W.Fast.tw14094259274832183281:Nat:=0
def PySem.W.Fast.tw9666818871206483259:Nat:=0
def PySem.W.Fast.tw1691479047801339902:Nat:=0
def PySem.W.Fast.tw10138237215525178858:Nat:=0
def PySem.W.Fast.tw3797761875143265570:Nat:=0
def PySem.W.Fast.tw4238954618824031689:Nat:=0
def PySem.W.Fast.tw13036070976847243393:Nat:=0
def PySem.W.Fast.tw14678341542171521410:Nat:=0
def PySem.W.Fast.tw3367753949911751474:Nat:=0
def PySem.W.Fast.tw4551841839792738476:Nat:=0
def PySem.W.Fast.tw6755944518339310802:Nat:=0
def PySem.W.Fast.tw16898185220918524728:Nat:=0
def PySem.W.Fast.tw11481336002286635640:Nat:=0
def PySem.W.Fast.tw9763205373918960389:Nat:=0
def PySem.W.Fast.tw12089572346988194774:Nat:=0
def PySem.W.Fast.tw3096359945536104026:Nat:=0
def PySem.W.Fast.tw17374674698108747723:Nat:=0
def PySem.W.Fast.tw14064015487756969480:Nat:=0
def PySem.W.Fast.tw7014580819120250338:Nat:=0
def PySem.W.Fast.tw4488553665806217819:Nat:=0
def PySem.W.Fast.tw4600544898441711816:Nat:=0
def PySem.W.Fast.tw13901672294322977207:Nat:=0
def PySem.W.Fast.tw10665962815256541205:Nat:=0
def PySem.W.Fast.tw13456914801890997417:Nat:=0
def PySem.W.Fast.tw6555526175788462724:Nat:=0
def PySem.W.Fast.tw4178932939153821021:Nat:=0
def PySem.W.Fast.tw17346388864470046417:Nat:=0
def PySem.W.Fast.tw9186702599012633918:Nat:=0
def PySem.W.Fast.tw18078008775345010991:Nat:=0
def PySem.W.Fast.tw7993704743078562514:Nat:=0
def PySem.W.Fast.tw13694338079882414883:Nat:=0
def PySem.W.Fast.tw16793484152861642325:Nat:=0
def PySem.W.Fast.tw10646852183941784716:Nat:=0
def PySem.W.Fast.tw13453165970562077404:Nat:=0
def PySem.W.Fast.tw3566080893982059561:Nat:=0
def PySem.W.Fast.tw12708883220076850738:Nat:=0
def PySem.W.Fast.tw12492023143736476700:Nat:=0
def PySem.W.Fast.tw8501147297328746592:Nat:=0
def PySem.W.Fast.tw2440020929884308091:Nat:=0
def PySem.W.Fast.tw6192381897737263832:Nat:=0
def PySem.W.Fast.tw8253957627184902267:Nat:=0
def PySem.W.Fast.tw6436420024845350739:Nat:=0
def PySem.W.Fast.tw8218896436575497467:Nat:=0
def PySem.W.Fast.tw18262093628208686737:Nat:=0
def PySem.W.Fast.tw8759353155040222935:Nat:=0
def PySem.W.Fast.tw18415541761456884690:Nat:=0
def PySem.W.Fast.tw2235506536856598857:Nat:=0
def PySem.W.Fast.tw1849738771959966727:Nat:=0
def PySem.W.Fast.tw6758097254773555588:Nat:=0
def PySem.W.Fast.tw1288582873327949792:Nat:=0
def PySem.W.Fast.tw14515459328121647911:Nat:=0
def PySem.W.Fast.tw240383545167401638:Nat:=0
def PySem.W.Fast.tw12674579409977451845:Nat:=0
def PySem.W.Fast.tw717581445119125989:Nat:=0
open PySem PySem.W PyProof.Rows
set_option maxRecDepth 100000 in
set_option maxHeartbeats 0 in
theorem PySem.Challenge.cw_glidequeue_k56_asked_at_a_desk_holds : PySem.Challenge.rw_glidequeue_k56_asked_at_a_desk.Holds := by
 w_on; o_law; k_head; (case hw=>w_witness2)
 k_fill
 refine _L.a2d (l:=PySem.Challenge.rw_glidequeue_k56_asked_at_a_desk) (k:=16) (x:="_law_script") (st:=_b.wg) rfl rfl ⟨rfl,by decide,by decide⟩ (fun w h Y=>PySem.W.kIn_of Y) _b.All ?F (fun _ _ _ A=>A.law) (fun _ _ _ _ _ _ _=>rfl) (fun _ _ _ _ _ _ _ A F=>_b.a8B A F)
 case F=>
  intro w mg h KX G
  refine⟨_L.a8m KX G ?b,?t1,?t2,?t3,?gi0,?gi1,?gi2,?gi3,?gi4,?gi5,?gi6,?gi7,?gi8,?gi9,?gi10,?gi11,?gs0,?gs1,?gs2,?an,?cl,?dk,?fl,?ff0,?ff1,?ff2,?ff3,?ff4,?ff5,?ff6,?ff7,?ff8,?ff9,?ff10,?ff11,?ff12,?ff13,?ff14,?ff15,?ff16,?ff17,?ff18,?ff19,?ff20,?ff21,?ff22,?ff23,?ff24,?ff25,?ff26,?ff27,?ff28,?ff29,?ff30,?ff31,?ff32,?ff33,?ff34,?ff35,?ff36,?ff37,?ff38,?ff39,?ff40,?ff41,?ff42,?ff43,?ff44,?ff45,?ff46,?ff47,?ff48,?ff49,?ff50,?ff51,?ff52,?ff53,?ff54,?ff55,?ff56,?ff57,?ff58,?ff59,?ff60,?ff61,?ff62,?ff63,?ff64,?ff65,?ff66,?ff67,?ff68,?ff69,?ff70,?ff71,?ff72,?ff73,?ff74,?ff75⟩
  case b=>(unfold _L.BA; repeat (refine _L.qo.cons ?z ?_; (case z=>k_is))); exact _L.qo.nil
  case t1=>refine' _L.Ia KX G ?a ?l ?z ?r; (case a=>k_is); (case l=>k_is); (case z=>decide); (case r=>exact .cons ⟨_,rfl⟩ (.cons ⟨_,rfl⟩ .nil))
  case t2=>refine' _L.Ia KX G ?a ?l ?z ?r; (case a=>k_is); (case l=>k_is); (case z=>decide); (case r=>exact .cons ⟨_,rfl⟩ (.cons ⟨_,rfl⟩ .nil))
  case t3=>refine' _L.Ia KX G ?a ?l ?z ?r; (case a=>k_is); (case l=>k_is); (case z=>decide); (case r=>exact .cons ⟨_,rfl⟩ (.cons ⟨_,rfl⟩ .nil))
  case gi0=>(refine' _L.kz KX G ?z; (case z=>k_is))
  case gi1=>(refine' _L.kz KX G ?z; (case z=>k_is))
  case gi2=>(refine' _L.kz KX G ?z; (case z=>k_is))
  case gi3=>(refine' _L.kz KX G ?z; (case z=>k_is))
  case gi4=>(refine' _L.kz KX G ?z; (case z=>k_is))
  case gi5=>(refine' _L.kz KX G ?z; (case z=>k_is))
  case gi6=>(refine' _L.kz KX G ?z; (case z=>k_is))
  case gi7=>(refine' _L.kz KX G ?z; (case z=>k_is))
  case gi8=>(refine' _L.kz KX G ?z; (case z=>k_is))
  case gi9=>(refine' _L.kz KX G ?z; (case z=>k_is))
  case gi10=>(refine' _L.kz KX G ?z; (case z=>k_is))
  case gi11=>(refine' _L.kz KX G ?z; (case z=>k_is))
  case gs0=>(refine' _L.HZ KX G ?z; (case z=>k_is))
  case gs1=>(refine' _L.HZ KX G ?z; (case z=>k_is))
  case gs2=>(refine' _L.HZ KX G ?z; (case z=>k_is))
  case an=>
   refine' ⟨_,_L.a5j KX G ?ga ?gl ?gk ?go,_b.lH KX G ?e1x0 ?e2x0,_b.lH KX G ?e1x1 ?e2x1,_b.lH KX G ?e1x2 ?e2x2,_b.lH KX G ?e1x3 ?e2x3,_b.lH KX G ?e1x4 ?e2x4,_b.lH KX G ?e1x5 ?e2x5,_b.lH KX G ?e1x6 ?e2x6,_b.lH KX G ?e1x7 ?e2x7,_b.lH KX G ?e1x8 ?e2x8,_b.lH KX G ?e1x9 ?e2x9,_b.lH KX G ?e1x10 ?e2x10,?na0,?na1,?na2,?na3⟩
   case ga=>k_is
   case gl=>k_is
   case go=>decide
   case e1x0=>k_is
   case e2x0=>k_is
   case e1x1=>k_is
   case e2x1=>k_is
   case e1x2=>k_is
   case e2x2=>k_is
   case e1x3=>k_is
   case e2x3=>k_is
   case e1x4=>k_is
   case e2x4=>k_is
   case e1x5=>k_is
   case e2x5=>k_is
   case e1x6=>k_is
   case e2x6=>k_is
   case e1x7=>k_is
   case e2x7=>k_is
   case e1x8=>k_is
   case e2x8=>k_is
   case e1x9=>k_is
   case e2x9=>k_is
   case e1x10=>k_is
   case e2x10=>k_is
   case gk=>
    show KeysLit _ (_::_)
    repeat (first | exact trivial | refine And.intro ⟨_,_,rfl,rfl⟩ ?_)
   case na0 | na1 | na2 | na3=>k_is
  case cl=>
   refine' _b.a7X KX G ?ag ?qg ?h0 ?h1 ?h2 ?h3 ?h4 ?h5 ?h6 ?h7 ?h8 ?h9 ?h10 ?vv ?q1 ?q5 ?kat ⟨?kak1,?kak2,?kak3,?kak4,?kak5,?kak6,?kak7,?kak8⟩ ?kai0 ?kai1 ?kai2 ?kai3 ?kai4 ?kai5 ?kai6 ?kai7 ?kai8 ?kai9 ?kai10 ?kav ?kbt ⟨?kbk1,?kbk2,?kbk3,?kbk4,?kbk5,?kbk6,?kbk7,?kbk8⟩ ?kbi0 ?kbi1 ?kbi2 ?kbi3 ?kbi4 ?kbi5 ?kbi6 ?kbi7 ?kbi8 ?kbi9 ?kbi10 ?kbv
   case ag | h0 | h1 | h2 | h3 | h4 | h5 | h6 | h7 | h8 | h9 | h10 | vv=>k_is
   case qg | q1 | q5=>k_exc
   case kat=>(show PySem.W.mroIn _ _ _=_; k_is)
   case kbt=>(show PySem.W.mroIn _ _ _=_; k_is)
   case kak1 | kak2 | kak3 | kak4 | kak5 | kak6 | kak7 | kak8 | kbk1 | kbk2 | kbk3 | kbk4 | kbk5 | kbk6 | kbk7 | kbk8=>k_is
   case kai0 | kai1 | kai2 | kai3 | kai4 | kai5 | kai6 | kai7 | kai8 | kai9 | kai10 | kbi0 | kbi1 | kbi2 | kbi3 | kbi4 | kbi5 | kbi6 | kbi7 | kbi8 | kbi9 | kbi10 | kav | kbv=>kit_is
  case dk=>
   refine' ⟨_,_,_b.TK.mk (_b.cU.mk (_L.gU.mk ?pg ?hd ?po ?sa) ?n1 ?n2 ?n3 ?n4 ?n5 ?n6 ?n7 ?n8 ?n9) (_L.SA KX G ?aC ?mk ?kc ?ia ?iii ?il ?ic ?ik) (_L.fG ?a0 ?i0 ?l0 ?c0 ?k0) (_L.fG ?a1 ?i1 ?l1 ?c1 ?k1) (_L.fG ?a2 ?i2 ?l2 ?c2 ?k2) (_L.fG ?a3 ?i3 ?l3 ?c3 ?k3) (_L.fG ?a4 ?i4 ?l4 ?c4 ?k4) (_L.fG ?a5 ?i5 ?l5 ?c5 ?k5) (_L.fG ?a6 ?i6 ?l6 ?c6 ?k6) (_L.fG ?a7 ?i7 ?l7 ?c7 ?k7) (_L.fG ?a8 ?i8 ?l8 ?c8 ?k8) (_L.fG ?a9 ?i9 ?l9 ?c9 ?k9) (_L.fG ?a10 ?i10 ?l10 ?c10 ?k10) (_L.fG ?a11 ?i11 ?l11 ?c11 ?k11) (_L.fG ?a12 ?i12 ?l12 ?c12 ?k12) (_L.fG ?a13 ?i13 ?l13 ?c13 ?k13) (_L.fG ?a14 ?i14 ?l14 ?c14 ?k14) (_L.fG ?a15 ?i15 ?l15 ?c15 ?k15) (_L.fG ?a16 ?i16 ?l16 ?c16 ?k16) (_L.fG ?a17 ?i17 ?l17 ?c17 ?k17) (_L.fG ?a18 ?i18 ?l18 ?c18 ?k18) (_L.fG ?a19 ?i19 ?l19 ?c19 ?k19) (_L.fG ?a20 ?i20 ?l20 ?c20 ?k20) (_b.mR.mk (_L.gU.mk ?dpg ?dhd ?dpo ?dsa) ?d1 ?d2) (_L.SA KX G ?daC ?dmk ?dkc ?dia ?dii ?dil ?dic ?dik) (_L.fG ?sa0 ?si0 ?sl0 ?sc0 ?sk0) (_L.fG ?sa1 ?si1 ?sl1 ?sc1 ?sk1) (_L.fG ?sa2 ?si2 ?sl2 ?sc2 ?sk2)⟩
   (case aC=>k_is)
   (case daC=>k_is)
   case n1 | n2 | n3 | n4 | n5 | n6 | n7 | n8 | n9 | d1 | d2=>(unfold _L.gL; k_is)
   case pg | hd | po | sa | mk | kc | ia | iii | il | ic | ik | dpg | dhd | dpo | dsa | dmk | dkc | dia | dii | dil | dic | dik | sa0 | si0 | sl0 | sc0 | sk0 | sa1 | si1 | sl1 | sc1 | sk1 | sa2 | si2 | sl2 | sc2 | sk2 | a0 | i0 | l0 | c0 | k0 | a1 | i1 | l1 | c1 | k1 | a2 | i2 | l2 | c2 | k2 | a3 | i3 | l3 | c3 | k3 | a4 | i4 | l4 | c4 | k4 | a5 | i5 | l5 | c5 | k5 | a6 | i6 | l6 | c6 | k6 | a7 | i7 | l7 | c7 | k7 | a8 | i8 | l8 | c8 | k8 | a9 | i9 | l9 | c9 | k9 | a10 | i10 | l10 | c10 | k10 | a11 | i11 | l11 | c11 | k11 | a12 | i12 | l12 | c12 | k12 | a13 | i13 | l13 | c13 | k13 | a14 | i14 | l14 | c14 | k14 | a15 | i15 | l15 | c15 | k15 | a16 | i16 | l16 | c16 | k16 | a17 | i17 | l17 | c17 | k17 | a18 | i18 | l18 | c18 | k18 | a19 | i19 | l19 | c19 | k19 | a20 | i20 | l20 | c20 | k20=>k_is
  all_goals (refine' _L.a5V KX G ?a ?l ?c ?k; (case a=>k_is); (case l=>k_is); (case c=>k_is); (case k=>k_is))
#print axioms PySem.Challenge.cw_glidequeue_k56_asked_at_a_desk_holds
