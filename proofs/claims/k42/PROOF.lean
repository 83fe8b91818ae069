import PyProof.Rows.All
import Wide.All
import OpenK.AllK
import Wide.FinOn
import Lean
import PyProof.EqAt
import PyProof.EqKinds
import PyProof.TupleCall
import PySem.Challenge.RW_glidequeue_k42_dropped
set_option Elab.async false
set_option linter.all false
set_option maxRecDepth 100000
theorem aB{p:Prop}(h:p:=by decide):p:=h
theorem aY{p:Prop}(h:p:=by decide+kernel):p:=h
theorem aw {p:Prop} (h:p:=by lia):p:=h
theorem dM{p:Prop}(h:p:=by omega):p:=h
theorem Z {α : Sort _} {a : α}:a=a:=rfl
abbrev aa:=PySem.W.Frag
abbrev ae:=PySem.Shared
abbrev ah:=PySem.Program
abbrev ai:=PySem.PyData
abbrev aj:=PySem.Around
abbrev aV:=@PySem.wpAny_bind
abbrev bp:=@if_pos
abbrev bu:=@if_neg
abbrev bM:=@List.mem_cons
abbrev bR:=@Nat.le_refl
abbrev bU:=@List.mem_singleton
abbrev cu:=@List.getElem?_eq_getElem
abbrev cw:=@PySem.intBits_le_64
abbrev cA:=@PySem.wpAny_pure
abbrev cB:=@List.length_map
abbrev cH:=@List.getElem?_map
abbrev cI:=@PySem.Heap.get?_push_of_some
abbrev cJ:=@PySem.Heap.lt_size
abbrev cL:=@List.not_mem_nil
abbrev cR:=@decide_eq_true
abbrev dv:=@or_false
abbrev dQ:=@List.getElem?_eq_some_iff
abbrev eg:=@Option.some.inj
abbrev eu:=@Ne.symm
abbrev eV:=@Rat.le_trans
abbrev fb:=@decide_eq_false
abbrev fe:=@List.size_toArray
abbrev fq:=@PySem.Heap.get?_push_size
abbrev fy:=@List.length_append
abbrev fE:=@Bool.and_eq_true
abbrev fR:=@Nat.ne_of_lt
abbrev fY:=@PyProof.Rows.boot_tuple
abbrev fZ:=@Int.pow_succ
abbrev g9:=@Int.natAbs_mul
abbrev gh:=@beq_iff_eq
abbrev gj:=@Nat.zero_le
abbrev gB:=@Nat.lt_of_lt_of_le
abbrev gO:=@Int.le_refl
abbrev gX:=@List.mem_of_getElem?
abbrev iA:=@PySem.PassesOwn.never
abbrev iQ:=@Nat.le_trans
abbrev iR:=@List.mem_cons_of_mem
abbrev iS:=@PySem.IntMulOk.of_bits
abbrev iT:=@Int.mul_pos
abbrev j7:=@List.all_eq_true
abbrev jk:=@List.lookup_cons
abbrev jH:=@PySem.wpAny_field
abbrev jI:=@Int.mul_nonneg
abbrev jY:=@PySem.wpAny_mono
abbrev jZ:=@of_decide_eq_true
abbrev ka:=@List.mem_map
abbrev kI:=@List.length_cons
abbrev kJ:=@Bool.true_and
abbrev kK:=@Bool.false_ne_true
abbrev lg:=@PyProof.Rows.boot_list
abbrev lj:=@Int.one_mul
abbrev lB:=@Bool.false_and
abbrev lZ:=@List.mem_append_right
abbrev m3:=@List.getElem?_eq_none
abbrev m4:=@Int.pow_zero
abbrev mZ:=@Nat.mul_le_mul
abbrev oN:=@List.nodup_cons
abbrev oO:=@List.mem_filterMap
abbrev oP:=@List.map_cons
abbrev oQ:=@List.map_append
abbrev oS:=@List.length_take
abbrev oT:=@Int.emod_nonneg
abbrev oU:=@Bool.eq_iff_iff
abbrev qx:=@PySem.wpAny_truthy_bool
abbrev qy:=@PySem.wpAny_newObj_type
abbrev qz:=@not_or
abbrev qA:=@Rat.le_refl
abbrev qB:=@PyProof.Rows.boot_str
abbrev qC:=@PyProof.Rows.boot_abs
abbrev qD:=@Nat.lt_of_le_of_lt
abbrev qE:=@Nat.lt_irrefl
abbrev qF:=@List.take_succ
abbrev qG:=@List.mem_iff_getElem?
abbrev tj:=@decide_eq_true_iff
abbrev tm:=@Rat.num_divInt_den
abbrev tD:=@PyProof.Rows.boot_all
abbrev tE:=@Nat.pow_le_pow_right
abbrev tF:=@List.ext_getElem?
abbrev tG:=@Int.mul_assoc
abbrev tH:=@Int.emod_lt_of_pos
abbrev tI:=@PySem.Heap.size_push
abbrev vp:=@PySem.wpAny_seqItems
abbrev vq:=@PySem.wpAny_holding
abbrev vt:=@if_true
abbrev vv:=@PySem.mem_of_lookup
abbrev vw:=@PyProof.Rows.boot_isinstance
abbrev vx:=@List.take_length
abbrev vy:=@List.mem_append
abbrev vz:=@List.length_set
abbrev vB:=@List.getElem_range
abbrev vF:=@List.any_cons
abbrev xT:=@PySem.wpAny_passesOwn
abbrev xU:=@PySem.call_meets
abbrev xV:=@Rat.divInt_nonneg_iff_of_pos_right
abbrev xW:=@PySem.W.mg_of
abbrev xX:=@PyProof.Rows.callWith_type1
abbrev xY:=@List.getElem?_zip_eq_some
abbrev xZ:=@List.getElem?_append_left
abbrev y6:=@Bool.eq_false_iff
abbrev Al:=@PySem.wpAny_setField_rec
abbrev Am:=@PySem.wpAny_of_eq
abbrev An:=@PySem.wpAny_execs_nil
abbrev Ao:=@PySem.wpAny_call
abbrev Ap:=@PySem.wpAny_Call_Name_kw
abbrev Aq:=@PySem.codeAny_mono
abbrev As:=@Rat.not_lt
abbrev Au:=@PySem.F.plainAttrs_list
abbrev Av:=@List.of_mem_zip
abbrev Aw:=@List.map_set
abbrev Ax:=@List.getElem?_set_self
abbrev Ay:=@List.getElem?_append_right
abbrev Az:=@List.find?_cons
abbrev AA:=@Int.zero_mul
abbrev AB:=@PySem.Heap.get?_update_other
abbrev AD:=@Array.length_toList
abbrev DM:=@PySem.wpAny_setField
abbrev DN:=@PySem.wpAny_pyIter_list
abbrev DP:=@PySem.wpAny_onRaise
abbrev DQ:=@PySem.wpAny_call_entry
abbrev DR:=@PySem.wpAny_callSpecial?_slot
abbrev DS:=@decide_eq_true_eq
abbrev DT:=@beq_eq_false_iff_ne
abbrev DU:=@Rat.lt_iff
abbrev DV:=@Rat.le_antisymm
abbrev DW:=@PyProof.Rows.boot_max
abbrev DX:=@PySem.Obj.data_mapFields
abbrev DY:=@Nat.ne_of_gt
abbrev DZ:=@List.take_of_length_le
abbrev E1:=@List.mem_of_mem_take
abbrev E2:=@List.length_replicate
abbrev E3:=@List.length_eq_zero_iff
abbrev E4:=@List.getElem_mem
abbrev E5:=@List.getElem?_zipWith
abbrev E6:=@List.forIn_cons
abbrev E7:=@List.append_nil
abbrev E8:=@Int.mul_le_mul
abbrev E9:=@Int.le_of_lt
abbrev Ea:=@Array.toList_append
abbrev Lk:=@PySem.wpAny_pyIter_rangeiter
abbrev Ll:=@PySem.codeAmong.eq_def
abbrev Lm:=@beq_self_eq_true
abbrev Lo:=@Std.lt_of_le_of_ne
abbrev Lp:=@Rat.num_nonneg
abbrev Lq:=@Rat.num_intCast
abbrev Lr:=@Rat.le_of_lt
abbrev Ls:=@Rat.den_intCast
abbrev Lu:=@PySem.W.hideAll_get
abbrev Lv:=@PySem.F.slot_zip_next
abbrev Lx:=@PySem.F.slot_tuple_iterator_next
abbrev Ly:=@PyProof.Rows.boot_int
abbrev Lz:=@Nat.sub_self
abbrev LB:=@Nat.lt_trans
abbrev LF:=@Nat.lt_succ_of_lt
abbrev LH:=@Nat.lt_succ_iff_lt_or_eq
abbrev LJ:=@Nat.le_of_lt
abbrev LK:=@List.set_set
abbrev LL:=@List.mem_cons_self
abbrev LM:=@List.length_pos_iff
abbrev LN:=@List.length_nil
abbrev LO:=@List.length_drop
abbrev LP:=@List.getElem?_set_ne
abbrev LQ:=@List.all_cons
abbrev LR:=@Int.mul_ne_zero
abbrev LS:=@Int.mul_le_mul_of_nonneg_right
abbrev LU:=@Int.mul_le_mul_of_nonneg_left
abbrev LV:=@Int.mul_comm
abbrev LW:=@Int.lt_or_le
abbrev LX:=@PySem.Heap.get?_update_self
abbrev LY:=@Bool.and_true
abbrev LZ:=@Array.getElem?_eq_some_iff
abbrev XD:=@PySem.wpAny_updateSeq_pair
abbrev XE:=@PySem.wpAny_pyNext_range_end
abbrev XF:=@PySem.wpAny_newFunctionEnv
abbrev XG:=@PySem.SeqAt.canLay_of_shaped
abbrev XH:=@Rat.intCast_lt_intCast
abbrev XI:=@Rat.divInt_sub_divInt
abbrev XJ:=@Rat.divInt_mul_divInt
abbrev XM:=@PySem.W.plainGet_of
abbrev XN:=@PySem.W.callWith_K
abbrev XO:=@PySem.Str.cps_append
abbrev XQ:=@PyProof.Rows.slot_tuple_getitem
abbrev XR:=@PyProof.Rows.boot_min
abbrev XS:=@PyProof.Rows.boot_bool
abbrev XT:=@PyProof.Rows.boot_any
abbrev XU:=@PySem.Obj.isFreed_of_fields
abbrev XW:=@Nat.succ_le_succ
abbrev XX:=@Nat.lt_succ_self
abbrev XY:=@List.mem_iff_getElem
abbrev XZ:=@List.mem_append_left
abbrev Y0:=@List.getElem?_replicate
abbrev Y1:=@List.foldl_append
abbrev Y2:=@List.filterMap_cons
abbrev Y3:=@Int.toNat_natCast
abbrev Y4:=@Int.natAbs_of_nonneg
abbrev Y5:=@Int.mul_nonneg_of_nonpos_of_nonpos
abbrev Y6:=@Int.lt_trichotomy
abbrev Y7:=@Int.fdiv_eq_ediv_of_nonneg
abbrev Y8:=@PySem.F.slot_range_reversed
abbrev Y9:=@Bool.not_eq_true'
abbrev ad1:=@PySem.F.entry_tuple_iterator_next
abbrev ad2:=@PySem.F.args_tuple_iterator_next_1
abbrev ad3:=@Array.all_eq_true_iff_forall_mem
namespace L2
open PySem PySem.Spec PyProof.Rows
abbrev Key:=Sum Int Str
def wU:Key->Value->Bool | .inl k,v=>Value.isInt k v | .inr x,v=>Value.isStrOf x v
def a64(w:World):Key->Int | .inl k=>hashInt k | .inr x=>hashStr w x
theorem pI:∀{k:Key}{v:Value},wU k v=true->(∃i t,k=Sum.inl i/\v=Value.int i t)\/(∃x t,k=Sum.inr x/\v=Value.str x t) | .inl i,v,h=>by obtain⟨t,e⟩:=Value.isInt_shape (k:=i) (v:=v) h;exact .inl ⟨i,t,Z,e⟩ | .inr x,v,h=>by obtain⟨t,e⟩:=Value.isStrOf_shape (x:=x) (v:=v) h;exact .inr ⟨x,t,Z,e⟩
theorem a63(i:Int)(t:Tok):wU (.inl i) (.int i t)=true:=by simp[wU,Value.isInt]
theorem a62(x:Str)(t:Tok):wU (.inr x) (.str x t)=true:=by simp[wU,Value.isStrOf]
theorem a61(a b:Int):decide ((Sum.inl a:Key)=Sum.inl b)=(a==b):=by
 by_cases e:a=b
 ·subst e;simp
 ·have h:¬(Sum.inl a:Key)=Sum.inl b:=λq=>e (Sum.inl.inj q)
  rw[fb h];exact(DT.mpr e).symm
theorem a5Y(a b:Str):decide ((Sum.inr a:Key)=Sum.inr b)=decide (a=b):=by
 by_cases e:a=b
 ·subst e;simp
 ·have h:¬(Sum.inr a:Key)=Sum.inr b:=λq=>e (Sum.inr.inj q)
  rw[fb h,fb e]
theorem a60(a:Int)(b:Str):decide ((Sum.inl a:Key)=Sum.inr b)=false:=fb (λq=>nomatch q)
theorem a5Z(a:Str)(b:Int):decide ((Sum.inr a:Key)=Sum.inl b)=false:=fb (λq=>nomatch q)
def jO(prog:ah)(w:World):PySem.KeyKind prog w Key where
 is:=wU
 hash:=a64 w
 inj:=λv a b ha hb=>by
  rcases pI ha with⟨i,t,rfl,rfl⟩|⟨x,t,rfl,rfl⟩
  ·rcases pI hb with⟨j,u,rfl,e⟩|⟨y,u,rfl,e⟩
   ·injection e with e1 _;rw[e1]
   ·exact nomatch e
  ·rcases pI hb with⟨j,u,rfl,e⟩|⟨y,u,rfl,e⟩
   ·exact nomatch e
   ·injection e with e1 _;rw[e1]
 byValue:=λk v h=>by rcases pI h with⟨i,t,rfl,rfl⟩|⟨x,t,rfl,rfl⟩<;>rfl
 pyHash:=λhv h=>by
  rcases pI hv with⟨i,t,rfl,rfl⟩|⟨x,t,rfl,rfl⟩
  ·exact wpAny_pyHash_int h
  ·exact wpAny_pyHash_str h
 eqBool:=λhu hv h=>by
  rcases pI hu with⟨i,t,rfl,rfl⟩|⟨x,t,rfl,rfl⟩
  ·rcases pI hv with⟨j,u,rfl,rfl⟩|⟨y,u,rfl,rfl⟩
   ·rw[a61]at h;exact wpAny_eqBool_int h
   ·rw[a60]at h;exact SeqAt.EqAt.int_str i t y u _ _ _ _ h
  ·rcases pI hv with⟨j,u,rfl,rfl⟩|⟨y,u,rfl,rfl⟩
   ·rw[a5Z]at h;exact SeqAt.EqAt.str_int x t j u _ _ _ _ h
   ·rw[a5Y]at h;exact wpAny_eqBool_str h
 «strs»:=λk x t v h=>by
  rcases pI h with⟨i,u,rfl,e⟩|⟨y,u,rfl,e⟩
  ·exact nomatch e
  ·injection e with e1 _
   subst e1;cases v<;>rfl
theorem a4Z(prog:ah)(w:World)(i:Int)(t:Tok):(jO prog w).is (.inl i) (.int i t)=true:=a63 i t
theorem a4Y(prog:ah)(w:World)(x:Str)(t:Tok):(jO prog w).is (.inr x) (.str x t)=true:=a62 x t
inductive V where |bw|bl (b:Bool)|int (i:Int)|str (x:Str)|xJ (b:Array UInt8)|CZ (b:UInt64)|ref (a:Addr)|ty (n:String) deriving DecidableEq
def RelV:V->Value->Prop | .bw,u=>u=Value.none | .bl b,u=>u=Value.bool b | .int i,u=>∃t,u=Value.int i t | .str x,u=>∃t,u=Value.str x t | .xJ b,u=>∃t,u=Value.bytes b t | .CZ b,u=>∃t,u=Value.float b t | .ref a,u=>u=Value.ref a | .ty n,u=>u=Value.type n
abbrev Vals:List V->List Value->Prop:=Paired RelV
theorem Vals.length{xs:List V}{us:List Value}(r:Vals xs us):xs.length=us.length:=Paired.length r
theorem Vals.get:∀{xs:List V}{us:List Value}{i:Nat}{x:V},Vals xs us->xs[i]? =some x->∃u,us[i]? =some u/\RelV x u |_,_,_,_,.nil,e=>by simp at e |_,_,0,_,.cons r _,e=>by simp at e;subst e;exact⟨_,rfl,r⟩ |_,_,i+1,x,.cons _ t,e=>by obtain⟨u,h1,h2⟩:=Vals.get (i:=i) (x:=x) t (by simpa using e);exact⟨u,by simpa using h1,h2⟩
theorem Vals.set{x:V}{u:Value}(r:RelV x u):∀{xs:List V}{us:List Value}(i:Nat),Vals xs us->Vals (xs.set i x) (us.set i u) |_,_,_,.nil=>.nil |_,_,0,.cons _ t=>.cons r t |_,_,i+1,.cons q t=>.cons q (Vals.set r i t)
theorem Vals.append:∀{xs ys:List V}{us ws:List Value},Vals xs us->Vals ys ws->Vals (xs++ys) (us++ws) |_,_,_,_,.nil,s=>s |_,_,_,_,.cons r t,s=>.cons r (Vals.append t s)
theorem Vals.take:∀{xs:List V}{us:List Value}(n:Nat),Vals xs us->Vals (xs.take n) (us.take n) |_,_,0,_=>.nil |_,_,_+1,.nil=>.nil |_,_,n+1,.cons r t=>.cons r (Vals.take n t)
theorem Vals.drop:∀{xs:List V}{us:List Value}(n:Nat),Vals xs us->Vals (xs.drop n) (us.drop n) |_,_,0,r=>r |_,_,_+1,.nil=>.nil |_,_,n+1,.cons _ t=>Vals.drop n t
def jV:Option V->Option Value->Prop |some v,some u=>RelV v u |none,none=>True |_,_=>False
def KV{κ:Type}:List (κ×V)->List (κ×Value)->Prop:=Paired λ(p:κ×V)(q:κ×Value)=>p.1=q.1/\RelV p.2 q.2
def kV:Key->V | .inl i=>.int i | .inr x=>.str x
inductive HO where /--a list -/ |lst (xs:List V) /--a tuple (never changes) -/ |tup (xs:List V) /--a dict Yi keys are ints and texts; one Yi keys are tuples of ints and texts (vJ empty one is both) -/ |dK (aR:List (Key×V))|dT (aR:List (List Key×V)) /--a set of ints: its members,its size -/ |set (S:Int->Bool)(n:Nat) /--an instance of vJ class at C,its dict at dx,its attributes -/ |ins (C dx:Addr)(fs:List (Str×V)) /--vJ dict of vJ instance at x -/ |own (x:Addr) /--vJ dict of an exception -/ |xd (fs:List (Str×V)) /--a bound method,f of x -/ |met (f x:Addr) /--a range object lo,lo+1,.. below hi -/ |ub (lo hi:Int) /--a YU adi is known to vJ object (vJ EV; a dict while a loop walks it): read,never written while it is so -/ |mR (o:Obj)(u:HO) /--a code adw table -/ |fF (ps:Array Value) /--any other YU,by what is true of its one object (a def of adv own: aez a S n:=HO.ext λh=>..) -/ |ext (φ:Heap->Prop)
abbrev Hp:=Addr->Option HO
def upd(H:Hp)(a:Addr)(o:HO):Hp:=λb=>if b=a then some o else H b
theorem bf{H:Hp}{a:Addr}{o:HO}:upd H a o a=some o:=by unfold upd;rw[bp rfl]
theorem aK{H:Hp}{a b:Addr}{o:HO}(h:b≠a):upd H a o b=H b:=by unfold upd;rw[bu h]
theorem z9{H:Hp}{a b:Addr}{o u:HO}(h:H a=some o)(h':H b=some u)(d:o≠u):a≠b:=by intro e;subst e;rw[h]at h';exact d (eg h')
theorem gy{H:Hp}{a b:Addr}{o:HO}(h:H a=some o)(h':H b=none):a≠b:=by intro e;subst e;rw[h]at h';cases h'
section
variable (P:ah) (w:World)
def fW(H:Hp)(h:Heap)(a:Addr):HO->Prop | .lst xs=>xs.length<=sizeLine/\∃(its:List Value)(n:Nat),Vals xs its/\h.get? a=some {cls:=.type "list",data:=.seq its.toArray n} | .tup xs=>xs.length<=sizeLine/\∃its:List Value,Vals xs its/\IsTup h a its.toArray | .dK aR=>aR.length<=sizeLine/\(a==sysModules)=false/\∃vs,KV aR vs/\h.DictOf (jO P w) a vs | .dT aR=>aR.length<=sizeLine/\(a==sysModules)=false/\∃xs:List (List Key×Addr×Value),Paired (λ(p:List Key×V)(q:List Key×Addr×Value)=>p.1=q.1/\H q.2.1=some (.tup (p.1.map kV))/\RelV p.2 q.2.2) aR xs/\∃o es ep,h.get? a=some o/\o.ExactDict/\o.data= .dict es ep/\es.toList=xs.map (entryOfKey (tupleKind (jO P w)))/\(xs.map (·.1)).Nodup | .set S n=>h.SetOf (intKind P w) a S n | .ins C dx fs=>H dx=some (.own a)/\fs.length<=1000/\dx≠a/\h.get? a=some (PySem.W.instObj C dx)/\∃mA,h.Ns1 dx mA/\(∀f,jV (fs.lookup f) (mA f))/\PySem.Within mA (fs.map (·.1)) | .own _=>∃o,h.get? a=some o | .xd fs=>∃mA,h.Ns1 a mA/\∀f,jV (fs.lookup f) (mA f) | .ub lo hi=>∃t u v,h.get? a=some {cls:=.type "range",data:=.fields #[.int lo t,.int hi u,.int 1 v]} | .mR o u=>h.get? a=some o/\fW H h a u | .fF ps=>h.get? a=some {cls:=.none,data:=.fields ps} | .met f x=>h.get? a=some (PySem.W.methodObj (.ref f) (.ref x)) | .ext φ=>φ h/\(∃o,h.get? a=some o)/\∀h1 h2:Heap,φ h1->(∀o,h1.get? a=some o->h2.get? a=some o)->φ h2
def dZ(H:Hp)(h:Heap):Prop:=∀a o,H a=some o->fW P w H h a o
end
section
variable {P:ah}{w:World}{H H':Hp}{h h':Heap}{a:Addr}{o:HO}
theorem fW.lt(x:fW P w H h a o):a<h.objs.size:=by cases o with |lst xs=>obtain⟨_,_,_,_,e⟩:=x;exact cJ e |tup xs=>obtain⟨_,_,_,p⟩:=x;exact p.lt |dK aR=>obtain⟨_,_,_,_,o,_,_,e,_⟩:=x;exact cJ e |dT aR=>obtain⟨_,_,_,_,o,_,_,e,_⟩:=x;exact cJ e |set S n=>obtain⟨o,_,_,_,e,_⟩:=x;exact cJ e |ins C dx fs=>obtain⟨_,_,_,e,_⟩:=x;exact cJ e |own y=>obtain⟨_,e⟩:=x;exact cJ e |xd fs=>obtain⟨_,⟨_,_,_,e,_⟩,_⟩:=x;exact cJ e |ub lo hi=>obtain⟨_,_,_,e⟩:=x;exact cJ e |mR ob u=>obtain⟨e,_⟩:=x;exact cJ e |fF ps=>exact cJ (show h.get? a=some _ from x) |met f y=>exact cJ (show h.get? a=some _ from x) |ext φ=>obtain⟨_,⟨_,e⟩,_⟩:=x;exact cJ e
theorem Paired.Iz{α β:Type}{F G:α->β->Prop}:∀{l₁:List α}{l₂:List β},Paired F l₁ l₂->(∀a b,F a b->G a b)->Paired G l₁ l₂ |_,_,.nil,_=>.nil |_,_,.cons r t,f=>.cons (f _ _ r) (Paired.Iz t f)
theorem fW.mD(x:fW P w H h a o)(k:∀b u,(b=a\/H b=some (.own a))->h.get? b=some u->h'.get? b=some u) (ho:∀b,H b=some (.own a)->H' b=some (.own a))(ht:∀b xs,H b=some (.tup xs)->H' b=some (.tup xs)):fW P w H' h' a o:=by induction o with |lst xs=>obtain⟨z,its,n,r,e⟩:=x;exact⟨z,its,n,r,k _ _ (.inl Z) e⟩ |tup xs=>obtain⟨z,its,r,ob,e,c⟩:=x;exact⟨z,its,r,ob,k _ _ (.inl Z) e,c⟩ |dK aR=>obtain⟨z,y,vs,r,ob,es,ep,e,c⟩:=x;exact⟨z,y,vs,r,ob,es,ep,k _ _ (.inl Z) e,c⟩ |dT aR=>obtain⟨z,y,xs,r,ob,es,ep,e,c⟩:=x;exact⟨z,y,xs,Paired.Iz r λp q z=>⟨z.1,ht _ _ z.2.1,z.2.2⟩,ob,es,ep,k _ _ (.inl Z) e,c⟩ |set S n=>obtain⟨ob,es,ep,t,e,c⟩:=x;exact⟨ob,es,ep,t,k _ _ (.inl Z) e,c⟩ |ins C dx fs=>obtain⟨d,z,ne,e,mA,⟨od,es,ep,e2,c⟩,r⟩:=x;exact⟨ho _ d,z,ne,k _ _ (.inl Z) e,mA,⟨od,es,ep,k _ _ (.inr d) e2,c⟩,r⟩ |own y=>obtain⟨ob,e⟩:=x;exact⟨ob,k _ _ (.inl Z) e⟩ |xd fs=>obtain⟨mA,⟨od,es,ep,e,c⟩,r⟩:=x;exact⟨mA,⟨od,es,ep,k _ _ (.inl Z) e,c⟩,r⟩ |ub lo hi=>obtain⟨t,u,v,e⟩:=x;exact⟨t,u,v,k _ _ (.inl Z) e⟩ |mR ob u ih=>obtain⟨e,q⟩:=x;exact⟨k _ _ (.inl Z) e,ih q⟩ |fF ps=>have e:h.get? a=some {cls:=.none,data:=.fields ps}:=x;show h'.get? a=some {cls:=.none,data:=.fields ps};exact k a _ (.inl Z) e |met f y=>have e:h.get? a=some (PySem.W.methodObj (.ref f) (.ref y)):=x;show h'.get? a=some (PySem.W.methodObj (.ref f) (.ref y));exact k a _ (.inl Z) e |ext φ=>obtain⟨p,⟨o,e⟩,st⟩:=x;exact⟨st _ _ p λo q=>k _ _ (.inl Z) q,⟨o,k _ _ (.inl Z) e⟩,st⟩
theorem dZ.lt(x:dZ P w H h)(e:H a=some o):a<h.objs.size:=(x a o e).lt
theorem dZ.fresh(x:dZ P w H h)(e:h.objs.size<=a):H a=none:=by cases q:H a with |none=>rfl |some u=>exact absurd (gB (x.lt q) e) (qE _)
theorem dZ.kept(x:dZ P w H h)(k:∀b u,h.get? b=some u->h'.get? b=some u):dZ P w H h':=λa o e=>(x a o e).mD (λb u _ q=>k b u q) (λ_ q=>q) λ_ _ q=>q
theorem dZ.laid(x:dZ P w H h)(k:∀b u,h.get? b=some u->h'.get? b=some u)(hp:h.objs.size<=a)(new:fW P w (upd H a o) h' a o):dZ P w (upd H a o) h':=λb u e=>by
 have hn:=x.fresh hp;by_cases hb:b=a
 ·subst hb;rw[bf]at e;cases e;exact new
 ·rw[aK hb]at e
  exact(x b u e).mD (λc v _ q=>k c v q) (λc q=>by rw[aK (gy q hn)];exact q) λc xs q=>by rw[aK (gy q hn)];exact q
end
def Rd(H:Hp)(a:Addr)(u:HO):Prop:=H a=some u\/∃o,H a=some (.mR o u)
theorem Rd.ok{P:ah}{w:World}{H:Hp}{h:Heap}{a:Addr}{u:HO}(r:Rd H a u)(x:dZ P w H h):fW P w H h a u:=by
 rcases r with r|⟨o,r⟩
 ·exact x a u r
 ·obtain⟨_,q⟩:=x a _ r
  exact q
def Ac:Option HO->Prop |some (.lst _)=>True |some (.dK _)=>True |some (.dT _)=>True |some (.set _ _)=>True |some (.ins _ _ _)=>True |some (.ext _)=>True |_=>False
section
variable {P:ah}{w:World}{H:Hp}{h h':Heap}{x e:Addr}{o':HO}
theorem dZ.write(ok:dZ P w H h)(mu:Ac (H x))(he:e=x\/H e=some (.own x))(k:∀b u,b≠e->h.get? b=some u->h'.get? b=some u)(xk:∃u,h'.get? e=some u) (new:fW P w (upd H x o') h' x o'):dZ P w (upd H x o') h':=λb u q=>by
 have Qn:∀c y,H c=some (.own y)->c≠x:=λc y r z=>by subst z;rw[r]at mu;exact mu
 have a4o:∀c xs,H c=some (.tup xs)->c≠x:=λc xs r z=>by subst z;rw[r]at mu;exact mu
 by_cases hb:b=x
 ·subst hb;rw[bf]at q;cases q;exact new
 ·rw[aK hb]at q
  by_cases uQ:b=e
  ·have q':H b=some (.own x):=by
    rcases he with z|z
    ·exact absurd (uQ.trans z) hb
    ·rw[uQ];exact z
   rw[q]at q';cases q';obtain⟨v,hv⟩:=xk;exact⟨v,by rw[uQ];exact hv⟩
  ·refine(ok b u q).mD (λc v hc r=>k c v ?_ r) (λc r=>by rw[aK (Qn c b r)];exact r) λc xs r=>by rw[aK (a4o c xs r)];exact r
   rcases hc with rfl|hc
   ·exact uQ
   ·rintro rfl
    rcases he with z|z
    ·exact Qn c b hc z
    ·rw[hc]at z;cases z;exact hb rfl
end
structure Un(fs ex:List Addr)(H H':Hp)(h h':Heap):Prop where
 keep:∀b o,h.get? b=some o->H b=none->b∉fs->b∉ex->h'.get? b=some o
 slot:∀b o,h.get? b=some o->H b=none->b∈fs->b∉ex->∃sl,h'.get? b=some {o with slots:=sl}
 free:∀b o,h.get? b=some o->H b=none->b∉ex->H' b=none
 there:∀b o,h.get? b=some o->b∉ex->∃o',h'.get? b=some o'
 kL:∀b xs,H b=some (.tup xs)->H' b=some (.tup xs)
 kz:∀b o u,H b=some (.mR o u)->H' b=some (.mR o u)
 ki:∀b ps,H b=some (.fF ps)->∃more,H' b=some (.fF (ps++more))
section
variable {fs fs' ex pX:List Addr}{H H1 H2:Hp}{h h1 h2 h':Heap}{a x e:Addr}{o:HO}
theorem Un.any(u:Un fs ex H H1 h h1){b:Addr}{ob:Obj}(q:h.get? b=some ob)(n:H b=none)(hx:b∉ex):∃sl,h1.get? b=some {ob with slots:=sl}:=by
 by_cases hb:b∈fs
 ·exact u.slot b ob q n hb hx
 ·exact⟨ob.slots,u.keep b ob q n hb hx⟩
theorem Un.kept(k:∀b u,h.get? b=some u->h'.get? b=some u):Un fs ex H H h h':=⟨λb ob q _ _ _=>k b ob q,λb ob q _ _ _=>⟨ob.slots,k b ob q⟩,λ_ _ _ n _=>n,λb ob q _=>⟨ob,k b ob q⟩,λ_ _ q=>q,λ_ _ _ q=>q,λ_ ps q=>⟨#[],by rw[q];simp⟩⟩
theorem Un.refl:Un fs ex H H h h:=Un.kept λ_ _ q=>q
theorem Un.laid(k:∀b u,h.get? b=some u->h'.get? b=some u)(hp:h.objs.size<=a)(hn:H a=none):Un fs ex H (upd H a o) h h' where
 keep:=λb u q _ _ _=>k b u q
 slot:=λb u q _ _ _=>⟨u.slots,k b u q⟩
 free:=λb u q n _=>by rw[aK (fR (gB (cJ q) hp))];exact n
 there:=λb u q _=>⟨u,k b u q⟩
 kL:=λb xs q=>by rw[aK (gy q hn)];exact q
 kz:=λb u xs q=>by rw[aK (gy q hn)];exact q
 ki:=λb ps q=>⟨#[],by rw[aK (gy q hn),q];simp⟩
theorem Un.write(mu:Ac (H x))(he:e=x\/H e=some (.own x))(k:∀b u,b≠e->h.get? b=some u->h'.get? b=some u)(xk:∃u,h'.get? e=some u):Un fs ex H (upd H x o) h h':=by
 have hx:∀b,H b=none->b≠x:=λb n z=>by subst z;rw[n]at mu;exact mu
 have hb:∀b,H b=none->b≠e:=λb n z=>by
  subst z;rcases he with r|r
  ·exact hx b n r
  ·rw[n]at r;cases r
 have hm:∀b u,H b=some u->¬Ac (some u)->b≠x:=λb u q nm z=>by subst z;rw[q]at mu;exact nm mu
 refine⟨λb u q n _ _=>k b u (hb b n) q,λb u q n _ _=>⟨u.slots,k b u (hb b n) q⟩,λb u q n _=>by rw[aK (hx b n)];exact n,λb u q _=>?_,λb xs q=>by rw[aK (hm b _ q λz=>z)];exact q,λb u xs q=>by rw[aK (hm b _ q λz=>z)];exact q,λb ps q=>⟨#[],by rw[aK (hm b _ q λz=>z),q];simp⟩⟩;by_cases uQ:b=e
 ·subst uQ;exact xk
 ·exact⟨u,k b u uQ q⟩
end
def AU(h:Heap)(H:Hp):List Addr:=(List.range h.objs.size).filter λa=>(H a).isSome
def nZ(h:Heap)(H:Hp):Heap:=PySem.W.hideAll h (AU h H)
theorem a7A(h:Heap)(H:Hp):(nZ h H).objs.size=h.objs.size:=PySem.W.hideAll_size _ _
theorem a7B{h:Heap}{H:Hp}{b:Addr}{o:Obj}(e:h.get? b=some o)(n:H b=none):(nZ h H).get? b=some o:=Lu _ e λhm=>by have q:(H b).isSome=true:=(List.mem_filter.mp hm).2;rw[n]at q;simp at q
theorem a4k{h:Heap}{H:Hp}{b:Addr}{o:Obj}(e:(nZ h H).get? b=some o):h.get? b=some o/\H b=none:=by have e':h.get? b=some o:=PySem.W.of_hideAll (AU h H) e;refine⟨e',?_⟩;cases q:H b with |none=>rfl |some x=>have hm:b∈AU h H:=List.mem_filter.mpr ⟨List.mem_range.mpr (cJ e'),by simp[q]⟩;have z:(nZ h H).get? b=none:=PySem.W.hideAll_none (AU h H) hm;rw[z]at e;cases e
structure Mod(K:aa)(mg:Str->Option Value)(base:Heap):Prop where
 pH:K.In base
 glob:base.Ns mainGlobals mg
 blt:∃mb,base.Ns builtinsNs mb/\∀x:Str,x≠"__name__"->mb x=bootBuiltins x
 nolimit:base.NoLimit
structure Cx where
 prog:ah
 w:World
 K:aa
 mg:Str->Option Value
 base:Heap
 A:aj
 N:List Str
 s₀:ae
 H₀:Hp
 env:Env
 outer:List Env
 stack:List Env
 ex:List Addr
 fn:Str->Bool
 calm:Bool
 pn:List (Addr×Obj)
 xe:Value->ae->Prop
def du(l:List Env):List Addr:=l.filterMap (·.frame)
abbrev Cx.fs(X:Cx):List Addr:=du X.outer
def DC(sc:Scope)(x:Str):Prop:=sc.names.lookup x=some .local\/sc.names.lookup x=some .cell\/sc.names.lookup x=some .free
def Loc(sc:Scope)(x:Str):Prop:=sc.names.lookup x=some .local\/sc.names.lookup x=some .cell
def Look(env:Env)(h:Heap)(m:Str->Option Value)(x:Str)(u:Value):Prop:=(env.kindOf x=some .local/\m x=some u)\/((env.kindOf x=some .cell\/env.kindOf x=some .free)/\∃c,env.cells.lookup x=some c/\h.IsCell c (some u))
structure Cx.Ok(X:Cx):Prop where
 mod:Mod X.K X.mg X.base
 kind:X.env.scope.kind= .function
 glob:X.env.globals=mainGlobals
 blt:X.env.builtins=builtinsNs
 above:X.s₀.heap.objs.size<=X.env.locals
 inj:∀x y c,X.env.cells.lookup x=some c->X.env.cells.lookup y=some c->x=y
 has:∀x,(X.env.kindOf x=some .cell\/X.env.kindOf x=some .free)->∃c,X.env.cells.lookup x=some c
 sy:∀x c,X.fn x=true->X.env.cells.lookup x=some c->X.s₀.heap.objs.size<=c
 hd:X.calm=true->X.A.handled=none
 frames:X.A.frames=some X.stack
 vN:X.stack=X.outer\/(X.stack=X.env::X.outer/\X.env.frame=some X.env.locals)
 D7:∀b∈X.ex,b≠X.env.locals/\∀x c,X.env.cells.lookup x=some c->c≠b
 bs:∀b o,X.base.get? b=some o->X.s₀.heap.get? b=some o/\X.H₀ b=none
 mz:X.base.objs.size<=X.s₀.heap.objs.size
 uo:∀b o,X.base.get? b=some o->b∉X.ex
 rY:∀b∈X.ex,b∉X.fs
 jT:X.s₀.heap.FunFrames X.base X.outer
 og:∀b∈X.fs,X.H₀ b=none
structure Inv(X:Cx)(ay:List (Addr×Obj))(O:List (Option V))(H:Hp)(s:ae):Prop where
 ok:X.Ok
 os:s.os=X.s₀.os
 bare:AllBare s.gens
 base:Un X.fs X.ex X.H₀ H X.s₀.heap s.heap
 loc:∃m,s.heap.Ns X.env.locals m/\∀(i:Nat)(x:Str)(v:V),X.N[i]? =some x->O[i]? =some (some v)->DC X.env.scope x->∃u,RelV v u/\Look X.env s.heap m x u
 cell:∀x c,X.env.cells.lookup x=some c->∃v,s.heap.IsCell c v
 free:H X.env.locals=none
 kB:∀x c,X.env.cells.lookup x=some c->H c=none
 pin:∀p∈X.pn++ay,s.heap.get? p.1=some p.2/\H p.1=none/\p.1≠X.env.locals/\p.1∉X.fs/\∀v,p.2.data≠ .cell v
 bj:dZ X.prog X.w H s.heap
 len:O.length=X.N.length
section
variable {X:Cx}{ay:List (Addr×Obj)}{O:List (Option V)}{H H':Hp}{s:ae}{h':Heap}
theorem Cx.Ok.a4v(ok:X.Ok){b:Addr}{o:Obj}(e:X.base.get? b=some o):b∉X.fs:=λhb=>by have:=(ok.jT.mem hb).1;rw[e]at this;cases this
theorem Inv.bs(I:Inv X ay O H s):∀b o,X.base.get? b=some o->s.heap.get? b=some o/\H b=none:=λb o e=>⟨I.base.keep b o (I.ok.bs b o e).1 (I.ok.bs b o e).2 (I.ok.a4v e) (I.ok.uo b o e),I.base.free b o (I.ok.bs b o e).1 (I.ok.bs b o e).2 (I.ok.uo b o e)⟩
theorem Inv.bk(I:Inv X ay O H s):∀b o,X.base.get? b=some o->s.heap.get? b=some o:=λb o e=>(I.bs b o e).1
theorem Inv.mod(I:Inv X ay O H s):Mod X.K X.mg X.base:=I.ok.mod
theorem Inv.gQ(I:Inv X ay O H s):X.K.In s.heap:=I.ok.mod.pH.keeps I.bk
theorem Inv.lt(I:Inv X ay O H s):X.env.locals<s.heap.objs.size:=let⟨_,hn,_⟩:=I.loc;hn.lt
theorem Inv.sz(I:Inv X ay O H s):X.s₀.heap.objs.size<=s.heap.objs.size:=iQ I.ok.above (LJ I.lt)
theorem Inv.Qq(I:Inv X ay O H s){a:Addr}(h:s.heap.objs.size<=a):a∉X.fs:=λhb=>by obtain⟨_,o,ho,_⟩:=I.ok.jT.mem hb;exact absurd (gB (cJ ho) (iQ I.sz h)) (qE _)
theorem Inv.kE(I:Inv X ay O H s):∀x c,X.env.cells.lookup x=some c->c≠X.env.locals:=λx c e z=>by obtain⟨v,o,ho,hd⟩:=I.cell x c e;obtain⟨m,⟨o',es,ep,mJ,xl,_⟩,_⟩:=I.loc;rw[z,mJ]at ho;cases ho;rw[xl]at hd;cases hd
theorem Inv.jT(I:Inv X ay O H s):s.heap.FunFrames X.base X.outer:=by
 have all:∀(l:List Env),(∀b∈du l,b∈X.fs)->X.s₀.heap.FunFrames X.base l->s.heap.FunFrames X.base l:=by intro l;induction l with |nil=>intro _ _;trivial |cons env r ih=>intro hs hl;obtain⟨hk,⟨L,o,hf,hn,ho,hd⟩,hr⟩:=hl;have hL:L∈X.fs:=hs L (by unfold du;rw[Y2,hf];exact LL);obtain⟨sl,e⟩:=I.base.slot L o ho (I.ok.og L hL) hL λz=>I.ok.rY L z hL;exact⟨hk,⟨L,_,hf,hn,e,hd⟩,ih (λb hb=>hs b (by unfold du;rw[Y2,hf];exact iR _ hb)) hr⟩
 exact all X.outer (λ_ hb=>hb) I.ok.jT
theorem Inv.stack(I:Inv X ay O H s):s.heap.FunFrames X.base X.stack:=by
 rcases I.ok.vN with e|⟨e,hf⟩
 ·rw[e];exact I.jT
 ·rw[e]
  obtain⟨m,hn,_⟩:=I.loc;refine .cons (by rw[I.ok.kind];decide) hf hn ?_ I.jT;exact Heap.get?_none_of_le (iQ I.ok.mz I.ok.above)
theorem Inv.yn(I:Inv X ay O H s):∀b∈du X.stack,b∈X.env.locals::X.fs:=λb hb=>by
 rcases I.ok.vN with e|⟨e,hf⟩
 ·rw[e]at hb;exact iR _ hb
 ·rw[e]at hb
  unfold du at hb;rw[Y2,hf]at hb;exact hb
theorem Inv.B8(I:Inv X ay O H s):∀b∈du X.stack,H b=none:=λb hb=>by
 rcases bM.mp (I.yn b hb)with e|hb
 ·rw[e];exact I.free
 ·obtain⟨_,o,ho,_⟩:=I.ok.jT.mem hb
  exact I.base.free b o ho (I.ok.og b hb) λz=>I.ok.rY b z hb
theorem Inv.step{g':Array GenState}{t':Nat}{d':Drawn}{ch:List Addr}(I:Inv X ay O H s) (o9:∀b∈ch,(b∈X.ex\/X.s₀.heap.objs.size<=b)/\b≠X.env.locals/\(∀x c,X.env.cells.lookup x=some c->c≠b)/\∀p∈X.pn++ay,p.1≠b) (keep:∀b o,b≠X.env.locals->b∉X.fs->b∉ch->s.heap.get? b=some o->H b=none->h'.get? b=some o) (slot:∀b o,b≠X.env.locals->b∈X.fs->b∉ch->s.heap.get? b=some o->H b=none->∃sl,h'.get? b=some {o with slots:=sl})(free:∀b o,b∉ch->s.heap.get? b=some o->H b=none->H' b=none) (there:∀b o,b∉ch->s.heap.get? b=some o->∃o',h'.get? b=some o') (kL:∀b xs,H b=some (.tup xs)->H' b=some (.tup xs))(kz:∀b o u,H b=some (.mR o u)->H' b=some (.mR o u))(ki:∀b ps,H b=some (.fF ps)->∃more,H' b=some (.fF (ps++more))) (ns:∀m,s.heap.Ns X.env.locals m->h'.Ns X.env.locals m)(bj:dZ X.prog X.w H' h')(hg:AllBare g'): Inv X ay O H' {s with heap:=h',gens:=g',drawn:=d',toks:=t'}:=by
 have Qx:∀b o,X.s₀.heap.get? b=some o->b≠X.env.locals:=λb o e=>fR (gB (cJ e) I.ok.above);have BN:∀b o,X.s₀.heap.get? b=some o->b∉X.ex->b∉ch:=λb o e hx hb=>by
  rcases(o9 b hb).1 with z|z
  ·exact hx z
  ·exact absurd (gB (cJ e) z) (qE _)
 have cellK:∀x c,X.env.cells.lookup x=some c->∀v,s.heap.IsCell c v->h'.IsCell c v:=λx c e v ⟨o,ho,hd⟩=>by
  have za:c∉ch:=λz=>(o9 c z).2.2.1 x c e rfl;by_cases hc:c∈X.fs
  ·obtain⟨sl,q⟩:=slot c o (I.kE x c e) hc za ho (I.kB x c e)
   exact⟨_,q,hd⟩
  ·exact⟨o,keep c o (I.kE x c e) hc za ho (I.kB x c e),hd⟩
 refine⟨I.ok,I.os,hg,⟨λb o e n hb hx=>?_,λb o e n hb hx=>?_,λb o e n hx=>?_,λb o e hx=>?_,λb xs e=>kL b xs (I.base.kL b xs e),λb o xs e=>kz b o xs (I.base.kz b o xs e),λb ps e=>?_⟩,?_,λx c e=>?_,?_,λx c e=>?_,λp hp=>?_,bj,I.len⟩
 ·exact keep b o (Qx b o e) hb (BN b o e hx) (I.base.keep b o e n hb hx) (I.base.free b o e n hx)
 ·obtain⟨sl,e1⟩:=I.base.slot b o e n hb hx
  obtain⟨ES,e2⟩:=slot b _ (Qx b o e) hb (BN b o e hx) e1 (I.base.free b o e n hx);exact⟨ES,e2⟩
 ·obtain⟨o',e1⟩:=I.base.there b o e hx
  exact free b o' (BN b o e hx) e1 (I.base.free b o e n hx)
 ·obtain⟨o',e1⟩:=I.base.there b o e hx
  exact there b o' (BN b o e hx) e1
 ·obtain⟨m1,e1⟩:=I.base.ki b ps e
  obtain⟨m2,e2⟩:=ki b _ e1;exact⟨m1++m2,by rw[e2,Array.append_assoc]⟩
 ·obtain⟨m,hn,hl⟩:=I.loc
  refine⟨m,ns m hn,λi x v e1 e2 e3=>?_⟩;obtain⟨u,r,l⟩:=hl i x v e1 e2 e3;refine⟨u,r,?_⟩;rcases l with l|⟨k,c,e,z⟩
  ·exact .inl l
  ·exact .inr ⟨k,c,e,cellK x c e _ z⟩
 ·obtain⟨v,z⟩:=I.cell x c e
  exact⟨v,cellK x c e v z⟩
 ·obtain⟨m,⟨o,_,_,ho,_⟩,_⟩:=I.loc
  exact free _ o (λz=>(o9 _ z).2.1 Z) ho I.free
 ·obtain⟨v,o,ho,hd⟩:=I.cell x c e
  exact free c o (λz=>(o9 c z).2.2.1 x c e Z) ho (I.kB x c e)
 ·obtain⟨e,n,ne,nf,d⟩:=I.pin p hp
  have za:p.1∉ch:=λz=>(o9 p.1 z).2.2.2 p hp rfl;exact⟨keep p.1 p.2 ne nf za e n,free p.1 p.2 za e n,ne,nf,d⟩
theorem Inv.un{t':Nat}(I:Inv X ay O H s)(u:Un X.fs [] H H' s.heap h')(bj:dZ X.prog X.w H' h'):Inv X ay O H' {s with heap:=h',toks:=t'}:=by obtain⟨m,⟨o,es,ep,ho,r⟩,_⟩:=id I.loc;obtain⟨sl,hL⟩:=u.any ho I.free (by simp);exact I.step (g':=s.gens) (d':=s.drawn) (ch:=[]) (λ_ z=>nomatch z) (λb o _ hb _ e n=>u.keep b o e n hb (by simp)) (λb o _ hb _ e n=>u.slot b o e n hb (by simp)) (λb o _ e n=>u.free b o e n (by simp)) (λb o _ e=>u.there b o e (by simp)) u.kL u.kz u.ki (λm' hm=>by obtain⟨o',pY,Kc,mJ,r'⟩:=hm;rw[ho]at mJ;cases mJ;exact⟨_,pY,Kc,hL,r'⟩) bj I.bare
theorem Inv.call{g':Array GenState}{t':Nat}{d':Drawn}{ch:List Addr}(I:Inv X ay O H s)(u:Un (du X.stack) ch H H' s.heap h')(bj:dZ X.prog X.w H' h')(hg:AllBare g') (o9:∀b∈ch,(b∈X.ex\/X.s₀.heap.objs.size<=b)/\b≠X.env.locals/\(∀x c,X.env.cells.lookup x=some c->c≠b)/\∀p∈X.pn++ay,p.1≠b): Inv X ay O H' {s with heap:=h',gens:=g',drawn:=d',toks:=t'}:=by obtain⟨m,⟨o,es,ep,ho,r⟩,_⟩:=id I.loc;obtain⟨sl,hL⟩:=u.any ho I.free λz=>(o9 _ z).2.1 rfl;exact I.step (ch:=ch) o9 (λb o hL hb hc e n=>u.keep b o e n (λz=>(bM.mp (I.yn b z)).elim hL hb) hc) (λb o _ _ hc e n=>u.any e n hc) (λb o hc e n=>u.free b o e n hc) (λb o hc e=>u.there b o e hc) u.kL u.kz u.ki (λm' hm=>by obtain⟨o',pY,Kc,mJ,r'⟩:=hm;rw[ho]at mJ;cases mJ;exact⟨_,pY,Kc,hL,r'⟩) bj hg
theorem Inv.turned{t':Nat}{it:Addr}(I:Inv X ay O H s)(k:∀b o,b≠it->s.heap.get? b=some o->h'.get? b=some o)(hn:H it=none)(hL:it≠X.env.locals) (h1:it∈X.ex\/X.s₀.heap.objs.size<=it)(h2:∀x c,X.env.cells.lookup x=some c->c≠it)(h3:∀p∈X.pn++ay,p.1≠it):Inv X ay O H {s with heap:=h',toks:=t'}:=by
 have yZ:∀b u,H b=some u->b≠it:=λb u e z=>by rw[z,hn]at e;cases e
 refine I.step (g':=s.gens) (d':=s.drawn) (ch:=[it]) (λb hb=>?_) (λb o _ _ hc e _=>k b o (λz=>hc (by simp[z])) e) (λb o _ _ hc e _=>⟨o.slots,k b o (λz=>hc (by simp[z])) e⟩) (λ_ _ _ _ n=>n) (λb o hc e=>⟨o,k b o (λz=>hc (by simp[z])) e⟩) (λ_ _ e=>e) (λ_ _ _ e=>e) (λb ps e=>⟨#[],by rw[e];simp⟩) (λm hm=>?_) (λb u e=>?_) I.bare
 ·have e:b=it:=by simpa using hb
  subst e;exact⟨h1,hL,h2,h3⟩
 ·obtain⟨o,es,ep,ho,r⟩:=hm
  exact⟨o,es,ep,k _ o (eu hL) ho,r⟩
 ·refine(I.bj b u e).mD (λc v hc q=>k c v ?_ q) (λ_ q=>q) λ_ _ q=>q
  rcases hc with z|z
  ·rw[z];exact yZ b u e
  ·exact yZ c _ z
theorem Inv.tok(I:Inv X ay O H s)(t:Nat):Inv X ay O H {s with toks:=t}:=I.un (h':=s.heap) (t':=t) Un.refl I.bj
theorem Inv.kept{t':Nat}(I:Inv X ay O H s)(k:∀b u,s.heap.get? b=some u->h'.get? b=some u):Inv X ay O H {s with heap:=h',toks:=t'}:=I.un (Un.kept k) (I.bj.kept k)
theorem Inv.laid{a:Addr}{o:HO}{t':Nat}(I:Inv X ay O H s)(k:∀b u,s.heap.get? b=some u->h'.get? b=some u)(hp:s.heap.objs.size<=a)(new:fW X.prog X.w (upd H a o) h' a o): Inv X ay O (upd H a o) {s with heap:=h',toks:=t'}:=I.un (Un.laid k hp (I.bj.fresh hp)) (I.bj.laid k hp new)
theorem Inv.write{x e:Addr}{o:HO}{t':Nat}(I:Inv X ay O H s)(mu:Ac (H x))(he:e=x\/H e=some (.own x))(k:∀b u,b≠e->s.heap.get? b=some u->h'.get? b=some u)(xk:∃u,h'.get? e=some u) (new:fW X.prog X.w (upd H x o) h' x o):Inv X ay O (upd H x o) {s with heap:=h',toks:=t'}:=I.un (Un.write mu he k xk) (I.bj.write mu he k xk new)
theorem Inv.PJ{Hv:List (Addr×Obj)}(I:Inv X ay O H s)(h:∀p∈Hv,s.heap.get? p.1=some p.2/\H p.1=none/\p.1≠X.env.locals/\p.1∉X.fs/\∀v,p.2.data≠ .cell v):Inv X Hv O H s:=⟨I.ok,I.os,I.bare,I.base,I.loc,I.cell,I.free,I.kB,λp hp=>(vy.mp hp).elim (λz=>I.pin p (XZ _ z)) (h p),I.bj,I.len⟩
theorem Ig{N:List Str}(hN:N.Nodup){i j:Nat}{x:Str}(a:N[i]? =some x)(b:N[j]? =some x):i=j:=by obtain⟨h1,e1⟩:=dQ.mp a;obtain⟨h2,e2⟩:=dQ.mp b;exact(List.getElem_inj hN).mp (e1.trans e2.symm)
theorem MI{M:Model}{A:aj}{E:Value->ae->Prop}{i:Nat}{x:Str}{v:V}{u:Value}{Q:Unit->ae->Prop}(I:Inv X ay O H s)(hN:X.N.Nodup)(hi:X.N[i]? =some x)(hx:Loc X.env.scope x)(r:RelV v u) (h:∀s',Inv X ay (O.set i (some v)) H s'->(∃a,Heap.SameBut a s.heap s'.heap/\(a=X.env.locals\/X.env.cells.lookup x=some a))->Q () s')(hf:X.fn x=true\/X.env.scope.names.lookup x=some .local:=by first|exact .inl rfl|exact .inr rfl|assumption):wpAny M A (storeName X.env x u) Q E s:=by
 obtain⟨m,hn,hl⟩:=id I.loc;have zy:(X.env.scope.kind== .class||(X.env.scope.kind== .module&&X.env.locals !=X.env.globals))=false:=by rw[I.ok.kind];rfl
 have CC:i<O.length:=by rw[I.len];exact(dQ.mp hi).1
 have kE:=I.kE;have tracked:∀{a:Addr}{h':Heap},(∃o,s.heap.get? a=some o/\H a=none)->Heap.SameBut a s.heap h'->dZ X.prog X.w H h':=λ{a h'} ha hs b ob e=>by
  obtain⟨_,_,xj⟩:=ha;refine(I.bj b ob e).mD (λc w' hc q=>(hs.2 c ?_).trans q) (λ_ q=>q) λ_ _ q=>q;rintro rfl;rcases hc with rfl|hc
  ·rw[xj]at e;cases e
  ·rw[xj]at hc;cases hc
 rcases hx with hk|hk
 ·refine wpAny_storeName_local hk hn (λh' uK hs=>?_) zy
  obtain⟨oL,_,_,Sb,_⟩:=id hn;refine h _ ⟨I.ok,I.os,I.bare,⟨λb o e n hb hx=>?_,λb o e n hb hx=>?_,I.base.free,λb o e hx=>?_,I.base.kL,I.base.kz,I.base.ki⟩,⟨_,uK,λj y v' e1 e2 e3=>?_⟩,λy c e=>?_,I.free,I.kB,λp hp=>?_,tracked ⟨oL,Sb,I.free⟩ hs,by simpa using I.len⟩ ⟨_,hs,.inl rfl⟩
  ·exact(hs.2 b (fR (gB (cJ e) I.ok.above))).trans (I.base.keep b o e n hb hx)
  ·obtain⟨sl,e1⟩:=I.base.slot b o e n hb hx
   exact⟨sl,(hs.2 b (fR (gB (cJ e) I.ok.above))).trans e1⟩
  ·obtain⟨o',e1⟩:=I.base.there b o e hx
   exact⟨o',(hs.2 b (fR (gB (cJ e) I.ok.above))).trans e1⟩
  ·by_cases hj:j=i
   ·subst hj
    rw[hi]at e1;cases e1;rw[Ax CC]at e2;cases e2;exact⟨u,r,.inl ⟨hk,by simp⟩⟩
   ·rw[LP (eu hj)]at e2
    obtain⟨u',r',q⟩:=hl j y v' e1 e2 e3;refine⟨u',r',?_⟩;rcases q with⟨k,e⟩|⟨k,c,e,z⟩
    ·refine .inl ⟨k,?_⟩
     have:y≠x:=λe=>hj (Ig hN e1 (e▸hi));simp[this,e]
    ·exact .inr ⟨k,c,e,z.sameBut hs (kE y c e)⟩
  ·obtain⟨w',z⟩:=I.cell y c e
   exact⟨w',z.sameBut hs (kE y c e)⟩
  ·obtain⟨e,n,ne,nf,d⟩:=I.pin p hp
   exact⟨(hs.2 p.1 ne).trans e,n,ne,nf,d⟩
 ·have rL:X.fn x=true:=by
   rcases hf with z|z
   ·exact z
   ·rw[z]at hk;cases hk
  obtain⟨c,hc⟩:=I.ok.has x (.inl hk);obtain⟨w',z⟩:=I.cell x c hc;refine wpAny_storeName_cell I.ok.kind hk hc z (λh' gU hs=>?_);obtain⟨oc,Sa,a77⟩:=id z;refine h {s with heap:=h'} ⟨I.ok,I.os,I.bare,⟨λb o e n hb hx=>?_,λb o e n hb hx=>?_,I.base.free,λb o e hx=>?_,I.base.kL,I.base.kz,I.base.ki⟩,⟨m,hn.sameBut hs (eu (kE x c hc)),λj y v' e1 e2 e3=>?_⟩,λy c' e=>?_,I.free,I.kB,λp hp=>?_,tracked ⟨oc,Sa,I.kB x c hc⟩ hs,by simpa using I.len⟩ ⟨c,hs,.inr hc⟩
  ·exact(hs.2 b (fR (gB (cJ e) (I.ok.sy x c rL hc)))).trans (I.base.keep b o e n hb hx)
  ·obtain⟨sl,e1⟩:=I.base.slot b o e n hb hx
   exact⟨sl,(hs.2 b (fR (gB (cJ e) (I.ok.sy x c rL hc)))).trans e1⟩
  ·obtain⟨o',e1⟩:=I.base.there b o e hx
   exact⟨o',(hs.2 b (fR (gB (cJ e) (I.ok.sy x c rL hc)))).trans e1⟩
  ·by_cases hj:j=i
   ·subst hj
    rw[hi]at e1;cases e1;rw[Ax CC]at e2;cases e2;exact⟨u,r,.inr ⟨.inl hk,c,hc,gU⟩⟩
   ·rw[LP (eu hj)]at e2
    obtain⟨u',r',q⟩:=hl j y v' e1 e2 e3;refine⟨u',r',?_⟩;rcases q with q|⟨k,c',e,z'⟩
    ·exact .inl q
    ·refine .inr ⟨k,c',e,z'.sameBut hs ?_⟩
     rintro rfl;exact hj (Ig hN e1 (I.ok.inj _ _ _ e hc▸hi))
  ·by_cases Sn:c'=c
   ·subst Sn;exact⟨_,gU⟩
   ·obtain⟨w2,z2⟩:=I.cell y c' e
    exact⟨w2,z2.sameBut hs Sn⟩
  ·obtain⟨e,n,ne,nf,d⟩:=I.pin p hp
   refine⟨(hs.2 p.1 ?_).trans e,n,ne,nf,d⟩;intro q;rw[q,Sa]at e;have q':oc=p.2:=eg e;exact d w' (by rw[<-q'];exact a77)
theorem vM{M:Model}{A:aj}{E:Value->ae->Prop}{i:Nat}{x:Str}{v:V}{u:Value}{Q:Unit->ae->Prop}(I:Inv X ay O H s)(hN:X.N.Nodup)(hi:X.N[i]? =some x)(hx:Loc X.env.scope x)(r:RelV v u) (h:∀s',Inv X ay (O.set i (some v)) H s'->Q () s')(hf:X.fn x=true\/X.env.scope.names.lookup x=some .local:=by first|exact .inl rfl|exact .inr rfl|assumption):wpAny M A (storeName X.env x u) Q E s:=MI I hN hi hx r (λs' I' _=>h s' I') hf
theorem Inv.Dr{s':ae}{ch:List Addr}(I:Inv X ay O H s)(ho:s'.os=s.os)(u:Un (du X.stack) ch H H' s.heap s'.heap)(bj:dZ X.prog X.w H' s'.heap)(hg:AllBare s'.gens) (o9:∀b∈ch,(b∈X.ex\/X.s₀.heap.objs.size<=b)/\b≠X.env.locals/\(∀x c,X.env.cells.lookup x=some c->c≠b)/\∀p∈X.pn++ay,p.1≠b):Inv X ay O H' s':=by obtain⟨h',g',d',t',o'⟩:=s';have e:o'=s.os:=ho;subst e;exact I.call (g':=g') (t':=t') (d':=d') u bj hg o9
end
abbrev XK:=Value->Option Addr->Hp->Prop
abbrev St:=List (Option V)
abbrev VK:=V->Hp->Prop
abbrev TE:=St->Hp->VK->Prop
abbrev TT:=St->Hp->(Bool->Hp->Prop)->Prop
abbrev TA:=St->Hp->(List V->Hp->Prop)->Prop
structure Ends where
 nx:St->Hp->Prop
 rt:VK
 bk:St->Hp->Prop:=λ_ _=>False
 ct:St->Hp->Prop:=λ_ _=>False
abbrev TS:=Ends->St->Hp->Prop
def EP(X:Cx)(ay:List (Addr×Obj))(O:St)(Q:VK)(u:Value)(s':ae):Prop:=∃v H',Inv X ay O H' s'/\RelV v u/\Q v H'
def TP(X:Cx)(ay:List (Addr×Obj))(O:St)(Q:Bool->Hp->Prop)(b:Bool)(s':ae):Prop:=∃H',Inv X ay O H' s'/\Q b H'
def AP(X:Cx)(ay:List (Addr×Obj))(O:St)(Q:List V->Hp->Prop)(us:List Value)(s':ae):Prop:=∃vs H',Inv X ay O H' s'/\Vals vs us/\Q vs H'
def SP(X:Cx)(ay:List (Addr×Obj))(D:Ends)(f:Flow)(s':ae):Prop:=match f with | .next=>∃σ' H',Inv X ay σ' H' s'/\D.nx σ' H' | .brk=>∃σ' H',Inv X ay σ' H' s'/\D.bk σ' H' | .cont=>∃σ' H',Inv X ay σ' H' s'/\D.ct σ' H' | .ret u=>∃v σ' H',Inv X ay σ' H' s'/\RelV v u/\D.rt v H'
def PE(X:Cx)(e:Expr)(t:TE):Prop:=∀(ay:List (Addr×Obj))(s:ae)(O:St)(H:Hp)(Q:VK),Inv X ay O H s->t O H Q->wpAny (model X.prog X.w) X.A (eval e X.env) (EP X ay O Q) X.xe s
def PT(X:Cx)(e:Expr)(t:TT):Prop:=∀(ay:List (Addr×Obj))(s:ae)(O:St)(H:Hp)(Q:Bool->Hp->Prop),Inv X ay O H s->t O H Q->wpAny (model X.prog X.w) X.A (isTrue e X.env (eval e X.env)) (TP X ay O Q) X.xe s
def PW(X:Cx)(e:Expr)(t:TT):Prop:=∀(whole:Sem Value)(ay:List (Addr×Obj))(s:ae)(O:St)(H:Hp)(Q:Bool->Hp->Prop),Inv X ay O H s->t O H Q->wpAny (model X.prog X.w) X.A (isTrue e X.env whole) (TP X ay O Q) X.xe s
theorem PW.pt{X:Cx}{e:Expr}{t:TT}(h:PW X e t):PT X e t:=h _
def PA(X:Cx)(es:List Expr)(t:TA):Prop:=∀(pos:Pos)(ay:List (Addr×Obj))(s:ae)(O:St)(H:Hp)(Q:List V->Hp->Prop),Inv X ay O H s->t O H Q->wpAny (model X.prog X.w) X.A (spliced (backTo pos (starEach es X.env))) (AP X ay O Q) X.xe s
def PS(X:Cx)(st:Stmt)(t:TS):Prop:=∀(ay:List (Addr×Obj))(s:ae)(O:St)(H:Hp)(D:Ends),Inv X ay O H s->t D O H->wpAny (model X.prog X.w) X.A (exec st X.env) (SP X ay D) X.xe s
def iy(X:Cx)(st:List Stmt)(t:TS):Prop:=∀(ay:List (Addr×Obj))(s:ae)(O:St)(H:Hp)(D:Ends),Inv X ay O H s->t D O H->wpAny (model X.prog X.w) X.A (execs st X.env) (SP X ay D) X.xe s
theorem bo{α:Type}{t:Sem α}{Q Q':α->ae->Prop}{M:Model}{A:aj}{E:Value->ae->Prop}{s:ae}(h:wpAny M A t Q E s)(hQ:∀a s,Q a s->Q' a s):wpAny M A t Q' E s:=jY h hQ λ_ _ x=>x
section
variable {X:Cx}
inductive Vt(i:Nat)(O:St)(H:Hp)(Q:VK):Prop |mk (v:_)(h0:O[i]? =some (some v))(h1:Q v H):Vt i O H Q
def qJ(i:Nat):TE:=λO H Q=>Vt i O H Q
def tC (v:V):TE:=λ_ H Q=>Q v H
theorem PL{i:Nat}{x:Str}{pos:Pos}(hN:X.N[i]? =some x)(hv:DC X.env.scope x)(hd:(x==("__debug__":Str))=false:=by decide)(ir:(x==("__classdict__":Str))=false:=by decide):PE X (.Name x pos) (qJ i):=by
 intro ay s O H Q I h;obtain⟨v,e,h⟩:=h;obtain⟨m,hn,hl⟩:=I.loc;obtain⟨u,r,l⟩:=hl i x v hN e hv;have fin:EP X ay O Q u s:=⟨v,H,I,r,h⟩;rcases l with⟨hk,hm⟩|⟨hk,c,hc,mL⟩
 ·exact wpAny_Name (wpAny_loadName_local I.ok.kind hk hn hm fin) hd
 ·rcases hk with hk|hk
  ·exact wpAny_Name (wpAny_loadName_cell I.ok.kind hk hc mL fin) hd
  ·exact wpAny_Name (wpAny_loadName_free I.ok.kind hk hc mL fin ir) hd
theorem aE{i j pos}:PE X (.Constant (.int i) j pos) (tC (.int i)):=λ_ _ _ H _ I h=>wpAny_Constant_int ⟨.int i,H,I.tok _,⟨_,Z⟩,h⟩
theorem ij{b j pos}:PE X (.Constant (.bool b) j pos) (tC (.bl b)):=λ_ _ _ H _ I h=>Constant_bool ⟨.bl b,H,I,Z,h⟩
theorem je{j pos}:PE X (.Constant .none j pos) (tC .bw):=λ_ _ _ H _ I h=>Constant_none ⟨.bw,H,I,Z,h⟩
theorem ba{x j pos}:PE X (.Constant (.str x) j pos) (tC (.str x)):=λ_ _ _ H _ I h=>Calls.Constant_str ⟨.str x,H,I.tok _,⟨_,Z⟩,h⟩
def Gl(X:Cx)(x:Str):Prop:=X.env.kindOf x=some .globalImplicit
theorem wR{E:Value->ae->Prop}{ay:List (Addr×Obj)}{s:ae}{O:St}{H:Hp}{x:Str}{u:Value}{pos:Pos}{Q:Value->ae->Prop}(I:Inv X ay O H s)(hg:Gl X x)(hm:X.mg x=some u)(h:Q u s) (hd:(x==("__debug__":Str))=false:=by decide):wpAny (model X.prog X.w) X.A (eval (.Name x pos) X.env) Q E s:=Calls.Name_function_global I.ok.kind hg (Calls.loadGlobal_global (by rw[I.ok.glob];exact I.mod.glob.keeps I.bk) hm h) hd
theorem pF{E:Value->ae->Prop}{ay:List (Addr×Obj)}{s:ae}{O:St}{H:Hp}{x:Str}{u:Value}{pos:Pos}{Q:Value->ae->Prop}(I:Inv X ay O H s)(hg:Gl X x)(hm:X.mg x=none)(hv:bootBuiltins x=some u)(h:Q u s) (hn:x≠"__name__":=by decide)(hd:(x==("__debug__":Str))=false:=by decide):wpAny (model X.prog X.w) X.A (eval (.Name x pos) X.env) Q E s:=by obtain⟨mb,h1,h2⟩:=I.mod.blt;exact Calls.Name_function_global I.ok.kind hg (Calls.loadGlobal_builtin (by rw[I.ok.glob];exact I.mod.glob.keeps I.bk) hm (by rw[I.ok.blt];exact h1.keeps I.bk) ((h2 x hn).trans hv) h) hd
theorem a2h{x:Str}{v:V}{u:Value}{pos:Pos}(hg:Gl X x)(hm:X.mg x=some u)(r:RelV v u)(hd:(x==("__debug__":Str))=false:=by decide):PE X (.Name x pos) (tC v):=λ_ _ _ H _ I h=>wR I hg hm ⟨v,H,I,r,h⟩ hd
theorem dk{x:Str}{v:V}{u:Value}{pos:Pos}(hg:Gl X x)(hm:X.mg x=none)(hv:bootBuiltins x=some u)(r:RelV v u)(hn:x≠"__name__":=by decide)(hd:(x==("__debug__":Str))=false:=by decide):PE X (.Name x pos) (tC v):=λ_ _ _ H _ I h=>pF I hg hm hv ⟨v,H,I,r,h⟩ hn hd
variable {a b:Expr}{ta tb:TE}{pos:Pos}
inductive VC(Q:Bool->Hp->Prop)(x:V)(H1:Hp):Prop |mk (c:_)(h0:x= .bl c)(h1:Q c H1):VC Q x H1
def tB(t:TE):TT:=λO H Q=>t O H λx H1=>VC Q x H1
theorem cP{e:Expr}{t:TE}(h:PE X e t)(he:∀whole,isTrue e X.env whole=(do let v<-whole;standAt e.pos;holding [v] (truthy v)):=by intro _;rfl):PT X e (tB t):=by intro ay s O H Q I hw;refine isTrue_plain (bo (h ay s O H _ I hw) λv s1 ⟨x,H1,I1,r1,q1⟩=>?_) (he _);obtain⟨d,rfl,q⟩:=q1;cases r1;exact qx ⟨H1,I1,q⟩
variable {tA AZ:TT} {rest:List Expr}
def Zu(t u:TT):TT:=λO H Q=>t O H λc H1=>if c=true then u O H1 Q else Q false H1
def Ze(t u:TT):TT:=λO H Q=>t O H λc H1=>if c=true then Q true H1 else u O H1 Q
def Zg(t:TT):TT:=λO H Q=>t O H λc H1=>Q (!c) H1
theorem qR(ha:PT X a tA):PW X (.BoolOp .And [a] pos) tA:=by intro wh ay s O H Q I h;refine isTrue_and (bo (ha ay s O H Q I h) λc s1 e=>?_);cases c with |true=>exact isTrue_and_nil e |false=>exact e
theorem lF(ha:PT X a tA):PW X (.BoolOp .Or [a] pos) tA:=by intro wh ay s O H Q I h;refine isTrue_or (bo (ha ay s O H Q I h) λc s1 e=>?_);cases c with |false=>exact isTrue_or_nil e |true=>exact e
theorem nN(ha:PT X a tA)(hb:PW X (.BoolOp .And (b::rest) pos) AZ):PW X (.BoolOp .And (a::b::rest) pos) (Zu tA AZ):=by intro wh ay s O H Q I h;refine isTrue_and (bo (ha ay s O H _ I h) λc s1 ⟨H1,I1,q1⟩=>?_);cases c with |true=>exact hb wh ay s1 O H1 Q I1 q1 |false=>exact⟨H1,I1,q1⟩
theorem kQ(ha:PT X a tA)(hb:PW X (.BoolOp .Or (b::rest) pos) AZ):PW X (.BoolOp .Or (a::b::rest) pos) (Ze tA AZ):=by intro wh ay s O H Q I h;refine isTrue_or (bo (ha ay s O H _ I h) λc s1 ⟨H1,I1,q1⟩=>?_);cases c with |true=>exact⟨H1,I1,q1⟩ |false=>exact hb wh ay s1 O H1 Q I1 q1
theorem eO(ha:PT X a tA):PT X (.UnaryOp .Not a pos) (Zg tA):=by intro ay s O H Q I h;exact isTrue_not (ha ay s O H (λc H1=>Q (!c) H1) I h)
inductive VD(tb:TE)(O:St)(Q:VK)(x:V)(H1:Hp):Prop |mk (c:_)(h0:x= .bl c)(h1:if c=true then tb O H1 Q else Q (.bl false) H1):VD tb O Q x H1
def Zt(ta tb:TE):TE:=λO H Q=>ta O H λx H1=>VD tb O Q x H1
inductive Vy(Q:VK)(x:V)(H1:Hp):Prop |mk (c:_)(h0:x= .bl c)(h1:Q (.bl (!c)) H1):Vy Q x H1
def Zf(ta:TE):TE:=λO H Q=>ta O H λx H1=>Vy Q x H1
theorem jd{op}{t:TE}(h:PE X a t):PE X (.BoolOp op [a] pos) t:=λay s O H Q I hw=>BoolOp_one (h ay s O H Q I hw)
theorem iV(ha:PE X a ta)(hb:PE X (.BoolOp .And (b::rest) pos) tb):PE X (.BoolOp .And (a::b::rest) pos) (Zt ta tb):=by intro ay s O H Q I h;refine BoolOp_and (bo (ha ay s O H _ I h) λv s1 ⟨x,H1,I1,r1,q1⟩=>?_);obtain⟨c,rfl,q1⟩:=q1;cases r1;refine qx ?_;cases c with |true=>exact hb ay s1 O H1 Q I1 q1 |false=>exact⟨.bl false,H1,I1,Z,q1⟩
theorem PM(ha:PE X a ta):PE X (.UnaryOp .Not a pos) (Zf ta):=by intro ay s O H Q I h;refine UnaryOp_ (bo (ha ay s O H _ I h) λv s1 ⟨x,H1,I1,r1,q1⟩=>?_);obtain⟨c,rfl,q1⟩:=q1;cases r1;exact not_of (qx ⟨.bl (!c),H1,I1,Z,q1⟩)
def Zn(t:TT)(ta tb:TE):TE:=λO H Q=>t O H λc H1=>if c=true then ta O H1 Q else tb O H1 Q
theorem PV{c:Expr}(hc:PT X c tA)(ha:PE X a ta)(hb:PE X b tb):PE X (.IfExp c a b pos) (Zn tA ta tb):=by intro ay s O H Q I h;refine wpAny_IfExp (bo (hc ay s O H _ I h) λd s1 ⟨H1,I1,q1⟩=>?_);cases d with |true=>exact ha ay s1 O H1 Q I1 q1 |false=>exact hb ay s1 O H1 Q I1 q1
end
def aJ(K:aa)(H:Hp)(a:Addr)(xs:List V):Prop:=Rd H a (.lst xs)\/ ∃(o:Obj)(its:Array Value)(n:Nat),K.lookup a=some o/\o.cls= .type "list"/\o.dict=none/\o.data= .seq its n/\its.size<=sizeLine/\Vals xs its.toList
def aU(K:aa)(H:Hp)(a:Addr)(xs:List V):Prop:=Rd H a (.tup xs)\/ ∃(o:Obj)(its:Array Value)(n:Nat),K.lookup a=some o/\o.cls= .type "tuple"/\o.data= .seq its n/\its.size<=sizeLine/\Vals xs its.toList
def acD:Value->Option V | .none=>some .bw | .bool b=>some (.bl b) | .int i _=>some (.int i) | .str x _=>some (.str x) | .bytes b _=>some (.xJ b) | .float b _=>some (.CZ b) | .ref a=>some (.ref a) | .type n=>some (.ty n) |_=>none
theorem RelV.abs{x:V}{u:Value}(r:RelV x u):acD u=some x:=by cases x with |bw=>cases r;rfl |bl _=>cases r;rfl |int _=>obtain⟨t,rfl⟩:=r;rfl |str _=>obtain⟨t,rfl⟩:=r;rfl |xJ _=>obtain⟨t,rfl⟩:=r;rfl |CZ _=>obtain⟨t,rfl⟩:=r;rfl |ref _=>cases r;rfl |ty _=>cases r;rfl
theorem RelV.inj{x y:V}{u:Value}(r:RelV x u)(q:RelV y u):x=y:=eg (r.abs.symm.trans q.abs)
theorem Vals.inj:∀{xs ys:List V}{us:List Value},Vals xs us->Vals ys us->xs=ys |_,_,_,.nil,.nil=>rfl |_,_,_,.cons r t,.cons r' t'=>by rw[r.inj r',Vals.inj t t']
section
variable {X:Cx}{ay:List (Addr×Obj)}{O:St}{H:Hp}{s:ae}{a:Addr}{xs ys:List V}
theorem aJ.of{K:aa}(h:H a=some (.lst xs)):aJ K H a xs:=.inl (.inl h)
theorem aU.of{K:aa}(h:H a=some (.tup xs)):aU K H a xs:=.inl (.inl h)
theorem Inv.list(I:Inv X ay O H s)(h:aJ X.K H a xs):∃its:List Value,Vals xs its/\PlainL s.heap a its.toArray/\xs.length<=sizeLine:=by
 rcases h with h|⟨o,its,n,hk,hc,hd,hs,hz,r⟩
 ·obtain⟨z,its,n,r,e⟩:=h.ok I.bj
  exact⟨its,r,⟨_,n,e,Z,Z,Z⟩,z⟩
 ·refine⟨its.toList,r,⟨o,n,I.gQ a o hk,hc,hd,by simpa using hs⟩,?_⟩
  have e:=r.length;simp only[AD]at e
  lia
theorem Inv.tuple(I:Inv X ay O H s)(h:aU X.K H a xs):∃its:List Value,Vals xs its/\IsTup s.heap a its.toArray/\xs.length<=sizeLine:=by
 rcases h with h|⟨o,its,n,hk,hc,hs,hz,r⟩
 ·obtain⟨z,its,r,p⟩:=h.ok I.bj
  exact⟨its,r,p,z⟩
 ·refine⟨its.toList,r,⟨o,I.gQ a o hk,hc,n,by simpa using hs⟩,?_⟩
  have e:=r.length;simp only[AD]at e
  lia
theorem Inv.Rg(I:Inv X ay O H s)(h:aJ X.K H a xs)(h':aJ X.K H a ys):xs=ys:=by
 obtain⟨its,r,⟨o,n,e,_,_,d⟩,_⟩:=I.list h;obtain⟨its',r',⟨o',n',e',_,_,d'⟩,_⟩:=I.list h';rw[e]at e';cases e';rw[d]at d';injection d' with d1 _;have:its=its':=by simpa using congrArg Array.toList d1
 subst this;exact r.inj r'
theorem Inv.Mo(I:Inv X ay O H s)(h:aU X.K H a xs)(h':aU X.K H a ys):xs=ys:=by
 obtain⟨its,r,⟨o,e,_,n,d⟩,_⟩:=I.tuple h;obtain⟨its',r',⟨o',e',_,n',d'⟩,_⟩:=I.tuple h';rw[e]at e';cases e';rw[d]at d';injection d' with d1 _;have:its=its':=by simpa using congrArg Array.toList d1
 subst this;exact r.inj r'
end
abbrev Cx.jm(X:Cx)(E:Value->ae->Prop):Cx:={X with xe:=E}
abbrev Cx.pE(X:Cx):Cx:=X.jm λ_ _=>False
theorem Cx.Ok.jm{X:Cx}(ok:X.Ok)(E:Value->ae->Prop):(X.jm E).Ok:=⟨ok.mod,ok.kind,ok.glob,ok.blt,ok.above,ok.inj,ok.has,ok.sy,ok.hd,ok.frames,ok.vN,ok.D7,ok.bs,ok.mz,ok.uo,ok.rY,ok.jT,ok.og⟩
theorem Cx.Ok.nj{X:Cx}{E:Value->ae->Prop}(ok:(X.jm E).Ok):X.Ok:=⟨ok.mod,ok.kind,ok.glob,ok.blt,ok.above,ok.inj,ok.has,ok.sy,ok.hd,ok.frames,ok.vN,ok.D7,ok.bs,ok.mz,ok.uo,ok.rY,ok.jT,ok.og⟩
section
variable {X:Cx}{ay:List (Addr×Obj)}{O:St}{H:Hp}{s:ae}{E:Value->ae->Prop}
theorem Inv.jm(I:Inv X ay O H s)(E:Value->ae->Prop):Inv (X.jm E) ay O H s:=⟨I.ok.jm E,I.os,I.bare,I.base,I.loc,I.cell,I.free,I.kB,I.pin,I.bj,I.len⟩
theorem Inv.nj(I:Inv (X.jm E) ay O H s):Inv X ay O H s:=⟨I.ok.nj,I.os,I.bare,I.base,I.loc,I.cell,I.free,I.kB,I.pin,I.bj,I.len⟩
theorem SP.nj{D:Ends}{f:Flow}{s':ae}(h:SP (X.jm E) ay D f s'):SP X ay D f s':=by cases f with |next=>obtain⟨σ',H',I,q⟩:=h;exact⟨σ',H',I.nj,q⟩ |brk=>obtain⟨σ',H',I,q⟩:=h;exact⟨σ',H',I.nj,q⟩ |cont=>obtain⟨σ',H',I,q⟩:=h;exact⟨σ',H',I.nj,q⟩ |ret u=>obtain⟨v,σ',H',I,r,q⟩:=h;exact⟨v,σ',H',I.nj,r,q⟩
theorem iy.pE{st:List Stmt}{t:TS}(h:iy X.pE st t):iy X st t:=λay s O H D I hw=>jY (h ay s O H D (I.jm _) hw) (λ_ _ q=>q.nj) λ_ _ z=>False.elim z
end
section
variable {X:Cx}{st:Stmt}{rest:List Stmt}{t u:TS}{e:Expr}{te:TE}{pos:Pos}
def AX:TS:=λD O H=>D.nx O H
def Ep(t u:TS):TS:=λD O H=>t {D with nx:=u D} O H
theorem bQ:iy X [] AX:=λ_ _ O H _ I h=>An ⟨O,H,I,h⟩
theorem aF(h1:PS X st t)(h2:iy X rest u):iy X (st::rest) (Ep t u):=by intro ay s O H D I h;refine wpAny_execs_cons (bo (h1 ay s O H {D with nx:=u D} I h) λf s1 q=>?_);cases f with |next=>obtain⟨σ',H',I',q⟩:=q;exact h2 ay s1 σ' H' D I' q |ret v=>exact q |brk=>exact q |cont=>exact q
theorem aH(h1:PS X st t):iy X [st] t:=by intro ay s O H D I h;refine wpAny_execs_cons (bo (h1 ay s O H D I h) λf s1 q=>?_);cases f with |next=>exact An q |ret v=>exact q |brk=>exact q |cont=>exact q
theorem Inv.quiet{ay:List (Addr×Obj)}{O:St}{H:Hp}{s:ae}(I:Inv X ay O H s):interactive X.env=false:=by simp[interactive,I.ok.kind]
def Zq(te:TE):TS:=λD O H=>te O H λ_ H1=>D.nx O H1
theorem hO(he:PE X e te)(hs:swapsWith e none pos.line X.env=pure false:=by rfl):PS X (.Expr e pos) (Zq te):=by intro ay s O H D I h;exact wpAny_Expr_any (bo (he ay s O H _ I h) λv s1 ⟨x,H1,I1,r1,q1⟩=>⟨O,H1,I1,q1⟩) I.quiet hs
def Za(te:TE):TS:=λD O H=>te O H D.rt
theorem aX(he:PE X e te):PS X (.Return (some e) pos) (Za te):=by intro ay s O H D I h;exact wpAny_Return_some (bo (he ay s O H _ I h) λv s1 ⟨x,H1,I1,r1,q1⟩=>⟨x,O,H1,I1,r1,q1⟩)
def Es(c:TT)(t u:TS):TS:=λD O H=>c O H λb H1=>if b=true then t D O H1 else u D O H1
theorem bN{c:Expr}{a b:List Stmt}{tc:TT}(hc:PT X c tc)(ha:iy X a t)(hb:iy X b u):PS X (.If c a b pos) (Es tc t u):=by intro ay s O H D I h;refine wpAny_If (bo (hc ay s O H _ I h) λd s1 ⟨H1,I1,q1⟩=>?_);cases d with |true=>exact ha ay s1 O H1 D I1 q1 |false=>exact hb ay s1 O H1 D I1 q1
def Zi:TS:=λ_ _ _=>False
theorem ph:PS X st Zi:=λ_ _ _ _ _ _ h=>h.elim
end
abbrev TG:=V->St->Hp->(St->Hp->Prop)->Prop
abbrev oE:=List V->St->Hp->(St->Hp->Prop)->Prop
def PG(X:Cx)(target:Expr)(t:TG):Prop:=∀(ay:List (Addr×Obj))(s:ae)(O:St)(H:Hp)(v:V)(u:Value)(Q:St->Hp->Prop),Inv X ay O H s->RelV v u->t v O H Q->wpAny (model X.prog X.w) X.A (assign target X.env u) (λ_ s'=>∃σ' H',Inv X ay σ' H' s'/\Q σ' H') X.xe s
def Ab(X:Cx)(ts:List Expr)(t:oE):Prop:=∀(ay:List (Addr×Obj))(s:ae)(O:St)(H:Hp)(vs:List V)(us:List Value)(Q:St->Hp->Prop),Inv X ay O H s->Vals vs us->t vs O H Q->wpAny (model X.prog X.w) X.A (assignInOrder ((assignEach ts X.env).map (·.2)) us) (λ_ s'=>∃σ' H',Inv X ay σ' H' s'/\Q σ' H') X.xe s
abbrev KR:=V->V->V->Hp->(Hp->Prop)->Prop
def Vp(X:Cx)(t:KR):Prop:=∀(ay:List (Addr×Obj))(s:ae)(O:St)(H:Hp)(o i v:V)(ov iv u:Value)(Q:Hp->Prop),Inv X ay O H s->RelV o ov->RelV i iv->RelV v u->t o i v H Q->wpAny (model X.prog X.w) X.A (setItem ov iv u) (λ_ s'=>∃H',Inv X ay O H' s'/\Q H') X.xe s
abbrev Vf:=V->V->Hp->VK->Prop
def PIp(X:Cx)(op:Operator)(t:Vf):Prop:=∀(ay:List (Addr×Obj))(s:ae)(O:St)(H:Hp)(x y:V)(v u:Value)(Q:VK),Inv X ay O H s->RelV x v->RelV y u->t x y H Q->wpAny (model X.prog X.w) X.A (inplaceOp op v u) (EP X ay O Q) X.xe s
section
variable {X:Cx} {pos:Pos}
def fA(i:Nat):TG:=λv O H Q=>Q (O.set i (some v)) H
theorem a2c{i:Nat}{x:Str}(hN:X.N.Nodup)(hi:X.N[i]? =some x)(hx:Loc X.env.scope x)(hf:X.fn x=true\/X.env.scope.names.lookup x=some .local:=by first|exact .inl rfl|exact .inr rfl|assumption):PG X (.Name x pos) (fA i):=by intro ay s O H v u Q I r h;exact wpAny_assign_Name (vM I hN hi hx r (λs' I'=>⟨_,H,I',h⟩) hf)
def rW:oE:=λvs O H Q=>vs=[]/\Q O H
inductive Xs(t:TG)(u:oE)(vs:List V)(O:St)(H:Hp)(Q:St->Hp->Prop):Prop |mk (v:_)(r:_)(h0:vs=v::r)(h1:t v O H λσ' H'=>u r σ' H' Q):Xs t u vs O H Q
def ky(t:TG)(u:oE):oE:=λvs O H Q=>Xs t u vs O H Q
theorem eG:Ab X [] rW:=by intro ay s O H vs us Q I r h;obtain⟨e,h⟩:=h;subst e;cases r;exact assignInOrder_nil ⟨O,H,I,h⟩
theorem cg{e:Expr}{es:List Expr}{t:TG}{u:oE}(h1:PG X e t)(h2:Ab X es u) (hs:(assignEach (e::es) X.env).map (·.2)=assign e X.env::(assignEach es X.env).map (·.2):=by rfl):Ab X (e::es) (ky t u):=by intro ay s O H vs us Q I r h;obtain⟨v,vr,e1,h⟩:=h;subst e1;cases r with |cons r rr=>rw[hs];refine assignInOrder_cons (bo (h1 ay s O H _ _ _ I r h) λ_ s1 ⟨σ1,H1,I1,q1⟩=>?_);exact h2 ay s1 σ1 H1 _ _ Q I1 rr q1
inductive Xr(K:aa)(n:Nat)(t:oE)(v:V)(O:St)(H:Hp)(Q:St->Hp->Prop):Prop |mk (a:_)(xs:_)(h0:v= .ref a)(h1:aU K H a xs)(h2:xs.length=n)(h3:t xs O H Q):Xr K n t v O H Q
def pU(K:aa)(n:Nat)(t:oE):TG:=λv O H Q=>Xr K n t v O H Q
theorem a2b{es:List Expr}{k:Nat}{t:oE}{n:Nat}(hc:X.calm=true)(h:Ab X es t) (hn:(assignEach es X.env).length=n:=by rfl)(iq:(assignEach es X.env).findIdx? (·.1)=none:=by rfl):PG X (.Tuple es k pos) (pU X.K n t):=by intro ay s O H v u Q I r hw;obtain⟨a,xs,e1,hq,hl,hw⟩:=hw;subst e1;cases r;obtain⟨its,rv,ht,hz⟩:=I.tuple hq;refine assign_Tuple_tuple (I.ok.hd hc) ht (by simp[hn,<-hl,rv.length]) iq λh' hx=>?_;have I1:Inv X ay O H {s with heap:=h'}:=I.kept (t':=s.toks) λb o e=>hx b o (fR (cJ e)) e;exact h ay _ O H xs _ Q I1 (by simpa using rv) hw
def a9e(to ti:TE)(t:KR):TG:=λv O H Q=>to O H λo H1=>ti O H1 λi H2=>t o i v H2 λH3=>Q O H3
theorem ug{o i:Expr}{to ti:TE}{t:KR}(ho:PE X o to)(hi:PE X i ti)(hs:Vp X t) (ha:∀v,assign (.Subscript o i pos) X.env v=(do
 let ov<-holding [v] (eval o X.env)
 let iv<-holding [v,ov] (eval i X.env)
 standAt pos
 holding [v,ov,iv] (setItem ov iv v)
 release [v,ov,iv] []):=by intro _;rfl):PG X (.Subscript o i pos) (a9e to ti t):=by
 intro ay s O H v u Q I r h;rw[ha];refine aV (vq (bo (ho ay s O H _ I h) λov s1 ⟨x,H1,I1,r1,q1⟩=>?_));refine aV (vq (bo (hi ay s1 O H1 _ I1 q1) λiv s2 ⟨y,H2,I2,r2,q2⟩=>?_));refine aV (wpAny_standAt (aV (vq (bo (hs ay s2 O H2 x y v ov iv u _ I2 r1 r2 r q2) λ_ s3 ⟨H3,I3,q3⟩=>?_))));exact wpAny_release ⟨O,H3,I3,q3⟩
def B0(te:TE)(g:TG):TS:=λD O H=>te O H λx H1=>g x O H1 D.nx
theorem gq{tg e:Expr}{te:TE}{g:TG}(he:PE X e te)(hg:PG X tg g)(hs:swapsWithSole [tg] e pos.line X.env=pure false:=by rfl)(hw:swappedStores [tg] e X.env=pure none:=by rfl) (h1:(assignEach [tg] X.env).map (·.2)=[assign tg X.env]:=by rfl):PS X (.Assign [tg] e pos) (B0 te g):=by intro ay s O H D I h;refine wpAny_Assign_stores (bo (he ay s O H _ I h) λv s1 ⟨x,H1,I1,r1,q1⟩=>?_) hs hw;rw[h1];exact bo (hg ay s1 O H1 x v _ I1 r1 q1) λ_ s2 q=>q
theorem a1T{i:Nat}{x:Str}{e:Expr}{te:TE}{pos':Pos}(hN:X.N.Nodup)(hi:X.N[i]? =some x)(hx:Loc X.env.scope x)(he:PE X e te)(hs:swapsWith e (some (.Name x pos')) pos.line X.env=pure false:=by rfl)(hf:X.fn x=true\/X.env.scope.names.lookup x=some .local:=by first|exact .inl rfl|exact .inr rfl|assumption): PS X (.Assign [.Name x pos'] e pos) (B0 te (fA i)):=by intro ay s O H D I h;refine wpAny_Assign_Name (bo (he ay s O H _ I h) λv s1 ⟨y,H1,I1,r1,q1⟩=>?_) hs;exact vM I1 hN hi hx r1 (λs2 I2=>⟨_,H1,I2,q1⟩) hf
inductive Vx(i:Nat)(j:Nat)(D:Ends)(O:St)(vs:List V)(H1:Hp):Prop |mk (v:_)(w:_)(h0:vs=[v,w])(h1:D.nx ((O.set i (some v)).set j (some w)) H1):Vx i j D O vs H1
def Zd(i j:Nat)(ta:TA):TS:=λD O H=>ta O H λvs H1=>Vx i j D O vs H1
theorem p9{i j:Nat}{x y:Str}{a b:Expr}{ta:TA}{px py pt:Pos} {kt k2 Ho}(hc:X.calm=true)(hN:X.N.Nodup)(hi:X.N[i]? =some x)(hj:X.N[j]? =some y)(hij:i≠j) (hx:X.env.scope.names.lookup x=some .local)(hy:X.env.scope.names.lookup y=some .local)(ha:PA X [a,b] ta) (hw:swappedStores [.Tuple [.Name x px,.Name y py] kt pt] (.Tuple [a,b] k2 Ho) X.env=pure (some [x,y])) (hs:swapsWithSole [.Tuple [.Name x px,.Name y py] kt pt] (.Tuple [a,b] k2 Ho) pos.line X.env=pure false:=by rfl): PS X (.Assign [.Tuple [.Name x px,.Name y py] kt pt] (.Tuple [a,b] k2 Ho) pos) (Zd i j ta):=by
 intro ay s O H D I h;rw[exec_Assign_arm];refine aV (wpAny_standAt ?_);rw[hs];refine aV (cA ?_);rw[bu aB];refine aV (Tuple_ (bo (ha _ ay s O H _ I h) λus s1 ⟨vs,H1,I1,r1,q1⟩=>?_));obtain⟨v,w,e1,q1⟩:=q1;subst e1;obtain⟨u1,u2,rfl,rv,jn⟩:∃u1 u2,us=[u1,u2]/\RelV v u1/\RelV w u2:=by cases r1 with |cons p q=>cases q with |cons p' q'=>cases q';exact⟨_,_,Z,p,p'⟩
 refine qy ?_ (by show 2<=sizeLine;decide);have I2:Inv X ay O H1 {s1 with heap:=s1.heap.push {cls:=.type "tuple",data:=.seq [u1,u2].toArray}}:=I1.kept (t':=s1.toks) λb o e=>cI _ e;rw[hw];refine aV (cA ?_);show wpAny (model X.prog X.w) X.A (do rule "assign.swapped-stores";let items<-unpackItems (.ref s1.heap.objs.size) 2 none;assignInOrder [λv=>bindName X.env y v,λv=>bindName X.env x v] items.reverse;pure Flow.next) _ _ _;refine aV (wpAny_rule (aV (unpackItems_tuple (items:=#[u1,u2]) (I.ok.hd hc) (IsTup.new s1.heap _) λh' hx'=>?_)));have I3:=I2.kept (h':=h') (t':=s1.toks) λb o e=>hx' b o (fR (cJ e)) e;show wpAny _ _ (assignInOrder [λv=>bindName X.env y v,λv=>bindName X.env x v] [u2,u1]>>=λ_=>pure Flow.next) _ _ _;refine aV (assignInOrder_cons (wpAny_bindName (vM I3 hN hj (.inl hy) jn (λs2 I4=>?_) (.inr hy))));refine assignInOrder_cons (wpAny_bindName (vM I4 hN hi (.inl hx) rv (λs3 I5=>assignInOrder_nil (cA ?_)) (.inr hx)));rw[List.set_comm _ _ (eu hij)]at I5;exact⟨_,H1,I5,q1⟩
inductive Xh(f:Int->Int->Int)(x:V)(y:V)(H:Hp)(Q:VK):Prop |mk (i:_)(j:_)(h0:x= .int i)(h1:y= .int j)(h2:Q (.int (f i j)) H):Xh f x y H Q
def ipI(f:Int->Int->Int):Vf:=λx y H Q=>Xh f x y H Q
theorem a6i:PIp X .Add (ipI λi j=>i+j):=by intro ay s O H x y v u Q I r1 r2 h;obtain⟨i,j,e1,e2,q⟩:=h;subst e1;subst e2;obtain⟨t,rfl⟩:=r1;obtain⟨t',rfl⟩:=r2;exact iadd_int ⟨.int _,H,I.tok _,⟨_,Z⟩,q⟩
def Mt(c:TT)(tb:TS):TS:=λD O H=>∃W:Nat->St->Hp->Prop,(∃m,W m O H)/\∀m O H,W m O H->c O H λb H1=>if b=true then∃N:St->Hp->Prop,(∀σ' H',N σ' H'->∃m',m'<m/\W m' σ' H')/\tb {D with nx:=N,ct:=N,bk:=D.nx} O H1 else D.nx O H1
theorem nO{c:Expr}{body:List Stmt}{tc:TT}{tb:TS}(hp:PassesOwn (model X.prog X.w) X.A X.env X.xe)(hc:PT X c tc)(hb:iy X body tb):PS X (.While c body [] pos) (Mt tc tb):=by intro ay s O H D I h;obtain⟨W,⟨m0,w0⟩,turn⟩:=h;refine wpAny_While (codeAny_whileLoop (λn s'=>∃σ' H',Inv X ay σ' H' s'/\W n σ' H') ?_ m0 ⟨O,H,I,w0⟩);rintro n s1 ⟨σ1,H1,I1,w1⟩;refine xT hp (bo (hc ay s1 σ1 H1 _ I1 (turn n σ1 H1 w1)) λb s2 ⟨H2,I2,q2⟩=>?_);cases b with
 |true=>obtain⟨N,hN,q2⟩:=q2;rw[bp rfl];refine xT hp (bo (hb ay s2 σ1 H2 _ I2 q2) λf s3 q3=>?_);cases f with |next=>obtain⟨σ3,H3,I3,n3⟩:=q3;obtain⟨m',hm,w3⟩:=hN σ3 H3 n3;exact⟨m',hm,σ3,H3,I3,w3⟩ |cont=>obtain⟨σ3,H3,I3,n3⟩:=q3;obtain⟨m',hm,w3⟩:=hN σ3 H3 n3;exact⟨m',hm,σ3,H3,I3,w3⟩ |brk=>exact q3 |ret v=>exact q3
 |false=>rw[bu kK];exact An ⟨σ1,H2,I2,q2⟩
end
structure It where
 go:Nat->Hp->Prop
 kg:Nat->Hp->V->Hp->Prop
 stop:Nat->Hp->Prop
def lY(X:Cx)(ay:List (Addr×Obj))(H:Hp)(b:Addr):Prop:=H b=none/\b≠X.env.locals/\b∉X.fs/\(b∈X.ex\/X.s₀.heap.objs.size<=b)/\(∀x c,X.env.cells.lookup x=some c->c≠b)/\∀p∈X.pn++ay,p.1≠b
theorem Inv.pV{X:Cx}{ay:List (Addr×Obj)}{O:St}{H H':Hp}{s:ae}{b:Addr}(I:Inv X ay O H s)(hb:s.heap.objs.size<=b)(hn:H' b=none):lY X ay H' b:=by
 refine⟨hn,DY (gB I.lt hb),I.Qq hb,.inr (iQ I.sz hb),λx c e z=>?_,λp hp z=>?_⟩
 ·obtain⟨v,q⟩:=I.cell x c e
  exact absurd (gB q.lt (by rw[z];exact hb)) (qE _)
 ·exact absurd (gB (cJ (I.pin p hp).1) (by rw[z];exact hb)) (qE _)
structure Turn(P:ah)(w:World)(K:aa)(tg:Expr)(J:It)(fp:List Addr)(it:Addr)(tn:Nat->Heap->Prop):Prop where
 mem:it∈fp
 obj:∀i h,tn i h->∀b∈fp,∃o,h.get? b=some o/\∀v,o.data≠ .cell v
 keep:∀i h h',tn i h->(∀b∈fp,∀o,h.get? b=some o->h'.get? b=some o)->tn i h'
 item:∀(X:Cx),X.prog=P->X.w=w->X.K=K->X.calm=true->∀(i:Nat)(ay:List (Addr×Obj))(s:ae)(O:St)(H:Hp)(E:Value->ae->Prop),Inv X ay O H s->(∀b∈fp,lY X ay H b)->tn i s.heap->J.go i H->wpAny (model P w) X.A (pyNext (.ref it)) (λr s1=>∃u,r=some u/\wpAny (model P w) X.A (letOwnedTupleGo tg (.ref it) u) (λ_ s2=>∃x H',Inv X ay O H' s2/\RelV x u/\J.kg i H x H'/\tn (i+1) s2.heap/\∀b∈fp,H' b=none) E s1) E s
 done:∀(X:Cx),X.prog=P->X.w=w->X.K=K->X.calm=true->∀(i:Nat)(ay:List (Addr×Obj))(s:ae)(O:St)(H:Hp)(E:Value->ae->Prop),Inv X ay O H s->(∀b∈fp,lY X ay H b)->tn i s.heap->J.stop i H->wpAny (model P w) X.A (pyNext (.ref it)) (λr s1=>r=none/\Inv X ay O H s1) E s
 self:∀(A:aj)(i:Nat)(s:ae)(Q:Value->ae->Prop)(E:Value->ae->Prop),tn i s.heap->Q (.ref it) s->wpAny (model P w) A (pyIter (.ref it)) Q E s
abbrev TI:=St->Hp->(It->Hp->Prop)->Prop
def DJ(X:Cx)(ay:List (Addr×Obj))(O:St)(tg:Expr)(R:It->Hp->Prop)(Cg:Value)(s2:ae):Prop:=∃(it:Addr)(fp:List Addr)(tn:Nat->Heap->Prop)(J:It)(H':Hp),Cg= .ref it/\Inv X ay O H' s2/\Turn X.prog X.w X.K tg J fp it tn/\tn 0 s2.heap/\(∀b∈fp,lY X ay H' b)/\R J H'
def PI(X:Cx)(tg iter:Expr)(wi:TI):Prop:=∀(ay:List (Addr×Obj))(s:ae)(O:St)(H:Hp)(R:It->Hp->Prop),Inv X ay O H s->wi O H R->wpAny (model X.prog X.w) X.A (eval iter X.env) (λv s1=>wpAny (model X.prog X.w) X.A (pyIter v) (DJ X ay O tg R) X.xe s1) X.xe s
theorem xp{M:Model}{A:aj}{E:Value->ae->Prop}{s:ae}{tg:Expr}{it:Addr}{u:Value}{o:Obj}{n:String}{vs:Array Value}{Q:Unit->ae->Prop}(ho:s.heap.get? it=some o)(hc:o.cls= .type n)(hd:o.data= .fields vs) (hn:["enumerate","zip","dict_itemiterator","dict_reverseitemiterator","odict_iterator","itertools.zip_longest","itertools.pairwise"].contains n=false)(hQ:Q () s):wpAny M A (letOwnedTupleGo tg (.ref it) u) Q E s:=by unfold letOwnedTupleGo;cases tg<;>first |exact cA hQ |(cases u<;>first
        |exact cA hQ
        | (refine aV (wpAny_load ho ?_)
           rw[hc,hd];show wpAny M A (if(["enumerate","zip","dict_itemiterator","dict_reverseitemiterator","odict_iterator","itertools.zip_longest","itertools.pairwise"].contains n&&vs[0]? ==some (rawInt _))=true then _ else _) Q E s;rw[bu (by intro h;rw[hn,lB]at h;cases h)];exact cA hQ))
def sT(K:aa)(a:Addr):It:=⟨λi H=>∃xs x,aJ K H a xs/\xs[i]? =some x,λi H x H'=>H'=H/\∀xs,aJ K H a xs->xs[i]? =some x,λi H=>∃xs,aJ K H a xs/\xs.length<=i⟩
def sS(K:aa)(a:Addr):It:=⟨λi H=>∃xs x,aU K H a xs/\xs[i]? =some x,λi H x H'=>H'=H/\∀xs,aU K H a xs->xs[i]? =some x,λi H=>∃xs,aU K H a xs/\xs.length<=i⟩
def oH(lo:Int)(n:Nat):It:=⟨λi _=>i<n,λi H x H'=>H'=H/\x= .int (lo+i),λi _=>n<=i⟩
theorem YN{P:ah}{w:World}{K:aa}{tg:Expr}(a it:Addr):Turn P w K tg (sT K a) [it] it (λi h=>h.IsListIter it a i) where
 mem:=by simp
 obj:=λi h st b hb=>by
  have e:b=it:=by simpa using hb
  subst e;obtain⟨o,e,c,d⟩:=st;exact⟨o,e,λv z=>by rw[d]at z;cases z⟩
 keep:=λi h h' st k=>st.at λo e=>k it (by simp) o e
 item:=by intro X hP hw hK hc i ay s O H E I hf st hg;subst hP hw hK;obtain⟨xs,x,hq,hx⟩:=hg;obtain⟨its,rv,p,hz⟩:=I.list hq;obtain⟨u,hu,ru⟩:=rv.get hx;obtain⟨f0,f1,f2,f3,f4,f5⟩:=hf it (by simp);refine wpAny_pyNext_list_item st p.isList (x:=u) (by simpa using hu) λh' gY sb=>?_;have I1:Inv X ay O H {s with heap:=h'}:=I.turned (t':=s.toks) (λb o hb e=>(sb.2 b hb).trans e) f0 f1 f3 f4 f5;obtain⟨o,e,c,d⟩:=id gY;exact⟨u,Z,xp (s:={s with heap:=h'}) e c d aB ⟨x,H,I1,ru,⟨Z,λys hy=>by rw[I.Rg hy hq];exact hx⟩,gY,λb hb=>(hf b hb).1⟩⟩
 done:=by intro X hP hw hK hc i ay s O H E I hf st hg;subst hP hw hK;obtain⟨xs,hq,hx⟩:=hg;obtain⟨its,rv,p,hz⟩:=I.list hq;obtain⟨f0,f1,f2,f3,f4,f5⟩:=hf it (by simp);have hl:=rv.length;exact wpAny_pyNext_list_end (I.ok.hd hc) st p.isList (by simp;lia) λh' eb=>⟨Z,I.turned (t':=s.toks) (λb o hb e=>eb b o hb e) f0 f1 f3 f4 f5⟩
 self:=λ_ _ _ _ _ st h=>wpAny_pyIter_listiter st h
theorem YJ{P:ah}{w:World}{K:aa}{tg:Expr}(a it:Addr):Turn P w K tg (sS K a) [it] it (λi h=>h.IsTupleIter it a i) where
 mem:=by simp
 obj:=λi h st b hb=>by
  have e:b=it:=by simpa using hb
  subst e;obtain⟨o,e,c,d⟩:=st;exact⟨o,e,λv z=>by rw[d]at z;cases z⟩
 keep:=λi h h' st k=>st.at λo e=>k it (by simp) o e
 item:=by intro X hP hw hK hc i ay s O H E I hf st hg;subst hP hw hK;obtain⟨xs,x,hq,hx⟩:=hg;obtain⟨its,rv,p,hz⟩:=I.tuple hq;obtain⟨u,hu,ru⟩:=rv.get hx;obtain⟨f0,f1,f2,f3,f4,f5⟩:=hf it (by simp);refine wpAny_pyNext_tuple_item st (show s.heap.IsTuple a its.toArray from p) (x:=u) (by simpa using hu) λh' gY sb=>?_;have I1:Inv X ay O H {s with heap:=h'}:=I.turned (t':=s.toks) (λb o hb e=>(sb.2 b hb).trans e) f0 f1 f3 f4 f5;obtain⟨o,e,c,d⟩:=id gY;exact⟨u,Z,xp (s:={s with heap:=h'}) e c d aB ⟨x,H,I1,ru,⟨Z,λys hy=>by rw[I.Mo hy hq];exact hx⟩,gY,λb hb=>(hf b hb).1⟩⟩
 done:=by intro X hP hw hK hc i ay s O H E I hf st hg;subst hP hw hK;obtain⟨xs,hq,hx⟩:=hg;obtain⟨its,rv,p,hz⟩:=I.tuple hq;obtain⟨f0,f1,f2,f3,f4,f5⟩:=hf it (by simp);have hl:=rv.length;exact wpAny_pyNext_tuple_end (I.ok.hd hc) st (show s.heap.IsTuple a its.toArray from p) (by simp;lia) λh' eb=>⟨Z,I.turned (t':=s.toks) (λb o hb e=>eb b o hb e) f0 f1 f3 f4 f5⟩
 self:=λ_ _ _ _ _ st h=>wpAny_pyIter_tupleiter st h
theorem YM{P:ah}{w:World}{K:aa}{tg:Expr}(it:Addr)(lo:Int)(n:Nat):Turn P w K tg (oH lo n) [it] it (λi h=>IsRangeIter h it (lo+(i:Nat)*1) ((n:Int)-(i:Nat)) 1) where
 mem:=by simp
 obj:=λi h st b hb=>by
  have e:b=it:=by simpa using hb
  subst e;exact⟨_,st,λv z=>by have z':Data.fields _=Data.cell v:=z;cases z'⟩
 keep:=λi h h' st k=>k it (by simp) _ st
 item:=by intro X hP hw hK hc i ay s O H E I hf st hg;subst hP hw hK;obtain⟨f0,f1,f2,f3,f4,f5⟩:=hf it (by simp);have W:=Walks.range (prog:=X.prog) (w:=X.w) (I.ok.hd hc) it lo 1 n;refine W.item i s _ _ hg st λv h' tk hv gY kk=>?_;obtain⟨t,rfl⟩:=hv;have I1:Inv X ay O H {s with heap:=h',toks:=tk}:=I.turned (λb o hb e=>kk b o (by simpa using hb) e) f0 f1 f3 f4 f5;refine⟨_,Z,xp (s:={s with heap:=h',toks:=tk}) (n:="range_iterator") gY rfl rfl aB ⟨.int (lo+i),H,I1,⟨t,?_⟩,⟨Z,Z⟩,gY,λb hb=>(hf b hb).1⟩⟩;rw[Int.mul_one]
 done:=by intro X hP hw hK hc i ay s O H E I hf st hg;subst hP hw hK;obtain⟨f0,f1,f2,f3,f4,f5⟩:=hf it (by simp);exact XE (I.ok.hd hc) st (by have:n<=i:=hg;lia) λh' eb=>⟨Z,I.turned (t':=s.toks) (λb o hb e=>eb b o hb e) f0 f1 f3 f4 f5⟩
 self:=λ_ _ _ _ _ st h=>Lk st h
section
variable {X:Cx} {tg:Expr}
inductive Xp(K:aa)(R:It->Hp->Prop)(x:V)(H1:Hp):Prop |mk (a:_)(h0:x= .ref a)(h1:(∃xs,aJ K H1 a xs))(h2:R (sT K a) H1):Xp K R x H1
def RV(K:aa)(tl:TE):TI:=λO H R=>tl O H λx H1=>Xp K R x H1
inductive Xj(K:aa)(R:It->Hp->Prop)(x:V)(H1:Hp):Prop |mk (a:_)(h0:x= .ref a)(h1:(∃xs,aU K H1 a xs))(h2:R (sS K a) H1):Xj K R x H1
def RU(K:aa)(tl:TE):TI:=λO H R=>tl O H λx H1=>Xj K R x H1
theorem a29{l:Expr}{tl:TE}(hl:PE X l tl):PI X tg l (RV X.K tl):=by
 intro ay s O H R I h;refine bo (hl ay s O H _ I h) λv s1 ⟨x,H1,I1,r1,q1⟩=>?_;obtain⟨a,e,⟨xs,hq⟩,q⟩:=q1;subst e;cases r1;obtain⟨its,rv,p,hz⟩:=I1.list hq;refine DN p.isList ?_;refine⟨s1.heap.objs.size,[s1.heap.objs.size],_,_,H1,Z,I1.kept (t':=s1.toks) λb o e=>cI _ e,YN a _,⟨_,fq _ Z,Z,Z⟩,λb hb=>?_,q⟩;have e:b=s1.heap.objs.size:=by simpa using hb
 subst e;exact I1.pV (bR _) (I1.bj.fresh (bR _))
theorem a25{l:Expr}{tl:TE}(hl:PE X l tl):PI X tg l (RU X.K tl):=by
 intro ay s O H R I h;refine bo (hl ay s O H _ I h) λv s1 ⟨x,H1,I1,r1,q1⟩=>?_;obtain⟨a,e,⟨xs,hq⟩,q⟩:=q1;subst e;cases r1;obtain⟨its,rv,p,hz⟩:=I1.tuple hq;refine wpAny_pyIter_tuple (show s1.heap.IsTuple a its.toArray from p) ?_;refine⟨s1.heap.objs.size,[s1.heap.objs.size],_,_,H1,Z,I1.kept (t':=s1.toks) λb o e=>cI _ e,YJ a _,⟨_,fq _ Z,Z,Z⟩,λb hb=>?_,q⟩;have e:b=s1.heap.objs.size:=by simpa using hb
 subst e;exact I1.pV (bR _) (I1.bj.fresh (bR _))
theorem Pt{ay:List (Addr×Obj)}{O:St}{H:Hp}{s:ae}{R:It->Hp->Prop}{E:Value->ae->Prop}{lo hi:Int}{t u v:Tok}{tk:Nat}(I:Inv X ay O H s)(h1:-(2^62)<=lo)(h2:lo<2^62)(h3:-(2^62)<=hi)(h4:hi<2^62) (q:R (oH lo (hi-lo).toNat) H):wpAny (model X.prog X.w) X.A (pyIter (.ref s.heap.objs.size)) (DJ X ay O tg R) E {s with heap:=s.heap.push {cls:=.type "range",data:=.fields #[.int lo t,.int hi u,.int 1 v]},toks:=tk}:=by
 refine wpAny_pyIter_range (IsRange.new ..) (small_one h1 h2 h3 h4) ?_;have I1:Inv X ay O H {s with heap:=s.heap.push {cls:=.type "range",data:=.fields #[.int lo t,.int hi u,.int 1 v]},toks:=tk}:=I.kept λb o e=>cI _ e;refine⟨(s.heap.push {cls:=.type "range",data:=.fields #[.int lo t,.int hi u,.int 1 v]}).objs.size,[(s.heap.push {cls:=.type "range",data:=.fields #[.int lo t,.int hi u,.int 1 v]}).objs.size],_,_,H,Z,I1.kept (t':=tk) λb o e=>cI _ e,YM _ lo (hi-lo).toNat,?_,λb hb=>?_,q⟩
 ·have e1:lo+((0:Nat):Int)*1=lo:=by simp
  have e2:(((hi-lo).toNat:Nat):Int)-((0:Nat):Int)=Builtin.Range.rangeSize lo hi 1:=by rw[rangeSize_one];split<;>lia
  show IsRangeIter _ _ (lo+((0:Nat):Int)*1) ((((hi-lo).toNat:Nat):Int)-((0:Nat):Int)) 1;rw[e1,e2];exact fq _ rfl
 ·have e:b=(s.heap.push {cls:=.type "range",data:=.fields #[.int lo t,.int hi u,.int 1 v]}).objs.size:=by simpa using hb
  subst e;exact I1.pV (bR _) (I1.bj.fresh (bR _))
inductive Xn(R:It->Hp->Prop)(vs:List V)(H1:Hp):Prop |mk (j:Int)(h0:vs=[.int j])(h1:-(2^62)<=j)(h2:j<2^62)(h3:R (oH 0 j.toNat) H1):Xn R vs H1
def a6w(ta:TA):TI:=λO H R=>ta O H λvs H1=>Xn R vs H1
inductive Xm(R:It->Hp->Prop)(vs:List V)(H1:Hp):Prop |mk (i:Int)(j:Int)(h0:vs=[.int i,.int j])(h1:(-(2^62)<=i/\i<2^62/\-(2^62)<=j/\j<2^62))(h2:R (oH i (j-i).toNat) H1):Xm R vs H1
def a6v(ta:TA):TI:=λO H R=>ta O H λvs H1=>Xm R vs H1
theorem yK{a:Expr}{ta:TA}{p pos:Pos}(hg:Gl X "range")(hm:X.mg "range"=none)(ha:PA X [a] ta)(hs:starEach [a] X.env=[(false,eval a X.env)]:=by rfl):PI X tg (.Call (.Name "range" p) [a] [] pos) (a6w ta):=by intro ay s O H R I h;refine Call_ (pF I hg hm boot_range (xX (bo (ha pos ay s O H _ I h) λus s1 ⟨vs,H1,I1,r1,q1⟩=>?_) hs Z));obtain⟨j,e,q1,q2,q⟩:=q1;subst e;cases r1 with |cons r rr=>cases rr;obtain⟨t,rfl⟩:=r;exact call_range_1 (Pt I1 aw aw q1 q2 (by simpa using q))
theorem PK{a b:Expr}{ta:TA}{p pos:Pos}(hg:Gl X "range")(hm:X.mg "range"=none)(ha:PA X [a,b] ta)(hs:starEach [a,b] X.env=[(false,eval a X.env),(false,eval b X.env)]:=by rfl)(jy:starEach [b] X.env=[(false,eval b X.env)]:=by rfl): PI X tg (.Call (.Name "range" p) [a,b] [] pos) (a6v ta):=by intro ay s O H R I h;refine Call_ (pF I hg hm boot_range (xX (bo (ha pos ay s O H _ I h) λus s1 ⟨vs,H1,I1,r1,q1⟩=>?_) (by rw[hs,jy]) (by rw[jy];rfl)));obtain⟨i,j,e,⟨q1,q2,q3,q4⟩,q⟩:=q1;subst e;cases r1 with |cons r rr=>cases rr with |cons r' rr=>cases rr;obtain⟨t,rfl⟩:=r;obtain⟨t',rfl⟩:=r';exact call_range_2 (Pt I1 q1 q2 q3 q4 q)
def Zo(wi:TI)(g:TG)(tb:TS):TS:=λD O H=>wi O H λJ H1=>∃W:Nat->Nat->St->Hp->Prop,(∃m,W 0 m O H1)/\∀i m O H,W i m O H->(J.stop i H/\D.nx O H)\/(J.go i H/\∃N:St->Hp->Prop,(∀σ' H',N σ' H'->∃m',m'<m/\W (i+1) m' σ' H')/\∀x H',J.kg i H x H'->g x O H' λσ2 H2=>tb {D with nx:=N,ct:=N,bk:=D.nx} σ2 H2)
def wm(fp:List Addr)(h:Heap):List (Addr×Obj):=fp.filterMap λb=>(h.get? b).map λo=>(b,o)
theorem wN{fp:List Addr}{h:Heap}{b:Addr}{o:Obj}(hb:b∈fp)(e:h.get? b=some o):(b,o)∈wm fp h:=oO.mpr ⟨b,hb,by rw[e];rfl⟩
theorem a4j{fp:List Addr}{h:Heap}{p:Addr×Obj}(hp:p∈wm fp h):p.1∈fp/\h.get? p.1=some p.2:=by obtain⟨b,hb,e⟩:=oO.mp hp;cases q:h.get? b with |none=>rw[q]at e;cases e |some o=>rw[q]at e;have e':(b,o)=p:=eg e;subst e';exact⟨hb,q⟩
theorem Inv.pinned{ay:List (Addr×Obj)}{O:St}{H:Hp}{s:ae}{fp:List Addr}(I:Inv X ay O H s)(hf:∀b∈fp,lY X ay H b)(ho:∀b∈fp,∃o,s.heap.get? b=some o/\∀v,o.data≠ .cell v):Inv X (ay++wm fp s.heap) O H s:=I.PJ λp hp=>(vy.mp hp).elim (λz=>I.pin p (lZ _ z)) λz=>by obtain⟨hb,e⟩:=a4j z;obtain⟨f0,f1,f2,_⟩:=hf p.1 hb;obtain⟨o,e',d⟩:=ho p.1 hb;rw[e]at e';cases e';exact⟨e,f0,f1,f2,d⟩
theorem Inv.yc{ay pl:List (Addr×Obj)}{O:St}{H:Hp}{s:ae}(I:Inv X (ay++pl) O H s):Inv X ay O H s:=I.PJ λp hp=>I.pin p (lZ _ (XZ _ hp))
theorem me{iter:Expr}{body:List Stmt}{wi:TI}{g:TG}{tb:TS}{pos:Pos}(hp:PassesOwn (model X.prog X.w) X.A X.env X.xe)(hc:X.calm=true)(hi:PI X tg iter wi)(hg:PG X tg g)(hb:iy X body tb) (hs:∀x,foldedSetIterable iter X.env x=pure x:=by intro _;rfl):PS X (.For tg iter body [] pos) (Zo wi g tb):=by
 intro ay s O H D I h;refine wpAny_For (bo (hi ay s O H _ I h) λv s1 h1=>bo h1 λCg s2 h2=>?_) hs;obtain⟨it,fp,tn,J,H2,e,I2,T,tQ,f2,W,⟨m0,w0⟩,turn⟩:=h2;subst e;have mE:∀{H':Hp},(∀b∈fp,H' b=none)->∀b∈fp,lY X ay H' b:=λhn b hb=>⟨hn b hb,(f2 b hb).2⟩;refine codeAny_forLoop_any (λn s'=>∃i σ' H',Inv X ay σ' H' s'/\tn i s'.heap/\(∀b∈fp,H' b=none)/\W i n σ' H') ?_ m0 ⟨0,O,H2,I2,tQ,λb hb=>(f2 b hb).1,w0⟩;rintro n s3 ⟨i,σ3,H3,I3,MM,Ti,w3⟩;rcases turn i n σ3 H3 w3 with⟨stop,qn⟩|⟨go,N,hN,step⟩
 ·refine xT hp (bo (T.done X Z Z Z hc i ay s3 σ3 H3 X.xe I3 (mE Ti) MM stop) λr s4 ⟨hr,I4⟩=>?_)
  subst hr;exact An ⟨σ3,H3,I4,qn⟩
 ·refine xT hp (bo (T.item X Z Z Z hc i ay s3 σ3 H3 X.xe I3 (mE Ti) MM go) λr s4 ⟨u,hr,h4⟩=>?_)
  subst hr;refine xT hp (bo h4 λ_ s5 ⟨x,H5,I5,r5,y5,p4,uV⟩=>?_);have I5':=I5.pinned (mE uV) (T.obj _ _ p4);refine xT hp (bo (hg _ s5 σ3 H5 x u _ I5' r5 (step x H5 y5)) λ_ s6 ⟨σ6,H6,I6,q6⟩=>?_);refine xT hp (bo (hb _ s6 σ6 H6 _ I6 q6) λf s7 q7=>?_);have again:∀{σ7:St}{H7:Hp},Inv X (ay++wm fp s5.heap) σ7 H7 s7->N σ7 H7->∃m,m<n/\∃i σ' H',Inv X ay σ' H' s7/\tn i s7.heap/\(∀b∈fp,H' b=none)/\W i m σ' H':=λ{σ7 H7} I7 n7=>by obtain⟨m',hm,w7⟩:=hN σ7 H7 n7;refine⟨m',hm,i+1,σ7,H7,I7.yc,T.keep _ _ _ p4 λb hb o e=>(I7.pin (b,o) (lZ _ (lZ _ (wN hb e)))).1,λb hb=>?_,w7⟩;obtain⟨o,e,d⟩:=T.obj _ _ p4 b hb;exact(I7.pin (b,o) (lZ _ (lZ _ (wN hb e)))).2.1
  cases f with |next=>obtain⟨σ7,H7,I7,n7⟩:=q7;exact again I7 n7 |cont=>obtain⟨σ7,H7,I7,n7⟩:=q7;exact again I7 n7 |brk=>obtain⟨σ7,H7,I7,q7⟩:=q7;exact⟨σ7,H7,I7.yc,q7⟩ |ret v=>obtain⟨x7,σ7,H7,I7,r7,q7⟩:=q7;exact⟨x7,σ7,H7,I7.yc,r7,q7⟩
end
theorem JQ{K:aa}{a:Addr}{xs:List V}{g:TG}{tb:TS}{D:Ends}{O:St}{H:Hp}(Pv:Nat->St->Hp->Prop)(h0:Pv 0 O H)(hl:∀i O H,i<=xs.length->Pv i O H->aJ K H a xs) (hs:∀i x O H,xs[i]? =some x->Pv i O H->g x O H λσ2 H2=>tb {D with nx:=Pv (i+1),ct:=Pv (i+1),bk:=D.nx} σ2 H2)(hd:∀O H,Pv xs.length O H->D.nx O H): ∃W:Nat->Nat->St->Hp->Prop,(∃m,W 0 m O H)/\∀i m O H,W i m O H->((sT K a).stop i H/\D.nx O H)\/((sT K a).go i H/\∃N:St->Hp->Prop,(∀σ' H',N σ' H'->∃m',m'<m/\W (i+1) m' σ' H')/\∀x H',(sT K a).kg i H x H'->g x O H' λσ2 H2=>tb {D with nx:=N,ct:=N,bk:=D.nx} σ2 H2):=by
 refine⟨λi m O H=>m=xs.length-i/\i<=xs.length/\Pv i O H,⟨xs.length,by simp,gj _,h0⟩,?_⟩;rintro i m O H ⟨rfl,hi,p⟩;have q:=hl i O H hi p;by_cases cF:i<xs.length
 ·refine .inr ⟨⟨xs,xs[i],q,by simp[cF]⟩,Pv (i+1),λσ' H' p'=>⟨xs.length-(i+1),aw,Z,cF,p'⟩,λx H' y=>?_⟩
  obtain⟨e,y⟩:=y;subst e;exact hs i x O _ (y xs q) p
 ·have e:i=xs.length:=by lia
  subst e;exact .inl ⟨⟨xs,q,bR _⟩,hd O H p⟩
theorem a9g{K:aa}{a:Addr}{xs:List V}{g:TG}{tb:TS}{D:Ends}{O:St}{H:Hp}(Pv:Nat->St->Hp->Prop)(h0:Pv 0 O H)(hl:∀i O H,i<=xs.length->Pv i O H->aU K H a xs) (hs:∀i x O H,xs[i]? =some x->Pv i O H->g x O H λσ2 H2=>tb {D with nx:=Pv (i+1),ct:=Pv (i+1),bk:=D.nx} σ2 H2)(hd:∀O H,Pv xs.length O H->D.nx O H): ∃W:Nat->Nat->St->Hp->Prop,(∃m,W 0 m O H)/\∀i m O H,W i m O H->((sS K a).stop i H/\D.nx O H)\/((sS K a).go i H/\∃N:St->Hp->Prop,(∀σ' H',N σ' H'->∃m',m'<m/\W (i+1) m' σ' H')/\∀x H',(sS K a).kg i H x H'->g x O H' λσ2 H2=>tb {D with nx:=N,ct:=N,bk:=D.nx} σ2 H2):=by
 refine⟨λi m O H=>m=xs.length-i/\i<=xs.length/\Pv i O H,⟨xs.length,by simp,gj _,h0⟩,?_⟩;rintro i m O H ⟨rfl,hi,p⟩;have q:=hl i O H hi p;by_cases cF:i<xs.length
 ·refine .inr ⟨⟨xs,xs[i],q,by simp[cF]⟩,Pv (i+1),λσ' H' p'=>⟨xs.length-(i+1),dM,Z,cF,p'⟩,λx H' y=>?_⟩
  obtain⟨e,y⟩:=y;subst e;exact hs i x O _ (y xs q) p
 ·have e:i=xs.length:=by omega
  subst e;exact .inl ⟨⟨xs,q,bR _⟩,hd O H p⟩
theorem CY{lo:Int}{n:Nat}{g:TG}{tb:TS}{D:Ends}{O:St}{H:Hp}(Pv:Nat->St->Hp->Prop)(h0:Pv 0 O H) (hs:∀i O H,i<n->Pv i O H->g (.int (lo+i)) O H λσ2 H2=>tb {D with nx:=Pv (i+1),ct:=Pv (i+1),bk:=D.nx} σ2 H2)(hd:∀O H,Pv n O H->D.nx O H): ∃W:Nat->Nat->St->Hp->Prop,(∃m,W 0 m O H)/\∀i m O H,W i m O H->((oH lo n).stop i H/\D.nx O H)\/((oH lo n).go i H/\∃N:St->Hp->Prop,(∀σ' H',N σ' H'->∃m',m'<m/\W (i+1) m' σ' H')/\∀x H',(oH lo n).kg i H x H'->g x O H' λσ2 H2=>tb {D with nx:=N,ct:=N,bk:=D.nx} σ2 H2):=by
 refine⟨λi m O H=>m=n-i/\i<=n/\Pv i O H,⟨n,by simp,gj _,h0⟩,?_⟩;rintro i m O H ⟨rfl,hi,p⟩;by_cases cF:i<n
 ·refine .inr ⟨cF,Pv (i+1),λσ' H' p'=>⟨n-(i+1),aw,Z,cF,p'⟩,λx H' y=>?_⟩
  obtain⟨e,y⟩:=y;subst e y;exact hs i O _ cF p
 ·have e:i=n:=by lia
  subst e;exact .inl ⟨bR _,hd O H p⟩
theorem nc{c:TT}{tb:TS}{D:Ends}{O:St}{H:Hp}(Pv:St->Hp->Prop)(μ:St->Hp->Nat)(h0:Pv O H) (hs:∀O H,Pv O H->c O H λb H1=>if b=true then tb {D with nx:=λσ' H'=>Pv σ' H'/\μ σ' H'<μ O H,ct:=λσ' H'=>Pv σ' H'/\μ σ' H'<μ O H,bk:=D.nx} O H1 else D.nx O H1) (mono:∀O H Q Q',(∀b H1,Q b H1->Q' b H1)->c O H Q->c O H Q'):Mt c tb D O H:=by refine⟨λm O H=>m=μ O H/\Pv O H,⟨_,Z,h0⟩,?_⟩;rintro m O H ⟨rfl,p⟩;refine mono O H _ _ (λb H1 q=>?_) (hs O H p);cases b with |true=>exact⟨_,λσ' H' ⟨p',l⟩=>⟨_,l,Z,p'⟩,q⟩ |false=>exact q
abbrev R2:=V->V->Hp->VK->Prop
def dH(X:Cx)(f:Value->Value->Sem Value)(r:R2):Prop:=∀(ay:List (Addr×Obj))(s:ae)(O:St)(H:Hp)(x y:V)(v u:Value)(Q:VK),Inv X ay O H s->RelV x v->RelV y u->r x y H Q->wpAny (model X.prog X.w) X.A (f v u) (EP X ay O Q) X.xe s
def KO(X:Cx)(f:Value->Sem Value)(r:V->Hp->VK->Prop):Prop:=∀(ay:List (Addr×Obj))(s:ae)(O:St)(H:Hp)(x:V)(v:Value)(Q:VK),Inv X ay O H s->RelV x v->r x H Q->wpAny (model X.prog X.w) X.A (f v) (EP X ay O Q) X.xe s
def fL(X:Cx)(f:Value)(r:List V->Hp->VK->Prop):Prop:=∀(ay:List (Addr×Obj))(s:ae)(O:St)(H:Hp)(xs:List V)(us:List Value)(Q:VK),Inv X ay O H s->Vals xs us->r xs H Q->wpAny (model X.prog X.w) X.A (call f us) (EP X ay O Q) X.xe s
def acM(X:Cx)(r:V->Hp->(Bool->Hp->Prop)->Prop):Prop:=∀(ay:List (Addr×Obj))(s:ae)(O:St)(H:Hp)(x:V)(v:Value)(Q:Bool->Hp->Prop),Inv X ay O H s->RelV x v->r x H Q->wpAny (model X.prog X.w) X.A (truthy v) (TP X ay O Q) X.xe s
def yk(r:R2)(ta tb:TE):TE:=λO H Q=>ta O H λx H1=>tb O H1 λy H2=>r x y H2 Q
def YY(r:V->Hp->VK->Prop)(ta:TE):TE:=λO H Q=>ta O H λx H1=>r x H1 Q
inductive Xb(C:Int->Int->Prop)(g:Int->Int->V)(x:V)(y:V)(H:Hp)(Q:VK):Prop |mk (i:_)(j:_)(h0:x= .int i)(h1:y= .int j)(h2:C i j)(h3:Q (g i j) H):Xb C g x y H Q
def rI(C:Int->Int->Prop)(g:Int->Int->V):R2:=λx y H Q=>Xb C g x y H Q
inductive Xa(g:Int->Int->V)(x:V)(y:V)(H:Hp)(Q:VK):Prop |mk (i:_)(j:_)(h0:x= .int i)(h1:y= .int j)(h2:Q (g i j) H):Xa g x y H Q
def kP(g:Int->Int->V):R2:=λx y H Q=>Xa g x y H Q
inductive WU(g:Int->V)(x:V)(H:Hp)(Q:VK):Prop |mk (i:_)(h0:x= .int i)(h1:Q (g i) H):WU g x H Q
def rU(g:Int->V):V->Hp->VK->Prop:=λx H Q=>WU g x H Q
section
variable {X:Cx}{a b c:Expr}{ta tb tc:TE}{pos:Pos}
theorem KA(ha:PE X a ta)(hb:PE X b tb){ay:List (Addr×Obj)}{s:ae}{O:St}{H:Hp}{R:V->V->Hp->Prop}(I:Inv X ay O H s) (h:ta O H λx H1=>tb O H1 λy H2=>R x y H2){Q:Value->ae->Prop}{f:Value->Value->Sem Value} (hf:∀v u s2 x y H2,Inv X ay O H2 s2->RelV x v->RelV y u->R x y H2->wpAny (model X.prog X.w) X.A (f v u) Q X.xe s2): wpAny (model X.prog X.w) X.A (eval a X.env) (λv s₁=>wpAny (model X.prog X.w) X.A (eval b X.env) (λu s₂=>wpAny (model X.prog X.w) X.A (f v u) Q X.xe s₂) X.xe s₁) X.xe s:=by refine bo (ha ay s O H _ I h) λv s1 ⟨x,H1,I1,r1,q1⟩=>?_;refine bo (hb ay s1 O H1 _ I1 q1) λu s2 ⟨y,H2,I2,r2,q2⟩=>?_;exact hf v u s2 x y H2 I2 r1 r2 q2
theorem aO{op:Operator}{r:R2}(ho:dH X (binaryOp op) r)(ha:PE X a ta)(hb:PE X b tb):PE X (.BinOp a op b pos) (yk r ta tb):=by intro ay s O H Q I h;exact wpAny_BinOp (KA ha hb I h λv u s2 x y H2 I2 rx ry q=>ho ay s2 O H2 x y v u Q I2 rx ry q)
theorem yM{op:UnaryOp}{r:V->Hp->VK->Prop}(ho:KO X (unaryOp op) r)(ha:PE X a ta):PE X (.UnaryOp op a pos) (YY r ta):=by intro ay s O H Q I h;exact UnaryOp_ (bo (ha ay s O H _ I h) λv s1 ⟨x,H1,I1,r1,q1⟩=>ho ay s1 O H1 x v Q I1 r1 q1)
theorem yR{f:Value->Value->Sem Value}{C:Int->Int->Prop}{g:Int->Int->Int} (rule:∀(i j:Int)(t u:Tok)(s:ae)(Q:Value->ae->Prop)(E:Value->ae->Prop),C i j->Q (.int (g i j) s.toks) {s with toks:=s.toks+1}->wpAny (model X.prog X.w) X.A (f (.int i t) (.int j u)) Q E s): dH X f (rI C λi j=>.int (g i j)):=by intro ay s O H x y v u Q I rx ry h;obtain⟨i,j,rfl,rfl,hc,q⟩:=h;obtain⟨t,rfl⟩:=rx;obtain⟨t',rfl⟩:=ry;exact rule i j t t' s _ _ hc ⟨.int (g i j),H,I.tok _,⟨_,Z⟩,q⟩
theorem Qf{f:Value->Value->Sem Value}{g:Int->Int->Int} (rule:∀(i j:Int)(t u:Tok)(s:ae)(Q:Value->ae->Prop)(E:Value->ae->Prop),Q (.int (g i j) s.toks) {s with toks:=s.toks+1}->wpAny (model X.prog X.w) X.A (f (.int i t) (.int j u)) Q E s): dH X f (kP λi j=>.int (g i j)):=by intro ay s O H x y v u Q I rx ry h;obtain⟨i,j,rfl,rfl,q⟩:=h;obtain⟨t,rfl⟩:=rx;obtain⟨t',rfl⟩:=ry;exact rule i j t t' s _ _ ⟨.int (g i j),H,I.tok _,⟨_,Z⟩,q⟩
theorem wy{f:Value->Value->Sem Value}{g:Int->Int->Bool} (rule:∀(i j:Int)(t u:Tok)(s:ae)(Q:Value->ae->Prop)(E:Value->ae->Prop),Q (.bool (g i j)) s->wpAny (model X.prog X.w) X.A (f (.int i t) (.int j u)) Q E s): dH X f (kP λi j=>.bl (g i j)):=by intro ay s O H x y v u Q I rx ry h;obtain⟨i,j,rfl,rfl,q⟩:=h;obtain⟨t,rfl⟩:=rx;obtain⟨t',rfl⟩:=ry;exact rule i j t t' s _ _ ⟨.bl (g i j),H,I,Z,q⟩
def ad0(i j:Int):Prop:=0<=j/\j<=1000000/\i.natAbs<2^64
theorem da:dH X (binaryOp .Add) (kP λi j=>.int (i+j)):=Qf λ_ _ _ _ _ _ _ q=>add_int q
theorem gG:dH X (binaryOp .Sub) (kP λi j=>.int (i-j)):=Qf λ_ _ _ _ _ _ _ q=>sub_int q
theorem pA:dH X (binaryOp .Mod) (rI (λ_ j=>0<j) λi j=>.int (i%j)):=yR λi j _ _ _ _ _ hc q=>by have h1:(0:Int)<j:=hc;exact mod_int' aw (by rw[Int.fmod_eq_emod_of_nonneg i aw];exact q)
theorem wu:dH X (binaryOp .Pow) (rI ad0 λi j=>.int (i^j.toNat)):=yR λ_ _ _ _ _ _ _ hc q=>pow_int_small hc.1 hc.2.1 hc.2.2 q
theorem YC{f:Value->Sem Value}{g:Int->Int} (rule:∀(i:Int)(t:Tok)(s:ae)(Q:Value->ae->Prop)(E:Value->ae->Prop),Q (.int (g i) s.toks) {s with toks:=s.toks+1}->wpAny (model X.prog X.w) X.A (f (.int i t)) Q E s): KO X f (rU λi=>.int (g i)):=by intro ay s O H x v Q I rx h;obtain⟨i,rfl,q⟩:=h;obtain⟨t,rfl⟩:=rx;exact rule i t s _ _ ⟨.int (g i),H,I.tok _,⟨_,Z⟩,q⟩
theorem yd:KO X (unaryOp .USub) (rU λi=>.int (-i)):=YC λ_ _ _ _ _ q=>neg_int q
theorem JU{ay:List (Addr×Obj)}{O:St}{H:Hp}{s:ae}{Q:VK}{k k':Bool}(I:Inv X ay O H s)(q:Q (.bl k) H)(e:k=k'):EP X ay O Q (.bool k') s:=by subst e;exact⟨.bl k,H,I,Z,q⟩
theorem kl:dH X (compareOp .Lt) (kP λi j=>.bl (decide (i<j))):=wy λ_ _ _ _ _ _ _ q=>lt_int q
theorem wx:dH X (compareOp .LtE) (kP λi j=>.bl (decide (i<=j))):=wy λ_ _ _ _ _ _ _ q=>le_int q
theorem uh:dH X (compareOp .Gt) (kP λi j=>.bl (decide (j<i))):=wy λ_ _ _ _ _ _ _ q=>gt_int q
theorem BG:dH X (compareOp .GtE) (kP λi j=>.bl (decide (j<=i))):=wy λ_ _ _ _ _ _ _ q=>ge_int q
theorem a2E:dH X (compareOp .In) (λx y H Q=>∃i j,x= .str i/\y= .str j/\Q (.bl (!(Builtin.Str.occurrences j i 0 j.length 1).isEmpty)) H):=by intro ay s O H x y v u Q I rx ry h;obtain⟨i,j,rfl,rfl,q⟩:=h;obtain⟨t,rfl⟩:=rx;obtain⟨t',rfl⟩:=ry;exact in_str (JU I q Z)
theorem HP:dH X (compareOp .Is) (λx y H Q=>y= .bw/\Q (.bl (decide (x= .bw))) H):=by intro ay s O H x y v u Q I rx ry h;obtain⟨rfl,q⟩:=h;cases ry;refine is_none_gen (JU I q ?_);cases x<;>first |(cases rx;rfl) |(obtain⟨t,rfl⟩:=rx;rfl)
theorem yQ:dH X (compareOp .IsNot) (λx y H Q=>y= .bw/\Q (.bl (!decide (x= .bw))) H):=by intro ay s O H x y v u Q I rx ry h;obtain⟨rfl,q⟩:=h;cases ry;refine isnot_none_gen (JU I q ?_);cases x<;>first |(cases rx;rfl) |(obtain⟨t,rfl⟩:=rx;rfl)
theorem dH.or{f:Value->Value->Sem Value}{r r':R2}(h:dH X f r)(h':dH X f r'):dH X f (λx y H Q=>r x y H Q\/r' x y H Q):=by
 intro ay s O H x y v u Q I rx ry q;rcases q with q|q
 ·exact h ay s O H x y v u Q I rx ry q
 ·exact h' ay s O H x y v u Q I rx ry q
theorem bB(b:Expr){op:CmpOp}(h:op≠ .In:=by decide)(h2:op≠ .NotIn:=by decide):behindInMarks op b=false:=by
 have e1:(op==CmpOp.In)=false:=by cases op<;>first|rfl|exact absurd rfl h
 have e2:(op==CmpOp.NotIn)=false:=by cases op<;>first|rfl|exact absurd rfl h2
 cases b<;>simp[behindInMarks,e1,e2]
theorem fH{op:CmpOp}{r:R2}(ho:dH X (compareOp op) r)(ha:PE X a ta)(hb:PE X b tb)(hm:behindInMarks op b=false):PE X (.Compare a [op] [b] pos) (yk r ta tb):=by intro ay s O H Q I h;exact wpAny_Compare1 (KA ha hb I h λv u s2 x y H2 I2 rx ry q=>ho ay s2 O H2 x y v u Q I2 rx ry q) hm
inductive Vv(Q:Bool->Hp->Prop)(x:V)(H':Hp):Prop |mk (k:_)(h0:x= .bl k)(h1:Q k H'):Vv Q x H'
def Mu(t:TE):TT:=λO H Q=>t O H λx H'=>Vv Q x H'
theorem ck{op:CmpOp}{r:R2}(ho:dH X (compareOp op) r)(ha:PE X a ta)(hb:PE X b tb)(hm:behindInMarks op b=false):PT X (.Compare a [op] [b] pos) (Mu (yk r ta tb)):=by intro ay s O H Q I h;refine wpAny_isTrue_Compare1 (bo (ha ay s O H _ I h) λv s1 ⟨x,H1,I1,r1,q1⟩=>bo (hb ay s1 O H1 _ I1 q1) λu s2 ⟨y,H2,I2,r2,q2⟩=>bo (ho ay s2 O H2 x y v u _ I2 r1 r2 q2) λc s3 ⟨z,H3,I3,r3,k,e,q3⟩=>?_) hm;subst e;cases r3;exact qx ⟨H3,I3,q3⟩
inductive VB(r':R2)(tc:TE)(O:St)(Q:VK)(y:V)(z:V)(H3:Hp):Prop |mk (k:_)(h0:z= .bl k)(h1:(if k=true then tc O H3 λw' H4=>r' y w' H4 Q else Q (.bl false) H3)):VB r' tc O Q y z H3
def MC(r r':R2)(ta tb tc:TE):TE:=λO H Q=>ta O H λx H1=>tb O H1 λy H2=>r x y H2 λz H3=>VB r' tc O Q y z H3
theorem PX{op ui:CmpOp}{r r':R2}(ho:dH X (compareOp op) r)(mJ:dH X (compareOp ui) r')(ha:PE X a ta)(hb:PE X b tb)(hc:PE X c tc) (hm:lastMarks [op,ui] [b,c]=false:=by with_unfolding_all rfl):PE X (.Compare a [op,ui] [b,c] pos) (MC r r' ta tb tc):=by intro ay s O H Q I h;refine Compare_chain (bo (ha ay s O H _ I h) λv s1 ⟨x,H1,I1,r1,q1⟩=>chain_link (bo (hb ay s1 O H1 _ I1 q1) λu s2 ⟨y,H2,I2,r2,q2⟩=>bo (ho ay s2 O H2 x y v u _ I2 r1 r2 q2) λd s3 ⟨z,H3,I3,r3,k,e,q3⟩=>?_)) hm;subst e;cases r3;refine qx ?_;cases k with |false=>exact ite_ff ⟨.bl false,H3,I3,Z,q3⟩ |true=>exact ite_tt (chain_last (bo (hc ay s3 O H3 _ I3 q3) λw' s4 ⟨z',H4,I4,r4,q4⟩=>mJ ay s4 O H4 y z' u w' Q I4 r2 r4 q4))
theorem a1R{op ui:CmpOp}{r r':R2}(ho:dH X (compareOp op) r)(mJ:dH X (compareOp ui) r')(ha:PE X a ta)(hb:PE X b tb)(hc:PE X c tc) (hm:lastMarks [op,ui] [b,c]=false:=by with_unfolding_all rfl):PT X (.Compare a [op,ui] [b,c] pos) (Mu (MC r r' ta tb tc)):=by intro ay s O H Q I h;refine isTrue_chain (bo (ha ay s O H _ I h) λv s1 ⟨x,H1,I1,r1,q1⟩=>test_link (bo (hb ay s1 O H1 _ I1 q1) λu s2 ⟨y,H2,I2,r2,q2⟩=>bo (ho ay s2 O H2 x y v u _ I2 r1 r2 q2) λd s3 ⟨z,H3,I3,r3,k,e,q3⟩=>?_)) hm;subst e;cases r3;refine qx ?_;cases k with |false=>obtain⟨k',e',q'⟩:=q3;cases e';exact ite_ff ⟨H3,I3,q'⟩ |true=>refine ite_tt (test_last (bo (hc ay s3 O H3 _ I3 q3) λw' s4 ⟨z',H4,I4,r4,q4⟩=>bo (mJ ay s4 O H4 y z' u w' _ I4 r2 r4 q4) λd' s5 ⟨z2,H5,I5,r5,k2,e2,q5⟩=>?_));subst e2;cases r5;exact qx ⟨H5,I5,q5⟩
def KQ(K:aa)(x:V)(H:Hp)(k:Bool):Prop:=match x with | .bw=>k=false | .bl b=>k=b | .int i=>k=(i !=0) | .str y=>y.length<=sizeLine/\k=((y.length:Int) !=0) | .xJ y=>y.size<=sizeLine/\k=((y.size:Int) !=0) | .ref p=>(∃xs,aJ K H p xs/\k= !xs.isEmpty)\/(∃xs,aU K H p xs/\k= !xs.isEmpty)\/∃aR,H p=some (.dK aR)/\k= !aR.isEmpty |_=>False
theorem a6g{κ:Type}{aR:List (κ×V)}{vs:List (κ×Value)}(r:KV aR vs):(!vs.isEmpty)= !aR.isEmpty:=by cases r<;>rfl
theorem RM{xs:List V}{its:List Value}(r:Vals xs its):(!its.toArray.isEmpty)= !xs.isEmpty:=by cases r<;>simp
theorem uy:(sizeLine:Nat)<2^63:=by rw[sizeLine_eq];decide
theorem YR:acM X (λx H Q=>∃k,KQ X.K x H k/\Q k H):=by intro ay s O H x v Q I rx h;obtain⟨k,e,q⟩:=h;have hl:=uy;have hs:sizeLine=16777216:=sizeLine_eq;cases x with |bw=>cases rx;have e':k=false:=e;subst e';exact truthy_none ⟨H,I,q⟩ |bl b=>cases rx;have e':k=b:=e;subst e';exact qx ⟨H,I,q⟩ |int i=>obtain⟨t,rfl⟩:=rx;have e':k=(i !=0):=e;subst e';exact PySem.P.truthy_int ⟨H,I,q⟩ |str y=>obtain⟨t,rfl⟩:=rx;obtain⟨hy,e'⟩:y.length<=sizeLine/\k=((y.length:Int) !=0):=e;subst e';exact PySem.P.truthy_str aw ⟨H,I.tok _,q⟩ |xJ y=>obtain⟨t,rfl⟩:=rx;obtain⟨hy,e'⟩:y.size<=sizeLine/\k=((y.size:Int) !=0):=e;subst e';exact PySem.W.truthy_bytes aw ⟨H,I.tok _,q⟩ |ref p=>
 cases rx;have e':(∃xs,aJ X.K H p xs/\k= !xs.isEmpty)\/(∃xs,aU X.K H p xs/\k= !xs.isEmpty)\/∃aR,H p=some (.dK aR)/\k= !aR.isEmpty:=e;rcases e' with⟨xs,hx,e'⟩|⟨xs,hx,e'⟩|⟨aR,hx,e'⟩
 ·subst e'
  obtain⟨its,r,pl,hz⟩:=I.list hx;have hlen:=r.length;exact wpAny_truthy_list pl.isList (by simp only[fe];lia) ⟨H,I.tok _,by rw[RM r];exact q⟩
 ·subst e'
  obtain⟨its,r,pl,hz⟩:=I.tuple hx;have hlen:=r.length;exact truthy_tuple pl (by simp only[fe];lia) ⟨H,I.tok _,by rw[RM r];exact q⟩
 ·subst e'
  obtain⟨hz,hS,vs,r,m⟩:aR.length<=sizeLine/\(p==sysModules)=false/\∃vs,KV aR vs/\s.heap.DictOf (jO X.prog X.w) p vs:=I.bj p _ hx;have hlen:aR.length=vs.length:=Paired.length r;exact wpAny_truthy_dict hS m aw ⟨H,I.tok _,by rw[a6g r];exact q⟩ |_=>exact(show False from e).elim
theorem a1Q(ha:PE X a ta)(he:∀whole,isTrue a X.env whole=(do let v<-whole;standAt a.pos;holding [v] (truthy v))): PT X a (λO H Q=>ta O H λx H'=>∃k,KQ X.K x H' k/\Q k H'):=by intro ay s O H Q I h;exact isTrue_plain (bo (ha ay s O H _ I h) λv s1 ⟨x,H1,I1,r1,q1⟩=>YR ay s1 O H1 x v Q I1 r1 q1) (he _)
theorem a2J:dH X (binaryOp .Add) (λx y H Q=>∃i j,x= .str i/\y= .str j/\i.length+j.length<=sizeLine/\Q (.str (i++j)) H):=by intro ay s O H x y v u Q I rx ry h;obtain⟨i,j,rfl,rfl,hz,q⟩:=h;obtain⟨t,rfl⟩:=rx;obtain⟨t',rfl⟩:=ry;exact add_str (λt' tk=>⟨.str (i++j),H,I.tok _,⟨_,Z⟩,q⟩) hz
theorem vals1{x:V}{us:List Value}(r:Vals [x] us):∃u,us=[u]/\RelV x u:=by cases r with |cons r1 r2=>cases r2;exact⟨_,rfl,r1⟩
theorem vals2{x y:V}{us:List Value}(r:Vals [x,y] us):∃u w',us=[u,w']/\RelV x u/\RelV y w':=by cases r with |cons r1 r2=>cases r2 with |cons r3 r4=>cases r4;exact⟨_,_,rfl,r1,r3⟩
theorem oz:fL X (.builtin "abs") (λxs H Q=>∃i,xs=[.int i]/\Q (.int (if i<0 then-i else i)) H):=by intro ay s O H xs us Q I r h;obtain⟨i,rfl,q⟩:=h;obtain⟨u,rfl,t,rfl⟩:=vals1 r;exact call_abs_int λu tk=>⟨.int (if i<0 then-i else i),H,I.tok _,⟨_,Z⟩,q⟩
theorem UN(hc:X.calm=true):fL X (.builtin "max") (λxs H Q=>∃i j,xs=[.int i,.int j]/\Q (.int (if j>i then j else i)) H):=by
 intro ay s O H xs us Q I r h;obtain⟨i,j,rfl,q⟩:=h;obtain⟨u,w',rfl,⟨t,rfl⟩,⟨t',rfl⟩⟩:=vals2 r;refine max_two_ints (I.ok.hd hc) λh' tk k=>⟨_,H,I.kept k,?_,q⟩;by_cases hj:j>i
 ·rw[bp hj,bp hj];exact⟨_,Z⟩
 ·rw[bu hj,bu hj];exact⟨_,Z⟩
theorem Kw(hc:X.calm=true):fL X (.builtin "min") (λxs H Q=>∃i j,xs=[.int i,.int j]/\Q (.int (if j<i then j else i)) H):=by
 intro ay s O H xs us Q I r h;obtain⟨i,j,rfl,q⟩:=h;obtain⟨u,w',rfl,⟨t,rfl⟩,⟨t',rfl⟩⟩:=vals2 r;refine min_two_ints (I.ok.hd hc) λh' tk k=>⟨_,H,I.kept k,?_,q⟩;by_cases hj:j<i
 ·rw[bp hj,bp hj];exact⟨_,Z⟩
 ·rw[bu hj,bu hj];exact⟨_,Z⟩
theorem UO:fL X (.type "int") (λxs H Q=>(∃i,xs=[.int i]/\Q (.int i) H)\/∃k,xs=[.bl k]/\Q (.int (if k then 1 else 0)) H):=by
 intro ay s O H xs us Q I r h;rcases h with⟨i,rfl,q⟩|⟨k,rfl,q⟩
 ·obtain⟨u,rfl,t,rfl⟩:=vals1 r
  exact call_int_int ⟨.int i,H,I,⟨_,Z⟩,q⟩
 ·obtain⟨u,rfl,r1⟩:=vals1 r
  cases r1;exact call_int_bool ⟨.int (if k then 1 else 0),H,I.tok _,⟨_,Z⟩,q⟩
end
structure vj(h:Heap)(x dx C:Addr)(mA:Str->Option Value):Prop where
 obj:h.get? x=some (PySem.W.instObj C dx)
 ns:h.Ns1 dx mA
 ne:dx≠x
theorem a5D{h:Heap}{dx:Addr}{mA:Str->Option Value}(n:h.Ns1 dx mA):∃od,h.get? dx=some od/\∀name,PySem.W.lookIn name od=some (mA name):=by
 obtain⟨o,es,ep,ho,hd,hk,_,hm⟩:=n;refine⟨o,ho,λname=>?_⟩;have e:=hm name;unfold nsFind findBy at e;rw[<-Array.find?_toList]at e;unfold PySem.W.lookIn;rw[hd];dsimp only;split
 ·rename_i y q
  rw[q]at e;exact congrArg some e
 ·rename_i q
  rw[q]at e;have a:es.toList.any (·.refKey)=false:=by rw[List.any_eq_false];intro y hy;obtain⟨z,t,a7n⟩:=hk y (Array.mem_toList_iff.mp hy);simp[DictEntry.refKey,a7n]
  have a':¬es.toList.any (·.refKey)=true:=by rw[a];exact kK
  rw[bu a'];exact congrArg some e
theorem vj.look{h:Heap}{x dx C:Addr}{mA:Str->Option Value}(I:vj h x dx C mA):∃od,PySem.W.InstAt h x (PySem.W.instObj C dx) C (some od)/\∀name,PySem.W.lookIn name od=some (mA name):=let⟨od,ho,hl⟩:=a5D I.ns
 ⟨od,⟨I.obj,Z,Z,ho⟩,hl⟩
section
variable {prog:ah}{w:World}{A:aj}{E:Value->ae->Prop}{s:ae}{K:aa}{x dx C f:Addr}{mA:Str->Option Value}{name:Str}{v:Value}
theorem get_map{expr:Bool}{Q:Value->ae->Prop}(X:K.In s.heap)(I:vj s.heap x dx C mA)(hg:PySem.W.plainGet K C name=true)(hh:PySem.W.hasDictIn K C=true) (ha:PySem.W.findIn K (.ref C) name=some none)(hv:mA name=some v)(hv':PySem.W.handedIn v=true)(h:Q v {s with toks:=s.toks+1}): wpAny (model prog w) A (getAttr (.ref x) name expr) Q E s:=by obtain⟨od,J,hl⟩:=I.look;exact PySem.W.get_value X J (XM hg).1 (PySem.W.findObj_own hh ha Z (by rw[hl,hv])) hv' h
theorem a8Y{pl:Sem Bool}{Q:Value×List Value->ae->Prop}(X:K.In s.heap)(I:vj s.heap x dx C mA)(hg:PySem.W.plainGet K C name=true) (hf:PySem.W.findIn K (.ref C) name=some (some (.ref f)))(ht:PySem.W.isFn K (.ref f)=true)(hv:mA name=none)(h:Q (.ref f,[.ref x]) s): wpAny (model prog w) A (getMethod (.ref x) name pl) Q E s:=by obtain⟨od,J,hl⟩:=I.look;exact PySem.W.method_fn X J (XM hg).1 (XM hg).2 hf (gh.mp ht) (by show(PySem.W.lookIn name od).map (·.isSome)=some false;rw[hl,hv];rfl) h
theorem a0b{ns:List Str}{Q:Unit->ae->Prop}(X:K.In s.heap)(I:vj s.heap x dx C mA) (hs:PySem.W.findIn K (.ref C) "__setattr__"=some (some (.builtin "object.__setattr__")))(hp:PySem.W.plainOver K C=true)(ht:PySem.W.takerIn K C name=some none)(hh:PySem.W.hasDictIn K C=true) (hw:PySem.Within mA ns)(hsz:ns.length<=sizeLine) (h:∀h',vj h' x dx C (λy=>if y=name then some v else mA y)->Heap.SameBut dx s.heap h'->Q () {s with heap:=h',toks:=s.toks+2}): wpAny (model prog w) A (setAttr (.ref x) name v) Q E s:=by obtain⟨od,J,hl⟩:=I.look;refine PySem.W.set_plain X J hs (PySem.W.osa_open (s:={s with toks:=s.toks+1}) (r:=none) X J hp ht λb=>?_);obtain⟨cd,hc,xl⟩:=PySem.W.any_some hh;have hx:s.heap.get? x=some ⟨.ref C,some dx,.plain,#[]⟩:=I.obj;refine aV (cA (aV (aV (wpAny_loadPart hx (aV (PySem.W.Looks.here (s:={s with toks:=s.toks+1}) (PySem.W.looks_clsIn X hc) ?_))))));rw[xl];refine cA (a:=some dx) (aV (cA (aV ?_)));refine wpAny_nsSet1 (s:={s with toks:=s.toks+1}) I.ns λh' Cy jy=>?_;obtain⟨oD,esD,epD,hoD,hdD,hcD⟩:=Cy.count (PySem.Within.cons name v hw);refine aV (wpAny_lookBehind hoD (by rw[hdD];exact pastItsLine_dict (iQ hcD (by rw[kI];lia))) ?_);exact cA (h _ ⟨(jy.2 _ (eu I.ne)).trans I.obj,Cy,I.ne⟩ jy)
theorem a54{R:Result->ae->Prop}{vs:List Value}{kw:List (Str×Value)}(X:K.In s.heap)(hm:PySem.W.makesIn K C=true) (hi:PySem.W.findIn K (.ref C) "__init__"=some (some (.ref f)))(hf:PySem.W.typeIn K (.ref f)=some (.type "function")) (h:codeAny (model prog w) (A.under (.builtin "type.__call__" ⟨.ref C::vs,kw⟩)) (.call (.ref f) ⟨.ref (s.heap.objs.size+1)::vs,kw⟩) (PySem.W.InitBack (s.heap.objs.size+1) R) {s with heap:=(s.heap.push PySem.W.emptyDict).push (PySem.W.instObj C s.heap.objs.size)}): codeAny (model prog w) A (.call (.ref C) ⟨vs,kw⟩) R s:=by obtain⟨hh,g,d,t,os⟩:=s;exact PySem.W.make_core (PySem.W.makes_of X hm) (PySem.W.looks_findIn X hi) (λself=>PySem.W.bind_fn X self hf) (.inl Z) h
end
def jo(f:Str)(v:V):List (Str×V)->List (Str×V) |[]=>[(f,v)] |(g,x)::r=>if g=f then(g,v)::r else(g,x)::jo f v r
theorem QW(f g:Str)(v:V):∀fs:List (Str×V),(jo f v fs).lookup g=if g=f then some v else fs.lookup g
 |[]=>by
  show List.lookup g [(f,v)]=_;by_cases h:g=f
  ·have hb:(g==f)=true:=gh.mpr h
   simp only[List.lookup,hb,bp h]
  ·have hb:(g==f)=false:=DT.mpr h
   simp only[List.lookup,hb,bu h] |(k,x)::r=>by
  have ih:=QW f g v r;rw[show jo f v ((k,x)::r)=(if k=f then(k,v)::r else(k,x)::jo f v r)from rfl];by_cases hk:k=f
  ·rw[bp hk]
   by_cases h:g=k
   ·have hb:(g==k)=true:=gh.mpr h
    simp only[List.lookup,hb,bp (h.trans hk)]
   ·have hb:(g==k)=false:=DT.mpr h
    simp only[List.lookup,hb,bu (λe:g=f=>h (e.trans hk.symm))]
  ·rw[bu hk]
   by_cases h:g=k
   ·have hb:(g==k)=true:=gh.mpr h
    simp only[List.lookup,hb,bu (λe:g=f=>hk (h.symm.trans e))]
   ·have hb:(g==k)=false:=DT.mpr h
    simp only[List.lookup,hb];exact ih
theorem IP(f:Str)(v:V):∀fs:List (Str×V),f∈(jo f v fs).map (·.1)/\∀g,g∈fs.map (·.1)->g∈(jo f v fs).map (·.1)
 |[]=>⟨by simp[jo],λg h=>by simp at h⟩ |(k,x)::r=>by
  obtain⟨i1,i2⟩:=IP f v r;rw[show jo f v ((k,x)::r)=(if k=f then(k,v)::r else(k,x)::jo f v r)from rfl];by_cases hk:k=f
  ·rw[bp hk]
   subst hk;exact⟨by simp,λg h=>by simpa using h⟩
  ·rw[bu hk]
   refine⟨?_,λg h=>?_⟩
   ·rw[oP]
    exact iR _ i1
   ·rw[oP]at h⊢
    rcases bM.mp h with e|e
    ·exact bM.mpr (.inl e)
    ·exact iR _ (i2 g e)
theorem Rh(f:Str)(v:V):∀fs:List (Str×V),(jo f v fs).length<=fs.length+1
 |[]=>by simp[jo] |(k,x)::r=>by
  have ih:=Rh f v r;rw[show jo f v ((k,x)::r)=(if k=f then(k,v)::r else(k,x)::jo f v r)from rfl];by_cases hk:k=f
  ·rw[bp hk,kI,kI];lia
  ·rw[bu hk,kI,kI];lia
theorem jV.some_of{v:V}{o:Option Value}(r:jV (some v) o):∃u,o=some u/\RelV v u:=by cases o with |none=>exact(show False from r).elim |some u=>exact⟨u,Z,r⟩
theorem jV.none_of{o:Option Value}(r:jV none o):o=none:=by cases o with |none=>rfl |some u=>exact(show False from r).elim
theorem a7Z{v:V}{u:Value}(r:RelV v u):PySem.W.handedIn u=true:=by cases v with |bw=>cases(show u=Value.none from r);rfl |bl b=>cases(show u=Value.bool b from r);rfl |int i=>obtain⟨t,e⟩:=(show∃t,u=Value.int i t from r);cases e;rfl |str x=>obtain⟨t,e⟩:=(show∃t,u=Value.str x t from r);cases e;rfl |xJ b=>obtain⟨t,e⟩:=(show∃t,u=Value.bytes b t from r);cases e;rfl |CZ b=>obtain⟨t,e⟩:=(show∃t,u=Value.float b t from r);cases e;rfl |ref a=>cases(show u=Value.ref a from r);rfl |ty n=>cases(show u=Value.type n from r);rfl
section
variable {P:ah}{w:World}{H H':Hp}{h h':Heap}{a C dx:Addr}{fs fs':List (Str×V)}
theorem IW(bj:dZ P w H h)(e:H a=some (.ins C dx fs)):∃mA,vj h a dx C mA/\(∀f,jV (fs.lookup f) (mA f))/\PySem.Within mA (fs.map (·.1))/\fs.length<=1000/\H dx=some (.own a):=by obtain⟨d,z,ne,ob,mA,n,r,q⟩:=(show fW P w H h a (.ins C dx fs)from bj a _ e);exact⟨mA,⟨ob,n,ne⟩,r,q,z,d⟩
end
structure jX(K:aa)(C:Addr):Prop where
 pg:PySem.W.plainGet K C Str.empty=true
 hd:PySem.W.hasDictIn K C=true
 po:PySem.W.plainOver K C=true
 sa:PySem.W.findIn K (.ref C) "__setattr__"=some (some (.builtin "object.__setattr__"))
theorem jX.get{K:aa}{C:Addr}(c:jX K C)(f:Str):PySem.W.plainGet K C f=true:=c.pg
def jD(K:aa)(C:Addr)(f:Str):Prop:=PySem.W.findIn K (.ref C) f=some none
theorem jD.YX{K:aa}{C:Addr}{f:Str}(n:jD K C f):PySem.W.takerIn K C f=some none:=by unfold PySem.W.takerIn;rw[show PySem.W.findIn K (.ref C) f=some none from n];rfl
structure Meth(K:aa)(C:Addr)(m:Str)(f:Addr):Prop where
 at_:PySem.W.findIn K (.ref C) m=some (some (.ref f))
 fn:PySem.W.isFn K (.ref f)=true
 kp:PySem.W.keepIn K (.ref f)=true
section
variable {X:Cx}{ay:List (Addr×Obj)}{O:St}{H:Hp}{s:ae}{a C dx:Addr}{fs:List (Str×V)}{f:Str}{v:V}{A:aj}{E:Value->ae->Prop}
theorem T4{b:Bool}{Q:Value->ae->Prop}(I:Inv X ay O H s)(e:H a=some (.ins C dx fs))(c:jX X.K C)(n:jD X.K C f)(l:fs.lookup f=some v) (h:∀u s',Inv X ay O H s'->RelV v u->Q u s'):wpAny (model X.prog X.w) A (getAttr (.ref a) f b) Q E s:=by obtain⟨mA,aeF,r,_,_,_⟩:=IW I.bj e;obtain⟨u,hu,ru⟩:=jV.some_of (v:=v) (o:=mA f) (by rw[<-l];exact r f);exact get_map I.gQ aeF (c.get f) c.hd n hu (a7Z ru) (h u _ (I.tok _) ru)
theorem SY{m:Str}{g:Addr}{pl:Sem Bool}{Q:Value×List Value->ae->Prop}(I:Inv X ay O H s)(e:H a=some (.ins C dx fs))(c:jX X.K C)(k:Meth X.K C m g)(l:fs.lookup m=none) (h:Q (.ref g,[.ref a]) s):wpAny (model X.prog X.w) A (getMethod (.ref a) m pl) Q E s:=by obtain⟨mA,aeF,r,_,_,_⟩:=IW I.bj e;have hn:mA m=none:=jV.none_of (by rw[<-l];exact r m);exact a8Y I.gQ aeF (c.get m) k.at_ k.fn hn h
theorem NB{y:V}{u:Value}{Q:Unit->ae->Prop}(I:Inv X ay O H s)(e:H a=some (.ins C dx fs))(c:jX X.K C)(n:jD X.K C f)(hl:fs.length<1000)(ry:RelV y u) (h:∀s',Inv X ay O (upd H a (.ins C dx (jo f y fs))) s'->Q () s'):wpAny (model X.prog X.w) A (setAttr (.ref a) f u) Q E s:=by
 obtain⟨mA,aeF,r,wi,_,ho⟩:=IW I.bj e;have hz:(fs.map (·.1)).length<=sizeLine:=by rw[cB,sizeLine_eq];lia
 refine a0b I.gQ aeF c.sa c.po n.YX c.hd wi hz λh' O' sb=>h _ ?_;have hd:∃o,h'.get? dx=some o:=let⟨o,_,_,e',_⟩:=O'.ns;⟨o,e'⟩;refine I.write (x:=a) (e:=dx) (by rw[e];exact True.intro) (.inr ho) (λb q hb z=>(sb.2 b hb).trans z) hd ?_;refine⟨by rw[aK aeF.ne];exact ho,?_,aeF.ne,O'.obj,_,O'.ns,λg=>?_,λg hg=>?_⟩
 ·have:=Rh f y fs;lia
 ·show jV ((jo f y fs).lookup g) (if g=f then some u else mA g)
  rw[QW];by_cases q:g=f
  ·rw[bp q,bp q];exact ry
  ·rw[bu q,bu q];exact r g
 ·by_cases q:g=f
  ·rw[q];exact(IP f y fs).1
  ·refine(IP f y fs).2 g (wi g λz=>hg ?_)
   show(if g=f then some u else mA g)=none;rw[bu q];exact z
theorem Inv.made(I:Inv X ay O H s):Inv X ay O (upd (upd H s.heap.objs.size (.own (s.heap.objs.size+1))) (s.heap.objs.size+1) (.ins C s.heap.objs.size [])) {s with heap:=(s.heap.push PySem.W.emptyDict).push (PySem.W.instObj C s.heap.objs.size)}:=by
 have e1:(s.heap.push PySem.W.emptyDict).get? s.heap.objs.size=some PySem.W.emptyDict:=fq s.heap rfl;have e2:((s.heap.push PySem.W.emptyDict).push (PySem.W.instObj C s.heap.objs.size)).get? (s.heap.objs.size+1)=some (PySem.W.instObj C s.heap.objs.size):=by have:=fq (s.heap.push PySem.W.emptyDict) (o:=PySem.W.instObj C s.heap.objs.size) rfl;rwa [tI]at this
 have e3:(s.heap.push PySem.W.emptyDict).Ns s.heap.objs.size (λ_=>none):=⟨PySem.W.emptyDict,#[],_,e1,Z,(λe he=>absurd he (by simp)),λ_=>rfl⟩;have I1:=I.laid (a:=s.heap.objs.size) (o:=.own (s.heap.objs.size+1)) (h':=s.heap.push PySem.W.emptyDict) (t':=s.toks) (λb u q=>cI _ q) (bR _) ⟨_,e1⟩;refine I1.laid (a:=s.heap.objs.size+1) (o:=.ins C s.heap.objs.size []) (t':=s.toks) (λb u q=>cI _ q) (Nat.le_of_eq (tI _ _)) ?_;have ne:s.heap.objs.size≠s.heap.objs.size+1:=fR (XX _);refine⟨by rw[aK ne,bf],gj _,ne,e2,λ_=>none,(Heap.Ns1.of_empty e3).at λo q=>cI _ q,λ_=>True.intro,λy hy=>absurd rfl hy⟩
theorem acm{prog:ah}{w:World}{env:Env}{e:Expr}{f:Str}{pos:Pos}{s:ae}{Q:Value->ae->Prop}(hb:attributeBase e f env (eval e env)=eval e env) (h:wpAny (model prog w) A (eval e env) (λo s₁=>wpAny (model prog w) A (getAttr o f true) Q E s₁) E s):wpAny (model prog w) A (eval (.Attribute e f pos) env) Q E s:=Attribute_any_ h (by rw[arm_eval_Attribute,hb])
end
def acX(X:Cx)(op:Operator)(rd:V->V->Hp->VK->Prop):Prop:=∀(ay:List (Addr×Obj))(s:ae)(O:St)(H:Hp)(x y:V)(u v:Value)(Q:VK),Inv X ay O H s->RelV x u->RelV y v->rd x y H Q->wpAny (model X.prog X.w) X.A (inplaceOp op u v) (EP X ay O Q) X.xe s
section
variable {X:Cx}{o e value:Expr}{f:Str}{pos pos' oX:Pos}{ta tv:TE}
end
section
variable {X:Cx}{ay:List (Addr×Obj)}{O:St}{H:Hp}{s:ae}{A:aj}{E:Value->ae->Prop}{Q:Value->ae->Prop}{c:Value}{b:Bool}
end
structure cQ(k:Nat)(A:aj):Prop where
 hd:A.handled=none
 dp:A.depth+3*k+5<recursionLimit
 un:A.units+16*k+200<cLine
theorem cQ.mono{j k:Nat}{A:aj}(r:cQ k A)(h:j<=k):cQ j A:=⟨r.hd,by have:=r.dp;lia,by have:=r.un;lia⟩
theorem cQ.deeper{k:Nat}{A:aj}(r:cQ (k+1) A)(env:Env):cQ k (A.deeper env):=⟨r.hd,by have:=r.dp;show A.depth+1+3*k+5<_;lia,by have:=r.un;show A.units+3+16*k+200<_;lia⟩
theorem a55{A:aj}{C:Addr}{us:List Value}{kw:List (Str×Value)}:(A.under (.builtin "type.__call__" ⟨.ref C::us,kw⟩)).depth=A.depth+1:=by first|rfl|simp[Around.under,Code.weight,Code.isCreation,Code.isGuard,Code.isCaller,Code.frames,Code.isFrame,guardIds]
theorem a53{A:aj}{C:Addr}{us:List Value}{kw:List (Str×Value)}:(A.under (.builtin "type.__call__" ⟨.ref C::us,kw⟩)).units=A.units+1:=by first|rfl|simp[Around.under,Code.cUnits,Code.frames,Code.isFrame]
theorem cQ.make{k:Nat}{A:aj}(r:cQ (k+1) A)(C:Addr)(us:List Value)(kw:List (Str×Value)):cQ k (A.under (.builtin "type.__call__" ⟨.ref C::us,kw⟩)):=⟨r.hd,by have:=r.dp;rw[a55];omega,by have:=r.un;rw[a53];omega⟩
theorem cQ.depth{k:Nat}{A:aj}(r:cQ k A):A.depth<recursionLimit:=by have:=r.dp;lia
theorem cQ.units{k:Nat}{A:aj}(r:cQ k A):A.units+64<cLine:=by have:=r.un;lia
def kM:TA:=λ_ H Q=>Q [] H
def Et(ta:TE)(tr:TA):TA:=λO H Q=>ta O H λx H1=>tr O H1 λxs H2=>Q (x::xs) H2
section
variable {X:Cx}{e:Expr}{es:List Expr}{te:TE}{t:TA}{pos:Pos}
theorem az:PA X [] kM:=λ_ _ _ _ H Q I h=>Calls.spliced_nil ⟨[],H,I,.nil,h⟩
theorem au(ha:PE X e te)(hr:PA X es t)(hs:starEach (e::es) X.env=(false,eval e X.env)::starEach es X.env:=by rfl):PA X (e::es) (Et te t):=by intro pos ay s O H Q I h;rw[hs];show wpAny _ _ (spliced ((false,eval e X.env)::backTo pos (starEach es X.env))) _ _ s;refine Calls.spliced_cons (bo (ha ay s O H _ I h) λu s1 ⟨x,H1,I1,r1,q1⟩=>?_);exact bo (hr pos ay s1 O H1 _ I1 q1) λus s2 ⟨xs,H2,I2,r2,q2⟩=>⟨x::xs,H2,I2,.cons r1 r2,q2⟩
end
abbrev Sp:=List V->Hp->VK->XK->Prop
abbrev kH:=List Env->Hp->ae->XK->Value->ae->Prop
structure oM(P:ah)(w:World)(K:aa)(mg:Str->Option Value)(base:Heap)(A:aj)(outer:List Env)(s:ae)(H:Hp):Prop where
 frames:A.frames=some outer
 mod:Mod K mg base
 bs:∀b o,base.get? b=some o->s.heap.get? b=some o/\H b=none
 mz:base.objs.size<=s.heap.objs.size
 jT:s.heap.FunFrames base outer
 og:∀b∈du outer,H b=none
 bj:dZ P w H s.heap
 bare:AllBare s.gens
def CE(outer:List Env)(P:ah)(w:World)(H:Hp)(s:ae)(Q:VK)(u:Value)(s':ae):Prop:=∃v H',s'.os=s.os/\AllBare s'.gens/\Un (du outer) [] H H' s.heap s'.heap/\dZ P w H' s'.heap/\RelV v u/\Q v H'
def CR(CX:kH)(outer:List Env)(P:ah)(w:World)(H:Hp)(s:ae)(Q:VK)(E:XK)(r:Result)(s':ae):Prop:=match r with | .ok (.ret u)=>CE outer P w H s Q u s' | .ok _=>False | .error e=>CX outer H s E e s'
structure jj(P:ah)(w:World)(K:aa)(mg:Str->Option Value)(base:Heap)(CX:kH)(k:Nat)(f:Addr)(fd:FuncData)(ps:List Str)(sp:Sp):Prop where
 len:∀vs H Q E,sp vs H Q E->vs.length=ps.length
 run:∀(A:aj)(outer:List Env)(s:ae)(H:Hp)(args:Args)(us:List Value)(vs:List V)(Q:VK)(E:XK),cQ k A->oM P w K mg base A outer s H->BindsTo s fd args (ps.zip us)->Vals vs us->sp vs H Q E->codeAny (model P w) A (.call (.ref f) args) (CR CX outer P w H s Q E) s
theorem oM.make{P:ah}{w:World}{K:aa}{mg:Str->Option Value}{base:Heap}{A:aj}{outer:List Env}{s:ae}{H:Hp}(e:oM P w K mg base A outer s H)(C:Addr)(us:List Value)(kw:List (Str×Value)): oM P w K mg base (A.under (.builtin "type.__call__" ⟨.ref C::us,kw⟩)) outer s H:=⟨by first|exact e.frames|(simpa[Around.under,Code.envs,Code.isFrame,pushEnvs]using e.frames),e.mod,e.bs,e.mz,e.jT,e.og,e.bj,e.bare⟩
section
variable {X:Cx}{ay:List (Addr×Obj)}{O:St}{H:Hp}{s s':ae}
theorem Inv.Df(I:Inv X ay O H s):oM X.prog X.w X.K X.mg X.base X.A X.stack s H:=⟨I.ok.frames,I.ok.mod,I.bs,iQ I.ok.mz I.sz,I.stack,I.B8,I.bj,I.bare⟩
theorem Inv.after{Q:VK}{u:Value}(I:Inv X ay O H s)(h:CE X.stack X.prog X.w H s Q u s'):EP X ay O Q u s':=by obtain⟨v,H',os,bare,un,bj,r,q⟩:=h;obtain⟨hh,g,d,t,gb⟩:=s';obtain rfl:gb=s.os:=os;exact⟨v,H',I.call (h':=hh) (g':=g) (d':=d) (t':=t) (ch:=[]) un bj bare (λb z=>absurd z (by simp)),r,q⟩
end
def Zs(sp:Sp)(gJ:List V)(E:XK)(t:TA):TE:=λO H Q=>t O H λvs H1=>sp (vs++gJ) H1 Q E
inductive sW(C:Addr)(m:Str)(sp:Sp)(gJ:List V)(E:XK)(t:TA)(O:St)(Q:VK)(x:V)(H1:Hp):Prop |mk (a:_)(dx:_)(fs:_)(h0:x= .ref a)(h1:H1 a=some (.ins C dx fs))(h2:fs.lookup m=none)(h3:t O H1 λvs H2=>sp (x::(vs++gJ)) H2 Q E):sW C m sp gJ E t O Q x H1
def Mx(C:Addr)(m:Str)(sp:Sp)(gJ:List V)(E:XK)(ta:TE)(t:TA):TE:=λO H Q=>ta O H λx H1=>sW C m sp gJ E t O Q x H1
def Zl(C:Addr)(sp:Sp)(gJ:List V)(E:XK)(t:TA):TE:=λO H Q=>t O H λvs H1=>∀x dx,H1 x=none->H1 dx=none->dx≠x->sp (.ref x::(vs++gJ)) (upd (upd H1 dx (.own x)) x (.ins C dx [])) (λv H2=>v= .bw/\Q (.ref x) H2) E
def Binds(K:aa)(fd:FuncData)(ps:List Str)(ds:List Value):Prop:=∀(s:ae)(us:List Value),K.In s.heap->(us++ds).length=ps.length->BindsTo s fd ⟨us,[]⟩ (ps.zip (us++ds))
theorem Binds.all{K:aa}{fd:FuncData}{ps:List Str}(h:∀us:List Value,us.length=ps.length->bindArgs fd ⟨us,[]⟩=pure (ps.zip us)):Binds K fd ps []:=λs us _ hl=>by rw[E7]at hl⊢;exact .of_eq (h us hl)
def Passes(CX:kH)(X:Cx)(E:XK):Prop:=∀(ay:List (Addr×Obj))(O:St)(H:Hp)(s:ae)(e:Value)(s':ae),Inv X ay O H s->CX X.stack H s E e s'->X.xe e s'
section
variable {X:Cx}{CX:kH}{k:Nat}{f C:Addr}{fd:FuncData}{ps:List Str}{sp:Sp}{gJ:List V}{ds:List Value}{E:XK}{x m:Str}{p pos apos:Pos}{e o:Expr}{es:List Expr}{ta:TE}{t:TA}
theorem GK{ay:List (Addr×Obj)}{O:St}{H:Hp}{s:ae}{Q:VK}{us:List Value}{vs:List V}(F:jj X.prog X.w X.K X.mg X.base CX k f fd ps sp)(hr:cQ k X.A)(hb:Binds X.K fd ps ds)(hd:Vals gJ ds)(hx:Passes CX X E) (I:Inv X ay O H s)(r:Vals vs us)(h:sp (vs++gJ) H Q E):wpAny (model X.prog X.w) X.A (call (.ref f) us) (EP X ay O Q) X.xe s:=by
 have r2:Vals (vs++gJ) (us++ds):=r.append hd;have hl:(us++ds).length=ps.length:=by rw[<-r2.length];exact F.len _ _ _ _ h
 refine Ao (Aq (F.run X.A X.stack s H ⟨us,[]⟩ (us++ds) (vs++gJ) Q E hr I.Df (hb s us I.gQ hl) r2 h) λr s' hq=>?_);cases r with |error e=>exact hx ay O H s e s' I hq |ok fl=>cases fl with |ret u=>exact I.after hq |next=>exact False.elim hq |brk=>exact False.elim hq |cont=>exact False.elim hq
theorem a2k(F:jj X.prog X.w X.K X.mg X.base CX k f fd ps sp)(hr:cQ k X.A)(hg:Gl X x)(hm:X.mg x=some (.ref f))(hk:PySem.W.keepIn X.K (.ref f)=true)(hb:Binds X.K fd ps ds)(hd:Vals gJ ds)(hx:Passes CX X E) (ha:PA X (e::es) t)(jA:(x==("__debug__":Str))=false:=by decide)(he:starEach (e::es) X.env=(false,eval e X.env)::starEach es X.env:=by rfl)(gH:(backTo pos (starEach es X.env)).any (·.1)=false:=by rfl): PE X (.Call (.Name x p) (e::es) [] pos) (Zs sp gJ E t):=by intro ay s O H Q I h;refine Ap (wR I hg hm ?_ jA);refine XN (h₀:=X.base) I.ok.mod.pH hk (bo (ha pos ay s O H _ I h) λus s1 ⟨vs,H1,I1,r,q⟩=>⟨I1.gQ,?_⟩) he gH;exact GK F hr hb hd hx I1 r q
theorem PR{pl:Sem Bool}(he:PE X o ta)(c:jX X.K C)(hm:Meth X.K C m f)(F:jj X.prog X.w X.K X.mg X.base CX k f fd ps sp)(hr:cQ k X.A)(hb:Binds X.K fd ps ds)(hd:Vals gJ ds)(hx:Passes CX X E)(ha:PA X (e::es) t) (iq:starEach (e::es) X.env=(false,eval e X.env)::starEach es X.env:=by rfl)(gH:(backTo pos (starEach es X.env)).any (·.1)=false:=by rfl) (ht:eval (.Call (.Attribute o m apos) (e::es) [] pos) X.env=(do
 let ov<-eval o X.env
 standAt apos.atName
 let(f,first)<-holding [ov] (getMethod ov m pl)
 callWith pos f first (backTo pos (starEach (e::es) X.env)) (backToKw pos (keywordEach [] X.env))):=by rfl): PE X (.Call (.Attribute o m apos) (e::es) [] pos) (Mx C m sp gJ E ta t):=by
 intro ay s O H Q I h;refine PySem.W.methodCall_KW (pl:=pl) (bo (he ay s O H _ I h) λu s1 ⟨x,H1,I1,rx,a,dx,fs,ex,ea,l,q⟩=>?_) ht;subst ex;obtain rfl:u=Value.ref a:=rx;refine SY I1 ea c hm l ?_;refine XN (first:=[.ref a]) (h₀:=X.base) I.ok.mod.pH hm.kp (bo (ha pos ay s1 O H1 _ I1 q) λus s2 ⟨vs,H2,I2,r,q2⟩=>⟨I2.gQ,?_⟩) iq gH;exact GK (us:=.ref a::us) (vs:=.ref a::vs) F hr hb hd hx I2 (.cons Z r) q2
theorem PQ{pl:Sem Bool}(he:PE X o ta)(c:jX X.K C)(hm:Meth X.K C m f)(F:jj X.prog X.w X.K X.mg X.base CX k f fd ps sp)(hr:cQ k X.A)(hb:Binds X.K fd ps ds)(hd:Vals gJ ds)(hx:Passes CX X E) (ht:eval (.Call (.Attribute o m apos) [] [] pos) X.env=(do
 let ov<-eval o X.env
 standAt apos.atName
 let(f,first)<-holding [ov] (getMethod ov m pl)
 callWith pos f first (backTo pos (starEach [] X.env)) (backToKw pos (keywordEach [] X.env))):=by rfl): PE X (.Call (.Attribute o m apos) [] [] pos) (Mx C m sp gJ E ta kM):=by
 intro ay s O H Q I h;refine PySem.W.methodCall_KW (pl:=pl) (bo (he ay s O H _ I h) λu s1 ⟨x,H1,I1,rx,a,dx,fs,ex,ea,l,q⟩=>?_) ht;subst ex;obtain rfl:u=Value.ref a:=rx;refine SY I1 ea c hm l ?_;exact PySem.W.callWith_K0 (first:=[.ref a]) I1.gQ hm.kp (GK (us:=[.ref a]) (vs:=[.ref a]) F hr hb hd hx I1 (.cons rfl .nil) q)
structure Mk(K:aa)(C f:Addr):Prop where
 makes:PySem.W.makesIn K C=true
 init:PySem.W.findIn K (.ref C) "__init__"=some (some (.ref f))
 fn:PySem.W.isFn K (.ref f)=true
 kp:PySem.W.keepIn K (.ref C)=true
theorem a0E{ay:List (Addr×Obj)}{O:St}{H:Hp}{s:ae}{Q:VK}{us:List Value}{vs:List V}(M:Mk X.K C f)(F:jj X.prog X.w X.K X.mg X.base CX k f fd ps sp)(hr:cQ (k+1) X.A)(hb:Binds X.K fd ps ds)(hd:Vals gJ ds) (hx:Passes CX X E)(I:Inv X ay O H s)(r:Vals vs us) (h:∀x dx,H x=none->H dx=none->dx≠x->sp (.ref x::(vs++gJ)) (upd (upd H dx (.own x)) x (.ins C dx [])) (λv H2=>v= .bw/\Q (.ref x) H2) E): wpAny (model X.prog X.w) X.A (call (.ref C) us) (EP X ay O Q) X.xe s:=by
 have hq:=h (s.heap.objs.size+1) s.heap.objs.size (I.bj.fresh (Nat.le_succ _)) (I.bj.fresh (bR _)) (fR (XX _));have I2:=Inv.made (C:=C) I;have r2:Vals (V.ref (s.heap.objs.size+1)::(vs++gJ)) (Value.ref (s.heap.objs.size+1)::(us++ds)):=.cons Z (r.append hd);have hl:(Value.ref (s.heap.objs.size+1)::us++ds).length=ps.length:=by have e:=r2.length;rw[F.len _ _ _ _ hq]at e;exact e.symm
 refine Ao (a54 (f:=f) I.gQ M.makes M.init (gh.mp M.fn) (Aq (F.run _ X.stack _ _ ⟨Value.ref (s.heap.objs.size+1)::us,[]⟩ (Value.ref (s.heap.objs.size+1)::(us++ds)) _ _ E (hr.make C us []) (I2.Df.make C us []) (hb _ (Value.ref (s.heap.objs.size+1)::us) I2.gQ hl) r2 hq) λr s' kx=>?_));cases r with |error e=>exact hx ay O _ _ e s' I2 kx |ok fl=>cases fl with |ret u=>obtain⟨v,H',I3,rv,ev,q3⟩:=I2.after kx;subst ev;exact⟨rv,⟨V.ref (s.heap.objs.size+1),H',I3,Z,q3⟩⟩ |next=>exact False.elim kx |brk=>exact False.elim kx |cont=>exact False.elim kx
theorem a2f(M:Mk X.K C f)(F:jj X.prog X.w X.K X.mg X.base CX k f fd ps sp)(hr:cQ (k+1) X.A)(hg:Gl X x)(hm:X.mg x=some (.ref C))(hb:Binds X.K fd ps ds)(hd:Vals gJ ds)(hx:Passes CX X E) (ha:PA X (e::es) t)(jA:(x==("__debug__":Str))=false:=by decide)(he:starEach (e::es) X.env=(false,eval e X.env)::starEach es X.env:=by rfl)(gH:(backTo pos (starEach es X.env)).any (·.1)=false:=by rfl): PE X (.Call (.Name x p) (e::es) [] pos) (Zl C sp gJ E t):=by intro ay s O H Q I h;refine Ap (wR I hg hm ?_ jA);refine XN (h₀:=X.base) I.ok.mod.pH M.kp (bo (ha pos ay s O H _ I h) λus s1 ⟨vs,H1,I1,r,q⟩=>⟨I1.gQ,?_⟩) he gH;exact a0E M F hr hb hd hx I1 r q
end
section
variable {X:Cx}{CX:kH}{k:Nat}{f C:Addr}{fd:FuncData}{ps ks:List Str}{sp:Sp}{E:XK}{x m:Str}{p pos apos adS:Pos}{e o:Expr}{es:List Expr}{kws:List Keyword}{te ta:TE}{t tk:TA}{nm:Option Str}
variable {g:List Value->List Value->List Value}{gV:List V->List V->List V}
end
structure bF(N P:List Str)(sc:Scope):Prop where
 kind:sc.kind= .function
 co:sc.isCoroutine=false
 gen:sc.isGenerator=false
 nd:N.Nodup
 pre:N.take P.length=P
 par:∀x∈P,sc.names.lookup x=some .local\/sc.names.lookup x=some .cell
 a4u:∀y∈sc.names,y.2≠ .free
theorem UT{kindOf:Str->Option NameKind}{x:Str}:∀{binds:List (Str×Value)}{m:Str->Option Value},(∀v,(x,v)∉binds)->bindL kindOf binds m x=m x
 |[],_,_=>rfl |(n,v)::r,m,h=>by
  unfold bindL;rw[UT λw hw=>h w (iR _ hw)];split
  ·have:x≠n:=by rintro rfl;exact h v LL
   simp[this]
  ·rfl
theorem UW{kindOf:Str->Option NameKind}{x:Str}:∀{binds:List (Str×Value)}{m:Str->Option Value},(∀v,(x,v)∉binds)->bindC kindOf binds m x=m x
 |[],_,_=>rfl |(n,v)::r,m,h=>by
  unfold bindC;rw[UW λw hw=>h w (iR _ hw)];split
  ·rfl
  ·have:x≠n:=by rintro rfl;exact h v LL
   simp[this]
theorem UU{kindOf:Str->Option NameKind}{x:Str}{v:Value}:∀{P:List Str}{vs:List Value}{i:Nat}{m:Str->Option Value},P.Nodup->P[i]? =some x->vs[i]? =some v->kindOf x=some .local->bindL kindOf (P.zip vs) m x=some v |[],_,_,_,_,h,_,_=>by simp at h |_::_,[],_,_,_,_,h,_=>by simp at h |p::P,w::vs,0,m,nd,h1,h2,hk=>by simp at h1 h2;subst h1;subst h2;show bindL kindOf ((p,w)::P.zip vs) m p=_;unfold bindL;rw[UT λv hv=>(oN.mp nd).1 (Av hv).1,bp hk];simp |p::P,w::vs,i+1,m,nd,h1,h2,hk=>by show bindL kindOf ((p,w)::P.zip vs) m x=_;unfold bindL;exact UU (i:=i) (oN.mp nd).2 (by simpa using h1) (by simpa using h2) hk
theorem UX{kindOf:Str->Option NameKind}{x:Str}{v:Value}:∀{P:List Str}{vs:List Value}{i:Nat}{m:Str->Option Value},P.Nodup->P[i]? =some x->vs[i]? =some v->kindOf x≠some .local->bindC kindOf (P.zip vs) m x=some v |[],_,_,_,_,h,_,_=>by simp at h |_::_,[],_,_,_,_,h,_=>by simp at h |p::P,w::vs,0,m,nd,h1,h2,hk=>by simp at h1 h2;subst h1;subst h2;show bindC kindOf ((p,w)::P.zip vs) m p=_;unfold bindC;rw[UW λv hv=>(oN.mp nd).1 (Av hv).1,bu hk];simp |p::P,w::vs,i+1,m,nd,h1,h2,hk=>by show bindC kindOf ((p,w)::P.zip vs) m x=_;unfold bindC;exact UX (i:=i) (oN.mp nd).2 (by simpa using h1) (by simpa using h2) hk
def start(N:List Str)(vs:List V):St:=vs.map some++List.replicate (N.length-vs.length) none
def ji(CX:kH)(P:ah)(w:World)(K:aa)(mg:Str->Option Value)(base:Heap)(N:List Str)(qual:Str)(scope:Scope)(f:Addr)(cd:Value)(A:aj)(outer:List Env)(s:ae)(H:Hp)(E:XK):Cx where
 prog:=P
 w:=w
 K:=K
 mg:=mg
 base:=base
 A:=A.deeper (envOfC qual scope s.heap.objs.size f cd)
 N:=N
 s₀:=s
 H₀:=H
 env:=envOfC qual scope s.heap.objs.size f cd
 outer:=outer
 stack:=envOfC qual scope s.heap.objs.size f cd::outer
 ex:=[]
 calm:=true
 fn:=λ_=>true
 pn:=[]
 xe:=λe s'=>wpAny (model P w) (A.deeper (envOfC qual scope s.heap.objs.size f cd)) (leaving (envOfC qual scope s.heap.objs.size f cd) e) (λ_ u6=>CX outer H s E e u6) (λe' u6=>CX outer H s E e' u6) s'
theorem UK{sc:Scope}{n:Nat}{x:Str}(h:sc.names.lookup x=some .cell):∃c,(cellsFrom n sc.names []).lookup x=some c:=by have q:=PySem.W.cellsFrom_some sc.names n [] (.inl h);exact Option.isSome_iff_exists.mp q
theorem RN{CX:kH}{P:ah}{w:World}{K:aa}{mg:Str->Option Value}{base:Heap}{N ps:List Str}{qual:Str}{scope:Scope}{f:Addr}{cd:Value}{A:aj}{outer:List Env}{s s1:ae}{H:Hp}{E:XK}{us:List Value}{vs:List V} (S:bF N ps scope)(hd:A.handled=none)(e0:oM P w K mg base A outer s H)(hl:vs.length=ps.length)(r:Vals vs us) (x:InCallC s s.heap.objs.size (bindL (envOfC qual scope s.heap.objs.size f cd).kindOf (ps.zip us) λ_=>none) (cellsFrom (s.heap.objs.size+1) scope.names []) (bindC (envOfC qual scope s.heap.objs.size f cd).kindOf (ps.zip us) λ_=>none) s1): Inv (ji CX P w K mg base N qual scope f cd A outer s H E) [] (start N vs) H s1:=by
 have gH:ps.length<=N.length:=by have:=congrArg List.length S.pre;rw[oS]at this;lia
 obtain⟨h1,tk,rfl,hk⟩:=x.done;have uq:∀b:Addr,b∉(ji CX P w K mg base N qual scope f cd A outer s H E).ex:=λb z=>absurd (show b∈([]:List Addr)from z) (by simp);refine⟨⟨e0.mod,S.kind,Z,Z,bR _,λy z c h1 h2=>?_,λy hy=>?_,λy c _ h=>?_,λ_=>hd,Around.frames_deeper e0.frames,.inr ⟨Z,Z⟩,λb z=>absurd z (uq b),e0.bs,e0.mz,λb _ _=>uq b,λb z=>absurd z (uq b),e0.jT,e0.og⟩,rfl,e0.bare,Un.kept hk,⟨_,x.toInCall.ns,λi y v h1 h2 h3=>?_⟩,λy c h=>⟨_,x.cell y c h⟩,e0.bj.fresh (bR _),λy c h=>?_,λp hp=>absurd (show p∈([]:List (Addr×Obj))from hp) (by simp),e0.bj.kept hk,?_⟩
 ·exact name_of_addr x.apart (vv h1) (vv h2)
 ·have hy:scope.names.lookup y=some .cell\/scope.names.lookup y=some .free:=hy
  rcases hy with hy|hy
  ·exact UK hy
  ·exact absurd Z (S.a4u _ (vv hy))
 ·exact LJ (x.above y c (vv h))
 ·have hi:i<vs.length:=by
   unfold start at h2;by_cases hi:i<vs.length
   ·exact hi
   ·rw[Ay (by simpa using hi)]at h2
    rw[Y0]at h2;split at h2<;>cases h2
  have ha:vs[i]? =some v:=by unfold start at h2;rw[xZ (by simpa using hi),cH]at h2;cases e:vs[i]? with |none=>rw[e]at h2;cases h2 |some a=>rw[e]at h2;cases h2;rfl
  obtain⟨u,hu,rv⟩:=r.get ha;have hp:ps[i]? =some y:=by rw[<-S.pre,List.getElem?_take_of_lt aw];exact h1
  have Qz:ps.Nodup:=by rw[<-S.pre];exact S.nd.sublist (List.take_sublist _ _)
  refine⟨u,rv,?_⟩;rcases S.par y (gX hp)with k|k
  ·exact .inl ⟨k,UU Qz hp hu k⟩
  ·obtain⟨c,e⟩:=UK (n:=s.heap.objs.size+1) k
   refine .inr ⟨.inl k,c,e,?_⟩;have q:=x.cell y c e;rw[UX Qz hp hu (by show scope.names.lookup y≠_;rw[k];decide)]at q;exact q
 ·exact e0.bj.fresh (LJ (x.above y c (vv h)))
 ·unfold start
  show _=N.length;rw[fy,cB,E2]
  lia
theorem JR{CX:kH}{P:ah}{w:World}{K:aa}{mg:Str->Option Value}{base:Heap}{k:Nat}{f:Addr}{name qual:Str}{params:Arguments}{body:List Stmt}{scope:Scope}{dV kV doc pm aQ ct oc:Value}{an od:Option Addr} {gF:Array (Option Value)}{N ps:List Str}{sp:Sp}(lk:K.lookup f=some ⟨oc,od,.func (PySem.W.fnOf name qual params body scope dV kV doc pm an aQ ct),gF⟩)(ir:PySem.W.codeIn K aQ qual=true)(S:bF N ps scope) (len:∀vs H Q E,sp vs H Q E->vs.length=ps.length) (iX:∀(A:aj)(outer:List Env)(s:ae)(H:Hp)(vs:List V)(Q:VK)(E:XK),cQ k (A.deeper (envOfC qual scope s.heap.objs.size f aQ))->sp vs H Q E->∃t,iy (ji CX P w K mg base N qual scope f aQ A outer s H E) body t/\t {nx:=λ_ H'=>Q .bw H',rt:=Q} (start N vs) H): jj P w K mg base CX (k+1) f (PySem.W.fnOf name qual params body scope dV kV doc pm an aQ ct) ps sp:=by
 refine⟨len,λA outer s H args us vs Q E hr e0 hb r jx=>?_⟩;have hl:=len _ _ _ _ jx;have KX:K.In s.heap:=e0.mod.pH.keeps λb o e=>(e0.bs b o e).1;have lim:s.heap.NoLimit:=e0.mod.nolimit.keeps λb o e=>(e0.bs b o e).1;have pN:∀y∈ps.zip us,scope.names.lookup y.1=some .local\/(scope.names.lookup y.1=some .cell/\((cellsFrom (s.heap.objs.size+1) scope.names []).lookup y.1).isSome=true):=λ⟨n,v⟩ hy=>by
  rcases S.par n (Av hy).1 with q|q
  ·exact .inl q
  ·exact .inr ⟨q,PySem.W.cellsFrom_some _ _ _ (.inl q)⟩
 refine codeAny_call_function hr.depth (KX _ _ lk) Z S.co S.gen Z (PySem.W.codeRec_of KX ir) (hb _ _ _ _ ?_);refine wpAny_newFunctionEnv_cells S.kind pN λenv he s1 x=>?_;subst he;refine⟨lim.keeps x.toInCall.keep,codeAny_func ?_⟩;obtain⟨t,ht,hq⟩:=iX A outer s H vs Q E (hr.deeper _) jx;have I:Inv (ji CX P w K mg base N qual scope f aQ A outer s H E) [] (start N vs) H s1:=RN S hr.hd e0 hl r x;refine jY (ht [] s1 (start N vs) H _ I hq) (λfl s' hs=>?_) λe s' hs=>hs;have fin:∀{σ':St}{H':Hp}{v:V}{u:Value},Inv (ji CX P w K mg base N qual scope f aQ A outer s H E) [] σ' H' s'->RelV v u->Q v H'->CE outer P w H s Q u s':=λ{σ' H' v u} J rv q=>⟨v,H',J.os,J.bare,J.base,J.bj,rv,q⟩;cases fl with |ret u=>obtain⟨v,σ',H',J,rv,q⟩:=hs;exact fin J rv q |next=>obtain⟨σ',H',J,q⟩:=hs;exact fin (v:=V.bw) (u:=Value.none) J Z q |brk=>obtain⟨_,_,_,q⟩:=hs;exact False.elim q |cont=>obtain⟨_,_,_,q⟩:=hs;exact False.elim q
section
variable {X:Cx}{x:Str}{p pos:Pos}{e:Expr}{es:List Expr}{t:TA}{id T:String}{r:List V->Hp->VK->Prop}
def AY(r:List V->Hp->VK->Prop)(t:TA):TE:=λO H Q=>t O H λvs H1=>r vs H1 Q
theorem dG(hc:fL X (.builtin id) r)(hg:Gl X x)(hm:X.mg x=none)(hv:bootBuiltins x=some (.builtin id))(ha:PA X (e::es) t)(hn:x≠"__name__":=by decide)(jA:(x==("__debug__":Str))=false:=by decide) (he:starEach (e::es) X.env=(false,eval e X.env)::starEach es X.env:=by rfl)(gH:(backTo pos (starEach es X.env)).any (·.1)=false:=by rfl):PE X (.Call (.Name x p) (e::es) [] pos) (AY r t):=by intro ay s O H Q I h;refine Ap (pF I hg hm hv ?_ hn jA);exact PyProof.Rows.callWith_builtin1 (bo (ha pos ay s O H _ I h) λus s1 ⟨vs,H1,I1,r1,q1⟩=>hc ay s1 O H1 vs us Q I1 r1 q1) he gH
theorem iG(hc:fL X (.type T) r)(hg:Gl X x)(hm:X.mg x=none)(hv:bootBuiltins x=some (.type T))(ha:PA X (e::es) t)(hn:x≠"__name__":=by decide)(jA:(x==("__debug__":Str))=false:=by decide) (he:starEach (e::es) X.env=(false,eval e X.env)::starEach es X.env:=by rfl)(gH:(backTo pos (starEach es X.env)).any (·.1)=false:=by rfl):PE X (.Call (.Name x p) (e::es) [] pos) (AY r t):=by intro ay s O H Q I h;refine Ap (pF I hg hm hv ?_ hn jA);exact xX (bo (ha pos ay s O H _ I h) λus s1 ⟨vs,H1,I1,r1,q1⟩=>hc ay s1 O H1 vs us Q I1 r1 q1) he gH
end
end L2
namespace HT
open PySem PyProof.Rows
section
open PySem.SeqAt
open PySem.AutoSeq1 (wpAny_loadPart')
open PySem.MeetsSeq PySem.MeetsSeq2 PySem.MeetsSeq3
end
section
variable {prog:ah}{w:World}{A:aj}{E:Value->ae->Prop}{s:ae}
def cC(n d:Nat):Option Int->Nat |none=>d |some v=>if v<0 then(v+(n:Int)).toNat else min v.toNat n
theorem a0s(n d:Nat):cC n d none=d:=rfl
theorem OU(n d k:Nat):cC n d (some (k:Int))=min k n:=by show(if(k:Int)<0 then((k:Int)+(n:Int)).toNat else min (k:Int).toNat n)=min k n;rw[bu aw,Y3]
theorem a0t(n d:Nat)(hd:d<=n)(o:Option Int):cC n d o<=n:=by cases o with |none=>exact hd |some v=>
 show(if v<0 then(v+(n:Int)).toNat else min v.toNat n)<=n;by_cases hv:v<0
 ·rw[bp hv];lia
 ·rw[bu hv];exact Nat.min_le_right _ _
theorem UE(v:Int)(n d:Nat):(if v<0 then max (v+(n:Int)) 0 else min v (n:Int))=((cC n d (some v):Nat):Int):=by
 show(if v<0 then max (v+(n:Int)) 0 else min v (n:Int))=(((if v<0 then(v+(n:Int)).toNat else min v.toNat n):Nat):Int);by_cases hv:v<0
 ·simp only[bp hv];lia
 ·simp only[bu hv];lia
theorem acA(lo hi:Option Int)(n:Nat):Builtin.Slice.sliceAdjust lo hi 1 (n:Int)=(((cC n 0 lo:Nat):Int),((cC n n hi:Nat):Int)):=by
 have h1:¬((1:Int)<0):=by lia
 unfold Builtin.Slice.sliceAdjust;simp only[h1,if_false];refine Prod.ext ?_ ?_
 ·cases lo with |none=>rfl |some v=>exact UE v n 0
 ·cases hi with |none=>rfl |some v=>exact UE v n n
theorem a1Y(i j:Nat):Builtin.Slice.slicePlaces (i:Int) (j:Int) 1=j-i:=by
 unfold Builtin.Slice.slicePlaces;have h1:(1:Int)>0:=by lia
 simp only[h1,vt,Int.ediv_one];split<;>lia
theorem Nr{v:Value}{o:Option Int}{Q:Option Int->ae->Prop}(p:IsPart v o)(h:Q o s):wpAny (model prog w) A (Builtin.Slice.slicePartIndex v) Q E s:=by cases p with |none=>exact slicePart_none h |int i t=>exact slicePart_int h
theorem a00{sl:Addr}{vl vu:Value}{lo hi:Option Int}{n:Nat}{Q:Int×Int×Nat->ae->Prop}(hs:s.heap.IsSliceOf sl vl vu .none)(pl:IsPart vl lo)(pu:IsPart vu hi) (h:Q (((cC n 0 lo:Nat):Int),1,cC n n hi-cC n 0 lo) s):wpAny (model prog w) A (Builtin.Slice.sliceApplied (.ref sl) (pure (n:Int))) Q E s:=by obtain⟨os,jQ,CK,rO⟩:=id hs;unfold Builtin.Slice.sliceApplied Builtin.Slice.sliceFields;refine aV (aV (jH jQ rO (x:=vl) Z (aV (jH jQ rO (x:=vu) Z (aV (jH jQ rO (x:=.none) Z (cA ?_)))))));refine aV (slicePart_none ?_);show wpAny _ _ (if((1:Int)==0)=true then _ else _) _ _ s;rw[bu aB];refine aV (Nr pl (aV (Nr pu (aV (cA ?_)))));show wpAny _ _ (match Builtin.Slice.sliceAdjust lo hi 1 (n:Int)with|(lo,hi)=>pure (lo,(1:Int),Builtin.Slice.slicePlaces lo hi 1)) _ _ s;rw[acA lo hi n];show wpAny _ _ (pure (((cC n 0 lo:Nat):Int),(1:Int),Builtin.Slice.slicePlaces ((cC n 0 lo:Nat):Int) ((cC n n hi:Nat):Int) 1)) _ _ s;rw[a1Y];exact cA h
theorem a24(xs:Array Value)(i k:Nat):((List.range k).filterMap λ(m:Nat)=>xs[((i:Int)+(m:Int)*1).toNat]?).toArray=((xs.toList.drop i).take k).toArray:=by
 have e:(λ(m:Nat)=>xs[((i:Int)+(m:Int)*1).toNat]?)=λm=>xs[i+m]?:=by
  funext m;have:((i:Int)+(m:Int)*1).toNat=i+m:=by lia
  rw[this]
 rw[e];have:=pick_run xs i k;rw[List.filterMap_map]at this;have e2:((λx=>xs[x]?)∘λx=>i+x)=λm=>xs[i+m]?:=rfl;rw[e2]at this;rw[this]
theorem a8Z{t sl:Addr}{items:Array Value}{vl vu:Value}{lo hi:Option Int}{Q:Value->ae->Prop}(ht:IsTup s.heap t items)(hs:s.heap.IsSliceOf sl vl vu .none)(pl:IsPart vl lo)(pu:IsPart vu hi) (hw:¬(cC items.size 0 lo=0/\cC items.size items.size hi=items.size)) (h:Q (.ref s.heap.objs.size) {s with heap:=s.heap.push {cls:=.type "tuple",data:=.seq ((items.toList.drop (cC items.size 0 lo)).take (cC items.size items.size hi-cC items.size 0 lo)).toArray}}) (hsz:items.size<=sizeLine):wpAny (model prog w) A (getItem (.ref t) (.ref sl)) Q E s:=by
 have Cm:sizeOk (.seq ((items.toList.drop (cC items.size 0 lo)).take (cC items.size items.size hi-cC items.size 0 lo)).toArray):=by show((items.toList.drop (cC items.size 0 lo)).take (cC items.size items.size hi-cC items.size 0 lo)).toArray.size<=sizeLine;rw[fe,oS,LO,AD];omega
 have hj:cC items.size items.size hi<=items.size:=a0t _ _ (bR _) hi;obtain⟨os,jQ,CK,rO⟩:=id hs;have CM:s.TypeIs (.ref sl) "slice":=⟨os,jQ,CK⟩;unfold getItem
 try with_reducible refine vq ?_
 first|refine aV (cA ?_)|skip
 refine aV (wpAny_sequenceKey ht.typeIs aB ?_);refine aV (DR (name:=Str.ofString "__getitem__") ht.typeIs XQ (DQ XQ ht.typeIs entry_tuple_getitem ?_ (args_tuple_getitem _ _)));show wpAny _ _ (Builtin.Tuple.tupleItemsOf (.ref t)>>=_) _ _ s;refine aV (tupleItemsOf_ ht ?_);refine aV (wpAny_typeOf CM ?_);rw[bp aB];refine aV (a00 hs pl pu ?_);have lN:¬((((cC items.size 0 lo:Nat):Int)==0&&(1:Int)==1&&(cC items.size items.size hi-cC items.size 0 lo)==items.size)=true):=by intro q;rw[fE,fE]at q;have q1:((cC items.size 0 lo:Nat):Int)=0:=eq_of_beq q.1.1;have q2:cC items.size items.size hi-cC items.size 0 lo=items.size:=eq_of_beq q.2;exact hw ⟨dM,dM⟩
 show wpAny _ _ (if(((cC items.size 0 lo:Nat):Int)==0&&(1:Int)==1&&(cC items.size items.size hi-cC items.size 0 lo)==items.size)=true then _ else _) _ _ s;rw[bu lN,a24]
 first |exact aV (m:=Builtin.Tuple.tupleExact _) (qy (cA ⟨_,Z,cA h⟩) Cm) |exact aV (m:=Builtin.Tuple.tupleExact _) (qy (aV (cA (cA ⟨_,Z,cA h⟩))) Cm) |exact aV (aV (m:=Builtin.Tuple.tupleExact _) (qy (cA (cA ⟨_,Z,cA h⟩)) Cm)) |exact aV (aV (m:=Builtin.Tuple.tupleExact _) (qy (cA ⟨_,Z,cA h⟩) Cm))
end
end HT
namespace L2
open PySem PySem.Spec PyProof.Rows
abbrev TO:=St->Hp->(Option Int->Hp->Prop)->Prop
def PO(X:Cx)(e:Option Expr)(t:TO):Prop:=∀(ay:List (Addr×Obj))(s:ae)(O:St)(H:Hp)(Q:Option Int->Hp->Prop),Inv X ay O H s->t O H Q->wpAny (model X.prog X.w) X.A (evalPart e X.env) (λu s'=>∃o H',Inv X ay O H' s'/\IsPart u o/\Q o H') X.xe s
def Zh:TO:=λ_ H Q=>Q none H
inductive Vw(Q:Option Int->Hp->Prop)(x:V)(H1:Hp):Prop |mk (i:_)(h0:x= .int i)(h1:Q (some i) H1):Vw Q x H1
def Zc(t:TE):TO:=λO H Q=>t O H λx H1=>Vw Q x H1
section
variable {X:Cx}{e:Expr}{te:TE}{lo hi:Option Expr}{tl th:TO}{pos p2:Pos}
theorem Hs:PO X none Zh:=by intro ay s O H Q I h;rw[evalPart_none];exact cA ⟨none,H,I,.none,h⟩
theorem Hr(h:PE X e te):PO X (some e) (Zc te):=by intro ay s O H Q I hw;rw[evalPart_some];refine bo (h ay s O H _ I hw) λu s1 ⟨x,H1,I1,r1,q1⟩=>?_;obtain⟨i,rfl,q⟩:=q1;obtain⟨t,rfl⟩:=r1;exact⟨some i,H1,I1,.int i t,q⟩
def DF(X:Cx)(r:V->Option Int->Option Int->Hp->VK->Prop):Prop:=∀(ay:List (Addr×Obj))(s:ae)(O:St)(H:Hp)(x:V)(v vl vu:Value)(lo hi:Option Int)(sl:Addr)(Q:VK),Inv X ay O H s->RelV x v->s.heap.IsSliceOf sl vl vu .none->IsPart vl lo->IsPart vu hi->r x lo hi H Q->∃T id,typeLookup (.type T) "__getitem__"=pure (some (.builtin id))/\s.TypeIs v T/\wpAny (model X.prog X.w) X.A (getItem v (.ref sl)) (EP X ay O Q) X.xe s
def Z9(r:V->Option Int->Option Int->Hp->VK->Prop)(te:TE)(tl th:TO):TE:=λO H Q=>te O H λx H1=>tl O H1 λl H2=>th O H2 λu H3=>r x l u H3 Q
theorem Hw{r:V->Option Int->Option Int->Hp->VK->Prop}(hr:DF X r)(he:PE X e te)(hl:PO X lo tl)(hu:PO X hi th):PE X (.Subscript e (.Slice lo hi none p2) pos) (Z9 r te tl th):=by intro ay s O H Q I h;refine Subscript_ (bo (he ay s O H _ I h) λv s1 ⟨x,H1,I1,r1,q1⟩=>?_);refine wpAny_Slice (bo (hl ay s1 O H1 _ I1 q1) λvl s2 ⟨l,H2,I2,pl,q2⟩=>bo (hu ay s2 O H2 _ I2 q2) λvu s3 ⟨u,H3,I3,pu,q3⟩=>?_);rw[evalPart_none];refine cA ?_;have I4:Inv X ay O H3 {s3 with heap:=s3.heap.push {cls:=.type "slice",data:=.fields #[vl,vu,.none]}}:=I3.kept (t':=s3.toks) λb ob q=>cI _ q;obtain⟨T,id,hT,ht,hg⟩:=hr ay {s3 with heap:=s3.heap.push {cls:=.type "slice",data:=.fields #[vl,vu,.none]}} O H3 x v vl vu l u s3.heap.objs.size Q I4 r1 (Heap.IsSliceOf.new ..) pl pu q3;show wpAny (model X.prog X.w) X.A (subscriptTail e (.Slice lo hi none p2) v (.ref s3.heap.objs.size)) (EP X ay O Q) X.xe {s3 with heap:=s3.heap.push {cls:=.type "slice",data:=.fields #[vl,vu,.none]}};exact tail_any (ops:=[.ref s3.heap.objs.size,v]) ht hT hg (by with_unfolding_all rfl)
def mU(xs:List V)(lo hi:Option Int):List V:=(xs.drop (HT.cC xs.length 0 lo)).take (HT.cC xs.length xs.length hi-HT.cC xs.length 0 lo)
theorem Ur(xs:List V)(lo hi:Option Int):(mU xs lo hi).length<=xs.length:=by
 unfold mU;rw[oS,LO]
 lia
inductive WV(K:aa)(x:V)(lo:Option Int)(hi:Option Int)(H:Hp)(Q:VK):Prop |mk (a:_)(xs:_)(h0:x= .ref a)(h1:aU K H a xs)(h2:¬(HT.cC xs.length 0 lo=0/\HT.cC xs.length xs.length hi=xs.length))(h3:∀p,H p=none->Q (.ref p) (upd H p (.tup (mU xs lo hi)))):WV K x lo hi H Q
def a1y(K:aa):V->Option Int->Option Int->Hp->VK->Prop:=λx lo hi H Q=>WV K x lo hi H Q
theorem a01:DF X (a1y X.K):=by
 intro ay s O H x v vl vu lo hi sl Q I rx hs pl pu h;obtain⟨a,xs,rfl,hx,hw,q⟩:=h;cases rx;obtain⟨its,r,ht,hz⟩:=I.tuple hx;have hlen:its.toArray.size=xs.length:=by rw[fe];exact r.length.symm
 refine⟨"tuple",_,XQ.lookup,ht.typeIs,?_⟩;refine HT.a8Z ht hs pl pu (by rw[hlen];exact hw) ?_ (by rw[hlen];exact hz);rw[hlen];refine⟨.ref s.heap.objs.size,_,I.laid (t':=s.toks) (o:=.tup (mU xs lo hi)) (λb ob q=>cI _ q) (bR _) ?_,Z,q _ (I.bj.fresh (bR _))⟩;exact⟨iQ (Ur xs lo hi) hz,_,(r.drop (HT.cC xs.length 0 lo)).take (HT.cC xs.length xs.length hi-HT.cC xs.length 0 lo),IsTup.new _ _⟩
end
def jP(n:Nat)(i:Int):Option Nat:=if 0<=i then(if i<n then some i.toNat else none)else if-(n:Int)<=i then some (i+n).toNat else none
def fQ{α:Type}(xs:List α)(i:Int):Option α:=(jP xs.length i).bind λj=>xs[j]?
theorem RG{n:Nat}{i:Int}{j:Nat}(h:jP n i=some j):seqIndex? i n=some j/\j<n/\-(n:Int)<=i/\i<n:=by
 unfold jP at h;by_cases h0:0<=i
 ·rw[bp h0]at h
  by_cases h1:i<n
  ·rw[bp h1]at h
   have e:i.toNat=j:=eg h;exact⟨by rw[seqIndex_of h0 h1,e],aw,aw,h1⟩
  ·rw[bu h1]at h;cases h
 ·rw[bu h0]at h
  by_cases h1:-(n:Int)<=i
  ·rw[bp h1]at h
   have e:(i+n).toNat=j:=eg h;exact⟨by rw[seqIndex_neg aw h1,e],aw,h1,aw⟩
  ·rw[bu h1]at h;cases h
theorem KI{α:Type}{xs:List α}{i:Int}{v:α}(h:fQ xs i=some v):∃j,seqIndex? i xs.length=some j/\xs[j]? =some v/\j<xs.length/\-(xs.length:Int)<=i/\i<xs.length:=by unfold fQ at h;cases e:jP xs.length i with |none=>rw[e]at h;cases h |some j=>rw[e]at h;obtain⟨h1,h2,h3,h4⟩:=RG e;exact⟨j,h1,h,h2,h3,h4⟩
theorem acq{α:Type}{xs:List α}{j:Nat}{v:α}(h:xs[j]? =some v):fQ xs (j:Int)=some v:=by
 have hj:j<xs.length:=(dQ.mp h).1;have e:jP xs.length (j:Int)=some j:=by unfold jP;rw[bp aw,bp aw];simp
 unfold fQ;rw[e];exact h
def Vo(b:Expr):Prop:=∀o i,subscripted b false o i=operate [o,i] (getItem o i)
def qv(X:Cx)(r:R2):Prop:=∀(value slice:Expr)(ay:List (Addr×Obj))(s:ae)(O:St)(H:Hp)(x y:V)(v u:Value)(Q:VK),Inv X ay O H s->RelV x v->RelV y u->r x y H Q->subscripted slice false v u=operate [v,u] (getItem v u)->wpAny (model X.prog X.w) X.A (subscriptTail value slice v u) (EP X ay O Q) X.xe s
def Ae(X:Cx)(id:String)(r:V->List V->Hp->VK->Prop):Prop:=∀(ay:List (Addr×Obj))(s:ae)(O:St)(H:Hp)(x:V)(xs:List V)(v:Value)(us:List Value)(Q:VK),Inv X ay O H s->RelV x v->Vals xs us->r x xs H Q->wpAny (model X.prog X.w) X.A (call (.builtin id) (v::us)) (EP X ay O Q) X.xe s
section
variable {X:Cx}{a b:Expr}{ta tb:TE}{pos:Pos}
theorem qv.or{r r':R2}(h:qv X r)(h':qv X r'):qv X (λx y H Q=>r x y H Q\/r' x y H Q):=by
 intro value slice ay s O H x y v u Q I rx ry q hs;rcases q with q|q
 ·exact h value slice ay s O H x y v u Q I rx ry q hs
 ·exact h' value slice ay s O H x y v u Q I rx ry q hs
theorem PU{r:R2}(hr:qv X r)(ha:PE X a ta)(hb:PE X b tb)(hs:Vo b):PE X (.Subscript a b pos) (yk r ta tb):=by intro ay s O H Q I h;exact Subscript_ (KA ha hb I h λv u s2 x y H2 I2 rx ry q=>hr a b ay s2 O H2 x y v u Q I2 rx ry q (hs _ _))
inductive X4(K:aa)(x:V)(y:V)(H:Hp)(Q:VK):Prop |mk (p:_)(xs:_)(i:_)(v:_)(h0:x= .ref p)(h1:y= .int i)(h2:aJ K H p xs)(h3:fQ xs i=some v)(h4:Q v H):X4 K x y H Q
def Hh(K:aa):R2:=λx y H Q=>X4 K x y H Q
inductive X2(K:aa)(x:V)(y:V)(H:Hp)(Q:VK):Prop |mk (p:_)(xs:_)(i:_)(v:_)(h0:x= .ref p)(h1:y= .int i)(h2:aU K H p xs)(h3:fQ xs i=some v)(h4:Q v H):X2 K x y H Q
def Hg(K:aa):R2:=λx y H Q=>X2 K x y H Q
inductive X3(x:V)(y:V)(H:Hp)(Q:VK):Prop |mk (z:_)(i:_)(c:_)(h0:x= .str z)(h1:y= .int i)(h2:z.length<=sizeLine)(h3:fQ z.cps.toList i=some c)(h4:Q (.str ⟨#[c]⟩) H):X3 x y H Q
def a1D:R2:=λx y H Q=>X3 x y H Q
theorem a69:qv X (Hh X.K):=by
 intro value slice ay s O H x y v u Q I rx ry h hs;obtain⟨p,xs,i,z,rfl,rfl,hq,he,q⟩:=h;cases rx;obtain⟨t,rfl⟩:=ry;obtain⟨its,r,pl,hz⟩:=I.list hq;obtain⟨j,h1,h2,h3,h4,h5⟩:=KI he;obtain⟨w,ew,jn⟩:=r.get h2;have hl:=r.length;have hn:=uy;have fin:EP X ay O Q w s:=⟨z,H,I,jn,q⟩;by_cases h0:0<=i
 ·have hj:i.toNat=j:=by rw[seqIndex_of h0 h5]at h1;exact eg h1
  exact item_listR pl.isList h0 aw (by rw[hj];simpa using ew) fin hs
 ·have hj:(i+(its.toArray.size:Int)).toNat=j:=by rw[seqIndex_neg aw h4]at h1;rw[fe,<-hl];exact eg h1
  exact subscriptTail_builtinR (x:=w) pl.isList.typeIs slot_list_getitem.lookup (wpAny_getItem_list_neg (Q:=λr s'=>r=w/\EP X ay O Q r s') pl.isList aw (by rw[fe]<;>lia) aw (by rw[hj];simpa using ew) ⟨Z,fin⟩) hs
theorem a67:qv X (Hg X.K):=by intro value slice ay s O H x y v u Q I rx ry h hs;obtain⟨p,xs,i,z,rfl,rfl,hq,he,q⟩:=h;cases rx;obtain⟨t,rfl⟩:=ry;obtain⟨its,r,pl,hz⟩:=I.tuple hq;obtain⟨j,h1,h2,h3,h4,h5⟩:=KI he;obtain⟨w,ew,jn⟩:=r.get h2;have hl:=r.length;have hn:=uy;have fin:EP X ay O Q w s:=⟨z,H,I,jn,q⟩;exact subscriptTail_builtinR (x:=w) pl.typeIs slot_tuple_getitem.lookup (getItem_tuple (j:=j) (Q:=λr s'=>r=w/\EP X ay O Q r s') pl aw aw (by rw[fe,<-hl];exact h1) (by simpa using ew) ⟨Z,fin⟩) hs
theorem a68:qv X a1D:=by
 intro value slice ay s O H x y v u Q I rx ry h hs;obtain⟨z,i,c,rfl,rfl,hz,he,q⟩:=h;obtain⟨t,rfl⟩:=rx;obtain⟨t',rfl⟩:=ry;obtain⟨j,h1,h2,h3,h4,h5⟩:=KI he;have hl:z.cps.toList.length=z.length:=by simp[Str.length]
 rw[hl]at h1 h4 h5;have hn:=uy;exact tail_any (typeIs_str s z t) slot_str_getitem.lookup (getItem_str (c:=c) (by have e1:decide (i< -(2^63:Int))=false:=fb aw;have e2:decide (i>=2^63)=false:=fb aw;rw[e1,e2,Bool.or_false]) (by rw[h1];simpa using h2) ⟨.str ⟨#[c]⟩,H,I.tok _,⟨_,Z⟩,q⟩) hs
theorem a52(its:List Value)(n j:Nat)(u:Value):Obj.mapSeq (·.setIfInBounds j u) {cls:=.type "list",data:=.seq its.toArray n}={cls:=.type "list",data:=.seq (its.set j u).toArray n}:=by simp[Obj.mapSeq]
theorem Inv.lst{ay:List (Addr×Obj)}{O:St}{H:Hp}{s:ae}{p:Addr}{xs:List V}(I:Inv X ay O H s)(h:H p=some (.lst xs)): ∃(its:List Value)(n:Nat),Vals xs its/\s.heap.get? p=some {cls:=.type "list",data:=.seq its.toArray n}/\xs.length<=sizeLine:=by obtain⟨z,its,n,r,e⟩:=I.bj p _ h;exact⟨its,n,r,e,z⟩
theorem Inv.a5t{ay:List (Addr×Obj)}{O:St}{H:Hp}{s:ae}{p:Addr}{xs ys:List V}{its its':List Value}{n n':Nat}{f:Obj->Obj}(I:Inv X ay O H s)(h:H p=some (.lst xs)) (ho:s.heap.get? p=some {cls:=.type "list",data:=.seq its.toArray n})(hf:f {cls:=.type "list",data:=.seq its.toArray n}={cls:=.type "list",data:=.seq its'.toArray n'})(r:Vals ys its')(hz:ys.length<=sizeLine)(t:Nat): Inv X ay O (upd H p (.lst ys)) {s with heap:=s.heap.update p f,toks:=t}:=by
 have e:(s.heap.update p f).get? p=some {cls:=.type "list",data:=.seq its'.toArray n'}:=by rw[LX f ho (by rw[hf]<;>rfl),hf]
 refine I.write (x:=p) (e:=p) (by rw[h];trivial) (.inl Z) (λb u hb q=>(AB _ _ (eu hb)).trans q) ⟨_,e⟩ ?_;exact⟨hz,its',n',r,e⟩
inductive WY(o:V)(i:V)(v:V)(H:Hp)(Q:Hp->Prop):Prop |mk (p:_)(xs:_)(k:_)(j:_)(h0:o= .ref p)(h1:i= .int k)(h2:H p=some (.lst xs))(h3:jP xs.length k=some j)(h4:Q (upd H p (.lst (xs.set j v)))):WY o i v H Q
def a1B:V->V->V->Hp->(Hp->Prop)->Prop:=λo i v H Q=>WY o i v H Q
theorem set_list:Vp X a1B:=by
 intro ay s O H o i v ov iv u Q I ro ri rv h;obtain⟨p,xs,k,j,rfl,rfl,hp,hj,q⟩:=h;cases ro;obtain⟨t,rfl⟩:=ri;obtain⟨its,n,r,ho,hz⟩:=I.lst hp;obtain⟨h1,h2,h3,h4⟩:=RG hj;have hl:=r.length;have hn:=uy;have I':Inv X ay O (upd H p (.lst (xs.set j v))) {s with heap:=s.heap.update p (Obj.mapSeq (·.setIfInBounds j u))}:=I.a5t hp ho (a52 its n j u) (r.set rv j) (by rw[vz];exact hz) s.toks;by_cases h0:0<=k
 ·have hk:k.toNat=j:=by rw[seqIndex_of h0 h4]at h1;exact eg h1
  exact PySem.W.ki_setAt ho h0 aw (by rw[fe,<-hl];exact h4) (by rw[hk];exact⟨_,I',q⟩)
 ·have hk:(k+(its.toArray.size:Int)).toNat=j:=by rw[seqIndex_neg aw h3]at h1;rw[fe,<-hl];exact eg h1
  exact PySem.W.ki_setBack ho aw (by rw[fe,<-hl];exact h3) aw (by rw[hk];exact⟨_,I',q⟩)
theorem ZY(lo hi:Option Int)(n:Nat):(sliceBounds lo hi none n).1=((HT.cC n 0 lo:Nat):Int)/\(sliceBounds lo hi none n).2.1=((HT.cC n n hi:Nat):Int)/\(sliceBounds lo hi none n).2.2=1:=by
 refine⟨?_,?_,Z⟩
 ·cases lo with |none=>simp[sliceBounds,HT.cC] |some i=>
  simp only[sliceBounds,HT.cC,Option.getD_none,show(1:Int)>0 by decide,vt];by_cases h:i<0
  ·simp only[h,vt]<;>lia
  ·simp only[h,if_false]<;>lia
 ·cases hi with |none=>simp[sliceBounds,HT.cC] |some i=>
  simp only[sliceBounds,HT.cC,Option.getD_none,show(1:Int)>0 by decide,vt];by_cases h:i<0
  ·simp only[h,vt]<;>lia
  ·simp only[h,if_false]<;>lia
theorem ZZ(its:List Value)(lo hi:Option Int):slicePick its.toArray lo hi none=((its.drop (HT.cC its.length 0 lo)).take (HT.cC its.length its.length hi-HT.cC its.length 0 lo)).toArray:=by obtain⟨h1,h2,h3⟩:=ZY lo hi its.toArray.size;unfold slicePick;rw[h1,h2,h3];simp only[sliceRange_one,pick_run,fe]<;>rfl
inductive WW(K:aa)(x:V)(lo:Option Int)(hi:Option Int)(H:Hp)(Q:VK):Prop |mk (a:_)(xs:_)(h0:x= .ref a)(h1:aJ K H a xs)(h2:∀p,H p=none->Q (.ref p) (upd H p (.lst (mU xs lo hi)))):WW K x lo hi H Q
def a1z(K:aa):V->Option Int->Option Int->Hp->VK->Prop:=λx lo hi H Q=>WW K x lo hi H Q
theorem a02:DF X (a1z X.K):=by intro ay s O H x v vl vu lo hi sl Q I rx hs pl pu h;obtain⟨a,xs,rfl,hx,q⟩:=h;cases rx;obtain⟨its,r,ht,hz⟩:=I.list hx;have hlen:=r.length;refine⟨"list",_,slot_list_getitem.lookup,ht.isList.typeIs,?_⟩;refine wpAny_getItem_list_slice ht.isList hs pl pu .none (by simp) ?_ (by rw[fe]<;>lia);rw[ZZ,<-hlen];refine⟨.ref s.heap.objs.size,_,I.laid (t':=s.toks) (o:=.lst (mU xs lo hi)) (λb ob q=>cI _ q) (bR _) ?_,Z,q _ (I.bj.fresh (bR _))⟩;exact⟨iQ (Ur xs lo hi) hz,_,0,(r.drop (HT.cC xs.length 0 lo)).take (HT.cC xs.length xs.length hi-HT.cC xs.length 0 lo),fq _ Z⟩
theorem abS:fL X (.builtin "len") (λxs H Q=>∃p ys,xs=[.ref p]/\(aJ X.K H p ys\/aU X.K H p ys)/\Q (.int ys.length) H):=by
 intro ay s O H xs us Q I r h;obtain⟨p,ys,rfl,hq,q⟩:=h;obtain⟨u,rfl,rx⟩:=vals1 r;cases rx;have hn:=uy;rcases hq with hq|hq
 ·obtain⟨its,r',pl,hz⟩:=I.list hq
  have hlen:=r'.length;exact Calls.call_len_list pl.isList (by simp only[fe]<;>lia) ⟨.int ys.length,H,I.tok _,⟨s.toks+1,by rw[fe,hlen]⟩,q⟩
 ·obtain⟨its,r',pl,hz⟩:=I.tuple hq
  have hlen:=r'.length;exact len_tuple pl (by simp only[fe]<;>lia) ⟨.int ys.length,H,I.tok _,⟨s.toks+1,by rw[fe,hlen]⟩,q⟩
theorem abR:fL X (.builtin "len") (λxs H Q=>∃z,xs=[.str z]/\z.length<=sizeLine/\Q (.int z.length) H):=by intro ay s O H xs us Q I r h;obtain⟨z,rfl,hz,q⟩:=h;obtain⟨u,rfl,t,rfl⟩:=vals1 r;have hn:=uy;exact len_str aw ⟨.int z.length,H,I.tok _,⟨_,Z⟩,q⟩
theorem fL.or{f:Value}{r r':List V->Hp->VK->Prop}(h:fL X f r)(h':fL X f r'):fL X f (λxs H Q=>r xs H Q\/r' xs H Q):=by
 intro ay s O H xs us Q I rs q;rcases q with q|q
 ·exact h ay s O H xs us Q I rs q
 ·exact h' ay s O H xs us Q I rs q
theorem abQ:fL X (.type "list") (λxs H Q=>∃p ys,xs=[.ref p]/\(aJ X.K H p ys\/aU X.K H p ys)/\∀l,H l=none->Q (.ref l) (upd H l (.lst ys))):=by
 intro ay s O H xs us Q I r h;obtain⟨p,ys,rfl,hq,q⟩:=h;obtain⟨u,rfl,rx⟩:=vals1 r;cases rx;have fin:∀(its:List Value),Vals ys its->ys.length<=sizeLine->∀(h':Heap)(c':Nat),(∀b o',s.heap.get? b=some o'->h'.get? b=some o')->h'.get? s.heap.objs.size=some {cls:=.type "list",dict:=none,data:=.seq its.toArray c',slots:=#[]}->EP X ay O Q (.ref s.heap.objs.size) {s with heap:=h'}:=λits r' hz h' c' kp e=>⟨.ref s.heap.objs.size,_,I.laid (t':=s.toks) kp (bR _) (show fW X.prog X.w _ h' _ (.lst ys)from⟨hz,its,c',r',e⟩),Z,q _ (I.bj.fresh (bR _))⟩;rcases hq with hq|hq
 ·obtain⟨its,r',pl,hz⟩:=I.list hq
  have hlen:=r'.length;obtain⟨o,ho,hc,n,hd⟩:=pl.isList;exact call_list_seq p (.inl Z) ho hc hd (λh' c' kp e=>fin its r' hz h' c' kp e) (by simp only[fe]<;>lia)
 ·obtain⟨its,r',pl,hz⟩:=I.tuple hq
  have hlen:=r'.length;obtain⟨o,ho,hc,n,hd⟩:=pl;exact call_list_seq p (.inr Z) ho hc hd (λh' c' kp e=>fin its r' hz h' c' kp e) (by simp only[fe]<;>lia)
theorem abL:fL X (.type "tuple") (λxs H Q=>∃p ys,xs=[.ref p]/\((aJ X.K H p ys/\∀l,H l=none->Q (.ref l) (upd H l (.tup ys)))\/(aU X.K H p ys/\Q (.ref p) H))):=by
 intro ay s O H xs us Q I r h;obtain⟨p,ys,rfl,h⟩:=h;obtain⟨u,rfl,rx⟩:=vals1 r;cases rx;rcases h with⟨hq,q⟩|⟨hq,q⟩
 ·obtain⟨its,r',pl,hz⟩:=I.list hq
  have hlen:=r'.length;refine call_tuple_list pl.isList (λh' kp=>?_) (by simp only[fe]<;>lia);have I1:Inv X ay O H {s with heap:=h'}:=I.kept (t':=s.toks) kp;have I2:Inv X ay O (upd H h'.objs.size (.tup ys)) {s with heap:=h'.push {cls:=.type "tuple",data:=.seq its.toArray}}:=I1.laid (t':=s.toks) (λb o e=>cI _ e) (bR _) (show fW X.prog X.w _ _ _ (.tup ys)from⟨hz,its,r',IsTup.new _ _⟩);exact⟨.ref h'.objs.size,_,I2,Z,q _ (I1.bj.fresh (bR _))⟩
 ·obtain⟨its,r',pl,hz⟩:=I.tuple hq
  exact call_tuple_same pl ⟨.ref p,H,I,Z,q⟩
def Ek(K:aa)(T:String)(x:V)(H:Hp):Prop:=match x with | .str _=>T="str" | .int _=>T="int" | .ref p=>(T="list"/\∃xs,aJ K H p xs)\/(T="tuple"/\∃o,K.lookup p=some o/\o.cls= .type "tuple"/\o.dict=none)\/ (T="dict"/\((∃aR,H p=some (.dK aR))\/∃aR,H p=some (.dT aR)))\/(T="set"/\∃S n,H p=some (.set S n)) |_=>False
theorem Mi{ay:List (Addr×Obj)}{O:St}{H:Hp}{s:ae}{T:String}{x:V}{v:Value}(I:Inv X ay O H s)(r:RelV x v)(ty:Ek X.K T x H): s.TypeIs v T/\∀a,v= .ref a->∃ob,s.heap.get? a=some ob/\ob.dict=none:=by cases x with
 |str z=>obtain⟨t,rfl⟩:=r;cases(show T="str" from ty);exact⟨typeIs_str s z t,λ_ e=>nomatch e⟩ |int i=>obtain⟨t,rfl⟩:=r;cases(show T="int" from ty);exact⟨typeIs_int s i t,λ_ e=>nomatch e⟩ |ref p=>
  cases r;rcases ty with⟨rfl,xs,hq⟩|⟨rfl,o,hk,hc,hd⟩|⟨rfl,hk⟩|⟨rfl,S,n,hk⟩
  ·obtain⟨its,_,pl,_⟩:=I.list hq
   refine⟨pl.isList.typeIs,λa e=>?_⟩;cases e;obtain⟨o,n,e,c,hd,_⟩:=pl;exact⟨o,e,hd⟩
  ·refine⟨⟨o,I.gQ p o hk,hc⟩,λa e=>?_⟩
   cases e;exact⟨o,I.gQ _ o hk,hd⟩
  ·have z:∃o,s.heap.get? p=some o/\o.ExactDict:=by
    rcases hk with⟨aR,hk⟩|⟨aR,hk⟩
    ·obtain⟨_,_,_,_,o,_,_,e,ex,_⟩:=I.bj p _ hk
     exact⟨o,e,ex⟩
    ·obtain⟨_,_,_,_,o,_,_,e,ex,_⟩:=I.bj p _ hk
     exact⟨o,e,ex⟩
   obtain⟨o,e,ex⟩:=z;refine⟨⟨o,e,ex.1⟩,λa e2=>?_⟩;cases e2;exact⟨o,e,ex.2.1⟩
  ·obtain⟨o,_,_,_,e,ex,_⟩:=I.bj p _ hk
   refine⟨⟨o,e,ex.1⟩,λa e2=>?_⟩;cases e2;exact⟨o,e,ex.2.1⟩ |_=>exact False.elim ty
def MD(K:aa)(T:String)(r:V->List V->Hp->VK->Prop)(to:TE):TE:=λO H Q=>to O H λx H1=>Ek K T x H1/\r x [] H1 Q
def tO(K:aa)(T:String)(r:V->List V->Hp->VK->Prop)(to:TE)(t:TA):TE:=λO H Q=>to O H λx H1=>Ek K T x H1/\t O H1 λxs H2=>r x xs H2 Q
variable {o e:Expr}{es:List Expr}{to:TE}{t:TA}{name:Str}{apos cK:Pos}{T id:String}{r:V->List V->Hp->VK->Prop}
theorem a2l(pa:PlainAttrs T)(slot:Slot T name id)(zt:typeOf (.builtin id)=pure (.type "method_descriptor"))(hm:Ae X id r)(ho:PE X o to) (jB:attributeBase o name X.env (eval o X.env)=eval o X.env:=by rfl)(jz:(apos.endLine==cK.line)=true:=by rfl):PE X (.Call (.Attribute o name apos) [] [] cK) (MD X.K T r to):=by intro ay s O H Q I h;refine wpAny_Call_method0_late jB jz (bo (ho ay s O H _ I h) λv s1 ⟨x,H1,I1,r1,ty,q1⟩=>?_);obtain⟨h1,h2⟩:=Mi I1 r1 ty;exact⟨T,id,pa,slot,zt,h1,h2,Calls.callWith_builtin Z (PySem.evalArgs_none (hm ay s1 O H1 x [] v [] Q I1 r1 .nil q1))⟩
theorem wo(pa:PlainAttrs T)(slot:Slot T name id)(zt:typeOf (.builtin id)=pure (.type "method_descriptor"))(hm:Ae X id r)(ho:PE X o to)(ha:PA X (e::es) t) (jB:attributeBase o name X.env (eval o X.env)=eval o X.env:=by rfl) (lO:((backTo cK (starEach (e::es) X.env)).all (λx=>!x.1)&&(backToKw cK (keywordEach [] X.env)).all (λx=>x.1.isSome) &&decide ((e::es).length+([]:List Keyword).length+(if([]:List Keyword).isEmpty then 0 else 1)<30))=true:=by rfl) (jz:(apos.endLine==cK.line)=true:=by rfl)(hs:starEach (e::es) X.env=(false,eval e X.env)::starEach es X.env:=by rfl)(lL:(backTo cK (starEach es X.env)).any (·.1)=false:=by rfl): PE X (.Call (.Attribute o name apos) (e::es) [] cK) (tO X.K T r to t):=by intro ay s O H Q I h;refine wpAny_Call_method_late jB lO jz Z (bo (ho ay s O H _ I h) λv s1 ⟨x,H1,I1,r1,ty,q1⟩=>?_);obtain⟨h1,h2⟩:=Mi I1 r1 ty;refine⟨T,id,pa,slot,zt,h1,h2,?_⟩;have hA:=ha cK ay s1 O H1 _ I1 q1;rw[hs]at hA⊢;refine Calls.callWith_builtin (by show(false||(backTo cK (starEach es X.env)).any (·.1))=false;rw[lL]<;>rfl) (Calls.evalArgs_plain ?_);exact bo hA λus s2 ⟨vs,H2,I2,r2,q2⟩=>hm ay s2 O H2 x vs v us Q I2 r1 r2 q2
end
def DK(X:Cx)(id:String)(r:V->List V->Hp->VK->Prop):Prop:=∀(ay:List (Addr×Obj))(s:ae)(O:St)(H:Hp)(x:V)(xs:List V)(v:Value)(us:List Value)(Q:VK),Inv X ay O H s->RelV x v->Vals xs us->r x xs H Q->wpAny (model X.prog X.w) X.A (call (.builtin id) (v::us)) (EP X ay O Q) X.xe s
theorem Vals.one:∀{x:V}{us:List Value},Vals [x] us->∃u,us=[u]/\RelV x u |_,_,.cons r .nil=>⟨_,Z,r⟩
theorem Vals.zero:∀{us:List Value},Vals [] us->us=[] |_,.nil=>rfl
theorem Vals.eraseIdx:∀{xs:List V}{us:List Value}(i:Nat),Vals xs us->Vals (xs.eraseIdx i) (us.eraseIdx i) |_,_,_,.nil=>.nil |_,_,0,.cons _ t=>t |_,_,i+1,.cons r t=>.cons r (Vals.eraseIdx i t)
theorem Rj{α:Type}:∀(l:List α)(i:Nat),(l.eraseIdx i).length<=l.length |[],_=>bR _ |_::_,0=>Nat.le_succ _ |_::r,i+1=>XW (Rj r i)
section
variable {X:Cx}{ay:List (Addr×Obj)}{O:St}{H:Hp}{s:ae}{l b:Addr}{xs ys zs:List V}
theorem Inv.BX{its its':List Value}{n:Nat}{f:Array Value->Array Value}{t':Nat}(I:Inv X ay O H s)(hH:H l=some (.lst xs)) (e:s.heap.get? l=some {cls:=.type "list",data:=.seq its.toArray n})(hf:f its.toArray=its'.toArray)(hv:Vals ys its')(hz:ys.length<=sizeLine): Inv X ay O (upd H l (.lst ys)) {s with heap:=s.heap.update l (Obj.mapSeq f),toks:=t'}:=by have q:=PySem.IsL.update e f;rw[hf]at q;refine I.write (x:=l) (e:=l) (by rw[hH];exact trivial) (.inl Z) (λb' u hb hu=>(AB s.heap (Obj.mapSeq f) (eu hb)).trans hu) ⟨_,q⟩ ?_;exact⟨hz,its',_,hv,q⟩
theorem Inv.QZ{its:List Value}{t':Nat}(I:Inv X ay O H s)(hv:Vals ys its)(hz:ys.length<=sizeLine): Inv X ay O (upd H s.heap.objs.size (.lst ys)) {s with heap:=s.heap.push {cls:=.type "list",data:=.seq its.toArray},toks:=t'}:=I.laid (λ_ _ q=>cI _ q) (bR _) ⟨hz,its,0,hv,fq _ Z⟩
theorem Inv.zi(I:Inv X ay O H s)(hH:H l=some (.lst xs)):xs.length<=sizeLine/\∃(its:List Value)(n:Nat),Vals xs its/\xs.length=its.length/\s.heap.get? l=some {cls:=.type "list",data:=.seq its.toArray n}:=by obtain⟨z,its,n,r,e⟩:=I.bj l _ hH;exact⟨z,its,n,r,r.length,e⟩
theorem a4s{n:Nat}(h:n<=sizeLine):Builtin.List.listTooLong n=false:=by unfold Builtin.List.listTooLong;exact fb aw
end
section
variable {X:Cx}
inductive Xg(x:V)(vs:List V)(H:Hp)(Q:VK):Prop |mk (l:_)(xs:_)(y:_)(h0:x= .ref l)(h1:vs=[y])(h2:H l=some (.lst xs))(h3:xs.length<sizeLine)(h4:Q .bw (upd H l (.lst (xs++[y])))):Xg x vs H Q
def Py:V->List V->Hp->VK->Prop:=λx vs H Q=>Xg x vs H Q
theorem Iv:DK X "list.append" Py:=by
 intro ay s O H x vs v us Q I rx rv h;obtain⟨l,xs,y,rfl,rfl,hH,hz,q⟩:=h;cases rx;obtain⟨u,rfl,ru⟩:=rv.one;obtain⟨z,its,n,r,hl,e⟩:=I.zi hH;refine xU F.slot_list_append ⟨_,e,Z⟩ F.entry_list_append (F.args_list_append_2 _ _) (PySem.list_append l its.toArray n u (by rw[fe];lia)) ⟨e,?_⟩;refine⟨.bw,_,I.BX (its':=its++[u]) hH e (by simp) (r.append (.cons ru .nil)) ?_,Z,q⟩;rw[fy,List.length_singleton]
 lia
inductive Xc(x:V)(vs:List V)(H:Hp)(Q:VK):Prop |mk (l:_)(b:_)(xs:_)(zs:_)(h0:x= .ref l)(h1:vs=[.ref b])(h2:H l=some (.lst xs))(h3:H b=some (.lst zs))(h4:xs.length+zs.length<=sizeLine)(h5:Q .bw (upd H l (.lst (xs++zs)))):Xc x vs H Q
def Pw:V->List V->Hp->VK->Prop:=λx vs H Q=>Xc x vs H Q
theorem a4R:DK X "list.extend" Pw:=by
 intro ay s O H x vs v us Q I rx rv h;obtain⟨l,b,xs,zs,rfl,rfl,hH,hB,hz,q⟩:=h;cases rx;obtain⟨u,rfl,ru⟩:=rv.one;cases ru;obtain⟨z,its,n,r,hl,e⟩:=I.zi hH;obtain⟨z2,mI,n2,r2,rF,e2⟩:=I.zi hB;have hsz:its.toArray.size+mI.toArray.size<=sizeLine:=by rw[fe,fe];lia
 have a7i:¬(!its.toArray.isEmpty&&Builtin.List.listTooLong (its.toArray.size+mI.toArray.size))=true:=by rw[a4s hsz,Bool.and_false];exact kK
 refine xU F.slot_list_extend ⟨_,e,Z⟩ F.entry_list_extend (F.args_list_extend_2 _ _) (AutoSeq1.list_extend_list_list_0 l its.toArray n b mI.toArray n2 a7i (by rw[fe];lia) aw) ⟨e,e2,?_⟩;refine⟨.bw,_,I.BX (its':=its++mI) hH e (by simp) (r.append r2) ?_,Z,q⟩;rw[fy]
 lia
inductive WZ(x:V)(vs:List V)(H:Hp)(Q:VK):Prop |mk (l:_)(xs:_)(i:_)(k:_)(y:_)(h0:x= .ref l)(h1:vs=[.int i])(h2:H l=some (.lst xs))(h3:-(2^63)<=i)(h4:i<2^63)(h5:seqIndex? i xs.length=some k)(h6:xs[k]? =some y)(h7:Q y (upd H l (.lst (xs.eraseIdx k)))):WZ x vs H Q
def Pu:V->List V->Hp->VK->Prop:=λx vs H Q=>WZ x vs H Q
theorem a4Q:DK X "list.pop" Pu:=by
 intro ay s O H x vs v us Q I rx rv h;obtain⟨l,xs,i,k,y,rfl,rfl,hH,h1,h2,hk,hy,q⟩:=h;cases rx;obtain⟨u,rfl,ru⟩:=rv.one;obtain⟨t,rfl⟩:=ru;obtain⟨z,its,n,r,hl,e⟩:=I.zi hH;obtain⟨w,hw,jn⟩:=r.get hy;refine xU F.slot_list_pop ⟨_,e,Z⟩ F.entry_list_pop (F.args_list_pop_2 _ _) (MeetsSeq.list_pop_at l its.toArray n i t k w (fitsIndex_both h1 h2) (by rw[fe,<-hl];exact hk) (by rw[<-Array.getElem?_toList];exact hw) (by rw[fe];lia)) ⟨e,?_⟩;refine⟨y,_,I.BX (its':=its.eraseIdx k) hH e ?_ (r.eraseIdx k) ?_,jn,q⟩
 ·show its.toArray.eraseIdxIfInBounds k=(its.eraseIdx k).toArray
  rw[List.eraseIdxIfInBounds_toArray]
 ·have:=Rj xs k
  lia
inductive Xe(x:V)(vs:List V)(H:Hp)(Q:VK):Prop |mk (l:_)(xs:_)(h0:x= .ref l)(h1:vs=[])(h2:H l=some (.lst xs))(h3:Q .bw (upd H l (.lst []))):Xe x vs H Q
def Px:V->List V->Hp->VK->Prop:=λx vs H Q=>Xe x vs H Q
theorem a4S:DK X "list.clear" Px:=by intro ay s O H x vs v us Q I rx rv h;obtain⟨l,xs,rfl,rfl,hH,q⟩:=h;cases rx;have hus:=rv.zero;subst hus;obtain⟨z,its,n,r,hl,e⟩:=I.zi hH;refine xU F.slot_list_clear ⟨_,e,Z⟩ F.entry_list_clear (F.args_list_clear_1 _) (AutoSeq1.list_clear_list_0 l its.toArray n (by rw[fe];lia)) ⟨e,?_⟩;exact⟨.bw,_,I.BX (its':=[]) (ys:=[]) hH e Z .nil (gj _),Z,q⟩
end
section
variable {prog:ah}{w:World}{A:aj}{E:Value->ae->Prop}{s:ae}
end
section
variable {X:Cx}
end
end L2
namespace Att
open PySem PySem.W PySem.Calls PyProof.Rows
theorem a6l{P:Params}{h:Heap}:∀(ns:List Int)(vs:List Value),WellAll P h vs (ns.map WData.int)->IntsAre vs ns:=by intro ns;induction ns with |nil=>intro vs w;rw[List.map_nil]at w;cases w;exact .nil |cons n ns ih=>intro vs w;rw[oP]at w;cases w with |cons a b=>cases a;exact .cons _ _ (ih _ b)
theorem a0g{l:OpenLaw}{n:Nat}(hn:l.most=some n){P:Params}{h:Heap}{args:List WData}{vals:List Value} (Cr:l.row.toRowW.claim.pre args=true)(J1:WellAll P h vals args): ∃a vs ns,vals=[Value.ref a]/\args=[WData.list (ns.map WData.int)]/\h.get? a=some {cls:=.type "list",data:=.seq vs.toArray}/\IntsAre vs ns/\ns.length<=n:=by
 have hsh:WShape.hasAll [] args [.list .int]=true:=(pre_splitW Cr).1;have hc:l.pre.holds [] {args:=args}=true:=(pre_splitW Cr).2;obtain⟨d,r,rfl,h1,h2⟩:=hasAllW_cons hsh;obtain rfl:=hasAllW_nil h2;obtain⟨xs,rfl,h3⟩:=hasW_list h1;obtain⟨ns,rfl⟩:=items_int h3;have hlen:ns.length<=n:=by
  unfold OpenLaw.pre at hc;have h4:(WTm.not (.lt (.lit (.int (n:Int))) (.len (.arg 0)))).holds [] {args:=[.list (ns.map .int)]}=true:=by have h4:=(holds_andW hc).1;rw[hn]at h4;exact h4
  have h5:=condW_of h4 (w_not (w_lt w_lit (w_len_list (w_arg Z))));rw[cB]at h5;refine Nat.le_of_not_lt λq=>?_;have q':(n:Int)<((ns.length:Nat):Int):=by omega
  first |(rw[cR q']at h5;exact absurd h5 aB) |(simp at h5;omega)
 cases J1 with |cons w1 w2=>cases w2;cases w1 with |list ho Jw=>exact⟨_,_,ns,Z,Z,ho,a6l ns _ Jw,hlen⟩
theorem a1W(l:OpenLaw)(args:List WData):l.row.toRowW.claim.post args (.bool true) args=true:=postW_of (r:=l.row.toRowW) (X:=(true==true)) (show WShape.has [] (.bool true) .bool=true by first|rfl|decide|simp[WShape.has,WShape.arms,WShape.armsAll]) (show(WTm.eq .res (.lit (.bool true))).value [] {args:=args,res:=some (.bool true),after:=args}=some (.bool (true==true))from w_eq_bool (w_res Z) w_lit) rfl
theorem acn{l:OpenLaw}{n:Nat}{q:ah}{loose:List Str}{XP:(Str->Option Value)->Heap->Prop}{YP:World->Heap->Prop}{d:DefRec} (hn:l.most=some n)(uP:d.params.defaults=[]) (call:∀(w:World)(s₀ s₁:ae)(mg mb:Str->Option Value)(fa:Addr)(o:Obj)(pm cd doc:Value)(a:Addr)(vs:List Value)(ns:List Int),Ground q loose [] XP w s₀ mg mb s₁.heap->YP w s₁.heap->s₁.heap.get? fa=some o->o.data= .func (docDef d.name d.params d.body d.scope pm cd doc)->s₁.heap.CodeRec cd d.name->mg d.name=some (.ref fa)->s₁.heap.get? a=some {cls:=.type "list",data:=.seq vs.toArray}->IntsAre vs ns->ns.length<=n->s₁.gens=#[]->codeAny (model l.prog w) callerA (.call (.ref fa) ⟨[.ref a],[]⟩) (λr s'=>r= .ok (.ret (.bool true))/\OldK s₁.heap s'.heap/\s'.os=s₁.os/\AllBare s'.gens) s₁): WalkO q loose XP YP l.row.toRowW d [] (λf vs=>PySem.call f vs):=by intro w s₀ s₁ mg mb G Y fa o pm cd doc dV kV ho hd ir hD Jj hg args vals as Cr ae2 hrd J1 hlo;obtain rfl:dV= .none:=Dflts.none hD uP;obtain rfl:kV= .none:=Dflts.noKw hD;obtain⟨a,vs,ns,rfl,rfl,Jd,hints,hlen⟩:=a0g hn Cr J1;refine enter_call (Aq (call w s₀ s₁ mg mb fa o pm cd doc a vs ns G Y ho (fd_plain hd) ir Jj Jd hints hlen hg) λr s' hq=>?_);obtain⟨rfl,h2,h3,h4⟩:=hq;exact⟨.inl ⟨.bool true,.bool true,[],Z,λ_=>rfl,.bool true,a1W l _,λ_=>⟨List.Pairwise.nil,λ_ hm=>(nomatch hm)⟩⟩,h2,h3,h4⟩
section
variable {prog:ah}{w:World}{A:aj}{E:Value->ae->Prop}{s:ae}{K:Frag}
end
end Att
namespace L2
open PySem PySem.Spec PyProof.Rows
theorem M9:∀{vs:List Value}{ns:List Int},IntsAre vs ns->Vals (ns.map V.int) vs |_,_,.nil=>.nil |_,_,.cons n t h=>.cons ⟨t,Z⟩ (M9 h)
def inClass(s:Stmt)(j:Nat):Stmt:=match s with | .ClassDef _ _ _ body _ _ _ _ _ _ _=>body.getD j (.Pass ⟨0,0,0,0⟩) |_=>.Pass ⟨0,0,0,0⟩
def kD(s:Stmt):Arguments:=match s with | .FunctionDef _ a _ _ _ _ _ _ _ _=>a |_=>{posonlyargs:=[],args:=[],vararg:=none,kwonlyargs:=[],kw_defaults:=[],kwarg:=none,defaults:=[]}
def gW(s:Stmt):List Stmt:=match s with | .FunctionDef _ _ b _ _ _ _ _ _ _=>b |_=>[]
def aZ(s:Stmt):Scope:=match s with | .FunctionDef _ _ _ _ _ _ sc _ _ _=>sc |_=>{kind:=.function,names:=[],isGenerator:=false,isCoroutine:=false}
abbrev jG:kH:=λ_ _ _ _ _ _=>False
abbrev E0:XK:=λ_ _ _=>False
theorem BF{X:Cx}:Passes jG X E0:=λ_ _ _ _ _ _ _ h=>h.elim
structure kG(K:aa)(x qual:Str)(st:Stmt)(f:Addr)(fd:FuncData):Prop where
 ex:∃(oc:Value)(od:Option Addr)(kV doc pm:Value)(an:Option Addr)(aQ ct:Value)(gF:Array (Option Value)),fd=PySem.W.fnOf x qual (kD st) (gW st) (aZ st) .none kV doc pm an aQ ct/\K.lookup f=some ⟨oc,od,.func fd,gF⟩/\PySem.W.codeIn K aQ qual=true
 kp:PySem.W.keepIn K (.ref f)=true
section
variable {P:ah}{w:World}{K:aa}{mg:Str->Option Value}{base:Heap}
theorem kG.ok{x qual:Str}{st:Stmt}{f:Addr}{fd:FuncData}{N ps:List Str}{k:Nat}{sp:Sp}(F:kG K x qual st f fd)(S:bF N ps (aZ st))(len:∀vs H Q E,sp vs H Q E->vs.length=ps.length) (iX:∀(aQ:Value)(A:aj)(outer:List Env)(s:ae)(H:Hp)(vs:List V)(Q:VK)(E:XK),cQ k (A.deeper (envOfC qual (aZ st) s.heap.objs.size f aQ))->sp vs H Q E->∃t,iy (ji jG P w K mg base N qual (aZ st) f aQ A outer s H E).pE (gW st) t/\t {nx:=λ_ H'=>Q .bw H',rt:=Q} (start N vs) H):jj P w K mg base jG (k+1) f fd ps sp:=by obtain⟨oc,od,kV,doc,pm,an,aQ,ct,gF,rfl,lk,ir⟩:=F.ex;refine JR lk ir S len λA outer s H vs Q E hr jx=>?_;obtain⟨t,h,q⟩:=iX aQ A outer s H vs Q E hr jx;exact⟨t,h.pE,q⟩
theorem kG.binds{x qual:Str}{st:Stmt}{f:Addr}{fd:FuncData}{ps:List Str}(F:kG K x qual st f fd) (h:∀(kV doc pm:Value)(an:Option Addr)(aQ ct:Value)(us:List Value),us.length=ps.length->bindArgs (PySem.W.fnOf x qual (kD st) (gW st) (aZ st) .none kV doc pm an aQ ct) ⟨us,[]⟩=pure (ps.zip us)):Binds K fd ps []:=by obtain⟨oc,od,kV,doc,pm,an,aQ,ct,gF,rfl,lk,ir⟩:=F.ex;exact .all (h kV doc pm an aQ ct)
theorem CW{x qual:Str}{st:Stmt}{f:Addr}{oc:Value}{od an:Option Addr}{gF:Array (Option Value)}{kV doc pm aQ ct:Value}(l:K.lookup f=some ⟨oc,od,.func (PySem.W.fnOf x qual (kD st) (gW st) (aZ st) .none kV doc pm an aQ ct),gF⟩) (c:PySem.W.codeIn K aQ qual=true)(k:PySem.W.keepIn K (.ref f)=true):kG K x qual st f (PySem.W.fnOf x qual (kD st) (gW st) (aZ st) .none kV doc pm an aQ ct):=⟨⟨oc,od,kV,doc,pm,an,aQ,ct,gF,Z,l,c⟩,k⟩
end
section
variable {X:Cx}
theorem pv(i:Nat){x:Str}{pos:Pos}(hN:X.N[i]? =some x:=by rfl)(hv:DC X.env.scope x:=by first|exact Or.inl rfl|exact Or.inr (Or.inl rfl)|exact Or.inr (Or.inr rfl))(hd:(x==("__debug__":Str))=false:=by decide) (ir:(x==("__classdict__":Str))=false:=by decide):PE X (.Name x pos) (qJ i):=PL hN hv hd ir
end
theorem bK{A B:Prop}(h:B):if false=true then A else B:=by rw[bu kK];exact h
theorem cf{A B:Prop}(h:A):if true=true then A else B:=by rw[bp rfl];exact h
theorem dU{c A B:Prop}[Decidable c](h1:c->A)(h2:¬c->B):if c then A else B:=by
 by_cases h:c
 ·rw[bp h]
  exact h1 h
 ·rw[bu h]
  exact h2 h
def aG(H H':Hp):Prop:=∀b o,H b=some o->H' b=some o
theorem aG.refl(H:Hp):aG H H:=λ_ _ h=>h
theorem aG.trans{H H1 H2:Hp}(a:aG H H1)(b:aG H1 H2):aG H H2:=λc o h=>b c o (a c o h)
theorem aG.seq{K:aa}{H H':Hp}{a:Addr}{xs:List V}(e:aG H H')(h:aJ K H a xs):aJ K H' a xs:=by
 rcases h with(h|⟨o,h⟩)|h
 ·exact .inl (.inl (e _ _ h))
 ·exact .inl (.inr ⟨o,e _ _ h⟩)
 ·exact .inr h
def Wd (i:Int):Prop:=i.natAbs<2^5000
theorem Wd.bits{i:Int}(h:Wd i):Builtin.Int.intBits i<=2^20:=iQ (PyProof.Rows.intBits_le h) aB
theorem Wd.log{i:Int}(h:Wd i):i.natAbs.log2<9000:=by
 by_cases e:i.natAbs=0
 ·rw[e];decide
 ·have h1:i.natAbs.log2<5000:=(Nat.log2_lt e).mpr h
  lia
section
variable {X:Cx}
theorem mF:dH X (binaryOp .FloorDiv) (rI (λ_ j=>0<j/\Wd j) λi j=>.int (i/j)):=yR λi j _ _ _ _ _ hc q=>by have h1:(0:Int)<j:=hc.1;exact floordiv_int aw (by rw[Y7 i aw];exact q) (.inl (PyProof.noPylong_of_log2 hc.2.log))
theorem Qe:dH X (binaryOp .FloorDiv) (rI (λ_ j=>j≠0/\Wd j) λi j=>.int (i.fdiv j)):=yR λ_ _ _ _ _ _ _ hc q=>floordiv_int hc.1 q (.inl (PyProof.noPylong_of_log2 hc.2.log))
end
def vh(K:aa)(H:Hp)(x:V)(T:String):Prop:=match x with | .bw=>T="NoneType" | .bl _=>T="bool" | .int _=>T="int" | .str _=>T="str" | .ref a=>(T="list"/\∃xs,aJ K H a xs)\/(T="tuple"/\∃xs,aU K H a xs) |_=>False
def j8(T n:String):Bool:=T==n||(T=="bool"&&n=="int")
def AQ:List String:=["NoneType","bool","int","str","list","tuple"]
def ye:List String:=["bool","int","str","list","tuple"]
theorem RC{K:aa}{T n:String}(h1:T∈AQ)(h2:n∈ye):PySem.W.kitOne K (.type T) (.type n)=some (j8 T n):=by
 have all:AQ.all (λT=>ye.all λn=>PySem.W.kitOne [] (.type T) (.type n)==some (j8 T n))=true:=by decide+kernel
 have a1:=j7.mp all T h1;have a2:=j7.mp a1 n h2;have e:PySem.W.kitOne K (.type T) (.type n)=PySem.W.kitOne [] (.type T) (.type n):=by unfold PySem.W.kitOne PySem.W.kitCls PySem.W.subIn;rfl
 rw[e];exact gh.mp a2
section
variable {X:Cx}
theorem vh.mem{K:aa}{H:Hp}{x:V}{T:String}(h:vh K H x T):T∈AQ:=by cases x with |bw=>cases(show T="NoneType" from h);decide |bl b=>cases(show T="bool" from h);decide |int b=>cases(show T="int" from h);decide |str b=>cases(show T="str" from h);decide |ref a=>rcases(show(T="list"/\∃xs,aJ K H a xs)\/(T="tuple"/\∃xs,aU K H a xs)from h)with⟨e,_⟩|⟨e,_⟩<;>cases e<;>decide |_=>exact(show False from h).elim
theorem RE{ay:List (Addr×Obj)}{s:ae}{O:St}{H:Hp}{x:V}{u:Value}{T:String}(I:Inv X ay O H s)(rx:RelV x u)(ty:vh X.K H x T): ∃P:Heap->Prop,PySem.W.KitX X.K u (.type T) P/\P s.heap/\u≠ .builtin "__main__.__loader__#opaque":=by cases x with
 |bw=>cases(show T="NoneType" from ty);cases(show u=Value.none from rx);exact⟨_,PySem.W.kitx_none,True.intro,λz=>nomatch z⟩ |bl b=>cases(show T="bool" from ty);cases(show u=Value.bool b from rx);exact⟨_,PySem.W.kitx_bool,True.intro,λz=>nomatch z⟩ |int b=>cases(show T="int" from ty);obtain⟨t,q⟩:=(show∃t,u=Value.int b t from rx);cases q;exact⟨_,PySem.W.kitx_int,True.intro,λz=>nomatch z⟩ |str b=>cases(show T="str" from ty);obtain⟨t,q⟩:=(show∃t,u=Value.str b t from rx);cases q;exact⟨_,PySem.W.kitx_str,True.intro,λz=>nomatch z⟩ |ref a=>
  cases(show u=Value.ref a from rx);rcases(show(T="list"/\∃xs,aJ X.K H a xs)\/(T="tuple"/\∃xs,aU X.K H a xs)from ty)with⟨e,xs,hx⟩|⟨e,xs,hx⟩
  ·cases e
   obtain⟨its,r,⟨o,n,h1,h2,_⟩,_⟩:=I.list hx;exact⟨_,PySem.W.kitx_list,⟨o,h1,h2⟩,λz=>nomatch z⟩
  ·cases e
   obtain⟨its,r,⟨o,h1,h2,_⟩,_⟩:=I.tuple hx;exact⟨_,PySem.W.kitx_tuple,⟨o,h1,h2⟩,λz=>nomatch z⟩ |_=>exact(show False from ty).elim
inductive X6(K:aa)(xs:List V)(H:Hp)(Q:VK):Prop |mk (x:_)(T:_)(n:_)(b:_)(h0:xs=[x,.ty n])(h1:vh K H x T)(h2:n∈ye)(h3:j8 T n=b)(h4:Q (.bl b) H):X6 K xs H Q
def Hj(K:aa):List V->Hp->VK->Prop:=λxs H Q=>X6 K xs H Q
theorem abU:fL X (.builtin "isinstance") (Hj X.K):=by intro ay s O H xs us Q I r h;obtain⟨x,T,n,b,rfl,ty,hn,rfl,q⟩:=h;obtain⟨u,c,rfl,rx,rc⟩:=vals2 r;cases(show c=Value.type n from rc);obtain⟨P,aeE,p,hx⟩:=RE I rx ty;exact PySem.W.kia_one aeE I.gQ p (RC ty.mem hn) hx λtk=>⟨.bl (j8 T n),H,I.tok _,Z,q⟩
inductive X5(K:aa)(xs:List V)(H:Hp)(Q:VK):Prop |mk (x:V)(T:String)(p:Addr)(ns:List String)(b:Bool)(h0:xs=[x,.ref p])(h1:H p=some (.tup (ns.map V.ty)))(h2:vh K H x T)(h3:(∀n∈ns,n∈ye))(h4:ns.any (j8 T)=b)(h5:Q (.bl b) H):X5 K xs H Q
def Hi(K:aa):List V->Hp->VK->Prop:=λxs H Q=>X5 K xs H Q
theorem Rz{K:aa}{T:String}(h1:T∈AQ):∀{ns:List String},(∀n∈ns,n∈ye)->PySem.W.kitAny K (.type T) (ns.map Value.type)=some (ns.any (j8 T)) |[],_=>rfl |n::r,h=>by have e:=RC (K:=K) h1 (h n (LL ..));have ih:=Rz (K:=K) h1 (ns:=r) λm hm=>h m (iR _ hm);rw[oP,PySem.W.kitAny,e,vF];cases j8 T n with |true=>rfl |false=>simpa using ih
theorem M7:∀{ns:List String}{us:List Value},Vals (ns.map V.ty) us->us=ns.map Value.type |[],_,.nil=>rfl |n::r,_,.cons q t=>by cases(show _=Value.type n from q);rw[M7 t];rfl
theorem abT:fL X (.builtin "isinstance") (Hi X.K):=by intro ay s O H xs us Q I r h;obtain⟨x,T,p,ns,b,rfl,hp,ty,hn,rfl,q⟩:=h;obtain⟨u,c,rfl,rx,rc⟩:=vals2 r;cases(show c=Value.ref p from rc);obtain⟨P,aeE,pp,hx⟩:=RE I rx ty;obtain⟨_,its,rv,⟨cls,dd,dt,sl⟩,h1,h2,n,h3⟩:=(show fW X.prog X.w H s.heap p (.tup (ns.map V.ty))from I.bj p _ hp);simp only at h2 h3;subst h2 h3;have e:=M7 rv;subst e;exact PySem.W.kia_tup aeE I.gQ pp h1 (Rz ty.mem hn) hx λtk=>⟨.bl _,H,I.tok _,Z,q⟩
end
mutual
def RD(K:aa)(H:Hp):V->ai->Prop |x,.none=>x= .bw |x,.bool b=>x= .bl b |x,.int i=>x= .int i |x,.str y=>x= .str y |x,.list ds=>∃a xs,x= .ref a/\aJ K H a xs/\aP K H xs ds |x,.tuple ds=>∃a xs,x= .ref a/\aU K H a xs/\aP K H xs ds |_,.dict _=>False
def aP (K:aa)(H:Hp):List V->List ai->Prop |xs,[]=>xs=[] |xs,d::ds=>∃y ys,xs=y::ys/\RD K H y d/\aP K H ys ds
end
section
variable {X:Cx}
mutual
theorem RD.reads{ay:List (Addr×Obj)}{s:ae}{O:St}{H:Hp}(I:Inv X ay O H s):∀{x:V}{u:Value}(d:ai),RelV x u->RD X.K H x d->∃as,Reads s.heap u d as |x,u,.none,r,h=>by cases(show x= .bw from by simpa[RD]using h);cases(show u=Value.none from r);exact⟨_,.none⟩ |x,u,.bool b,r,h=>by cases(show x= .bl b from by simpa[RD]using h);cases(show u=Value.bool b from r);exact⟨_,.bool b⟩ |x,u,.int i,r,h=>by cases(show x= .int i from by simpa[RD]using h);obtain⟨t,q⟩:=(show∃t,u=Value.int i t from r);cases q;exact⟨_,.int i t⟩ |x,u,.str y,r,h=>by cases(show x= .str y from by simpa[RD]using h);obtain⟨t,q⟩:=(show∃t,u=Value.str y t from r);cases q;exact⟨_,.str y t⟩ |x,u,.list ds,r,h=>by rw[RD]at h;obtain⟨a,xs,rfl,hx,hd⟩:=h;cases(show u=Value.ref a from r);obtain⟨its,rv,⟨o,n,h1,h2,h3,h4⟩,_⟩:=I.list hx;obtain⟨as,q⟩:=aP.reads I ds rv hd;exact⟨_,.list h1 h2 h4 (by simpa using q)⟩ |x,u,.tuple ds,r,h=>by rw[RD]at h;obtain⟨a,xs,rfl,hx,hd⟩:=h;cases(show u=Value.ref a from r);obtain⟨its,rv,⟨o,h1,h2,n,h4⟩,_⟩:=I.tuple hx;obtain⟨as,q⟩:=aP.reads I ds rv hd;exact⟨_,.tuple h1 h2 h4 (by simpa using q)⟩ |x,u,.dict _,r,h=>by simp[RD]at h
theorem aP.reads {ay:List (Addr×Obj)}{s:ae}{O:St}{H:Hp}(I:Inv X ay O H s):∀{xs:List V}{us:List Value}(ds:List ai),Vals xs us->aP X.K H xs ds->∃as,ReadsAll s.heap us ds as |xs,us,[],r,h=>by cases(show xs=[]from by simpa[aP]using h);cases r;exact⟨_,.nil⟩ |xs,us,d::ds,r,h=>by rw[aP]at h;obtain⟨y,ys,rfl,h1,h2⟩:=h;cases r with |cons ra rb=>obtain⟨as,q⟩:=RD.reads I d ra h1;obtain⟨bs,q'⟩:=aP.reads I ds rb h2;exact⟨_,.cons q q'⟩
end
inductive Xd(K:aa)(x:V)(y:V)(H:Hp)(Q:VK):Prop |mk (d:_)(e:_)(h0:RD K H x d)(h1:RD K H y e)(h2:SeqAt.shaped d=true)(h3:SeqAt.shaped e=true)(h4:Q (.bl (PyData.eqv d e)) H):Xd K x y H Q
def Hk(K:aa):R2:=λx y H Q=>Xd K x y H Q
inductive X0(K:aa)(x:V)(y:V)(H:Hp)(Q:VK):Prop |mk (d:_)(e:_)(h0:RD K H x d)(h1:RD K H y e)(h2:SeqAt.shaped d=true)(h3:SeqAt.shaped e=true)(h4:Q (.bl (!PyData.eqv d e)) H):X0 K x y H Q
def Hf(K:aa):R2:=λx y H Q=>X0 K x y H Q
theorem a2H(hu:X.A.units+64<cLine):dH X (compareOp .Eq) (Hk X.K):=by intro ay s O H x y v u Q I rx ry h;obtain⟨d,e,hd,he,sd,se,q⟩:=h;obtain⟨as,ra⟩:=RD.reads I d rx hd;obtain⟨bs,rb⟩:=RD.reads I e ry he;exact eq_dataH ra rb sd se hu ⟨.bl _,H,I,Z,q⟩
theorem a2C(hu:X.A.units+64<cLine):dH X (compareOp .NotEq) (Hf X.K):=by intro ay s O H x y v u Q I rx ry h;obtain⟨d,e,hd,he,sd,se,q⟩:=h;obtain⟨as,ra⟩:=RD.reads I d rx hd;obtain⟨bs,rb⟩:=RD.reads I e ry he;exact ne_dataH ra rb sd se hu ⟨.bl _,H,I,Z,q⟩
end
theorem aG.new{H:Hp}{t:Addr}{o:HO}(ht:H t=none):aG H (upd H t o):=λb o' e=>by rw[aK (gy e ht)];exact e
structure Nw(H H':Hp)(p:Addr)(o:HO):Prop where
 no:H p=none
 at':H' p=some o
 same:aG H H'
 eq:H'=upd H p o
theorem Nw.of{H:Hp}{p:Addr}{o:HO}(h:H p=none):Nw H (upd H p o) p o:=⟨h,bf,.new h,Z⟩
def Du:List Str:=["len","abs","min","max","range","isinstance","int","bool","str","tuple","list","any","all","sum","zip","enumerate","sorted","reversed","ord","chr","divmod","repr","dict","set"]
def bV(mg:Str->Option Value):Prop:=∀x∈Du,mg x=none
theorem bV.at{mg:Str->Option Value}(B:bV mg)(x:Str)(h:x∈Du:=by decide):mg x=none:=B x h
theorem eR{α:Type}{C:List α->Prop}(h:∀a,C [a]):∀us:List α,us.length=1->C us |[_],_=>h _
theorem dN{α:Type}{C:List α->Prop}(h:∀a b,C [a,b]):∀us:List α,us.length=2->C us |[_,_],_=>h _ _
theorem oB{α:Type}{C:List α->Prop}(h:∀a b c,C [a,b,c]):∀us:List α,us.length=3->C us |[_,_,_],_=>h _ _ _
theorem DA{α:Type}{C:List α->Prop}(h:∀a b c d,C [a,b,c,d]):∀us:List α,us.length=4->C us |[_,_,_,_],_=>h _ _ _ _
def Tg(N P:List Str)(sc:Scope):Bool:=decide (sc.kind= .function)&& !sc.isCoroutine&& !sc.isGenerator&&decide N.Nodup&&decide (N.take P.length=P)&&P.all (λx=>decide (sc.names.lookup x=some .local\/sc.names.lookup x=some .cell))&&sc.names.all λy=>decide (y.2≠ .free)
theorem bP{N P:List Str}{sc:Scope}(h:Tg N P sc=true):bF N P sc:=by unfold Tg at h;simp only[fE,DS,Y9,j7]at h;obtain⟨⟨⟨⟨⟨⟨h1,h2⟩,h3⟩,h4⟩,h5⟩,h6⟩,h7⟩:=h;exact⟨h1,h2,h3,h4,h5,h6,h7⟩
structure FA(K:aa)(mg:Str->Option Value)(x:Str)(st:Stmt):Prop where ex:∃f fd,mg x=some (.ref f)/\kG K x x st f fd
def aI(P:ah)(w:World)(K:aa)(mg:Str->Option Value)(base:Heap)(x:Str)(k:Nat)(sp:Sp):Prop:=∃f fd ps,jj P w K mg base jG k f fd ps sp/\mg x=some (.ref f)/\PySem.W.keepIn K (.ref f)=true/\Binds K fd ps []
section
variable {P:ah}{w:World}{K:aa}{mg:Str->Option Value}{base:Heap}
theorem a9w{h:Heap}{x:Str}{st:Stmt}{f:Addr}{oc:Value}{od an:Option Addr}{gF:Array (Option Value)}{kV doc pm aQ ct:Value}(X:K.In h)(G:h.Ns mainGlobals mg) (a:PySem.W.nsIn K mainGlobals x=some (some (.ref f))) (l:K.lookup f=some ⟨oc,od,.func (PySem.W.fnOf x x (kD st) (gW st) (aZ st) .none kV doc pm an aQ ct),gF⟩) (c:PySem.W.codeIn K aQ x=true)(k:PySem.W.keepIn K (.ref f)=true):FA K mg x st:=⟨f,_,xW X G a,CW l c k⟩
theorem FA.has{x:Str}{st:Stmt}{N ps:List Str}{k:Nat}{sp:Sp}(F:FA K mg x st)(S:bF N ps (aZ st))(len:∀vs H Q E,sp vs H Q E->vs.length=ps.length) (hb:∀(kV doc pm:Value)(an:Option Addr)(aQ ct:Value)(us:List Value),us.length=ps.length->bindArgs (PySem.W.fnOf x x (kD st) (gW st) (aZ st) .none kV doc pm an aQ ct) ⟨us,[]⟩=pure (ps.zip us)) (iX:∀(f:Addr)(aQ:Value)(A:aj)(outer:List Env)(s:ae)(H:Hp)(vs:List V)(Q:VK)(E:XK),cQ k (A.deeper (envOfC x (aZ st) s.heap.objs.size f aQ))->sp vs H Q E->∃t,iy (ji jG P w K mg base N x (aZ st) f aQ A outer s H E).pE (gW st) t/\t {nx:=λ_ H'=>Q .bw H',rt:=Q} (start N vs) H):aI P w K mg base x (k+1) sp:=by obtain⟨f,fd,hm,F⟩:=F.ex;exact⟨f,fd,ps,F.ok S len λaQ A outer s H vs Q E=>iX f aQ A outer s H vs Q E,hm,F.kp,F.binds hb⟩
end
section
variable {X:Cx}{k:Nat}{x:Str}{p pos:Pos}{e:Expr}{es:List Expr}{t:TA}{sp:Sp}
def My(sp:Sp)(t:TA):TE:=λO H Q=>t O H λvs H1=>sp vs H1 Q E0
theorem pj(F:aI X.prog X.w X.K X.mg X.base x k sp)(hr:cQ k X.A)(hg:Gl X x)(ha:PA X (e::es) t)(jA:(x==("__debug__":Str))=false:=by decide) (he:starEach (e::es) X.env=(false,eval e X.env)::starEach es X.env:=by rfl)(gH:(backTo pos (starEach es X.env)).any (·.1)=false:=by rfl): PE X (.Call (.Name x p) (e::es) [] pos) (My sp t):=by
 obtain⟨f,fd,ps,F,hm,hk,hb⟩:=F;have h:=a2k (pos:=pos) (p:=p) F hr hg hm hk hb .nil BF ha jA he gH;intro ay s O H Q I hq;refine h ay s O H Q I ?_;have e1:(λ(vs:List V) H1=>sp (vs++[]) H1 Q E0)=λvs H1=>sp vs H1 Q E0:=by funext vs H1;rw[E7]
 show t O H λvs H1=>sp (vs++[]) H1 Q E0;rw[e1];exact hq
theorem pf{j:Nat}(F:aI X.prog X.w X.K X.mg X.base x j sp)(hr:cQ k X.A)(ha:PA X (e::es) t)(hjk:j<=k:=by decide)(hg:Gl X x:=by rfl)(jA:(x==("__debug__":Str))=false:=by decide)(he:starEach (e::es) X.env=(false,eval e X.env)::starEach es X.env:=by rfl)(gH:(backTo pos (starEach es X.env)).any (·.1)=false:=by rfl):PE X (.Call (.Name x p) (e::es) [] pos) (My sp t):=pj F (hr.mono hjk) hg ha jA he gH
theorem bO:dH X (binaryOp .Mult) (rI (λi j=>IntMulOk i j) λi j=>.int (i*j)):=yR λ_ _ _ _ _ _ _ hc q=>mul_int q hc
theorem a2G:dH X (compareOp .Eq) (kP λi j=>.bl (decide (i=j))):=wy λ_ _ _ _ _ _ _ q=>eq_int (by rw[Bool.beq_eq_decide_eq];exact q)
theorem a2B:dH X (compareOp .NotEq) (kP λi j=>.bl (!decide (i=j))):=wy λ_ _ _ _ _ _ _ q=>ne_int (by rw[bne,Bool.beq_eq_decide_eq];exact q)
theorem a2I(hu:X.A.units+64<cLine):dH X (compareOp .Eq) (λx y H Q=>kP (λi j=>.bl (decide (i=j))) x y H Q\/Hk X.K x y H Q):=a2G.or (a2H hu)
theorem a2D(hu:X.A.units+64<cLine):dH X (compareOp .NotEq) (λx y H Q=>kP (λi j=>.bl (!decide (i=j))) x y H Q\/Hf X.K x y H Q):=a2B.or (a2C hu)
mutual
theorem eqv_refl:∀d:ai,d.canLay0=true->PyData.eqv d d=true | .none,_=>by simp[PyData.eqv] | .bool b,_=>by simp[PyData.eqv] | .int i,_=>by simp[PyData.eqv] | .str x,_=>by simp[PyData.eqv] | .list ds,h=>by simp only[PyData.eqv];exact eqvAll_refl ds (by simpa[PyData.canLay0]using h) | .tuple ds,h=>by simp only[PyData.eqv];exact eqvAll_refl ds (by simpa[PyData.canLay0]using h) | .dict _,h=>by simp[PyData.canLay0]at h
theorem eqvAll_refl:∀ds:List ai,PyData.canLayAll0 ds=true->PyData.eqvAll ds ds=true |[],_=>by simp[PyData.eqvAll] |d::ds,h=>by simp only[PyData.canLayAll0,fE]at h;simp only[PyData.eqvAll,fE];exact⟨eqv_refl d h.1,eqvAll_refl ds h.2⟩
end
theorem md{K:aa}{H:Hp}(b:Bool):RD K H (.bl b) (.bool b):=by simp[RD]
theorem dw{K:aa}{H:Hp}(i:Int):RD K H (.int i) (.int i):=by simp[RD]
theorem cV{K:aa}{H:Hp}(x:Str):RD K H (.str x) (.str x):=by simp[RD]
theorem a1o{K:aa}{H:Hp}:RD K H .bw .none:=by simp[RD]
theorem jb{K:aa}{H:Hp}{p:Addr}{xs:List V}{ds:List ai}(h:aU K H p xs)(r:aP K H xs ds):RD K H (.ref p) (.tuple ds):=by rw[RD];exact⟨p,xs,Z,h,r⟩
theorem kO{K:aa}{H:Hp}{p:Addr}{xs:List V}{ds:List ai}(h:aJ K H p xs)(r:aP K H xs ds):RD K H (.ref p) (.list ds):=by rw[RD];exact⟨p,xs,Z,h,r⟩
theorem cX{K:aa}{H:Hp}:aP K H [] []:=by simp[aP]
theorem cm{K:aa}{H:Hp}{x:V}{xs:List V}{d:ai}{ds:List ai}(h:RD K H x d)(r:aP K H xs ds):aP K H (x::xs) (d::ds):=by rw[aP];exact⟨x,xs,Z,h,r⟩
inductive Vz(t:TS)(D:Ends)(O:St)(H:Hp):Prop |mk (KY:St->Hp->Prop)(h0:t {D with nx:=KY} O H)(h1:∀σ' H',KY σ' H'->D.nx σ' H'):Vz t D O H
def Zk (t:TS):TS:=λD O H=>Vz t D O H
theorem hJ{st:Stmt}{t:TS}(h:PS X st t):PS X st (Zk t):=by intro ay s O H D I hq;obtain⟨KY,q,m⟩:=hq;refine bo (h ay s O H _ I q) λf s1 q1=>?_;cases f with |next=>obtain⟨σ',H',I',q'⟩:=q1;exact⟨σ',H',I',m _ _ q'⟩ |brk=>exact q1 |cont=>exact q1 |ret u=>exact q1
end
def sQ(K:aa)(xs:List Str):Prop:=∀x∈xs,PySem.W.nsIn K mainGlobals x=some none
theorem sQ.nil{K:aa}:sQ K []:=λ_ h=>nomatch h
theorem sQ.cons{K:aa}{x:Str}{xs:List Str}(a:PySem.W.nsIn K mainGlobals x=some none)(r:sQ K xs):sQ K (x::xs):=λy hy=>by
 rcases bM.mp hy with e|e
 ·rw[e];exact a
 ·exact r y e
theorem ac5{K:aa}{mg:Str->Option Value}{h:Heap}(X:K.In h)(G:h.Ns mainGlobals mg)(a:sQ K Du):bV mg:=λx hx=>PySem.W.mg_none_of X G (a x hx)
theorem Kv{env:Env}:∀(ns:List (Str×NameKind))(cs:List (Str×Addr)),(∀x∈ns,x.2= .free->∃c,env.cells.lookup x.1=some c)->(∀x c,cs.lookup x=some c->env.cells.lookup x=some c)->∃cl,(forIn ns cs (λx r=>if(x.2==NameKind.free)=true then do let a<-cellOf env x.1;pure (ForInStep.yield ((x.1,a)::r))else pure (ForInStep.yield r)):Sem (List (Str×Addr)))=pure cl/\(∀x c,cl.lookup x=some c->env.cells.lookup x=some c)/\(∀x c,cs.lookup x=some c->∃c',cl.lookup x=some c')/\∀x∈ns,x.2= .free->∃c,cl.lookup x.1=some c
 |[],cs,_,h2=>⟨cs,Z,h2,λx c e=>⟨c,e⟩,λ_ h=>nomatch h⟩ |(n,k)::r,cs,h1,h2=>by
  by_cases hk:k= .free
  ·subst hk
   obtain⟨c,hc⟩:=h1 (n,.free) (.head _) rfl;have e1:cellOf env n=pure c:=by unfold cellOf;rw[show env.cells.lookup n=some c from hc]
   obtain⟨cl,a1,a2,a3,a4⟩:=Kv r ((n,c)::cs) (λx hx=>h1 x (.tail _ hx)) (λx d e=>by rw[jk]at e;cases z:x==n with |true=>rw[z]at e;cases e;rw[gh.mp z];exact hc |false=>rw[z]at e;exact h2 x d e);refine⟨cl,?_,a2,λx d e=>?_,λx hx hf=>?_⟩
   ·rw[E6]
    show(do let r'<-(if(NameKind.free==NameKind.free)=true then do let a<-cellOf env n;pure (ForInStep.yield ((n,a)::cs))else pure (ForInStep.yield cs));_)=_;rw[bp (by rfl),e1];exact a1
   ·by_cases z:x==n
    ·exact a3 x c (by rw[jk,z])
    ·exact a3 x d (by rw[jk,y6.mpr z];exact e)
   ·rcases bM.mp hx with rfl|hx
    ·exact a3 n c (by rw[jk,Lm])
    ·exact a4 x hx hf
  ·obtain⟨cl,a1,a2,a3,a4⟩:=Kv r cs (λx hx=>h1 x (.tail _ hx)) h2
   refine⟨cl,?_,a2,a3,λx hx hf=>?_⟩
   ·rw[E6]
    show(do let r'<-(if(k==NameKind.free)=true then do let a<-cellOf env n;pure (ForInStep.yield ((n,a)::cs))else pure (ForInStep.yield cs));_)=_;rw[bu (by simpa using hk)];exact a1
   ·rcases bM.mp hx with rfl|hx
    ·exact absurd hf hk
    ·exact a4 x hx hf
theorem UD{env:Env}{scope:Scope}(h1:∀x∈scope.names,x.2= .free->∃c,env.cells.lookup x.1=some c): ∃cl,closureFor scope env=pure cl/\(∀x c,cl.lookup x=some c->env.cells.lookup x=some c)/\∀x∈scope.names,x.2= .free->∃c,cl.lookup x.1=some c:=by
 obtain⟨cl,a1,a2,_,a4⟩:=Kv (env:=env) scope.names [] h1 (λx c e=>nomatch e);refine⟨cl,?_,a2,a4⟩;unfold closureFor;show(forIn scope.names ([]:List (Str×Addr)) (λ(x:Str×NameKind) r=>match x with|(name,kind)=>if(kind==NameKind.free)=true then do let a<-cellOf env name;pure (ForInStep.yield ((name,a)::r))else pure (ForInStep.yield r))>>=λr=>(pure r:Sem (List (Str×Addr))))=pure cl;have ef:(λ(x:Str×NameKind)(r:List (Str×Addr))=>match x with|(name,kind)=>(if(kind==NameKind.free)=true then do let a<-cellOf env name;pure (ForInStep.yield ((name,a)::r))else pure (ForInStep.yield r):Sem (ForInStep (List (Str×Addr))))) =λx r=>if(x.2==NameKind.free)=true then do let a<-cellOf env x.1;pure (ForInStep.yield ((x.1,a)::r))else pure (ForInStep.yield r):=by funext x r;obtain⟨n,k⟩:=x;rfl
 rw[ef,a1];rfl
theorem QV{env:Env}(hk:env.scope.kind= .function){x:Str}(hx:env.kindOf x=some .cell):∀{names:List (Str×NameKind)},names.lookup x=some .free->(names.map λ(n,k)=>if(k==NameKind.free&&env.scope.kind== .function&&env.kindOf n==some .cell)then(n,NameKind.cell)else(n,k)).lookup x=some .cell |[],h=>nomatch h |(n,k)::r,h=>by have ih:=@QV env hk x hx r;show List.lookup x ((if(k==NameKind.free&&env.scope.kind== .function&&env.kindOf n==some .cell)=true then(n,NameKind.cell)else(n,k))::_)=_;cases z:x==n with |true=>simp only[jk,z]at h;cases h;have e:=gh.mp z;subst e;rw[bp (by rw[hk,hx];rfl),jk,z] |false=>simp only[jk,z]at h;split<;>(simp only[jk,z];exact ih h)
def gd(X:Cx)(N:List Str)(scope:Scope)(cl:List (Str×Addr))(s:ae)(H:Hp)(fp:List Addr)(ay:List (Addr×Obj)):Cx:={prog:=X.prog,w:=X.w,K:=X.K,mg:=X.mg,base:=X.base,A:=X.A,N:=N,s₀:=s,H₀:=H,env:=compEnvC scope cl s.heap.objs.size X.env,outer:=X.stack,stack:=X.stack,ex:=fp,fn:=λ_=>false,calm:=X.calm,pn:=X.pn++ay,xe:=λ_ _=>False}
def stC(js:List (Option Nat))(O:St):St:=js.map λ|none=>none|some j=>(O[j]?).join
def Dq(X:Cx)(N:List Str)(js:List (Option Nat))(scope:Scope):Bool:=N.length==js.length&&(N.zip js).all λp=>match p.2 with|none=>true|some j=>X.N[j]? ==some p.1&&scope.names.lookup p.1==some NameKind.free&&X.env.kindOf p.1==some NameKind.cell
def xH(X:Cx)(scope:Scope):Bool:=scope.kind== .function&&X.env.scope.kind== .function&&scope.names.all λx=>match x.2 with | .free=>X.env.kindOf x.1==some NameKind.cell | .cell=>false | .local=>scope.names.lookup x.1==some NameKind.local |_=>true
section
variable {X:Cx}{ay:List (Addr×Obj)}{O:St}{H:Hp}{s:ae}
theorem lookup_mem{α β:Type}[BEq α][LawfulBEq α]:∀{l:List (α×β)}{x:α}{b:β},l.lookup x=some b->(x,b)∈l |[],_,_,h=>nomatch h |(n,k)::r,x,b,h=>by rw[jk]at h;cases z:x==n with |true=>rw[z]at h;cases h;rw[gh.mp z];exact .head _ |false=>rw[z]at h;exact .tail _ (lookup_mem h)
theorem Pg{env:Env}{x:Str}{k:NameKind}:∀{names:List (Str×NameKind)},(names.map λ(n,k)=>if(k==NameKind.free&&env.scope.kind== .function&&env.kindOf n==some .cell)then(n,NameKind.cell)else(n,k)).lookup x=some k->names.lookup x=some k\/(k= .cell/\names.lookup x=some .free) |[],h=>nomatch h |(n,k')::r,h=>by have ih:=@Pg env x k r;have h':List.lookup x ((if(k'==NameKind.free&&env.scope.kind== .function&&env.kindOf n==some .cell)=true then(n,NameKind.cell)else(n,k'))::(r.map λ(n,k)=>if(k==NameKind.free&&env.scope.kind== .function&&env.kindOf n==some .cell)then(n,NameKind.cell)else(n,k)))=some k:=h;cases z:x==n with
 |true=>
  split at h'
  ·rename_i hc
   simp only[jk,z]at h';cases h';rw[fE,fE]at hc;have e:k'= .free:=gh.mp hc.1.1;subst e;exact .inr ⟨Z,by rw[jk,z]⟩
  ·simp only[jk,z]at h'
   cases h';exact .inl (by rw[jk,z]) |false=>
  rw[jk,z];refine ih ?_;split at h'
  ·simpa only[jk,z]using h'
  ·simpa only[jk,z]using h'
theorem Inv.comp{N:List Str}{js:List (Option Nat)}{scope:Scope}{cl:List (Str×Addr)}{fp:List Addr}{h':Heap}{tk:Nat}(I:Inv X ay O H s)(hN:Dq X N js scope=true)(hS:xH X scope=true) (c1:∀x c,cl.lookup x=some c->X.env.cells.lookup x=some c)(c2:∀x∈scope.names,x.2= .free->∃c,cl.lookup x.1=some c)(hf:∀b∈fp,lY X ay H b)(hfl:∀b∈fp,b<s.heap.objs.size) (hn:h'.Ns s.heap.objs.size λ_=>none)(hk:∀b o,s.heap.get? b=some o->h'.get? b=some o):Inv (gd X N scope cl s H fp ay) [] (stC js O) H {s with heap:=h',toks:=tk}:=by
 unfold xH at hS;rw[fE,fE]at hS;obtain⟨⟨s1,s2⟩,s3⟩:=hS;have pN:scope.kind= .function:=gh.mp s1;have a7m:X.env.scope.kind= .function:=gh.mp s2;unfold Dq at hN;rw[fE]at hN;obtain⟨n1,n2⟩:=hN;have hlen:N.length=js.length:=gh.mp n1;have RR:∀x k,(relabel scope X.env).names.lookup x=some k->scope.names.lookup x=some k\/(k= .cell/\scope.names.lookup x=some .free):=λx k e=>Pg e;have a4x:∀x,scope.names.lookup x≠some .cell:=λx e=>by have:=j7.mp s3 _ (lookup_mem e);exact kK this
 have Tf:∀b∈(gd X N scope cl s H fp ay).fs,b∈X.env.locals::X.fs:=I.yn;have ok:(gd X N scope cl s H fp ay).Ok:={
  mod:=I.ok.mod
  kind:=pN
  glob:=I.ok.glob
  blt:=I.ok.blt
  above:=bR _
  inj:=λx y c e1 e2=>I.ok.inj x y c (c1 x c e1) (c1 y c e2)
  has:=λx hx=>by
   have fr:scope.names.lookup x=some .free->∃c,cl.lookup x=some c:=λe=>c2 (x,.free) (lookup_mem e) rfl;rcases hx with e|e
   ·rcases RR x _ e with e|⟨_,e⟩
    ·exact absurd e (a4x x)
    ·exact fr e
   ·rcases RR x _ e with e|⟨z,_⟩
    ·exact fr e
    ·cases z
  sy:=λx c e=>nomatch e
  hd:=I.ok.hd
  frames:=I.ok.frames
  vN:=.inl rfl
  D7:=λb hb=>⟨fR (hfl b hb),λx c e=>(hf b hb).2.2.2.2.1 x c (c1 x c e)⟩
  bs:=I.bs
  mz:=iQ I.ok.mz I.sz
  uo:=λb o e hb=>by
   rcases(hf b hb).2.2.2.1 with z|z
   ·exact I.ok.uo b o e z
   ·exact absurd (gB (cJ e) (iQ I.ok.mz z)) (qE _)
  rY:=λb hb z=>by
   obtain⟨_,q1,q2,_⟩:=hf b hb;rcases bM.mp (Tf b z)with e|e
   ·exact q1 e
   ·exact q2 e
  jT:=I.stack
  og:=I.B8};refine⟨ok,Z,I.bare,Un.kept hk,⟨_,hn,λi x v e1 e2 e3=>?_⟩,λx c e=>?_,I.bj.fresh (bR _),λx c e=>I.kB x c (c1 x c e),λp hp=>?_,I.bj.kept hk,?_⟩
 ·have xD:(js.map λ|none=>none|some j=>(O[j]?).join)[i]? =some (some v):=e2
  rw[cH]at xD;cases hj:js[i]? with |none=>rw[hj]at xD;cases xD |some o=>rw[hj]at xD;cases o with |none=>cases xD |some j=>
   have hz:(N.zip js)[i]? =some (x,some j):=by rw[xY];exact⟨e1,hj⟩
   have UJ:=j7.mp n2 _ (gX hz);simp only[fE,gh]at UJ;obtain⟨⟨h1,h2⟩,h3⟩:=UJ;have Dj:(O[j]?).join=some v:=by simpa using xD
   have hσ:O[j]? =some (some v):=by cases q:O[j]? with |none=>rw[q]at Dj;cases Dj |some o=>
    rw[q]at Dj;have:o=some v:=by simpa using Dj
    rw[this]
   obtain⟨m,hm,hl⟩:=I.loc;obtain⟨u,r,l⟩:=hl j x v h1 hσ (.inr (.inl h3));refine⟨u,r,?_⟩;rcases l with⟨k,_⟩|⟨_,c,hc,mL⟩
   ·rw[h3]at k;cases k
   ·obtain⟨c',gU⟩:=c2 (x,.free) (lookup_mem h2) rfl
    have:=c1 x c' gU;rw[hc]at this;cases this;refine .inr ⟨.inl (QV a7m h3 h2),c,gU,?_⟩;obtain⟨ob,ho,hd⟩:=mL;exact⟨ob,hk _ _ ho,hd⟩
 ·obtain⟨v,ob,ho,hd⟩:=I.cell x c (c1 x c e)
  exact⟨v,ob,hk _ _ ho,hd⟩
 ·have wZ:p∈X.pn++ay:=by simpa[gd]using hp
  obtain⟨a1,a2,a3,a4,a5⟩:=I.pin p wZ;refine⟨hk _ _ a1,a2,fR (cJ a1),λz=>?_,a5⟩;rcases bM.mp (Tf p.1 z)with e|e
  ·exact a3 e
  ·exact a4 e
 ·show(js.map _).length=N.length
  rw[cB,hlen]
end
theorem Uz{prog:ah}{w:World}{A:aj}{R:Result->ae->Prop}{s:ae}{elt target iter:Expr}{ifs:List Expr}{scope:Scope}{pos:Pos}{it acc:Value}{env:Env}(I:Nat->ae->Prop) (turn:∀n s,I n s->wpAny (model prog w) A (pyNext it) (λr s₁=>match r with |none=>R (.ok .next) s₁ |some v=>wpAny (model prog w) A (letOwnedTupleGo target it v) (λ_ s₁=>wpAny (model prog w) A (assign target env v) (λ_ s₂=>wpAny (model prog w) A (forIn ifs true λc r=>if r=true then do let ok<-isTrue c env (eval c env);pure (ForInStep.yield ok)else pure (ForInStep.yield r)) (λok s₃=>if ok=true then wpAny (model prog w) A (eval elt env) (λx s₄=>wpAny (model prog w) A (call (.builtin "list.append") [acc,x]) (λ_ s₅=>∃m,m<n/\I m s₅) (λ_ _=>False) s₄) (λ_ _=>False) s₃ else∃m,m<n/\I m s₃) (λ_ _=>False) s₂) (λ_ _=>False) s₁) (λ_ _=>False) s₁) (λ_ _=>False) s) (n:Nat)(h:I n s):codeAny (model prog w) A (.compLoop (.ListComp elt [⟨target,iter,ifs,0⟩] scope pos) 0 it acc env) R s:=by refine codeAny_loop Z I (λn s hI=>?_) n h;show wpAny _ A ((compTurn (.ListComp elt [⟨target,iter,ifs,0⟩] scope pos) 0 it acc env).onRaise (λx=>do noteFrame x env;theTreesLotGoes x)) _ _ s;refine wpAny_noted ?_;rw[compTurn_list];refine aV (wpAny_standAt (aV (jY (turn n s hI) (λr s₁ h₁=>?_) λ_ _ h'=>h'.elim)));cases r with |none=>exact cA h₁ |some v=>refine aV (jY h₁ (λ_ adk h₁=>?_) λ_ _ h'=>h'.elim);refine aV (jY h₁ (λ_ s₂ h₂=>aV (jY h₂ (λok s₃ h₃=>?_) λ_ _ h'=>h'.elim)) λ_ _ h'=>h'.elim);cases ok with |false=>exact cA ⟨Z,h₃⟩ |true=>exact aV (aV (jY h₃ (λx s₄ h₄=>aV (jY h₄ (λ_ s₅ h₅=>cA (cA ⟨Z,h₅⟩)) λ_ _ h'=>h'.elim)) λ_ _ h'=>h'.elim))
def KU(X:Cx)(ifs:List Expr)(t:TT):Prop:=∀(ay:List (Addr×Obj))(s:ae)(O:St)(H:Hp)(Q:Bool->Hp->Prop),Inv X ay O H s->t O H Q->wpAny (model X.prog X.w) X.A (forIn ifs true λc r=>if r=true then do let ok<-isTrue c X.env (eval c X.env);pure (ForInStep.yield ok)else pure (ForInStep.yield r)) (TP X ay O Q) X.xe s
def iC:TT:=λ_ H Q=>Q true H
theorem fT{X:Cx}:KU X [] iC:=λ_ _ _ H _ I h=>wpAny_tests_nil ⟨H,I,h⟩
def j6(J:It)(g:TG)(tt:TT)(te:TE)(Q:VK)(D:Addr)(O:St)(H:Hp):Prop:=∃W:Nat->Nat->St->Hp->Prop,(∃m,W 0 m O H)/\∀i m σ' H',W i m σ' H'->(J.stop i H'/\Q (.ref D) H')\/(J.go i H'/\∀x H2,J.kg i H' x H2->g x σ' H2 λσ3 H3=>tt σ3 H3 λok H4=>if ok=true then te σ3 H4 λy H5=>∃ys,H5 D=some (.lst ys)/\ys.length<sizeLine/\∃m',m'<m/\W (i+1) m' σ3 (upd H5 D (.lst (ys++[y]))) else∃m',m'<m/\W (i+1) m' σ3 H4)
def MB(js:List (Option Nat))(wi:TI)(g:TG)(tt:TT)(te:TE):TE:=λO H Q=>wi O H λJ H1=>∀D H2,Nw H1 H2 D (.lst [])->j6 J g tt te Q D (stC js O) H2
theorem dZ.but{P:ah}{w:World}{H:Hp}{h h':Heap}{C:Addr}(ok:dZ P w H h)(hn:H C=none)(hs:Heap.SameBut C h h'):dZ P w H h':=λb ob e=>by
 refine(ok b ob e).mD (λc w' hc q=>(hs.2 c ?_).trans q) (λ_ q=>q) λ_ _ q=>q;rintro rfl;rcases hc with rfl|hc
 ·rw[hn]at e;cases e
 ·rw[hn]at hc;cases hc
set_option maxHeartbeats 1000000 in
theorem gE{X:Cx}{N:List Str}{js:List (Option Nat)}{elt tg iter:Expr}{ifs:List Expr}{scope:Scope}{pos:Pos}{wi:TI}{g:TG}{tt:TT}{te:TE}(hc:X.calm=true)(hN:Dq X N js scope=true)(hS:xH X scope=true) (hi:PI X tg iter wi)(hg:∀cl s H fp ay,PG (gd X N scope cl s H fp ay) tg g)(ht:∀cl s H fp ay,KU (gd X N scope cl s H fp ay) ifs tt)(he:∀cl s H fp ay,PE (gd X N scope cl s H fp ay) elt te) (hs:∀x,foldedSetIterable iter X.env x=pure x:=by intro _;rfl):PE X (.ListComp elt [⟨tg,iter,ifs,0⟩] scope pos) (MB js wi g tt te):=by
 intro ay s O H Q I h;have uR:=hS;unfold xH at uR;rw[fE,fE]at uR;obtain⟨⟨k1,k2⟩,k3⟩:=uR;have pN:scope.kind= .function:=gh.mp k1;have xj:∀x∈scope.names,x.2= .free->∃c,X.env.cells.lookup x.1=some c:=λx hx e=>by have:=j7.mp k3 x hx;rw[e]at this;exact I.ok.has x.1 (.inl (gh.mp this))
 have mL:∀x∈scope.names,x.2≠ .cell:=λx hx e=>by have:=j7.mp k3 x hx;rw[e]at this;exact kK this
 have Jg:∀x∈scope.names,x.2= .local->scope.names.lookup x.1=some .local:=λx hx e=>by have:=j7.mp k3 x hx;rw[e]at this;exact gh.mp this
 obtain⟨cl,Jt,c1,c2⟩:=UD xj;rw[eval_ListComp];refine wpAny_comprehension_free (use:=none) Z hs Jt pN Jg (bo (hi ay s O H _ I h) λv s1 h1=>bo h1 λCg s2 h2=>?_);obtain⟨it,fp,tn,J,H2,e,I2,T,tQ,f2,h2⟩:=h2;subst e;have hD:H2 s2.heap.objs.size=none:=I2.bj.fresh (bR _);obtain⟨W,⟨m0,w0⟩,turn⟩:=h2 _ _ (Nw.of hD);refine qy (XF mL (by intro y hy;simp at hy) (λh₁ zx zu=>?_) pN);have uW:∀b∈fp,b<s2.heap.objs.size:=λb hb=>by obtain⟨o,e,_⟩:=T.obj _ _ tQ b hb;exact cJ e
 have I3:Inv X ay O (upd H2 s2.heap.objs.size (.lst [])) {s2 with heap:=s2.heap.push {cls:=.type "list",dict:=none,data:=.seq ([]:List Value).toArray}}:=I2.QZ (its:=[]) (t':=s2.toks) .nil (gj _);generalize zG:s2.heap.push {cls:=.type "list",dict:=none,data:=.seq ([]:List Value).toArray}=h3 at I3 zx zu;have yl:h3.objs.size=s2.heap.objs.size+1:=by rw[<-zG,tI]
 have IS:∀b o,s2.heap.get? b=some o->h3.get? b=some o:=λb o e=>by rw[<-zG];exact cI _ e
 have f3:∀b∈fp,lY X ay (upd H2 s2.heap.objs.size (.lst [])) b:=λb hb=>⟨by rw[aK (fR (uW b hb))];exact(f2 b hb).1,(f2 b hb).2⟩;have zo:∀b o,h3.get? b=some o->h₁.get? b=some o:=λb o e=>(zu.2 b (fR (cJ e))).trans (cI _ e);have I4:Inv (gd X N scope cl {s2 with heap:=h3} (upd H2 s2.heap.objs.size (.lst [])) fp ay) [] (stC js O) (upd H2 s2.heap.objs.size (.lst [])) {s2 with heap:=h₁,toks:=s2.toks+([]:List (Str×Value)).length}:=I3.comp (s:={s2 with heap:=h3}) hN hS c1 c2 f3 (λb hb=>by show b<h3.objs.size;rw[yl];exact LF (uW b hb)) (by simpa using zx) zo;have yo:tn 0 h₁:=T.keep _ _ _ tQ λb _ o e=>zo b o (IS b o e);have loop:codeAny (model X.prog X.w) X.A (.compLoop (.ListComp elt [⟨tg,iter,ifs,0⟩] scope pos) 0 (.ref it) (.ref s2.heap.objs.size) (compEnvC scope cl h3.objs.size X.env)) (compPost (model X.prog X.w) X.A X.xe none (EP X ay O Q) (.ref s2.heap.objs.size) h3.objs.size) {s2 with heap:=h₁,toks:=s2.toks+([]:List (Str×Value)).length}:=by
  refine Uz (λn s'=>∃i σ' H',Inv (gd X N scope cl {s2 with heap:=h3} (upd H2 s2.heap.objs.size (.lst [])) fp ay) [] σ' H' s'/\tn i s'.heap/\(∀b∈fp,H' b=none)/\W i n σ' H') ?_ m0 ⟨0,_,_,I4,yo,λb hb=>(f3 b hb).1,w0⟩;rintro n s5 ⟨i,σ5,H5,I5,p4,uV,w5⟩;have mE:∀{H':Hp},(∀b∈fp,H' b=none)->∀b∈fp,lY (gd X N scope cl {s2 with heap:=h3} (upd H2 s2.heap.objs.size (.lst [])) fp ay) [] H' b:=λ{H'} hn b hb=>by
   obtain⟨_,q1,q2,q3,q4,q5⟩:=f3 b hb;refine⟨hn b hb,λz=>?_,I4.ok.rY b hb,.inl hb,λx c e=>q4 x c (c1 x c e),λp hp=>q5 p (by simpa[gd]using hp)⟩;have cF:b<h3.objs.size:=by rw[yl];exact LF (uW b hb)
   exact fR cF z
  rcases turn i n σ5 H5 w5 with⟨stop,qn⟩|⟨go,step⟩
  ·refine bo (T.done (gd X N scope cl {s2 with heap:=h3} (upd H2 s2.heap.objs.size (.lst [])) fp ay) rfl rfl rfl hc i [] s5 σ5 H5 _ I5 (mE uV) p4 stop) λr s6 ⟨hr,I6⟩=>?_
   subst hr;obtain⟨m,hm,_⟩:=I6.loc;refine⟨m,hm,λh7 Cp=>?_⟩;have u0:Un (du X.stack) fp (upd H2 s2.heap.objs.size (.lst [])) H5 h3 s6.heap:=I6.base;have ne:∀b o,h3.get? b=some o->b≠h3.objs.size:=λb o e=>fR (cJ e);have u:Un (du X.stack) fp (upd H2 s2.heap.objs.size (.lst [])) H5 h3 h7:=⟨λb o e n hb hx=>(Cp.2 b (ne b o e)).trans (u0.keep b o e n hb hx),λb o e n hb hx=>let⟨sl,q⟩:=u0.slot b o e n hb hx;⟨sl,(Cp.2 b (ne b o e)).trans q⟩,u0.free,λb o e hx=>let⟨o',q⟩:=u0.there b o e hx;⟨o',(Cp.2 b (ne b o e)).trans q⟩,u0.kL,u0.kz,u0.ki⟩;have I7:Inv X ay O H5 {s6 with heap:=h7}:=I3.Dr (s':={s6 with heap:=h7}) (ch:=fp) I6.os u (I6.bj.but I6.free Cp) I6.bare λb hb=>⟨(f3 b hb).2.2.2.1,(f3 b hb).2.1,(f3 b hb).2.2.2.2.1,(f3 b hb).2.2.2.2.2⟩;exact⟨.ref s2.heap.objs.size,H5,I7,Z,qn⟩
  ·refine bo (T.item (gd X N scope cl {s2 with heap:=h3} (upd H2 s2.heap.objs.size (.lst [])) fp ay) rfl rfl rfl hc i [] s5 σ5 H5 _ I5 (mE uV) p4 go) λr s6 ⟨u,hr,h6⟩=>?_
   subst hr;refine bo h6 λ_ s7 ⟨x,H7,I7,r7,y7,oZ,JP⟩=>?_;have Lh:=I7.pinned (mE JP) (T.obj _ _ oZ);refine bo (hg _ _ _ _ _ _ s7 σ5 H7 x u _ Lh r7 (step x H7 y7)) λ_ s8 ⟨σ8,H8,I8,q8⟩=>?_;refine bo (ht _ _ _ _ _ _ s8 σ8 H8 _ I8 q8) λok s9 ⟨H9,I9,q9⟩=>?_;have again:∀{s':ae}{σ7:St}{H7:Hp},Inv (gd X N scope cl {s2 with heap:=h3} (upd H2 s2.heap.objs.size (.lst [])) fp ay) ([]++wm fp s7.heap) σ7 H7 s'->(∃m',m'<n/\W (i+1) m' σ7 H7)->∃m,m<n/\∃i σ' H',Inv (gd X N scope cl {s2 with heap:=h3} (upd H2 s2.heap.objs.size (.lst [])) fp ay) [] σ' H' s'/\tn i s'.heap/\(∀b∈fp,H' b=none)/\W i m σ' H':=λ{s' σ7 H7} J7 n7=>by obtain⟨m',hm,w7⟩:=n7;refine⟨m',hm,i+1,σ7,H7,J7.yc,T.keep _ _ _ oZ λb hb o e=>(J7.pin (b,o) (lZ _ (lZ _ (wN hb e)))).1,λb hb=>?_,w7⟩;obtain⟨o,e,d⟩:=T.obj _ _ oZ b hb;exact(J7.pin (b,o) (lZ _ (lZ _ (wN hb e)))).2.1
   cases ok with |false=>rw[bu kK]at q9⊢;exact again I9 q9 |true=>rw[bp rfl]at q9⊢;refine bo (he _ _ _ _ _ _ s9 σ8 H9 _ I9 q9) λyv nK ⟨y,jW,xR,Hl,ys,pK,hz,lC⟩=>?_;refine bo (Iv _ nK σ8 jW (.ref s2.heap.objs.size) [y] (.ref s2.heap.objs.size) [yv] (λ_ j4=>∃m',m'<n/\W (i+1) m' σ8 j4) xR Z (.cons Hl .nil) ⟨_,ys,y,Z,Z,pK,hz,lC⟩) λ_ Bu ⟨v11,j4,Li,r11,yJ⟩=>?_;exact again Li yJ
 exact codeAny_compStart_list loop (T.self _ 0 _ _ _ yo loop)
theorem Kx:∀{bs:List Bool}{us:List Value},Vals (bs.map V.bl) us->us=bs.map Value.bool |[],_,.nil=>rfl |b::r,_,.cons q t=>by cases(show _=Value.bool b from q);rw[Kx t];rfl
section
variable {X:Cx}
theorem abW(hc:X.calm=true):fL X (.builtin "all") (λxs H Q=>∃(l:Addr)(bs:List Bool),xs=[.ref l]/\aJ X.K H l (bs.map V.bl)/\Q (.bl (bs.all id)) H):=by
 intro ay s O H xs us Q I r h;obtain⟨l,bs,rfl,hl,q⟩:=h;obtain⟨u,rfl,ru⟩:=vals1 r;cases(show u=Value.ref l from ru);obtain⟨its,rv,pl,hz⟩:=I.list hl;have e:=Kx rv;subst e;have eQ:=pl.isList;have cF:l<s.heap.objs.size:=by obtain⟨_,e,_⟩:=eQ;exact cJ e
 have hh:=I.ok.hd hc;refine call_all_walk (DN eQ ?_);refine⟨s.heap.objs.size,[s.heap.objs.size,l],[s.heap.objs.size],(bs.map Value.bool).toArray.size,_,_,λi=>(bs[i]?).getD true,Z,Walks.list (A:=X.A.in1) hh _ l (fR cF) (bs.map Value.bool).toArray,⟨⟨_,fq _ Z,Z,Z⟩,eQ.push _⟩,λi v s' Q' E' hP hQ=>?_,λh' tk hk=>?_⟩
 ·have mQ:(bs.map Value.bool)[i]? =some v:=by simpa using hP
  rw[cH]at mQ;cases e:bs[i]? with |none=>rw[e]at mQ;cases mQ |some b=>rw[e]at mQ;cases mQ;simp only[e,Option.getD_some]at hQ;exact qx hQ
 ·have e:((List.range (bs.map Value.bool).toArray.size).all λi=>(bs[i]?).getD true)=bs.all id:=by rw[fe,cB];exact LSm.range_all bs
  rw[e];exact⟨.bl _,H,I.kept (LSm.kept_iter hk),Z,q⟩
theorem abV(hc:X.calm=true):fL X (.builtin "any") (λxs H Q=>∃(l:Addr)(bs:List Bool),xs=[.ref l]/\aJ X.K H l (bs.map V.bl)/\Q (.bl (bs.any id)) H):=by
 intro ay s O H xs us Q I r h;obtain⟨l,bs,rfl,hl,q⟩:=h;obtain⟨u,rfl,ru⟩:=vals1 r;cases(show u=Value.ref l from ru);obtain⟨its,rv,pl,hz⟩:=I.list hl;have e:=Kx rv;subst e;have eQ:=pl.isList;have cF:l<s.heap.objs.size:=by obtain⟨_,e,_⟩:=eQ;exact cJ e
 have hh:=I.ok.hd hc;refine call_any_walk (DN eQ ?_);refine⟨s.heap.objs.size,[s.heap.objs.size,l],[s.heap.objs.size],(bs.map Value.bool).toArray.size,_,_,λi=>(bs[i]?).getD false,Z,Walks.list (A:=X.A.in1) hh _ l (fR cF) (bs.map Value.bool).toArray,⟨⟨_,fq _ Z,Z,Z⟩,eQ.push _⟩,λi v s' Q' E' hP hQ=>?_,λh' tk hk=>?_⟩
 ·have mQ:(bs.map Value.bool)[i]? =some v:=by simpa using hP
  rw[cH]at mQ;cases e:bs[i]? with |none=>rw[e]at mQ;cases mQ |some b=>rw[e]at mQ;cases mQ;simp only[e,Option.getD_some]at hQ;exact qx hQ
 ·have e:((List.range (bs.map Value.bool).toArray.size).any λi=>(bs[i]?).getD false)=bs.any id:=by rw[fe,cB];exact LSm.range_any bs
  rw[e];exact⟨.bl _,H,I.kept (LSm.kept_iter hk),Z,q⟩
end
theorem sj{J:It}{g:TG}{tt:TT}{te:TE}{Q:VK}{D:Addr}{O:St}{H:Hp}(n:Nat)(Pv:Nat->St->Hp->Prop)(h0:Pv 0 O H) (hs:∀i O H,i<n->Pv i O H->J.go i H/\∀x H2,J.kg i H x H2->g x O H2 λσ3 H3=>tt σ3 H3 λok H4=>if ok=true then te σ3 H4 λy H5=>∃ys,H5 D=some (.lst ys)/\ys.length<sizeLine/\∃m',m'<n-i/\m'=n-(i+1)/\i+1<=n/\Pv (i+1) σ3 (upd H5 D (.lst (ys++[y]))) else∃m',m'<n-i/\m'=n-(i+1)/\i+1<=n/\Pv (i+1) σ3 H4) (hd:∀O H,Pv n O H->J.stop n H/\Q (.ref D) H): j6 J g tt te Q D O H:=by
 refine⟨λi m O H=>m=n-i/\i<=n/\Pv i O H,⟨n,by simp,gj _,h0⟩,?_⟩;rintro i m O H ⟨rfl,hi,p⟩;by_cases cF:i<n
 ·exact .inr (hs i O H cF p)
 ·have e:i=n:=by lia
  subst e;exact .inl (hd O H p)
section
variable {X:Cx} {tg:Expr}
theorem ixK(K:aa)(h:X.K=K):qv X (λx y H Q=>Hh K x y H Q\/Hg K x y H Q):=by subst h;exact a69.or a67
inductive WX(K:aa)(x:V)(lo:Option Int)(hi:Option Int)(H:Hp)(Q:VK):Prop |mk (a:_)(xs:_)(h0:x= .ref a)(h1:((aJ K H a xs/\∀p H',Nw H H' p (.lst (mU xs lo hi))->Q (.ref p) H')\/ (aU K H a xs/\¬(HT.cC xs.length 0 lo=0/\HT.cC xs.length xs.length hi=xs.length)/\∀p H',Nw H H' p (.tup (mU xs lo hi))->Q (.ref p) H'))):WX K x lo hi H Q
def a1A(K:aa):V->Option Int->Option Int->Hp->VK->Prop:=λx lo hi H Q=>WX K x lo hi H Q
theorem EO(K:aa)(h:X.K=K):DF X (a1A K):=by
 subst h;intro ay s O H x v vl vu lo hi sl Q I rx hs pl pu hq;obtain⟨a,xs,e,hq⟩:=hq;rcases hq with⟨h1,k⟩|⟨h1,h2,k⟩
 ·exact a02 ay s O H x v vl vu lo hi sl Q I rx hs pl pu ⟨a,xs,e,h1,λp hp=>k p _ (.of hp)⟩
 ·exact a01 ay s O H x v vl vu lo hi sl Q I rx hs pl pu ⟨a,xs,e,h1,h2,λp hp=>k p _ (.of hp)⟩
theorem a5K(K:aa)(h:X.K=K):fL X (.builtin "len") (λxs H Q=>∃p ys,xs=[.ref p]/\(aJ K H p ys\/aU K H p ys)/\Q (.int ys.length) H):=by subst h;exact abS
theorem a6e(K:aa)(h:X.K=K):fL X (.builtin "isinstance") (λxs H Q=>Hj K xs H Q\/Hi K xs H Q):=by subst h;exact abU.or abT
theorem cW(K:aa)(h:X.K=K)(hu:X.A.units+64<cLine):dH X (compareOp .Eq) (λx y H Q=>kP (λi j=>.bl (decide (i=j))) x y H Q\/Hk K x y H Q):=by subst h;exact a2I hu
theorem jv(K:aa)(h:X.K=K)(hu:X.A.units+64<cLine):dH X (compareOp .NotEq) (λx y H Q=>kP (λi j=>.bl (!decide (i=j))) x y H Q\/Hf K x y H Q):=by subst h;exact a2D hu
theorem qk(K:aa)(h:X.K=K)(hc:X.calm=true):fL X (.builtin "all") (λxs H Q=>∃(l:Addr)(bs:List Bool),xs=[.ref l]/\aJ K H l (bs.map V.bl)/\Q (.bl (bs.all id)) H):=by subst h;exact abW hc
theorem V8(K:aa)(h:X.K=K)(hc:X.calm=true):fL X (.builtin "any") (λxs H Q=>∃(l:Addr)(bs:List Bool),xs=[.ref l]/\aJ K H l (bs.map V.bl)/\Q (.bl (bs.any id)) H):=by subst h;exact abV hc
theorem II(K:aa)(h:X.K=K):fL X (.type "list") (λxs H Q=>∃p ys,xs=[.ref p]/\(aJ K H p ys\/aU K H p ys)/\∀l H',Nw H H' l (.lst ys)->Q (.ref l) H'):=by subst h;intro ay s O H xs us Q I r hq;obtain⟨p,ys,e,h1,k⟩:=hq;exact abQ ay s O H xs us Q I r ⟨p,ys,e,h1,λl hl=>k l _ (.of hl)⟩
theorem lD(K:aa)(h:X.K=K):fL X (.type "tuple") (λxs H Q=>∃p ys,xs=[.ref p]/\((aJ K H p ys/\∀l H',Nw H H' l (.tup ys)->Q (.ref l) H')\/(aU K H p ys/\Q (.ref p) H))):=by subst h;intro ay s O H xs us Q I r hq;obtain⟨p,ys,e,h1⟩:=hq;exact abL ay s O H xs us Q I r ⟨p,ys,e,h1.imp (λ⟨a,k⟩=>⟨a,λl hl=>k l _ (.of hl)⟩) id⟩
def YZ(t:TA):TE:=λO H Q=>t O H λxs H1=>xs.length<=sizeLine/\∀p H',Nw H1 H' p (.tup xs)->Q (.ref p) H'
def Zm(t:TA):TE:=λO H Q=>t O H λxs H1=>xs.length<=sizeLine/\∀p H',Nw H1 H' p (.lst xs)->Q (.ref p) H'
theorem ek{es:List Expr}{t:TA}{pos:Pos} {x1}(h:PA X es t):PE X (.Tuple es x1 pos) (YZ t):=by intro ay s O H Q I hq;refine wpAny_Tuple_spliced (bo (h pos ay s O H _ I hq) λus s1 ⟨xs,H1,I1,r,z,q⟩=>⟨by rw[<-r.length];exact z,?_⟩);have hf:H1 s1.heap.objs.size=none:=I1.bj.fresh (bR _);refine⟨.ref s1.heap.objs.size,upd H1 s1.heap.objs.size (.tup xs),I1.laid (t':=s1.toks) (λb u e=>cI _ e) (bR _) ?_,Z,q _ _ (.of hf)⟩;exact⟨z,us,r,⟨_,fq _ Z,Z,_,Z⟩⟩
theorem dj{es:List Expr}{t:TA}{pos:Pos}(h:PA X es t):PE X (.List es pos) (Zm t):=by intro ay s O H Q I hq;refine wpAny_List_spliced (bo (h pos ay s O H _ I hq) λus s1 ⟨xs,H1,I1,r,z,q⟩=>⟨by rw[<-r.length];exact z,?_⟩);have hf:H1 s1.heap.objs.size=none:=I1.bj.fresh (bR _);refine⟨.ref s1.heap.objs.size,upd H1 s1.heap.objs.size (.lst xs),I1.laid (t':=s1.toks) (λb u e=>cI _ e) (bR _) ?_,Z,q _ _ (.of hf)⟩;exact⟨z,us,0,r,fq _ Z⟩
theorem yL(K:aa)(h:X.K=K){l:Expr}{tl:TE}(hl:PE X l tl):PI X tg l (RV K tl):=by subst h;exact a29 hl
theorem qS(K:aa)(h:X.K=K){l:Expr}{tl:TE}(hl:PE X l tl):PI X tg l (RU K tl):=by subst h;exact a25 hl
theorem eK(K:aa)(h:X.K=K){es:List Expr}{k:Nat}{t:oE}{n:Nat}{pos:Pos}(hc:X.calm=true)(hg:Ab X es t)(hn:(assignEach es X.env).length=n:=by rfl)(iq:(assignEach es X.env).findIdx? (·.1)=none:=by rfl): PG X (.Tuple es k pos) (pU K n t):=by subst h;exact a2b hc hg hn iq
theorem jq(K:aa)(h:X.K=K){o e:Expr}{to:TE}{t:TA}{apos cK:Pos}(ho:PE X o to)(ha:PA X [e] t) (jB:attributeBase o "append" X.env (eval o X.env)=eval o X.env:=by rfl) (lO:((backTo cK (starEach [e] X.env)).all (λx=>!x.1)&&(backToKw cK (keywordEach [] X.env)).all (λx=>x.1.isSome) &&decide ([e].length+([]:List Keyword).length+(if([]:List Keyword).isEmpty then 0 else 1)<30))=true:=by rfl) (jz:(apos.endLine==cK.line)=true:=by rfl)(hs:starEach [e] X.env=(false,eval e X.env)::starEach [] X.env:=by rfl)(lL:(backTo cK (starEach [] X.env)).any (·.1)=false:=by rfl): PE X (.Call (.Attribute o "append" apos) [e] [] cK) (tO K "list" Py to t):=by subst h;exact wo Au PySem.F.slot_list_append PySem.F.type_list_append Iv ho ha jB lO jz hs lL
theorem AI{j:Nat}{x:V}{O:St}{H:Hp}{A B:St->Hp->Prop}(h:A (O.set j (some x)) H):fA j x O H λσ3 H3=>iC σ3 H3 λok H4=>if ok=true then A σ3 H4 else B σ3 H4:=by show if true=true then A (O.set j (some x)) H else B (O.set j (some x)) H;rw[bp rfl];exact h
theorem yes{O:St}{H:Hp}{Q:Bool->Hp->Prop}(h:Q true H):iC O H Q:=h
end
theorem aJ.go{K:aa}{H H':Hp}{a:Addr}{xs:List V}(s:aG H H')(h:aJ K H a xs):aJ K H' a xs:=h.imp (λr=>r.imp (s _ _) λ⟨o,e⟩=>⟨o,s _ _ e⟩) id
theorem aU.go{K:aa}{H H':Hp}{a:Addr}{xs:List V}(s:aG H H')(h:aU K H a xs):aU K H' a xs:=h.imp (λr=>r.imp (s _ _) λ⟨o,e⟩=>⟨o,s _ _ e⟩) id
mutual
theorem RD.mono{K:aa}{H H':Hp}(s:aG H H'):∀{x:V}(d:ai),RD K H x d->RD K H' x d |x,.none,h=>by simpa[RD]using h |x,.bool b,h=>by simpa[RD]using h |x,.int i,h=>by simpa[RD]using h |x,.str y,h=>by simpa[RD]using h |x,.list ds,h=>by rw[RD]at h⊢;obtain⟨a,xs,e,h1,h2⟩:=h;exact⟨a,xs,e,h1.go s,aP.mono s ds h2⟩ |x,.tuple ds,h=>by rw[RD]at h⊢;obtain⟨a,xs,e,h1,h2⟩:=h;exact⟨a,xs,e,h1.go s,aP.mono s ds h2⟩ |x,.dict _,h=>by simp[RD]at h
theorem aP.mono {K:aa}{H H':Hp}(s:aG H H'):∀{xs:List V}(ds:List ai),aP K H xs ds->aP K H' xs ds |xs,[],h=>by simpa[aP]using h |xs,d::ds,h=>by rw[aP]at h⊢;obtain⟨y,ys,e,h1,h2⟩:=h;exact⟨y,ys,e,RD.mono s d h1,aP.mono s ds h2⟩
end
section
variable {K:aa} {H H':Hp}
theorem aP.nil_inv{xs:List V}(h:aP K H xs []):xs=[]:=by simpa[aP]using h
theorem aP.cons_inv{xs:List V}{d:ai}{ds:List ai}(h:aP K H xs (d::ds)):∃y ys,xs=y::ys/\RD K H y d/\aP K H ys ds:=by rw[aP]at h;exact h
theorem RD.fg{x:V}{ds:List ai}(h:RD K H x (.tuple ds)):∃a xs,x= .ref a/\aU K H a xs/\aP K H xs ds:=by rw[RD]at h;exact h
theorem RD.lst_inv{x:V}{ds:List ai}(h:RD K H x (.list ds)):∃a xs,x= .ref a/\aJ K H a xs/\aP K H xs ds:=by rw[RD]at h;exact h
theorem RD.int_inv{x:V}{i:Int}(h:RD K H x (.int i)):x= .int i:=by rw[RD]at h;exact h
theorem RD.ac7{x:V}{i:Bool}(h:RD K H x (.bool i)):x= .bl i:=by rw[RD]at h;exact h
theorem RD.str_inv{x:V}{i:Str}(h:RD K H x (.str i)):x= .str i:=by rw[RD]at h;exact h
theorem RD.Qp{x:V}(h:RD K H x .none):x= .bw:=by rw[RD]at h;exact h
theorem aP.length:∀{xs:List V}{ds:List ai},aP K H xs ds->xs.length=ds.length |xs,[],h=>by rw[h.nil_inv];rfl |xs,d::ds,h=>by obtain⟨y,ys,rfl,_,h2⟩:=h.cons_inv;rw[kI,kI,aP.length h2]
theorem aP.append:∀{xs ys:List V}{ds es:List ai},aP K H xs ds->aP K H ys es->aP K H (xs++ys) (ds++es) |xs,ys,[],es,h,g=>by rw[h.nil_inv];exact g |xs,ys,d::ds,es,h,g=>by obtain⟨y,zs,rfl,h1,h2⟩:=h.cons_inv;exact cm h1 (aP.append h2 g)
theorem aP.drop:∀(n:Nat){xs:List V}{ds:List ai},aP K H xs ds->aP K H (xs.drop n) (ds.drop n) |0,xs,ds,h=>h |n+1,xs,[],h=>by rw[h.nil_inv];exact cX |n+1,xs,d::ds,h=>by obtain⟨y,zs,rfl,h1,h2⟩:=h.cons_inv;exact aP.drop n h2
theorem aP.get:∀(n:Nat){xs:List V}{ds:List ai}{d:ai},aP K H xs ds->ds[n]? =some d->∃x,xs[n]? =some x/\RD K H x d
 |n,xs,[],d,h,e=>by simp at e |0,xs,d'::ds,d,h,e=>by
  obtain⟨y,zs,rfl,h1,h2⟩:=h.cons_inv;have e':d'=d:=by simpa using e
  subst e';exact⟨y,Z,h1⟩ |n+1,xs,d'::ds,d,h,e=>by obtain⟨y,zs,rfl,h1,h2⟩:=h.cons_inv;exact aP.get n h2 (by simpa using e)
theorem aP.get'(n:Nat){xs:List V}{ds:List ai}{x:V}(h:aP K H xs ds)(e:xs[n]? =some x):∃d,ds[n]? =some d/\RD K H x d:=by
 have hl:n<ds.length:=by rw[<-h.length];exact(dQ.mp e).1
 obtain⟨y,e1,r⟩:=h.get n (cu hl);rw[e]at e1;cases e1;exact⟨_,cu hl,r⟩
def nk:ai->String | .none=>"NoneType" | .bool _=>"bool" | .int _=>"int" | .str _=>"str" | .list _=>"list" | .tuple _=>"tuple" | .dict _=>"dict"
theorem RD.ty{x:V}:∀{d:ai},RD K H x d->vh K H x (nk d) | .none,h=>by rw[h.Qp];rfl | .bool b,h=>by rw[h.ac7];rfl | .int b,h=>by rw[h.int_inv];rfl | .str b,h=>by rw[h.str_inv];rfl | .list ds,h=>by obtain⟨a,xs,rfl,h1,_⟩:=h.lst_inv;exact .inl ⟨Z,xs,h1⟩ | .tuple ds,h=>by obtain⟨a,xs,rfl,h1,_⟩:=h.fg;exact .inr ⟨Z,xs,h1⟩ | .dict _,h=>by simp[RD]at h
structure dP(n:Nat)(d:ai):Prop where
 lay:d.canLay0=true
 dep:d.depth<=n
def gL(n:Nat)(ds:List ai):Prop:=∀d∈ds,dP n d
theorem dP.le{n m:Nat}{d:ai}(h:dP n d)(l:n<=m):dP m d:=⟨h.lay,iQ h.dep l⟩
theorem wA{n:Nat}:∀{ds:List ai},gL n ds↔(PyData.canLayAll0 ds=true/\PyData.depthAll ds<=n)
 |[]=>⟨λ_=>⟨Z,gj _⟩,λ_ _ h=>nomatch h⟩ |d::ds=>by
  have ih:=wA (n:=n) (ds:=ds);simp only[PyData.canLayAll0,PyData.depthAll,fE];constructor
  ·intro h
   have h1:=h d (.head _);have h2:=ih.mp λx hx=>h x (.tail _ hx);exact⟨⟨h1.lay,h2.1⟩,Nat.max_le.mpr ⟨h1.dep,h2.2⟩⟩
  ·rintro⟨⟨a,b⟩,c⟩ x hx
   have c':=Nat.max_le.mp c;rcases bM.mp hx with rfl|hx
   ·exact⟨a,c'.1⟩
   ·exact ih.mpr ⟨b,c'.2⟩ x hx
theorem gL.tup{n:Nat}{ds:List ai}(h:gL n ds):dP (n+1) (.tuple ds):=⟨by simpa[PyData.canLay0]using(wA.mp h).1,by simpa[PyData.depth]using(wA.mp h).2⟩
theorem gL.lst{n:Nat}{ds:List ai}(h:gL n ds):dP (n+1) (.list ds):=⟨by simpa[PyData.canLay0]using(wA.mp h).1,by simpa[PyData.depth]using(wA.mp h).2⟩
theorem dP.fg{n:Nat}{ds:List ai}(h:dP (n+1) (.tuple ds)):gL n ds:=wA.mpr ⟨by simpa[PyData.canLay0]using h.lay,by simpa[PyData.depth]using h.dep⟩
theorem dP.int{n:Nat}(i:Int):dP n (.int i):=⟨Z,gj _⟩
theorem gL.nil{n:Nat}:gL n []:=λ_ h=>nomatch h
theorem gL.cons{n:Nat}{d:ai}{ds:List ai}(h:dP n d)(g:gL n ds):gL n (d::ds):=λx hx=>by
 rcases bM.mp hx with rfl|hx
 ·exact h
 ·exact g x hx
theorem dP.shaped{n:Nat}{d:ai}(h:dP n d)(l:n<=64):SeqAt.shaped d=true:=by unfold SeqAt.shaped;rw[h.lay,kJ];exact cR (iQ h.dep l)
theorem dP.refl{n:Nat}{d:ai}(h:dP n d):PyData.eqv d d=true:=eqv_refl d h.lay
variable {p:Addr}{n m:Nat}{v:V}{vs:List V}{d:ai}{ds es:List ai}
end
section
variable {X:Cx}
end
end L2
namespace HT
open PySem PySem.Spec PyProof.Rows
section
variable {prog:ah}{w:World}{A:aj}{E:Value->ae->Prop}{s:ae}
end
end HT
namespace L2
open PySem PySem.Spec PyProof.Rows
section
variable {X:Cx}
end
end L2
namespace L2
theorem dB{α:Type}{xs:List α}{i:Int}{v:α}(h0:0<=i)(h:xs[i.toNat]? =some v):fQ xs i=some v:=by have hl:i.toNat<xs.length:=(dQ.mp h).1;unfold fQ jP;rw[bp h0,bp aw];exact h
end L2
namespace L2
open PySem PySem.Spec PyProof.Rows
theorem yy(n:Nat)(h:n<=1000):n<=sizeLine:=iQ h aB
section
variable {X:Cx}{p pos pos':Pos}{a b e:Expr}{es:List Expr}{ta tb te:TE}{t:TA}{x:Str}
theorem px(K:aa)(ha:PE X a ta)(hb:PE X b tb)(hK:X.K=K:=by rfl)(hp:Vo b:=by exact λ_ _=>rfl):PE X (.Subscript a b pos) (yk (λx y H Q=>Hh K x y H Q\/Hg K x y H Q) ta tb):=PU (ixK K hK) ha hb hp
theorem dS(K:aa)(B:bV X.mg)(ha:PA X (e::es) t)(hK:X.K=K:=by rfl)(hg:Gl X "isinstance":=by rfl)(he:starEach (e::es) X.env=(false,eval e X.env)::starEach es X.env:=by rfl)(gH:(backTo pos (starEach es X.env)).any (·.1)=false:=by rfl):PE X (.Call (.Name "isinstance" p) (e::es) [] pos) (AY (λxs H Q=>Hj K xs H Q\/Hi K xs H Q) t):=dG (a6e K hK) hg (B.at "isinstance") vw ha aB aB he gH
theorem dJ(K:aa)(B:bV X.mg)(ha:PA X (e::es) t)(hK:X.K=K:=by rfl)(hg:Gl X "len":=by rfl)(he:starEach (e::es) X.env=(false,eval e X.env)::starEach es X.env:=by rfl)(gH:(backTo pos (starEach es X.env)).any (·.1)=false:=by rfl):PE X (.Call (.Name "len" p) (e::es) [] pos) (AY (λxs H Q=>∃p ys,xs=[.ref p]/\(aJ K H p ys\/aU K H p ys)/\Q (.int ys.length) H) t):=dG (a5K K hK) hg (B.at "len") PySem.boot_len ha aB aB he gH
theorem pS(i:Nat)(hN:X.N.Nodup)(he:PE X e te)(hi:X.N[i]? =some x:=by rfl)(hx:Loc X.env.scope x:=by first|exact Or.inl rfl|exact Or.inr rfl)(hs:swapsWith e (some (.Name x pos')) pos.line X.env=pure false:=by rfl)(hf:X.fn x=true\/X.env.scope.names.lookup x=some .local:=by first|exact .inl rfl|exact .inr rfl|assumption):PS X (.Assign [.Name x pos'] e pos) (B0 te (fA i)):=a1T hN hi hx he hs hf
theorem bJ(i:Nat)(hN:X.N.Nodup)(hi:X.N[i]? =some x:=by rfl)(hx:Loc X.env.scope x:=by first|exact Or.inl rfl|exact Or.inr rfl)(hf:X.fn x=true\/X.env.scope.names.lookup x=some .local:=by first|exact .inl rfl|exact .inr rfl|assumption):PG X (.Name x pos) (fA i):=a2c hN hi hx hf
theorem ur (a:Str):[a].Nodup:=by simp
theorem gc{a b:Str}(h:(a==b)=false):[a,b].Nodup:=by
 have:a≠b:=λz=>by rw[z,Lm]at h;cases h
 simp[this]
theorem bZ{n:Nat}(h:Nat.ble n 1000=true):n<=sizeLine:=yy n (Nat.le_of_ble_eq_true h)
end
def GV(mg:Str->Option Value)(x:Str)(v:V):Prop:=∃u,mg x=some u/\RelV v u
def GT(K:aa)(mg:Str->Option Value)(x:Str)(vs:List V):Prop:=∃a,GV mg x (.ref a)/\∀H,aU K H a vs
theorem fi{X:Cx}{x:Str}{v:V}{pos:Pos}(hg:Gl X x)(h:GV X.mg x v)(hd:(x==("__debug__":Str))=false:=by decide):PE X (.Name x pos) (tC v):=by obtain⟨u,hm,r⟩:=h;exact a2h hg hm r hd
section
variable {K:aa}{mg:Str->Option Value}{h:Heap}
theorem rS{x:Str}{i:Int}{t:Tok}(X:K.In h)(G:h.Ns mainGlobals mg)(a:PySem.W.nsIn K mainGlobals x=some (some (.int i t))):GV mg x (.int i):=⟨_,xW X G a,t,Z⟩
theorem SU{x:Str}{vs:List V}{b:Addr}{its:Array Value}{n:Nat}{od:Option Addr}{gF:Array (Option Value)}(X:K.In h)(G:h.Ns mainGlobals mg)(a:PySem.W.nsIn K mainGlobals x=some (some (.ref b))) (l:K.lookup b=some ⟨.type "tuple",od,.seq its n,gF⟩)(hz:its.size<=sizeLine)(r:Vals vs its.toList):GT K mg x vs:=⟨b,⟨_,xW X G a,Z⟩,λH=>.inr ⟨_,its,n,l,Z,Z,hz,r⟩⟩
end
section
variable {X:Cx}
end
theorem Ku{J:It}{xs:List V}{bs:List Bool}{te:TE}{Q:VK}{D:Addr}{H H0:Hp}(rest:St)(nw:Nw H H0 D (.lst []))(hl:xs.length=bs.length)(hz:xs.length<=1000) (go:∀i x H2,xs[i]? =some x->aG H H2->J.go i H2/\∀y H3,J.kg i H2 y H3->H3=H2/\y=x)(stop:∀H2,aG H H2->J.stop xs.length H2) (hs:∀(i:Nat)(x:V)(b:Bool)(H2:Hp)(Q':VK),xs[i]? =some x->bs[i]? =some b->aG H H2->(∀H3,aG H2 H3->Q' (.bl b) H3)->te (some x::rest) H2 Q') (hq:∀H',aG H H'->H' D=some (.lst (bs.map V.bl))->Q (.ref D) H'):j6 J (fA 0) iC te Q D (none::rest) H0:=by
 have hD:=nw.no;refine sj xs.length (λi O H2=>aG H H2/\H2 D=some (.lst ((bs.take i).map V.bl))/\∃v,O=v::rest) ?_ ?_ ?_
 ·exact⟨nw.same,nw.at',none,Z⟩
 ·rintro i O H2 hi ⟨s2,d2,v,rfl⟩
  have xi:i<bs.length:=by rw[<-hl];exact hi
  have ex:=cu hi;have eb:=cu xi;obtain⟨g1,g2⟩:=go i _ H2 ex s2;refine⟨g1,λy H3 hy=>?_⟩;obtain⟨rfl,rfl⟩:=g2 y H3 hy;refine AI ?_;refine hs i _ _ _ _ ex eb s2 λH4 s4=>?_;refine⟨_,s4 _ _ d2,?_,xs.length-(i+1),aw,Z,aw,λb o e=>?_,?_,_,Z⟩
  ·rw[cB,oS]
   have:(1000:Nat)<sizeLine:=by decide
   lia
  ·rw[aK (gy e hD)];exact s4 b o (s2 b o e)
  ·rw[bf,qF,eb,oQ];rfl
 ·rintro O H2 ⟨s2,d2,v,rfl⟩
  refine⟨stop H2 s2,hq H2 s2 ?_⟩;rw[d2,hl,vx]
theorem Ux{K:aa}{a:Addr}{xs:List V}{bs:List Bool}{te:TE}{Q:VK}{D:Addr}{H H0:Hp}(rest:St)(hx:aU K H a xs)(nw:Nw H H0 D (.lst []))(hl:xs.length=bs.length)(hz:xs.length<=1000) (hs:∀(i:Nat)(x:V)(b:Bool)(H2:Hp)(Q':VK),xs[i]? =some x->bs[i]? =some b->aG H H2->(∀H3,aG H2 H3->Q' (.bl b) H3)->te (some x::rest) H2 Q') (hq:∀H',aG H H'->H' D=some (.lst (bs.map V.bl))->Q (.ref D) H'):j6 (sS K a) (fA 0) iC te Q D (none::rest) H0:=Ku rest nw hl hz (λi x H2 e s=>⟨⟨xs,x,hx.go s,e⟩,λy H3 ⟨e3,y3⟩=>⟨e3,by have:=y3 _ (hx.go s);rw[e]at this;exact(eg this).symm⟩⟩) (λH2 s=>⟨xs,hx.go s,bR _⟩) hs hq
theorem abC{K:aa}{a:Addr}{xs:List V}{bs:List Bool}{te:TE}{Q:VK}{D:Addr}{H H0:Hp}(rest:St)(hx:aJ K H a xs)(nw:Nw H H0 D (.lst []))(hl:xs.length=bs.length)(hz:xs.length<=1000) (hs:∀(i:Nat)(x:V)(b:Bool)(H2:Hp)(Q':VK),xs[i]? =some x->bs[i]? =some b->aG H H2->(∀H3,aG H2 H3->Q' (.bl b) H3)->te (some x::rest) H2 Q') (hq:∀H',aG H H'->H' D=some (.lst (bs.map V.bl))->Q (.ref D) H'):j6 (sT K a) (fA 0) iC te Q D (none::rest) H0:=Ku rest nw hl hz (λi x H2 e s=>⟨⟨xs,x,hx.go s,e⟩,λy H3 ⟨e3,y3⟩=>⟨e3,by have:=y3 _ (hx.go s);rw[e]at this;exact(eg this).symm⟩⟩) (λH2 s=>⟨xs,hx.go s,bR _⟩) hs hq
theorem QP{ds:List ai}{f:ai->Bool}{i:Nat}{b:Bool}(h:(ds.map f)[i]? =some b):∃d,ds[i]? =some d/\f d=b:=by rw[cH]at h;cases e:ds[i]? with |none=>rw[e]at h;cases h |some d=>rw[e]at h;exact⟨d,Z,eg h⟩
theorem all_map{ds:List ai}{f:ai->Bool}:(ds.map f).all id=ds.all f:=by rw[List.all_map];rfl
section
variable {X:Cx}
inductive Xf(K:aa)(x:V)(y:V)(H:Hp)(Q:VK):Prop |mk (a:_)(b:_)(xs:_)(ys:_)(h0:x= .ref a)(h1:y= .ref b)(h2:aJ K H a xs)(h3:aJ K H b ys)(h4:xs.length+ys.length<=sizeLine)(h5:∀p H',Nw H H' p (.lst (xs++ys))->Q (.ref p) H'):Xf K x y H Q
def a1H(K:aa):R2:=λx y H Q=>Xf K x y H Q
theorem xI(K:aa)(hK:X.K=K):dH X (binaryOp .Add) (a1H K):=by
 subst hK;intro ay s O H x y v u Q I rx ry h;obtain⟨a,b,xs,ys,rfl,rfl,ha,hb,hz,q⟩:=h;cases rx;cases ry;obtain⟨its,r1,p1,_⟩:=I.list ha;obtain⟨mI,r2,p2,_⟩:=I.list hb;obtain⟨⟨cls,dd,data,sl⟩,n,ho,hc,hdd,hd⟩:=id p1;obtain⟨⟨aeq,dd2,data2,ER⟩,n2,xb,CL,ae9,hd2⟩:=id p2;simp only at hc hd CL hd2;subst hc hd CL hd2;have e:its.toArray++mI.toArray=(its++mI).toArray:=by simp
 refine concat_meets ⟨_,ho,Z⟩ ⟨_,xb,Z⟩ noFill_list_add seq_list_add PySem.F.slot_list_add PySem.F.entry_list_add (PySem.F.args_list_add_2 _ _) (list_addW a b its.toArray mI.toArray n n2 dd dd2 sl ER (by rw[fe,fe,<-r1.length,<-r2.length];exact hz)) ⟨ho,xb,?_⟩;rw[e];have nw:Nw H (upd H s.heap.objs.size (.lst (xs++ys))) s.heap.objs.size (.lst (xs++ys)):=.of (I.bj.fresh (bR _));refine⟨.ref s.heap.objs.size,_,I.laid (t':=s.toks) (o:=.lst (xs++ys)) (λb ob q=>cI _ q) (bR _) ?_,Z,q _ _ nw⟩;exact⟨by rw[fy];exact hz,_,0,r1.append r2,fq _ Z⟩
open Classical in
noncomputable def uX(h:Heap)(d:ai)(w:Value):Bool:=if q:∃e as,Reads h w e as then PyData.eqv q.choose d else false
theorem aaG{h:Heap}{d e:ai}{w:Value}{as:List Addr}(r:Reads h w e as):uX h d w=PyData.eqv e d:=by have q:∃e as,Reads h w e as:=⟨e,as,r⟩;unfold uX;rw[dif_pos q];obtain⟨as',r'⟩:=q.choose_spec;rw[(Reads.unique r' e as r).1]
theorem TJ{ay:List (Addr×Obj)}{s:ae}{O:St}{H:Hp}(I:Inv X ay O H s)(hu:X.A.units+65<cLine){x:V}{u:Value}{d:ai}(rx:RelV x u)(hd:RD X.K H x d)(sd:SeqAt.shaped d=true): ∀{xs:List V}{us:List Value}{ds:List ai},Vals xs us->aP X.K H xs ds->(∀e∈ds,SeqAt.shaped e=true)->(∀w∈us,SeqAt.EqAt X.A.in1 s w u (uX s.heap d w))/\us.any (uX s.heap d)=ds.any λe=>PyData.eqv e d |xs,us,[],rv,h,_=>by cases h.nil_inv;cases rv;exact⟨λ_ h=>(cL h).elim,Z⟩ |xs,us,e::ds,rv,h,se=>by obtain⟨y,ys,rfl,h1,h2⟩:=h.cons_inv;cases rv with |cons ra rb=>
 rename_i w ws;obtain⟨as,q1⟩:=RD.reads I e ra h1;obtain⟨bs,q2⟩:=RD.reads I d rx hd;have key:SeqAt.EqAt X.A.in1 s w u (PyData.eqv e d):=SeqAt.eqAt_reads e d X.A.in1 s w u as bs q1 q2 (XG (se e (.head _))) (XG sd) (SeqAt.room_of_shaped (se e (.head _)) (by show X.A.units+1+64<cLine;omega));obtain⟨k1,k2⟩:=TJ I hu rx hd sd rb h2 (λe' he=>se e' (.tail _ he));have ew:uX s.heap d w=PyData.eqv e d:=aaG q1;refine⟨λz hz=>?_,?_⟩
 ·rcases bM.mp hz with rfl|hz
  ·rw[ew];exact key
  ·exact k1 z hz
 ·rw[vF,vF,ew,k2]
end
end L2
namespace L2
theorem cQ.YA{k:Nat}{A:PySem.Around}(r:cQ k A):A.units+65<PySem.cLine:=by have:=r.un;lia
end L2
namespace L2
open PySem PySem.Spec PyProof.Rows
def kF(b:Bool)(h:Heap)(it l:Addr)(k:Nat):Prop:=match b with|true=>h.IsListIter it l k|false=>h.IsTupleIter it l k
def iu(b:Bool)(h:Heap)(l:Addr)(xs:Array Value):Prop:=match b with|true=>h.IsList l xs|false=>h.IsTuple l xs
def sx(b:Bool):String:=match b with|true=>"list_iterator"|false=>"tuple_iterator"
theorem kF.to{b:Bool}{h g:Heap}{it l:Addr}{k:Nat}(x:kF b h it l k)(e:∀o,h.get? it=some o->g.get? it=some o):kF b g it l k:=by cases b<;>(obtain⟨o,ho,r⟩:=x;exact⟨o,e o ho,r⟩)
theorem iu.to{b:Bool}{h g:Heap}{l:Addr}{xs:Array Value}(x:iu b h l xs)(e:∀o,h.get? l=some o->g.get? l=some o):iu b g l xs:=by cases b<;>(obtain⟨o,ho,r⟩:=x;exact⟨o,e o ho,r⟩)
theorem kF.ob{b:Bool}{h:Heap}{it l:Addr}{k:Nat}(x:kF b h it l k):∃o,h.get? it=some o/\o.cls= .type (sx b)/\∀v,o.data≠ .cell v:=by cases b<;>(obtain⟨o,ho,c,d⟩:=x;exact⟨o,ho,c,λv z=>by rw[d]at z;cases z⟩)
section
variable {prog:ah}{w:World}{A:aj}{E:Value->ae->Prop}{s:ae}
theorem wI{b:Bool}{l:Addr}{xs:Array Value}{Q:Value->ae->Prop}(x:iu b s.heap l xs) (q:Q (.ref s.heap.objs.size) {s with heap:=s.heap.push {cls:=.type (sx b),data:=.fields #[.ref l,.int 0 0]}}):wpAny (model prog w) A (pyIter (.ref l)) Q E s:=by
 cases b
 ·exact wpAny_pyIter_tuple x q
 ·exact DN x q
theorem a4m{it t:Addr}{k:Nat}{ts:Array Value}{x:Value}{Q:Value->ae->Prop}(hi:s.heap.IsTupleIter it t k)(ht:s.heap.IsTuple t ts)(hx:ts[k]? =some x) (q:∀g,g.IsTupleIter it t (k+1)->Heap.SameBut it s.heap g->Q x {s with heap:=g}):wpAny (model prog w) A (Builtin.SmallTypes.nextOf (.ref it)) Q E s:=by obtain⟨oi,lM,ci,di⟩:=id hi;obtain⟨ot,Jc,_,nt,dt⟩:=ht;unfold Builtin.SmallTypes.nextOf;refine aV (DR (name:=Str.ofString "__next__") hi.typeIs Lx (DQ Lx hi.typeIs ad1 ?_ (ad2 _)));show wpAny _ _ (field (.ref it) 0>>=_) _ _ s;refine aV (jH lM di (x:=.ref t) Z ?_);show wpAny _ _ (if(Value.ref t==Value.none)=true then _ else _) _ _ s;rw[bu (show¬((Value.ref t==Value.none)=true)from kK)];show wpAny _ _ (field (.ref it) 1>>=_) _ _ s;refine aV (jH lM di (x:=.int k 0) Z ?_);show wpAny _ _ (seqItems? (.ref t)>>=_) _ _ s;refine aV (vp Jc dt ?_);simp only[Y3,hx];refine aV (DM lM di (by simp) (cA ⟨x,Z,cA (q _ ?_ (Heap.SameBut.update ..))⟩));exact⟨_,LX _ lM (XU (DX di _)),(Obj.cls_mapFields ..).trans ci,by rw[DX di];simp[rawInt]⟩
theorem aaL{it t:Addr}{k:Nat}{ts:Array Value}{Q:Value->ae->Prop}(hh:A.handled=none)(hi:s.heap.IsTupleIter it t k)(ht:s.heap.IsTuple t ts)(hx:ts[k]? =none) (q:∀g e,Heap.ExtBut it s.heap g->(∃o,g.get? e=some o/\o.cls= .type "StopIteration")->E (.ref e) {s with heap:=g}):wpAny (model prog w) A (Builtin.SmallTypes.nextOf (.ref it)) Q E s:=by
 obtain⟨oi,lM,ci,di⟩:=id hi;obtain⟨ot,Jc,_,nt,dt⟩:=ht;unfold Builtin.SmallTypes.nextOf;refine aV (DR (name:=Str.ofString "__next__") hi.typeIs Lx (DQ Lx hi.typeIs ad1 ?_ (ad2 _)));show wpAny _ _ (field (.ref it) 0>>=_) _ _ s;refine aV (jH lM di (x:=.ref t) Z ?_);show wpAny _ _ (if(Value.ref t==Value.none)=true then _ else _) _ _ s;rw[bu (show¬((Value.ref t==Value.none)=true)from kK)];show wpAny _ _ (field (.ref it) 1>>=_) _ _ s;refine aV (jH lM di (x:=.int k 0) Z ?_);show wpAny _ _ (seqItems? (.ref t)>>=_) _ _ s;refine aV (vp Jc dt ?_);simp only[Y3,hx];refine aV (wpAny_rule (aV (DM lM di (by simp) ?_)));show wpAny _ _ (newExc (.type "StopIteration") []>>=_) _ _ _;refine aV ?_;simp only[newExc,newTuple];refine aV (qy ?_ (by size_fits));refine aV (m:=firstArgMember _ _) (Am (a:=Value.none) (by first|rfl|(simp only[firstArgMember];rfl)) ?_);refine qy ?_ (by size_fits);simp only[raiseNew];refine aV (wpAny_handled ?_)
 first|rw[show A.in1.handled=none from hh]|rw[hh]
 exact aV (cA (wpAny_throw (q _ _ (((Heap.SameBut.update ..).extBut.push _).push _) ⟨_,fq _ Z,Z⟩)))
theorem BL{b:Bool}{it l:Addr}{k:Nat}{xs:Array Value}{x:Value}{Q:Value->ae->Prop}(hi:kF b s.heap it l k)(hl:iu b s.heap l xs)(hx:xs[k]? =some x) (q:∀g,kF b g it l (k+1)->Heap.SameBut it s.heap g->Q x {s with heap:=g}):wpAny (model prog w) A (Builtin.SmallTypes.nextOf (.ref it)) Q E s:=by
 cases b
 ·exact a4m hi hl hx q
 ·exact wpAny_nextOf_list_item hi hl hx q
theorem Ke{b:Bool}{it l:Addr}{k:Nat}{xs:Array Value}{Q:Value->ae->Prop}(hh:A.handled=none)(hi:kF b s.heap it l k)(hl:iu b s.heap l xs)(hx:xs[k]? =none) (q:∀g e,Heap.ExtBut it s.heap g->(∃o,g.get? e=some o/\o.cls= .type "StopIteration")->E (.ref e) {s with heap:=g}):wpAny (model prog w) A (Builtin.SmallTypes.nextOf (.ref it)) Q E s:=by
 cases b
 ·exact aaL hh hi hl hx q
 ·exact wpAny_nextOf_list_end hh hi hl hx q
structure Zp(b1 b2:Bool)(h:Heap)(z TI TO i1 i2 l1 l2:Addr)(f0:Value)(k:Nat):Prop where
 zz:IsZip h z TI TO f0
 ti:IsPair h TI (.ref i1) (.ref i2)
 to:∃a b,IsPair h TO a b
 n1:kF b1 h i1 l1 k
 n2:kF b2 h i2 l2 k
theorem Q8{z TI TO:Addr}{Q:Bool->ae->Prop}(hz:IsZip s.heap z TI TO .none)(q:Q true s):wpAny (model prog w) A (Builtin.SmallTypes.ownedTupleIsFree (.ref z)) Q E s:=by unfold Builtin.SmallTypes.ownedTupleIsFree;exact aV (jH hz Z (x:=.none) Z (cA q))
theorem Yc{b1 b2:Bool}{z TI TO i1 i2 l1 l2:Addr}{k:Nat}{xs ys:Array Value}{x y:Value}{Q:Value->ae->Prop}(D:ZipApart z TI TO i1 i2 l1 l2)(aeE:Zp b1 b2 s.heap z TI TO i1 i2 l1 l2 .none k) (uN:iu b1 s.heap l1 xs)(rF:iu b2 s.heap l2 ys)(hx:xs[k]? =some x)(hy:ys[k]? =some y) (q:∀g,Zp b1 b2 g z TI TO i1 i2 l1 l2 (rawInt s.heap.objs.size) (k+1)->IsPair g s.heap.objs.size x y->(∀c o,c≠z->c≠TO->c≠i1->c≠i2->s.heap.get? c=some o->g.get? c=some o)->Q (.ref s.heap.objs.size) {s with heap:=g}): wpAny (model prog w) A (Builtin.«zip.__next__» ⟨[.ref z],[]⟩) (λr s'=>∃v,r= .done (.ret v)/\Q v s') E s:=by
 obtain⟨hz,mr,⟨a,b,mO⟩,h1,h2⟩:=aeE;show wpAny _ _ (field (.ref z) 2>>=_) _ _ _;refine aV (jH hz Z (x:=.bool false) Z ?_);show wpAny _ _ (field (.ref z) 3>>=_) _ _ _;refine aV (jH hz Z (x:=.ref TI) Z (aV (vp mr Z ?_)));show wpAny _ _ (Builtin.SmallTypes.ownedTupleIsFree (.ref z)>>=_) _ _ _;refine aV (Q8 hz ?_);simp only[vt];refine aV (wpAny_rule (aV (jH hz Z (x:=.ref TO) Z (aV (Al hz (by simp) λg1 z1 e1=>?_)))));replace z1:IsZip g1 z TI TO .ellipsis:=z1;refine aV ?_;simp only[List.zipIdx_cons,List.zipIdx_nil,E6,List.forIn_nil];refine aV (aV (DP ?_));show wpAny _ _ (Builtin.SmallTypes.nextOf (.ref i1)>>=_) _ _ _;refine aV (BL (h1.to λo e=>e1.extBut _ _ D.i1z e) (uN.to λo e=>e1.extBut _ _ D.l1z e) hx λg2 n1 e2=>cA ?_);have t2:IsPair g2 TO a b:=e2.extBut _ _ D.TOi1 (e1.extBut _ _ D.TOz mO);refine aV (vp t2 Z (aV (XD t2 λg3 t3 e3=>?_)));replace t3:IsPair g3 TO x b:=t3;refine aV (wpAny_letGo (cA ?_));refine aV (aV (DP ?_));show wpAny _ _ (Builtin.SmallTypes.nextOf (.ref i2)>>=_) _ _ _;refine aV (BL (h2.to λo e=>e3.extBut _ _ D.TOi2.symm (e2.extBut _ _ D.i12.symm (e1.extBut _ _ D.i2z e))) (rF.to λo e=>e3.extBut _ _ D.l2TO (e2.extBut _ _ D.l2i1 (e1.extBut _ _ D.l2z e))) hy λg4 n2 e4=>cA ?_);have t4:IsPair g4 TO x b:=e4.extBut _ _ D.TOi2 t3;refine aV (vp t4 Z (aV (XD t4 λg5 t5 e5=>?_)));replace t5:IsPair g5 TO x y:=t5;refine aV (wpAny_letGo (cA (cA ?_)));refine aV (vp t5 Z (aV (wpAny_newTuple ?_)));have sz:g5.objs.size=s.heap.objs.size:=by rw[e5.1,e4.1,e3.1,e2.1,e1.1]
 have z5:IsZip g5 z TI TO .ellipsis:=e5.extBut _ _ D.TOz.symm (e4.extBut _ _ D.i2z.symm (e3.extBut _ _ D.TOz.symm (e2.extBut _ _ D.i1z.symm z1)));have kp:∀c o,c≠z->c≠TO->c≠i1->c≠i2->s.heap.get? c=some o->g5.get? c=some o:=λc o c1 c2 c3 c4 e=>e5.extBut _ _ c2 (e4.extBut _ _ c4 (e3.extBut _ _ c2 (e2.extBut _ _ c3 (e1.extBut _ _ c1 e))));have m1:kF b1 g5 i1 l1 (k+1):=n1.to λo e=>e5.extBut _ _ D.TOi1.symm (e4.extBut _ _ D.i12 (e3.extBut _ _ D.TOi1.symm e));have m2:kF b2 g5 i2 l2 (k+1):=n2.to λo e=>e5.extBut _ _ D.TOi2.symm e;have Eb:z<g5.objs.size:=cJ z5;show wpAny _ _ (Builtin.SmallTypes.ownedTupleHandOut (.ref z) (.ref g5.objs.size)>>=_) _ _ _;refine aV ?_;unfold Builtin.SmallTypes.ownedTupleHandOut;have z6:IsZip (g5.push {cls:=.type "tuple",data:=.seq #[x,y]}) z TI TO .ellipsis:=cI _ z5;refine aV (Al z6 (by simp) λg7 z7 e7=>?_);replace z7:IsZip g7 z TI TO (rawInt g5.objs.size):=z7;refine Al z7 (by simp) λg8 z8 e8=>?_;replace z8:IsZip g8 z TI TO (rawInt g5.objs.size):=z8;have up:∀c o,c≠z->g5.get? c=some o->g8.get? c=some o:=λc o c1 e=>e8.extBut _ _ c1 (e7.extBut _ _ c1 (cI _ e));have t8:IsPair g8 g5.objs.size x y:=e8.extBut _ _ (DY Eb) (e7.extBut _ _ (DY Eb) (fq _ Z));rw[sz]at z8 t8;refine cA ⟨_,Z,?_⟩;show Q (.ref g5.objs.size) _;rw[sz];exact q g8 ⟨z8,up _ _ D.TIz (kp _ _ D.TIz D.TITO D.TIi1 D.TIi2 mr),⟨_,_,up _ _ D.TOz t5⟩,m1.to λo e=>up _ o D.i1z e,m2.to λo e=>up _ o D.i2z e⟩ t8 λc o c1 c2 c3 c4 e=>up c o c1 (kp c o c1 c2 c3 c4 e)
theorem Yd{b1 b2:Bool}{z TI TO i1 i2 l1 l2:Addr}{k:Nat}{xs ys:Array Value}{Q:Fin->ae->Prop}(hh:A.handled=none)(D:ZipApart z TI TO i1 i2 l1 l2)(aeE:Zp b1 b2 s.heap z TI TO i1 i2 l1 l2 .none k) (uN:iu b1 s.heap l1 xs)(rF:iu b2 s.heap l2 ys)(mK:xs[k]? =none\/ys[k]? =none) (q:∀g e,(∀c o,c≠z->c≠TO->c≠i1->c≠i2->s.heap.get? c=some o->g.get? c=some o)->(∃o,g.get? e=some o/\o.cls= .type "StopIteration")->E (.ref e) {s with heap:=g}): wpAny (model prog w) A (Builtin.«zip.__next__» ⟨[.ref z],[]⟩) Q E s:=by obtain⟨hz,mr,⟨a,b,mO⟩,h1,h2⟩:=aeE;show wpAny _ _ (field (.ref z) 2>>=_) _ _ _;refine aV (jH hz Z (x:=.bool false) Z ?_);show wpAny _ _ (field (.ref z) 3>>=_) _ _ _;refine aV (jH hz Z (x:=.ref TI) Z (aV (vp mr Z ?_)));show wpAny _ _ (Builtin.SmallTypes.ownedTupleIsFree (.ref z)>>=_) _ _ _;refine aV (Q8 hz ?_);simp only[vt];refine aV (wpAny_rule (aV (jH hz Z (x:=.ref TO) Z (aV (Al hz (by simp) λg1 z1 e1=>?_)))));replace z1:IsZip g1 z TI TO .ellipsis:=z1;refine aV ?_;simp only[List.zipIdx_cons,List.zipIdx_nil,E6,List.forIn_nil];refine aV (aV (DP ?_));show wpAny _ _ (Builtin.SmallTypes.nextOf (.ref i1)>>=_) _ _ _;have j1:=h1.to λo e=>e1.extBut _ _ D.i1z e;have k1:=uN.to λo e=>e1.extBut _ _ D.l1z e;cases hx:xs[k]? with
 |none=>
  refine aV (Ke hh j1 k1 hx λg2 er e2 ⟨oe,uJ,zA⟩=>?_);have z2:IsZip g2 z TI TO .ellipsis:=e2 _ _ D.i1z.symm z1;have nz:er≠z:=λv=>by subst v;rw[z2]at uJ;cases uJ;simp at zA
  refine Al z2 (by simp) λg3 _ e3=>q g3 er (λc o c1 _ c3 _ v=>e3.extBut _ _ c1 (e2 _ _ c3 (e1.extBut _ _ c1 v))) ⟨oe,e3.extBut _ _ nz uJ,zA⟩ |some x=>
  have hy:ys[k]? =none:=by rcases mK with h|h;rw[hx]at h;cases h;exact h
  refine aV (BL j1 k1 hx λg2 n1 e2=>cA ?_);have t2:IsPair g2 TO a b:=e2.extBut _ _ D.TOi1 (e1.extBut _ _ D.TOz mO);refine aV (vp t2 Z (aV (XD t2 λg3 t3 e3=>?_)));refine aV (wpAny_letGo (cA ?_));refine aV (aV (DP ?_));show wpAny _ _ (Builtin.SmallTypes.nextOf (.ref i2)>>=_) _ _ _;refine aV (Ke hh (h2.to λo e=>e3.extBut _ _ D.TOi2.symm (e2.extBut _ _ D.i12.symm (e1.extBut _ _ D.i2z e))) (rF.to λo e=>e3.extBut _ _ D.l2TO (e2.extBut _ _ D.l2i1 (e1.extBut _ _ D.l2z e))) hy λg4 er e4 ⟨oe,uJ,zA⟩=>?_);have z4:IsZip g4 z TI TO .ellipsis:=e4 _ _ D.i2z.symm (e3.extBut _ _ D.TOz.symm (e2.extBut _ _ D.i1z.symm z1));have nz:er≠z:=λv=>by subst v;rw[z4]at uJ;cases uJ;simp at zA
  refine Al z4 (by simp) λg5 _ e5=>q g5 er (λc o c1 c2 c3 c4 v=>e5.extBut _ _ c1 (e4 _ _ c4 (e3.extBut _ _ c2 (e2.extBut _ _ c3 (e1.extBut _ _ c1 v))))) ⟨oe,e5.extBut _ _ nz uJ,zA⟩
abbrev AH(b1:Bool)(h:Heap)(l1:Addr):Heap:=h.push {cls:=.type (sx b1),data:=.fields #[.ref l1,.int 0 0]}
abbrev AG(b1 b2:Bool)(h:Heap)(l1 l2:Addr):Heap:=(AH b1 h l1).push {cls:=.type (sx b2),data:=.fields #[.ref l2,.int 0 0]}
abbrev AF(b1 b2:Bool)(h:Heap)(l1 l2:Addr):Heap:=(AG b1 b2 h l1 l2).push {cls:=.type "tuple",data:=.seq #[.ref h.objs.size,.ref (AH b1 h l1).objs.size]}
abbrev AE(b1 b2:Bool)(h:Heap)(l1 l2:Addr):Heap:=(AF b1 b2 h l1 l2).push {cls:=.type "tuple",data:=.seq #[.none,.none]}
abbrev vG(b1 b2:Bool)(h:Heap)(l1 l2:Addr):Heap:=(AE b1 b2 h l1 l2).push {cls:=.type "zip",data:=.fields #[.none,.bool false,.bool false,.ref (AG b1 b2 h l1 l2).objs.size,.ref (AF b1 b2 h l1 l2).objs.size]}
theorem Yb(b1 b2:Bool)(l1 l2:Addr)(xs ys:Array Value):Meets (Builtin.«zip.__new__» ⟨[.type "zip",.ref l1,.ref l2],[]⟩) (λ_ R s=>iu b1 s.heap l1 xs/\iu b2 s.heap l2 ys/\R (.ok (.ret (.ref (AE b1 b2 s.heap l1 l2).objs.size))) {s with heap:=vG b1 b2 s.heap l1 l2}):=.of_wp λprog w A R s h=>by
 obtain⟨hp,gg,d,tk,os⟩:=s;obtain⟨uN,rF,h⟩:=h;have J3:=sub_zip;have hL1:iu b1 (Shared.heap ⟨hp,gg,d,tk,os⟩) l1 xs:=uN;have zF:iu b2 (Shared.heap ⟨hp.push {cls:=.type (sx b1),data:=.fields #[.ref l1,.int 0 0]},gg,d,tk,os⟩) l2 ys:=rF.to λo e=>cI _ e
 wp_walk using wI hL1,wI zF;exact⟨_,Z,h⟩
theorem Ye{b1 b2:Bool}{l1 l2:Addr}{xs ys:Array Value}{Q:Value->ae->Prop}(uN:iu b1 s.heap l1 xs)(rF:iu b2 s.heap l2 ys) (q:∀g,Zp b1 b2 g (s.heap.objs.size+4) (s.heap.objs.size+2) (s.heap.objs.size+3) s.heap.objs.size (s.heap.objs.size+1) l1 l2 .none 0->(∀c o,s.heap.get? c=some o->g.get? c=some o)->Q (.ref (s.heap.objs.size+4)) {s with heap:=g}): wpAny (model prog w) A (call (.type "zip") [.ref l1,.ref l2]) Q E s:=by
 refine callType_new PySem.F.called_zip aB (PySem.F.typeCall_zip_2 _ _) (PySem.F.newCall_zip_2 _ _) (λobj=>PySem.F.args_object_init_3 obj _ _) PySem.F.entry_zip_new (Yb b1 b2 l1 l2 xs ys) ⟨uN,rF,?_⟩;have z1:(AH b1 s.heap l1).objs.size=s.heap.objs.size+1:=tI ..;have z2:(AG b1 b2 s.heap l1 l2).objs.size=s.heap.objs.size+2:=by rw[tI,z1]
 have z3:(AF b1 b2 s.heap l1 l2).objs.size=s.heap.objs.size+3:=by rw[tI,z2]
 have z4:(AE b1 b2 s.heap l1 l2).objs.size=s.heap.objs.size+4:=by rw[tI,z3]
 have g5:(vG b1 b2 s.heap l1 l2).get? (AE b1 b2 s.heap l1 l2).objs.size=some _:=fq _ rfl;have g4:(vG b1 b2 s.heap l1 l2).get? (AF b1 b2 s.heap l1 l2).objs.size=some _:=cI _ (fq _ Z);have g3:(vG b1 b2 s.heap l1 l2).get? (AG b1 b2 s.heap l1 l2).objs.size=some _:=cI _ (cI _ (fq _ Z));have g2:(vG b1 b2 s.heap l1 l2).get? (AH b1 s.heap l1).objs.size=some _:=cI _ (cI _ (cI _ (fq _ Z)));have g1:(vG b1 b2 s.heap l1 l2).get? s.heap.objs.size=some _:=cI _ (cI _ (cI _ (cI _ (fq _ Z))));show _/\_;rw[z2,z3,z4]at g5;rw[z1,z2]at g3;rw[z3]at g4;rw[z1]at g2;rw[z4];refine⟨⟨_,g5,Z⟩,q _ ⟨g5,g3,⟨_,_,g4⟩,?_,?_⟩ λc o e=>cI _ (cI _ (cI _ (cI _ (cI _ e))))⟩
 ·cases b1<;>exact⟨_,g1,rfl,rfl⟩
 ·cases b2<;>exact⟨_,g2,rfl,rfl⟩
end
section
variable {X:Cx}{ay:List (Addr×Obj)}{O:St}{H:Hp}{s:ae}{h':Heap}
theorem Inv.yg{t':Nat}{fp:List Addr}(I:Inv X ay O H s)(k:∀b o,b∉fp->s.heap.get? b=some o->h'.get? b=some o)(hf:∀b∈fp,lY X ay H b):Inv X ay O H {s with heap:=h',toks:=t'}:=by
 have yZ:∀b u,H b=some u->b∉fp:=λb u e z=>by rw[(hf b z).1]at e;cases e
 have hL:X.env.locals∉fp:=λz=>(hf _ z).2.1 rfl;refine I.step (g':=s.gens) (d':=s.drawn) (ch:=fp) (λb hb=>?_) (λb o _ _ hc e _=>k b o hc e) (λb o _ _ hc e _=>⟨o.slots,k b o hc e⟩) (λ_ _ _ _ n=>n) (λb o hc e=>⟨o,k b o hc e⟩) (λ_ _ e=>e) (λ_ _ _ e=>e) (λb ps e=>⟨#[],by rw[e];simp⟩) (λm hm=>?_) (λb u e=>?_) I.bare
 ·obtain⟨f0,f1,f2,f3,f4,f5⟩:=hf b hb
  exact⟨f3,f1,f4,f5⟩
 ·obtain⟨o,es,ep,ho,r⟩:=hm
  exact⟨o,es,ep,k _ o hL ho,r⟩
 ·refine(I.bj b u e).mD (λc v hc q=>k c v ?_ q) (λ_ q=>q) λ_ _ q=>q
  rcases hc with z|z
  ·rw[z];exact yZ b u e
  ·exact yZ c _ z
end
def fm(b:Bool)(K:aa)(H:Hp)(a:Addr)(xs:List V):Prop:=match b with|true=>aJ K H a xs|false=>aU K H a xs
theorem fm.get{X:Cx}{ay:List (Addr×Obj)}{O:St}{H:Hp}{s:ae}{b:Bool}{a:Addr}{xs:List V}(I:Inv X ay O H s)(h:fm b X.K H a xs):∃its:List Value,Vals xs its/\iu b s.heap a its.toArray:=by
 cases b
 ·obtain⟨its,r,p,_⟩:=I.tuple h;exact⟨its,r,p⟩
 ·obtain⟨its,r,p,_⟩:=I.list h;exact⟨its,r,p.isList⟩
theorem fm.inj{X:Cx}{ay:List (Addr×Obj)}{O:St}{H:Hp}{s:ae}{b:Bool}{a:Addr}{xs ys:List V}(I:Inv X ay O H s)(h:fm b X.K H a xs)(g:fm b X.K H a ys):xs=ys:=by
 cases b
 ·exact I.Mo h g
 ·exact I.Rg h g
def mX(K:aa)(b1 b2:Bool)(l1 l2:Addr):It:=⟨λi H=>∃xs ys x y,fm b1 K H l1 xs/\fm b2 K H l2 ys/\xs[i]? =some x/\ys[i]? =some y,λi H v H'=>∃T x y,v= .ref T/\(∀xs,fm b1 K H l1 xs->xs[i]? =some x)/\(∀ys,fm b2 K H l2 ys->ys[i]? =some y)/\Nw H H' T (.tup [x,y]),λi H=>∃xs ys,fm b1 K H l1 xs/\fm b2 K H l2 ys/\(xs.length<=i\/ys.length<=i)⟩
theorem YI{P:ah}{w:World}{K:aa}{elts:List Expr}{kt:Nat}{pos:Pos}{b1 b2:Bool}{z TI TO i1 i2 l1 l2:Addr}(D:ZipApart z TI TO i1 i2 l1 l2): Turn P w K (.Tuple elts kt pos) (mX K b1 b2 l1 l2) [z,TI,TO,i1,i2] z (λi h=>Zp b1 b2 h z TI TO i1 i2 l1 l2 .none i) where
 mem:=by simp
 obj:=λi h st b hb=>by
  obtain⟨hz,mr,⟨a,c,mO⟩,h1,h2⟩:=st;simp only[bM,cL,dv]at hb;rcases hb with rfl|rfl|rfl|rfl|rfl
  ·exact⟨_,hz,λv e=>by cases e⟩
  ·exact⟨_,mr,λv e=>by cases e⟩
  ·exact⟨_,mO,λv e=>by cases e⟩
  ·obtain⟨o,e,_,n⟩:=h1.ob;exact⟨o,e,n⟩
  ·obtain⟨o,e,_,n⟩:=h2.ob;exact⟨o,e,n⟩
 keep:=λi h h' st k=>by obtain⟨hz,mr,⟨a,c,mO⟩,h1,h2⟩:=st;exact⟨k z (by simp) _ hz,k TI (by simp) _ mr,⟨a,c,k TO (by simp) _ mO⟩,h1.to λo e=>k i1 (by simp) o e,h2.to λo e=>k i2 (by simp) o e⟩
 item:=by
  intro X hP hw hK hc i ay s O H E I hf st hg;subst hP hw hK;obtain⟨xs,ys,x,y,q1,q2,e1,e2⟩:=hg;obtain⟨IT,r1,p1⟩:=q1.get I;obtain⟨mI,r2,p2⟩:=q2.get I;obtain⟨u1,fk,lE⟩:=r1.get e1;obtain⟨u2,hu2,u9⟩:=r2.get e2;have hT:s.TypeIs (.ref z) "zip":=⟨_,st.zz,Z⟩;unfold pyNext;refine aV (wpAny_attempt (DR (name:=Str.ofString "__next__") hT Lv (DQ Lv hT PySem.F.entry_zip_next (Yc D st p1 p2 (x:=u1) (y:=u2) (by simpa using fk) (by simpa using hu2) λg zg tg kp=>cA ?_) (PySem.F.args_zip_next_1 _))));refine⟨_,Z,?_⟩;refine wpAny_letOwnedTupleGo_zip zg.zz λg' Ya sb=>?_;have hs:=sb.extBut;have Eb:z<s.heap.objs.size:=cJ st.zz;have nw:Nw H (upd H s.heap.objs.size (.tup [x,y])) s.heap.objs.size (.tup [x,y]):=.of (I.bj.fresh (bR _));have I1:Inv X ay O (upd H s.heap.objs.size (.tup [x,y])) {s with heap:=s.heap.push {cls:=.type "tuple",data:=.seq #[u1,u2]}}:=I.laid (t':=s.toks) (λb ob q=>cI _ q) (bR _) ⟨by show 2<=sizeLine;decide,[u1,u2],.cons lE (.cons u9 .nil),⟨_,fq _ Z,Z,_,Z⟩⟩;have BV:∀b∈[z,TI,TO,i1,i2],b<s.heap.objs.size:=λb hb=>by
   simp only[bM,cL,dv]at hb;obtain⟨hz,mr,⟨a,c,mO⟩,h1,h2⟩:=st;rcases hb with rfl|rfl|rfl|rfl|rfl
   ·exact cJ hz
   ·exact cJ mr
   ·exact cJ mO
   ·obtain⟨o,e,_⟩:=h1.ob;exact cJ e
   ·obtain⟨o,e,_⟩:=h2.ob;exact cJ e
  have hn:∀b∈[z,TI,TO,i1,i2],upd H s.heap.objs.size (.tup [x,y]) b=none:=λb hb=>by rw[aK (fR (BV b hb))];exact(hf b hb).1
  have I2:Inv X ay O (upd H s.heap.objs.size (.tup [x,y])) {s with heap:=g'}:=Inv.yg (s:={s with heap:=s.heap.push {cls:=.type "tuple",data:=.seq #[u1,u2]}}) (t':=s.toks) (fp:=[z,TI,TO,i1,i2]) I1 (λb o hb e=>by
   have e:(s.heap.push {cls:=.type "tuple",data:=.seq #[u1,u2]}).get? b=some o:=e;have nz:b≠z:=λq=>hb (by simp[q]);rcases Heap.get?_push_cases e with⟨xn,rfl⟩|e'
   ·subst xn
    exact hs _ _ nz tg
   ·exact hs _ _ nz (kp b o nz (λq=>hb (by simp[q])) (λq=>hb (by simp[q])) (λq=>hb (by simp[q])) e')) (λb hb=>by obtain⟨f0,f1,f2,f3,f4,f5⟩:=hf b hb;exact⟨hn b hb,f1,f2,f3,f4,f5⟩);refine⟨.ref s.heap.objs.size,_,I2,Z,⟨s.heap.objs.size,x,y,Z,λzs hz=>?_,λzs hz=>?_,nw⟩,?_,hn⟩
  ·rw[fm.inj I hz q1];exact e1
  ·rw[fm.inj I hz q2];exact e2
  ·obtain⟨_,mr,⟨a,c,mO⟩,h1,h2⟩:=zg
   exact⟨Ya,hs _ _ D.TIz mr,⟨a,c,hs _ _ D.TOz mO⟩,h1.to λo e=>hs _ o D.i1z e,h2.to λo e=>hs _ o D.i2z e⟩
 done:=by intro X hP hw hK hc i ay s O H E I hf st hg;subst hP hw hK;obtain⟨xs,ys,q1,q2,mK⟩:=hg;obtain⟨IT,r1,p1⟩:=q1.get I;obtain⟨mI,r2,p2⟩:=q2.get I;have hT:s.TypeIs (.ref z) "zip":=⟨_,st.zz,Z⟩;have l1:=r1.length;have l2:=r2.length;unfold pyNext;refine aV (wpAny_attempt (DR (name:=Str.ofString "__next__") hT Lv (DQ Lv hT PySem.F.entry_zip_next (Yd (I.ok.hd hc) D st p1 p2 (mK.imp (λh=>by simp;lia) λh=>by simp;lia) λg e kp he=>?_) (PySem.F.args_zip_next_1 _))));obtain⟨o,ho,mq⟩:=he;refine aV (wpAny_isInstance (T:="StopIteration") (b:=true) ⟨o,ho,mq⟩ isSubtype_stop (cA ⟨Z,?_⟩));exact I.yg (t':=s.toks) (fp:=[z,TI,TO,i1,i2]) (λb o hb e=>kp b o (λq=>hb (by simp[q])) (λq=>hb (by simp[q])) (λq=>hb (by simp[q])) (λq=>hb (by simp[q])) e) hf
 self:=λ_ _ _ _ _ st h=>wpAny_pyIter_zip st.zz h
inductive Xi(K:aa)(b1:Bool)(b2:Bool)(R:It->Hp->Prop)(vs:List V)(H1:Hp):Prop |mk (l1:_)(l2:_)(h0:vs=[.ref l1,.ref l2])(h1:(∃xs,fm b1 K H1 l1 xs))(h2:(∃ys,fm b2 K H1 l2 ys))(h3:R (mX K b1 b2 l1 l2) H1):Xi K b1 b2 R vs H1
def a6s(K:aa)(b1 b2:Bool)(ta:TA):TI:=λO H R=>ta O H λvs H1=>Xi K b1 b2 R vs H1
theorem kj(K:aa){X:Cx}(hK:X.K=K)(b1 b2:Bool){elts:List Expr}{kt:Nat}{oX:Pos}{a b:Expr}{ta:TA}{p pos:Pos}(hg:Gl X "zip")(hm:X.mg "zip"=none)(ha:PA X [a,b] ta)(hs:starEach [a,b] X.env=[(false,eval a X.env),(false,eval b X.env)]:=by rfl)(jy:starEach [b] X.env=[(false,eval b X.env)]:=by rfl): PI X (.Tuple elts kt oX) (.Call (.Name "zip" p) [a,b] [] pos) (a6s K b1 b2 ta):=by
 subst hK;intro ay s O H R I h;refine Call_ (pF I hg hm PyProof.Rows.boot_zip (xX (bo (ha pos ay s O H _ I h) λus s1 ⟨vs,H1,I1,r1,q1⟩=>?_) (by rw[hs,jy]) (by rw[jy];rfl)));obtain⟨l1,l2,e,⟨xs,h1⟩,⟨ys,h2⟩,q⟩:=q1;subst e;obtain⟨u1,u2,rfl,lE,u9⟩:=vals2 r1;cases(show u1=Value.ref l1 from lE);cases(show u2=Value.ref l2 from u9);obtain⟨IT,v1,p1⟩:=h1.get I1;obtain⟨mI,v2,p2⟩:=h2.get I1;have a1:l1<s1.heap.objs.size:=by cases b1<;>(obtain⟨o,e,_⟩:=p1;exact cJ e)
 have a2:l2<s1.heap.objs.size:=by cases b2<;>(obtain⟨o,e,_⟩:=p2;exact cJ e)
 refine Ye p1 p2 λg zg kp=>wpAny_pyIter_zip zg.zz ?_;refine⟨_,_,_,_,H1,Z,I1.kept (t':=s1.toks) kp,YI (zipApart_new a1 a2),zg,λc hc=>?_,q⟩;have hle:s1.heap.objs.size<=c:=by simp only[bM,cL,dv]at hc;rcases hc with rfl|rfl|rfl|rfl|rfl<;>first|exact bR _|exact Nat.le_add_right _ _
 exact I1.pV hle (I1.bj.fresh hle)
theorem fm.go{b:Bool}{K:aa}{H H':Hp}{a:Addr}{xs:List V}(s:aG H H')(h:fm b K H a xs):fm b K H' a xs:=by
 cases b
 ·exact aU.go s h
 ·exact aJ.go s h
theorem Uw{K:aa}{b1 b2:Bool}{l1 l2:Addr}{xs ys:List V}{bs:List Bool}{te:TE}{Q:VK}{D:Addr}{H H0:Hp}{n:Nat}(rest:St)(hn:n=2)(h1:fm b1 K H l1 xs)(h2:fm b2 K H l2 ys)(nw:Nw H H0 D (.lst [])) (hl:min xs.length ys.length=bs.length)(hz:bs.length<=1000) (hs:∀(i:Nat)(x y:V)(b:Bool)(H2:Hp)(Q':VK),xs[i]? =some x->ys[i]? =some y->bs[i]? =some b->aG H H2->(∀H3,aG H2 H3->Q' (.bl b) H3)->te (some x::some y::rest) H2 Q') (hq:∀H',aG H H'->H' D=some (.lst (bs.map V.bl))->Q (.ref D) H'):j6 (mX K b1 b2 l1 l2) (pU K n (ky (fA 0) (ky (fA 1) rW))) iC te Q D (none::none::rest) H0:=by
 subst hn;have hD:=nw.no;refine sj bs.length (λi O H2=>aG H H2/\H2 D=some (.lst ((bs.take i).map V.bl))/\∃v v',O=v::v'::rest) ?_ ?_ ?_
 ·exact⟨nw.same,nw.at',none,none,Z⟩
 ·rintro i O H2 hi ⟨s2,d2,v,v',rfl⟩
  have hx:i<xs.length:=by lia
  have hy:i<ys.length:=by lia
  have ex:=cu hx;have ey:=cu hy;have eb:=cu hi;refine⟨⟨xs,ys,_,_,h1.go s2,h2.go s2,ex,ey⟩,λy' H3 kr=>?_⟩;obtain⟨T,x0,y0,rfl,k1,k2,n3⟩:=kr;have e1:=k1 _ (h1.go s2);have e2:=k2 _ (h2.go s2);rw[ex]at e1;rw[ey]at e2;cases e1;cases e2;refine⟨T,_,Z,aU.of n3.at',Z,_,_,Z,_,_,Z,Z,?_⟩;refine yes (cf ?_);refine hs i _ _ _ _ _ ex ey eb (s2.trans n3.same) λH4 s4=>?_;refine⟨_,s4 _ _ (n3.same _ _ d2),?_,bs.length-(i+1),aw,Z,aw,λb o e=>?_,?_,_,_,Z⟩
  ·rw[cB,oS]
   have:(1000:Nat)<sizeLine:=by decide
   lia
  ·rw[aK (gy e hD)];exact s4 b o (n3.same b o (s2 b o e))
  ·rw[bf,qF,eb,oQ];rfl
 ·rintro O H2 ⟨s2,d2,v,v',rfl⟩
  refine⟨⟨xs,ys,h1.go s2,h2.go s2,aw⟩,hq H2 s2 ?_⟩;rw[d2,vx]
theorem fW.there{P:ah}{w:World}{H:Hp}{h:Heap}{a:Addr}{o:HO}(x:fW P w H h a o):∃ob,h.get? a=some ob:=by induction o with |lst xs=>obtain⟨_,_,_,_,e⟩:=x;exact⟨_,e⟩ |tup xs=>obtain⟨_,_,_,ob,e,_⟩:=x;exact⟨ob,e⟩ |dK aR=>obtain⟨_,_,_,_,ob,_,_,e,_⟩:=x;exact⟨ob,e⟩ |dT aR=>obtain⟨_,_,_,_,ob,_,_,e,_⟩:=x;exact⟨ob,e⟩ |set S n=>obtain⟨ob,_,_,_,e,_⟩:=x;exact⟨ob,e⟩ |ins C dx fs=>obtain⟨_,_,_,e,_⟩:=x;exact⟨_,e⟩ |own y=>exact x |xd fs=>obtain⟨_,⟨ob,_,_,e,_⟩,_⟩:=x;exact⟨ob,e⟩ |ub lo hi=>obtain⟨_,_,_,e⟩:=x;exact⟨_,e⟩ |mR ob u=>exact⟨_,x.1⟩ |fF ps=>exact⟨_,x⟩ |met f y=>exact⟨_,x⟩ |ext φ=>exact x.2.1
structure Fl(P:ah)(w:World)(outer:List Env)(H:Hp)(h₁:Heap)(ex:Addr)(H':Hp)(B h:Heap):Prop where
 un:Un (du outer) [] H H' h₁ h
 bj:dZ P w H' h
 k1:∀b o,h₁.get? b=some o->H b=none->b∉du outer->B.get? b=some o
 k2:∀b o,H' b=some o->∃ob,B.get? b=some ob
 k3:∀b o,h₁.get? b=some o->b∉du outer->∃ob,B.get? b=some ob
 fr:∀b∈du outer,H' b=none
 nw:h₁.get? ex=none
 ne:H' ex=none
theorem Fl.step{P:ah}{w:World}{outer:List Env}{H H':Hp}{h₁ B h h':Heap}{ex:Addr}{base:Heap}(F:Fl P w outer H h₁ ex H' B h)(st:B.StaysIn h)(gY:B.StaysIn h')(up:h.UpToSlots h')(ff:h.FunFrames base outer):Fl P w outer H h₁ ex H' B h':=by
 have slot:∀b o,h₁.get? b=some o->H b=none->b∈du outer->∃sl,h'.get? b=some {o with slots:=sl}:=λb o e n hb=>by obtain⟨sl,e1⟩:=F.un.slot b o e n hb (by simp);obtain⟨_,o2,e2,hd⟩:=ff.mem hb;rw[e1]at e2;cases e2;obtain⟨ES,e3⟩:=up b _ e1 (λvs=>hd vs);exact⟨ES,e3⟩
 refine⟨⟨λb o e n hb _=>gY b o (F.k1 b o e n hb),λb o e n hb _=>slot b o e n hb,F.un.free,λb o e hx=>?_,F.un.kL,F.un.kz,F.un.ki⟩,λb u e=>?_,F.k1,F.k2,F.k3,F.fr,F.nw,F.ne⟩
 ·by_cases hb:b∈du outer
  ·obtain⟨_,o2,e2,hd⟩:=ff.mem hb
   obtain⟨sl,e3⟩:=up b o2 e2 hd;exact⟨_,e3⟩
  ·obtain⟨ob,e1⟩:=F.k3 b o e hb
   exact⟨ob,gY b ob e1⟩
 ·refine(F.bj b u e).mD (λc v hc q=>?_) (λ_ q=>q) λ_ _ q=>q
  have inB:∃ob,B.get? c=some ob:=by
   rcases hc with z|z
   ·rw[z];exact F.k2 b u e
   ·exact F.k2 c _ z
  obtain⟨ob,e1⟩:=inB;have e2:=st c ob e1;rw[q]at e2;cases e2;exact gY c _ e1
section
variable {P:ah}{w:World}{K:aa}{mg:Str->Option Value}{base:Heap}{N:List Str}{qual:Str}{scope:Scope}{f:Addr}{cd:Value}{A:aj}{outer:List Env}{s:ae}{H:Hp}{E:XK}{ay:List (Addr×Obj)}{O:St}{H1:Hp}{s1:ae}{h2:Heap}{ex:Addr}{cls:Value}{vs:List Value}
end
structure Exc(K:aa)(mg:Str->Option Value)(x:Str)(C:Addr)(mV:List Value)(newId:String):Prop where
 at':mg x=some (.ref C)
 ok:PySem.W.excIn K C mV newId=true
theorem Exc.own{K:aa}{mg:Str->Option Value}{x:Str}{C:Addr}{mV:List Value}{newId:String}{h:Heap}(e:Exc K mg x C mV newId)(X:K.In h):OwnCls x C mV newId mg h:=by
 refine⟨e.at',?_⟩;have q:=e.ok;unfold PySem.W.excIn at q;split at q
 ·rename_i dd cd sl ho
  split at q
  ·rename_i D2 bl a0 a1 a2 a3 nn a5 hm hs
   simp only[gh,fE,Y9]at q;obtain⟨⟨⟨⟨⟨r1,r2⟩,Sk⟩,ht⟩,bj⟩,Cw⟩:=q;subst r1 r2;obtain⟨c1,c2,c3,c4,c5,c6,c7,c8,c9,c10,c11⟩:=cd;dsimp only at hm Sk bj Cw;subst hm Sk;obtain⟨l⟩:=sl;simp only at hs;subst hs;exact⟨bl,c4,c1,c5,c2,c6,c7,c8,c9,c10,dd,a0,a1,a2,a3,a5,_,X _ _ ho,.of_isNs (PySem.W.isNs_of_in X bj),PySem.W.nsMap_none_of_in X bj Cw,PySem.W.tail_of_in X ht⟩
  ·cases q
 ·cases q
section
variable {X:Cx}{x:Str}{C:Addr}{mV:List Value}{newId IX B:String}{e:Expr}{t:TA}{np cK pos:Pos}
def Zb(E:XK)(cls:Value)(t:TA):TS:=λ_ O H=>t O H λvs H1=>vs.length<=sizeLine/\E cls none H1
theorem PD{E:XK}(hx:∀ay O H s h2 ex vs,Inv X ay O H s->Heap.MadeExcOf s.heap h2 ex (.ref C) vs->E (.ref C) none H->X.xe (.ref ex) {s with heap:=h2})(EC:Exc X.K X.mg x C mV newId)(FB:ExcBaseFacts B newId IX mV)(hh:X.A.handled=none)(hg:Gl X x)(ha:PA X [e] t) (he:starEach [e] X.env=[(false,eval e X.env)]:=by rfl)(hd:(x==("__debug__":Str))=false:=by decide): PS X (.Raise (some (.Call (.Name x np) [e] [] cK)) none pos) (Zb E (.ref C) t):=by intro ay s O H D I h;obtain⟨tl,Nn,nm,q,bs,hdct,sn,sub,ab,col,dd,k0,k1,k2,k3,k5,mN,hC,hN,Cw,T⟩:=(EC.own I.ok.mod.pH).obj;refine wpAny_Raise_call_subT (C:=C) (nm:=nm) (q:=q) (N:=Nn) (bs:=bs) (bm:=tl) (hdct:=hdct) (sn:=sn) (sub:=sub) (ab:=ab) (col:=col) (dd:=dd) (k0:=k0) (k1:=k1) (k2:=k2) (k3:=k3) (k5:=k5) FB (mN:=mN) (T.hasType FB.hasBase) hh (by rw[he];rfl) Cw (wR I hg EC.at' ⟨Z,?_⟩ hd);have hA:=ha cK ay s O H _ I h;rw[he]at hA⊢;refine Calls.evalArgs_plain (bo hA λus s2 ⟨vs,H1,I1,r1,z,w1⟩=>⟨Z,by rw[<-r1.length];exact z,I1.bk _ _ hC,hN.keeps I1.bk,T.keeps I1.bk,λh' ex hm=>hx ay O H1 s2 h' ex us I1 hm w1⟩)
end
section
variable {M:Model}{A:aj}{Ex:Value->ae->Prop}
theorem aaA{h:Heap}{g:Array GenState}{d:Drawn}{tk:Nat}{os:OsState}{e:Addr}{oe:Obj}{Q:Bool->ae->Prop}{C D N N':Addr}{nm Qu q q':Str}{bs US bm Kz:List Value}{hdct Sl:Bool}{sn Np:List Str}{sub MF:List Value}{ab Ve:Bool}{col UA:Option Bool}{dd ou:Option Addr}{k0 k1 k2 k3 k5 j0 j1 j2 j3 j5:Option Value}{newId a4A:String} (hC:h.get? C=some (excClassObj nm q C N bs bm hdct sn sub ab col dd k0 k1 k2 k3 k5 newId))(hD:h.get? D=some (excClassObj Qu q' D N' US Kz Sl Np MF Ve UA ou j0 j1 j2 j3 j5 a4A)) (he:h.get? e=some oe)(zy:oe.cls= .ref C)(hb:Kz.contains (.type "BaseException")=true)(hs:(Value.ref C::bm).contains (.ref D)=true) (hq:Q true ⟨h,g,d,tk,os⟩):wpAny M A (excMatches (.ref e) (.ref D)) Q Ex ⟨h,g,d,tk,os⟩:=by
 have hcB:(Value.ref D::Kz).contains (.type "BaseException")=true:=by rw[List.contains_cons,hb,Bool.or_true]
 have f:=tc_notTuple;unfold excMatches
 repeat (first|(with_reducible refine wpAny_loadPart_at he ?_;rw[zy])|with_reducible refine wpAny_loadPart_at hD ?_|(with_reducible refine wpAny_isSubtype_exc hD ?_;rw[hcB])|(with_reducible refine wpAny_isSubtype_exc hC ?_;rw[hs])|with_reducible refine wpAny_loadPart_at hC ?_|wp_step)
 exact hq
end
section
variable {X:Cx}{k:Nat}{x:Str}{p pos:Pos}{e:Expr}{es:List Expr}{t:TA}{sp:Sp}
end
abbrev Cx.hand(X:Cx)(ex:Addr):Cx:={X with A:=X.A.mark (some (.ref ex)),calm:=false,xe:=λ_ _=>False}
section
variable {X:Cx}{ay:List (Addr×Obj)}{O:St}{H:Hp}{s:ae}
theorem Inv.hand(I:Inv X ay O H s)(ex:Addr):Inv (X.hand ex) ay O H s:=⟨⟨I.ok.mod,I.ok.kind,I.ok.glob,I.ok.blt,I.ok.above,I.ok.inj,I.ok.has,I.ok.sy,λh=>(kK h).elim,I.ok.frames,I.ok.vN,I.ok.D7,I.ok.bs,I.ok.mz,I.ok.uo,I.ok.rY,I.ok.jT,I.ok.og⟩,I.os,I.bare,I.base,I.loc,I.cell,I.free,I.kB,I.pin,I.bj,I.len⟩
theorem Inv.back{ex:Addr}(ok:X.Ok)(I:Inv (X.hand ex) ay O H s):Inv X ay O H s:=⟨ok,I.os,I.bare,I.base,I.loc,I.cell,I.free,I.kB,I.pin,I.bj,I.len⟩
theorem YB{M:Model}{A:aj}{E:Value->ae->Prop}{i:Nat}{x:Str}{v:V}{pos:Pos}{Q:Unit->ae->Prop}(I:Inv X ay O H s)(hN:X.N.Nodup)(hi:X.N[i]? =some x)(hk:X.env.kindOf x=some .local)(hs:X.env.scope.names.lookup x=some .local) (hv:O[i]? =some (some v))(h:∀s',Inv X ay (O.set i none) H s'->Q () s'):wpAny M A (unbindBehindTheSuite X.env x pos) Q E s:=by
 obtain⟨m,hn,hl⟩:=id I.loc;have zy:(X.env.scope.kind== .class||(X.env.scope.kind== .module&&X.env.locals !=X.env.globals))=false:=by rw[I.ok.kind];rfl
 have CC:i<O.length:=by rw[I.len];exact(dQ.mp hi).1
 have kE:=I.kE;obtain⟨u,r,look⟩:=hl i x v hi hv (.inl hs);have hm:m x=some u:=by
  rcases look with⟨_,e⟩|⟨k,_⟩
  ·exact e
  ·rcases k with k|k<;>(rw[hk]at k;cases k)
 unfold unbindBehindTheSuite;refine DP (wpAny_unbindName_local hk hn hm zy λh' u' uK uD=>?_);obtain⟨oL,_,_,Sb,_⟩:=id hn;have tr:dZ X.prog X.w H h':=λb ob e=>by
  refine(I.bj b ob e).mD (λc w' hc q=>(uD.2 c ?_).trans q) (λ_ q=>q) λ_ _ q=>q;rintro rfl;rcases hc with rfl|hc
  ·rw[I.free]at e;cases e
  ·rw[I.free]at hc;cases hc
 have lt:∀b o,X.s₀.heap.get? b=some o->b≠X.env.locals:=λb o e=>fR (gB (cJ e) I.ok.above);refine h _ ⟨I.ok,I.os,I.bare,⟨λb o e n hb hx=>(uD.2 b (lt b o e)).trans (I.base.keep b o e n hb hx),λb o e n hb hx=>?_,I.base.free,λb o e hx=>?_,I.base.kL,I.base.kz,I.base.ki⟩,⟨_,uK,λj y v' e1 e2 e3=>?_⟩,λy c e=>?_,I.free,I.kB,λp hp=>?_,tr,by simpa using I.len⟩
 ·obtain⟨sl,e1⟩:=I.base.slot b o e n hb hx
  exact⟨sl,(uD.2 b (lt b o e)).trans e1⟩
 ·obtain⟨o',e1⟩:=I.base.there b o e hx
  exact⟨o',(uD.2 b (lt b o e)).trans e1⟩
 ·by_cases hj:j=i
  ·subst hj
   rw[Ax CC]at e2;cases e2
  ·rw[LP (eu hj)]at e2
   obtain⟨u2,r2,q⟩:=hl j y v' e1 e2 e3;refine⟨u2,r2,?_⟩;rcases q with⟨k,e⟩|⟨k,c,e,z⟩
   ·have:y≠x:=λe=>hj (Ig hN e1 (e▸hi))
    exact .inl ⟨k,by simp[this,e]⟩
   ·exact .inr ⟨k,c,e,z.sameBut uD (kE y c e)⟩
 ·obtain⟨w',z⟩:=I.cell y c e
  exact⟨w',z.sameBut uD (kE y c e)⟩
 ·obtain⟨e,n,ne,nf,d⟩:=I.pin p hp
  exact⟨(uD.2 p.1 ne).trans e,n,ne,nf,d⟩
end
def Aa(X:Cx)(st:List Stmt)(t:TS):Prop:=∀(s:ae)(O:St)(H:Hp)(D:Ends),Inv X [] O H s->t D O H->wpAny (model X.prog X.w) X.A (execs st X.env) (SP X [] D) X.xe s
def Vq(X:Cx)(st:Stmt)(t:TS):Prop:=∀(s:ae)(O:St)(H:Hp)(D:Ends),Inv X [] O H s->t D O H->wpAny (model X.prog X.w) X.A (exec st X.env) (SP X [] D) X.xe s
theorem Aa.one{X:Cx}{st:Stmt}{t:TS}(h:Vq X st t):Aa X [st] t:=by intro s O H D I q;refine wpAny_execs_cons (bo (h s O H D I q) λf s1 q=>?_);cases f with |next=>exact An q |ret v=>exact q |brk=>exact q |cont=>exact q
theorem Inv.ace{X:Cx}{ay:List (Addr×Obj)}{O:St}{H:Hp}{s:ae}(I:Inv X ay O H s):Inv X [] O H s:=⟨I.ok,I.os,I.bare,I.base,I.loc,I.cell,I.free,I.kB,λp hp=>I.pin p (XZ _ (by simpa using hp)),I.bj,I.len⟩
def ExcAt(ex:Addr)(cls:Value)(h:Heap):Prop:=∃o,h.get? ex=some o/\o.cls=cls
def takes(K:aa)(C D:Addr):Prop:=PySem.W.mroIn K C (.ref D)=some true
section
variable {X:Cx}{i:Nat}{n y:Str}{Dc:Addr}{Ky:List Value}{newD:String}{body B5:List Stmt}{b0:Stmt}{np uF pos:Pos}{tb:XK->TS}{th:TS}{Cs:Addr->Prop}
end
end L2
namespace L2
open PySem PySem.Spec PyProof.Rows PySem.W Builtin.Getset_descriptor
section
variable {prog:ah}{w:World}{A:aj}{E:Value->ae->Prop}{h:Heap}{g:Array GenState}{d:Drawn}{t:Nat}{os:OsState}{K:Frag}{x C:Addr}{o:Obj}
theorem Tv{M:Model}(h1:h.get? x=some o)(h2:o.cls= .ref C):Looks M h (typeOf (.ref x)) (.ref C):=h2▸(Looks.ld h1).andThen .now
structure oJ(K:Frag)(C:Addr):Prop where
 ga:findIn K (.ref C) "__getattribute__"=some (some (.builtin "BaseException.__getattribute__"))
 gx:findIn K (.ref C) "__getattr__"=some none
 cl:findIn K (.ref C) "__class__"=some (some (.builtin "object.__class__"))
 gt:specialIn K (.builtin "object.__class__") "__get__"=some (some (.builtin "getset_descriptor.__get__"))
 tk:takesIn K (.builtin "object.__class__")=some true
 ob:mroIn K C (.type "object")=some true
 be:mroIn K C (.type "BaseException")=some true
 is:hasDictIn K C=true
theorem a5C{M:Model}(X:K.In h)(k:oJ K C):Looks M h (Builtin.ObjectAttr.find (.ref x) (.ref C) "__class__") (.bind (.builtin "getset_descriptor.__get__") (.builtin "object.__class__")):=by have L1:=looks_findIn (M:=M) X k.cl;have L2:Looks M h (Builtin.ObjectAttr.getOf (some (.builtin "object.__class__"))) (some (.builtin "getset_descriptor.__get__")):=looks_specialIn X k.gt;have L3:=looks_takesIn (M:=M) X k.tk;unfold Builtin.ObjectAttr.find;refine L1.andThen (L2.andThen ?_);have L4:Looks M h (Builtin.ObjectAttr.dataDescriptor? (some (.builtin "object.__class__")) (some (.builtin "getset_descriptor.__get__"))) (some (.builtin "getset_descriptor.__get__",.builtin "object.__class__")):=L3.andThen .now;exact L4.andThen (Looks.tag .now)
theorem a91{M:Model}{QC:Value}{Q:Unit->ae->Prop}(X:K.In h)(k:oJ K C)(L0:Looks M h (typeOf (.ref x)) (.ref C))(hq:Q () ⟨h,g,d,t,os⟩): wpAny M A (checkBuiltinCall "BaseException.__getattribute__" ⟨[.ref x,QC],[]⟩) Q E ⟨h,g,d,t,os⟩:=by
 have hk:builtinKind "BaseException.__getattribute__"=some .slot:=by decide+kernel
 have jx:splitId "BaseException.__getattribute__"=some ("BaseException","__getattribute__"):=by decide+kernel
 have ha:=PySem.F.args_bexc_ga (.ref x) QC;have L1:=looks_mroIn (M:=M) X k.be;simp only[checkBuiltinCall,hk,jx];refine aV ?_;unfold isInstance;refine aV (L0.at (L1.at ?_))
 repeat (first|assumption|wp_step)
theorem get_cls{R:Result->ae->Prop}{tp:Value}(X:K.In h)(k:oJ K C)(L0:Looks (model prog w) h (typeOf (.ref x)) (.ref C))(hq:R (.ok (.ret (.ref C))) ⟨h,g,d,t,os⟩): codeAny (model prog w) A (.call (.builtin "getset_descriptor.__get__") ⟨[.builtin "object.__class__",.ref x,tp],[]⟩) R ⟨h,g,d,t,os⟩:=by
 have L1:=looks_mroIn (M:=model prog w) X k.ob;refine codeAny_call_builtin KF.slot_gs.plain KF.entry_gs (KF.slot_gs.check _ _ _ _ _ _ _ _ KF.type_class (KF.args_gs _ _ _) ?_);unfold Builtin.«getset_descriptor.__get__»descrGet;rw[dga_obj];refine aV (cA ?_);unfold descrGetter descrCheckInstance descrNameAndClass isInstance;simp only[KF.owner_class];repeat lk
 refine⟨Code.quiet_builtin _ aY,codeAny_builtin KF.entry_class ?_⟩;unfold Builtin.«object.__class__»shownTypeOf;repeat lk
 exact hq
theorem a92{tk:Tok}{Q:Fin->ae->Prop}(X:K.In h)(k:oJ K C)(L0:Looks (model prog w) h (typeOf (.ref x)) (.ref C)) (hq:Q (.done (.ret (.ref C))) ⟨h,g,d,t,os⟩):wpAny (model prog w) A (Builtin.«object.__getattribute__» ⟨[.ref x,.str "__class__" tk],[]⟩) Q E ⟨h,g,d,t,os⟩:=by have L1:=a5C (M:=model prog w) (x:=x) X k;refine aV (cA (aV (cA (aV (L0.at (aV (L1.at ?_)))))));show wpAny _ _ (Builtin.ObjectAttr.bindTo _ _ (.ref x) (.ref C)) _ _ _;unfold Builtin.ObjectAttr.bindTo;show wpAny _ _ (holding [_] (call (.builtin "getset_descriptor.__get__") [.builtin "object.__class__",.ref x,.ref C])>>=_) _ _ _;exact aV (vq (Ao (get_cls X k L0 (cA hq))))
theorem abH{Q:Option Value->ae->Prop}(X:K.In h)(k:oJ K C)(L0:Looks (model prog w) h (typeOf (.ref x)) (.ref C)) (hq:Q (some (.ref C)) ⟨h,g,d,t+1,os⟩):wpAny (model prog w) A (getAttr? (.ref x) "__class__") Q E ⟨h,g,d,t,os⟩:=by
 have L1:=looks_findIn (M:=model prog w) X k.ga;have L2:=looks_findIn (M:=model prog w) X k.gx;have f3:=PySem.F.excAttr_ValueError.ga.bind (.ref x);have hx2:(Value.builtin "BaseException.__getattribute__"==Value.builtin "object.__getattribute__")=false:=by decide+kernel
 unfold getAttr? getAttrBy? getAttrBy;refine aV (wpAny_mkText (aV (wpAny_attempt (vq (aV (L0.at (aV (L1.at ?_))))))));show wpAny _ _ (if(onTheHeap (Value.ref C)&&Value.builtin "BaseException.__getattribute__"==Value.builtin "object.__getattribute__")=true then _ else _) _ _ _;rw[hx2,Bool.and_false,bu aB];unfold getAttrByItsOwn hookBefore;refine aV ?_;show wpAny _ _ (typeLookup (.ref C) "__getattr__") _ _ _;refine L2.at (aV (wpAny_attempt (vq ?_)));unfold callGetattribute;show wpAny _ _ (boundAndCalled _ _ _) _ _ _;unfold boundAndCalled;rw[f3];refine aV (cA (Ao ?_));refine codeAny_call_builtin PySem.F.excAttr_ValueError.ga.plain PySem.F.entry_bexc_ga (a91 X k L0 (a92 X k L0 ?_));exact handed_on Z (cA hq)
theorem Ry(k:oJ K C):KitX K (.ref x) (.ref C) (ExcAt x (.ref C)) where
 ty:=λM h _ p=>by obtain⟨o,h1,h2⟩:=p;exact Tv h1 h2
 it:=λ_ _ X _=>by
  obtain⟨cd,hc,_⟩:=any_some k.is;unfold clsIn at hc;split at hc
  ·rename_i c1 d1 cd1 sl1 ho
   intro A' Q' E' s' kk q;unfold isType loadHead;exact aV (wpAny_loadPart (kk _ _ (X _ _ ho)) (cA q))
  ·cases hc
 ne:=λh tp dd its n sl X J2=>by
  obtain⟨cd,hc,_⟩:=any_some k.is;refine y6.mpr λq=>?_;have e:C=tp:=Value.ref.inj (gh.mp q);subst e;unfold clsIn at hc;split at hc
  ·rename_i c1 d1 cd1 sl1 ho
   cases(X _ _ ho).symm.trans J2
  ·cases hc
 ca:=λ{prog w A E Q s} X p q=>by obtain⟨o,h1,h2⟩:=p;obtain⟨h0,g0,d0,t0,os0⟩:=s;exact abH X k (Tv h1 h2) q
end
end L2
namespace L2
open PySem PySem.Spec PyProof.Rows
def abI:V->Option Value | .ref D=>some (.ref D) | .ty n=>some (.type n) |_=>none
theorem M8:∀{Ds:List Addr}{us:List Value},Vals (Ds.map V.ref) us->us=Ds.map Value.ref |[],_,.nil=>rfl |n::r,_,.cons q t=>by cases(show _=Value.ref n from q);rw[M8 t];rfl
section
variable {X:Cx}
end
theorem ac4:bootBuiltins "ValueError"=some (.type "ValueError"):=by kernel_rfl
abbrev qi:List Value:=[.type "ValueError",.type "Exception",.type "BaseException",.type "object"]
abbrev qV:String:="ValueError.__new__"
end L2
namespace Ar
theorem a90(a b:Int):Int.gcd b (a.fmod b)=Int.gcd a b:=by rw[Int.fmod_def,Int.gcd_sub_mul_left_right,Int.gcd_comm]
theorem T5{a b:Int}(h:0<b):Int.gcd b (a%b)=Int.gcd a b:=by rw[<-Int.fmod_eq_emod_of_nonneg a (E9 h)];exact a90 a b
def sg(p q:Int):Int:=if q<0 then-(Int.gcd p q:Int)else(Int.gcd p q:Int)
def lowP (p q:Int):Int:=p.fdiv (sg p q)
def hW (p q:Int):Int:=q.fdiv (sg p q)
theorem CT{p q:Int}(h:q≠0):0<(Int.gcd p q:Int):=by
 have:Int.gcd p q≠0:=λz=>h (Int.gcd_eq_zero_iff.mp z).2
 lia
theorem yA{p q:Int}(h:q≠0):sg p q≠0:=by have:=CT (p:=p) h;unfold sg;split<;>omega
theorem Nz(p q:Int):sg p q∣p:=by
 unfold sg;split
 ·exact Int.neg_dvd.mpr (Int.gcd_dvd_left p q)
 ·exact Int.gcd_dvd_left p q
theorem Ny(p q:Int):sg p q∣q:=by
 unfold sg;split
 ·exact Int.neg_dvd.mpr (Int.gcd_dvd_right p q)
 ·exact Int.gcd_dvd_right p q
theorem IC(p q:Int):sg p q*lowP p q=p:=by unfold lowP;rw[Int.fdiv_eq_ediv_of_dvd (Nz p q)];exact Int.mul_ediv_cancel' (Nz p q)
theorem C1(p q:Int):sg p q*hW p q=q:=by unfold hW;rw[Int.fdiv_eq_ediv_of_dvd (Ny p q)];exact Int.mul_ediv_cancel' (Ny p q)
theorem NA(p q:Int):(sg p q).natAbs=Int.gcd p q:=by unfold sg;split<;>lia
theorem a5z{p q:Int}(h:q≠0):Int.gcd (lowP p q) (hW p q)=1:=by
 have e:Int.gcd (sg p q*lowP p q) (sg p q*hW p q)=(sg p q).natAbs*Int.gcd (lowP p q) (hW p q):=Int.gcd_mul_left _ _ _;rw[IC,C1,NA]at e;have g:=CT (p:=p) h;have g':0<Int.gcd p q:=by lia
 have e':Int.gcd p q*1=Int.gcd p q*Int.gcd (lowP p q) (hW p q):=by lia
 exact(Nat.eq_of_mul_eq_mul_left g' e').symm
theorem a5A{p q:Int}(h:q≠0):0<hW p q:=by
 have e:=C1 p q;have g:=CT (p:=p) h;by_cases hq:q<0
 ·have es:sg p q=-(Int.gcd p q:Int):=by unfold sg;rw[bp hq]
  rw[es]at e;refine Int.not_le.mp λhl=>?_;have:0<=-(Int.gcd p q:Int)*hW p q:=Y5 aw hl
  lia
 ·have es:sg p q=(Int.gcd p q:Int):=by unfold sg;rw[bu hq]
  rw[es]at e;refine Int.not_le.mp λhl=>?_;have:(Int.gcd p q:Int)*hW p q<=0:=Int.mul_nonpos_of_nonneg_of_nonpos aw hl
  lia
theorem Vd{s x y:Int}(hs:s≠0)(e:s*x=y):x.natAbs<=y.natAbs:=by rw[<-e,g9];exact Nat.le_mul_of_pos_left _ aw
theorem a5B{p q:Int}(h:q≠0):(lowP p q).natAbs<=p.natAbs:=Vd (yA h) (IC p q)
theorem QU{p q:Int}(h:q≠0):(hW p q).natAbs<=q.natAbs:=Vd (yA h) (C1 p q)
theorem Nv{p q:Int}(h:q≠0):(sg p q).natAbs<=q.natAbs:=by rw[NA];exact Nat.le_of_dvd aw (Int.gcd_dvd_natAbs_right p q)
end Ar
namespace Rt
open Rat
theorem C0{a b:Int}(hb:b≠0):Ar.lowP a b=(Rat.divInt a b).num/\Ar.hW a b=((Rat.divInt a b).den:Int):=by
 have hp:=Ar.a5A (p:=a) hb;have hc:=Ar.a5z (p:=a) hb;have Js:(Ar.hW a b).natAbs≠0:=by lia
 have a7P:(Ar.lowP a b).natAbs.Coprime (Ar.hW a b).natAbs:=hc;have e1:Rat.divInt a b=Rat.divInt (Ar.lowP a b) (Ar.hW a b):=by have h:=Rat.divInt_mul_left (a:=Ar.sg a b) (n:=Ar.lowP a b) (d:=Ar.hW a b) (Ar.yA hb);rw[Ar.IC,Ar.C1]at h;exact h
 have e2:(⟨Ar.lowP a b,(Ar.hW a b).natAbs,Js,a7P⟩:Rat)=Rat.divInt (Ar.lowP a b) (((Ar.hW a b).natAbs:Nat):Int):=Rat.mk_eq_divInt;have e3:(((Ar.hW a b).natAbs:Nat):Int)=Ar.hW a b:=by lia
 rw[e3]at e2;rw[e1,<-e2];exact⟨Z,e3.symm⟩
theorem den_pos(r:Rat):(0:Int)<(r.den:Int):=by have:=r.den_pos;omega
structure Bd(n:Nat)(r:Rat):Prop where
 num:r.num.natAbs<2^n
 den:r.den<2^n
theorem Bd.mono{n m:Nat}{r:Rat}(h:Bd n r)(l:n<=m):Bd m r:=⟨gB h.num (tE aB l),gB h.den (tE aB l)⟩
theorem lH{a b n m:Nat}(h:a<2^n)(g:b<2^m):a*b<2^(n+m):=by rw[Nat.pow_add];exact Nat.mul_lt_mul'' h g
theorem kS{n:Nat}{a b:Int}(hb:b≠0)(h1:a.natAbs<2^n)(h2:b.natAbs<2^n):Bd n (Rat.divInt a b):=by
 obtain⟨e1,e2⟩:=C0 (a:=a) hb;have l1:=Ar.a5B (p:=a) hb;have l2:=Ar.QU (p:=a) hb;refine⟨?_,?_⟩
 ·rw[<-e1];lia
 ·lia
theorem qc(r s:Rat):(r.den:Int)*(s.den:Int)≠0:=Int.ne_of_gt (iT (den_pos r) (den_pos s))
theorem add_div(r s:Rat):r+s=Rat.divInt (r.num*s.den+s.num*r.den) (r.den*s.den):=by have h:=Rat.divInt_add_divInt r.num s.num (d₁:=r.den) (d₂:=s.den) (by have:=den_pos r;lia) (by have:=den_pos s;lia);rw[tm,tm]at h;exact h
theorem ZH(r s:Rat):r-s=Rat.divInt (r.num*s.den-s.num*r.den) (r.den*s.den):=by have h:=XI r.num s.num (d₁:=r.den) (d₂:=s.den) (by have:=den_pos r;lia) (by have:=den_pos s;lia);rw[tm,tm]at h;exact h
theorem mul_div(r s:Rat):r*s=Rat.divInt (r.num*s.num) (r.den*s.den):=by have h:=XJ r.num s.num (d₁:=r.den) (d₂:=s.den);rw[tm,tm]at h;exact h
section
variable {n m:Nat} {r s:Rat}
theorem abr(h:Bd n r)(g:Bd m s):(r.num*s.den).natAbs<2^(n+m):=by rw[g9];exact lH h.num (by have:=g.den;omega)
theorem abq(h:Bd n r)(g:Bd m s):(s.num*r.den).natAbs<2^(n+m):=by rw[g9,Nat.mul_comm];exact lH (by have:=h.den;lia) g.num
theorem Kp(h:Bd n r)(g:Bd m s):((r.den:Int)*(s.den:Int)).natAbs<2^(n+m):=by rw[g9];exact lH (by have:=h.den;lia) (by have:=g.den;lia)
theorem Bd.add(h:Bd n r)(g:Bd m s):Bd (n+m+1) (r+s):=by
 rw[add_div];have h1:=abr h g;have h2:=abq h g;have h3:=Kp h g;have e:2^(n+m+1)=2^(n+m)+2^(n+m):=by rw[Nat.pow_succ];omega
 exact kS (qc r s) dM dM
theorem Bd.mul(h:Bd n r)(g:Bd m s):Bd (n+m) (r*s):=by rw[mul_div];exact kS (qc r s) (by rw[g9];exact lH h.num g.num) (Kp h g)
end
end Rt
namespace L2
open PySem PySem.Spec PyProof.Rows
def iZ(H H':Hp):Prop:=∀b o,(∀xs,o≠ .lst xs)->H b=some o->H' b=some o
section
variable {K:aa} {H H' H2:Hp}
theorem iZ.trans(a:iZ H H')(b:iZ H' H2):iZ H H2:=λc o n e=>b c o n (a c o n e)
theorem iZ.qI{D:Addr}{xs ys:List V}(h:H D=some (.lst xs)):iZ H (upd H D (.lst ys)):=λb o n e=>by rw[aK (z9 e h (n xs))];exact e
theorem aU.t{a:Addr}{xs:List V}(s:iZ H H')(h:aU K H a xs):aU K H' a xs:=h.imp (λr=>r.imp (s _ _ λ_ z=>nomatch z) λ⟨o,e⟩=>⟨o,s _ _ (λ_ z=>nomatch z) e⟩) id
mutual
def fJ:ai->Bool | .list _=>false | .dict _=>false | .tuple ds=>cZ ds | .none=>true | .bool _=>true | .int _=>true | .str _=>true
def cZ:List ai->Bool |[]=>true |d::ds=>fJ d&&cZ ds
end
theorem iH:∀{ds:List ai},cZ ds=true↔∀d∈ds,fJ d=true
 |[]=>⟨λ_ _ h=>(nomatch h),λ_=>by simp[cZ]⟩ |d::ds=>by
  rw[cZ,fE,iH (ds:=ds)];constructor
  ·rintro⟨a,b⟩ x hx
   rcases bM.mp hx with rfl|hx
   ·exact a
   ·exact b x hx
  ·intro h
   exact⟨h d (.head _),λx hx=>h x (.tail _ hx)⟩
theorem lG(ns:List Int):cZ (ns.map PyData.int)=true:=iH.mpr λd hd=>by obtain⟨i,_,rfl⟩:=ka.mp hd;simp[fJ]
mutual
theorem RD.t(s:iZ H H'):∀{x:V}(d:ai),fJ d=true->RD K H x d->RD K H' x d |x,.none,_,h=>by simpa[RD]using h |x,.bool b,_,h=>by simpa[RD]using h |x,.int i,_,h=>by simpa[RD]using h |x,.str y,_,h=>by simpa[RD]using h |x,.list ds,n,h=>by simp[fJ]at n |x,.tuple ds,n,h=>by rw[RD]at h⊢;obtain⟨a,xs,e,h1,h2⟩:=h;exact⟨a,xs,e,h1.t s,aP.t s ds (by simpa[fJ]using n) h2⟩ |x,.dict _,_,h=>by simp[RD]at h
theorem aP.t (s:iZ H H'):∀{xs:List V}(ds:List ai),cZ ds=true->aP K H xs ds->aP K H' xs ds |xs,[],_,h=>by simpa[aP]using h |xs,d::ds,n,h=>by rw[aP]at h⊢;rw[cZ,fE]at n;obtain⟨y,ys,e,h1,h2⟩:=h;exact⟨y,ys,e,RD.t s d n.1 h1,aP.t s ds n.2 h2⟩
end
theorem aP.jg:∀{xs:List V}{ns:List Int},aP K H xs (ns.map PyData.int)->xs=ns.map V.int |xs,[],h=>h.nil_inv |xs,n::ns,h=>by obtain⟨y,ys,rfl,h1,h2⟩:=h.cons_inv;rw[h1.int_inv,aP.jg h2];rfl
theorem we:∀(ns:List Int),aP K H (ns.map V.int) (ns.map PyData.int) |[]=>cX |n::ns=>cm (dw n) (we ns)
theorem Uu{J:It}{xs:List V}{ds:List ai}{te:TE}{Q:VK}{D:Addr}{H0:Hp}(rest:St)(nw:Nw H H0 D (.lst []))(hl:xs.length=ds.length)(hz:xs.length<=1000)(hn:cZ ds=true) (go:∀i x H2,xs[i]? =some x->aG H H2->J.go i H2/\∀y H3,J.kg i H2 y H3->H3=H2/\y=x)(stop:∀H2,aG H H2->J.stop xs.length H2) (hs:∀(i:Nat)(x:V)(d:ai)(H2:Hp)(Q':VK),xs[i]? =some x->ds[i]? =some d->aG H H2->(∀y H3,aG H2 H3->RD K H3 y d->Q' y H3)->te (some x::rest) H2 Q') (hq:∀H' ys,aG H H'->H' D=some (.lst ys)->aP K H' ys ds->Q (.ref D) H'):j6 J (fA 0) iC te Q D (none::rest) H0:=by
 have hD:=nw.no;refine sj xs.length (λi O H2=>aG H H2/\(∃ys,H2 D=some (.lst ys)/\aP K H2 ys (ds.take i))/\∃v,O=v::rest) ?_ ?_ ?_
 ·exact⟨nw.same,⟨[],nw.at',cX⟩,none,Z⟩
 ·rintro i O H2 hi ⟨s2,⟨ys,d2,r2⟩,v,rfl⟩
  have xi:i<ds.length:=by rw[<-hl];exact hi
  have ex:=cu hi;have eb:=cu xi;obtain⟨g1,g2⟩:=go i _ H2 ex s2;refine⟨g1,λy H3 hy=>?_⟩;obtain⟨rfl,rfl⟩:=g2 y H3 hy;refine AI ?_;refine hs i _ _ _ _ ex eb s2 λz H4 s4 r4=>?_;have d4:=s4 _ _ d2;have len:=r2.length;rw[oS]at len;refine⟨ys,d4,?_,xs.length-(i+1),aw,Z,aw,λb o e=>?_,⟨ys++[z],bf,?_⟩,_,Z⟩
  ·have:(1000:Nat)<sizeLine:=by decide
   lia
  ·rw[aK (gy e hD)];exact s4 b o (s2 b o e)
  ·have t:iZ H4 (upd H4 D (.lst (ys++[z]))):=.qI d4
   rw[qF,eb];have n1:cZ (ds.take i)=true:=iH.mpr λd hd=>iH.mp hn d (E1 hd);exact(aP.t t _ n1 (aP.mono s4 _ r2)).append (cm (RD.t t _ (iH.mp hn _ (E4 xi)) r4) cX)
 ·rintro O H2 ⟨s2,⟨ys,d2,r2⟩,v,rfl⟩
  refine⟨stop H2 s2,hq H2 ys s2 d2 ?_⟩;rw[hl,vx]at r2;exact r2
theorem Dp{a:Addr}{xs:List V}{ds:List ai}{te:TE}{Q:VK}{D:Addr}{H0:Hp}(rest:St)(hx:aU K H a xs)(nw:Nw H H0 D (.lst []))(hl:xs.length=ds.length)(hz:xs.length<=1000)(hn:cZ ds=true) (hs:∀(i:Nat)(x:V)(d:ai)(H2:Hp)(Q':VK),xs[i]? =some x->ds[i]? =some d->aG H H2->(∀y H3,aG H2 H3->RD K H3 y d->Q' y H3)->te (some x::rest) H2 Q') (hq:∀H' ys,aG H H'->H' D=some (.lst ys)->aP K H' ys ds->Q (.ref D) H'):j6 (sS K a) (fA 0) iC te Q D (none::rest) H0:=Uu rest nw hl hz hn (λi x H2 e s=>⟨⟨xs,x,hx.go s,e⟩,λy H3 ⟨e3,y3⟩=>⟨e3,by have:=y3 _ (hx.go s);rw[e]at this;exact(eg this).symm⟩⟩) (λH2 s=>⟨xs,hx.go s,bR _⟩) hs hq
theorem aby{lo:Int}{n:Nat}{ds:List ai}{te:TE}{Q:VK}{D:Addr}{H0:Hp}(rest:St)(nw:Nw H H0 D (.lst []))(hl:n=ds.length)(hz:n<=1000)(hn:cZ ds=true) (hs:∀(i:Nat)(d:ai)(H2:Hp)(Q':VK),ds[i]? =some d->aG H H2->(∀y H3,aG H2 H3->RD K H3 y d->Q' y H3)->te (some (.int (lo+i))::rest) H2 Q') (hq:∀H' ys,aG H H'->H' D=some (.lst ys)->aP K H' ys ds->Q (.ref D) H'):j6 (oH lo n) (fA 0) iC te Q D (none::rest) H0:=by
 have hx:∀i x,((List.range n).map λi:Nat=>V.int (lo+i))[i]? =some x->i<n/\x= .int (lo+i):=λi x e=>by rw[cH]at e;cases h:(List.range n)[i]? with |none=>rw[h]at e;cases e |some j=>rw[h]at e;obtain⟨h1,h2⟩:=dQ.mp h;rw[vB]at h2;subst h2;exact⟨by simpa using h1,(eg e).symm⟩
 refine Uu (xs:=(List.range n).map λi:Nat=>V.int (lo+i)) rest nw (by simpa using hl) (by simpa using hz) hn (λi x H2 e s=>?_) (λH2 s=>?_) (λi x d H2 Q' e1 e2 s k=>?_) hq
 ·obtain⟨h1,rfl⟩:=hx i x e
  exact⟨h1,λy H3 ⟨e3,y3⟩=>⟨e3,y3⟩⟩
 ·show n<=_
  simp
 ·obtain⟨h1,rfl⟩:=hx i x e1
  exact hs i d H2 Q' e2 s k
theorem vd{b1 b2:Bool}{l1 l2:Addr}{xs ys:List V}{ds:List ai}{te:TE}{Q:VK}{D:Addr}{H0:Hp}{n:Nat}(rest:St)(Cy:n=2)(h1:fm b1 K H l1 xs)(h2:fm b2 K H l2 ys)(nw:Nw H H0 D (.lst [])) (hl:min xs.length ys.length=ds.length)(hz:ds.length<=1000)(hn:cZ ds=true) (hs:∀(i:Nat)(x y:V)(d:ai)(H2:Hp)(Q':VK),xs[i]? =some x->ys[i]? =some y->ds[i]? =some d->aG H H2->(∀z H3,aG H2 H3->RD K H3 z d->Q' z H3)->te (some x::some y::rest) H2 Q') (hq:∀H' zs,aG H H'->H' D=some (.lst zs)->aP K H' zs ds->Q (.ref D) H'):j6 (mX K b1 b2 l1 l2) (pU K n (ky (fA 0) (ky (fA 1) rW))) iC te Q D (none::none::rest) H0:=by
 subst Cy;have hD:=nw.no;refine sj ds.length (λi O H2=>aG H H2/\(∃zs,H2 D=some (.lst zs)/\aP K H2 zs (ds.take i))/\∃v v',O=v::v'::rest) ?_ ?_ ?_
 ·exact⟨nw.same,⟨[],nw.at',cX⟩,none,none,Z⟩
 ·rintro i O H2 hi ⟨s2,⟨zs,d2,r2⟩,v,v',rfl⟩
  have hx:i<xs.length:=by lia
  have hy:i<ys.length:=by lia
  have ex:=cu hx;have ey:=cu hy;have eb:=cu hi;refine⟨⟨xs,ys,_,_,h1.go s2,h2.go s2,ex,ey⟩,λy' H3 kr=>?_⟩;obtain⟨T,x0,y0,rfl,k1,k2,n3⟩:=kr;have e1:=k1 _ (h1.go s2);have e2:=k2 _ (h2.go s2);rw[ex]at e1;rw[ey]at e2;cases e1;cases e2;refine⟨T,_,Z,aU.of n3.at',Z,_,_,Z,_,_,Z,Z,?_⟩;refine yes (cf ?_);refine hs i _ _ _ _ _ ex ey eb (s2.trans n3.same) λz H4 s4 r4=>?_;have p7:=n3.same.trans s4;have d4:=p7 _ _ d2;have len:=r2.length;rw[oS]at len;refine⟨zs,d4,?_,ds.length-(i+1),aw,Z,aw,λb o e=>?_,⟨zs++[z],bf,?_⟩,_,_,Z⟩
  ·have:(1000:Nat)<sizeLine:=by decide
   lia
  ·rw[aK (gy e hD)];exact p7 b o (s2 b o e)
  ·have t:iZ H4 (upd H4 D (.lst (zs++[z]))):=.qI d4
   rw[qF,eb];have n1:cZ (ds.take i)=true:=iH.mpr λd hd=>iH.mp hn d (E1 hd);exact(aP.t t _ n1 (aP.mono p7 _ r2)).append (cm (RD.t t _ (iH.mp hn _ (E4 hi)) r4) cX)
 ·rintro O H2 ⟨s2,⟨zs,d2,r2⟩,v,v',rfl⟩
  refine⟨⟨xs,ys,h1.go s2,h2.go s2,aw⟩,hq H2 zs s2 d2 ?_⟩;rw[vx]at r2;exact r2
end
theorem RO:∀{ns:List Int}{us:List Value},Vals (ns.map V.int) us->(∀v∈us,∃a t,v=Value.int a t)/\numsOf us=ns
 |[],_,.nil=>⟨λ_ h=>(nomatch h),rfl⟩ |n::ns,_,.cons q r=>by
  obtain⟨t,rfl⟩:=(show∃t,_=Value.int n t from q);obtain⟨h1,h2⟩:=RO r;refine⟨λv hv=>?_,?_⟩
  ·rcases bM.mp hv with rfl|hv
   ·exact⟨n,t,Z⟩
   ·exact h1 v hv
  ·show n::numsOf _=_
   rw[h2]
section
variable {X:Cx}
theorem Iy(K:aa)(hK:X.K=K)(hc:X.calm=true):fL X (.builtin "max") (λxs H Q=>∃(l:Addr)(ns:List Int),xs=[.ref l]/\aJ K H l (ns.map V.int)/\ns≠[]/\∀M,M∈ns->(∀a∈ns,a<=M)->Q (.int M) H):=by
 subst hK;intro ay s O H xs us Q I r h;obtain⟨l,ns,rfl,hl,dX,q⟩:=h;obtain⟨u,rfl,ru⟩:=vals1 r;cases(show u=Value.ref l from ru);obtain⟨its,rv,pl,hz⟩:=I.list hl;obtain⟨a1,a2⟩:=RO rv;have all:AllInts its.toArray:=λv hv=>a1 v (by simpa using hv);obtain⟨ps,S8⟩:=all.items;have e0:numsOf (intItems ps).toList=ns:=by rw[<-S8];exact a2
 rw[nums_intItems]at e0;have hlen:ps.size=ns.length:=by rw[<-e0,cB,AD]
 have uF:0<ps.size:=by rw[hlen];exact LM.mpr dX
 refine max_intList (I.ok.hd hc) (by rw[<-S8];exact pl.isList) uF λv h' tk hv hk=>?_;obtain⟨t,rfl⟩:=intItems_at hv;obtain⟨h1,h2⟩:=argBest_gt (numAt ps) (ps.size-1);refine⟨.int _,H,I.kept hk,⟨_,Z⟩,q _ ?_ λa ha=>?_⟩
 ·rw[numAt_eq,e0];exact getD_mem dM
 ·obtain⟨j,hj,rfl⟩:=mem_getD ha
  rw[<-e0,<-numAt_eq];exact h2 j dM
theorem RP{ns:List Int}{us:List Value}(r:Vals (ns.map V.int) us){i:Nat}{v:Value}(h:us[i]? =some v):∃n t,ns[i]? =some n/\v=Value.int n t:=by
 have hl:=r.length;rw[cB]at hl;have hi:i<ns.length:=by rw[hl];exact(dQ.mp h).1
 obtain⟨u,e,ru⟩:=r.get (i:=i) (x:=.int ns[i]) (by rw[cH,cu hi];rfl);rw[h]at e;cases e;obtain⟨t,rfl⟩:=(show∃t,v=Value.int ns[i] t from ru);exact⟨_,t,cu hi,Z⟩
theorem a1v(ns:List Int):((List.range ns.length).any λi=>((ns.map (· !=0))[i]?).getD false)=ns.any (· !=0):=by have:=LSm.range_any (ns.map (· !=0));rw[cB]at this;rw[this,List.any_map];rfl
theorem acu(K:aa)(hK:X.K=K)(hc:X.calm=true):fL X (.builtin "any") (λxs H Q=>∃(l:Addr)(ns:List Int),xs=[.ref l]/\(aJ K H l (ns.map V.int)\/aU K H l (ns.map V.int))/\Q (.bl (ns.any (· !=0))) H):=by
 subst hK;intro ay s O H xs us Q I r h;obtain⟨l,ns,rfl,hl,q⟩:=h;obtain⟨u,rfl,ru⟩:=vals1 r;cases(show u=Value.ref l from ru);have hh:=I.ok.hd hc;have fin:∀(its:List Value),Vals (ns.map V.int) its->((List.range its.toArray.size).any λi=>((ns.map (· !=0))[i]?).getD false)=ns.any (· !=0):=λits rv=>by rw[fe,<-rv.length,cB];exact a1v ns
 rcases hl with hl|hl
 ·obtain⟨its,rv,pl,hz⟩:=I.list hl
  have eQ:=pl.isList;have cF:l<s.heap.objs.size:=by obtain⟨_,e,_⟩:=eQ;exact cJ e
  refine call_any_walk (DN eQ ?_);refine⟨s.heap.objs.size,[s.heap.objs.size,l],[s.heap.objs.size],its.toArray.size,_,_,λi=>((ns.map (· !=0))[i]?).getD false,Z,Walks.list (A:=X.A.in1) hh _ l (fR cF) its.toArray,⟨⟨_,fq _ Z,Z,Z⟩,eQ.push _⟩,λi v s' Q' E' hP hQ=>?_,λh' tk hk=>?_⟩
  ·obtain⟨n,t,e,rfl⟩:=RP rv (i:=i) (v:=v) (by simpa using hP)
   simp only[cH,e]at hQ;exact truthy_int hQ
  ·rw[fin its rv]
   exact⟨.bl _,H,I.kept (LSm.kept_iter hk),Z,q⟩
 ·obtain⟨its,rv,pl,hz⟩:=I.tuple hl
  have eQ:s.heap.IsTuple l its.toArray:=by obtain⟨⟨cls,dd,data,sl⟩,ho,gU,n,hd⟩:=pl;exact⟨_,ho,gU,by simpa using⟨n,hd⟩⟩
  have cF:l<s.heap.objs.size:=by obtain⟨_,e,_⟩:=eQ;exact cJ e
  refine call_any_walk (wpAny_pyIter_tuple eQ ?_);refine⟨s.heap.objs.size,[s.heap.objs.size,l],[s.heap.objs.size],its.toArray.size,_,_,λi=>((ns.map (· !=0))[i]?).getD false,Z,Walks.tuple (A:=X.A.in1) hh _ l (fR cF) its.toArray,⟨⟨_,fq _ Z,Z,Z⟩,eQ.push _⟩,λi v s' Q' E' hP hQ=>?_,λh' tk hk=>?_⟩
  ·obtain⟨n,t,e,rfl⟩:=RP rv (i:=i) (v:=v) (by simpa using hP)
   simp only[cH,e]at hQ;exact truthy_int hQ
  ·rw[fin its rv]
   exact⟨.bl _,H,I.kept (LSm.kept_iter hk),Z,q⟩
end
end L2
set_option maxHeartbeats 1000000
namespace Lw
open PySem PySem.Spec PyProof.Rows L2
def Vr(c m:Int):Prop:=0<=c/\0<=m/\m<2147483648
def gM(H:Hp)(p:Addr):Prop:=∃c m,H p=some (.lst [.int c,.int m])/\Vr c m
structure cn(p:Addr)(H H':Hp):Prop where
 bS:gM H' p
 same:∀b o,b≠p->H b=some o->H' b=some o
theorem cn.refl{p:Addr}{H:Hp}(h:gM H p):cn p H H:=⟨h,λ_ _ _ e=>e⟩
theorem cn.trans{p:Addr}{H H1 H2:Hp}(a:cn p H H1)(b:cn p H1 H2):cn p H H2:=⟨b.bS,λc o n e=>b.same c o n (a.same c o n e)⟩
theorem cn.upd{p:Addr}{H:Hp}{c m:Int}(h:Vr c m):cn p H (L2.upd H p (.lst [.int c,.int m])):=⟨⟨c,m,bf,h⟩,λb o n e=>by rw[aK n];exact e⟩
theorem cn.jM{p:Addr}{H H':Hp}(h:gM H p)(s:aG H H'):cn p H H':=by obtain⟨c,m,e,ok⟩:=h;exact⟨⟨c,m,s _ _ e,ok⟩,λb o _ e=>s b o e⟩
theorem M6{j:Int}(h0:0<=j)(h:j<=10^40):Wd j:=by
 have:j.natAbs<=10^40:=by lia
 exact qD this aY
theorem gM.ne{H:Hp}{p:Addr}(h:gM H p):H p≠none:=by obtain⟨c,m,e,_⟩:=h;rw[e];exact λz=>nomatch z
theorem gM.a4H{H:Hp}{p:Addr}{q:Addr}{o:HO}(h:gM H p)(e:H q=some o)(n:∀xs,o≠ .lst xs):q≠p:=by obtain⟨c,m,e',_⟩:=h;exact z9 e e' (n _)
theorem cn.t{p:Addr}{H H':Hp}(bg:gM H p)(b:cn p H H'):iZ H H':=λc o n e=>b.same c o (bg.a4H e n) e
theorem cn.OT{p:Addr}{H0 H H':Hp}(s:aG H0 H)(hp:H0 p=none)(b:cn p H H'):aG H0 H':=λc o e=>b.same c o (gy e hp) (s c o e)
section
variable {K:aa}
theorem abE{J:It}{te:TE}{Q:VK}{D p:Addr}{H H0:Hp}(n:Nat)(rest:L2.St)(nw:Nw H H0 D (.lst []))(bg:gM H p)(hn:n<=1000)(xv:Nat->V) (go:∀i H2,i<n->cn p H H2->J.go i H2/\∀y H3,J.kg i H2 y H3->H3=H2/\y=xv i)(stop:∀H2,cn p H H2->J.stop n H2)(Pz:Int->Prop) (hs:∀i H2 (Q':VK),i<n->cn p H H2->(∀z H3,Pz z->cn p H2 H3->Q' (.int z) H3)->te (some (xv i)::rest) H2 Q') (hq:∀H' (is:List Int),cn p H H'->H' D=some (.lst (is.map V.int))->is.length=n->(∀z∈is,Pz z)->Q (.ref D) H'):j6 J (fA 0) iC te Q D (none::rest) H0:=by
 have zH:D≠p:=λe=>bg.ne (e▸nw.no);refine sj n (λi O H3=>cn p H H3/\(∃is:List Int,H3 D=some (.lst (is.map V.int))/\is.length=i/\∀z∈is,Pz z)/\∃v,O=v::rest) ?_ ?_ ?_
 ·exact⟨.jM bg nw.same,⟨[],nw.at',Z,λ_ h=>(cL h).elim⟩,none,Z⟩
 ·rintro i O H3 hi ⟨b3,⟨is,d3,li,pi⟩,v,rfl⟩
  obtain⟨g1,g2⟩:=go i H3 hi b3;refine⟨g1,λy H4 hy=>?_⟩;obtain⟨rfl,rfl⟩:=g2 y H4 hy;refine AI ?_;refine hs i _ _ hi b3 λz H5 pz b5=>?_;refine⟨_,b5.same _ _ zH d3,?_,n-(i+1),aw,Z,aw,?_,⟨is++[z],?_,?_,?_⟩,_,Z⟩
  ·rw[cB,li]
   have:(1000:Nat)<sizeLine:=by decide
   lia
  ·have zX:=b3.trans b5
   refine⟨?_,λb o n e=>?_⟩
   ·obtain⟨c,m,e,ok⟩:=zX.bS
    exact⟨c,m,by rw[aK zH.symm];exact e,ok⟩
   ·rw[aK (gy e nw.no)];exact zX.same b o n e
  ·rw[bf,oQ];rfl
  ·rw[fy,li];rfl
  ·intro y hy
   rcases vy.mp hy with h|h
   ·exact pi y h
   ·rw[bU.mp h];exact pz
 ·rintro O H3 ⟨b3,⟨is,d3,li,pi⟩,v,rfl⟩
  exact⟨stop H3 b3,hq H3 is b3 d3 li pi⟩
theorem a6m(ns:List Int){i:Int}(h0:0<=i)(h:i<ns.length):∃z,z∈ns/\fQ (ns.map V.int) i=some (.int z):=by
 have hl:i.toNat<ns.length:=by omega
 exact⟨ns[i.toNat],E4 hl,dB h0 (by rw[cH,cu hl];rfl)⟩
theorem Ut{J:It}{te:TE}{Q:VK}{D p:Addr}{H H0:Hp}(n:Nat)(rest:L2.St)(nw:Nw H H0 D (.lst []))(bg:gM H p)(hn:n<=1000)(xv:Nat->V) (go:∀i H2,i<n->cn p H H2->J.go i H2/\∀y H3,J.kg i H2 y H3->H3=H2/\y=xv i)(stop:∀H2,cn p H H2->J.stop n H2)(Pd:Nat->ai->Prop) (hs:∀i H2 (Q':VK),i<n->cn p H H2->(∀y d H3,Pd i d->fJ d=true->RD K H3 y d->cn p H2 H3->Q' y H3)->te (some (xv i)::rest) H2 Q') (hq:∀H' ys ds,cn p H H'->H' D=some (.lst ys)->aP K H' ys ds->ds.length=n->cZ ds=true->(∀i d,ds[i]? =some d->Pd i d)->Q (.ref D) H'):j6 J (fA 0) iC te Q D (none::rest) H0:=by
  have zH:D≠p:=λe=>bg.ne (e▸nw.no);refine sj n (λi O H3=>cn p H H3/\(∃ys ds,H3 D=some (.lst ys)/\aP K H3 ys ds/\ds.length=i/\cZ ds=true/\∀j d,ds[j]? =some d->Pd j d)/\∃v,O=v::rest) ?_ ?_ ?_
  ·exact⟨.jM bg nw.same,⟨[],[],nw.at',cX,Z,Z,λj d e=>by simp at e⟩,none,Z⟩
  · rintro i O H3 hi ⟨b3,⟨ys,ds,d3,r3,li,ni,pi⟩,v,rfl⟩
    obtain⟨g1,g2⟩:=go i H3 hi b3;refine⟨g1,λy H4 hy=>?_⟩;obtain⟨rfl,rfl⟩:=g2 y H4 hy;refine AI ?_;refine hs i _ _ hi b3 λz d H5 pz nz rz b5=>?_;have d5:=b5.same _ _ zH d3;have t:iZ H5 (L2.upd H5 D (.lst (ys++[z]))):=.qI d5;refine⟨ys,d5,?_,n-(i+1),aw,Z,aw,?_,⟨ys++[z],ds++[d],bf,?_,?_,?_,?_⟩,_,Z⟩
    · rw[r3.length,li]
      have:(1000:Nat)<sizeLine:=by decide
      lia
    · have zX:=b3.trans b5
      refine⟨?_,λb o n e=>?_⟩
      · obtain⟨c,m,e,ok⟩:=zX.bS
        exact⟨c,m,by rw[aK zH.symm];exact e,ok⟩
      ·rw[aK (gy e nw.no)];exact zX.same b o n e
    ·exact(aP.t ((cn.t b3.bS b5).trans t) _ ni r3).append (cm (RD.t t _ nz rz) cX)
    ·rw[fy,li];rfl
    ·exact iH.mpr λx hx=>by
        rcases vy.mp hx with h|h
        ·exact iH.mp ni x h
        ·rw[bU.mp h];exact nz
    · intro j e he
      by_cases hj:j<ds.length
      · rw[xZ hj]at he
        exact pi j e he
      · have pO:j=ds.length:=by
          have:=(dQ.mp he).1;rw[fy]at this;have:j<ds.length+1:=this
          lia
        subst pO;rw[Ay (bR _),Lz]at he;cases he;rw[li];exact pz
  · rintro O H3 ⟨b3,⟨ys,ds,d3,r3,li,ni,pi⟩,v,rfl⟩
    exact⟨stop H3 b3,hq H3 ys ds b3 d3 r3 li ni pi⟩
end
end Lw
namespace Ln
open PySem L2
def iY(i:Int):Int:=if i<0 then-i else i
theorem A5(i:Int):iY i=(i.natAbs:Int):=by unfold iY;split<;>lia
def aL(ns:List Int):Nat:=ns.foldr (λz m=>max z.natAbs m) 0
theorem IL:∀{ns:List Int}{z:Int},z∈ns->z.natAbs<=aL ns
 |n::ns,z,h=>by
  show z.natAbs<=max n.natAbs (aL ns);rcases bM.mp h with rfl|h
  ·exact Nat.le_max_left _ _
  ·exact iQ (IL h) (Nat.le_max_right _ _)
theorem IK:∀{ns:List Int},ns≠[]->∃z∈ns,z.natAbs=aL ns
 |[],h=>absurd Z h |[n],_=>⟨n,.head _,by show n.natAbs=max n.natAbs 0;lia⟩ |n::m::ns,_=>by
  obtain⟨z,hz,e⟩:=IK (ns:=m::ns) (by simp);by_cases h:n.natAbs<=aL (m::ns)
  ·exact⟨z,.tail _ hz,by show _=max n.natAbs (aL (m::ns));lia⟩
  ·exact⟨n,.head _,by show _=max n.natAbs (aL (m::ns));lia⟩
theorem nX{ns:List Int}{m:Nat}(h:∀z∈ns,z.natAbs<=m):aL ns<=m:=by cases ns with |nil=>exact gj _ |cons a r=>obtain⟨z,hz,e⟩:=IK (ns:=a::r) (by simp);rw[<-e];exact h z hz
theorem a5O{ns:List Int}(h:∃z∈ns,z≠0):0<aL ns:=by
 obtain⟨z,hz,h0⟩:=h;have:=IL hz
 lia
theorem IJ{ns:List Int}(dX:ns≠[]){M:Int}(h1:M∈ns.map iY)(h2:∀a∈ns.map iY,a<=M):M=(aL ns:Int):=by
 obtain⟨z,hz,e⟩:=ka.mp h1;obtain⟨y,hy,ey⟩:=IK dX;have a1:=IL hz;have a2:=h2 (iY y) (ka.mpr ⟨y,hy,Z⟩);rw[A5]at e a2
 lia
def ja(p q:Int):Int:=(2*(p.natAbs:Int)+q)/(2*q)
def fz(p q:Int):Int:=if p>=0 then ja p q else-ja p q
structure xP(x p q:Int):Prop where
 lo:-q<=2*(x*q-p)
 hi:2*(x*q-p)<=q
 gI:2*(x*q-p)=q\/2*(x*q-p)=-q->p.natAbs<=(x*q).natAbs
theorem Nt{p q:Int}(hq:0<q):2*q*ja p q<=2*(p.natAbs:Int)+q/\2*(p.natAbs:Int)+q<2*q*ja p q+2*q:=by have h:=Int.mul_ediv_add_emod (2*(p.natAbs:Int)+q) (2*q);have h0:=oT (2*(p.natAbs:Int)+q) (show 2*q≠0 by omega);have h1:=tH (2*(p.natAbs:Int)+q) (show 0<2*q by omega);unfold ja;constructor<;>omega
theorem Nu{p q:Int}(hq:0<q):0<=ja p q:=Int.ediv_nonneg aw aw
theorem near_is{p q:Int}(hq:0<q):xP (fz p q) p q:=by
 obtain⟨h1,h2⟩:=Nt (p:=p) hq;have h0:=Nu (p:=p) hq;rw[tG,LV q]at h1 h2;have hs0:0<=ja p q*q:=jI h0 (E9 hq);unfold fz;split
 ·refine⟨?_,?_,λh=>?_⟩<;>(generalize ja p q*q=s at*;omega)
 ·refine⟨?_,?_,?_⟩<;>rw[Int.neg_mul]<;>(generalize ja p q*q=s at*;omega)
theorem zc{x y q:Int}(hq:0<q)(h:x<y):x*q+q<=y*q:=by have:(x+1)*q<=y*q:=LS aw aw;rw[Int.add_mul,lj]at this;exact this
theorem a4C{x y p q:Int}(hq:0<q)(a:xP x p q)(b:xP y p q):x=y:=by
 have key:∀{x y:Int},xP x p q->xP y p q->¬x<y:=λ{x y} a b h=>by
  have g:=zc hq h;have e1:=a.lo;have e2:=a.hi;have e3:=b.lo;have e4:=b.hi;have f1:=a.gI;have f2:=b.gI;have hx:x*q=0\/q<=x*q\/x*q<=-q:=by
   rcases Y6 x 0 with h|h|h
   ·have:=zc hq h;lia
   ·left;rw[h,AA]
   ·have:=zc hq h;lia
  have hy:y*q=0\/q<=y*q\/y*q<=-q:=by
   rcases Y6 y 0 with h|h|h
   ·have:=zc hq h;lia
   ·left;rw[h,AA]
   ·have:=zc hq h;lia
  generalize x*q=u at*;generalize y*q=v at*;have hu:=f1 aw;have hv:=f2 aw
  lia
 rcases Y6 x y with h|h|h
 ·exact absurd h (key a b)
 ·exact h
 ·exact absurd h (key b a)
theorem Im{x p q:Int}(hq:0<q)(a:xP x p q):x=fz p q:=a4C hq a (near_is hq)
theorem Il{q:Int}(hq:0<q):fz 0 q=0:=(Im hq ⟨aw,aw,λh=>by lia⟩).symm
theorem a4F{n q:Int}(hq:0<q):fz (q*n) q=n:=by refine(Im hq ⟨?_,?_,?_⟩).symm<;>rw[LV n q]<;>lia
theorem a4E{p q:Int}(hq:0<q):fz (-p) q=-fz p q:=by obtain⟨a,b,c⟩:=near_is (p:=p) hq;refine(Im hq ?_).symm;refine⟨?_,?_,?_⟩<;>rw[Int.neg_mul]<;>omega
theorem a4D{p q:Int}(hq:0<q)(hp:0<=p):0<=fz p q:=by unfold fz;rw[bp hp];exact Nu hq
end Ln
namespace L2
open PySem PySem.Spec PyProof.Rows
abbrev Dg(b:Bool)(h:Heap)(l:Addr):Heap:=h.push {cls:=.type (sx b),data:=.fields #[.ref l,.int 0 0]}
abbrev Kf(b:Bool)(h:Heap)(l:Addr):Heap:=(Dg b h l).push {cls:=.type "enumerate",data:=.fields #[.none,.bool false,.ref h.objs.size,rawInt 0,.none,.none]}
theorem aaM(b:Bool)(l:Addr)(xs:Array Value):Meets (Builtin.«enumerate.__new__» ⟨[.type "enumerate",.ref l],[]⟩) (λ_ R s=>iu b s.heap l xs/\R (.ok (.ret (.ref (Dg b s.heap l).objs.size))) {s with heap:=Kf b s.heap l}):=.of_wp λprog w A R s h=>by
 obtain⟨hp,gg,d,tk,os⟩:=s;obtain⟨hl,h⟩:=h;have J3:=sub_enumerate;have hL:iu b (Shared.heap ⟨hp,gg,d,tk,os⟩) l xs:=hl
 wp_walk using wI hL;refine wpAny_stack_any λst=>cA ?_;split
 ·rename_i c _ _ _ _ _
  cases(c==Value.type "enumerate")
  ·wp_walk using wI hL
   exact⟨_,Z,h⟩
  ·wp_walk using wI hL
   exact⟨_,Z,h⟩
 ·wp_walk using wI hL
  exact⟨_,Z,h⟩
section
variable {prog:ah}{w:World}{A:aj}{E:Value->ae->Prop}{s:ae}
theorem aaN{b:Bool}{l:Addr}{xs:Array Value}{Q:Value->ae->Prop}(hl:iu b s.heap l xs) (q:∀g,IsEnum g (s.heap.objs.size+1) s.heap.objs.size 0 .none->kF b g s.heap.objs.size l 0->(∀c o,s.heap.get? c=some o->g.get? c=some o)->Q (.ref (s.heap.objs.size+1)) {s with heap:=g}): wpAny (model prog w) A (call (.type "enumerate") [.ref l]) Q E s:=by refine callType_new PySem.F.called_enumerate aB (PySem.F.typeCall_enumerate_1 _) (PySem.F.newCall_enumerate_1 _) (λobj=>PySem.F.args_object_init_2 obj _) PySem.F.entry_enumerate_new (aaM b l xs) ⟨hl,?_⟩;have z1:(Dg b s.heap l).objs.size=s.heap.objs.size+1:=tI ..;have g2:(Kf b s.heap l).get? (Dg b s.heap l).objs.size=some _:=fq _ rfl;have g1:(Kf b s.heap l).get? s.heap.objs.size=some _:=cI _ (fq _ Z);show _/\_;rw[z1]at g2⊢;refine⟨⟨_,g2,Z⟩,q _ g2 ?_ λc o e=>cI _ (cI _ e)⟩;cases b<;>exact⟨_,g1,rfl,rfl⟩
theorem TV{b:Bool}{it l:Addr}{xs:Array Value}(hh:A.handled=none)(ne:l≠it):Draws prog w A it [it,l] xs.size (λi x=>xs[i]? =some x) (λi h=>kF b h it l i/\iu b h l xs) where
 live:=λi h st=>by obtain⟨o,e,_⟩:=st.1.ob;exact⟨o,e⟩
 frame:=λi h h' st k=>⟨st.1.to λo e=>k it (by simp) o e,st.2.to λo e=>k l (by simp) o e⟩
 item:=λi s Q E hi st hQ=>BL st.1 st.2 (x:=xs[i]) (by simp[hi]) λg gi sb=>hQ _ g s.toks (by simp[hi]) ⟨gi,st.2.to λo e=>sb.extBut _ _ ne e⟩ sb
 done:=λs Q E st hE=>Ke hh st.1 st.2 (by simp) λg e a b=>hE g e a b
end
def Ag(K:aa)(b:Bool)(l:Addr):It:=⟨λi H=>∃xs x,fm b K H l xs/\xs[i]? =some x,λi H v H'=>∃T x,v= .ref T/\(∀xs,fm b K H l xs->xs[i]? =some x)/\Nw H H' T (.tup [.int i,x]),λi H=>∃xs,fm b K H l xs/\xs.length=i⟩
theorem YO{P:ah}{w:World}{K:aa}{elts:List Expr}{kt:Nat}{pos:Pos}{b:Bool}{e it l:Addr}(D:e≠it): Turn P w K (.Tuple elts kt pos) (Ag K b l) [e,it] e (λi h=>(∃old,IsEnum h e it i old)/\kF b h it l i) where
 mem:=by simp
 obj:=λi h st c hc=>by
  obtain⟨⟨old,he⟩,h1⟩:=st;simp only[bM,cL,dv]at hc;rcases hc with rfl|rfl
  ·exact⟨_,he,λv e=>by cases e⟩
  ·obtain⟨o,e,_,n⟩:=h1.ob;exact⟨o,e,n⟩
 keep:=λi h h' st k=>by obtain⟨⟨old,he⟩,h1⟩:=st;exact⟨⟨old,k e (by simp) _ he⟩,h1.to λo q=>k it (by simp) o q⟩
 item:=by
  intro X hP hw hK hc i ay s O H E I hf st hg;subst hP hw hK;obtain⟨xs,x,q1,e1⟩:=hg;obtain⟨its,r1,p1⟩:=q1.get I;obtain⟨u1,fk,lE⟩:=r1.get e1;obtain⟨⟨old,he⟩,h1⟩:=st;obtain⟨oi,lM,ci,_⟩:=h1.ob;have IM:∃o,s.heap.get? l=some o/\(o.cls= .type "list"\/o.cls= .type "tuple"):=by cases b<;>(obtain⟨o,ho,cc,_⟩:=p1;first|exact⟨o,ho,.inl cc⟩|exact⟨o,ho,.inr cc⟩)
  obtain⟨ol,uI,cl⟩:=IM;have nel:e≠l:=λz=>by subst z;rw[he]at uI;cases uI;rcases cl with h|h<;>simp at h
  have nil:l≠it:=λz=>by subst z;rw[lM]at uI;cases uI;rw[ci]at cl;cases b<;>(rcases cl with h|h<;>simp[sx]at h)
  have cF:i<its.toArray.size:=by rw[fe,<-r1.length];exact(dQ.mp e1).1
  refine wpAny_pyNext_enum_itemD (TV (I.ok.hd hc) nil) he ⟨h1,p1⟩ cF D (by simp[D,nel]) λy h' tk hPy ho iq hT hsz kp=>⟨_,Z,?_⟩;have ey:y=u1:=by
   have a1:its.toArray[i]? =some y:=hPy;have a2:its.toArray[i]? =some u1:=by simpa using fk
   rw[a1]at a2;exact eg a2
  subst ey;refine wpAny_letOwnedTupleGo_enum ho λg' Jr sb=>?_;have hs:=sb.extBut;have elt:e<s.heap.objs.size:=cJ he;have ilt:it<s.heap.objs.size:=cJ lM;have nw:Nw H (upd H s.heap.objs.size (.tup [.int i,x])) s.heap.objs.size (.tup [.int i,x]):=.of (I.bj.fresh (bR _));have I1:Inv X ay O (upd H s.heap.objs.size (.tup [.int i,x])) {s with heap:=s.heap.push {cls:=.type "tuple",data:=.seq #[.int i tk,y]},toks:=tk+1}:=I.laid (t':=tk+1) (λb ob q=>cI _ q) (bR _) ⟨by show 2<=sizeLine;decide,[.int i tk,y],.cons ⟨tk,Z⟩ (.cons lE .nil),⟨_,fq _ Z,Z,_,Z⟩⟩;have BV:∀c∈[e,it],c<s.heap.objs.size:=λc hc=>by
   simp only[bM,cL,dv]at hc;rcases hc with rfl|rfl
   ·exact elt
   ·exact ilt
  have hn:∀c∈[e,it],upd H s.heap.objs.size (.tup [.int i,x]) c=none:=λc hc=>by rw[aK (fR (BV c hc))];exact(hf c hc).1
  have I2:Inv X ay O (upd H s.heap.objs.size (.tup [.int i,x])) {s with heap:=g',toks:=tk+1}:=Inv.yg (s:={s with heap:=s.heap.push {cls:=.type "tuple",data:=.seq #[.int i tk,y]},toks:=tk+1}) (t':=tk+1) (fp:=[e,it]) I1 (λc o hc q=>by
   have q:(s.heap.push {cls:=.type "tuple",data:=.seq #[.int i tk,y]}).get? c=some o:=q;have nz:c≠e:=λz=>hc (by simp[z]);rcases Heap.get?_push_cases q with⟨xn,rfl⟩|q'
   ·subst xn
    exact hs _ _ nz hT
   ·exact hs _ _ nz (kp c o nz (λz=>hc (by simp[z])) q')) (λc hc=>by obtain⟨f0,f1,f2,f3,f4,f5⟩:=hf c hc;exact⟨hn c hc,f1,f2,f3,f4,f5⟩);refine⟨.ref s.heap.objs.size,_,I2,Z,⟨s.heap.objs.size,x,Z,λzs hz=>?_,nw⟩,⟨⟨_,by simpa using Jr⟩,iq.1.to λo q=>hs _ o (eu D) q⟩,hn⟩;rw[fm.inj I hz q1];exact e1
 done:=by
  intro X hP hw hK hc i ay s O H E I hf st hg;subst hP hw hK;obtain⟨xs,q1,mK⟩:=hg;obtain⟨its,r1,p1⟩:=q1.get I;obtain⟨⟨old,he⟩,h1⟩:=st;obtain⟨oi,lM,ci,_⟩:=h1.ob;have IM:∃o,s.heap.get? l=some o/\(o.cls= .type "list"\/o.cls= .type "tuple"):=by cases b<;>(obtain⟨o,ho,cc,_⟩:=p1;first|exact⟨o,ho,.inl cc⟩|exact⟨o,ho,.inr cc⟩)
  obtain⟨ol,uI,cl⟩:=IM;have nil:l≠it:=λz=>by subst z;rw[lM]at uI;cases uI;rw[ci]at cl;cases b<;>(rcases cl with h|h<;>simp[sx]at h)
  have hi:i=its.toArray.size:=by rw[fe,<-r1.length];exact mK.symm
  subst hi;refine wpAny_pyNext_enum_endD (TV (I.ok.hd hc) nil) he ⟨h1,p1⟩ λh' kp=>⟨Z,?_⟩;exact I.yg (t':=s.toks) (fp:=[e,it]) (λc o hc q=>kp c o (λz=>hc (by simp[z])) q) hf
 self:=λ_ _ _ _ _ st h=>by obtain⟨⟨old,he⟩,_⟩:=st;exact wpAny_pyIter_enum he h
inductive Xq(K:aa)(b:Bool)(R:It->Hp->Prop)(vs:List V)(H1:Hp):Prop |mk (l:_)(h0:vs=[.ref l])(h1:(∃xs,fm b K H1 l xs))(h2:R (Ag K b l) H1):Xq K b R vs H1
def a6y(K:aa)(b:Bool)(ta:TA):TI:=λO H R=>ta O H λvs H1=>Xq K b R vs H1
theorem a2a(K:aa){X:Cx}(hK:X.K=K)(b:Bool){elts:List Expr}{kt:Nat}{oX:Pos}{a:Expr}{ta:TA}{p pos:Pos}(hg:Gl X "enumerate")(hm:X.mg "enumerate"=none)(ha:PA X [a] ta)(hs:starEach [a] X.env=[(false,eval a X.env)]:=by rfl)(jy:starEach [] X.env=[]:=by rfl): PI X (.Tuple elts kt oX) (.Call (.Name "enumerate" p) [a] [] pos) (a6y K b ta):=by
 subst hK;intro ay s O H R I h;refine Call_ (pF I hg hm PyProof.Rows.boot_enumerate (xX (bo (ha pos ay s O H _ I h) λus s1 ⟨vs,H1,I1,r1,q1⟩=>?_) (by rw[hs,jy]) (by rw[jy];rfl)));obtain⟨l,e,⟨xs,h1⟩,q⟩:=q1;subst e;obtain⟨u1,rfl,lE⟩:=vals1 r1;cases(show u1=Value.ref l from lE);obtain⟨IT,v1,p1⟩:=h1.get I1;refine aaN p1 λg zg ig kp=>wpAny_pyIter_enum zg ?_;refine⟨_,_,_,_,H1,Z,I1.kept (t':=s1.toks) kp,YO (DY (XX _)),⟨⟨_,zg⟩,ig⟩,λc hc=>?_,q⟩;have hle:s1.heap.objs.size<=c:=by simp only[bM,cL,dv]at hc;rcases hc with rfl|rfl<;>first|exact bR _|exact Nat.le_add_right _ _
 exact I1.pV hle (I1.bj.fresh hle)
theorem a9i{K:aa}{b:Bool}{a:Addr}{xs:List V}{g:TG}{tb:TS}{D:Ends}{O:St}{H:Hp}(Pv:Nat->St->Hp->Prop)(h0:Pv 0 O H)(hl:∀i O H,i<=xs.length->Pv i O H->fm b K H a xs) (hs:∀i x O H,xs[i]? =some x->Pv i O H->∀T H',Nw H H' T (.tup [.int i,x])->g (.ref T) O H' λσ2 H2=>tb {D with nx:=Pv (i+1),ct:=Pv (i+1),bk:=D.nx} σ2 H2)(hd:∀O H,Pv xs.length O H->D.nx O H): ∃W:Nat->Nat->St->Hp->Prop,(∃m,W 0 m O H)/\∀i m O H,W i m O H->((Ag K b a).stop i H/\D.nx O H)\/((Ag K b a).go i H/\∃N:St->Hp->Prop,(∀σ' H',N σ' H'->∃m',m'<m/\W (i+1) m' σ' H')/\∀x H',(Ag K b a).kg i H x H'->g x O H' λσ2 H2=>tb {D with nx:=N,ct:=N,bk:=D.nx} σ2 H2):=by
 refine⟨λi m O H=>m=xs.length-i/\i<=xs.length/\Pv i O H,⟨xs.length,by simp,gj _,h0⟩,?_⟩;rintro i m O H ⟨rfl,hi,p⟩;have q:=hl i O H hi p;by_cases cF:i<xs.length
 ·refine .inr ⟨⟨xs,xs[i],q,by simp[cF]⟩,Pv (i+1),λσ' H' p'=>⟨xs.length-(i+1),aw,Z,cF,p'⟩,λx H' y=>?_⟩
  obtain⟨T,z,rfl,ez,nw⟩:=y;exact hs i z O H (ez xs q) p T H' nw
 ·have e:i=xs.length:=by lia
  subst e;exact .inl ⟨⟨xs,q,Z⟩,hd O H p⟩
theorem a9f{K:aa}{b1 b2:Bool}{a1 a2:Addr}{xs ys:List V}{g:TG}{tb:TS}{D:Ends}{O:St}{H:Hp}(n:Nat)(hn:n=min xs.length ys.length)(Pv:Nat->St->Hp->Prop)(h0:Pv 0 O H)(hl:∀i O H,i<=n->Pv i O H->fm b1 K H a1 xs/\fm b2 K H a2 ys) (hs:∀i x y O H,xs[i]? =some x->ys[i]? =some y->Pv i O H->∀T H',Nw H H' T (.tup [x,y])->g (.ref T) O H' λσ2 H2=>tb {D with nx:=Pv (i+1),ct:=Pv (i+1),bk:=D.nx} σ2 H2)(hd:∀O H,Pv n O H->D.nx O H): ∃W:Nat->Nat->St->Hp->Prop,(∃m,W 0 m O H)/\∀i m O H,W i m O H->((mX K b1 b2 a1 a2).stop i H/\D.nx O H)\/((mX K b1 b2 a1 a2).go i H/\∃N:St->Hp->Prop,(∀σ' H',N σ' H'->∃m',m'<m/\W (i+1) m' σ' H')/\∀x H',(mX K b1 b2 a1 a2).kg i H x H'->g x O H' λσ2 H2=>tb {D with nx:=N,ct:=N,bk:=D.nx} σ2 H2):=by
 refine⟨λi m O H=>m=n-i/\i<=n/\Pv i O H,⟨n,by simp,gj _,h0⟩,?_⟩;rintro i m O H ⟨rfl,hi,p⟩;obtain⟨q1,q2⟩:=hl i O H hi p;by_cases cF:i<n
 ·have l1:i<xs.length:=by lia
  have l2:i<ys.length:=by lia
  refine .inr ⟨⟨xs,ys,xs[i],ys[i],q1,q2,by simp[l1],by simp[l2]⟩,Pv (i+1),λσ' H' p'=>⟨n-(i+1),aw,Z,cF,p'⟩,λx H' y=>?_⟩;obtain⟨T,z1,z2,rfl,e1,e2,nw⟩:=y;exact hs i z1 z2 O H (e1 xs q1) (e2 ys q2) p T H' nw
 ·have e:i=n:=by lia
  subst e;exact .inl ⟨⟨xs,ys,q1,q2,aw⟩,hd O H p⟩
section
variable {X:Cx}
theorem a2q(K:aa)(h:X.K=K){o:Expr}{to:TE}{apos cK:Pos}(ho:PE X o to)(jB:attributeBase o "clear" X.env (eval o X.env)=eval o X.env:=by rfl)(jz:(apos.endLine==cK.line)=true:=by rfl): PE X (.Call (.Attribute o "clear" apos) [] [] cK) (MD K "list" Px to):=by subst h;exact a2l Au PySem.F.slot_list_clear PySem.F.type_list_clear a4S ho jB jz
theorem PY(K:aa)(h:X.K=K){o e:Expr}{to:TE}{t:TA}{apos cK:Pos}(ho:PE X o to)(ha:PA X [e] t) (jB:attributeBase o "pop" X.env (eval o X.env)=eval o X.env:=by rfl) (lO:((backTo cK (starEach [e] X.env)).all (λx=>!x.1)&&(backToKw cK (keywordEach [] X.env)).all (λx=>x.1.isSome) &&decide ([e].length+([]:List Keyword).length+(if([]:List Keyword).isEmpty then 0 else 1)<30))=true:=by rfl) (jz:(apos.endLine==cK.line)=true:=by rfl)(hs:starEach [e] X.env=(false,eval e X.env)::starEach [] X.env:=by rfl)(lL:(backTo cK (starEach [] X.env)).any (·.1)=false:=by rfl): PE X (.Call (.Attribute o "pop" apos) [e] [] cK) (tO K "list" Pu to t):=by subst h;exact wo Au PySem.F.slot_list_pop PySem.F.type_list_pop a4Q ho ha jB lO jz hs lL
end
set_option maxHeartbeats 1000000 in
theorem Hq{X:Cx}{N:List Str}{js:List (Option Nat)}{elt tg iter:Expr}{ifs:List Expr}{scope:Scope}{pos:Pos}{wi:TI}{g:TG}{tt:TT}{te:TE}{i0:Nat}{x0:Str}{wj MP:Pos}(hNd:X.N.Nodup)(hix:X.N[i0]? =some x0)(J0:Loc X.env.scope x0)(hc:X.calm=true)(hN:Dq X N js scope=true)(hS:xH X scope=true) (hi:PI X tg iter wi)(hg:∀cl s H fp ay,PG (gd X N scope cl s H fp ay) tg g)(ht:∀cl s H fp ay,KU (gd X N scope cl s H fp ay) ifs tt)(he:∀cl s H fp ay,PE (gd X N scope cl s H fp ay) elt te) (hsw:swapsWith (.ListComp elt [⟨tg,iter,ifs,0⟩] scope pos) (some (.Name x0 wj)) MP.line X.env=pure true:=by rfl)(hf0:X.fn x0=true\/X.env.scope.names.lookup x0=some .local:=by first|exact .inl rfl|exact .inr rfl) (hs:∀x,foldedSetIterable iter X.env x=pure x:=by intro _;rfl):PS X (.Assign [.Name x0 wj] (.ListComp elt [⟨tg,iter,ifs,0⟩] scope pos) MP) (B0 (MB js wi g tt te) (fA i0)):=by
 intro ay s O H D0 I h;have uR:=hS;unfold xH at uR;rw[fE,fE]at uR;obtain⟨⟨k1,k2⟩,k3⟩:=uR;have pN:scope.kind= .function:=gh.mp k1;have xj:∀x∈scope.names,x.2= .free->∃c,X.env.cells.lookup x.1=some c:=λx hx e=>by have:=j7.mp k3 x hx;rw[e]at this;exact I.ok.has x.1 (.inl (gh.mp this))
 have mL:∀x∈scope.names,x.2≠ .cell:=λx hx e=>by have:=j7.mp k3 x hx;rw[e]at this;exact kK this
 have Jg:∀x∈scope.names,x.2= .local->scope.names.lookup x.1=some .local:=λx hx e=>by have:=j7.mp k3 x hx;rw[e]at this;exact gh.mp this
 obtain⟨cl,Jt,c1,c2⟩:=UD xj;rw[exec_Assign_Name_used _ _ _ _ hsw];refine aV (wpAny_standAt (aV ?_));show wpAny _ X.A (do let _<-comprehension (.ListComp elt [⟨tg,iter,ifs,0⟩] scope pos) scope X.env _ (newList []) false (eval iter X.env) (some (assign (.Name x0 wj) X.env))) _ _ s;refine aV (jY (wpAny_comprehension_free (use:=some (assign (.Name x0 wj) X.env)) (Q:=λ_ s'=>SP X ay D0 .next s') Z hs Jt pN Jg (bo (hi ay s O H _ I h) λv s1 h1=>bo h1 λCg s2 h2=>?_)) (λ_ s' hq=>cA (cA hq)) λ_ _ e=>e);obtain⟨it,fp,tn,J,H2,e,I2,T,tQ,f2,h2⟩:=h2;subst e;have hD:H2 s2.heap.objs.size=none:=I2.bj.fresh (bR _);obtain⟨W,⟨m0,w0⟩,turn⟩:=h2 _ _ (Nw.of hD);refine qy (XF mL (by intro y hy;simp at hy) (λh₁ zx zu=>?_) pN);have uW:∀b∈fp,b<s2.heap.objs.size:=λb hb=>by obtain⟨o,e,_⟩:=T.obj _ _ tQ b hb;exact cJ e
 have I3:Inv X ay O (upd H2 s2.heap.objs.size (.lst [])) {s2 with heap:=s2.heap.push {cls:=.type "list",dict:=none,data:=.seq ([]:List Value).toArray}}:=I2.QZ (its:=[]) (t':=s2.toks) .nil (gj _);generalize zG:s2.heap.push {cls:=.type "list",dict:=none,data:=.seq ([]:List Value).toArray}=h3 at I3 zx zu;have yl:h3.objs.size=s2.heap.objs.size+1:=by rw[<-zG,tI]
 have IS:∀b o,s2.heap.get? b=some o->h3.get? b=some o:=λb o e=>by rw[<-zG];exact cI _ e
 have f3:∀b∈fp,lY X ay (upd H2 s2.heap.objs.size (.lst [])) b:=λb hb=>⟨by rw[aK (fR (uW b hb))];exact(f2 b hb).1,(f2 b hb).2⟩;have zo:∀b o,h3.get? b=some o->h₁.get? b=some o:=λb o e=>(zu.2 b (fR (cJ e))).trans (cI _ e);have I4:Inv (gd X N scope cl {s2 with heap:=h3} (upd H2 s2.heap.objs.size (.lst [])) fp ay) [] (stC js O) (upd H2 s2.heap.objs.size (.lst [])) {s2 with heap:=h₁,toks:=s2.toks+([]:List (Str×Value)).length}:=I3.comp (s:={s2 with heap:=h3}) hN hS c1 c2 f3 (λb hb=>by show b<h3.objs.size;rw[yl];exact LF (uW b hb)) (by simpa using zx) zo;have yo:tn 0 h₁:=T.keep _ _ _ tQ λb _ o e=>zo b o (IS b o e);have loop:codeAny (model X.prog X.w) X.A (.compLoop (.ListComp elt [⟨tg,iter,ifs,0⟩] scope pos) 0 (.ref it) (.ref s2.heap.objs.size) (compEnvC scope cl h3.objs.size X.env)) (compPost (model X.prog X.w) X.A X.xe (some (assign (.Name x0 wj) X.env)) (λ_ s'=>SP X ay D0 .next s') (.ref s2.heap.objs.size) h3.objs.size) {s2 with heap:=h₁,toks:=s2.toks+([]:List (Str×Value)).length}:=by
  refine Uz (λn s'=>∃i σ' H',Inv (gd X N scope cl {s2 with heap:=h3} (upd H2 s2.heap.objs.size (.lst [])) fp ay) [] σ' H' s'/\tn i s'.heap/\(∀b∈fp,H' b=none)/\W i n σ' H') ?_ m0 ⟨0,_,_,I4,yo,λb hb=>(f3 b hb).1,w0⟩;rintro n s5 ⟨i,σ5,H5,I5,p4,uV,w5⟩;have mE:∀{H':Hp},(∀b∈fp,H' b=none)->∀b∈fp,lY (gd X N scope cl {s2 with heap:=h3} (upd H2 s2.heap.objs.size (.lst [])) fp ay) [] H' b:=λ{H'} hn b hb=>by
   obtain⟨_,q1,q2,q3,q4,q5⟩:=f3 b hb;refine⟨hn b hb,λz=>?_,I4.ok.rY b hb,.inl hb,λx c e=>q4 x c (c1 x c e),λp hp=>q5 p (by simpa[gd]using hp)⟩;have cF:b<h3.objs.size:=by rw[yl];exact LF (uW b hb)
   exact fR cF z
  rcases turn i n σ5 H5 w5 with⟨stop,qn⟩|⟨go,step⟩
  ·refine bo (T.done (gd X N scope cl {s2 with heap:=h3} (upd H2 s2.heap.objs.size (.lst [])) fp ay) rfl rfl rfl hc i [] s5 σ5 H5 _ I5 (mE uV) p4 stop) λr s6 ⟨hr,I6⟩=>?_
   subst hr;obtain⟨m,hm,_⟩:=I6.loc;have u0:Un (du X.stack) fp (upd H2 s2.heap.objs.size (.lst [])) H5 h3 s6.heap:=I6.base;have I7:Inv X ay O H5 s6:=I3.Dr (s':=s6) (ch:=fp) I6.os u0 I6.bj I6.bare λb hb=>⟨(f3 b hb).2.2.2.1,(f3 b hb).2.1,(f3 b hb).2.2.2.2.1,(f3 b hb).2.2.2.2.2⟩;have hC:lY X ay H5 h3.objs.size:=I3.pV (bR _) I6.free;show wpAny _ X.A (assign (.Name x0 wj) X.env (.ref s2.heap.objs.size)) _ _ s6;refine wpAny_assign_Name (MI I7 hNd hix J0 (show RelV (.ref s2.heap.objs.size) (.ref s2.heap.objs.size)from Z) (λs8 I8 J5=>?_) hf0);obtain⟨a,sb,ha⟩:=J5;have hCa:h3.objs.size≠a:=by
    rcases ha with rfl|ha
    ·exact hC.2.1
    ·exact λz=>hC.2.2.2.2.1 x0 a ha z.symm
   refine⟨m,hm.sameBut sb hCa,λh9 hs9=>⟨_,H5,?_,qn⟩⟩;exact I8.yg (t':=s8.toks) (fp:=[h3.objs.size]) (λb o hb e=>hs9.extBut b o (λz=>hb (by simp[z])) e) λb hb=>by rw[bU.mp hb];exact hC
  ·refine bo (T.item (gd X N scope cl {s2 with heap:=h3} (upd H2 s2.heap.objs.size (.lst [])) fp ay) rfl rfl rfl hc i [] s5 σ5 H5 _ I5 (mE uV) p4 go) λr s6 ⟨u,hr,h6⟩=>?_
   subst hr;refine bo h6 λ_ s7 ⟨x,H7,I7,r7,y7,oZ,JP⟩=>?_;have Lh:=I7.pinned (mE JP) (T.obj _ _ oZ);refine bo (hg _ _ _ _ _ _ s7 σ5 H7 x u _ Lh r7 (step x H7 y7)) λ_ s8 ⟨σ8,H8,I8,q8⟩=>?_;refine bo (ht _ _ _ _ _ _ s8 σ8 H8 _ I8 q8) λok s9 ⟨H9,I9,q9⟩=>?_;have again:∀{s':ae}{σ7:St}{H7:Hp},Inv (gd X N scope cl {s2 with heap:=h3} (upd H2 s2.heap.objs.size (.lst [])) fp ay) ([]++wm fp s7.heap) σ7 H7 s'->(∃m',m'<n/\W (i+1) m' σ7 H7)->∃m,m<n/\∃i σ' H',Inv (gd X N scope cl {s2 with heap:=h3} (upd H2 s2.heap.objs.size (.lst [])) fp ay) [] σ' H' s'/\tn i s'.heap/\(∀b∈fp,H' b=none)/\W i m σ' H':=λ{s' σ7 H7} J7 n7=>by obtain⟨m',hm,w7⟩:=n7;refine⟨m',hm,i+1,σ7,H7,J7.yc,T.keep _ _ _ oZ λb hb o e=>(J7.pin (b,o) (lZ _ (lZ _ (wN hb e)))).1,λb hb=>?_,w7⟩;obtain⟨o,e,d⟩:=T.obj _ _ oZ b hb;exact(J7.pin (b,o) (lZ _ (lZ _ (wN hb e)))).2.1
   cases ok with |false=>rw[bu kK]at q9⊢;exact again I9 q9 |true=>rw[bp rfl]at q9⊢;refine bo (he _ _ _ _ _ _ s9 σ8 H9 _ I9 q9) λyv nK ⟨y,jW,xR,Hl,ys,pK,hz,lC⟩=>?_;refine bo (Iv _ nK σ8 jW (.ref s2.heap.objs.size) [y] (.ref s2.heap.objs.size) [yv] (λ_ j4=>∃m',m'<n/\W (i+1) m' σ8 j4) xR Z (.cons Hl .nil) ⟨_,ys,y,Z,Z,pK,hz,lC⟩) λ_ Bu ⟨v11,j4,Li,r11,yJ⟩=>?_;exact again Li yJ
 exact codeAny_compStart_list loop (T.self _ 0 _ _ _ yo loop)
theorem UM:∀{zs:List Str}{us:List Value},Vals (zs.map V.str) us->CarriedAll us (zs.map PyData.str) |[],_,.nil=>.nil |z::zs,_,.cons q r=>by obtain⟨t,rfl⟩:=(show∃t,_=Value.str z t from q);exact .cons (.str z t) (UM r)
section
variable {X:Cx}
inductive X1(K:aa)(x:V)(vs:List V)(H:Hp)(Q:VK):Prop |mk (sep:Str)(l:Addr)(zs:List Str)(h0:x= .str sep)(h1:vs=[.ref l])(h2:aJ K H l (zs.map V.str))(h3:(∀z∈zs,z.length<=8))(h4:sep.length<=8)(h5:zs.length<=1000)(h6:Q (.str (Txt.join sep zs)) H):X1 K x vs H Q
def rJoin(K:aa):V->List V->Hp->VK->Prop:=λx vs H Q=>X1 K x vs H Q
theorem a4T(K:aa)(hK:X.K=K):Ae X "str.join" (rJoin K):=by subst hK;intro ay s O H x vs v us Q I rx rv h;obtain⟨sep,l,zs,rfl,rfl,hl,hz,hs,hn,q⟩:=h;obtain⟨t,rfl⟩:=rx;obtain⟨u,rfl,ru⟩:=vals1 rv;cases(show u=Value.ref l from ru);obtain⟨its,r,pl,_⟩:=I.list hl;refine join_madeW (l:=zs) (g:=id) 8 pl.isList (by rw[List.map_id];exact UM r) (λa ha=>hz a ha) aw aw λt' k=>?_;rw[List.map_id];exact⟨.str _,H,I.tok _,⟨_,Z⟩,q⟩
theorem a2m(K:aa)(h:X.K=K){o e:Expr}{to:TE}{t:TA}{apos cK:Pos}(ho:PE X o to)(ha:PA X [e] t) (jB:attributeBase o "join" X.env (eval o X.env)=eval o X.env:=by rfl) (lO:((backTo cK (starEach [e] X.env)).all (λx=>!x.1)&&(backToKw cK (keywordEach [] X.env)).all (λx=>x.1.isSome) &&decide ([e].length+([]:List Keyword).length+(if([]:List Keyword).isEmpty then 0 else 1)<30))=true:=by rfl) (jz:(apos.endLine==cK.line)=true:=by rfl)(hs:starEach [e] X.env=(false,eval e X.env)::starEach [] X.env:=by rfl)(lL:(backTo cK (starEach [] X.env)).any (·.1)=false:=by rfl): PE X (.Call (.Attribute o "join" apos) [e] [] cK) (tO K "str" (rJoin K) to t):=by subst h;exact wo PySem.F.plainAttrs_str PySem.F.slot_str_join PySem.F.type_str_join (a4T X.K rfl) ho ha jB lO jz hs lL
end
section
variable {X:Cx}{ay:List (Addr×Obj)}{O:St}{H:Hp}{s:ae}
end
section
variable {X:Cx}
theorem abP:fL X (.type "range") (λxs H Q=>∃n,xs=[.int n]/\∀p H',Nw H H' p (.ub 0 n)->Q (.ref p) H'):=by intro ay s O H xs us Q I r h;obtain⟨n,rfl,q⟩:=h;obtain⟨u,rfl,t,rfl⟩:=vals1 r;refine call_range_1 ?_;have hf:H s.heap.objs.size=none:=I.bj.fresh (bR _);refine⟨.ref s.heap.objs.size,upd H s.heap.objs.size (.ub 0 n),I.laid (t':=s.toks+1+1) (λb u e=>cI _ e) (bR _) ?_,Z,q _ _ (.of hf)⟩;exact⟨_,_,_,fq _ Z⟩
end
theorem ZG:isSubtype (.type "range_iterator") (.type "reversed")=pure false:=by rw[isSubtype_type];kernel_rfl
section
variable {prog:ah}{w:World}{A:aj}{E:Value->ae->Prop}{s:ae}
abbrev yG(n:Nat):Obj:={cls:=.type "range_iterator",data:=.fields #[rawInt (0+((n:Int)-1)*1),rawInt (n:Int),rawInt (-1)]}
abbrev GI(n:Nat):Bool:=Builtin.Range.rangeFitsLong 0&&Builtin.Range.rangeFitsLong n&&Builtin.Range.rangeFitsLong 1&&Builtin.Range.rangeFitsLong (-1)&&Builtin.Range.rangeFitsLong (0-1)&&Builtin.Range.rangeFitsLong (Builtin.Range.rangeSize 0 n 1)
theorem P9{n:Nat}(h:n<2^62):GI n=true:=by unfold GI;rw[rangeSize_one];simp only[Builtin.Range.rangeFitsLong,fE,DS];split<;>lia
theorem a1h(r:Addr)(a b c:Int)(t u v:Tok)(hc0:¬(!(Builtin.Range.rangeFitsLong a&&Builtin.Range.rangeFitsLong b&&Builtin.Range.rangeFitsLong c&&Builtin.Range.rangeFitsLong (-c)&&Builtin.Range.rangeFitsLong (a-c)&&Builtin.Range.rangeFitsLong (Builtin.Range.rangeSize a b c)))=true):Meets (Builtin.«range.__reversed__» ⟨[.ref r],[]⟩) (λ_ R s=>s.heap.get? r=some {cls:=.type "range",dict:=none,data:=.fields #[.int a t,.int b u,.int c v],slots:=#[]}/\R (.ok (.ret (.ref s.heap.objs.size))) {s with heap:=s.heap.push {cls:=.type (if(Builtin.Range.rangeFitsLong a&&Builtin.Range.rangeFitsLong b&&Builtin.Range.rangeFitsLong c&&Builtin.Range.rangeFitsLong (-c)&&Builtin.Range.rangeFitsLong (a-c)&&Builtin.Range.rangeFitsLong (Builtin.Range.rangeSize a b c))=true then "range_iterator" else "longrange_iterator"),data:=.fields #[rawInt (a+(Builtin.Range.rangeSize a b c-1)*c),rawInt (Builtin.Range.rangeSize a b c),rawInt (-c)]},toks:=s.toks}):=.of_wp λprog w A R s h=>by
 obtain⟨hp,g,d,tk,os⟩:=s;obtain⟨hl,h⟩:=h
 wp_walk;exact⟨_,Z,h⟩
theorem abN{l:Addr}{n:Nat}{t u v:Tok}{Q:Value->ae->Prop}(hn:n<2^62)(hl:s.heap.get? l=some {cls:=.type "range",data:=.fields #[.int 0 t,.int n u,.int 1 v]}) (h:Q (.ref s.heap.objs.size) {s with heap:=s.heap.push (yG n)}):wpAny (model prog w) A (call (.builtin "range.__reversed__") [.ref l]) Q E s:=by
 have hT:s.TypeIs (.ref l) "range":=⟨_,hl,Z⟩;refine xU Y8 hT F.entry_range_reversed (F.args_range_reversed_1 _) (a1h l 0 n 1 t u v (by have:=P9 hn;unfold GI at this;rw[this];decide)) ⟨hl,?_⟩;rw[bp (P9 hn)];have e:Builtin.Range.rangeSize 0 n 1=n:=by rw[rangeSize_one];split<;>lia
 rw[e];exact h
theorem abF{l:Addr}{n:Nat}{t u v:Tok}{Q₁:Value->ae->Prop}(hn:n<2^62)(hl:s.heap.get? l=some {cls:=.type "range",data:=.fields #[.int 0 t,.int n u,.int 1 v]}) (h:Q₁ (.ref s.heap.objs.size) {s with heap:=s.heap.push (yG n)}): codeAny (model prog w) A (.call (.builtin "reversed.__new__") ⟨[.type "reversed",.ref l],[]⟩) (wants Q₁ E) s:=by
 have hT:s.TypeIs (.ref l) "range":=⟨_,hl,Z⟩;refine codeAny_of_tree ?_;show wpAny _ A.in1 (do checkBuiltinCall "reversed.__new__" ⟨[.type "reversed",.ref l],[]⟩;again (.builtin "reversed.__new__" ⟨[.type "reversed",.ref l],[]⟩)) _ _ s;refine aV (Am (F.newCall_reversed_1 _) (cA ⟨plainId_quiet F.plain_reversed_new _,codeAny_builtin F.entry_reversed_new ?_⟩));rw[Around.under_plainId F.plain_reversed_new _];unfold Builtin.«reversed.__new__»;refine aV (Am (newClass_reversed _) ?_)
 try dsimp only
 refine aV (Am (a:=()) (by first|rfl|kernel_rfl) ?_);refine aV (Am (a:=()) (by first|rfl|kernel_rfl) ?_)
 try dsimp only
 refine aV (wpAny_specialOf hT Y8.lookup ?_)
 try dsimp only
 refine aV (Am (Y8.bind _) ?_)
 try dsimp only
 first |rw[bu (show¬((Value.builtin "range.__reversed__"==Value.none)=true)from kK)] |(show wpAny _ _ (if(Value.builtin "range.__reversed__"==Value.none)=true then _ else _) _ _ _;rw[bu (show¬((Value.builtin "range.__reversed__"==Value.none)=true)from kK)])
 refine aV (wpAny_rule ?_);refine aV (m:=runValue (.call (.builtin "range.__reversed__") ⟨[.ref l],[]⟩)) (show wpAny _ _ (call (.builtin "range.__reversed__") [.ref l]) _ _ _ from abN hn hl ?_)
 first |exact cA h |exact aV (cA (cA h))
theorem abO{l:Addr}{n:Nat}{t u v:Tok}{Q:Value->ae->Prop}(hn:n<2^62)(hl:s.heap.get? l=some {cls:=.type "range",data:=.fields #[.int 0 t,.int n u,.int 1 v]}) (h:Q (.ref s.heap.objs.size) {s with heap:=s.heap.push (yG n)}):wpAny (model prog w) A (call (.type "reversed") [.ref l]) Q E s:=by refine callType_other (U:="range_iterator") (Q₁:=λobj s₁=>obj= .ref s.heap.objs.size/\s₁={s with heap:=s.heap.push (yG n)}) aY F.create_reversed ⟨_,_,F.mro_reversed⟩ F.made_reversed ZG (F.typeCall_reversed_1 _) (abF hn hl ⟨Z,Z⟩) ?_;rintro obj s₁ ⟨rfl,rfl⟩;exact⟨⟨_,fq _ Z,Z⟩,h⟩
end
def Af(n:Nat):It:=⟨λi _=>i<n,λi H x H'=>H'=H/\x= .int ((n:Int)-1-i),λi _=>n<=i⟩
theorem YL{P:ah}{w:World}{K:aa}{tg:Expr}(it:Addr)(n:Nat):Turn P w K tg (Af n) [it] it (λi h=>IsRangeIter h it ((0+((n:Int)-1)*1)+(i:Nat)*(-1)) ((n:Int)-(i:Nat)) (-1)) where
 mem:=by simp
 obj:=λi h st b hb=>by
  have e:b=it:=by simpa using hb
  subst e;exact⟨_,st,λv z=>by have z':Data.fields _=Data.cell v:=z;cases z'⟩
 keep:=λi h h' st k=>k it (by simp) _ st
 item:=by
  intro X hP hw hK hc i ay s O H E I hf st hg;subst hP hw hK;obtain⟨f0,f1,f2,f3,f4,f5⟩:=hf it (by simp);have W:=Walks.range (prog:=X.prog) (w:=X.w) (I.ok.hd hc) it (0+((n:Int)-1)*1) (-1) n;refine W.item i s _ _ hg st λv h' tk hv gY kk=>?_;obtain⟨t,rfl⟩:=hv;have I1:Inv X ay O H {s with heap:=h',toks:=tk}:=I.turned (λb o hb e=>kk b o (by simpa using hb) e) f0 f1 f3 f4 f5;refine⟨_,Z,xp (s:={s with heap:=h',toks:=tk}) (n:="range_iterator") gY rfl rfl aB ⟨.int ((n:Int)-1-i),H,I1,⟨t,?_⟩,⟨Z,Z⟩,gY,λb hb=>(hf b hb).1⟩⟩;have e:(0+((n:Int)-1)*1)+(i:Int)*(-1)=(n:Int)-1-i:=by lia
  rw[e]
 done:=by intro X hP hw hK hc i ay s O H E I hf st hg;subst hP hw hK;obtain⟨f0,f1,f2,f3,f4,f5⟩:=hf it (by simp);exact XE (I.ok.hd hc) st (by have:n<=i:=hg;lia) λh' eb=>⟨Z,I.turned (t':=s.toks) (λb o hb e=>eb b o hb e) f0 f1 f3 f4 f5⟩
 self:=λ_ _ _ _ _ st h=>Lk st h
inductive Xo(R:It->Hp->Prop)(vs:List V)(H1:Hp):Prop |mk (p:_)(n:_)(h0:vs=[.ref p])(h1:H1 p=some (.ub 0 n))(h2:0<=n)(h3:n<2^62)(h4:R (Af n.toNat) H1):Xo R vs H1
def a6x(ta:TA):TI:=λO H R=>ta O H λvs H1=>Xo R vs H1
theorem a27{X:Cx}{tg:Expr}{a:Expr}{ta:TA}{p pos:Pos}(hg:Gl X "reversed")(hm:X.mg "reversed"=none)(ha:PA X [a] ta)(hs:starEach [a] X.env=[(false,eval a X.env)]:=by rfl)(jy:starEach [] X.env=[]:=by rfl): PI X tg (.Call (.Name "reversed" p) [a] [] pos) (a6x ta):=by
 intro ay s O H R I h;refine Call_ (pF I hg hm PyProof.Rows.boot_reversed (xX (bo (ha pos ay s O H _ I h) λus s1 ⟨vs,H1,I1,r1,q1⟩=>?_) (by rw[hs,jy]) (by rw[jy];rfl)));obtain⟨l,n,e,hl,n0,n1,q⟩:=q1;subst e;obtain⟨u1,rfl,lE⟩:=vals1 r1;cases(show u1=Value.ref l from lE);obtain⟨t,u,v,e⟩:∃t u v,s1.heap.get? l=some {cls:=.type "range",data:=.fields #[.int 0 t,.int n u,.int 1 v]}:=I1.bj l _ hl;obtain⟨m,rfl⟩:∃m:Nat,n=m:=⟨n.toNat,aw⟩;refine abO aw e ?_;have hit:IsRangeIter (s1.heap.push (yG m)) s1.heap.objs.size ((0+((m:Int)-1)*1)+((0:Nat):Int)*(-1)) ((m:Int)-((0:Nat):Int)) (-1):=by
  have e1:(0+((m:Int)-1)*1)+((0:Nat):Int)*(-1)=0+((m:Int)-1)*1:=by lia
  have e2:(m:Int)-((0:Nat):Int)=m:=by lia
  rw[e1,e2];exact fq _ rfl
 refine Lk hit ?_;refine⟨s1.heap.objs.size,[s1.heap.objs.size],_,_,H1,Z,I1.kept (t':=s1.toks) λb o e=>cI _ e,YL _ m,hit,λb hb=>?_,q⟩;have e:b=s1.heap.objs.size:=by simpa using hb
 subst e;exact I1.pV (bR _) (I1.bj.fresh (bR _))
theorem a9h{n:Nat}{g:TG}{tb:TS}{D:Ends}{O:St}{H:Hp}(Pv:Nat->St->Hp->Prop)(h0:Pv 0 O H) (hs:∀i O H,i<n->Pv i O H->g (.int ((n:Int)-1-i)) O H λσ2 H2=>tb {D with nx:=Pv (i+1),ct:=Pv (i+1),bk:=D.nx} σ2 H2)(hd:∀O H,Pv n O H->D.nx O H): ∃W:Nat->Nat->St->Hp->Prop,(∃m,W 0 m O H)/\∀i m O H,W i m O H->((Af n).stop i H/\D.nx O H)\/((Af n).go i H/\∃N:St->Hp->Prop,(∀σ' H',N σ' H'->∃m',m'<m/\W (i+1) m' σ' H')/\∀x H',(Af n).kg i H x H'->g x O H' λσ2 H2=>tb {D with nx:=N,ct:=N,bk:=D.nx} σ2 H2):=by
 refine⟨λi m O H=>m=n-i/\i<=n/\Pv i O H,⟨n,by simp,gj _,h0⟩,?_⟩;rintro i m O H ⟨rfl,hi,p⟩;by_cases cF:i<n
 ·refine .inr ⟨cF,Pv (i+1),λσ' H' q=>⟨n-(i+1),aw,Z,cF,q⟩,λx H' hy=>?_⟩
  obtain⟨rfl,rfl⟩:=hy;exact hs i O _ cF p
 ·have e:i=n:=by lia
  subst e;exact .inl ⟨bR _,hd O H p⟩
theorem Hn(K:aa){X:Cx}(hK:X.K=K){a:Expr}{ta:TE}(ha:PE X a ta)(he:∀whole,isTrue a X.env whole=(do let v<-whole;standAt a.pos;holding [v] (truthy v)):=by intro _;rfl): PT X a (λO H Q=>ta O H λx H'=>∃k,KQ K x H' k/\Q k H'):=by subst hK;exact a1Q ha he
end L2
namespace Cn
open Ln
def dy(ns ms:List Int):List Int:=(ns.zip ms).map λp=>p.1*(aL ms:Int)-p.2*(aL ns:Int)
theorem a51{ns ms:List Int}{z:Int}(h:z∈dy ns ms):∃a b,a∈ns/\b∈ms/\z=a*(aL ms:Int)-b*(aL ns:Int):=by obtain⟨⟨a,b⟩,hp,rfl⟩:=ka.mp h;exact⟨a,b,(Av hp).1,(Av hp).2,Z⟩
theorem lI{a b:Int}{m n:Nat}(h:a.natAbs<=m)(g:b.natAbs<=n):(a*b).natAbs<=m*n:=by rw[g9];exact mZ h g
theorem Dn{ns ms:List Int}(h1:∀z∈ns,z.natAbs<=1000)(h2:∀z∈ms,z.natAbs<=1000):∀z∈dy ns ms,z.natAbs<=2000000:=λz hz=>by obtain⟨a,b,ha,hb,rfl⟩:=a51 hz;have l1:=nX h1;have l2:=nX h2;have e1:=lI (b:=(aL ms:Int)) (n:=1000) (h1 a ha) dM;have e2:=lI (b:=(aL ns:Int)) (n:=1000) (h2 b hb) dM;omega
def rJ(zs:List Int)(i:Nat):Nat:=aL (zs.take i)
theorem Rk:∀(xs ys:List Int),aL (xs++ys)=max (aL xs) (aL ys) |[],ys=>by simp[aL] |x::xs,ys=>by show max x.natAbs (aL (xs++ys))=max (max x.natAbs (aL xs)) (aL ys);rw[Rk xs ys];lia
theorem a7C{zs:List Int}{i:Nat}{z:Int}(h:zs[i]? =some z):rJ zs (i+1)=max (rJ zs i) z.natAbs:=by
 unfold rJ;rw[qF,h,Rk];show max _ (max z.natAbs 0)=_
 lia
def vg(r:Rat):Rat:=if r.num<0 then-r else r
theorem acE(r:Rat):(vg r).num=iY r.num:=by
 unfold vg iY;split
 ·rfl
 ·rfl
theorem acG(r:Rat):(vg r).den=r.den:=by
 unfold vg;split
 ·rfl
 ·rfl
theorem abd{a b:Int}(hb:0<b):0<=(Rat.divInt a b).num↔0<=a:=by rw[Lp,xV hb]
theorem acF{c L:Int}(hL:0<L):vg (Rat.divInt c L)=Rat.divInt (iY c) L:=by
 have h:=abd (a:=c) hL;unfold vg iY;by_cases hc:c<0
 ·rw[bp hc,bp aw,Rat.neg_divInt]
 ·rw[bu hc,bu aw]
theorem Ul{a b L:Int}(hL:0<L):Rat.divInt a L<=Rat.divInt b L↔a<=b:=by
 rw[Rat.le_iff_sub_nonneg,XI _ _ aw aw,xV (iT hL hL),<-Int.sub_mul];constructor
 ·intro h
  have:=Int.nonneg_of_mul_nonneg_left h hL
  lia
 ·intro h
  exact jI aw aw
theorem Uk{a b L:Int}(hL:0<L):Rat.divInt a L<Rat.divInt b L↔a<b:=by rw[<-Rat.not_le,Ul hL];lia
theorem ZF{a b l1 l2:Int}(h1:0<l1)(h2:0<l2):Rat.divInt b l2-Rat.divInt a l1=Rat.divInt (b*l1-a*l2) (l1*l2):=by rw[XI _ _ aw aw,LV l2 l1]
theorem abu{j p q h L:Int}(hp:p≠0)(hh:h≠0)(e:p*L=h*q):Rat.divInt (j*j*q*q) (p*p)=Rat.divInt ((j*L)^2) (h^2):=by
 rw[Rat.divInt_eq_divInt_iff (LR hp hp) (by rw[fZ,fZ,m4,lj];exact LR hh hh)];have e2:(p*L)*(p*L)=(h*q)*(h*q):=by rw[e]
 rw[fZ,fZ,m4,lj,fZ,fZ,m4,lj];have a1:j*j*q*q*(h*h)=(j*j)*((h*q)*(h*q)):=by ac_rfl
 have a2:j*L*(j*L)*(p*p)=(j*j)*((p*L)*(p*L)):=by ac_rfl
 rw[a1,a2,e2]
end Cn
namespace Pn
def mn(a b:Rat):Rat:=if b<a then b else a
theorem gP(a b:Rat):mn a b<=a:=by
 unfold mn;split
 ·next h=>exact Lr h
 ·exact qA
theorem kU(a b:Rat):mn a b<=b:=by
 unfold mn;split
 ·exact qA
 ·next h=>exact As.mp h
theorem lK{a b c:Rat}(h1:c<=a)(h2:c<=b):c<=mn a b:=by unfold mn;split<;>assumption
theorem zd(a b:Rat):mn a b=a\/mn a b=b:=by
 unfold mn;split
 ·exact .inr rfl
 ·exact .inl rfl
theorem nS{a b c:Rat}(hc:c=a\/c=b)(h1:c<=a)(h2:c<=b):mn a b=c:=by
 rcases hc with rfl|rfl
 ·exact DV (gP _ _) (lK h1 h2)
 ·exact DV (kU _ _) (lK h1 h2)
theorem Rp{a b c:Rat}(h:a<=b)(hc:0<=c):a<=b+c:=eV h (by have:=(Rat.add_le_add_left (c:=b)).mpr hc;rwa [Rat.add_zero]at this)
section
variable (n:Nat)(own:Nat->Rat)(L:Nat->Option Nat)(r f:Int)
def Pz(g:Nat->Rat):Nat->Rat |0=>g n |k+1=>match L (n-(k+1))with |some m=>mn (g (n-(k+1))) (Pz g k+((f*(m:Int):Int):Rat)) |none=>g (n-(k+1))
def fl(g:Nat->Rat)(i:Nat):Rat:=Pz n L f g (n-i)
end
section
variable {n:Nat}{own g:Nat->Rat}{L:Nat->Option Nat}{r f:Int}
theorem xx:fl n L f g n=g n:=by unfold fl;rw[Lz];rfl
theorem xy{i m:Nat}(hi:i<n)(h:L i=some m):fl n L f g i=mn (g i) (fl n L f g (i+1)+((f*(m:Int):Int):Rat)):=by
 unfold fl;have e:n-i=(n-(i+1))+1:=by omega
 rw[e];show(match L (n-((n-(i+1))+1))with|some m=>_|none=>_)=_;have e2:n-((n-(i+1))+1)=i:=by omega
 rw[e2,h]
theorem xu{i:Nat}(hi:i<n)(h:L i=none):fl n L f g i=g i:=by
 unfold fl;have e:n-i=(n-(i+1))+1:=by lia
 rw[e];show(match L (n-((n-(i+1))+1))with|some m=>_|none=>_)=_;have e2:n-((n-(i+1))+1)=i:=by lia
 rw[e2,h]
theorem a4P{a:Int}{m:Nat}(h:0<=a):(0:Rat)<=((a*(m:Int):Int):Rat):=by have:((0:Int):Rat)<=((a*(m:Int):Int):Rat):=Rat.intCast_le_intCast.mpr (jI h aw);exact this
theorem down{C:Nat->Prop}(hn:C n)(hs:∀i,i<n->C (i+1)->C i):∀i,i<=n->C i:=by
 have key:∀k,k<=n->C (n-k):=λk=>by induction k with |zero=>intro _;exact hn |succ k ih=>
  intro hk;refine hs _ dM ?_;have e:n-(k+1)+1=n-k:=by omega
  rw[e];exact ih dM
 intro i hi;have:=key (n-i) dM;have e:n-(n-i)=i:=by omega
 rwa [e]at this
end
open Rt
theorem ze{n:Nat}{a b:Rat}(h1:Bd n a)(h2:Bd n b):Bd n (mn a b):=by rcases zd a b with e|e<;>rw[e]<;>assumption
theorem DB{n:Nat}{q:Rat}{z:Int}(h:Bd n q)(hz:z.natAbs<2^24):Bd (n+25) (q+(z:Rat)):=by have b:Bd 24 (z:Rat):=⟨hz,by show 1<2^24;decide⟩;exact(h.add b).mono aw
theorem Tj{n b:Nat}{g:Nat->Rat}{L:Nat->Option Nat}{f:Int}(ho:∀i,i<=n->Bd b (g i))(hL:∀i m,L i=some m->(f*(m:Int)).natAbs<2^24):∀i,i<=n->Bd (b+25*(n-i)) (fl n L f g i):=by
 refine down ?_ λi hi ih=>?_
 ·rw[xx];exact(ho n (bR _)).mono aw
 ·cases h:L i with |none=>rw[xu hi h];exact(ho i aw).mono aw |some m=>rw[xy hi h];exact ze ((ho i aw).mono aw) ((DB ih (hL i m h)).mono aw)
def lst(n:Nat)(g:Nat->Rat):List Rat:=(List.range (n+1)).map g
theorem rB(n:Nat)(g:Nat->Rat):(lst n g).length=n+1:=by simp[lst]
theorem rC{n:Nat}(g:Nat->Rat){i:Nat}(h:i<=n):(lst n g)[i]? =some (g i):=by unfold lst;rw[cH,cu (by simp;lia),vB];rfl
theorem a5s{n:Nat}{g g':Nat->Rat}{i:Nat}(h:∀k,k<=n->k≠i->g' k=g k):(lst n g).set i (g' i)=lst n g':=by
 apply tF;intro k;by_cases hk:k<=n
 ·rw[rC g' hk,List.getElem?_set]
  by_cases e:i=k
  ·subst e;rw[bp rfl,bp (by rw[rB];lia)]
  ·rw[bu e,rC g hk,h k hk (λz=>e z.symm)]
 ·rw[m3 (by rw[vz,rB];lia),m3 (by rw[rB];lia)]
theorem IB{n:Nat}{g g':Nat->Rat}(h:∀k,k<=n->g' k=g k):lst n g=lst n g':=by
 apply tF;intro k;by_cases hk:k<=n
 ·rw[rC g hk,rC g' hk,h k hk]
 ·rw[m3 (by rw[rB];lia),m3 (by rw[rB];lia)]
end Pn
namespace Ow
open Pn Cn Ln Rt
abbrev Itm:=Option (List Int × Int)
def topR(aD sp:Int):Rat:=Rat.divInt ((sp*aD)^2) 10000
def cornO(j:Int)(ns ms:List Int):Option Rat:=if aL (dy ns ms)=0 then none else some (Rat.divInt ((j*aL ns*aL ms)^2) ((aL (dy ns ms):Int)^2))
def mnO(a:Rat):Option Rat->Rat |none=>a |some c=>mn a c
def betR(j aD:Int):Itm->Itm->Rat |some (ns,sp),some (ms,sq)=>mnO (mn (topR aD sp) (topR aD sq)) (cornO j ns ms) |_,_=>0
def atO(os:List Itm)(i:Nat):Itm:=(os[i]?).join
def ownF(j aD:Int)(os:List Itm):Nat->Rat |0=>0 |i+1=>betR j aD (atO os i) (atO os (i+1))
def leadF(os:List Itm)(i:Nat):Option Nat:=(atO os i).map λq=>aL q.1
def ownL(j aD:Int)(os:List Itm):List Rat:=(List.range (os.length+1)).map (ownF j aD os)
theorem qj{os:List Itm}{i:Nat}{o:Itm}(h:os[i]? =some o):atO os i=o:=by unfold atO;rw[h];rfl
theorem acp{os:List Itm}{i:Nat}(h:os.length<=i):atO os i=none:=by unfold atO;rw[m3 h];rfl
theorem Dx(j aD:Int)(o:Itm):betR j aD o none=0:=by unfold betR;split<;>simp_all
theorem UY(j aD:Int)(o:Itm):betR j aD none o=0:=by unfold betR;split<;>simp_all
theorem HL(j aD:Int)(os:List Itm):∀n,n=os.length->ownF j aD os n=0 |0,_=>rfl |n+1,h=>by show betR j aD (atO os n) (atO os (n+1))=0;rw[acp (i:=n+1) aw];exact Dx _ _ _
theorem Q5(j aD:Int)(os:List Itm):(ownL j aD os).length=os.length+1:=by simp[ownL]
theorem Q6(j aD:Int)(os:List Itm){i:Nat}(h:i<=os.length):(ownL j aD os)[i]? =some (ownF j aD os i):=by unfold ownL;rw[cH,cu (by simp;lia),vB];rfl
theorem Q7(j aD:Int){os:List Itm}(h:os≠[]):ownL j aD os=[0]++(List.range (os.length-1)).map (λi=>ownF j aD os (i+1))++[0]:=by
 have h0:0<os.length:=LM.mpr h;apply tF;intro i;by_cases hi:i<=os.length
 ·rw[Q6 j aD os hi]
  rcases Nat.eq_zero_or_pos i with rfl|hp
  ·rfl
  ·by_cases hl:i=os.length
   ·rw[Ay (by simp;lia),hl,HL j aD os _ rfl]
    have:os.length-([0]++List.map (λi=>ownF j aD os (i+1)) (List.range (os.length-1))).length=0:=by simp;lia
    rw[this];rfl
   ·rw[xZ (by simp;lia),Ay (by simp;lia),cH]
    have e:i-[(0:Rat)].length=i-1:=rfl;rw[e,cu (by simp;lia),vB];show some _=some (ownF j aD os (i-1+1));rw[Nat.sub_add_cancel hp]
 ·rw[m3 (by rw[Q5];lia),m3 (by simp;lia)]
theorem AW(aD sp:Int):0<=topR aD sp:=by
 unfold topR;rw[xV aB,fZ,fZ,m4,lj];rcases Int.le_total 0 (sp*aD)with h|h
 ·exact jI h h
 ·exact Y5 h h
theorem ZQ(a:Int):0<=a^2:=by
 rw[fZ,fZ,m4,lj];rcases Int.le_total 0 a with h|h
 ·exact jI h h
 ·exact Y5 h h
theorem abv{j:Int}{ns ms:List Int}{c:Rat}(h:cornO j ns ms=some c):0<=c:=by
 unfold cornO at h;split at h
 ·cases h
 ·next h0=>
  cases h;rw[xV]
  ·exact ZQ _
  ·rw[fZ,fZ,m4,lj];exact iT aw aw
theorem ac9(j aD:Int)(o p:Itm):0<=betR j aD o p:=by
 unfold betR;split
 ·next ns sp ms sq=>
  have h:=lK (AW aD sp) (AW aD sq);unfold mnO;split
  ·exact h
  ·next c e=>exact lK h (abv e)
 ·exact qA
theorem Q9(j aD:Int)(os:List Itm):∀i,0<=ownF j aD os i |0=>qA |i+1=>ac9 _ _ _ _
def OkI(o:Itm):Prop:=∀ns sp,o=some (ns,sp)->(∀z∈ns,(z.natAbs:Int)<=100)/\1<=sp/\sp<=20
theorem Ey{a:Int}{m:Nat}(h:a.natAbs<=m):(a^2).natAbs<=m*m:=by rw[fZ,fZ,m4,lj];exact lI h h
theorem vI{aD sp:Int}(h1:1<=sp)(h2:sp<=20)(h3:10<=aD)(h4:aD<=200):Bd 64 (topR aD sp):=by
 have lR:(2:Nat)^64=18446744073709551616:=by decide
 have a:=Ey (lI (a:=sp) (b:=aD) (m:=20) (n:=200) aw aw);exact kS aB (by rw[lR];lia) aB
theorem Kt{j:Int}{ns ms:List Int}{c:Rat}(h1:1<=j)(h2:j<=50)(hn:∀z∈ns,(z.natAbs:Int)<=100)(hm:∀z∈ms,(z.natAbs:Int)<=100)(h:cornO j ns ms=some c):Bd 64 c:=by
 have lR:(2:Nat)^64=18446744073709551616:=by decide
 have cb:=Dn (λz hz=>by have:=hn z hz;lia) (λz hz=>by have:=hm z hz;lia) (ns:=ns) (ms:=ms);have hb:=nX cb;have l1:=nX (ns:=ns) (m:=100) λz hz=>by have:=hn z hz;lia
 have l2:=nX (ns:=ms) (m:=100) λz hz=>by have:=hm z hz;lia
 unfold cornO at h;split at h
 ·cases h
 ·next h0=>cases h;have a:=Ey (lI (lI (a:=j) (b:=(aL ns:Int)) (m:=50) (n:=100) aw aw) (b:=(aL ms:Int)) (n:=100) aw);have b:=Ey (a:=(aL (dy ns ms):Int)) (m:=2000000) aw;refine kS ?_ (by rw[lR];lia) (by rw[lR];lia);rw[fZ,fZ,m4,lj];exact LR aw aw
theorem ze{n:Nat}{a b:Rat}(h1:Bd n a)(h2:Bd n b):Bd n (mn a b):=by rcases zd a b with e|e<;>rw[e]<;>assumption
theorem M1:Bd 64 (0:Rat):=⟨ aB,aB⟩
theorem aca{j aD:Int}{o p:Itm}(h1:1<=j)(h2:j<=50)(h3:10<=aD)(h4:aD<=200)(ho:OkI o)(hp:OkI p):Bd 64 (betR j aD o p):=by
 unfold betR;split
 ·next ns sp ms sq=>
  obtain⟨a1,a2,a3⟩:=ho ns sp rfl;obtain⟨b1,b2,b3⟩:=hp ms sq rfl;have h:=ze (vI a2 a3 h3 h4) (vI b2 b3 h3 h4);unfold mnO;split
  ·exact h
  ·next c e=>exact ze h (Kt h1 h2 a1 b1 e)
 ·exact M1
def OkIs(os:List Itm):Prop:=∀i,OkI (atO os i)
theorem HM{j aD:Int}{os:List Itm}(h1:1<=j)(h2:j<=50)(h3:10<=aD)(h4:aD<=200)(ho:OkIs os):∀i,Bd 64 (ownF j aD os i) |0=>M1 |i+1=>aca h1 h2 h3 h4 (ho i) (ho (i+1))
end Ow
namespace Wk
open PySem L2
def fK(pl ns:List Int):List Int:=List.zipWith (λa b=>a+b) pl ns
theorem qo{pl ns:List Int}(h:ns.length=pl.length):(fK pl ns).length=pl.length:=by unfold fK;rw[List.length_zipWith,h];exact Nat.min_self _
theorem A4{pl ns:List Int}{i:Nat}{a b:Int}(h1:pl[i]? =some a)(h2:ns[i]? =some b):(fK pl ns)[i]? =some (a+b):=by unfold fK;rw[E5,h1,h2]
def qT(rs pl:List Int):Bool:=(pl.zip rs).all λp=>decide (0<=p.1)&&decide (p.1<=p.2)
structure fD(rs pl:List Int):Prop where
 len:pl.length=rs.length
 at':∀(i:Nat)(x r:Int),pl[i]? =some x->rs[i]? =some r->0<=x/\x<=r
theorem Qh{rs pl:List Int}(h:pl.length=rs.length):qT rs pl=true↔fD rs pl:=by
 unfold qT;rw[j7];constructor
 ·intro a
  refine⟨h,λi x r e1 e2=>?_⟩;have:=a (x,r) (gX ((xY (z:=(x,r))).mpr ⟨e1,e2⟩));rw[fE,tj,tj]at this;exact this
 ·rintro a ⟨x,r⟩ hp
  obtain⟨i,hi⟩:=qG.mp hp;obtain⟨e1,e2⟩:=(xY (z:=(x,r))).mp hi;have:=a.at' i x r e1 e2;rw[fE,tj,tj];exact this
end Wk
namespace L2
open PySem PySem.Spec PyProof.Rows
section
variable {X:Cx}
theorem a2o(K:aa)(h:X.K=K){o e:Expr}{to:TE}{t:TA}{apos cK:Pos}(ho:PE X o to)(ha:PA X [e] t) (jB:attributeBase o "extend" X.env (eval o X.env)=eval o X.env:=by rfl) (lO:((backTo cK (starEach [e] X.env)).all (λx=>!x.1)&&(backToKw cK (keywordEach [] X.env)).all (λx=>x.1.isSome) &&decide ([e].length+([]:List Keyword).length+(if([]:List Keyword).isEmpty then 0 else 1)<30))=true:=by rfl) (jz:(apos.endLine==cK.line)=true:=by rfl)(hs:starEach [e] X.env=(false,eval e X.env)::starEach [] X.env:=by rfl)(lL:(backTo cK (starEach [] X.env)).any (·.1)=false:=by rfl): PE X (.Call (.Attribute o "extend" apos) [e] [] cK) (tO K "list" Pw to t):=by subst h;exact wo Au PySem.F.slot_list_extend PySem.F.type_list_extend a4R ho ha jB lO jz hs lL
open PyProof
end
end L2
namespace L2
open PySem PySem.Spec PyProof.Rows
section
variable {K:aa} {H H' H2:Hp}
end
def Lc(z:Str):It:=⟨λi _=>i<z.cps.size,λi H x H'=>H'=H/\∃c,z.cps.toList[i]? =some c/\x= .str ⟨#[c]⟩,λi _=>z.cps.size<=i⟩
theorem YK{P:ah}{w:World}{K:aa}{tg:Expr}(it:Addr)(z:Str)(t:Tok)(ty:String)(zt:["enumerate","zip","dict_itemiterator","dict_reverseitemiterator","odict_iterator","itertools.zip_longest","itertools.pairwise"].contains ty=false) (W:∀A':aj,A'.handled=none->Walks P w A' it [it] [it] z.cps.size (SignAt z) (λi h=>h.IsStrIter it ty z t i)) (self:∀(A:aj)(i:Nat)(s:ae)(Q:Value->ae->Prop)(E:Value->ae->Prop),s.heap.IsStrIter it ty z t i->Q (.ref it) s->wpAny (model P w) A (pyIter (.ref it)) Q E s): Turn P w K tg (Lc z) [it] it (λi h=>h.IsStrIter it ty z t i/\i<=z.cps.size) where
 mem:=by simp
 obj:=λi h st b hb=>by
  have e:b=it:=by simpa using hb
  subst e;obtain⟨⟨o,e,c,d⟩,_⟩:=st;exact⟨o,e,λv z=>by rw[d]at z;cases z⟩
 keep:=λi h h' st k=>⟨let⟨o,e,r⟩:=st.1;⟨o,k it (by simp) o e,r⟩,st.2⟩
 item:=by intro X hP hw hK hc i ay s O H E I hf st hg;subst hP hw hK;obtain⟨f0,f1,f2,f3,f4,f5⟩:=hf it (by simp);refine(W X.A (I.ok.hd hc)).item i s _ _ hg st.1 λv h' tk hv gY kk=>?_;obtain⟨c,u,ec,rfl⟩:=hv;have I1:Inv X ay O H {s with heap:=h',toks:=tk}:=I.turned (λb o hb e=>kk b o (by simpa using hb) e) f0 f1 f3 f4 f5;obtain⟨o,e,cl,d⟩:=id gY;exact⟨_,Z,xp (s:={s with heap:=h',toks:=tk}) e cl d zt ⟨.str ⟨#[c]⟩,H,I1,⟨u,Z⟩,⟨Z,c,by simpa using ec,Z⟩,⟨gY,hg⟩,λb hb=>(hf b hb).1⟩⟩
 done:=by intro X hP hw hK hc i ay s O H E I hf st hg;subst hP hw hK;obtain⟨f0,f1,f2,f3,f4,f5⟩:=hf it (by simp);obtain⟨st,hle⟩:=st;have ei:i=z.cps.size:=Nat.le_antisymm hle hg;subst ei;exact(W X.A (I.ok.hd hc)).done s _ _ st λh' tk eb=>⟨Z,I.turned (λb o hb e=>eb b o (by simpa using hb) e) f0 f1 f3 f4 f5⟩
 self:=λA i s Q E st h=>self A i s Q E st.1 h
section
variable {X:Cx} {tg:Expr}
inductive Xk(R:It->Hp->Prop)(x:V)(H1:Hp):Prop |mk (z:_)(h0:x= .str z)(h1:R (Lc z) H1):Xk R x H1
def a6t(tl:TE):TI:=λO H R=>tl O H λx H1=>Xk R x H1
theorem a26{l:Expr}{tl:TE}(hl:PE X l tl):PI X tg l (a6t tl):=by
 intro ay s O H R I h;refine bo (hl ay s O H _ I h) λv s1 ⟨x,H1,I1,r1,q1⟩=>?_;obtain⟨z,e,q⟩:=q1;subst e;obtain⟨t,rfl⟩:=r1;have fin:∀ty,["enumerate","zip","dict_itemiterator","dict_reverseitemiterator","odict_iterator","itertools.zip_longest","itertools.pairwise"].contains ty=false->(∀A':aj,A'.handled=none->Walks X.prog X.w A' s1.heap.objs.size [s1.heap.objs.size] [s1.heap.objs.size] z.cps.size (SignAt z) (λi h=>h.IsStrIter s1.heap.objs.size ty z t i))->(∀(A:aj)(i:Nat)(s:ae)(Q:Value->ae->Prop)(E:Value->ae->Prop),s.heap.IsStrIter s1.heap.objs.size ty z t i->Q (.ref s1.heap.objs.size) s->wpAny (model X.prog X.w) A (pyIter (.ref s1.heap.objs.size)) Q E s)->DJ X ay O tg R (.ref s1.heap.objs.size) {s1 with heap:=s1.heap.push {cls:=.type ty,data:=.fields #[.str z t,.int 0 0]}}:=λty h1 h2 h3=>by
  refine⟨s1.heap.objs.size,[s1.heap.objs.size],_,_,H1,Z,I1.kept (t':=s1.toks) λb o e=>cI _ e,YK _ z t ty h1 h2 h3,⟨⟨_,fq _ Z,Z,Z⟩,gj _⟩,λb hb=>?_,q⟩;have e:b=s1.heap.objs.size:=by simpa using hb
  subst e;exact I1.pV (bR _) (I1.bj.fresh (bR _))
 cases ha:z.cps.all (·<128)
 ·exact wpAny_pyIter_wide ha (fin "str_iterator" aB (λA' hA=>Walks.strWide hA _ z t) (λ_ _ _ _ _ st h=>wpAny_pyIter_striter_wide st h))
 ·exact wpAny_pyIter_ascii ha (fin "str_ascii_iterator" aB (λA' hA=>Walks.strAscii hA _ z t) (λ_ _ _ _ _ st h=>wpAny_pyIter_striter_ascii st h))
theorem abB{z:Str}{f:Nat->Bool}{te:TE}{Q:VK}{D:Addr}{H H0:Hp}(rest:St)(nw:Nw H H0 D (.lst []))(hz:z.length<=1000) (hs:∀(c:Nat)(H2:Hp)(Q':VK),c∈z.cps.toList->aG H H2->(∀H3,aG H2 H3->Q' (.bl (f c)) H3)->te (some (.str ⟨#[c]⟩)::rest) H2 Q') (hq:∀H',aG H H'->H' D=some (.lst ((z.cps.toList.map f).map V.bl))->Q (.ref D) H'):j6 (Lc z) (fA 0) iC te Q D (none::rest) H0:=by
 have hl:z.cps.toList.length=z.cps.size:=by simp
 refine Ku (xs:=z.cps.toList.map λc=>V.str ⟨#[c]⟩) (bs:=z.cps.toList.map f) rest nw (by simp) (by simpa[Str.length]using hz) ?_ ?_ ?_ hq
 ·intro i x H2 ex s2
  rw[cH]at ex;cases ec:z.cps.toList[i]? with |none=>rw[ec]at ex;cases ex |some c=>rw[ec]at ex;cases ex;refine⟨by have:=(dQ.mp ec).1;show i<z.cps.size;omega,λy H3 ⟨e3,c',U6,e⟩=>⟨e3,?_⟩⟩;rw[ec]at U6;cases U6;exact e
 ·intro H2 s2
  show z.cps.size<=(z.cps.toList.map _).length;rw[cB,hl];exact bR _
 ·intro i x b H2 Q' ex eb s2 kx
  rw[cH]at ex eb;cases ec:z.cps.toList[i]? with |none=>rw[ec]at ex;cases ex |some c=>rw[ec]at ex eb;cases ex;cases eb;exact hs c H2 Q' (gX ec) s2 kx
theorem a2F:dH X (compareOp .In) (λx y H Q=>∃c j,x= .str ⟨#[c]⟩/\y= .str j/\Q (.bl (decide (c∈j.cps.toList))) H):=by intro ay s O H x y v u Q I rx ry h;obtain⟨c,j,rfl,rfl,q⟩:=h;refine a2E ay s O H _ _ v u Q I rx ry ⟨_,_,Z,Z,?_⟩;rw[PySem.StrLaws.found_one];exact q
inductive X9(K:aa)(x:V)(y:V)(H:Hp)(Q:VK):Prop |mk (p:_)(xs:_)(d:_)(ds:_)(h0:y= .ref p)(h1:aU K H p xs)(h2:RD K H x d)(h3:aP K H xs ds)(h4:SeqAt.shaped d=true)(h5:(∀e∈ds,SeqAt.shaped e=true))(h6:Q (.bl (ds.any λe=>PyData.eqv e d)) H):X9 K x y H Q
def a1G(K:aa):R2:=λx y H Q=>X9 K x y H Q
theorem a6p(K:aa)(hK:X.K=K)(hu:X.A.units+65<cLine):dH X (compareOp .In) (a1G K):=by
 subst hK;intro ay s O H x y v u Q I rx ry h;obtain⟨p,xs,d,ds,rfl,hx,hd,rO,sd,sds,q⟩:=h;cases ry;obtain⟨its,r,pl,hz⟩:=I.tuple hx;obtain⟨k1,k2⟩:=TJ I hu rx hd sd r rO sds;refine SeqAt.in_tupleAt (uX s.heap d) (show s.heap.IsTuple p its.toArray from pl) (λw hw=>k1 w (by simpa using hw)) ⟨.bl _,H,I,Z,?_⟩;have e:its.toArray.any (uX s.heap d)=ds.any λe=>PyData.eqv e d:=by rw[<-k2];simp
 rw[e];exact q
end
def xQ(lo:Int)(n:Nat):It:=⟨λi _=>i<n,λi H x H'=>H'=H/\x= .int (lo-i),λi _=>n<=i⟩
theorem YQ{P:ah}{w:World}{K:aa}{tg:Expr}(it:Addr)(lo:Int)(n:Nat):Turn P w K tg (xQ lo n) [it] it (λi h=>IsRangeIter h it (lo+(i:Nat)*(-1)) ((n:Int)-(i:Nat)) (-1)) where
 mem:=by simp
 obj:=λi h st b hb=>by
  have e:b=it:=by simpa using hb
  subst e;exact⟨_,st,λv z=>by have z':Data.fields _=Data.cell v:=z;cases z'⟩
 keep:=λi h h' st k=>k it (by simp) _ st
 item:=by
  intro X hP hw hK hc i ay s O H E I hf st hg;subst hP hw hK;obtain⟨f0,f1,f2,f3,f4,f5⟩:=hf it (by simp);have W:=Walks.range (prog:=X.prog) (w:=X.w) (I.ok.hd hc) it lo (-1) n;refine W.item i s _ _ hg st λv h' tk hv gY kk=>?_;obtain⟨t,rfl⟩:=hv;have I1:Inv X ay O H {s with heap:=h',toks:=tk}:=I.turned (λb o hb e=>kk b o (by simpa using hb) e) f0 f1 f3 f4 f5;refine⟨_,Z,xp (s:={s with heap:=h',toks:=tk}) (n:="range_iterator") gY rfl rfl aB ⟨.int (lo-i),H,I1,⟨t,?_⟩,⟨Z,Z⟩,gY,λb hb=>(hf b hb).1⟩⟩;have e:lo+(i:Int)*(-1)=lo-i:=by lia
  rw[e]
 done:=by intro X hP hw hK hc i ay s O H E I hf st hg;subst hP hw hK;obtain⟨f0,f1,f2,f3,f4,f5⟩:=hf it (by simp);exact XE (I.ok.hd hc) st (by have:n<=i:=hg;lia) λh' eb=>⟨Z,I.turned (t':=s.toks) (λb o hb e=>eb b o hb e) f0 f1 f3 f4 f5⟩
 self:=λ_ _ _ _ _ st h=>Lk st h
theorem ZV{a b:Int}(ha:-(2^62)<=a)(Sz:a<2^62)(hb:-(2^62)<=b)(kX:b<2^62):Builtin.Range.small a b (-1)=true:=by unfold Builtin.Range.small Builtin.Range.rangeSize;rw[bu aB,show(-(-1):Int)=1 by decide,Int.ediv_one];simp only[Builtin.Range.rangeFitsLong,fE,Bool.or_eq_true,DS,gh,show¬((-1:Int)>0) by decide,if_false];split<;>lia
theorem a04(a b:Int):Builtin.Range.rangeSize a b (-1)=(((a-b).toNat:Nat):Int):=by unfold Builtin.Range.rangeSize;rw[bu aB,show(-(-1):Int)=1 by decide,Int.ediv_one];split<;>lia
inductive Xl(R:It->Hp->Prop)(vs:List V)(H1:Hp):Prop |mk (i:Int)(j:Int)(h0:vs=[.int i,.int j,.int (-1)])(h1:(-(2^62)<=i/\i<2^62/\-(2^62)<=j/\j<2^62))(h2:R (xQ i (i-j).toNat) H1):Xl R vs H1
def a6u(ta:TA):TI:=λO H R=>ta O H λvs H1=>Xl R vs H1
section
variable {X:Cx} {tg:Expr}
theorem a1u{ay:List (Addr×Obj)}{O:St}{H:Hp}{s:ae}{R:It->Hp->Prop}{E:Value->ae->Prop}{lo hi:Int}{t u v:Tok}{tk:Nat}(I:Inv X ay O H s)(h1:-(2^62)<=lo)(h2:lo<2^62)(h3:-(2^62)<=hi)(h4:hi<2^62) (q:R (xQ lo (lo-hi).toNat) H):wpAny (model X.prog X.w) X.A (pyIter (.ref s.heap.objs.size)) (DJ X ay O tg R) E {s with heap:=s.heap.push {cls:=.type "range",data:=.fields #[.int lo t,.int hi u,.int (-1) v]},toks:=tk}:=by
 refine wpAny_pyIter_range (IsRange.new ..) (ZV h1 h2 h3 h4) ?_;have I1:Inv X ay O H {s with heap:=s.heap.push {cls:=.type "range",data:=.fields #[.int lo t,.int hi u,.int (-1) v]},toks:=tk}:=I.kept λb o e=>cI _ e;refine⟨(s.heap.push {cls:=.type "range",data:=.fields #[.int lo t,.int hi u,.int (-1) v]}).objs.size,[(s.heap.push {cls:=.type "range",data:=.fields #[.int lo t,.int hi u,.int (-1) v]}).objs.size],_,_,H,Z,I1.kept (t':=tk) λb o e=>cI _ e,YQ _ lo (lo-hi).toNat,?_,λb hb=>?_,q⟩
 ·have e1:lo+((0:Nat):Int)*(-1)=lo:=by simp
  have e2:(((lo-hi).toNat:Nat):Int)-((0:Nat):Int)=Builtin.Range.rangeSize lo hi (-1):=by rw[a04];lia
  show IsRangeIter _ _ (lo+((0:Nat):Int)*(-1)) ((((lo-hi).toNat:Nat):Int)-((0:Nat):Int)) (-1);rw[e1,e2];exact fq _ rfl
 ·have e:b=(s.heap.push {cls:=.type "range",data:=.fields #[.int lo t,.int hi u,.int (-1) v]}).objs.size:=by simpa using hb
  subst e;exact I1.pV (bR _) (I1.bj.fresh (bR _))
theorem a28{a b c:Expr}{ta:TA}{p pos:Pos}(hg:Gl X "range")(hm:X.mg "range"=none)(ha:PA X [a,b,c] ta)(hs:starEach [a,b,c] X.env=[(false,eval a X.env),(false,eval b X.env),(false,eval c X.env)]:=by rfl)(jy:starEach [b,c] X.env=[(false,eval b X.env),(false,eval c X.env)]:=by rfl): PI X tg (.Call (.Name "range" p) [a,b,c] [] pos) (a6u ta):=by intro ay s O H R I h;refine Call_ (pF I hg hm boot_range (xX (bo (ha pos ay s O H _ I h) λus s1 ⟨vs,H1,I1,r1,q1⟩=>?_) (by rw[hs,jy]) (by rw[jy];rfl)));obtain⟨i,j,e,⟨q1,q2,q3,q4⟩,q⟩:=q1;subst e;cases r1 with |cons r rr=>cases rr with |cons r' rr=>cases rr with |cons r'' rr=>cases rr;obtain⟨t,rfl⟩:=r;obtain⟨t',rfl⟩:=r';obtain⟨t'',rfl⟩:=r'';exact call_range_3 aB (a1u I1 q1 q2 q3 q4 q) (Or.inl (PyProof.noPylong_small aw))
theorem a9j{lo:Int}{n:Nat}{g:TG}{tb:TS}{D:Ends}{O:St}{H:Hp}(Pv:Nat->St->Hp->Prop)(h0:Pv 0 O H) (hs:∀i O H,i<n->Pv i O H->g (.int (lo-i)) O H λσ2 H2=>tb {D with nx:=Pv (i+1),ct:=Pv (i+1),bk:=D.nx} σ2 H2)(hd:∀O H,Pv n O H->D.nx O H): ∃W:Nat->Nat->St->Hp->Prop,(∃m,W 0 m O H)/\∀i m O H,W i m O H->((xQ lo n).stop i H/\D.nx O H)\/((xQ lo n).go i H/\∃N:St->Hp->Prop,(∀σ' H',N σ' H'->∃m',m'<m/\W (i+1) m' σ' H')/\∀x H',(xQ lo n).kg i H x H'->g x O H' λσ2 H2=>tb {D with nx:=N,ct:=N,bk:=D.nx} σ2 H2):=by
 refine⟨λi m O H=>m=n-i/\i<=n/\Pv i O H,⟨n,by simp,gj _,h0⟩,?_⟩;rintro i m O H ⟨rfl,hi,hp⟩;by_cases h:i<n
 ·refine .inr ⟨h,Pv (i+1),λσ' H' wZ=>⟨n-(i+1),aw,Z,aw,wZ⟩,?_⟩
  rintro x H' ⟨rfl,rfl⟩;exact hs i O H' h hp
 ·have e:i=n:=by lia
  subst e;exact .inl ⟨bR _,hd O H hp⟩
end
theorem Uv{K:aa}{b1 b2:Bool}{l1 l2:Addr}{xs ys:List V}{bs:List Bool}{te:TE}{Q:VK}{D:Addr}{H H0:Hp}{n:Nat}(rest:St)(hn:n=2)(h1:fm b1 K H l1 xs)(h2:fm b2 K H l2 ys)(nw:Nw H H0 D (.lst [])) (hl:min xs.length ys.length=bs.length)(hz:bs.length<=100000) (hs:∀(i:Nat)(x y:V)(b:Bool)(H2:Hp)(Q':VK),xs[i]? =some x->ys[i]? =some y->bs[i]? =some b->aG H H2->(∀H3,aG H2 H3->Q' (.bl b) H3)->te (some x::some y::rest) H2 Q') (hq:∀H',aG H H'->H' D=some (.lst (bs.map V.bl))->Q (.ref D) H'):j6 (mX K b1 b2 l1 l2) (pU K n (ky (fA 0) (ky (fA 1) rW))) iC te Q D (none::none::rest) H0:=by
 subst hn;have hD:=nw.no;refine sj bs.length (λi O H2=>aG H H2/\H2 D=some (.lst ((bs.take i).map V.bl))/\∃v v',O=v::v'::rest) ?_ ?_ ?_
 ·exact⟨nw.same,nw.at',none,none,Z⟩
 ·rintro i O H2 hi ⟨s2,d2,v,v',rfl⟩
  have hx:i<xs.length:=by lia
  have hy:i<ys.length:=by lia
  have ex:=cu hx;have ey:=cu hy;have eb:=cu hi;refine⟨⟨xs,ys,_,_,h1.go s2,h2.go s2,ex,ey⟩,λy' H3 kr=>?_⟩;obtain⟨T,x0,y0,rfl,k1,k2,n3⟩:=kr;have e1:=k1 _ (h1.go s2);have e2:=k2 _ (h2.go s2);rw[ex]at e1;rw[ey]at e2;cases e1;cases e2;refine⟨T,_,Z,aU.of n3.at',Z,_,_,Z,_,_,Z,Z,?_⟩;refine yes (cf ?_);refine hs i _ _ _ _ _ ex ey eb (s2.trans n3.same) λH4 s4=>?_;refine⟨_,s4 _ _ (n3.same _ _ d2),?_,bs.length-(i+1),aw,Z,aw,λb o e=>?_,?_,_,_,Z⟩
  ·rw[cB,oS]
   have:(100000:Nat)<sizeLine:=by decide
   lia
  ·rw[aK (gy e hD)];exact s4 b o (n3.same b o (s2 b o e))
  ·rw[bf,qF,eb,oQ];rfl
 ·rintro O H2 ⟨s2,d2,v,v',rfl⟩
  refine⟨⟨xs,ys,h1.go s2,h2.go s2,aw⟩,hq H2 s2 ?_⟩;rw[d2,vx]
structure MA(K:aa)(C:Addr)(m qual:Str)(st:Stmt):Prop where ex:∃f fd,Meth K C m f/\kG K m qual st f fd
def cN(P:ah)(w:World)(K:aa)(mg:Str->Option Value)(base:Heap)(C:Addr)(m:Str)(k:Nat)(sp:Sp):Prop:=∃f fd ps,jj P w K mg base jG k f fd ps sp/\Meth K C m f/\Binds K fd ps []
structure CA(K:aa)(mg:Str->Option Value)(C:Addr)(x qual:Str)(st:Stmt):Prop where
 mgC:mg x=some (.ref C)
 ex:∃f fd,Mk K C f/\kG K "__init__" qual st f fd
def DL(P:ah)(w:World)(K:aa)(mg:Str->Option Value)(base:Heap)(C:Addr)(x:Str)(k:Nat)(sp:Sp):Prop:=∃f fd ps,jj P w K mg base jG k f fd ps sp/\Mk K C f/\Binds K fd ps []/\mg x=some (.ref C)
section
variable {P:ah}{w:World}{K:aa}{mg:Str->Option Value}{base:Heap}
theorem iK{C:Addr}{m qual:Str}{st:Stmt}{f:Addr}{oc:Value}{od an:Option Addr}{gF:Array (Option Value)}{kV doc pm aQ ct:Value} (a:PySem.W.findIn K (.ref C) m=some (some (.ref f)))(i:PySem.W.isFn K (.ref f)=true) (l:K.lookup f=some ⟨oc,od,.func (PySem.W.fnOf m qual (kD st) (gW st) (aZ st) .none kV doc pm an aQ ct),gF⟩) (c:PySem.W.codeIn K aQ qual=true)(k:PySem.W.keepIn K (.ref f)=true):MA K C m qual st:=⟨f,_,⟨a,i,k⟩,CW l c k⟩
theorem abX{h:Heap}{C:Addr}{x qual:Str}{st:Stmt}{f:Addr}{oc:Value}{od an:Option Addr}{gF:Array (Option Value)}{kV doc pm aQ ct:Value}(X:K.In h)(G:h.Ns mainGlobals mg) (aC:PySem.W.nsIn K mainGlobals x=some (some (.ref C)))(mk:PySem.W.makesIn K C=true)(kc:PySem.W.keepIn K (.ref C)=true) (a:PySem.W.findIn K (.ref C) "__init__"=some (some (.ref f)))(i:PySem.W.isFn K (.ref f)=true) (l:K.lookup f=some ⟨oc,od,.func (PySem.W.fnOf "__init__" qual (kD st) (gW st) (aZ st) .none kV doc pm an aQ ct),gF⟩) (c:PySem.W.codeIn K aQ qual=true)(k:PySem.W.keepIn K (.ref f)=true):CA K mg C x qual st:=⟨xW X G aC,f,_,⟨mk,a,i,kc⟩,CW l c k⟩
theorem MA.has{C:Addr}{m qual:Str}{st:Stmt}{N ps:List Str}{k:Nat}{sp:Sp}(F:MA K C m qual st)(S:bF N ps (aZ st))(len:∀vs H Q E,sp vs H Q E->vs.length=ps.length) (hb:∀(kV doc pm:Value)(an:Option Addr)(aQ ct:Value)(us:List Value),us.length=ps.length->bindArgs (PySem.W.fnOf m qual (kD st) (gW st) (aZ st) .none kV doc pm an aQ ct) ⟨us,[]⟩=pure (ps.zip us)) (iX:∀(f:Addr)(aQ:Value)(A:aj)(outer:List Env)(s:ae)(H:Hp)(vs:List V)(Q:VK)(E:XK),cQ k (A.deeper (envOfC qual (aZ st) s.heap.objs.size f aQ))->sp vs H Q E->∃t,iy (ji jG P w K mg base N qual (aZ st) f aQ A outer s H E).pE (gW st) t/\t {nx:=λ_ H'=>Q .bw H',rt:=Q} (start N vs) H):cN P w K mg base C m (k+1) sp:=by obtain⟨f,fd,hm,F⟩:=F.ex;exact⟨f,fd,ps,F.ok S len λaQ A outer s H vs Q E=>iX f aQ A outer s H vs Q E,hm,F.binds hb⟩
theorem CA.has{C:Addr}{x qual:Str}{st:Stmt}{N ps:List Str}{k:Nat}{sp:Sp}(F:CA K mg C x qual st)(S:bF N ps (aZ st))(len:∀vs H Q E,sp vs H Q E->vs.length=ps.length) (hb:∀(kV doc pm:Value)(an:Option Addr)(aQ ct:Value)(us:List Value),us.length=ps.length->bindArgs (PySem.W.fnOf "__init__" qual (kD st) (gW st) (aZ st) .none kV doc pm an aQ ct) ⟨us,[]⟩=pure (ps.zip us)) (iX:∀(f:Addr)(aQ:Value)(A:aj)(outer:List Env)(s:ae)(H:Hp)(vs:List V)(Q:VK)(E:XK),cQ k (A.deeper (envOfC qual (aZ st) s.heap.objs.size f aQ))->sp vs H Q E->∃t,iy (ji jG P w K mg base N qual (aZ st) f aQ A outer s H E).pE (gW st) t/\t {nx:=λ_ H'=>Q .bw H',rt:=Q} (start N vs) H):DL P w K mg base C x (k+1) sp:=by obtain⟨f,fd,hm,F'⟩:=F.ex;exact⟨f,fd,ps,F'.ok S len λaQ A outer s H vs Q E=>iX f aQ A outer s H vs Q E,hm,F'.binds hb,F.mgC⟩
end
section
variable {X:Cx}{k:Nat}{x m:Str}{C:Addr}{p pos apos:Pos}{o e:Expr}{es:List Expr}{t:TA}{ta:TE}{sp:Sp}
inductive Le(C:Addr)(m:Str)(sp:Sp)(t:TA)(O:St)(Q:VK)(x:V)(H1:Hp):Prop |mk (a:_)(dx:_)(fs:_)(h0:x= .ref a)(h1:H1 a=some (.ins C dx fs))(h2:fs.lookup m=none)(h3:t O H1 λvs H2=>sp (x::vs) H2 Q E0):Le C m sp t O Q x H1
def Mw(C:Addr)(m:Str)(sp:Sp)(ta:TE)(t:TA):TE:=λO H Q=>ta O H λx H1=>Le C m sp t O Q x H1
theorem QH{O:St}{Q:VK}{x:V}{H1:Hp}:sW C m sp [] E0 t O Q x H1=Le C m sp t O Q x H1:=by
 have e1:(λ(vs:List V) H1=>sp (x::(vs++[])) H1 Q E0)=λvs H1=>sp (x::vs) H1 Q E0:=by funext vs H1;rw[E7]
 refine propext ⟨λ⟨a,dx,fs,h0,h1,h2,h3⟩=>⟨a,dx,fs,h0,h1,h2,?_⟩,λ⟨a,dx,fs,h0,h1,h2,h3⟩=>⟨a,dx,fs,h0,h1,h2,?_⟩⟩
 ·rw[<-e1];exact h3
 ·rw[e1];exact h3
theorem yN{pl:Sem Bool}(F:cN X.prog X.w X.K X.mg X.base C m k sp)(c:jX X.K C)(hr:cQ k X.A)(he:PE X o ta)(ha:PA X (e::es) t) (iq:starEach (e::es) X.env=(false,eval e X.env)::starEach es X.env:=by rfl)(gH:(backTo pos (starEach es X.env)).any (·.1)=false:=by rfl) (ht:eval (.Call (.Attribute o m apos) (e::es) [] pos) X.env=(do
 let ov<-eval o X.env
 standAt apos.atName
 let(f,first)<-holding [ov] (getMethod ov m pl)
 callWith pos f first (backTo pos (starEach (e::es) X.env)) (backToKw pos (keywordEach [] X.env))):=by rfl): PE X (.Call (.Attribute o m apos) (e::es) [] pos) (Mw C m sp ta t):=by
 obtain⟨f,fd,ps,F,hm,hb⟩:=F;have h:=PR (pos:=pos) (apos:=apos) (pl:=pl) he c hm F hr hb .nil BF ha iq gH ht;intro ay s O H Q I hq;refine h ay s O H Q I ?_;show ta O H λx H1=>sW C m sp [] E0 t O Q x H1;simp only[QH];exact hq
theorem gs{pl:Sem Bool}(F:cN X.prog X.w X.K X.mg X.base C m k sp)(c:jX X.K C)(hr:cQ k X.A)(he:PE X o ta) (ht:eval (.Call (.Attribute o m apos) [] [] pos) X.env=(do
 let ov<-eval o X.env
 standAt apos.atName
 let(f,first)<-holding [ov] (getMethod ov m pl)
 callWith pos f first (backTo pos (starEach [] X.env)) (backToKw pos (keywordEach [] X.env))):=by rfl): PE X (.Call (.Attribute o m apos) [] [] pos) (Mw C m sp ta kM):=by
 obtain⟨f,fd,ps,F,hm,hb⟩:=F;have h:=PQ (pos:=pos) (apos:=apos) (pl:=pl) he c hm F hr hb .nil BF ht;intro ay s O H Q I hq;refine h ay s O H Q I ?_;show ta O H λx H1=>sW C m sp [] E0 kM O Q x H1;simp only[QH];exact hq
def Zj(C:Addr)(sp:Sp)(t:TA):TE:=λO H Q=>t O H λvs H1=>∀x dx,H1 x=none->H1 dx=none->dx≠x->sp (.ref x::vs) (upd (upd H1 dx (.own x)) x (.ins C dx [])) (λv H2=>v= .bw/\Q (.ref x) H2) E0
theorem a2e(F:DL X.prog X.w X.K X.mg X.base C x k sp)(hr:cQ (k+1) X.A)(hg:Gl X x)(ha:PA X (e::es) t)(jA:(x==("__debug__":Str))=false:=by decide) (he:starEach (e::es) X.env=(false,eval e X.env)::starEach es X.env:=by rfl)(gH:(backTo pos (starEach es X.env)).any (·.1)=false:=by rfl): PE X (.Call (.Name x p) (e::es) [] pos) (Zj C sp t):=by
 obtain⟨f,fd,ps,F,M,hb,hm⟩:=F;have h:=a2f (pos:=pos) (p:=p) M F hr hg hm hb .nil BF ha jA he gH;intro ay s O H Q I hq;refine h ay s O H Q I ?_;have e1:(λ(vs:List V) H1=>∀x dx,H1 x=none->H1 dx=none->dx≠x->sp (.ref x::(vs++[])) (upd (upd H1 dx (.own x)) x (.ins C dx [])) (λv H2=>v= .bw/\Q (.ref x) H2) E0) =λvs H1=>∀x dx,H1 x=none->H1 dx=none->dx≠x->sp (.ref x::vs) (upd (upd H1 dx (.own x)) x (.ins C dx [])) (λv H2=>v= .bw/\Q (.ref x) H2) E0:=by funext vs H1;rw[E7]
 show t O H λvs H1=>∀x dx,H1 x=none->H1 dx=none->dx≠x->sp (.ref x::(vs++[])) (upd (upd H1 dx (.own x)) x (.ins C dx [])) (λv H2=>v= .bw/\Q (.ref x) H2) E0;rw[e1];exact hq
inductive Xy(C:Addr)(x:Str)(Q:VK)(v:V)(H1:Hp):Prop |mk (a dx:Addr)(fs:List (Str×V))(u:V)(h0:v= .ref a)(h1:H1 a=some (.ins C dx fs))(h2:fs.lookup x=some u)(h3:Q u H1):Xy C x Q v H1
theorem cS(T:jX X.K C)(hn:jD X.K C x)(he:PE X e ta)(hb:attributeBase e x X.env (eval e X.env)=eval e X.env:=by rfl): PE X (.Attribute e x pos) (λO H Q=>ta O H λv H1=>Xy C x Q v H1):=by intro ay s O H Q I h;refine acm hb (bo (he ay s O H _ I h) λu s1 ⟨v,H1,I1,rx,a,dx,fs,w,ex,ea,l,q⟩=>?_);subst ex;obtain rfl:u=Value.ref a:=rx;exact T4 I1 ea T hn l λu' s2 I2 ru=>⟨w,H1,I2,ru,q⟩
inductive Xu(C:Addr)(x:Str)(D:Ends)(O:St)(y v:V)(H2:Hp):Prop |mk (a dx:Addr)(fs:List (Str×V))(h0:v= .ref a)(h1:H2 a=some (.ins C dx fs))(h2:fs.length<1000)(h3:D.nx O (upd H2 a (.ins C dx (jo x y fs)))):Xu C x D O y v H2
inductive Xw(C a:Addr)(x:Str)(D:Ends)(O:St)(z:V)(H3:Hp):Prop |mk (vc:Addr)(fs':List (Str×V))(h0:H3 a=some (.ins C vc fs'))(h1:fs'.length<1000)(h2:D.nx O (upd H3 a (.ins C vc (jo x z fs')))):Xw C a x D O z H3
inductive Xx(C:Addr)(x:Str)(tv:TE)(rd:V->V->Hp->VK->Prop)(D:Ends)(O:St)(v:V)(H1:Hp):Prop |mk (a dx:Addr)(fs:List (Str×V))(u:V)(h0:v= .ref a)(h1:H1 a=some (.ins C dx fs))(h2:fs.lookup x=some u)(h3:tv O H1 λy H2=>rd u y H2 λz H3=>Xw C a x D O z H3):Xx C x tv rd D O v H1
theorem ie{value:Expr}{tv:TE}{pos':Pos}(T:jX X.K C)(hn:jD X.K C x)(ha:PE X o ta)(hv:PE X value tv)(hs:swapsWith value (some (.Attribute o x pos')) pos.line X.env=pure false:=by rfl): PS X (.Assign [.Attribute o x pos'] value pos) (λD O H=>tv O H λy H1=>ta O H1 λv H2=>Xu C x D O y v H2):=by intro ay s O H D I h;refine plainObj_wpAny_Assign_Attribute (bo (hv ay s O H _ I h) λu s1 ⟨y,H1,I1,ry,q⟩=>bo (ha ay s1 O H1 _ I1 q) λov s2 ⟨v,H2,I2,rx,a,dx,fs,ex,ea,l,q2⟩=>?_) hs;subst ex;obtain rfl:ov=Value.ref a:=rx;exact NB I2 ea T hn l ry λs3 I3=>⟨O,_,I3,q2⟩
theorem a1U{op:Operator}{rd:V->V->Hp->VK->Prop}{value:Expr}{tv:TE}{oX:Pos}(T:jX X.K C)(hn:jD X.K C x)(ha:PE X o ta)(hv:PE X value tv)(hop:acX X op rd): PS X (.AugAssign (.Attribute o x oX) op value pos) (λD O H=>ta O H λv H1=>Xx C x tv rd D O v H1):=by intro ay s O H D I h;refine wpAny_AugAssign_AttributeAny (bo (ha ay s O H _ I h) λov s1 ⟨v,H1,I1,rx,a,dx,fs,u,ex,ea,l,q⟩=>?_);subst ex;obtain rfl:ov=Value.ref a:=rx;refine T4 I1 ea T hn l λu s2 I2 ru=>bo (hv ay s2 O H1 _ I2 q) λw3 s3 ⟨y,H2,I3,ry,q3⟩=>bo (hop ay s3 O H2 _ y u w3 _ I3 ru ry q3) λw4 s4 ⟨z,H3,I4,rz,vc,fs',oq,l',q4⟩=>?_;exact NB I4 oq T hn l' rz λs5 I5=>⟨O,_,I5,q4⟩
end
def bc(S:List Addr)(H H':Hp):Prop:=∀b o,H b=some o->b∉S->H' b=some o
theorem bc.refl(S:List Addr)(H:Hp):bc S H H:=λ_ _ e _=>e
theorem bc.of{S:List Addr}{H H':Hp}(s:aG H H'):bc S H H':=λb o e _=>s b o e
theorem bc.trans{S:List Addr}{H H1 H2:Hp}(a:bc S H H1)(b:bc S H1 H2):bc S H H2:=λc o e n=>b c o (a c o e n) n
theorem bc.mono{S S':List Addr}{H H1:Hp}(h:∀x,x∈S->x∈S')(a:bc S H H1):bc S' H H1:=λc o e n=>a c o e λz=>n (h c z)
theorem sF{S:List Addr}{H:Hp}{a:Addr}{o:HO}(h:a∈S):bc S H (upd H a o):=λb o' e n=>by have hb:b≠a:=λz=>n (by rw[z];exact h);rw[aK hb];exact e
def Ak:HO->Prop | .lst _=>True | .ins _ _ _=>True | .dK _=>True | .fF _=>True |_=>False
def bW(H H':Hp):Prop:=∀b o,¬Ak o->H b=some o->H' b=some o
section
variable {K:aa} {H H' H2:Hp}
theorem bW.refl:bW H H:=λ_ _ _ e=>e
theorem bW.trans(a:bW H H')(b:bW H' H2):bW H H2:=λc o n e=>b c o n (a c o n e)
theorem iZ.v(s:iZ H H'):bW H H':=λb o n e=>s b o (λxs z=>n (by rw[z];trivial)) e
theorem aG.v(s:aG H H'):bW H H':=λb o _ e=>s b o e
theorem bc.v{S:List Addr}(s:bc S H H')(h:∀x∈S,∀o,H x=some o->Ak o):bW H H':=λb o n e=>s b o e λz=>n (h b z o e)
theorem bW.upd{a:Addr}{o o':HO}(h:H a=some o)(m:Ak o):bW H (upd H a o'):=λb p n e=>by
 have hb:b≠a:=λz=>by rw[z,h]at e;cases e;exact n m
 rw[aK hb];exact e
theorem aU.v{a:Addr}{xs:List V}(s:bW H H')(h:aU K H a xs):aU K H' a xs:=h.imp (λr=>r.imp (s _ _ (λz=>z)) λ⟨o,e⟩=>⟨o,s _ _ (λz=>z) e⟩) id
mutual
theorem RD.v(s:bW H H'):∀{x:V}(d:ai),fJ d=true->RD K H x d->RD K H' x d |x,.none,_,h=>by simpa[RD]using h |x,.bool b,_,h=>by simpa[RD]using h |x,.int i,_,h=>by simpa[RD]using h |x,.str y,_,h=>by simpa[RD]using h |x,.list ds,n,h=>by simp[fJ]at n |x,.tuple ds,n,h=>by rw[RD]at h⊢;obtain⟨a,xs,e,h1,h2⟩:=h;exact⟨a,xs,e,h1.v s,aP.v s ds (by simpa[fJ]using n) h2⟩ |x,.dict _,_,h=>by simp[RD]at h
theorem aP.v (s:bW H H'):∀{xs:List V}(ds:List ai),cZ ds=true->aP K H xs ds->aP K H' xs ds |xs,[],_,h=>by simpa[aP]using h |xs,d::ds,n,h=>by rw[aP]at h⊢;rw[cZ,fE]at n;obtain⟨y,ys,e,h1,h2⟩:=h;exact⟨y,ys,e,RD.v s d n.1 h1,aP.v s ds n.2 h2⟩
end
end
end L2
namespace Pn
section
variable {n:Nat}{own:Nat->Rat}{L:Nat->Option Nat}{r f:Int}
end
end Pn
namespace Ow
open Pn Ln Cn
end Ow
namespace Pn
section
variable {n:Nat}{own HN:Nat->Rat}{L L':Nat->Option Nat}{r f:Int}
end
section
variable {n:Nat}{own HN q:Nat->Rat}{L:Nat->Option Nat}{r f r' f':Int}
end
end Pn
namespace Ow
open Pn Ln Cn
end Ow
namespace Pn
section
variable {n:Nat}{own HN:Nat->Rat}{L L':Nat->Option Nat}{r f:Int}{c:Nat}
end
end Pn
namespace Ow
open Pn
section
variable (j aD:Int) (os1 os2:List Itm)
end
end Ow
namespace Pn
section
variable {n:Nat}{own:Nat->Rat}{L:Nat->Option Nat}{r f:Int}
theorem a9n{g:Nat->Rat}{i:Nat}(hi:i<=n):fl n L f g i<=g i:=by
 rcases Nat.lt_or_ge i n with h|h
 ·cases e:L i with |none=>rw[xu h e];exact qA |some m=>rw[xy h e];exact gP _ _
 ·have:i=n:=by lia
  subst this;rw[xx];exact qA
theorem a9m{g:Nat->Rat}(hf:0<=f)(h0:∀i,i<=n->0<=g i):∀i,i<=n->0<=fl n L f g i:=by
 refine down ?_ ?_
 ·rw[xx];exact h0 n (bR _)
 ·intro i hi ih
  cases e:L i with |none=>rw[xu hi e];exact h0 i aw |some m=>rw[xy hi e];exact lK (h0 i aw) (Rp ih (a4P hf))
end
end Pn
namespace Rn
open Pn Rt Ln
open Ow (topR ownF leadF Itm OkIs)
theorem Dl{n:Nat}{a b:Int}(hb:b≠0)(h2:b.natAbs<2^n):(Rat.divInt a b).den<2^n:=by obtain⟨-,e⟩:=C0 (a:=a) hb;have l2:=Ar.QU (p:=a) hb;omega
structure Dd(D:Nat)(q:Rat):Prop where
 nn:0<=q
 den:q.den<2^D
theorem Dd.mono{D E:Nat}{q:Rat}(h:Dd D q)(l:D<=E):Dd E q:=⟨h.nn,gB h.den (tE aB l)⟩
theorem Dd.bd{D:Nat}{q:Rat}(h:Dd D q)(hl:q<=2000):Bd (D+11) q:=by
 have h1:=Lp.mpr h.nn;have uU:¬((2000:Rat)<q):=As.mpr hl;rw[DU]at uU;have e1:(2000:Rat).num=2000:=rfl;have e2:(2000:Rat).den=1:=rfl;rw[e1,e2]at uU;have h2:q.num<=2000*(q.den:Int):=by lia
 refine⟨?_,gB h.den (tE aB aw)⟩;have h3:=h.den;have h4:q.num.natAbs<=2000*q.den:=by lia
 have h5:(2:Nat)^(D+11)=2^D*2048:=by rw[Nat.pow_add]
 rw[h5];have h6:2000*q.den<2000*2^D:=Nat.mul_lt_mul_of_pos_left h3 aB
 lia
theorem Dd.mn{D:Nat}{a b:Rat}(h1:Dd D a)(h2:Dd D b):Dd D (mn a b):=by rcases zd a b with e|e<;>rw[e]<;>assumption
theorem Dd.add{D:Nat}{q:Rat}(h:Dd D q){z:Int}(hz:0<=z):Dd D (q+(z:Rat)):=by
 refine⟨Rp h.nn (by have:=Rat.intCast_le_intCast.mpr hz;exact this),?_⟩;rw[add_div,Lq,Ls];have e:(q.den:Int)*((1:Nat):Int)=(q.den:Int):=by lia
 rw[e];have hd:=q.den_pos;exact Dl aw (by have:=h.den;lia)
theorem Uj{a b:Int}(ha:0<=a)(hb:0<b):0<=Rat.divInt a b:=(xV hb).mpr ha
theorem div_pos{a b:Int}(ha:0<a)(hb:0<b):0<Rat.divInt a b:=by
 have h0:=Uj (E9 ha) hb;refine Lo h0 λe=>?_;have h2:0<=Rat.divInt (-a) b:=by rw[<-Rat.neg_divInt,<-e];decide
 have:=(xV hb).mp h2
 lia
theorem Dd.mul{D m:Nat}{q:Rat}(h:Dd D q){a s:Int}(ha:0<=a)(hs:0<s)(hm:s.natAbs<2^m):Dd (D+m) (q*Rat.divInt a s):=by refine⟨Rat.mul_nonneg h.nn (Uj ha hs),?_⟩;have h1:(Rat.divInt a s).den<2^m:=Dl aw hm;rw[mul_div];have hd:=q.den_pos;have hd2:=(Rat.divInt a s).den_pos;refine Dl (qc _ _) ?_;rw[g9];exact lH (by have:=h.den;lia) aw
theorem En(aD sp:Int):Dd 14 (topR aD sp):=⟨Ow.AW _ _,Dl aB aB⟩
theorem AV{aD sp:Int}(h1:1<=sp)(h2:sp<=20)(h3:10<=aD)(h4:aD<=200):topR aD sp<=1600:=by
 have e:(1600:Rat)=Rat.divInt 16000000 10000:=by decide+kernel
 rw[e];refine(Cn.Ul aB).mpr ?_;have hp:sp*aD<=20*200:=E8 h2 h4 aw aw;have Cu:0<=sp*aD:=jI aw aw;rw[fZ,fZ,m4,lj];have:=E8 hp hp Cu aB
 lia
theorem a2z{j aD:Int}{os:List Itm}(h1:1<=j)(h2:j<=50)(h3:10<=aD)(h4:aD<=200)(ho:OkIs os)(i:Nat):Dd 64 (ownF j aD os i):=⟨Ow.Q9 _ _ _ _,(Ow.HM h1 h2 h3 h4 ho i).den⟩
theorem a9o{D n:Nat}{g:Nat->Rat}{L:Nat->Option Nat}{f:Int}(hf:0<=f)(h:∀i,i<=n->Dd D (g i)):∀i,i<=n->Dd D (fl n L f g i):=by
 refine down ?_ ?_
 ·rw[xx];exact h n (bR _)
 ·intro i hi ih
  cases e:L i with |none=>rw[xu hi e];exact h i aw |some m=>rw[xy hi e];exact(h i aw).mn (ih.add (jI hf aw))
theorem ac8{j aD:Int}{o p:Itm}(h3:10<=aD)(h4:aD<=200)(ho:Ow.OkI o):Ow.betR j aD o p<=1600:=by cases o with |none=>rw[Ow.UY];decide+kernel |some q=>cases p with |none=>rw[Ow.Dx];decide+kernel |some q'=>obtain⟨ns,sp⟩:=q;obtain⟨ms,sq⟩:=q';obtain⟨-,a1,a2⟩:=ho ns sp rfl;have ht:=AV a1 a2 h3 h4;show Ow.mnO (mn (topR aD sp) (topR aD sq)) (Ow.cornO j ns ms)<=1600;cases Ow.cornO j ns ms with |none=>exact eV (gP _ _) ht |some c=>exact eV (gP _ _) (eV (gP _ _) ht)
theorem a2y{j aD:Int}{os:List Itm}(h3:10<=aD)(h4:aD<=200)(ho:OkIs os):∀i,ownF j aD os i<=1600 |0=>by show(0:Rat)<=1600;decide+kernel |i+1=>ac8 h3 h4 (ho i)
abbrev gA:=Option (Rat × Int × Int)
def mi(r f:Int)(pc top R:Rat)(left:Int):gA->Rat |none=>mn (mn (pc+(r:Rat)) top) (R+((f*(2*left-1):Int):Rat)) |some (sq,st,gn)=>mn (mn (mn (pc+(r:Rat)) top) (R+((f*(2*left-1):Int):Rat))) (sq*Rat.divInt (2*(st-gn-1)+1) (2*st))
def pD(r f:Int)(pc top R:Rat)(left:Int):gA->Rat |none=>mn (mn (pc+((2*r:Int):Rat)) top) (R+((2*f*(left-1):Int):Rat)) |some (sq,st,gn)=>mn (mn (mn (pc+((2*r:Int):Rat)) top) (R+((2*f*(left-1):Int):Rat))) (sq*Rat.divInt (st-gn-1) st)
def BK:gA->gA |none=>none |some (sq,st,gn)=>some (sq,st,gn+1)
def sO(D:Nat)(pc:Rat):gA->Prop |none=>True |some (sq,st,gn)=>0<=gn/\gn<=st/\st<=1000/\Dd D sq/\sq<=2000/\(st=0->pc=0)/\pc*(st:Rat)<=sq*((st-gn:Int):Rat)
def Halt(pc:Rat)(aW:gA):Prop:=aW≠none/\pc=0
theorem wF{D:Nat}{pc:Rat}{sq:Rat}{st gn:Int}(h:sO D pc (some (sq,st,gn)))(hp:0<=pc)(hn:¬Halt pc (some (sq,st,gn))):gn<st/\0<sq/\0<pc:=by
 obtain⟨g0,g1,g2,hd,hl,hz,hh⟩:=h;have zw:0<pc:=Lo hp λe=>hn ⟨by simp,e.symm⟩;have iq:gn<st:=by
  rcases LW gn st with h|h
  ·exact h
  ·have e:st-gn=0:=by lia
   rw[e]at hh;have e0:sq*((0:Int):Rat)=0:=Rat.mul_zero sq;rw[e0]at hh;exfalso;rcases LW 0 st with h3|h3
   ·have h4:(0:Rat)<(st:Rat):=XH.mpr h3
    have h5:=Rat.mul_pos zw h4;exact absurd (Std.lt_of_lt_of_le h5 hh) (Rat.lt_irrefl)
   ·rw[hz aw]at zw;exact absurd zw (Rat.lt_irrefl)
 refine⟨iq,?_,zw⟩;refine Lo hd.nn λe=>?_;rw[<-e,Rat.zero_mul]at hh;have h4:(0:Rat)<(st:Rat):=XH.mpr (show(0:Int)<st by lia);exact absurd (Std.lt_of_lt_of_le (Rat.mul_pos zw h4) hh) (Rat.lt_irrefl)
section
variable {D:Nat}{r f:Int}{pc top R:Rat}{left:Int}{aW:gA}
theorem aaJ:pD r f pc top R left aW<=top:=by cases aW with |none=>exact eV (gP _ _) (kU _ _) |some q=>obtain⟨sq,st,gn⟩:=q;exact eV (gP _ _) (eV (gP _ _) (kU _ _))
theorem QM:mi r f pc top R left aW<=top:=by cases aW with |none=>exact eV (gP _ _) (kU _ _) |some q=>obtain⟨sq,st,gn⟩:=q;exact eV (gP _ _) (eV (gP _ _) (kU _ _))
theorem aaK(hr:0<=r)(hf:0<=f)(hl:1<=left)(hp:Dd (D+10) pc)(ht:Dd (D+10) top)(hR:Dd (D+10) R)(hs:sO D pc aW)(hn:¬Halt pc aW):Dd (D+10) (pD r f pc top R left aW):=by have h1:=(hp.add (z:=2*r) aw).mn ht;have h2:=hR.add (z:=2*f*(left-1)) (jI aw aw);cases aW with |none=>exact h1.mn h2 |some q=>obtain⟨sq,st,gn⟩:=q;obtain⟨a,b,c⟩:=wF hs hp.nn hn;obtain⟨g0,g1,g2,hd,hl,hz,hh⟩:=hs;exact(h1.mn h2).mn (hd.mul (m:=10) aw aw aw)
theorem QO(hr:0<=r)(hf:0<=f)(hl:1<=left)(hp:Dd (D+10) pc)(ht:Dd (D+10) top)(hR:Dd (D+10) R)(hs:sO D pc aW)(hn:¬Halt pc aW):Dd (D+11) (mi r f pc top R left aW):=by have h1:=((hp.add (z:=r) aw).mn ht).mono (show D+10<=D+11 by lia);have h2:=(hR.add (z:=f*(2*left-1)) (jI aw aw)).mono (show D+10<=D+11 by lia);cases aW with |none=>exact h1.mn h2 |some q=>obtain⟨sq,st,gn⟩:=q;obtain⟨a,b,c⟩:=wF hs hp.nn hn;obtain⟨g0,g1,g2,hd,hl,hz,hh⟩:=hs;exact(h1.mn h2).mn (hd.mul (m:=11) aw aw aw)
theorem add_pos{x:Rat}{z:Int}(hx:0<=x)(hz:0<z):0<x+(z:Rat):=by have h1:((0:Int):Rat)<(z:Rat):=XH.mpr hz;have h2:x+((0:Int):Rat)<x+(z:Rat):=Rat.add_lt_add_left.mpr h1;rw[show((0:Int):Rat)=0 from Z,Rat.add_zero]at h2;exact Std.lt_of_le_of_lt hx h2
theorem Iw{a b:Rat}(ha:0<a)(hb:0<b):0<mn a b:=by rcases zd a b with e|e<;>rw[e]<;>assumption
theorem QN(hr:1<=r)(hf:1<=f)(hl:1<=left)(hp:0<=pc)(ht:0<top)(hR:0<=R)(hs:sO D pc aW)(hn:¬Halt pc aW):0<mi r f pc top R left aW:=by have h1:=Iw (Iw (add_pos hp (show 0<r by lia)) ht) (add_pos hR (show 0<f*(2*left-1)from iT aw aw));cases aW with |none=>exact h1 |some q=>obtain⟨sq,st,gn⟩:=q;obtain⟨a,b,c⟩:=wF hs hp hn;obtain⟨g0,g1,g2,hd,hl,hz,hh⟩:=hs;exact Iw h1 (Rat.mul_pos b (div_pos aw aw))
theorem Ui(a:Int):Rat.divInt a 1=(a:Rat):=by
 conv=>rhs;rw[<-tm (a:Rat)]
 rfl
theorem abe{a s:Int}(hs:0<s):Rat.divInt a s*(s:Rat)=(a:Rat):=by
 have e:(s:Rat)=Rat.divInt s 1:=by rw[Ui]
 rw[e,XJ _ _,Int.mul_one,LV a s];have e2:Rat.divInt (s*a) s=Rat.divInt (s*a) (s*1):=by rw[Int.mul_one]
 rw[e2,Rat.divInt_mul_left aw,Ui]
theorem ZK(hs:sO D pc aW)(hp:0<=pc)(hn:¬Halt pc aW):sO D (pD r f pc top R left aW) (BK aW):=by cases aW with |none=>trivial |some q=>
 obtain⟨sq,st,gn⟩:=q;obtain⟨a,b,c⟩:=wF hs hp hn;obtain⟨g0,g1,g2,hd,hl,hz,hh⟩:=hs;refine⟨aw,aw,g2,hd,hl,λe=>by lia,?_⟩;have h1:pD r f pc top R left (some (sq,st,gn))<=sq*Rat.divInt (st-gn-1) st:=kU _ _;have h2:(0:Rat)<=(st:Rat):=Rat.intCast_nonneg.mpr aw;have h3:=Rat.mul_le_mul_of_nonneg_right h1 h2;have h4:sq*Rat.divInt (st-gn-1) st*(st:Rat)=sq*((st-(gn+1):Int):Rat):=by
  rw[Rat.mul_assoc,abe aw];congr 2
  lia
 rw[h4]at h3;exact h3
end
end Rn
namespace L2
open PySem PySem.Spec PyProof.Rows
section
variable {κ : Type} [DecidableEq κ]
def gk(aR:List (κ×V))(k:κ):Option V:=(aR.find? λkv=>decide (kv.1=k)).map (·.2)
def putK(aR:List (κ×V))(k:κ)(v:V):List (κ×V):=if(aR.any λkv=>decide (kv.1=k))=true then aR.map (λkv=>if kv.1=k then(kv.1,v)else kv)else aR++[(k,v)]
theorem Ed{p:κ×V}{r:List (κ×V)}{k:κ}(e:p.1=k):gk (p::r) k=some p.2:=by simp[gk,Az,e]
theorem Ee{p:κ×V}{r:List (κ×V)}{k:κ}(e:¬p.1=k):gk (p::r) k=gk r k:=by simp[gk,Az,e]
theorem Ma(k:κ):∀aR:List (κ×V),(aR.any λkv=>decide (kv.1=k))=(gk aR k).isSome
 |[]=>rfl |p::r=>by
  rw[vF];by_cases e:p.1=k
  ·simp only[Ed e,cR e,Bool.true_or,Option.isSome_some]
  ·rw[Ee e,fb e,Bool.false_or];exact Ma k r
theorem C7(aR:List (κ×V))(k:κ)(v:V):(putK aR k v).length<=aR.length+1:=by
 unfold putK;split
 ·rw[cB];lia
 ·rw[fy,kI,LN];lia
theorem jV.a6f{o:Option V}{u:Option Value}(r:jV o u):o.isSome=u.isSome:=by cases o with
 |none=>cases u with |none=>rfl |some _=>exact(show False from r).elim
 |some _=>cases u with |none=>exact(show False from r).elim |some _=>rfl
theorem KV.val{aR:List (κ×V)}{vs:List (κ×Value)}(r:KV aR vs)(k:κ):jV (gk aR k) (valueAt vs k):=by unfold KV at r;induction r with |nil=>exact True.intro |@cons p q ps qs h t ih=>
 obtain⟨h1,h2⟩:=h;by_cases e:p.1=k
 ·have e':q.1=k:=h1.symm.trans e
  have b:valueAt (q::qs) k=some q.2:=by simp[valueAt,Az,e']
  rw[Ed e,b];exact h2
 ·have e':¬q.1=k:=λz=>e (h1.trans z)
  have b:valueAt (q::qs) k=valueAt qs k:=by simp[valueAt,Az,e']
  rw[Ee e,b];exact ih
theorem KV.any{aR:List (κ×V)}{vs:List (κ×Value)}(r:KV aR vs)(k:κ):(aR.any λkv=>decide (kv.1=k))=vs.any λkv=>decide (kv.1=k):=by unfold KV at r;induction r with |nil=>rfl |cons h t ih=>rw[vF,vF,ih,h.1]
theorem KV.GY{aR:List (κ×V)}{vs:List (κ×Value)}(r:KV aR vs)(k:κ){y:V}{u:Value}(ry:RelV y u): KV (aR.map λkv=>if kv.1=k then(kv.1,y)else kv) (vs.map λkv=>if kv.1=k then(kv.1,u)else kv):=by unfold KV at r⊢;induction r with |nil=>exact .nil |@cons p q ps qs h t ih=>
 rw[oP,oP];refine .cons ?_ ih;obtain⟨h1,h2⟩:=h;by_cases e:p.1=k
 ·rw[bp e,bp (h1.symm.trans e)];exact⟨h1,ry⟩
 ·rw[bu e,bu (λz=>e (h1.trans z))];exact⟨h1,h2⟩
theorem KV.put{aR:List (κ×V)}{vs:List (κ×Value)}(r:KV aR vs)(k:κ){y:V}{u:Value}(ry:RelV y u):KV (putK aR k y) (stored vs k u):=by
 unfold putK stored;rw[r.any k];by_cases e:(vs.any λkv=>decide (kv.1=k))=true
 ·rw[bp e,bp e];exact r.GY k ry
 ·rw[bu e,bu e];exact Paired.snoc r ⟨Z,ry⟩
theorem KV.length{aR:List (κ×V)}{vs:List (κ×Value)}(r:KV aR vs):aR.length=vs.length:=Paired.length r
end
theorem Ce{P:ah}{w:World}{k:Key}{u:Value}(r:RelV (kV k) u):(jO P w).is k u=true:=by cases k with |inl i=>obtain⟨t,e⟩:=(show∃t,u=Value.int i t from r);subst e;exact a4Z P w i t |inr x=>obtain⟨t,e⟩:=(show∃t,u=Value.str x t from r);subst e;exact a4Y P w x t
theorem RJ{P:ah}{w:World}:∀{ks:List Key}{us:List Value},Vals (ks.map kV) us->ItemsAre (jO P w) ks us |[],_,r=>by rw[List.map_nil]at r;cases r;exact .nil |k::ks,_,r=>by rw[oP]at r;cases r with |cons h t=>exact .cons (Ce h) (RJ t)
abbrev KT(H:Hp):List (List Key×V)->List (List Key×Addr×Value)->Prop:=Paired λp q=>p.1=q.1/\H q.2.1=some (.tup (p.1.map kV))/\RelV p.2 q.2.2
theorem KT.val{H:Hp}{aR:List (List Key×V)}{xs:List (List Key×Addr×Value)}(r:KT H aR xs)(k:List Key):jV (gk aR k) ((atKey xs k).map (·.2)):=by induction r with |nil=>exact True.intro |@cons p q ps qs h t ih=>
 obtain⟨h1,_,h2⟩:=h;by_cases e:p.1=k
 ·have e':q.1=k:=h1.symm.trans e
  have b:atKey (q::qs) k=some q.2:=by simp[atKey,Az,e']
  rw[Ed e,b];exact h2
 ·have e':¬q.1=k:=λz=>e (h1.trans z)
  have b:atKey (q::qs) k=atKey qs k:=by simp[atKey,Az,e']
  rw[Ee e,b];exact ih
theorem KT.GY{H:Hp}{aR:List (List Key×V)}{xs:List (List Key×Addr×Value)}(r:KT H aR xs)(k:List Key){y:V}{u:Value}(ry:RelV y u): KT H (aR.map λkv=>if kv.1=k then(kv.1,y)else kv) (xs.map (putAt k u)):=by induction r with |nil=>exact .nil |@cons p q ps qs h t ih=>
 rw[oP,oP];refine .cons ?_ ih;obtain⟨h1,h2,h3⟩:=h;unfold putAt;by_cases e:p.1=k
 ·rw[bp e,bp (h1.symm.trans e)];exact⟨h1,h2,ry⟩
 ·rw[bu e,bu (λz=>e (h1.trans z))];exact⟨h1,h2,h3⟩
theorem KT.put{H:Hp}{aR:List (List Key×V)}{xs:List (List Key×Addr×Value)}(r:KT H aR xs)(k:List Key){b:Addr}{y:V}{u:Value}(hb:H b=some (.tup (k.map kV)))(ry:RelV y u): KT H (putK aR k y) (storedH xs k b u):=by
 have e:(aR.any λkv=>decide (kv.1=k))=(atKey xs k).isSome:=by rw[Ma,(r.val k).a6f,Option.isSome_map]
 unfold putK storedH;rw[e];by_cases q:(atKey xs k).isSome=true
 ·rw[bp q,bp q];exact r.GY k ry
 ·rw[bu q,bu q];exact Paired.snoc r ⟨Z,hb,ry⟩
theorem KT.keeps{H H':Hp}{aR:List (List Key×V)}{xs:List (List Key×Addr×Value)}(r:KT H aR xs)(ht:∀b ys,H b=some (.tup ys)->H' b=some (.tup ys)):KT H' aR xs:=Paired.Iz r λ_ _ z=>⟨z.1,ht _ _ z.2.1,z.2.2⟩
section
variable {P:ah}{w:World}{H:Hp}{h:Heap}{a:Addr}
theorem Pl{u:HO}(ok:dZ P w H h)(e:Rd H a u):fW P w H h a u:=e.ok ok
theorem Ko{aR:List (Key×V)}(ok:dZ P w H h)(e:Rd H a (.dK aR)):aR.length<=sizeLine/\(a==sysModules)=false/\∃vs,KV aR vs/\h.DictOf (jO P w) a vs:=show fW P w H h a (.dK aR)from Pl ok e
theorem Ug{aR:List (Key×V)}(ok:dZ P w H h)(e:H a=some (.dK aR)):aR.length<=sizeLine/\(a==sysModules)=false/\∃vs,KV aR vs/\h.DictOf (jO P w) a vs:=Ko ok (.inl e)
theorem IQ{ks:List Key}(ok:dZ P w H h)(e:H a=some (.tup (ks.map kV))):(tupleKind (jO P w)).is h ks a:=by obtain⟨_,its,r,o,h1,h2,n,h3⟩:=(show fW P w H h a (.tup (ks.map kV))from ok a _ e);exact⟨o,its.toArray,n,h1,h2,h3,by simpa using RJ r⟩
theorem Kl{aR:List (List Key×V)}(ok:dZ P w H h)(e:Rd H a (.dT aR)):aR.length<=sizeLine/\(a==sysModules)=false/\∃xs,KT H aR xs/\h.DictOfH (tupleKind (jO P w)) a xs:=by
 obtain⟨z,y,xs,r,o,es,ep,h1,h2,h3,h4,h5⟩:=(show fW P w H h a (.dT aR)from Pl ok e);refine⟨z,y,xs,r,o,es,ep,h1,h2,h3,h4,λx hx=>?_,h5⟩;have all:∀{l:List (List Key×V)}{m:List (List Key×Addr×Value)},KT H l m->∀x∈m,(tupleKind (jO P w)).is h x.1 x.2.1:=by intro l m q;induction q with |nil=>intro x hx;exact nomatch hx |@cons p q ps qs hq t ih=>
  intro x hx;rcases bM.mp hx with e|hx
  ·subst e
   exact IQ ok (by rw[<-hq.1];exact hq.2.1)
  ·exact ih x hx
 exact all r x hx
theorem ab0{aR:List (List Key×V)}(ok:dZ P w H h)(e:H a=some (.dT aR)):aR.length<=sizeLine/\(a==sysModules)=false/\∃xs,KT H aR xs/\h.DictOfH (tupleKind (jO P w)) a xs:=Kl ok (.inl e)
end
def vn(H:Hp)(a:Addr)(y:V)(r:Option V):Prop:=(∃aR k,Rd H a (.dK aR)/\y=kV k/\r=gk aR k)\/∃aR k b,Rd H a (.dT aR)/\y= .ref b/\H b=some (.tup (k.map kV))/\r=gk aR k
def sY(H:Hp)(a:Addr)(y v:V)(H':Hp):Prop:=(∃aR k,H a=some (.dK aR)/\y=kV k/\aR.length<sizeLine/\H'=upd H a (.dK (putK aR k v)))\/ ∃aR k b,H a=some (.dT aR)/\y= .ref b/\H b=some (.tup (k.map kV))/\aR.length<sizeLine/\H'=upd H a (.dT (putK aR k v))
theorem vn.k{H:Hp}{a:Addr}{aR:List (Key×V)}{k:Key}(e:H a=some (.dK aR)):vn H a (kV k) (gk aR k):=.inl ⟨aR,k,.inl e,Z,Z⟩
theorem sY.k{H:Hp}{a:Addr}{aR:List (Key×V)}{k:Key}{v:V}(e:H a=some (.dK aR))(hl:aR.length<sizeLine):sY H a (kV k) v (upd H a (.dK (putK aR k v))):=.inl ⟨aR,k,e,Z,hl,Z⟩
section
variable {X:Cx}{ay:List (Addr×Obj)}{O:St}{H:Hp}{s:ae}{a:Addr}{y v:V}{u r:Value}{o:Option V}{A:aj}{E:Value->ae->Prop}
theorem Inv.big(I:Inv X ay O H s):sysModules<s.heap.objs.size:=by have h:mainGlobals<s.heap.objs.size:=(I.mod.glob.keeps I.bk).lt;exact LB aB h
theorem abl{Q:Value->ae->Prop}(hu:A.units+1<cLine)(I:Inv X ay O H s)(g:vn H a y (some v))(ry:RelV y u)(h:∀w' s',Inv X ay O H s'->RelV v w'->Q w' s'): wpAny (model X.prog X.w) A (getItem (.ref a) u) Q E s:=by
 rcases g with⟨aR,k,e,ey,l⟩|⟨aR,k,b,e,ey,eb,l⟩
 ·subst ey
  obtain⟨z,hd,vs,rel,dd⟩:=Ko I.bj e;obtain⟨w',hw,jn⟩:=jV.some_of (v:=v) (o:=valueAt vs k) (by rw[l];exact rel.val k);exact wpAny_getItem_of (Ce ry) dd.mapOf hw (h w' _ (I.tok _) jn)
 ·subst ey
  cases(show u=Value.ref b from ry);obtain⟨z,hd,xs,rel,dd⟩:=Kl I.bj e;obtain⟨w',hw,jn⟩:=jV.some_of (v:=v) (o:=(atKey xs k).map (·.2)) (by rw[l];exact rel.val k);obtain⟨p,hp,Ct⟩:=Option.map_eq_some_iff.mp hw;refine wpAny_getItem_heap (tupleKind_room_in1 hu) (IQ I.bj eb) dd hp ?_;rw[Ct];exact h w' _ (I.tok _) jn
theorem Kr{h':Heap}{t':Nat}{ob:HO}(I:Inv X ay O H s)(mu:Ac (H a))(hs:Heap.SameBut a s.heap h')(he:∃q,h'.get? a=some q)(new:fW X.prog X.w (upd H a ob) h' a ob): Inv X ay O (upd H a ob) {s with heap:=h',toks:=t'}:=I.write (x:=a) (e:=a) mu (.inl Z) (λb q hb z=>(hs.2 b hb).trans z) he new
theorem Uh{P:ah}{w:World}{H':Hp}{h':Heap}{aR:List (Key×V)}{vs:List (Key×Value)}(z:aR.length<=sizeLine)(hd:(a==sysModules)=false)(rel:KV aR vs)(dd:h'.DictOf (jO P w) a vs): fW P w H' h' a (.dK aR):=⟨z,hd,vs,rel,dd⟩
theorem abk{H':Hp}{Q:Unit->ae->Prop}(hu:A.units+1<cLine)(I:Inv X ay O H s)(g:sY H a y v H')(ry:RelV y u)(rv:RelV v r)(h:∀s',Inv X ay O H' s'->Q () s'): wpAny (model X.prog X.w) A (setItem (.ref a) u r) Q E s:=by
 rcases g with⟨aR,k,e,ey,l,eH⟩|⟨aR,k,b,e,ey,eb,l,eH⟩
 ·subst ey eH
  obtain⟨z,hd,vs,rel,dd⟩:=Ug I.bj e;have hz:vs.length<=sizeLine:=by rw[<-rel.length];exact z
  have hl:(putK aR k v).length<=sizeLine:=by have:=C7 aR k v;lia
  refine wpAny_setItem_pairs (hsz:=hz) (Ce ry) dd λh' ou hs=>h _ ?_;have he:∃q,h'.get? a=some q:=let⟨q,_,_,hq,_⟩:=ou;⟨q,hq⟩;exact Kr I (by rw[e];exact True.intro) hs he (Uh hl hd (rel.put k rv) ou)
 ·subst ey eH
  cases(show u=Value.ref b from ry);obtain⟨z,hd,xs,rel,dd⟩:=ab0 I.bj e;have hz:xs.length<=sizeLine:=by rw[<-Paired.length rel];exact z
  have hl:(putK aR k v).length<=sizeLine:=by have:=C7 aR k v;lia
  refine wpAny_setItem_heap (hsz:=hz) (tupleKind_room_in1 hu) (IQ I.bj eb) dd λh' ou hs=>h _ ?_;obtain⟨q,es,ep,hq,h2,h3,h4,_,h5⟩:=ou;refine Kr I (by rw[e];exact True.intro) hs ⟨q,hq⟩ ⟨hl,hd,_,(rel.put k eb rv).keeps λc ys ec=>?_,q,es,ep,hq,h2,h3,h4,h5⟩;rw[aK (z9 ec e (λz=>nomatch z))];exact ec
end
section
variable {X:Cx}{ay:List (Addr×Obj)}{O:St}{H:Hp}{s:ae}{a:Addr}{aR:List (Key×V)}{k:Key}{u:Value}{A:aj}{E:Value->ae->Prop}
end
def KW(i:Expr):Prop:=∀ov iv,subscripted i false ov iv=operate [ov,iv] (getItem ov iv)
theorem ZI{prog:ah}{w:World}{A:aj}{E:Value->ae->Prop}{s:ae}{env:Env}{value slice:Expr}{pos:Pos}{T id:String}{Q:Value->ae->Prop} (hl:typeLookup (.type T) "__getitem__"=pure (some (.builtin id)))(hs:KW slice) (h:wpAny (model prog w) A (eval value env) (λo s₁=>wpAny (model prog w) A (eval slice env) (λi s₂=>s₂.TypeIs o T/\wpAny (model prog w) A (getItem o i) Q E s₂) E s₁) E s): wpAny (model prog w) A (eval (.Subscript value slice pos) env) Q E s:=by
 refine Subscript_ (jY h (λo s₁ h₁=>jY h₁ (λi s₂ h₂=>?_) λ_ _ x=>x) λ_ _ x=>x);obtain⟨hT,h₂⟩:=h₂;unfold subscriptTail;refine aV ?_;rw[getitemInPython_of_ne hT.not_modules];refine aV (wpAny_specialOf hT hl ?_);have fin:wpAny (model prog w) A (subscripted slice false o i) (λr s₃=>wpAny (model prog w) A (letTemporaryGo value o r>>=λ_=>pure r) Q E s₃) E s₂:=by rw[hs o i];exact wpAny_operating (jY h₂ (λr s₃ h₃=>aV (wpAny_letTemporaryGo (cA h₃))) λ_ _ x=>x)
 first |exact cA (aV fin) |exact aV (cA (aV fin)) |exact aV fin
theorem abf{X:Cx}{ay:List (Addr×Obj)}{O:St}{H:Hp}{s:ae}{a:Addr}{y:V}{o:Option V}(I:Inv X ay O H s)(g:vn H a y o):s.TypeIs (.ref a) "dict":=by
 rcases g with⟨aR,k,e,_,_⟩|⟨aR,k,b,e,_,_,_⟩
 ·obtain⟨_,_,vs,_,dd⟩:=Ko I.bj e
  exact dd.typeIs
 ·obtain⟨_,_,xs,_,dd⟩:=Kl I.bj e
  exact dd.typeIs
inductive VA(Q:VK)(x:V)(y:V)(H2:Hp):Prop |mk (a:_)(v:_)(h0:x= .ref a)(h1:vn H2 a y (some v))(h2:Q v H2):VA Q x y H2
def Mz(td ty:TE):TE:=λO H Q=>td O H λx H1=>ty O H1 λy H2=>VA Q x y H2
inductive WT(D:Ends)(O:St)(v:V)(x:V)(y:V)(H3:Hp):Prop |mk (a:_)(H4:_)(h0:x= .ref a)(h1:sY H3 a y v H4)(h2:D.nx O H4):WT D O v x y H3
def a0u(td ty tv:TE):TS:=λD O H=>tv O H λv H1=>td O H1 λx H2=>ty O H2 λy H3=>WT D O v x y H3
section
variable {X:Cx}{o i e value:Expr}{pos pos' oX:Pos}{td ty tv:TE}
theorem a2j(hu:X.A.units+1<cLine)(ho:PE X o td)(hi:PE X i ty)(hs:KW i):PE X (.Subscript o i pos) (Mz td ty):=by intro ay s O H Q I h;refine ZI PySem.F.slot_dict_getitem.lookup hs (bo (ho ay s O H _ I h) λu s1 ⟨x,H1,I1,rx,q1⟩=>bo (hi ay s1 O H1 _ I1 q1) λiv s2 ⟨y,H2,I2,ry,a,v,ex,g,q2⟩=>?_);subst ex;obtain rfl:u=Value.ref a:=rx;exact⟨abf I2 g,abl hu I2 g ry λw' s3 I3 jn=>⟨v,H2,I3,jn,q2⟩⟩
theorem fU(hu:X.A.units+1<cLine)(ho:PE X o td)(hi:PE X i ty)(hv:PE X value tv)(hs:swapsWith value (some (.Subscript o i pos')) pos.line X.env=pure false): PS X (.Assign [.Subscript o i pos'] value pos) (a0u td ty tv):=by intro ay s O H D I h;refine wpAny_Assign_Subscript (bo (hv ay s O H _ I h) λr s1 ⟨v,H1,I1,rv,q1⟩=>bo (ho ay s1 O H1 _ I1 q1) λu s2 ⟨x,H2,I2,rx,q2⟩=>bo (hi ay s2 O H2 _ I2 q2) λiv s3 ⟨y,H3,I3,ry,a,H4,ex,g,q3⟩=>?_) hs;subst ex;obtain rfl:u=Value.ref a:=rx;exact abk hu I3 g ry rv λs4 I4=>⟨O,H4,I4,q3⟩
end
theorem abb{P:ah}{w:World}{H:Hp}(h:Heap)(hb:sysModules<h.objs.size):fW P w H (h.push {cls:=.type "dict",data:=.dict #[]}) h.objs.size (.dK []):=⟨gj _,DT.mpr (eu (fR hb)),[],.nil,Heap.DictOf.new h⟩
section
variable {X:Cx} {pos:Pos}
end
def Er:List (TE×TE)->St->Hp->(List (V×V)->Hp->Prop)->Prop |[],_,H,Q=>Q [] H |(tk,tv)::r,O,H,Q=>tk O H λx H1=>tv O H1 λy H2=>Er r O H2 λps H3=>Q ((x,y)::ps) H3
abbrev VV:List (V×V)->List (Value×Value)->Prop:=Paired λp q=>RelV p.1 q.1/\RelV p.2 q.2
def DI(X:Cx)(pos:Pos)(keys:List (Option Expr))(values:List Expr)(oW:List (TE×TE)):Prop:=∀(ay:List (Addr×Obj))(s:ae)(O:St)(H:Hp)(Q:List (V×V)->Hp->Prop),Inv X ay O H s->Er oW O H Q->wpAny (model X.prog X.w) X.A (evalPairs (pairTrees keys values X.env pos)) (λvs s'=>∃ps H',Inv X ay O H' s'/\VV ps vs/\Q ps H') X.xe s
theorem a1V{X:Cx}{pos:Pos}:DI X pos [] [] []:=λay s O H Q I h=>pairTrees_nil_walk ⟨[],H,I,.nil,h⟩
theorem BC{X:Cx}{pos:Pos}{k v:Expr}{ks:List (Option Expr)}{vs:List Expr}{tk tv:TE}{oW:List (TE×TE)}(hk:PE X k tk)(hv:PE X v tv)(hr:DI X pos ks vs oW): DI X pos (some k::ks) (v::vs) ((tk,tv)::oW):=λay s O H Q I h=>pairTrees_cons_walk (bo (hk ay s O H _ I h) λu s1 ⟨x,H1,I1,rx,q1⟩=>bo (hv ay s1 O H1 _ I1 q1) λw2 s2 ⟨y,H2,I2,ry,q2⟩=>bo (hr ay s2 O H2 _ I2 q2) λws s3 ⟨ps,H3,I3,rel,q3⟩=>⟨(x,y)::ps,H3,I3,.cons ⟨rx,ry⟩ rel,q3⟩)
def rA(aR more:List (Key×V)):List (Key×V):=more.foldl (λacc kv=>putK acc kv.1 kv.2) aR
theorem KV.merge:∀{more:List (Key×V)}{rs:List (Key×Value)}{aR:List (Key×V)}{vs:List (Key×Value)},KV more rs->KV aR vs->KV (rA aR more) (merged vs rs):=by intro more rs aR vs r;unfold KV at r;induction r generalizing aR vs with |nil=>intro q;exact q |@cons p q ps qs h t ih=>
 intro r0;have e:KV (putK aR p.1 p.2) (stored vs q.1 q.2):=by have:=r0.put p.1 h.2;rw[<-h.1];exact this
 exact ih e
theorem Ri:∀(more aR:List (Key×V)),(rA aR more).length<=aR.length+more.length |[],aR=>by show aR.length<=aR.length+0;lia |p::r,aR=>by have h1:=Ri r (putK aR p.1 p.2);have h2:=C7 aR p.1 p.2;show(rA (putK aR p.1 p.2) r).length<=_;rw[kI];lia
theorem UL{P:ah}{w:World}:∀{aR:List (Key×V)}{ws:List (Value×Value)},VV (aR.map λkv=>(kV kv.1,kv.2)) ws->∃rs,Carries (jO P w) ws rs/\KV aR rs |[],_,r=>by rw[List.map_nil]at r;cases r;exact⟨[],True.intro,.nil⟩ |p::aR,_,r=>by rw[oP]at r;cases r with |@cons a b as bs h t=>obtain⟨rs,c,q⟩:=UL (P:=P) (w:=w) t;obtain⟨b1,b2⟩:=b;exact⟨(p.1,b2)::rs,⟨Ce h.1,Z,c⟩,.cons ⟨Z,h.2⟩ q⟩
def Zr(oW:List (TE×TE)):TE:=λO H Q=>∀p,H p=none->Er oW O (upd H p (.dK [])) λps H2=>H2 p=some (.dK [])/\∃aR:List (Key×V),ps=aR.map (λkv=>(kV kv.1,kv.2))/\aR.length<=15/\Q (.ref p) (upd H2 p (.dK (rA [] aR)))
theorem a2i{X:Cx}{pos:Pos}{keys:List (Option Expr)}{values:List Expr}{oW:List (TE×TE)}(h:DI X pos keys values oW)(Jw:keys.all (·.isSome)=true)(hl:keys.length=values.length)(h0:keys≠[]) (SQ:keys.length<=15):PE X (.Dict keys values pos) (Zr oW):=by
 intro ay s O H Q I q;have hn:=I.bj.fresh (bR s.heap.objs.size);have I1:=I.laid (a:=s.heap.objs.size) (o:=.dK []) (h':=s.heap.push {cls:=.type "dict",data:=.dict #[]}) (t':=s.toks) (λ_ _ q=>cI _ q) (bR _) (abb s.heap I.big);refine wpAny_Dict_walk (knd:=jO X.prog X.w) Jw hl h0 SQ (bo (h ay _ O _ _ I1 (q _ hn)) λws s2 ⟨ps,H2,I2,rel,e,aR,ep,lk,q2⟩=>?_);subst ep;obtain⟨rs,c,rk⟩:=UL (P:=X.prog) (w:=X.w) rel;obtain⟨z,hd,vs0,r0,dd⟩:=Ug I2.bj e;cases r0;refine⟨rs,c,dd,λh' ou hs=>⟨.ref s.heap.objs.size,_,?_,Z,q2⟩⟩;have hz:(rA [] aR).length<=sizeLine:=by have h1:=Ri aR [];rw[LN]at h1;rw[sizeLine_eq];lia
 have he:∃q,h'.get? s.heap.objs.size=some q:=let⟨q,_,_,hq,_⟩:=ou;⟨q,hq⟩;exact Kr I2 (by rw[e];exact True.intro) hs he (Uh hz hd (rk.merge .nil) ou)
section
variable {X:Cx}{ay:List (Addr×Obj)}{O:St}{H:Hp}{s:ae}{a:Addr}{y d:V}{u r:Value}{o:Option V}{A:aj}{E:Value->ae->Prop}
end
section
variable {X:Cx}{o e f:Expr}{apos cK:Pos}{td ty tx:TE}
end
section
variable {X:Cx}{ay:List (Addr×Obj)}{O:St}{H:Hp}{s:ae}{a:Addr}{aR:List (Key×V)}{A:aj}{E:Value->ae->Prop}
end
section
variable {X:Cx}{ay:List (Addr×Obj)}{O:St}{H:Hp}{s:ae}{a:Addr}{y:V}{u:Value}{A:aj}{E:Value->ae->Prop}
end
section
variable {X:Cx}
end
theorem a8T{K:aa}{mg:Str->Option Value}{x z:Str}{t:Tok}{h:Heap}(X:K.In h)(G:h.Ns mainGlobals mg)(a:PySem.W.nsIn K mainGlobals x=some (some (.str z t))):GV mg x (.str z):=⟨_,xW X G a,t,Z⟩
end L2
set_option exponentiation.threshold 6000
namespace L2
open PySem PySem.Spec PyProof.Rows
section
variable {X:Cx}
theorem abM:fL X (.type "str") (λxs H Q=>(∃i,xs=[.int i]/\i.natAbs.log2<1920/\Q (.str (toString i)) H)\/∃z,xs=[.str z]/\Q (.str z) H):=by
 intro ay s O H xs us Q I r h;rcases h with⟨i,rfl,hz,q⟩|⟨z,rfl,q⟩
 ·obtain⟨u,rfl,t,rfl⟩:=vals1 r
  exact PySem.P.str_of_int hz ⟨.str _,H,I.tok _,⟨_,Z⟩,q⟩
 ·obtain⟨u,rfl,t,rfl⟩:=vals1 r
  exact PySem.P.str_of_str ⟨.str _,H,I,⟨_,Z⟩,q⟩
theorem YF{i:Int}(h:i.natAbs<10^40):(Str.ofString (toString i)).length<=41:=by rw[PySem.ofString_length];exact int_text_length_le10 (k:=40) aB h
theorem a5E{i:Int}(h:i.natAbs<10^40):i.natAbs.log2<1920:=by
 by_cases h0:i.natAbs=0
 ·rw[h0];decide
 ·exact(Nat.log2_lt h0).mpr (LB h aB)
end
end L2
namespace Tu
open Ln
end Tu
namespace Pn
theorem QJ(a b:Rat):mn a b=mn b a:=DV (lK (kU _ _) (gP _ _)) (lK (kU _ _) (gP _ _))
section
variable {n:Nat}{own HN:Nat->Rat}{L L':Nat->Option Nat}{r f:Int}
end
end Pn
namespace Ow
open Pn Ln Cn Tu
end Ow
namespace L2
open PySem PySem.Spec PyProof.Rows
theorem abg(f:Array Value->Array Value)(o:Obj):(o.mapFields f).dict=o.dict:=by obtain⟨c,d,dt,sl⟩:=o;cases dt<;>rfl
def TrD(h B:Heap)(ex:Addr)(cls:Value)(dx:Option Addr)(fl:Value):Prop:=∃ob fs tb ot ts,h.get? ex=some ob/\ob.cls=cls/\ob.dict=dx/\ob.data= .fields fs/\fs[1]? =some (.ref tb)/\B.get? tb=none/\tb≠ex/\h.get? tb=some ot/\ot.data= .fields ts/\ts[3]? =some fl
def lb(B:Heap)(l:List Env)(ex:Addr)(cls:Value)(dx:Option Addr)(fl:Value)(h:Heap):Prop:=B.StaysIn h/\B.get? ex=none/\h.FunFrames B l/\TrD h B ex cls dx fl
theorem lb.there{B h:Heap}{l:List Env}{ex:Addr}{cls fl:Value}{dx:Option Addr}(x:lb B l ex cls dx fl h):∃ob,h.get? ex=some ob/\ob.cls=cls/\ob.dict=dx/\∃fs,ob.data= .fields fs:=by obtain⟨_,_,_,ob,fs,_,_,_,e,c,d,z,_⟩:=x;exact⟨ob,e,c,d,fs,z⟩
section
variable {M:Model}{A:aj}{E:Value->ae->Prop}{s:ae}{B:Heap}{env:Env}{outer:List Env}{L ex:Addr}{ob:Obj}{fs:Array Value}{head:Value}{nx:Bool}{Q:Unit->ae->Prop}{cls fl:Value}{dx:Option Addr}
theorem TN(hA:A.frames=some (env::outer))(ff:s.heap.FunFrames B (env::outer))(hL:env.frame=some L)(ho:s.heap.get? ex=some ob)(st:B.StaysIn s.heap)(hB:B.get? ex=none)(hd:ob.data= .fields fs)(hz:1<fs.size) (q:∀h',lb B (env::outer) ex ob.cls ob.dict (rawInt L) h'->s.heap.UpToSlots h'->Q () {s with heap:=h'}): wpAny M A (do let a<-frameOf env;let pl<-entryPlaceOf L nx;let b<-EntryCells.newEntry head a .none (rawInt L) .none pl;setField (.ref ex) 1 b) Q E s:=by
 have qZ:ex∉(env::outer).filterMap (·.frame):=λhm=>by obtain⟨_,o,e1,nf⟩:=ff.mem hm;rw[ho]at e1;cases e1;exact nf fs hd
 refine aV (wpAny_frameOf_fun hA ff hL λg1 k1=>aV (wpAny_entryPlaceOf λpl hp=>?_));unfold EntryCells.newEntry newFields;refine aV (qy ?_ (hp.sizeOk5 _ _ _ _ _));have o1:g1.get? ex=some ob:=(k1.2.1 ex qZ).trans ho;have B9:B.StaysIn g1:=λb o e=>(k1.2.1 b λhm=>by rw[(ff.mem hm).1]at e;cases e).trans (st b o e);generalize hT:({cls:=.type "traceback",dict:=none,data:=.fields ([head,.ref L,.none,rawInt L,.none]++(if pl.isEmpty then List.replicate 6 Value.none else pl)).toArray}:Obj)=T;have o2:(g1.push T).get? ex=some ob:=cI T o1;refine DM o2 hd hz (q _ ?_ ?_);all_goals have ne:g1.objs.size≠ex:=DY (cJ o1)
 all_goals have keep:∀b o,b≠ex->g1.get? b=some o->((g1.push T).update ex (Obj.mapFields (·.setIfInBounds 1 (Value.ref g1.objs.size)))).get? b=some o:=λb o nb e=>by rw[AB _ _ (eu nb)];exact cI _ e
 all_goals have qW:∀b o,s.heap.get? b=some o->(∀vs,o.data≠ .fields vs)->b≠ex:=λb o e nf z=>by rw[z,ho]at e;cases e;exact nf fs hd
 ·have d3:=DX hd (·.setIfInBounds 1 (Value.ref g1.objs.size))
  have o3:=LX (Obj.mapFields (·.setIfInBounds 1 (Value.ref g1.objs.size))) o2 (XU d3);refine⟨λb o e=>keep b o (λz=>by rw[z,hB]at e;cases e) (B9 b o e),hB,ff.of_keeps λb o e nf=>?_,?_⟩
  ·obtain⟨sl,e1⟩:=k1.2.2 b o e
   exact⟨_,keep b _ (qW b o e nf) e1,Z⟩
  ·refine⟨_,_,g1.objs.size,T,_,o3,Obj.cls_mapFields _ _,abg _ _,d3,by simp[hz],B9.fresh,ne,?_,by rw[<-hT],?_⟩
   ·rw[AB _ _ (eu ne)];exact fq g1 (by rw[<-hT];rfl)
   ·first|(simp;done)|(rcases hp with rfl|⟨_,_,_,_,_,_,_,rfl⟩<;>simp)
 ·intro b o e nf
  obtain⟨sl,e1⟩:=k1.2.2 b o e;exact⟨sl,keep b _ (qW b o e nf) e1⟩
theorem a4r(hA:A.frames=some (env::outer))(ff:s.heap.FunFrames B (env::outer))(hL:env.frame=some L)(ho:s.heap.get? ex=some ob)(st:B.StaysIn s.heap)(hB:B.get? ex=none)(hd:ob.data= .fields fs)(h1:fs[1]? =some .none) (q:∀h',lb B (env::outer) ex ob.cls ob.dict (rawInt L) h'->s.heap.UpToSlots h'->Q () {s with heap:=h'}):wpAny M A (noteFrame (.ref ex) env) Q E s:=by unfold noteFrame;simp only[hL];refine aV (jH ho hd h1 ?_);rw[bu aB];exact TN hA ff hL ho st hB hd (LZ.mp h1).1 q
theorem Qo(hA:A.frames=some (env::outer))(hL:env.frame=some L)(x:lb B (env::outer) ex cls dx .none s.heap) (q:∀h',lb B (env::outer) ex cls dx (rawInt L) h'->s.heap.UpToSlots h'->Q () {s with heap:=h'}):wpAny M A (noteFrame (.ref ex) env) Q E s:=by
 obtain⟨st,hB,ff,ob,fs,tb,ot,ts,ho,rfl,rfl,hd,h1,CS,nt,ht,rM,h3⟩:=x;unfold noteFrame;simp only[hL];refine aV (jH ho hd h1 ?_);rw[bp (show(Value.ref tb !=Value.none)=true from by simp)];refine aV (jH ht rM h3 ?_);rw[bu (show¬((Value.none==rawInt L)=true)from by simp[rawInt])];refine aV (DM ht rM (LZ.mp h3).1 ?_);have other:∀b,b≠tb->(s.heap.update tb (Obj.mapFields (·.setIfInBounds 3 Value.none))).get? b=s.heap.get? b:=λb nb=>AB _ _ (eu nb);have qW:∀b o,s.heap.get? b=some o->(∀vs,o.data≠ .fields vs)->b≠tb:=λb o e nf z=>by rw[z,ht]at e;cases e;exact nf ts rM
 refine TN (s:={s with heap:=s.heap.update tb (Obj.mapFields (·.setIfInBounds 3 Value.none))}) hA (ff.of_keeps λb o e nf=>⟨o,(other b (qW b o e nf)).trans e,Z⟩) hL ((other ex (eu nt)).trans ho) (λb o e=>(other b λz=>by rw[z,CS]at e;cases e).trans (st b o e)) hB hd (LZ.mp h1).1 λh' y up=>q h' y λb o e nf=>up b o ((other b (qW b o e nf)).trans e) nf
theorem D5{l:List Env}(x:lb B l ex cls dx fl s.heap)(q:∀h',lb B l ex cls dx .none h'->s.heap.UpToSlots h'->Q () {s with heap:=h'}):wpAny M A (setFlight (.ref ex) none) Q E s:=by
 obtain⟨st,hB,ff,ob,fs,tb,ot,ts,ho,hc,hx,hd,h1,CS,nt,ht,rM,h3⟩:=x;have z3:3<ts.size:=(LZ.mp h3).1;have other:∀b,b≠tb->(s.heap.update tb (Obj.mapFields (·.setIfInBounds 3 ((none:Option Addr).elim Value.none λf=>rawInt f)))).get? b=s.heap.get? b:=λb nb=>AB _ _ (eu nb);have qW:∀b o,s.heap.get? b=some o->(∀vs,o.data≠ .fields vs)->b≠tb:=λb o e nf z=>by rw[z,ht]at e;cases e;exact nf ts rM
 unfold setFlight;refine aV (jH ho hd h1 ?_);rw[bp (show(Value.ref tb !=Value.none)=true from by simp)];refine DM ht rM z3 (q _ ⟨λb o e=>(other b λz=>by rw[z,CS]at e;cases e).trans (st b o e),hB,ff.of_keeps λb o e nf=>⟨o,(other b (qW b o e nf)).trans e,rfl⟩,?_⟩ λb o e nf=>⟨o.slots,(other b (qW b o e nf)).trans e⟩);exact⟨ob,fs,tb,_,_,(other ex (eu nt)).trans ho,hc,hx,hd,h1,CS,nt,LX _ ht (XU (DX rM _)),DX rM _,by simp[z3]⟩
theorem a5M(hA:A.frames=some (env::outer))(ff:s.heap.FunFrames B (env::outer))(hL:env.frame=some L)(ho:s.heap.get? ex=some ob)(st:B.StaysIn s.heap)(hB:B.get? ex=none)(hd:ob.data= .fields fs)(h1:fs[1]? =some .none) (q:∀h',lb B outer ex ob.cls ob.dict .none h'->s.heap.UpToSlots h'->Q () {s with heap:=h'}):wpAny M A (leaving env (.ref ex)) Q E s:=by unfold leaving;refine aV (a4r hA ff hL ho st hB hd h1 λh1 x1 u1=>D5 x1 λh2 x2 u2=>q h2 ?_ (u1.trans u2));obtain⟨a,b,⟨_,_,c⟩,d⟩:=x2;exact⟨a,b,c,d⟩
theorem a5L(hA:A.frames=some (env::outer))(hL:env.frame=some L)(x:lb B (env::outer) ex cls dx .none s.heap) (q:∀h',lb B outer ex cls dx .none h'->s.heap.UpToSlots h'->Q () {s with heap:=h'}):wpAny M A (leaving env (.ref ex)) Q E s:=by unfold leaving;refine aV (Qo hA hL x λh1 x1 u1=>D5 x1 λh2 x2 u2=>q h2 ?_ (u1.trans u2));obtain⟨a,b,⟨_,_,c⟩,d⟩:=x2;exact⟨a,b,c,d⟩
end
end L2
namespace L2
open PySem PySem.Spec PyProof.Rows
open Builtin Builtin.ObjectAttr
section
variable {prog:ah}{w:World}{A:aj}{E:Value->ae->Prop}{s:ae}{K:aa}{x C:Addr}{ox:Obj}{fs:Array Value}{name:Str}{v:Value}{Q:Unit->ae->Prop}
end
end L2
namespace L2
open PySem PySem.Spec PyProof.Rows
section
variable {X:Cx}{o e value:Expr}{f:Str}{pos pos' oX:Pos}{ta tv:TE}
end
section
variable {prog:ah}{w:World}{A:aj}{E:Value->ae->Prop}{h:Heap}{g:Array GenState}{d:Drawn}{t:Nat}{os:OsState}
variable {nm q:Str}{C N fI:Addr}{bs bm mV:List Value}{hdct:Bool}{sn:List Str}{sub:List Value}{ab:Bool}{col:Option Bool}{dd:Option Addr}{k0 k1 k2 k3 k5:Option Value}{B newId IX:String}{mN:Str->Option Value}{rest:List Value}{oI:Obj}
end
section
variable {M:Model}{A:aj}{E:Value->ae->Prop}{env:Env}{nm q:Str}{C N:Addr}{bs bm:List Value}{hdct:Bool}{sn:List Str}{sub:List Value}{ab:Bool}{col:Option Bool}{dd:Option Addr}{k0 k1 k2 k3 k5:Option Value}{newId:String}
end
def jF(P:ah)(w:World):kH:=λouter H s E e s'=>∃(ex:Addr)(cls:Value)(dx:Option Addr)(H':Hp)(B:Heap),e= .ref ex/\s'.os=s.os/\AllBare s'.gens/\lb B outer ex cls dx .none s'.heap/\Fl P w outer H s.heap ex H' B s'.heap/\E cls dx H'
section
variable {P:ah}{w:World}{K:aa}{mg:Str->Option Value}{base:Heap}{N:List Str}{qual:Str}{scope:Scope}{f:Addr}{cd:Value}{A:aj}{outer:List Env}{s:ae}{H:Hp}{E:XK}{ay:List (Addr×Obj)}{O:St}{H1:Hp}{s1:ae}{ex:Addr}{C:Addr}{dx:Addr}
end
section
variable {X:Cx}{x:Str}{C fI:Addr}{mV:List Value}{newId IX B:String}{e:Expr}{t:TA}{np cK pos:Pos}{k:Nat}{fd:FuncData}{ps:List Str}{sp:Sp}
end
def oK(ex:Addr)(cls:Value)(dx:Option Addr)(h:Heap):Prop:=∃o,h.get? ex=some o/\o.cls=cls/\o.dict=dx/\∃fs,o.data= .fields fs
def ClsAt(K:aa)(C:Addr):Prop:=∀h,K.In h->∃nm q N bs tl hdct sn sub ab col dd k0 k1 k2 k3 k5 newId,h.get? C=some (excClassObj nm q C N bs tl hdct sn sub ab col dd k0 k1 k2 k3 k5 newId)
theorem Exc.cls{K:aa}{mg:Str->Option Value}{x:Str}{C:Addr}{mV:List Value}{newId:String}(e:Exc K mg x C mV newId):ClsAt K C:=λh X=>by obtain⟨tl,N,nm,q,bs,hdct,sn,sub,ab,col,dd,k0,k1,k2,k3,k5,mN,hC,_⟩:=(e.own X).obj;exact⟨nm,q,N,bs,tl,hdct,sn,sub,ab,col,dd,k0,k1,k2,k3,k5,newId,hC⟩
inductive Vu(i:Nat)(Cs:Addr->Prop)(tb:XK->TS)(th:TS)(D:Ends)(O:St)(H:Hp):Prop |mk (E:XK)(h0:tb E D O H)(h1:(∀cls dx H',E cls dx H'->∃C,cls= .ref C/\Cs C))(h2:∀(C ex:Addr)(dx:Option Addr)(σ':St)(H':Hp),σ'.length=O.length->E (.ref C) dx H'->H' ex=none->th {nx:=λσ2 H2=>D.nx (σ2.set i none) H2,rt:=D.rt,bk:=λσ2 H2=>D.bk (σ2.set i none) H2,ct:=λσ2 H2=>D.ct (σ2.set i none) H2} (σ'.set i (some (.ref ex))) (upd H' ex (.ext (oK ex (.ref C) dx)))):Vu i Cs tb th D O H
def Z3(i:Nat)(Cs:Addr->Prop)(tb:XK->TS)(th:TS):TS:=λD O H=>Vu i Cs tb th D O H
section
variable {X:Cx}{i:Nat}{n y:Str}{Dc:Addr}{Ky:List Value}{newD:String}{body B5:List Stmt}{b0:Stmt}{np uF pos:Pos}{tb:XK->TS}{th:TS}{Cs:Addr->Prop}
theorem a1S(iq:X.stack=X.env::X.outer)(hfr:X.env.frame=some X.env.locals)(hN:X.N.Nodup)(hi:X.N[i]? =some n)(hk:X.env.kindOf n=some .local)(hs:X.env.scope.names.lookup n=some .local) (hb:∀(E:XK)(xe:Value->ae->Prop),Passes (jF X.prog X.w) (X.jm xe) E->iy (X.jm xe) body (tb E)) (hg:Gl X y)(hy:Exc X.K X.mg y Dc Ky newD)(Jv:Ky.contains (.type "BaseException")=true)(JH:∀C,Cs C->ClsAt X.K C/\takes X.K C Dc) (hh:∀ex,iy (X.hand ex) (b0::B5) th)(jA:(y==("__debug__":Str))=false:=by decide): Vq X (.Try body [.ExceptHandler (some (.Name y np)) (some n) (b0::B5) uF] [] [] pos) (Z3 i Cs tb th):=by
 intro s O H D I h;obtain⟨E,hq,mq,hth⟩:=h;refine wpAny_Try_except ?_;have ps:Passes (jF X.prog X.w) (X.jm λe s₁=>wpAny (model X.prog X.w) X.A (noteFrame e X.env) (λ_ s₂=>wpAny (model X.prog X.w) X.A (setFlight e none) (λ_ s₃=>wpAny (model X.prog X.w) X.A (handleBy e X.env [.ExceptHandler (some (.Name y np)) (some n) (b0::B5) uF]) (SP X [] D) X.xe s₃) X.xe s₂) X.xe s₁) E:=by
  intro Hv σ' H1 s1 ev s2 I1 hx;obtain⟨ex,cls,dx,H',B,rfl,ho,Sh,pW,F,hE⟩:=hx;obtain⟨C,rfl,hC⟩:=mq cls dx H' hE;have I0:Inv X [] σ' H1 s1:=I1.nj.ace;obtain⟨Ct,g2,d2,t2,o2⟩:=s2;have a9l:lb B (X.env::X.outer) ex (.ref C) dx .none Ct:=by rw[<-iq];exact pW
  have hA:X.A.frames=some (X.env::X.outer):=by rw[<-iq];exact I0.ok.frames
  refine Qo (s:=⟨Ct,g2,d2,t2,o2⟩) hA hfr a9l λh4 CJ Yz=>?_;refine D5 CJ λh5 zM Yy=>?_;have F4:=F.step pW.1 CJ.1 Yz pW.2.2.1;have ff4:h4.FunFrames B X.stack:=by rw[iq];exact CJ.2.2.1
  have F5:=F4.step CJ.1 zM.1 Yy ff4;have ff5:h5.FunFrames B X.stack:=by rw[iq];exact zM.2.2.1
  have I5:Inv X [] σ' H' ⟨h5,g2,d2,t2,o2⟩:=I0.Dr (s':=⟨h5,g2,d2,t2,o2⟩) ho F5.un F5.bj Sh (λb hb=>(cL hb).elim);refine wpAny_handleBy_cons (codeAny_handlers_test (wR (X:=X.hand ex) (I5.hand ex) hg hy.at' ?_ jA)) (by intro q;cases q);obtain⟨eC,tk⟩:=JH C hC;obtain⟨nm,q,Nn,bs,tl,hdct,sn,sub,ab,col,dd,k0,k1,k2,k3,k5,nw,oC⟩:=eC _ I5.gQ;obtain⟨tl',Nn',Qu,q',US,Sl,Np,MF,Ve,UA,ou,j0,j1,j2,j3,j5,mN',oD,aef,adY,TL'⟩:=(hy.own I5.gQ).obj;obtain⟨ob,hob,a78,_⟩:=zM.there;have J3:(Value.ref C::tl).contains (.ref Dc)=true:=by
   obtain⟨cd,ha,kX⟩:=Option.bind_eq_some_iff.mp tk;split at kX
   ·cases kX
   ·have hc:=eg kX
    unfold PySem.W.clsIn at ha;split at ha
    ·rename_i c1 c2 cd' c4 hl
     cases ha;have e1:=I5.gQ _ _ hl;rw[show(Shared.heap ⟨h5,g2,d2,t2,o2⟩).get? C=some _ from oC]at e1;have e2:=eg e1;unfold excClassObj at e2;injection e2 with _ _ e3 _;injection e3 with e4;rw[<-e4]at hc;exact hc
    ·cases ha
  refine aaA oC oD hob a78 (TL'.hasType Jv) J3 ?_;refine codeAny_handlers_suite_as ?_;refine D5 (s:=⟨h5,g2,d2,t2,o2⟩) zM λh6 Tn Yx=>?_;have F6:=F5.step zM.1 Tn.1 Yx ff5;have YD:Un (du X.stack) [] H1 (upd H' ex (.ext (oK ex (.ref C) dx))) s1.heap h6:=by
   have nb:∀b u,H' b=some u->b≠ex:=λb u e z=>by rw[z,F6.ne]at e;cases e
   refine⟨F6.un.keep,F6.un.slot,λb o e n hx=>?_,F6.un.there,λb xs e=>?_,λb o u e=>?_,λb ps e=>?_⟩
   ·rw[aK (λz=>by rw[z,F6.nw]at e;cases e)];exact F6.un.free b o e n hx
   ·have:=F6.un.kL b xs e;rw[aK (nb b _ this)];exact this
   ·have:=F6.un.kz b o u e;rw[aK (nb b _ this)];exact this
   ·obtain⟨more,e1⟩:=F6.un.ki b ps e;exact⟨more,by rw[aK (nb b _ e1)];exact e1⟩
  have a76:dZ X.prog X.w (upd H' ex (.ext (oK ex (.ref C) dx))) h6:=λb u e=>by
   by_cases So:b=ex
   ·subst So
    rw[bf]at e;cases e;obtain⟨o6,e6,c6⟩:=Tn.there;exact⟨⟨o6,e6,c6⟩,⟨o6,e6⟩,λg1 g3 ⟨o7,e7,c7⟩ k=>⟨o7,k o7 e7,c7⟩⟩
   ·rw[aK So]at e
    refine(F6.bj b u e).mD (λc v hc q=>q) (λc q=>?_) λc xs q=>?_
    ·rw[aK (λz=>by rw[z,F6.ne]at q;cases q)];exact q
    ·rw[aK (λz=>by rw[z,F6.ne]at q;cases q)];exact q
  have I6:Inv X [] σ' (upd H' ex (.ext (oK ex (.ref C) dx))) ⟨h6,g2,d2,t2,o2⟩:=I0.Dr (s':=⟨h6,g2,d2,t2,o2⟩) ho YD a76 Sh (λb hb=>(cL hb).elim);refine vM (X:=X.hand ex) (I6.hand ex) hN hi (.inl hs) (v:=.ref ex) Z (λs7 I7=>?_) (.inr hs);refine jY (hh ex [] s7 _ _ _ I7 (hth C ex dx σ' H' (I0.len.trans I.len.symm) hE F.ne)) (λf s8 q=>?_) λe s8 q=>False.elim q;have un:∀(σ2:St)(H2:Hp)(Q:Unit->ae->Prop),Inv (X.hand ex) [] σ2 H2 s8->(∀s9,Inv X [] (σ2.set i none) H2 s9->Q () s9)->wpAny (model X.prog X.w) X.A (do bindName X.env n .none;unbindBehindTheSuite X.env n uF) Q X.xe s8:=λσ2 H2 Q I8 hq=>by
   have Xz:=I8.back I0.ok;have cF:i<σ2.length:=by rw[Xz.len];exact(dQ.mp hi).1
   unfold bindName;refine aV (aV (vq (wpAny_point (aV (vM Xz hN hi (.inl hs) (v:=.bw) Z (λs9 I9=>wpAny_point ?_) (.inr hs))))));refine YB I9 hN hi hk hs (v:=.bw) (Ax cF) λnK xR=>hq nK ?_;rw[LK]at xR;exact xR
  cases f with |next=>obtain⟨σ2,H2,I8,dq⟩:=q;exact un σ2 H2 _ I8 λs9 I9=>⟨_,H2,I9,dq⟩ |brk=>obtain⟨σ2,H2,I8,dq⟩:=q;exact un σ2 H2 _ I8 λs9 I9=>⟨_,H2,I9,dq⟩ |cont=>obtain⟨σ2,H2,I8,dq⟩:=q;exact un σ2 H2 _ I8 λs9 I9=>⟨_,H2,I9,dq⟩ |ret u=>obtain⟨v,σ2,H2,I8,r8,dq⟩:=q;exact un σ2 H2 _ I8 λs9 I9=>⟨v,_,H2,I9,r8,dq⟩
 refine jY (hb E _ ps [] s O H D (I.jm _) hq) (λf s1 q=>?_) λe s1 q=>q;have q':=q.nj;cases f with |next=>exact An q' |brk=>exact q' |cont=>exact q' |ret u=>exact q'
end
end L2
namespace L2
open PySem PySem.Spec PyProof.Rows PySem.W
section
variable {prog:ah}{w:World}{A:aj}{E:Value->ae->Prop}{h:Heap}{g:Array GenState}{d:Drawn}{t:Nat}{os:OsState}{K:Frag}{x C:Addr}{ox:Obj}{od:Obj}{f:Str}{v:Value}
end
section
variable {X:Cx}{e:Expr}{f:Str}{pos:Pos}{ta:TE}
inductive X8(K:Frag)(xs:List V)(H:Hp)(Q:VK):Prop |mk (ex:Addr)(C:Addr)(dx:Option Addr)(c:V)(cv:Value)(b:Bool)(h0:xs=[.ref ex,c])(h1:H ex=some (.ext (oK ex (.ref C) dx)))(h2:oJ K C)(h3:abI c=some cv)(h4:kitOne K (.ref C) cv=some b)(h5:Q (.bl b) H):X8 K xs H Q
def a1F(K:Frag):List V->Hp->VK->Prop:=λxs H Q=>X8 K xs H Q
inductive X7(K:Frag)(xs:List V)(H:Hp)(Q:VK):Prop |mk (ex:Addr)(C:Addr)(p:Addr)(dx:Option Addr)(Ds:List Addr)(b:Bool)(h0:xs=[.ref ex,.ref p])(h1:H ex=some (.ext (oK ex (.ref C) dx)))(h2:oJ K C)(h3:H p=some (.tup (Ds.map V.ref)))(h4:kitAny K (.ref C) (Ds.map Value.ref)=some b)(h5:Q (.bl b) H):X7 K xs H Q
def a1E(K:Frag):List V->Hp->VK->Prop:=λxs H Q=>X7 K xs H Q
theorem uA(K:Frag)(hK:X.K=K):fL X (.builtin "isinstance") (λxs H Q=>a1F K xs H Q\/a1E K xs H Q):=by
 subst hK;intro ay s O H xs us Q I r h;rcases h with⟨ex,C,dx,c,cv,b,rfl,he,k,hc,kb,q⟩|⟨ex,C,p,dx,Ds,b,rfl,he,k,hp,kb,q⟩
 ·obtain⟨u,v,rfl,rx,rc⟩:=vals2 r
  cases(show u=Value.ref ex from rx);have hv:v=cv:=by cases c with |ref D=>cases(show v=Value.ref D from rc);exact eg hc |ty n=>cases(show v=Value.type n from rc);exact eg hc |_=>cases hc
  subst hv;obtain⟨o,o1,o2,_⟩:=(I.bj ex _ he).1;exact kia_one (Ry k) I.gQ ⟨o,o1,o2⟩ kb (λz=>nomatch z) λtk=>⟨.bl b,H,I.tok _,rfl,q⟩
 ·obtain⟨u,v,rfl,rx,rc⟩:=vals2 r
  cases(show u=Value.ref ex from rx);cases(show v=Value.ref p from rc);obtain⟨o,o1,o2,_⟩:=(I.bj ex _ he).1;obtain⟨_,its,rv,⟨cls,dd,dt,sl⟩,h1,h2,n,h3⟩:=(show fW X.prog X.w H s.heap p (.tup (Ds.map V.ref))from I.bj p _ hp);simp only at h2 h3;subst h2 h3;have e:=M8 rv;subst e;exact kia_tup (Ry k) I.gQ ⟨o,o1,o2⟩ h1 kb (λz=>nomatch z) λtk=>⟨.bl b,H,I.tok _,rfl,q⟩
end
end L2
namespace L2
open PySem PySem.Spec PyProof.Rows
section
variable {X:Cx}{k:Nat}{x:Str}{p pos:Pos}{e:Expr}{es:List Expr}{t:TA}{sp:Sp}
end
section
variable {P:ah}{w:World}{K:aa}{mg:Str->Option Value}{base:Heap}{N:List Str}{qual:Str}{scope:Scope}{f:Addr}{cd:Value}{A:aj}{outer:List Env}{s:ae}{H:Hp}{E E0:XK}
end
end L2
namespace L2
open PySem PySem.Spec PyProof.Rows
open Builtin Builtin.ObjectAttr
section
variable {prog:ah}{w:World}{A:aj}{E:Value->ae->Prop}{s:ae}{K:aa}{x C dx:Addr}{ox:Obj}{fs:Array Value}{name:Str}{v:Value}{Q:Unit->ae->Prop}{mA:Str->Option Value}{ks:List Str}
end
section
variable {X:Cx}{o e value:Expr}{f:Str}{pos pos' oX:Pos}{ta tv:TE}
end
end L2
namespace L2
open PySem PySem.Spec PyProof.Rows
def vk(P:ah)(w:World)(K:aa)(mg:Str->Option Value)(base:Heap)(C:Addr)(m:Str)(k:Nat)(sp:Sp):Prop:=∃f fd ps,jj P w K mg base (jF P w) k f fd ps sp/\Meth K C m f/\Binds K fd ps []
section
variable {P:ah}{w:World}{K:aa}{mg:Str->Option Value}{base:Heap}
theorem kG.okD{m qual:Str}{st:Stmt}{f:Addr}{fd:FuncData}{N ps:List Str}{k:Nat}{sp:Sp}(F:kG K m qual st f fd)(S:bF N ps (aZ st))(len:∀vs H Q E,sp vs H Q E->vs.length=ps.length) (iX:∀(aQ:Value)(A:aj)(outer:List Env)(s:ae)(H:Hp)(vs:List V)(Q:VK)(E:XK),cQ k (A.deeper (envOfC qual (aZ st) s.heap.objs.size f aQ))->sp vs H Q E->∃t,iy (ji (jF P w) P w K mg base N qual (aZ st) f aQ A outer s H E) (gW st) t/\t {nx:=λ_ H'=>Q .bw H',rt:=Q} (start N vs) H):jj P w K mg base (jF P w) (k+1) f fd ps sp:=by obtain⟨oc,od,kV,doc,pm,an,aQ,ct,gF,rfl,lk,ir⟩:=F.ex;exact JR lk ir S len λA outer s H vs Q E hr jx=>iX aQ A outer s H vs Q E hr jx
theorem MA.Sv{C:Addr}{m qual:Str}{st:Stmt}{N ps:List Str}{k:Nat}{sp:Sp}(F:MA K C m qual st)(S:bF N ps (aZ st))(len:∀vs H Q E,sp vs H Q E->vs.length=ps.length) (hb:∀(kV doc pm:Value)(an:Option Addr)(aQ ct:Value)(us:List Value),us.length=ps.length->bindArgs (PySem.W.fnOf m qual (kD st) (gW st) (aZ st) .none kV doc pm an aQ ct) ⟨us,[]⟩=pure (ps.zip us)) (iX:∀(f:Addr)(aQ:Value)(A:aj)(outer:List Env)(s:ae)(H:Hp)(vs:List V)(Q:VK)(E:XK),cQ k (A.deeper (envOfC qual (aZ st) s.heap.objs.size f aQ))->sp vs H Q E->∃t,iy (ji (jF P w) P w K mg base N qual (aZ st) f aQ A outer s H E) (gW st) t/\t {nx:=λ_ H'=>Q .bw H',rt:=Q} (start N vs) H):vk P w K mg base C m (k+1) sp:=by obtain⟨f,fd,hm,F⟩:=F.ex;exact⟨f,fd,ps,F.okD S len λaQ A outer s H vs Q E=>iX f aQ A outer s H vs Q E,hm,F.binds hb⟩
end
section
variable {X:Cx}{k:Nat}{x m:Str}{C:Addr}{p pos apos:Pos}{o e:Expr}{es:List Expr}{t:TA}{ta:TE}{sp:Sp}{E:XK}
inductive Ld(C:Addr)(m:Str)(sp:Sp)(E:XK)(t:TA)(O:St)(Q:VK)(x:V)(H1:Hp):Prop |mk (a:Addr)(dx:Addr)(fs:List (Str×V))(h0:x= .ref a)(h1:H1 a=some (.ins C dx fs))(h2:fs.lookup m=none)(h3:t O H1 λvs H2=>sp (x::vs) H2 Q E):Ld C m sp E t O Q x H1
def vK(C:Addr)(m:Str)(sp:Sp)(E:XK)(ta:TE)(t:TA):TE:=λO H Q=>ta O H λx H1=>Ld C m sp E t O Q x H1
theorem QI{O:St}{Q:VK}{x:V}{H1:Hp}:sW C m sp [] E t O Q x H1=Ld C m sp E t O Q x H1:=by
 have e1:(λ(vs:List V) H1=>sp (x::(vs++[])) H1 Q E)=λvs H1=>sp (x::vs) H1 Q E:=by funext vs H1;rw[E7]
 refine propext ⟨λ⟨a,dx,fs,h0,h1,h2,h3⟩=>⟨a,dx,fs,h0,h1,h2,?_⟩,λ⟨a,dx,fs,h0,h1,h2,h3⟩=>⟨a,dx,fs,h0,h1,h2,?_⟩⟩
 ·rw[<-e1];exact h3
 ·rw[e1];exact h3
theorem a2d{pl:Sem Bool}(F:vk X.prog X.w X.K X.mg X.base C m k sp)(hp:Passes (jF X.prog X.w) X E)(c:jX X.K C)(hr:cQ k X.A)(he:PE X o ta)(ha:PA X (e::es) t) (iq:starEach (e::es) X.env=(false,eval e X.env)::starEach es X.env:=by rfl)(gH:(backTo pos (starEach es X.env)).any (·.1)=false:=by rfl) (ht:eval (.Call (.Attribute o m apos) (e::es) [] pos) X.env=(do
 let ov<-eval o X.env
 standAt apos.atName
 let(f,first)<-holding [ov] (getMethod ov m pl)
 callWith pos f first (backTo pos (starEach (e::es) X.env)) (backToKw pos (keywordEach [] X.env))):=by rfl): PE X (.Call (.Attribute o m apos) (e::es) [] pos) (vK C m sp E ta t):=by
 obtain⟨f,fd,ps,F,hm,hb⟩:=F;have h:=PR (pos:=pos) (apos:=apos) (pl:=pl) he c hm F hr hb .nil hp ha iq gH ht;intro ay s O H Q I hq;refine h ay s O H Q I ?_;show ta O H λx H1=>sW C m sp [] E t O Q x H1;simp only[QI];exact hq
theorem PN{pl:Sem Bool}(F:vk X.prog X.w X.K X.mg X.base C m k sp)(hp:Passes (jF X.prog X.w) X E)(c:jX X.K C)(hr:cQ k X.A)(he:PE X o ta) (ht:eval (.Call (.Attribute o m apos) [] [] pos) X.env=(do
 let ov<-eval o X.env
 standAt apos.atName
 let(f,first)<-holding [ov] (getMethod ov m pl)
 callWith pos f first (backTo pos (starEach [] X.env)) (backToKw pos (keywordEach [] X.env))):=by rfl): PE X (.Call (.Attribute o m apos) [] [] pos) (vK C m sp E ta kM):=by
 obtain⟨f,fd,ps,F,hm,hb⟩:=F;have h:=PQ (pos:=pos) (apos:=apos) (pl:=pl) he c hm F hr hb .nil hp ht;intro ay s O H Q I hq;refine h ay s O H Q I ?_;show ta O H λx H1=>sW C m sp [] E kM O Q x H1;simp only[QI];exact hq
end
end L2
namespace L2
open PySem PySem.Spec PyProof.Rows SeqAt
section
variable {X:Cx}{k:Nat}{x:Str}{p pos:Pos}{e:Expr}{es:List Expr}{t:TA}{sp:Sp}{E:XK}
end
section
variable {X:Cx}
theorem Ec:∀{bs:List Bool}{us:List Value},Vals (bs.map V.bl) us->us=bs.map Value.bool |[],_,.nil=>rfl |b::bs,_,.cons q r=>by cases(show _=Value.bool b from q);rw[Ec r];rfl
def uB:Value->Bool | .bool b=>b |_=>false
theorem TK{bs:List Bool}(A:aj)(s:ae):∀y,y∈(bs.map Value.bool).toArray->EqAt A s y (.bool true) (uB y):=λy hy=>by obtain⟨b,_,rfl⟩:=ka.mp (List.mem_toArray.mp hy);have:=EqAt.bool_bool (A:=A) (s:=s) b true;cases b<;>exact this
theorem abt(bs:List Bool):(bs.map Value.bool).countP uB=bs.count true:=by induction bs with |nil=>rfl |cons b r ih=>cases b<;>simp[List.countP_cons,uB,ih,List.count_cons]
inductive Lg(K:aa)(x:V)(vs:List V)(H:Hp)(Q:VK):Prop |mk (l:Addr)(bs:List Bool)(h0:x= .ref l)(h1:vs=[.bl true])(h2:aJ K H l (bs.map V.bl))(h3:Q (.int (bs.count true:Nat)) H):Lg K x vs H Q
theorem a4V(K:aa)(hK:X.K=K):Ae X "list.count" (λx vs H Q=>Lg K x vs H Q):=by subst hK;intro ay s O H x vs v us Q I rx rv h;obtain⟨l,bs,rfl,rfl,hl,q⟩:=h;cases rx;obtain⟨u,rfl,ru⟩:=vals1 rv;cases(show u=Value.bool true from ru);obtain⟨its,r,pl,_⟩:=I.list hl;rw[Ec r]at pl;obtain⟨⟨cls,dd,data,sl⟩,ho,hc,n,hd⟩:=id pl.isList;simp only at hc hd;subst hc hd;refine xU PySem.F.slot_list_count ⟨_,ho,Z⟩ PySem.F.entry_list_count (PySem.F.args_list_count_2 _ _) (list_countAt l _ n dd sl (.bool true) uB) ⟨ho,TK _ _,?_⟩;rw[show(bs.map Value.bool).toArray.toList=bs.map Value.bool from Z,abt];exact⟨.int _,H,I.tok _,⟨_,Z⟩,q⟩
inductive Lf(K:aa)(x:V)(vs:List V)(H:Hp)(Q:VK):Prop |mk (l:Addr)(bs:List Bool)(j:Nat)(h0:x= .ref l)(h1:vs=[.bl true])(h2:aJ K H l (bs.map V.bl))(h3:bs[j]? =some true)(h4:∀m,m<j->bs[m]? =some false)(h5:j<1000)(h6:Q (.int (j:Nat)) H):Lf K x vs H Q
theorem a4U(K:aa)(hK:X.K=K):Ae X "list.index" (λx vs H Q=>Lf K x vs H Q):=by
 subst hK;intro ay s O H x vs v us Q I rx rv h;obtain⟨l,bs,j,rfl,rfl,hl,hj,hm,aeh,q⟩:=h;cases rx;obtain⟨u,rfl,ru⟩:=vals1 rv;cases(show u=Value.bool true from ru);obtain⟨its,r,pl,_⟩:=I.list hl;rw[Ec r]at pl;obtain⟨⟨cls,dd,data,sl⟩,ho,hc,n,hd⟩:=id pl.isList;simp only at hc hd;subst hc hd;have Sd:=(dQ.mp hj);obtain⟨hj1,pO⟩:=Sd;refine xU PySem.F.slot_list_index ⟨_,ho,Z⟩ PySem.F.entry_list_index (PySem.F.args_list_index_2 _ _) (list_indexAt l _ n dd sl (.bool true) uB j (by simpa using hj1) aw ?_ (λm hm1 CB=>?_)) ⟨ho,TK _ _,⟨.int _,H,I.tok _,⟨_,Z⟩,q⟩⟩
 ·simp[pO,uB]
 ·have:=hm m CB
  obtain⟨h1,h2⟩:=dQ.mp this;simp[h2,uB]
theorem a2p(K:aa)(h:X.K=K){o e:Expr}{to:TE}{t:TA}{apos cK:Pos}(ho:PE X o to)(ha:PA X [e] t) (jB:attributeBase o "count" X.env (eval o X.env)=eval o X.env:=by rfl) (lO:((backTo cK (starEach [e] X.env)).all (λx=>!x.1)&&(backToKw cK (keywordEach [] X.env)).all (λx=>x.1.isSome) &&decide ([e].length+([]:List Keyword).length+(if([]:List Keyword).isEmpty then 0 else 1)<30))=true:=by rfl) (jz:(apos.endLine==cK.line)=true:=by rfl)(hs:starEach [e] X.env=(false,eval e X.env)::starEach [] X.env:=by rfl)(lL:(backTo cK (starEach [] X.env)).any (·.1)=false:=by rfl): PE X (.Call (.Attribute o "count" apos) [e] [] cK) (tO K "list" (λx vs H Q=>Lg K x vs H Q) to t):=by subst h;exact wo Au PySem.F.slot_list_count PySem.F.type_list_count (a4V X.K rfl) ho ha jB lO jz hs lL
theorem a2n(K:aa)(h:X.K=K){o e:Expr}{to:TE}{t:TA}{apos cK:Pos}(ho:PE X o to)(ha:PA X [e] t) (jB:attributeBase o "index" X.env (eval o X.env)=eval o X.env:=by rfl) (lO:((backTo cK (starEach [e] X.env)).all (λx=>!x.1)&&(backToKw cK (keywordEach [] X.env)).all (λx=>x.1.isSome) &&decide ([e].length+([]:List Keyword).length+(if([]:List Keyword).isEmpty then 0 else 1)<30))=true:=by rfl) (jz:(apos.endLine==cK.line)=true:=by rfl)(hs:starEach [e] X.env=(false,eval e X.env)::starEach [] X.env:=by rfl)(lL:(backTo cK (starEach [] X.env)).any (·.1)=false:=by rfl): PE X (.Call (.Attribute o "index" apos) [e] [] cK) (tO K "list" (λx vs H Q=>Lf K x vs H Q) to t):=by subst h;exact wo Au PySem.F.slot_list_index PySem.F.type_list_index (a4U X.K rfl) ho ha jB lO jz hs lL
end
end L2
namespace L2
open PySem PySem.Spec PyProof.Rows PySem.W
abbrev vi:=List Env->ae->Sp
structure XC(P:ah)(w:World)(K:Frag)(mg:Str->Option Value)(base:Heap)(CX:kH)(k:Nat)(f:Addr)(fd:FuncData)(ps:List Str)(sp:vi):Prop where
 len:∀outer s vs H Q E,sp outer s vs H Q E->vs.length=ps.length
 run:∀(A:aj)(outer:List Env)(s:ae)(H:Hp)(args:Args)(us:List Value)(vs:List V)(Q:VK)(E:XK),cQ k A->oM P w K mg base A outer s H->BindsTo s fd args (ps.zip us)->Vals vs us->sp outer s vs H Q E->codeAny (model P w) A (.call (.ref f) args) (CR CX outer P w H s Q E) s
theorem a9k{CX:kH}{P:ah}{w:World}{K:Frag}{mg:Str->Option Value}{base:Heap}{k:Nat}{f:Addr}{name qual:Str}{params:Arguments}{body:List Stmt}{scope:Scope}{dV kV doc pm aQ ct oc:Value}{an od:Option Addr}{gF:Array (Option Value)}{N ps:List Str}{sp:vi} (lk:K.lookup f=some ⟨oc,od,.func (fnOf name qual params body scope dV kV doc pm an aQ ct),gF⟩)(ir:codeIn K aQ qual=true)(S:bF N ps scope)(len:∀outer s vs H Q E,sp outer s vs H Q E->vs.length=ps.length) (iX:∀(A:aj)(outer:List Env)(s:ae)(H:Hp)(vs:List V)(Q:VK)(E:XK),cQ k (A.deeper (envOfC qual scope s.heap.objs.size f aQ))->sp outer s vs H Q E->∃t,Aa (ji CX P w K mg base N qual scope f aQ A outer s H E) body t/\t {nx:=λ_ H'=>Q .bw H',rt:=Q} (start N vs) H): XC P w K mg base CX (k+1) f (fnOf name qual params body scope dV kV doc pm an aQ ct) ps sp:=by refine⟨len,λA outer s H args us vs Q E hr e0 hb r jx=>?_⟩;have hl:=len _ _ _ _ _ _ jx;have KX:K.In s.heap:=e0.mod.pH.keeps λb o e=>(e0.bs b o e).1;have lim:s.heap.NoLimit:=e0.mod.nolimit.keeps λb o e=>(e0.bs b o e).1;refine codeAny_call_function hr.depth (KX _ _ lk) Z S.co S.gen Z (codeRec_of KX ir) (hb _ _ _ _ (wpAny_newFunctionEnv_cells S.kind (λ⟨n,v⟩ hy=>(S.par n (Av hy).1).imp id λq=>⟨q,cellsFrom_some _ _ _ (.inl q)⟩) λenv he s1 x=>?_));subst he;obtain⟨t,ht,hq⟩:=iX A outer s H vs Q E (hr.deeper _) jx;have I:Inv (ji CX P w K mg base N qual scope f aQ A outer s H E) [] (start N vs) H s1:=RN S hr.hd e0 hl r x;refine⟨lim.keeps x.toInCall.keep,codeAny_func (jY (ht s1 (start N vs) H _ I hq) (λfl s' hs=>?_) λe s' hs=>hs)⟩;have fin:∀{σ':St}{H':Hp}{v:V}{u:Value},Inv (ji CX P w K mg base N qual scope f aQ A outer s H E) [] σ' H' s'->RelV v u->Q v H'->CE outer P w H s Q u s':=λ{σ' H' v u} J rv q=>⟨v,H',J.os,J.bare,J.base,J.bj,rv,q⟩;cases fl with |ret u=>obtain⟨v,σ',H',J,rv,q⟩:=hs;exact fin J rv q |next=>obtain⟨σ',H',J,q⟩:=hs;exact fin (v:=V.bw) (u:=Value.none) J Z q |brk=>obtain⟨_,_,_,q⟩:=hs;exact False.elim q |cont=>obtain⟨_,_,_,q⟩:=hs;exact False.elim q
def Ah(P:ah)(w:World)(K:Frag)(mg:Str->Option Value)(base:Heap)(x:Str)(k:Nat)(sp:vi):Prop:=∃f fd ps,XC P w K mg base jG k f fd ps sp/\mg x=some (.ref f)/\keepIn K (.ref f)=true/\Binds K fd ps []
def jE(c:Addr)(q:Str)(h:Heap):Prop:=h.CodeRec (.ref c) q
theorem abG{P:ah}{w:World}{H:Hp}{h:Heap}{c:Addr}{q:Str}(e:h.CodeRec (.ref c) q):fW P w H h c (.ext (jE c q)):=by obtain⟨c',o,vs,t,e1,e2,e3,e4⟩:=id e;cases e1;refine⟨e,⟨o,e2⟩,λh1 h2 y k=>?_⟩;obtain⟨c2,o2,Yl,t2,y1,y2,y3,y4⟩:=y;cases y1;exact⟨c,o2,Yl,t2,Z,k _ y2,y3,y4⟩
structure acO(H:Hp)(q:Str)(ps:Array Value):Prop where
 tr:TriplesOk ps.toList
 at':∀pos v,codeAmong pos ps.toList=some v->∃c,v= .ref c/\H c=some (.ext (jE c q))
def TabAt(H:Hp)(T:Addr)(q:Str):Prop:=∃ps,H T=some (.fF ps)/\acO H q ps
theorem TabAt.first{H:Hp}{T:Addr}{q:Str}(h:H T=some (.fF #[])):TabAt H T q:=⟨#[],h,trivial,λpos v e=>by rw[Ll]at e;cases e⟩
theorem TabAt.keep{H H':Hp}{T:Addr}{q:Str}(h:TabAt H T q)(e1:∀ps,H T=some (.fF ps)->H' T=some (.fF ps))(e2:∀b φ,H b=some (.ext φ)->H' b=some (.ext φ)):TabAt H' T q:=by obtain⟨ps,e,tr,ha⟩:=h;refine⟨ps,e1 _ e,tr,λpos v ev=>?_⟩;obtain⟨c,rfl,hc⟩:=ha pos v ev;exact⟨c,Z,e2 _ _ hc⟩
theorem UP{p:Pos}{a b:Int}{c v:Value}(l:List Value)(ht:TriplesOk l)(h:codeAmong p (l++[rawInt a,rawInt b,c])=some v):codeAmong p l=some v\/v=c:=by
 rw[TriplesOk.eq_def]at ht;split at ht
 ·rw[Ll]at h
  simp only[List.nil_append]at h;split at h
  ·rename_i e
   cases e;split at h
   ·cases h;exact .inr rfl
   ·rw[Ll]at h;cases h
  ·cases h
 ·rename_i i t j u x r
  rw[Ll]at h⊢;simp only[List.cons_append]at h;dsimp only at h⊢;split at h
  ·exact .inl (by rw[bp (by assumption)];exact h)
  ·rename_i hn
   rw[bu hn];exact UP r ht h
 ·exact ht.elim
termination_by l.length
def vm(h:Heap)(H:Hp)(fs:List Addr)(f:Addr)(pr:Arguments)(b:Expr)(sc:Scope)(q:Str)(c:Addr)(cl:List (Str×Addr)):Prop:=∃pm ct,h.get? f=some (kla_obj "<lambda>" q pr b sc cl pm c ct)/\H f=none/\f∉fs
structure qw(h:Heap)(H:Hp)(fs:List Addr)(cl:List (Str×Addr))(N:List Str)(vs:List V):Prop where
 cell:∀x c,cl.lookup x=some c->∃u,h.IsCell c u
 free:∀x c,cl.lookup x=some c->H c=none
 nf:∀x c,cl.lookup x=some c->c∉fs
 inj:∀x y c,cl.lookup x=some c->cl.lookup y=some c->x=y
 val:∀(i:Nat) x v,N[i]? =some x->vs[i]? =some v->∃c u,cl.lookup x=some c/\h.IsCell c (some u)/\RelV v u
structure sR(N:List Str)(sc:Scope):Prop where
 kind:sc.kind= .function
 co:sc.isCoroutine=false
 gen:sc.isGenerator=false
 Qr:∀y∈sc.names,y.2≠ .cell
 fr:∀x∈N,sc.names.lookup x=some .free
 only:∀x,sc.names.lookup x=some .free->x∈N
def pG(CX:kH)(P:ah)(w:World)(K:Frag)(mg:Str->Option Value)(base:Heap)(N:List Str)(qual:Str)(scope:Scope)(f:Addr)(cd:Value)(cl:List (Str×Addr))(A:aj)(outer:List Env)(s:ae)(H:Hp)(E:XK):Cx where
 prog:=P
 w:=w
 K:=K
 mg:=mg
 base:=base
 A:=A.deeper (envX qual scope s.heap.objs.size f cd cl)
 N:=N
 s₀:=s
 H₀:=H
 env:=envX qual scope s.heap.objs.size f cd cl
 outer:=outer
 stack:=envX qual scope s.heap.objs.size f cd cl::outer
 ex:=[]
 calm:=true
 fn:=λ_=>false
 pn:=[]
 xe:=λe s'=>wpAny (model P w) (A.deeper (envX qual scope s.heap.objs.size f cd cl)) (leaving (envX qual scope s.heap.objs.size f cd cl) e) (λ_ u6=>CX outer H s E e u6) (λe' u6=>CX outer H s E e' u6) s'
theorem a6k{CX:kH}{P:ah}{w:World}{K:Frag}{mg:Str->Option Value}{base:Heap}{N:List Str}{qual:Str}{scope:Scope}{f:Addr}{cd:Value}{cl:List (Str×Addr)}{A:aj}{outer:List Env}{s:ae}{H:Hp}{E:XK}{vs:List V}{h':Heap}{tk:Nat}{m:Str->Option Value}{fs:List Addr} (S:sR N scope)(hd:A.handled=none)(e0:oM P w K mg base A outer s H)(hl:vs.length=N.length)(C:qw s.heap H fs cl N vs)(xc:h'.Ns s.heap.objs.size m)(hk:∀b u,s.heap.get? b=some u->h'.get? b=some u): Inv (pG CX P w K mg base N qual scope f cd cl A outer s H E) [] (vs.map some) H ⟨h',s.gens,s.drawn,tk,s.os⟩:=by
 have uq:∀b:Addr,b∉([]:List Addr):=λb=>by simp
 have RL:∀{c:Addr}{v:Option Value},s.heap.IsCell c v->h'.IsCell c v:=λ⟨o,e,d⟩=>⟨o,hk _ _ e,d⟩;refine⟨⟨e0.mod,S.kind,Z,Z,bR _,C.inj,λy hy=>?_,λy c z=>(nomatch z),λ_=>hd,Around.frames_deeper e0.frames,.inr ⟨rfl,rfl⟩,λb z=>absurd z (uq b),e0.bs,e0.mz,λb _ _=>uq b,λb z=>absurd z (uq b),e0.jT,e0.og⟩,rfl,e0.bare,Un.kept hk,⟨_,xc,λi y v h1 h2 h3=>?_⟩,λy c h=>?_,e0.bj.fresh (bR _),C.free,λp hp=>absurd hp (by simp[pG]),e0.bj.kept hk,by rw[cB];exact hl⟩
 ·have hy:scope.names.lookup y=some .cell\/scope.names.lookup y=some .free:=hy
  rcases hy with hy|hy
  ·exact absurd Z (S.Qr _ (vv hy))
  ·obtain⟨i,hi⟩:=qG.mp (S.only y hy)
   obtain⟨v,hv⟩:∃v,vs[i]? =some v:=⟨_,cu (by rw[hl];exact(dQ.mp hi).1)⟩;obtain⟨c,u,e,_⟩:=C.val i y v hi hv;exact⟨c,e⟩
 ·rw[cH]at h2
  cases e:vs[i]? with |none=>rw[e]at h2;cases h2 |some v'=>rw[e]at h2;cases h2;obtain⟨c,u,e1,e2,r⟩:=C.val i y v h1 e;exact⟨u,r,.inr ⟨.inr (S.fr y (gX h1)),c,e1,RL e2⟩⟩
 ·obtain⟨u,e⟩:=C.cell y c h
  exact⟨u,RL e⟩
theorem a5R{CX:kH}{P:ah}{w:World}{K:Frag}{mg:Str->Option Value}{base:Heap}{k:Nat}{f c:Addr}{qual:Str}{pr:Arguments}{b:Expr}{sc:Scope}{cl:List (Str×Addr)}{N:List Str}{A:aj}{outer:List Env}{s:ae}{H:Hp}{E:XK}{vs:List V}{Q:VK}{t:TE}{fs fs':List Addr} (S:sR N sc)(hb:∀pm cd ct,bindArgs (kla_fn "<lambda>" qual pr b sc cl pm cd ct) ⟨[],[]⟩=pure [])(hr:cQ (k+1) A)(e0:oM P w K mg base A outer s H)(L:vm s.heap H fs f pr b sc qual c cl)(hc:H c=some (.ext (jE c qual)))(hl:vs.length=N.length)(C:qw s.heap H fs' cl N vs) (ht:PE (pG CX P w K mg base N qual sc f (.ref c) cl A outer s H E) b t)(hq:t (vs.map some) H Q):codeAny (model P w) A (.call (.ref f) ⟨[],[]⟩) (CR CX outer P w H s Q E) s:=by
 obtain⟨pm,ct,ho,hf,hn⟩:=L;have lim:s.heap.NoLimit:=e0.mod.nolimit.keeps λb o e=>(e0.bs b o e).1;have cr:s.heap.CodeRec (.ref c) qual:=(e0.bj c _ hc).1;refine kla_callFunE hr.depth ho Z S.co S.gen Z cr ?_;rw[hb];refine cA (XF (λx hx=>S.Qr x hx) (λx hx=>nomatch hx) (λh' xc J5=>?_) S.kind);have hk:∀b u,s.heap.get? b=some u->h'.get? b=some u:=λb u e=>by
  have dX:b≠s.heap.objs.size:=λz=>by have:=cJ e;rw[z]at this;exact qE _ this
  rw[J5.2 b dX];exact cI _ e
 refine⟨lim.keeps hk,kla_codeExpr ?_⟩;have I:Inv (pG CX P w K mg base N qual sc f (.ref c) cl A outer s H E) [] (vs.map some) H ⟨h',s.gens,s.drawn,s.toks+([]:List (Str×Value)).length,s.os⟩:=a6k S hr.hd e0 hl C xc hk;refine jY (ht [] _ (vs.map some) H _ I hq) (λu s' ⟨v,H',J,rv,q⟩=>?_) λe s' h=>h;exact⟨v,H',J.os,J.bare,J.base,J.bj,rv,q⟩
section
variable {P:ah}{w:World}{K:Frag}{mg:Str->Option Value}{base:Heap}{N:List Str}{qual:Str}{scope:Scope}{f:Addr}{cd:Value}{cl:List (Str×Addr)}{A:aj}{outer:List Env}{s:ae}{H:Hp}{E E0:XK}
theorem Hz(he:∀cls dx H',E cls dx H'->E0 cls dx H'):Passes (jF P w) (pG (jF P w) P w K mg base N qual scope f cd cl A outer s H E0) E:=by
 intro ay O H1 s1 e s2 I hx;obtain⟨ex,cls,dx,H',B,rfl,ho,hg,pW,F,q⟩:=hx;have pW:lb B (envX qual scope s.heap.objs.size f cd cl::outer) ex cls dx .none s2.heap:=pW;show wpAny (model P w) (A.deeper (envX qual scope s.heap.objs.size f cd cl)) (leaving (envX qual scope s.heap.objs.size f cd cl) (.ref ex)) _ _ _;refine a5L (L:=s.heap.objs.size) I.ok.frames Z pW λh' x1 x2=>?_;have F2:=F.step pW.1 x1.1 x2 pW.2.2.1;have sub:∀b,b∈du outer->b∈du (envX qual scope s.heap.objs.size f cd cl::outer):=λb hb=>by obtain⟨env,h1,h2⟩:=oO.mp hb;exact oO.mpr ⟨env,.tail _ h1,h2⟩
 have qZ:∀b o,s.heap.get? b=some o->b∉du outer->b∉du (envX qual scope s.heap.objs.size f cd cl::outer):=λb o e hb hm=>by
  obtain⟨env,h1,h2⟩:=oO.mp hm;rcases bM.mp h1 with z|h1
  ·subst z
   have e1:s.heap.objs.size=b:=eg h2;have e2:=cJ e;rw[<-e1]at e2;exact absurd e2 (qE _)
  ·exact hb (oO.mpr ⟨env,h1,h2⟩)
 have nx:∀b:Addr,b∉([]:List Addr):=λ_=>cL;refine⟨ex,cls,dx,H',B,Z,ho.trans I.os,hg,x1,⟨⟨λb o e n hb _=>?_,λb o e n hb _=>?_,λb o e n _=>?_,λb o e _=>?_,λb xs e=>F2.un.kL b xs (I.base.kL b xs e),λb o u e=>F2.un.kz b o u (I.base.kz b o u e),λb ps e=>?_⟩,F2.bj,λb o e n hb=>?_,F2.k2,λb o e hb=>?_,λb hb=>F2.fr b (sub b hb),?_,F2.ne⟩,he _ _ _ q⟩
 ·exact F2.un.keep b o (I.base.keep b o e n hb (nx b)) (I.base.free b o e n (nx b)) (qZ b o e hb) (nx b)
 ·obtain⟨sl,e1⟩:=I.base.slot b o e n hb (nx b)
  obtain⟨ER,e2⟩:=F2.un.slot b _ e1 (I.base.free b o e n (nx b)) (sub b hb) (nx b);exact⟨ER,e2⟩
 ·obtain⟨sl,e1⟩:=I.base.any e n (nx b)
  exact F2.un.free b _ e1 (I.base.free b o e n (nx b)) (nx b)
 ·obtain⟨o1,e1⟩:=I.base.there b o e (nx b)
  exact F2.un.there b o1 e1 (nx b)
 ·obtain⟨m1,e1⟩:=I.base.ki b ps e
  obtain⟨m2,e2⟩:=F2.un.ki b _ e1;exact⟨m1++m2,by rw[<-Array.append_assoc];exact e2⟩
 ·exact F2.k1 b o (I.base.keep b o e n hb (nx b)) (I.base.free b o e n (nx b)) (qZ b o e hb)
 ·obtain⟨o1,e1⟩:=I.base.there b o e (nx b)
  exact F2.k3 b o1 e1 (qZ b o e hb)
 ·cases e:s.heap.get? ex with |none=>rfl |some o=>obtain⟨o1,e1⟩:=I.base.there ex o e (nx ex);rw[F2.nw]at e1;cases e1
end
section
variable {X:Cx}{x:Str}{p pos:Pos}{E:XK}
inductive Xv(X:Cx)(i:Nat)(E:XK)(O:St)(H:Hp)(Q:VK):Prop |mk (f c:Addr)(cl:List (Str×Addr))(pr:Arguments)(b:Expr)(sc:Scope)(q:Str)(N:List Str)(vs:List V)(t:XK->TE)(k:Nat)(h0:O[i]? =some (some (.ref f)))(h1:H=X.H₀)(h2:vm X.s₀.heap X.H₀ X.fs f pr b sc q c cl)(h3:H c=some (.ext (jE c q)))(h4:qw X.s₀.heap X.H₀ X.fs cl N vs)(h5:vs.length=N.length)(h6:sR N sc)(h7:∀pm cd ct,bindArgs (kla_fn "<lambda>" q pr b sc cl pm cd ct) ⟨[],[]⟩=pure [])(h8:cQ (k+1) X.A) (h9:∀(A:aj)(outer:List Env)(s:ae)(H:Hp)(E:XK),cQ k (A.deeper (envX q sc s.heap.objs.size f (.ref c) cl))->PE (pG (jF X.prog X.w) X.prog X.w X.K X.mg X.base N q sc f (.ref c) cl A outer s H E) b (t E))(zJ:t E (vs.map some) H Q):Xv X i E O H Q
theorem a2g{xe:Value->ae->Prop}(i:Nat)(hp:Passes (jF X.prog X.w) (X.jm xe) E)(hex:X.ex=[]:=by rfl)(hN:X.N[i]? =some x:=by rfl)(hv:DC X.env.scope x:=by first|exact Or.inl rfl|exact Or.inr (Or.inl rfl)|exact Or.inr (Or.inr rfl))(hd:(x==("__debug__":Str))=false:=by decide) (ir:(x==("__classdict__":Str))=false:=by decide):PE (X.jm xe) (.Call (.Name x p) [] [] pos) (λO H Q=>Xv X i E O H Q):=by
 intro ay s O H Q I h;obtain⟨f,c,cl,pr,b,sc,q,N,vs,t,k,h0,h1,⟨pm,ct,L1,L2,L3⟩,h3,C,h5,h6,h7,h8,h9,zJ⟩:=h;have nx:∀b:Addr,b∉X.ex:=λb=>by rw[hex];exact cL
 refine Ap (bo (PL (X:=X.jm xe) (pos:=p) hN hv hd ir ay s O H (λv H'=>v= .ref f/\H'=H) I ⟨_,h0,Z,Z⟩) λu s1 ⟨v,H1,I1,rv,e1,e2⟩=>?_);subst e1 e2;cases(show u=Value.ref f from rv);have hf:=I1.base.keep f _ L1 L2 L3 (nx f);have kc:∀{x c u},cl.lookup x=some c->X.s₀.heap.IsCell c u->s1.heap.IsCell c u:=λ{x c u} e ⟨o,e1,e2⟩=>⟨o,I1.base.keep c o e1 (C.free x c e) (C.nf x c e) (nx c),e2⟩;have C2:qw s1.heap H1 X.fs cl N vs:=⟨λx c e=>(C.cell x c e).imp λu z=>kc e z,λx c e=>by rw[h1];exact C.free x c e,C.nf,C.inj,λi x v a b=>by obtain⟨c,u,e,z,r⟩:=C.val i x v a b;exact⟨c,u,e,kc e z,r⟩⟩;refine callWith_F0 ⟨_,_,_,_,hf⟩ (Ao (Aq (a5R (k:=k) (fs:=X.fs) (fs':=X.fs) h6 h7 h8 I1.Df ⟨pm,ct,hf,by rw[h1];exact L2,L3⟩ h3 h5 C2 (h9 _ _ _ _ E (h8.deeper _)) zJ) λr s' hq=>?_));cases r with |error e=>exact hp ay O H1 s1 e s' I1 hq |ok fl=>cases fl with |ret u=>exact I1.after hq |next=>exact False.elim hq |brk=>exact False.elim hq |cont=>exact False.elim hq
end
def oy(cells:List (Str×Addr)):List (Str×NameKind)->List (Str×Addr)->List (Str×Addr) |[],cs=>cs |(n,k)::r,cs=>oy cells r (if k== .free then(n,(cells.lookup n).getD 0)::cs else cs)
theorem UC{env:Env}:∀(l:List (Str×NameKind))(cs:List (Str×Addr)),(∀y∈l,y.2= .free->∃c,env.cells.lookup y.1=some c)->(forIn l cs (λ(x:Str×NameKind)(cs:List (Str×Addr))=>match x with |(name,kind)=>if(kind==NameKind.free)=true then(do let c<-cellOf env name;pure (ForInStep.yield ((name,c)::cs)))else pure (ForInStep.yield cs)):Sem (List (Str×Addr)))=pure (oy env.cells l cs)
 |[],cs,_=>rfl |(n,k)::r,cs,h=>by
  rw[E6];have ih:=λcs=>UC r cs λy hy=>h y (.tail _ hy);unfold oy;by_cases hk:(k==NameKind.free)=true
  ·obtain⟨c,e⟩:=h (n,k) (.head _) (by cases k<;>first|rfl|cases hk)
   simp only[hk,vt];unfold cellOf;rw[e];exact ih _
  ·simp only[hk]
   exact ih _
theorem UG{cells:List (Str×Addr)}{x:Str}{c:Addr}:∀(l:List (Str×NameKind))(cs:List (Str×Addr)),(∀y∈l,y.2= .free->∃c,cells.lookup y.1=some c)->(oy cells l cs).lookup x=some c->cs.lookup x=some c\/cells.lookup x=some c
 |[],cs,_,h=>.inl h |(n,k)::r,cs,ha,h=>by
  unfold oy at h;rcases UG r _ (λy hy=>ha y (.tail _ hy)) h with z|z
  ·by_cases hk:(k==NameKind.free)=true
   ·rw[bp hk,jk]at z
    split at z
    ·rename_i e
     obtain⟨c',e'⟩:=ha (n,k) (.head _) (by cases k<;>first|rfl|cases hk);rw[show cells.lookup n=some c' from e']at z;cases z;rw[gh.mp e];exact .inr e'
    ·exact .inl z
   ·rw[bu hk]at z;exact .inl z
  ·exact .inr z
theorem UH{cells:List (Str×Addr)}{x:Str}:∀(l:List (Str×NameKind))(cs:List (Str×Addr)),(x,NameKind.free)∈l\/(∃c,cs.lookup x=some c)->∃c,(oy cells l cs).lookup x=some c
 |[],cs,h=>by
  rcases h with h|h
  ·cases h
  ·exact h |(n,k)::r,cs,h=>by
  unfold oy;refine UH r _ ?_;rcases h with h|⟨c,h⟩
  ·rcases bM.mp h with e|e
   ·cases e
    exact .inr ⟨(cells.lookup x).getD 0,by simp[jk]⟩
   ·exact .inl e
  ·refine .inr ?_
   split
   ·rw[jk]
    split
    ·exact⟨_,Z⟩
    ·exact⟨c,h⟩
   ·exact⟨c,h⟩
theorem abJ{env:Env}{sc:Scope}(h:∀y∈sc.names,y.2= .free->∃c,env.cells.lookup y.1=some c):closureFor sc env=pure (oy env.cells sc.names []):=by unfold closureFor;have:=UC sc.names [] h;simp only[this];rfl
theorem ac6{h h':Heap}{mg:Str->Option Value}{T:Addr}(b:h.BuiltinsAt mg T)(k:∀b o,h.get? b=some o->h'.get? b=some o):h'.BuiltinsAt mg T:=by obtain⟨bm,o,b1,b2,b3,b4,b5,b6⟩:=b;exact⟨bm,o,b1,b2,b3,b4,k _ _ b5,b6⟩
section
variable {X:Cx}{ay:List (Addr×Obj)}{O:St}{H:Hp}{s:ae}{pr:Arguments}{bd:Expr}{sc:Scope}{fO:Pos}{cl:List (Str×Addr)}{T c:Addr}{q:Str}
theorem Inv.Qi(I:Inv X ay O H s){f:Addr}(h:s.heap.objs.size<=f):f∉du X.stack:=λhb=>by
 rcases bM.mp (I.yn f hb)with e|e
 ·rw[e]at h;exact absurd I.lt (Nat.not_lt.mpr h)
 ·exact I.Qq h e
theorem a5S{Vn:Value->ae->Prop}(I:Inv X ay O H s)(hc:X.env.code= .ref c)(hd:CodeHd X.base c T)(hB:X.base.BuiltinsAt X.mg T)(mq:closureFor sc X.env=pure cl)(uP:defaultsOf pr X.env=([],[]))(Ja:X.env.qual++Str.ofString "<lambda>"=q)(ht:TabAt H T q) (hq:∀f c' H' s',Inv X ay O H' s'->vm s'.heap H' (du X.stack) f pr bd sc q c' cl->H' c'=some (.ext (jE c' q))->TabAt H' T q->bc [T] H H'->(∀b,b≠T->H b=none->(∃o,s.heap.get? b=some o)->H' b=none/\∀o,s.heap.get? b=some o->s'.heap.get? b=some o)->Vn (.ref f) s'): wpAny (model X.prog X.w) X.A (eval (.Lambda pr bd sc fO) X.env) Vn X.xe s:=by
 refine kla_eval uP ?_;rw[Ja];obtain⟨ps,hT,tr,zC⟩:=ht;have kb:=I.bk;have Si:=I.ok.mod.glob.keeps kb;have Sm:CodeHd s.heap c T:=CodeHd.keeps hd kb;have CM:s.heap.get? T=some (tabObj ps):=I.bj T _ hT;have SN:=ac6 hB kb;have gT:mainGlobals≠T:=λz=>by obtain⟨o,es,ep,e,_⟩:=I.ok.mod.glob;have:=(I.bs _ _ e).2;rw[z,hT]at this;cases this
 cases ha:codeAmong fO ps.toList with |some v=>obtain⟨c',rfl,gU⟩:=zC fO v ha;refine kla_makeFunctionHit mq I.ok.glob Si hc Sm CM tr ha SN λow h' tk hk hsz=>?_;have nY:∀b o,s.heap.get? b=some o->(h'.push {cls:=Value.type "function",data:=Data.func (kla_fn (Str.ofString "<lambda>") q pr bd sc cl ((X.mg (Str.ofString "__name__")).getD Value.none) (Value.ref c') ow)}).get? b=some o:=λb o e=>cI _ (hk b o e);refine hq h'.objs.size c' H _ (I.kept nY) ⟨_,ow,fq _ Z,I.bj.fresh hsz,I.Qi hsz⟩ gU ⟨ps,hT,tr,zC⟩ (λb o e _=>e) λb _ hb _=>⟨hb,λo e=>nY b o e⟩ |none=>
  refine kla_makeFunction mq I.ok.glob Si hc Sm CM tr ha gT SN λc' ow h' tk hx CI cF a6T htb=>?_;have fc:H c'=none:=I.bj.fresh CI;have cT:c'≠T:=λz=>by rw[z,hT]at fc;cases fc
  have nY:∀b o,b≠T->s.heap.get? b=some o->(h'.push (kla_obj (Str.ofString "<lambda>") q pr bd sc cl ((X.mg (Str.ofString "__name__")).getD Value.none) c' ow)).get? b=some o:=λb o hb e=>cI _ (hx b o hb e);have Us:(h'.push (kla_obj (Str.ofString "<lambda>") q pr bd sc cl ((X.mg (Str.ofString "__name__")).getD Value.none) c' ow)).CodeRec (.ref c') q:=by obtain⟨c2,o,vs,t,e1,e2,e3⟩:=a6T;exact⟨c2,o,vs,t,e1,cI _ e2,e3⟩
  have JA:(h'.push (kla_obj (Str.ofString "<lambda>") q pr bd sc cl ((X.mg (Str.ofString "__name__")).getD Value.none) c' ow)).get? T=some (tabObj (ps++#[rawInt ↑fO.line,rawInt ↑fO.col,Value.ref c'])):=cI _ htb;have Te:s.heap.objs.size<=h'.objs.size:=LJ (qD CI cF);have hf:(h'.push (kla_obj (Str.ofString "<lambda>") q pr bd sc cl ((X.mg (Str.ofString "__name__")).getD Value.none) c' ow)).get? h'.objs.size=some (kla_obj (Str.ofString "<lambda>") q pr bd sc cl ((X.mg (Str.ofString "__name__")).getD Value.none) c' ow):=fq _ rfl;have eU:∀b o,b≠T->H b=some o->upd (upd H T (.fF (ps++#[rawInt ↑fO.line,rawInt ↑fO.col,Value.ref c']))) c' (.ext (jE c' q)) b=some o:=λb o hb e=>by rw[aK (gy e fc),aK hb];exact e
  have eN:∀b,b≠T->b≠c'->H b=none->upd (upd H T (.fF (ps++#[rawInt ↑fO.line,rawInt ↑fO.col,Value.ref c']))) c' (.ext (jE c' q)) b=none:=λb hb mM e=>by rw[aK mM,aK hb];exact e
  have eT:upd (upd H T (.fF (ps++#[rawInt ↑fO.line,rawInt ↑fO.col,Value.ref c']))) c' (.ext (jE c' q)) T=some (.fF (ps++#[rawInt ↑fO.line,rawInt ↑fO.col,Value.ref c'])):=by rw[aK cT.symm];exact bf
  have eC:upd (upd H T (.fF (ps++#[rawInt ↑fO.line,rawInt ↑fO.col,Value.ref c']))) c' (.ext (jE c' q)) c'=some (.ext (jE c' q)):=bf;have eX:∀b o,upd (upd H T (.fF (ps++#[rawInt ↑fO.line,rawInt ↑fO.col,Value.ref c']))) c' (.ext (jE c' q)) b=some o->(b=c'/\o= .ext (jE c' q))\/(b=T/\o= .fF (ps++#[rawInt ↑fO.line,rawInt ↑fO.col,Value.ref c']))\/(b≠T/\H b=some o):=λb o e=>by
   by_cases h1:b=c'
   ·subst h1;rw[bf]at e;cases e;exact .inl ⟨rfl,rfl⟩
   ·rw[aK h1]at e
    by_cases h2:b=T
    ·subst h2;rw[bf]at e;cases e;exact .inr (.inl ⟨rfl,rfl⟩)
    ·rw[aK h2]at e;exact .inr (.inr ⟨h2,e⟩)
  generalize upd (upd H T (.fF (ps++#[rawInt ↑fO.line,rawInt ↑fO.col,Value.ref c']))) c' (.ext (jE c' q))=H' at eU eN eT eC eX;generalize hhn:h'.push (kla_obj (Str.ofString "<lambda>") q pr bd sc cl ((X.mg (Str.ofString "__name__")).getD Value.none) c' ow)=hn at nY Us JA hf⊢;have BW:∀{b o},s.heap.get? b=some o->b≠c':=λ{b o} e z=>by have:=cJ e;rw[z]at this;exact absurd this (Nat.not_lt.mpr CI)
  have nT:∀{b},H b=none->b≠T:=λ{b} e z=>by rw[z,hT]at e;cases e
  have un:Un (du X.stack) [] H H' s.heap hn:=by
   refine⟨λb o e n _ _=>nY b o (nT n) e,λb o e n _ _=>⟨o.slots,nY b o (nT n) e⟩,λb o e n _=>eN b (nT n) (BW e) n,λb o e _=>?_,λb xs e=>eU b _ (λz=>by rw[z,hT]at e;cases e) e,λb o u e=>eU b _ (λz=>by rw[z,hT]at e;cases e) e,λb ps' e=>?_⟩
   ·by_cases hb:b=T
    ·rw[hb];exact⟨_,JA⟩
    ·exact⟨o,nY b o hb e⟩
   ·by_cases hb:b=T
    ·rw[hb,hT]at e
     cases e;rw[hb];exact⟨_,eT⟩
    ·exact⟨#[],by rw[Array.append_empty];exact eU b _ hb e⟩
  have ho:dZ X.prog X.w H' hn:=λa o e=>by
   rcases eX a o e with⟨rfl,rfl⟩|⟨rfl,rfl⟩|⟨dX,e⟩
   ·exact abG Us
   ·exact JA
   ·refine(I.bj a o e).mD (λb' u hb e'=>nY b' u (λz=>?_) e') (λb' e'=>eU b' _ (λz=>by rw[z,hT]at e';cases e') e') λb' xs e'=>eU b' _ (λz=>by rw[z,hT]at e';cases e') e'
    rcases hb with z2|z2
    ·exact dX (z2▸z)
    ·rw[z,hT]at z2;cases z2
  have I':Inv X ay O H' ⟨hn,s.gens,s.drawn,tk,s.os⟩:=I.call (ch:=[]) un ho I.bare λb hb=>(cL hb).elim;refine hq h'.objs.size c' H' _ I' ⟨_,ow,hf,?_,I.Qi Te⟩ eC ⟨_,eT,?_,λp v e=>?_⟩ (λb o e hb=>eU b o (λz=>hb (by rw[z];exact .head _)) e) λb hb hn0 he=>?_
  ·have rL:H h'.objs.size=none:=I.bj.fresh Te
   exact eN _ (nT rL) (λz=>absurd cF (by rw[<-z];exact qE _)) rL
  ·rw[Ea];exact TriplesOk_snoc _ _ _ _ tr
  ·rw[Ea]at e
   rcases UP _ tr e with z|z
   ·obtain⟨c2,r1,r2⟩:=zC p v z
    exact⟨c2,r1,eU c2 _ (λz=>by rw[z,hT]at r2;cases r2) r2⟩
   ·exact⟨c',z,eC⟩
  ·obtain⟨o,e⟩:=he
   exact⟨eN b hb (BW e) hn0,λo e=>nY b o hb e⟩
end
def qh(K:Frag)(cd:Value)(T:Addr):Bool:=match cd with
 | .ref c=>match K.lookup c with |some ⟨.type n,_,.fields vs,_⟩=>n=="code"&&(match(vs[11]? :Option Value),(vs.getD 11 .none:Value),(vs.getD 18 .none:Value),(vs.getD 7 .none:Value),(vs.getD 9 .none:Value),(vs.getD 10 .none:Value)with |some (.ref P),.ref P2,.str _ _,.int _ _,.bool _,.int _ _=>P==T&&P2==T&&c !=T |_,_,_,_,_,_=>false) |_=>false
 |_=>false
theorem UB{K:Frag}{cd:Value}{T:Addr}{h:Heap}(e:qh K cd T=true)(X:K.In h):∃c,cd= .ref c/\CodeHd h c T:=by
 unfold qh at e;split at e
 ·rename_i c
  split at e
  ·rename_i n d vs sl hl
   rw[fE]at e;obtain⟨e1,e2⟩:=e;split at e2
   ·rename_i P P2 f tf fl tg b t tt h1 h2 h3 h4 h5 h6
    simp only[fE,gh,bne_iff_ne]at e1 e2;obtain⟨⟨e3,e4⟩,e5⟩:=e2;subst e1 e3;rw[e4]at h2;exact⟨c,Z,_,vs,f,tf,fl,tg,b,t,tt,X _ _ hl,Z,Z,h1,h2,h3,h4,h5,h6,e5⟩
   ·cases e2
  ·cases e
 ·cases e
section
variable {X:Cx}{k:Nat}{x:Str}{p pos fO:Pos}{pr:Arguments}{bd:Expr}{sc:Scope}{sp:vi}{T c:Addr}{q:Str}{N:List Str}
inductive Xt(X:Cx)(T:Addr)(q:Str)(pr:Arguments)(bd:Expr)(sc:Scope)(N:List Str)(js:List Nat)(sp:vi)(O:St)(H:Hp)(Q:VK):Prop |mk (vs:List V)(h0:TabAt H T q)(h1:vs.length=N.length)(h2:∀(i j:Nat) v,js[i]? =some j->vs[i]? =some v->O[j]? =some (some v)) (h3:∀f c cl H' s',vm s'.heap H' (du X.stack) f pr bd sc q c cl->H' c=some (.ext (jE c q))->qw s'.heap H' (du X.stack) cl N vs->TabAt H' T q->bc [T] H H'->sp X.stack s' [.ref f] H' Q E0):Xt X T q pr bd sc N js sp O H Q
structure KZ(X:Cx)(N:List Str)(js:List Nat)(sc:Scope):Prop where
 S:sR N sc
 cell:∀y∈sc.names,y.2= .free->X.env.kindOf y.1=some .cell
 ix:∀(i:Nat) y,N[i]? =some y->∃j,js[i]? =some j/\X.N[j]? =some y
theorem Hx{js:List Nat}(LI:KZ X N js sc)(F:Ah X.prog X.w X.K X.mg X.base x k sp)(hr:cQ k X.A)(hg:Gl X x)(rL:∀y,X.fn y=true)(hct:qh X.K X.env.code T=true)(hB:X.base.BuiltinsAt X.mg T)(Ja:X.env.qual++Str.ofString "<lambda>"=q)(uP:defaultsOf pr X.env=([],[])) (jA:(x==("__debug__":Str))=false:=by decide): PE X (.Call (.Name x p) [.Lambda pr bd sc fO] [] pos) (λO H Q=>Xt X T q pr bd sc N js sp O H Q):=by
 intro ay s O H Q I h;obtain⟨f0,fd,ps,F,hm,hk,hb⟩:=F;obtain⟨vs,h0,h1,h2,h3⟩:=h;obtain⟨S,mL,hj⟩:=LI;obtain⟨c,hc,hd⟩:=UB hct I.ok.mod.pH;have Sy:∀y∈sc.names,y.2= .free->∃c,X.env.cells.lookup y.1=some c:=λy hy e=>I.ok.has y.1 (.inl (mL y hy e));refine Ap (wR I hg hm ?_ jA);refine callWith_K (h₀:=X.base) I.ok.mod.pH hk ?_ Z rfl;show wpAny _ _ (spliced ((false,eval (.Lambda pr bd sc fO) X.env)::backTo pos (starEach [] X.env))) _ _ s;refine Calls.spliced_cons (a5S I hc hd hB (abJ Sy) uP Ja h0 λf c' H' s' I' L gU tb bt _=>?_);refine Calls.spliced_nil ⟨I'.gQ,?_⟩;have sub:∀{y c},(oy X.env.cells sc.names []).lookup y=some c->X.env.cells.lookup y=some c:=λ{y c} e=>by
  rcases UG sc.names [] Sy e with z|z
  ·cases z
  ·exact z
 have C:qw s'.heap H' (du X.stack) (oy X.env.cells sc.names []) N vs:=by
  refine⟨λy c e=>I'.cell y c (sub e),λy c e=>I'.kB y c (sub e),λy c e hf=>?_,λy z c e1 e2=>I'.ok.inj y z c (sub e1) (sub e2),λi y v e1 e2=>?_⟩
  ·rcases bM.mp (I'.yn c hf)with z|z
   ·exact I'.kE y c (sub e) z
   ·obtain⟨_,o,ho,_⟩:=I'.ok.jT.mem z
    exact absurd (cJ ho) (Nat.not_lt.mpr (I'.ok.sy y c (rL y) (sub e)))
  ·obtain⟨j,ej,eN⟩:=hj i y e1
   have mem:=vv (S.fr y (gX e1));have kd:X.env.kindOf y=some .cell:=mL _ mem rfl;obtain⟨m,_,a7j⟩:=I'.loc;obtain⟨u,ru,lk⟩:=a7j j y v eN (h2 i j v ej e2) (.inr (.inl kd));obtain⟨c1,e3⟩:=UH (cells:=X.env.cells) sc.names [] (.inl mem);rcases lk with⟨z,_⟩|⟨_,c2,e4,ic⟩
   ·rw[kd]at z;cases z
   ·have:=sub e3
    rw[e4]at this;cases this;exact⟨_,u,e3,ic,ru⟩
 have hs:=h3 f c' _ H' s' L gU C tb bt;have hl:([Value.ref f]++([]:List Value)).length=ps.length:=by rw[<-F.len _ _ _ _ _ _ hs];rfl
 have bt2:=hb s' [.ref f] I'.gQ hl;refine Ao (Aq (F.run X.A X.stack s' H' ⟨[.ref f],[]⟩ [.ref f] [.ref f] Q E0 hr I'.Df bt2 (.cons Z .nil) hs) λr s2 hq=>?_);cases r with |error e=>exact False.elim hq |ok fl=>cases fl with |ret u=>exact I'.after hq |next=>exact False.elim hq |brk=>exact False.elim hq |cont=>exact False.elim hq
end
structure Ai(K:Frag)(mg:Str->Option Value)(x:Str)(st:Stmt)(T:Addr):Prop where ex:∃f fd,mg x=some (.ref f)/\kG K x x st f fd/\qh K fd.code T=true
section
variable {P:ah}{w:World}{K:Frag}{mg:Str->Option Value}{base:Heap}
theorem a9u{h:Heap}{x:Str}{st:Stmt}{f T:Addr}{oc:Value}{od an:Option Addr}{gF:Array (Option Value)}{kV doc pm aQ ct:Value}(X:K.In h)(G:h.Ns mainGlobals mg)(a:nsIn K mainGlobals x=some (some (.ref f))) (l:K.lookup f=some ⟨oc,od,.func (fnOf x x (kD st) (gW st) (aZ st) .none kV doc pm an aQ ct),gF⟩)(c:codeIn K aQ x=true)(k:keepIn K (.ref f)=true)(t:qh K aQ T=true):Ai K mg x st T:=⟨f,_,mg_of X G a,CW l c k,t⟩
theorem Ai.has{x:Str}{st:Stmt}{N ps:List Str}{k:Nat}{sp:Sp}{T:Addr}(F:Ai K mg x st T)(S:bF N ps (aZ st))(len:∀vs H Q E,sp vs H Q E->vs.length=ps.length) (hb:∀(kV doc pm:Value)(an:Option Addr)(aQ ct:Value)(us:List Value),us.length=ps.length->bindArgs (fnOf x x (kD st) (gW st) (aZ st) .none kV doc pm an aQ ct) ⟨us,[]⟩=pure (ps.zip us)) (iX:∀(f:Addr)(aQ:Value)(A:aj)(outer:List Env)(s:ae)(H:Hp)(vs:List V)(Q:VK)(E:XK),qh K aQ T=true->cQ k (A.deeper (envOfC x (aZ st) s.heap.objs.size f aQ))->sp vs H Q E->∃t,iy (ji jG P w K mg base N x (aZ st) f aQ A outer s H E).pE (gW st) t/\t {nx:=λ_ H'=>Q .bw H',rt:=Q} (start N vs) H):aI P w K mg base x (k+1) sp:=by obtain⟨f,fd,hm,F,ct⟩:=F.ex;have pR:=F.binds hb;have kp:=F.kp;obtain⟨oc,od,kV,doc,pm,an,aQ,ctt,gF,rfl,lk,ir⟩:=F.ex;exact⟨f,_,ps,JR lk ir S len λA outer s H vs Q E hr jx=>(iX f aQ A outer s H vs Q E ct hr jx).imp λt h=>⟨h.1.pE,h.2⟩,hm,kp,pR⟩
theorem FA.a7W{x:Str}{st:Stmt}{N ps:List Str}{k:Nat}{sp:vi}(F:FA K mg x st)(S:bF N ps (aZ st))(len:∀outer s vs H Q E,sp outer s vs H Q E->vs.length=ps.length) (hb:∀(kV doc pm:Value)(an:Option Addr)(aQ ct:Value)(us:List Value),us.length=ps.length->bindArgs (fnOf x x (kD st) (gW st) (aZ st) .none kV doc pm an aQ ct) ⟨us,[]⟩=pure (ps.zip us)) (iX:∀(f:Addr)(aQ:Value)(A:aj)(outer:List Env)(s:ae)(H:Hp)(vs:List V)(Q:VK)(E:XK),cQ k (A.deeper (envOfC x (aZ st) s.heap.objs.size f aQ))->sp outer s vs H Q E->∃t,Aa (ji jG P w K mg base N x (aZ st) f aQ A outer s H E) (gW st) t/\t {nx:=λ_ H'=>Q .bw H',rt:=Q} (start N vs) H):Ah P w K mg base x (k+1) sp:=by obtain⟨f,fd,hm,F⟩:=F.ex;have pR:=F.binds hb;have kp:=F.kp;obtain⟨oc,od,kV,doc,pm,an,aQ,ctt,gF,rfl,lk,ir⟩:=F.ex;exact⟨f,_,ps,a9k lk ir S len λA outer s H vs Q E hr jx=>iX f aQ A outer s H vs Q E hr jx,hm,kp,pR⟩
end
theorem a5Q{P:ah}{w:World}{K:Frag}{mg mb:Str->Option Value}{k:Nat}{fa a T:Addr}{fd:FuncData}{x:Str}{sp:Sp}{s₁:ae}{vs:List Value}{ns:List Int}{cd:Value} (KX:K.In s₁.heap)(xc:s₁.heap.Ns mainGlobals mg)(pR:s₁.heap.Ns builtinsNs mb)(hbb:∀x:Str,x≠"__name__"->mb x=bootBuiltins x)(a7k:s₁.heap.NoLimit)(hg:s₁.gens=#[])(hbm:∃bm ob,mg (Str.ofString "__builtins__")=some (.ref bm)/\bm≠builtinsNs/\s₁.heap.get? bm=some ob/\ob.cls= .type "module"/\ob.dict=some builtinsNs/\ob.data= .plain) (hT:s₁.heap.get? T=some (tabObj #[]))(kT:K.lookup T=none)(cT:qh K cd T=true)(ha:s₁.heap.get? a=some {cls:=.type "list",data:=.seq vs.toArray})(hi:IntsAre vs ns)(hl:ns.length<=sizeLine)(hr:cQ k callerA) (F:∀base:Heap,K.In base->base.BuiltinsAt mg T->jj P w K mg base jG k fa fd [x] sp)(a7U:∀(s:ae)(u:Value),BindsTo s fd ⟨[u],[]⟩ [(x,u)]) (jx:∀H:Hp,H T=some (.fF #[])->aJ K H a (ns.map V.int)->sp [.ref a] H (λv _=>v= .bl true) λ_ _ _=>False): codeAny (model P w) callerA (.call (.ref fa) ⟨[.ref a],[]⟩) (λr s'=>r= .ok (.ret (.bool true))/\OldK s₁.heap s'.heap/\s'.os=s₁.os/\AllBare s'.gens) s₁:=by
 have rv:=M9 hi;have a5J:=hi.length;have aT:a≠T:=λz=>by rw[z,hT]at ha;cases ha
 have core:∀H:Hp,H T=some (.fF #[])->aJ K H a (ns.map V.int)->dZ P w H s₁.heap->(∀b,H b≠none->b=a\/b=T)->(H a=none\/∃ob xs,H a=some (.mR ob (.lst xs)))->(H a≠none->K.lookup a=none)->codeAny (model P w) callerA (.call (.ref fa) ⟨[.ref a],[]⟩) (λr s'=>r= .ok (.ret (.bool true))/\OldK s₁.heap s'.heap/\s'.os=s₁.os/\AllBare s'.gens) s₁:=by
  intro H CQ hS bj hA hF hK;have KD:∀{b:Addr}{o:Obj},s₁.heap.get? b=some o->H b=none->(nZ s₁.heap H).get? b=some o:=λe n=>a7B e n;have Qt:∀{b:Addr}{o:Obj},s₁.heap.get? b=some o->(∀its n,o.data≠ .seq its n)->(∀its,o.data≠ .fields its)->H b=none:=λ{b o} e d1 d2=>by cases q:H b with |none=>rfl |some u=>
   rcases hA b (by rw[q];simp)with z|z
   ·subst z;rw[ha]at e;cases e;exact(d1 _ _ rfl).elim
   ·subst z;rw[hT]at e;cases e;exact(d2 _ rfl).elim
  have Ie:∀{b:Addr}{m:Str->Option Value},s₁.heap.Ns b m->(nZ s₁.heap H).Ns b m:=λ{b m} ⟨o,es,ep,e,d,r⟩=>⟨o,es,ep,KD e (Qt e (λ_ _ z=>by rw[d]at z;cases z) λ_ z=>by rw[d]at z;cases z),d,r⟩;have SK:K.In (nZ s₁.heap H):=λb o e=>KD (KX b o e) (by cases q:H b with |none=>rfl |some u=>
   rcases hA b (by rw[q];simp)with z|z
   ·subst z;rw[hK (by rw[q];simp)]at e;cases e
   ·subst z;rw[kT]at e;cases e);have hM:Mod K mg (nZ s₁.heap H):=⟨SK,Ie xc,⟨mb,Ie pR,hbb⟩,let⟨mc,h1,h2⟩:=a7k;⟨mc,Ie h1,h2⟩⟩;have e0:oM P w K mg (nZ s₁.heap H) callerA [] s₁ H:=⟨Z,hM,λb o e=>a4k e,Nat.le_of_eq (a7A _ _),trivial,λb hb=>absurd (show b∈([]:List Addr)from hb) (by simp),bj,.of_eq hg⟩;have pT:(nZ s₁.heap H).BuiltinsAt mg T:=by
   obtain⟨bm,ob,b1,b2,b3,b4,b5,b6⟩:=hbm;refine⟨bm,ob,b1,b2,λz=>?_,λz=>?_,KD b3 (Qt b3 (λ_ _ z=>by rw[b6]at z;cases z) λ_ z=>by rw[b6]at z;cases z),b4,b5,b6⟩
   ·obtain⟨o,es,ep,e,d,_⟩:=xc
    rw[z,e]at b3;cases b3;rw[b6]at d;cases d
   ·rw[z,hT]at b3;cases b3;cases b4
  refine Aq ((F _ SK pT).run callerA [] s₁ H ⟨[.ref a],[]⟩ [.ref a] [.ref a] _ _ hr e0 (a7U s₁ (.ref a)) (.cons Z .nil) (jx H CQ hS)) λr s' h=>?_;cases r with |error e=>exact False.elim h |ok fl=>cases fl with |next=>exact False.elim h |brk=>exact False.elim h |cont=>exact False.elim h |ret u=>
   obtain⟨v,H',os,bare,un,S9,r',q⟩:=h;have q':v= .bl true:=q;subst q';obtain rfl:u=Value.bool true:=r';refine⟨Z,⟨λb o e=>?_,λb o e=>un.there b o e (by simp)⟩,os,bare⟩;by_cases xn:b=T
   ·subst xn
    rw[hT]at e;cases e;obtain⟨more,e2⟩:=un.ki b _ CQ;have e3:s'.heap.get? b=some {cls:=.none,data:=.fields (#[]++more)}:=S9 b _ e2;obtain⟨c,rfl,o,Ym,file,tf,flags,tg,inF,text,tt,c1,c2,c3,c4,_⟩:=UB cT KX;exact .inr (.inl ⟨⟨c,o,Ym,c1,c2,c3,c4⟩,Z,#[],more,Z,e3⟩)
   ·refine .inl ?_
    cases q:H b with |none=>exact un.keep b o e q (by intro z;exact absurd (show b∈([]:List Addr)from z) (by simp)) (by simp) |some u=>
     rcases hA b (by rw[q];simp)with z|z
     ·subst z
      rcases hF with z|⟨ob,xs,z⟩
      ·rw[q]at z;cases z
      ·have z2:=un.kz b ob _ z
       obtain⟨e1,_⟩:=bj b _ z;obtain⟨e2,_⟩:=S9 b _ z2;rw[e]at e1;cases e1;exact e2
     ·exact(xn z).elim
 cases hk:K.lookup a with |some o=>
  have e:=KX a o hk;rw[ha]at e;cases e;refine core (λb=>if b=T then some (.fF #[])else none) (bp Z) (.inr ⟨_,vs.toArray,_,hk,Z,Z,Z,by rw[fe,a5J];exact hl,by simpa using rv⟩) (λb u z=>?_) (λb z=>?_) (.inl (bu aT)) λz=>absurd (bu aT) z
  ·by_cases hb:b=T
   ·have z':=(bp hb).symm.trans z
    cases z';subst hb;exact hT
   ·have z':=(bu hb).symm.trans z
    cases z'
  ·by_cases hb:b=T
   ·exact .inr hb
   ·exact absurd (bu hb) z |none=>
  refine core (λb=>if b=T then some (.fF #[])else if b=a then some (.mR {cls:=.type "list",data:=.seq vs.toArray} (.lst (ns.map V.int)))else none) (bp Z) (.inl (.inr ⟨{cls:=.type "list",data:=.seq vs.toArray},(bu aT).trans (bp Z)⟩)) (λb u z=>?_) (λb z=>?_) (.inr ⟨_,_,(bu aT).trans (bp Z)⟩) λ_=>hk
  ·by_cases hb:b=T
   ·have z':=(bp hb).symm.trans z
    cases z';subst hb;exact hT
   ·have z':=(bu hb).symm.trans z
    by_cases mM:b=a
    ·have z2:=(bp mM).symm.trans z'
     cases z2;subst mM;exact⟨ha,by rw[cB];exact hl,vs,_,rv,ha⟩
    ·have z2:=(bu mM).symm.trans z'
     cases z2
  ·by_cases hb:b=T
   ·exact .inr hb
   ·by_cases mM:b=a
    ·exact .inl mM
    ·exact absurd ((bu hb).trans (bu mM)) z
theorem a5P{l:OpenLaw}{q:ah}{loose:List Str}{XP:(Str->Option Value)->Heap->Prop}{YP:World->Heap->Prop}{d:DefRec}{K:Params->Frag}{k:Nat}{x:Str}{st:Stmt}{T:Addr}(hn:l.most=some 63)(uP:d.params.defaults=[]) (hr:cQ k callerA)(hY:∀(w:World)(h:Heap),YP w h->(K w.params).In h/\h.get? T=some (tabObj #[]))(All:Frag->(Str->Option Value)->Prop) (F:∀(w:World)(mg:Str->Option Value)(h:Heap),(K w.params).In h->h.Ns mainGlobals mg->All (K w.params) mg)(kT:∀w:World,(K w.params).lookup T=none) (cT:∀(K:Frag)(mg:Str->Option Value),All K mg->∃cd,qh K cd T=true) (L:∀(K:Frag)(mg:Str->Option Value),All K mg->FA K mg d.name st) (hb:∀(kV doc pm:Value)(an:Option Addr)(aQ ct u:Value),bindArgs (fnOf d.name d.name (kD st) (gW st) (aZ st) .none kV doc pm an aQ ct) ⟨[u],[]⟩=pure [(x,u)]) (ok:∀(P:ah)(w:World)(K:Frag)(mg:Str->Option Value)(base:Heap)(f:Addr)(fd:FuncData),All K mg->base.BuiltinsAt mg T->kG K d.name d.name st f fd->jj P w K mg base jG k f fd [x] (λvs H Q _=>∃(a:Addr)(ns:List Int),vs=[.ref a]/\aJ K H a (ns.map V.int)/\ns.length<=63/\H T=some (.fF #[])/\∀H',Q (.bl true) H')): WalkO q loose XP YP l.row.toRowW d [] (λf vs=>PySem.call f vs):=by
 refine Att.acn hn uP λw s₀ s₁ mg mb fa o pm cd doc a vs ns G Y ho hd ir Jj Jd hints hlen hg=>?_;obtain⟨KX,hT⟩:=hY w _ Y;have A:=F w mg _ KX G.T.g;obtain⟨f,fd,hm,Fn⟩:=(L _ _ A).ex;have e:fa=f:=by rw[Jj]at hm;injection (eg hm)
 subst e;obtain⟨cdT,zB⟩:=cT _ _ A;refine a5Q KX G.T.g G.T.b G.T.builtins G.T.nolimit hg G.T.bmain hT (kT w) zB Jd hints (iQ hlen aB) hr (λbase _ hB=>ok l.prog w _ mg base fa fd A hB Fn) (λs u=>?_) λH CQ hS=>⟨a,ns,Z,hS,hlen,CQ,λ_=>rfl⟩;obtain⟨oc,od,kV,ab3,pm',an,aQ,ct,gF,rfl,lk,aec⟩:=Fn.ex;exact .of_eq (hb kV ab3 pm' an aQ ct u)
end L2
namespace L2
open PySem PySem.Spec PyProof.Rows
section
variable {P:ah}{w:World}{K:aa}{mg:Str->Option Value}{base:Heap}{N:List Str}{qual:Str}{scope:Scope}{f:Addr}{cd:Value}{A:aj}{outer:List Env}{s:ae}{H:Hp}{E:XK}{ay:List (Addr×Obj)}{O:St}{H1:Hp}{s1:ae}{ex:Addr}{C:Addr}{dx:Addr}{φ:Heap->Prop}{cls:Value}{dxo:Option Addr}{h2:Heap}{vs:List Value}
theorem M4(I:Inv (ji (jF P w) P w K mg base N qual scope f cd A outer s H E) ay O H1 s1)(hx:Heap.MadeExcOf s1.heap h2 ex cls vs)(q:E cls none H1):(ji (jF P w) P w K mg base N qual scope f cd A outer s H E).xe (.ref ex) {s1 with heap:=h2}:=by
 obtain⟨t,e1,_⟩:=hx.there;have hf:H1 ex=none:=by cases e:H1 ex with |none=>rfl |some o=>obtain⟨ob,e2⟩:=(I.bj ex o e).there;rw[hx.new]at e2;cases e2
 have nw:s.heap.get? ex=none:=by cases e:s.heap.get? ex with |none=>rfl |some o=>obtain⟨ob,e2⟩:=I.base.there ex o e (cL);rw[hx.new]at e2;cases e2
 have I2:=I.kept (t':=s1.toks) hx.keeps;have iq:h2.FunFrames base (envOfC qual scope s.heap.objs.size f cd::outer):=I2.stack;have CF:∀env∈(envOfC qual scope s.heap.objs.size f cd::outer),∀b,env.frame=some b->b∈ex::du (envOfC qual scope s.heap.objs.size f cd::outer):=λenv he b hb=>.tail _ (oO.mpr ⟨env,he,hb⟩);have hB:(PySem.W.hideAll h2 (ex::du (envOfC qual scope s.heap.objs.size f cd::outer))).StaysIn h2:=λb o e=>PySem.W.of_hideAll _ e;have qZ:∀b o,s.heap.get? b=some o->b∉du outer->b∉ex::du (envOfC qual scope s.heap.objs.size f cd::outer):=λb o e hb hm=>by
  rcases bM.mp hm with rfl|hm
  ·rw[nw]at e;cases e
  obtain⟨env,he,hf⟩:=oO.mp hm;rcases bM.mp he with rfl|he
  ·have e1:s.heap.objs.size=b:=eg hf
   have h1:=cJ e;rw[<-e1]at h1;exact absurd h1 (qE _)
  ·exact hb (oO.mpr ⟨env,he,hf⟩)
 have F0:Fl P w outer H s.heap ex H1 (PySem.W.hideAll h2 (ex::du (envOfC qual scope s.heap.objs.size f cd::outer))) h2:=by
  refine⟨I2.base,I2.bj,λb o e n hb=>Lu _ (I2.base.keep b o e n hb (cL)) (qZ b o e hb),λb o e=>?_,λb o e hb=>?_,λb hb=>?_,nw,hf⟩
  ·obtain⟨Ia,e1⟩:=(I2.bj b o e).there
   refine⟨Ia,Lu _ e1 λhm=>?_⟩;rcases bM.mp hm with z|hm
   ·rw[z,hf]at e;cases e
   ·rw[I2.B8 b hm]at e
    cases e
  ·obtain⟨Ia,e1⟩:=I2.base.there b o e (cL)
   exact⟨Ia,Lu _ e1 (qZ b o e hb)⟩
  ·obtain⟨env,he,hf⟩:=oO.mp hb
   exact I2.B8 b (oO.mpr ⟨env,.tail _ he,hf⟩)
 show wpAny (model P w) (A.deeper (envOfC qual scope s.heap.objs.size f cd)) (leaving (envOfC qual scope s.heap.objs.size f cd) (.ref ex)) _ _ _;refine a5M (L:=s.heap.objs.size) I.ok.frames (PySem.W.funFrames_hide iq CF) Z e1 hB (PySem.W.hideAll_none _ (.head _)) Z Z λh' x1 x2=>?_;exact⟨ex,cls,none,H1,_,Z,I.os,I.bare,x1,F0.step hB x1.1 x2 iq.2.2,q⟩
end
def Cc(N:List Str)(sc:Scope):Bool:=decide (sc.kind= .function)&& !sc.isCoroutine&& !sc.isGenerator&&sc.names.all (λy=>decide (y.2≠ .cell)&&(decide (y.2≠ .free)||N.contains y.1))&&N.all λx=>decide (sc.names.lookup x=some .free)
theorem zm{N:List Str}{sc:Scope}(h:Cc N sc=true):sR N sc/\∀y∈sc.names,y.2= .free->y.1∈N:=by unfold Cc at h;simp only[fE,DS,Y9,j7,Bool.or_eq_true,List.contains_iff_mem]at h;obtain⟨⟨⟨⟨h1,h2⟩,h3⟩,h4⟩,h5⟩:=h;have m:∀y∈sc.names,y.2= .free->y.1∈N:=λy hy e=>(h4 y hy).2.elim (λz=>(z e).elim) id;exact⟨⟨h1,h2,h3,λy hy=>(h4 y hy).1,h5,λx hx=>m _ (vv hx) Z⟩,m⟩
section
variable {X:Cx} {sc:Scope}
theorem Rr(x0:Str)(j0:Nat)(h:Cc [x0] sc=true)(k0:X.env.kindOf x0=some .cell)(n0:X.N[j0]? =some x0):KZ X [x0] [j0] sc:=by
 obtain⟨S,m⟩:=zm h;refine⟨S,λy hy e=>?_,λi y e=>?_⟩
 ·rw[bU.mp (m y hy e)];exact k0
 ·match i,e with |0,e=>cases e;exact⟨_,rfl,n0⟩
theorem a5T(x0 x1:Str)(j0 j1:Nat)(h:Cc [x0,x1] sc=true)(k0:X.env.kindOf x0=some .cell)(k1:X.env.kindOf x1=some .cell)(n0:X.N[j0]? =some x0)(n1:X.N[j1]? =some x1):KZ X [x0,x1] [j0,j1] sc:=by
 obtain⟨S,m⟩:=zm h;refine⟨S,λy hy e=>?_,λi y e=>?_⟩
 ·rcases bM.mp (m y hy e)with z|z
  ·rw[z];exact k0
  ·rw[bU.mp z];exact k1
 ·match i,e with |0,e=>cases e;exact⟨_,rfl,n0⟩ |1,e=>cases e;exact⟨_,rfl,n1⟩
end
end L2
namespace Lw
open PySem PySem.Spec PyProof.Rows L2 Ln Rt Cn Pn Wk Rn
open Ow (topR cornO mnO betR atO ownF leadF ownL OkI OkIs)
open Ow (Itm)
def top(i:Nat):Stmt:=PySem.Challenge.pw_glidequeue_k42_dropped.main.body.getD i (.Pass ⟨0,0,0,0⟩)
abbrev Fc:Stmt:=top 71
abbrev Gz:Stmt:=top 70
abbrev Gv:Stmt:=top 26
abbrev Gg:Stmt:=top 15
abbrev Ga:Stmt:=top 81
abbrev G9:Stmt:=top 28
abbrev Gb:Stmt:=top 25
abbrev G2:Stmt:=top 21
abbrev F8:Stmt:=top 22
abbrev G7:Stmt:=top 23
abbrev G8:Stmt:=top 24
abbrev Gn:Stmt:=top 19
abbrev G4:Stmt:=top 77
abbrev Gm:Stmt:=top 73
abbrev Gd:Stmt:=top 72
abbrev Gf:Stmt:=top 50
def jU:Str:="abcdefghijklmnopqrstuvwxyz"
abbrev FY:Stmt:=top 80
abbrev EY:Stmt:=top 29
abbrev EZ:Stmt:=top 16
abbrev F1:Stmt:=top 39
abbrev Gu:Stmt:=top 36
abbrev Ge:Stmt:=top 38
abbrev F7:Stmt:=top 37
abbrev F3:Stmt:=top 83
abbrev Gx:Stmt:=top 58
abbrev Bp:Stmt:=top 57
abbrev FX:Stmt:=top 20
abbrev Gp:Stmt:=top 59
abbrev Fd:Stmt:=top 74
abbrev G6:Stmt:=top 75
abbrev G3:Stmt:=top 76
abbrev FW:Stmt:=top 78
abbrev G5:Stmt:=top 79
abbrev FZ:Stmt:=top 32
abbrev Ff:Stmt:=top 30
abbrev Ft:Stmt:=top 31
abbrev Gr:Stmt:=top 62
abbrev Fb:Stmt:=top 61
abbrev Gq:Stmt:=top 63
abbrev Fv:Stmt:=top 68
abbrev Gj:Stmt:=top 55
abbrev Gh:Stmt:=top 54
abbrev GA:Stmt:=top 53
abbrev Gk:Stmt:=top 49
abbrev Gi:Stmt:=top 41
abbrev G0:Stmt:=top 52
abbrev Gy:Stmt:=top 51
structure fV(K:aa)(C:Addr):Prop where
 cl:jX K C
 nQ:jD K C "machine"
 uu:jD K C "begun_at"
 nR:jD K C "done"
 iI:jD K C "queue"
 rn:jD K C "pace"
 BP:jD K C "rate_now"
 Ip:jD K C "side"
 Iq:jD K C "mark"
 wK:jD K C "stopping"
abbrev Fy:Stmt:=inClass (top 67) 3
abbrev FE:Stmt:=inClass (top 67) 4
abbrev Fx:Stmt:=inClass (top 67) 5
abbrev FH:Stmt:=inClass (top 67) 6
abbrev Fw:Stmt:=inClass (top 67) 7
abbrev FO:Stmt:=inClass (top 67) 8
abbrev FD:Stmt:=inClass (top 67) 9
abbrev FL:Stmt:=inClass (top 67) 10
abbrev FF:Stmt:=inClass (top 67) 1
abbrev FI:Stmt:=inClass (top 67) 2
abbrev FJ:Stmt:=inClass (top 67) 0
abbrev Bo:Stmt:=inClass (top 67) 11
abbrev FT:Stmt:=inClass (top 67) 16
abbrev FG:Stmt:=inClass (top 67) 15
abbrev FC:Stmt:=inClass (top 67) 14
abbrev FQ:Stmt:=inClass (top 67) 13
abbrev FR:Stmt:=inClass (top 67) 12
abbrev FP:Stmt:=inClass (top 67) 19
abbrev Fz:Stmt:=inClass (top 67) 17
abbrev FK:Stmt:=inClass (top 67) 18
abbrev Gw:Stmt:=top 84
abbrev F9:Stmt:=top 85
abbrev Fe:Stmt:=top 82
abbrev Fi:Stmt:=top 92
abbrev Fo:Stmt:=top 93
abbrev Fg:Stmt:=top 87
abbrev Fp:Stmt:=top 88
abbrev Fm:Stmt:=top 89
abbrev Fj:Stmt:=top 90
abbrev Fq:Stmt:=top 91
abbrev Br:Stmt:=top 86
abbrev Fh:Stmt:=top 95
structure jC where
 n:Addr
 o:Addr
 f:Addr
 m:Addr
 r:Addr
structure KC(K:aa)(R:jC)(cG:Addr)(cs:List Addr)(C:Addr)(b0 b1 b2 b3 b4:Bool):Prop where
 tk:takes K C cG
 k:oJ K C
 i0:PySem.W.kitOne K (.ref C) (.ref R.n)=some b0
 i1:PySem.W.kitOne K (.ref C) (.ref R.o)=some b1
 i2:PySem.W.kitOne K (.ref C) (.ref R.f)=some b2
 i3:PySem.W.kitOne K (.ref C) (.ref R.m)=some b3
 i4:PySem.W.kitOne K (.ref C) (.ref R.r)=some b4
 any:PySem.W.kitAny K (.ref C) (cs.map Value.ref)=some false
 ve:PySem.W.kitOne K (.ref C) (.type "ValueError")=some true
structure DH(K:aa)(mg:Str->Option Value)(R:jC)(cG c0 c1 c2 c3 c4 c5:Addr):Prop where
 g:Exc K mg "GlideError" cG qi qV
 h0:GV mg "NoFraction" (.ref c0)
 h1:GV mg "NoLine" (.ref c1)
 h2:GV mg "NoMachine" (.ref c2)
 h3:GV mg "NoPlace" (.ref c3)
 h4:GV mg "NoTape" (.ref c4)
 h5:GV mg "NoText" (.ref c5)
 gn:GV mg "NoItem" (.ref R.n)
 go:GV mg "OffRails" (.ref R.o)
 gm:GV mg "Moving" (.ref R.m)
 gr:GV mg "NoRate" (.ref R.r)
 v:mg "ValueError"=none
 xf:Exc K mg "Full" R.f qi qV
 f:KC K R cG [c0,c1,c2,c3,c4,c5] R.f false false true false false
 xm:Exc K mg "Moving" R.m qi qV
 m:KC K R cG [c0,c1,c2,c3,c4,c5] R.m false false false true false
abbrev Fu:Stmt:=top 96
abbrev FU:Stmt:=inClass (top 67) 20
abbrev Fs:Stmt:=top 94
abbrev Gs:Stmt:=top 97
def EK(K:aa)(T:Addr):Sp:=λvs H Q _=>∃(a:Addr)(ns:List Int),vs=[.ref a]/\aJ K H a (ns.map V.int)/\ns.length<=63/\H T=some (.fF #[])/\∀H',Q (.bl true) H'
abbrev vW:Stmt:=top 98
structure Vk(K:aa)(mg:Str->Option Value)(C:Addr):Prop where
 tc:fV K C
 init:CA K mg C "Runner" "Runner.__init__" FJ
 a5e:MA K C "place" "Runner.place" FF
 a5g:MA K C "leads_to" "Runner.leads_to" FI
 a5c:MA K C "square" "Runner.square" Fy
 a5d:MA K C "rate" "Runner.rate" FE
 a58:MA K C "tool" "Runner.tool" Fx
 a5h:MA K C "last_mark" "Runner.last_mark" FH
 a57:MA K C "waiting" "Runner.waiting" Fw
 a5i:MA K C "is_held" "Runner.is_held" FO
 a5b:MA K C "stands" "Runner.stands" FD
 a5j:MA K C "is_halted" "Runner.is_halted" FL
 QQ:MA K C "feed" "Runner.feed" Bo
 a5n:MA K C "entries" "Runner.entries" FR
 a5m:MA K C "entries_of_first" "Runner.entries_of_first" FQ
 a5a:MA K C "steps_of_first" "Runner.steps_of_first" FC
 a5f:MA K C "next_square" "Runner.next_square" FG
 a5o:MA K C "end_first" "Runner.end_first" FT
 a59:MA K C "stops_in" "Runner.stops_in" Fz
 a5k:MA K C "hold" "Runner.hold" FK
 a5l:MA K C "go" "Runner.go" FP
 a5p:MA K C "drop" "Runner.drop" FU
structure All(T:Addr)(K:aa)(mg:Str->Option Value):Prop where
 B:bV mg
 zL:GT K mg "NOUGHT" [.int 0,.int 1]
 a95:GT K mg "SIDES" [.str "up",.str "down"]
 a9a:GV mg "LEAST_RATE" (.int 10)
 a9c:GV mg "GREATEST_RATE" (.int 200)
 a9d:GV mg "FIRST_RATE" (.int 100)
 Tb:GV mg "MOST_WAITING" (.int 20)
 a96:GV mg "MOST_STEPS" (.int 100)
 a9b:GV mg "GREATEST_SPEED" (.int 20)
 a97:GV mg "LONGEST_WAIT" (.int 1000)
 a98:GV mg "LONGEST_NAME" (.int 8)
 a99:GV mg "LETTERS" (.str jU)
 a9S:FA K mg "is_whole" Gg
 a9R:FA K mg "is_whole_within" EZ
 aa1:FA K mg "fraction" Gn
 a9H:FA K mg "plus_whole" FX
 a9M:FA K mg "minus" G2
 a9B:FA K mg "times" F8
 a9Y:FA K mg "is_less" G7
 a9O:FA K mg "least" G8
 a9N:FA K mg "lowest_terms" Gb
 aa3:FA K mg "common_divisor" Gv
 a9P:FA K mg "lead_of" G9
 a9z:FA K mg "ways_of" EY
 a9F:FA K mg "stand_at" Ff
 a9D:FA K mg "step_rows" Ft
 a9K:FA K mg "nearest" FZ
 aa2:FA K mg "corner_square" Gu
 a9A:FA K mg "top_square" F7
 a9U:FA K mg "is_rate" Ge
 aa0:FA K mg "greatest_turn" F1
 a9V:FA K mg "is_place" Gi
 a9Z:FA K mg "is_item" Gk
 a9X:FA K mg "is_line" Gf
 a9J:FA K mg "place_behind" Gy
 a9L:FA K mg "moved" G0
 aa5:FA K mg "are_steps" GA
 a9T:FA K mg "is_short_item" Gh
 a9W:FA K mg "is_name" Gj
 Tp:FA K mg "own_bounds" Bp
 aa4:FA K mg "bound_between" Gx
 a9Q:FA K mg "kept_by_fall" Gp
 a9C:FA K mg "ticks_of" Fb
 aa6:FA K mg "are_enough" Gr
 a9E:FA K mg "step_entry" Gq
 a9G:FA K mg "reach_behind_first" Fv
 aaw:FA K mg "_law_bag" Gz
 aa9:FA K mg "_law_take" Fc
 aao:FA K mg "_law_number" Gd
 aau:FA K mg "_law_frac" Gm
 aaa:FA K mg "_law_sum" Fd
 aas:FA K mg "_law_less" G6
 aap:FA K mg "_law_min" G3
 aaq:FA K mg "_law_machine" G4
 aam:FA K mg "_law_place" FW
 aar:FA K mg "_law_line" G5
 aan:FA K mg "_law_other" FY
 aat:FA K mg "_law_lead" Ga
 aab:FA K mg "_law_stand" Fe
 aa7:FA K mg "_law_top" F3
 aav:FA K mg "_law_bounds" Gw
 aa8:FA K mg "_law_ticks" F9
 zN:FA K mg "_law_alike" Br
 aai:FA K mg "_law_sim" Fg
 aaf:FA K mg "_law_sim_feed" Fp
 aal:FA K mg "_law_reach" Fm
 aad:FA K mg "_law_sim_step" Fj
 aag:FA K mg "_law_sim_entries" Fq
 aac:FA K mg "_law_sim_stops" Fi
 aae:FA K mg "_law_sim_hold" Fo
 aah:FA K mg "_law_sim_drop" Fs
 aaj:FA K mg "_law_seen" Fh
 aak:FA K mg "_law_refused" Fu
 Tq:Ai K mg "_law_deed" Gs T
 law:FA K mg "law" vW
 rc:∃C,Vk K mg C
 rf:∃R cG c0 c1 c2 c3 c4 c5,DH K mg R cG c0 c1 c2 c3 c4 c5
def A6(K:aa)(P:ah):Prop:=∀(T:Addr)(w:World)(mg:Str->Option Value)(base:Heap)(f:Addr)(fd:FuncData),All T K mg->base.BuiltinsAt mg T->kG K "law" "law" vW f fd->jj P w K mg base jG 14 f fd ["_law_script"] (EK K T)
@[irreducible] noncomputable def KP:aa×ah:=Classical.epsilon λx=>¬A6 x.1 x.2
@[irreducible] noncomputable def K:aa:=KP.1
@[irreducible] noncomputable def P:ah:=KP.2
theorem YV(h:A6 K P)(K':aa)(P':ah):A6 K' P':=Classical.byContradiction λn=>by have e:=Classical.epsilon_spec (p:=λx:aa×ah=>¬A6 x.1 x.2) ⟨(K',P'),n⟩;unfold K P KP at h;exact e h
end Lw
namespace Lw
open PySem PySem.Spec PyProof.Rows L2
section
variable {w:World}{mg:Str->Option Value}{base:Heap}
inductive VO(vs:List V)(H:Hp)(Q:VK):Prop |mk (p:_)(many:_)(h0:vs=[.ref p,.int many])(h1:gM H p)(h2:1<=many)(h3:many<=10^40)(h4:∀d H',0<=d->d<many->cn p H H'->Q (.int d) H'):VO vs H Q
def qL:Sp:=λvs H Q _=>VO vs H Q
theorem NL:bF ["_law_bag_here","_law_many","_law_digit","_law_number_here","_law_room"] ["_law_bag_here","_law_many"] (aZ Fc):=bP aY
theorem a30(F:FA K mg "_law_take" Fc)(B:bV mg):aI P w K mg base "_law_take" 1 qL:=by
 refine F.has NL (λvs H Q E h=>?_) (λ_ _ _ _ _ _=>dN λ_ _=>rfl) (λf aQ A outer s H vs Q E hr h=>?_)
 ·obtain⟨p,many,rfl,_⟩:=h
  rfl
 ·obtain⟨p,many,rfl,⟨c,m,hp,ok⟩,h1,h2,k⟩:=h
  obtain⟨c0,m0,m1⟩:=id ok;have nd:=NL.nd;refine⟨_,(aF (bN (ck uh (px K (pv 0) aE) aE (bB _)) (aF (pS 2 nd (aO pA (px K (pv 0) aE) (pv 1))) (aF (gq (aO mF (px K (pv 0) aE) (pv 1)) (ug (pv 0) aE set_list)) (aH (aX (pv 2))))) bQ) (aF (pS 3 nd aE) (aF (pS 4 nd aE) (aF (nO iA (ck kl (pv 4) (pv 1) (bB _)) (aF (gq (aO pA (aO wu (aO da (aO bO (px K (pv 0) aE) aE) aE) aE) aE) (ug (pv 0) aE set_list)) (aF (pS 3 nd (aO da (aO bO (pv 3) aE) (aO pA (aO bO (aO mF (px K (pv 0) aE) aE) aE) aE))) (aH (pS 4 nd (aO bO (pv 4) aE)))))) (aH (aX (aO pA (pv 3) (pv 1)))))))),?_⟩;refine⟨_,Z,.inl ⟨p,_,0,.int c,Z,Z,aJ.of hp,Z,_,_,Z,Z,_,Z,?_⟩⟩;refine dU (λhc=>?_) (λ_=>?_)
  ·refine⟨_,Z,.inl ⟨p,_,0,.int c,Z,Z,aJ.of hp,Z,_,Z,_,_,Z,Z,h1,?_⟩⟩
   refine⟨_,Z,.inl ⟨p,_,0,.int c,Z,Z,aJ.of hp,Z,_,Z,_,_,Z,Z,⟨h1,M6 aw h2⟩,?_⟩⟩;refine⟨_,Z,p,_,0,0,Z,Z,hp,Z,?_⟩;refine⟨_,Z,?_⟩;exact k _ _ (oT _ aw) (tH _ aw) (cn.upd ⟨Int.ediv_nonneg c0 aw,m0,m1⟩)
  ·refine nc (λO H2=>∃(v:Option V)(n r:Int),O=[some (.ref p),some (.int many),v,some (.int n),some (.int r)]/\cn p H H2/\1<=r) (λO _=>match O with|[_,_,_,_,some (.int r)]=>(many-r).toNat|_=>0) ?_ ?_ ?_
   ·exact⟨none,0,1,Z,.refl ⟨c,m,hp,ok⟩,gO _⟩
   ·rintro O H2 ⟨v,n,r,rfl,bx,Cq⟩
    obtain⟨c',m',wZ,c0',m0',m1'⟩:=id bx.bS;refine⟨_,Z,_,Z,_,_,Z,Z,_,Z,?_⟩;refine dU (λhc=>?_) (λhc=>?_)
    ·have cF:r<many:=jZ hc
     refine⟨_,Z,.inl ⟨p,_,1,.int m',Z,Z,aJ.of wZ,Z,_,_,Z,Z,.of_right (cw aB aB),_,_,Z,Z,_,_,Z,Z,⟨aB,aB,?_⟩,_,_,Z,Z,(by show(0:Int)<2147483629;decide),?_⟩⟩
     ·have lR:(2:Nat)^64=18446744073709551616:=by decide
      rw[lR];lia
     refine⟨_,Z,p,_,1,1,Z,Z,wZ,Z,?_⟩;have g0:0<=((m'*48271+7919)^(5:Int).toNat)%2147483629:=oT _ aB;have g1:((m'*48271+7919)^(5:Int).toNat)%2147483629<2147483629:=tH _ aB;have bx2:cn p H (L2.upd H2 p (.lst [.int c',.int (((m'*48271+7919)^(5:Int).toNat)%2147483629)])):=bx.trans (.upd ⟨c0',g0,Int.lt_trans g1 aB⟩);refine⟨_,Z,_,_,Z,Z,.of_right (cw aB aB),_,Z,.inl ⟨p,_,1,.int _,Z,Z,aJ.of bf,Z,_,_,Z,Z,⟨aB,M6 aB aB⟩,_,_,Z,Z,.of_right (cw aB aB),_,_,Z,Z,(by show(0:Int)<1073741789;decide),_,_,Z,Z,?_⟩⟩;refine⟨_,Z,_,_,Z,Z,.of_right (cw aB aB),?_⟩;refine⟨⟨v,_,_,Z,bx2,?_⟩,?_⟩
     ·lia
     ·show(many-r*1073741789).toNat<(many-r).toNat
      lia
    ·refine⟨_,Z,_,Z,_,_,Z,Z,h1,?_⟩
     exact k _ _ (oT _ aw) (tH _ aw) bx
   ·rintro O H2 Q1 Q2 hq ⟨v1,e1,v2,e2,i,j,e3,e4,kk,e5,q⟩
    exact⟨v1,e1,v2,e2,i,j,e3,e4,kk,e5,hq _ _ q⟩
inductive WR(K:aa)(vs:List V)(H:Hp)(Q:VK):Prop |mk (a:Addr)(ns:List Int)(at':Int)(h0:vs=[.ref a,.int at'])(h1:aJ K H a (ns.map V.int))(h2:ns.length<=63)(h3:0<=at')(h4:at'<=100)(h5:∀p H',H p=none->gM H' p->aG H H'->Q (.ref p) H'):WR K vs H Q
def Nm(K:aa):Sp:=λvs H Q _=>WR K vs H Q
theorem OQ:bF ["_law_script","_law_at","_law_cell","_law_mix","_law_k"] ["_law_script","_law_at"] (aZ Gz):=bP aY
theorem RQ{ns:List Int}{j:Nat}(h:j<ns.length):∃z,fQ (ns.map V.int) (j:Int)=some (.int z):=⟨ns[j],acq (by simp[h])⟩
theorem a4e(F:FA K mg "_law_bag" Gz)(B:bV mg):aI P w K mg base "_law_bag" 1 (Nm K):=by
 refine F.has OQ (λvs H Q E h=>?_) (λ_ _ _ _ _ _=>dN λ_ _=>rfl) (λf aQ A outer s H vs Q E hr h=>?_)
 ·obtain⟨a,ns,at',rfl,_⟩:=h
  rfl
 ·obtain⟨a,ns,at',rfl,hS,hlen,h0,h1,k⟩:=h
  obtain⟨j,rfl⟩:∃j:Nat,at'=(j:Int):=⟨at'.toNat,aw⟩;have nd:=OQ.nd;refine⟨_,(aF (pS 2 nd aE) (aF (hJ (bN (ck kl (pv 1) (dJ K B (au (pv 0) az)) (bB _)) (aH (pS 2 nd (dG (x:="abs") oz Z (B.at "abs") qC (au (px K (pv 0) (pv 1)) az)))) bQ)) (aF (pS 3 nd (aO da (aO da (aO bO (aO bO aE (pv 1)) (pv 1)) (aO bO aE (pv 1))) aE)) (aF (me iA Z (yK Z (B.at "range") (au (dG (x:="min") (Kw rfl) rfl (B.at "min") XR (au (dJ K B (au (pv 0) az)) (au aE az))) az)) (bJ 4 nd) (aH (pS 3 nd (aO pA (aO wu (aO da (aO da (aO bO (pv 3) aE) (aO pA (px K (pv 0) (pv 4)) aE)) (aO bO (pv 4) (pv 4))) aE) aE)))) (aF (hJ (bN (ck kl (pv 2) (aO wu aE aE) (bB _)) (aH (pS 2 nd aE)) bQ)) (aH (aX (dj (au (pv 2) (au (pv 3) az)))))))))),?_⟩;refine⟨λO H'=>H'=H/\∃c:Int,O=[some (.ref a),some (.int (j:Int)),some (.int c),none,none]/\0<=c,?_,?_⟩
  ·refine⟨_,Z,_,Z,a,_,Z,.inl hS,_,_,Z,Z,_,Z,?_⟩
   refine dU (λhc=>?_) (λ_=>?_)
   ·have hj:(j:Int)<((ns.map V.int).length:Int):=jZ hc
    rw[cB]at hj;obtain⟨z,hz⟩:=RQ (ns:=ns) (j:=j) aw;refine⟨_,Z,_,Z,.inl ⟨a,_,_,_,Z,Z,hS,hz,z,Z,?_⟩⟩;exact⟨Z,_,Z,by split<;>lia⟩
   ·exact⟨Z,0,Z,gO _⟩
  rintro O H' ⟨rfl,c,rfl,c0⟩;refine⟨_,Z,_,_,Z,Z,.of_left (cw aB aB),_,Z,_,_,Z,Z,.of_right (cw aw aw),_,Z,_,_,Z,Z,.of_left (cw aB aB),_,_,Z,Z,_,_,Z,Z,?_⟩;refine⟨_,Z,a,_,Z,.inl hS,_,_,Z,_,Z,?_,?_,?_⟩
  ·split<;>lia
  ·split<;>(try rw[cB])<;>lia
  refine CY (Pv:=λi O H2=>H2=H'/\∃(m:Int)(v:Option V),O=[some (.ref a),some (.int (j:Int)),some (.int c),some (.int m),v]/\0<=m/\m<2147483648) ?_ ?_ ?_
  ·refine⟨Z,_,none,Z,?_,?_⟩
   ·have:(0:Int)<=(j:Int)*(j:Int):=jI aw aw
    rw[tG];lia
   ·have:(j:Int)*(j:Int)<=100*100:=E8 aw aw aw aw
    rw[tG];lia
  ·rintro i O H2 hi ⟨rfl,m,v,rfl,m0,m1⟩
   have CG:i<ns.length:=by rw[cB]at hi;split at hi<;>lia
   obtain⟨z,hz⟩:=RQ (ns:=ns) (j:=i) CG;rw[<-Int.zero_add (i:Int)]at hz;have hz0:0<=z%2147483647:=oT _ aB;have hz1:z%2147483647<2147483647:=tH _ aB;have a7y:(0:Int)<=(0+(i:Int))*(0+(i:Int)):=jI aw aw;have hii:(0+(i:Int))*(0+(i:Int))<=100*100:=E8 aw aw aw aw;refine⟨_,Z,_,_,Z,Z,.of_right (cw aB aB),_,Z,_,Z,.inl ⟨a,_,_,_,Z,Z,hS,hz,_,_,Z,Z,(by show(0:Int)<2147483647;decide),_,_,Z,Z,_,Z,_,Z,_,_,Z,Z,.of_right (cw aw aw),_,_,Z,Z,_,_,Z,Z,⟨aB,aB,?_⟩,_,_,Z,Z,(by show(0:Int)<2147483629;decide),?_⟩⟩
   ·have lR:(2:Nat)^64=18446744073709551616:=by decide
    rw[lR];generalize(0+(i:Int))*(0+(i:Int))=ii at a7y hii⊢;generalize z%2147483647=zz at hz0 hz1⊢
    lia
   ·exact⟨Z,_,_,Z,oT _ aB,Int.lt_trans (tH _ aB) aB⟩
  ·rintro O H2 ⟨rfl,m,v,rfl,m0,m1⟩
   refine⟨λO H3=>H3=H2/\∃c:Int,O=[some (.ref a),some (.int (j:Int)),some (.int c),some (.int m),v]/\0<=c,?_,?_⟩
   ·refine⟨_,Z,_,_,Z,Z,⟨aB,aB,aB⟩,_,_,Z,Z,_,Z,?_⟩
    refine dU (λhc=>?_) (λ_=>?_)
    ·exact⟨Z,0,Z,gO _⟩
    ·exact⟨Z,c,Z,c0⟩
   rintro O H3 ⟨rfl,c,rfl,c0⟩;refine⟨_,Z,_,Z,(by show 2<=sizeLine;decide),λp H4 nw=>?_⟩;exact k p H4 nw.no ⟨c,m,nw.at',c0,m0,m1⟩ nw.same
inductive WK(vs:List V)(H:Hp)(Q:VK):Prop |mk (a:Int)(b:Int)(h0:vs=[.int a,.int b])(h1:Q (.int (Int.gcd a b)) H):WK vs H Q
def EM:Sp:=λvs H Q _=>WK vs H Q
inductive Ww(vs:List V)(H:Hp)(Q:VK):Prop |mk (a:Int)(b:Int)(h0:vs=[.int a,.int b])(h1:b≠0)(h2:Wd b)(h3:∀t H',Nw H H' t (.tup [.int (Ar.lowP a b),.int (Ar.hW a b)])->Q (.ref t) H'):Ww vs H Q
def vP:Sp:=λvs H Q _=>Ww vs H Q
def wW(T:String):Bool:=j8 T "int"&& !j8 T "bool"
inductive WC(K:aa)(vs:List V)(H:Hp)(Q:VK):Prop |mk (v:_)(T:_)(h0:vs=[v])(h1:vh K H v T)(h2:Q (.bl (wW T)) H):WC K vs H Q
def vR(K:aa):Sp:=λvs H Q _=>WC K vs H Q
theorem OM:bF ["p","q","high","low"] ["p","q"] (aZ Gv):=bP aY
theorem a4a(F:FA K mg "common_divisor" Gv)(B:bV mg):aI P w K mg base "common_divisor" 1 EM:=by
 refine F.has OM (λvs H Q E h=>?_) (λ_ _ _ _ _ _=>dN λ_ _=>rfl) (λf aQ A outer s H vs Q E hr h=>?_)
 ·obtain⟨a,b,rfl,_⟩:=h
  rfl
 ·obtain⟨a,b,rfl,k⟩:=h
  have nd:=OM.nd;refine⟨_,(aF (p9 (i:=2) (j:=3) Z nd Z Z aB Z Z (au (dG (x:="abs") oz Z (B.at "abs") qC (au (pv 0) az)) (au (dG (x:="abs") oz rfl (B.at "abs") qC (au (pv 1) az)) az)) rfl) (aF (nO iA (ck (jv K Z hr.units) (pv 3) aE (bB _)) (aH (p9 (i:=2) (j:=3) Z nd Z Z aB Z Z (au (pv 3) (au (aO pA (pv 2) (pv 3)) az)) Z))) (aH (aX (pv 2))))),?_⟩;refine⟨_,Z,_,Z,_,Z,_,Z,_,_,Z,?_⟩;refine nc (λO H2=>H2=H/\∃(x y:Int),O=[some (.int a),some (.int b),some (.int x),some (.int y)]/\0<=x/\0<=y/\Int.gcd x y=Int.gcd a b) (λO _=>match O with|[_,_,_,some (.int y)]=>y.natAbs|_=>0) ?_ ?_ ?_
  ·refine⟨Z,_,_,Z,by split<;>lia,by split<;>lia,?_⟩
   have h1:(if a<0 then-a else a).natAbs=a.natAbs:=by split<;>lia
   have h2:(if b<0 then-b else b).natAbs=b.natAbs:=by split<;>lia
   unfold Int.gcd;rw[h1,h2]
  ·rintro O H2 ⟨rfl,x,y,rfl,x0,y0,e⟩
   refine⟨_,Z,.inl ⟨_,_,Z,Z,_,Z,?_⟩⟩;refine dU (λhc=>?_) (λhc=>?_)
   ·have hy:y≠0:=by simpa using hc
    have kr:0<y:=by lia
    refine⟨_,Z,_,Z,_,Z,_,_,Z,Z,kr,_,_,Z,?_⟩;refine⟨⟨Z,_,_,Z,y0,oT _ hy,(Ar.T5 kr).trans e⟩,?_⟩;show(x%y).natAbs<y.natAbs;have:=oT x hy;have:=tH x kr
    lia
   ·have hy:y=0:=by simpa using hc
    subst hy;refine⟨_,Z,?_⟩;rw[Int.gcd_zero_right]at e;have e2:x=((Int.gcd a b:Nat):Int):=by lia
    rw[e2];exact k
  ·rintro O H2 Q1 Q2 hq ⟨v1,e1,h⟩
   refine⟨v1,e1,?_⟩;rcases h with⟨i,j,e3,e4,kk,e5,q⟩|⟨d,e,r1,r2,s1,s2,kk,e5,q⟩
   ·exact .inl ⟨i,j,e3,e4,kk,e5,hq _ _ q⟩
   ·exact .inr ⟨d,e,r1,r2,s1,s2,kk,e5,hq _ _ q⟩
theorem OA:bF ["thing"] ["thing"] (aZ Gg):=bP aY
theorem a3W(F:FA K mg "is_whole" Gg)(B:bV mg):aI P w K mg base "is_whole" 1 (vR K):=by
 refine F.has OA (λvs H Q E h=>?_) (λ_ _ _ _ _ _=>eR λ_=>rfl) (λf aQ A outer s H vs Q E hr h=>?_)
 ·obtain⟨v,T,rfl,_⟩:=h
  rfl
 ·obtain⟨v,T,rfl,ty,k⟩:=h
  have nd:=OA.nd;refine⟨_,(aH (aX (iV (dS K B (au (pv 0) (au (dk (x:="int") (v:=.ty "int") Z (B.at "int") Ly rfl) az))) (jd (PM (dS K B (au (pv 0) (au (dk (x:="bool") (v:=.ty "bool") rfl (B.at "bool") XS rfl) az)))))))),?_⟩;refine⟨_,Z,.inl ⟨_,T,"int",_,Z,ty,aB,Z,_,Z,?_⟩⟩;unfold wW at k;refine dU (λhc=>?_) (λhc=>?_)
  ·refine⟨_,Z,.inl ⟨_,T,"bool",_,Z,ty,aB,Z,_,Z,?_⟩⟩
   rw[hc,kJ]at k;exact k
  ·rw[y6.mpr hc,lB]at k
   exact k
open Ln
def iW(ns:List Int)(sp:Int):ai:=.tuple [.str "line",.tuple (ns.map PyData.int),.int sp]
theorem C5(ns:List Int)(sp:Int):fJ (iW ns sp)=true:=by simp[iW,fJ,cZ,lG]
structure fw(ax:Nat)(m:Int)(ns:List Int):Prop where
 len:ns.length=ax
 bd:∀z∈ns,(z.natAbs:Int)<=m
 nz:∃z∈ns,z≠0
theorem fw.lead{ax:Nat}{m:Int}{ns:List Int}(h:fw ax m ns):0<aL ns/\(aL ns:Int)<=m:=by
 refine⟨a5O h.nz,?_⟩;have hm:0<=m:=by obtain⟨z,hz,_⟩:=h.nz;have:=h.bd z hz;lia
 have:=nX (ns:=ns) (m:=m.toNat) λz hz=>by have:=h.bd z hz;lia
 lia
theorem fw.ne{ax:Nat}{m:Int}{ns:List Int}(h:fw ax m ns):ns≠[]:=by obtain⟨z,hz,_⟩:=h.nz;intro e;subst e;cases hz
theorem mj{H:Hp}{v:V}{ns:List Int}{sp:Int}(h:RD K H v (iW ns sp)):∃a b,v= .ref a/\aU K H a [.str "line",.ref b,.int sp]/\aU K H b (ns.map V.int):=by obtain⟨a,xs,rfl,h1,h2⟩:=h.fg;obtain⟨x1,r1,rfl,e1,h2⟩:=h2.cons_inv;obtain⟨x2,r2,rfl,e2,h2⟩:=h2.cons_inv;obtain⟨x3,r3,rfl,e3,h2⟩:=h2.cons_inv;cases h2.nil_inv;cases e1.str_inv;cases e3.int_inv;obtain⟨b,ys,rfl,h3,h4⟩:=e2.fg;rw[h4.jg]at h3;exact⟨a,b,Z,h1,h3⟩
inductive WA(K:aa)(vs:List V)(H:Hp)(Q:VK):Prop |mk (v:_)(ns:_)(sp:_)(h0:vs=[v])(h1:RD K H v (iW ns sp))(h2:ns≠[])(h3:ns.length<=1000)(h4:∀H',aG H H'->Q (.int (aL ns)) H'):WA K vs H Q
def m7(K:aa):Sp:=λvs H Q _=>WA K vs H Q
theorem mH{ns:List Int}{f:Int->ai}{i:Nat}{d:ai}(h:(ns.map f)[i]? =some d):∃n,ns[i]? =some n/\f n=d:=by rw[cH]at h;cases e:ns[i]? with |none=>rw[e]at h;cases h |some n=>rw[e]at h;exact⟨n,Z,eg h⟩
theorem zh{ns:List Int}{i:Nat}{x:V}{n:Int}(h:(ns.map V.int)[i]? =some x)(e:ns[i]? =some n):x= .int n:=by rw[cH,e]at h;exact(eg h).symm
theorem Ot:bF ["_law_line_here"] ["_law_line_here"] (aZ Ga):=bP aY
theorem a3U(F:FA K mg "_law_lead" Ga)(B:bV mg):aI P w K mg base "_law_lead" 1 (m7 K):=by
 refine F.has Ot (λvs H Q E h=>?_) (λ_ _ _ _ _ _=>eR λ_=>rfl) (λf aQ A outer s H vs Q E hr h=>?_)
 ·obtain⟨v,ns,sp,rfl,_⟩:=h
  rfl
 ·obtain⟨v,ns,sp,rfl,rd,dX,hz,k⟩:=h
  have nd:=Ot.nd;obtain⟨a,b,rfl,ha,hb⟩:=mj rd;refine⟨_,(aH (aX (dG (x:="max") (Iy K Z Z) Z (B.at "max") DW (au (gE (N:=["_law_step"]) (js:=[none]) rfl rfl rfl (qS K rfl (px K (pv 0) aE)) (λ_ _ _ _ _=>(bJ 0 (ur _))) (λ_ _ _ _ _=>fT) (λ_ _ _ _ _=>(dG (x:="abs") oz rfl (B.at "abs") qC (au (pv 0) az)))) az)))),?_⟩;refine⟨_,Z,.inr ⟨a,_,1,.ref b,Z,Z,ha,Z,b,Z,⟨_,hb⟩,λD H0 nw=>?_⟩⟩;refine Dp (K:=K) (xs:=ns.map V.int) (ds:=(ns.map iY).map PyData.int) [] hb nw (by simp) (by simpa using hz) (lG _) ?_ ?_
  ·intro i x d H2 Q' ex ed s2 hq
   obtain⟨m,em,rfl⟩:=mH ed;rw[cH]at em;cases en:ns[i]? with |none=>rw[en]at em;cases em |some n=>rw[en]at em;cases em;cases zh ex en;exact⟨_,Z,n,Z,hq _ _ (aG.refl _) (dw _)⟩
  ·intro H' ys s2 d2 r2
   rw[r2.jg]at d2;refine⟨D,_,Z,aJ.of d2,by simpa using dX,λM h1 h2=>?_⟩;rw[IJ dX h1 h2];exact k H' s2
theorem Oq:bF ["line"] ["line"] (aZ G9):=bP aY
theorem a3T(F:FA K mg "lead_of" G9)(B:bV mg):aI P w K mg base "lead_of" 1 (m7 K):=by
 refine F.has Oq (λvs H Q E h=>?_) (λ_ _ _ _ _ _=>eR λ_=>rfl) (λf aQ A outer s H vs Q E hr h=>?_)
 ·obtain⟨v,ns,sp,rfl,_⟩:=h
  rfl
 ·obtain⟨v,ns,sp,rfl,rd,dX,hz,k⟩:=h
  have nd:=Oq.nd;obtain⟨a,b,rfl,ha,hb⟩:=mj rd;refine⟨_,(aH (aX (dG (x:="max") (Iy K Z Z) Z (B.at "max") DW (au (gE (N:=["step"]) (js:=[none]) rfl rfl rfl (qS K rfl (px K (pv 0) aE)) (λ_ _ _ _ _=>(bJ 0 (ur _))) (λ_ _ _ _ _=>fT) (λ_ _ _ _ _=>(dG (x:="abs") oz rfl (B.at "abs") qC (au (pv 0) az)))) az)))),?_⟩;refine⟨_,Z,.inr ⟨a,_,1,.ref b,Z,Z,ha,Z,b,Z,⟨_,hb⟩,λD H0 nw=>?_⟩⟩;refine Dp (K:=K) (xs:=ns.map V.int) (ds:=(ns.map iY).map PyData.int) [] hb nw (by simp) (by simpa using hz) (lG _) ?_ ?_
  ·intro i x d H2 Q' ex ed s2 hq
   obtain⟨m,em,rfl⟩:=mH ed;rw[cH]at em;cases en:ns[i]? with |none=>rw[en]at em;cases em |some n=>rw[en]at em;cases em;cases zh ex en;exact⟨_,Z,n,Z,hq _ _ (aG.refl _) (dw _)⟩
  ·intro H' ys s2 d2 r2
   rw[r2.jg]at d2;refine⟨D,_,Z,aJ.of d2,by simpa using dX,λM h1 h2=>?_⟩;rw[IJ dX h1 h2];exact k H' s2
open Rt
theorem Ov:bF ["p","q","divisor"] ["p","q"] (aZ Gb):=bP aY
theorem a3N(F:FA K mg "lowest_terms" Gb)(B:bV mg)(a7Q:aI P w K mg base "common_divisor" 1 EM):aI P w K mg base "lowest_terms" 2 vP:=by
 refine F.has Ov (λvs H Q E h=>?_) (λ_ _ _ _ _ _=>dN λ_ _=>rfl) (λf aQ A outer s H vs Q E hr h=>?_)
 ·obtain⟨a,b,rfl,_⟩:=h
  rfl
 ·obtain⟨a,b,rfl,hb,wb,k⟩:=h
  have nd:=Ov.nd;have sw:Wd (Ar.sg a b):=qD (Ar.Nv hb) wb;refine⟨_,(aF (pS 2 nd (pf a7Q hr (au (pv 0) (au (pv 1) az)))) (aF (hJ (bN (ck kl (pv 1) aE (bB _)) (aH (pS 2 nd (yM yd (pv 2)))) bQ)) (aH (aX (ek (au (aO Qe (pv 0) (pv 2)) (au (aO Qe (pv 1) (pv 2)) az))))))),?_⟩;refine⟨_,Z,_,Z,a,b,Z,?_⟩;refine⟨λO H'=>H'=H/\O=[some (.int a),some (.int b),some (.int (Ar.sg a b))],?_,?_⟩
  ·refine⟨_,Z,_,_,Z,Z,_,Z,?_⟩
   refine dU (λhc=>?_) (λhc=>?_)
   ·have hd:b<0:=jZ hc
    refine⟨_,Z,_,Z,?_⟩;refine⟨Z,?_⟩;unfold Ar.sg;rw[bp hd];rfl
   ·have hd:¬b<0:=λz=>hc (cR z)
    refine⟨Z,?_⟩;unfold Ar.sg;rw[bu hd];rfl
  rintro O H' ⟨rfl,rfl⟩;refine⟨_,Z,_,Z,_,_,Z,Z,⟨Ar.yA hb,sw⟩,_,Z,_,Z,_,_,Z,Z,⟨Ar.yA hb,sw⟩,(by show 2<=sizeLine;decide),λt H4 nw=>?_⟩;exact k t H4 nw
def bE(K:aa)(H:Hp)(v:V)(r:Rat):Prop:=∃p,v= .ref p/\aU K H p [.int r.num,.int r.den]
theorem bE.go{H H':Hp}{v:V}{r:Rat}(h:bE K H v r)(s:aG H H'):bE K H' v r:=by obtain⟨p,e,q⟩:=h;exact⟨p,e,q.go s⟩
def cY(r:Rat):ai:=.tuple [.int r.num,.int r.den]
theorem bE.rd{H:Hp}{v:V}{r:Rat}(h:bE K H v r):RD K H v (cY r):=by obtain⟨p,rfl,q⟩:=h;exact jb q (cm (dw _) (cm (dw _) cX))
theorem Pq(r:Rat):dP 1 (cY r):=gL.tup (.cons (.int _) (.cons (.int _) .nil))
theorem a1t(r:Rat):SeqAt.shaped (cY r)=true:=(Pq r).shaped aB
theorem eqR{r s:Rat}(h:r=s):PyData.eqv (cY r) (cY s)=true:=by rw[h];exact(Pq s).refl
theorem iB{n:Nat}{i:Int}(h:i.natAbs<2^n)(l:n<=5000):Wd i:=gB h (tE aB l)
theorem _root_.Rt.Bd.wn{r:Rat}(h:Bd 2000 r):Wd r.num:=iB h.num aB
theorem _root_.Rt.Bd.wd{r:Rat}(h:Bd 2000 r):Wd (r.den:Int):=iB (n:=2000) (by have:=h.den;omega) aB
theorem AK{r s:Rat}(h:Bd 2000 r)(g:Bd 2000 s):Wd ((r.den:Int)*(s.den:Int)):=iB (n:=4000) (Kp h g) aB
theorem BA{H':Hp}{t:Addr}{a b:Int}{r:Rat}(hb:b≠0)(e:r=Rat.divInt a b)(h:H' t=some (.tup [.int (Ar.lowP a b),.int (Ar.hW a b)])):bE K H' (.ref t) r:=by obtain⟨e1,e2⟩:=C0 (a:=a) hb;rw[e1,e2,<-e]at h;exact⟨t,Z,aU.of h⟩
inductive Wl(op:Rat->Rat->Rat)(K:aa)(vs:List V)(H:Hp)(Q:VK):Prop |mk (v1:_)(v2:_)(r:_)(s:_)(h0:vs=[v1,v2])(h1:bE K H v1 r)(h2:bE K H v2 s)(h3:Bd 2000 r)(h4:Bd 2000 s)(h5:∀v H',bE K H' v (op r s)->aG H H'->Q v H'):Wl op K vs H Q
def nA(op:Rat->Rat->Rat)(K:aa):Sp:=λvs H Q _=>Wl op K vs H Q
theorem Og:bF ["one","other","p","q","r","s"] ["one","other"] (aZ G2):=bP aY
theorem a3K(F:FA K mg "minus" G2)(B:bV mg)(uM:aI P w K mg base "lowest_terms" 2 vP):aI P w K mg base "minus" 3 (nA (·-·) K):=by
 refine F.has Og (λvs H Q E h=>?_) (λ_ _ _ _ _ _=>dN λ_ _=>rfl) (λf aQ A outer s H vs Q E hr h=>?_)
 ·obtain⟨v1,v2,r,s,rfl,_⟩:=h
  rfl
 ·obtain⟨v1,v2,r,s,rfl,⟨p,rfl,hp⟩,⟨q,rfl,hq⟩,br,bs,k⟩:=h
  have nd:=Og.nd;refine⟨_,(aF (gq (pv 0) (eK K Z (n:=2) Z (cg (bJ 2 nd) (cg (bJ 3 nd) eG)))) (aF (gq (pv 1) (eK K Z (n:=2) Z (cg (bJ 4 nd) (cg (bJ 5 nd) eG)))) (aH (aX (pf uM hr (au (aO gG (aO bO (pv 2) (pv 5)) (aO bO (pv 4) (pv 3))) (au (aO bO (pv 3) (pv 5)) az))))))),?_⟩;refine⟨_,Z,_,_,Z,hp,Z,_,_,Z,_,_,Z,Z,?_⟩;refine⟨_,Z,_,_,Z,hq,Z,_,_,Z,_,_,Z,Z,?_⟩;refine⟨_,Z,_,Z,_,_,Z,Z,iS br.wn.bits bs.wd.bits,_,Z,_,Z,_,_,Z,Z,iS bs.wn.bits br.wd.bits,_,_,Z,Z,_,Z,_,Z,_,_,Z,Z,iS br.wd.bits bs.wd.bits,?_⟩;exact⟨_,_,Z,qc r s,AK br bs,λt H' nw=>k _ _ (BA (qc r s) (ZH r s) nw.at') nw.same⟩
theorem xr_dvd {a : Int} {b : Nat} {x : Rat} (hb : b ≠ 0) (hx : Rat.divInt a b = x) : ∃ g, a = x.num * g ∧ (b : Int) = x.den * g := by
  obtain ⟨g, _, p⟩ := Rat.divInt_num_den (z' := x.den_nz) (c := x.reduced) (by omega) hx
  exact ⟨g, p⟩
theorem xr_mul {r s x y : Rat} (hx : Rat.divInt r.num s.den = x) (hy : Rat.divInt s.num r.den = y) (m : r * s = Rat.divInt (r.num * s.num) (r.den * s.den)) : x.num * y.num = (r * s).num ∧ (y.den : Int) * x.den = (r * s).den := by
  obtain ⟨g, h1, h2⟩ := xr_dvd s.den_nz hx
  obtain ⟨h, h3, h4⟩ := xr_dvd r.den_nz hy
  have w : ∀ {q : Rat} {a b g h : Int}, q.num = a * g → q.den = b * h → a.natAbs.Coprime b.natAbs := fun {q a b g h} p z => by
    have c : Int.gcd q.num q.den = 1 := q.reduced
    rw [p, z, Int.gcd_eq_natAbs_gcd_natAbs, Int.natAbs_mul, Int.natAbs_mul] at c
    exact Nat.Coprime.coprime_mul_right_right (Nat.Coprime.coprime_mul_right c)
  have c : (x.num * y.num).natAbs.gcd (x.den * y.den) = 1 := by
    rw [Int.natAbs_mul]; exact Nat.Coprime.mul_left (Nat.Coprime.mul_right x.reduced (w h1 h4)) (Nat.Coprime.mul_right (w h3 h2) y.reduced)
  have e : r * s = x * y := by rw [m, ← hx, ← hy, Rat.divInt_mul_divInt, Int.mul_comm (s.den : Int)]
  rw [e, Rat.num_mul, Rat.den_mul, c, Nat.div_one, Nat.mul_comm x.den]
  exact ⟨(Int.ediv_one _).symm, rfl⟩
theorem NI:bF ["one","other","p","s","r","q"] ["one","other"] (aZ F8):=bP aY
theorem a2X(F:FA K mg "times" F8)(B:bV mg)(uM:aI P w K mg base "lowest_terms" 2 vP):aI P w K mg base "times" 3 (nA (·*·) K):=by
 refine F.has NI (λvs H Q E h=>?_) (λ_ _ _ _ _ _=>dN λ_ _=>rfl) (λf aQ A outer s H vs Q E hr h=>?_)
 ·obtain⟨v1,v2,r,s,rfl,_⟩:=h
  rfl
 ·obtain⟨v1,v2,r,s,rfl,⟨p,rfl,hp⟩,⟨q,rfl,hq⟩,br,bs,k⟩:=h
  have nd:=NI.nd;have nr:=Int.ne_of_gt (den_pos r);have ns:=Int.ne_of_gt (den_pos s)
  refine ⟨_,(aF (gq (pf uM hr (au (px K (pv 0) aE) (au (px K (pv 1) aE) az))) (eK K Z (n:=2) Z (cg (bJ 2 nd) (cg (bJ 3 nd) eG)))) (aF (gq (pf uM hr (au (px K (pv 1) aE) (au (px K (pv 0) aE) az))) (eK K Z (n:=2) Z (cg (bJ 4 nd) (cg (bJ 5 nd) eG)))) (aH (aX (ek (au (aO bO (pv 2) (pv 4)) (au (aO bO (pv 5) (pv 3)) az))))))),?_⟩
  refine ⟨_,rfl,Or.inr ⟨_,_,_,_,rfl,rfl,hp,rfl,_,rfl,Or.inr ⟨_,_,_,_,rfl,rfl,hq,rfl,_,_,rfl,ns,bs.wd,fun t1 H1 n1=>?_⟩⟩⟩
  obtain ⟨_,e,g1⟩:=BA ns rfl n1.at';cases e
  refine ⟨_,_,rfl,g1,rfl,_,_,rfl,_,_,rfl,rfl,?_⟩
  refine ⟨_,rfl,Or.inr ⟨_,_,_,_,rfl,rfl,hq.go n1.same,rfl,_,rfl,Or.inr ⟨_,_,_,_,rfl,rfl,hp.go n1.same,rfl,_,_,rfl,nr,br.wd,fun t2 H2 n2=>?_⟩⟩⟩
  obtain ⟨_,e,g2⟩:=BA nr rfl n2.at';cases e
  refine ⟨_,_,rfl,g2,rfl,_,_,rfl,_,_,rfl,rfl,?_⟩
  have b1:Bd 2000 _:=kS ns br.num (by have:=bs.den;omega)
  have b2:Bd 2000 _:=kS nr bs.num (by have:=br.den;omega)
  refine ⟨_,rfl,_,rfl,_,_,rfl,rfl,iS b1.wn.bits b2.wn.bits,_,rfl,_,rfl,_,_,rfl,rfl,iS b2.wd.bits b1.wd.bits,bZ Z,fun t H' n=>k _ _ ⟨t,rfl,aU.of ?_⟩ (n1.same.trans (n2.same.trans n.same))⟩
  obtain ⟨e1,e2⟩:=xr_mul rfl rfl (mul_div r s)
  rw [← e1,← e2]; exact n.at'
inductive Wy(K:aa)(vs:List V)(H:Hp)(Q:VK):Prop |mk (v1:_)(v2:_)(r:_)(s:_)(h0:vs=[v1,v2])(h1:bE K H v1 r)(h2:bE K H v2 s)(h3:Bd 2000 r)(h4:Bd 2000 s)(h5:Q (.bl (decide (r<s))) H):Wy K vs H Q
def vQ(K:aa):Sp:=λvs H Q _=>Wy K vs H Q
theorem Om:bF ["one","other","p","q","r","s"] ["one","other"] (aZ G7):=bP aY
theorem a3R(F:FA K mg "is_less" G7)(B:bV mg):aI P w K mg base "is_less" 1 (vQ K):=by
 refine F.has Om (λvs H Q E h=>?_) (λ_ _ _ _ _ _=>dN λ_ _=>rfl) (λf aQ A outer s H vs Q E hr h=>?_)
 ·obtain⟨v1,v2,r,s,rfl,_⟩:=h
  rfl
 ·obtain⟨v1,v2,r,s,rfl,⟨p,rfl,hp⟩,⟨q,rfl,hq⟩,br,bs,k⟩:=h
  have nd:=Om.nd;refine⟨_,(aF (gq (pv 0) (eK K Z (n:=2) Z (cg (bJ 2 nd) (cg (bJ 3 nd) eG)))) (aF (gq (pv 1) (eK K Z (n:=2) Z (cg (bJ 4 nd) (cg (bJ 5 nd) eG)))) (aH (aX (fH kl (aO bO (pv 2) (pv 5)) (aO bO (pv 4) (pv 3)) (bB _)))))),?_⟩;refine⟨_,Z,_,_,Z,hp,Z,_,_,Z,_,_,Z,Z,?_⟩;refine⟨_,Z,_,_,Z,hq,Z,_,_,Z,_,_,Z,Z,?_⟩;refine⟨_,Z,_,Z,_,_,Z,Z,iS br.wn.bits bs.wd.bits,_,Z,_,Z,_,_,Z,Z,iS bs.wn.bits br.wd.bits,_,_,Z,Z,?_⟩;have e:decide (r.num*(s.den:Int)<s.num*(r.den:Int))=decide (r<s):=by rw[oU,tj,tj,DU]
  show Q (.bl (decide (r.num*(s.den:Int)<s.num*(r.den:Int)))) H;rw[e];exact k
def sP(K:aa)(H:Hp):List V->List Rat->Prop |[],[]=>True |v::vs,r::rs=>bE K H v r/\Bd 2000 r/\sP K H vs rs |_,_=>False
theorem sP.length{H:Hp}:∀{vs:List V}{rs:List Rat},sP K H vs rs->vs.length=rs.length |[],[],_=>rfl |v::vs,r::rs,h=>by rw[kI,kI,sP.length h.2.2] |[],_::_,h=>h.elim |_::_,[],h=>h.elim
theorem sP.get{H:Hp}:∀{vs:List V}{rs:List Rat}{i:Nat}{v:V},sP K H vs rs->vs[i]? =some v->∃r,rs[i]? =some r/\bE K H v r/\Bd 2000 r
 |[],[],i,v,_,e=>by simp at e |v::vs,r::rs,0,v',h,e=>by
  have e':v=v':=by simpa using e
  subst e';exact⟨r,Z,h.1,h.2.1⟩ |v::vs,r::rs,i+1,v',h,e=>by obtain⟨r',e1,q⟩:=sP.get h.2.2 (show vs[i]? =some v' by simpa using e);exact⟨r',by simpa using e1,q⟩ |[],_::_,_,_,h,_=>h.elim |_::_,[],_,_,h,_=>h.elim
inductive Wz(K:aa)(vs:List V)(H:Hp)(Q:VK):Prop |mk (l:_)(xs:_)(rs:_)(h0:vs=[.ref l])(h1:aJ K H l xs)(h2:sP K H xs rs)(h3:xs≠[])(h4:∀(i:Nat)(v:V)(r:Rat),xs[i]? =some v->rs[i]? =some r->(∀s∈rs,r<=s)->Q v H):Wz K vs H Q
def jJ(K:aa):Sp:=λvs H Q _=>Wz K vs H Q
theorem Oo:bF ["some","best","one"] ["some"] (aZ G8):=bP aY
theorem a3S(F:FA K mg "least" G8)(B:bV mg)(Jm:aI P w K mg base "is_less" 1 (vQ K)):aI P w K mg base "least" 2 (jJ K):=by
 refine F.has Oo (λvs H Q E h=>?_) (λ_ _ _ _ _ _=>eR λ_=>rfl) (λf aQ A outer s H vs Q E hr h=>?_)
 ·obtain⟨l,xs,rs,rfl,_⟩:=h
  rfl
 ·obtain⟨l,xs,rs,rfl,hl,ku,dX,k⟩:=h
  have nd:=Oo.nd;refine⟨_,(aF (pS 1 nd (px K (pv 0) aE)) (aF (me iA Z (yL K Z (pv 0)) (bJ 2 nd) (aH (bN (cP (pf Jm hr (au (pv 2) (au (pv 1) az)))) (aH (pS 1 nd (pv 2))) bQ))) (aH (aX (pv 1))))),?_⟩;have hlen:=ku.length;have h0:0<xs.length:=LM.mpr dX;have e0:=cu h0;refine⟨_,Z,.inl ⟨l,xs,0,xs[0],Z,Z,hl,dB aB e0,?_⟩⟩;refine⟨_,Z,l,Z,⟨_,hl⟩,JQ (K:=K) (a:=l) (xs:=xs) (λi O H2=>H2=H/\∃(j:Nat)(b:V)(r:Rat)(v:Option V),xs[j]? =some b/\rs[j]? =some r/\(∀(m:Nat)(s:Rat),m<i->rs[m]? =some s->r<=s)/\O=[some (.ref l),some b,v]) ?_ (λi O H2 _ h=>by rw[h.1];exact hl) ?_ ?_⟩
  ·obtain⟨r,e1,_⟩:=ku.get e0
   exact⟨Z,0,_,r,none,e0,e1,λm s hm=>absurd hm (Nat.not_lt_zero _),Z⟩
  ·rintro i x O H2 hx ⟨rfl,j,b,r,v,eb,er,hm,rfl⟩
   obtain⟨t,et,rt,bt⟩:=ku.get hx;obtain⟨r2,oh,rb,bb⟩:=ku.get eb;rw[er]at oh;cases oh;refine⟨_,Z,_,Z,x,b,t,r,Z,rt,rb,bt,bb,_,Z,?_⟩;refine dU (λhc=>?_) (λhc=>?_)
   ·have cF:t<r:=jZ hc
    refine⟨_,Z,?_⟩;refine⟨Z,i,x,t,_,hx,et,λm s uL es=>?_,Z⟩;rcases LH.mp uL with h|h
    ·exact eV (Lr cF) (hm m s h es)
    ·subst h
     rw[et]at es;cases es;exact qA
   ·have Jf:¬t<r:=λz=>hc (cR z)
    refine⟨Z,j,b,r,_,eb,er,λm s uL es=>?_,Z⟩;rcases LH.mp uL with h|h
    ·exact hm m s h es
    ·subst h
     rw[et]at es;cases es;exact As.mp Jf
  ·rintro O H2 ⟨rfl,j,b,r,v,eb,er,hm,rfl⟩
   refine⟨_,Z,k j b r eb er λs hs=>?_⟩;obtain⟨m,Ji,em⟩:=XY.mp hs;exact hm m s aw (by rw[cu Ji,em])
inductive Wu(K:aa)(vs:List V)(H:Hp)(Q:VK):Prop |mk (a:_)(b:_)(h0:vs=[.int a,.int b])(h1:b≠0)(h2:Wd b)(h3:∀v H',bE K H' v (Rat.divInt a b)->aG H H'->Q v H'):Wu K vs H Q
def vO(K:aa):Sp:=λvs H Q _=>Wu K vs H Q
theorem OG:bF ["p","q"] ["p","q"] (aZ Gn):=bP aY
theorem a44(F:FA K mg "fraction" Gn)(B:bV mg)(CD:aI P w K mg base "is_whole" 1 (vR K))(uM:aI P w K mg base "lowest_terms" 2 vP):aI P w K mg base "fraction" 3 (vO K):=by
 refine F.has OG (λvs H Q E h=>?_) (λ_ _ _ _ _ _=>dN λ_ _=>rfl) (λf aQ A outer s H vs Q E hr h=>?_)
 ·obtain⟨a,b,rfl,_⟩:=h
  rfl
 ·obtain⟨a,b,rfl,hb,wb,k⟩:=h
  have nd:=OG.nd;refine⟨_,(aF (bN (PW.pt (kQ (eO (cP (pf CD hr (au (pv 0) az)))) (lF (eO (cP (pf CD hr (au (pv 1) az))))))) (aH ph) bQ) (aF (bN (ck (cW K Z hr.units) (pv 1) aE (bB _)) (aH ph) bQ) (aH (aX (pf uM hr (au (pv 0) (au (pv 1) az))))))),?_⟩;have iw:wW "int"=true:=by decide
  refine⟨_,Z,_,"int",Z,Z,_,Z,?_⟩;rw[iw];refine bK ?_;refine⟨_,Z,_,"int",Z,Z,_,Z,?_⟩;rw[iw];refine bK ?_;refine⟨_,Z,.inl ⟨_,_,Z,Z,_,Z,?_⟩⟩;rw[fb hb];refine bK ?_;exact⟨_,Z,_,Z,_,_,Z,hb,wb,λt H' nw=>k _ _ (BA hb Z nw.at') nw.same⟩
def jf(rs:List Int)(r f j t:Int):ai:=.tuple [.tuple (rs.map PyData.int),.int r,.int f,.int j,.int t]
theorem iJ(rs:List Int)(r f j t:Int):fJ (jf rs r f j t)=true:=by simp[jf,fJ,cZ,lG]
theorem lJ{H:Hp}{v:V}{rs:List Int}{r f j t:Int}(h:RD K H v (jf rs r f j t)):∃a b,v= .ref a/\aU K H a [.ref b,.int r,.int f,.int j,.int t]/\aU K H b (rs.map V.int):=by obtain⟨a,xs,rfl,h1,h2⟩:=h.fg;obtain⟨x1,r1,rfl,e1,h2⟩:=h2.cons_inv;obtain⟨x2,r2,rfl,e2,h2⟩:=h2.cons_inv;obtain⟨x3,r3,rfl,e3,h2⟩:=h2.cons_inv;obtain⟨x4,r4,rfl,e4,h2⟩:=h2.cons_inv;obtain⟨x5,r5,rfl,e5,h2⟩:=h2.cons_inv;cases h2.nil_inv;cases e2.int_inv;cases e3.int_inv;cases e4.int_inv;cases e5.int_inv;obtain⟨b,ys,rfl,h3,h4⟩:=e1.fg;rw[h4.jg]at h3;exact⟨a,b,Z,h1,h3⟩
structure oF(rs:List Int)(r f j t:Int):Prop where
 len:rs.length=2\/rs.length=3
 rl:∀z∈rs,1<=z/\z<=100
 r1:1<=r/\r<=50
 f1:1<=f/\f<=50
 j1:1<=j/\j<=50
 t1:1<=t/\t<=100
inductive Wv(K:aa)(vs:List V)(H:Hp)(Q:VK):Prop |mk (p:_)(h0:vs=[.ref p])(h1:gM H p)(h2:∀v rs r f j t H',RD K H' v (jf rs r f j t)->oF rs r f j t->cn p H H'->Q v H'):Wv K vs H Q
def Nh(K:aa):Sp:=λvs H Q _=>Wv K vs H Q
theorem Oi:bF ["_law_bag_here","_law_kind","_law_most","_law_rails"] ["_law_bag_here"] (aZ G4):=bP aY
theorem a3M(F:FA K mg "_law_machine" G4)(B:bV mg)(eL:aI P w K mg base "_law_take" 1 qL):aI P w K mg base "_law_machine" 2 (Nh K):=by
 refine F.has Oi (λvs H Q E h=>?_) (λ_ _ _ _ _ _=>eR λ_=>rfl) (λf aQ A outer s H vs Q E hr h=>?_)
 ·obtain⟨p,rfl,_⟩:=h
  rfl
 ·obtain⟨p,rfl,bg,k⟩:=h
  have nd:=Oi.nd;refine⟨_,(aF (pS 1 nd (pf eL hr (au (pv 0) (au aE az)))) (aF (pS 2 nd (px K (dj (au aE (au aE (au aE (au aE (au aE (au aE (au aE (au aE az))))))))) (pv 1))) (aF (pS 3 nd (iG (x:="tuple") (lD K Z) Z (B.at "tuple") fY (au (gE (N:=["_law_axis","_law_bag_here","_law_most"]) (js:=[none,some 0,some 2]) rfl rfl rfl (yK rfl (B.at "range") (au (aO da aE (pf eL hr (au (pv 0) (au aE az)))) az)) (λ_ _ _ _ _=>(bJ 0 (show List.Nodup (["_law_axis","_law_bag_here","_law_most"]:List Str) by decide+kernel))) (λ_ _ _ _ _=>fT) (λ_ _ _ _ _=>(aO da aE (pf eL hr (au (pv 1) (au (pv 2) az)))))) az))) (aF (bN (ck (cW K Z hr.units) (pv 1) aE (bB _)) (aH (aX (ek (au (pv 3) (au (aO da aE (aO bO aE (pf eL hr (au (pv 0) (au aE az))))) (au (aO da aE (aO bO aE (pf eL hr (au (pv 0) (au aE az))))) (au (aO da aE (aO bO aE (pf eL hr (au (pv 0) (au aE az))))) (au aE az)))))))) bQ) (aH (aX (ek (au (pv 3) (au (aO da aE (pf eL hr (au (pv 0) (au aE az)))) (au (aO da aE (pf eL hr (au (pv 0) (au aE az)))) (au (aO da aE (pf eL hr (au (pv 0) (au aE az)))) (au (aO da aE (pf eL hr (au (pv 0) (au aE az)))) az)))))))))))),?_⟩;refine⟨_,Z,p,8,Z,bg,aB,aB,λkd H1 k0 k1 b1=>?_⟩;refine⟨bZ Z,λl H2 nw=>?_⟩;have b2:cn p H1 H2:=.jM b1.bS nw.same;obtain⟨gI,mf,ef⟩:=a6m [100,100,100,60,60,20,5,100] k0 k1;have f1:1<=gI/\gI<=100:=by
   have h:∀z∈([100,100,100,60,60,20,5,100]:List Int),1<=z/\z<=100:=by decide
   exact h gI mf
  refine⟨_,Z,.inl ⟨l,_,_,_,Z,Z,aJ.of nw.at',ef,?_⟩⟩;refine⟨_,Z,p,2,Z,b2.bS,aB,aB,λax H3 a0 a1 b3=>?_⟩;refine⟨_,_,Z,Z,_,Z,aw,aw,λD H4 n4=>?_⟩;refine abE (J:=oH 0 (2+ax).toNat) (p:=p) (H:=H3) (2+ax).toNat _ n4 b3.bS aw (λi=>.int (0+(i:Int))) (λi H5 hi _=>⟨hi,λy H6 ⟨e,q⟩=>⟨e,q⟩⟩) (λH5 _=>bR _) (λz=>1<=z/\z<=100) ?_ ?_
  ·intro i H5 Q' hi b5 hq
   refine⟨_,Z,_,Z,p,gI,Z,b5.bS,f1.1,aw,λd H6 d0 d1 b6=>?_⟩;exact⟨_,_,Z,Z,hq _ _ aw b6⟩
  intro H5 is b5 d5 l5 V0;have sL:=b1.trans (b2.trans (b3.trans b5));refine⟨D,_,Z,.inl ⟨aJ.of d5,λq H6 n6=>?_⟩⟩;have b6:cn p H5 H6:=.jM sL.bS n6.same;have q6:aU K H6 q (is.map V.int):=aU.of n6.at';refine⟨_,Z,.inl ⟨_,_,Z,Z,_,Z,?_⟩⟩;refine dU (λhc=>?_) (λhc=>?_)
  ·refine⟨_,Z,_,Z,p,2,Z,b6.bS,aB,aB,λri H7 ri0 ri1 b7=>?_⟩
   refine⟨_,_,Z,Z,.of_left (cw aB aB),_,_,Z,Z,?_⟩;refine⟨_,Z,p,2,Z,b7.bS,aB,aB,λfa H8 fa0 fa1 b8=>?_⟩;refine⟨_,_,Z,Z,.of_left (cw aB aB),_,_,Z,Z,?_⟩;refine⟨_,Z,p,2,Z,b8.bS,aB,aB,λju H9 ju0 ju1 b9=>?_⟩;refine⟨_,_,Z,Z,.of_left (cw aB aB),_,_,Z,Z,?_⟩;refine⟨bZ Z,λt jW ko=>?_⟩;have Dz:cn p H9 jW:=.jM b9.bS ko.same;have V2:=b7.trans (b8.trans (b9.trans Dz));have q10:aU K jW q (is.map V.int):=aU.t (cn.t b6.bS V2) q6;exact k (.ref t) is (1+49*ri) (1+49*fa) (1+49*ju) 100 jW (jb (aU.of ko.at') (cm (jb q10 (we is)) (cm (dw _) (cm (dw _) (cm (dw _) (cm (dw _) cX)))))) ⟨aw,V0,aw,aw,aw,aw⟩ (sL.trans (b6.trans V2))
  ·refine⟨_,Z,_,Z,p,50,Z,b6.bS,aB,aB,λri H7 ri0 ri1 b7=>?_⟩
   refine⟨_,_,Z,Z,?_⟩;refine⟨_,Z,p,50,Z,b7.bS,aB,aB,λfa H8 fa0 fa1 b8=>?_⟩;refine⟨_,_,Z,Z,?_⟩;refine⟨_,Z,p,50,Z,b8.bS,aB,aB,λju H9 ju0 ju1 b9=>?_⟩;refine⟨_,_,Z,Z,?_⟩;refine⟨_,Z,p,100,Z,b9.bS,aB,aB,λti jW ti0 ti1 Dz=>?_⟩;refine⟨_,_,Z,Z,bZ Z,λt j4 jN=>?_⟩;have zZ:cn p jW j4:=.jM Dz.bS jN.same;have V1:=b7.trans (b8.trans (b9.trans (Dz.trans zZ)));have yJ:aU K j4 q (is.map V.int):=aU.t (cn.t b6.bS V1) q6;exact k (.ref t) is (1+ri) (1+fa) (1+ju) (1+ti) j4 (jb (aU.of jN.at') (cm (jb yJ (we is)) (cm (dw _) (cm (dw _) (cm (dw _) (cm (dw _) cX)))))) ⟨aw,V0,aw,aw,aw,aw⟩ (sL.trans (b6.trans V1))
inductive WG(K:aa)(vs:List V)(H:Hp)(Q:VK):Prop |mk (a:_)(b:_)(h0:vs=[.int a,.int b])(h1:0<b)(h2:Wd b)(h3:∀v H',bE K H' v (Rat.divInt a b)->aG H H'->Q v H'):WG K vs H Q
def yt(K:aa):Sp:=λvs H Q _=>WG K vs H Q
theorem OF:bF ["_law_p","_law_q","_law_one","_law_other_here"] ["_law_p","_law_q"] (aZ Gm):=bP aY
theorem a43(F:FA K mg "_law_frac" Gm)(B:bV mg):aI P w K mg base "_law_frac" 1 (yt K):=by
 refine F.has OF (λvs H Q E h=>?_) (λ_ _ _ _ _ _=>dN λ_ _=>rfl) (λf aQ A outer s H vs Q E hr h=>?_)
 ·obtain⟨a,b,rfl,_⟩:=h
  rfl
 ·obtain⟨a,b,rfl,hb,wb,k⟩:=h
  have nd:=OF.nd;refine⟨_,(aF (p9 (i:=2) (j:=3) Z nd Z Z aB Z Z (au (dG (x:="abs") oz Z (B.at "abs") qC (au (pv 0) az)) (au (pv 1) az)) rfl) (aF (nO iA (ck uh (pv 3) aE (bB _)) (aH (p9 (i:=2) (j:=3) Z nd Z Z aB Z Z (au (pv 3) (au (aO pA (pv 2) (pv 3)) az)) Z))) (aH (aX (ek (au (aO mF (pv 0) (pv 2)) (au (aO mF (pv 1) (pv 2)) az))))))),?_⟩;refine⟨_,Z,_,Z,_,Z,_,_,Z,?_⟩;refine nc (λO H2=>H2=H/\∃(x y:Int),O=[some (.int a),some (.int b),some (.int x),some (.int y)]/\0<=x/\0<=y/\Int.gcd x y=Int.gcd a b) (λO _=>match O with|[_,_,_,some (.int y)]=>y.natAbs|_=>0) ?_ ?_ ?_
  ·refine⟨Z,_,_,Z,by split<;>lia,aw,?_⟩
   have h1:(if a<0 then-a else a).natAbs=a.natAbs:=by split<;>lia
   unfold Int.gcd;rw[h1]
  ·rintro O H2 ⟨rfl,x,y,rfl,x0,y0,e⟩
   refine⟨_,Z,_,_,Z,Z,_,Z,?_⟩;refine dU (λhc=>?_) (λhc=>?_)
   ·have kr:0<y:=jZ hc
    have hy:y≠0:=by lia
    refine⟨_,Z,_,Z,_,Z,_,_,Z,Z,kr,_,_,Z,?_⟩;refine⟨⟨Z,_,_,Z,y0,oT _ hy,(Ar.T5 kr).trans e⟩,?_⟩;show(x%y).natAbs<y.natAbs;have:=oT x hy;have:=tH x kr
    lia
   ·have hy:y=0:=by
     have:¬y>0:=λz=>hc (cR z)
     lia
    subst hy;rw[Int.gcd_zero_right]at e;have ex:x=((Int.gcd a b:Nat):Int):=by lia
    have pR:b≠0:=by lia
    have gp:=Ar.CT (p:=a) pR;have es:Ar.sg a b=(Int.gcd a b:Int):=by unfold Ar.sg;rw[bu aw]
    have gw:Wd (Int.gcd a b:Int):=by rw[<-es];exact qD (Ar.Nv pR) wb
    obtain⟨e1,e2⟩:=C0 (a:=a) pR;have f1:a/(Int.gcd a b:Int)=(Rat.divInt a b).num:=by rw[<-e1];unfold Ar.lowP;rw[es,Y7 _ aw]
    have f2:b/(Int.gcd a b:Int)=((Rat.divInt a b).den:Int):=by rw[<-e2];unfold Ar.hW;rw[es,Y7 _ aw]
    subst ex;refine⟨_,Z,_,Z,_,_,Z,Z,⟨gp,gw⟩,_,Z,_,Z,_,_,Z,Z,⟨gp,gw⟩,bZ Z,λt H6 n6=>?_⟩;have V7:=n6.at';simp only[f1,f2]at V7;exact k _ _ ⟨t,Z,aU.of V7⟩ n6.same
  ·rintro O H2 Q1 Q2 hq ⟨v1,e1,i,j,e3,e4,kk,e5,q⟩
   exact⟨v1,e1,i,j,e3,e4,kk,e5,hq _ _ q⟩
theorem Ox:bF ["_law_thing"] ["_law_thing"] (aZ Gd):=bP aY
theorem a3O(F:FA K mg "_law_number" Gd)(B:bV mg):aI P w K mg base "_law_number" 1 (vR K):=by
 refine F.has Ox (λvs H Q E h=>?_) (λ_ _ _ _ _ _=>eR λ_=>rfl) (λf aQ A outer s H vs Q E hr h=>?_)
 ·obtain⟨v,T,rfl,_⟩:=h
  rfl
 ·obtain⟨v,T,rfl,ty,k⟩:=h
  have nd:=Ox.nd;refine⟨_,(aH (aX (iV (dS K B (au (pv 0) (au (dk (x:="int") (v:=.ty "int") Z (B.at "int") Ly rfl) az))) (jd (PM (dS K B (au (pv 0) (au (dk (x:="bool") (v:=.ty "bool") rfl (B.at "bool") XS rfl) az)))))))),?_⟩;refine⟨_,Z,.inl ⟨_,T,"int",_,Z,ty,aB,Z,_,Z,?_⟩⟩;unfold wW at k;refine dU (λhc=>?_) (λhc=>?_)
  ·refine⟨_,Z,.inl ⟨_,T,"bool",_,Z,ty,aB,Z,_,Z,?_⟩⟩
   rw[hc,kJ]at k;exact k
  ·rw[y6.mpr hc,lB]at k
   exact k
theorem Mj:j8 "tuple" "tuple"=true:=by decide
theorem Mn:j8 "list" "list"=true:=by decide
abbrev Itm:=Option (List Int × Int)
def itR(d:ai)(o:Itm):Prop:=(∃ns sp,d=iW ns sp/\o=some (ns,sp))\/∃w x,d= .tuple [.str w,x]/\(w="wait"\/w="tool"\/w="mark")/\fJ x=true/\o=none
theorem itR.no{d:ai}{o:Itm}(h:itR d o):fJ d=true:=by
 rcases h with⟨ns,sp,rfl,_⟩|⟨w,x,rfl,_,h,_⟩
 ·exact C5 _ _
 ·simp[fJ,cZ,h]
theorem wV{H:Hp}{v:V}{d:ai}{o:Itm}(h:RD K H v d)(i:itR d o):∃a w ys,v= .ref a/\aU K H a (.str w::ys)/\(PyData.eqv (.str w) (.str "line")=o.isSome)/\SeqAt.shaped (.str w)=true:=by
 rcases i with⟨ns,sp,rfl,rfl⟩|⟨w,x,rfl,hw,_,rfl⟩
 ·obtain⟨a,b,rfl,h1,_⟩:=mj h
  exact⟨a,_,_,Z,h1,(by show PyData.eqv (.str "line") (.str "line")=true;decide+kernel),aY⟩
 ·obtain⟨a,xs,rfl,h1,h2⟩:=h.fg
  obtain⟨x1,r1,rfl,e1,h2⟩:=h2.cons_inv;cases e1.str_inv;refine⟨a,w,r1,Z,h1,?_,?_⟩
  ·show PyData.eqv (.str w) (.str "line")=false
   rcases hw with rfl|rfl|rfl<;>decide+kernel
  ·rcases hw with rfl|rfl|rfl<;>decide+kernel
theorem ux:SeqAt.shaped (.str "line")=true:=by decide+kernel
theorem kW{d:ai}{ns:List Int}{sp:Int}(h:itR d (some (ns,sp))):d=iW ns sp:=by
 rcases h with⟨yV,yx,e1,e2⟩|⟨_,_,_,_,_,e2⟩
 ·cases e2;exact e1
 ·cases e2
structure ib(ax:Nat)(ds:List ai)(os:List Itm):Prop where
 len:ds.length=os.length
 it:∀(i:Nat)(d:ai)(o:Itm),ds[i]? =some d->os[i]? =some o->itR d o
 ok:∀(i:Nat)(ns:List Int)(sp:Int),os[i]? =some (some (ns,sp))->fw ax 100 ns/\1<=sp/\sp<=20
theorem ib.nil{ax:Nat}:ib ax [] []:=⟨Z,λi d o e=>by simp at e,λi ns sp e=>by simp at e⟩
theorem tV{α:Type}{xs:List α}{x y:α}{j:Nat}(e:(xs++[x])[j]? =some y):xs[j]? =some y\/(j=xs.length/\y=x):=by
 by_cases hj:j<xs.length
 ·rw[xZ hj]at e;exact .inl e
 ·have pO:j=xs.length:=by
   have:=(dQ.mp e).1;rw[fy]at this;have:j<xs.length+1:=this
   lia
  rw[pO,Ay (bR _),Lz]at e;exact .inr ⟨pO,(eg e).symm⟩
theorem ib.snoc{ax:Nat}{ds:List ai}{os:List Itm}{d:ai}{o:Itm}(h:ib ax ds os)(i:itR d o)(g:∀ns sp,o=some (ns,sp)->fw ax 100 ns/\1<=sp/\sp<=20):ib ax (ds++[d]) (os++[o]):=by
 have hl:=h.len;refine⟨by rw[fy,fy,h.len];rfl,λj d' o' e1 e2=>?_,λj ns sp e=>?_⟩
 ·rcases tV e1 with e1|⟨j1,rfl⟩
  ·rcases tV e2 with e2|⟨j2,rfl⟩
   ·exact h.it j d' o' e1 e2
   ·have:=(dQ.mp e1).1;lia
  ·rcases tV e2 with e2|⟨j2,rfl⟩
   ·have:=(dQ.mp e2).1;lia
   ·exact i
 ·rcases tV e with e|⟨_,e⟩
  ·exact h.ok j ns sp e
  ·exact g ns sp e.symm
theorem ib.no{ax:Nat}{ds:List ai}{os:List Itm}(h:ib ax ds os):cZ ds=true:=iH.mpr λd hd=>by obtain⟨i,hi⟩:=qG.mp hd;have hl:=(dQ.mp hi).1;exact(h.it i d _ hi (cu (by rw[<-h.len];exact hl))).no
theorem ib.get{ax:Nat}{ds:List ai}{os:List Itm}(h:ib ax ds os){i:Nat}{d:ai}(e:ds[i]? =some d):∃o,os[i]? =some o/\itR d o:=by have hl:=(dQ.mp e).1;have e2:=cu (show i<os.length by rw[<-h.len];exact hl);exact⟨_,e2,h.it i d _ e e2⟩
inductive WE(K:aa)(vs:List V)(H:Hp)(Q:VK):Prop |mk (v:_)(d:_)(o:_)(h0:vs=[v])(h1:RD K H v d)(h2:itR d o)(h3:Q (.bl o.isSome) H):WE K vs H Q
def vS(K:aa):Sp:=λvs H Q _=>WE K vs H Q
theorem Oz:bF ["item"] ["item"] (aZ Gf):=bP aY
theorem a3Y(F:FA K mg "is_line" Gf)(B:bV mg):aI P w K mg base "is_line" 1 (vS K):=by
 refine F.has Oz (λvs H Q E h=>?_) (λ_ _ _ _ _ _=>eR λ_=>rfl) (λf aQ A outer s H vs Q E hr h=>?_)
 ·obtain⟨v,d,o,rfl,_⟩:=h
  rfl
 ·obtain⟨v,d,o,rfl,ri,it,k⟩:=h
  have nd:=Oz.nd;refine⟨_,(aH (aX (fH (cW K Z hr.units) (px K (pv 0) aE) ba (bB _)))),?_⟩;obtain⟨a,wd,ys,rfl,h1,ew,sw⟩:=wV ri it;refine⟨_,Z,.inr ⟨a,_,0,.str wd,Z,Z,h1,dB (gO 0) Z,.inr ⟨_,_,cV _,cV _,sw,ux,?_⟩⟩⟩;rw[ew];exact k
theorem MG{H:Hp}:∀{xs:List V}{zs:List Str},aP K H xs (zs.map PyData.str)->xs=zs.map V.str |xs,[],h=>h.nil_inv |xs,n::ns,h=>by obtain⟨y,ys,rfl,h1,h2⟩:=h.cons_inv;rw[h1.str_inv,MG h2];rfl
theorem acJ:jU.cps.toList.length=26:=by decide+kernel
theorem Od:bF ["_law_bag_here","_law_kind","_law_letters"] ["_law_bag_here"] (aZ FY):=bP aY
def Yk(ns:List Int):ai:=.tuple (ns.map λz=>cY (Rat.divInt z (Ln.aL ns)))
theorem qQ(r:Rat):fJ (cY r)=true:=by simp[cY,fJ,cZ]
theorem Qs{α:Type}{f:α->ai}(h:∀a,fJ (f a)=true)(l:List α):cZ (l.map f)=true:=iH.mpr λd hd=>by obtain⟨a,_,rfl⟩:=ka.mp hd;exact h a
inductive VE(K:aa)(vs:List V)(H:Hp)(Q:VK):Prop |mk (v:_)(ns:_)(sp:_)(h0:vs=[v])(h1:RD K H v (iW ns sp))(h2:fw ns.length 1000 ns)(h3:ns.length<=1000)(h4:∀v' H',RD K H' v' (Yk ns)->aG H H'->Q v' H'):VE K vs H Q
def MQ(K:aa):Sp:=λvs H Q _=>VE K vs H Q
theorem NC:bF ["line","lead"] ["line"] (aZ EY):=bP aY
theorem a2T(F:FA K mg "ways_of" EY)(B:bV mg)(pL:aI P w K mg base "lead_of" 1 (m7 K))(rK:aI P w K mg base "fraction" 3 (vO K)):aI P w K mg base "ways_of" 4 (MQ K):=by
 refine F.has NC (λvs H Q E h=>?_) (λ_ _ _ _ _ _=>eR λ_=>rfl) (λf aQ A outer s H vs Q E hr h=>?_)
 ·obtain⟨v,ns,sp,rfl,_⟩:=h
  rfl
 ·obtain⟨v,ns,sp,rfl,rd,ok,hz,k⟩:=h
  have nd:=NC.nd;refine⟨_,(aF (pS 1 nd (pf pL hr (au (pv 0) az))) (aH (aX (iG (x:="tuple") (lD K Z) Z (B.at "tuple") fY (au (gE (N:=["step","lead"]) (js:=[none,some 1]) rfl rfl rfl (qS K rfl (px K (pv 0) aE)) (λ_ _ _ _ _=>(bJ 0 (gc aB))) (λ_ _ _ _ _=>fT) (λ_ _ _ _ _=>(pf rK hr (au (pv 0) (au (pv 1) az))))) az))))),?_⟩;refine⟨_,Z,v,ns,sp,Z,rd,ok.ne,hz,λH1 s1=>?_⟩;obtain⟨a,b,rfl,ha,hb⟩:=mj (RD.mono s1 _ rd);obtain⟨lp,lm⟩:=ok.lead;refine⟨_,Z,.inr ⟨a,_,1,.ref b,Z,Z,ha,Z,b,Z,⟨_,hb⟩,λD H0 nw=>?_⟩⟩;refine Dp (K:=K) (xs:=ns.map V.int) (ds:=ns.map λz=>cY (Rat.divInt z (Ln.aL ns))) _ hb nw (by simp) (by simpa using hz) (Qs (λ_=>qQ _) _) ?_ ?_
  ·intro i x d H2 Q' ex ed s2 hq
   obtain⟨n,en,rfl⟩:=mH ed;cases zh ex en;refine⟨_,Z,_,Z,n,_,Z,dM,iB (n:=20) dM aB,λv3 H3 r3 s3=>?_⟩;exact hq _ _ s3 r3.rd
  ·intro H' ys s2 d2 r2
   refine⟨D,_,Z,.inl ⟨aJ.of d2,λt H4 n4=>?_⟩⟩;exact k _ _ (jb (aU.of n4.at') (aP.mono n4.same _ r2)) (s1.trans (s2.trans n4.same))
theorem yf:j8 "tuple" "tuple"=true:=by decide
theorem Yj(d:ai):(∃i,d= .int i/\wW (nk d)=true)\/(wW (nk d)=false/\∀i,d≠ .int i):=by cases d with |int i=>exact .inl ⟨i,Z,by simp[nk];decide⟩ |_=>exact .inr ⟨by simp[nk];decide,λ_ z=>nomatch z⟩
theorem El(d:ai):(∃ds,d= .tuple ds)\/(j8 (nk d) "tuple"=false/\∀ds,d≠ .tuple ds):=by cases d with |tuple ds=>exact .inl ⟨ds,Z⟩ |_=>exact .inr ⟨by simp[nk];decide,λ_ z=>nomatch z⟩
def gR(lo hi:Int):ai->Bool | .int i=>decide (lo<=i)&&decide (i<=hi) |_=>false
theorem a6n{lo hi:Int}{d:ai}(h:∀i,d≠ .int i):gR lo hi d=false:=by cases d<;>first|rfl|exact absurd rfl (h _)
inductive VF(K:aa)(vs:List V)(H:Hp)(Q:VK):Prop |mk (v:_)(d:_)(lo:_)(hi:_)(h0:vs=[v,.int lo,.int hi])(h1:RD K H v d)(h2:Q (.bl (gR lo hi d)) H):VF K vs H Q
def tT(K:aa):Sp:=λvs H Q _=>VF K vs H Q
theorem ND:bF ["thing","low","high"] ["thing","low","high"] (aZ EZ):=bP aY
theorem a2S(F:FA K mg "is_whole_within" EZ)(B:bV mg)(CD:aI P w K mg base "is_whole" 1 (vR K)):aI P w K mg base "is_whole_within" 2 (tT K):=by
 refine F.has ND (λvs H Q E h=>?_) (λ_ _ _ _ _ _=>oB λ_ _ _=>rfl) (λf aQ A outer s H vs Q E hr h=>?_)
 ·obtain⟨v,d,lo,hi,rfl,_⟩:=h
  rfl
 ·obtain⟨v,d,lo,hi,rfl,rd,k⟩:=h
  have nd:=ND.nd;refine⟨_,(aH (aX (iV (pf CD hr (au (pv 0) az)) (jd (PX wx wx (pv 1) (pv 0) (pv 2)))))),?_⟩;refine⟨_,Z,_,_,Z,rd.ty,_,Z,?_⟩;rcases Yj d with⟨i,rfl,e⟩|⟨e,hn⟩
  ·cases rd.int_inv
   rw[e];refine cf ?_;have k:Q (.bl (decide (lo<=i)&&decide (i<=hi))) H:=k;refine⟨_,Z,_,Z,_,_,Z,Z,_,Z,?_⟩;refine dU (λhc=>?_) (λhc=>?_)
   ·have gU:decide (lo<=i)=true:=hc
    rw[gU,kJ]at k;exact⟨_,Z,_,_,Z,Z,k⟩
   ·have gU:decide (lo<=i)=false:=y6.mpr hc
    rw[gU,lB]at k;exact k
  ·rw[e]
   refine bK ?_;rw[a6n hn]at k;exact k
open Cn
theorem M0{ns ms:List Int}{i:Nat}{a b:Int}(h1:ns[i]? =some a)(h2:ms[i]? =some b):(dy ns ms)[i]? =some (a*(aL ms:Int)-b*(aL ns:Int)):=by unfold dy;rw[cH,(xY (z:=(a,b))).mpr ⟨h1,h2⟩];rfl
def zW(j:Int)(ns ms:List Int):ai:=if aL (dy ns ms)=0 then .none else cY (Rat.divInt ((j*aL ns*aL ms)^2) ((aL (dy ns ms):Int)^2))
inductive WM(K:aa)(vs:List V)(H:Hp)(Q:VK):Prop |mk (v:_)(v1:_)(v2:_)(rs:_)(r:_)(f:_)(j:_)(t:_)(ns:_)(ms:_)(gZ:_)(iD:_)(h0:vs=[v,v1,v2])(h1:RD K H v (jf rs r f j t))(h2:RD K H v1 (iW ns gZ))(h3:RD K H v2 (iW ms iD))(h4:fw ns.length 1000 ns)(h5:fw ns.length 1000 ms)(h6:ns.length<=1000)(h7:1<=j)(h8:j<=50)(h9:∀v' H',RD K H' v' (zW j ns ms)->aG H H'->Q v' H'):WM K vs H Q
def EN(K:aa):Sp:=λvs H Q _=>WM K vs H Q
theorem zip2{ns ms:List Int}(h:ms.length=ns.length){i:Nat}{x y:V}(ex:(ns.map V.int)[i]? =some x)(ey:(ms.map V.int)[i]? =some y):∃a b,ns[i]? =some a/\ms[i]? =some b/\x= .int a/\y= .int b:=by rw[cH]at ex ey;cases e1:ns[i]? with |none=>rw[e1]at ex;cases ex |some a=>cases e2:ms[i]? with |none=>rw[e2]at ey;cases ey |some b=>rw[e1]at ex;rw[e2]at ey;exact⟨a,b,Z,Z,(eg ex).symm,(eg ey).symm⟩
inductive VH(K:aa)(vs:List V)(H:Hp)(Q:VK):Prop |mk (v1:_)(v2:_)(ns:_)(ms:_)(gZ:_)(iD:_)(h0:vs=[v1,v2])(h1:RD K H v1 (iW ns gZ))(h2:RD K H v2 (iW ms iD))(h3:fw ns.length 1000 ns)(h4:fw ns.length 1000 ms)(h5:ns.length<=1000)(h6:∀v' H',bE K H' v' (Rat.divInt (aL (dy ns ms)) ((aL ns:Int)*aL ms))->aG H H'->Q v' H'):VH K vs H Q
def MS(K:aa):Sp:=λvs H Q _=>VH K vs H Q
theorem NF:bF ["one","other","greatest","way","new_way","p","q","difference"] ["one","other"] (aZ F1):=bP aY
theorem a2U(F:FA K mg "greatest_turn" F1)(B:bV mg)(RZ:aI P w K mg base "ways_of" 4 (MQ K))(a7h:aI P w K mg base "minus" 3 (nA (·-·) K))(Jm:aI P w K mg base "is_less" 1 (vQ K)):aI P w K mg base "greatest_turn" 5 (MS K):=by
 refine F.has NF (λvs H Q E h=>?_) (λ_ _ _ _ _ _=>dN λ_ _=>rfl) (λf aQ A outer s H vs Q E hr h=>?_)
 ·obtain⟨v1,v2,ns,ms,gZ,iD,rfl,_⟩:=h
  rfl
 ·obtain⟨v1,v2,ns,ms,gZ,iD,rfl,Hb,nL,gu,fj,hz,k⟩:=h
  have nd:=NF.nd;obtain⟨lp1,lm1⟩:=gu.lead;obtain⟨lp2,IH⟩:=fj.lead;have RW:ms.length<=1000:=by rw[fj.len];exact hz
  have a4i:fw ms.length 1000 ms:=⟨Z,fj.bd,fj.nz⟩;have cb:=Dn (λz hz=>by have:=gu.bd z hz;lia) (λz hz=>by have:=fj.bd z hz;lia) (ns:=ns) (ms:=ms);have L0:(0:Int)<(aL ns:Int)*aL ms:=iT aw aw;have Lb:((aL ns:Int)*aL ms).natAbs<=1000*1000:=lI aw aw;have aer:(dy ns ms).length=ns.length:=by simp[dy,fj.len]
  have Sq:∀c:Int,c.natAbs<=2000000->Bd 2000 (Rat.divInt c ((aL ns:Int)*aL ms)):=λc hc=>(kS (n:=30) aw aw aw).mono aB;refine⟨_,(aF (pS 2 nd (ek (au aE (au aE az)))) (aF (me iA Z (kj K Z false false Z (B.at "zip") (au (pf RZ hr (au (pv 0) az)) (au (pf RZ hr (au (pv 1) az)) az))) (eK K rfl (n:=2) rfl (cg (bJ 3 nd) (cg (bJ 4 nd) eG))) (aF (gq (pf a7h hr (au (pv 4) (au (pv 3) az))) (eK K Z (n:=2) Z (cg (bJ 5 nd) (cg (bJ 6 nd) eG)))) (aF (pS 7 nd (ek (au (dG (x:="abs") oz Z (B.at "abs") qC (au (pv 5) az)) (au (pv 6) az)))) (aH (bN (cP (pf Jm hr (au (pv 2) (au (pv 7) az)))) (aH (pS 2 nd (pv 7))) bQ))))) (aH (aX (pv 2))))),?_⟩;refine⟨bZ Z,λg0 H1 n1=>?_⟩;refine⟨_,Z,v1,ns,gZ,Z,RD.mono n1.same _ Hb,gu,hz,λw1 H2 r2 s2=>?_⟩;have t2:=n1.same.trans s2;refine⟨_,Z,v2,ms,iD,Z,RD.mono t2 _ nL,a4i,RW,λw2 H3 r3 s3=>?_⟩;have t3:=t2.trans s3;obtain⟨c1,xs1,rfl,h1,q1⟩:=(RD.mono s3 _ r2).fg;obtain⟨c2,xs2,rfl,h2,q2⟩:=r3.fg;have l1:=q1.length;have l2:=q2.length;rw[cB]at l1 l2;refine⟨c1,c2,Z,⟨_,h1⟩,⟨_,h2⟩,?_⟩;refine a9f (K:=K) (b1:=false) (b2:=false) (xs:=xs1) (ys:=xs2) ns.length (by rw[l1,l2,fj.len];lia) (λi O H4=>aG H3 H4/\∃g u1 u2 u3 u4 u5,bE K H4 g (Rat.divInt (rJ (dy ns ms) i) ((aL ns:Int)*aL ms))/\O=[some v1,some v2,some g,u1,u2,u3,u4,u5]) ?_ (λi O H4 _ h=>⟨h1.go h.1,h2.go h.1⟩) ?_ ?_
  ·refine⟨aG.refl _,.ref g0,none,none,none,none,none,⟨g0,Z,?_⟩,Z⟩
   have e0:Rat.divInt ((rJ (dy ns ms) 0:Nat):Int) ((aL ns:Int)*aL ms)=0:=by show Rat.divInt 0 _=0;exact Rat.zero_divInt _
   rw[e0];exact aU.of (s3 _ _ (s2 _ _ n1.at'))
  ·rintro i x y O H4 ex ey ⟨s4,g,u1,u2,u3,u4,u5,rg,rfl⟩ T H5 n5
   obtain⟨d1,e1,rx⟩:=q1.get' i ex;obtain⟨d2,e2,ry⟩:=q2.get' i ey;obtain⟨a,ea,rfl⟩:=mH e1;obtain⟨b,eb,rfl⟩:=mH e2;have qa:=gu.bd a (gX ea);have qb:=fj.bd b (gX eb);have cz:=M0 ea eb;have czb:=cb _ (gX cz);have t5:=s4.trans n5.same;refine⟨T,_,Z,aU.of n5.at',Z,_,_,Z,_,_,Z,Z,?_⟩;have nM:∀{H':Hp}{v:V}{r:Rat},RD K H' v (cY r)->bE K H' v r:=λ{H' v r} h=>by obtain⟨p,xs,rfl,h1,h2⟩:=h.fg;have:=h2.jg (ns:=[r.num,r.den]);subst this;exact⟨p,Z,h1⟩
   refine⟨_,Z,_,Z,y,x,_,_,Z,nM (RD.mono t5 _ ry),nM (RD.mono t5 _ rx),(kS (n:=30) aw aw aw).mono aB,(kS (n:=30) aw aw aw).mono aB,λv6 H6 r6 s6=>?_⟩;have ed:Rat.divInt b (aL ms)-Rat.divInt a (aL ns)=Rat.divInt (b*aL ns-a*aL ms) ((aL ns:Int)*aL ms):=ZF aw aw;have r6:bE K H6 v6 (Rat.divInt b (aL ms)-Rat.divInt a (aL ns)):=r6;rw[ed]at r6;obtain⟨p6,rfl,h6⟩:=r6;refine⟨p6,_,Z,h6,Z,_,_,Z,_,_,Z,Z,?_⟩;refine⟨_,Z,_,Z,_,Z,bZ Z,λdd H7 n7=>?_⟩;have nI:=s6.trans n7.same;have rD:bE K H7 (.ref dd) (Rat.divInt (((a*(aL ms:Int)-b*(aL ns:Int)).natAbs:Nat):Int) ((aL ns:Int)*aL ms)):=by
    have e:Rat.divInt (((a*(aL ms:Int)-b*(aL ns:Int)).natAbs:Nat):Int) ((aL ns:Int)*aL ms)=vg (Rat.divInt (b*aL ns-a*aL ms) ((aL ns:Int)*aL ms)):=by rw[acF L0,A5];congr 1;lia
    rw[e];refine⟨dd,Z,?_⟩;rw[acE,acG];exact aU.of n7.at'
   have rG:bE K H7 g _:=(rg.go n5.same).go nI;have hG:rJ (dy ns ms) i<=2000000:=nX λz hz=>cb z (E1 hz);refine⟨_,Z,_,Z,g,.ref dd,_,_,Z,rG,rD,Sq _ aw,Sq _ aw,_,Z,?_⟩;have hs:=a7C cz;refine dU (λhc=>?_) (λhc=>?_)
   ·have cF:=(Uk L0).mp (jZ hc)
    refine⟨_,Z,?_⟩;refine⟨t5.trans nI,_,_,_,_,_,_,?_,Z⟩;rw[hs,Nat.max_eq_right aw];exact rD
   ·have CI:¬_:=λz=>hc (cR ((Uk L0).mpr z))
    refine⟨t5.trans nI,_,_,_,_,_,_,?_,Z⟩;rw[hs,Nat.max_eq_left aw];exact rG
  ·rintro O H4 ⟨s4,g,u1,u2,u3,u4,u5,rg,rfl⟩
   refine⟨_,Z,k _ _ ?_ (t3.trans s4)⟩;have:rJ (dy ns ms) ns.length=aL (dy ns ms):=by unfold rJ;rw[DZ aw]
   rw[this]at rg;exact rg
theorem OL:bF ["machine","one","other","jump","p","q"] ["machine","one","other"] (aZ Gu):=bP aY
theorem a49(F:FA K mg "corner_square" Gu)(B:bV mg)(a7E:aI P w K mg base "greatest_turn" 5 (MS K))(rK:aI P w K mg base "fraction" 3 (vO K)):aI P w K mg base "corner_square" 6 (EN K):=by
 refine F.has OL (λvs H Q E h=>?_) (λ_ _ _ _ _ _=>oB λ_ _ _=>rfl) (λf aQ A outer s H vs Q E hr h=>?_)
 ·obtain⟨v,v1,v2,rs,r,f',j,t,ns,ms,gZ,iD,rfl,_⟩:=h
  rfl
 ·obtain⟨v,v1,v2,rs,r,f',j,t,ns,ms,gZ,iD,rfl,rd,Hb,nL,gu,fj,hz,j1,j2,k⟩:=h
  have nd:=OL.nd;obtain⟨lp1,lm1⟩:=gu.lead;obtain⟨lp2,IH⟩:=fj.lead;have L0:(0:Int)<(aL ns:Int)*aL ms:=iT aw aw;have Lb:((aL ns:Int)*aL ms).natAbs<=1000*1000:=lI aw aw;have cb:=Dn (λz hz=>by have:=gu.bd z hz;lia) (λz hz=>by have:=fj.bd z hz;lia) (ns:=ns) (ms:=ms);have hH:=nX cb;refine⟨_,(aF (pS 3 nd (px K (pv 0) aE)) (aF (gq (pf a7E hr (au (pv 1) (au (pv 2) az))) (eK K Z (n:=2) Z (cg (bJ 4 nd) (cg (bJ 5 nd) eG)))) (aF (bN (ck (cW K Z hr.units) (pv 4) aE (bB _)) (aH (aX je)) bQ) (aH (aX (pf rK hr (au (aO bO (aO bO (aO bO (pv 3) (pv 3)) (pv 5)) (pv 5)) (au (aO bO (pv 4) (pv 4)) az)))))))),?_⟩;obtain⟨am,bm,rfl,hZ,jR⟩:=lJ rd;refine⟨_,Z,.inr ⟨am,_,3,.int j,Z,Z,hZ,Z,?_⟩⟩;refine⟨_,Z,_,Z,v1,v2,ns,ms,gZ,iD,Z,Hb,nL,gu,fj,hz,λv3 H3 r3 s3=>?_⟩;obtain⟨KG⟩:Nonempty (Bd 30 (Rat.divInt (aL (dy ns ms)) ((aL ns:Int)*aL ms))):=⟨kS (n:=30) aw aw aw⟩;have en:=tm (Rat.divInt (aL (dy ns ms)) ((aL ns:Int)*aL ms));obtain⟨R,hR⟩:∃R,Rat.divInt (aL (dy ns ms)) ((aL ns:Int)*aL ms)=R:=⟨_,Z⟩;rw[hR]at r3 KG en;have dp:=den_pos R;have zV:R.num*((aL ns:Int)*aL ms)=aL (dy ns ms)*R.den:=by rw[<-hR]at en;have:=(Rat.divInt_eq_divInt_iff (by rw[hR];lia) aw).mp en;rw[hR]at this;exact this
  have nb:=KG.num;have db:=KG.den;obtain⟨p3,rfl,h3⟩:=r3;refine⟨p3,_,Z,h3,Z,_,_,Z,_,_,Z,Z,?_⟩;refine⟨_,Z,.inl ⟨_,_,Z,Z,_,Z,?_⟩⟩;refine dU (λhc=>?_) (λhc=>?_)
  ·have h0:R.num=0:=by simpa using hc
   have hl:aL (dy ns ms)=0:=by
    rw[h0,AA]at zV;rcases Int.mul_eq_zero.mp zV.symm with h|h
    ·lia
    ·lia
   refine k .bw H3 ?_ s3;unfold zW;rw[bp hl];exact a1o
  ·have h0:R.num≠0:=by simpa using hc
   have hl:aL (dy ns ms)≠0:=by
    intro z;rw[z]at zV;have:R.num*((aL ns:Int)*aL ms)=0:=by rw[zV];exact AA _
    rcases Int.mul_eq_zero.mp this with h|h
    ·exact h0 h
    ·lia
   have m1:(j*j).natAbs<=50*50:=lI aw aw;have lR:(2:Nat)^64=18446744073709551616:=by decide
   refine⟨_,Z,_,Z,_,_,Z,Z,.of_left (cw aw aw),_,Z,_,_,Z,Z,.of_left (cw aw aw),_,Z,_,_,Z,Z,.of_right (cw aw aw),?_⟩;refine⟨_,Z,_,Z,_,_,Z,Z,.of_left (cw aw aw),?_⟩;refine⟨_,_,Z,LR h0 h0,?_,λv4 H4 r4 s4=>?_⟩
   ·refine iB (n:=60) ?_ aB
    rw[g9];exact lH (n:=30) (m:=30) nb nb
   ·refine k _ _ ?_ (s3.trans s4)
    unfold zW;rw[bu hl];have e:=abu (j:=j) (p:=R.num) (q:=R.den) (h:=aL (dy ns ms)) (L:=(aL ns:Int)*aL ms) h0 aw zV;rw[e,<-tG]at r4;exact r4.rd
def Pp (d:ai):Bool:=gR 10 200 d
inductive W7(K:aa)(vs:List V)(H:Hp)(Q:VK):Prop |mk (v:_)(d:_)(h0:vs=[v])(h1:RD K H v d)(h2:Q (.bl (Pp d)) H):W7 K vs H Q
def EG(K:aa):Sp:=λvs H Q _=>W7 K vs H Q
theorem Oy:bF ["thing"] ["thing"] (aZ Ge):=bP aY
theorem a3X(F:FA K mg "is_rate" Ge)(B:bV mg)(a8h:GV mg "LEAST_RATE" (.int 10))(a8j:GV mg "GREATEST_RATE" (.int 200))(pP:aI P w K mg base "is_whole_within" 2 (tT K)):aI P w K mg base "is_rate" 3 (EG K):=by
 refine F.has Oy (λvs H Q E h=>?_) (λ_ _ _ _ _ _=>eR λ_=>rfl) (λf aQ A outer s H vs Q E hr h=>?_)
 ·obtain⟨v,d,rfl,_⟩:=h
  rfl
 ·obtain⟨v,d,rfl,rd,k⟩:=h
  have nd:=Oy.nd;refine⟨_,(aH (aX (pf pP hr (au (pv 0) (au (fi (x:="LEAST_RATE") Z a8h) (au (fi (x:="GREATEST_RATE") Z a8j) az)))))),?_⟩;exact⟨_,Z,v,d,10,200,Z,rd,k⟩
inductive VJ(K:aa)(vs:List V)(H:Hp)(Q:VK):Prop |mk (v:_)(ns:_)(sp:_)(r:_)(h0:vs=[v,.int r])(h1:RD K H v (iW ns sp))(h2:1<=sp)(h3:sp<=20)(h4:10<=r)(h5:r<=200)(h6:∀v' H',bE K H' v' (Rat.divInt ((sp*r)^2) 10000)->aG H H'->Q v' H'):VJ K vs H Q
def Bb(K:aa):Sp:=λvs H Q _=>VJ K vs H Q
theorem MO(a b:Int):a*a*b*b=(a*b)^2:=by rw[fZ,fZ,m4,lj];ac_rfl
theorem a1r{r:Int}(h1:10<=r)(h2:r<=200):Pp (.int r)=true:=by show(decide (10<=r)&&decide (r<=200))=true;rw[cR h1,cR h2];rfl
theorem NH:bF ["line","rate","speed"] ["line","rate"] (aZ F7):=bP aY
theorem a2W(F:FA K mg "top_square" F7)(B:bV mg)(a7t:aI P w K mg base "is_rate" 3 (EG K))(rK:aI P w K mg base "fraction" 3 (vO K)):aI P w K mg base "top_square" 4 (Bb K):=by
 refine F.has NH (λvs H Q E h=>?_) (λ_ _ _ _ _ _=>dN λ_ _=>rfl) (λf aQ A outer s H vs Q E hr h=>?_)
 ·obtain⟨v,ns,sp,r,rfl,_⟩:=h
  rfl
 ·obtain⟨v,ns,sp,r,rfl,rd,s1,s2,r1,r2,k⟩:=h
  have nd:=NH.nd;refine⟨_,(aF (bN (eO (cP (pf a7t hr (au (pv 1) az)))) (aH ph) bQ) (aF (pS 2 nd (px K (pv 0) aE)) (aH (aX (pf rK hr (au (aO bO (aO bO (aO bO (pv 2) (pv 2)) (pv 1)) (pv 1)) (au (aO bO aE aE) az))))))),?_⟩;refine⟨_,Z,_,.int r,Z,dw r,_,Z,?_⟩;rw[a1r r1 r2];refine bK ?_;obtain⟨a,b,rfl,ha,hb⟩:=mj rd;refine⟨_,Z,.inr ⟨a,_,2,.int sp,Z,Z,ha,Z,?_⟩⟩;have m1:(sp*sp).natAbs<=20*20:=by rw[g9];exact mZ aw aw
  refine⟨_,Z,_,Z,_,_,Z,Z,.of_left (cw aw aw),_,Z,_,_,Z,Z,.of_left (cw aw aw),_,Z,_,_,Z,Z,.of_right (cw aw aw),?_⟩;refine⟨_,_,Z,Z,.of_left (cw aB aB),?_⟩;refine⟨_,_,Z,aB,iB (n:=20) aB aB,λv' H' r' s'=>k v' H' ?_ s'⟩;rw[MO]at r';exact r'
inductive VI(K:aa)(vs:List V)(H:Hp)(Q:VK):Prop |mk (v:_)(ns:_)(sp:_)(r:_)(h0:vs=[v,.int r])(h1:RD K H v (iW ns sp))(h2:1<=sp)(h3:sp<=20)(h4:10<=r)(h5:r<=200)(h6:∀v' H',bE K H' v' (Rat.divInt ((sp*r)^2) 10000)->aG H H'->Q v' H'):VI K vs H Q
def Ez(K:aa):Sp:=λvs H Q _=>VI K vs H Q
theorem NG:bF ["_law_line_here","_law_rate"] ["_law_line_here","_law_rate"] (aZ F3):=bP aY
open Pn
open Ow (topR cornO mnO betR atO ownF leadF ownL OkI OkIs)
theorem ZW(n:Nat)(h:n<=1000):n<sizeLine:=qD h aB
theorem nM{H:Hp}{v:V}{r:Rat}(h:RD K H v (cY r)):bE K H v r:=by obtain⟨p,xs,rfl,h1,h2⟩:=h.fg;have:=h2.jg (ns:=[r.num,r.den]);subst this;exact⟨p,Z,h1⟩
theorem fw.up{ax:Nat}{ns:List Int}(h:fw ax 100 ns):fw ns.length 1000 ns:=⟨Z,λz hz=>by have:=h.bd z hz;lia,h.nz⟩
theorem ib.wB{ax:Nat}{ds:List ai}{os:List Itm}(h:ib ax ds os):OkIs os:=λi ns sp e=>by unfold atO at e;cases ho:os[i]? with |none=>rw[ho]at e;cases e |some o=>rw[ho]at e;have e':o=some (ns,sp):=e;subst e';obtain⟨a,b,c⟩:=h.ok i ns sp ho;exact⟨a.bd,b,c⟩
theorem qX{H:Hp}{a:Addr}(h:aU K H a [.int 0,.int 1]):bE K H (.ref a) 0:=⟨a,Z,h⟩
theorem abw(j:Int)(ns ms:List Int):zW j ns ms=match cornO j ns ms with|none=>.none|some c=>cY c:=by unfold zW cornO;split<;>rfl
inductive WO(K:aa)(vs:List V)(H:Hp)(Q:VK):Prop |mk (m:_)(v1:_)(v2:_)(aD:_)(rs:_)(r:_)(f:_)(j:_)(t:_)(d1:_)(d2:_)(o1:_)(o2:_)(ax:_)(h0:vs=[m,v1,v2,.int aD])(h1:RD K H m (jf rs r f j t))(h2:1<=j)(h3:j<=50)(h4:RD K H v1 d1)(h5:RD K H v2 d2)(h6:itR d1 o1)(h7:itR d2 o2)(h8:(∀ns sp,o1=some (ns,sp)->fw ax 100 ns/\1<=sp/\sp<=20))(h9:(∀ns sp,o2=some (ns,sp)->fw ax 100 ns/\1<=sp/\sp<=20))(zJ:ax<=100)(SS:10<=aD)(zI:aD<=200)(SR:∀v H',bE K H' v (betR j aD o1 o2)->aG H H'->Q v H'):WO K vs H Q
def Bk(K:aa):Sp:=λvs H Q _=>WO K vs H Q
theorem OO:bF ["machine","one","other","rate","squares","corner"] ["machine","one","other","rate"] (aZ Gx):=bP aY
theorem a4c(F:FA K mg "bound_between" Gx)(B:bV mg)(gN:GT K mg "NOUGHT" [.int 0,.int 1])(rH:aI P w K mg base "is_line" 1 (vS K))(Ck:aI P w K mg base "top_square" 4 (Bb K))(a7O:aI P w K mg base "corner_square" 6 (EN K))(xg:aI P w K mg base "least" 2 (jJ K)):aI P w K mg base "bound_between" 7 (Bk K):=by
 obtain⟨aN,lQ,ny⟩:=gN;refine F.has OO (λvs H Q E h=>?_) (λ_ _ _ _ _ _=>DA λ_ _ _ _=>rfl) (λf aQ A outer s H vs Q E hr h=>?_)
 ·obtain⟨m,v1,v2,aD,rs,r,f,j,t,d1,d2,o1,o2,ax,rfl,_⟩:=h
  rfl
 ·obtain⟨m,v1,v2,aD,rs,r,f,j,t,d1,d2,o1,o2,ax,rfl,rm,j1,j2,r1,r2,i1,i2,k1,k2,Su,dh,dF,k⟩:=h
  have nd:=OO.nd;refine⟨_,(aF (bN (PW.pt (kQ (eO (cP (pf rH hr (au (pv 1) az)))) (lF (eO (cP (pf rH hr (au (pv 2) az))))))) (aH (aX (fi (x:="NOUGHT") Z lQ))) bQ) (aF (pS 4 nd (dj (au (pf Ck hr (au (pv 1) (au (pv 3) az))) (au (pf Ck hr (au (pv 2) (au (pv 3) az))) az)))) (aF (pS 5 nd (pf a7O hr (au (pv 0) (au (pv 1) (au (pv 2) az))))) (aF (hJ (bN (ck yQ (pv 5) je (bB _)) (aH (hO (jq K Z (pv 4) (au (pv 5) az)))) bQ)) (aH (aX (pf xg hr (au (pv 4) az)))))))),?_⟩;refine⟨_,Z,v1,d1,o1,Z,r1,i1,_,Z,?_⟩;cases o1 with |none=>refine cf (cf ?_);have:=k _ H (qX (ny H)) (aG.refl _);exact this |some q1=>obtain⟨ns,sp⟩:=q1;refine bK ?_;refine⟨_,Z,v2,d2,o2,Z,r2,i2,_,Z,?_⟩;cases o2 with |none=>refine cf ?_;exact k _ H (qX (ny H)) (aG.refl _) |some q2=>obtain⟨ms,sq⟩:=q2;refine bK ?_;have e1:=kW i1;have e2:=kW i2;subst e1 e2;obtain⟨gu,a1,a2⟩:=k1 ns sp rfl;obtain⟨fj,b1,b2⟩:=k2 ms sq rfl;refine⟨_,Z,_,Z,v1,ns,sp,aD,Z,r1,a1,a2,dh,dF,λt1 H1 GP s1=>?_⟩;refine⟨_,Z,_,Z,v2,ms,sq,aD,Z,RD.mono s1 _ r2,b1,b2,dh,dF,λt2 H2 GO s2=>?_⟩;refine⟨bZ Z,λl H3 n3=>?_⟩;have t3:=s1.trans (s2.trans n3.same);have BJ:fw ns.length 1000 ms:=⟨by rw[gu.len,fj.len],fj.up.bd,fj.nz⟩;refine⟨_,Z,_,Z,_,Z,m,v1,v2,rs,r,f,j,t,ns,ms,sp,sq,Z,RD.mono t3 _ rm,RD.mono t3 _ r1,RD.mono t3 _ r2,gu.up,BJ,by rw[gu.len];lia,j1,j2,λc H4 rc s4=>?_⟩;have T1:Bd 2000 (topR aD sp):=(Ow.vI a1 a2 dh dF).mono aB;have T2:Bd 2000 (topR aD sq):=(Ow.vI b1 b2 dh dF).mono aB;have R1:bE K H4 t1 (topR aD sp):=((GP.go s2).go n3.same).go s4;have R2:bE K H4 t2 (topR aD sq):=(GO.go n3.same).go s4;have t4:=t3.trans s4;rw[abw]at rc;cases hc:cornO j ns ms with
   |none=>
    rw[hc]at rc;cases rc.Qp;refine⟨λO H5=>H5=H4/\O=[some m,some v1,some v2,some (.int aD),some (.ref l),some .bw],?_,?_⟩
    ·refine⟨_,Z,Z,_,Z,bK ?_⟩
     exact⟨Z,Z⟩
    rintro O H5 ⟨rfl,rfl⟩;refine⟨_,Z,l,[t1,t2],[topR aD sp,topR aD sq],Z,aJ.of (s4 _ _ n3.at'),⟨R1,T1,R2,T2,trivial⟩,by simp,λi v q e1 e2 hq=>?_⟩;have uE:betR j aD (some (ns,sp)) (some (ms,sq))=q:=by
     show mnO (mn _ _) (cornO j ns ms)=q;rw[hc];refine nS ?_ (hq _ (by simp)) (hq _ (by simp))
     match i,e2 with |0,e2=>cases e2;exact .inl rfl |1,e2=>cases e2;exact .inr rfl
    refine k v _ ?_ t4;rw[uE]
    match i,e1,e2 with |0,e1,e2=>cases e1;cases e2;exact R1 |1,e1,e2=>cases e1;cases e2;exact R2
   |some cq=>
    rw[hc]at rc;have Rc:bE K H4 c cq:=nM rc;have Tc:Bd 2000 cq:=(Ow.Kt j1 j2 gu.bd fj.bd hc).mono aB;have kC:=s4 _ _ n3.at';have tU:iZ H4 (L2.upd H4 l (.lst ([t1,t2]++[c]))):=.qI kC;refine⟨λO H5=>H5=L2.upd H4 l (.lst ([t1,t2]++[c]))/\O=[some m,some v1,some v2,some (.int aD),some (.ref l),some c],?_,?_⟩
    ·obtain⟨pc,rfl,_⟩:=id Rc
     refine⟨_,Z,Z,_,Z,cf ?_⟩;refine⟨_,Z,.inl ⟨Z,_,aJ.of kC⟩,_,Z,l,[t1,t2],_,Z,Z,kC,ZW _ (Nat.le_of_ble_eq_true Z),?_⟩;exact⟨Z,Z⟩
    rintro O H5 ⟨rfl,rfl⟩;have up:∀{v:V}{q:Rat},bE K H4 v q->bE K (L2.upd H4 l (.lst ([t1,t2]++[c]))) v q:=λ{v q} h=>nM (RD.t tU _ (qQ q) h.rd);refine⟨_,Z,l,[t1,t2,c],[topR aD sp,topR aD sq,cq],Z,aJ.of bf,⟨up R1,T1,up R2,T2,up Rc,Tc,trivial⟩,by simp,λi v q e1 e2 hq=>?_⟩;have uE:betR j aD (some (ns,sp)) (some (ms,sq))=q:=by
     show mnO (mn _ _) (cornO j ns ms)=q;rw[hc];show mn (mn _ _) cq=q;have h1:=hq _ (show topR aD sp∈[topR aD sp,topR aD sq,cq] by simp);have h2:=hq _ (show topR aD sq∈[topR aD sp,topR aD sq,cq] by simp);have h3:=hq _ (show cq∈[topR aD sp,topR aD sq,cq] by simp);refine nS ?_ (lK h1 h2) h3
     match i,e2 with |0,e2=>cases e2;exact .inl (nS (.inl rfl) h1 h2).symm |1,e2=>cases e2;exact .inl (nS (.inr rfl) h1 h2).symm |2,e2=>cases e2;exact .inr rfl
    have sU:aG H (L2.upd H4 l (.lst ([t1,t2]++[c]))):=λb o e=>by have h0:H2 l=none:=n3.no;have e2:=s2 b o (s1 b o e);rw[aK (gy e2 h0)];exact t4 b o e
    refine k v _ ?_ sU;rw[uE]
    match i,e1,e2 with |0,e1,e2=>cases e1;cases e2;exact up R1 |1,e1,e2=>cases e1;cases e2;exact up R2 |2,e1,e2=>cases e1;cases e2;exact up Rc
theorem wG(qs:List Rat):cZ (qs.map cY)=true:=Qs qQ qs
theorem aP.EU{H:Hp}{l:Addr}{ys:List V}{y:V}{ds:List ai}{d:ai}{i:Nat}(dl:H l=some (.lst ys))(r:aP K H ys ds)(rd:RD K H y d)(n1:cZ ds=true)(n2:fJ d=true):aP K (L2.upd H l (.lst (ys.set i y))) (ys.set i y) (ds.set i d):=by have t:iZ H (L2.upd H l (.lst (ys.set i y))):=.qI dl;have r':=aP.t t _ n1 r;have Pm:=RD.t t _ n2 rd;clear r rd dl t;generalize L2.upd H l (.lst (ys.set i y))=H' at r' Pm;induction ds generalizing ys i with |nil=>cases r'.nil_inv;exact cX |cons d0 ds ih=>
 obtain⟨y0,yr,rfl,h1,h2⟩:=r'.cons_inv;have n1':cZ ds=true:=by rw[cZ,fE]at n1;exact n1.2
 cases i with |zero=>exact cm Pm h2 |succ i=>exact cm h1 (ih n1' h2)
theorem Ks(xs:List V):mU xs (some 1) none=xs.drop 1:=by unfold mU;have e:HT.cC xs.length 0 (some 1)=min 1 xs.length:=HT.OU _ _ 1;rw[e,HT.a0s];cases xs with |nil=>rfl |cons x xs=>
 have e2:min 1 (x::xs).length=1:=by simp
 rw[e2,DZ (by simp)]
inductive Wq(K:aa)(vs:List V)(H:Hp)(Q:VK):Prop |mk (m:_)(iv:_)(aD:_)(rs:_)(r:_)(f:_)(j:_)(t:_)(ds:_)(os:_)(h0:vs=[m,iv,.int aD])(h1:RD K H m (jf rs r f j t))(h2:oF rs r f j t)(h3:RD K H iv (.tuple ds))(h4:ib rs.length ds os)(h5:ds.length<=100)(h6:10<=aD)(h7:aD<=200)(h8:∀l ys H',H l=none->H' l=some (.lst ys)->aP K H' ys ((ownL j aD os).map cY)->aG H H'->Q (.ref l) H'):Wq K vs H Q
def Nf(K:aa):Sp:=λvs H Q _=>Wq K vs H Q
theorem Bn:bF ["machine","items","rate","between"] ["machine","items","rate"] (aZ Bp):=bP aY
theorem a3G(F:FA K mg "own_bounds" Bp)(B:bV mg)(gN:GT K mg "NOUGHT" [.int 0,.int 1])(Ju:aI P w K mg base "bound_between" 7 (Bk K)):aI P w K mg base "own_bounds" 8 (Nf K):=by
 obtain⟨aN,lQ,ny⟩:=gN;refine F.has Bn (λvs H Q E h=>?_) (λ_ _ _ _ _ _=>oB λ_ _ _=>rfl) (λf aQ A outer s H vs Q E hr h=>?_)
 ·obtain⟨m,iv,aD,rs,r,f,j,t,ds,os,rfl,_⟩:=h
  rfl
 ·obtain⟨m,iv,aD,rs,r,f,j,t,ds,os,rfl,rm,aM,ri,row,hz,dh,dF,k⟩:=h
  have nd:=Bn.nd;have rN:∀H',RD K H' (.ref aN) (cY 0):=λH'=>(qX (ny H')).rd;refine⟨_,(aF (bN (eO (Hn K Z (pv 1))) (aH (aX (dj (au (fi (x:="NOUGHT") Z lQ) az)))) bQ) (aF (Hq (i0:=3) nd Z (Or.inl Z) (N:=["one","other","machine","rate"]) (js:=[none,none,some 0,some 2]) Z Z Z (kj K Z false false Z (B.at "zip") (au (pv 1) (au (Hw (EO K rfl) (pv 1) (Hr aE) Hs) az))) (λ_ _ _ _ _=>(eK K rfl (n:=2) rfl (cg (bJ 0 (show List.Nodup (["one","other","machine","rate"]:List Str) by decide+kernel)) (cg (bJ 1 (show List.Nodup (["one","other","machine","rate"]:List Str) by decide+kernel)) eG)))) (λ_ _ _ _ _=>fT) (λ_ _ _ _ _=>(pf Ju hr (au (pv 2) (au (pv 0) (au (pv 1) (au (pv 3) az))))))) (aH (aX (aO (xI K Z) (aO (xI K Z) (dj (au (fi (x:="NOUGHT") Z lQ) az)) (pv 3)) (dj (au (fi (x:="NOUGHT") Z lQ) az))))))),?_⟩;obtain⟨ia,xs,rfl,hi,iM⟩:=ri.fg;have lx:=iM.length;have ll:=row.len;refine⟨_,Z,_,.inr (.inl ⟨_,hi,Z⟩),?_⟩;cases hd:xs with
  |nil=>
   subst hd;refine cf ?_;refine⟨bZ Z,λl H1 n1=>?_⟩;refine k l [.ref aN] H1 n1.no n1.at' ?_ n1.same;have e:os=[]:=by
    have:os.length=0:=by rw[<-ll,<-lx];rfl
    exact E3.mp this
   rw[e];exact cm (rN H1) cX |cons x0 xr=>
   refine bK ?_;have dX:os≠[]:=by intro e;rw[e]at ll;rw[hd]at lx;simp at ll lx;rw[ll]at lx;cases lx
   have J0:0<xs.length:=by rw[hd];simp
   refine⟨_,Z,_,Z,1,Z,ia,xs,Z,.inr ⟨hi,?_,λtl H1 n1=>?_⟩⟩
   ·rintro⟨h1,_⟩
    have e:HT.cC xs.length 0 (some 1)=min 1 xs.length:=HT.OU _ _ 1;rw[e]at h1
    lia
   refine⟨ia,tl,Z,⟨_,hi.go n1.same⟩,⟨_,aU.of n1.at'⟩,λD H2 n2=>?_⟩;have et:=n1.at';rw[Ks]at et;have yS:∀(i:Nat)(o:Itm),os[i]? =some o->∀(ns:List Int)(sp:Int),o=some (ns,sp)->fw rs.length 100 ns/\1<=sp/\sp<=20:=λi o e ns sp e'=>row.ok i ns sp (by rw[e,e']);have lr:=aM.len;refine vd (K:=K) (b1:=false) (b2:=false) (xs:=xs) (ys:=xs.drop 1) (ds:=((List.range (os.length-1)).map (λi=>ownF j aD os (i+1))).map cY) _ Z (hi.go n1.same) (aU.of et) n2 (by rw[LO];simp;lia) (by simp;lia) (wG _) ?_ ?_
   ·intro i x y d H3 Q' ex ey ed s3 hq
    have dc:=n1.same.trans s3;rw[List.getElem?_drop]at ey;obtain⟨d1,e1,r1⟩:=iM.get' i ex;obtain⟨d2,e2,r2⟩:=iM.get' (1+i) ey;obtain⟨o1,om,i1⟩:=row.get e1;obtain⟨o2,mx,i2⟩:=row.get e2;have Sg:1+i<os.length:=(dQ.mp mx).1;have lW:d=cY (betR j aD o1 o2):=by rw[cH,cH,cu (by simp;lia),vB]at ed;have:=(eg ed).symm;rw[this];show cY (betR j aD (atO os i) (atO os (i+1)))=_;rw[Ow.qj om,Ow.qj (show os[i+1]? =some o2 by rw[Nat.add_comm];exact mx)]
    subst lW;refine⟨_,Z,_,Z,_,Z,_,Z,m,x,y,aD,rs,r,f,j,t,d1,d2,o1,o2,rs.length,Z,RD.mono dc _ rm,aM.j1.1,aM.j1.2,RD.mono dc _ r1,RD.mono dc _ r2,i1,i2,yS _ _ om,yS _ _ mx,aw,dh,dF,λv H4 rv s4=>?_⟩;exact hq _ _ s4 rv.rd
   ·intro H3 zs s3 d3 r3
    have lz:=r3.length;simp at lz;refine⟨bZ Z,λl1 H4 n4=>?_⟩;refine⟨_,Z,l1,D,_,zs,Z,Z,aJ.of n4.at',aJ.of (n4.same _ _ d3),yy _ (by simp;lia),λl2 H5 n5=>?_⟩;refine⟨bZ Z,λl3 H6 n6=>?_⟩;refine⟨l2,l3,_,_,Z,Z,aJ.of (n6.same _ _ n5.at'),aJ.of n6.at',yy _ (by simp;lia),λl H7 n7=>?_⟩;have yD:aG H H6:=n1.same.trans (s3.trans (n4.same.trans (n5.same.trans n6.same)));have nl:H l=none:=by cases e:H l with |none=>rfl |some o=>have:=yD _ _ e;rw[n7.no]at this;cases this
    refine k l _ H7 nl n7.at' ?_ (yD.trans n7.same);rw[Ow.Q7 j aD dX,oQ,oQ];exact((cm (rN H7) cX).append (aP.mono (n4.same.trans (n5.same.trans (n6.same.trans n7.same))) _ r3)).append (cm (rN H7) cX)
inductive Wn(K:aa)(vs:List V)(H:Hp)(Q:VK):Prop |mk (v:_)(r:_)(z:_)(h0:vs=[v,.int z])(h1:bE K H v r)(h2:Bd 2000 r)(h3:z.natAbs<2^24)(h4:∀v H',bE K H' v (r+(z:Rat))->aG H H'->Q v H'):Wn K vs H Q
def Bg(K:aa):Sp:=λvs H Q _=>Wn K vs H Q
theorem xr_addz {r : Rat} {z : Int} (m : r + (z : Rat) = Rat.divInt (r.num * (1:Nat) + z * r.den) (r.den * (1:Nat))) : r.num + z * r.den = (r + (z : Rat)).num ∧ (r.den : Int) = (r + (z : Rat)).den := by
  have c : (r.num + z * r.den).natAbs.Coprime r.den := (Int.gcd_add_mul_right_left (r.den : Int) r.num z).trans r.reduced
  have e : r + (z : Rat) = ⟨r.num + z * r.den, r.den, r.den_nz, c⟩ := by
    rw [m, Rat.mk_eq_divInt, Int.natCast_one, Int.mul_one, Int.mul_one]
  rw [e]
  exact ⟨rfl, rfl⟩
theorem Oc:bF ["one","more","p","q"] ["one","more"] (aZ FX):=bP aY
theorem a3C(F:FA K mg "plus_whole" FX)(B:bV mg):aI P w K mg base "plus_whole" 4 (Bg K):=by
 refine F.has Oc (λvs H Q E h=>?_) (λ_ _ _ _ _ _=>dN λ_ _=>rfl) (λf aQ A outer s H vs Q E hr h=>?_)
 ·obtain⟨v,r,z,rfl,_⟩:=h
  rfl
 ·obtain⟨v,r,z,rfl,rv,br,hz,k⟩:=h
  have nd:=Oc.nd
  obtain ⟨p,rfl,hp⟩:=rv
  refine ⟨_,(aF (gq (pv 0) (eK K Z (n:=2) Z (cg (bJ 2 nd) (cg (bJ 3 nd) eG)))) (aH (aX (ek (au (aO da (pv 2) (aO bO (pv 1) (pv 3))) (au (pv 3) az)))))),?_⟩
  refine ⟨_,rfl,_,_,rfl,hp,rfl,_,_,rfl,_,_,rfl,rfl,?_⟩
  have bz:Bd 24 (z:Rat):=⟨hz,by show 1<2^24;decide⟩
  obtain ⟨e1,e2⟩:=xr_addz (add_div r z)
  refine ⟨_,rfl,_,rfl,_,rfl,_,_,rfl,rfl,iS (bz.mono aB).wn.bits br.wd.bits,_,_,rfl,rfl,_,rfl,bZ Z,fun t H' n=>k _ _ ⟨t,rfl,aU.of ?_⟩ n.same⟩
  rw [← e1,← e2]; exact n.at'
theorem Cb{os:List Itm}{i:Nat}{ns:List Int}{sp:Int}(h:os[i]? =some (some (ns,sp))):leadF os i=some (aL ns):=by unfold leadF;rw[Ow.qj h];rfl
theorem Rm{os:List Itm}{i:Nat}(h:os[i]? =some none):leadF os i=none:=by unfold leadF;rw[Ow.qj h];rfl
theorem Ro{os:List Itm}(h:OkIs os){i m:Nat}(e:leadF os i=some m):m<=100:=by unfold leadF at e;cases ho:atO os i with |none=>rw[ho]at e;cases e |some q=>rw[ho]at e;cases e;obtain⟨a,_,_⟩:=h i q.1 q.2 ho;exact nX λz hz=>by have:=a z hz;lia
theorem Mh{r:Int}{m:Nat}(h1:1<=r)(h2:r<=50)(h3:m<=100):(2*r*(m:Int)).natAbs<2^24:=by
 have kY:(2:Nat)^24=16777216:=by decide
 have:=lI (a:=2*r) (b:=(m:Int)) (m:=100) (n:=100) aw aw;rw[kY];lia
theorem OH:bF ["machine","items","squares","fall","kept","i"] ["machine","items","squares"] (aZ Gp):=bP aY
theorem NM:bF ["_law_one","_law_other_here"] ["_law_one","_law_other_here"] (aZ Fd):=bP aY
theorem a31(F:FA K mg "_law_sum" Fd)(B:bV mg)(rQ:aI P w K mg base "_law_frac" 1 (yt K)):aI P w K mg base "_law_sum" 2 (nA (·+·) K):=by
 refine F.has NM (λvs H Q E h=>?_) (λ_ _ _ _ _ _=>dN λ_ _=>rfl) (λf aQ A outer s H vs Q E hr h=>?_)
 ·obtain⟨v1,v2,r,s,rfl,_⟩:=h
  rfl
 ·obtain⟨v1,v2,r,s,rfl,⟨p,rfl,hp⟩,⟨q,rfl,hq⟩,br,bs,k⟩:=h
  have nd:=NM.nd;refine⟨_,(aH (aX (pf rQ hr (au (aO da (aO bO (px K (pv 0) aE) (px K (pv 1) aE)) (aO bO (px K (pv 1) aE) (px K (pv 0) aE))) (au (aO bO (px K (pv 0) aE) (px K (pv 1) aE)) az))))),?_⟩;refine⟨_,Z,.inr ⟨p,_,0,.int r.num,Z,Z,hp,Z,_,Z,.inr ⟨q,_,1,.int s.den,Z,Z,hq,Z,_,_,Z,Z,iS br.wn.bits bs.wd.bits,?_⟩⟩⟩;refine⟨_,Z,.inr ⟨q,_,0,.int s.num,Z,Z,hq,Z,_,Z,.inr ⟨p,_,1,.int r.den,Z,Z,hp,Z,_,_,Z,Z,iS bs.wn.bits br.wd.bits,?_⟩⟩⟩;refine⟨_,_,Z,Z,?_⟩;refine⟨_,Z,.inr ⟨p,_,1,.int r.den,Z,Z,hp,Z,_,Z,.inr ⟨q,_,1,.int s.den,Z,Z,hq,Z,_,_,Z,Z,iS br.wd.bits bs.wd.bits,?_⟩⟩⟩;refine⟨_,_,Z,iT (den_pos r) (den_pos s),AK br bs,λv H' r' s'=>k v H' ?_ s'⟩;show bE K H' v (r+s);rw[add_div];exact r'
theorem Ol:bF ["_law_one","_law_other_here"] ["_law_one","_law_other_here"] (aZ G6):=bP aY
theorem a3Q(F:FA K mg "_law_less" G6)(B:bV mg):aI P w K mg base "_law_less" 1 (vQ K):=by
 refine F.has Ol (λvs H Q E h=>?_) (λ_ _ _ _ _ _=>dN λ_ _=>rfl) (λf aQ A outer s H vs Q E hr h=>?_)
 ·obtain⟨v1,v2,r,s,rfl,_⟩:=h
  rfl
 ·obtain⟨v1,v2,r,s,rfl,⟨p,rfl,hp⟩,⟨q,rfl,hq⟩,br,bs,k⟩:=h
  have nd:=Ol.nd;refine⟨_,(aH (aX (fH kl (aO bO (px K (pv 0) aE) (px K (pv 1) aE)) (aO bO (px K (pv 1) aE) (px K (pv 0) aE)) (bB _)))),?_⟩;refine⟨_,Z,.inr ⟨p,_,0,.int r.num,Z,Z,hp,Z,_,Z,.inr ⟨q,_,1,.int s.den,Z,Z,hq,Z,_,_,Z,Z,iS br.wn.bits bs.wd.bits,?_⟩⟩⟩;refine⟨_,Z,.inr ⟨q,_,0,.int s.num,Z,Z,hq,Z,_,Z,.inr ⟨p,_,1,.int r.den,Z,Z,hp,Z,_,_,Z,Z,iS bs.wn.bits br.wd.bits,?_⟩⟩⟩;refine⟨_,_,Z,Z,?_⟩;have e:decide (r.num*(s.den:Int)<s.num*(r.den:Int))=decide (r<s):=by rw[oU,tj,tj,DU]
  show Q (.bl (decide (r.num*(s.den:Int)<s.num*(r.den:Int)))) H;rw[e];exact k
theorem Oh:bF ["_law_some","_law_best","_law_one"] ["_law_some"] (aZ G3):=bP aY
theorem a3L(F:FA K mg "_law_min" G3)(B:bV mg)(a8L:aI P w K mg base "_law_less" 1 (vQ K)):aI P w K mg base "_law_min" 2 (jJ K):=by
 refine F.has Oh (λvs H Q E h=>?_) (λ_ _ _ _ _ _=>eR λ_=>rfl) (λf aQ A outer s H vs Q E hr h=>?_)
 ·obtain⟨l,xs,rs,rfl,_⟩:=h
  rfl
 ·obtain⟨l,xs,rs,rfl,hl,ku,dX,k⟩:=h
  have nd:=Oh.nd;refine⟨_,(aF (pS 1 nd (px K (pv 0) aE)) (aF (me iA Z (yL K Z (pv 0)) (bJ 2 nd) (aH (bN (cP (pf a8L hr (au (pv 2) (au (pv 1) az)))) (aH (pS 1 nd (pv 2))) bQ))) (aH (aX (pv 1))))),?_⟩;have hlen:=ku.length;have h0:0<xs.length:=LM.mpr dX;have e0:=cu h0;refine⟨_,Z,.inl ⟨l,xs,0,xs[0],Z,Z,hl,dB aB e0,?_⟩⟩;refine⟨_,Z,l,Z,⟨_,hl⟩,JQ (K:=K) (a:=l) (xs:=xs) (λi O H2=>H2=H/\∃(j:Nat)(b:V)(r:Rat)(v:Option V),xs[j]? =some b/\rs[j]? =some r/\(∀(m:Nat)(s:Rat),m<i->rs[m]? =some s->r<=s)/\O=[some (.ref l),some b,v]) ?_ (λi O H2 _ h=>by rw[h.1];exact hl) ?_ ?_⟩
  ·obtain⟨r,e1,_⟩:=ku.get e0
   exact⟨Z,0,_,r,none,e0,e1,λm s hm=>absurd hm (Nat.not_lt_zero _),Z⟩
  ·rintro i x O H2 hx ⟨rfl,j,b,r,v,eb,er,hm,rfl⟩
   obtain⟨t,et,rt,bt⟩:=ku.get hx;obtain⟨r2,oh,rb,bb⟩:=ku.get eb;rw[er]at oh;cases oh;refine⟨_,Z,_,Z,x,b,t,r,Z,rt,rb,bt,bb,_,Z,?_⟩;refine dU (λhc=>?_) (λhc=>?_)
   ·have cF:t<r:=jZ hc
    refine⟨_,Z,?_⟩;refine⟨Z,i,x,t,_,hx,et,λm s uL es=>?_,Z⟩;rcases LH.mp uL with h|h
    ·exact eV (Lr cF) (hm m s h es)
    ·subst h
     rw[et]at es;cases es;exact qA
   ·have Jf:¬t<r:=λz=>hc (cR z)
    refine⟨Z,j,b,r,_,eb,er,λm s uL es=>?_,Z⟩;rcases LH.mp uL with h|h
    ·exact hm m s h es
    ·subst h
     rw[et]at es;cases es;exact As.mp Jf
  ·rintro O H2 ⟨rfl,j,b,r,v,eb,er,hm,rfl⟩
   refine⟨_,Z,k j b r eb er λs hs=>?_⟩;obtain⟨m,Ji,em⟩:=XY.mp hs;exact hm m s aw (by rw[cu Ji,em])
theorem a2V(F:FA K mg "_law_top" F3)(B:bV mg)(rQ:aI P w K mg base "_law_frac" 1 (yt K)):aI P w K mg base "_law_top" 2 (Ez K):=by
 refine F.has NG (λvs H Q E h=>?_) (λ_ _ _ _ _ _=>dN λ_ _=>rfl) (λf aQ A outer s H vs Q E hr h=>?_)
 ·obtain⟨v,ns,sp,r,rfl,_⟩:=h
  rfl
 ·obtain⟨v,ns,sp,r,rfl,rd,s1,s2,r1,r2,k⟩:=h
  have nd:=NG.nd;refine⟨_,(aH (aX (pf rQ hr (au (aO bO (aO bO (aO bO (px K (pv 0) aE) (px K (pv 0) aE)) (pv 1)) (pv 1)) (au aE az))))),?_⟩;obtain⟨a,b,rfl,ha,hb⟩:=mj rd;have m1:(sp*sp).natAbs<=20*20:=by rw[g9];exact mZ dM dM
  have m2:(sp*sp*r).natAbs<=400*200:=by rw[g9];exact mZ dM dM
  refine⟨_,Z,.inr ⟨a,_,2,.int sp,Z,Z,ha,Z,_,Z,.inr ⟨a,_,2,.int sp,Z,Z,ha,Z,_,_,Z,Z,.of_left (cw dM dM),?_⟩⟩⟩;refine⟨_,Z,_,_,Z,Z,.of_left (cw dM dM),_,Z,_,_,Z,Z,.of_left (cw dM dM),?_⟩;refine⟨_,_,Z,aB,iB (n:=20) aB aB,λv' H' r' s'=>k v' H' ?_ s'⟩;rw[MO]at r';exact r'
theorem mn3{x y z q:Rat}(h:q=x\/q=y\/q=z)(h1:q<=x)(h2:q<=y)(h3:q<=z):mn (mn x y) z=q:=by
 refine DV ?_ (lK (lK h1 h2) h3);rcases h with h|h|h
 ·rw[h];exact eV (gP _ _) (gP _ _)
 ·rw[h];exact eV (gP _ _) (kU _ _)
 ·rw[h];exact kU _ _
theorem zl{n:Nat}{ns:List Int}(h:fw n 100 ns):aL ns<=100:=by have:=h.lead;lia
open Wk
def fu(pl:List Int):ai:=.tuple (pl.map PyData.int)
theorem gD(pl:List Int):fJ (fu pl)=true:=by rw[fu,fJ];exact lG pl
theorem uf{H:Hp}{v:V}{pl:List Int}(h:RD K H v (fu pl)):∃a,v= .ref a/\aU K H a (pl.map V.int):=by obtain⟨a,xs,rfl,h1,h2⟩:=h.fg;rw[h2.jg]at h1;exact⟨a,Z,h1⟩
theorem wk{H:Hp}{a:Addr}{pl:List Int}(h:aU K H a (pl.map V.int)):RD K H (.ref a) (fu pl):=jb h (we pl)
def gf(pl:List Int):Itm->List Int |none=>pl |some (ns,_)=>fK pl ns
theorem cn.putL{p l:Addr}{H H1:Hp}{xs:List V}(b:cn p H H1)(hp:l≠p)(nl:H l=none):cn p H (L2.upd H1 l (.lst xs)):=by
 refine⟨?_,λc o n e=>?_⟩
 ·obtain⟨c',m',e,ok⟩:=b.bS
  exact⟨c',m',by rw[aK hp.symm];exact e,ok⟩
 ·rw[aK (gy e nl)];exact b.same c o n e
inductive Wm(K:aa)(vs:List V)(H:Hp)(Q:VK):Prop |mk (p:_)(m:_)(rs:_)(r:_)(f:_)(j:_)(t:_)(h0:vs=[.ref p,m])(h1:gM H p)(h2:RD K H m (jf rs r f j t))(h3:oF rs r f j t)(h4:∀v pl H',RD K H' v (fu pl)->fD rs pl->cn p H H'->Q v H'):Wm K vs H Q
def Nc(K:aa):Sp:=λvs H Q _=>Wm K vs H Q
theorem Ob:bF ["_law_bag_here","_law_machine_here"] ["_law_bag_here","_law_machine_here"] (aZ FW):=bP aY
theorem a3E(F:FA K mg "_law_place" FW)(B:bV mg)(eL:aI P w K mg base "_law_take" 1 qL):aI P w K mg base "_law_place" 2 (Nc K):=by
 refine F.has Ob (λvs H Q E h=>?_) (λ_ _ _ _ _ _=>dN λ_ _=>rfl) (λf aQ A outer s H vs Q E hr h=>?_)
 ·obtain⟨p,m,rs,r,f,j,t,rfl,_⟩:=h
  rfl
 ·obtain⟨p,m,rs,r,f,j,t,rfl,bg,rm,wz,k⟩:=h
  have nd:=Ob.nd;refine⟨_,(aH (aX (iG (x:="tuple") (lD K Z) Z (B.at "tuple") fY (au (gE (N:=["_law_rail","_law_bag_here"]) (js:=[none,some 0]) rfl rfl rfl (qS K rfl (px K (pv 1) aE)) (λ_ _ _ _ _=>(bJ 0 (gc aB))) (λ_ _ _ _ _=>fT) (λ_ _ _ _ _=>(pf eL hr (au (pv 1) (au (aO da (pv 0) aE) az))))) az)))),?_⟩;obtain⟨ma,mb,rfl,hZ,jR⟩:=lJ rm;have lr:=wz.len;refine⟨_,Z,.inr ⟨ma,_,0,.ref mb,Z,Z,hZ,dB (gO 0) Z,mb,Z,⟨_,jR⟩,λD H1 n1=>?_⟩⟩;refine Ut (K:=K) (J:=sS K mb) (p:=p) (H:=H) rs.length _ n1 bg aw (λi=>.int (rs.getD i 0)) (λi H2 hi b2=>?_) (λH2 b2=>?_) (λi d=>∃z r,d= .int z/\rs[i]? =some r/\0<=z/\z<=r) ?_ ?_
  ·have CB:=jR.t (cn.t bg b2)
   have e:(rs.map V.int)[i]? =some (.int (rs.getD i 0)):=by rw[cH,List.getD_eq_getElem?_getD,cu hi];rfl
   exact⟨⟨_,_,CB,e⟩,λy H3 ⟨e3,y3⟩=>⟨e3,by have:=y3 _ CB;rw[e]at this;exact(eg this).symm⟩⟩
  ·exact⟨_,jR.t (cn.t bg b2),by rw[cB];exact bR _⟩
  ·intro i H2 Q' hi b2 hq
   have er:rs[i]? =some (rs.getD i 0):=by rw[List.getD_eq_getElem?_getD,cu hi];rfl
   obtain⟨r0,r1⟩:=wz.rl _ (gX er);refine⟨_,Z,_,Z,_,_,Z,Z,p,_,Z,b2.bS,aw,aw,λz H3 z0 z1 b3=>?_⟩;exact hq _ _ _ ⟨z,_,Z,er,z0,aw⟩ Z (dw z) b3
  ·intro H2 ys ds b2 d2 r2 l2 nl pd
   have rO:∃pl:List Int,ds=pl.map PyData.int/\fD rs pl:=by
    have key:∀(ds:List ai),(∀d∈ds,∃z:Int,d= .int z)->∃pl:List Int,ds=pl.map PyData.int:=by intro ds;induction ds with |nil=>exact λ_=>⟨[],Z⟩ |cons d ds ih=>intro h;obtain⟨z,rfl⟩:=h d (.head _);obtain⟨pl,rfl⟩:=ih λx hx=>h x (.tail _ hx);exact⟨z::pl,Z⟩
    obtain⟨pl,rfl⟩:=key ds λd hd=>by obtain⟨i,hi⟩:=qG.mp hd;obtain⟨z,_,e,_⟩:=pd i d hi;exact⟨z,e⟩
    refine⟨pl,Z,by simpa using l2,λi x r e1 e2=>?_⟩;obtain⟨z,r',e,er,h0,h1⟩:=pd i (.int x) (by rw[cH,e1];rfl);cases e;rw[e2]at er;cases er;exact⟨h0,h1⟩
   obtain⟨pl,rfl,on⟩:=rO;refine⟨D,_,Z,.inl ⟨aJ.of d2,λt H3 n3=>?_⟩⟩;have et:=n3.at';rw[r2.jg]at et;exact k (.ref t) pl H3 (wk (aU.of et)) on (b2.trans (.jM b2.bS n3.same))
inductive Wx(K:aa)(vs:List V)(H:Hp)(Q:VK):Prop |mk (p:_)(m:_)(rs:_)(r:_)(f:_)(j:_)(t:_)(x:_)(pl:_)(mo:_)(h0:vs=[.ref p,m,x,.int mo])(h1:gM H p)(h2:RD K H m (jf rs r f j t))(h3:oF rs r f j t)(h4:RD K H x (fu pl))(h5:fD rs pl)(h6:1<=mo)(h7:mo<=100)(h8:∀v ns sp H',RD K H' v (iW ns sp)->fw rs.length 100 ns->1<=sp->sp<=20->fD rs (fK pl ns)->cn p H H'->Q v H'):Wx K vs H Q
def EJ(K:aa):Sp:=λvs H Q _=>Wx K vs H Q
def gA(rs pl is:List Int)(mo:Int):Prop:=∀(j:Nat)(z a r:Int),is[j]? =some z->pl[j]? =some a->rs[j]? =some r->0<=a+z/\a+z<=r/\(z.natAbs:Int)<=mo
theorem gA.on{rs pl is:List Int}{mo:Int}(h:gA rs pl is mo)(lp:pl.length=rs.length)(ls:is.length=pl.length):fD rs (fK pl is):=by
 refine⟨by rw[qo ls];exact lp,?_⟩;intro j x r ej oj;have hj:j<pl.length:=by have:=(dQ.mp ej).1;rw[qo ls]at this;exact this
 have TY:=A4 (cu hj) (cu (show j<is.length by lia));rw[ej]at TY;have ej3:=eg TY;have:=h j _ _ r (cu (show j<is.length by lia)) (cu hj) oj
 lia
theorem gA.bd{rs pl is:List Int}{mo:Int}(h:gA rs pl is mo)(lp:pl.length=rs.length)(ls:is.length=pl.length):∀z∈is,(z.natAbs:Int)<=mo:=λz mm=>by obtain⟨j,hj⟩:=qG.mp mm;have Sd:=(dQ.mp hj).1;exact(h j z _ _ hj (cu (show j<pl.length by lia)) (cu (show j<rs.length by lia))).2.2
theorem gA.snoc{rs pl is:List Int}{mo z a r:Int}(h:gA rs pl is mo)(ea:pl[is.length]? =some a)(er:rs[is.length]? =some r)(hz:0<=a+z/\a+z<=r/\(z.natAbs:Int)<=mo):gA rs pl (is++[z]) mo:=by
 intro j z' a' r' ej oq oj;by_cases hj:j<is.length
 ·rw[xZ hj]at ej
  exact h j z' a' r' ej oq oj
 ·have pO:j=is.length:=by
   have:=(dQ.mp ej).1;rw[fy]at this;have:j<is.length+1:=this
   lia
  rw[pO,Ay (bR _),Lz]at ej;cases ej;rw[pO]at oq oj;rw[ea]at oq;rw[er]at oj;cases oq;cases oj;exact hz
theorem gA.set{rs pl is:List Int}{mo z a r:Int}{i:Nat}(h:gA rs pl is mo)(ea:pl[i]? =some a)(er:rs[i]? =some r)(hz:0<=a+z/\a+z<=r/\(z.natAbs:Int)<=mo):gA rs pl (is.set i z) mo:=by
 intro j z' a' r' ej oq oj;by_cases hj:j=i
 ·subst hj
  rw[ea]at oq;rw[er]at oj;cases oq;cases oj;have hl:j<is.length:=by have:=(dQ.mp ej).1;rwa [vz]at this
  rw[Ax hl]at ej;cases ej;exact hz
 ·rw[LP (eu hj)]at ej
  exact h j z' a' r' ej oq oj
theorem Oj:bF ["_law_bag_here","_law_machine_here","_law_place_here","_law_most","_law_steps","_law_flat","_law_axis","_law_stand_here","_law_low","_law_high"] ["_law_bag_here","_law_machine_here","_law_place_here","_law_most"] (aZ G5):=bP aY
theorem a3P(F:FA K mg "_law_line" G5)(B:bV mg)(eL:aI P w K mg base "_law_take" 1 qL):aI P w K mg base "_law_line" 2 (EJ K):=by
 refine F.has Oj (λvs H Q E h=>?_) (λ_ _ _ _ _ _=>DA λ_ _ _ _=>rfl) (λfa aQ A outer s H vs Q E hr h=>?_)
 ·obtain⟨p,m,rs,r,f,j,t,x,pl,mo,rfl,_⟩:=h
  rfl
 ·obtain⟨p,m,rs,r,f,j,t,x,pl,mo,rfl,bg,rm,wz,rx,on,mo1,mo2,k⟩:=h
  have nd:=Oj.nd;refine⟨_,(aF (pS 4 nd (dj az)) (aF (pS 5 nd (pf eL hr (au (pv 0) (au aE az)))) (aF (me iA Z (a2a K Z false Z (B.at "enumerate") (au (pv 2) az)) (eK K rfl (n:=2) rfl (cg (bJ 6 nd) (cg (bJ 7 nd) eG))) (aF (pS 8 nd (dG (x:="max") (UN Z) Z (B.at "max") DW (au aE (au (aO gG (pv 7) (pv 3)) az)))) (aF (pS 9 nd (dG (x:="min") (Kw Z) Z (B.at "min") XR (au (px K (px K (pv 1) aE) (pv 6)) (au (aO da (pv 7) (pv 3)) az)))) (aF (hO (jq K Z (pv 4) (au (aO gG (aO da (pv 8) (pf eL hr (au (pv 0) (au (aO da (aO gG (pv 9) (pv 8)) aE) az)))) (pv 7)) az))) (aH (bN (ck (cW K Z hr.units) (pv 5) (pv 6) (bB _)) (aH (gq aE (ug (pv 4) (pv 6) set_list))) bQ)))))) (aF (hJ (bN (eO (cP (dG (x:="any") (acu K Z Z) Z (B.at "any") XT (au (pv 4) az)))) (aF (pS 6 nd (pf eL hr (au (pv 0) (au (dJ K B (au (pv 4) az)) az)))) (aH (gq (aO gG aE (aO bO aE (iG (x:="int") UO Z (B.at "int") Ly (au (fH uh (px K (pv 2) (pv 6)) aE (bB _)) az)))) (ug (pv 4) (pv 6) set_list)))) bQ)) (aH (aX (ek (au ba (au (iG (x:="tuple") (lD K Z) Z (B.at "tuple") fY (au (pv 4) az)) (au (aO da aE (pf eL hr (au (pv 0) (au aE az)))) az)))))))))),?_⟩;have lr:=wz.len;have lp:=on.len;obtain⟨ma,mb,rfl,hZ,jR⟩:=lJ rm;obtain⟨xa,rfl,IZ⟩:=uf rx;refine⟨bZ Z,λl H1 n1=>?_⟩;have b1:cn p H H1:=.jM bg n1.same;have wQ:l≠p:=λz=>bg.ne (z▸n1.no);refine⟨_,Z,p,4,Z,b1.bS,aB,aB,λfl H2 f0 f1 b2=>?_⟩;have V4:=b1.trans b2;have Zz:=cn.t bg V4;refine⟨_,Z,xa,Z,⟨_,IZ.t Zz⟩,a9i (K:=K) (b:=false) (a:=xa) (xs:=pl.map V.int) (λi O H3=>cn p H H3/\∃(is:List Int)(v1 v2 v3 v4:Option V),H3 l=some (.lst (is.map V.int))/\is.length=i/\gA rs pl is mo/\O=[some (.ref p),some (.ref ma),some (.ref xa),some (.int mo),some (.ref l),some (.int fl),v1,v2,v3,v4]) ?_ (λi O H3 _ h=>IZ.t (cn.t bg h.1)) ?_ ?_⟩
  ·exact⟨V4,[],none,none,none,none,b2.same _ _ wQ n1.at',Z,λj z a r e=>by simp at e,Z⟩
  ·rintro i y O H3 hy ⟨b3,is,v1,v2,v3,v4,dl,li,hz,rfl⟩ T H4 n4
   rw[cH]at hy;obtain⟨a,ea,rfl⟩:=Option.map_eq_some_iff.mp hy;have Se:i<pl.length:=(dQ.mp ea).1;obtain⟨rl,er⟩:∃rl,rs[i]? =some rl:=⟨_,cu (show i<rs.length by lia)⟩;obtain⟨a0,a1⟩:=on.at' i a rl ea er;obtain⟨r0,r1⟩:=wz.rl rl (gX er);have b4:cn p H H4:=b3.trans (.jM b3.bS n4.same);have t4:=cn.t bg b4;have kC:=n4.same _ _ dl;have atr:fQ (rs.map V.int) (i:Int)=some (.int rl):=dB aw (by rw[cH];simp[er]);refine⟨T,_,Z,aU.of n4.at',Z,_,_,Z,_,_,Z,Z,?_⟩;refine⟨_,Z,_,Z,_,_,Z,Z,_,_,Z,?_⟩;obtain⟨low,aaO,lo0,lo1,lo2⟩:∃low:Int,(if a-mo>0 then a-mo else 0)=low/\0<=low/\a-mo<=low/\low<=a:=⟨_,Z,by split<;>lia,by split<;>lia,by split<;>lia⟩;rw[aaO];refine⟨_,Z,.inr ⟨ma,_,0,.ref mb,Z,Z,hZ.t t4,Z,_,Z,.inr ⟨mb,_,_,.int rl,Z,Z,jR.t t4,atr,_,Z,_,Z,_,_,Z,Z,_,_,Z,?_⟩⟩⟩;obtain⟨hi,uY,hi0,hi1,Sg⟩:∃hi:Int,(if a+mo<rl then a+mo else rl)=hi/\a<=hi/\hi<=rl/\hi<=a+mo:=⟨_,Z,by split<;>lia,by split<;>lia,by split<;>lia⟩;rw[uY];refine⟨_,Z,.inl ⟨Z,_,aJ.of kC⟩,?_⟩;refine⟨_,Z,_,Z,_,Z,_,Z,_,_,Z,Z,_,_,Z,Z,p,hi-low+1,Z,b4.bS,aw,aw,λd H5 d0 d1 b5=>?_⟩;refine⟨_,_,Z,Z,_,Z,_,_,Z,Z,l,_,_,Z,Z,b5.same _ _ wQ kC,?_,?_⟩
   ·rw[cB,li]
    have:(1000:Nat)<sizeLine:=by decide
    lia
   have b6:cn p H (L2.upd H5 l (.lst (is.map V.int++[.int (low+d-a)]))):=(b4.trans b5).putL wQ n1.no;have e6:(L2.upd H5 l (.lst (is.map V.int++[.int (low+d-a)]))) l=some (.lst ((is++[low+d-a]).map V.int)):=by rw[bf,oQ];rfl
   generalize L2.upd H5 l (.lst (is.map V.int++[.int (low+d-a)]))=H6 at b6 e6⊢;rw[<-li]at ea er;have ML:=hz.snoc ea er (z:=low+d-a) aw;refine⟨_,Z,_,Z,.inl ⟨_,_,Z,Z,_,Z,?_⟩⟩;refine dU (λhc=>?_) (λhc=>?_)
   ·have ix:jP ((is++[low+d-a]).map V.int).length (i:Int)=some i:=by unfold jP;rw[bp aw,bp (by rw[cB,fy];show(i:Int)<((is.length+1:Nat):Int);lia)];simp
    refine⟨_,Z,_,Z,l,_,_,_,Z,Z,e6,ix,?_⟩;refine⟨b6.putL wQ n1.no,(is++[low+d-a]).set i 0,_,_,_,_,by rw[bf,Aw],by rw[vz,fy,li];rfl,?_,Z⟩;rw[li]at ea er;exact ML.set ea er aw
   ·exact⟨b6,is++[low+d-a],_,_,_,_,e6,by rw[fy,li];rfl,ML,Z⟩
  ·rintro O H3 ⟨b3,is,v1,v2,v3,v4,dl,li,hz,rfl⟩
   rw[cB]at li;have t3:=cn.t bg b3;refine⟨λO H4=>cn p H H4/\∃(is:List Int)(v1:Option V),H4 l=some (.lst (is.map V.int))/\fw rs.length 100 is/\fD rs (fK pl is)/\O=[some (.ref p),some (.ref ma),some (.ref xa),some (.int mo),some (.ref l),some (.int fl),v1,v2,v3,v4],?_,?_⟩
   ·refine⟨_,Z,l,is,Z,.inl (aJ.of dl),_,Z,?_⟩
    cases ha:is.any (· !=0)with |false=>
     refine cf ?_;refine⟨_,Z,_,Z,l,_,Z,.inl (aJ.of dl),p,_,Z,b3.bS,(by rw[cB];lia),(by rw[cB];lia),λax H4 a0 a1 b4=>?_⟩;rw[cB]at a1;have V3:=b3.trans b4;have Su:ax.toNat<pl.length:=by lia
     have ea:=cu Su;have er:=cu (show ax.toNat<rs.length by lia);obtain⟨q0,q1⟩:=on.at' _ _ _ ea er;obtain⟨r0,r1⟩:=wz.rl _ (gX er);have V6:fQ (pl.map V.int) ax=some (.int pl[ax.toNat]):=dB a0 (by rw[cH,ea];rfl);generalize pl[ax.toNat]=qa at ea q0 q1 V6;generalize rs[ax.toNat]=qr at er q1 r0 r1;refine⟨_,Z,_,Z,.inr ⟨xa,_,_,_,Z,Z,IZ.t (cn.t bg V3),V6,?_⟩⟩;refine⟨_,_,Z,Z,.inr ⟨_,Z,?_⟩⟩;refine⟨_,_,Z,Z,.of_left (cw aB aB),_,_,Z,Z,?_⟩;obtain⟨y,ey,y1,y2,y3⟩:∃y:Int,(1-2*(if decide (qa>0)=true then 1 else 0):Int)=y/\y.natAbs=1/\0<=qa+y/\qa+y<=qr:=by
      by_cases h:qa>0
      ·rw[cR h];exact⟨-1,Z,Z,aw,aw⟩
      ·rw[fb h];exact⟨1,Z,Z,aw,aw⟩
     have kC:=b4.same _ _ wQ dl;have ix:jP (is.map V.int).length ax=some ax.toNat:=by unfold jP;rw[bp a0,bp (by rw[cB];lia)]
     refine⟨_,Z,_,Z,l,_,_,_,Z,Z,kC,ix,?_⟩;have st:=hz.set (i:=ax.toNat) ea er (z:=y) aw;have ls:(is.set ax.toNat y).length=pl.length:=by rw[vz];lia
     refine⟨V3.putL wQ n1.no,is.set ax.toNat y,_,?_,⟨aw,λz mm=>?_,?_⟩,st.on lp ls,Z⟩
     ·rw[bf,<-Aw]
      simp only[ey]
     ·have:=st.bd lp ls z mm;lia
     ·exact⟨y,XY.mpr ⟨ax.toNat,by rw[vz];lia,by rw[List.getElem_set_self]⟩,aw⟩ |true=>
     refine bK ?_;have ls:is.length=pl.length:=by lia
     refine⟨b3,is,_,dl,⟨aw,λz mm=>?_,?_⟩,hz.on lp ls,Z⟩
     ·have:=hz.bd lp ls z mm;lia
     ·obtain⟨z,mm,h0⟩:=List.any_eq_true.mp ha
      exact⟨z,mm,by simpa using h0⟩
   rintro O H4 ⟨b4,is,v1,dl,ok,on2,rfl⟩;refine⟨_,Z,l,_,Z,.inl ⟨aJ.of dl,λq H5 n5=>?_⟩⟩;have b5:cn p H H5:=b4.trans (.jM b4.bS n5.same);have qp:q≠p:=λe=>b4.bS.ne (e▸n5.no);refine⟨_,Z,p,20,Z,b5.bS,aB,aB,λsp H6 p0 p1 b6=>?_⟩;refine⟨_,_,Z,Z,bZ Z,λt H7 n7=>?_⟩;have b7:=b5.trans (b6.trans (.jM b6.bS n7.same));exact k (.ref t) is (1+sp) H7 (jb (aU.of n7.at') (cm (cV _) (cm (jb (aU.of (n7.same _ _ (b6.same _ _ qp n5.at'))) (we is)) (cm (dw _) cX)))) ok aw aw on2 b7
def gK(z:Str):Prop:=∀c∈z.cps.toList,c<0x110000
theorem gK.app{a b:Str}(ha:gK a)(hb:gK b):gK (a++b):=λc hc=>by rw[XO,Ea,vy]at hc;exact hc.elim (ha c) (hb c)
theorem gK.joined{sep:Str}(hs:gK sep):∀l:List Str,(∀a∈l,gK a)->gK (PySem.Str.join sep l) |[],_=>λc hc=>by simp[PySem.Str.join,PySem.Str.empty]at hc |[x],h=>h x (.head _) |x::y::r,h=>((h x (.head _)).app hs).app (gK.joined hs (y::r) λa ha=>h a (.tail _ ha))
theorem gK.join{sep:Str}{l:List Str}(hs:gK sep)(h:∀a∈l,gK a):gK (Txt.join sep l):=by show gK (Builtin.Str.glued sep l);rw[StrLaws.glued_eq_join];exact gK.joined hs l h
theorem a2R{n:Nat}{z:Str}(h:gK z):dP n (.str z):=⟨by show PyData.strOk z=true;unfold PyData.strOk;rw[ad3];exact λc hc=>cR (h c (by simpa using hc)),gj _⟩
theorem a2P{n:Nat}{z:Str}(h:dP n (.str z)):gK z:=λc hc=>by have q:PyData.strOk z=true:=h.lay;unfold PyData.strOk at q;rw[ad3]at q;exact jZ (q c (by simpa using hc))
theorem Qj{z:Str}(h:z.cps.all (·<0x110000)=true):gK z:=a2P (n:=0) ⟨h,gj _⟩
theorem MH:∀(ds:List ai),(∀d∈ds,∃z:Str,d= .str z/\z.length=1/\gK z/\z.cps.toList.all (λc=>decide (97<=c)&&decide (c<=122))=true)->∃zs:List Str,ds=zs.map PyData.str/\∀z∈zs,z.length=1/\gK z/\z.cps.toList.all (λc=>decide (97<=c)&&decide (c<=122))=true |[],_=>⟨[],Z,λ_ h=>nomatch h⟩ |d::ds,h=>by obtain⟨z,rfl,e⟩:=h d (.head _);obtain⟨zs,rfl,q⟩:=MH ds λx hx=>h x (.tail _ hx);exact⟨z::zs,Z,λy hy=>by
 rcases bM.mp hy with rfl|hy
 ·exact e
 ·exact q y hy⟩
theorem acH:gK jU:=Qj aY
def IA(c:Nat):Bool:=decide (97<=c)&&decide (c<=122)
def zb(s:Str):Bool:=(decide (1<=s.length)&&decide (s.length<=8))&&s.cps.toList.all IA
def Qd(w s:Str):Prop:=(w="tool"/\(s="up"\/s="down"))\/(w="mark"/\zb s=true)
def qq(d:ai):Prop:=(∃n,d= .tuple [.str "wait",.int n]/\1<=n/\n<=1000)\/∃w s,d= .tuple [.str w,.str s]/\(w="tool"\/w="mark")/\dP 0 (.str s)/\Qd w s
theorem SX:∀l:List Str,(PySem.Str.join ("":Str) l).cps.toList=(l.map λz=>z.cps.toList).flatten
 |[]=>by simp[PySem.Str.join,PySem.Str.empty] |[x]=>by simp[PySem.Str.join] |x::y::r=>by
  show((x++("":Str))++PySem.Str.join ("":Str) (y::r)).cps.toList=_;rw[XO,XO,Ea,Ea,SX (y::r)];have:(("":Str)).cps.toList=[]:=by decide+kernel
  rw[this];simp
theorem a4K{l:List Str}(h1:1<=l.length)(h8:l.length<=8)(h:∀z∈l,z.length=1/\z.cps.toList.all IA=true):zb (Txt.join ("":Str) l)=true:=by
 have e:(Txt.join ("":Str) l).cps.toList=(l.map λz=>z.cps.toList).flatten:=by show(Builtin.Str.glued ("":Str) l).cps.toList=_;rw[StrLaws.glued_eq_join];exact SX l
 have el:(Txt.join ("":Str) l).length=l.length:=by
  show(Txt.join ("":Str) l).cps.size=_;rw[<-AD,e,List.length_flatten,List.map_map];have:∀(l:List Str),(∀z∈l,z.length=1/\z.cps.toList.all IA=true)->(l.map (List.length∘λz=>z.cps.toList)).sum=l.length:=by intro l;induction l with |nil=>intro _;rfl |cons a r ih=>
   intro h;rw[oP,List.sum_cons,ih λz hz=>h z (.tail _ hz),kI];have:=(h a (.head _)).1;have e2:(List.length∘λz:Str=>z.cps.toList) a=1:=by show a.cps.toList.length=1;rw[AD];exact this
   rw[e2,Nat.add_comm]
  exact this l h
 unfold zb;rw[el,e,cR h1,cR h8,kJ,kJ,j7];intro c hc;obtain⟨cs,CK,CL⟩:=List.mem_flatten.mp hc;obtain⟨z,hz,rfl⟩:=ka.mp CK;exact j7.mp (h z hz).2 c CL
theorem qq.it{d:ai}(h:qq d):itR d none:=by
 rcases h with⟨n,rfl,_⟩|⟨w,s,rfl,hw|hw,_⟩
 ·exact .inr ⟨_,_,Z,.inl Z,Z,Z⟩
 ·exact .inr ⟨_,_,Z,.inr (.inl hw),Z,Z⟩
 ·exact .inr ⟨_,_,Z,.inr (.inr hw),Z,Z⟩
inductive Wr(K:aa)(vs:List V)(H:Hp)(Q:VK):Prop |mk (p:Addr)(h0:vs=[.ref p])(h1:gM H p)(h2:∀v d H',RD K H' v d->qq d->cn p H H'->Q v H'):Wr K vs H Q
def Ng(K:aa):Sp:=λvs H Q _=>Wr K vs H Q
theorem a3H(F:FA K mg "_law_other" FY)(B:bV mg)(eL:aI P w K mg base "_law_take" 1 qL):aI P w K mg base "_law_other" 2 (Ng K):=by
 refine F.has Od (λvs H Q E h=>?_) (λ_ _ _ _ _ _=>eR λ_=>rfl) (λf aQ A outer s H vs Q E hr h=>?_)
 ·obtain⟨p,rfl,_⟩:=h
  rfl
 ·obtain⟨p,rfl,bg,k⟩:=h
  have nd:=Od.nd;refine⟨_,(aF (pS 1 nd (pf eL hr (au (pv 0) (au aE az)))) (aF (bN (ck (cW K Z hr.units) (pv 1) aE (bB _)) (aH (aX (ek (au ba (au (aO da aE (pf eL hr (au (pv 0) (au (px K (dj (au aE (au aE az))) (pf eL hr (au (pv 0) (au aE az)))) az)))) az))))) bQ) (aF (bN (ck (cW K Z hr.units) (pv 1) aE (bB _)) (aH (aX (ek (au ba (au (px K (dj (au ba (au ba az))) (pf eL hr (au (pv 0) (au aE az)))) az))))) bQ) (aF (pS 2 nd ba) (aH (aX (ek (au ba (au (a2m K Z ba (au (gE (N:=["_law_turn","_law_letters","_law_bag_here"]) (js:=[none,some 2,some 0]) Z Z Z (yK Z (B.at "range") (au (aO da aE (pf eL hr (au (pv 0) (au aE az)))) az)) (λ_ _ _ _ _=>(bJ 0 (show List.Nodup (["_law_turn","_law_letters","_law_bag_here"]:List Str) by decide+kernel))) (λ_ _ _ _ _=>fT) (λ_ _ _ _ _=>(PU a68 (pv 1) (pf eL hr (au (pv 2) (au aE az))) (λ_ _=>rfl)))) az)) az))))))))),?_⟩;refine⟨_,Z,p,3,Z,bg,aB,aB,λso H1 s0 s1 b1=>?_⟩;refine⟨_,Z,.inl ⟨_,_,Z,Z,_,Z,?_⟩⟩;refine dU (λhc=>?_) (λhc=>?_)
  ·refine⟨_,Z,bZ Z,λc H2' Iu=>?_⟩
   have sJ:cn p H1 H2':=.jM b1.bS Iu.same;have cp:c≠p:=λz=>b1.bS.ne (z▸Iu.no);refine⟨_,Z,p,2,Z,sJ.bS,aB,aB,λi H3' i0 i1 xN=>?_⟩;have hi:∃z:Int,fQ ([.int 1000,.int 2]:List V) i=some (.int z)/\2<=z/\z<=1000:=by
    rcases(show i=0\/i=1 by lia)with rfl|rfl
    ·exact⟨1000,Z,aB,aB⟩
    ·exact⟨2,Z,aB,aB⟩
   obtain⟨z,ez,z2,ad7⟩:=hi;refine .inl ⟨c,_,_,_,Z,Z,aJ.of (xN.same _ _ cp Iu.at'),ez,?_⟩;refine⟨p,z,Z,xN.bS,aw,aw,λn H2 n0 n1 acj=>?_⟩;have b2:=sJ.trans (xN.trans acj);refine⟨_,_,Z,Z,bZ Z,λt H3 n3=>?_⟩;exact k (.ref t) _ H3 (jb (aU.of n3.at') (cm (cV _) (cm (dw _) cX))) (.inl ⟨_,Z,aw,aw⟩) (b1.trans (b2.trans (.jM b2.bS n3.same)))
  refine⟨_,Z,.inl ⟨_,_,Z,Z,_,Z,?_⟩⟩;refine dU (λhc=>?_) (λhc=>?_)
  ·refine⟨bZ Z,λc H2 n2=>?_⟩
   have b2:cn p H1 H2:=.jM b1.bS n2.same;have cp:c≠p:=λz=>b1.bS.ne (z▸n2.no);refine⟨_,Z,p,2,Z,b2.bS,aB,aB,λi H3 i0 i1 b3=>?_⟩;have hi:∃z:Str,fQ ([.str "up",.str "down"]:List V) i=some (.str z)/\dP 0 (.str z)/\Qd "tool" z:=by
    rcases(show i=0\/i=1 by lia)with rfl|rfl
    ·exact⟨"up",Z,⟨aY,aY⟩,.inl ⟨Z,.inl Z⟩⟩
    ·exact⟨"down",Z,⟨aY,aY⟩,.inl ⟨Z,.inr Z⟩⟩
   obtain⟨z,ez,okz,onz⟩:=hi;refine .inl ⟨c,_,_,_,Z,Z,aJ.of (b3.same _ _ cp n2.at'),ez,bZ Z,λt H4 n4=>?_⟩;exact k (.ref t) _ H4 (jb (aU.of n4.at') (cm (cV _) (cm (cV _) cX))) (.inr ⟨_,_,Z,.inl Z,okz,onz⟩) (b1.trans (b2.trans (b3.trans (.jM b3.bS n4.same))))
  refine⟨Z,?_⟩;refine⟨_,Z,p,8,Z,b1.bS,aB,aB,λn H2 n0 n1 b2=>?_⟩;refine⟨_,_,Z,Z,_,Z,aw,aw,λD H3 nD=>?_⟩;refine Ut (K:=K) (J:=oH 0 (1+n).toNat) (p:=p) (H:=H2) (1+n).toNat _ nD b2.bS aw (λi=>.int (0+(i:Int))) (λi H3 hi _=>⟨hi,λy H4 ⟨e,q⟩=>⟨e,q⟩⟩) (λH3 _=>bR _) (λ_ d=>∃z:Str,d= .str z/\z.length=1/\gK z/\z.cps.toList.all (λc=>decide (97<=c)&&decide (c<=122))=true) ?_ ?_
  ·intro i H3 Q' hi b3 hq
   refine⟨_,Z,_,Z,p,26,Z,b3.bS,aB,aB,λd H4 d0 d1 b4=>?_⟩;have hd:d.toNat<jU.cps.toList.length:=by rw[acJ];lia
   refine⟨jU,d,jU.cps.toList[d.toNat],Z,Z,aY,dB d0 (cu hd),?_⟩;have gu:gK ⟨#[jU.cps.toList[d.toNat]]⟩:=λc hc=>by have gU:c=jU.cps.toList[d.toNat]:=bU.mp hc;rw[gU];exact acH _ (E4 hd)
   have fj:(⟨#[jU.cps.toList[d.toNat]]⟩:Str).cps.toList.all (λc=>decide (97<=c)&&decide (c<=122))=true:=by have:=j7.mp (show jU.cps.toList.all (λc=>decide (97<=c)&&decide (c<=122))=true by decide+kernel) _ (E4 hd);show([jU.cps.toList[d.toNat]]:List Nat).all _=true;rw[LQ,List.all_nil,LY];exact this
   exact hq _ _ _ ⟨_,Z,Z,gu,fj⟩ Z (cV _) b4
  ·intro H3 ys ds b3 d3 r3 l3 nl pd
   obtain⟨zs,rfl,hz⟩:=MH ds λd hd=>by obtain⟨i,hi⟩:=qG.mp hd;exact pd i d hi
   rw[MG r3]at d3;rw[cB]at l3;refine⟨"",D,zs,Z,Z,aJ.of d3,λz mm=>by rw[(hz z mm).1];decide,aB,aw,bZ Z,λt H4 n4=>?_⟩;exact k (.ref t) _ H4 (jb (aU.of n4.at') (cm (cV _) (cm (cV _) cX))) (.inr ⟨_,_,Z,.inr Z,a2R (gK.join (Qj aY) λa ha=>(hz a ha).2.1),.inr ⟨Z,a4K aw aw λz mm=>⟨(hz z mm).1,(hz z mm).2.2⟩⟩⟩) (b1.trans (b2.trans (b3.trans (.jM b3.bS n4.same))))
def RowW(ds:List ai)(os:List Itm):Prop:=∀(i:Nat)(d:ai),os[i]? =some none->ds[i]? =some d->qq d
theorem RowW.snoc{ds:List ai}{os:List Itm}{d:ai}{o:Itm}(h:RowW ds os)(hl:ds.length=os.length)(hd:o=none->qq d):RowW (ds++[d]) (os++[o]):=by
 intro i x e1 e2;rcases tV e1 with h1|⟨h1,h1'⟩
 ·rcases tV e2 with h2|⟨h2,_⟩
  ·exact h i x h1 h2
  ·have:=(dQ.mp h1).1;lia
 ·rcases tV e2 with h2|⟨_,uU⟩
  ·have:=(dQ.mp h2).1;lia
  ·subst uU;exact hd h1'.symm
theorem M5{j:Int}(h:j.natAbs<2^64):Wd j:=LB h aY
inductive Ws(vs:List V)(H:Hp)(Q:VK):Prop |mk (p:Int)(q:Int)(h0:vs=[.int p,.int q])(h1:0<q)(h2:q<=10^6)(h3:p.natAbs<=10^9)(h4:Q (.int (fz p q)) H):Ws vs H Q
def EI:Sp:=λvs H Q _=>Ws vs H Q
theorem Oe:bF ["p","q","size"] ["p","q"] (aZ FZ):=bP aY
theorem a3I(F:FA K mg "nearest" FZ)(B:bV mg):aI P w K mg base "nearest" 1 EI:=by
 refine F.has Oe (λvs H Q E h=>?_) (λ_ _ _ _ _ _=>dN λ_ _=>rfl) (λf aQ A outer s H vs Q E hr h=>?_)
 ·obtain⟨p,q,rfl,_⟩:=h
  rfl
 ·obtain⟨p,q,rfl,q0,q1,p1,k⟩:=h
  have nd:=Oe.nd;refine⟨_,(aF (pS 2 nd (aO mF (aO da (aO bO aE (dG (x:="abs") oz Z (B.at "abs") qC (au (pv 0) az))) (pv 1)) (aO bO aE (pv 1)))) (aH (aX (PV (ck BG (pv 0) aE (bB _)) (pv 2) (yM yd (pv 2)))))),?_⟩;refine⟨_,Z,p,Z,_,_,Z,Z,.of_left (cw aB aB),_,Z,_,_,Z,Z,_,Z,_,_,Z,Z,.of_left (cw aB aB),_,_,Z,Z,⟨aw,M5 aw⟩,?_⟩;have e:(2*(if p<0 then-p else p)+q)/(2*q)=ja p q:=by unfold ja;rw[<-A5];rfl
  refine⟨_,Z,_,_,Z,Z,_,Z,?_⟩;unfold fz at k;rw[<-e]at k;refine dU (λhc=>?_) (λhc=>?_)
  ·have hp:p>=0:=jZ hc
   rw[bp hp]at k;exact⟨_,Z,k⟩
  ·have hp:¬p>=0:=λz=>hc (cR z)
   rw[bu hp]at k;exact⟨_,Z,_,Z,k⟩
def Ew(ns:List Int)(k:Int):ai:=.tuple ((ns.map λz=>fz (k*z) (aL ns)).map PyData.int)
theorem PF{k z:Int}(h:k.natAbs<=10^6)(g:(z.natAbs:Int)<=1000):(k*z).natAbs<=10^9:=by rw[g9];exact iQ (mZ h (show z.natAbs<=1000 by lia)) aB
inductive VQ(K:aa)(vs:List V)(H:Hp)(Q:VK):Prop |mk (v:_)(ns:_)(sp:_)(k:_)(h0:vs=[v,.int k])(h1:RD K H v (iW ns sp))(h2:fw ns.length 1000 ns)(h3:ns.length<=1000)(h4:k.natAbs<=10^6)(h5:∀v' H',RD K H' v' (Ew ns k)->aG H H'->Q v' H'):VQ K vs H Q
def Bc(K:aa):Sp:=λvs H Q _=>VQ K vs H Q
theorem NO:bF ["line","k","lead"] ["line","k"] (aZ Ff):=bP aY
theorem a33(F:FA K mg "stand_at" Ff)(B:bV mg)(pL:aI P w K mg base "lead_of" 1 (m7 K))(a7d:aI P w K mg base "nearest" 1 EI):aI P w K mg base "stand_at" 2 (Bc K):=by
 refine F.has NO (λvs H Q E h=>?_) (λ_ _ _ _ _ _=>dN λ_ _=>rfl) (λf aQ A outer s H vs Q E hr h=>?_)
 ·obtain⟨v,ns,sp,k,rfl,_⟩:=h
  rfl
 ·obtain⟨v,ns,sp,kk,rfl,rd,ok,hz,hk,k⟩:=h
  have nd:=NO.nd;refine⟨_,(aF (pS 2 nd (pf pL hr (au (pv 0) az))) (aH (aX (iG (x:="tuple") (lD K Z) Z (B.at "tuple") fY (au (gE (N:=["step","lead","k"]) (js:=[none,some 2,some 1]) rfl rfl rfl (qS K rfl (px K (pv 0) aE)) (λ_ _ _ _ _=>(bJ 0 (show List.Nodup (["step","lead","k"]:List Str) by decide+kernel))) (λ_ _ _ _ _=>fT) (λ_ _ _ _ _=>(pf a7d hr (au (aO bO (pv 2) (pv 0)) (au (pv 1) az))))) az))))),?_⟩;refine⟨_,Z,v,ns,sp,Z,rd,ok.ne,hz,λH1 s1=>?_⟩;obtain⟨a,b,rfl,ha,hb⟩:=mj (RD.mono s1 _ rd);obtain⟨lp,lm⟩:=ok.lead;refine⟨_,Z,.inr ⟨a,_,1,.ref b,Z,Z,ha,Z,b,Z,⟨_,hb⟩,λD H0 nw=>?_⟩⟩;refine Dp (K:=K) (xs:=ns.map V.int) (ds:=(ns.map λz=>fz (kk*z) (aL ns)).map PyData.int) _ hb nw (by simp) (by simpa using hz) (lG _) ?_ ?_
  ·intro i x d H2 Q' ex ed s2 hq
   rw[List.map_map]at ed;obtain⟨n,en,rfl⟩:=mH ed;cases zh ex en;refine⟨_,Z,_,Z,_,_,Z,Z,.of_left (cw aw aw),_,Z,_,_,Z,aw,aw,PF hk (ok.bd n (gX en)),?_⟩;exact hq _ _ (aG.refl _) (dw _)
  ·intro H' ys s2 d2 r2
   refine⟨D,_,Z,.inl ⟨aJ.of d2,λt H4 n4=>?_⟩⟩;exact k _ _ (jb (aU.of n4.at') (aP.mono n4.same _ r2)) (s1.trans (s2.trans n4.same))
def iE(ns:List Int)(j:Nat):List Int:=ns.map λz=>fz (((j:Int)+1)*z) (aL ns)-fz ((j:Int)*z) (aL ns)
def p8(ns:List Int):List ai:=(List.range (aL ns)).map λj=>.tuple ((iE ns j).map PyData.int)
theorem GS(zs:List Int):fJ (.tuple (zs.map PyData.int))=true:=by rw[fJ];exact lG zs
theorem GQ(ns:List Int):cZ (p8 ns)=true:=iH.mpr λd hd=>by obtain⟨j,_,rfl⟩:=ka.mp hd;exact GS _
theorem Pc{ns:List Int}{i:Nat}(h:i<aL ns):(p8 ns)[i]? =some (.tuple ((iE ns i).map PyData.int)):=by unfold p8;rw[cH,cu (by simpa using h),vB];rfl
theorem GR(ns:List Int):(p8 ns).length=aL ns:=by simp[p8]
inductive W5(K:aa)(vs:List V)(H:Hp)(Q:VK):Prop |mk (v:_)(ns:_)(sp:_)(h0:vs=[v])(h1:RD K H v (iW ns sp))(h2:fw ns.length 1000 ns)(h3:ns.length<=1000)(h4:∀l ys H',H l=none->H' l=some (.lst ys)->aP K H' ys (p8 ns)->aG H H'->Q (.ref l) H'):W5 K vs H Q
def EE(K:aa):Sp:=λvs H Q _=>W5 K vs H Q
theorem NY:bF ["line","rows","before","k","behind"] ["line"] (aZ Ft):=bP aY
theorem a3l(F:FA K mg "step_rows" Ft)(B:bV mg)(pL:aI P w K mg base "lead_of" 1 (m7 K))(Co:aI P w K mg base "stand_at" 2 (Bc K)):aI P w K mg base "step_rows" 3 (EE K):=by
 refine F.has NY (λvs H Q E h=>?_) (λ_ _ _ _ _ _=>eR λ_=>rfl) (λf aQ A outer s H vs Q E hr h=>?_)
 ·obtain⟨v,ns,sp,rfl,_⟩:=h
  rfl
 ·obtain⟨v,ns,sp,rfl,rd,ok,hz,k⟩:=h
  have nd:=NY.nd;obtain⟨lp,lm⟩:=ok.lead;refine⟨_,(aF (pS 1 nd (dj az)) (aF (pS 2 nd (pf Co hr (au (pv 0) (au aE az)))) (aF (me iA Z (PK Z (B.at "range") (au aE (au (aO da (pf pL hr (au (pv 0) az)) aE) az))) (bJ 3 nd) (aF (pS 4 nd (pf Co hr (au (pv 0) (au (pv 3) az)))) (aF (hO (jq K Z (pv 1) (au (iG (x:="tuple") (lD K Z) Z (B.at "tuple") fY (au (gE (N:=["new","old"]) (js:=[none,none]) rfl rfl rfl (kj K rfl false false rfl (B.at "zip") (au (pv 4) (au (pv 2) az))) (λ_ _ _ _ _=>(eK K rfl (n:=2) rfl (cg (bJ 0 (gc aB)) (cg (bJ 1 (gc aB)) eG)))) (λ_ _ _ _ _=>fT) (λ_ _ _ _ _=>(aO gG (pv 0) (pv 1)))) az)) az))) (aH (pS 2 nd (pv 4)))))) (aH (aX (pv 1)))))),?_⟩;refine⟨bZ Z,λl H1 n1=>?_⟩;refine⟨_,Z,v,ns,sp,0,Z,RD.mono n1.same _ rd,ok,hz,aB,λu H2 ru s2=>?_⟩;have t2:=n1.same.trans s2;refine⟨_,Z,v,ns,sp,Z,RD.mono t2 _ rd,ok.ne,hz,λH3 s3=>?_⟩;refine⟨_,_,Z,Z,_,_,Z,⟨aw,aw,aw,aw⟩,?_⟩;have t3:=t2.trans s3;have e3:((aL ns:Int)+1-1).toNat=aL ns:=by lia
  refine CY (Pv:=λi O H4=>aG H H4/\(∃ys,H4 l=some (.lst ys)/\aP K H4 ys ((p8 ns).take i))/\∃b v1 v2,RD K H4 b (Ew ns i)/\O=[some v,some (.ref l),some b,v1,v2]) ?_ ?_ ?_
  ·exact⟨t3,⟨[],s3 _ _ (s2 _ _ n1.at'),cX⟩,u,none,none,RD.mono s3 _ ru,Z⟩
  ·rintro i O H4 hi ⟨t4,⟨ys,dl,ry⟩,b,v1,v2,rb,rfl⟩
   have CG:i<aL ns:=by lia
   refine⟨_,Z,_,Z,v,ns,sp,_,Z,RD.mono t4 _ rd,ok,hz,aw,λb2 H5 Hd s5=>?_⟩;refine⟨_,Z,.inl ⟨Z,_,aJ.of (s5 _ _ dl)⟩,?_⟩;obtain⟨a1,xs1,rfl,h1,q1⟩:=Hd.fg;have e1:=q1.jg;subst e1;obtain⟨a0,xs0,rfl,h0,q0⟩:=(RD.mono s5 _ rb).fg;have e0:=q0.jg;subst e0;refine⟨_,Z,_,Z,a1,a0,Z,⟨_,h1⟩,⟨_,h0⟩,λD H6 nw=>?_⟩;refine vd (K:=K) (b1:=false) (b2:=false) (ds:=(iE ns i).map PyData.int) [] rfl h1 h0 nw (by simp[iE]) (by simpa[iE]using hz) (lG _) ?_ ?_
   ·intro j x y d H7 Q' ex ey ed s7 hq
    obtain⟨m,em,rfl⟩:=mH ed;unfold iE at em;rw[cH]at em ex ey;rw[cH]at ex ey;cases en:ns[j]? with |none=>rw[en]at em;cases em |some n=>
     rw[en]at em ex ey;cases em;cases ex;cases ey;refine⟨_,Z,_,Z,_,_,Z,Z,?_⟩;have ee:(1:Int)+(i:Int)=(i:Int)+1:=by lia
     rw[ee];exact hq _ _ (aG.refl _) (dw _)
   ·intro H7 zs s7 d7 r7
    refine⟨D,_,Z,.inl ⟨aJ.of d7,λt H8 n8=>?_⟩⟩;have GF:=s5.trans (s7.trans n8.same);have mT:=GF _ _ dl;have len:=ry.length;rw[oS,GR]at len;refine⟨l,ys,_,Z,Z,mT,?_,?_⟩
    ·have:(1000:Nat)<sizeLine:=by decide
     lia
    refine⟨_,Z,?_⟩;have tt:iZ H8 (L2.upd H8 l (.lst (ys++[.ref t]))):=.qI mT;refine⟨λb o e=>?_,⟨_,bf,?_⟩,_,_,_,?_,Z⟩
    ·rw[aK (gy e n1.no)];exact GF b o (t4 b o e)
    ·rw[qF,Pc CG]
     have nt:cZ ((p8 ns).take i)=true:=iH.mpr λd hd=>iH.mp (GQ ns) d (E1 hd);exact(aP.t tt _ nt (aP.mono GF _ ry)).append (cm (RD.t tt _ (GS _) (jb (aU.of n8.at') (aP.mono n8.same _ r7))) cX)
    ·have ee:(1:Int)+(i:Int)=((i+1:Nat):Int):=by lia
     rw[ee]at Hd;exact RD.t tt _ (GS _) (RD.mono (s7.trans n8.same) _ Hd)
  ·rintro O H4 ⟨t4,⟨ys,dl,ry⟩,b,v1,v2,rb,rfl⟩
   rw[e3,DZ (by rw[GR];exact bR _)]at ry;exact⟨_,Z,k l ys H4 n1.no dl ry t4⟩
def gz(ti:Int)(q:Rat)(t:Int):Bool:=decide (ti*ti*(q.den:Int)<=t*t*q.num)
inductive WJ(K:aa)(vs:List V)(H:Hp)(Q:VK):Prop |mk (m:_)(sq:_)(t:_)(rs:_)(r:_)(f:_)(j:_)(ti:_)(q:_)(h0:vs=[m,sq,.int t])(h1:RD K H m (jf rs r f j ti))(h2:bE K H sq q)(h3:Bd 2000 q)(h4:1<=ti)(h5:ti<=100)(h6:0<=t)(h7:t.natAbs<2^2400)(h8:Q (.bl (gz ti q t)) H):WJ K vs H Q
def Nj(K:aa):Sp:=λvs H Q _=>WJ K vs H Q
theorem OJ:bF ["machine","square","t","p","q","ticks"] ["machine","square","t"] (aZ Gr):=bP aY
theorem a47(F:FA K mg "are_enough" Gr)(B:bV mg):aI P w K mg base "are_enough" 1 (Nj K):=by
 refine F.has OJ (λvs H Q E h=>?_) (λ_ _ _ _ _ _=>oB λ_ _ _=>rfl) (λf aQ A outer s H vs Q E hr h=>?_)
 ·obtain⟨m,sq,t,rs,r,f,j,ti,q,rfl,_⟩:=h
  rfl
 ·obtain⟨m,sq,t,rs,r,f,j,ti,q,rfl,rm,⟨p,rfl,hp⟩,bq,t1,t2,t0,tw,k⟩:=h
  have nd:=OJ.nd;refine⟨_,(aF (gq (pv 1) (eK K Z (n:=2) Z (cg (bJ 3 nd) (cg (bJ 4 nd) eG)))) (aF (pS 5 nd (px K (pv 0) aE)) (aH (aX (fH BG (aO bO (aO bO (pv 2) (pv 2)) (pv 3)) (aO bO (aO bO (pv 5) (pv 5)) (pv 4)) (bB _)))))),?_⟩;obtain⟨a,b,rfl,ha,hb⟩:=lJ rm;have wt:Wd t:=iB tw aB;have AJ:Wd (t*t):=iB (n:=4800) (by rw[g9];exact lH (n:=2400) (m:=2400) tw tw) aB;have m1:(ti*ti).natAbs<=100*100:=by rw[g9];exact mZ dM dM
  refine⟨_,Z,_,_,Z,hp,Z,_,_,Z,_,_,Z,Z,?_⟩;refine⟨_,Z,.inr ⟨a,_,4,.int ti,Z,Z,ha,Z,?_⟩⟩;refine⟨_,Z,_,Z,_,_,Z,Z,iS wt.bits wt.bits,_,Z,_,_,Z,Z,iS AJ.bits bq.wn.bits,?_⟩;refine⟨_,Z,_,Z,_,_,Z,Z,.of_left (cw dM dM),_,Z,_,_,Z,Z,.of_left (cw dM dM),?_⟩;exact⟨_,_,Z,Z,k⟩
theorem TU{ti t:Int}{q:Rat}(hq:0<q.num)(h0:0<=t)(h:ti*ti*(q.den:Int)<=t):gz ti q t=true:=by
 refine cR (Int.le_trans h ?_);by_cases ht:t=0
 ·subst ht;simp
 ·have e1:t*1<=t*t:=LU aw h0
  have e2:t*t*1<=t*t*q.num:=LU aw (jI h0 h0)
  lia
theorem TQ{ti:Int}{q:Rat}(h1:1<=ti):gz ti q 0=false:=by
 refine fb λh=>?_;have:=iT (iT (show 0<ti by lia) (show 0<ti by lia)) (den_pos q);simp only[AA]at h
 lia
inductive VM(K:aa)(vs:List V)(H:Hp)(Q:VK):Prop |mk (m:_)(sq:_)(rs:_)(r:_)(f:_)(j:_)(ti:_)(q:_)(h0:vs=[m,sq])(h1:RD K H m (jf rs r f j ti))(h2:bE K H sq q)(h3:Bd 2000 q)(h4:1<=ti)(h5:ti<=100)(h6:0<q.num)(h7:∀T,1<=T->T.natAbs<2^2400->gz ti q T=true->gz ti q (T-1)=false->Q (.int T) H):VM K vs H Q
def MU(K:aa):Sp:=λvs H Q _=>VM K vs H Q
theorem NK:bF ["machine","square","enough","too_few","between"] ["machine","square"] (aZ Fb):=bP aY
theorem a2Z(F:FA K mg "ticks_of" Fb)(B:bV mg)(Sw:aI P w K mg base "are_enough" 1 (Nj K)):aI P w K mg base "ticks_of" 2 (MU K):=by
 refine F.has NK (λvs H Q E h=>?_) (λ_ _ _ _ _ _=>dN λ_ _=>rfl) (λf aQ A outer s H vs Q E hr h=>?_)
 ·obtain⟨m,sq,rs,r,f,j,ti,q,rfl,_⟩:=h
  rfl
 ·obtain⟨m,sq,rs,r,f,j,ti,q,rfl,rm,rq,bq,t1,t2,hq,k⟩:=h
  have nd:=NK.nd;refine⟨_,(aF (pS 2 nd aE) (aF (nO iA (eO (cP (pf Sw hr (au (pv 0) (au (pv 1) (au (pv 2) az)))))) (aH (pS 2 nd (aO bO aE (pv 2))))) (aF (pS 3 nd (aO mF (pv 2) aE)) (aF (nO iA (ck uh (aO gG (pv 2) (pv 3)) aE (bB _)) (aF (pS 4 nd (aO mF (aO da (pv 3) (pv 2)) aE)) (aH (bN (cP (pf Sw hr (au (pv 0) (au (pv 1) (au (pv 4) az))))) (aH (pS 2 nd (pv 4))) (aH (pS 3 nd (pv 4))))))) (aH (aX (pv 2))))))),?_⟩;have lim:(ti*ti*(q.den:Int)).natAbs<2^2399:=by
   have m1:(ti*ti).natAbs<=100*100:=by rw[g9];exact mZ aw aw
   have hd:=bq.den;rw[g9];have:(q.den:Int).natAbs=q.den:=rfl;rw[this];have:=lH (n:=14) (m:=2000) (a:=(ti*ti).natAbs) (b:=q.den) (qD m1 aB) hd;exact gB this (tE aB aB)
  have p0:0<ti*ti*(q.den:Int):=iT (iT aw aw) (den_pos q);have e2:(2:Nat)^2400=2^2399*2:=Nat.pow_succ 2 2399;generalize hL:ti*ti*(q.den:Int)=L at lim p0;refine nc (λO H2=>H2=H/\∃(x:Int),O=[some m,some sq,some (.int x),none,none]/\1<=x/\x<=2*L/\gz ti q (x/2)=false) (λO _=>match O with|[_,_,some (.int x),_,_]=>(L-x).toNat|_=>0) ?_ ?_ ?_
  ·exact⟨Z,1,Z,aw,aw,TQ t1⟩
  ·rintro O H2 ⟨rfl,x,rfl,x1,xL,hx⟩
   have xw:x.natAbs<2^2400:=by lia
   refine⟨_,Z,_,Z,_,Z,m,sq,x,rs,r,f,j,ti,q,Z,rm,rq,bq,t1,t2,aw,xw,_,Z,?_⟩;cases pQ:gz ti q x with
   |false=>
    have cF:x<L:=by
     by_cases cF:x<L
     ·exact cF
     ·rw[TU hq aw aw]at pQ;cases pQ
    refine dU (λhc=>?_) (λhc=>(hc Z).elim);refine⟨_,Z,_,_,Z,Z,.of_left (cw aB aB),?_⟩;refine⟨⟨Z,_,Z,aw,aw,?_⟩,?_⟩
    ·have:2*x/2=x:=by lia
     rw[this];exact pQ
    ·show(L-2*x).toNat<(L-x).toNat
     lia |true=>
    refine dU (λhc=>nomatch hc) (λhc=>?_);refine⟨_,Z,_,_,Z,Z,⟨aB,iB (n:=2) aB aB⟩,?_⟩;refine nc (λO H3=>H3=H2/\∃(lo hi:Int)(v:Option V),O=[some m,some sq,some (.int hi),some (.int lo),v]/\0<=lo/\lo<hi/\hi<=2*L/\gz ti q lo=false/\gz ti q hi=true) (λO _=>match O with|[_,_,some (.int x),some (.int y),_]=>(x-y).toNat|_=>0) ?_ ?_ ?_
    ·exact⟨Z,x/2,x,none,Z,aw,aw,xL,hx,pQ⟩
    ·rintro O H3 ⟨rfl,lo,hi,v,rfl,l0,lh,zF,zS,uY⟩
     refine⟨_,Z,_,Z,_,_,Z,Z,_,_,Z,Z,_,Z,?_⟩;refine dU (λhc=>?_) (λhc=>?_)
     ·have hgt:hi-lo>1:=jZ hc
      refine⟨_,Z,_,Z,_,_,Z,Z,_,_,Z,Z,⟨aB,iB (n:=2) aB aB⟩,?_⟩;have mw:((lo+hi)/2).natAbs<2^2400:=by lia
      refine⟨_,Z,_,Z,_,Z,m,sq,(lo+hi)/2,rs,r,f,j,ti,q,Z,rm,rq,bq,t1,t2,aw,mw,_,Z,?_⟩;cases hm:gz ti q ((lo+hi)/2)with
      |true=>
       refine cf ?_;refine⟨_,Z,⟨Z,lo,_,_,Z,l0,aw,aw,zS,hm⟩,?_⟩;show((lo+hi)/2-lo).toNat<(hi-lo).toNat
       lia |false=>
       refine bK ?_;refine⟨_,Z,⟨Z,_,hi,_,Z,aw,aw,zF,hm,uY⟩,?_⟩;show(hi-(lo+hi)/2).toNat<(hi-lo).toNat
       lia
     ·have hle:¬hi-lo>1:=λz=>hc (cR z)
      have e:lo=hi-1:=by lia
      subst e;exact⟨_,Z,k hi aw aw uY zS⟩
    ·rintro O H2 Q1 Q2 hq ⟨v1,e1,v2,e2,i,j,e3,e4,i2,j2,e5,e6,kk,e7,q⟩
     exact⟨v1,e1,v2,e2,i,j,e3,e4,i2,j2,e5,e6,kk,e7,hq _ _ q⟩
  ·rintro O H2 Q1 Q2 hq ⟨v1,e1,v2,e2,v3,e3,m',ZT,x',rs',r',f',j',YT,q',e4,h1,h2,h3,h4,h5,h6,h7,b,eb,q⟩
   exact⟨v1,e1,v2,e2,v3,e3,m',ZT,x',rs',r',f',j',YT,q',e4,h1,h2,h3,h4,h5,h6,h7,b,eb,hq _ _ q⟩
def A7(ti:Int)(q:Rat)(T:Int):Prop:=1<=T/\gz ti q T=true/\gz ti q (T-1)=false
open Classical in
noncomputable def Eo(ti:Int)(q:Rat):Int:=if h:∃T,A7 ti q T then h.choose else 0
theorem TR{ti:Int}{q:Rat}{s t:Int}(hq:0<=q.num)(h0:0<=s)(h:s<=t)(e:gz ti q s=true):gz ti q t=true:=by refine cR (Int.le_trans (jZ e) ?_);exact LS (E8 h h h0 aw) hq
theorem YW{ti:Int}{q:Rat}{S T:Int}(hq:0<=q.num)(h1:A7 ti q S)(h2:A7 ti q T):S=T:=by
 obtain⟨a1,a2,a3⟩:=h1;obtain⟨b1,b2,b3⟩:=h2;by_cases h:S<=T-1
 ·have:=TR hq aw h a2
  rw[b3]at this;cases this
 ·by_cases h':T<=S-1
  ·have:=TR hq aw h' b2
   rw[a3]at this;cases this
  ·lia
theorem Mq{ti:Int}{q:Rat}{T:Int}(hq:0<=q.num)(h:A7 ti q T):Eo ti q=T:=by have hx:∃T,A7 ti q T:=⟨T,h⟩;unfold Eo;rw[dif_pos hx];exact YW hq hx.choose_spec h
theorem Ic{q:Rat}(h:0<q):0<q.num:=by
 have h1:=Lp.mpr (Lr h);have h2:q.num≠0:=λe=>by rw[Rat.num_eq_zero.mp e]at h;exact absurd h aB
 lia
noncomputable def oY(ti:Int)(zs:List Int)(q:Rat):ai:=.tuple [.str "step",.tuple (zs.map PyData.int),.int (Eo ti q),cY q]
theorem Eu(ti:Int)(zs:List Int)(q:Rat):fJ (oY ti zs q)=true:=by simp[oY,fJ,cZ,lG,qQ]
inductive WI(K:aa)(vs:List V)(H:Hp)(Q:VK):Prop |mk (m:_)(rv:_)(sq:_)(rs:_)(r:_)(f:_)(j:_)(ti:_)(zs:_)(q:_)(h0:vs=[m,rv,sq])(h1:RD K H m (jf rs r f j ti))(h2:oF rs r f j ti)(h3:RD K H rv (.tuple (zs.map PyData.int)))(h4:bE K H sq q)(h5:Bd 2000 q)(h6:0<q)(h7:∀v H',RD K H' v (oY ti zs q)->aG H H'->Q v H'):WI K vs H Q
def EL(K:aa):Sp:=λvs H Q _=>WI K vs H Q
theorem OI:bF ["machine","row","square"] ["machine","row","square"] (aZ Gq):=bP aY
theorem a46(F:FA K mg "step_entry" Gq)(B:bV mg)(a6H:aI P w K mg base "ticks_of" 2 (MU K)):aI P w K mg base "step_entry" 3 (EL K):=by
 refine F.has OI (λvs H Q E h=>?_) (λ_ _ _ _ _ _=>oB λ_ _ _=>rfl) (λf aQ A outer s H vs Q E hr h=>?_)
 ·obtain⟨m,rv,sq,rs,r,f,j,ti,zs,q,rfl,_⟩:=h
  rfl
 ·obtain⟨m,rv,sq,rs,r,f,j,ti,zs,q,rfl,rm,aM,rr,Rq,bq,q0,k⟩:=h
  have nd:=OI.nd;refine⟨_,(aH (aX (ek (au ba (au (pv 1) (au (pf a6H hr (au (pv 0) (au (pv 2) az))) (au (pv 2) az))))))),?_⟩;have t1:=aM.t1;have qn:0<q.num:=Ic q0;refine⟨_,Z,_,Z,_,Z,m,sq,rs,r,f,j,ti,q,Z,rm,Rq,bq,t1.1,t1.2,qn,λT T1 _ T2 T3=>?_⟩;refine⟨_,Z,bZ Z,λt H1 n1=>k (.ref t) H1 ?_ n1.same⟩;have e:=Mq aw ⟨T1,T2,T3⟩;unfold oY;rw[e];exact jb (aU.of n1.at') (cm (cV _) (cm (RD.mono n1.same _ rr) (cm (dw _) (cm (Rq.go n1.same).rd cX))))
theorem Mp{aD sp:Int}(h1:1<=sp)(h2:10<=aD):0<topR aD sp:=by
 have h0:=Ow.AW aD sp;refine Lo h0 λe=>?_;have hp:0<(sp*aD)^2:=by rw[fZ,fZ,m4,lj];exact iT (iT aw aw) (iT aw aw)
 have h2:0<=Rat.divInt (-((sp*aD)^2)) 10000:=by rw[<-Rat.neg_divInt];show 0<=-(topR aD sp);rw[<-e];decide
 have:=(xV aB).mp h2
 lia
inductive Wo(K:aa)(vs:List V)(H:Hp)(Q:VK):Prop |mk (m:_)(iv:_)(aD:_)(rs:_)(r:_)(f:_)(j:_)(t:_)(ds:_)(os:_)(h0:vs=[m,iv,.int aD])(h1:RD K H m (jf rs r f j t))(h2:oF rs r f j t)(h3:RD K H iv (.list ds))(h4:ib rs.length ds os)(h5:ds.length<=100)(h6:10<=aD)(h7:aD<=200)(h8:∀l ys H',H l=none->H' l=some (.lst ys)->aP K H' ys ((ownL j aD os).map cY)->aG H H'->Q (.ref l) H'):Wo K vs H Q
def Nd(K:aa):Sp:=λvs H Q _=>Wo K vs H Q
theorem a3F(F:FA K mg "own_bounds" Bp)(B:bV mg)(gN:GT K mg "NOUGHT" [.int 0,.int 1])(Ju:aI P w K mg base "bound_between" 7 (Bk K)):aI P w K mg base "own_bounds" 8 (Nd K):=by
 obtain⟨aN,lQ,ny⟩:=gN;refine F.has Bn (λvs H Q E h=>?_) (λ_ _ _ _ _ _=>oB λ_ _ _=>rfl) (λf aQ A outer s H vs Q E hr h=>?_)
 ·obtain⟨m,iv,aD,rs,r,f,j,t,ds,os,rfl,_⟩:=h
  rfl
 ·obtain⟨m,iv,aD,rs,r,f,j,t,ds,os,rfl,rm,aM,ri,row,hz,dh,dF,k⟩:=h
  have nd:=Bn.nd;have rN:∀H',RD K H' (.ref aN) (cY 0):=λH'=>(qX (ny H')).rd;refine⟨_,(aF (bN (eO (Hn K Z (pv 1))) (aH (aX (dj (au (fi (x:="NOUGHT") Z lQ) az)))) bQ) (aF (Hq (i0:=3) nd Z (Or.inl Z) (N:=["one","other","machine","rate"]) (js:=[none,none,some 0,some 2]) Z Z Z (kj K Z true true Z (B.at "zip") (au (pv 1) (au (Hw (EO K rfl) (pv 1) (Hr aE) Hs) az))) (λ_ _ _ _ _=>(eK K rfl (n:=2) rfl (cg (bJ 0 (show List.Nodup (["one","other","machine","rate"]:List Str) by decide+kernel)) (cg (bJ 1 (show List.Nodup (["one","other","machine","rate"]:List Str) by decide+kernel)) eG)))) (λ_ _ _ _ _=>fT) (λ_ _ _ _ _=>(pf Ju hr (au (pv 2) (au (pv 0) (au (pv 1) (au (pv 3) az))))))) (aH (aX (aO (xI K Z) (aO (xI K Z) (dj (au (fi (x:="NOUGHT") Z lQ) az)) (pv 3)) (dj (au (fi (x:="NOUGHT") Z lQ) az))))))),?_⟩;obtain⟨ia,xs,rfl,hi,iM⟩:=ri.lst_inv;have lx:=iM.length;have ll:=row.len;refine⟨_,Z,_,.inl ⟨_,hi,Z⟩,?_⟩;cases hd:xs with
  |nil=>
   subst hd;refine cf ?_;refine⟨bZ Z,λl H1 n1=>?_⟩;refine k l [.ref aN] H1 n1.no n1.at' ?_ n1.same;have e:os=[]:=by
    have:os.length=0:=by rw[<-ll,<-lx];rfl
    exact E3.mp this
   rw[e];exact cm (rN H1) cX |cons x0 xr=>
   refine bK ?_;have dX:os≠[]:=by intro e;rw[e]at ll;rw[hd]at lx;simp at ll lx;rw[ll]at lx;cases lx
   have J0:0<xs.length:=by rw[hd];simp
   refine⟨_,Z,_,Z,1,Z,ia,xs,Z,.inl ⟨hi,λtl H1 n1=>?_⟩⟩;refine⟨ia,tl,Z,⟨_,hi.go n1.same⟩,⟨_,aJ.of n1.at'⟩,λD H2 n2=>?_⟩;have et:=n1.at';rw[Ks]at et;have yS:∀(i:Nat)(o:Itm),os[i]? =some o->∀(ns:List Int)(sp:Int),o=some (ns,sp)->fw rs.length 100 ns/\1<=sp/\sp<=20:=λi o e ns sp e'=>row.ok i ns sp (by rw[e,e']);have lr:=aM.len;refine vd (K:=K) (b1:=true) (b2:=true) (xs:=xs) (ys:=xs.drop 1) (ds:=((List.range (os.length-1)).map (λi=>ownF j aD os (i+1))).map cY) _ Z (hi.go n1.same) (aJ.of et) n2 (by rw[LO];simp;lia) (by simp;lia) (wG _) ?_ ?_
   ·intro i x y d H3 Q' ex ey ed s3 hq
    have dc:=n1.same.trans s3;rw[List.getElem?_drop]at ey;obtain⟨d1,e1,r1⟩:=iM.get' i ex;obtain⟨d2,e2,r2⟩:=iM.get' (1+i) ey;obtain⟨o1,om,i1⟩:=row.get e1;obtain⟨o2,mx,i2⟩:=row.get e2;have Sg:1+i<os.length:=(dQ.mp mx).1;have lW:d=cY (betR j aD o1 o2):=by rw[cH,cH,cu (by simp;lia),vB]at ed;have:=(eg ed).symm;rw[this];show cY (betR j aD (atO os i) (atO os (i+1)))=_;rw[Ow.qj om,Ow.qj (show os[i+1]? =some o2 by rw[Nat.add_comm];exact mx)]
    subst lW;refine⟨_,Z,_,Z,_,Z,_,Z,m,x,y,aD,rs,r,f,j,t,d1,d2,o1,o2,rs.length,Z,RD.mono dc _ rm,aM.j1.1,aM.j1.2,RD.mono dc _ r1,RD.mono dc _ r2,i1,i2,yS _ _ om,yS _ _ mx,aw,dh,dF,λv H4 rv s4=>?_⟩;exact hq _ _ s4 rv.rd
   ·intro H3 zs s3 d3 r3
    have lz:=r3.length;simp at lz;refine⟨bZ Z,λl1 H4 n4=>?_⟩;refine⟨_,Z,l1,D,_,zs,Z,Z,aJ.of n4.at',aJ.of (n4.same _ _ d3),yy _ (by simp;lia),λl2 H5 n5=>?_⟩;refine⟨bZ Z,λl3 H6 n6=>?_⟩;refine⟨l2,l3,_,_,Z,Z,aJ.of (n6.same _ _ n5.at'),aJ.of n6.at',yy _ (by simp;lia),λl H7 n7=>?_⟩;have yD:aG H H6:=n1.same.trans (s3.trans (n4.same.trans (n5.same.trans n6.same)));have nl:H l=none:=by cases e:H l with |none=>rfl |some o=>have:=yD _ _ e;rw[n7.no]at this;cases this
    refine k l _ H7 nl n7.at' ?_ (yD.trans n7.same);rw[Ow.Q7 j aD dX,oQ,oQ];exact((cm (rN H7) cX).append (aP.mono (n4.same.trans (n5.same.trans (n6.same.trans n7.same))) _ r3)).append (cm (rN H7) cX)
inductive WH(K:aa)(vs:List V)(H:Hp)(Q:VK):Prop |mk (m:_)(iv:_)(l:_)(ys:_)(rs:_)(r:_)(f:_)(j:_)(t:_)(ds:_)(os:_)(g:_)(h0:vs=[m,iv,.ref l])(h1:RD K H m (jf rs r f j t))(h2:oF rs r f j t)(h3:RD K H iv (.list ds))(h4:ib rs.length ds os)(h5:ds.length<=30)(h6:H l=some (.lst ys))(h7:aP K H ys ((lst os.length g).map cY))(h8:(∀i,i<=os.length->Bd 900 (g i)))(h9:∀l ys H',H l=none->H' l=some (.lst ys)->aP K H' ys ((lst os.length (fl os.length (leadF os) (2*f) g)).map cY)->aG H H'->Q (.ref l) H'):WH K vs H Q
def Ni(K:aa):Sp:=λvs H Q _=>WH K vs H Q
theorem a45(F:FA K mg "kept_by_fall" Gp)(B:bV mg)(rH:aI P w K mg base "is_line" 1 (vS K))(pL:aI P w K mg base "lead_of" 1 (m7 K))(wY:aI P w K mg base "plus_whole" 4 (Bg K))(xg:aI P w K mg base "least" 2 (jJ K)):aI P w K mg base "kept_by_fall" 5 (Ni K):=by
 refine F.has OH (λvs H Q E h=>?_) (λ_ _ _ _ _ _=>oB λ_ _ _=>rfl) (λfa aQ A outer s H vs Q E hr h=>?_)
 · obtain⟨m,iv,l,ys,rs,r,f,j,t,ds,os,g,rfl,_⟩:=h
   rfl
 · obtain⟨m,iv,l,ys,rs,r,f,j,t,ds,os,g,rfl,rm,aM,ri,row,hz,dl,qP,bg,k⟩:=h
   have nd:=OH.nd;refine⟨_,(aF (pS 3 nd (px K (pv 0) aE)) (aF (pS 4 nd (iG (x:="list") (II K Z) Z (B.at "list") lg (au (pv 2) az))) (aF (me iA Z (a27 Z (B.at "reversed") (au (iG (x:="range") abP rfl (B.at "range") PyProof.Rows.boot_range (au (dJ K B (au (pv 1) az)) az)) az)) (bJ 5 nd) (aH (bN (cP (pf rH hr (au (px K (pv 1) (pv 5)) az))) (aH (gq (pf xg hr (au (dj (au (px K (pv 4) (pv 5)) (au (pf wY hr (au (px K (pv 4) (aO da (pv 5) aE)) (au (aO bO (aO bO aE (pv 3)) (pf pL hr (au (px K (pv 1) (pv 5)) az))) az))) az))) az)) (ug (pv 4) (pv 5) set_list))) bQ))) (aH (aX (pv 4)))))),?_⟩;obtain⟨ma,mb,rfl,hZ,jR⟩:=lJ rm;obtain⟨ia,xs,rfl,hi,iM⟩:=ri.lst_inv;have lx:=iM.length;have ll:=row.len;have lr:=aM.len;have hL:∀i m,leadF os i=some m->(2*f*(m:Int)).natAbs<2^24:=λi m e=>Mh aM.f1.1 aM.f1.2 (Ro row.wB e);have FB:∀i,i<=os.length->Bd 1700 (fl os.length (leadF os) (2*f) g i):=λi hi=>(Tj bg hL i hi).mono aw;refine⟨_,Z,.inr ⟨ma,_,2,.int f,Z,Z,hZ,Z,?_⟩⟩;refine⟨_,Z,l,ys,Z,.inl (aJ.of dl),λD H1 n1=>?_⟩;refine⟨_,Z,ia,_,Z,.inl (hi.go n1.same),_,Z,λpr H2 n2=>?_⟩;refine⟨pr,_,Z,n2.at',aw,aw,?_⟩;have eN:((xs.length:Int)).toNat=os.length:=by lia
   rw[eN];refine a9h (Pv:=λi O H5=>aG H H5/\∃zs v1,H5 D=some (.lst zs)/\aP K H5 zs ((lst os.length λk=>if os.length<=k+i then fl os.length (leadF os) (2*f) g k else g k).map cY)/\O=[some (.ref ma),some (.ref ia),some (.ref l),some (.int f),some (.ref D),v1]) ?_ ?_ ?_
   · refine⟨n1.same.trans n2.same,ys,none,n2.same _ _ n1.at',?_,Z⟩
     rw[IB (g:=λk=>if os.length<=k+0 then fl os.length (leadF os) (2*f) g k else g k) (g':=g)]
     ·exact aP.mono (n1.same.trans n2.same) _ qP
     · intro k hk
       show g k=if os.length<=k+0 then _ else g k;split
       · next h => have:k=os.length:=by lia
                   subst this;exact xx.symm
       ·rfl
   · rintro i O H3 CF ⟨s3,zs,v1,dz,rz,rfl⟩
     obtain⟨x,hx⟩:∃x,xs[os.length-1-i]? =some x:=⟨_,cu (show os.length-1-i<xs.length by lia)⟩;generalize hc:os.length-1-i=c at hx;have mq:c<os.length:=by lia
     have eI:((os.length:Int)-1-(i:Int))=(c:Int):=by lia
     rw[eI];obtain⟨d,ed,rd⟩:=iM.get' c hx;obtain⟨o,eo,it⟩:=row.get ed;have lz:=rz.length;rw[cB,rB]at lz;have A3:fQ xs (c:Int)=some x:=dB aw (by simpa using hx);refine⟨_,Z,_,Z,.inl ⟨ia,_,_,_,Z,Z,hi.go s3,A3,?_⟩⟩;refine⟨x,d,o,Z,RD.mono s3 _ rd,it,_,Z,?_⟩;cases o with
     |none=>
       refine bK ?_;refine⟨s3,zs,_,dz,?_,Z⟩;rw[IB (g:=λk=>if os.length<=k+(i+1)then fl os.length (leadF os) (2*f) g k else g k) (g':=λk=>if os.length<=k+i then fl os.length (leadF os) (2*f) g k else g k)]
       ·exact rz
       · intro k _
         show(if os.length<=k+i then _ else g k)=if os.length<=k+(i+1)then _ else g k;by_cases h1:os.length<=k+i
         ·rw[bp h1,bp aw]
         · rw[bu h1]
           by_cases h2:k=c
           ·subst h2;rw[bp aw,xu mq (Rm eo)]
           ·rw[bu aw] |some q=>
       obtain⟨ns,sp⟩:=q;refine cf ?_;have lW:=kW it;subst lW;obtain⟨eZ,_,_⟩:=row.ok c ns sp eo;obtain⟨z1,Tt⟩:∃z,zs[c+1]? =some z:=⟨_,cu (show c+1<zs.length by lia)⟩;obtain⟨z0,zR⟩:∃z,zs[c]? =some z:=⟨_,cu (show c<zs.length by lia)⟩;have R1:bE K H3 z1 (fl os.length (leadF os) (2*f) g (c+1)):=by
        obtain⟨d1,e1,r1⟩:=rz.get' (c+1) Tt;rw[cH,rC _ (show c+1<=os.length by lia)]at e1;cases e1;have:os.length<=c+1+i:=by lia
        simp only[bp this]at r1;exact nM r1
       have R0:bE K H3 z0 (g c):=by
        obtain⟨d1,e1,r1⟩:=rz.get' c zR;rw[cH,rC _ (show c<=os.length by lia)]at e1;cases e1;have:¬os.length<=c+i:=by lia
        simp only[bu this]at r1;exact nM r1
       have Kj:((c:Int)+1).toNat=c+1:=by lia
       have KJ:fQ zs ((c:Int)+1)=some z1:=dB aw (by rw[Kj];exact Tt);have KL:fQ zs (c:Int)=some z0:=dB aw (by simpa using zR);refine⟨_,Z,_,Z,.inl ⟨D,_,_,_,Z,Z,aJ.of dz,KL,?_⟩⟩;refine⟨_,Z,_,Z,_,_,Z,Z,.inl ⟨D,_,_,_,Z,Z,aJ.of dz,KJ,?_⟩⟩;refine⟨_,Z,_,_,Z,Z,.of_left (cw aB aB),?_⟩;refine⟨_,Z,_,Z,.inl ⟨ia,_,_,_,Z,Z,hi.go s3,A3,?_⟩⟩;refine⟨x,ns,sp,Z,RD.mono s3 _ rd,eZ.ne,by rw[eZ.len];lia,λH4 s4=>?_⟩;have rX:=aM.f1;refine⟨_,_,Z,Z,.of_left (cw aw aw),?_⟩;have us:=hL c _ (Cb eo);refine⟨z1,_,_,Z,R1.go s4,(FB (c+1) aw).mono aB,us,λu H5 ru s5=>?_⟩;refine⟨bZ Z,λl2 H6 n6=>?_⟩;have qO:=s4.trans (s5.trans n6.same);have Vi:=R0.go qO;have Ru:=ru.go n6.same;have B1:Bd 2000 (g c):=(bg _ aw).mono aB;have B2:Bd 2000 (fl os.length (leadF os) (2*f) g (c+1)+((2*f*(aL ns:Int):Int):Rat)):=(DB (FB (c+1) aw) us).mono aB;refine⟨l2,[z0,u],[_,_],Z,aJ.of n6.at',⟨Vi,B1,Ru,B2,trivial⟩,by simp,λc' v q e1 e2 hq=>?_⟩;have uE:mn (g c) (fl os.length (leadF os) (2*f) g (c+1)+((2*f*(aL ns:Int):Int):Rat))=q:=by
        refine nS ?_ (hq _ (by simp)) (hq _ (by simp))
        match c',e2 with |0,e2=>cases e2;exact .inl rfl |1,e2=>cases e2;exact .inr rfl
       have Rv:bE K H6 v q:=by match c',e1,e2 with |0,e1,e2=>cases e1;cases e2;exact Vi |1,e1,e2=>cases e1;cases e2;exact Ru
       have U8:=qO _ _ dz;have uz:jP zs.length (c:Int)=some c:=by unfold jP;rw[bp aw,bp aw];simp
       refine⟨_,Z,_,Z,D,zs,_,_,Z,Z,U8,uz,?_⟩;refine⟨λb o e=>?_,_,_,bf,?_,Z⟩
       ·rw[aK (gy e n1.no)];exact qO b o (s3 b o e)
       · have h:=aP.EU (i:=c) U8 (aP.mono qO _ rz) Rv.rd (wG _) (qQ _)
         rw[<-Aw]at h;have e:(lst os.length λk=>if os.length<=k+i then fl os.length (leadF os) (2*f) g k else g k).set c q=lst os.length λk=>if os.length<=k+(i+1)then fl os.length (leadF os) (2*f) g k else g k:=by
          rw[<-a5s (g:=λk=>if os.length<=k+i then fl os.length (leadF os) (2*f) g k else g k) (g':=λk=>if os.length<=k+(i+1)then fl os.length (leadF os) (2*f) g k else g k) (i:=c)]
          · have:os.length<=c+(i+1):=by lia
            simp only[bp this];rw[xy mq (Cb eo),uE]
          · intro k _ hk
            show(if os.length<=k+(i+1)then _ else g k)=if os.length<=k+i then _ else g k;by_cases h1:os.length<=k+i
            ·rw[bp h1,bp aw]
            ·rw[bu h1,bu aw]
         rw[e]at h;exact h
   · rintro O H3 ⟨s3,zs,v1,dz,rz,rfl⟩
     rw[IB (g:=λk=>if os.length<=k+os.length then fl os.length (leadF os) (2*f) g k else g k) (g':=fl os.length (leadF os) (2*f) g) (λk hk=>by show _=if os.length<=k+os.length then _ else _;rw[bp aw])]at rz;exact⟨_,Z,k D zs H3 n1.no dz rz s3⟩
def Pj(f j aD:Int)(os:List Itm):Rat:=fl os.length (leadF os) (2*f) (ownF j aD os) 1
inductive W6(K:aa)(vs:List V)(H:Hp)(Q:VK):Prop |mk (m:_)(iv:_)(aD:_)(rs:_)(r:_)(f:_)(j:_)(t:_)(ds:_)(os:_)(h0:vs=[m,iv,.int aD])(h1:RD K H m (jf rs r f j t))(h2:oF rs r f j t)(h3:RD K H iv (.list ds))(h4:ib rs.length ds os)(h5:ds.length<=30)(h6:1<=ds.length)(h7:10<=aD)(h8:aD<=200)(h9:∀v H',bE K H' v (Pj f j aD os)->aG H H'->Q v H'):W6 K vs H Q
def EF(K:aa):Sp:=λvs H Q _=>W6 K vs H Q
theorem O0:bF ["machine","items","rate"] ["machine","items","rate"] (aZ Fv):=bP aY
theorem a3B(F:FA K mg "reach_behind_first" Fv)(B:bV mg)(a70:aI P w K mg base "own_bounds" 8 (Nd K))(a7o:aI P w K mg base "kept_by_fall" 5 (Ni K)):aI P w K mg base "reach_behind_first" 9 (EF K):=by
 refine F.has O0 (λvs H Q E h=>?_) (λ_ _ _ _ _ _=>oB λ_ _ _=>rfl) (λfa aQ A outer s H vs Q E hr h=>?_)
 ·obtain⟨m,iv,aD,rs,r,f,j,t,ds,os,rfl,_⟩:=h
  rfl
 ·obtain⟨m,iv,aD,rs,r,f,j,t,ds,os,rfl,rm,aM,ri,row,hz,h1,dh,dF,k⟩:=h
  have nd:=O0.nd;refine⟨_,(aH (aX (px K (pf a7o hr (au (pv 0) (au (pv 1) (au (pf a70 hr (au (pv 0) (au (pv 1) (au (pv 2) az)))) az)))) aE))),?_⟩;have ll:=row.len;have hB:=Ow.HM aM.j1.1 aM.j1.2 dh dF row.wB;refine⟨_,Z,_,Z,_,Z,_,Z,_,Z,m,iv,aD,rs,r,f,j,t,ds,os,Z,rm,aM,ri,row,aw,dh,dF,λl1 y1 H1 nl1 d1 r1 s1=>?_⟩;refine⟨m,iv,l1,y1,rs,r,f,j,t,ds,os,ownF j aD os,Z,RD.mono s1 _ rm,aM,RD.mono s1 _ ri,row,hz,d1,r1,λi _=>(hB i).mono aB,λl2 y2 H2 Ii d2 r2 s2=>?_⟩;have ly:=r2.length;rw[cB,rB]at ly;obtain⟨z,ez⟩:∃z,y2[1]? =some z:=⟨_,cu (show 1<y2.length by lia)⟩;refine .inl ⟨l2,_,1,z,Z,Z,aJ.of d2,dB aB ez,?_⟩;obtain⟨d,ed,rd⟩:=r2.get' 1 ez;rw[cH,rC _ (show 1<=os.length by lia)]at ed;cases ed;exact k z H2 (nM rd) (s1.trans s2)
open Ow (Itm)
theorem a56{H:Hp}{v:V}{rs:List Int}{es:List ai}(h:RD K H v (.tuple (.tuple (rs.map PyData.int)::es))):∃a b ys,v= .ref a/\aU K H a (.ref b::ys)/\aU K H b (rs.map V.int):=by obtain⟨a,xs,rfl,h1,h2⟩:=h.fg;obtain⟨x1,r1,rfl,e1,h2⟩:=h2.cons_inv;obtain⟨b,ys,rfl,h3,h4⟩:=e1.fg;rw[h4.jg]at h3;exact⟨a,b,r1,Z,h1,h3⟩
def iL(z:Str):ai->Bool | .str x=>x==z |_=>false
theorem D9(z:Str)(d:ai):PyData.eqv d (.str z)=iL z d:=by cases d<;>simp[PyData.eqv,iL]
theorem TH(z:Str)(d:ai):PyData.eqv (.str z) d=iL z d:=by cases d<;>simp[PyData.eqv,iL];rw[oU];simp;exact eq_comm
theorem ZJ(d:ai):(∃z,d= .str z)\/(j8 (nk d) "str"=false/\∀z,d≠ .str z):=by cases d with |str z=>exact .inl ⟨z,Z⟩ |_=>exact .inr ⟨by simp[nk];decide,λ_ z=>nomatch z⟩
theorem YE:j8 "str" "str"=true:=by decide
def IU(d:ai):Bool:=iL "up" d||iL "down" d
def wC(c:Nat):Bool:=decide (97<=c)&&decide (c<=122)
def isNm:ai->Bool | .str x=>(decide (1<=x.length)&&decide (x.length<=8))&&x.cps.toList.all wC |_=>false
def pJ(wd v:ai):Bool:=if iL "wait" wd then gR 1 1000 v else if iL "tool" wd then IU v else iL "mark" wd&&isNm v
def yU:ai->Bool | .int i=>i !=0 |_=>true
def uj(n:Nat):ai->Bool | .tuple ds=>(ds.length==n&&ds.all (gR (-100) 100))&&ds.any yU |_=>false
def uC(n:Nat):ai->Bool | .tuple [wd,a,b]=>iL "line" wd&&(uj n a&&gR 1 20 b) | .tuple [wd,v]=>pJ wd v |_=>false
def qM:ai->Bool | .str x=>decide (x.length<=900) |_=>true
def ET:ai->Bool | .tuple ds=>ds.all qM |_=>true
inductive VG(f:ai->Bool)(K:aa)(vs:List V)(H:Hp)(Q:VK):Prop |mk (v:_)(d:_)(h0:vs=[v])(h1:RD K H v d)(h2:qM d=true)(h3:∀H',aG H H'->Q (.bl (f d)) H'):VG f K vs H Q
def MR(f:ai->Bool)(K:aa):Sp:=λvs H Q _=>VG f K vs H Q
theorem a07{z:Str}(h:qM (.str z)=true):z.length<=900:=jZ h
theorem QB(n:Nat):decide ((1:Int)<=(n:Int))=decide (1<=n):=by rw[oU];simp;omega
theorem a4I(n:Nat):decide ((n:Int)<=8)=decide (n<=8):=by rw[oU];simp;omega
theorem acw{l:List Nat}{f:Nat->Bool}:(l.map f).all id=l.all f:=by rw[List.all_map];rfl
theorem acI:∀c<128,decide (c∈jU.cps.toList)=wC c:=by decide+kernel
theorem acL:∀c∈jU.cps.toList,c<128:=by decide+kernel
theorem acK(c:Nat):decide (c∈jU.cps.toList)=wC c:=by
 by_cases h:c<128
 ·exact acI c h
 ·rw[fb (λhc=>h (acL c hc)),wC,fb (show¬c<=122 by omega),Bool.and_false]
theorem OD:bF ["thing"] ["thing"] (aZ Gj):=bP aY
theorem a41(F:FA K mg "is_name" Gj)(B:bV mg)(a8f:GV mg "LONGEST_NAME" (.int 8))(a8g:GV mg "LETTERS" (.str jU)):aI P w K mg base "is_name" 1 (MR isNm K):=by
 refine F.has OD (λvs H Q E h=>?_) (λ_ _ _ _ _ _=>eR λ_=>rfl) (λf aQ A outer s H vs Q E hr h=>?_)
 ·obtain⟨v,d,rfl,_⟩:=h
  rfl
 ·obtain⟨v,d,rfl,rd,sh,k⟩:=h
  have nd:=OD.nd;refine⟨_,(aF (bN (PW.pt (kQ (eO (cP (dS K B (au (pv 0) (au (dk (x:="str") (v:=.ty "str") Z (B.at "str") qB rfl) az))))) (lF (eO (a1R wx wx aE (dG (x:="len") abR rfl (B.at "len") PySem.boot_len (au (pv 0) az)) (fi (x:="LONGEST_NAME") rfl a8f)))))) (aH (aX ij)) bQ) (aH (aX (dG (x:="all") (qk K Z Z) Z (B.at "all") tD (au (gE (N:=["letter"]) (js:=[none]) rfl rfl rfl (a26 (pv 0)) (λ_ _ _ _ _=>(bJ 0 (ur _))) (λ_ _ _ _ _=>fT) (λ_ _ _ _ _=>(fH a2F (pv 0) (fi (x:="LETTERS") rfl a8g) (by with_unfolding_all rfl)))) az))))),?_⟩;rcases ZJ d with⟨z,rfl⟩|⟨ht,hn⟩
  ·refine⟨_,Z,.inl ⟨_,_,"str",true,Z,rd.ty,aB,YE,_,Z,bK ?_⟩⟩
   cases rd.str_inv;have hl:=a07 sh;have k:∀H',aG H H'->Q (.bl ((decide (1<=z.length)&&decide (z.length<=8))&&z.cps.toList.all wC)) H':=k;refine⟨_,Z,z,Z,iQ hl aB,_,_,Z,Z,_,Z,?_⟩;refine dU (λh1=>?_) (λh1=>?_)
   ·rw[<-QB,show decide ((1:Int)<=(z.length:Int))=true from h1,kJ]at k
    refine⟨_,_,Z,Z,_,Z,?_⟩;rw[a4I];cases e8:decide (z.length<=8)with |false=>rw[e8,lB]at k;exact cf (k H (aG.refl _)) |true=>
     rw[e8,kJ]at k;refine bK ⟨_,Z,z,Z,λD H0 nw=>?_⟩;refine abB (f:=wC) [] nw aw (λc H2 Q' hc s2 hq=>?_) (λH2 s2 d2=>?_)
     ·refine⟨_,Z,c,jU,Z,Z,?_⟩
      rw[acK];exact hq _ (aG.refl _)
     ·refine⟨D,_,Z,aJ.of d2,?_⟩
      rw[acw];exact k H2 s2
   ·rw[<-QB,show decide ((1:Int)<=(z.length:Int))=false from y6.mpr h1,lB,lB]at k
    exact⟨_,Z,cf (k H (aG.refl _))⟩
  ·have e:isNm d=false:=by cases d<;>first|rfl|exact absurd rfl (hn _)
   rw[e]at k;refine⟨_,Z,.inl ⟨_,_,"str",false,Z,rd.ty,aB,ht,_,Z,cf ?_⟩⟩;exact k H (aG.refl _)
inductive VT(K:aa)(vs:List V)(H:Hp)(Q:VK):Prop |mk (x:_)(v:_)(wd:_)(d:_)(h0:vs=[x,v])(h1:RD K H x wd)(h2:RD K H v d)(h3:dP 8 wd)(h4:dP 8 d)(h5:qM d=true)(h6:∀H',aG H H'->Q (.bl (pJ wd d)) H'):VT K vs H Q
def MY(K:aa):Sp:=λvs H Q _=>VT K vs H Q
theorem yz{d:ai}(h:dP 8 d):SeqAt.shaped d=true:=h.shaped aB
theorem OB:bF ["word","value"] ["word","value"] (aZ Gh):=bP aY
theorem a3Z(F:FA K mg "is_short_item" Gh)(B:bV mg)(a8e:GV mg "LONGEST_WAIT" (.int 1000))(gS:GT K mg "SIDES" [.str "up",.str "down"])(pP:aI P w K mg base "is_whole_within" 2 (tT K))(a7u:aI P w K mg base "is_name" 1 (MR isNm K)):aI P w K mg base "is_short_item" 3 (MY K):=by
 refine F.has OB (λvs H Q E h=>?_) (λ_ _ _ _ _ _=>dN λ_ _=>rfl) (λf aQ A outer s H vs Q E hr h=>?_)
 ·obtain⟨x,v,wd,d,rfl,_⟩:=h
  rfl
 ·obtain⟨x,v,wd,d,rfl,GH,rd,HR,yT,sh,k⟩:=h
  have nd:=OB.nd;obtain⟨aS,a83,ZR⟩:=gS;refine⟨_,(aF (bN (ck (cW K Z hr.units) (pv 0) ba (bB _)) (aH (aX (pf pP hr (au (pv 1) (au aE (au (fi (x:="LONGEST_WAIT") Z a8e) az)))))) bQ) (aF (bN (ck (cW K Z hr.units) (pv 0) ba (bB _)) (aH (aX (fH (a6p K Z (hr.YA)) (pv 1) (fi (x:="SIDES") Z a83) (by with_unfolding_all rfl)))) bQ) (aH (aX (iV (fH (cW K Z hr.units) (pv 0) ba (bB _)) (jd (pf a7u hr (au (pv 1) az)))))))),?_⟩;have k:∀H',aG H H'->Q (.bl (if iL "wait" wd then gR 1 1000 d else if iL "tool" wd then IU d else iL "mark" wd&&isNm d)) H':=k;refine⟨_,Z,.inr ⟨_,_,GH,cV _,yz HR,aY,_,Z,?_⟩⟩;rw[D9];cases e1:iL "wait" wd with |true=>rw[e1,bp rfl]at k;exact cf ⟨_,Z,_,d,1,1000,Z,rd,k H (aG.refl _)⟩ |false=>rw[e1,bu kK]at k;refine bK ⟨_,Z,.inr ⟨_,_,GH,cV _,yz HR,aY,_,Z,?_⟩⟩;rw[D9];cases e2:iL "tool" wd with
   |true=>
    rw[e2,bp rfl]at k;refine cf ⟨_,Z,aS,_,d,[.str "up",.str "down"],Z,ZR H,rd,cm (cV _) (cm (cV _) cX),yz yT,?_,?_⟩
    ·intro e he
     rcases bM.mp he with rfl|he
     ·decide+kernel
     rcases bM.mp he with rfl|he
     ·decide+kernel
     ·exact(cL he).elim
    ·have e:([.str "up",.str "down"]:List ai).any (λe=>PyData.eqv e d)=IU d:=by rw[vF,vF,List.any_nil,TH,TH,Bool.or_false];rfl
     rw[e];exact k H (aG.refl _) |false=>rw[e2,bu kK]at k;refine bK ⟨_,Z,.inr ⟨_,_,GH,cV _,yz HR,aY,_,Z,?_⟩⟩;rw[D9];cases e3:iL "mark" wd with |true=>rw[e3,kJ]at k;exact cf ⟨_,Z,_,d,Z,rd,sh,k⟩ |false=>rw[e3,lB]at k;exact bK (k H (aG.refl _))
theorem a4l(i:Int):(!decide (i=0))=(i !=0):=by rw[oU];simp
theorem a6o{lo hi:Int}{d:ai}(h:gR lo hi d=true):∃i,d= .int i:=by cases d<;>simp[gR]at h;exact⟨_,Z⟩
theorem any_map'{ds:List ai}{f:ai->Bool}:(ds.map f).any id=ds.any f:=by rw[List.any_map];rfl
inductive VR(K:aa)(vs:List V)(H:Hp)(Q:VK):Prop |mk (m:V)(v:V)(rs:List Int)(es:List ai)(d:ai)(h0:vs=[m,v])(h1:RD K H m ((.tuple (.tuple (rs.map PyData.int)::es))))(h2:RD K H v d)(h3:rs.length<=3)(h4:∀H',aG H H'->Q (.bl (uj rs.length d)) H'):VR K vs H Q
def MW(K:aa):Sp:=λvs H Q _=>VR K vs H Q
theorem OS:bF ["machine","thing","rails"] ["machine","thing"] (aZ GA):=bP aY
theorem a4f(F:FA K mg "are_steps" GA)(B:bV mg)(SA:GV mg "MOST_STEPS" (.int 100))(pP:aI P w K mg base "is_whole_within" 2 (tT K)):aI P w K mg base "are_steps" 3 (MW K):=by
 refine F.has OS (λvs H Q E h=>?_) (λ_ _ _ _ _ _=>dN λ_ _=>rfl) (λf aQ A outer s H vs Q E hr h=>?_)
 ·obtain⟨m,v,rs,es,d,rfl,_⟩:=h
  rfl
 ·obtain⟨m,v,rs,es,d,rfl,rm,rd,l3,k⟩:=h
  have nd:=OS.nd;refine⟨_,(aF (pS 2 nd (px K (pv 0) aE)) (aF (bN (PW.pt (kQ (eO (cP (dS K B (au (pv 1) (au (dk (x:="tuple") (v:=.ty "tuple") Z (B.at "tuple") fY rfl) az))))) (lF (ck (jv K rfl hr.units) (dJ K B (au (pv 1) az)) (dJ K B (au (pv 2) az)) (bB _))))) (aH (aX ij)) bQ) (aF (bN (eO (cP (dG (x:="all") (qk K Z Z) Z (B.at "all") tD (au (gE (N:=["step"]) (js:=[none]) rfl rfl rfl (qS K rfl (pv 1)) (λ_ _ _ _ _=>(bJ 0 (ur _))) (λ_ _ _ _ _=>fT) (λ_ _ _ _ _=>(pf pP hr (au (pv 0) (au (yM yd (fi (x:="MOST_STEPS") rfl SA)) (au (fi (x:="MOST_STEPS") rfl SA) az)))))) az)))) (aH (aX ij)) bQ) (aH (aX (dG (x:="any") (V8 K Z Z) Z (B.at "any") XT (au (gE (N:=["step"]) (js:=[none]) rfl rfl rfl (qS K rfl (pv 1)) (λ_ _ _ _ _=>(bJ 0 (ur _))) (λ_ _ _ _ _=>fT) (λ_ _ _ _ _=>(fH (jv K rfl hr.units) (pv 0) aE (bB _)))) az))))))),?_⟩;obtain⟨am,ar,ym,rfl,hm,har⟩:=a56 rm;refine⟨_,Z,.inr ⟨am,_,0,_,Z,Z,hm,dB (gO 0) Z,?_⟩⟩;rcases El d with⟨ds,rfl⟩|⟨ht,hn⟩
  ·refine⟨_,Z,.inl ⟨_,_,"tuple",true,Z,rd.ty,aB,yf,_,Z,bK ?_⟩⟩
   obtain⟨av,xs,rfl,hx,hd⟩:=rd.fg;have hl:=hd.length;refine⟨_,Z,av,_,Z,.inr hx,_,Z,ar,_,Z,.inr har,.inl ⟨_,_,Z,Z,_,Z,?_⟩⟩;have k:∀H',aG H H'->Q (.bl ((ds.length==rs.length&&ds.all (gR (-100) 100))&&ds.any yU)) H':=k;have e0:(!decide ((xs.length:Int)=((rs.map V.int).length:Int)))= !(ds.length==rs.length):=by rw[hl,cB];congr 1;rw[oU];simp;lia
   rw[e0];cases e:(ds.length==rs.length)with |false=>rw[e,lB,lB]at k;exact cf (k H (aG.refl _)) |true=>
    rw[e,kJ]at k;refine bK ?_;have el:ds.length=rs.length:=gh.mp e;refine⟨_,Z,av,Z,⟨_,hx⟩,λD H0 nw=>?_⟩;refine Ux (xs:=xs) (bs:=ds.map (gR (-100) 100)) [] hx nw (by rw[cB,hl]) aw ?_ ?_
    ·intro i x b H2 Q' ex eb s2 hq
     obtain⟨d,ed,rfl⟩:=QP eb;obtain⟨x',pX,rx⟩:=hd.get i ed;rw[ex]at pX;cases pX;exact⟨_,Z,_,Z,_,d,-100,100,Z,RD.mono s2 _ rx,hq _ (aG.refl _)⟩
    ·intro H2 s2 d2
     refine⟨D,_,Z,aJ.of d2,_,Z,?_⟩;rw[all_map];cases e1:ds.all (gR (-100) 100)with |false=>rw[e1,lB]at k;exact cf (k H2 s2) |true=>
      rw[e1,kJ]at k;refine bK ⟨_,Z,av,Z,⟨_,hx.go s2⟩,λD2 H3 n3=>?_⟩;refine Ux (xs:=xs) (bs:=ds.map yU) [] (hx.go s2) n3 (by rw[cB,hl]) aw ?_ ?_
      ·intro i x b H4 Q' ex eb s4 hq
       obtain⟨d,ed,rfl⟩:=QP eb;obtain⟨x',pX,rx⟩:=hd.get i ed;rw[ex]at pX;cases pX;obtain⟨z,rfl⟩:=a6o (j7.mp e1 d (gX ed));cases rx.int_inv;refine⟨_,Z,.inl ⟨_,_,Z,Z,?_⟩⟩;show Q' (.bl (!decide (z=0))) H4;rw[a4l];exact hq _ (aG.refl _)
      ·intro H4 s4 d4
       refine⟨D2,_,Z,aJ.of d4,?_⟩;rw[any_map'];exact k H4 (s2.trans s4)
  ·have e:uj rs.length d=false:=by cases d<;>first|rfl|exact absurd rfl (hn _)
   rw[e]at k;refine⟨_,Z,.inl ⟨_,_,"tuple",false,Z,rd.ty,aB,ht,_,Z,cf ?_⟩⟩;exact k H (aG.refl _)
theorem item_cases(n:Nat)(d:ai):(∃wd a b,d= .tuple [wd,a,b])\/(∃wd v,d= .tuple [wd,v])\/(∃ds,d= .tuple ds/\ds.length≠3/\ds.length≠2/\uC n d=false)\/(j8 (nk d) "tuple"=false/\uC n d=false):=by
 rcases El d with⟨ds,rfl⟩|⟨ht,hn⟩
 ·match ds with |[r,a,b]=>exact .inl ⟨r,a,b,Z⟩ |[r,a]=>exact .inr (.inl ⟨r,a,Z⟩) |[]=>exact .inr (.inr (.inl ⟨_,Z,by simp,by simp,by simp[uC]⟩)) |[_]=>exact .inr (.inr (.inl ⟨_,Z,by simp,by simp,by simp[uC]⟩)) |_::_::_::_::_=>exact .inr (.inr (.inl ⟨_,Z,by simp,by simp,by simp[uC]⟩))
 ·exact .inr (.inr (.inr ⟨ht,by cases d<;>first|rfl|exact absurd rfl (hn _)⟩))
inductive WB(K:aa)(vs:List V)(H:Hp)(Q:VK):Prop |mk (m:V)(v:V)(rs:List Int)(es:List ai)(d:ai)(h0:vs=[m,v])(h1:RD K H m ((.tuple (.tuple (rs.map PyData.int)::es))))(h2:RD K H v d)(h3:rs.length<=3)(h4:dP 8 d)(h5:ET d=true)(h6:∀H',aG H H'->Q (.bl (uC rs.length d)) H'):WB K vs H Q
def Bi(K:aa):Sp:=λvs H Q _=>WB K vs H Q
theorem HV{ds:List ai}(h:dP 8 (.tuple ds)){d:ai}(hd:d∈ds):dP 8 d:=((dP.fg (n:=7) h) d hd).le aB
theorem sh8{ds:List ai}(h:ET (.tuple ds)=true){d:ai}(hd:d∈ds):qM d=true:=j7.mp (show ds.all qM=true from h) d hd
theorem OE:bF ["machine","thing","word","steps","speed","value"] ["machine","thing"] (aZ Gk):=bP aY
theorem a42(F:FA K mg "is_item" Gk)(B:bV mg)(a8i:GV mg "GREATEST_SPEED" (.int 20))(pP:aI P w K mg base "is_whole_within" 2 (tT K))(a7X:aI P w K mg base "are_steps" 3 (MW K))(a7s:aI P w K mg base "is_short_item" 3 (MY K)):aI P w K mg base "is_item" 4 (Bi K):=by
 refine F.has OE (λvs H Q E h=>?_) (λ_ _ _ _ _ _=>dN λ_ _=>rfl) (λf aQ A outer s H vs Q E hr h=>?_)
 ·obtain⟨m,v,rs,es,d,rfl,_⟩:=h
  rfl
 ·obtain⟨m,v,rs,es,d,rfl,rm,rd,l3,yT,sh,k⟩:=h
  have nd:=OE.nd;refine⟨_,(aF (bN (eO (cP (dS K B (au (pv 1) (au (dk (x:="tuple") (v:=.ty "tuple") Z (B.at "tuple") fY rfl) az))))) (aH (aX ij)) bQ) (aF (bN (ck (cW K Z hr.units) (dJ K B (au (pv 1) az)) aE (bB _)) (aF (gq (pv 1) (eK K Z (n:=3) Z (cg (bJ 2 nd) (cg (bJ 3 nd) (cg (bJ 4 nd) eG))))) (aH (aX (iV (fH (cW K Z hr.units) (pv 2) ba (bB _)) (iV (pf a7X hr (au (pv 0) (au (pv 3) az))) (jd (pf pP hr (au (pv 4) (au aE (au (fi (x:="GREATEST_SPEED") Z a8i) az)))))))))) bQ) (aF (bN (ck (cW K Z hr.units) (dJ K B (au (pv 1) az)) aE (bB _)) (aF (gq (pv 1) (eK K Z (n:=2) Z (cg (bJ 2 nd) (cg (bJ 5 nd) eG)))) (aH (aX (pf a7s hr (au (pv 2) (au (pv 5) az)))))) bQ) (aH (aX ij))))),?_⟩;rcases item_cases rs.length d with⟨wd,a,b,rfl⟩|⟨wd,a,rfl⟩|⟨ds,rfl,h3,h2,hf⟩|⟨ht,hf⟩
  ·refine⟨_,Z,.inl ⟨_,_,"tuple",true,Z,rd.ty,aB,yf,_,Z,bK ?_⟩⟩
   obtain⟨p,xs,rfl,hx,hd⟩:=rd.fg;obtain⟨u1,ys,rfl,r1,hd⟩:=hd.cons_inv;obtain⟨u2,ys,rfl,r2,hd⟩:=hd.cons_inv;obtain⟨u3,ys,rfl,r3,hd⟩:=hd.cons_inv;cases hd.nil_inv;have k:∀H',aG H H'->Q (.bl (iL "line" wd&&(uj rs.length a&&gR 1 20 b))) H':=k;refine⟨_,Z,p,_,Z,.inr hx,.inl ⟨_,_,Z,Z,_,Z,cf ?_⟩⟩;refine⟨_,Z,p,_,Z,hx,Z,_,_,Z,_,_,Z,_,_,Z,Z,?_⟩;refine⟨_,Z,.inr ⟨_,_,r1,cV _,yz (HV yT (by simp)),aY,_,Z,?_⟩⟩;rw[D9];cases e1:iL "line" wd with |false=>rw[e1,lB]at k;exact bK (k H (aG.refl _)) |true=>rw[e1,kJ]at k;refine cf ⟨_,Z,_,Z,_,_,rs,es,a,Z,rm,r2,l3,λH1 s1=>⟨_,Z,?_⟩⟩;cases e2:uj rs.length a with |false=>rw[e2,lB]at k;exact bK (k H1 s1) |true=>rw[e2,kJ]at k;exact cf ⟨_,Z,_,b,1,20,Z,RD.mono s1 _ r3,k H1 s1⟩
  ·refine⟨_,Z,.inl ⟨_,_,"tuple",true,Z,rd.ty,aB,yf,_,Z,bK ?_⟩⟩
   obtain⟨p,xs,rfl,hx,hd⟩:=rd.fg;obtain⟨u1,ys,rfl,r1,hd⟩:=hd.cons_inv;obtain⟨u2,ys,rfl,r2,hd⟩:=hd.cons_inv;cases hd.nil_inv;have k:∀H',aG H H'->Q (.bl (pJ wd a)) H':=k;refine⟨_,Z,p,_,Z,.inr hx,.inl ⟨_,_,Z,Z,_,Z,bK ?_⟩⟩;refine⟨_,Z,p,_,Z,.inr hx,.inl ⟨_,_,Z,Z,_,Z,cf ?_⟩⟩;refine⟨_,Z,p,_,Z,hx,Z,_,_,Z,_,_,Z,Z,?_⟩;exact⟨_,Z,_,Z,_,_,wd,a,Z,r1,r2,HV yT (by simp),HV yT (by simp),sh8 sh (by simp),k⟩
  ·rw[hf]at k
   refine⟨_,Z,.inl ⟨_,_,"tuple",true,Z,rd.ty,aB,yf,_,Z,bK ?_⟩⟩;obtain⟨p,xs,rfl,hx,hd⟩:=rd.fg;have hl:=hd.length;refine⟨_,Z,p,_,Z,.inr hx,.inl ⟨_,_,Z,Z,_,Z,?_⟩⟩;rw[show decide ((xs.length:Int)=3)=false from fb aw];refine bK ⟨_,Z,p,_,Z,.inr hx,.inl ⟨_,_,Z,Z,_,Z,?_⟩⟩;rw[show decide ((xs.length:Int)=2)=false from fb aw];exact bK (k H (aG.refl _))
  ·rw[hf]at k
   refine⟨_,Z,.inl ⟨_,_,"tuple",false,Z,rd.ty,aB,ht,_,Z,cf ?_⟩⟩;exact k H (aG.refl _)
def IV(rs:List Int):ai->Bool | .tuple es=>es.length==rs.length&&((es.zip rs).map λp=>gR 0 p.2 p.1).all id |_=>false
inductive WD(K:aa)(vs:List V)(H:Hp)(Q:VK):Prop |mk (m:V)(v:V)(rs:List Int)(ds:List ai)(d:ai)(h0:vs=[m,v])(h1:RD K H m (.tuple (.tuple (rs.map PyData.int)::ds)))(h2:RD K H v d)(h3:rs.length<=3)(h4:∀H',aG H H'->Q (.bl (IV rs d)) H'):WD K vs H Q
def Bj(K:aa):Sp:=λvs H Q _=>WD K vs H Q
theorem zip_get{es:List ai}{rs:List Int}{i:Nat}{b:Bool}(h:((es.zip rs).map λp=>gR 0 p.2 p.1)[i]? =some b):∃e r,es[i]? =some e/\rs[i]? =some r/\gR 0 r e=b:=by rw[cH]at h;cases q:(es.zip rs)[i]? with |none=>rw[q]at h;cases h |some p=>rw[q]at h;obtain⟨e1,e2⟩:=xY.mp q;exact⟨p.1,p.2,e1,e2,eg h⟩
theorem ints_get{rs:List Int}{i:Nat}{r:Int}(h:rs[i]? =some r):(rs.map V.int)[i]? =some (.int r):=by rw[cH,h];rfl
theorem OC:bF ["machine","thing","rails"] ["machine","thing"] (aZ Gi):=bP aY
theorem a40(F:FA K mg "is_place" Gi)(B:bV mg)(pP:aI P w K mg base "is_whole_within" 2 (tT K)):aI P w K mg base "is_place" 3 (Bj K):=by
 refine F.has OC (λvs H Q E h=>?_) (λ_ _ _ _ _ _=>dN λ_ _=>rfl) (λf aQ A outer s H vs Q E hr h=>?_)
 ·obtain⟨m,v,rs,ds,d,rfl,_⟩:=h
  rfl
 ·obtain⟨m,v,rs,ds,d,rfl,rm,rd,l3,k⟩:=h
  have nd:=OC.nd;refine⟨_,(aF (pS 2 nd (px K (pv 0) aE)) (aF (bN (PW.pt (kQ (eO (cP (dS K B (au (pv 1) (au (dk (x:="tuple") (v:=.ty "tuple") Z (B.at "tuple") fY rfl) az))))) (lF (ck (jv K rfl hr.units) (dJ K B (au (pv 1) az)) (dJ K B (au (pv 2) az)) (bB _))))) (aH (aX ij)) bQ) (aH (aX (dG (x:="all") (qk K Z Z) Z (B.at "all") tD (au (gE (N:=["number","rail"]) (js:=[none,none]) rfl rfl rfl (kj K rfl false false rfl (B.at "zip") (au (pv 1) (au (pv 2) az))) (λ_ _ _ _ _=>(eK K rfl (n:=2) rfl (cg (bJ 0 (gc aB)) (cg (bJ 1 (gc aB)) eG)))) (λ_ _ _ _ _=>fT) (λ_ _ _ _ _=>(pf pP hr (au (pv 0) (au aE (au (pv 1) az)))))) az)))))),?_⟩;obtain⟨am,xm,rfl,hm,hdm⟩:=rm.fg;obtain⟨yr,ym,rfl,r1,ae8⟩:=hdm.cons_inv;obtain⟨ar,xr,rfl,Cq,hdr⟩:=r1.fg;cases hdr.jg;refine⟨_,Z,.inr ⟨am,_,0,_,Z,Z,hm,dB (gO 0) Z,?_⟩⟩;rcases El d with⟨es,rfl⟩|⟨ht,hn⟩
  ·refine⟨_,Z,.inl ⟨_,_,"tuple",true,Z,rd.ty,aB,yf,_,Z,bK ?_⟩⟩
   obtain⟨av,xs,rfl,hx,hd⟩:=rd.fg;have hl:=hd.length;refine⟨_,Z,av,_,Z,.inr hx,_,Z,ar,_,Z,.inr Cq,.inl ⟨_,_,Z,Z,_,Z,?_⟩⟩;have k:∀H',aG H H'->Q (.bl (es.length==rs.length&&((es.zip rs).map λp=>gR 0 p.2 p.1).all id)) H':=k;have e0:(decide ((xs.length:Int)=((rs.map V.int).length:Int)))=(es.length==rs.length):=by rw[hl,cB,oU];simp;lia
   rw[e0];cases e:(es.length==rs.length)with |false=>rw[e,lB]at k;exact cf (k H (aG.refl _)) |true=>
    rw[e,kJ]at k;refine bK ?_;have el:es.length=rs.length:=gh.mp e;refine⟨_,Z,_,Z,av,ar,Z,⟨_,hx⟩,⟨_,Cq⟩,λD H0 nw=>?_⟩;refine Uw (b1:=false) (b2:=false) (xs:=xs) (ys:=rs.map V.int) (bs:=(es.zip rs).map λp=>gR 0 p.2 p.1) [] rfl hx Cq nw (by rw[cB,cB,List.length_zip,hl]) (by rw[cB,List.length_zip];lia) ?_ ?_
    ·intro i x y b H2 Q' ex ey eb s2 hq
     obtain⟨e',r,ee,er,rfl⟩:=zip_get eb;obtain⟨x',pX,rx⟩:=hd.get i ee;rw[ex]at pX;cases pX;rw[ints_get er]at ey;cases ey;exact⟨_,Z,_,Z,_,e',0,r,Z,RD.mono s2 _ rx,hq _ (aG.refl _)⟩
    ·intro H2 s2 d2
     exact⟨D,_,Z,aJ.of d2,k H2 s2⟩
  ·have e:IV rs d=false:=by cases d<;>first|rfl|exact absurd rfl (hn _)
   rw[e]at k;refine⟨_,Z,.inl ⟨_,_,"tuple",false,Z,rd.ty,aB,ht,_,Z,cf ?_⟩⟩;exact k H (aG.refl _)
inductive Wt(K:aa)(vs:List V)(H:Hp)(Q:VK):Prop |mk (pw:_)(b:_)(pl:_)(ns:_)(h0:vs=[pw,.ref b])(h1:RD K H pw (fu pl))(h2:aU K H b (ns.map V.int))(h3:ns.length=pl.length)(h4:pl.length<=1000)(h5:∀v' H',RD K H' v' (fu (fK pl ns))->aG H H'->Q v' H'):Wt K vs H Q
def Bh(K:aa):Sp:=λvs H Q _=>Wt K vs H Q
theorem Of:bF ["place","steps"] ["place","steps"] (aZ G0):=bP aY
theorem a3J(F:FA K mg "moved" G0)(B:bV mg):aI P w K mg base "moved" 1 (Bh K):=by
 refine F.has Of (λvs H Q E h=>?_) (λ_ _ _ _ _ _=>dN λ_ _=>rfl) (λf aQ A outer s H vs Q E hr h=>?_)
 ·obtain⟨pw,b,pl,ns,rfl,_⟩:=h
  rfl
 ·obtain⟨pw,b,pl,ns,rfl,rp,hb,ln,hz,k⟩:=h
  have nd:=Of.nd;refine⟨_,(aH (aX (iG (x:="tuple") (lD K Z) Z (B.at "tuple") fY (au (gE (N:=["number","step"]) (js:=[none,none]) rfl rfl rfl (kj K rfl false false rfl (B.at "zip") (au (pv 0) (au (pv 1) az))) (λ_ _ _ _ _=>(eK K rfl (n:=2) rfl (cg (bJ 0 (gc aB)) (cg (bJ 1 (gc aB)) eG)))) (λ_ _ _ _ _=>fT) (λ_ _ _ _ _=>(aO da (pv 0) (pv 1)))) az)))),?_⟩;obtain⟨pa,rfl,hp⟩:=uf rp;refine⟨_,Z,_,Z,pa,b,Z,⟨_,hp⟩,⟨_,hb⟩,λD H1 n1=>?_⟩;refine vd (K:=K) (b1:=false) (b2:=false) (xs:=pl.map V.int) (ys:=ns.map V.int) (ds:=(fK pl ns).map PyData.int) [] rfl hp hb n1 (by simp[qo ln,ln]) (by rw[cB,qo ln];exact hz) (lG _) ?_ ?_
  ·intro i x y d H2 Q' ex ey ed s2 hq
   obtain⟨m,em,rfl⟩:=mH ed;rw[cH]at ex ey;cases e1:pl[i]? with |none=>rw[e1]at ex;cases ex |some u=>cases e2:ns[i]? with |none=>rw[e2]at ey;cases ey |some v=>rw[e1]at ex;rw[e2]at ey;cases ex;cases ey;rw[A4 e1 e2]at em;cases em;exact⟨_,Z,_,Z,_,_,Z,Z,hq _ _ (aG.refl _) (dw _)⟩
  ·intro H2 zs s2 d2 r2
   refine⟨D,_,Z,.inl ⟨aJ.of d2,λt H3 n3=>?_⟩⟩;have et:=n3.at';rw[r2.jg]at et;exact k (.ref t) H3 (wk (aU.of et)) (s2.trans n3.same)
inductive WQ(K:aa)(vs:List V)(H:Hp)(Q:VK):Prop |mk (pw:_)(iv:_)(pl:_)(d:_)(o:_)(h0:vs=[pw,iv])(h1:RD K H pw (fu pl))(h2:RD K H iv d)(h3:itR d o)(h4:(∀ns sp,o=some (ns,sp)->ns.length=pl.length))(h5:pl.length<=1000)(h6:∀v' H',RD K H' v' (fu (gf pl o))->aG H H'->Q v' H'):WQ K vs H Q
def vT(K:aa):Sp:=λvs H Q _=>WQ K vs H Q
theorem OP:bF ["place","item"] ["place","item"] (aZ Gy):=bP aY
theorem a4d(F:FA K mg "place_behind" Gy)(B:bV mg)(rH:aI P w K mg base "is_line" 1 (vS K))(Jh:aI P w K mg base "moved" 1 (Bh K)):aI P w K mg base "place_behind" 2 (vT K):=by
 refine F.has OP (λvs H Q E h=>?_) (λ_ _ _ _ _ _=>dN λ_ _=>rfl) (λf aQ A outer s H vs Q E hr h=>?_)
 ·obtain⟨pw,iv,pl,d,o,rfl,_⟩:=h
  rfl
 ·obtain⟨pw,iv,pl,d,o,rfl,rp,ri,it,hl,hz,k⟩:=h
  have nd:=OP.nd;refine⟨_,(aH (aX (PV (cP (pf rH hr (au (pv 1) az))) (pf Jh hr (au (pv 0) (au (px K (pv 1) aE) az))) (pv 0)))),?_⟩;refine⟨_,Z,iv,d,o,Z,ri,it,_,Z,?_⟩;cases o with |some q=>obtain⟨ns,sp⟩:=q;refine cf ?_;have ed:=kW it;subst ed;obtain⟨a,b,rfl,ha,hb⟩:=mj ri;exact⟨_,Z,_,Z,.inr ⟨a,_,1,.ref b,Z,Z,ha,Z,pw,b,pl,ns,Z,rp,hb,hl ns sp Z,hz,λv' H' r s=>k v' H' r s⟩⟩ |none=>refine bK ?_;exact⟨_,Z,k pw H rp (aG.refl _)⟩
open Rn
def fM(m b d q p r s k t:V):List (Str×V):=[("machine",m),("begun_at",b),("done",d),("queue",q),("pace",p),("rate_now",r),("side",s),("mark",k),("stopping",t)]
structure bL where
 rs:List Int
 r:Int
 f:Int
 j:Int
 t:Int
abbrev bL.D(M:bL):ai:=jf M.rs M.r M.f M.j M.t
abbrev bL.Ok(M:bL):Prop:=oF M.rs M.r M.f M.j M.t
structure bh where
 pl:List Int
 dn:Nat
 ds:List ai
 os:List Itm
 pc:Rat
 aD:Int
 side:Str
 mark:Str
 aW:Rn.gA
def xO(K:aa)(H:Hp)(v:V):Rn.gA->Prop |none=>v= .bw |some (sq,st,gn)=>∃a u,v= .ref a/\aU K H a [u,.int st,.int gn]/\bE K H u sq
structure cj(M:bL)(D:Nat)(S:bh):Prop where
 row:ib M.rs.length S.ds S.os
 rw:RowW S.ds S.os
 len:S.ds.length<=20
 dh:10<=S.aD
 dF:S.aD<=200
 dn:S.dn=0\/∃ns sp,S.os[0]? =some (some (ns,sp))/\S.dn<aL ns
 pl:S.pl.length=M.rs.length
 pd:Dd (D+10) S.pc
 pm:S.pc<=1600
 aW:sO D S.pc S.aW
 D1:64<=D
 D2:D<=1500
structure cD(K:aa)(C:Addr)(H:Hp)(a q:Addr)(M:bL)(S:bh):Prop where
 ob:∃dx mv bv cx tv,H a=some (.ins C dx (fM mv bv (.int S.dn) (.ref q) cx (.int S.aD) (.str S.side) (.str S.mark) tv))/\RD K H mv M.D/\RD K H bv (fu S.pl)/\bE K H cx S.pc/\xO K H tv S.aW
 qu:∃ys,H q=some (.lst ys)/\aP K H ys S.ds
theorem bE.v{H H':Hp}{v:V}{q:Rat}(s:bW H H')(h:bE K H v q):bE K H' v q:=by obtain⟨p,rfl,hp⟩:=h;exact⟨p,Z,aU.v s hp⟩
theorem xO.v{H H':Hp}{v:V}{t:Rn.gA}(s:bW H H')(h:xO K H v t):xO K H' v t:=by cases t with |none=>exact h |some q=>obtain⟨sq,st,gn⟩:=q;obtain⟨a,u,rfl,h1,h2⟩:=h;exact⟨a,u,Z,aU.v s h1,bE.v s h2⟩
theorem cD.go{C:Addr}{H H':Hp}{a q:Addr}{M:bL}{S:bh}(h:cD K C H a q M S)(hn:cZ S.ds=true)(s:bW H H')(ea:∀o,H a=some o->H' a=some o)(eq:∀o,H q=some o->H' q=some o):cD K C H' a q M S:=by obtain⟨⟨dx,mv,bv,cx,tv,e,r1,r2,r3,r4⟩,ys,lV,rq⟩:=h;exact⟨⟨dx,mv,bv,cx,tv,ea _ e,RD.v s _ (iJ _ _ _ _ _) r1,RD.v s _ (gD _) r2,r3.v s,r4.v s⟩,ys,eq _ lV,aP.v s _ hn rq⟩
theorem cD.same{C:Addr}{H H':Hp}{a q:Addr}{M:bL}{S:bh}(h:cD K C H a q M S)(hn:cZ S.ds=true)(s:aG H H'):cD K C H' a q M S:=h.go hn s.v (λo e=>s _ _ e) (λo e=>s _ _ e)
theorem cD.ne{C:Addr}{H:Hp}{a q:Addr}{M:bL}{S:bh}(h:cD K C H a q M S):a≠q:=by obtain⟨⟨dx,mv,bv,cx,tv,e,_⟩,ys,lV,_⟩:=h;exact z9 e lV (by intro z;cases z)
theorem cD.v{C:Addr}{H H':Hp}{a q:Addr}{M:bL}{S:bh}(h:cD K C H a q M S)(b:bc [a,q] H H'):bW H H':=by
 obtain⟨⟨dx,mv,bv,cx,tv,e,_⟩,ys,lV,_⟩:=h;refine b.v λx hx o eo=>?_;simp only[bM,cL,dv]at hx;rcases hx with rfl|rfl
 ·rw[e]at eo;cases eo;trivial
 ·rw[lV]at eo;cases eo;trivial
inductive VN(K:aa)(C:Addr)(G:bL->bh->Hp->VK->Prop)(vs:List V)(H:Hp)(Q:VK):Prop |mk (a:_)(q:_)(M:_)(D:_)(S:_)(h0:vs=[.ref a])(h1:cD K C H a q M S)(h2:cj M D S)(h3:M.Ok)(h4:G M S H Q):VN K C G vs H Q
def fh(K:aa)(C:Addr)(G:bL->bh->Hp->VK->Prop):Sp:=λvs H Q _=>VN K C G vs H Q
theorem a0j:bF ["self"] ["self"] (aZ Fy):=bP aY
def Td(K:aa):bL->bh->Hp->VK->Prop:=λ_ S H Q=>∀v,bE K H v S.pc->Q v H
theorem a3f{C:Addr}(F:MA K C "square" "Runner.square" Fy)(TC:fV K C):cN P w K mg base C "square" 1 (fh K C (Td K)):=by
 refine F.has a0j (λvs H Q E h=>?_) (λ_ _ _ _ _ _=>eR λ_=>rfl) (λf aQ A outer s H vs Q E hr h=>?_)
 ·obtain⟨a,q,M,D,S,rfl,_⟩:=h
  rfl
 ·obtain⟨a,q,M,D,S,rfl,R,ok,aM,k⟩:=h
  obtain⟨dx,mv,bv,cx,tv,e,r1,r2,r3,r4⟩:=R.ob;exact⟨_,(aH (aX (cS TC.cl TC.rn (pv 0)))),_,Z,a,dx,_,_,Z,e,Z,k cx r3⟩
theorem a0l:bF ["self"] ["self"] (aZ FE):=bP aY
theorem a3j{C:Addr}(F:MA K C "rate" "Runner.rate" FE)(TC:fV K C):cN P w K mg base C "rate" 1 (fh K C λ_ S H Q=>Q (.int S.aD) H):=by
 refine F.has a0l (λvs H Q E h=>?_) (λ_ _ _ _ _ _=>eR λ_=>rfl) (λf aQ A outer s H vs Q E hr h=>?_)
 ·obtain⟨a,q,M,D,S,rfl,_⟩:=h
  rfl
 ·obtain⟨a,q,M,D,S,rfl,R,ok,aM,k⟩:=h
  obtain⟨dx,mv,bv,cx,tv,e,r1,r2,r3,r4⟩:=R.ob;exact⟨_,(aH (aX (cS TC.cl TC.BP (pv 0)))),_,Z,a,dx,_,_,Z,e,Z,k⟩
theorem a0i:bF ["self"] ["self"] (aZ Fx):=bP aY
theorem a3e{C:Addr}(F:MA K C "tool" "Runner.tool" Fx)(TC:fV K C):cN P w K mg base C "tool" 1 (fh K C λ_ S H Q=>Q (.str S.side) H):=by
 refine F.has a0i (λvs H Q E h=>?_) (λ_ _ _ _ _ _=>eR λ_=>rfl) (λf aQ A outer s H vs Q E hr h=>?_)
 ·obtain⟨a,q,M,D,S,rfl,_⟩:=h
  rfl
 ·obtain⟨a,q,M,D,S,rfl,R,ok,aM,k⟩:=h
  obtain⟨dx,mv,bv,cx,tv,e,r1,r2,r3,r4⟩:=R.ob;exact⟨_,(aH (aX (cS TC.cl TC.Ip (pv 0)))),_,Z,a,dx,_,_,Z,e,Z,k⟩
theorem a0n:bF ["self"] ["self"] (aZ FH):=bP aY
theorem a3n{C:Addr}(F:MA K C "last_mark" "Runner.last_mark" FH)(TC:fV K C):cN P w K mg base C "last_mark" 1 (fh K C λ_ S H Q=>Q (.str S.mark) H):=by
 refine F.has a0n (λvs H Q E h=>?_) (λ_ _ _ _ _ _=>eR λ_=>rfl) (λf aQ A outer s H vs Q E hr h=>?_)
 ·obtain⟨a,q,M,D,S,rfl,_⟩:=h
  rfl
 ·obtain⟨a,q,M,D,S,rfl,R,ok,aM,k⟩:=h
  obtain⟨dx,mv,bv,cx,tv,e,r1,r2,r3,r4⟩:=R.ob;exact⟨_,(aH (aX (cS TC.cl TC.Iq (pv 0)))),_,Z,a,dx,_,_,Z,e,Z,k⟩
theorem a0h:bF ["self"] ["self"] (aZ Fw):=bP aY
theorem a3d{C:Addr}(F:MA K C "waiting" "Runner.waiting" Fw)(TC:fV K C)(B:bV mg):cN P w K mg base C "waiting" 1 (fh K C λ_ S H Q=>∀l ys H',H l=none->H' l=some (.lst ys)->aP K H' ys S.ds->aG H H'->Q (.ref l) H'):=by
 refine F.has a0h (λvs H Q E h=>?_) (λ_ _ _ _ _ _=>eR λ_=>rfl) (λf aQ A outer s H vs Q E hr h=>?_)
 ·obtain⟨a,q,M,D,S,rfl,_⟩:=h
  rfl
 ·obtain⟨a,q,M,D,S,rfl,R,ok,aM,k⟩:=h
  obtain⟨dx,mv,bv,cx,tv,e,r1,r2,r3,r4⟩:=R.ob;obtain⟨ys,eq,rq⟩:=R.qu;refine⟨_,(aH (aX (iG (x:="list") (II K Z) Z (B.at "list") lg (au (cS TC.cl TC.iI (pv 0)) az)))),_,Z,a,dx,_,_,Z,e,Z,q,ys,Z,.inl (aJ.of eq),λl H1 n1=>?_⟩;exact k l ys H1 n1.no n1.at' (aP.mono n1.same _ rq) n1.same
theorem a0q:bF ["self"] ["self"] (aZ FO):=bP aY
theorem a3s{C:Addr}(F:MA K C "is_held" "Runner.is_held" FO)(TC:fV K C):cN P w K mg base C "is_held" 1 (fh K C λ_ S H Q=>Q (.bl S.aW.isSome) H):=by
 refine F.has a0q (λvs H Q E h=>?_) (λ_ _ _ _ _ _=>eR λ_=>rfl) (λf aQ A outer s H vs Q E hr h=>?_)
 ·obtain⟨a,q,M,D,S,rfl,_⟩:=h
  rfl
 ·obtain⟨a,q,M,D,S,rfl,R,ok,aM,k⟩:=h
  obtain⟨dx,mv,bv,cx,tv,e,r1,r2,r3,r4⟩:=R.ob;refine⟨_,(aH (aX (fH yQ (cS TC.cl TC.wK (pv 0)) je (bB _)))),_,Z,a,dx,_,_,Z,e,Z,?_⟩;cases hs:S.aW with |none=>rw[hs]at r4 k;cases(show tv= .bw from r4);exact⟨Z,k⟩ |some z=>rw[hs]at r4 k;obtain⟨sq,st,gn⟩:=z;obtain⟨b,u,rfl,_⟩:=r4;exact⟨Z,k⟩
theorem He(q:Rat):PyData.eqv (cY q) (cY 0)=decide (q=0):=by
 by_cases h:q=0
 ·rw[cR h];exact eqR h
 ·rw[fb h]
  cases e:PyData.eqv (cY q) (cY 0)with |false=>rfl |true=>
   exfalso;apply h;have e':(PyData.eqv (.int q.num) (.int (0:Rat).num)&&(PyData.eqv (.int (q.den:Int)) (.int ((0:Rat).den:Int))&&true))=true:=e;rw[LY,fE]at e';obtain⟨a,b⟩:=e';have h1:q.num=(0:Rat).num:=by simpa[PyData.eqv]using a
   have h2:(q.den:Int)=((0:Rat).den:Int):=by simpa[PyData.eqv]using b
   exact Rat.ext h1 aw
theorem a0k:bF ["self"] ["self"] (aZ FD):=bP aY
theorem a3i{C:Addr}(F:MA K C "stands" "Runner.stands" FD)(TC:fV K C)(gN:GT K mg "NOUGHT" [.int 0,.int 1]):cN P w K mg base C "stands" 1 (fh K C λ_ S H Q=>Q (.bl (decide (S.pc=0))) H):=by
 obtain⟨aN,lQ,ny⟩:=gN;refine F.has a0k (λvs H Q E h=>?_) (λ_ _ _ _ _ _=>eR λ_=>rfl) (λf aQ A outer s H vs Q E hr h=>?_)
 ·obtain⟨a,q,M,D,S,rfl,_⟩:=h
  rfl
 ·obtain⟨a,q,M,D,S,rfl,R,ok,aM,k⟩:=h
  obtain⟨dx,mv,bv,cx,tv,e,r1,r2,r3,r4⟩:=R.ob;refine⟨_,(aH (aX (fH (cW K Z hr.units) (cS TC.cl TC.rn (pv 0)) (fi (x:="NOUGHT") rfl lQ) (bB _)))),_,Z,a,dx,_,_,Z,e,Z,.inr ⟨_,_,r3.rd,(qX (ny H)).rd,Z,Z,?_⟩⟩;rw[He];exact k
theorem a0p:bF ["self"] ["self"] (aZ FL):=bP aY
theorem a3r{C:Addr}(F:MA K C "is_halted" "Runner.is_halted" FL)(TC:fV K C)(uS:cN P w K mg base C "is_held" 1 (fh K C λ_ S H Q=>Q (.bl S.aW.isSome) H))(JC:cN P w K mg base C "stands" 1 (fh K C λ_ S H Q=>Q (.bl (decide (S.pc=0))) H)):cN P w K mg base C "is_halted" 2 (fh K C λ_ S H Q=>Q (.bl (S.aW.isSome&&decide (S.pc=0))) H):=by
 refine F.has a0p (λvs H Q E h=>?_) (λ_ _ _ _ _ _=>eR λ_=>rfl) (λf aQ A outer s H vs Q E hr h=>?_)
 ·obtain⟨a,q,M,D,S,rfl,_⟩:=h
  rfl
 ·obtain⟨a,q,M,D,S,rfl,R,ok,aM,k⟩:=h
  obtain⟨dx,mv,bv,cx,tv,e,r1,r2,r3,r4⟩:=R.ob;refine⟨_,(aH (aX (iV (gs uS TC.cl (hr.mono aB) (pv 0)) (jd (gs JC TC.cl (hr.mono aB) (pv 0)))))),_,Z,a,dx,_,Z,e,Z,a,q,M,D,S,Z,R,ok,aM,_,Z,?_⟩;cases hs:S.aW.isSome with |false=>rw[hs]at k;exact bK k |true=>rw[hs]at k;refine cf ⟨_,Z,a,dx,_,Z,e,Z,a,q,M,D,S,Z,R,ok,aM,?_⟩;exact k
structure mY(n:Nat)(d:ai)(o:Itm):Prop where
 it:itR d o
 ln:∀ns sp,o=some (ns,sp)->fw n 100 ns/\1<=sp/\sp<=20
 ot:o=none->qq d
theorem a4J{z:Str}(h:zb z=true):isNm (.str z)=true:=h
theorem acs:∀{ns:List Int},(∃z∈ns,z≠0)->(ns.map PyData.int).any yU=true:=λ{ns} ⟨z,hz,h⟩=>List.any_eq_true.mpr ⟨.int z,ka.mpr ⟨z,hz,Z⟩,by show(z !=0)=true;simpa using h⟩
theorem acz{ns:List Int}(h:∀z∈ns,(z.natAbs:Int)<=100):(ns.map PyData.int).all (gR (-100) 100)=true:=by rw[j7];intro d hd;obtain⟨z,hz,rfl⟩:=ka.mp hd;have:=h z hz;show(decide (-100<=z)&&decide (z<=100))=true;rw[cR dM,cR dM];rfl
theorem mY.is{n:Nat}{d:ai}{o:Itm}(h:mY n d o):uC n d=true/\dP 8 d/\ET d=true:=by cases o with
 |some q=>
  obtain⟨ns,sp⟩:=q;have ed:=kW h.it;subst ed;obtain⟨eZ,s1,s2⟩:=h.ln ns sp rfl;refine⟨?_,?_,Z⟩
  ·show(iL "line" (.str "line")&&(uj n (.tuple (ns.map PyData.int))&&gR 1 20 (.int sp)))=true
   have e1:iL "line" (.str "line")=true:=by decide+kernel
   have e2:uj n (.tuple (ns.map PyData.int))=true:=by show(((ns.map PyData.int).length==n&&(ns.map PyData.int).all (gR (-100) 100))&&(ns.map PyData.int).any yU)=true;rw[acz eZ.bd,acs eZ.nz,cB,eZ.len,Lm];rfl
   have e3:gR 1 20 (.int sp)=true:=by show(decide (1<=sp)&&decide (sp<=20))=true;rw[cR s1,cR s2];rfl
   rw[e1,e2,e3];rfl
  ·refine(gL.tup (n:=1) (.cons ⟨aY,gj _⟩ (.cons (gL.tup (n:=0) λd hd=>?_) (.cons (.int _) .nil)))).le aB
   obtain⟨a,_,rfl⟩:=ka.mp hd;exact .int _ |none=>
  rcases h.ot rfl with⟨z,rfl,z1,z2⟩|⟨w,s,rfl,hw,qU,on⟩
  ·refine⟨?_,(gL.tup (n:=0) (.cons ⟨aY,gj _⟩ (.cons (.int _) .nil))).le aB,Z⟩
   show pJ (.str "wait") (.int z)=true;unfold pJ;rw[bp aY];show(decide (1<=z)&&decide (z<=1000))=true;rw[cR z1,cR z2];rfl
  ·have a5V:qM (.str s)=true:=by
    refine cR ?_;rcases on with⟨_,rfl|rfl⟩|⟨_,hn⟩
    ·decide+kernel
    ·decide+kernel
    ·unfold zb at hn
     simp only[fE,DS]at hn
     lia
   refine⟨?_,(gL.tup (n:=0) (.cons ?_ (.cons qU .nil))).le aB,?_⟩
   ·rcases on with⟨rfl,hs⟩|⟨rfl,hn⟩
    ·show pJ (.str "tool") (.str s)=true
     unfold pJ;rw[bu aY,bp aY];rcases hs with rfl|rfl<;>decide+kernel
    ·show pJ (.str "mark") (.str s)=true
     unfold pJ;rw[bu aY,bu aY];rw[a4J hn];decide+kernel
   ·rcases hw with rfl|rfl<;>exact⟨aY,gj _⟩
   ·show([.str w,.str s]:List ai).all qM=true
    rw[LQ,LQ,List.all_nil,a5V];rcases hw with rfl|rfl<;>decide+kernel
def gC(ns:List Int)(k:Int):List Int:=ns.map λz=>fz (k*z) (aL ns)
def dR(S:bh):List Int:=if S.dn=0 then S.pl else match S.os[0]? with |some (some (ns,_))=>fK S.pl (gC ns S.dn) |_=>S.pl
def cM(S:bh):List Int:=S.os.foldl gf S.pl
theorem xM{n:Nat}{pl:List Int}{o:Itm}(h:pl.length=n)(ho:∀ns sp,o=some (ns,sp)->ns.length=n):(gf pl o).length=n:=by cases o with |none=>exact h |some q=>obtain⟨ns,sp⟩:=q;show(fK pl ns).length=n;rw[qo (by rw[ho ns sp Z,h])];exact h
theorem xt{n:Nat}:∀(os:List Itm)(pl:List Int),pl.length=n->(∀o∈os,∀ns sp,o=some (ns,sp)->ns.length=n)->(os.foldl gf pl).length=n |[],pl,h,_=>h |o::os,pl,h,ho=>xt os (gf pl o) (xM h (ho o (.head _))) λx hx=>ho x (.tail _ hx)
theorem cj.qU{M:bL}{D:Nat}{S:bh}(h:cj M D S):∀o∈S.os,∀ns sp,o=some (ns,sp)->ns.length=M.rs.length:=λo ho ns sp e=>by obtain⟨i,hi⟩:=qG.mp ho;rw[e]at hi;exact(h.row.ok i ns sp hi).1.len
theorem cj.first{M:bL}{D:Nat}{S:bh}(h:cj M D S)(hn:S.dn≠0):∃ns sp,S.os[0]? =some (some (ns,sp))/\S.dn<aL ns:=by
 rcases h.dn with e|e
 ·exact(hn e).elim
 ·exact e
theorem a0m:bF ["self"] ["self"] (aZ FF):=bP aY
theorem a3k{C:Addr}(F:MA K C "place" "Runner.place" FF)(TC:fV K C)(Jh:aI P w K mg base "moved" 1 (Bh K))(Co:aI P w K mg base "stand_at" 2 (Bc K)):cN P w K mg base C "place" 3 (fh K C λ_ S H Q=>∀v H',RD K H' v (fu (dR S))->aG H H'->Q v H'):=by
 refine F.has a0m (λvs H Q E h=>?_) (λ_ _ _ _ _ _=>eR λ_=>rfl) (λf aQ A outer s H vs Q E hr h=>?_)
 ·obtain⟨a,q,M,D,S,rfl,_⟩:=h
  rfl
 ·obtain⟨a,q,M,D,S,rfl,R,ok,aM,k⟩:=h
  obtain⟨dx,mv,bv,cx,tv,e,r1,r2,r3,r4⟩:=R.ob;obtain⟨ys,eq,rq⟩:=R.qu;refine⟨_,(aF (bN (ck (cW K Z hr.units) (cS TC.cl TC.nR (pv 0)) aE (bB _)) (aH (aX (cS TC.cl TC.uu (pv 0)))) bQ) (aH (aX (pf Jh hr (au (cS TC.cl TC.uu (pv 0)) (au (pf Co hr (au (px K (cS TC.cl TC.iI (pv 0)) aE) (au (cS TC.cl TC.nR (pv 0)) az))) az)))))),_,Z,a,dx,_,_,Z,e,Z,.inl ⟨_,_,Z,Z,_,Z,?_⟩⟩;by_cases h0:S.dn=0
  ·rw[cR aw]
   have ep:dR S=S.pl:=by unfold dR;rw[bp h0]
   rw[ep]at k;exact cf ⟨_,Z,a,dx,_,_,Z,e,Z,k bv H r2 (aG.refl _)⟩
  ·rw[fb aw]
   refine bK ?_;obtain⟨ns,sp,eo,hd⟩:=ok.first h0;obtain⟨eZ,gZ,iD⟩:=ok.row.ok 0 ns sp eo;have ep:dR S=fK S.pl (gC ns S.dn):=by unfold dR;rw[bu h0,eo]
   rw[ep]at k;have ll:=ok.row.len;have pM:0<S.os.length:=(dQ.mp eo).1;obtain⟨d,ed⟩:∃d,S.ds[0]? =some d:=⟨_,cu (show 0<S.ds.length by lia)⟩;obtain⟨y,ey,ry⟩:=rq.get 0 ed;have it:=ok.row.it 0 d _ ed eo;have lW:=kW it;subst lW;have Rw:=zl eZ;have lr:=aM.len;refine⟨_,Z,a,dx,_,_,Z,e,Z,?_⟩;refine⟨_,Z,a,dx,_,_,Z,e,Z,.inl ⟨q,_,0,y,Z,Z,aJ.of eq,dB (gO 0) ey,?_⟩⟩;refine⟨_,Z,a,dx,_,_,Z,e,Z,y,ns,sp,_,Z,ry,⟨Z,λz hz=>by have:=eZ.bd z hz;lia,eZ.nz⟩,by rw[eZ.len];lia,aw,λu H1 ru s1=>?_⟩;obtain⟨b,xs,rfl,hb,hx⟩:=ru.fg;rw[hx.jg]at hb;exact⟨bv,b,S.pl,_,Z,RD.mono s1 _ r2,hb,by rw[cB,eZ.len,ok.pl],by rw[ok.pl];lia,λv H2 rv s2=>k v H2 rv (s1.trans s2)⟩
theorem O4:bF ["self","here","item"] ["self"] (aZ FI):=bP aY
theorem a3o{C:Addr}(F:MA K C "leads_to" "Runner.leads_to" FI)(TC:fV K C)(uG:aI P w K mg base "place_behind" 2 (vT K)):cN P w K mg base C "leads_to" 3 (fh K C λ_ S H Q=>∀v H',RD K H' v (fu (cM S))->aG H H'->Q v H'):=by
 refine F.has O4 (λvs H Q E h=>?_) (λ_ _ _ _ _ _=>eR λ_=>rfl) (λf aQ A outer s H vs Q E hr h=>?_)
 ·obtain⟨a,q,M,D,S,rfl,_⟩:=h
  rfl
 ·obtain⟨a,q,M,D,S,rfl,R,ok,aM,k⟩:=h
  obtain⟨dx,mv,bv,cx,tv,e,r1,r2,r3,r4⟩:=R.ob;obtain⟨ys,eq,rq⟩:=R.qu;have nd:=O4.nd;have ll:=ok.row.len;have ly:=rq.length;have lr:=aM.len;refine⟨_,(aF (pS 1 nd (cS TC.cl TC.uu (pv 0))) (aF (me iA Z (yL K Z (cS TC.cl TC.iI (pv 0))) (bJ 2 nd) (aH (pS 1 nd (pf uG hr (au (pv 1) (au (pv 2) az)))))) (aH (aX (pv 1))))),_,Z,a,dx,_,_,Z,e,Z,_,Z,a,dx,_,_,Z,e,Z,q,Z,⟨_,aJ.of eq⟩,?_⟩;refine JQ (K:=K) (a:=q) (xs:=ys) (λi O H1=>aG H H1/\∃hv v2,RD K H1 hv (fu ((S.os.take i).foldl gf S.pl))/\O=[some (.ref a),some hv,v2]) ⟨aG.refl _,bv,none,r2,Z⟩ (λi O H1 _ h=>aJ.of (h.1 _ _ eq)) ?_ ?_
  ·rintro i x O H1 hx ⟨s1,hv,v2,rh,rfl⟩
   obtain⟨d,ed,rd⟩:=rq.get' i hx;obtain⟨o,eo,it⟩:=ok.row.get ed;have lp:((S.os.take i).foldl gf S.pl).length=M.rs.length:=xt _ _ ok.pl λo ho=>ok.qU o (E1 ho);refine⟨_,Z,_,Z,hv,x,_,d,o,Z,rh,RD.mono s1 _ rd,it,λns sp e'=>by rw[lp];exact ok.qU o (gX eo) ns sp e',aw,λv H2 rv s2=>?_⟩;refine⟨s1.trans s2,v,_,?_,Z⟩;rw[qF,eo,Y1];exact rv
  ·rintro O H1 ⟨s1,hv,v2,rh,rfl⟩
   rw[ly,ll,vx]at rh;exact⟨_,Z,k hv H1 rh s1⟩
structure Mv(a q:Addr)(H:Hp)(q':Addr)(H':Hp):Prop where
 but:bc [a,q] H H'
 nq:q'=q\/H q'=none
theorem a0o:bF ["self","machine","place"] ["self","machine","place"] (aZ FJ):=bP aY
def nv(pl:List Int):bh:=⟨pl,0,[],[],0,100,"up","",none⟩
inductive Wa(K:aa)(C:Addr)(vs:List V)(H:Hp)(Q:VK):Prop |mk (a:_)(dx:_)(mv:_)(ud:_)(M:_)(pl:_)(h0:vs=[.ref a,mv,ud])(h1:H a=some (.ins C dx []))(h2:RD K H mv (bL.D M))(h3:RD K H ud (fu pl))(h4:∀q H',cD K C H' a q M (nv pl)->H q=none->bc [a] H H'->Q .bw H'):Wa K C vs H Q
def N7(K:aa)(C:Addr):Sp:=λvs H Q _=>Wa K C vs H Q
theorem a3p{C:Addr}(F:CA K mg C "Runner" "Runner.__init__" FJ)(TC:fV K C)(gN:GT K mg "NOUGHT" [.int 0,.int 1])(a8l:GV mg "FIRST_RATE" (.int 100)):DL P w K mg base C "Runner" 1 (N7 K C):=by
 obtain⟨aN,lQ,ny⟩:=gN;refine F.has a0o (λvs H Q E h=>?_) (λ_ _ _ _ _ _=>oB λ_ _ _=>rfl) (λf aQ A outer s H vs Q E hr h=>?_)
 ·obtain⟨a,dx,mv,ud,M,pl,rfl,_⟩:=h
  rfl
 ·obtain⟨a,dx,mv,ud,M,pl,rfl,e,rm,rp,k⟩:=h
  refine⟨_,(aF (ie TC.cl TC.nQ (pv 0) (pv 1)) (aF (ie TC.cl TC.uu (pv 0) (pv 2)) (aF (ie TC.cl TC.nR (pv 0) aE) (aF (ie TC.cl TC.iI (pv 0) (dj az)) (aF (ie TC.cl TC.rn (pv 0) (fi (x:="NOUGHT") rfl lQ)) (aF (ie TC.cl TC.BP (pv 0) (fi (x:="FIRST_RATE") rfl a8l)) (aF (ie TC.cl TC.Ip (pv 0) ba) (aF (ie TC.cl TC.Iq (pv 0) ba) (aH (ie TC.cl TC.wK (pv 0) je)))))))))),?_⟩;refine⟨_,Z,_,Z,a,dx,_,Z,e,aB,?_⟩;refine⟨_,Z,_,Z,a,dx,_,Z,bf,by show 1<1000;decide,?_⟩;refine⟨_,Z,a,dx,_,Z,bf,by show 2<1000;decide,?_⟩;refine⟨bZ Z,λq H1 n1=>?_⟩;have aq:a≠q:=λz=>by have:=n1.no;rw[<-z,bf]at this;cases this
  have e1:=n1.same _ _ (bf (a:=a));refine⟨_,Z,a,dx,_,Z,e1,by show 3<1000;decide,?_⟩;refine⟨_,Z,a,dx,_,Z,bf,by show 4<1000;decide,?_⟩;refine⟨_,Z,a,dx,_,Z,bf,by show 5<1000;decide,?_⟩;refine⟨_,Z,a,dx,_,Z,bf,by show 6<1000;decide,?_⟩;refine⟨_,Z,a,dx,_,Z,bf,by show 7<1000;decide,?_⟩;refine⟨_,Z,a,dx,_,Z,bf,by show 8<1000;decide,?_⟩;have key:∀X:Hp,(∀b,b≠a->X b=H1 b)->Q .bw (L2.upd X a (.ins C dx (fM mv ud (.int 0) (.ref q) (.ref aN) (.int 100) (.str "up") (.str "") .bw))):=by
   intro X hX;have bt:bc [a] H (L2.upd X a (.ins C dx (fM mv ud (.int 0) (.ref q) (.ref aN) (.int 100) (.str "up") (.str "") .bw))):=λb o eb hb=>by have ha:b≠a:=λz=>hb (by rw[z];exact .head _);rw[aK ha,hX b ha];exact n1.same _ _ (by rw[aK ha,aK ha,aK ha];exact eb)
   have sv:=bt.v λx hx o eo=>by rw[bU]at hx;rw[hx,e]at eo;cases eo;trivial
   refine k q _ ⟨⟨dx,mv,ud,.ref aN,.bw,bf,RD.v sv _ (iJ _ _ _ _ _) rm,RD.v sv _ (gD _) rp,qX (ny _),Z⟩,[],?_,cX⟩ ?_ bt
   ·rw[aK aq.symm,hX q aq.symm];exact n1.at'
   ·have:=n1.no
    rw[aK aq.symm,aK aq.symm,aK aq.symm]at this;exact this
  exact key _ (λb hb=>by rw[aK hb,aK hb,aK hb,aK hb,aK hb])
theorem a0T{M:bL}{pl:List Int}(hp:pl.length=M.rs.length):cj M 64 (nv pl):=⟨.nil,λi d e=>by simp[nv]at e,by simp[nv],(show(10:Int)<=100 by decide),(show(100:Int)<=200 by decide),.inl rfl,hp,⟨(show(0:Rat)<=0 by decide),(show(0:Rat).den<2^74 by decide+kernel)⟩,(show(0:Rat)<=1600 by decide+kernel),trivial,aB,aB⟩
theorem Qg{rs pl:List Int}(h:fD rs pl):IV rs (fu pl)=true:=by show((pl.map PyData.int).length==rs.length&&(((pl.map PyData.int).zip rs).map λp=>gR 0 p.2 p.1).all id)=true;rw[cB,h.len,Lm,kJ,j7];intro b hb;obtain⟨⟨d,r⟩,hm,rfl⟩:=ka.mp hb;obtain⟨i,hi⟩:=qG.mp hm;obtain⟨e1,e2⟩:=(xY (z:=(d,r))).mp hi;rw[cH]at e1;cases e:pl[i]? with |none=>rw[e]at e1;cases e1 |some x=>rw[e]at e1;cases e1;obtain⟨a1,a2⟩:=h.at' i x r e e2;show(decide (0<=x)&&decide (x<=r))=true;rw[cR a1,cR a2];rfl
def lU(S:bh)(d:ai)(o:Itm):bh:={S with ds:=S.ds++[d],os:=S.os++[o]}
theorem cj.D6{M:bL}{D:Nat}{S:bh}{d:ai}{o:Itm}(h:cj M D S)(it:mY M.rs.length d o)(hl:S.ds.length<20):cj M D (lU S d o):=by
 have ll:=h.row.len;refine⟨h.row.snoc it.it it.ln,RowW.snoc h.rw ll it.ot,by show(S.ds++[d]).length<=20;rw[fy];show _+1<=20;lia,h.dh,h.dF,?_,h.pl,h.pd,h.pm,h.aW,h.D1,h.D2⟩;rcases h.dn with e|⟨ns,sp,e,e2⟩
 ·exact .inl e
 ·refine .inr ⟨ns,sp,?_,e2⟩
  show(S.os++[o])[0]? =_;rw[xZ (dQ.mp e).1];exact e
theorem Bm:bF ["self","item"] ["self","item"] (aZ Bo):=bP aY
inductive Wf(K:aa)(C:Addr)(vs:List V)(H:Hp)(Q:VK):Prop |mk (a:_)(q:_)(M:_)(D:_)(S:_)(v:_)(d:_)(o:_)(h0:vs=[.ref a,v])(h1:cD K C H a q M S)(h2:cj M D S)(h3:M.Ok)(h4:RD K H v d)(h5:mY M.rs.length d o)(h6:fD M.rs (gf (cM S) o))(h7:S.ds.length<20)(h8:∀H',cD K C H' a q M (lU S d o)->bc [a,q] H H'->Q (.int (S.ds.length+1:Nat)) H'):Wf K C vs H Q
def ZU(K:aa)(C:Addr):Sp:=λvs H Q _=>Wf K C vs H Q
theorem a3v{C:Addr}(F:MA K C "feed" "Runner.feed" Bo)(TC:fV K C)(B:bV mg)(Jz:GV mg "MOST_WAITING" (.int 20))(Jn:aI P w K mg base "is_item" 4 (Bi K))(Jl:aI P w K mg base "is_place" 3 (Bj K))(uG:aI P w K mg base "place_behind" 2 (vT K))(zD:cN P w K mg base C "leads_to" 3 (fh K C λ_ S H Q=>∀v H',RD K H' v (fu (cM S))->aG H H'->Q v H')):cN P w K mg base C "feed" 5 (ZU K C):=by
 refine F.has Bm (λvs H Q E h=>?_) (λ_ _ _ _ _ _=>dN λ_ _=>rfl) (λf aQ A outer s H vs Q E hr h=>?_)
 ·obtain⟨a,q,M,D,S,v,d,o,rfl,_⟩:=h
  rfl
 ·obtain⟨a,q,M,D,S,v,d,o,rfl,R,ok,aM,rd,it,mG,hl,k⟩:=h
  obtain⟨dx,mv,bv,cx,tv,e,r1,r2,r3,r4⟩:=R.ob;obtain⟨ys,eq,rq⟩:=R.qu;have nd:=Bm.nd;have lr:=aM.len;have ly:=rq.length;obtain⟨i1,i2,i3⟩:=it.is;refine⟨_,(aF (bN (eO (cP (pf Jn hr (au (cS TC.cl TC.nQ (pv 0)) (au (pv 1) az))))) (aH ph) bQ) (aF (bN (eO (cP (pf Jl hr (au (cS TC.cl TC.nQ (pv 0)) (au (pf uG hr (au (gs zD TC.cl (hr.mono aB) (pv 0)) (au (pv 1) az))) az))))) (aH ph) bQ) (aF (bN (ck BG (dJ K B (au (cS TC.cl TC.iI (pv 0)) az)) (fi (x:="MOST_WAITING") rfl Jz) (bB _)) (aH ph) bQ) (aF (hO (jq K Z (cS TC.cl TC.iI (pv 0)) (au (pv 1) az))) (aH (aX (dJ K B (au (cS TC.cl TC.iI (pv 0)) az)))))))),?_⟩;refine⟨_,Z,a,dx,_,_,Z,e,Z,_,Z,mv,v,M.rs,_,d,Z,r1,rd,aw,i2,i3,λH1 s1=>⟨_,Z,?_⟩⟩;rw[i1];refine bK ?_;have e1:=s1 _ _ e;have R1:=R.same ok.row.no s1;refine⟨_,Z,a,dx,_,_,Z,e1,Z,?_⟩;refine⟨_,Z,a,dx,_,Z,e1,Z,a,q,M,D,S,Z,R1,ok,aM,λg H2 rg s2=>?_⟩;have jK:=s1.trans s2;have gl:(cM S).length=M.rs.length:=xt _ _ ok.pl ok.qU;refine⟨_,Z,g,v,cM S,d,o,Z,rg,RD.mono jK _ rd,it.it,λns sp e'=>by rw[gl];exact(it.ln ns sp e').1.len,aw,λu H3 ru s3=>?_⟩;have dc:=jK.trans s3;refine⟨mv,u,M.rs,_,_,Z,RD.mono dc _ r1,ru,aw,λH4 s4=>⟨_,Z,?_⟩⟩;rw[Qg mG];refine bK ?_;have fG:=dc.trans s4;have e4:=fG _ _ e;have eq4:=fG _ _ eq;refine⟨_,Z,a,dx,_,_,Z,e4,Z,q,_,Z,.inl (aJ.of eq4),_,_,Z,Z,_,Z,?_⟩;rw[show decide ((ys.length:Int)>=20)=false from fb aw];refine bK ?_;have kY:sizeLine=16777216:=by decide
  refine⟨_,Z,a,dx,_,_,Z,e4,Z,.inl ⟨Z,_,aJ.of eq4⟩,_,Z,q,ys,_,Z,Z,eq4,aw,?_⟩;have aq:=R.ne;have tu:bW H4 (L2.upd H4 q (.lst (ys++[v]))):=.upd eq4 trivial;have e5:(L2.upd H4 q (.lst (ys++[v]))) a=some (.ins C dx (fM mv bv (.int S.dn) (.ref q) cx (.int S.aD) (.str S.side) (.str S.mark) tv)):=by rw[aK aq];exact e4
  refine⟨_,Z,a,dx,_,_,Z,e5,Z,q,_,Z,.inl (aJ.of bf),?_⟩;have sv:bW H (L2.upd H4 q (.lst (ys++[v]))):=fG.v.trans tu;have el:((ys++[v]).length:Int)=((S.ds.length+1:Nat):Int):=by rw[fy,ly];rfl
  rw[el];refine k _ ⟨⟨dx,mv,bv,cx,tv,e5,RD.v sv _ (iJ _ _ _ _ _) r1,RD.v sv _ (gD _) r2,r3.v sv,r4.v sv⟩,_,bf,?_⟩ λb o' eb hb=>?_
  ·exact(aP.v sv _ ok.row.no rq).append (cm (RD.v sv _ it.it.no rd) cX)
  ·have kX:b≠q:=λz=>hb (by rw[z];simp)
   rw[aK kX];exact fG _ _ eb
def iP(S:bh):bh:=match S.os with |o::os=>{S with pl:=gf S.pl o,ds:=S.ds.tail,os:=os,dn:=0} |[]=>S
theorem ib.tail{n:Nat}{d:ai}{ds:List ai}{o:Itm}{os:List Itm}(h:ib n (d::ds) (o::os)):ib n ds os:=⟨by have:=h.len;simpa using this,λi d' o' e1 e2=>h.it (i+1) d' o' (by simpa using e1) (by simpa using e2),λi ns sp e=>h.ok (i+1) ns sp (by simpa using e)⟩
theorem RowW.tail{d:ai}{ds:List ai}{o:Itm}{os:List Itm}(h:RowW (d::ds) (o::os)):RowW ds os:=λi d' e1 e2=>h (i+1) d' (by simpa using e1) (by simpa using e2)
structure la(M:bL)(D:Nat)(S:bh):Prop where
 row:ib M.rs.length S.ds S.os
 rw:RowW S.ds S.os
 len:S.ds.length<=20
 dh:10<=S.aD
 dF:S.aD<=200
 pl:S.pl.length=M.rs.length
 pd:Dd (D+10) S.pc
 pm:S.pc<=1600
 aW:sO D S.pc S.aW
 D1:64<=D
 D2:D<=1500
theorem cj.raw{M:bL}{D:Nat}{S:bh}(h:cj M D S):la M D S:=⟨h.row,h.rw,h.len,h.dh,h.dF,h.pl,h.pd,h.pm,h.aW,h.D1,h.D2⟩
theorem la.ok{M:bL}{D:Nat}{S:bh}(h:la M D S)(hd:S.dn=0\/∃ns sp,S.os[0]? =some (some (ns,sp))/\S.dn<aL ns):cj M D S:=⟨h.row,h.rw,h.len,h.dh,h.dF,hd,h.pl,h.pd,h.pm,h.aW,h.D1,h.D2⟩
theorem la.end{M:bL}{D:Nat}{S:bh}(h:la M D S)(hn:S.os≠[]):cj M D (iP S):=by obtain⟨pl,dn,ds,os,pc,aD,side,mark,aW⟩:=S;cases os with |nil=>exact(hn Z).elim |cons o os=>have ll:=h.row.len;cases ds with |nil=>simp at ll |cons d ds=>
 refine⟨h.row.tail,h.rw.tail,?_,h.dh,h.dF,.inl Z,?_,h.pd,h.pm,h.aW,h.D1,h.D2⟩
 ·have:=h.len
  simp only[kI]at this;show ds.length<=20
  lia
 ·exact xM h.pl λns sp e=>(h.row.ok 0 ns sp (by rw[<-e];rfl)).1.len
theorem abo(xs:List V):mU xs (some 1) none=xs.drop 1:=Ks xs
theorem O8:bF ["self"] ["self"] (aZ FT):=bP aY
inductive Wi(K:aa)(C:Addr)(vs:List V)(H:Hp)(Q:VK):Prop |mk (a:_)(q:_)(M:_)(D:_)(S:_)(h0:vs=[.ref a])(h1:cD K C H a q M S)(h2:la M D S)(h3:M.Ok)(h4:S.os≠[])(h5:∀q' H',cD K C H' a q' M (iP S)->H q'=none->bc [a] H H'->Q .bw H'):Wi K C vs H Q
def EH(K:aa)(C:Addr):Sp:=λvs H Q _=>Wi K C vs H Q
theorem a3z{C:Addr}(F:MA K C "end_first" "Runner.end_first" FT)(TC:fV K C)(uG:aI P w K mg base "place_behind" 2 (vT K)):cN P w K mg base C "end_first" 3 (EH K C):=by
 refine F.has O8 (λvs H Q E h=>?_) (λ_ _ _ _ _ _=>eR λ_=>rfl) (λf aQ A outer s H vs Q E hr h=>?_)
 ·obtain⟨a,q,M,D,S,rfl,_⟩:=h
  rfl
 ·obtain⟨a,q,M,D,S,rfl,R,ok,aM,hn,k⟩:=h
  obtain⟨dx,mv,bv,cx,tv,e,r1,r2,r3,r4⟩:=R.ob;obtain⟨ys,eq,rq⟩:=R.qu;have aq:=R.ne;have nd:=O8.nd;have lr:=aM.len;have ll:=ok.row.len;refine⟨_,(aF (ie TC.cl TC.uu (pv 0) (pf uG hr (au (cS TC.cl TC.uu (pv 0)) (au (px K (cS TC.cl TC.iI (pv 0)) aE) az)))) (aF (ie TC.cl TC.iI (pv 0) (Hw (EO K rfl) (cS TC.cl TC.iI (pv 0)) (Hr aE) Hs)) (aH (ie TC.cl TC.nR (pv 0) aE)))),?_⟩;obtain⟨pl,dn,ds,os,pc,aD,side,mark,aW⟩:=S;cases os with |nil=>exact(hn Z).elim |cons o os=>cases ds with |nil=>simp at ll |cons d ds=>
   obtain⟨y,yr,rfl,ry,rr⟩:=rq.cons_inv;have it:itR d o:=ok.row.it 0 d o Z rfl;have lp:pl.length=M.rs.length:=ok.pl;refine⟨_,Z,a,dx,_,_,Z,e,Z,?_⟩;refine⟨_,Z,a,dx,_,_,Z,e,Z,.inl ⟨q,_,0,y,Z,Z,aJ.of eq,dB (gO 0) Z,?_⟩⟩;refine⟨bv,y,pl,d,o,Z,r2,ry,it,λns sp e'=>by rw[lp];exact(ok.row.ok 0 ns sp (by rw[<-e'];rfl)).1.len,aw,λu H1 ru s1=>?_⟩;have e1:=s1 _ _ e;refine⟨_,Z,a,dx,_,Z,e1,by show 9<1000;decide,?_⟩;have eq1:(L2.upd H1 a (.ins C dx (fM mv u (.int dn) (.ref q) cx (.int aD) (.str side) (.str mark) tv))) q=some (.lst (y::yr)):=by rw[aK aq.symm];exact s1 _ _ eq
   refine⟨_,Z,a,dx,_,_,Z,bf,Z,_,Z,q,_,Z,.inl ⟨aJ.of eq1,λq' H2 n2=>?_⟩⟩;have e2:=n2.same _ _ (bf (a:=a));refine⟨_,Z,a,dx,_,Z,e2,by show 9<1000;decide,?_⟩;refine⟨_,Z,a,dx,_,Z,bf,by show 9<1000;decide,?_⟩;have sM:a≠q':=λz=>by have:=n2.no;rw[<-z,bf]at this;cases this
   have key:∀X:Hp,(∀b,b≠a->X b=H2 b)->Q .bw (L2.upd X a (.ins C dx (fM mv u (.int 0) (.ref q') cx (.int aD) (.str side) (.str mark) tv))):=by
    intro X hX;have bt:bc [a] H (L2.upd X a (.ins C dx (fM mv u (.int 0) (.ref q') cx (.int aD) (.str side) (.str mark) tv))):=λb o' eb hb=>by have ha:b≠a:=λz=>hb (by rw[z];exact .head _);rw[aK ha,hX b ha];exact n2.same _ _ (by rw[aK ha];exact s1 _ _ eb)
    have sv:=bt.v λx hx o' eo=>by rw[bU]at hx;rw[hx,e]at eo;cases eo;trivial
    have vL:bW H1 (L2.upd X a (.ins C dx (fM mv u (.int 0) (.ref q') cx (.int aD) (.str side) (.str mark) tv))):=λb o' nb eb=>by
     have ha:b≠a:=λz=>by rw[z,e1]at eb;cases eb;exact nb trivial
     rw[aK ha,hX b ha];exact n2.same _ _ (by rw[aK ha];exact eb)
    have kx:=n2.at';rw[abo]at kx;refine k q' _ ⟨⟨dx,mv,u,cx,tv,bf,RD.v sv _ (iJ _ _ _ _ _) r1,RD.v vL _ (gD _) ru,r3.v sv,r4.v sv⟩,yr,?_,?_⟩ ?_ bt
    ·rw[aK sM.symm,hX q' sM.symm];exact kx
    ·exact aP.v sv _ ok.row.tail.no rr
    ·cases e':H q' with |none=>rfl |some o'=>have h1:=s1 _ _ e';have h2:=n2.no;rw[aK sM.symm,h1]at h2;cases h2
   exact key _ (λb hb=>by rw[aK hb])
theorem mn4{x y z u q:Rat}(h:q=x\/q=y\/q=z\/q=u)(h1:q<=x)(h2:q<=y)(h3:q<=z)(h4:q<=u):mn (mn (mn x y) z) u=q:=by
 refine DV ?_ (lK (lK (lK h1 h2) h3) h4);rcases h with h|h|h|h
 ·rw[h];exact eV (gP _ _) (eV (gP _ _) (gP _ _))
 ·rw[h];exact eV (gP _ _) (eV (gP _ _) (kU _ _))
 ·rw[h];exact eV (gP _ _) (kU _ _)
 ·rw[h];exact kU _ _
theorem C9{H:Hp}{Q:VK}{l:Addr}{u1 u2 u3:V}{x y z:Rat}(dl:H l=some (.lst [u1,u2,u3]))(R1:bE K H u1 x)(R2:bE K H u2 y)(R3:bE K H u3 z)(b1:Bd 2000 x)(b2:Bd 2000 y)(b3:Bd 2000 z)(k:∀v,bE K H v (mn (mn x y) z)->Q v H):jJ K [.ref l] H Q E0:=by
 refine⟨l,[u1,u2,u3],[x,y,z],Z,aJ.of dl,⟨R1,b1,R2,b2,R3,b3,trivial⟩,by simp,λc v q e1 e2 hq=>k v ?_⟩;have e:mn (mn x y) z=q:=by
  refine mn3 ?_ (hq _ (by simp)) (hq _ (by simp)) (hq _ (by simp))
  match c,e2 with |0,e2=>cases e2;exact .inl rfl |1,e2=>cases e2;exact .inr (.inl rfl) |2,e2=>cases e2;exact .inr (.inr rfl)
 rw[e]
 match c,e1,e2 with |0,e1,e2=>cases e1;cases e2;exact R1 |1,e1,e2=>cases e1;cases e2;exact R2 |2,e1,e2=>cases e1;cases e2;exact R3
theorem C8{H:Hp}{Q:VK}{l:Addr}{u1 u2 u3 u4:V}{x y z t:Rat}(dl:H l=some (.lst [u1,u2,u3,u4]))(R1:bE K H u1 x)(R2:bE K H u2 y)(R3:bE K H u3 z)(R4:bE K H u4 t)(b1:Bd 2000 x)(b2:Bd 2000 y)(b3:Bd 2000 z)(b4:Bd 2000 t)(k:∀v,bE K H v (mn (mn (mn x y) z) t)->Q v H):jJ K [.ref l] H Q E0:=by
 refine⟨l,[u1,u2,u3,u4],[x,y,z,t],Z,aJ.of dl,⟨R1,b1,R2,b2,R3,b3,R4,b4,trivial⟩,by simp,λc v q e1 e2 hq=>k v ?_⟩;have e:mn (mn (mn x y) z) t=q:=by
  refine mn4 ?_ (hq _ (by simp)) (hq _ (by simp)) (hq _ (by simp)) (hq _ (by simp))
  match c,e2 with |0,e2=>cases e2;exact .inl rfl |1,e2=>cases e2;exact .inr (.inl rfl) |2,e2=>cases e2;exact .inr (.inr (.inl rfl)) |3,e2=>cases e2;exact .inr (.inr (.inr rfl))
 rw[e]
 match c,e1,e2 with |0,e1,e2=>cases e1;cases e2;exact R1 |1,e1,e2=>cases e1;cases e2;exact R2 |2,e1,e2=>cases e1;cases e2;exact R3 |3,e1,e2=>cases e1;cases e2;exact R4
theorem si{D:Nat}{q:Rat}{z:Int}(h:Dd D q)(hl:q<=1600)(hz:0<=z)(RW:z<2^24)(hD:D<=1700):Bd 2000 (q+(z:Rat)):=by have b:Bd (D+11) q:=h.bd (eV hl aY);exact(DB b aw).mono aw
theorem O3:bF ["self","top","reach","left","rise","fall","middles","ends","square","steps","gone","still"] ["self","top","reach","left"] (aZ FG):=bP aY
def Ib(M:bL)(S:bh)(top R:Rat)(left:Int):bh:={S with pc:=pD M.r M.f S.pc top R left S.aW,aW:=BK S.aW}
inductive W9(K:aa)(C:Addr)(vs:List V)(H:Hp)(Q:VK):Prop |mk (a:_)(q:_)(M:_)(D:_)(S:_)(tv:_)(Rv:_)(top:_)(R:_)(left:_)(h0:vs=[.ref a,tv,Rv,.int left])(h1:cD K C H a q M S)(h2:cj M D S)(h3:M.Ok)(h4:bE K H tv top)(h5:Dd 14 top)(h6:top<=1600)(h7:bE K H Rv R)(h8:Dd 64 R)(h9:R<=1600)(zJ:1<=left)(SS:left<=100)(zI:¬Halt S.pc S.aW)(SR:∀v H',bE K H' v (mi M.r M.f S.pc top R left S.aW)->cD K C H' a q M (Ib M S top R left)->bc [a] H H'->Q v H'):W9 K C vs H Q
def N6(K:aa)(C:Addr):Sp:=λvs H Q _=>W9 K C vs H Q
theorem a3m{C:Addr}(F:MA K C "next_square" "Runner.next_square" FG)(TC:fV K C)(wY:aI P w K mg base "plus_whole" 4 (Bg K))(S0:aI P w K mg base "times" 3 (nA (·*·) K))(rK:aI P w K mg base "fraction" 3 (vO K))(xg:aI P w K mg base "least" 2 (jJ K))(uS:cN P w K mg base C "is_held" 1 (fh K C λ_ S H Q=>Q (.bl S.aW.isSome) H)):cN P w K mg base C "next_square" 5 (N6 K C):=by
 refine F.has O3 (λvs H Q E h=>?_) (λ_ _ _ _ _ _=>DA λ_ _ _ _=>rfl) (λf aQ A outer s H vs Q E hr h=>?_)
 ·obtain⟨a,q,M,D,S,tv,Rv,top,R,left,rfl,_⟩:=h
  rfl
 ·obtain⟨a,q,M,D,S,tv,Rv,top,R,left,rfl,R0,ok,aM,rt,td,tl,rR,Rd,Rl,l1,l2,nh,k⟩:=h
  obtain⟨dx,mv,bv,cx,sv,e,r1,r2,r3,r4⟩:=R0.ob;obtain⟨ys,eq,rq⟩:=R0.qu;have aq:=R0.ne;have nd:=O3.nd;have BB:=aM.r1;have rX:=aM.f1;have D1:=ok.D1;have D2:=ok.D2;have kY:(2:Int)^24=16777216:=by decide
  obtain⟨ma,mb,rfl,hZ,jR⟩:=lJ r1;refine⟨_,(aF (p9 (i:=4) (j:=5) Z nd Z Z aB Z Z (au (px K (cS TC.cl TC.nQ (pv 0)) aE) (au (px K (cS TC.cl TC.nQ (pv 0)) aE) az)) rfl) (aF (pS 6 nd (dj (au (pf wY hr (au (cS TC.cl TC.rn (pv 0)) (au (pv 4) az))) (au (pv 1) (au (pf wY hr (au (pv 2) (au (aO bO (pv 5) (aO gG (aO bO aE (pv 3)) aE)) az))) az))))) (aF (pS 7 nd (dj (au (pf wY hr (au (cS TC.cl TC.rn (pv 0)) (au (aO bO aE (pv 4)) az))) (au (pv 1) (au (pf wY hr (au (pv 2) (au (aO bO (aO bO aE (pv 5)) (aO gG (pv 3) aE)) az))) az))))) (aF (hJ (bN (cP (gs uS TC.cl (hr.mono aB) (pv 0))) (aF (gq (cS TC.cl TC.wK (pv 0)) (eK K rfl (n:=3) rfl (cg (bJ 8 nd) (cg (bJ 9 nd) (cg (bJ 10 nd) eG))))) (aF (pS 11 nd (aO gG (aO gG (pv 9) (pv 10)) aE)) (aF (hO (jq K Z (pv 6) (au (pf S0 hr (au (pv 8) (au (pf rK hr (au (aO da (aO bO aE (pv 11)) aE) (au (aO bO aE (pv 9)) az))) az))) az))) (aF (hO (jq K Z (pv 7) (au (pf S0 hr (au (pv 8) (au (pf rK hr (au (pv 11) (au (pv 9) az))) az))) az))) (aH (ie TC.cl TC.wK (pv 0) (ek (au (pv 8) (au (pv 9) (au (aO da (pv 10) aE) az)))))))))) bQ)) (aF (ie TC.cl TC.rn (pv 0) (pf xg hr (au (pv 7) az))) (aH (aX (pf xg hr (au (pv 6) az))))))))),?_⟩;refine⟨_,Z,a,dx,_,_,Z,e,Z,.inr ⟨ma,_,1,.int M.r,Z,Z,hZ,Z,?_⟩⟩;refine⟨_,Z,a,dx,_,_,Z,e,Z,.inr ⟨ma,_,2,.int M.f,Z,Z,hZ,Z,_,_,Z,?_⟩⟩;have fl1:(M.f*(2*left-1)).natAbs<=50*200:=by rw[g9];exact mZ aw aw
  have JT:0<=M.f*(2*left-1):=jI aw aw;have fl2:(2*M.f*(left-1)).natAbs<=100*100:=by rw[g9];exact mZ aw aw
  have JS:0<=2*M.f*(left-1):=jI aw aw;have yO:Bd 2000 S.pc:=(ok.pd.bd (eV ok.pm aY)).mono aw;have RB:Bd 2000 R:=(Rd.bd (eV Rl aY)).mono aB;have tB:Bd 2000 top:=(td.bd (eV tl aY)).mono aB;have B1:Bd 2000 (S.pc+(M.r:Rat)):=si ok.pd ok.pm aw aw aw;have B2:Bd 2000 (R+((M.f*(2*left-1):Int):Rat)):=si Rd Rl JT aw aw;have B3:Bd 2000 (S.pc+((2*M.r:Int):Rat)):=si ok.pd ok.pm aw aw aw;have B4:Bd 2000 (R+((2*M.f*(left-1):Int):Rat)):=si Rd Rl JS aw aw;refine⟨_,Z,a,dx,_,_,Z,e,Z,_,Z,cx,_,_,Z,r3,yO,aw,λu1 H1 lE s1=>?_⟩;refine⟨_,Z,_,Z,_,Z,_,Z,_,_,Z,Z,.of_left (cw aB aB),_,_,Z,Z,_,_,Z,Z,.of_left (cw aw aw),Rv,_,_,Z,rR.go s1,RB,aw,λu2 H2 u9 s2=>?_⟩;refine⟨bZ Z,λlm H3 n3=>?_⟩;have dc:=s1.trans (s2.trans n3.same);refine⟨_,Z,a,dx,_,_,Z,dc _ _ e,Z,_,Z,_,_,Z,Z,.of_left (cw aB aB),cx,_,_,Z,r3.go dc,yO,aw,λu3 H4 GN s4=>?_⟩;have fG:=dc.trans s4;refine⟨_,Z,_,Z,_,Z,_,_,Z,Z,.of_left (cw aB aB),_,Z,_,_,Z,Z,_,_,Z,Z,.of_left (cw aw aw),Rv,_,_,Z,rR.go fG,RB,aw,λu4 H5 GL s5=>?_⟩;refine⟨bZ Z,λle H6 n6=>?_⟩;have kN:=fG.trans (s5.trans n6.same);have qO:=s4.trans (s5.trans n6.same);have e6:=kN _ _ e;have R6:=R0.same ok.row.no kN;have U1:=lE.go (s2.trans (n3.same.trans qO));have U2:=u9.go (n3.same.trans qO);have U3:=GN.go (s5.trans n6.same);have U4:=GL.go n6.same;have T6:=rt.go kN;have dm:=qO _ _ n3.at';have de:=n6.at';have KN:a≠lm:=λz=>by have:=n3.no;rw[<-z,(s1.trans s2) _ _ e]at this;cases this
  have Vc:a≠le:=λz=>by have:=n6.no;rw[<-z,(fG.trans s5) _ _ e]at this;cases this
  have zj:lm≠le:=λz=>by have:=n6.no;rw[<-z,(s4.trans s5) _ _ n3.at']at this;cases this
  have BM:H lm=none:=by cases e':H lm with |none=>rfl |some o=>have:=(s1.trans s2) _ _ e';rw[n3.no]at this;cases this
  have yY:H le=none:=by cases e':H le with |none=>rfl |some o=>have:=(fG.trans s5) _ _ e';rw[n6.no]at this;cases this
  refine⟨λO H7=>∃qK w8 w9 lC oV um ue,O=[some (.ref a),some tv,some Rv,some (.int left),some (.int M.r),some (.int M.f),some (.ref lm),some (.ref le),w8,w9,lC,oV]/\bc [a,lm,le] H6 H7/\H7 a=some (.ins C dx (fM (.ref ma) bv (.int S.dn) (.ref q) cx (.int S.aD) (.str S.side) (.str S.mark) qK))/\xO K H7 qK (BK S.aW)/\H7 lm=some (.lst um)/\H7 le=some (.lst ue)/\(∀H8 Q',bW H7 H8->H8 lm=some (.lst um)->(∀v,bE K H8 v (mi M.r M.f S.pc top R left S.aW)->Q' v H8)->jJ K [.ref lm] H8 Q' E0)/\(∀H8 Q',bW H7 H8->H8 le=some (.lst ue)->(∀v,bE K H8 v (pD M.r M.f S.pc top R left S.aW)->Q' v H8)->jJ K [.ref le] H8 Q' E0),?_,?_⟩
  ·refine⟨_,Z,a,dx,_,Z,e6,Z,a,q,M,D,S,Z,R6,ok,aM,_,Z,?_⟩
   cases hs:S.aW with |none=>rw[hs]at r4;refine bK ⟨sv,_,_,_,_,_,_,Z,bc.refl _ _,e6,r4,dm,de,λH8 Q' sV d8 kq=>C9 d8 (U1.v sV) (T6.v sV) (U2.v sV) B1 tB B2 kq,λH8 Q' sV d8 kq=>C9 d8 (U3.v sV) (T6.v sV) (U4.v sV) B3 tB B4 kq⟩ |some z=>
    obtain⟨sq,st,gn⟩:=z;rw[hs]at r4;have sk:=ok.aW;rw[hs]at sk nh;obtain⟨g1,g2,g3⟩:=wF sk ok.pd.nn nh;obtain⟨gn0,gn1,B9,tS,tR,_,_⟩:=sk;obtain⟨ta,su,rfl,wX,hsu⟩:=r4;refine cf ?_;have a6K:=wX.go kN;have J4:=hsu.go kN;have Ba:Bd 2000 sq:=(tS.bd tR).mono aw;refine⟨_,Z,a,dx,_,_,Z,e6,Z,ta,_,Z,a6K,Z,_,_,Z,_,_,Z,_,_,Z,Z,?_⟩;refine⟨_,Z,_,Z,_,_,Z,Z,_,_,Z,Z,?_⟩;have kY:sizeLine=16777216:=by decide
    refine⟨_,Z,.inl ⟨Z,_,aJ.of dm⟩,_,Z,_,Z,_,_,Z,Z,.of_left (cw aB aB),_,_,Z,Z,_,Z,_,_,Z,Z,.of_left (cw aB aB),_,_,Z,aw,iB (n:=64) aw aB,λfv H7 rf s7=>?_⟩;have fB:Bd 2000 (Rat.divInt (2*(st-gn-1)+1) (2*st)):=(kS (n:=12) aw aw aw).mono aB;have fB2:Bd 2000 (Rat.divInt (st-gn-1) st):=(kS (n:=12) aw aw aw).mono aB;have pB:Bd 2000 (sq*Rat.divInt (2*(st-gn-1)+1) (2*st)):=((tS.bd tR).mul (kS (n:=12) aw aw aw)).mono aw;have HK:Bd 2000 (sq*Rat.divInt (st-gn-1) st):=((tS.bd tR).mul (kS (n:=12) aw aw aw)).mono aw;refine⟨su,fv,sq,_,Z,J4.go s7,rf,Ba,fB,λx1 H8 yF s8=>?_⟩;have wa:=s7.trans s8;have Ub:=wa _ _ dm;refine⟨lm,_,_,Z,Z,Ub,by show 3<sizeLine;lia,?_⟩;have v8:bW H8 (L2.upd H8 lm (.lst ([u1,tv,u2]++[x1]))):=.upd Ub trivial;have Up:(L2.upd H8 lm (.lst ([u1,tv,u2]++[x1]))) le=some (.lst [u3,tv,u4]):=by rw[aK zj.symm];exact wa _ _ de
    refine⟨_,Z,.inl ⟨Z,_,aJ.of Up⟩,_,Z,_,Z,_,Z,_,_,Z,aw,iB (n:=64) aw aB,λgv H9 rg s9=>?_⟩;refine⟨su,gv,sq,_,Z,((J4.go wa).v v8).go s9,rg,Ba,fB2,λx2 jW yE nK=>?_⟩;have vZ:=s9.trans nK;have Uq:=vZ _ _ Up;refine⟨le,_,_,Z,Z,Uq,by show 3<sizeLine;lia,?_⟩;have v10:bW jW (L2.upd jW le (.lst ([u3,tv,u4]++[x2]))):=.upd Uq trivial;refine⟨_,Z,_,Z,_,Z,_,_,Z,Z,bZ Z,λtn j4 jN=>?_⟩;have Yq:bW H6 jW:=(wa.v.trans v8).trans vZ.v;have Yp:bW H6 j4:=(Yq.trans v10).trans jN.same.v;have e8:(L2.upd H8 lm (.lst ([u1,tv,u2]++[x1]))) a=some (.ins C dx (fM (.ref ma) bv (.int S.dn) (.ref q) cx (.int S.aD) (.str S.side) (.str S.mark) (.ref ta))):=by rw[aK KN];exact wa _ _ e6
    have U7:j4 a=some (.ins C dx (fM (.ref ma) bv (.int S.dn) (.ref q) cx (.int S.aD) (.str S.side) (.str S.mark) (.ref ta))):=jN.same _ _ (by rw[aK Vc];exact vZ _ _ e8);refine⟨_,Z,a,dx,_,Z,U7,by show 9<1000;decide,?_⟩;have ng:bW j4 (L2.upd j4 a (.ins C dx (fM (.ref ma) bv (.int S.dn) (.ref q) cx (.int S.aD) (.str S.side) (.str S.mark) (.ref tn)))):=.upd U7 trivial;have tK:=Yp.trans ng;have Yo:=(((v8.trans vZ.v).trans v10).trans jN.same.v).trans ng;have Yt:=(v10.trans jN.same.v).trans ng;refine⟨.ref tn,_,_,_,_,[u1,tv,u2,x1],[u3,tv,u4,x2],Z,λb o' eb hb=>?_,bf,⟨tn,su,Z,aU.v ng (aU.of jN.at'),J4.v tK⟩,?_,?_,λH' Q' sV d' kq=>?_,λH' Q' sV d' kq=>?_⟩
    ·have ha:b≠a:=λz=>hb (by rw[z];simp)
     have Jk:b≠lm:=λz=>hb (by rw[z];simp);have hle:b≠le:=λz=>hb (by rw[z];simp);rw[aK ha];exact jN.same _ _ (by rw[aK hle];exact vZ _ _ (by rw[aK Jk];exact wa _ _ eb))
    ·rw[aK KN.symm]
     exact jN.same _ _ (by rw[aK zj];exact vZ _ _ bf)
    ·rw[aK Vc.symm]
     exact jN.same _ _ bf
    ·exact C8 d' ((U1.v tK).v sV) ((T6.v tK).v sV) ((U2.v tK).v sV) ((yF.v Yo).v sV) B1 tB B2 pB kq
    ·exact C8 d' ((U3.v tK).v sV) ((T6.v tK).v sV) ((U4.v tK).v sV) ((yE.v Yt).v sV) B3 tB B4 HK kq
  ·rintro O H7 ⟨qK,w8,w9,lC,oV,um,ue,rfl,bt,e7,oZ,dm7,de7,km,ke⟩
   refine⟨_,Z,?_⟩;dsimp only[kM];refine ke H7 _ .refl de7 λpe Bx=>?_;refine⟨_,Z,a,dx,_,Z,e7,by show 9<1000;decide,?_⟩;have v8:bW H7 (L2.upd H7 a (.ins C dx (fM (.ref ma) bv (.int S.dn) (.ref q) pe (.int S.aD) (.str S.side) (.str S.mark) qK))):=.upd e7 trivial;refine⟨_,Z,?_⟩;dsimp only[kM];refine km _ _ v8 (by rw[aK KN.symm];exact dm7) λv rv=>?_;have bH:bc [a] H (L2.upd H7 a (.ins C dx (fM (.ref ma) bv (.int S.dn) (.ref q) pe (.int S.aD) (.str S.side) (.str S.mark) qK))):=λb o' eb hb=>by
    have ha:b≠a:=λz=>hb (by rw[z];simp);rw[aK ha];refine bt b o' (kN _ _ eb) λhm=>?_;simp only[bM,cL,dv]at hm;rcases hm with h|h|h
    ·exact ha h
    ·rw[h,BM]at eb;cases eb
    ·rw[h,yY]at eb;cases eb
   have vH:bW H (L2.upd H7 a (.ins C dx (fM (.ref ma) bv (.int S.dn) (.ref q) pe (.int S.aD) (.str S.side) (.str S.mark) qK))):=bH.v λx hx o' eo=>by rw[bU]at hx;rw[hx,e]at eo;cases eo;trivial
   refine k v _ rv ⟨⟨dx,.ref ma,bv,pe,qK,bf,RD.v vH _ (iJ _ _ _ _ _) r1,RD.v vH _ (gD _) r2,Bx.v v8,oZ.v v8⟩,ys,bH _ _ eq (by rw[bU];exact aq.symm),aP.v vH _ ok.row.no rq⟩ bH
end
end Lw
set_option maxHeartbeats 2000000
namespace Lw
open PySem PySem.Spec PyProof.Rows L2 Rt Ln Cn Pn Wk Rn
open Ow (topR cornO mnO betR atO ownF leadF ownL OkI OkIs)
section
variable {w:World}{mg:Str->Option Value}{base:Heap}
noncomputable def fS(M:bL)(S:bh):Rat:=Pj M.f M.j S.aD S.os
noncomputable def ID(M:bL)(S:bh)(ns:List Int)(sp:Int):Rat:=mi M.r M.f S.pc (topR S.aD sp) (fS M S) ((aL ns:Int)-S.dn) S.aW
noncomputable def nV(M:bL)(S:bh)(ns:List Int)(sp:Int):ai:=oY M.t (iE ns S.dn) (ID M S ns sp)
noncomputable def fP(M:bL)(S:bh)(ns:List Int)(sp:Int):bh:={Ib M S (topR S.aD sp) (fS M S) ((aL ns:Int)-S.dn)with dn:=S.dn+1}
def fN(ns:List Int)(S:bh):bh:=if S.dn=aL ns then iP S else S
def cy(d:ai)(S:bh):bh:=match d with | .tuple [.str w,.str s]=>if w="tool" then{S with side:=s}else if w="mark" then{S with mark:=s}else S |_=>S
inductive One(M:bL):bh->ai->bh->Prop |line {S:bh}{ns:List Int}{sp:Int}:S.os[0]? =some (some (ns,sp))->¬Halt S.pc S.aW->One M S (nV M S ns sp) (fN ns (fP M S ns sp)) |ip {S:bh}{d:ai}:S.os[0]? =some none->S.ds[0]? =some d->¬Halt S.pc S.aW->One M S d (iP (cy d S))
inductive Run(M:bL):bh->List ai->bh->Prop |nil (S:bh):Run M S [] S |cons {S S1 S2:bh}{e:ai}{es:List ai}:One M S e S1->Run M S1 es S2->Run M S (e::es) S2
theorem Run.trans{M:bL}{S S1 S2:bh}{es fs:List ai}(h:Run M S es S1)(g:Run M S1 fs S2):Run M S (es++fs) S2:=by induction h with |nil=>exact g |cons o _ ih=>exact .cons o (ih g)
theorem Run.snoc{M:bL}{S S1 S2:bh}{es:List ai}{e:ai}(h:Run M S es S1)(g:One M S1 e S2):Run M S (es++[e]) S2:=h.trans (.cons g (.nil _))
theorem Bl{M:bL}{D:Nat}{S:bh}(h:la M D S)(d:ai):la M D (cy d S)/\(cy d S).os=S.os/\(cy d S).ds=S.ds/\(cy d S).dn=S.dn/\(cy d S).pl=S.pl:=by
 unfold cy;split
 ·split
  ·exact⟨⟨h.row,h.rw,h.len,h.dh,h.dF,h.pl,h.pd,h.pm,h.aW,h.D1,h.D2⟩,Z,Z,Z,Z⟩
  ·split
   ·exact⟨⟨h.row,h.rw,h.len,h.dh,h.dF,h.pl,h.pd,h.pm,h.aW,h.D1,h.D2⟩,Z,Z,Z,Z⟩
   ·exact⟨h,Z,Z,Z,Z⟩
 ·exact⟨h,Z,Z,Z,Z⟩
theorem Hc{M:bL}{D:Nat}{S:bh}(h:la M D S)(aM:M.Ok)(hn:S.os≠[]):Dd 64 (fS M S)/\fS M S<=1600:=by
 have h1:1<=S.os.length:=by cases e:S.os with|nil=>exact(hn e).elim|cons _ _=>simp
 refine⟨a9o (by have:=aM.f1;lia) (λi _=>a2z aM.j1.1 aM.j1.2 h.dh h.dF h.row.wB i) 1 h1,?_⟩;exact eV (a9n h1) (a2y h.dh h.dF h.row.wB 1)
theorem Rb{M:bL}{D:Nat}{S:bh}{ns:List Int}{sp:Int}(h:la M D S)(aM:M.Ok)(eo:S.os[0]? =some (some (ns,sp)))(hd:S.dn<aL ns)(nh:¬Halt S.pc S.aW):la M D (fP M S ns sp):=by
 have hn:S.os≠[]:=λe=>by rw[e]at eo;simp at eo
 obtain⟨R1,R2⟩:=Hc h aM hn;obtain⟨eZ,s1,s2⟩:=h.row.ok 0 ns sp eo;have D1:=h.D1;have BB:=aM.r1;have rX:=aM.f1;refine⟨h.row,h.rw,h.len,h.dh,h.dF,h.pl,?_,?_,?_,h.D1,h.D2⟩
 ·exact aaK aw aw aw h.pd ((En _ _).mono aw) (R1.mono aw) h.aW nh
 ·exact eV aaJ (AV s1 s2 h.dh h.dF)
 ·exact ZK h.aW h.pd.nn nh
theorem One.ok{M:bL}{D:Nat}{S S1:bh}{e:ai}(h:cj M D S)(aM:M.Ok)(o:One M S e S1):cj M D S1:=by cases o with
 |@line ns sp eo nh=>
  have hd:S.dn<aL ns:=by
   rcases h.dn with e|⟨yV,yx,e1,e2⟩
   ·rw[e];exact(h.row.ok 0 ns sp eo).1.lead.1
   ·rw[eo]at e1;cases e1;exact e2
  have raw:=Rb h.raw aM eo hd nh;have hn:S.os≠[]:=λe=>by rw[e]at eo;simp at eo
  unfold fN;split
  ·exact raw.end hn
  ·next dX=>
   refine raw.ok (.inr ⟨ns,sp,eo,?_⟩);have:(fP M S ns sp).dn=S.dn+1:=rfl
   lia |ip eo ed nh=>obtain⟨h1,h2,_⟩:=Bl h.raw e;refine h1.end ?_;rw[h2];intro z;rw[z]at eo;simp at eo
theorem Run.ok{M:bL}{D:Nat}{S S1:bh}{es:List ai}(h:cj M D S)(aM:M.Ok)(r:Run M S es S1):cj M D S1:=by induction r with |nil=>exact h |cons o _ ih=>exact ih (o.ok h aM)
theorem One.no{M:bL}{D:Nat}{S S1:bh}{e:ai}(h:cj M D S)(o:One M S e S1):fJ e=true:=by cases o with |line _ _=>exact Eu _ _ _ |ip eo ed _=>exact iH.mp h.row.no _ (gX ed)
theorem Run.no{M:bL}{D:Nat}{S S1:bh}{es:List ai}(h:cj M D S)(aM:M.Ok)(r:Run M S es S1):cZ es=true:=by induction r with |nil=>rfl |cons o _ ih=>rw[cZ,fE];exact⟨o.no h,ih (o.ok h aM)⟩
theorem zp{b:Bool}{A B A' B':Prop}(h1:A->A')(h2:B->B'):(if b=true then A else B)->(if b=true then A' else B'):=by
 cases b
 ·exact h2
 ·exact h1
theorem O2:bF ["self","most","line","lead","rows","top","reach","told","middle"] ["self","most"] (aZ FC):=bP aY
inductive W8(K:aa)(C:Addr)(vs:List V)(H:Hp)(Q:VK):Prop |mk (a:_)(q:_)(M:_)(D:_)(S:_)(ns:_)(sp:_)(most:_)(h0:vs=[.ref a,.int most])(h1:cD K C H a q M S)(h2:cj M D S)(h3:M.Ok)(h4:S.os[0]? =some (some (ns,sp)))(h5:¬Halt S.pc S.aW)(h6:1<=most)(h7:most<=1000)(h8:∀l ys es S' q' H',H l=none->H' l=some (.lst ys)->aP K H' ys es->Run M S es S'->1<=es.length->(es.length:Int)<=most->cD K C H' a q' M S'->Mv a q H q' H'->l≠q'->Q (.ref l) H'):W8 K C vs H Q
def N5(K:aa)(C:Addr):Sp:=λvs H Q _=>W8 K C vs H Q
theorem a3h{C:Addr}(F:MA K C "steps_of_first" "Runner.steps_of_first" FC)(TC:fV K C)(B:bV mg)(pL:aI P w K mg base "lead_of" 1 (m7 K))(a6O:aI P w K mg base "step_rows" 3 (EE K))(Ck:aI P w K mg base "top_square" 4 (Bb K))(a6U:aI P w K mg base "reach_behind_first" 9 (EF K))(a6P:aI P w K mg base "step_entry" 3 (EL K))(zE:cN P w K mg base C "is_halted" 2 (fh K C λ_ S H Q=>Q (.bl (S.aW.isSome&&decide (S.pc=0))) H))(a8t:cN P w K mg base C "next_square" 5 (N6 K C))(JE:cN P w K mg base C "end_first" 3 (EH K C)):cN P w K mg base C "steps_of_first" 10 (N5 K C):=by
 refine F.has O2 (λvs H Q E h=>?_) (λ_ _ _ _ _ _=>dN λ_ _=>rfl) (λf aQ A outer s H vs Q E hr h=>?_)
 ·obtain⟨a,q,M,D,S,ns,sp,most,rfl,_⟩:=h
  rfl
 ·obtain⟨a,q,M,D,S,ns,sp,most,rfl,R0,ok,aM,eo,nh,m1,m2,k⟩:=h
  obtain⟨dx,mv,bv,cx,tv,e,r1,r2,r3,r4⟩:=R0.ob;obtain⟨ys,eq,rq⟩:=R0.qu;have aq:=R0.ne;have nd:=O2.nd;have lr:=aM.len;have BB:=aM.r1;have rX:=aM.f1;have ll:=ok.row.len;have lS:=ok.len;have pM:0<S.os.length:=(dQ.mp eo).1;have dX:S.os≠[]:=λz=>by rw[z]at pM;exact absurd pM aB
  obtain⟨d,ed⟩:∃d,S.ds[0]? =some d:=⟨_,cu (show 0<S.ds.length by lia)⟩;obtain⟨y,ey,ry⟩:=rq.get 0 ed;have lW:=kW (ok.row.it 0 d _ ed eo);subst lW;obtain⟨eZ,gZ,iD⟩:=ok.row.ok 0 ns sp eo;have BH:fw ns.length 1000 ns:=⟨Z,λz hz=>by have:=eZ.bd z hz;lia,eZ.nz⟩;have fO:=eZ.lead.1;have Rw:=zl eZ;have nl3:ns.length<=3:=by rw[eZ.len];lia
  have hd0:S.dn<aL ns:=by
   rcases ok.dn with e'|⟨yV,yx,e1,e2⟩
   ·lia
   ·rw[eo]at e1;cases e1;exact e2
  obtain⟨Rd,Rl⟩:=Hc ok.raw aM dX;refine⟨_,(aF (pS 2 nd (px K (cS TC.cl TC.iI (pv 0)) aE)) (aF (pS 3 nd (pf pL hr (au (pv 2) az))) (aF (pS 4 nd (pf a6O hr (au (pv 2) az))) (aF (pS 5 nd (pf Ck hr (au (pv 2) (au (cS TC.cl TC.BP (pv 0)) az)))) (aF (pS 6 nd (pf a6U hr (au (cS TC.cl TC.nQ (pv 0)) (au (cS TC.cl TC.iI (pv 0)) (au (cS TC.cl TC.BP (pv 0)) az))))) (aF (pS 7 nd (dj az)) (aF (hJ (nO iA (PW.pt (nN (ck kl (dJ K B (au (pv 7) az)) (pv 1) (bB _)) (nN (ck kl (cS TC.cl TC.nR (pv 0)) (pv 3) (bB _)) (qR (eO (cP (gs zE TC.cl (hr.mono aB) (pv 0)))))))) (aF (pS 8 nd (yN a8t TC.cl (hr.mono aB) (pv 0) (au (pv 5) (au (pv 6) (au (aO gG (pv 3) (cS TC.cl TC.nR (pv 0))) az))))) (aF (hO (jq K Z (pv 7) (au (pf a6P hr (au (cS TC.cl TC.nQ (pv 0)) (au (px K (pv 4) (cS TC.cl TC.nR (pv 0))) (au (pv 8) az)))) az))) (aH (a1U TC.cl TC.nR (pv 0) aE a6i)))))) (aF (hJ (bN (ck (cW K Z hr.units) (cS TC.cl TC.nR (pv 0)) (pv 3) (bB _)) (aH (hO (gs JE TC.cl (hr.mono aB) (pv 0)))) bQ)) (aH (aX (pv 7))))))))))),?_⟩;refine⟨_,Z,a,dx,_,_,Z,e,Z,.inl ⟨q,_,0,y,Z,Z,aJ.of eq,dB (gO 0) ey,?_⟩⟩;refine⟨_,Z,y,ns,sp,Z,ry,eZ.ne,aw,λH1 s1=>?_⟩;refine⟨_,Z,y,ns,sp,Z,RD.mono s1 _ ry,BH,aw,λnU yr H2 nlr Uc Pf s2=>?_⟩;have jK:=s1.trans s2;refine⟨_,Z,_,Z,a,dx,_,_,Z,jK _ _ e,Z,y,ns,sp,S.aD,Z,RD.mono jK _ ry,gZ,iD,ok.dh,ok.dF,λtN H3 rtp s3=>?_⟩;have dc:=jK.trans s3;have e3:=dc _ _ e;refine⟨_,Z,a,dx,_,_,Z,e3,Z,_,Z,a,dx,_,_,Z,e3,Z,_,Z,a,dx,_,_,Z,e3,Z,mv,.ref q,S.aD,M.rs,M.r,M.f,M.j,M.t,S.ds,S.os,Z,RD.mono dc _ r1,aM,kO (aJ.of (dc _ _ eq)) (aP.mono dc _ rq),ok.row,aw,aw,ok.dh,ok.dF,λuc H4 rrc s4=>?_⟩;have fG:=dc.trans s4;refine⟨bZ Z,λl H5 n5=>?_⟩;have wc:=fG.trans n5.same;have tX:aG H2 H5:=s3.trans (s4.trans n5.same);have nl:H l=none:=by cases e':H l with |none=>rfl |some o=>have:=fG _ _ e';rw[n5.no]at this;cases this
  have Qv:H nU=none:=by cases e':H nU with |none=>rfl |some o=>have:=s1 _ _ e';rw[nlr]at this;cases this
  have al:a≠l:=λz=>by rw[<-z,e]at nl;cases nl
  have ql:q≠l:=λz=>by rw[<-z,eq]at nl;cases nl
  have V9:a≠nU:=λz=>by rw[<-z,e]at Qv;cases Qv
  have llr:l≠nU:=λz=>by have:=n5.no;rw[z,(s3.trans s4) _ _ Uc]at this;cases this
  have Yg:=Pf.length;rw[GR]at Yg;have td:=En S.aD sp;have tl:=AV gZ iD ok.dh ok.dF;have tp:=Mp gZ ok.dh;have a4q:fN ns S=S:=by unfold fN;rw[bu aw]
  have kY:sizeLine=16777216:=by decide
  refine⟨λO H6=>∃T es us w8,O=[some (.ref a),some (.int most),some y,some (.int (aL ns)),some (.ref nU),some tN,some uc,some (.ref l),w8]/\bc [a,l] H5 H6/\cD K C H6 a q M T/\la M D T/\T.os=S.os/\T.ds=S.ds/\T.aD=S.aD/\T.dn<=aL ns/\1<=es.length/\(es.length:Int)<=most/\H6 l=some (.lst us)/\aP K H6 us es/\cZ es=true/\Run M S es (fN ns T),?_,?_⟩
  ·refine nc (λO H6=>∃T es us w8,O=[some (.ref a),some (.int most),some y,some (.int (aL ns)),some (.ref nU),some tN,some uc,some (.ref l),w8]/\bc [a,l] H5 H6/\cD K C H6 a q M T/\la M D T/\T.os=S.os/\T.ds=S.ds/\T.aD=S.aD/\T.dn=S.dn+es.length/\T.dn<=aL ns/\(es.length:Int)<=most/\H6 l=some (.lst us)/\aP K H6 us es/\cZ es=true/\Run M S es (fN ns T)/\(es=[]->¬Halt T.pc T.aW)) (λ_ H6=>match H6 l with|some (.lst us)=>2000-us.length|_=>0) ?_ ?_ ?_
   ·exact⟨S,[],[],none,Z,bc.refl _ _,R0.same ok.row.no wc,ok.raw,Z,Z,Z,Z,aw,by simp;lia,n5.at',cX,Z,by rw[a4q];exact .nil _,λ_=>nh⟩
   ·rintro O H6 ⟨T,es,us,w8,rfl,bt,RT,raw,iO,Dh,xB,edn,Sj,lP,dl,rd,lN,run,hnh⟩
    have lu:=rd.length;obtain⟨v9,jw,bv6,a2r,YG,e6,t1,t2,t3,t4⟩:=RT.ob;have Eh:bW H5 H6:=bt.v λx hx o' df=>by
     simp only[bM,cL,dv]at hx;rcases hx with rfl|rfl
     ·rw[wc _ _ e]at df;cases df;trivial
     ·rw[n5.at']at df;cases df;trivial
    have nos:cZ T.ds=true:=by rw[Dh];exact ok.row.no
    have rZ:1<=es.length->∃T' pY kh AL,[some (.ref a),some (.int most),some y,some (.int (aL ns)),some (.ref nU),some tN,some uc,some (.ref l),w8]=[some (.ref a),some (.int most),some y,some (.int (aL ns)),some (.ref nU),some tN,some uc,some (.ref l),AL]/\bc [a,l] H5 H6/\cD K C H6 a q M T'/\la M D T'/\T'.os=S.os/\T'.ds=S.ds/\T'.aD=S.aD/\T'.dn<=aL ns/\1<=pY.length/\(pY.length:Int)<=most/\H6 l=some (.lst kh)/\aP K H6 kh pY/\cZ pY=true/\Run M S pY (fN ns T'):=λh1=>⟨T,es,us,w8,Z,bt,RT,raw,iO,Dh,xB,Sj,h1,lP,dl,rd,lN,run⟩;refine⟨_,Z,l,us,Z,.inl (aJ.of dl),_,Z,_,_,Z,Z,_,Z,?_⟩;show if decide ((us.length:Int)<most)=true then _ else _;by_cases c1:(us.length:Int)<most
    ·rw[cR c1]
     refine cf ?_;refine⟨_,Z,a,v9,_,_,Z,e6,Z,_,Z,_,_,Z,Z,_,Z,?_⟩;show if decide ((T.dn:Int)<(aL ns:Int))=true then _ else _;by_cases c2:T.dn<aL ns
     ·rw[cR aw]
      refine cf ?_;have Qk:cj M D T:=raw.ok (.inr ⟨ns,sp,by rw[iO];exact eo,c2⟩);have a4p:fN ns T=T:=by unfold fN;rw[bu aw]
      refine⟨_,Z,a,v9,_,Z,e6,Z,a,q,M,D,T,Z,RT,Qk,aM,_,Z,?_⟩;by_cases c3:Halt T.pc T.aW
      ·have hb:(T.aW.isSome&&decide (T.pc=0))=true:=by obtain⟨h1,h2⟩:=c3;rw[cR h2,LY];cases hs:T.aW with |none=>exact(h1 hs).elim |some _=>rfl
       rw[hb];refine bK ?_;refine rZ ?_;cases es with |nil=>exact(hnh Z c3).elim |cons _ _=>simp
      ·have hb:(T.aW.isSome&&decide (T.pc=0))=false:=by cases hs:T.aW with |none=>rfl |some _=>show decide (T.pc=0)=false;exact fb λh2=>c3 ⟨by rw[hs];simp,h2⟩
       rw[hb];refine cf ?_;have rT:fS M T=fS M S:=by unfold fS;rw[iO,xB]
       refine⟨_,Z,a,v9,_,Z,e6,Z,?_⟩;refine⟨_,Z,_,Z,_,Z,_,Z,a,v9,_,_,Z,e6,Z,_,_,Z,Z,?_⟩;have a0F:bE K H6 tN (topR S.aD sp):=((rtp.go s4).go n5.same).v Eh;have a0N:bE K H6 uc (fS M S):=(rrc.go n5.same).v Eh;refine⟨a,q,M,D,T,tN,uc,topR S.aD sp,fS M S,_,Z,RT,Qk,aM,a0F,td,tl,a0N,Rd,Rl,aw,aw,c3,λmid H7 a0W R7 b7=>?_⟩;obtain⟨sf,uw,Dt,BD,AR,e7',ME,Zx,Zw,Zv⟩:=R7.ob;have e7:H7 a=some (.ins C sf (fM uw Dt (.int T.dn) (.ref q) BD (.int T.aD) (.str T.side) (.str T.mark) AR)):=e7';have AO:bW H6 H7:=b7.v λx hx o' df=>by rw[bU]at hx;rw[hx,e6]at df;cases df;trivial
       have my:=b7 _ _ dl (by rw[bU];exact al.symm);have ab8:=tX _ _ Uc;have ab7:=bt _ _ ab8 (by simp;exact⟨V9.symm,llr.symm⟩);have ab6:=b7 _ _ ab7 (by rw[bU];exact V9.symm);have a0Y:aP K H7 yr (p8 ns):=aP.v AO _ (GQ ns) (aP.v Eh _ (GQ ns) (aP.mono tX _ Pf));obtain⟨rv,TB⟩:∃rv,yr[T.dn]? =some rv:=⟨_,cu (show T.dn<yr.length by lia)⟩;obtain⟨dr,TZ,rdr⟩:=a0Y.get' T.dn TB;rw[Pc c2]at TZ;cases TZ;have mB:Bd 2000 (mi M.r M.f T.pc (topR S.aD sp) (fS M S) ((aL ns:Int)-T.dn) T.aW):=by have D1:=raw.D1;have D2:=raw.D2;exact((QO aw aw aw raw.pd (td.mono aw) (Rd.mono aw) raw.aW c3).bd (eV QM (eV tl aY))).mono aw
       have mP:0<mi M.r M.f T.pc (topR S.aD sp) (fS M S) ((aL ns:Int)-T.dn) T.aW:=QN BB.1 rX.1 aw raw.pd.nn tp Rd.nn raw.aW c3;refine⟨_,Z,.inl ⟨Z,_,aJ.of my⟩,?_⟩;refine⟨_,Z,a,sf,_,_,Z,e7,Z,?_⟩;refine⟨_,Z,_,Z,a,sf,_,_,Z,e7,Z,.inl ⟨nU,_,_,_,Z,Z,aJ.of ab6,dB (show(0:Int)<=(T.dn:Int) by lia) (by simpa using TB),?_⟩⟩;refine⟨_,Z,uw,rv,mid,M.rs,M.r,M.f,M.j,M.t,iE ns T.dn,_,Z,ME,aM,rdr,a0W,mB,mP,λent H8 a1j s8=>?_⟩;have mT:=s8 _ _ my;refine⟨l,us,_,Z,Z,mT,aw,?_⟩;have e8:(L2.upd H8 l (.lst (us++[ent]))) a=some (.ins C sf (fM uw Dt (.int T.dn) (.ref q) BD (.int T.aD) (.str T.side) (.str T.mark) AR)):=by rw[aK al];exact s8 _ _ e7
       refine⟨_,Z,a,sf,_,_,Z,e8,Z,_,_,Z,Z,sf,_,e8,by show 9<1000;decide,?_⟩;have vl:bW H8 (L2.upd H8 l (.lst (us++[ent]))):=.upd mT trivial;have va:bW (L2.upd H8 l (.lst (us++[ent]))) (L2.upd (L2.upd H8 l (.lst (us++[ent]))) a (.ins C sf (fM uw Dt (.int ((T.dn:Int)+1)) (.ref q) BD (.int T.aD) (.str T.side) (.str T.mark) AR))):=.upd e8 trivial;have v7:=(s8.v.trans vl).trans va;have eS:fP M T ns sp={Ib M T (topR S.aD sp) (fS M S) ((aL ns:Int)-T.dn)with dn:=T.dn+1}:=by unfold fP;rw[rT,xB]
       have eE:nV M T ns sp=oY M.t (iE ns T.dn) (mi M.r M.f T.pc (topR S.aD sp) (fS M S) ((aL ns:Int)-T.dn) T.aW):=by unfold nV ID;rw[rT,xB]
       have a72:One M T (nV M T ns sp) (fN ns (fP M T ns sp)):=.line (by rw[iO];exact eo) c3;obtain⟨yq,eq7,rq7⟩:=R7.qu;have Ih:cZ (es++[nV M T ns sp])=true:=iH.mpr λd hd=>by
        rcases vy.mp hd with h|h
        ·exact iH.mp lN d h
        ·rw[bU]at h;rw[h];exact Eu _ _ _
       have q7l:q≠l:=ql;refine⟨⟨fP M T ns sp,es++[nV M T ns sp],us++[ent],_,Z,λb o' eb hb=>?_,?_,Rb raw aM (by rw[iO];exact eo) c2 c3,iO,Dh,xB,?_,?_,?_,?_,?_,?_,?_,λz=>by simp at z⟩,?_⟩
       ·have ha:b≠a:=λz=>hb (by rw[z];simp)
        have eQ:b≠l:=λz=>hb (by rw[z];simp);rw[aK ha,aK eQ];exact s8 _ _ (b7 _ _ (bt _ _ eb hb) (by rw[bU];exact ha))
       ·rw[eS]
        refine⟨⟨sf,uw,Dt,BD,AR,?_,RD.v v7 _ (iJ _ _ _ _ _) ME,RD.v v7 _ (gD _) Zx,Zw.v v7,Zv.v v7⟩,yq,?_,aP.v v7 _ nos rq7⟩
        ·exact bf
        ·rw[aK aq.symm,aK ql];exact s8 _ _ eq7
       ·show T.dn+1=_
        rw[fy];show _=_+(_+1);lia
       ·show T.dn+1<=_
        lia
       ·rw[fy];show((es.length+1:Nat):Int)<=most;lia
       ·rw[aK al.symm,bf]
       ·refine aP.v va _ Ih (aP.v vl _ Ih ?_)
        have r7:aP K H8 us es:=aP.mono s8 _ (aP.v AO _ lN rd);refine r7.append (cm ?_ cX);rw[eE];exact a1j
       ·exact Ih
       ·rw[a4p]at run
        exact run.snoc a72
       ·show(match(L2.upd (L2.upd H8 l (.lst (us++[ent]))) a _) l with|some (.lst us)=>2000-us.length|_=>0)<(match H6 l with|some (.lst us)=>2000-us.length|_=>0)
        rw[aK al.symm,bf,dl];show 2000-(us++[ent]).length<2000-us.length;rw[fy];show 2000-(us.length+1)<_
        lia
     ·rw[fb aw]
      refine bK ?_;exact rZ aw
    ·rw[fb c1]
     refine bK ?_;exact rZ aw
   ·rintro O H6 Q1 Q2 hq ⟨v1,f1,l',kh,f2,f3,v2,f4,i1,i2,f5,f6,b1,f7,h⟩
    refine⟨v1,f1,l',kh,f2,f3,v2,f4,i1,i2,f5,f6,b1,f7,zp ?_ (hq _ _) h⟩;rintro⟨v3,f8,a',vc,fs',u',f9,zQ,zP,v4,K8,i3,i4,K7,K6,b2,zO,h⟩;refine⟨v3,f8,a',vc,fs',u',f9,zQ,zP,v4,K8,i3,i4,K7,K6,b2,zO,zp ?_ (hq _ _) h⟩;rintro⟨v5,K5,a2,vb,JO,K4,K3,K2,a3,q3,M3,D3,S3,K1,K0,JZ,JY,b3,JX,h⟩;exact⟨v5,K5,a2,vb,JO,K4,K3,K2,a3,q3,M3,D3,S3,K1,K0,JZ,JY,b3,JX,hq _ _ h⟩
  ·rintro O H6 ⟨T,es,us,w8,rfl,bt,RT,raw,iO,Dh,xB,Sj,h1,lP,dl,rd,lN,run⟩
   obtain⟨v9,jw,bv6,a2r,YG,e6,t1,t2,t3,t4⟩:=RT.ob;have a7e:T.os≠[]:=by rw[iO];exact dX
   have bH:∀{H7:Hp},bc [a] H6 H7->bc [a,q] H H7:=λ{H7} b7 b o' eb hb=>by
    have ha:b≠a:=λz=>hb (by rw[z];simp);refine b7 _ _ (bt _ _ (wc _ _ eb) λhm=>?_) (by rw[bU];exact ha);simp only[bM,cL,dv]at hm;rcases hm with h|h
    ·exact ha h
    ·rw[h,nl]at eb;cases eb
   refine⟨λO H7=>∃q' AL,O=[some (.ref a),some (.int most),some y,some (.int (aL ns)),some (.ref nU),some tN,some uc,some (.ref l),AL]/\cD K C H7 a q' M (fN ns T)/\Mv a q H q' H7/\l≠q'/\∃kh,H7 l=some (.lst kh)/\aP K H7 kh es,?_,?_⟩
   ·refine⟨_,Z,a,v9,_,_,Z,e6,Z,_,Z,.inl ⟨_,_,Z,Z,_,Z,?_⟩⟩
    show if decide ((T.dn:Int)=(aL ns:Int))=true then _ else _;by_cases c:T.dn=aL ns
    ·rw[cR aw]
     refine cf ?_;refine⟨_,Z,a,v9,_,Z,e6,Z,a,q,M,D,T,Z,RT,raw,aM,a7e,λq' H7 R7 nq b7=>?_⟩;have AO:bW H6 H7:=b7.v λx hx o' df=>by rw[bU]at hx;rw[hx,e6]at df;cases df;trivial
     refine⟨q',_,Z,by unfold fN;rw[bp c];exact R7,⟨bH b7,.inr ?_⟩,λz=>?_,us,b7 _ _ dl (by rw[bU];exact al.symm),aP.v AO _ lN rd⟩
     ·cases e':H q' with |none=>rfl |some o'=>
      have h5:=wc _ _ e';by_cases ha:q'=a
      ·rw[ha,e6]at nq;cases nq
      ·by_cases eQ:q'=l
       ·rw[eQ,nl]at e';cases e'
       ·have:=bt _ _ h5 (by simp;exact⟨ha,eQ⟩)
        rw[nq]at this;cases this
     ·rw[<-z,dl]at nq;cases nq
    ·rw[fb aw]
     refine bK ?_;exact⟨q,_,Z,by unfold fN;rw[bu c];exact RT,⟨bH (bc.refl _ _),.inl Z⟩,ql.symm,us,dl,rd⟩
   ·rintro O H7 ⟨q',AL,rfl,R7,uw,lq,kh,my,wg⟩
    exact⟨_,Z,k l kh es (fN ns T) q' H7 nl my wg run h1 lP R7 uw lq⟩
theorem Mv.trans{a q q1 q2:Addr}{H H1 H2:Hp}(m1:Mv a q H q1 H1)(m2:Mv a q1 H1 q2 H2)(ha:H1 a≠none):Mv a q H q2 H2:=by
 refine⟨λb o e hb=>?_,?_⟩
 ·refine m2.but _ _ (m1.but _ _ e hb) λhm=>?_
  simp only[bM,cL,dv]at hm hb;rcases hm with h|h
  ·exact hb (.inl h)
  ·rcases m1.nq with h1|h1
   ·exact hb (.inr (h.trans h1))
   ·rw[<-h]at h1;rw[h1]at e;cases e
 ·rcases m2.nq with h|h
  ·rw[h];exact m1.nq
  ·cases e:H q2 with |none=>exact .inr rfl |some o=>
   by_cases h1:q2=q
   ·exact .inl h1
   ·by_cases h2:q2=a
    ·rw[h2]at h;exact(ha h).elim
    ·have:=m1.but _ _ e (by simp;exact⟨h2,h1⟩)
     rw[h]at this;cases this
inductive Wg(K:aa)(C:Addr)(vs:List V)(H:Hp)(Q:VK):Prop |mk (a:_)(q:_)(M:_)(D:_)(S:_)(most:_)(h0:vs=[.ref a,.int most])(h1:cD K C H a q M S)(h2:cj M D S)(h3:M.Ok)(h4:S.os≠[])(h5:¬Halt S.pc S.aW)(h6:1<=most)(h7:most<=1000)(h8:∀l ys es S' q' H',H l=none->H' l=some (.lst ys)->aP K H' ys es->Run M S es S'->1<=es.length->(es.length:Int)<=most->cD K C H' a q' M S'->Mv a q H q' H'->l≠q'->Q (.ref l) H'):Wg K C vs H Q
def Na(K:aa)(C:Addr):Sp:=λvs H Q _=>Wg K C vs H Q
theorem O6:bF ["self","most","item"] ["self","most"] (aZ FQ):=bP aY
theorem a3w{C:Addr}(F:MA K C "entries_of_first" "Runner.entries_of_first" FQ)(TC:fV K C)(rH:aI P w K mg base "is_line" 1 (vS K))(a8q:cN P w K mg base C "steps_of_first" 10 (N5 K C))(JE:cN P w K mg base C "end_first" 3 (EH K C)):cN P w K mg base C "entries_of_first" 11 (Na K C):=by
 refine F.has O6 (λvs H Q E h=>?_) (λ_ _ _ _ _ _=>dN λ_ _=>rfl) (λf aQ A outer s H vs Q E hr h=>?_)
 · obtain⟨a,q,M,D,S,most,rfl,_⟩:=h
   rfl
 · obtain⟨a,q,M,D,S,most,rfl,R0,ok,aM,dX,nh,m1,m2,k⟩:=h
   obtain⟨dx,mv,bv,cx,tv,e,r1,r2,r3,r4⟩:=R0.ob;obtain⟨ys,eq,rq⟩:=R0.qu;have aq:=R0.ne;have nd:=O6.nd;have ll:=ok.row.len;have pM:0<S.os.length:=by cases h:S.os with|nil=>exact(dX h).elim|cons _ _=>simp
   obtain⟨d,ed⟩:∃d,S.ds[0]? =some d:=⟨_,cu (show 0<S.ds.length by lia)⟩;obtain⟨y,ey,ry⟩:=rq.get 0 ed;obtain⟨o,eo,it⟩:=ok.row.get ed;refine⟨_,(aF (pS 2 nd (px K (cS TC.cl TC.iI (pv 0)) aE)) (aF (bN (cP (pf rH hr (au (pv 2) az))) (aH (aX (yN a8q TC.cl (hr.mono aB) (pv 0) (au (pv 1) az)))) bQ) (aF (hJ (bN (ck (cW K Z hr.units) (px K (pv 2) aE) ba (bB _)) (aH (ie TC.cl TC.Ip (pv 0) (px K (pv 2) aE))) bQ)) (aF (hJ (bN (ck (cW K Z hr.units) (px K (pv 2) aE) ba (bB _)) (aH (ie TC.cl TC.Iq (pv 0) (px K (pv 2) aE))) bQ)) (aF (hO (gs JE TC.cl (hr.mono aB) (pv 0))) (aH (aX (dj (au (pv 2) az))))))))),?_⟩;refine⟨_,Z,a,dx,_,_,Z,e,Z,.inl ⟨q,_,0,y,Z,Z,aJ.of eq,dB (gO 0) ey,?_⟩⟩;refine⟨_,Z,y,d,o,Z,ry,it,_,Z,?_⟩;cases o with |some z=>obtain⟨ns,sp⟩:=z;refine cf ?_;exact⟨_,Z,a,dx,_,Z,e,Z,_,Z,a,q,M,D,S,ns,sp,most,Z,R0,ok,aM,eo,nh,m1,m2,k⟩ |none=>
     refine bK ?_;have ip:=ok.rw 0 d eo ed;have wd:∃z u ya yr,d= .tuple [.str z,u]/\y= .ref ya/\aU K H ya (.str z::[yr])/\RD K H yr u/\SeqAt.shaped (.str z)=true:=by
      rcases ip with⟨n,rfl,_⟩|⟨w',s',rfl,hw,_⟩
      · obtain⟨ya,xs,rfl,h1,h2⟩:=ry.fg
        obtain⟨x1,rr,rfl,e1,h2⟩:=h2.cons_inv;obtain⟨x2,rr,rfl,e2,h2⟩:=h2.cons_inv;cases h2.nil_inv;cases e1.str_inv;exact⟨_,_,ya,x2,Z,Z,h1,e2,aY⟩
      · obtain⟨ya,xs,rfl,h1,h2⟩:=ry.fg
        obtain⟨x1,rr,rfl,e1,h2⟩:=h2.cons_inv;obtain⟨x2,rr,rfl,e2,h2⟩:=h2.cons_inv;cases h2.nil_inv;cases e1.str_inv;exact⟨_,_,ya,x2,Z,Z,h1,e2,by rcases hw with rfl|rfl<;>decide+kernel⟩
     obtain⟨z,u,ya,yr,rfl,rfl,zr,P7,sz⟩:=wd;have tU:SeqAt.shaped (.str "tool")=true:=by decide+kernel
     have tM:SeqAt.shaped (.str "mark")=true:=by decide+kernel
     have eqT:∀(x y:Str),PyData.eqv (.str x) (.str y)=decide (x=y):=λx y=>by show(x==y)=decide (x=y);rw[oU];simp
     refine⟨λO H1=>O=[some (.ref a),some (.int most),some (.ref ya)]/\bc [a] H H1/\H1 a=some (.ins C dx (fM mv bv (.int S.dn) (.ref q) cx (.int S.aD) (.str (if z="tool" then(cy (.tuple [.str z,u]) S).side else S.side)) (.str S.mark) tv)),?_,?_⟩
     · refine⟨_,Z,.inr ⟨ya,_,0,.str z,Z,Z,zr,dB (gO 0) Z,.inr ⟨_,_,cV _,cV _,sz,tU,_,Z,?_⟩⟩⟩
       rw[eqT];by_cases c:z="tool"
       · rw[cR c]
         refine cf ?_;have hu:∃s',u= .str s':=by
          rcases ip with⟨n,h,_⟩|⟨w',s',h,hw,_⟩
          ·cases h;exact absurd c aY
          ·cases h;exact⟨_,rfl⟩
         obtain⟨s',rfl⟩:=hu;cases P7.str_inv;refine⟨_,Z,.inr ⟨ya,_,1,.str s',Z,Z,zr,dB aB Z,_,Z,a,dx,_,Z,e,by show 9<1000;decide,?_⟩⟩;refine⟨Z,sF (by simp),?_⟩;rw[bp c];have es:(cy (.tuple [.str z,.str s']) S).side=s':=by unfold cy;simp only[bp c]
         rw[es];exact bf
       · rw[fb c]
         refine bK ⟨Z,bc.refl _ _,?_⟩;rw[bu c];exact e
     rintro O H1 ⟨rfl,b1,e1⟩;have Yv:bW H H1:=b1.v λx hx o' df=>by rw[bU]at hx;rw[hx,e]at df;cases df;trivial
     have RX:=aU.v Yv zr;refine⟨λO H2=>O=[some (.ref a),some (.int most),some (.ref ya)]/\bc [a] H H2/\H2 a=some (.ins C dx (fM mv bv (.int S.dn) (.ref q) cx (.int S.aD) (.str (cy (.tuple [.str z,u]) S).side) (.str (cy (.tuple [.str z,u]) S).mark) tv)),?_,?_⟩
     · refine⟨_,Z,.inr ⟨ya,_,0,.str z,Z,Z,RX,dB (gO 0) Z,.inr ⟨_,_,cV _,cV _,sz,tM,_,Z,?_⟩⟩⟩
       rw[eqT];by_cases c:z="mark"
       · rw[cR c]
         refine cf ?_;have nt:¬z="tool":=by rw[c];decide+kernel
         rw[bu nt]at e1;have hu:∃s',u= .str s':=by
          rcases ip with⟨n,h,_⟩|⟨w',s',h,hw,_⟩
          ·cases h;exact absurd c aY
          ·cases h;exact⟨_,rfl⟩
         obtain⟨s',rfl⟩:=hu;cases P7.str_inv;refine⟨_,Z,.inr ⟨ya,_,1,.str s',Z,Z,RX,dB aB Z,_,Z,a,dx,_,Z,e1,by show 9<1000;decide,?_⟩⟩;refine⟨Z,b1.trans (sF (by simp)),?_⟩;have es:(cy (.tuple [.str z,.str s']) S).side=S.side/\(cy (.tuple [.str z,.str s']) S).mark=s':=by constructor<;>(unfold cy;simp only[bu nt,bp c])
         rw[es.1,es.2];exact bf
       · rw[fb c]
         refine bK ⟨Z,b1,?_⟩;have em:(cy (.tuple [.str z,u]) S).mark=S.mark:=by
          unfold cy;split
          · next h => cases h;split
                      ·rfl
                      ·first|rfl|rw[bu c]
          ·rfl
         have es:(if z="tool" then(cy (.tuple [.str z,u]) S).side else S.side)=(cy (.tuple [.str z,u]) S).side:=by
          by_cases c2:z="tool"
          ·rw[bp c2]
          · rw[bu c2]
            unfold cy;split
            ·next h=>cases h;first|rfl|rw[bu c2,bu c]
            ·rfl
         rw[es]at e1;rw[em];exact e1
     rintro O H2 ⟨rfl,b2,e2⟩;have yb:bW H H2:=b2.v λx hx o' df=>by rw[bU]at hx;rw[hx,e]at df;cases df;trivial
     obtain⟨Po,gb,ds',dn',pl'⟩:=Bl ok.raw (.tuple [.str z,u]);have fx:(cy (.tuple [.str z,u]) S).pc=S.pc/\(cy (.tuple [.str z,u]) S).aD=S.aD/\(cy (.tuple [.str z,u]) S).aW=S.aW:=by
      unfold cy;split
      · split
        ·exact⟨Z,Z,Z⟩
        ·split<;>exact⟨Z,Z,Z⟩
      ·exact⟨Z,Z,Z⟩
     have R2:cD K C H2 a q M (cy (.tuple [.str z,u]) S):=by
      refine⟨⟨dx,mv,bv,cx,tv,?_,RD.v yb _ (iJ _ _ _ _ _) r1,?_,?_,?_⟩,ys,b2 _ _ eq (by rw[bU];exact aq.symm),?_⟩
      ·rw[dn',fx.2.1];exact e2
      ·rw[pl'];exact RD.v yb _ (gD _) r2
      ·rw[fx.1];exact r3.v yb
      ·rw[fx.2.2];exact r4.v yb
      ·rw[ds'];exact aP.v yb _ ok.row.no rq
     refine⟨_,Z,a,dx,_,Z,e2,Z,a,q,M,D,_,Z,R2,Po,aM,by rw[gb];exact dX,λq' H3 R3 nq b3=>?_⟩;have KH:=b2.trans b3;have Yu:bW H H3:=KH.v λx hx o' df=>by rw[bU]at hx;rw[hx,e]at df;cases df;trivial
     have yX:H q'=none:=by cases e':H q' with |none=>rfl |some o'=>
        by_cases ha:q'=a
        ·rw[ha,e2]at nq;cases nq
        · have:=b2 _ _ e' (by rw[bU];exact ha)
          rw[nq]at this;cases this
     refine⟨_,Z,bZ Z,λl H4 n4=>?_⟩;have nl:H l=none:=by cases e':H l with |none=>rfl |some o'=>
        by_cases ha:l=a
        · obtain⟨dx3,_,_,_,_,e3,_⟩:=R3.ob
          have:=n4.no;rw[ha,e3]at this;cases this
        · have:=KH _ _ e' (by rw[bU];exact ha)
          rw[n4.no]at this;cases this
     have HU:cj M D (iP (cy (.tuple [.str z,u]) S)):=Po.end (by rw[gb];exact dX);refine k l [.ref ya] [.tuple [.str z,u]] _ q' H4 nl n4.at' (cm (RD.v (Yu.trans n4.same.v) _ (iH.mp ok.row.no _ (gX ed)) ry) cX) (.cons (.ip eo ed nh) (.nil _)) (by simp) (by simpa using m1) (R3.same HU.row.no n4.same) ⟨λb o' eb hb=>n4.same _ _ (KH _ _ eb (by rw[bU];intro h;exact hb (by rw[h];simp))),.inr yX⟩ ?_;intro h;have:=n4.no;obtain⟨yq,eq3,_⟩:=R3.qu;rw[h,eq3]at this;cases this
inductive Wh(K:aa)(C:Addr)(vs:List V)(H:Hp)(Q:VK):Prop |mk (a:_)(q:_)(M:_)(D:_)(S:_)(n:_)(h0:vs=[.ref a,.int n])(h1:cD K C H a q M S)(h2:cj M D S)(h3:M.Ok)(h4:0<=n)(h5:n<=1000)(h6:∀l ys es S' q' H',H l=none->H' l=some (.lst ys)->aP K H' ys es->Run M S es S'->(es.length:Int)<=n->((es.length:Int)=n\/S'.os=[]\/Halt S'.pc S'.aW)->cD K C H' a q' M S'->Mv a q H q' H'->l≠q'->Q (.ref l) H'):Wh K C vs H Q
def Nb(K:aa)(C:Addr):Sp:=λvs H Q _=>Wh K C vs H Q
theorem O7:bF ["self","n","told"] ["self","n"] (aZ FR):=bP aY
theorem a3x{C:Addr}(F:MA K C "entries" "Runner.entries" FR)(TC:fV K C)(B:bV mg)(zE:cN P w K mg base C "is_halted" 2 (fh K C λ_ S H Q=>Q (.bl (S.aW.isSome&&decide (S.pc=0))) H))(a8y:cN P w K mg base C "entries_of_first" 11 (Na K C)):cN P w K mg base C "entries" 12 (Nb K C):=by
 refine F.has O7 (λvs H Q E h=>?_) (λ_ _ _ _ _ _=>dN λ_ _=>rfl) (λf aQ A outer s H vs Q E hr h=>?_)
 ·obtain⟨a,q,M,D,S,n,rfl,_⟩:=h
  rfl
 ·obtain⟨a,q,M,D,S,n,rfl,R0,ok,aM,n0,n1,k⟩:=h
  have nd:=O7.nd;refine⟨_,(aF (pS 2 nd (dj az)) (aF (hJ (nO iA (PW.pt (nN (ck kl (dJ K B (au (pv 2) az)) (pv 1) (bB _)) (nN (Hn K Z (cS TC.cl TC.iI (pv 0))) (qR (eO (cP (gs zE TC.cl (hr.mono aB) (pv 0)))))))) (aH (hO (a2o K Z (pv 2) (au (yN a8y TC.cl (hr.mono aB) (pv 0) (au (aO gG (pv 1) (dJ K B (au (pv 2) az))) az)) az)))))) (aH (aX (pv 2))))),?_⟩;refine⟨bZ Z,λl H1 nw=>?_⟩;obtain⟨dx,mv,bv,cx,tv,e,r1,r2,r3,r4⟩:=R0.ob;obtain⟨ys,eq,rq⟩:=R0.qu;have al:a≠l:=λz=>by have:=nw.no;rw[<-z,e]at this;cases this
  have ql:q≠l:=λz=>by have:=nw.no;rw[<-z,eq]at this;cases this
  have hq0:H q≠none:=by rw[eq];simp
  have ha0:H a≠none:=by rw[e];simp
  refine⟨λO H2=>∃es S' q' us,O=[some (.ref a),some (.int n),some (.ref l)]/\cD K C H2 a q' M S'/\H2 l=some (.lst us)/\aP K H2 us es/\Run M S es S'/\(es.length:Int)<=n/\((es.length:Int)=n\/S'.os=[]\/Halt S'.pc S'.aW)/\Mv a q H q' H2/\l≠q',?_,?_⟩
  ·refine nc (λO H2=>∃es S' q' us,O=[some (.ref a),some (.int n),some (.ref l)]/\cD K C H2 a q' M S'/\H2 l=some (.lst us)/\aP K H2 us es/\Run M S es S'/\(es.length:Int)<=n/\Mv a q H q' H2/\l≠q') (λ_ H2=>match H2 l with|some (.lst us)=>2000-us.length|_=>0) ?_ ?_ ?_
   ·exact⟨[],S,q,[],Z,R0.same ok.row.no nw.same,nw.at',cX,.nil _,by simpa using n0,⟨.of nw.same,.inl rfl⟩,ql.symm⟩
   ·rintro O H2 ⟨es,S',q',us,rfl,R2,dl,rd,run,lP,wM,lq⟩
    have jr:=run.ok ok aM;have lN:=run.no ok aM;have lu:=rd.length;obtain⟨vb,mv2,bv2,adq,tv2,e2,t1,t2,t3,t4⟩:=R2.ob;obtain⟨yq,eq2,rq2⟩:=R2.qu;have wO:=rq2.length;have zk:=jr.row.len;refine⟨_,Z,l,us,Z,.inl (aJ.of dl),_,Z,_,_,Z,Z,_,Z,?_⟩;show if decide ((us.length:Int)<n)=true then _ else _;by_cases c1:(us.length:Int)<n
    ·rw[cR c1]
     refine cf ?_;refine⟨_,Z,a,vb,_,_,Z,e2,Z,_,.inl ⟨_,aJ.of eq2,Z⟩,?_⟩;cases jQ:S'.os with |nil=>have:yq=[]:=E3.mp (by rw[wO,zk,jQ];rfl);subst this;refine bK ?_;exact⟨es,S',q',us,Z,R2,dl,rd,run,lP,.inr (.inl jQ),wM,lq⟩ |cons o os=>
      have dX:S'.os≠[]:=by rw[jQ];simp
      have:∃y yr,yq=y::yr:=by cases yq with |nil=>rw[zk,jQ]at wO;simp at wO |cons y yr=>exact⟨y,yr,Z⟩
      obtain⟨y,yr,rfl⟩:=this;refine cf ?_;refine⟨_,Z,a,vb,_,Z,e2,Z,a,q',M,D,S',Z,R2,jr,aM,_,Z,?_⟩;by_cases c3:Halt S'.pc S'.aW
      ·have hb:(S'.aW.isSome&&decide (S'.pc=0))=true:=by obtain⟨h1,h2⟩:=c3;rw[cR h2,LY];cases hs:S'.aW with |none=>exact(h1 hs).elim |some _=>rfl
       rw[hb];exact bK ⟨es,S',q',us,Z,R2,dl,rd,run,lP,.inr (.inr c3),wM,lq⟩
      ·have hb:(S'.aW.isSome&&decide (S'.pc=0))=false:=by cases hs:S'.aW with |none=>rfl |some _=>show decide (S'.pc=0)=false;exact fb λh2=>c3 ⟨by rw[hs];simp,h2⟩
       rw[hb];refine cf ?_;refine⟨_,Z,.inl ⟨Z,_,aJ.of dl⟩,?_⟩;refine⟨_,Z,a,vb,_,Z,e2,Z,_,Z,_,Z,l,us,Z,.inl (aJ.of dl),_,_,Z,Z,?_⟩;refine⟨a,q',M,D,S',_,Z,R2,jr,aM,dX,c3,aw,aw,λl2 y2 fs S2 q2 H3 Ii zT nL u7 f1 f2 R3 BU lq2=>?_⟩;have Yr:=R2.v BU.but;have xG:=BU.but _ _ dl (by simp;exact⟨al.symm,lq⟩);have Ha:=aP.v Yr _ lN rd;have ly2:=nL.length;have kY:sizeLine=16777216:=by decide
       refine⟨l,l2,us,y2,Z,Z,xG,zT,aw,?_⟩;have vu:bW H3 (L2.upd H3 l (.lst (us++y2))):=.upd xG trivial;have a7b:=u7.no jr aM;have fj:=u7.ok jr aM;have QT:l≠q2:=λz=>by
        rcases BU.nq with h|h
        ·exact lq (z.trans h)
        ·rw[<-z,dl]at h;cases h
       refine⟨⟨es++fs,S2,q2,us++y2,Z,R3.go fj.row.no vu (λo' df=>by rw[aK al];exact df) (λo' df=>by rw[aK QT.symm];exact df),bf,(aP.v vu _ lN Ha).append (aP.v vu _ a7b nL),run.trans u7,by rw[fy];lia,?_,QT⟩,?_⟩
       ·have m:=wM.trans BU (by rw[e2];simp)
        exact⟨λb o' eb hb=>by
         have eQ:b≠l:=λz=>by have:=nw.no;rw[<-z,eb]at this;cases this
         rw[aK eQ];exact m.but _ _ eb hb,m.nq⟩
       ·show(match(L2.upd H3 l (.lst (us++y2))) l with|some (.lst us)=>2000-us.length|_=>0)<(match H2 l with|some (.lst us)=>2000-us.length|_=>0)
        rw[bf,dl];show 2000-(us++y2).length<2000-us.length;rw[fy]
        lia
    ·rw[fb c1]
     refine bK ?_;exact⟨es,S',q',us,Z,R2,dl,rd,run,lP,.inl aw,wM,lq⟩
   ·rintro O H6 Q1 Q2 hq ⟨v1,f1,l',kh,f2,f3,v2,f4,i1,i2,f5,f6,b1,f7,h⟩
    refine⟨v1,f1,l',kh,f2,f3,v2,f4,i1,i2,f5,f6,b1,f7,zp ?_ (hq _ _) h⟩;rintro⟨v3,f8,a',vc,fs',u',f9,zQ,zP,b2,zO,h⟩;refine⟨v3,f8,a',vc,fs',u',f9,zQ,zP,b2,zO,zp ?_ (hq _ _) h⟩;rintro⟨v5,K5,a2,vb,JO,K4,K3,K2,a3,q3,M3,D3,S3,K1,K0,JZ,JY,b3,JX,h⟩;exact⟨v5,K5,a2,vb,JO,K4,K3,K2,a3,q3,M3,D3,S3,K1,K0,JZ,JY,b3,JX,hq _ _ h⟩
  ·rintro O H2 ⟨es,S',q',us,rfl,R2,dl,rd,run,lP,mK,wM,lq⟩
   exact⟨_,Z,k l us es S' q' H2 nw.no dl rd run lP mK R2 wM lq⟩
theorem cD.PC{C:Addr}{H:Hp}{a q dx:Addr}{M:bL}{S S':bh}{mv bv cx tv:V}(R:cD K C H a q M S)(e:H a=some (.ins C dx (fM mv bv (.int S.dn) (.ref q) cx (.int S.aD) (.str S.side) (.str S.mark) tv))){xK BE AS:V}(hn:cZ S.ds=true)(hd:S'.ds=S.ds) (r1:RD K H mv M.D)(r2:RD K H xK (fu S'.pl))(r3:bE K H BE S'.pc)(r4:xO K H AS S'.aW):cD K C (L2.upd H a (.ins C dx (fM mv xK (.int S'.dn) (.ref q) BE (.int S'.aD) (.str S'.side) (.str S'.mark) AS))) a q M S':=by
 have v:bW H (L2.upd H a (.ins C dx (fM mv xK (.int S'.dn) (.ref q) BE (.int S'.aD) (.str S'.side) (.str S'.mark) AS))):=.upd e trivial;obtain⟨ys,eq,rq⟩:=R.qu;refine⟨⟨dx,mv,xK,BE,AS,bf,RD.v v _ (iJ _ _ _ _ _) r1,RD.v v _ (gD _) r2,r3.v v,r4.v v⟩,ys,?_,?_⟩
 ·rw[aK R.ne.symm];exact eq
 ·rw[hd];exact aP.v v _ hn rq
theorem a0r:bF ["self"] ["self"] (aZ FP):=bP aY
inductive Wc(K:aa)(C:Addr)(vs:List V)(H:Hp)(Q:VK):Prop |mk (a:_)(q:_)(M:_)(D:_)(S:_)(h0:vs=[.ref a])(h1:cD K C H a q M S)(h2:cj M D S)(h3:∀H',cD K C H' a q M {S with aW:=none}->bc [a] H H'->Q (.int (S.ds.length:Nat)) H'):Wc K C vs H Q
def N9(K:aa)(C:Addr):Sp:=λvs H Q _=>Wc K C vs H Q
theorem a3t{C:Addr}(F:MA K C "go" "Runner.go" FP)(TC:fV K C)(B:bV mg):cN P w K mg base C "go" 1 (N9 K C):=by
 refine F.has a0r (λvs H Q E h=>?_) (λ_ _ _ _ _ _=>eR λ_=>rfl) (λf aQ A outer s H vs Q E hr h=>?_)
 ·obtain⟨a,q,M,D,S,rfl,_⟩:=h
  rfl
 ·obtain⟨a,q,M,D,S,rfl,R,ok,k⟩:=h
  obtain⟨dx,mv,bv,cx,tv,e,r1,r2,r3,r4⟩:=R.ob;obtain⟨ys,eq,rq⟩:=R.qu;refine⟨_,(aF (ie TC.cl TC.wK (pv 0) je) (aH (aX (dJ K B (au (cS TC.cl TC.iI (pv 0)) az))))),?_⟩;refine⟨_,Z,a,dx,_,Z,e,by show 9<1000;decide,?_⟩;have lV:(L2.upd H a (.ins C dx (fM mv bv (.int S.dn) (.ref q) cx (.int S.aD) (.str S.side) (.str S.mark) .bw))) q=some (.lst ys):=by rw[aK R.ne.symm];exact eq
  refine⟨_,Z,a,dx,_,_,Z,bf,Z,q,_,Z,.inl (aJ.of lV),?_⟩;rw[rq.length];exact k _ (R.PC (S':={S with aW:=none}) e ok.row.no rfl r1 r2 r3 rfl) (sF (by simp))
def j9(f:Int)(pc:Rat):Int:=(pc.num+2*f*(pc.den:Int)-1)/(2*f*(pc.den:Int))
theorem ZL{f:Int}(hf:1<=f){pc:Rat}(h:0<=pc):(0<=j9 f pc)/\(j9 f pc=0->pc=0)/\pc<=((2*f*j9 f pc:Int):Rat)/\(pc<=1600->j9 f pc<=1000):=by
 have hn:=Lp.mpr h;have hd:0<2*f*(pc.den:Int):=iT aw (den_pos pc);have hd1:2*(pc.den:Int)<=2*f*(pc.den:Int):=by
  have:2*1*(pc.den:Int)<=2*f*(pc.den:Int):=LS aw aw
  lia
 unfold j9;generalize hD:2*f*(pc.den:Int)=dd at hd hd1;have q1:=Int.mul_ediv_add_emod (pc.num+dd-1) dd;have q2:=oT (pc.num+dd-1) (show dd≠0 by lia);have q3:=tH (pc.num+dd-1) hd;have q0:0<=(pc.num+dd-1)/dd:=Int.ediv_nonneg aw aw;generalize hQ:(pc.num+dd-1)/dd=Q at q0 q1;generalize(pc.num+dd-1)%dd=R at q1 q2 q3;have hle:pc.num<=dd*Q:=by lia
 refine⟨q0,λe=>?_,?_,λhm=>?_⟩
 ·rw[e,Int.mul_zero]at hle
  have:pc.num=0:=by lia
  exact Rat.num_eq_zero.mp this
 ·refine As.mp λcF=>?_
  rw[DU,Lq,Ls]at cF;have e1:2*f*Q*(pc.den:Int)=dd*Q:=by rw[<-hD,Int.mul_right_comm]
  rw[e1]at cF
  lia
 ·have uU:¬((1600:Rat)<pc):=As.mpr hm
  rw[DU]at uU;have e1:(1600:Rat).num=1600:=rfl;have e2:(1600:Rat).den=1:=rfl;rw[e1,e2]at uU;have h3:pc.num<=1600*(pc.den:Int):=by lia
  refine Int.not_lt.mp λcF=>?_;have h4:dd*1001<=dd*Q:=LU aw aw
  lia
theorem O1:bF ["self","p","q","in_one"] ["self"] (aZ Fz):=bP aY
theorem a3g{C:Addr}(F:MA K C "stops_in" "Runner.stops_in" Fz)(TC:fV K C):cN P w K mg base C "stops_in" 1 (fh K C λM S H Q=>Q (.int (j9 M.f S.pc)) H):=by
 refine F.has O1 (λvs H Q E h=>?_) (λ_ _ _ _ _ _=>eR λ_=>rfl) (λf aQ A outer s H vs Q E hr h=>?_)
 ·obtain⟨a,q,M,D,S,rfl,_⟩:=h
  rfl
 ·obtain⟨a,q,M,D,S,rfl,R,ok,aM,k⟩:=h
  obtain⟨dx,mv,bv,cx,tv,e,r1,r2,⟨pa,rfl,uH⟩,r4⟩:=R.ob;have nd:=O1.nd;have rX:=aM.f1;obtain⟨ma,mb,rfl,hZ,jR⟩:=lJ r1;have bd:Bd 1600 S.pc:=(ok.pd.bd (eV ok.pm aY)).mono (by have:=ok.D2;lia);have hd:0<2*M.f*(S.pc.den:Int):=iT aw (den_pos S.pc);have wd:Wd (2*M.f*(S.pc.den:Int)):=by
   refine iB (n:=1700) ?_ aB;rw[g9];have h1:(2*M.f).natAbs<2^7:=by lia
   have:=lH h1 bd.den;exact gB this (tE aB aB)
  refine⟨_,(aF (gq (cS TC.cl TC.rn (pv 0)) (eK K rfl (n:=2) rfl (cg (bJ 1 nd) (cg (bJ 2 nd) eG)))) (aF (pS 3 nd (aO bO (aO bO aE (px K (cS TC.cl TC.nQ (pv 0)) aE)) (pv 2))) (aH (aX (aO mF (aO gG (aO da (pv 1) (pv 3)) aE) (pv 3)))))),?_⟩;refine⟨_,Z,a,dx,_,_,Z,e,Z,pa,_,Z,uH,Z,_,_,Z,_,_,Z,Z,?_⟩;refine⟨_,Z,a,dx,_,_,Z,e,Z,.inr ⟨ma,_,2,.int M.f,Z,Z,hZ,Z,_,_,Z,Z,.of_left (cw aB aB),?_⟩⟩;refine⟨_,Z,_,_,Z,Z,.of_left (cw aw aw),?_⟩;refine⟨_,Z,_,Z,_,_,Z,Z,_,_,Z,Z,_,Z,_,_,Z,Z,⟨hd,wd⟩,?_⟩;exact k
theorem O5:bF ["self","steps"] ["self"] (aZ FK):=bP aY
def jh(M:bL)(S:bh):bh:=match S.aW with |none=>{S with aW:=some (S.pc,j9 M.f S.pc,0)} |some _=>S
inductive Wb(K:aa)(C:Addr)(vs:List V)(H:Hp)(Q:VK):Prop |mk (a:_)(q:_)(M:_)(D:_)(S:_)(h0:vs=[.ref a])(h1:cD K C H a q M S)(h2:cj M D S)(h3:M.Ok)(h4:∀H',cD K C H' a q M (jh M S)->bc [a] H H'->Q (.int (j9 M.f S.pc)) H'):Wb K C vs H Q
def N8(K:aa)(C:Addr):Sp:=λvs H Q _=>Wb K C vs H Q
theorem cj.hold{M:bL}{D:Nat}{S:bh}(h:cj M D S)(aM:M.Ok)(hD:D<=1490):cj M (D+10) (jh M S):=by have D1:=h.D1;unfold jh;cases hs:S.aW with |some z=>show cj M (D+10) S;have st:=h.aW;refine⟨h.row,h.rw,h.len,h.dh,h.dF,h.dn,h.pl,h.pd.mono aw,h.pm,?_,aw,aw⟩;rw[hs]at st⊢;obtain⟨sq,gY,gn⟩:=z;obtain⟨a1,a2,a3,a4,a5⟩:=st;exact⟨a1,a2,a3,a4.mono aw,a5⟩ |none=>obtain⟨z1,z2,z3,z4⟩:=ZL aM.f1.1 h.pd.nn;refine⟨h.row,h.rw,h.len,h.dh,h.dF,h.dn,h.pl,h.pd.mono aw,h.pm,?_,aw,aw⟩;refine⟨gO _,z1,z4 h.pm,h.pd,eV h.pm aY,z2,?_⟩;show S.pc*(j9 M.f S.pc:Rat)<=S.pc*((j9 M.f S.pc-0:Int):Rat);rw[Int.sub_zero];exact qA
theorem a3q{C:Addr}(F:MA K C "hold" "Runner.hold" FK)(TC:fV K C)(JB:cN P w K mg base C "stops_in" 1 (fh K C λM S H Q=>Q (.int (j9 M.f S.pc)) H))(uS:cN P w K mg base C "is_held" 1 (fh K C λ_ S H Q=>Q (.bl S.aW.isSome) H)):cN P w K mg base C "hold" 2 (N8 K C):=by
 refine F.has O5 (λvs H Q E h=>?_) (λ_ _ _ _ _ _=>eR λ_=>rfl) (λf aQ A outer s H vs Q E hr h=>?_)
 ·obtain⟨a,q,M,D,S,rfl,_⟩:=h
  rfl
 ·obtain⟨a,q,M,D,S,rfl,R,ok,aM,k⟩:=h
  obtain⟨dx,mv,bv,cx,tv,e,r1,r2,r3,r4⟩:=R.ob;have nd:=O5.nd;refine⟨_,(aF (pS 1 nd (gs JB TC.cl (hr.mono aB) (pv 0))) (aF (hJ (bN (eO (cP (gs uS TC.cl (hr.mono aB) (pv 0)))) (aH (ie TC.cl TC.wK (pv 0) (ek (au (cS TC.cl TC.rn (pv 0)) (au (pv 1) (au aE az)))))) bQ)) (aH (aX (pv 1))))),?_⟩;refine⟨_,Z,a,dx,_,Z,e,Z,a,q,M,D,S,Z,R,ok,aM,?_⟩;refine⟨λO H1=>O=[some (.ref a),some (.int (j9 M.f S.pc))]/\cD K C H1 a q M (jh M S)/\bc [a] H H1,?_,?_⟩
  ·refine⟨_,Z,a,dx,_,Z,e,Z,a,q,M,D,S,Z,R,ok,aM,_,Z,?_⟩
   cases hs:S.aW with |some z=>refine bK ⟨Z,?_,bc.refl _ _⟩;unfold jh;rw[hs];exact R |none=>
    refine cf ?_;refine⟨_,Z,a,dx,_,_,Z,e,Z,_,Z,bZ Z,λt H1 n1=>?_⟩;have e1:=n1.same _ _ e;refine⟨_,Z,a,dx,_,Z,e1,by show 9<1000;decide,?_⟩;have eh:jh M S={S with aW:=some (S.pc,j9 M.f S.pc,0)}:=by unfold jh;rw[hs]
    refine⟨Z,?_,λb o' eb hb=>?_⟩
    ·rw[eh]
     exact(R.same ok.row.no n1.same).PC (S':={S with aW:=some (S.pc,j9 M.f S.pc,0)}) e1 ok.row.no rfl (RD.mono n1.same _ r1) (RD.mono n1.same _ r2) (r3.go n1.same) ⟨t,cx,Z,aU.of n1.at',r3.go n1.same⟩
    ·have ha:b≠a:=λz=>hb (by rw[z];simp)
     rw[aK ha];exact n1.same _ _ eb
  ·rintro O H1 ⟨rfl,R1,b1⟩
   exact⟨_,Z,k H1 R1 b1⟩
end
end Lw
set_option maxHeartbeats 1000000
namespace Lw
open PySem PySem.Spec PyProof.Rows L2 Rt Ln Cn Pn
open Ow (topR cornO mnO betR atO ownF leadF ownL OkI OkIs)
section
variable {w:World}{mg:Str->Option Value}{base:Heap}
inductive WN(K:aa)(vs:List V)(H:Hp)(Q:VK):Prop |mk (m:_)(iv:_)(aD:_)(rs:_)(r:_)(f:_)(j:_)(t:_)(ds:_)(os:_)(h0:vs=[m,iv,.int aD])(h1:RD K H m (jf rs r f j t))(h2:oF rs r f j t)(h3:RD K H iv (.list ds))(h4:ib rs.length ds os)(h5:ds.length<=100)(h6:10<=aD)(h7:aD<=200)(h8:∀l ys H',H l=none->H' l=some (.lst ys)->aP K H' ys ((ownL j aD os).map cY)->aG H H'->Q (.ref l) H'):WN K vs H Q
def Nl(K:aa):Sp:=λvs H Q _=>WN K vs H Q
def jL(j aD:Int)(os:List Itm)(i:Nat):List Rat:=(List.range (os.length+1)).map λk=>if k<=i then ownF j aD os k else 0
theorem wq(j aD:Int)(os:List Itm)(i:Nat){k:Nat}(h:k<=os.length):(jL j aD os i)[k]? =some (if k<=i then ownF j aD os k else 0):=by unfold jL;rw[cH,cu (by simp;lia),vB];rfl
theorem pk(j aD:Int)(os:List Itm)(i:Nat):(jL j aD os i).length=os.length+1:=by simp[jL]
theorem Q4(j aD:Int)(os:List Itm)(i:Nat)(h:i+1<=os.length):(jL j aD os i).set (i+1) (ownF j aD os (i+1))=jL j aD os (i+1):=by
 apply tF;intro k;by_cases hk:k<=os.length
 ·rw[wq j aD os (i+1) hk,List.getElem?_set]
  by_cases e:i+1=k
  ·subst e
   rw[bp Z,bp (by rw[pk];lia),bp (bR _)]
  ·rw[bu e,wq j aD os i hk]
   congr 1;by_cases h1:k<=i
   ·rw[bp h1,bp aw]
   ·rw[bu h1,bu aw]
 ·rw[m3 (by rw[vz,pk];lia),m3 (by rw[pk];lia)]
theorem a2A(j aD:Int)(os:List Itm)(i:Nat)(h:i+1<=os.length)(e:ownF j aD os (i+1)=0):jL j aD os (i+1)=jL j aD os i:=by
 apply tF;intro k;by_cases hk:k<=os.length
 ·rw[wq j aD os (i+1) hk,wq j aD os i hk]
  congr 1;by_cases h1:k<=i
  ·rw[bp h1,bp aw]
  ·rw[bu h1]
   by_cases h2:k=i+1
   ·subst h2;rw[bp (bR _),e]
   ·rw[bu aw]
 ·rw[m3 (by rw[pk];lia),m3 (by rw[pk];lia)]
theorem ON:bF ["_law_machine_here","_law_items","_law_rate","_law_found","_law_border","_law_one","_law_other_here","_law_a","_law_b","_law_gap","_law_corner"] ["_law_machine_here","_law_items","_law_rate"] (aZ Gw):=bP aY
theorem a4b(F:FA K mg "_law_bounds" Gw)(B:bV mg)(rP:aI P w K mg base "_law_lead" 1 (m7 K))(uT:aI P w K mg base "_law_min" 2 (jJ K))(CO:aI P w K mg base "_law_top" 2 (Ez K))(rQ:aI P w K mg base "_law_frac" 1 (yt K)):aI P w K mg base "_law_bounds" 3 (Nl K):=by
 refine F.has ON (λvs H Q E h=>?_) (λ_ _ _ _ _ _=>oB λ_ _ _=>rfl) (λf aQ A outer s H vs Q E hr h=>?_)
 · obtain⟨m,iv,aD,rs,r,f,j,t,ds,os,rfl,_⟩:=h
   rfl
 · obtain⟨m,iv,aD,rs,r,f,j,t,ds,os,rfl,rm,aM,ri,row,hz,dh,dF,k⟩:=h
   have nd:=ON.nd;refine⟨_,(aF (Hq (i0:=3) nd Z (Or.inl Z) (N:=["_law_border"]) (js:=[none]) Z Z Z (yK Z (B.at "range") (au (aO da (dJ K B (au (pv 1) az)) aE) az)) (λ_ _ _ _ _=>(bJ 0 (ur _))) (λ_ _ _ _ _=>fT) (λ_ _ _ _ _=>(ek (au aE (au aE az))))) (aF (me iA Z (PK Z (B.at "range") (au aE (au (dJ K B (au (pv 1) az)) az))) (bJ 4 nd) (aF (p9 (i:=5) (j:=6) Z nd Z Z aB Z Z (au (px K (pv 1) (aO gG (pv 4) aE)) (au (px K (pv 1) (pv 4)) az)) Z) (aH (bN (PW.pt (nN (ck (cW K Z hr.units) (px K (pv 5) aE) ba (bB _)) (qR (ck (cW K Z hr.units) (px K (pv 6) aE) ba (bB _))))) (aF (gq (ek (au (pf rP hr (au (pv 5) az)) (au (pf rP hr (au (pv 6) az)) az))) (eK K Z (n:=2) Z (cg (bJ 7 nd) (cg (bJ 8 nd) eG)))) (aF (pS 9 nd (dG (x:="max") (Iy K Z Z) Z (B.at "max") DW (au (gE (N:=["_law_x","_law_y","_law_b","_law_a"]) (js:=[none,none,some 8,some 7]) rfl rfl rfl (kj K rfl false false rfl (B.at "zip") (au (px K (pv 5) aE) (au (px K (pv 6) aE) az))) (λ_ _ _ _ _=>(eK K rfl (n:=2) rfl (cg (bJ 0 (show List.Nodup (["_law_x","_law_y","_law_b","_law_a"]:List Str) by decide+kernel)) (cg (bJ 1 (show List.Nodup (["_law_x","_law_y","_law_b","_law_a"]:List Str) by decide+kernel)) eG)))) (λ_ _ _ _ _=>fT) (λ_ _ _ _ _=>(dG (x:="abs") oz rfl (B.at "abs") qC (au (aO gG (aO bO (pv 0) (pv 2)) (aO bO (pv 1) (pv 3))) az)))) az))) (aF (gq (pf uT hr (au (dj (au (pf CO hr (au (pv 5) (au (pv 2) az))) (au (pf CO hr (au (pv 6) (au (pv 2) az))) az))) az)) (ug (pv 3) (pv 4) set_list)) (aH (bN (ck uh (pv 9) aE (bB _)) (aF (pS 10 nd (pf rQ hr (au (aO wu (aO bO (aO bO (px K (pv 0) aE) (pv 7)) (pv 8)) aE) (au (aO wu (pv 9) aE) az)))) (aH (gq (pf uT hr (au (dj (au (px K (pv 3) (pv 4)) (au (pv 10) az))) az)) (ug (pv 3) (pv 4) set_list)))) bQ))))) bQ)))) (aH (aX (pv 3))))),?_⟩;obtain⟨ia,xs,rfl,hi,iM⟩:=ri.lst_inv;obtain⟨ma,mb,rfl,hZ,jR⟩:=lJ rm;have lx:=iM.length;have ll:=row.len;have lr:=aM.len;refine⟨_,Z,ia,_,Z,.inl hi,_,_,Z,Z,_,Z,aw,aw,λD H1 n1=>?_⟩;have eN:((xs.length:Int)+1).toNat=os.length+1:=by lia
   rw[eN];refine aby (K:=K) (lo:=0) (n:=os.length+1) (ds:=(jL j aD os 0).map cY) _ n1 (by rw[cB,pk]) aw (wG _) ?_ ?_
   · intro i d H2 Q' ed s2 hq
     have Se:i<=os.length:=by have:=(dQ.mp ed).1;rw[cB,pk]at this;lia
     have e0:d=cY 0:=by
      rw[cH,wq j aD os 0 Se]at ed;have:=(eg ed).symm;rw[this];congr 1;split
      · next h => have:i=0:=by lia
                  subst this;rfl
      ·rfl
     subst e0;refine⟨bZ Z,λz H3 n3=>?_⟩;exact hq _ _ n3.same (bE.rd ⟨z,Z,aU.of n3.at'⟩)
   intro H2 ys s2 d2 r2;refine⟨_,Z,ia,_,Z,.inl (hi.go s2),_,_,Z,⟨aB,aB,aw,aw⟩,?_⟩;refine CY (Pv:=λi O H5=>aG H H5/\∃(ys:List V)(v1 v2 v3 v4 v5 v6 v7:Option V),H5 D=some (.lst ys)/\aP K H5 ys ((jL j aD os i).map cY)/\O=[some (.ref ma),some (.ref ia),some (.int aD),some (.ref D),v1,v2,v3,v4,v5,v6,v7]) ?_ ?_ ?_
   ·exact⟨s2,ys,none,none,none,none,none,none,none,d2,r2,Z⟩
   · rintro i O H5 CF ⟨s5,ys,v1,v2,v3,v4,v5,v6,v7,dl,qP,rfl⟩
     have hio:i+1<os.length:=by lia
     have om:=cu (show i<os.length by lia);have mx:=cu hio;obtain⟨x1,rZ⟩:∃x,xs[i]? =some x:=⟨_,cu (show i<xs.length by lia)⟩;obtain⟨x2,D8⟩:∃x,xs[i+1]? =some x:=⟨_,cu (show i+1<xs.length by lia)⟩;obtain⟨d1,e1,r1⟩:=iM.get' i rZ;obtain⟨d2,e2,r2⟩:=iM.get' (i+1) D8;have i1:=row.it i d1 _ e1 om;have i2:=row.it (i+1) d2 _ e2 mx;have Cv:ownF j aD os (i+1)=betR j aD os[i] os[i+1]:=by show betR j aD (atO os i) (atO os (i+1))=_;rw[Ow.qj om,Ow.qj mx]
     have Kj:((1:Int)+(i:Int)-1).toNat=i:=by lia
     have Ki:((1:Int)+(i:Int)).toNat=i+1:=by lia
     have KJ:fQ xs ((1:Int)+(i:Int)-1)=some x1:=dB aw (by rw[Kj];exact rZ);have at2:fQ xs ((1:Int)+(i:Int))=some x2:=dB aw (by rw[Ki];exact D8);have Sf:=hi.go s5;obtain⟨a1,w1,y1,rfl,h1,ew1,ZD⟩:=wV (RD.mono s5 _ r1) i1;obtain⟨a2,w2,y2,rfl,h2,ew2,ZC⟩:=wV (RD.mono s5 _ r2) i2;have same:os[i]=none\/os[i+1]=none->aP K H5 ys ((jL j aD os (i+1)).map cY):=λhn=>by
      rw[a2A j aD os i aw]
      ·exact qP
      · rw[Cv]
        rcases hn with e|e
        ·rw[e];exact Ow.UY _ _ _
        ·rw[e];exact Ow.Dx _ _ _
     refine⟨_,Z,_,Z,_,_,Z,Z,.inl ⟨ia,_,_,_,Z,Z,Sf,KJ,_,Z,_,Z,.inl ⟨ia,_,_,_,Z,Z,Sf,at2,_,_,Z,?_⟩⟩⟩;refine⟨_,Z,.inr ⟨a1,_,0,.str w1,Z,Z,h1,dB (gO 0) Z,.inr ⟨_,_,cV _,cV _,ZD,ux,_,Z,?_⟩⟩⟩;rw[ew1];cases Je:os[i]with |none=>exact bK ⟨s5,ys,_,_,_,_,_,_,_,dl,same (.inl Je),Z⟩ |some q1=>refine cf ?_;refine⟨_,Z,.inr ⟨a2,_,0,.str w2,Z,Z,h2,dB (gO 0) Z,.inr ⟨_,_,cV _,cV _,ZC,ux,_,Z,?_⟩⟩⟩;rw[ew2];cases xb:os[i+1]with |none=>exact bK ⟨s5,ys,_,_,_,_,_,_,_,dl,same (.inr xb),Z⟩ |some q2=>
         refine cf ?_;obtain⟨ns,sp⟩:=q1;obtain⟨ms,sq⟩:=q2;rw[Je]at i1 om;rw[xb]at i2 mx;have Di:=kW i1;have ed2:=kW i2;subst Di ed2;obtain⟨gu,p1,p2⟩:=row.ok i ns sp om;obtain⟨fj,q1,q2⟩:=row.ok (i+1) ms sq mx;have T1:Bd 2000 (topR aD sp):=(Ow.vI p1 p2 dh dF).mono aB;have T2:Bd 2000 (topR aD sq):=(Ow.vI q1 q2 dh dF).mono aB;have l1:=zl gu;have l2:=zl fj;have lq1:=gu.lead.1;have lq2:=fj.lead.1;have ln1:ns.length<=3:=by rw[gu.len];lia
         have ln2:ms.length<=3:=by rw[fj.len];lia
         have QY:ms.length=ns.length:=by rw[gu.len,fj.len]
         refine⟨_,Z,_,ns,sp,Z,RD.mono s5 _ r1,gu.ne,aw,λH6 s6=>?_⟩;have OY:=s5.trans s6;refine⟨_,Z,_,ms,sq,Z,RD.mono OY _ r2,fj.ne,aw,λH7 s7=>?_⟩;refine⟨bZ Z,λtq H7' Ir=>?_⟩;refine⟨tq,_,Z,aU.of Ir.at',Z,_,_,Z,_,_,Z,Z,?_⟩;have nI:=OY.trans (s7.trans Ir.same);have s67:=s6.trans (s7.trans Ir.same);obtain⟨a1',b1,ea1,ha1,Ss⟩:=mj (RD.mono nI _ r1);obtain⟨a2',b2,ea2,ha2,mM⟩:=mj (RD.mono nI _ r2);cases ea1;cases ea2;refine⟨_,Z,.inr ⟨a1,_,1,.ref b1,Z,Z,ha1,Z,_,Z,.inr ⟨a2,_,1,.ref b2,Z,Z,ha2,Z,b1,b2,Z,⟨_,Ss⟩,⟨_,mM⟩,λD4 H8 n8=>?_⟩⟩⟩;refine vd (K:=K) (b1:=false) (b2:=false) (xs:=ns.map V.int) (ys:=ms.map V.int) (ds:=((dy ns ms).map iY).map PyData.int) _ Z Ss mM n8 (by simp[dy]) (by simp[dy];lia) (lG _) ?_ ?_
         · intro i x y d H9 Q' ex ey ed s9 hq
           obtain⟨a,b,e1,e2,rfl,rfl⟩:=zip2 QY ex ey;obtain⟨m,em,rfl⟩:=mH ed;rw[cH,M0 e1 e2]at em;cases em;have q1:=gu.bd a (gX e1);have q2:=fj.bd b (gX e2);refine⟨_,Z,_,Z,_,_,Z,Z,.of_left (cw aw aw),?_⟩;refine⟨_,Z,_,Z,_,_,Z,Z,.of_left (cw aw aw),?_⟩;exact⟨_,_,Z,Z,_,Z,hq _ _ (aG.refl _) (dw _)⟩
         intro H9 zs s9 d9 r9;rw[r9.jg]at d9;have kE:dy ns ms≠[]:=by
          have hl:(dy ns ms).length=ns.length:=by simp[dy,QY]
          intro e;rw[e]at hl;exact gu.ne (E3.mp hl.symm)
         refine⟨D4,_,Z,aJ.of d9,by simpa using kE,λM h1 h2=>?_⟩;have eM:=IJ kE h1 h2;subst eM;have OX:=nI.trans s9;have s69:=s67.trans s9;refine⟨_,Z,_,Z,_,ns,sp,aD,Z,RD.mono OX _ r1,p1,p2,dh,dF,λt1 jW GP nK=>?_⟩;refine⟨_,Z,_,Z,_,ms,sq,aD,Z,RD.mono (OX.trans nK) _ r2,q1,q2,dh,dF,λt2 j4 GO Bu=>?_⟩;refine⟨bZ Z,λlm sX BS=>?_⟩;have R1:bE K sX t1 (topR aD sp):=(GP.go Bu).go BS.same;have R2:bE K sX t2 (topR aD sq):=GO.go BS.same;refine⟨lm,[t1,t2],[topR aD sp,topR aD sq],Z,aJ.of BS.at',⟨R1,T1,R2,T2,trivial⟩,by simp,λc lv q Kg U5 hq=>?_⟩;have uE:mn (topR aD sp) (topR aD sq)=q:=by
          refine nS ?_ (hq _ (by simp)) (hq _ (by simp))
          match c,U5 with |0,e2=>cases e2;exact .inl rfl |1,e2=>cases e2;exact .inr rfl
         have rl:bE K sX lv (mn (topR aD sp) (topR aD sq)):=by
          rw[uE]
          match c,Kg,U5 with |0,e1,e2=>cases e1;cases e2;exact R1 |1,e1,e2=>cases e1;cases e2;exact R2
         have a0x:=nK.trans (Bu.trans BS.same);have GC:=s69.trans a0x;have Kn:=GC _ _ dl;have ly:=qP.length;rw[cB,pk]at ly;have Cf:jP ys.length ((1:Int)+(i:Int))=some (i+1):=by unfold jP;rw[bp aw,bp aw,Ki]
         refine⟨_,Z,_,Z,D,ys,_,_,Z,Z,Kn,Cf,?_⟩;have GZ:=aP.EU (i:=i+1) Kn (aP.mono GC _ qP) rl.rd (wG _) (qQ _);have sD:∀{o:HO},aG H (L2.upd sX D o):=λ{o} b o' e=>by rw[aK (gy e n1.no)];exact GC b o' (s5 b o' e)
         have tU:iZ sX (L2.upd sX D (.lst (ys.set (i+1) lv))):=.qI Kn;refine⟨_,Z,_,_,Z,Z,_,Z,?_⟩;rw[Je,xb]at Cv;have cO:cornO j ns ms=if aL (dy ns ms)=0 then none else some (Rat.divInt ((j*aL ns*aL ms)^2) ((aL (dy ns ms):Int)^2)):=rfl;show if decide ((aL (dy ns ms):Int)>0)=true then _ else _;by_cases h0:aL (dy ns ms)=0
         · rw[fb aw]
           refine bK ?_;rw[bp h0]at cO;refine⟨sD,ys.set (i+1) lv,_,_,_,_,_,_,_,bf,?_,Z⟩;rw[<-Aw]at GZ;have e:(jL j aD os i).set (i+1) (mn (topR aD sp) (topR aD sq))=jL j aD os (i+1):=by rw[<-Q4 j aD os i aw,Cv];show _=List.set _ _ (mnO _ (cornO j ns ms));rw[cO];rfl
           rw[<-e];exact GZ
         · rw[cR aw]
           refine cf ?_;rw[bu h0]at cO;have jl:(j*aL ns).natAbs<=50*100:=lI (by have:=aM.j1;lia) aw;have jl2:(j*aL ns*aL ms).natAbs<=50*100*100:=lI jl aw;have cb:=Dn (λz hz=>by have:=gu.bd z hz;lia) (λz hz=>by have:=fj.bd z hz;lia) (ns:=ns) (ms:=ms);have kX:=nX cb;have lR:(2:Nat)^64=18446744073709551616:=by decide
           refine⟨_,Z,.inr ⟨ma,_,3,.int j,Z,Z,hZ.go sD,Z,?_⟩⟩;refine⟨_,Z,_,_,Z,Z,.of_left (cw (by have:=aM.j1;lia) (by have:=aM.j1;lia)),_,Z,_,_,Z,Z,.of_right (cw aw aw),?_⟩;refine⟨_,_,Z,Z,⟨aB,aB,by rw[lR];lia⟩,_,Z,_,_,Z,Z,⟨aB,aB,by rw[lR];lia⟩,_,_,Z,?_,?_,λv6 Lj r6 dc=>?_⟩
           · show 0<(aL (dy ns ms):Int)^2
             rw[fZ,fZ,m4,lj];exact iT aw aw
           · refine iB (n:=64) ?_ aB
             show((aL (dy ns ms):Int)^2).natAbs<_;rw[fZ,fZ,m4,lj,lR];have:=lI (a:=(aL (dy ns ms):Int)) (b:=(aL (dy ns ms):Int)) (m:=2000000) (n:=2000000) aw aw
             lia
           have Rc:bE K Lj v6 (Rat.divInt ((j*aL ns*aL ms)^2) ((aL (dy ns ms):Int)^2)):=r6;have Tc:Bd 2000 (Rat.divInt ((j*aL ns*aL ms)^2) ((aL (dy ns ms):Int)^2)):=(Ow.Kt aM.j1.1 aM.j1.2 gu.bd fj.bd cO).mono aB;generalize Rat.divInt ((j*aL ns*aL ms)^2) ((aL (dy ns ms):Int)^2)=cq at Rc Tc cO;have Ue:=dc _ _ (bf (H:=sX) (a:=D) (o:=.lst (ys.set (i+1) lv)));have at3:fQ (ys.set (i+1) lv) ((1:Int)+(i:Int))=some lv:=dB aw (by rw[Ki,Ax aw]);have acT:bE K Lj lv (mn (topR aD sp) (topR aD sq)):=nM (RD.mono dc _ (RD.t tU _ (qQ _) rl.rd));refine⟨_,Z,_,Z,.inl ⟨D,_,_,_,Z,Z,aJ.of Ue,at3,_,Z,?_⟩⟩;refine⟨bZ Z,λIH XA wL=>?_⟩;have Vm:=acT.go wL.same;have Vl:=Rc.go wL.same;refine⟨IH,[lv,v6],[mn (topR aD sp) (topR aD sq),cq],Z,aJ.of wL.at',⟨Vm,Ow.ze T1 T2,Vl,Tc,trivial⟩,by simp,λc' lv2 q' aaR U0 kx=>?_⟩;have a6X:mn (mn (topR aD sp) (topR aD sq)) cq=q':=by
            refine nS ?_ (kx _ (by simp)) (kx _ (by simp))
            match c',U0 with |0,e2=>cases e2;exact .inl rfl |1,e2=>cases e2;exact .inr rfl
           have GW:bE K XA lv2 (mn (mn (topR aD sp) (topR aD sq)) cq):=by
            rw[a6X]
            match c',aaR,U0 with |0,e1,e2=>cases e1;cases e2;exact Vm |1,e1,e2=>cases e1;cases e2;exact Vl
           have Ud:=wL.same _ _ Ue;refine⟨_,Z,_,Z,D,_,_,_,Z,Z,Ud,(by rw[vz];exact Cf),?_⟩;have Pk:=aP.EU (i:=i+1) Ud (aP.mono (dc.trans wL.same) _ GZ) GW.rd (by rw[<-Aw];exact wG _) (qQ _);refine⟨λb o' e=>by rw[aK (gy e n1.no)];exact wL.same b o' (dc b o' (sD b o' e)),_,_,_,_,_,_,_,_,bf,?_,Z⟩;rw[LK,LK,<-Aw]at Pk;have e:(jL j aD os i).set (i+1) (mn (mn (topR aD sp) (topR aD sq)) cq)=jL j aD os (i+1):=by rw[<-Q4 j aD os i aw,Cv];show _=List.set _ _ (mnO _ (cornO j ns ms));rw[cO];rfl
           rw[<-e,LK];exact Pk
   · rintro O H5 ⟨s5,ys,v1,v2,v3,v4,v5,v6,v7,dl,qP,rfl⟩
     have e:jL j aD os ((xs.length:Int)-1).toNat=ownL j aD os:=by
      apply tF;intro k;by_cases hk:k<=os.length
      · rw[wq j aD os _ hk,Ow.Q6 j aD os hk]
        congr 1;split
        ·rfl
        · have:k=os.length:=by lia
          exact(Ow.HL j aD os k this).symm
      ·rw[m3 (by rw[pk];lia),m3 (by rw[Ow.Q5];lia)]
     rw[e]at qP;exact⟨_,Z,k D ys H5 n1.no dl qP s5⟩
inductive VL(K:aa)(vs:List V)(H:Hp)(Q:VK):Prop |mk (m:_)(sq:_)(rs:_)(r:_)(f:_)(j:_)(ti:_)(q:_)(h0:vs=[m,sq])(h1:RD K H m (jf rs r f j ti))(h2:bE K H sq q)(h3:Bd 2000 q)(h4:1<=ti)(h5:ti<=100)(h6:0<q.num)(h7:∀T,1<=T->T.natAbs<2^2400->gz ti q T=true->gz ti q (T-1)=false->∀H',aG H H'->Q (.int T) H'):VL K vs H Q
def MT(K:aa):Sp:=λvs H Q _=>VL K vs H Q
theorem NJ:bF ["_law_machine_here","_law_square","_law_wanted","_law_low","_law_high","_law_half"] ["_law_machine_here","_law_square"] (aZ F9):=bP aY
theorem a2Y(F:FA K mg "_law_ticks" F9)(B:bV mg):aI P w K mg base "_law_ticks" 1 (MT K):=by
 refine F.has NJ (λvs H Q E h=>?_) (λ_ _ _ _ _ _=>dN λ_ _=>rfl) (λf aQ A outer s H vs Q E hr h=>?_)
 · obtain⟨m,sq,rs,r,f,j,ti,q,rfl,_⟩:=h
   rfl
 · obtain⟨m,sq,rs,r,f,j,ti,q,rfl,rm,⟨p,rfl,hp⟩,bq,t1,t2,hq,k⟩:=h
   have nd:=NJ.nd;refine⟨_,(aF (pS 2 nd (aO bO (aO wu (px K (pv 0) aE) aE) (px K (pv 1) aE))) (aF (gq (ek (au aE (au aE az))) (eK K Z (n:=2) Z (cg (bJ 3 nd) (cg (bJ 4 nd) eG)))) (aF (nO iA (ck kl (aO bO (aO bO (pv 4) (pv 4)) (px K (pv 1) aE)) (pv 2) (bB _)) (aH (p9 (i:=3) (j:=4) Z nd Z Z aB Z Z (au (pv 4) (au (aO bO aE (pv 4)) az)) Z))) (aF (nO iA (ck uh (aO gG (pv 4) (pv 3)) aE (bB _)) (aF (pS 5 nd (aO mF (aO da (pv 3) (pv 4)) aE)) (aH (bN (ck kl (aO bO (aO bO (pv 5) (pv 5)) (px K (pv 1) aE)) (pv 2) (bB _)) (aH (pS 3 nd (pv 5))) (aH (pS 4 nd (pv 5))))))) (aH (aX (pv 4))))))),?_⟩;obtain⟨a,b,rfl,ha,hb⟩:=lJ rm;have m1:(ti*ti).natAbs<=100*100:=by rw[g9];exact mZ aw aw
   have eP:ti^(2:Int).toNat=ti*ti:=by show ti^2=ti*ti;rw[fZ,fZ,m4,lj]
   have lim:(ti*ti*(q.den:Int)).natAbs<2^2399:=by have hd:=bq.den;rw[g9];have:(q.den:Int).natAbs=q.den:=rfl;rw[this];have:=lH (n:=14) (m:=2000) (a:=(ti*ti).natAbs) (b:=q.den) (qD m1 aB) hd;exact gB this (tE aB aB)
   have p0:0<ti*ti*(q.den:Int):=iT (iT aw aw) (den_pos q);have e2:(2:Nat)^2400=2^2399*2:=Nat.pow_succ 2 2399;have AJ:∀{t:Int},t.natAbs<2^2400->Wd (t*t):=λ{t} tw=>iB (n:=4800) (by rw[g9];exact lH (n:=2400) (m:=2400) tw tw) aB;have wt:∀{t:Int},t.natAbs<2^2400->Wd t:=λ{t} tw=>iB tw aB;refine⟨_,Z,.inr ⟨a,_,4,.int ti,Z,Z,ha,Z,?_⟩⟩
   refine ⟨_, _, rfl, rfl, ⟨by decide, by decide, by have:(2:Nat)^64=18446744073709551616:=by decide
                                                     lia⟩,?_⟩;refine⟨_,Z,.inr ⟨p,_,1,.int q.den,Z,Z,hp,Z,?_⟩⟩;refine⟨_,_,Z,Z,by rw[eP];exact .of_left (cw aw aw),?_⟩;have eW:ti^(2:Int).toNat*(q.den:Int)=ti*ti*(q.den:Int):=by rw[eP]
   have TX:∀t:Int,decide (t*t*q.num<ti^(2:Int).toNat*(q.den:Int))= !gz ti q t:=λt=>by unfold gz;rw[eW,<-decide_not];exact decide_eq_decide.mpr aw
   refine⟨bZ Z,λc0 H0 n0=>?_⟩;refine⟨c0,_,Z,aU.of n0.at',Z,_,_,Z,_,_,Z,Z,?_⟩;have Cu:=hp.go n0.same;have k':∀T:Int,1<=T->T.natAbs<2^2400->gz ti q T=true->gz ti q (T-1)=false->Q (.int T) H0:=λT a1 a2 a3 a4=>(k T a1 a2 a3 a4) H0 n0.same;generalize hL:ti*ti*(q.den:Int)=L at lim p0;refine nc (λO H2=>H2=H0/\∃(lo x:Int),O=[some (.ref a),some (.ref p),some (.int (ti^(2:Int).toNat*(q.den:Int))),some (.int lo),some (.int x),none]/\0<=lo/\lo<x/\x<=2*L/\gz ti q lo=false) (λO _=>match O with|[_,_,_,_,some (.int x),_]=>(L-x).toNat|_=>0) ?_ ?_ ?_
   ·exact⟨Z,0,1,Z,aw,aw,aw,TQ t1⟩
   · rintro O H2 ⟨rfl,lo,x,rfl,l0,lx,xL,hx⟩
     have xw:x.natAbs<2^2400:=by lia
     refine⟨_,Z,_,Z,_,_,Z,Z,iS (wt xw).bits (wt xw).bits,_,Z,.inr ⟨p,_,0,.int q.num,Z,Z,Cu,Z,_,_,Z,Z,iS (AJ xw).bits bq.wn.bits,?_⟩⟩;refine⟨_,Z,_,_,Z,Z,_,Z,?_⟩;show if decide (x*x*q.num<ti^(2:Int).toNat*(q.den:Int))=true then _ else _;rw[TX];cases pQ:gz ti q x with
     |false=>
       have cF:x<L:=by
        by_cases cF:x<L
        ·exact cF
        ·rw[TU hq aw aw]at pQ;cases pQ
       refine cf ?_;refine⟨_,Z,_,Z,_,_,Z,Z,.of_left (cw aB aB),_,_,Z,?_⟩;refine⟨⟨Z,x,2*x,Z,aw,aw,aw,pQ⟩,?_⟩;show(L-2*x).toNat<(L-x).toNat
       lia |true=>
       refine bK ?_;refine nc (λO H3=>H3=H2/\∃(lo hi:Int)(v:Option V),O=[some (.ref a),some (.ref p),some (.int (ti^(2:Int).toNat*(q.den:Int))),some (.int lo),some (.int hi),v]/\0<=lo/\lo<hi/\hi<=2*L/\gz ti q lo=false/\gz ti q hi=true) (λO _=>match O with|[_,_,_,some (.int y),some (.int x),_]=>(x-y).toNat|_=>0) ?_ ?_ ?_
       ·exact⟨Z,lo,x,none,Z,aw,aw,xL,hx,pQ⟩
       · rintro O H3 ⟨rfl,lo,hi,v,rfl,l0,lh,zF,zS,uY⟩
         refine⟨_,Z,_,Z,_,_,Z,Z,_,_,Z,Z,_,Z,?_⟩;refine dU (λhc=>?_) (λhc=>?_)
         · have hgt:hi-lo>1:=jZ hc
           refine⟨_,Z,_,Z,_,_,Z,Z,_,_,Z,Z,⟨aB,iB (n:=2) aB aB⟩,?_⟩;have mw:((lo+hi)/2).natAbs<2^2400:=by lia
           refine⟨_,Z,_,Z,_,_,Z,Z,iS (wt mw).bits (wt mw).bits,_,Z,.inr ⟨p,_,0,.int q.num,Z,Z,Cu,Z,_,_,Z,Z,iS (AJ mw).bits bq.wn.bits,?_⟩⟩;refine⟨_,Z,_,_,Z,Z,_,Z,?_⟩;show if decide ((lo+hi)/2*((lo+hi)/2)*q.num<ti^(2:Int).toNat*(q.den:Int))=true then _ else _;rw[TX];cases hm:gz ti q ((lo+hi)/2)with
           |true=>
             refine bK ?_;refine⟨_,Z,⟨Z,lo,_,_,Z,l0,aw,aw,zS,hm⟩,?_⟩;show((lo+hi)/2-lo).toNat<(hi-lo).toNat
             lia |false=>
             refine cf ?_;refine⟨_,Z,⟨Z,_,hi,_,Z,aw,aw,zF,hm,uY⟩,?_⟩;show(hi-(lo+hi)/2).toNat<(hi-lo).toNat
             lia
         · have hle:¬hi-lo>1:=λz=>hc (cR z)
           have e:lo=hi-1:=by lia
           subst e;exact⟨_,Z,k' hi aw aw uY zS⟩
       · rintro O H2 Q1 Q2 hq ⟨v1,e1,v2,e2,i,j,e3,e4,i2,j2,e5,e6,kk,e7,q⟩
         exact⟨v1,e1,v2,e2,i,j,e3,e4,i2,j2,e5,e6,kk,e7,hq _ _ q⟩
   · rintro O H2 Q1 Q2 hq ⟨v1,e1,v2,e2,i,j,e3,e4,mo,v3,e5,h⟩
     refine⟨v1,e1,v2,e2,i,j,e3,e4,mo,v3,e5,?_⟩;rcases h with⟨a,xs,ii,x,f1,f2,f3,f4,i2,j2,g1,g2,g3,v4,g4,i3,j3,g5,g6,kk,g7,q⟩|⟨a,xs,ii,x,f1,f2,f3,f4,i2,j2,g1,g2,g3,v4,g4,i3,j3,g5,g6,kk,g7,q⟩
     ·exact .inl ⟨a,xs,ii,x,f1,f2,f3,f4,i2,j2,g1,g2,g3,v4,g4,i3,j3,g5,g6,kk,g7,hq _ _ q⟩
     ·exact .inr ⟨a,xs,ii,x,f1,f2,f3,f4,i2,j2,g1,g2,g3,v4,g4,i3,j3,g5,g6,kk,g7,hq _ _ q⟩
inductive VP(K:aa)(vs:List V)(H:Hp)(Q:VK):Prop |mk (v:_)(ns:_)(sp:_)(k:_)(h0:vs=[v,.int k])(h1:RD K H v (iW ns sp))(h2:fw ns.length 1000 ns)(h3:ns.length<=1000)(h4:0<=k)(h5:k<=10^6)(h6:∀v' H',RD K H' v' (Ew ns k)->aG H H'->Q v' H'):VP K vs H Q
def MV(K:aa):Sp:=λvs H Q _=>VP K vs H Q
theorem a9v{k n q:Int}(hk:0<=k)(hq:0<q):(if n<0 then-((2*k*iY n+q)/(2*q))else(2*k*iY n+q)/(2*q))=fz (k*n) q:=by
 have e:2*k*iY n=2*((k*n).natAbs:Int):=by rw[A5,g9,Int.natCast_mul,tG,Y4 hk]
 rw[e];show(if n<0 then-(ja (k*n) q)else ja (k*n) q)=fz (k*n) q;rcases LW n 0 with hn|hn
 ·rw[bp hn]
  rcases LW 0 k with h0|h0
  ·have:k*n<0:=Int.mul_neg_of_pos_of_neg h0 hn
   unfold fz;rw[bu aw]
  ·have e0:k=0:=by lia
   rw[e0,AA,Il hq];have:=Il hq;unfold fz at this;rw[bp aw]at this
   lia
 ·rw[bu aw]
  have:0<=k*n:=jI hk hn;unfold fz;rw[bp this]
theorem NN:bF ["_law_line_here","_law_k","_law_lead_here","_law_found","_law_step","_law_far"] ["_law_line_here","_law_k"] (aZ Fe):=bP aY
theorem a32(F:FA K mg "_law_stand" Fe)(B:bV mg)(rP:aI P w K mg base "_law_lead" 1 (m7 K)):aI P w K mg base "_law_stand" 2 (MV K):=by
 refine F.has NN (λvs H Q E h=>?_) (λ_ _ _ _ _ _=>dN λ_ _=>rfl) (λf aQ A outer s H vs Q E hr h=>?_)
 ·obtain⟨v,ns,sp,k,rfl,_⟩:=h
  rfl
 ·obtain⟨v,ns,sp,kk,rfl,rd,ok,hz,hk,nY,k⟩:=h
  have nd:=NN.nd;refine⟨_,(aF (pS 2 nd (pf rP hr (au (pv 0) az))) (aF (pS 3 nd (dj az)) (aF (me iA Z (qS K Z (px K (pv 0) aE)) (bJ 4 nd) (aF (pS 5 nd (aO mF (aO da (aO bO (aO bO aE (pv 1)) (dG (x:="abs") oz Z (B.at "abs") qC (au (pv 4) az))) (pv 2)) (aO bO aE (pv 2)))) (aH (hO (jq K Z (pv 3) (au (px K (dj (au (pv 5) (au (yM yd (pv 5)) az))) (iG (x:="int") UO Z (B.at "int") Ly (au (fH kl (pv 4) aE (bB _)) az))) az)))))) (aH (aX (iG (x:="tuple") (lD K Z) Z (B.at "tuple") fY (au (pv 3) az))))))),?_⟩;refine⟨_,Z,v,ns,sp,Z,rd,ok.ne,hz,λH1 s1=>?_⟩;obtain⟨lp,lm⟩:=ok.lead;refine⟨bZ Z,λl H2 n2=>?_⟩;obtain⟨a,b,rfl,ha,hb⟩:=mj (RD.mono (s1.trans n2.same) _ rd);refine⟨_,Z,.inr ⟨a,_,1,.ref b,Z,Z,ha,Z,b,Z,⟨_,hb⟩,a9g (K:=K) (a:=b) (xs:=ns.map V.int) (λi O H3=>aG H1 H3/\aU K H3 b (ns.map V.int)/\H3 l=some (.lst (((ns.map λz=>fz (kk*z) (aL ns)).take i).map V.int))/\∃v1 v2,O=[some (.ref a),some (.int kk),some (.int (aL ns)),some (.ref l),v1,v2]) ⟨n2.same,hb,n2.at',none,none,Z⟩ (λi O H3 _ h=>h.2.1) ?_ ?_⟩⟩
  ·rintro i x O H3 hx ⟨s3,Sr,dl,v1,v2,rfl⟩
   obtain⟨n,en⟩:∃n,ns[i]? =some n:=by rw[cH]at hx;cases e:ns[i]? with |none=>rw[e]at hx;cases hx |some n=>exact⟨n,Z⟩
   cases zh hx en;have nb:=ok.bd n (gX en);have hi:i<ns.length:=(dQ.mp en).1;have ab:iY n=(n.natAbs:Int):=A5 n;have pb:=PF (k:=kk) (z:=n) aw nb;have eA:2*kk*iY n=2*((kk*n).natAbs:Int):=by rw[ab,g9,Int.natCast_mul,tG,Y4 hk]
   refine⟨_,Z,_,_,Z,Z,.of_left (cw aB aB),_,Z,_,Z,_,_,Z,Z,.of_left (cw aw aw),_,Z,_,_,Z,Z,_,Z,_,_,Z,Z,.of_left (cw aB aB),_,_,Z,Z,⟨aw,M5 aw⟩,?_⟩;have fn:=a9v (n:=n) hk (show(0:Int)<aL ns by lia);refine⟨_,Z,.inl ⟨Z,_,aJ.of dl⟩,_,Z,_,Z,_,Z,bZ Z,λc H4 n4=>?_⟩;refine⟨_,Z,_,_,Z,Z,.inr ⟨_,Z,?_⟩⟩;have QA:=n4.same _ _ dl;have zC:fQ ([.int ((2*kk*iY n+(aL ns:Int))/(2*(aL ns:Int))),.int (-((2*kk*iY n+(aL ns:Int))/(2*(aL ns:Int))))]:List V) (if decide (n<0)=true then 1 else 0)=some (.int (fz (kk*n) (aL ns))):=by
    rw[<-fn];by_cases hn:n<0
    ·rw[bp (cR hn),bp hn];rfl
    ·rw[bu (λz=>hn (jZ z)),bu hn];rfl
   refine .inl ⟨c,_,_,_,Z,Z,aJ.of n4.at',zC,?_⟩;refine⟨l,_,_,Z,Z,QA,?_,?_⟩
   ·have:(1000:Nat)<sizeLine:=by decide
    rw[cB,oS,cB];lia
   refine⟨λb o e=>?_,aU.t (.qI QA) (Sr.go n4.same),?_,_,_,Z⟩
   ·rw[aK (gy e n2.no)];exact n4.same b o (s3 b o e)
   ·rw[bf,qF,cH,en,oQ];rfl
  ·rintro O H3 ⟨s3,Sr,dl,v1,v2,rfl⟩
   rw[DZ (by simp)]at dl;refine⟨_,Z,l,_,Z,.inl ⟨aJ.of dl,λt H4 n4=>?_⟩⟩;exact k _ _ (jb (aU.of n4.at') (we _)) (s1.trans (s3.trans n4.same))
end
end Lw
set_option maxHeartbeats 2000000
namespace Lw
open PySem PySem.Spec PyProof.Rows L2 Rt Ln Cn Pn Wk Rn
open Ow (topR cornO mnO betR atO ownF leadF ownL OkI OkIs)
section
variable {w:World}{mg:Str->Option Value}{base:Heap}
theorem fk{n:Nat}(h:n+64<cLine):n+1<cLine:=qD (Nat.add_le_add_left aB n) h
theorem cE{X:Cx}{k:Nat}{o i:Expr}{td ty:TE}{pos:Pos}(hr:cQ k X.A)(ho:PE X o td)(hi:PE X i ty)(hs:KW i:=by exact λ_ _=>rfl):PE X (.Subscript o i pos) (Mz td ty):=a2j (fk hr.units) ho hi hs
def bI(m p g s r t k q n b c re td:V):List (Key×V):=[(.inr "machine",m),(.inr "place",p),(.inr "goal",g),(.inr "square",s),(.inr "rate",r),(.inr "tool",t),(.inr "mark",k),(.inr "queue",q),(.inr "gone",n),(.inr "brake",b),(.inr "braked",c),(.inr "reach",re),(.inr "told",td)]
section
variable {H:Hp}{a:Addr}{m p g s r t k q n b c re td x:V}
theorem dg{aR:List (Key×V)}{z:Str}{v:V}(h:H a=some (.dK aR))(e:gk aR (.inr z)=some v):vn H a (.str z) (some v):=by rw[<-e];exact vn.k (k:=Sum.inr z) h
theorem dp{aR Rx:List (Key×V)}{z:Str}{v:V}(h:H a=some (.dK aR))(e:putK aR (.inr z) v=Rx)(hl:aR.length<=13):sY H a (.str z) v (L2.upd H a (.dK Rx)):=by rw[<-e];exact sY.k (k:=Sum.inr z) h (qD hl aB)
theorem zK:gk (bI m p g s r t k q n b c re td) (.inr "machine")=some m:=by kernel_rfl
theorem JM:gk (bI m p g s r t k q n b c re td) (.inr "place")=some p:=by kernel_rfl
theorem JN:gk (bI m p g s r t k q n b c re td) (.inr "goal")=some g:=by kernel_rfl
theorem rV:gk (bI m p g s r t k q n b c re td) (.inr "square")=some s:=by kernel_rfl
theorem JL:gk (bI m p g s r t k q n b c re td) (.inr "rate")=some r:=by kernel_rfl
theorem a93:gk (bI m p g s r t k q n b c re td) (.inr "tool")=some t:=by kernel_rfl
theorem a94:gk (bI m p g s r t k q n b c re td) (.inr "mark")=some k:=by kernel_rfl
theorem lT:gk (bI m p g s r t k q n b c re td) (.inr "queue")=some q:=by kernel_rfl
theorem CV:gk (bI m p g s r t k q n b c re td) (.inr "gone")=some n:=by kernel_rfl
theorem xq:gk (bI m p g s r t k q n b c re td) (.inr "brake")=some b:=by kernel_rfl
theorem Ta:gk (bI m p g s r t k q n b c re td) (.inr "braked")=some c:=by kernel_rfl
theorem T9:gk (bI m p g s r t k q n b c re td) (.inr "reach")=some re:=by kernel_rfl
theorem CU:gk (bI m p g s r t k q n b c re td) (.inr "told")=some td:=by kernel_rfl
theorem a2w:putK (bI m p g s r t k q n b c re td) (.inr "place") x=bI m x g s r t k q n b c re td:=by kernel_rfl
theorem PZ:putK (bI m p g s r t k q n b c re td) (.inr "goal") x=bI m p x s r t k q n b c re td:=by kernel_rfl
theorem a2u:putK (bI m p g s r t k q n b c re td) (.inr "square") x=bI m p g x r t k q n b c re td:=by kernel_rfl
theorem a2t:putK (bI m p g s r t k q n b c re td) (.inr "tool") x=bI m p g s r x k q n b c re td:=by kernel_rfl
theorem a2x:putK (bI m p g s r t k q n b c re td) (.inr "mark") x=bI m p g s r t x q n b c re td:=by kernel_rfl
theorem a2v:putK (bI m p g s r t k q n b c re td) (.inr "queue") x=bI m p g s r t k x n b c re td:=by kernel_rfl
theorem HH:putK (bI m p g s r t k q n b c re td) (.inr "gone") x=bI m p g s r t k q x b c re td:=by kernel_rfl
theorem Q3:putK (bI m p g s r t k q n b c re td) (.inr "brake") x=bI m p g s r t k q n x c re td:=by kernel_rfl
theorem Q0:putK (bI m p g s r t k q n b c re td) (.inr "braked") x=bI m p g s r t k q n b x re td:=by kernel_rfl
theorem yP:putK (bI m p g s r t k q n b c re td) (.inr "reach") x=bI m p g s r t k q n b c x td:=by kernel_rfl
theorem iU:(bI m p g s r t k q n b c re td).length<=13:=bR _
end
def vo(K:aa)(H:Hp)(bv cv:V):Rn.gA->Prop |none=>bv= .bw/\∃c,cv= .int c |some (sq,st,gn)=>∃a u,bv= .ref a/\aU K H a [u,.int st]/\bE K H u sq/\cv= .int gn
theorem vo.v{H H':Hp}{bv cv:V}{t:Rn.gA}(s:bW H H')(h:vo K H bv cv t):vo K H' bv cv t:=by cases t with |none=>exact h |some q=>obtain⟨sq,st,gn⟩:=q;obtain⟨a,u,rfl,h1,h2,h3⟩:=h;exact⟨a,u,Z,aU.v s h1,bE.v s h2,h3⟩
def A9(K:aa)(H:Hp)(M:bL)(S:bh)(rv:V):Prop:=rv= .bw\/bE K H rv (fS M S)
theorem A9.v{H H':Hp}{M:bL}{S:bh}{rv:V}(s:bW H H')(h:A9 K H M S rv):A9 K H' M S rv:=h.imp id (bE.v s)
structure dC(K:aa)(H:Hp)(d q td:Addr)(M:bL)(S:bh):Prop where
 ob:∃mv lv gv sv bv cv rv,H d=some (.dK (bI mv lv gv sv (.int S.aD) (.str S.side) (.str S.mark) (.ref q) (.int S.dn) bv cv rv (.ref td)))/\RD K H mv M.D/\RD K H lv (fu (dR S))/\RD K H gv (fu (cM S))/\bE K H sv S.pc/\vo K H bv cv S.aW/\A9 K H M S rv
 qu:∃ys,H q=some (.lst ys)/\aP K H ys S.ds
theorem dC.go{H H':Hp}{d q td:Addr}{M:bL}{S:bh}(h:dC K H d q td M S)(hn:cZ S.ds=true)(s:bW H H')(ea:∀o,H d=some o->H' d=some o)(eq:∀o,H q=some o->H' q=some o):dC K H' d q td M S:=by obtain⟨⟨mv,lv,gv,sv,bv,cv,rv,e,r1,r2,r3,r4,r5,r6⟩,ys,lV,rq⟩:=h;exact⟨⟨mv,lv,gv,sv,bv,cv,rv,ea _ e,RD.v s _ (iJ _ _ _ _ _) r1,RD.v s _ (gD _) r2,RD.v s _ (gD _) r3,r4.v s,r5.v s,r6.v s⟩,ys,eq _ lV,aP.v s _ hn rq⟩
theorem dC.same{H H':Hp}{d q td:Addr}{M:bL}{S:bh}(h:dC K H d q td M S)(hn:cZ S.ds=true)(s:aG H H'):dC K H' d q td M S:=h.go hn s.v (λo e=>s _ _ e) (λo e=>s _ _ e)
theorem dC.ne{H:Hp}{d q td:Addr}{M:bL}{S:bh}(h:dC K H d q td M S):d≠q:=by obtain⟨⟨mv,lv,gv,sv,bv,cv,rv,e,_⟩,ys,lV,_⟩:=h;exact z9 e lV (by intro z;cases z)
theorem dC.v{H H':Hp}{d q td:Addr}{M:bL}{S:bh}(h:dC K H d q td M S)(b:bc [d,q] H H'):bW H H':=by
 obtain⟨⟨mv,lv,gv,sv,bv,cv,rv,e,_⟩,ys,lV,_⟩:=h;refine b.v λx hx o eo=>?_;simp only[bM,cL,dv]at hx;rcases hx with rfl|rfl
 ·rw[e]at eo;cases eo;trivial
 ·rw[lV]at eo;cases eo;trivial
inductive VW(K:aa)(vs:List V)(H:Hp)(Q:VK):Prop |mk (d:_)(q:_)(td:_)(M:_)(D:_)(S:_)(h0:vs=[.ref d])(h1:dC K H d q td M S)(h2:cj M D S)(h3:M.Ok)(h4:Q (.int (j9 M.f S.pc)) H):VW K vs H Q
def ED(K:aa):Sp:=λvs H Q _=>VW K vs H Q
theorem NR:bF ["_law_sim_here","_law_each"] ["_law_sim_here"] (aZ Fi):=bP aY
theorem a34(F:FA K mg "_law_sim_stops" Fi)(B:bV mg):aI P w K mg base "_law_sim_stops" 1 (ED K):=by
 refine F.has NR (λvs H Q E h=>?_) (λ_ _ _ _ _ _=>eR λ_=>rfl) (λf aQ A outer s H vs Q E hr h=>?_)
 ·obtain⟨d,q,td,M,D,S,rfl,_⟩:=h
  rfl
 ·obtain⟨d,q,td,M,D,S,rfl,R,ok,aM,k⟩:=h
  obtain⟨mv,lv,gv,sv,bv,cv,rv,e,r1,r2,r3,⟨pa,rfl,uH⟩,r5,r6⟩:=R.ob;have nd:=NR.nd;have rX:=aM.f1;obtain⟨ma,mb,rfl,hZ,jR⟩:=lJ r1;have bd:Bd 1600 S.pc:=(ok.pd.bd (eV ok.pm aY)).mono (by have:=ok.D2;lia);have hd:0<2*M.f*(S.pc.den:Int):=iT aw (den_pos S.pc);have wd:Wd (2*M.f*(S.pc.den:Int)):=by
   refine iB (n:=1700) ?_ aB;rw[g9];have h1:(2*M.f).natAbs<2^7:=by lia
   have:=lH h1 bd.den;exact gB this (tE aB aB)
  refine⟨_,(aF (pS 1 nd (aO bO (aO bO aE (px K (cE hr (pv 0) ba) aE)) (px K (cE hr (pv 0) ba) aE))) (aH (aX (aO mF (aO gG (aO da (px K (cE hr (pv 0) ba) aE) (pv 1)) aE) (pv 1))))),?_⟩;refine⟨_,Z,d,_,Z,dg e zK,.inr ⟨ma,_,2,.int M.f,Z,Z,hZ,Z,_,_,Z,Z,.of_left (cw aB aB),?_⟩⟩;refine⟨_,Z,d,_,Z,dg e rV,.inr ⟨pa,_,1,_,Z,Z,uH,Z,_,_,Z,Z,.of_left (cw aw aw),?_⟩⟩;refine⟨_,Z,d,_,Z,dg e rV,.inr ⟨pa,_,0,_,Z,Z,uH,Z,_,Z,_,_,Z,Z,_,_,Z,Z,_,Z,_,_,Z,Z,⟨hd,wd⟩,?_⟩⟩;exact k
inductive VZ(K:aa)(vs:List V)(H:Hp)(Q:VK):Prop |mk (d:_)(q:_)(td:_)(M:_)(D:_)(S:_)(h0:vs=[.ref d])(h1:dC K H d q td M S)(h2:cj M D S)(h3:M.Ok)(h4:∀H',dC K H' d q td M (jh M S)->bc [d] H H'->Q (.int (j9 M.f S.pc)) H'):VZ K vs H Q
def N1(K:aa):Sp:=λvs H Q _=>VZ K vs H Q
theorem NU:bF ["_law_sim_here","_law_many"] ["_law_sim_here"] (aZ Fo):=bP aY
theorem a38(F:FA K mg "_law_sim_hold" Fo)(B:bV mg)(JF:aI P w K mg base "_law_sim_stops" 1 (ED K)):aI P w K mg base "_law_sim_hold" 2 (N1 K):=by
 refine F.has NU (λvs H Q E h=>?_) (λ_ _ _ _ _ _=>eR λ_=>rfl) (λf aQ A outer s H vs Q E hr h=>?_)
 ·obtain⟨d,q,td,M,D,S,rfl,_⟩:=h
  rfl
 ·obtain⟨d,q,td,M,D,S,rfl,R,ok,aM,k⟩:=h
  obtain⟨mv,lv,gv,sv,bv,cv,rv,e,r1,r2,r3,r4,r5,r6⟩:=R.ob;obtain⟨ys,eq,rq⟩:=R.qu;have dq:=R.ne;have nd:=NU.nd;refine⟨_,(aF (pS 1 nd (pf JF hr (au (pv 0) az))) (aF (hJ (bN (ck HP (cE hr (pv 0) ba) je (bB _)) (aF (fU (fk hr.units) (pv 0) ba (ek (au (cE hr (pv 0) ba) (au (pv 1) az))) Z) (aH (fU (fk hr.units) (pv 0) ba aE Z))) bQ)) (aH (aX (pv 1))))),?_⟩;refine⟨_,Z,d,q,td,M,D,S,Z,R,ok,aM,?_⟩;refine⟨λO H1=>O=[some (.ref d),some (.int (j9 M.f S.pc))]/\dC K H1 d q td M (jh M S)/\bc [d] H H1,?_,?_⟩
  ·refine⟨_,Z,d,_,Z,dg e xq,Z,_,Z,?_⟩
   cases hs:S.aW with |some z=>obtain⟨sq,st,gn⟩:=z;have jc:=r5;rw[hs]at jc;obtain⟨a,u,rfl,_⟩:=jc;refine bK ⟨Z,?_,bc.refl _ _⟩;unfold jh;rw[hs];exact R |none=>
    have jc:=r5;rw[hs]at jc;obtain⟨rfl,_⟩:=jc;refine cf ?_;refine⟨_,Z,d,_,Z,dg e rV,_,Z,bZ Z,λt H1 n1=>?_⟩;have e1:=n1.same _ _ e;refine⟨_,Z,d,_,Z,dp e1 Q3 iU,?_⟩;refine⟨_,Z,d,_,Z,dp bf Q0 iU,Z,?_,λb o eb hb=>?_⟩
    ·have key:∀X:Hp,(∀b,b≠d->X b=H1 b)->dC K (L2.upd X d (.dK (bI mv lv gv sv (.int S.aD) (.str S.side) (.str S.mark) (.ref q) (.int S.dn) (.ref t) (.int 0) rv (.ref td)))) d q td M (jh M S):=by
      intro X hX;have vL:bW H1 (L2.upd X d (.dK (bI mv lv gv sv (.int S.aD) (.str S.side) (.str S.mark) (.ref q) (.int S.dn) (.ref t) (.int 0) rv (.ref td)))):=λb o nb eb=>by
       have hb:b≠d:=λz=>by rw[z,e1]at eb;cases eb;exact nb trivial
       rw[aK hb,hX b hb];exact eb
      have tZ:=n1.same.v.trans vL;unfold jh;rw[hs];refine⟨⟨mv,lv,gv,sv,.ref t,.int 0,rv,bf,RD.v tZ _ (iJ _ _ _ _ _) r1,RD.v tZ _ (gD _) r2,RD.v tZ _ (gD _) r3,r4.v tZ,⟨t,sv,Z,aU.v vL (aU.of n1.at'),r4.v tZ,Z⟩,r6.v tZ⟩,ys,?_,aP.v tZ _ ok.row.no rq⟩;rw[aK dq.symm,hX q dq.symm];exact n1.same _ _ eq
     exact key _ (λb hb=>by rw[aK hb])
    ·have kX:b≠d:=λz=>hb (by rw[z];exact .head _)
     rw[aK kX,aK kX];exact n1.same _ _ eb
  ·rintro O H1 ⟨rfl,R1,b1⟩
   exact⟨_,Z,k _ R1 b1⟩
theorem pZ{H:Hp}{a:Addr}{aR:List (Key×V)}{z:Str}{v:V}{n:Nat}(h:H a=some (.dK aR))(hl:aR.length<=n)(hn:n<=13):sY H a (.str z) v (L2.upd H a (.dK (putK aR (.inr z) v)))/\(putK aR (.inr z) v).length<=n+1:=⟨sY.k (k:=Sum.inr z) h (qD (iQ hl hn) aB),iQ (C7 _ _ _) (XW hl)⟩
theorem a05{mv lv s q' t':V}:putK (putK (putK (putK (putK (putK (putK (putK (putK (rA [] [(Sum.inr "machine",mv),(.inr "place",lv),(.inr "goal",lv),(.inr "square",s)]) (.inr "rate") (.int 100)) (.inr "tool") (.str "up")) (.inr "mark") (.str "")) (.inr "queue") q') (.inr "gone") (.int 0)) (.inr "brake") .bw) (.inr "braked") (.int 0)) (.inr "reach") .bw) (.inr "told") t'=bI mv lv lv s (.int 100) (.str "up") (.str "") q' (.int 0) .bw (.int 0) .bw t':=by kernel_rfl
theorem a06{mv lv s:V}:(rA [] [(Sum.inr "machine",mv),(.inr "place",lv),(.inr "goal",lv),(.inr "square",s)]).length<=4:=by rw[show rA [] [(Sum.inr "machine",mv),(.inr "place",lv),(.inr "goal",lv),(.inr "square",s)]=([(.inr "machine",mv),(.inr "place",lv),(.inr "goal",lv),(.inr "square",s)]:List (Key×V)) by kernel_rfl];exact bR _
inductive VS(K:aa)(vs:List V)(H:Hp)(Q:VK):Prop |mk (mv:_)(lv:_)(M:_)(pl:_)(h0:vs=[mv,lv])(h1:RD K H mv (bL.D M))(h2:RD K H lv (fu pl))(h3:∀d q td H',dC K H' d q td M (nv pl)->H' td=some (.lst [])->H d=none->H q=none->H td=none->d≠td->q≠td->aG H H'->Q (.ref d) H'):VS K vs H Q
def MX(K:aa):Sp:=λvs H Q _=>VS K vs H Q
theorem NP:bF ["_law_machine_here","_law_place_here","_law_sim_here"] ["_law_machine_here","_law_place_here"] (aZ Fg):=bP aY
theorem a37(F:FA K mg "_law_sim" Fg)(B:bV mg):aI P w K mg base "_law_sim" 1 (MX K):=by
 refine F.has NP (λvs H Q E h=>?_) (λ_ _ _ _ _ _=>dN λ_ _=>rfl) (λf aQ A outer s H vs Q E hr h=>?_)
 ·obtain⟨mv,lv,M,pl,rfl,_⟩:=h
  rfl
 ·obtain⟨mv,lv,M,pl,rfl,rm,rl,k⟩:=h
  have nd:=NP.nd;refine⟨_,(aF (pS 2 nd (a2i (BC ba (pv 0) (BC ba (pv 1) (BC ba (pv 1) (BC ba (ek (au aE (au aE az))) a1V)))) Z Z (by simp) aB)) (aF (fU (fk hr.units) (pv 2) ba aE Z) (aF (fU (fk hr.units) (pv 2) ba ba Z) (aF (fU (fk hr.units) (pv 2) ba ba Z) (aF (fU (fk hr.units) (pv 2) ba (dj az) Z) (aF (fU (fk hr.units) (pv 2) ba aE Z) (aF (fU (fk hr.units) (pv 2) ba je Z) (aF (fU (fk hr.units) (pv 2) ba aE Z) (aF (fU (fk hr.units) (pv 2) ba je Z) (aF (fU (fk hr.units) (pv 2) ba (dj az) Z) (aH (aX (pv 2))))))))))))),λd nP=>?_⟩;refine⟨_,Z,_,Z,_,Z,bZ Z,λt H1 n1=>?_⟩;have td:t≠d:=λz=>by have:=n1.no;rw[z,bf]at this;cases this
  have e1:=n1.same _ _ (bf (a:=d) (o:=HO.dK []));refine⟨e1,[(.inr "machine",mv),(.inr "place",lv),(.inr "goal",lv),(.inr "square",.ref t)],Z,(by show 4<=15;decide),?_⟩;obtain⟨d1,l1⟩:=pZ (z:="rate") (v:=.int 100) (H:=L2.upd H1 d _) (a:=d) bf a06 aB;refine⟨_,Z,d,_,Z,d1,?_⟩;obtain⟨d2,l2⟩:=pZ (z:="tool") (v:=.str "up") (a:=d) bf l1 aB;refine⟨_,Z,d,_,Z,d2,?_⟩;obtain⟨d3,l3⟩:=pZ (z:="mark") (v:=.str "") (a:=d) bf l2 aB;refine⟨_,Z,d,_,Z,d3,?_⟩;refine⟨gj _,λq H2 n2=>?_⟩;obtain⟨d4,l4⟩:=pZ (z:="queue") (v:=.ref q) (a:=d) (n2.same _ _ bf) l3 aB;refine⟨_,Z,d,_,Z,d4,?_⟩;obtain⟨d5,l5⟩:=pZ (z:="gone") (v:=.int 0) (a:=d) bf l4 aB;refine⟨_,Z,d,_,Z,d5,?_⟩;obtain⟨d6,l6⟩:=pZ (z:="brake") (v:=.bw) (a:=d) bf l5 aB;refine⟨_,Z,d,_,Z,d6,?_⟩;obtain⟨d7,l7⟩:=pZ (z:="braked") (v:=.int 0) (a:=d) bf l6 aB;refine⟨_,Z,d,_,Z,d7,?_⟩;obtain⟨d8,l8⟩:=pZ (z:="reach") (v:=.bw) (a:=d) bf l7 aB;refine⟨_,Z,d,_,Z,d8,?_⟩;refine⟨gj _,λtl H3 n3=>?_⟩;obtain⟨d9,l9⟩:=pZ (z:="told") (v:=.ref tl) (a:=d) (n3.same _ _ bf) l8 aB;refine⟨_,Z,d,_,Z,d9,_,Z,?_⟩;rw[a05];have s1:∀b o,H b=some o->H1 b=some o:=λb o eb=>n1.same _ _ (by rw[aK (gy eb nP)];exact eb);have sU:∀{X:Hp}{o':HO},(∀b o,H b=some o->X b=some o)->∀b o,H b=some o->(L2.upd X d o') b=some o:=λh b o eb=>by rw[aK (gy eb nP)];exact h b o eb
  have s2:∀b o,H b=some o->H2 b=some o:=λb o eb=>n2.same _ _ (sU (sU (sU (sU s1))) b o eb);have s3:∀b o,H b=some o->H3 b=some o:=λb o eb=>n3.same _ _ (sU (sU (sU (sU (sU s2)))) b o eb);have s4:aG H (L2.upd H3 d (.dK (bI mv lv lv (.ref t) (.int 100) (.str "up") (.str "") (.ref q) (.int 0) .bw (.int 0) .bw (.ref tl)))):=λb o eb=>sU s3 b o eb;have nu:∀{X:Hp}{o':HO}{y:Addr},(L2.upd X d o') y=none->y≠d/\X y=none:=λ{X o' y} h=>by
   have hy:y≠d:=λz=>by rw[z,bf]at h;cases h
   exact⟨hy,by rw[aK hy]at h;exact h⟩
  have no:∀{X:Hp}{y:Addr},(∀b o,H b=some o->X b=some o)->X y=none->H y=none:=λ{X y} h hy=>by cases e:H y with |none=>rfl |some o=>rw[h y o e]at hy;cases hy
  obtain⟨qd,q0⟩:=nu n2.no;have q1:=(nu (nu (nu q0).2).2).2;obtain⟨Ms,t0⟩:=nu n3.no;have t1:=(nu (nu (nu (nu t0).2).2).2).2;have qt:q≠tl:=λz=>by rw[<-z,n2.at']at t1;cases t1
  have ht:∀{X:Hp},X t=some (.tup [.int 0,.int 1])->(L2.upd X d (.dK (bI mv lv lv (.ref t) (.int 100) (.str "up") (.str "") (.ref q) (.int 0) .bw (.int 0) .bw (.ref tl)))) t=some (.tup [.int 0,.int 1]):=λh=>by rw[aK td];exact h
  refine k d q tl _ ⟨⟨mv,lv,lv,.ref t,.bw,.int 0,.bw,bf,RD.mono s4 _ rm,?_,?_,⟨t,Z,?_⟩,⟨Z,_,Z⟩,.inl Z⟩,[],?_,cX⟩ ?_ nP (no s1 q1) (no s2 t1) Ms.symm qt s4
  ·exact RD.mono s4 _ rl
  ·exact RD.mono s4 _ rl
  ·refine aU.of (ht (n3.same _ _ ?_))
   rw[aK td,aK td,aK td,aK td,aK td];refine n2.same _ _ ?_;rw[aK td,aK td,aK td,aK td];exact n1.at'
  ·rw[aK qd]
   refine n3.same _ _ ?_;rw[aK qd,aK qd,aK qd,aK qd,aK qd];exact n2.at'
  ·rw[aK Ms];exact n3.at'
theorem Uy{pa b:Addr}{pl ns:List Int}{te:TE}{Q:VK}{D:Addr}{H H1:Hp}(hp:aU K H pa (pl.map V.int))(hb:aU K H b (ns.map V.int))(ln:ns.length=pl.length)(hz:pl.length<=1000)(n1:Nw H H1 D (.lst [])) (ht:∀(x y:Int)(H:Hp)(Q:VK),Q (.int (x+y)) H->te [some (.int x),some (.int y)] H Q)(k:∀H2,aG H H2->H2 D=some (.lst ((fK pl ns).map V.int))->Q (.ref D) H2):j6 (mX K false false pa b) (pU K 2 (ky (fA 0) (ky (fA 1) rW))) iC te Q D [none,none] H1:=by
 refine vd (K:=K) (b1:=false) (b2:=false) (xs:=pl.map V.int) (ys:=ns.map V.int) (ds:=(fK pl ns).map PyData.int) [] rfl hp hb n1 (by simp[qo ln,ln]) (by rw[cB,qo ln];exact hz) (lG _) ?_ ?_
 ·intro i x y d H2 Q' ex ey ed s2 hq
  obtain⟨m,em,rfl⟩:=mH ed;rw[cH]at ex ey;cases e1:pl[i]? with |none=>rw[e1]at ex;cases ex |some u=>cases e2:ns[i]? with |none=>rw[e2]at ey;cases ey |some v=>rw[e1]at ex;rw[e2]at ey;cases ex;cases ey;rw[A4 e1 e2]at em;cases em;exact ht _ _ _ _ (hq _ _ (aG.refl _) (dw _))
 ·intro H2 zs s2 d2 r2
  rw[r2.jg]at d2;exact k H2 s2 d2
theorem abz{pa b:Addr}{pl rs:List Int}{te:TE}{Q:VK}{D:Addr}{H H1:Hp}(hp:aU K H pa (pl.map V.int))(hb:aU K H b (rs.map V.int))(ln:pl.length=rs.length)(hz:pl.length<=1000)(n1:Nw H H1 D (.lst [])) (ht:∀(x y:Int)(H:Hp)(Q:VK),Q (.bl (decide (0<=x)&&decide (x<=y))) H->te [some (.int x),some (.int y)] H Q)(k:∀(H2:Hp)(bs:List Bool),aG H H2->H2 D=some (.lst (bs.map V.bl))->bs.all id=qT rs pl->Q (.ref D) H2):j6 (mX K false false pa b) (pU K 2 (ky (fA 0) (ky (fA 1) rW))) iC te Q D [none,none] H1:=by
 refine Uw (K:=K) (b1:=false) (b2:=false) (xs:=pl.map V.int) (ys:=rs.map V.int) (bs:=(pl.zip rs).map λp=>decide (0<=p.1)&&decide (p.1<=p.2)) [] rfl hp hb n1 (by simp) (by simp;lia) (λi x y b' H2 Q' ex ey eb s2 hq=>?_) (λH2 s2 d2=>?_)
 ·rw[cH]at ex ey
  cases e1:pl[i]? with |none=>rw[e1]at ex;cases ex |some u=>cases e2:rs[i]? with |none=>rw[e2]at ey;cases ey |some v=>rw[e1]at ex;rw[e2]at ey;cases ex;cases ey;rw[cH,xY.mpr (show pl[i]? =some (u,v).1/\rs[i]? =some (u,v).2 from⟨e1,e2⟩)]at eb;cases eb;exact ht _ _ _ _ (hq _ (aG.refl _))
 ·exact k H2 _ s2 d2 (by unfold qT;rw[List.all_map];rfl)
theorem SW(S:bh)(d:ai)(o:Itm):cM (lU S d o)=gf (cM S) o:=by unfold cM lU;rw[Y1];rfl
theorem a20{M:bL}{D:Nat}{S:bh}(h:cj M D S)(d:ai)(o:Itm):dR (lU S d o)=dR S:=by
 unfold dR;by_cases h0:S.dn=0
 ·rw[bp h0,bp (show(lU S d o).dn=0 from h0)];rfl
 ·obtain⟨ns,sp,eo,_⟩:=h.first h0
  rw[bu h0,bu (show¬(lU S d o).dn=0 from h0),eo];have e2:(lU S d o).os[0]? =some (some (ns,sp)):=by show(S.os++[o])[0]? =_;rw[xZ (dQ.mp eo).1];exact eo
  rw[e2];rfl
inductive W0(K:aa)(vs:List V)(H:Hp)(Q:VK):Prop |mk (d:_)(q:_)(td:_)(M:_)(D:_)(S:_)(v:_)(it:_)(o:_)(h0:vs=[.ref d,v])(h1:dC K H d q td M S)(h2:cj M D S)(h3:M.Ok)(h4:RD K H v it)(h5:mY M.rs.length it o)(h6:(qT M.rs (gf (cM S) o)=false->∀H',aG H H'->Q (.str ("rails "++Str.ofString (toString (S.ds.length:Int)))) H'))(h7:(qT M.rs (gf (cM S) o)=true->S.ds.length=20->∀H',aG H H'->Q (.str "full") H'))(h8:(qT M.rs (gf (cM S) o)=true->S.ds.length<20->∀H',dC K H' d q td M (lU S it o)->bc [d,q] H H'->Q (.int (S.ds.length+1:Nat)) H')):W0 K vs H Q
def N2(K:aa):Sp:=λvs H Q _=>W0 K vs H Q
theorem NV:bF ["_law_sim_here","_law_item","_law_goal"] ["_law_sim_here","_law_item"] (aZ Fp):=bP aY
theorem a39(F:FA K mg "_law_sim_feed" Fp)(B:bV mg):aI P w K mg base "_law_sim_feed" 1 (N2 K):=by
 refine F.has NV (λvs H Q E h=>?_) (λ_ _ _ _ _ _=>dN λ_ _=>rfl) (λf aQ A outer s H vs Q E hr h=>?_)
 ·obtain⟨d,q,td,M,D,S,v,it,o,rfl,_⟩:=h
  rfl
 ·obtain⟨d,q,td,M,D,S,v,it,o,rfl,R,ok,aM,rv,zq,k1,k2,k3⟩:=h
  obtain⟨mv,lv,gv,sv,bv,cv,re,e,r1,r2,r3,r4,r5,r6⟩:=R.ob;obtain⟨ys,eq,rq⟩:=R.qu;have dq:=R.ne;have nd:=NV.nd;have ly:=rq.length;have Cd:=ok.len;have BZ:=aM.len;have gl:(cM S).length=M.rs.length:=xt _ _ ok.pl ok.qU;have bl:(gf (cM S) o).length=M.rs.length:=xM gl λns sp eo=>(zq.ln ns sp eo).1.len;obtain⟨ma,mb,rfl,hZ,jR⟩:=lJ r1;refine⟨_,(aF (pS 2 nd (cE hr (pv 0) ba)) (aF (hJ (bN (ck (cW K Z hr.units) (px K (pv 1) aE) ba (bB _)) (aH (pS 2 nd (iG (x:="tuple") (lD K Z) Z (B.at "tuple") fY (au (gE (N:=["_law_stand_here","_law_step"]) (js:=[none,none]) rfl rfl rfl (kj K rfl false false rfl (B.at "zip") (au (pv 2) (au (px K (pv 1) aE) az))) (λ_ _ _ _ _=>(eK K rfl (n:=2) rfl (cg (bJ 0 (gc aB)) (cg (bJ 1 (gc aB)) eG)))) (λ_ _ _ _ _=>fT) (λ_ _ _ _ _=>(aO da (pv 0) (pv 1)))) az)))) bQ)) (aF (bN (eO (cP (dG (x:="all") (qk K Z Z) Z (B.at "all") tD (au (gE (N:=["_law_stand_here","_law_rail"]) (js:=[none,none]) rfl rfl rfl (kj K rfl false false rfl (B.at "zip") (au (pv 2) (au (px K (cE hr (pv 0) ba) aE) az))) (λ_ _ _ _ _=>(eK K rfl (n:=2) rfl (cg (bJ 0 (gc aB)) (cg (bJ 1 (gc aB)) eG)))) (λ_ _ _ _ _=>fT) (λ_ _ _ _ _=>(PX wx wx aE (pv 0) (pv 1)))) az)))) (aH (aX (aO a2J ba (iG (x:="str") abM Z (B.at "str") qB (au (dJ K B (au (cE hr (pv 0) ba) az)) az))))) bQ) (aF (bN (ck (cW K Z hr.units) (dJ K B (au (cE hr (pv 0) ba) az)) aE (bB _)) (aH (aX ba)) bQ) (aF (fU (fk hr.units) (pv 0) ba (pv 2) Z) (aF (fU (fk hr.units) (pv 0) ba je Z) (aF (hO (jq K Z (cE hr (pv 0) ba) (au (pv 1) az))) (aH (aX (dJ K B (au (cE hr (pv 0) ba) az))))))))))),?_⟩;refine⟨_,Z,d,_,Z,dg e JN,?_⟩;refine⟨λO H1=>∃ga,O=[some (.ref d),some v,some (.ref ga)]/\aU K H1 ga ((gf (cM S) o).map V.int)/\aG H H1,?_,?_⟩
  ·obtain⟨a,wd,zs,rfl,ha,ew,sw⟩:=wV rv zq.it
   refine⟨_,Z,.inr ⟨a,_,0,.str wd,Z,Z,ha,dB (gO 0) Z,.inr ⟨_,_,cV _,cV _,sw,aY,?_⟩⟩⟩;rw[ew];refine⟨_,Z,?_⟩;cases o with |none=>obtain⟨ga,rfl,hg⟩:=uf r3;exact bK ⟨ga,Z,hg,aG.refl _⟩ |some z=>
    obtain⟨ns,sp⟩:=z;refine cf ?_;have ed:=kW zq.it;subst ed;obtain⟨a',b,ea,Sz,hb⟩:=mj rv;cases ea;obtain⟨ga,rfl,hg⟩:=uf r3;have ln:ns.length=(cM S).length:=by rw[gl];exact(zq.ln ns sp Z).1.len
    refine⟨_,Z,_,Z,.inr ⟨a,_,1,.ref b,Z,Z,Sz,Z,ga,b,Z,⟨_,hg⟩,⟨_,hb⟩,λD1 H1 n1=>?_⟩⟩;refine Uy hg hb ln aw n1 (λx y H Q h=>⟨_,Z,_,Z,_,_,Z,Z,h⟩) λH2 s2 d2=>?_;refine⟨D1,_,Z,.inl ⟨aJ.of d2,λt H3 n3=>?_⟩⟩;exact⟨t,Z,aU.of n3.at',s2.trans n3.same⟩
  ·rintro O H1 ⟨ga,rfl,hg,s1⟩
   have e1:=s1 _ _ e;refine⟨_,Z,_,Z,d,_,Z,dg e1 zK,.inr ⟨ma,_,0,.ref mb,Z,Z,hZ.go s1,Z,ga,mb,Z,⟨_,hg⟩,⟨_,jR.go s1⟩,λD1 H2 n2=>?_⟩⟩;refine abz hg (jR.go s1) bl aw n2 (λx y H Q h=>?_) λH3 bs s3 d3 eb=>?_
   ·refine⟨_,Z,_,_,Z,Z,_,Z,?_⟩
    refine dU (λh0=>?_) (λh0=>?_)
    ·rw[h0,kJ]at h
     exact⟨_,Z,_,_,Z,Z,h⟩
    ·rw[y6.mpr h0,lB]at h
     exact h
   refine⟨D1,_,Z,aJ.of d3,?_⟩;rw[eb];refine⟨_,Z,?_⟩;have dc:=s1.trans s3;have e3:=dc _ _ e;have eq3:=dc _ _ eq;have kY:sizeLine=16777216:=by decide
   cases ho:qT M.rs (gf (cM S) o)with
   |false=>
    refine cf ?_;refine⟨_,Z,d,_,Z,dg e3 lT,q,_,Z,.inl (aJ.of eq3),.inl ⟨_,Z,?_,?_⟩⟩
    ·have:ys.length<=20:=by lia
     exact a5E (by show(ys.length:Int).natAbs<10^40;lia)
    ·have el:((ys.length:Nat):Int)=(S.ds.length:Int):=by rw[ly]
     refine⟨_,_,Z,Z,?_,?_⟩
     ·rw[el]
      have e6:Str.length "rails "=6:=by decide+kernel
      have:(Str.ofString (toString (S.ds.length:Int))).length<=41:=YF aw
      lia
     ·rw[el];exact k1 ho H3 dc |true=>
    refine bK ?_;refine⟨_,Z,d,_,Z,dg e3 lT,q,_,Z,.inl (aJ.of eq3),.inl ⟨_,_,Z,Z,_,Z,?_⟩⟩;refine dU (λlS=>?_) (λlS=>?_)
    ·have lS:((ys.length:Nat):Int)=20:=jZ lS
     exact k2 ho aw H3 dc
    ·have lS:¬((ys.length:Nat):Int)=20:=λz=>lS (cR z)
     refine⟨_,Z,_,Z,d,_,Z,dp e3 PZ iU,?_⟩;refine⟨_,Z,d,_,Z,dp bf yP iU,?_⟩;have TL:∀{X:Hp}{o':HO},X q=some (.lst ys)->(L2.upd X d o') q=some (.lst ys):=λh=>by rw[aK dq.symm];exact h
     have eq5:=TL (o':=.dK (bI (.ref ma) lv (.ref ga) sv (.int S.aD) (.str S.side) (.str S.mark) (.ref q) (.int S.dn) bv cv .bw (.ref td))) (TL (o':=.dK (bI (.ref ma) lv (.ref ga) sv (.int S.aD) (.str S.side) (.str S.mark) (.ref q) (.int S.dn) bv cv re (.ref td))) eq3);refine⟨_,Z,d,_,Z,dg bf lT,.inl ⟨Z,_,aJ.of eq5⟩,_,Z,q,ys,_,Z,Z,eq5,aw,?_⟩;have key:∀X:Hp,(∀b,b≠d->X b=H3 b)->X d=some (.dK (bI (.ref ma) lv (.ref ga) sv (.int S.aD) (.str S.side) (.str S.mark) (.ref q) (.int S.dn) bv cv .bw (.ref td)))->Q (.int (S.ds.length+1:Nat)) (L2.upd X q (.lst (ys++[v]))):=by
      intro X hX eX;have b3:bc [d,q] H (L2.upd X q (.lst (ys++[v]))):=λb o' eb hb=>by have hd:b≠d:=λz=>hb (by rw[z];simp);have hq:b≠q:=λz=>hb (by rw[z];simp);rw[aK hq,hX b hd];exact dc _ _ eb
      have v0:=R.v b3;have v3:bW H1 (L2.upd X q (.lst (ys++[v]))):=λb o' nb eb=>by
       have hd:b≠d:=λz=>by rw[z,e1]at eb;cases eb;exact nb trivial
       have hq:b≠q:=λz=>by rw[z,s1 _ _ eq]at eb;cases eb;exact nb trivial
       rw[aK hq,hX b hd];exact s3 _ _ eb
      have iv:=zq.it.no;refine k3 ho aw _ ⟨⟨.ref ma,lv,.ref ga,sv,bv,cv,.bw,by rw[aK dq];exact eX,RD.v v0 _ (iJ _ _ _ _ _) r1,?_,?_,r4.v v0,r5.v v0,.inl Z⟩,ys++[v],bf,?_⟩ b3
      ·rw[a20 ok];exact RD.v v0 _ (gD _) r2
      ·rw[SW];exact wk (aU.v v3 hg)
      ·exact(aP.v v0 _ ok.row.no rq).append (cm (RD.v v0 _ iv rv) cX)
     refine⟨_,Z,d,_,Z,dg (by rw[aK dq];exact bf) lT,q,_,Z,.inl (aJ.of bf),?_⟩;rw[fy,List.length_singleton,ly];exact key _ (λb hb=>by rw[aK hb,aK hb]) bf
theorem y8{z:Int}(h:z.natAbs<2^24):Bd 100 (z:Rat):=⟨by rw[Lq];exact LB h aB,by rw[Ls];decide⟩
theorem yI{H:Hp}{a:Addr}{z:Int}(h:aU K H a [.int z,.int 1]):bE K H (.ref a) (z:Rat):=by refine⟨a,Z,?_⟩;rw[Lq,Ls];exact h
theorem a5N{H:Hp}{Q:VK}{l:Addr}{u1 u2:V}{x y:Rat}(dl:H l=some (.lst [u1,u2]))(R1:bE K H u1 x)(R2:bE K H u2 y)(b1:Bd 2000 x)(b2:Bd 2000 y)(k:∀v,bE K H v (mn x y)->Q v H):jJ K [.ref l] H Q E0:=by
 refine⟨l,[u1,u2],[x,y],Z,aJ.of dl,⟨R1,b1,R2,b2,trivial⟩,by simp,λc v q e1 e2 hq=>k v ?_⟩;have e:mn x y=q:=by
  refine nS ?_ (hq _ (by simp)) (hq _ (by simp))
  match c,e2 with |0,e2=>cases e2;exact .inl rfl |1,e2=>cases e2;exact .inr rfl
 rw[e]
 match c,e1,e2 with |0,e1,e2=>cases e1;cases e2;exact R1 |1,e1,e2=>cases e1;cases e2;exact R2
inductive VY(K:aa)(vs:List V)(H:Hp)(Q:VK):Prop |mk (d:_)(q:_)(td:_)(M:_)(D:_)(S:_)(h0:vs=[.ref d])(h1:dC K H d q td M S)(h2:cj M D S)(h3:M.Ok)(h4:S.os≠[])(h5:∀v H',bE K H' v (fS M S)->aG H H'->Q v H'):VY K vs H Q
def N0(K:aa):Sp:=λvs H Q _=>VY K vs H Q
theorem NT:bF ["_law_sim_here","_law_machine_here","_law_items","_law_bounds_here","_law_reach_here","_law_border"] ["_law_sim_here"] (aZ Fm):=bP aY
theorem a36(F:FA K mg "_law_reach" Fm)(B:bV mg)(a8N:aI P w K mg base "_law_bounds" 3 (Nl K))(xo:aI P w K mg base "_law_sum" 2 (nA (·+·) K))(rP:aI P w K mg base "_law_lead" 1 (m7 K))(uT:aI P w K mg base "_law_min" 2 (jJ K)):aI P w K mg base "_law_reach" 4 (N0 K):=by
 refine F.has NT (λvs H Q E h=>?_) (λ_ _ _ _ _ _=>eR λ_=>rfl) (λfa aQ A outer s H vs Q E hr h=>?_)
 ·obtain⟨d,q,td,M,D,S,rfl,_⟩:=h
  rfl
 ·obtain⟨d,q,td,M,D,S,rfl,R,ok,aM,dX,k⟩:=h
  obtain⟨mv,lv,gv,sv,bv,cv,re,e,r1,r2,r3,r4,r5,r6⟩:=R.ob;obtain⟨ys,eq,rq⟩:=R.qu;have nd:=NT.nd;have ly:=rq.length;have Cd:=ok.len;have ll:=ok.row.len;have uF:1<=S.os.length:=by cases e:S.os with|nil=>exact(dX e).elim|cons _ _=>simp
  have rX:=aM.f1;have BZ:=aM.len;have hB:=Ow.HM aM.j1.1 aM.j1.2 ok.dh ok.dF ok.row.wB;have hN:=Ow.Q9 M.j S.aD S.os;have h0:=Ow.HL M.j S.aD S.os S.os.length rfl;have hL:∀i m,leadF S.os i=some m->(2*M.f*(m:Int)).natAbs<2^24:=λi m e=>Mh aM.f1.1 aM.f1.2 (Ro ok.row.wB e);have FB:∀i,i<=S.os.length->Bd 1700 (fl S.os.length (leadF S.os) (2*M.f) (ownF M.j S.aD S.os) i):=λi hi=>(Tj (λi _=>hB i) hL i hi).mono aw;have FN:=a9m (n:=S.os.length) (L:=leadF S.os) (f:=2*M.f) (g:=ownF M.j S.aD S.os) aw (λi _=>hN i);obtain⟨ma,mb,rfl,hZ,jR⟩:=lJ r1;refine⟨_,(aF (p9 (i:=1) (j:=2) Z nd Z Z aB Z Z (au (cE hr (pv 0) ba) (au (cE hr (pv 0) ba) az)) Z) (aF (pS 3 nd (pf a8N hr (au (pv 1) (au (pv 2) (au (cE hr (pv 0) ba) az))))) (aF (pS 4 nd (ek (au aE (au aE az)))) (aF (me iA Z (a28 Z (B.at "range") (au (aO gG (dJ K B (au (pv 2) az)) aE) (au aE (au (yM yd aE) az)))) (bJ 5 nd) (aF (hJ (bN (ck (cW K Z hr.units) (px K (px K (pv 2) (pv 5)) aE) ba (bB _)) (aH (pS 4 nd (pf xo hr (au (pv 4) (au (ek (au (aO bO (aO bO aE (px K (pv 1) aE)) (pf rP hr (au (px K (pv 2) (pv 5)) az))) (au aE az))) az))))) bQ)) (aH (pS 4 nd (pf uT hr (au (dj (au (pv 4) (au (px K (pv 3) (pv 5)) az))) az)))))) (aH (aX (pv 4))))))),?_⟩;refine⟨_,Z,d,_,Z,dg e zK,_,Z,d,_,Z,dg e lT,_,_,Z,?_⟩;refine⟨_,Z,_,Z,_,Z,d,_,Z,dg e JL,?_⟩;refine⟨.ref ma,.ref q,S.aD,M.rs,M.r,M.f,M.j,M.t,S.ds,S.os,Z,r1,aM,kO (aJ.of eq) rq,ok.row,aw,ok.dh,ok.dF,λl zs H1 nl dl rz s1=>?_⟩;refine⟨bZ Z,λt H2 n2=>?_⟩;have s2:=s1.trans n2.same;refine⟨_,Z,q,_,Z,.inl (aJ.of (s2 _ _ eq)),_,_,Z,Z,_,Z,_,_,Z,⟨aw,aw,aB,aB⟩,?_⟩;have eN:((ys.length:Int)-1-0).toNat=S.os.length-1:=by lia
  rw[eN];have rz:aP K H1 zs ((lst S.os.length (ownF M.j S.aD S.os)).map cY):=rz;have lz:=rz.length;rw[cB,rB]at lz;refine a9j (Pv:=λi O H5=>aG H2 H5/\∃v w5,bE K H5 v (fl S.os.length (leadF S.os) (2*M.f) (ownF M.j S.aD S.os) (S.os.length-i))/\O=[some (.ref d),some (.ref ma),some (.ref q),some (.ref l),some v,w5]) ?_ ?_ ?_
  ·refine⟨aG.refl _,.ref t,none,?_,Z⟩
   rw[Nat.sub_zero,xx,h0];exact⟨t,Z,aU.of n2.at'⟩
  ·rintro i O H5 CF ⟨s5,v,w5,rv,rfl⟩
   obtain⟨c,hc⟩:∃c,S.os.length-1-i=c:=⟨_,Z⟩;have mq:c<S.os.length:=by lia
   have eI:((ys.length:Int)-1-(i:Int))=(c:Int):=by lia
   rw[eI];have tX:=s2.trans s5;have Kg:S.os.length-i=c+1:=by lia
   rw[Kg]at rv;obtain⟨x,hx⟩:∃x,ys[c]? =some x:=⟨_,cu (show c<ys.length by lia)⟩;obtain⟨dd,ed,rd⟩:=rq.get' c hx;obtain⟨o,eo,it⟩:=ok.row.get ed;have A3:fQ ys (c:Int)=some x:=dB aw (by simpa using hx);obtain⟨z0,zR⟩:∃z,zs[c]? =some z:=⟨_,cu (show c<zs.length by lia)⟩;have R0:bE K H1 z0 (ownF M.j S.aD S.os c):=by obtain⟨d1,e1,r1'⟩:=rz.get' c zR;rw[cH,rC _ (show c<=S.os.length by lia)]at e1;cases e1;exact nM r1'
   have KL:fQ zs (c:Int)=some z0:=dB aw (by simpa using zR);have eq5:=tX _ _ eq;obtain⟨a,wd,yw,rfl,h1,ew,sw⟩:=wV (RD.mono tX _ rd) it;have ei:S.os.length-(i+1)=c:=by lia
   refine⟨λO H6=>aG H5 H6/\∃v' x',bE K H6 v' x'/\Bd 2000 x'/\mn x' (ownF M.j S.aD S.os c)=fl S.os.length (leadF S.os) (2*M.f) (ownF M.j S.aD S.os) c/\O=[some (.ref d),some (.ref ma),some (.ref q),some (.ref l),some v',some (.int c)],?_,?_⟩
   ·refine⟨_,Z,_,Z,.inl ⟨q,_,_,_,Z,Z,aJ.of eq5,A3,.inr ⟨a,_,0,.str wd,Z,Z,h1,dB (gO 0) Z,.inr ⟨_,_,cV _,cV _,sw,ux,_,Z,?_⟩⟩⟩⟩
    rw[ew];cases o with |none=>
     refine bK ⟨aG.refl _,v,_,rv,(FB (c+1) aw).mono aB,?_,Z⟩;have hz:ownF M.j S.aD S.os c=0:=by cases c with |zero=>rfl |succ c'=>show betR M.j S.aD (atO S.os c') (atO S.os (c'+1))=0;rw[Ow.qj eo,Ow.Dx]
     rw[xu mq (Rm eo),hz];exact nS (.inr Z) (FN (c+1) aw) (qA) |some z=>obtain⟨ns,sp⟩:=z;refine cf ?_;have lW:=kW it;subst lW;obtain⟨eZ,_,_⟩:=ok.row.ok c ns sp eo;have us:=hL c _ (Cb eo);refine⟨_,Z,_,Z,.inr ⟨ma,_,2,.int M.f,Z,Z,hZ.go tX,Z,_,_,Z,Z,.of_left (cw aB aB),?_⟩⟩;refine⟨_,Z,_,Z,.inl ⟨q,_,_,_,Z,Z,aJ.of eq5,A3,?_⟩⟩;refine⟨_,ns,sp,Z,RD.mono tX _ rd,eZ.ne,by rw[eZ.len];lia,λH6 s6=>?_⟩;refine⟨_,_,Z,Z,.of_left (cw aw aw),?_⟩;refine⟨bZ Z,λtq H7 n7=>?_⟩;refine⟨v,.ref tq,_,_,Z,(rv.go s6).go n7.same,yI (aU.of n7.at'),(FB (c+1) aw).mono aB,(y8 us).mono aB,λu H8 ru s8=>?_⟩;refine⟨s6.trans (n7.same.trans s8),u,_,ru,(DB (FB (c+1) aw) us).mono aB,?_,Z⟩;rw[xy mq (Cb eo)];exact nS ((zd _ _).symm.imp id id) (kU _ _) (gP _ _)
   ·rintro O H6 ⟨s6,v',x',cU,bx,ex,rfl⟩
    have kN:=n2.same.trans (s5.trans s6);refine⟨_,Z,_,Z,_,Z,.inl ⟨l,_,_,_,Z,Z,aJ.of (kN _ _ dl),KL,?_⟩⟩;refine⟨bZ Z,λl2 H7 n7=>?_⟩;refine a5N n7.at' (cU.go n7.same) (R0.go (kN.trans n7.same)) bx ((hB c).mono aB) λu ru=>?_;refine⟨s5.trans (s6.trans n7.same),u,_,?_,Z⟩;rw[ei,<-ex];exact ru
  ·rintro O H5 ⟨s5,v,w5,rv,rfl⟩
   have e1:S.os.length-(S.os.length-1)=1:=by lia
   rw[e1]at rv;exact⟨_,Z,k v H5 rv (s2.trans s5)⟩
theorem acC{pl ns:List Int}(h:ns.length=pl.length)(k:Nat):fK (fK pl (gC ns k)) (iE ns k)=fK pl (gC ns (k+1)):=by
 apply tF;intro i;unfold fK gC iE;simp only[E5,cH];cases pl[i]? <;>cases ns[i]? <;>simp
 lia
theorem acB{pl ns:List Int}(h:ns.length=pl.length)(hq:0<aL ns):fK pl (gC ns 0)=pl:=by
 apply tF;intro i;unfold fK gC;simp only[E5,cH];by_cases hi:i<pl.length
 ·rw[cu hi,cu (show i<ns.length by lia)]
  simp[Il (show(0:Int)<(aL ns:Int) by lia)]
 ·rw[m3 aw]
theorem ZO{ns:List Int}(hq:0<aL ns):gC ns (aL ns)=ns:=by
 unfold gC;have:(λz=>fz ((aL ns:Int)*z) (aL ns:Int))=λz=>z:=by funext z;exact a4F aw
 rw[this,List.map_id']
theorem a22{S:bh}{ns:List Int}{sp:Int}(eo:S.os[0]? =some (some (ns,sp)))(h:ns.length=S.pl.length)(hq:0<aL ns):dR S=fK S.pl (gC ns S.dn):=by
 unfold dR;by_cases h0:S.dn=0
 ·rw[bp h0,h0];exact(acB h hq).symm
 ·rw[bu h0,eo]
theorem a1Z{M:bL}{S:bh}{ns:List Int}{sp:Int}(eo:S.os[0]? =some (some (ns,sp)))(h:ns.length=S.pl.length)(hq:0<aL ns)(hd:S.dn<aL ns):fK (dR S) (iE ns S.dn)=dR (fN ns (fP M S ns sp)):=by
 rw[a22 eo h hq,acC h];unfold fN;by_cases he:S.dn+1=aL ns
 ·rw[bp (show(fP M S ns sp).dn=aL ns from he)]
  obtain⟨gb,iO⟩:∃gb,S.os=some (ns,sp)::gb:=by cases e:S.os with |nil=>rw[e]at eo;simp at eo |cons a r=>rw[e]at eo;cases eo;exact⟨r,rfl⟩
  have e1:((S.dn:Int)+1)=(aL ns:Int):=by lia
  rw[e1,ZO hq];unfold dR iP;have:(fP M S ns sp).os=some (ns,sp)::gb:=iO;rw[this];rfl
 ·rw[bu (show¬(fP M S ns sp).dn=aL ns from he)]
  unfold dR;rw[bu (show¬(fP M S ns sp).dn=0 from Nat.succ_ne_zero _)];have:(fP M S ns sp).os[0]? =some (some (ns,sp)):=eo;rw[this];show _=fK S.pl (gC ns ((S.dn+1:Nat):Int));rfl
theorem SV{M:bL}{S:bh}{ns:List Int}{sp:Int}(eo:S.os[0]? =some (some (ns,sp))):cM (fN ns (fP M S ns sp))=cM S:=by
 unfold fN;split
 ·obtain⟨gb,iO⟩:∃gb,S.os=some (ns,sp)::gb:=by cases e:S.os with |nil=>rw[e]at eo;simp at eo |cons a r=>rw[e]at eo;cases eo;exact⟨r,rfl⟩
  unfold cM iP;have:(fP M S ns sp).os=some (ns,sp)::gb:=iO;rw[this,iO];rfl
 ·rfl
theorem QL(a b c:Rat):mn (mn b a) c=mn (mn a b) c:=by rw[QJ b a]
theorem QK(a b c d:Rat):mn (mn (mn b a) c) d=mn (mn (mn a b) c) d:=by rw[QJ b a]
theorem Th{sq:Rat}{a b:Int}(hb:b≠0):Rat.divInt (sq.num*a) ((sq.den:Int)*b)=sq*Rat.divInt a b:=by
 conv=>rhs;rw[<-tm sq]
 rw[XJ]
end
end Lw
set_option maxHeartbeats 4000000
namespace Lw
open PySem PySem.Spec PyProof.Rows L2 Rt Ln Cn Pn Wk Rn
open Ow (topR cornO mnO betR atO ownF leadF ownL OkI OkIs)
section
variable {w:World}{mg:Str->Option Value}{base:Heap}
theorem abx{pa b:Addr}{xs ys:List Int}{te:TE}{Q:VK}{D:Addr}{H H1:Hp}(hp:aU K H pa (xs.map V.int))(hb:aU K H b (ys.map V.int))(ln:ys.length=xs.length)(hz:xs.length<=1000)(n1:Nw H H1 D (.lst [])) (ht:∀(x y:Int)(H:Hp)(Q:VK),Q (.int (y-x)) H->te [some (.int x),some (.int y)] H Q)(k:∀H2,aG H H2->H2 D=some (.lst ((List.zipWith (λx y=>y-x) xs ys).map V.int))->Q (.ref D) H2):j6 (mX K false false pa b) (pU K 2 (ky (fA 0) (ky (fA 1) rW))) iC te Q D [none,none] H1:=by
 refine vd (K:=K) (b1:=false) (b2:=false) (xs:=xs.map V.int) (ys:=ys.map V.int) (ds:=(List.zipWith (λx y=>y-x) xs ys).map PyData.int) [] rfl hp hb n1 (by simp[ln]) (by rw[cB,List.length_zipWith];lia) (lG _) ?_ ?_
 ·intro i x y d H2 Q' ex ey ed s2 hq
  obtain⟨m,em,rfl⟩:=mH ed;rw[cH]at ex ey;cases e1:xs[i]? with |none=>rw[e1]at ex;cases ex |some u=>cases e2:ys[i]? with |none=>rw[e2]at ey;cases ey |some v=>rw[e1]at ex;rw[e2]at ey;cases ex;cases ey;rw[E5,e1,e2]at em;cases em;exact ht _ _ _ _ (hq _ _ (aG.refl _) (dw _))
 ·intro H2 zs s2 d2 r2
  rw[r2.jg]at d2;exact k H2 s2 d2
theorem a0R(ns:List Int)(k:Nat):List.zipWith (λx y=>y-x) (gC ns (k:Int)) (gC ns ((k:Int)+1))=iE ns k:=by apply tF;intro i;unfold gC iE;simp only[E5,cH];cases ns[i]? <;>simp
theorem TF{H:Hp}{ys:List V}{ds:List ai}(h:aP K H ys ds):aP K H (ys.eraseIdx 0) ds.tail:=by have:=h.drop 1;rw[List.drop_one,List.drop_one]at this;rw[List.eraseIdx_zero];exact this
theorem Hu{M:bL}{D:Nat}{S:bh}(ok:cj M D S):(dR S).length=M.rs.length:=by
 unfold dR;split
 ·exact ok.pl
 ·split
  ·next ns sp eo=>rw[qo (by rw[ok.pl];simp[gC];exact(ok.row.ok 0 ns sp eo).1.len)];exact ok.pl
  ·exact ok.pl
inductive VX(K:aa)(vs:List V)(H:Hp)(Q:VK):Prop |mk (d:_)(q:_)(td:_)(M:_)(D:_)(S:_)(ns:_)(sp:_)(h0:vs=[.ref d])(h1:dC K H d q td M S)(h2:cj M D S)(h3:M.Ok)(h4:S.os[0]? =some (some (ns,sp)))(h5:¬Halt S.pc S.aW)(h6:∀v H',RD K H' v (nV M S ns sp)->dC K H' d q td M (fN ns (fP M S ns sp))->bc [d,q] H H'->Q v H'):VX K vs H Q
def MZ(K:aa):Sp:=λvs H Q _=>VX K vs H Q
theorem NS:bF ["_law_sim_here","_law_machine_here","_law_line_here","_law_w","_law_rest","_law_reach_here","_law_tops","_law_square","_law_behind","_law_start","_law_many","_law_more","_law_row"] ["_law_sim_here"] (aZ Fj):=bP aY
theorem a35(F:FA K mg "_law_sim_step" Fj)(B:bV mg)(rP:aI P w K mg base "_law_lead" 1 (m7 K))(a8G:aI P w K mg base "_law_reach" 4 (N0 K))(CO:aI P w K mg base "_law_top" 2 (Ez K))(xo:aI P w K mg base "_law_sum" 2 (nA (·+·) K))(rQ:aI P w K mg base "_law_frac" 1 (yt K))(SF:aI P w K mg base "_law_stand" 2 (MV K))(uT:aI P w K mg base "_law_min" 2 (jJ K))(a8B:aI P w K mg base "_law_ticks" 1 (MT K)):aI P w K mg base "_law_sim_step" 5 (MZ K):=by
 refine F.has NS (λvs H Q E h=>?_) (λ_ _ _ _ _ _=>eR λ_=>rfl) (λfa aQ A outer s H vs Q E hr h=>?_)
 ·obtain⟨d,q,td,M,D,S,ns,sp,rfl,_⟩:=h
  rfl
 ·obtain⟨d,q,td,M,D,S,ns,sp,rfl,R,ok,aM,eo,nh,k⟩:=h
  obtain⟨mv,lv,gv,sv,bv,cv,rv,e,r1,r2,r3,r4,r5,r6⟩:=R.ob;obtain⟨ys,eq,rq⟩:=R.qu;have dq:=R.ne;have nd:=NS.nd;have ll:=ok.row.len;have Cd:=ok.len;have BZ:=aM.len;have D1:=ok.D1;have D2:=ok.D2;have BB:=aM.r1;have rX:=aM.f1;have pM:0<S.os.length:=(dQ.mp eo).1;have dX:S.os≠[]:=λz=>by rw[z]at pM;simp at pM
  obtain⟨dd,ed⟩:∃dd,S.ds[0]? =some dd:=⟨_,cu (show 0<S.ds.length by lia)⟩;obtain⟨y,ey,ry⟩:=rq.get 0 ed;have lW:=kW (ok.row.it 0 dd _ ed eo);subst lW;obtain⟨eZ,gZ,iD⟩:=ok.row.ok 0 ns sp eo;have Rw:=zl eZ;have fO:=eZ.lead.1;have hd:S.dn<aL ns:=by
   rcases ok.dn with z|⟨yV,yx,e1,e2⟩
   ·rw[z];exact fO
   ·rw[eo]at e1;cases e1;exact e2
  obtain⟨Rd,Rl⟩:=Hc ok.raw aM dX;have Mr:=En S.aD sp;have tl:=AV gZ iD ok.dh ok.dF;obtain⟨ma,mb,rfl,hZ,jR⟩:=lJ r1;refine⟨_,(aF (p9 (i:=1) (j:=2) Z nd Z Z aB Z Z (au (cE hr (pv 0) ba) (au (px K (cE hr (pv 0) ba) aE) az)) Z) (aF (pS 3 nd (cE hr (pv 0) ba)) (aF (pS 4 nd (aO gG (pf rP hr (au (pv 2) az)) (cE hr (pv 0) ba))) (aF (hJ (bN (ck HP (cE hr (pv 0) ba) je (bB _)) (aH (fU (fk hr.units) (pv 0) ba (pf a8G hr (au (pv 0) az)) Z)) bQ)) (aF (pS 5 nd (cE hr (pv 0) ba)) (aF (pS 6 nd (dj (au (pf CO hr (au (pv 2) (au (cE hr (pv 0) ba) az))) az))) (aF (pS 7 nd (aO (xI K Z) (pv 6) (dj (au (pf xo hr (au (pv 3) (au (ek (au (px K (pv 1) aE) (au aE az))) az))) (au (pf xo hr (au (pv 5) (au (ek (au (aO bO (px K (pv 1) aE) (aO gG (aO bO aE (pv 4)) aE)) (au aE az))) az))) az))))) (aF (pS 8 nd (aO (xI K Z) (pv 6) (dj (au (pf xo hr (au (pv 3) (au (ek (au (aO bO aE (px K (pv 1) aE)) (au aE az))) az))) (au (pf xo hr (au (pv 5) (au (ek (au (aO bO (aO bO aE (px K (pv 1) aE)) (aO gG (pv 4) aE)) (au aE az))) az))) az))))) (aF (hJ (bN (ck yQ (cE hr (pv 0) ba) je (bB _)) (aF (gq (cE hr (pv 0) ba) (eK K Z (n:=2) Z (cg (bJ 9 nd) (cg (bJ 10 nd) eG)))) (aF (fU (fk hr.units) (pv 0) ba (aO da (cE hr (pv 0) ba) aE) Z) (aF (pS 11 nd (aO gG (pv 10) (cE hr (pv 0) ba))) (aF (hO (jq K Z (pv 7) (au (pf rQ hr (au (aO bO (px K (pv 9) aE) (aO da (aO bO aE (pv 11)) aE)) (au (aO bO (aO bO (px K (pv 9) aE) aE) (pv 10)) az))) az))) (aH (hO (jq K Z (pv 8) (au (pf rQ hr (au (aO bO (px K (pv 9) aE) (pv 11)) (au (aO bO (px K (pv 9) aE) (pv 10)) az))) az)))))))) bQ)) (aF (pS 12 nd (iG (x:="tuple") (lD K Z) Z (B.at "tuple") fY (au (gE (N:=["_law_a","_law_b"]) (js:=[none,none]) rfl rfl rfl (kj K rfl false false rfl (B.at "zip") (au (pf SF hr (au (pv 2) (au (cE hr (pv 0) ba) az))) (au (pf SF hr (au (pv 2) (au (aO da (cE hr (pv 0) ba) aE) az))) az))) (λ_ _ _ _ _=>(eK K rfl (n:=2) rfl (cg (bJ 0 (gc aB)) (cg (bJ 1 (gc aB)) eG)))) (λ_ _ _ _ _=>fT) (λ_ _ _ _ _=>(aO gG (pv 1) (pv 0)))) az))) (aF (fU (fk hr.units) (pv 0) ba (iG (x:="tuple") (lD K Z) Z (B.at "tuple") fY (au (gE (N:=["_law_stand_here","_law_step"]) (js:=[none,none]) rfl rfl rfl (kj K rfl false false rfl (B.at "zip") (au (cE hr (pv 0) ba) (au (pv 12) az))) (λ_ _ _ _ _=>(eK K rfl (n:=2) rfl (cg (bJ 0 (gc aB)) (cg (bJ 1 (gc aB)) eG)))) (λ_ _ _ _ _=>fT) (λ_ _ _ _ _=>(aO da (pv 0) (pv 1)))) az)) rfl) (aF (fU (fk hr.units) (pv 0) ba (pf uT hr (au (pv 8) az)) Z) (aF (fU (fk hr.units) (pv 0) ba (aO da (cE hr (pv 0) ba) aE) Z) (aF (hJ (bN (ck (cW K Z hr.units) (pv 4) aE (bB _)) (aF (hO (PY K Z (cE hr (pv 0) ba) (au aE az))) (aF (fU (fk hr.units) (pv 0) ba aE Z) (aH (fU (fk hr.units) (pv 0) ba je Z)))) bQ)) (aF (pS 7 nd (pf uT hr (au (pv 7) az))) (aH (aX (ek (au ba (au (pv 12) (au (pf a8B hr (au (pv 1) (au (pv 7) az))) (au (pv 7) az)))))))))))))))))))))),?_⟩;refine⟨_,Z,d,_,Z,dg e zK,_,Z,d,_,Z,dg e lT,.inl ⟨q,_,0,y,Z,Z,aJ.of eq,dB (gO 0) ey,_,_,Z,?_⟩⟩;refine⟨_,Z,d,_,Z,dg e rV,?_⟩;refine⟨_,Z,y,ns,sp,Z,ry,eZ.ne,by rw[eZ.len];lia,λH1 s1=>?_⟩;refine⟨_,Z,d,_,Z,dg (s1 _ _ e) CV,_,_,Z,Z,?_⟩;refine⟨λO H2=>∃cU w5 w6 w7 w8 w9 lC oV AM,O=[some (.ref d),some (.ref ma),some y,some sv,some (.int ((aL ns:Int)-S.dn)),w5,w6,w7,w8,w9,lC,oV,AM]/\bc [d] H H2/\H2 d=some (.dK (bI (.ref ma) lv gv sv (.int S.aD) (.str S.side) (.str S.mark) (.ref q) (.int S.dn) bv cv cU (.ref td)))/\bE K H2 cU (fS M S),?_,?_⟩
  ·refine⟨_,Z,d,_,Z,dg (s1 _ _ e) T9,Z,_,Z,?_⟩
   rcases r6 with rfl|r6
   ·refine cf ?_
    refine⟨_,Z,d,q,td,M,D,S,Z,R.same ok.row.no s1,ok,aM,dX,λv H2 r2' s2=>?_⟩;have e2:=s2 _ _ (s1 _ _ e);refine⟨_,Z,d,_,Z,dp e2 yP iU,?_⟩;have v2:bW H2 (L2.upd H2 d (.dK (bI (.ref ma) lv gv sv (.int S.aD) (.str S.side) (.str S.mark) (.ref q) (.int S.dn) bv cv v (.ref td)))):=.upd e2 trivial;refine⟨v,_,_,_,_,_,_,_,_,Z,λb o eb hb=>?_,bf,r2'.v v2⟩;have kX:b≠d:=λz=>hb (by rw[z];exact .head _);rw[aK kX];exact s2 _ _ (s1 _ _ eb)
   ·obtain⟨ra,rfl,hra⟩:=r6
    refine bK ⟨_,_,_,_,_,_,_,_,_,Z,.of s1,s1 _ _ e,ra,Z,hra.go s1⟩
  ·rintro O H2 ⟨cU,w5,w6,w7,w8,w9,lC,oV,AM,rfl,Jo⟩
   have b2:=Jo.1;have e2:=Jo.2.1;have rR:=Jo.2.2;have v2:bW H H2:=b2.v λx hx o' df=>by rw[bU]at hx;rw[hx,e]at df;cases df;trivial
   have R0:=r4.v v2;have ry2:=RD.v v2 _ (C5 ns sp) ry;have Cz:=aU.v v2 hZ;have l1:1<=(aL ns:Int)-S.dn:=by lia
   obtain⟨left,el⟩:∃left,(aL ns:Int)-S.dn=left:=⟨_,Z⟩;have l2:left<=100:=by lia
   rw[el]at l1⊢;have kY:(2:Int)^24=16777216:=by decide
   have fl1:(M.f*(2*left-1)).natAbs<=50*200:=by rw[g9];exact mZ aw aw
   have JT:0<=M.f*(2*left-1):=jI aw aw;have fl2:(2*M.f*(left-1)).natAbs<=100*100:=by rw[g9];exact mZ aw aw
   have JS:0<=2*M.f*(left-1):=jI aw aw;have yO:Bd 2000 S.pc:=(ok.pd.bd (eV ok.pm aY)).mono aw;have RB:Bd 2000 (fS M S):=(Rd.bd (eV Rl aY)).mono aB;have tB:Bd 2000 (topR S.aD sp):=(Mr.bd (eV tl aY)).mono aB;have B1:Bd 2000 (S.pc+(M.r:Rat)):=si ok.pd ok.pm aw aw aw;have B2:Bd 2000 (fS M S+((M.f*(2*left-1):Int):Rat)):=si Rd Rl JT aw aw;have B3:Bd 2000 (S.pc+((2*M.r:Int):Rat)):=si ok.pd ok.pm aw aw aw;have B4:Bd 2000 (fS M S+((2*M.f*(left-1):Int):Rat)):=si Rd Rl JS aw aw;refine⟨_,Z,d,_,Z,dg e2 T9,?_⟩;refine⟨_,Z,_,Z,d,_,Z,dg e2 JL,y,ns,sp,S.aD,Z,ry2,gZ,iD,ok.dh,ok.dF,λtv H3 rt s3=>?_⟩;have rt:bE K H3 tv (topR S.aD sp):=rt;refine⟨bZ Z,λlt H4 n4=>?_⟩;have p7:=s3.trans n4.same;refine⟨_,Z,_,Z,_,Z,.inr ⟨ma,_,1,.int M.r,Z,Z,Cz.go p7,Z,bZ Z,λt5 H5 n5=>?_⟩⟩;refine⟨sv,.ref t5,_,_,Z,(R0.go p7).go n5.same,yI (aU.of n5.at'),yO,(y8 aw).mono aB,λu1 H6 lE s6=>?_⟩;have P1:=p7.trans (n5.same.trans s6);refine⟨_,Z,_,Z,.inr ⟨ma,_,2,.int M.f,Z,Z,Cz.go P1,Z,_,Z,_,_,Z,Z,.of_left (cw aB aB),_,_,Z,Z,_,_,Z,Z,.of_left (cw aw aw),bZ Z,λt7 H7 n7=>?_⟩⟩;refine⟨cU,.ref t7,_,_,Z,(rR.go P1).go n7.same,yI (aU.of n7.at'),RB,(y8 aw).mono aB,λu2 H8 u9 s8=>?_⟩;refine⟨bZ Z,λl9 H9 n9=>?_⟩;have GD:=(n5.same.trans s6).trans ((n7.same.trans s8).trans n9.same);refine⟨lt,l9,_,_,Z,Z,aJ.of (GD _ _ n4.at'),aJ.of n9.at',by show 3<=sizeLine;decide,λlm jW ko=>?_⟩;have GG:=GD.trans ko.same;have yB:=p7.trans GG;refine⟨_,Z,_,Z,_,Z,.inr ⟨ma,_,1,.int M.r,Z,Z,Cz.go yB,Z,_,_,Z,Z,.of_left (cw aB aB),bZ Z,λZA j4 jN=>?_⟩⟩;refine⟨sv,.ref ZA,_,_,Z,(R0.go yB).go jN.same,yI (aU.of jN.at'),yO,(y8 aw).mono aB,λu3 sX GN jK=>?_⟩;have P5:=yB.trans (jN.same.trans jK);refine⟨_,Z,_,Z,.inr ⟨ma,_,2,.int M.f,Z,Z,Cz.go P5,Z,_,_,Z,Z,.of_left (cw aB aB),_,Z,_,_,Z,Z,_,_,Z,Z,.of_left (cw aw aw),bZ Z,λZy Lj BR=>?_⟩⟩;refine⟨cU,.ref Zy,_,_,Z,(rR.go P5).go BR.same,yI (aU.of BR.at'),RB,(y8 aw).mono aB,λu4 XA GL fG=>?_⟩;refine⟨bZ Z,λl15 H15 BQ=>?_⟩;have Bv:=(jN.same.trans jK).trans ((BR.same.trans fG).trans BQ.same);refine⟨lt,l15,_,_,Z,Z,aJ.of ((GG.trans Bv) _ _ n4.at'),aJ.of BQ.at',by show 3<=sizeLine;decide,λle lX uv=>?_⟩;have yC:=Bv.trans uv.same;have Bt:=yB.trans yC;have uZ:=Bt _ _ e2;have DD:=rt.go (n4.same.trans (GG.trans yC));have U1:=lE.go ((n7.same.trans s8).trans (n9.same.trans (ko.same.trans yC)));have U2:=u9.go (n9.same.trans (ko.same.trans yC));have U3:=GN.go ((BR.same.trans fG).trans (BQ.same.trans uv.same));have U4:=GL.go (BQ.same.trans uv.same);have dm:lX lm=some (.lst [tv,u1,u2]):=yC _ _ ko.at';have de:lX le=some (.lst [tv,u3,u4]):=uv.at';have P0:=p7.trans GD;have P4:=yB.trans Bv;have xF:d≠lm:=λz=>by have:=ko.no;rw[<-z,P0 _ _ e2]at this;cases this
   have Dk:d≠le:=λz=>by have:=uv.no;rw[<-z,P4 _ _ e2]at this;cases this
   have zj:lm≠le:=λz=>by have:=uv.no;rw[<-z,Bv _ _ ko.at']at this;cases this
   have BM:H lm=none:=by cases e':H lm with |none=>rfl |some o=>have:=P0 _ _ (b2 _ _ e' (by rw[bU];exact xF.symm));rw[ko.no]at this;cases this
   have yY:H le=none:=by cases e':H le with |none=>rfl |some o=>have:=P4 _ _ (b2 _ _ e' (by rw[bU];exact Dk.symm));rw[uv.no]at this;cases this
   have Mb:bW H lX:=v2.trans Bt.v;refine⟨λO HA=>∃fC w9 lC oV AM um ue,O=[some (.ref d),some (.ref ma),some y,some sv,some (.int left),some cU,some (.ref lt),some (.ref lm),some (.ref le),w9,lC,oV,AM]/\bc [d,lm,le] lX HA/\HA d=some (.dK (bI (.ref ma) lv gv sv (.int S.aD) (.str S.side) (.str S.mark) (.ref q) (.int S.dn) bv fC cU (.ref td)))/\vo K HA bv fC (BK S.aW)/\HA lm=some (.lst um)/\HA le=some (.lst ue)/\(∀H8 Q',bW HA H8->H8 lm=some (.lst um)->(∀v,bE K H8 v (mi M.r M.f S.pc (topR S.aD sp) (fS M S) left S.aW)->Q' v H8)->jJ K [.ref lm] H8 Q' E0)/\(∀H8 Q',bW HA H8->H8 le=some (.lst ue)->(∀v,bE K H8 v (pD M.r M.f S.pc (topR S.aD sp) (fS M S) left S.aW)->Q' v H8)->jJ K [.ref le] H8 Q' E0),?_,?_⟩
   ·refine⟨_,Z,d,_,Z,dg uZ xq,Z,_,Z,?_⟩
    cases hs:S.aW with |none=>
     have jc:=r5.v Mb;rw[hs]at jc;have a1I:=jc;obtain⟨rfl,_⟩:=jc;refine bK ⟨cv,_,_,_,_,_,_,Z,bc.refl _ _,uZ,a1I,dm,de,λH8 Q' sV d8 kq=>C9 d8 (DD.v sV) (U1.v sV) (U2.v sV) tB B1 B2 λv rv=>kq v ?_,λH8 Q' sV d8 kq=>C9 d8 (DD.v sV) (U3.v sV) (U4.v sV) tB B3 B4 λv rv=>kq v ?_⟩
     ·rw[QL]at rv;exact rv
     ·rw[QL]at rv;exact rv |some z=>
     obtain⟨sq,st,gn⟩:=z;have jc:=r5.v Mb;rw[hs]at jc;have sk:=ok.aW;rw[hs]at sk nh;obtain⟨g1,g2,g3⟩:=wF sk ok.pd.nn nh;obtain⟨gn0,gn1,B9,tS,tR,_,_⟩:=sk;obtain⟨ta,su,rfl,wX,⟨sa,rfl,S4⟩,rfl⟩:=jc;refine cf ?_;have Ba:Bd 2000 sq:=(tS.bd tR).mono aw;refine⟨_,Z,d,_,Z,dg uZ xq,ta,_,Z,wX,Z,_,_,Z,_,_,Z,Z,?_⟩;refine⟨_,Z,d,_,Z,dg uZ Ta,_,_,Z,Z,_,Z,d,_,Z,dp uZ Q0 iU,?_⟩;refine⟨_,Z,_,Z,d,_,Z,dg bf Ta,_,_,Z,Z,?_⟩;have vA:bW lX (L2.upd lX d (.dK (bI (.ref ma) lv gv sv (.int S.aD) (.str S.side) (.str S.mark) (.ref q) (.int S.dn) (.ref ta) (.int (gn+1)) cU (.ref td)))):=.upd uZ trivial;have xE:(L2.upd lX d (.dK (bI (.ref ma) lv gv sv (.int S.aD) (.str S.side) (.str S.mark) (.ref q) (.int S.dn) (.ref ta) (.int (gn+1)) cU (.ref td)))) lm=some (.lst [tv,u1,u2]):=by rw[aK xF.symm];exact dm
     have Dm:(L2.upd lX d (.dK (bI (.ref ma) lv gv sv (.int S.aD) (.str S.side) (.str S.mark) (.ref q) (.int S.dn) (.ref ta) (.int (gn+1)) cU (.ref td)))) le=some (.lst [tv,u3,u4]):=by rw[aK Dk.symm];exact de
     have eA:(L2.upd lX d (.dK (bI (.ref ma) lv gv sv (.int S.aD) (.str S.side) (.str S.mark) (.ref q) (.int S.dn) (.ref ta) (.int (gn+1)) cU (.ref td)))) d=some (.dK (bI (.ref ma) lv gv sv (.int S.aD) (.str S.side) (.str S.mark) (.ref q) (.int S.dn) (.ref ta) (.int (gn+1)) cU (.ref td))):=bf;have bA:∀b o,b≠d->lX b=some o->(L2.upd lX d (.dK (bI (.ref ma) lv gv sv (.int S.aD) (.str S.side) (.str S.mark) (.ref q) (.int S.dn) (.ref ta) (.int (gn+1)) cU (.ref td)))) b=some o:=λb o hb eb=>by rw[aK hb];exact eb
     generalize L2.upd lX d (.dK (bI (.ref ma) lv gv sv (.int S.aD) (.str S.side) (.str S.mark) (.ref q) (.int S.dn) (.ref ta) (.int (gn+1)) cU (.ref td)))=HA at vA xE Dm eA bA⊢;have J6:=aU.v vA S4;have Js:=den_pos sq;have dW:∀z:Int,0<z->z<=2000->0<(sq.den:Int)*z/\Wd ((sq.den:Int)*z):=λz h1 h2=>by refine⟨iT Js h1,iB (n:=2011) ?_ aB⟩;rw[g9];exact lH Ba.den (show z.natAbs<2^11 by lia)
     have kY:sizeLine=16777216:=by decide
     refine⟨_,Z,.inl ⟨Z,_,aJ.of xE⟩,_,Z,.inr ⟨sa,_,0,_,Z,Z,J6,Z,_,Z,_,_,Z,Z,.of_left (cw aB aB),_,_,Z,Z,_,_,Z,Z,.of_right (cw aw aw),?_⟩⟩;refine⟨_,Z,.inr ⟨sa,_,1,_,Z,Z,J6,Z,_,_,Z,Z,.of_right (cw aB aB),_,Z,_,_,Z,Z,.of_right (cw aw aw),?_⟩⟩;have W1:=dW (2*st) aw aw;rw[<-tG]at W1;refine⟨_,_,Z,W1.1,W1.2,λx1 HB yF sB=>?_⟩;have rZ:Rat.divInt (sq.num*(2*(st-(gn+1))+1)) ((sq.den:Int)*2*st)=sq*Rat.divInt (2*(st-gn-1)+1) (2*st):=by rw[tG,Th (show(2*st:Int)≠0 by lia),show st-(gn+1)=st-gn-1 by lia]
     have D8:Rat.divInt (sq.num*(st-(gn+1))) ((sq.den:Int)*st)=sq*Rat.divInt (st-gn-1) st:=by rw[Th (show(st:Int)≠0 by lia),show st-(gn+1)=st-gn-1 by lia]
     have yF:bE K HB x1 (sq*Rat.divInt (2*(st-gn-1)+1) (2*st)):=by rw[<-rZ];exact yF
     have pB:Bd 2000 (sq*Rat.divInt (2*(st-gn-1)+1) (2*st)):=((tS.bd tR).mul (kS (n:=12) aw aw aw)).mono aw;have HK:Bd 2000 (sq*Rat.divInt (st-gn-1) st):=((tS.bd tR).mul (kS (n:=12) aw aw aw)).mono aw;have Ua:=sB _ _ xE;refine⟨lm,_,_,Z,Z,Ua,by show 3<sizeLine;lia,?_⟩;have vC:bW HB (L2.upd HB lm (.lst ([tv,u1,u2]++[x1]))):=.upd Ua trivial;have Kq:(L2.upd HB lm (.lst ([tv,u1,u2]++[x1]))) le=some (.lst [tv,u3,u4]):=by rw[aK zj.symm];exact sB _ _ Dm
     have U9:(L2.upd HB lm (.lst ([tv,u1,u2]++[x1]))) lm=some (.lst [tv,u1,u2,x1]):=bf;have eC:(L2.upd HB lm (.lst ([tv,u1,u2]++[x1]))) d=some (.dK (bI (.ref ma) lv gv sv (.int S.aD) (.str S.side) (.str S.mark) (.ref q) (.int S.dn) (.ref ta) (.int (gn+1)) cU (.ref td))):=by rw[aK xF];exact sB _ _ eA
     have bC:∀b o,b≠lm->HB b=some o->(L2.upd HB lm (.lst ([tv,u1,u2]++[x1]))) b=some o:=λb o hb eb=>by rw[aK hb];exact eb
     generalize L2.upd HB lm (.lst ([tv,u1,u2]++[x1]))=HC at vC Kq U9 eC bC⊢;have S5:=aU.v vC (J6.go sB);refine⟨_,Z,.inl ⟨Z,_,aJ.of Kq⟩,_,Z,.inr ⟨sa,_,0,_,Z,Z,S5,Z,_,Z,_,_,Z,Z,.of_right (cw aw aw),?_⟩⟩;refine⟨_,Z,.inr ⟨sa,_,1,_,Z,Z,S5,Z,_,Z,_,_,Z,Z,.of_right (cw aw aw),?_⟩⟩;have W2:=dW st aw aw;refine⟨_,_,Z,W2.1,W2.2,λx2 HD yE sD=>?_⟩;have yE:bE K HD x2 (sq*Rat.divInt (st-gn-1) st):=by rw[<-D8];exact yE
     have Uo:=sD _ _ Kq;refine⟨le,_,_,Z,Z,Uo,by show 3<sizeLine;lia,?_⟩;have vE:bW HD (L2.upd HD le (.lst ([tv,u3,u4]++[x2]))):=.upd Uo trivial;have Yn:=sB.v.trans vC;have Mc:=sD.v.trans vE;have qH:=vA.trans (Yn.trans Mc);refine⟨.int (gn+1),_,_,_,_,[tv,u1,u2,x1],[tv,u3,u4,x2],Z,λb o' eb hb=>?_,?_,⟨ta,.ref sa,Z,aU.v qH wX,⟨sa,Z,aU.v qH S4⟩,Z⟩,?_,bf,λH' Q' sV d' kq=>?_,λH' Q' sV d' kq=>?_⟩
     ·have ha:b≠d:=λz=>hb (by rw[z];simp)
      have Jk:b≠lm:=λz=>hb (by rw[z];simp);have hle:b≠le:=λz=>hb (by rw[z];simp);rw[aK hle];exact sD _ _ (bC _ _ Jk (sB _ _ (bA _ _ ha eb)))
     ·rw[aK Dk];exact sD _ _ eC
     ·rw[aK zj];exact sD _ _ U9
     ·refine C8 d' ((DD.v qH).v sV) ((U1.v qH).v sV) ((U2.v qH).v sV) (((yF.v vC).v Mc).v sV) tB B1 B2 pB λv rv=>kq v ?_
      rw[QK]at rv;exact rv
     ·refine C8 d' ((DD.v qH).v sV) ((U3.v qH).v sV) ((U4.v qH).v sV) ((yE.v vE).v sV) tB B3 B4 HK λv rv=>kq v ?_
      rw[QK]at rv;exact rv
   ·rintro O HA ⟨fC,w9,lC,oV,ad9,um,ue,rfl,uO⟩
    have bt:=uO.1;have eA:=uO.2.1;have MK:=uO.2.2.1;have xE:=uO.2.2.2.1;have Dm:=uO.2.2.2.2.1;have km:=uO.2.2.2.2.2.1;have ke:=uO.2.2.2.2.2.2;have Dy:bc [d] H HA:=λb o' eb hb=>by
     have ha:b≠d:=λz=>hb (by rw[z];simp);refine bt b o' (Bt _ _ (b2 _ _ eb hb)) λhm=>?_;simp only[bM,cL,dv]at hm;rcases hm with h|h|h
     ·exact ha h
     ·rw[h,BM]at eb;cases eb
     ·rw[h,yY]at eb;cases eb
    have Eg:bW H HA:=Dy.v λx hx o' df=>by rw[bU]at hx;rw[hx,e]at df;cases df;trivial
    have Ys:bW lX HA:=bt.v λx hx o' df=>by
     simp only[bM,cL,dv]at hx;rcases hx with h|h|h
     ·rw[h,uZ]at df;cases df;trivial
     ·rw[h,dm]at df;cases df;trivial
     ·rw[h,de]at df;cases df;trivial
    have rRA:bE K HA cU (fS M S):=(rR.go Bt).v Ys;have P8:=RD.v Eg _ (C5 ns sp) ry;have BH:fw ns.length 1000 ns:=eZ.up;have QX:ns.length=M.rs.length:=eZ.len;refine⟨_,Z,_,Z,d,_,Z,dg eA CV,y,ns,sp,_,Z,P8,BH,aw,aw,aw,λa1 HB ra1 sB=>?_⟩;refine⟨_,Z,_,Z,d,_,Z,dg (sB _ _ eA) CV,_,_,Z,Z,y,ns,sp,_,Z,RD.mono sB _ P8,BH,aw,aw,aw,λa2 HC ra2 sC=>?_⟩;obtain⟨p1,rfl,h1⟩:=uf (pl:=gC ns (S.dn:Int)) ra1;obtain⟨p2,rfl,h2⟩:=uf (pl:=gC ns ((S.dn:Int)+1)) ra2;refine⟨p1,p2,Z,⟨_,h1.go sC⟩,⟨_,h2⟩,λD1 HD nD=>?_⟩;refine abx (h1.go sC) h2 (by simp[gC]) (by simp[gC];lia) nD (λx y H Q h=>⟨_,Z,_,Z,_,_,Z,Z,h⟩) λHE sE dE=>?_;refine⟨D1,_,Z,.inl ⟨aJ.of dE,λjn HF nF=>?_⟩⟩;have J8:aU K HF jn ((iE ns S.dn).map V.int):=by rw[<-a0R];exact aU.of nF.at'
    have nH:=sB.trans (sC.trans (sE.trans nF.same));have eF:=nH _ _ eA;have hlv:=(r2:RD K H lv (fu (dR S)));obtain⟨pa,rfl,uH⟩:=uf (RD.v Eg _ (gD _) r2);have lpl:(dR S).length=M.rs.length:=Hu ok;have a5u:(iE ns S.dn).length=(dR S).length:=by rw[lpl];simp[iE,QX]
    refine⟨_,Z,d,_,Z,dg eF JM,_,Z,pa,jn,Z,⟨_,uH.go nH⟩,⟨_,J8⟩,λD2 HG nG=>?_⟩;refine Uy (uH.go nH) J8 a5u aw nG (λx y H Q h=>⟨_,Z,_,Z,_,_,Z,Z,h⟩) λHI sI dI=>?_;refine⟨D2,_,Z,.inl ⟨aJ.of dI,λpt HJ nJ=>?_⟩⟩;have Bq:=sI.trans nJ.same;have eJ:=Bq _ _ eF;have S7:aU K HJ pt ((fK (dR S) (iE ns S.dn)).map V.int):=aU.of nJ.at';refine⟨_,Z,d,_,Z,dp eJ a2w iU,?_⟩;have Md:bW HA HJ:=(nH.trans Bq).v;have Ef:bW HJ (L2.upd HJ d (.dK (bI (.ref ma) (.ref pt) gv sv (.int S.aD) (.str S.side) (.str S.mark) (.ref q) (.int S.dn) bv fC cU (.ref td)))):=.upd eJ trivial;have e1:(L2.upd HJ d (.dK (bI (.ref ma) (.ref pt) gv sv (.int S.aD) (.str S.side) (.str S.mark) (.ref q) (.int S.dn) bv fC cU (.ref td)))) d=some (.dK (bI (.ref ma) (.ref pt) gv sv (.int S.aD) (.str S.side) (.str S.mark) (.ref q) (.int S.dn) bv fC cU (.ref td))):=bf;have b1:∀b o,b≠d->HA b=some o->(L2.upd HJ d (.dK (bI (.ref ma) (.ref pt) gv sv (.int S.aD) (.str S.side) (.str S.mark) (.ref q) (.int S.dn) bv fC cU (.ref td)))) b=some o:=λb o hb eb=>by rw[aK hb];exact Bq _ _ (nH _ _ eb)
    generalize L2.upd HJ d (.dK (bI (.ref ma) (.ref pt) gv sv (.int S.aD) (.str S.side) (.str S.mark) (.ref q) (.int S.dn) bv fC cU (.ref td)))=xS at Ef e1 b1⊢;refine⟨_,Z,?_⟩;dsimp only[kM];refine ke xS _ (Md.trans Ef) (b1 _ _ Dk.symm Dm) λpe Bx=>?_;refine⟨_,Z,d,_,Z,dp e1 a2u iU,?_⟩;refine⟨_,Z,d,_,Z,dg bf CV,_,_,Z,Z,_,Z,d,_,Z,dp bf HH iU,?_⟩;have vX:bW xS (L2.upd (L2.upd xS d (.dK (bI (.ref ma) (.ref pt) gv pe (.int S.aD) (.str S.side) (.str S.mark) (.ref q) (.int S.dn) bv fC cU (.ref td)))) d (.dK (bI (.ref ma) (.ref pt) gv pe (.int S.aD) (.str S.side) (.str S.mark) (.ref q) (.int ((S.dn:Int)+1)) bv fC cU (.ref td)))):=λb o nb eb=>by
     have hb:b≠d:=λz=>by rw[z,e1]at eb;cases eb;exact nb trivial
     rw[aK hb,aK hb];exact eb
    have eX:(L2.upd (L2.upd xS d (.dK (bI (.ref ma) (.ref pt) gv pe (.int S.aD) (.str S.side) (.str S.mark) (.ref q) (.int S.dn) bv fC cU (.ref td)))) d (.dK (bI (.ref ma) (.ref pt) gv pe (.int S.aD) (.str S.side) (.str S.mark) (.ref q) (.int ((S.dn:Int)+1)) bv fC cU (.ref td)))) d=some (.dK (bI (.ref ma) (.ref pt) gv pe (.int S.aD) (.str S.side) (.str S.mark) (.ref q) (.int ((S.dn:Int)+1)) bv fC cU (.ref td))):=bf;have bX:∀b o,b≠d->HA b=some o->(L2.upd (L2.upd xS d (.dK (bI (.ref ma) (.ref pt) gv pe (.int S.aD) (.str S.side) (.str S.mark) (.ref q) (.int S.dn) bv fC cU (.ref td)))) d (.dK (bI (.ref ma) (.ref pt) gv pe (.int S.aD) (.str S.side) (.str S.mark) (.ref q) (.int ((S.dn:Int)+1)) bv fC cU (.ref td)))) b=some o:=λb o hb eb=>by rw[aK hb,aK hb];exact b1 _ _ hb eb
    generalize(L2.upd (L2.upd xS d (.dK (bI (.ref ma) (.ref pt) gv pe (.int S.aD) (.str S.side) (.str S.mark) (.ref q) (.int S.dn) bv fC cU (.ref td)))) d (.dK (bI (.ref ma) (.ref pt) gv pe (.int S.aD) (.str S.side) (.str S.mark) (.ref q) (.int ((S.dn:Int)+1)) bv fC cU (.ref td))))=HX at vX eX bX⊢;have AN:=Ef.trans vX;have y9:=Md.trans AN;have tJ:=Eg.trans y9;have De:HX q=some (.lst ys):=bX _ _ dq.symm (Dy _ _ eq (by rw[bU];exact dq.symm));have qlm:q≠lm:=λz=>by rw[z,BM]at eq;cases eq
    have QE:0<mi M.r M.f S.pc (topR S.aD sp) (fS M S) left S.aW:=QN aw aw l1 ok.pd.nn (Mp gZ ok.dh) Rd.nn ok.aW nh;have DE:dR (fN ns (fP M S ns sp))=fK (dR S) (iE ns S.dn):=(a1Z eo (by rw[QX,ok.pl]) fO hd).symm;have DG:cM (fN ns (fP M S ns sp))=cM S:=SV eo;refine⟨λO HY=>O=[some (.ref d),some (.ref ma),some y,some sv,some (.int left),some cU,some (.ref lt),some (.ref lm),some (.ref le),w9,lC,oV,some (.ref jn)]/\dC K HY d q td M (fN ns (fP M S ns sp))/\bc [d,q] H HY/\bW HX HY/\HY lm=some (.lst um),?_,?_⟩
    ·refine⟨_,Z,.inl ⟨_,_,Z,Z,_,Z,?_⟩⟩
     refine dU (λh0=>?_) (λh0=>?_)
     ·have hl:left=1:=jZ h0
      have Jr:(fP M S ns sp).dn=aL ns:=by show S.dn+1=aL ns;lia
      obtain⟨gb,iO⟩:∃gb,S.os=some (ns,sp)::gb:=by cases e:S.os with |nil=>rw[e]at eo;simp at eo |cons a r=>rw[e]at eo;cases eo;exact⟨r,rfl⟩
      have eN:fN ns (fP M S ns sp)={fP M S ns sp with pl:=gf S.pl (some (ns,sp)),ds:=S.ds.tail,os:=gb,dn:=0}:=by unfold fN;rw[bp Jr];unfold iP;rw[show(fP M S ns sp).os=some (ns,sp)::gb from iO];rfl
      rw[eN]at DE DG⊢;have uz:seqIndex? 0 ys.length=some 0:=by have:0<ys.length:=(dQ.mp ey).1;unfold seqIndex?;simp[this]
      refine⟨_,Z,d,_,Z,dg eX lT,.inl ⟨Z,_,aJ.of De⟩,q,ys,0,0,y,Z,Z,De,aB,aB,uz,ey,?_⟩;have e3:(L2.upd HX q (.lst (ys.eraseIdx 0))) d=some (.dK (bI (.ref ma) (.ref pt) gv pe (.int S.aD) (.str S.side) (.str S.mark) (.ref q) (.int ((S.dn:Int)+1)) bv fC cU (.ref td))):=by rw[aK dq];exact eX
      refine⟨_,Z,d,_,Z,dp e3 HH iU,?_⟩;refine⟨_,Z,d,_,Z,dp bf yP iU,?_⟩;have vY:bW HX (L2.upd (L2.upd (L2.upd HX q (.lst (ys.eraseIdx 0))) d (.dK (bI (.ref ma) (.ref pt) gv pe (.int S.aD) (.str S.side) (.str S.mark) (.ref q) (.int 0) bv fC cU (.ref td)))) d (.dK (bI (.ref ma) (.ref pt) gv pe (.int S.aD) (.str S.side) (.str S.mark) (.ref q) (.int 0) bv fC .bw (.ref td)))):=λb o nb eb=>by
       have hb:b≠d:=λz=>by rw[z,eX]at eb;cases eb;exact nb trivial
       have hq:b≠q:=λz=>by rw[z,De]at eb;cases eb;exact nb trivial
       rw[aK hb,aK hb,aK hq];exact eb
      have bY:∀b o,b≠d->b≠q->HX b=some o->(L2.upd (L2.upd (L2.upd HX q (.lst (ys.eraseIdx 0))) d (.dK (bI (.ref ma) (.ref pt) gv pe (.int S.aD) (.str S.side) (.str S.mark) (.ref q) (.int 0) bv fC cU (.ref td)))) d (.dK (bI (.ref ma) (.ref pt) gv pe (.int S.aD) (.str S.side) (.str S.mark) (.ref q) (.int 0) bv fC .bw (.ref td)))) b=some o:=λb o hb hq eb=>by rw[aK hb,aK hb,aK hq];exact eb
      have eY:(L2.upd (L2.upd (L2.upd HX q (.lst (ys.eraseIdx 0))) d (.dK (bI (.ref ma) (.ref pt) gv pe (.int S.aD) (.str S.side) (.str S.mark) (.ref q) (.int 0) bv fC cU (.ref td)))) d (.dK (bI (.ref ma) (.ref pt) gv pe (.int S.aD) (.str S.side) (.str S.mark) (.ref q) (.int 0) bv fC .bw (.ref td)))) d=some (.dK (bI (.ref ma) (.ref pt) gv pe (.int S.aD) (.str S.side) (.str S.mark) (.ref q) (.int 0) bv fC .bw (.ref td))):=bf;have qY:(L2.upd (L2.upd (L2.upd HX q (.lst (ys.eraseIdx 0))) d (.dK (bI (.ref ma) (.ref pt) gv pe (.int S.aD) (.str S.side) (.str S.mark) (.ref q) (.int 0) bv fC cU (.ref td)))) d (.dK (bI (.ref ma) (.ref pt) gv pe (.int S.aD) (.str S.side) (.str S.mark) (.ref q) (.int 0) bv fC .bw (.ref td)))) q=some (.lst (ys.eraseIdx 0)):=by rw[aK dq.symm,aK dq.symm];exact bf
      refine⟨Z,⟨⟨.ref ma,.ref pt,gv,pe,bv,fC,.bw,eY,RD.v (tJ.trans vY) _ (iJ _ _ _ _ _) r1,?_,?_,?_,MK.v (y9.trans vY),.inl Z⟩,ys.eraseIdx 0,qY,?_⟩,λb o eb hb=>?_,vY,bY _ _ xF.symm qlm.symm (bX _ _ xF.symm xE)⟩
      ·rw[DE];exact wk (aU.v vY (aU.v AN S7))
      ·rw[DG];exact RD.v (tJ.trans vY) _ (gD _) r3
      ·show bE K _ pe (pD M.r M.f S.pc (topR S.aD sp) (fS M S) ((aL ns:Int)-S.dn) S.aW)
       rw[el];exact(Bx.v vX).v vY
      ·exact TF (aP.v (tJ.trans vY) _ ok.row.no rq)
      ·have ha:b≠d:=λz=>hb (by rw[z];simp)
       have hq:b≠q:=λz=>hb (by rw[z];simp);exact bY _ _ ha hq (bX _ _ ha (Dy _ _ eb (by rw[bU];exact ha)))
     ·have hl:left≠1:=λz=>h0 (cR z)
      have a7f:¬(fP M S ns sp).dn=aL ns:=λz=>hl (by have:S.dn+1=aL ns:=z;lia);have eN:fN ns (fP M S ns sp)=fP M S ns sp:=bu a7f;rw[eN]at DE DG⊢;refine⟨Z,⟨⟨.ref ma,.ref pt,gv,pe,bv,fC,cU,eX,RD.v tJ _ (iJ _ _ _ _ _) r1,?_,?_,?_,MK.v y9,.inr (show bE K HX cU (fS M S)from rRA.v y9)⟩,ys,De,aP.v tJ _ ok.row.no rq⟩,λb o eb hb=>?_,.refl,bX _ _ xF.symm xE⟩
      ·rw[DE];exact wk (aU.v AN S7)
      ·rw[DG];exact RD.v tJ _ (gD _) r3
      ·show bE K HX pe (pD M.r M.f S.pc (topR S.aD sp) (fS M S) ((aL ns:Int)-S.dn) S.aW)
       rw[el];exact Bx.v vX
      ·have ha:b≠d:=λz=>hb (by rw[z];simp)
       exact bX _ _ ha (Dy _ _ eb (by rw[bU];exact ha))
    ·rintro O HY ⟨rfl,CH⟩
     have RY:=CH.1;have bY:=CH.2.1;have vY:=CH.2.2.1;have dY:=CH.2.2.2;refine⟨_,Z,?_⟩;dsimp only[kM];refine km HY _ (y9.trans vY) dY λv rv=>?_;have t1:=aM.t1;have nB:Bd 2000 (mi M.r M.f S.pc (topR S.aD sp) (fS M S) left S.aW):=((QO (D:=D) aw aw l1 ok.pd (Mr.mono aw) (Rd.mono aw) ok.aW nh).bd (eV QM (eV tl aY))).mono aw;refine⟨_,Z,_,Z,_,Z,.ref ma,v,M.rs,M.r,M.f,M.j,M.t,_,Z,RD.v (tJ.trans vY) _ (iJ _ _ _ _ _) r1,rv,nB,t1.1,t1.2,Ic QE,λT T1 _ T2 T3 HZ sZ=>?_⟩;refine⟨_,Z,bZ Z,λtt HW nW=>k (.ref tt) HW ?_ (RY.same (One.ok ok aM (.line eo nh)).row.no (sZ.trans nW.same)) (λb o eb hb=>(sZ.trans nW.same) _ _ (bY b o eb hb))⟩;have etk:=Mq (E9 (Ic QE)) ⟨T1,T2,T3⟩;unfold nV ID oY;rw[el,etk];exact jb (aU.of nW.at') (cm (cV _) (cm (RD.mono (sZ.trans nW.same) _ (wk (aU.v (Bq.v.trans (AN.trans vY)) J8))) (cm (dw _) (cm (rv.go (sZ.trans nW.same)).rd cX))))
theorem aaI(q:Rat):PyData.eqv (cY q) (.tuple [.int 0,.int 1])=decide (q=0):=by have h:(q.num=0/\(q.den:Int)=1)↔q=0:=⟨λh=>Rat.num_eq_zero.mp h.1,λh=>by rw[h];exact⟨Z,Z⟩⟩;rw[oU,tj,<-h];simp[cY,PyData.eqv,PyData.eqvAll]
theorem a0c(d:ai)(S:bh):(cy d S).pc=S.pc/\(cy d S).aD=S.aD/\(cy d S).aW=S.aW:=by
 unfold cy;split
 ·split
  ·exact⟨Z,Z,Z⟩
  ·split<;>exact⟨Z,Z,Z⟩
 ·exact⟨Z,Z,Z⟩
theorem Qa{M:bL}{D:Nat}{S:bh}{d:ai}(ok:cj M D S)(eo:S.os[0]? =some none):∃gb,S.os=none::gb/\iP (cy d S)={cy d S with pl:=S.pl,ds:=S.ds.tail,os:=gb,dn:=0}/\dR (iP (cy d S))=dR S/\cM (iP (cy d S))=cM S:=by
 obtain⟨gb,iO⟩:∃gb,S.os=none::gb:=by cases e:S.os with |nil=>rw[e]at eo;simp at eo |cons a r=>rw[e]at eo;cases eo;exact⟨r,rfl⟩
 obtain⟨_,e1,e2,e3,e4⟩:=Bl ok.raw d;have Km:S.dn=0:=by
  rcases ok.dn with z|⟨yV,yx,e1,e2⟩
  ·exact z
  ·rw[eo]at e1;cases e1
 have eE:iP (cy d S)={cy d S with pl:=S.pl,ds:=S.ds.tail,os:=gb,dn:=0}:=by unfold iP;rw[e1,iO,e2,e4];rfl
 refine⟨gb,iO,eE,?_,?_⟩
 ·rw[eE]
  unfold dR;rw[bp Z,bp Km]
 ·rw[eE]
  unfold cM;rw[iO];rfl
theorem RS{c:TT}{ts rest:TS}{D:Ends}{O:L2.St}{H:Hp}(G:Hp->Prop)(hr:∀H',G H'->rest D O H')(h:(∀H',G H'->rest D O H')->Ep (Es c ts AX) rest D O H):Ep (Es c ts AX) rest D O H:=h hr
inductive W3(K:aa)(vs:List V)(H:Hp)(Q:VK):Prop |mk (d:_)(q:_)(td:_)(M:_)(D:_)(S:_)(n:_)(h0:vs=[.ref d,.int n])(h1:dC K H d q td M S)(h2:cj M D S)(h3:M.Ok)(h4:0<=n)(h5:n<=1000)(h6:∀l ys es S' H',H l=none->H' l=some (.lst ys)->aP K H' ys es->Run M S es S'->(es.length:Int)<=n->((es.length:Int)=n\/S'.os=[]\/Halt S'.pc S'.aW)->dC K H' d q td M S'->bc [d,q] H H'->Q (.ref l) H'):W3 K vs H Q
def N3(K:aa):Sp:=λvs H Q _=>W3 K vs H Q
theorem NW:bF ["_law_sim_here","_law_n","_law_found","_law_item"] ["_law_sim_here","_law_n"] (aZ Fq):=bP aY
theorem a3a(F:FA K mg "_law_sim_entries" Fq)(B:bV mg)(a8C:aI P w K mg base "_law_sim_step" 5 (MZ K)):aI P w K mg base "_law_sim_entries" 6 (N3 K):=by
 refine F.has NW (λvs H Q E h=>?_) (λ_ _ _ _ _ _=>dN λ_ _=>rfl) (λfa aQ A outer s H vs Q E hr h=>?_)
 ·obtain⟨d,q,td,M,D,S,n,rfl,_⟩:=h
  rfl
 ·obtain⟨d,q,td,M,D,S,n,rfl,R,ok,aM,n0,n1,k⟩:=h
  have dq:=R.ne;have nd:=NW.nd;refine⟨_,(aF (pS 2 nd (dj az)) (aF (nO iA (PW.pt (nN (ck kl (dJ K B (au (pv 2) az)) (pv 1) (bB _)) (qR (ck uh (dJ K B (au (cE hr (pv 0) ba) az)) aE (bB _))))) (aF (bN (PW.pt (nN (ck yQ (cE hr (pv 0) ba) je (bB _)) (qR (ck (cW K Z hr.units) (cE hr (pv 0) ba) (ek (au aE (au aE az))) (bB _))))) (aH (aX (pv 2))) bQ) (aF (pS 3 nd (px K (cE hr (pv 0) ba) aE)) (aH (bN (ck (cW K Z hr.units) (px K (pv 3) aE) ba (bB _)) (aH (hO (jq K Z (pv 2) (au (pf a8C hr (au (pv 0) az)) az)))) (aF (hJ (bN (ck (jv K Z hr.units) (px K (pv 3) aE) ba (bB _)) (aH (fU (fk hr.units) (pv 0) (px K (pv 3) aE) (px K (pv 3) aE) Z)) bQ)) (aF (hO (jq K Z (pv 2) (au (PY K Z (cE hr (pv 0) ba) (au aE az)) az))) (aH (fU (fk hr.units) (pv 0) ba je Z))))))))) (aH (aX (pv 2))))),?_⟩;refine⟨bZ Z,λl H1 nw=>?_⟩;obtain⟨mv,lv,gv,sv,bv,cv,rv,e,r1,r2,r3,r4,r5,r6⟩:=R.ob;obtain⟨ys,eq,rq⟩:=R.qu;have zU:d≠l:=λz=>by have:=nw.no;rw[<-z,e]at this;cases this
  have ql:q≠l:=λz=>by have:=nw.no;rw[<-z,eq]at this;cases this
  refine nc (λO H2=>∃es S' us w3,O=[some (.ref d),some (.int n),some (.ref l),w3]/\dC K H2 d q td M S'/\H2 l=some (.lst us)/\aP K H2 us es/\Run M S es S'/\(es.length:Int)<=n/\bc [d,q] H H2) (λ_ H2=>match H2 l with|some (.lst us)=>2000-us.length|_=>0) ?_ ?_ ?_
  ·exact⟨[],S,[],none,Z,R.same ok.row.no nw.same,nw.at',cX,.nil _,by simpa using n0,.of nw.same⟩
  ·rintro O H2 ⟨es,S',us,w3,rfl,R2,dl,rd,run,lP,bt⟩
   have jr:=run.ok ok aM;have lN:=run.no ok aM;have lu:=rd.length;obtain⟨mv,lv,gv,sv,bv,cv,rv,e,r1,r2,r3,r4,r5,r6⟩:=R2.ob;obtain⟨yq,eq2,rq⟩:=R2.qu;have wO:=rq.length;have zk:=jr.row.len;have kY:sizeLine=16777216:=by decide
   refine⟨_,Z,l,us,Z,.inl (aJ.of dl),_,Z,_,_,Z,Z,_,Z,?_⟩;show if decide ((us.length:Int)<n)=true then _ else _;by_cases c1:(us.length:Int)<n
   ·rw[cR c1]
    refine cf ?_;refine⟨_,Z,d,_,Z,dg e lT,q,yq,Z,.inl (aJ.of eq2),_,_,Z,Z,_,Z,?_⟩;cases jQ:S'.os with |nil=>have:yq=[]:=E3.mp (by rw[wO,zk,jQ];rfl);subst this;refine bK ?_;exact⟨_,Z,k l us es S' H2 nw.no dl rd run lP (.inr (.inl jQ)) R2 bt⟩ |cons o os=>
     have dX:S'.os≠[]:=by rw[jQ];simp
     have pM:0<yq.length:=by rw[wO,zk,jQ];simp
     rw[cR (show(0:Int)<(yq.length:Int) by lia)];refine cf ?_;have eo:S'.os[0]? =some o:=by rw[jQ];rfl
     refine RS (λH3=>¬Halt S'.pc S'.aW/\aG H2 H3) (λH3 g=>?_) (λzv=>?_)
     ·obtain⟨nh,s3⟩:=g
      have R3:=R2.same jr.row.no s3;have e3:=s3 _ _ e;have eq3:=s3 _ _ eq2;have xG:=s3 _ _ dl;have Ha:=aP.mono s3 _ rd;have UR:bc [d,q] H H3:=λb o' eb hb=>s3 _ _ (bt b o' eb hb);have dlq:l∉[d,q]:=by simp;exact⟨zU.symm,ql.symm⟩
      obtain⟨dd,ed⟩:∃dd,S'.ds[0]? =some dd:=⟨_,cu (show 0<S'.ds.length by lia)⟩;obtain⟨y,ey,ry⟩:=rq.get 0 ed;have it:=jr.row.it 0 dd _ ed eo;have Bw:=RD.mono s3 _ ry;refine⟨_,Z,d,_,Z,dg e3 lT,.inl ⟨q,_,0,y,Z,Z,aJ.of eq3,dB (gO 0) ey,?_⟩⟩;obtain⟨ya,wd,zs,rfl,zr,ew,sw⟩:=wV Bw it;refine⟨_,Z,.inr ⟨ya,_,0,.str wd,Z,Z,zr,dB (gO 0) Z,.inr ⟨_,_,cV _,cV _,sw,ux,_,Z,?_⟩⟩⟩;rw[ew];cases o with
      |some z=>
       obtain⟨ns,sp⟩:=z;refine cf ?_;refine⟨_,Z,.inl ⟨Z,_,aJ.of xG⟩,_,Z,d,q,td,M,D,S',ns,sp,Z,R3,jr,aM,eo,nh,λv H4 cU R4 b4=>?_⟩;have Ei:=R3.v b4;have kC:=b4 _ _ xG dlq;refine⟨l,us,_,Z,Z,kC,aw,?_⟩;have vu:bW H4 (L2.upd H4 l (.lst (us++[v]))):=.upd kC trivial;have one:One M S' (nV M S' ns sp) (fN ns (fP M S' ns sp)):=.line eo nh;have fj:=One.ok jr aM one;refine⟨⟨es++[nV M S' ns sp],_,us++[v],_,Z,R4.go fj.row.no vu (λo' df=>by rw[aK zU];exact df) (λo' df=>by rw[aK ql];exact df),bf,(aP.v (Ei.trans vu) _ lN Ha).append (cm (RD.v vu _ (Eu _ _ _) cU) cX),run.snoc one,by rw[fy];show((es.length+1:Nat):Int)<=n;lia,λb o' eb hb=>?_⟩,?_⟩
       ·have eQ:b≠l:=λz=>by have:=nw.no;rw[<-z,eb]at this;cases this
        rw[aK eQ];exact b4 _ _ (UR _ _ eb hb) hb
       ·show(match(L2.upd H4 l (.lst (us++[v]))) l with|some (.lst us)=>2000-us.length|_=>0)<(match H2 l with|some (.lst us)=>2000-us.length|_=>0)
        rw[bf,dl];show 2000-(us++[v]).length<2000-us.length;rw[fy];show 2000-(us.length+1)<2000-us.length
        lia |none=>
       refine bK ?_;have ip:=jr.rw 0 dd eo ed;have tW:SeqAt.shaped (.str "wait")=true:=by decide+kernel
       have eqT:∀(x y:Str),PyData.eqv (.str x) (.str y)=decide (x=y):=λx y=>by show(x==y)=decide (x=y);rw[oU];simp
       refine⟨λO H4=>O=[some (.ref d),some (.int n),some (.ref l),some (.ref ya)]/\bc [d] H3 H4/\H4 d=some (.dK (bI mv lv gv sv (.int S'.aD) (.str (cy dd S').side) (.str (cy dd S').mark) (.ref q) (.int S'.dn) bv cv rv (.ref td))),?_,?_⟩
       ·rcases ip with⟨m,rfl,_⟩|⟨w',s',rfl,hw,_⟩
        ·obtain⟨Yh,xs,ea,h1,h2⟩:=Bw.fg
         cases ea;obtain⟨x1,rr,rfl,e1,h2⟩:=h2.cons_inv;cases e1.str_inv;refine⟨_,Z,.inr ⟨ya,_,0,.str "wait",Z,Z,h1,dB (gO 0) Z,.inr ⟨_,_,cV _,cV _,tW,tW,_,Z,?_⟩⟩⟩;rw[eqT,cR rfl];exact bK ⟨Z,bc.refl _ _,e3⟩
        ·obtain⟨Yh,xs,ea,h1,h2⟩:=Bw.fg
         cases ea;obtain⟨x1,rr,rfl,e1,h2⟩:=h2.cons_inv;obtain⟨x2,rr,rfl,e2,h2⟩:=h2.cons_inv;cases h2.nil_inv;cases e1.str_inv;cases e2.str_inv;have sz:SeqAt.shaped (.str w')=true:=by rcases hw with rfl|rfl<;>decide+kernel
         have nw':¬w'="wait":=by rcases hw with rfl|rfl<;>decide+kernel
         refine⟨_,Z,.inr ⟨ya,_,0,.str w',Z,Z,h1,dB (gO 0) Z,.inr ⟨_,_,cV _,cV _,sz,tW,_,Z,?_⟩⟩⟩;rw[eqT,fb nw'];refine cf ?_;rcases hw with rfl|rfl
         ·refine⟨_,Z,.inr ⟨ya,_,1,.str s',Z,Z,h1,dB aB Z,_,Z,_,Z,.inr ⟨ya,_,0,.str "tool",Z,Z,h1,dB (gO 0) Z,d,_,Z,dp e3 a2t iU,?_⟩⟩⟩
          exact⟨Z,sF (by simp),bf⟩
         ·refine⟨_,Z,.inr ⟨ya,_,1,.str s',Z,Z,h1,dB aB Z,_,Z,_,Z,.inr ⟨ya,_,0,.str "mark",Z,Z,h1,dB (gO 0) Z,d,_,Z,dp e3 a2x iU,?_⟩⟩⟩
          exact⟨Z,sF (by simp),bf⟩
       rintro O H4 ⟨rfl,b4,e4⟩;have Ei:bW H3 H4:=b4.v λx hx o' df=>by rw[bU]at hx;rw[hx,e3]at df;cases df;trivial
       have eq4:=b4 _ _ eq3 (by rw[bU];exact dq.symm);have kC:=b4 _ _ xG (by rw[bU];exact zU.symm);have uz:seqIndex? 0 yq.length=some 0:=by unfold seqIndex?;simp[pM]
       have dl5:(L2.upd H4 q (.lst (yq.eraseIdx 0))) l=some (.lst us):=by rw[aK ql.symm];exact kC
       refine⟨_,Z,.inl ⟨Z,_,aJ.of kC⟩,_,Z,d,_,Z,dg e4 lT,.inl ⟨Z,_,aJ.of eq4⟩,q,yq,0,0,.ref ya,Z,Z,eq4,aB,aB,uz,ey,?_⟩;refine⟨l,us,_,Z,Z,dl5,aw,?_⟩;have e6:(L2.upd (L2.upd H4 q (.lst (yq.eraseIdx 0))) l (.lst (us++[.ref ya]))) d=some (.dK (bI mv lv gv sv (.int S'.aD) (.str (cy dd S').side) (.str (cy dd S').mark) (.ref q) (.int S'.dn) bv cv rv (.ref td))):=by rw[aK zU,aK dq];exact e4
       refine⟨_,Z,d,_,Z,dp e6 yP iU,?_⟩;have Me:bW H4 (L2.upd (L2.upd (L2.upd H4 q (.lst (yq.eraseIdx 0))) l (.lst (us++[.ref ya]))) d (.dK (bI mv lv gv sv (.int S'.aD) (.str (cy dd S').side) (.str (cy dd S').mark) (.ref q) (.int S'.dn) bv cv .bw (.ref td)))):=λb o nb eb=>by
        have hb:b≠d:=λz=>by rw[z,e4]at eb;cases eb;exact nb trivial
        have hq:b≠q:=λz=>by rw[z,eq4]at eb;cases eb;exact nb trivial
        have eQ:b≠l:=λz=>by rw[z,kC]at eb;cases eb;exact nb trivial
        rw[aK hb,aK eQ,aK hq];exact eb
       have b7:∀b o,b≠d->b≠q->b≠l->H4 b=some o->(L2.upd (L2.upd (L2.upd H4 q (.lst (yq.eraseIdx 0))) l (.lst (us++[.ref ya]))) d (.dK (bI mv lv gv sv (.int S'.aD) (.str (cy dd S').side) (.str (cy dd S').mark) (.ref q) (.int S'.dn) bv cv .bw (.ref td)))) b=some o:=λb o hb hq eQ eb=>by rw[aK hb,aK eQ,aK hq];exact eb
       have e7:(L2.upd (L2.upd (L2.upd H4 q (.lst (yq.eraseIdx 0))) l (.lst (us++[.ref ya]))) d (.dK (bI mv lv gv sv (.int S'.aD) (.str (cy dd S').side) (.str (cy dd S').mark) (.ref q) (.int S'.dn) bv cv .bw (.ref td)))) d=some (.dK (bI mv lv gv sv (.int S'.aD) (.str (cy dd S').side) (.str (cy dd S').mark) (.ref q) (.int S'.dn) bv cv .bw (.ref td))):=bf;have q7:(L2.upd (L2.upd (L2.upd H4 q (.lst (yq.eraseIdx 0))) l (.lst (us++[.ref ya]))) d (.dK (bI mv lv gv sv (.int S'.aD) (.str (cy dd S').side) (.str (cy dd S').mark) (.ref q) (.int S'.dn) bv cv .bw (.ref td)))) q=some (.lst (yq.eraseIdx 0)):=by rw[aK dq.symm,aK ql];exact bf
       have l7:(L2.upd (L2.upd (L2.upd H4 q (.lst (yq.eraseIdx 0))) l (.lst (us++[.ref ya]))) d (.dK (bI mv lv gv sv (.int S'.aD) (.str (cy dd S').side) (.str (cy dd S').mark) (.ref q) (.int S'.dn) bv cv .bw (.ref td)))) l=some (.lst (us++[.ref ya])):=by rw[aK zU.symm];exact bf
       generalize(L2.upd (L2.upd (L2.upd H4 q (.lst (yq.eraseIdx 0))) l (.lst (us++[.ref ya]))) d (.dK (bI mv lv gv sv (.int S'.aD) (.str (cy dd S').side) (.str (cy dd S').mark) (.ref q) (.int S'.dn) bv cv .bw (.ref td))))=H7 at Me b7 e7 q7 l7⊢;have Mf:=Ei.trans Me;have tL:=s3.v.trans Mf;obtain⟨gb,iO,eE,ePl,eGo⟩:=Qa (d:=dd) jr eo;have fx:=a0c dd S';have one:One M S' dd (iP (cy dd S')):=.ip eo ed nh;have Km:S'.dn=0:=by
        rcases jr.dn with z|⟨yV,yx,e1,e2⟩
        ·exact z
        ·rw[eo]at e1;cases e1
       have nod:fJ dd=true:=iH.mp jr.row.no _ (gX ed);refine⟨⟨es++[dd],iP (cy dd S'),us++[.ref ya],_,Z,?_,l7,(aP.v tL _ lN rd).append (cm (RD.v Mf _ nod Bw) cX),run.snoc one,by rw[fy];show((es.length+1:Nat):Int)<=n;lia,λb o' eb hb=>?_⟩,?_⟩
       ·refine⟨⟨mv,lv,gv,sv,bv,cv,.bw,?_,RD.v tL _ (iJ _ _ _ _ _) r1,?_,?_,?_,?_,.inl Z⟩,yq.eraseIdx 0,q7,?_⟩
        ·rw[eE]
         show H7 d=some (.dK (bI mv lv gv sv (.int (cy dd S').aD) (.str (cy dd S').side) (.str (cy dd S').mark) (.ref q) (.int 0) bv cv .bw (.ref td)));rw[fx.2.1,e7,Km];rfl
        ·rw[ePl];exact RD.v tL _ (gD _) r2
        ·rw[eGo];exact RD.v tL _ (gD _) r3
        ·rw[eE]
         show bE K H7 sv (cy dd S').pc;rw[fx.1];exact r4.v tL
        ·rw[eE]
         show vo K H7 bv cv (cy dd S').aW;rw[fx.2.2];exact r5.v tL
        ·rw[eE]
         exact TF (aP.v tL _ jr.row.no rq)
       ·have eQ:b≠l:=λz=>by have:=nw.no;rw[<-z,eb]at this;cases this
        have xl:b≠d:=λz=>hb (by rw[z];simp);have kx:b≠q:=λz=>hb (by rw[z];simp);exact b7 _ _ xl kx eQ (b4 _ _ (UR _ _ eb hb) (by rw[bU];exact xl))
       ·show(match H7 l with|some (.lst us)=>2000-us.length|_=>0)<(match H2 l with|some (.lst us)=>2000-us.length|_=>0)
        rw[l7,dl];show 2000-(us++[V.ref ya]).length<2000-us.length;rw[fy];show 2000-(us.length+1)<2000-us.length
        lia
     ·refine⟨_,Z,d,_,Z,dg e xq,Z,_,Z,?_⟩
      cases hs:S'.aW with |none=>have jc:=r5;rw[hs]at jc;obtain⟨rfl,_⟩:=jc;refine bK ?_;exact zv H2 ⟨λh=>h.1 hs,aG.refl _⟩ |some z=>
       obtain⟨sq,st,gn⟩:=z;have jc:=r5;rw[hs]at jc;obtain⟨ta,su,rfl,_⟩:=jc;refine cf ?_;refine⟨_,Z,d,_,Z,dg e rV,bZ Z,λt H3 n3=>?_⟩;have a09:SeqAt.shaped (.tuple [.int 0,.int 1])=true:=by decide+kernel
       refine .inr ⟨_,_,(r4.go n3.same).rd,jb (aU.of n3.at') (cm (dw _) (cm (dw _) cX)),a1t _,a09,_,Z,?_⟩;rw[aaI];by_cases c3:S'.pc=0
       ·rw[cR c3]
        refine cf ?_;have R3:=R2.same jr.row.no n3.same;exact⟨_,Z,k l us es S' H3 nw.no (n3.same _ _ dl) (aP.mono n3.same _ rd) run lP (.inr (.inr ⟨by rw[hs];simp,c3⟩)) R3 λb o' eb hb=>n3.same _ _ (bt b o' eb hb)⟩
       ·rw[fb c3]
        refine bK ?_;exact zv H3 ⟨λh=>c3 h.2,n3.same⟩
   ·rw[fb c1]
    refine bK ?_;exact⟨_,Z,k l us es S' H2 nw.no dl rd run lP (.inl aw) R2 bt⟩
  ·rintro O H6 Q1 Q2 hq ⟨v1,f1,l',kh,f2,f3,v2,f4,i1,i2,f5,f6,b1,f7,h⟩
   refine⟨v1,f1,l',kh,f2,f3,v2,f4,i1,i2,f5,f6,b1,f7,zp ?_ (hq _ _) h⟩;rintro⟨v3,f8,a',k',f9,zQ,p',y',zP,K8,i3,i4,K7,K6,b2,zO,h⟩;exact⟨v3,f8,a',k',f9,zQ,p',y',zP,K8,i3,i4,K7,K6,b2,zO,hq _ _ h⟩
end
end Lw
set_option maxHeartbeats 1000000
namespace Lw
open PySem PySem.Spec PyProof.Rows L2 Rt Ln
section
variable {w:World}{mg:Str->Option Value}{base:Heap}
theorem Ml:j8 "tuple" "list"=false:=by decide
theorem Mm:j8 "list" "tuple"=false:=by decide
theorem Va(n:Nat):(List.replicate n true).all id=true:=by induction n with |zero=>rfl |succ n ih=>rw[List.replicate_succ,LQ,ih];rfl
def acV(D:ai):Prop:=(∃z,D= .int z)\/∃s,D= .str s/\SeqAt.shaped (.str s)=true/\PyData.eqv (.str s) (.str s)=true
def Nx(A:ai->Prop)(D:ai):Prop:=acV D\/∃ds,(D= .tuple ds\/D= .list ds)/\ds.length<=100000/\∀x∈ds,A x
inductive WS(A:ai->Prop)(K:aa)(vs:List V)(H:Hp)(Q:VK):Prop |mk (v:_)(u:_)(D:_)(h0:vs=[v,u])(h1:RD K H v D)(h2:RD K H u D)(h3:A D)(h4:∀H',aG H H'->Q (.bl true) H'):WS A K vs H Q
def yu(A:ai->Prop)(K:aa):Sp:=λvs H Q _=>WS A K vs H Q
theorem EW:bF ["_law_found","_law_due"] ["_law_found","_law_due"] (aZ Br):=bP aY
theorem a4g(F:FA K mg "_law_alike" Br)(B:bV mg):aI P w K mg base "_law_alike" 1 (yu (λ_=>False) K):=by
 refine F.has EW (λvs H Q E h=>?_) (λ_ _ _ _ _ _=>dN λ_ _=>rfl) (λf aQ A outer s H vs Q E hr h=>?_)
 ·obtain⟨v,u,D,rfl,_,_,h,_⟩:=h
  exact h.elim
 ·obtain⟨v,u,D,rfl,_,_,h,_⟩:=h
  exact h.elim
theorem BI{A:ai->Prop}{n:Nat}(hn:1<=n)(F:FA K mg "_law_alike" Br)(B:bV mg)(CP:aI P w K mg base "_law_number" 1 (vR K))(jS:aI P w K mg base "_law_alike" n (yu A K)):aI P w K mg base "_law_alike" (n+1) (yu (Nx A) K):=by
 refine F.has EW (λvs H Q E h=>?_) (λ_ _ _ _ _ _=>dN λ_ _=>rfl) (λf aQ A' outer s H vs Q E hr h=>?_)
 ·obtain⟨v,u,D,rfl,_⟩:=h
  rfl
 ·obtain⟨v,u,D,rfl,rv,ru,hD,k⟩:=h
  have nd:=EW.nd;rcases hD with(⟨z,rfl⟩|⟨z,rfl,sh,eq⟩)|⟨ds,rfl|rfl,hz,hA⟩
  ·refine⟨_,(aF (bN (cP (dS K B (au (pv 1) (au (ek (au (dk (x:="list") (v:=.ty "list") Z (B.at "list") lg rfl) (au (dk (x:="tuple") (v:=.ty "tuple") rfl (B.at "tuple") fY rfl) az))) az)))) (aF (bN (PW.pt (kQ (ck (jv K Z hr.units) (dS K B (au (pv 1) (au (dk (x:="list") (v:=.ty "list") Z (B.at "list") lg rfl) az))) (dS K B (au (pv 0) (au (dk (x:="list") (v:=.ty "list") rfl (B.at "list") lg rfl) az))) (bB _)) (lF (ck (jv K rfl hr.units) (dS K B (au (pv 1) (au (dk (x:="tuple") (v:=.ty "tuple") rfl (B.at "tuple") fY rfl) az))) (dS K B (au (pv 0) (au (dk (x:="tuple") (v:=.ty "tuple") rfl (B.at "tuple") fY rfl) az))) (bB _))))) (aH (aX ij)) bQ) (aH (aX (iV (fH (cW K Z hr.units) (dJ K B (au (pv 0) az)) (dJ K B (au (pv 1) az)) (bB _)) (jd (dG (x:="all") (qk K Z Z) Z (B.at "all") tD (au (gE (N:=["_law_one","_law_two"]) (js:=[none,none]) rfl rfl rfl (kj K rfl false false rfl (B.at "zip") (au (pv 0) (au (pv 1) az))) (λ_ _ _ _ _=>(eK K rfl (n:=2) rfl (cg (bJ 0 (gc aB)) (cg (bJ 1 (gc aB)) eG)))) (λ_ _ _ _ _=>fT) (λ_ _ _ _ _=>(pj jS (hr.mono aw) rfl (au (pv 0) (au (pv 1) az))))) az))))))) bQ) (aF (bN (cP (dS K B (au (pv 1) (au (dk (x:="str") (v:=.ty "str") Z (B.at "str") qB rfl) az)))) (aH (aX (iV (dS K B (au (pv 0) (au (dk (x:="str") (v:=.ty "str") Z (B.at "str") qB rfl) az))) (jd (fH (cW K rfl hr.units) (pv 0) (pv 1) (bB _)))))) bQ) (aH (aX (iV (pj CP (hr.mono aw) Z (au (pv 0) az)) (jd (fH (cW K Z hr.units) (pv 0) (pv 1) (bB _)))))))),?_⟩
   cases rv.int_inv;cases ru.int_inv;refine⟨_,Z,bZ Z,λtt H1 n1=>.inr ⟨_,"int",tt,["list","tuple"],_,Z,n1.at',Z,aB,Z,_,Z,bK ?_⟩⟩;refine⟨_,Z,.inl ⟨_,"int","str",_,Z,Z,aB,Z,_,Z,bK ?_⟩⟩;refine⟨_,Z,_,"int",Z,Z,_,Z,cf ?_⟩;refine⟨_,Z,_,Z,.inl ⟨_,_,Z,Z,?_⟩⟩;show Q (.bl (decide (z=z))) H1;rw[cR rfl];exact k H1 n1.same
  ·refine⟨_,(aF (bN (cP (dS K B (au (pv 1) (au (ek (au (dk (x:="list") (v:=.ty "list") Z (B.at "list") lg rfl) (au (dk (x:="tuple") (v:=.ty "tuple") rfl (B.at "tuple") fY rfl) az))) az)))) (aF (bN (PW.pt (kQ (ck (jv K Z hr.units) (dS K B (au (pv 1) (au (dk (x:="list") (v:=.ty "list") Z (B.at "list") lg rfl) az))) (dS K B (au (pv 0) (au (dk (x:="list") (v:=.ty "list") rfl (B.at "list") lg rfl) az))) (bB _)) (lF (ck (jv K rfl hr.units) (dS K B (au (pv 1) (au (dk (x:="tuple") (v:=.ty "tuple") rfl (B.at "tuple") fY rfl) az))) (dS K B (au (pv 0) (au (dk (x:="tuple") (v:=.ty "tuple") rfl (B.at "tuple") fY rfl) az))) (bB _))))) (aH (aX ij)) bQ) (aH (aX (iV (fH (cW K Z hr.units) (dJ K B (au (pv 0) az)) (dJ K B (au (pv 1) az)) (bB _)) (jd (dG (x:="all") (qk K Z Z) Z (B.at "all") tD (au (gE (N:=["_law_one","_law_two"]) (js:=[none,none]) rfl rfl rfl (kj K rfl false false rfl (B.at "zip") (au (pv 0) (au (pv 1) az))) (λ_ _ _ _ _=>(eK K rfl (n:=2) rfl (cg (bJ 0 (gc aB)) (cg (bJ 1 (gc aB)) eG)))) (λ_ _ _ _ _=>fT) (λ_ _ _ _ _=>(pj jS (hr.mono aw) rfl (au (pv 0) (au (pv 1) az))))) az))))))) bQ) (aF (bN (cP (dS K B (au (pv 1) (au (dk (x:="str") (v:=.ty "str") Z (B.at "str") qB rfl) az)))) (aH (aX (iV (dS K B (au (pv 0) (au (dk (x:="str") (v:=.ty "str") Z (B.at "str") qB rfl) az))) (jd (fH (cW K rfl hr.units) (pv 0) (pv 1) (bB _)))))) bQ) (aH (aX (iV (pj CP (hr.mono aw) Z (au (pv 0) az)) (jd (fH (cW K Z hr.units) (pv 0) (pv 1) (bB _)))))))),?_⟩
   cases rv.str_inv;cases ru.str_inv;refine⟨_,Z,bZ Z,λtt H1 n1=>.inr ⟨_,"str",tt,["list","tuple"],_,Z,n1.at',Z,aB,Z,_,Z,bK ?_⟩⟩;refine⟨_,Z,.inl ⟨_,"str","str",_,Z,Z,aB,Z,_,Z,cf ?_⟩⟩;refine⟨_,Z,.inl ⟨_,"str","str",_,Z,Z,aB,Z,_,Z,cf ?_⟩⟩;refine⟨_,Z,_,Z,.inr ⟨_,_,cV _,cV _,sh,sh,?_⟩⟩;rw[eq];exact k H1 n1.same
  ·refine⟨_,(aF (bN (cP (dS K B (au (pv 1) (au (ek (au (dk (x:="list") (v:=.ty "list") Z (B.at "list") lg rfl) (au (dk (x:="tuple") (v:=.ty "tuple") rfl (B.at "tuple") fY rfl) az))) az)))) (aF (bN (PW.pt (kQ (ck (jv K Z hr.units) (dS K B (au (pv 1) (au (dk (x:="list") (v:=.ty "list") Z (B.at "list") lg rfl) az))) (dS K B (au (pv 0) (au (dk (x:="list") (v:=.ty "list") rfl (B.at "list") lg rfl) az))) (bB _)) (lF (ck (jv K rfl hr.units) (dS K B (au (pv 1) (au (dk (x:="tuple") (v:=.ty "tuple") rfl (B.at "tuple") fY rfl) az))) (dS K B (au (pv 0) (au (dk (x:="tuple") (v:=.ty "tuple") rfl (B.at "tuple") fY rfl) az))) (bB _))))) (aH (aX ij)) bQ) (aH (aX (iV (fH (cW K Z hr.units) (dJ K B (au (pv 0) az)) (dJ K B (au (pv 1) az)) (bB _)) (jd (dG (x:="all") (qk K Z Z) Z (B.at "all") tD (au (gE (N:=["_law_one","_law_two"]) (js:=[none,none]) rfl rfl rfl (kj K rfl false false rfl (B.at "zip") (au (pv 0) (au (pv 1) az))) (λ_ _ _ _ _=>(eK K rfl (n:=2) rfl (cg (bJ 0 (gc aB)) (cg (bJ 1 (gc aB)) eG)))) (λ_ _ _ _ _=>fT) (λ_ _ _ _ _=>(pj jS (hr.mono aw) rfl (au (pv 0) (au (pv 1) az))))) az))))))) bQ) (aF (bN (cP (dS K B (au (pv 1) (au (dk (x:="str") (v:=.ty "str") Z (B.at "str") qB rfl) az)))) (aH (aX (iV (dS K B (au (pv 0) (au (dk (x:="str") (v:=.ty "str") Z (B.at "str") qB rfl) az))) (jd (fH (cW K rfl hr.units) (pv 0) (pv 1) (bB _)))))) bQ) (aH (aX (iV (pj CP (hr.mono aw) Z (au (pv 0) az)) (jd (fH (cW K Z hr.units) (pv 0) (pv 1) (bB _)))))))),?_⟩
   obtain⟨va,xs,rfl,hV,iM⟩:=rv.fg;obtain⟨ua,ys,rfl,hU,pK⟩:=ru.fg;have lx:=iM.length;have ly:=pK.length;refine⟨_,Z,bZ Z,λtt H1 n1=>.inr ⟨_,"tuple",tt,["list","tuple"],_,Z,n1.at',.inr ⟨Z,_,hU.go n1.same⟩,aB,Z,_,Z,cf ?_⟩⟩;have s1:=n1.same;refine⟨_,Z,.inl ⟨_,"tuple","list",_,Z,.inr ⟨Z,_,hU.go s1⟩,aB,Ml,_,Z,.inl ⟨_,"tuple","list",_,Z,.inr ⟨Z,_,hV.go s1⟩,aB,Ml,.inr ⟨.bool false,.bool false,md _,md _,Z,Z,_,Z,bK ?_⟩⟩⟩⟩;refine⟨_,Z,.inl ⟨_,"tuple","tuple",_,Z,.inr ⟨Z,_,hU.go s1⟩,aB,Mj,_,Z,.inl ⟨_,"tuple","tuple",_,Z,.inr ⟨Z,_,hV.go s1⟩,aB,Mj,.inr ⟨.bool true,.bool true,md _,md _,Z,Z,_,Z,bK ?_⟩⟩⟩⟩;refine⟨_,Z,va,_,Z,.inr (hV.go s1),_,Z,ua,_,Z,.inr (hU.go s1),.inl ⟨_,_,Z,Z,_,Z,?_⟩⟩;rw[cR (show(xs.length:Int)=(ys.length:Int) by lia)];refine cf ?_;refine⟨_,Z,_,Z,va,ua,Z,⟨_,hV.go s1⟩,⟨_,hU.go s1⟩,λD2 H2 n2=>?_⟩;refine Uv (K:=K) (b1:=false) (b2:=false) (xs:=xs) (ys:=ys) (bs:=List.replicate ds.length true) _ Z (hV.go s1) (hU.go s1) n2 (by rw[E2];lia) (by rw[E2];lia) ?_ ?_
   ·intro q x y b H3 Q' ex ey eb s3 hq
    have Kh:b=true:=by
     rw[Y0]at eb;split at eb
     ·exact(eg eb).symm
     ·cases eb
    subst Kh;have dc:=s1.trans s3;obtain⟨d1,e1,r1⟩:=iM.get' q ex;obtain⟨d2,e2,r2⟩:=pK.get' q ey;rw[e1]at e2;cases e2;exact⟨_,Z,_,Z,x,y,d1,Z,RD.mono dc _ r1,RD.mono dc _ r2,hA d1 (gX e1),λH4 s4=>hq H4 s4⟩
   ·intro H3 s3 d3
    refine⟨D2,_,Z,aJ.of d3,?_⟩;rw[Va];exact k H3 (s1.trans s3)
  ·refine⟨_,(aF (bN (cP (dS K B (au (pv 1) (au (ek (au (dk (x:="list") (v:=.ty "list") Z (B.at "list") lg rfl) (au (dk (x:="tuple") (v:=.ty "tuple") rfl (B.at "tuple") fY rfl) az))) az)))) (aF (bN (PW.pt (kQ (ck (jv K Z hr.units) (dS K B (au (pv 1) (au (dk (x:="list") (v:=.ty "list") Z (B.at "list") lg rfl) az))) (dS K B (au (pv 0) (au (dk (x:="list") (v:=.ty "list") rfl (B.at "list") lg rfl) az))) (bB _)) (lF (ck (jv K rfl hr.units) (dS K B (au (pv 1) (au (dk (x:="tuple") (v:=.ty "tuple") rfl (B.at "tuple") fY rfl) az))) (dS K B (au (pv 0) (au (dk (x:="tuple") (v:=.ty "tuple") rfl (B.at "tuple") fY rfl) az))) (bB _))))) (aH (aX ij)) bQ) (aH (aX (iV (fH (cW K Z hr.units) (dJ K B (au (pv 0) az)) (dJ K B (au (pv 1) az)) (bB _)) (jd (dG (x:="all") (qk K Z Z) Z (B.at "all") tD (au (gE (N:=["_law_one","_law_two"]) (js:=[none,none]) rfl rfl rfl (kj K rfl true true rfl (B.at "zip") (au (pv 0) (au (pv 1) az))) (λ_ _ _ _ _=>(eK K rfl (n:=2) rfl (cg (bJ 0 (gc aB)) (cg (bJ 1 (gc aB)) eG)))) (λ_ _ _ _ _=>fT) (λ_ _ _ _ _=>(pj jS (hr.mono aw) rfl (au (pv 0) (au (pv 1) az))))) az))))))) bQ) (aF (bN (cP (dS K B (au (pv 1) (au (dk (x:="str") (v:=.ty "str") Z (B.at "str") qB rfl) az)))) (aH (aX (iV (dS K B (au (pv 0) (au (dk (x:="str") (v:=.ty "str") Z (B.at "str") qB rfl) az))) (jd (fH (cW K rfl hr.units) (pv 0) (pv 1) (bB _)))))) bQ) (aH (aX (iV (pj CP (hr.mono aw) Z (au (pv 0) az)) (jd (fH (cW K Z hr.units) (pv 0) (pv 1) (bB _)))))))),?_⟩
   obtain⟨va,xs,rfl,hV,iM⟩:=rv.lst_inv;obtain⟨ua,ys,rfl,hU,pK⟩:=ru.lst_inv;have lx:=iM.length;have ly:=pK.length;refine⟨_,Z,bZ Z,λtt H1 n1=>.inr ⟨_,"list",tt,["list","tuple"],_,Z,n1.at',.inl ⟨Z,_,hU.go n1.same⟩,aB,Z,_,Z,cf ?_⟩⟩;have s1:=n1.same;refine⟨_,Z,.inl ⟨_,"list","list",_,Z,.inl ⟨Z,_,hU.go s1⟩,aB,Mn,_,Z,.inl ⟨_,"list","list",_,Z,.inl ⟨Z,_,hV.go s1⟩,aB,Mn,.inr ⟨.bool true,.bool true,md _,md _,Z,Z,_,Z,bK ?_⟩⟩⟩⟩;refine⟨_,Z,.inl ⟨_,"list","tuple",_,Z,.inl ⟨Z,_,hU.go s1⟩,aB,Mm,_,Z,.inl ⟨_,"list","tuple",_,Z,.inl ⟨Z,_,hV.go s1⟩,aB,Mm,.inr ⟨.bool false,.bool false,md _,md _,Z,Z,_,Z,bK ?_⟩⟩⟩⟩;refine⟨_,Z,va,_,Z,.inl (hV.go s1),_,Z,ua,_,Z,.inl (hU.go s1),.inl ⟨_,_,Z,Z,_,Z,?_⟩⟩;rw[cR (show(xs.length:Int)=(ys.length:Int) by lia)];refine cf ?_;refine⟨_,Z,_,Z,va,ua,Z,⟨_,hV.go s1⟩,⟨_,hU.go s1⟩,λD2 H2 n2=>?_⟩;refine Uv (K:=K) (b1:=true) (b2:=true) (xs:=xs) (ys:=ys) (bs:=List.replicate ds.length true) _ Z (hV.go s1) (hU.go s1) n2 (by rw[E2];lia) (by rw[E2];lia) ?_ ?_
   ·intro q x y b H3 Q' ex ey eb s3 hq
    have Kh:b=true:=by
     rw[Y0]at eb;split at eb
     ·exact(eg eb).symm
     ·cases eb
    subst Kh;have dc:=s1.trans s3;obtain⟨d1,e1,r1⟩:=iM.get' q ex;obtain⟨d2,e2,r2⟩:=pK.get' q ey;rw[e1]at e2;cases e2;exact⟨_,Z,_,Z,x,y,d1,Z,RD.mono dc _ r1,RD.mono dc _ r2,hA d1 (gX e1),λH4 s4=>hq H4 s4⟩
   ·intro H3 s3 d3
    refine⟨D2,_,Z,aJ.of d3,?_⟩;rw[Va];exact k H3 (s1.trans s3)
end
end Lw
set_option maxHeartbeats 4000000
namespace Lw
open PySem PySem.Spec PyProof.Rows L2 Rt Ln Cn Pn Wk Rn
open Ow (topR cornO mnO betR atO ownF leadF ownL OkI OkIs)
section
variable {w:World}{mg:Str->Option Value}{base:Heap}
theorem mh{z:Str}{n:Nat}(h:SeqAt.shaped (.str z)=true):dP n (.str z):=⟨XG h,gj _⟩
theorem vU{z:Str}(h:z="step"\/z="wait"\/z="tool"\/z="mark"):SeqAt.shaped (.str z)=true:=by rcases h with rfl|rfl|rfl|rfl<;>decide+kernel
abbrev A0:ai->Prop:=λ_=>False
theorem kn{A:ai->Prop}(z:Int):Nx A (.int z):=.inl (.inl ⟨z,Z⟩)
theorem pC{A:ai->Prop}{s:Str}{n:Nat}(hn:n<=8)(h:dP n (.str s)):Nx A (.str s):=.inl (.inr ⟨s,Z,h.shaped aw,h.refl⟩)
theorem ZN(ti:Int)(zs:List Int)(q:Rat)(hz:zs.length<=1000):Nx (Nx (Nx A0)) (oY ti zs q):=by
 refine .inr ⟨_,.inl Z,(by simp),λx hx=>?_⟩;simp only[bM,cL,dv]at hx;rcases hx with rfl|rfl|rfl|rfl
 ·exact pC (n:=0) aB (mh (vU (.inl Z)))
 ·refine .inr ⟨_,.inl Z,by rw[cB];lia,λy hy=>?_⟩
  obtain⟨z,_,rfl⟩:=ka.mp hy;exact kn z
 ·exact kn _
 ·refine .inr ⟨_,.inl Z,(by simp),λy hy=>?_⟩
  simp only[bM,cL,dv]at hy;rcases hy with rfl|rfl<;>exact kn _
theorem Qc{d:ai}(h:qq d):Nx (Nx (Nx A0)) d:=by
 rcases h with⟨n,rfl,_⟩|⟨w,s,rfl,hw,h,_⟩
 ·refine .inr ⟨_,.inl Z,(by simp),λx hx=>?_⟩
  simp only[bM,cL,dv]at hx;rcases hx with rfl|rfl
  ·exact pC (n:=0) aB (mh (vU (.inr (.inl Z))))
  ·exact kn _
 ·refine .inr ⟨_,.inl Z,(by simp),λx hx=>?_⟩
  simp only[bM,cL,dv]at hx;rcases hx with rfl|rfl
  ·exact pC (n:=0) aB (mh (vU (.inr (.inr hw))))
  ·exact pC aB h
theorem a5H{n:Nat}{ns:List Int}{sp:Int}(h:fw n 100 ns)(hn:n<=1000):Nx (Nx (Nx A0)) (iW ns sp):=by
 refine .inr ⟨_,.inl Z,(by simp),λx hx=>?_⟩;simp only[bM,cL,dv]at hx;rcases hx with rfl|rfl|rfl
 ·exact .inl (.inr ⟨_,Z,ux,aY⟩)
 ·refine .inr ⟨_,.inl Z,by rw[cB,h.len];lia,λy hy=>?_⟩
  obtain⟨z,_,rfl⟩:=ka.mp hy;exact kn z
 ·exact kn _
theorem a0S{n:Nat}{ds:List ai}{os:List Itm}(h:ib n ds os)(hw:RowW ds os)(hn:n<=1000)(hl:ds.length<=1000):Nx (Nx (Nx (Nx A0))) (.list ds):=by refine .inr ⟨_,.inr Z,aw,λx hx=>?_⟩;obtain⟨i,hi⟩:=qG.mp hx;obtain⟨o,eo,it⟩:=h.get hi;cases o with |none=>exact Qc (hw i x eo hi) |some z=>obtain⟨ns,sp⟩:=z;rw[kW it];exact a5H (h.ok i ns sp eo).1 hn
theorem abD{a:Addr}{xs:List V}{bs:List Bool}{te:TE}{Q:VK}{D:Addr}{H H0:Hp}{n:Nat}(Pr:V->V->Prop)(rest:L2.St)(hn:n=2)(hx:aJ K H a xs)(nw:Nw H H0 D (.lst []))(hl:xs.length=bs.length)(hz:xs.length<=1000) (hp:∀(i:Nat)(x:V),xs[i]? =some x->∃p y z,x= .ref p/\aU K H p [y,z]/\Pr y z) (hs:∀(i:Nat)(y z:V)(b:Bool)(H2:Hp)(Q':VK),Pr y z->bs[i]? =some b->aG H H2->(∀H3,aG H2 H3->Q' (.bl b) H3)->te (some y::some z::rest) H2 Q') (hq:∀H',aG H H'->H' D=some (.lst (bs.map V.bl))->Q (.ref D) H'):j6 (sT K a) (pU K n (ky (fA 0) (ky (fA 1) rW))) iC te Q D (none::none::rest) H0:=by
 subst hn;have hD:=nw.no;refine sj xs.length (λi O H2=>aG H H2/\H2 D=some (.lst ((bs.take i).map V.bl))/\∃v v',O=v::v'::rest) ?_ ?_ ?_
 ·exact⟨nw.same,nw.at',none,none,Z⟩
 ·rintro i O H2 hi ⟨s2,d2,v,v',rfl⟩
  have xi:i<bs.length:=by rw[<-hl];exact hi
  have ex:=cu hi;have eb:=cu xi;refine⟨⟨xs,_,hx.go s2,ex⟩,λy' H3 kr=>?_⟩;obtain⟨rfl,k1⟩:=kr;have e1:=k1 _ (hx.go s2);rw[ex]at e1;cases e1;obtain⟨p,y,z,ep,hpp,pr⟩:=hp i _ ex;rw[ep]at ex⊢;refine⟨p,_,Z,hpp.go s2,Z,_,_,Z,_,_,Z,Z,?_⟩;refine yes (cf ?_);refine hs i y z _ _ _ pr eb s2 λH4 s4=>?_;refine⟨_,s4 _ _ d2,?_,xs.length-(i+1),aw,Z,aw,λb o e=>?_,?_,_,_,Z⟩
  ·rw[cB,oS]
   have:(1000:Nat)<sizeLine:=by decide
   lia
  ·rw[aK (gy e hD)];exact s4 b o (s2 b o e)
  ·rw[bf,qF,eb,oQ];rfl
 ·rintro O H2 ⟨s2,d2,v,v',rfl⟩
  refine⟨⟨xs,hx.go s2,bR _⟩,hq H2 s2 ?_⟩;rw[d2,hl,vx]
def Aj(es:List ai):Prop:=SeqAt.shaped (.list es)=true/\PyData.eqv (.list es) (.list es)=true/\cZ es=true
structure Ad where
 a:Addr
 q:Addr
 d:Addr
 e:Addr
 t:Addr
def Ad.all(x:Ad):List Addr:=[x.a,x.q,x.d,x.e,x.t]
def mC(K:aa)(H:Hp)(td:Addr)(n:Nat)(X:Addr->Prop):Prop:=∃ts,H td=some (.lst ts)/\ts.length<=n/\∀t∈ts,∃p l ta us es,t=V.ref p/\aU K H p [.ref l,.ref ta]/\H l=some (.lst us)/\aU K H ta us/\aP K H us es/\Aj es/\¬X l
theorem mC.go{H H':Hp}{td:Addr}{n m:Nat}{X X':Addr->Prop}(h:mC K H td n X)(hm:n<=m)(s:bW H H')(et:∀o,H td=some o->H' td=some o)(hl:∀l us,¬X l->H l=some (.lst us)->H' l=some (.lst us)/\¬X' l):mC K H' td m X':=by obtain⟨ts,e,l,ht⟩:=h;refine⟨ts,et _ e,aw,λt m=>?_⟩;obtain⟨p,l,ta,us,es,h1,h2,h3,h4,h5,h6,h7⟩:=ht t m;obtain⟨g1,g2⟩:=hl l us h7 h3;exact⟨p,l,ta,us,es,h1,aU.v s h2,g1,aU.v s h4,aP.v s _ h6.2.2 h5,h6,g2⟩
theorem cj.mono{M:bL}{D D':Nat}{S:bh}(h:cj M D S)(h1:D<=D')(h2:D'<=1500):cj M D' S:=by refine⟨h.row,h.rw,h.len,h.dh,h.dF,h.dn,h.pl,h.pd.mono aw,h.pm,?_,by have:=h.D1;lia,h2⟩;have:=h.aW;cases hs:S.aW with |none=>trivial |some z=>obtain⟨sq,st,gn⟩:=z;rw[hs]at this;obtain⟨g0,g1,g2,hd,hl,hz,hh⟩:=this;exact⟨g0,g1,g2,hd.mono h1,hl,hz,hh⟩
theorem a75(M:bL)(S:bh):cM (jh M S)=cM S:=by unfold jh;split<;>rfl
theorem One.goal{M:bL}{D:Nat}{S S1:bh}{e:ai}(ok:cj M D S)(o:One M S e S1):cM S1=cM S:=by cases o with |line eo nh=>exact SV eo |ip eo ed nh=>obtain⟨_,_,_,_,h⟩:=Qa (d:=e) ok eo;exact h
theorem Run.goal{M:bL}{D:Nat}{S S1:bh}{es:List ai}(ok:cj M D S)(aM:M.Ok)(r:Run M S es S1):cM S1=cM S:=by induction r with |nil=>rfl |cons o _ ih=>rw[ih (One.ok ok aM o),o.goal ok]
theorem One.det{M:bL}{S S1 S2:bh}{e f:ai}(h:One M S e S1)(g:One M S f S2):e=f/\S1=S2:=by cases h with
 |line h1 _=>cases g with |line g1 _=>rw[h1]at g1;cases g1;exact⟨rfl,rfl⟩ |ip g1 _ _=>rw[h1]at g1;cases g1
 |ip h1 h2 _=>cases g with |line g1 _=>rw[h1]at g1;cases g1 |ip g1 g2 _=>rw[h2]at g2;cases g2;exact⟨rfl,rfl⟩
theorem One.go{M:bL}{S S1:bh}{e:ai}(h:One M S e S1):¬(S.os=[]\/Halt S.pc S.aW):=by
 rintro(z|z)
 ·cases h with |line h1 _=>rw[z]at h1;simp at h1 |ip h1 _ _=>rw[z]at h1;simp at h1
 ·cases h with |line _ nh=>exact nh z |ip _ _ nh=>exact nh z
theorem Run.Um{M:bL}{S S1 S2:bh}{es fs:List ai}(h:Run M S es S1){n:Int}(l1:(es.length:Int)<=n)(c1:(es.length:Int)=n\/S1.os=[]\/Halt S1.pc S1.aW)(g:Run M S fs S2)(l2:(fs.length:Int)<=n)(c2:(fs.length:Int)=n\/S2.os=[]\/Halt S2.pc S2.aW):es=fs/\S1=S2:=by induction h generalizing fs n with
 |nil=>cases g with |nil=>exact⟨Z,Z⟩ |cons o r=>
  rcases c1 with z|z
  ·simp only[kI,LN]at z l2;lia
  ·exact(o.go z).elim
 |cons o r ih=>cases g with
  |nil=>
   rcases c2 with z|z
   ·simp only[kI,LN]at z l1;lia
   ·exact(o.go z).elim |cons o2 r2=>obtain⟨e,z⟩:=o.det o2;subst e z;simp only[kI]at l1 c1 l2 c2;obtain⟨e1,e2⟩:=ih (n:=n-1) aw (c1.imp (λh=>by lia) id) r2 aw (c2.imp (λh=>by lia) id);exact⟨by rw[e1],e2⟩
theorem ZM(ti:Int)(zs:List Int)(q:Rat):dP 2 (oY ti zs q):=by refine gL.tup (.cons (mh (vU (.inl Z))) (.cons (gL.tup λd hd=>?_) (.cons (.int _) (.cons (gL.tup (.cons (.int _) (.cons (.int _) .nil))) .nil))));obtain⟨a,_,rfl⟩:=ka.mp hd;exact .int _
theorem Qb{d:ai}(h:qq d):dP 2 d:=by
 rcases h with⟨n,rfl,_⟩|⟨w,s,rfl,hw,h,_⟩
 ·exact gL.tup (.cons (mh (vU (.inr (.inl Z)))) (.cons (.int _) .nil))
 ·exact gL.tup (.cons (mh (vU (.inr (.inr hw)))) (.cons (h.le aB) .nil))
theorem Run.ent{M:bL}{D:Nat}{S S1:bh}{es:List ai}(ok:cj M D S)(aM:M.Ok)(r:Run M S es S1):∀d∈es,dP 2 d/\Nx (Nx (Nx A0)) d:=by induction r with |nil=>exact nofun |@cons S S1 S2 e es o r ih=>
 intro d hd;rcases bM.mp hd with rfl|hd
 ·cases o with
  |@line ns sp eo nh=>
   refine⟨ZM _ _ _,ZN _ _ _ ?_⟩;have h1:=(ok.row.ok 0 ns sp eo).1.len;have h2:=aM.len;simp only[iE,cB]
   lia |ip eo ed nh=>have:=ok.rw 0 d eo ed;exact⟨Qb this,Qc this⟩
 ·exact ih (One.ok ok aM o) d hd
theorem Tz{es:List ai}(h:∀d∈es,dP 2 d)(hn:cZ es=true):Aj es:=by have:dP 3 (.list es):=gL.lst h;exact⟨this.shaped aB,this.refl,hn⟩
section
variable {C a lr ls:Addr}{mv:V}{p5:List Int}{M:bL}{H H':Hp}{n:Nat}{A:Nat->Ad}{S:Nat->bh}
end
def SM(S:bh):Prop:=dP 0 (.str S.side)/\dP 0 (.str S.mark)
theorem ZX(pl:List Int):SM (nv pl):=⟨(mh aY:dP 0 (.str "up")),(mh aY:dP 0 (.str ""))⟩
theorem same_none{H0 H:Hp}{x:Addr}(s:aG H0 H)(h:H x=none):H0 x=none:=by cases e:H0 x with |none=>rfl |some o=>have:=s _ _ e;rw[h]at this;cases this
theorem Kd{S:bh}(h:SM S):SM (iP S):=by unfold iP;split<;>exact h
theorem One.sm{M:bL}{D:Nat}{S S1:bh}{e:ai}(ok:cj M D S)(o:One M S e S1)(h:SM S):SM S1:=by cases o with
 |line eo nh=>
  unfold fN;split
  ·exact Kd h
  ·exact h |ip eo ed nh=>
  have oo:=ok.rw 0 e eo ed;rcases oo with⟨n,rfl,_⟩|⟨w,s,rfl,hw,hs,_⟩
  ·exact Kd h
  ·show SM (iP (if w="tool" then{S with side:=s}else if w="mark" then{S with mark:=s}else S))
   refine Kd ?_;split
   ·exact⟨hs,h.2⟩
   ·split
    ·exact⟨h.1,hs⟩
    ·exact h
theorem Run.sm{M:bL}{D:Nat}{S S1:bh}{es:List ai}(ok:cj M D S)(aM:M.Ok)(r:Run M S es S1)(h:SM S):SM S1:=by induction r with |nil=>exact h |cons o _ ih=>exact ih (One.ok ok aM o) (o.sm ok h)
theorem a73{M:bL}{S:bh}(h:SM S):SM (jh M S):=by unfold jh;split<;>exact h
theorem PH{A:ai->Prop}{pl:List Int}(h:pl.length<=1000):Nx (Nx A) (fu pl):=by refine .inr ⟨_,.inl Z,by rw[cB];lia,λy hy=>?_⟩;obtain⟨z,_,rfl⟩:=ka.mp hy;exact kn z
theorem a1s{A:ai->Prop}(q:Rat):Nx (Nx A) (cY q):=by refine .inr ⟨_,.inl Z,(by simp),λy hy=>?_⟩;simp only[bM,cL,dv]at hy;rcases hy with rfl|rfl<;>exact kn _
theorem JJ{M:bL}{D:Nat}{S:bh}(ok:cj M D S):(cM S).length=M.rs.length:=xt _ _ ok.pl ok.qU
def vV(S:bh):List ai:=[fu (dR S),fu (cM S),cY S.pc,.int S.aD,.str S.side,.str S.mark]
theorem a0e{M:bL}{D:Nat}{S:bh}(ok:cj M D S)(aM:M.Ok)(sm:SM S):Nx (Nx (Nx (Nx A0))) (.list (vV S)):=by
 have lr:=aM.len;refine .inr ⟨_,.inr Z,(by simp[vV]),λx hx=>?_⟩;simp only[vV,bM,cL,dv]at hx;rcases hx with rfl|rfl|rfl|rfl|rfl|rfl
 ·exact PH (by rw[Hu ok];lia)
 ·exact PH (by rw[JJ ok];lia)
 ·exact a1s _
 ·exact kn _
 ·exact pC (n:=0) aB sm.1
 ·exact pC (n:=0) aB sm.2
theorem a6b{M:bL}{D:Nat}{S:bh}(ok:cj M D S):Aj S.ds:=by refine Tz (λd hd=>?_) ok.row.no;obtain⟨i,hi⟩:=qG.mp hd;obtain⟨o,eo,it⟩:=ok.row.get hi;cases o with |none=>exact Qb (ok.rw i d eo hi) |some z=>obtain⟨ns,sp⟩:=z;rw[kW it];refine gL.tup (.cons (mh ux) (.cons (gL.tup λd hd=>?_) (.cons (.int _) .nil)));obtain⟨a,_,rfl⟩:=ka.mp hd;exact .int _
theorem abA{a:Addr}{b0 b1:Bool}{te:TE}{Q:VK}{D:Addr}{H H0:Hp}(hx:aJ K H a [V.bl b0,.bl b1])(nw:Nw H H0 D (.lst []))(hs:∀(b:Bool)(H2:Hp)(Q':VK),Q' (.bl true) H2->te [some (V.bl b)] H2 Q')(hq:∀H',aG H H'->H' D=some (.lst ([true,true].map V.bl))->Q (.ref D) H'):j6 (sT K a) (fA 0) iC te Q D [none] H0:=by
 refine abC (bs:=[true,true]) [] hx nw Z (by simp) (λi x b H2 Q' ex eb s2 kq=>?_) hq;have hb:b=true:=by match i,eb with |0,eb=>cases eb;rfl |1,eb=>cases eb;rfl
 subst hb
 match i,ex with |0,ex=>cases ex;exact hs _ _ _ (kq _ (aG.refl _)) |1,ex=>cases ex;exact hs _ _ _ (kq _ (aG.refl _))
inductive VU(K:aa)(C:Addr)(vs:List V)(H:Hp)(Q:VK):Prop |mk (a:_)(q:_)(d:_)(e:_)(t:_)(M:_)(D:_)(S:_)(n:_)(X:_)(h0:vs=[.ref a,.ref d])(h1:cD K C H a q M S)(h2:dC K H d e t M S)(h3:cj M D S)(h4:M.Ok)(h5:SM S)(h6:mC K H t n X)(h7:40<=n)(h8:n<=900)(h9:(∀x,X x->H x≠none))(zJ:X t)(SS:t≠a)(zI:t≠q)(SR:t≠d)(h14:t≠e)(SQ:∀H',bc [t] H H'->mC K H' t n X->Q (.bl true) H'):VU K C vs H Q
def EB(K:aa)(C:Addr):Sp:=λvs H Q _=>VU K C vs H Q
theorem NQ:bF ["_law_runner","_law_sim_here","_law_found","_law_due","_law_waits"] ["_law_runner","_law_sim_here"] (aZ Fh):=bP aY
theorem a3b{C:Addr}(F:FA K mg "_law_seen" Fh)(B:bV mg)(TC:fV K C)(jS:aI P w K mg base "_law_alike" 5 (yu (Nx (Nx (Nx (Nx A0)))) K))(JF:aI P w K mg base "_law_sim_stops" 1 (ED K))(a8o:cN P w K mg base C "waiting" 1 (fh K C λ_ S H Q=>∀l ys H',H l=none->H' l=some (.lst ys)->aP K H' ys S.ds->aG H H'->Q (.ref l) H'))(JD:cN P w K mg base C "place" 3 (fh K C λ_ S H Q=>∀v H',RD K H' v (fu (dR S))->aG H H'->Q v H'))(zD:cN P w K mg base C "leads_to" 3 (fh K C λ_ S H Q=>∀v H',RD K H' v (fu (cM S))->aG H H'->Q v H'))(a8r:cN P w K mg base C "square" 1 (fh K C (Td K)))(a8s:cN P w K mg base C "rate" 1 (fh K C λ_ S H Q=>Q (.int S.aD) H))(a8p:cN P w K mg base C "tool" 1 (fh K C λ_ S H Q=>Q (.str S.side) H))(a8u:cN P w K mg base C "last_mark" 1 (fh K C λ_ S H Q=>Q (.str S.mark) H))(uS:cN P w K mg base C "is_held" 1 (fh K C λ_ S H Q=>Q (.bl S.aW.isSome) H))(JC:cN P w K mg base C "stands" 1 (fh K C λ_ S H Q=>Q (.bl (decide (S.pc=0))) H))(JB:cN P w K mg base C "stops_in" 1 (fh K C λM S H Q=>Q (.int (j9 M.f S.pc)) H)):aI P w K mg base "_law_seen" 6 (EB K C):=by
 refine F.has NQ (λvs H Q E h=>?_) (λ_ _ _ _ _ _=>dN λ_ _=>rfl) (λf aQ A outer s H vs Q E hr h=>?_)
 ·obtain⟨a,q,d,e,t,M,D,S,n,X,rfl,_⟩:=h
  rfl
 ·obtain⟨a,q,d,e,t,M,D,S,n,X,rfl,R,aeE,ok,aM,sm,T,n40,adB,hX,hXt,ta,tq,td,te,k⟩:=h
  obtain⟨dx,QG,UQ,cx,tv,er,_⟩:=R.ob;obtain⟨mv,lv,gv,sv,bv,cv,rv,ez,r1,r2,r3,r4,r5,r6⟩:=aeE.ob;obtain⟨ys,eq,rq⟩:=aeE.qu;obtain⟨ts,et,lt,ht⟩:=T;have nd:=NQ.nd;have no:=ok.row.no;have BZ:=aM.len;have Cd:=ok.len;have kY:sizeLine=16777216:=by decide
  refine⟨_,(aF (pS 2 nd (dj (au (gs JD TC.cl (hr.mono aB) (pv 0)) (au (gs zD TC.cl (hr.mono aB) (pv 0)) (au (gs a8r TC.cl (hr.mono aB) (pv 0)) (au (gs a8s TC.cl (hr.mono aB) (pv 0)) (au (gs a8p TC.cl (hr.mono aB) (pv 0)) (au (gs a8u TC.cl (hr.mono aB) (pv 0)) az)))))))) (aF (pS 3 nd (dj (au (cE hr (pv 1) ba) (au (cE hr (pv 1) ba) (au (cE hr (pv 1) ba) (au (cE hr (pv 1) ba) (au (cE hr (pv 1) ba) (au (cE hr (pv 1) ba) az)))))))) (aF (pS 4 nd (gs a8o TC.cl (hr.mono aB) (pv 0))) (aF (bN (PW.pt (kQ (eO (cP (pf jS hr (au (pv 2) (au (pv 3) az))))) (lF (eO (cP (pf jS hr (au (pv 4) (au (cE hr (pv 1) ba) az)))))))) (aH (aX ij)) bQ) (aF (hJ (bN (ck kl (dJ K B (au (cE hr (pv 1) ba) az)) aE (bB _)) (aH (hO (jq K Z (cE hr (pv 1) ba) (au (ek (au (pv 4) (au (iG (x:="tuple") (lD K Z) Z (B.at "tuple") fY (au (pv 4) az)) az))) az)))) bQ)) (aF (bN (cP (dG (x:="any") (V8 K Z Z) Z (B.at "any") XT (au (gE (N:=["_law_one","_law_kept"]) (js:=[none,none]) rfl rfl rfl (yL K rfl (cE hr (pv 1) ba)) (λ_ _ _ _ _=>(eK K rfl (n:=2) rfl (cg (bJ 0 (gc aB)) (cg (bJ 1 (gc aB)) eG)))) (λ_ _ _ _ _=>fT) (λ_ _ _ _ _=>(fH (jv K rfl hr.units) (pv 0) (iG (x:="list") (II K rfl) rfl (B.at "list") lg (au (pv 1) az)) (bB _)))) az))) (aH (aX ij)) bQ) (aF (pS 2 nd (dj (au (gs uS TC.cl (hr.mono aB) (pv 0)) (au (gs JC TC.cl (hr.mono aB) (pv 0)) az)))) (aF (bN (eO (cP (dG (x:="all") (qk K Z Z) Z (B.at "all") tD (au (gE (N:=["_law_one"]) (js:=[none]) rfl rfl rfl (yL K rfl (pv 2)) (λ_ _ _ _ _=>(bJ 0 (ur _))) (λ_ _ _ _ _=>fT) (λ_ _ _ _ _=>(dS K B (au (pv 0) (au (dk (x:="bool") (v:=.ty "bool") rfl (B.at "bool") XS rfl) az))))) az)))) (aH (aX ij)) bQ) (aF (bN (ck (jv K Z hr.units) (pv 2) (dj (au (fH yQ (cE hr (pv 1) ba) je (bB _)) (au (fH (cW K Z hr.units) (cE hr (pv 1) ba) (ek (au aE (au aE az))) (bB _)) az))) (bB _)) (aH (aX ij)) bQ) (aH (aX (pf jS hr (au (gs JB TC.cl (hr.mono aB) (pv 0)) (au (pf JF hr (au (pv 1) az)) az)))))))))))))),?_⟩;refine⟨_,Z,a,dx,_,Z,er,Z,a,q,M,D,S,Z,R,ok,aM,λpv1 H1 rp s1=>?_⟩;refine⟨_,Z,a,dx,_,Z,s1 _ _ er,Z,a,q,M,D,S,Z,R.same no s1,ok,aM,λgv1 H2 rg s2=>?_⟩;have jK:=s1.trans s2;have R2:=R.same no jK;have oh:=jK _ _ er;refine⟨_,Z,a,dx,_,Z,oh,Z,a,q,M,D,S,Z,R2,ok,aM,λZS rs1=>?_⟩;refine⟨_,Z,a,dx,_,Z,oh,Z,a,q,M,D,S,Z,R2,ok,aM,?_⟩;refine⟨_,Z,a,dx,_,Z,oh,Z,a,q,M,D,S,Z,R2,ok,aM,?_⟩;refine⟨_,Z,a,dx,_,Z,oh,Z,a,q,M,D,S,Z,R2,ok,aM,?_⟩;refine⟨bZ Z,λl1 H3 n3=>?_⟩;have dc:=jK.trans n3.same;have rl1:aP K H3 [pv1,gv1,ZS,.int S.aD,.str S.side,.str S.mark] (vV S):=cm (RD.mono (s2.trans n3.same) _ rp) (cm (RD.mono n3.same _ rg) (cm (rs1.go n3.same).rd (cm (dw _) (cm (cV _) (cm (cV _) cX)))));have xA:=dc _ _ ez;refine⟨_,Z,d,_,Z,dg xA JM,?_⟩;refine⟨_,Z,d,_,Z,dg xA JN,?_⟩;refine⟨_,Z,d,_,Z,dg xA rV,?_⟩;refine⟨_,Z,d,_,Z,dg xA JL,?_⟩;refine⟨_,Z,d,_,Z,dg xA a93,?_⟩;refine⟨_,Z,d,_,Z,dg xA a94,?_⟩;refine⟨bZ Z,λl2 H4 n4=>?_⟩;have fG:=dc.trans n4.same;have GW:aP K H4 [lv,gv,sv,.int S.aD,.str S.side,.str S.mark] (vV S):=cm (RD.mono fG _ r2) (cm (RD.mono fG _ r3) (cm (r4.go fG).rd (cm (dw _) (cm (cV _) (cm (cV _) cX)))));refine⟨_,Z,a,dx,_,Z,fG _ _ er,Z,a,q,M,D,S,Z,R.same no fG,ok,aM,λl zs H5 nl dl rl s5=>?_⟩;have wc:=fG.trans s5;have OZ:=n4.same.trans s5;refine⟨_,Z,_,Z,.ref l1,.ref l2,.list (vV S),Z,kO (aJ.of (OZ _ _ n3.at')) (aP.mono OZ _ rl1),kO (aJ.of (s5 _ _ n4.at')) (aP.mono s5 _ GW),a0e ok aM sm,λH6 s6=>?_⟩;have kN:=wc.trans s6;refine⟨_,Z,bK ?_⟩;refine⟨_,Z,_,Z,d,_,Z,dg (kN _ _ ez) lT,.ref l,.ref e,.list S.ds,Z,kO (aJ.of (s6 _ _ dl)) (aP.mono s6 _ rl),kO (aJ.of (kN _ _ eq)) (aP.mono kN _ rq),a0S ok.row ok.rw aw aw,λH7 s7=>?_⟩;have tY:=kN.trans s7;have nI:=s6.trans s7;refine⟨_,Z,bK ?_⟩;have Ij:H l=none:=same_none fG nl;have BW:l≠t:=λz=>by rw[z,et]at Ij;cases Ij
  have my:=nI _ _ dl;have rl7:=aP.mono nI _ rl;have Ka:=tY _ _ et;have Ts:=tY _ _ ez;have nXl:¬X l:=λz=>hX l z Ij;have T7:mC K H7 t n X:=mC.go (H:=H) ⟨ts,et,lt,ht⟩ (bR _) tY.v (λo e=>tY _ _ e) λl us hx e=>⟨tY _ _ e,hx⟩;refine⟨λO H8=>∃v2 v3,O=[some (.ref a),some (.ref d),v2,v3,some (.ref l)]/\bc [t] H H8/\mC K H8 t n X,?_,?_⟩
  ·refine⟨_,Z,d,_,Z,dg Ts CU,t,ts,Z,.inl (aJ.of Ka),_,_,Z,Z,_,Z,?_⟩
   refine dU (λJI=>?_) (λJI=>?_)
   ·have JI:((ts.length:Nat):Int)<40:=jZ JI
    refine⟨_,Z,d,_,Z,dg Ts CU,.inl ⟨Z,_,aJ.of Ka⟩,?_⟩;refine⟨_,Z,_,Z,l,zs,Z,.inl ⟨aJ.of my,λtt HB nB=>?_⟩⟩;refine⟨bZ Z,λtp HC nC=>?_⟩;have qN:=nB.same.trans nC.same;have Tw:=qN _ _ Ka;refine⟨t,ts,_,Z,Z,Tw,aw,?_⟩;have vD:bW HC (L2.upd HC t (.lst (ts++[.ref tp]))):=.upd Tw trivial;have bD:∀x o,x≠t->HC x=some o->(L2.upd HC t (.lst (ts++[.ref tp]))) x=some o:=λx o hx e=>by rw[aK hx];exact e
    have eD:(L2.upd HC t (.lst (ts++[.ref tp]))) t=some (.lst (ts++[.ref tp])):=bf;generalize L2.upd HC t (.lst (ts++[.ref tp]))=HD at vD bD eD⊢;have GB:=tY.trans qN;refine⟨_,_,Z,λx o eb hb=>bD x o (λz=>hb (by rw[z];simp)) (GB _ _ eb),ts++[.ref tp],eD,by rw[fy];show ts.length+1<=_;lia,λy hy=>?_⟩;rcases vy.mp hy with hy|hy
    ·obtain⟨p0,l0,yj,u0,e0,h1,h2,h3,h4,h5,h6,h7⟩:=ht y hy
     have Ej:=GB.v.trans vD;have l0t:l0≠t:=λz=>h7 (z▸hXt);exact⟨p0,l0,yj,u0,e0,h1,aU.v Ej h2,bD _ _ l0t (GB _ _ h3),aU.v Ej h4,aP.v Ej _ h6.2.2 h5,h6,h7⟩
    ·rw[bU]at hy
     exact⟨tp,l,tt,zs,S.ds,hy,aU.v vD (aU.of nC.at'),bD _ _ BW (qN _ _ my),aU.v vD ((aU.of nB.at').go nC.same),aP.v (qN.v.trans vD) _ no rl7,a6b ok,nXl⟩
   ·exact⟨_,_,Z,bc.of tY,T7⟩
  ·rintro O H8 ⟨v2,v3,rfl,b8,T8⟩
   have v8:bW H H8:=b8.v λx hx o eo=>by rw[bU]at hx;rw[hx,et]at eo;cases eo;trivial
   have wH:∀{x},x≠t->x∉[t]:=λh=>by rw[bU];exact h
   have R8:=R.go no v8 (λo e=>b8 _ _ e (wH ta.symm)) (λo e=>b8 _ _ e (wH tq.symm));have Z8:=aeE.go no v8 (λo e=>b8 _ _ e (wH td.symm)) (λo e=>b8 _ _ e (wH te.symm));have ez8:=b8 _ _ ez (wH td.symm);have Kb:=b8 _ _ er (wH ta.symm);obtain⟨Em,Tx,lt8,ht8⟩:=id T8;refine⟨_,Z,d,_,Z,dg ez8 CU,t,Z,⟨_,aJ.of Tx⟩,λD1 H9 n9=>?_⟩;refine abD (bs:=Em.map λ_=>false) (λy z=>∃l ta us es,y= .ref l/\z= .ref ta/\H8 l=some (.lst us)/\aU K H8 ta us/\aP K H8 us es/\Aj es) [] rfl (aJ.of Tx) n9 (by rw[cB]) aw (λi x ex=>?_) (λi y z b HA Q' pr eb sA kq=>?_) λHA sA dA=>?_
   ·obtain⟨p,l',yj,us,es,rfl,hp,h1,h2,h3,h4,_⟩:=ht8 x (gX ex)
    exact⟨p,_,_,Z,hp,l',yj,us,es,Z,Z,h1,h2,h3,h4⟩
   ·obtain⟨l',yj,us,es,rfl,rfl,eQ,wX,res,xC⟩:=pr
    have eb:b=false:=by rw[cH]at eb;cases h:Em[i]? with |none=>rw[h]at eb;cases eb |some c=>rw[h]at eb;cases eb;rfl
    subst eb;refine⟨_,Z,_,Z,yj,us,Z,.inr (wX.go sA),λl2 HB nB=>?_⟩;refine .inr ⟨.list es,.list es,kO (aJ.of (nB.same _ _ (sA _ _ eQ))) (aP.mono (sA.trans nB.same) _ res),kO (aJ.of nB.at') (aP.mono (sA.trans nB.same) _ res),xC.1,xC.1,?_⟩;rw[xC.2.1];exact kq _ nB.same
   ·refine⟨D1,_,Z,aJ.of dA,_,Z,?_⟩
    have ef:(Em.map λ_=>false).any id=false:=by rw[List.any_map,List.any_eq_false];simp
    rw[ef];refine bK ?_;refine⟨_,Z,a,dx,_,Z,sA _ _ Kb,Z,a,q,M,D,S,Z,R8.same no sA,ok,aM,?_⟩;refine⟨_,Z,a,dx,_,Z,sA _ _ Kb,Z,a,q,M,D,S,Z,R8.same no sA,ok,aM,?_⟩;refine⟨bZ Z,λl3 HB nB=>?_⟩;have sAB:=sA.trans nB.same;refine⟨_,Z,l3,Z,⟨_,aJ.of nB.at'⟩,λD2 HC nC=>?_⟩;refine abA (aJ.of nB.at') nC (λb H2 Q' hq=>?_) λHD sD dD=>?_
    ·exact⟨_,Z,.inl ⟨_,"bool","bool",true,Z,Z,aB,aB,hq⟩⟩
    refine⟨D2,_,Z,aJ.of dD,_,Z,bK ?_⟩;have OW:=sAB.trans sD;obtain⟨mv',lv',gv',qK,xK,fC,cU,ez',q1,q2,q3,q4,q5,q6⟩:=Z8.ob;have Tr:=OW _ _ ez';refine⟨_,Z,_,Z,d,_,Z,dg Tr xq,Z,?_⟩;refine⟨_,Z,d,_,Z,dg Tr rV,bZ Z,λtz HE nE=>?_⟩;have OV:=OW.trans nE.same;refine .inr ⟨cY S.pc,cY 0,(q4.go OV).rd,(qX (aU.of nE.at')).rd,Z,Z,?_⟩;rw[He];refine⟨bZ Z,λl4 HF nF=>?_⟩;have nH:=OV.trans nF.same;have eB:(!decide (xK= .bw))=S.aW.isSome:=by cases hs:S.aW with |none=>rw[hs]at q5;rw[q5.1];rfl |some z=>obtain⟨sq,st,gn⟩:=z;rw[hs]at q5;obtain⟨ta,su,rfl,_⟩:=q5;rfl
    rw[eB]at nF;have sBF:=sD.trans (nE.same.trans nF.same);refine .inr ⟨.list [.bool S.aW.isSome,.bool (decide (S.pc=0))],.list [.bool S.aW.isSome,.bool (decide (S.pc=0))],kO (aJ.of (sBF _ _ nB.at')) (cm (md _) (cm (md _) cX)),kO (aJ.of nF.at') (cm (md _) (cm (md _) cX)),Z,Z,?_⟩;rw[show PyData.eqv (.list [.bool S.aW.isSome,.bool (decide (S.pc=0))]) (.list [.bool S.aW.isSome,.bool (decide (S.pc=0))])=true by cases S.aW.isSome<;>cases decide (S.pc=0)<;>rfl];refine⟨_,Z,bK ?_⟩;refine⟨_,Z,a,dx,_,Z,nH _ _ Kb,Z,a,q,M,D,S,Z,R8.same no nH,ok,aM,?_⟩;refine⟨_,Z,d,e,t,M,D,S,Z,Z8.same no nH,ok,aM,?_⟩;refine⟨_,_,.int _,Z,dw _,dw _,kn _,λHG sG=>?_⟩;have Bs:=nH.trans sG;refine k HG (λx o eb hb=>Bs _ _ (b8 _ _ eb hb)) (T8.go (bR _) Bs.v (λo e=>Bs _ _ e) λl us hx e=>⟨Bs _ _ e,hx⟩)
end
end Lw
set_option maxHeartbeats 1000000
namespace Lw
open PySem PySem.Spec PyProof.Rows L2 Rt Ln Cn Pn Wk Rn
open Ow (topR cornO mnO betR atO ownF leadF ownL OkI OkIs)
section
variable {w:World}{mg:Str->Option Value}{base:Heap}
inductive We(K:aa)(C:Addr)(R:jC)(vs:List V)(H:Hp)(Q:VK)(E:XK):Prop |mk (a:_)(q:_)(M:_)(D:_)(S:_)(v:_)(d:_)(o:_)(h0:vs=[.ref a,v])(h1:cD K C H a q M S)(h2:cj M D S)(h3:M.Ok)(h4:RD K H v d)(h5:mY M.rs.length d o)(h6:fD M.rs (gf (cM S) o))(h7:(S.ds.length=20->∀H',aG H H'->E (.ref R.f) none H'))(h8:(S.ds.length<20->∀H',cD K C H' a q M (lU S d o)->bc [a,q] H H'->Q (.int (S.ds.length+1:Nat)) H')):We K C R vs H Q E
def Be(K:aa)(C:Addr)(R:jC):Sp:=λvs H Q E=>We K C R vs H Q E
theorem a3u{C:Addr}{R:jC}(F:MA K C "feed" "Runner.feed" Bo)(TC:fV K C)(B:bV mg)(a8Q:Exc K mg "Full" R.f qi qV)(Jz:GV mg "MOST_WAITING" (.int 20))(Jn:aI P w K mg base "is_item" 4 (Bi K))(Jl:aI P w K mg base "is_place" 3 (Bj K))(uG:aI P w K mg base "place_behind" 2 (vT K))(zD:cN P w K mg base C "leads_to" 3 (fh K C λ_ S H Q=>∀v H',RD K H' v (fu (cM S))->aG H H'->Q v H')):vk P w K mg base C "feed" 5 (Be K C R):=by
 refine F.Sv Bm (λvs H Q E h=>?_) (λ_ _ _ _ _ _=>dN λ_ _=>rfl) (λf aQ A outer s H vs Q E hr h=>?_)
 ·obtain⟨a,q,M,D,S,v,d,o,rfl,_⟩:=h
  rfl
 ·obtain⟨a,q,M,D,S,v,d,o,rfl,Ra,ok,aM,rd,it,mG,kf,kd⟩:=h
  obtain⟨i1,i2,i3⟩:=it.is;obtain⟨dx,mv,bv,cx,tv,e,r1,r2,r3,r4⟩:=Ra.ob;obtain⟨ys,eq,rq⟩:=Ra.qu;have nd:=Bm.nd;have lr:=aM.len;have ly:=rq.length;refine⟨_,(aF (bN (eO (cP (pf Jn hr (au (cS TC.cl TC.nQ (pv 0)) (au (pv 1) az))))) (aH ph) bQ) (aF (bN (eO (cP (pf Jl hr (au (cS TC.cl TC.nQ (pv 0)) (au (pf uG hr (au (gs zD TC.cl (hr.mono aB) (pv 0)) (au (pv 1) az))) az))))) (aH ph) bQ) (aF (bN (ck BG (dJ K B (au (cS TC.cl TC.iI (pv 0)) az)) (fi (x:="MOST_WAITING") rfl Jz) (bB _)) (aH (PD (λ_ _ _ _ _ _ _ I m q=>M4 I m q) a8Q PySem.F.excBase_ValueError hr.hd Z (au ba az))) bQ) (aF (hO (jq K Z (cS TC.cl TC.iI (pv 0)) (au (pv 1) az))) (aH (aX (dJ K B (au (cS TC.cl TC.iI (pv 0)) az)))))))),?_⟩;refine⟨_,Z,a,dx,_,_,Z,e,Z,_,Z,mv,v,M.rs,_,d,Z,r1,rd,aw,i2,i3,λH1 s1=>⟨_,Z,?_⟩⟩;rw[i1];refine bK ?_;have e1:=s1 _ _ e;have R1:=Ra.same ok.row.no s1;refine⟨_,Z,a,dx,_,_,Z,e1,Z,?_⟩;refine⟨_,Z,a,dx,_,Z,e1,Z,a,q,M,D,S,Z,R1,ok,aM,λg H2 rg s2=>?_⟩;have jK:=s1.trans s2;have gl:(cM S).length=M.rs.length:=xt _ _ ok.pl ok.qU;have bl:(gf (cM S) o).length=M.rs.length:=xM gl λns sp eo=>(it.ln ns sp eo).1.len;refine⟨_,Z,g,v,cM S,d,o,Z,rg,RD.mono jK _ rd,it.it,λns sp e'=>by rw[gl];exact(it.ln ns sp e').1.len,aw,λu H3 ru s3=>?_⟩;have dc:=jK.trans s3;refine⟨mv,u,M.rs,_,_,Z,RD.mono dc _ r1,ru,aw,λH4 s4=>⟨_,Z,?_⟩⟩;rw[Qg mG];refine bK ?_;have fG:=dc.trans s4;have e4:=fG _ _ e;have eq4:=fG _ _ eq;refine⟨_,Z,a,dx,_,_,Z,e4,Z,q,_,Z,.inl (aJ.of eq4),_,_,Z,Z,_,Z,?_⟩;by_cases lS:S.ds.length=20
  ·rw[show decide ((ys.length:Int)>=20)=true from cR aw]
   exact cf ⟨bZ Z,kf lS _ fG⟩
  have Cd:=ok.len;rw[show decide ((ys.length:Int)>=20)=false from fb aw];refine bK ?_;have kY:sizeLine=16777216:=by decide
  refine⟨_,Z,a,dx,_,_,Z,e4,Z,.inl ⟨Z,_,aJ.of eq4⟩,_,Z,q,ys,_,Z,Z,eq4,aw,?_⟩;have aq:=Ra.ne;have tu:bW H4 (L2.upd H4 q (.lst (ys++[v]))):=.upd eq4 trivial;have e5:(L2.upd H4 q (.lst (ys++[v]))) a=some (.ins C dx (fM mv bv (.int S.dn) (.ref q) cx (.int S.aD) (.str S.side) (.str S.mark) tv)):=by rw[aK aq];exact e4
  refine⟨_,Z,a,dx,_,_,Z,e5,Z,q,_,Z,.inl (aJ.of bf),?_⟩;have sv:bW H (L2.upd H4 q (.lst (ys++[v]))):=fG.v.trans tu;have el:((ys++[v]).length:Int)=((S.ds.length+1:Nat):Int):=by rw[fy,ly];rfl
  rw[el];refine kd aw _ ⟨⟨dx,mv,bv,cx,tv,e5,RD.v sv _ (iJ _ _ _ _ _) r1,RD.v sv _ (gD _) r2,r3.v sv,r4.v sv⟩,_,bf,?_⟩ λb o' eb hb=>?_
  ·exact(aP.v sv _ ok.row.no rq).append (cm (RD.v sv _ it.it.no rd) cX)
  ·have kX:b≠q:=λz=>hb (by rw[z];simp)
   rw[aK kX];exact fG _ _ eb
inductive sN(R:jC):Addr->Bool->Bool->Bool->Nat->Str->Prop |f:sN R R.f true false false 2 "full" |m:sN R R.m false true false 3 "moving"
def Vj(R:jC)(Q:VK):XK:=λcls dx H'=>∃C b2 b3 b4 j w,sN R C b2 b3 b4 j w/\cls= .ref C/\∀XB,aG H' XB->Q (.str w) XB
theorem sN.kc{R:jC}{cG c0 c1 c2 c3 c4 c5 C:Addr}{b2 b3 b4:Bool}{j:Nat}{z:Str}(A:DH K mg R cG c0 c1 c2 c3 c4 c5)(h:sN R C b2 b3 b4 j z):KC K R cG [c0,c1,c2,c3,c4,c5] C false false b2 b3 b4/\ClsAt K C:=by
 cases h
 ·exact⟨A.f,A.xf.cls⟩
 ·exact⟨A.m,A.xm.cls⟩
theorem sN.one{R:jC}{C:Addr}{b2 b3 b4:Bool}{j:Nat}{z:Str}(h:sN R C b2 b3 b4 j z):[false,false,b2,b3,b4].count true=1/\[false,false,b2,b3,b4][j]? =some true/\(∀m,m<j->[false,false,b2,b3,b4][m]? =some false)/\j<1000/\fQ [V.str "item",.str "",.str "full",.str "moving",.str "rate"] (j:Nat)=some (.str z):=by
 cases h<;>refine⟨aB,rfl,λm hm=>?_,aB,rfl⟩
 ·match m,hm with|0,_=>rfl|1,_=>rfl
 ·match m,hm with|0,_=>rfl|1,_=>rfl|2,_=>rfl
def yp(P:ah)(w:World)(K:aa)(mg:Str->Option Value)(base:Heap)(R:jC)(k:Nat):vi:=λouter s vs H Q _=>∃(f c:Addr)(cl:List (Str×Addr))(pr:Arguments)(b:Expr)(sc:Scope)(q:Str)(N:List Str)(xs:List V)(t:XK->TE),vs=[.ref f]/\vm s.heap H (du outer) f pr b sc q c cl/\H c=some (.ext (jE c q))/\qw s.heap H (du outer) cl N xs/\xs.length=N.length/\sR N sc/\(∀pm cd ct,bindArgs (PySem.W.kla_fn "<lambda>" q pr b sc cl pm cd ct) ⟨[],[]⟩=pure [])/\(∀(A:aj)(outer:List Env)(s:ae)(H:Hp)(E:XK),cQ k (A.deeper (PySem.W.envX q sc s.heap.objs.size f (.ref c) cl))->PE (pG (jF P w) P w K mg base N q sc f (.ref c) cl A outer s H E) b (t E))/\t (Vj R Q) (xs.map some) H Q
theorem NZ:bF ["_law_deed_here","e","_law_kinds","_law_others"] ["_law_deed_here"] (aZ Fu):=bP aY
theorem a3y{R:jC}{cG c0 c1 c2 c3 c4 c5:Addr}{k:Nat}(F:FA K mg "_law_refused" Fu)(B:bV mg)(EA:DH K mg R cG c0 c1 c2 c3 c4 c5):Ah P w K mg base "_law_refused" (k+2) (yp P w K mg base R k):=by
 refine F.a7W NZ (λouter s vs H Q E h=>?_) (λ_ _ _ _ _ _=>eR λ_=>rfl) (λf0 aQ A outer s H vs Q E hr h=>?_)
 ·obtain⟨f,c,cl,pr,b,sc,q,N,xs,t,rfl,_⟩:=h
  rfl
 ·obtain⟨f,c,cl,pr,b,sc,q,N,xs,t,rfl,L,hc,C,hl,S,hb,ht,hq⟩:=h
  have nd:=NZ.nd;have hy:=EA.g;have Jv:(qi).contains (.type "BaseException")=true:=by decide
  have JH:∀C',(∃b2 b3 b4 j w,sN R C' b2 b3 b4 j w)->ClsAt K C'/\takes K C' cG:=λC' ⟨b2,b3,b4,j,w,h⟩=>⟨(h.kc EA).2,(h.kc EA).1.tk⟩;have a8b:=EA.gn;have a84:=EA.go;have a8k:GV mg "Full" (.ref R.f):=⟨_,EA.xf.at',Z⟩;have a8d:=EA.gm;have a87:=EA.gr;have a8c:=EA.h0;have a8a:=EA.h1;have a89:=EA.h2;have a88:=EA.h3;have a86:=EA.h4;have a85:=EA.h5;have a82:=EA.v;refine⟨_,(Aa.one (a1S (i:=1) Z Z nd Z Z Z (λE xe hp=>(aH (aX (a2g 0 hp)))) Z hy Jv JH (λex=>(aF (pS 2 nd (dj (au (dG (x:="isinstance") (uA K Z) Z (B.at "isinstance") vw (au (pv 1) (au (fi (x:="NoItem") rfl a8b) az))) (au (dG (x:="isinstance") (uA K rfl) rfl (B.at "isinstance") vw (au (pv 1) (au (fi (x:="OffRails") rfl a84) az))) (au (dG (x:="isinstance") (uA K rfl) rfl (B.at "isinstance") vw (au (pv 1) (au (fi (x:="Full") rfl a8k) az))) (au (dG (x:="isinstance") (uA K rfl) rfl (B.at "isinstance") vw (au (pv 1) (au (fi (x:="Moving") rfl a8d) az))) az)))))) (aF (hO (jq K Z (pv 2) (au (dG (x:="isinstance") (uA K Z) Z (B.at "isinstance") vw (au (pv 1) (au (fi (x:="NoRate") rfl a87) az))) az))) (aF (pS 3 nd (dG (x:="isinstance") (uA K Z) Z (B.at "isinstance") vw (au (pv 1) (au (ek (au (fi (x:="NoFraction") rfl a8c) (au (fi (x:="NoLine") rfl a8a) (au (fi (x:="NoMachine") rfl a89) (au (fi (x:="NoPlace") rfl a88) (au (fi (x:="NoTape") rfl a86) (au (fi (x:="NoText") rfl a85) az))))))) az)))) (aF (bN (PW.pt (kQ (ck (jv K Z hr.units) (a2p K Z (pv 2) (au ij az)) aE (bB _)) (kQ (cP (pv 3)) (lF (eO (cP (dG (x:="isinstance") (uA K Z) Z (B.at "isinstance") vw (au (pv 1) (au (dk (x:="ValueError") (v:=.ty "ValueError") rfl a82 ac4 rfl) az))))))))) (aH (aX ba)) bQ) (aF (bN (cP (px K (pv 2) aE)) (aH ph) bQ) (aH (aX (px K (dj (au ba (au ba (au ba (au ba (au ba az)))))) (a2n K Z (pv 2) (au ij az))))))))))))),?_⟩;refine⟨Vj R Q,?_,λcls dx H' h=>?_,?_⟩
  ·exact⟨f,c,cl,pr,b,sc,q,N,xs,t,k,Z,Z,L,hc,C,hl,S,hb,hr,ht,hq⟩
  ·obtain⟨C,b2,b3,b4,j,w,h,e,_⟩:=h
   exact⟨C,e,b2,b3,b4,j,w,h⟩
  ·intro C' ex dx σ' H' eQ hE hex
   have hl4:σ'.length=4:=eQ;have e1:(L2.upd H' ex (.ext (oK ex (.ref C') dx))) ex=some (.ext (oK ex (.ref C') dx)):=bf;have sm:=aG.new (o:=.ext (oK ex (.ref C') dx)) hex;have kY:sizeLine=16777216:=by decide
   match σ',hl4 with
   |[u0,u1,u2,u3],_=>
    obtain⟨C,b2,b3,b4,j,z,hw,e,kq⟩:=hE;cases e;obtain⟨cnt,o2,o3,o4,o5⟩:=hw.one;have kc:=(hw.kc EA).1;refine⟨_,Z,.inl ⟨ex,C',dx,.ref R.n,.ref R.n,false,Z,e1,kc.k,Z,kc.i0,?_⟩⟩;refine⟨_,Z,.inl ⟨ex,C',dx,.ref R.o,.ref R.o,false,Z,e1,kc.k,Z,kc.i1,?_⟩⟩;refine⟨_,Z,.inl ⟨ex,C',dx,.ref R.f,.ref R.f,b2,Z,e1,kc.k,Z,kc.i2,?_⟩⟩;refine⟨_,Z,.inl ⟨ex,C',dx,.ref R.m,.ref R.m,b3,Z,e1,kc.k,Z,kc.i3,?_⟩⟩;refine⟨bZ Z,λl H2 n2=>?_⟩;have e2:=n2.same _ _ e1;refine⟨_,Z,.inl ⟨Z,_,aJ.of n2.at'⟩,_,Z,.inl ⟨ex,C',dx,.ref R.r,.ref R.r,b4,Z,e2,kc.k,Z,kc.i4,l,_,_,Z,Z,n2.at',by show 4<_;lia,?_⟩⟩;have yY:ex≠l:=λz=>by have:=n2.no;rw[<-z,e1]at this;cases this
    have e3:(L2.upd H2 l (.lst ([V.bl false,.bl false,.bl b2,.bl b3]++[.bl b4]))) ex=some (.ext (oK ex (.ref C') dx)):=by rw[aK yY];exact e2
    have e4:(L2.upd H2 l (.lst ([V.bl false,.bl false,.bl b2,.bl b3]++[.bl b4]))) l=some (.lst ([false,false,b2,b3,b4].map V.bl)):=bf;have s3:aG H' (L2.upd H2 l (.lst ([V.bl false,.bl false,.bl b2,.bl b3]++[.bl b4]))):=λb' o' eb=>by
     have nb:b'≠l:=λz=>by have:=n2.no;rw[<-z,sm _ _ eb]at this;cases this
     rw[aK nb];exact n2.same _ _ (sm _ _ eb)
    generalize L2.upd H2 l (.lst ([V.bl false,.bl false,.bl b2,.bl b3]++[.bl b4]))=H3 at e3 e4 s3⊢;refine⟨_,Z,bZ Z,λtp H4 n4=>?_⟩;have e5:=n4.same _ _ e3;have e6:=n4.same _ _ e4;have s4:=s3.trans n4.same;refine .inr ⟨ex,C',tp,dx,[c0,c1,c2,c3,c4,c5],false,Z,e5,kc.k,n4.at',kc.any,?_⟩;refine⟨_,Z,.inl ⟨Z,_,aJ.of e6⟩,l,_,Z,Z,aJ.of e6,.inl ⟨_,_,Z,Z,_,Z,?_⟩⟩;rw[show(!decide (((([false,false,b2,b3,b4].count true:Nat)):Int)=1))=false by rw[cnt];rfl];refine bK ⟨_,Z,_,Z,bK ?_⟩;refine⟨_,Z,.inl ⟨ex,C',dx,.ty "ValueError",.type "ValueError",true,Z,e5,kc.k,Z,kc.ve,_,Z,bK ?_⟩⟩;refine⟨_,Z,.inl ⟨l,_,1,.bl false,Z,Z,aJ.of e6,Z,_,Z,?_⟩⟩;refine bK ?_;refine⟨bZ Z,λlw H5 n5=>?_⟩;refine⟨_,Z,.inl ⟨Z,_,aJ.of (n5.same _ _ e6)⟩,l,_,j,Z,Z,aJ.of (n5.same _ _ e6),o2,o3,o4,?_⟩;exact .inl ⟨lw,_,_,_,Z,Z,aJ.of n5.at',o5,kq _ (s4.trans n5.same)⟩
end
end Lw
set_option maxHeartbeats 4000000
namespace Lw
open PySem PySem.Spec PyProof.Rows L2 Rt Ln Cn Pn Wk Rn
open Ow (topR cornO mnO betR atO ownF leadF ownL OkI OkIs)
section
variable {w:World}{mg:Str->Option Value}{base:Heap}
structure bT(K:aa)(C T:Addr)(qn:Str)(H:Hp)(M:bL)(n:Nat)(A:Ad)(p:Addr)(S:bh):Prop where
 run:cD K C H A.a A.q M S
 sim:dC K H A.d A.e A.t M S
 ok:cj M (64+10*n) S
 sm:SM S
 told:mC K H A.t (40+n) (λl=>l∈A.all\/l=p)
 nd:A.all.Nodup
 tab:TabAt H T qn
 on:fD M.rs (cM S)
 bS:gM H p
 np:p∉A.all
section
variable {C T:Addr}{qn:Str}{H H':Hp}{M:bL}{n:Nat}{A:Ad}{p:Addr}{S:bh}
theorem bT.kind(h:bT K C T qn H M n A p S):∀x∈A.all,∃o,H x=some o/\Ak o/\∀ps,o≠ .fF ps:=by
 intro x hx;obtain⟨dx,QG,UQ,cx,tv,e,_⟩:=h.run.ob;obtain⟨zs,eq,_⟩:=h.run.qu;obtain⟨mv,lv,gv,sv,bv,cv,rv,ez,_⟩:=h.sim.ob;obtain⟨ys,ee,_⟩:=h.sim.qu;obtain⟨ts,et,_⟩:=h.told;simp only[Ad.all,bM,cL,dv]at hx;rcases hx with rfl|rfl|rfl|rfl|rfl
 ·exact⟨_,e,trivial,λ_ z=>nomatch z⟩
 ·exact⟨_,eq,trivial,λ_ z=>nomatch z⟩
 ·exact⟨_,ez,trivial,λ_ z=>nomatch z⟩
 ·exact⟨_,ee,trivial,λ_ z=>nomatch z⟩
 ·exact⟨_,et,trivial,λ_ z=>nomatch z⟩
theorem bT.here(h:bT K C T qn H M n A p S):∀x,(x∈A.all\/x=p)->H x≠none:=by
 intro x hx;rcases hx with hx|rfl
 ·obtain⟨o,e,_⟩:=h.kind x hx
  rw[e];simp
 ·obtain⟨c,m,e,_⟩:=h.bS
  rw[e];simp
theorem bT.nT(h:bT K C T qn H M n A p S):T∉A.all:=λhx=>by obtain⟨o,e,_,hn⟩:=h.kind T hx;obtain⟨ps,et,_⟩:=h.tab;rw[e]at et;exact hn _ (eg et)
theorem bT.QD(h:bT K C T qn H M n A p S):T≠p:=λhx=>by obtain⟨c,m,e,_⟩:=h.bS;obtain⟨ps,et,_⟩:=h.tab;rw[<-hx,et]at e;cases e
theorem bT.v(h:bT K C T qn H M n A p S)(b:bc (T::p::A.all) H H'):bW H H':=by
 refine b.v λx hx o eo=>?_;rcases bM.mp hx with z|hx
 ·obtain⟨ps,et,_⟩:=h.tab
  rw[z,et]at eo;cases eo;trivial
 ·rcases bM.mp hx with z|hx
  ·obtain⟨c,m,e,_⟩:=h.bS
   rw[z,e]at eo;cases eo;trivial
  ·obtain⟨o',e,c,_⟩:=h.kind x hx
   rw[eo]at e;cases e;exact c
theorem TabAt.but{q:Str}{S':List Addr}(h:TabAt H T q)(b:bc S' H H')(hT:T∉S')(hS:∀x∈S',∀φ,H x≠some (.ext φ)):TabAt H' T q:=h.keep (λps e=>b _ _ e hT) λx φ e=>b _ _ e λhx=>hS x hx φ e
theorem gM.but{S':List Addr}(h:gM H p)(b:bc S' H H')(hp:p∉S'):gM H' p:=by obtain⟨c,m,e,k⟩:=h;exact⟨c,m,b _ _ e hp,k⟩
theorem bT.uk(h:bT K C T qn H M n A p S):∀x∈p::A.all,∀φ,H x≠some (.ext φ):=λx hx φ e=>by
 rcases bM.mp hx with z|hx
 ·obtain⟨c,m,e',_⟩:=h.bS
  rw[z,e']at e;cases e
 ·obtain⟨o',e',c,_⟩:=h.kind x hx
  rw[e]at e';cases e';exact c
theorem bT.kZ(h:bT K C T qn H M n A p S)(x:cn p H H'):bT K C T qn H' M n A p S:=by have b:bc [p] H H':=λb o e hb=>x.same b o (λz=>hb (by rw[z];exact .head _)) e;have v:=(cn.t h.bS x).v;have np:∀y∈A.all,∀o,H y=some o->H' y=some o:=λy hy o e=>x.same y o (λz=>h.np (z▸hy)) e;refine⟨h.run.go h.ok.row.no v (np _ (by simp[Ad.all])) (np _ (by simp[Ad.all])),h.sim.go h.ok.row.no v (np _ (by simp[Ad.all])) (np _ (by simp[Ad.all])),h.ok,h.sm,h.told.go (bR _) v (np _ (by simp[Ad.all])) λl us hx e=>⟨x.same _ _ (λz=>hx (.inr z)) e,hx⟩,h.nd,?_,h.on,x.bS,h.np⟩;exact TabAt.but h.tab b (by rw[bU];exact h.QD) λy hy φ=>h.uk y (by rw[bU.mp hy];exact .head _) φ
theorem bT.same(h:bT K C T qn H M n A p S)(s:aG H H'):bT K C T qn H' M n A p S:=⟨h.run.same h.ok.row.no s,h.sim.same h.ok.row.no s,h.ok,h.sm,h.told.go (bR _) s.v (λo e=>s _ _ e) λl us hx e=>⟨s _ _ e,hx⟩,h.nd,h.tab.keep (λps e=>s _ _ e) (λb φ e=>s _ _ e),h.on,by obtain⟨c,m,e,k⟩:=h.bS;exact⟨c,m,s _ _ e,k⟩,h.np⟩
theorem bT.a4z{p':Addr}(h:bT K C T qn H M n A p S)(s:aG H H')(nw:H p'=none)(bg:gM H' p'):bT K C T qn H' M n A p' S:=by have h':=h.same s;refine⟨h'.run,h'.sim,h'.ok,h'.sm,h.told.go (bR _) s.v (λo e=>s _ _ e) λl us hx e=>⟨s _ _ e,λz=>z.elim (λz=>hx (.inl z)) λz=>?_⟩,h'.nd,h'.tab,h'.on,bg,λz=>h.here _ (.inl z) nw⟩;rw[z,nw]at e;cases e
theorem bT.mono{m:Nat}(h:bT K C T qn H M n A p S)(h1:n<=m)(h2:m<=100):bT K C T qn H M m A p S:=⟨h.run,h.sim,h.ok.mono aw aw,h.sm,h.told.go aw (λ_ _ _ e=>e) (λ_ e=>e) λl us hx e=>⟨e,hx⟩,h.nd,h.tab,h.on,h.bS,h.np⟩
theorem bT.upd{S':bh}(h:bT K C T qn H M n A p S)(q':Addr)(b:bc (T::p::A.all) H H')(nq:q'=A.q\/H q'=none)(R:cD K C H' A.a q' M S')(aeE:dC K H' A.d A.e A.t M S')(ok:cj M (64+10*(n+1)) S')(sm:SM S') (To:mC K H' A.t (40+(n+1)) (λl=>l∈A.all\/l=p\/l=q'))(tab:TabAt H' T qn)(on:fD M.rs (cM S'))(bS:gM H' p):bT K C T qn H' M (n+1) {A with q:=q'} p S':=by
 have Vb:∀x,x∈({A with q:=q'}:Ad).all->x∈A.all\/x=q':=λx m=>by simp only[Ad.all,bM,cL,dv]at m⊢;rcases m with z|z|z|z|z<;>simp[z]
 have PB:q'=A.q\/(q'∉A.all/\q'≠p):=nq.imp id λz=>⟨λm=>h.here _ (.inl m) z,λe=>h.here _ (.inr e) z⟩;refine⟨R,aeE,ok,sm,To.go (bR _) (λ_ _ _ e=>e) (λ_ e=>e) λl us hx e=>⟨e,λz=>?_⟩,?_,tab,on,bS,λz=>?_⟩
 ·rcases z with z|z
  ·exact hx ((Vb _ z).elim .inl λz=>.inr (.inr z))
  ·exact hx (.inr (.inl z))
 ·have nd:=h.nd
  rcases PB with e|⟨e,_⟩
  ·rw[e];exact nd
  ·simp only[Ad.all,oN,bM,cL,dv,qz]at nd e⊢
   obtain⟨⟨t1,t2,t3,t4⟩,⟨t5,t6,t7⟩,t8⟩:=nd;obtain⟨e1,e2,e3,e4,e5⟩:=e;exact⟨⟨eu e1,t2,t3,t4⟩,⟨e3,e4,e5⟩,t8⟩
 ·rcases Vb _ z with z|z
  ·exact h.np z
  ·rcases PB with e|⟨_,e⟩
   ·exact h.np (by rw[z,e];simp[Ad.all])
   ·exact e z.symm
theorem bT.Mg{S':bh}(h:bT K C T qn H M n A p S)(q':Addr)(b:bc (T::p::A.all) H H')(et:∀o,H A.t=some o->H' A.t=some o)(nq:q'=A.q\/H q'=none)(R:cD K C H' A.a q' M S')(aeE:dC K H' A.d A.e A.t M S')(ok:cj M (64+10*(n+1)) S')(sm:SM S') (tab:TabAt H' T qn)(on:fD M.rs (cM S'))(bS:gM H' p):bT K C T qn H' M (n+1) {A with q:=q'} p S':=by
 refine h.upd q' b nq R aeE ok sm (h.told.go aw (h.v b) et λl us hx e=>⟨b _ _ e λm=>?_,λz=>?_⟩) tab on bS
 ·rcases bM.mp m with z|m
  ·obtain⟨ps,e',_⟩:=h.tab
   rw[z,e']at e;cases e
  ·exact hx ((bM.mp m).elim .inr .inl)
 ·rcases z with z|z|z
  ·exact hx (.inl z)
  ·exact hx (.inr z)
  ·rcases nq with g|g
   ·exact hx (.inl (by rw[z,g];simp[Ad.all]))
   ·rw[<-z,e]at g;cases g
end
section
variable {C T:Addr}{qn:Str}{H H' H1 H2:Hp}{M:bL}{n:Nat}{A:Ad}{p:Addr}{S S1:bh}{q':Addr}
theorem bT.rj(h:bT K C T qn H M n A p S):A.a∉[A.d,A.e]/\A.q∉[A.d,A.e]/\A.t∉[A.d,A.e]/\A.d∉[A.a,A.q]/\A.e∉[A.a,A.q]/\A.t∉[A.a,A.q]:=by have nd:=h.nd;simp only[Ad.all,oN,bM,cL,dv,qz]at nd⊢;obtain⟨⟨t1,t2,t3,t4⟩,⟨t5,t6,t7⟩,⟨t8,t9⟩,tP,_⟩:=nd;exact⟨⟨t2,t3⟩,⟨t5,t6⟩,⟨eu t9,eu tP⟩,⟨eu t2,eu t5⟩,⟨eu t3,eu t6⟩,⟨eu t4,eu t7⟩⟩
theorem B7{A:Ad}:∀x,x∈[A.a,A.q]->x∈T::p::A.all:=λx hx=>by simp only[Ad.all,bM,cL,dv]at hx⊢;rcases hx with z|z<;>simp[z]
theorem B6{A:Ad}:∀x,x∈[A.d,A.e]->x∈T::p::A.all:=λx hx=>by simp only[Ad.all,bM,cL,dv]at hx⊢;rcases hx with z|z<;>simp[z]
theorem bT.mid(h:bT K C T qn H M n A p S)(b1:bc [A.a,A.q] H H1):dC K H1 A.d A.e A.t M S:=h.sim.go h.ok.row.no (h.v (b1.mono B7)) (λo e=>b1 _ _ e h.rj.2.2.2.1) (λo e=>b1 _ _ e h.rj.2.2.2.2.1)
theorem bT.fin(h:bT K C T qn H M n A p S)(R1:cD K C H1 A.a q' M S1)(b1:bc [A.a,A.q] H H1)(nq:q'=A.q\/H q'=none)(Z2:dC K H2 A.d A.e A.t M S1)(b2:bc [A.d,A.e] H1 H2)(ok:cj M (64+10*(n+1)) S1)(sm:SM S1)(on:fD M.rs (cM S1)):bT K C T qn H2 M (n+1) {A with q:=q'} p S1/\bc (T::p::A.all) H H2:=by
 have bb:bc (T::p::A.all) H H2:=(b1.mono B7).trans (b2.mono B6);obtain⟨n1,n2,n3,n4,n5,n6⟩:=h.rj;have Z1:=h.mid b1;have ng:bW H1 H2:=Z1.v b2;have q2:q'∉[A.d,A.e]:=by
  rcases nq with z|z
  ·rw[z];exact n2
  ·intro m
   refine h.here q' (.inl ?_) z;simp only[Ad.all,bM,cL,dv]at m⊢;rcases m with e|e<;>simp[e]
 have pn:∀S':List Addr,(∀x∈S',x∈A.all)->p∉S':=λS' hs m=>h.np (hs p m);have in1:∀x∈[A.a,A.q],x∈A.all:=λx hx=>by simp only[Ad.all,bM,cL,dv]at hx⊢;rcases hx with z|z<;>simp[z]
 have Cj:∀x∈[A.d,A.e],x∈A.all:=λx hx=>by simp only[Ad.all,bM,cL,dv]at hx⊢;rcases hx with z|z<;>simp[z]
 have yi:=TabAt.but h.tab b1 (λm=>h.nT (in1 _ m)) λx hx φ=>h.uk x (.tail _ (in1 x hx)) φ;have yh:=TabAt.but yi b2 (λm=>h.nT (Cj _ m)) λx hx φ e=>by
  obtain⟨o,eo,_,_⟩:=h.kind x (Cj x hx);have e1:H1 x=some o:=b1 _ _ eo (λm=>by
   simp only[bM,cL,dv]at hx m;rcases hx with z|z<;>rcases m with g|g
   ·exact n4 (by rw[<-z,g];simp)
   ·exact n4 (by rw[<-z,g];simp)
   ·exact n5 (by rw[<-z,g];simp)
   ·exact n5 (by rw[<-z,g];simp));rw[e]at e1;cases e1;exact h.uk x (.tail _ (Cj x hx)) φ eo
 refine⟨h.Mg q' bb (λo e=>b2 _ _ (b1 _ _ e n6) n3) nq (R1.go ok.row.no ng (λo e=>b2 _ _ e n1) (λo e=>b2 _ _ e q2)) Z2 ok sm yh on ((h.bS.but b1 (pn _ in1)).but b2 (pn _ Cj)),bb⟩
end
section
variable {C T:Addr}{qn:Str}{H H':Hp}{M:bL}{n:Nat}{A:Ad}{p:Addr}{S:bh}
theorem bT.lam(h:bT K C T qn H M n A p S)(b:bc [T] H H')(tab:TabAt H' T qn):bT K C T qn H' M n A p S:=by
 have bb:bc (T::p::A.all) H H':=b.mono λx hx=>by rw[bU.mp hx];exact .head _
 have v:=h.v bb;have nT:∀{x},x∈A.all->x∉[T]:=λhx m=>h.nT (by rw[<-bU.mp m];exact hx);have k:∀{x},x∈A.all->∀o,H x=some o->H' x=some o:=λhx o e=>b _ _ e (nT hx);refine⟨h.run.go h.ok.row.no v (k (by simp[Ad.all])) (k (by simp[Ad.all])),h.sim.go h.ok.row.no v (k (by simp[Ad.all])) (k (by simp[Ad.all])),h.ok,h.sm,h.told.go (bR _) v (k (by simp[Ad.all])) λl us hx e=>⟨b _ _ e λm=>?_,hx⟩,h.nd,tab,h.on,h.bS.but b λm=>h.QD (bU.mp m).symm,h.np⟩;obtain⟨ps,e',_⟩:=h.tab;rw[bU.mp m,e']at e;cases e
theorem a1l{R:jC}{outer:List Env}{s':ae}{f c:Addr}{cl:List (Str×Addr)}{pr:Arguments}{b:Expr}{sc:Scope}{q:Str}{N:List Str}{iv:V}{d:ai}{o:Itm}{Q:VK}{E:XK}(L:vm s'.heap H (du outer) f pr b sc q c cl)(hc:H c=some (.ext (jE c q)))(CA:qw s'.heap H (du outer) cl N [.ref A.a,iv])(hN:N.length=2)(Sc:sR N sc)(hb:∀pm cd ct,bindArgs (PySem.W.kla_fn "<lambda>" q pr b sc cl pm cd ct) ⟨[],[]⟩=pure []) (Jb:∀(A:aj)(outer:List Env)(s:ae)(H:Hp)(E:XK),cQ 5 (A.deeper (PySem.W.envX q sc s.heap.objs.size f (.ref c) cl))->PE (pG (jF P w) P w K mg base N q sc f (.ref c) cl A outer s H E) b (vK C "feed" (Be K C R) E (qJ 0) (Et (qJ 1) kM))) (h:bT K C T qn H M n A p S)(rd:RD K H iv d)(it:mY M.rs.length d o)(aM:M.Ok)(mG:fD M.rs (gf (cM S) o))(kf:S.ds.length=20->∀H2,aG H H2->Q (.str "full") H2)(kd:S.ds.length<20->∀H2,cD K C H2 A.a A.q M (lU S d o)->bc [A.a,A.q] H H2->Q (.int (S.ds.length+1:Nat)) H2):yp P w K mg base R 5 outer s' [.ref f] H Q E:=by obtain⟨dx,mv,bv,cx,tv,e,_⟩:=h.run.ob;refine⟨f,c,cl,pr,b,sc,q,N,_,λE=>vK C "feed" (Be K C R) E (qJ 0) (Et (qJ 1) kM),Z,L,hc,CA,hN.symm,Sc,hb,Jb,?_⟩;exact⟨_,Z,A.a,dx,_,Z,e,Z,_,Z,A.a,A.q,M,_,S,iv,d,o,Z,h.run,h.ok,aM,rd,it,mG,λlS H2 s2=>⟨R.f,_,_,_,2,"full",.f,Z,λH3 s3=>kf lS _ (s2.trans s3)⟩,kd⟩
end
section
variable {C T:Addr}{qn:Str}{H H1 H2:Hp}{M:bL}{n:Nat}{A:Ad}{p:Addr}{S S1:bh}
theorem TM{D:Nat}{es:List ai}(ok:cj M D S)(aM:M.Ok)(r:Run M S es S1)(hl:es.length<=100000):Nx (Nx (Nx (Nx A0))) (.list es):=.inr ⟨_,.inr Z,hl,λx hx=>(r.ent ok aM x hx).2⟩
theorem bT.JK(h:bT K C T qn H M n A p S)(b:bc [A.d] H H1):cD K C H1 A.a A.q M S:=by
 have b':bc [A.d,A.e] H H1:=b.mono λx hx=>by rw[bU.mp hx];simp
 exact h.run.go h.ok.row.no (h.v (b'.mono B6)) (λo e=>b' _ _ e h.rj.1) (λo e=>b' _ _ e h.rj.2.1)
theorem bT.brk{mv lv gv sv bv cv rv:V}(h:bT K C T qn H M n A p S)(b:bc [A.d] H H1)(e1:H1 A.d=some (.dK (bI mv lv gv sv (.int S.aD) (.str S.side) (.str S.mark) (.ref A.e) (.int S.dn) .bw cv rv (.ref A.t)))) (hz:H A.d=some (.dK (bI mv lv gv sv (.int S.aD) (.str S.side) (.str S.mark) (.ref A.e) (.int S.dn) bv cv rv (.ref A.t)))/\RD K H mv M.D/\RD K H lv (fu (dR S))/\RD K H gv (fu (cM S))/\bE K H sv S.pc/\vo K H bv cv S.aW/\A9 K H M S rv):dC K H1 A.d A.e A.t M {S with aW:=none}:=by
 have b':bc [A.d,A.e] H H1:=b.mono λx hx=>by rw[bU.mp hx];simp
 have v:=h.v (b'.mono B6);obtain⟨_,r1,r2,r3,r4,r5,r6⟩:=hz;obtain⟨ys,eq,rq⟩:=h.sim.qu;have cvI:∃z,cv= .int z:=by cases hs:S.aW with |none=>rw[hs]at r5;exact r5.2 |some z=>obtain⟨sq,st,gn⟩:=z;rw[hs]at r5;obtain⟨_,_,_,_,_,g⟩:=r5;exact⟨_,g⟩
 exact⟨⟨mv,lv,gv,sv,.bw,cv,rv,e1,RD.v v _ (iJ _ _ _ _ _) r1,RD.v v _ (gD _) r2,RD.v v _ (gD _) r3,r4.v v,⟨Z,cvI⟩,r6.v v⟩,ys,b _ _ eq (by rw[bU];exact h.sim.ne.symm),aP.v v _ h.ok.row.no rq⟩
theorem bT.a9r(h:bT K C T qn H M n A p S)(b1:bc [A.d] H H1)(Z1:dC K H1 A.d A.e A.t M S1)(R2:cD K C H2 A.a A.q M S1)(b2:bc [A.a] H1 H2)(ok:cj M (64+10*(n+1)) S1)(sm:SM S1)(on:fD M.rs (cM S1)):bT K C T qn H2 M (n+1) A p S1/\bc (T::p::A.all) H H2:=by
 have V5:bc [A.d,A.e] H H1:=b1.mono λx hx=>by rw[bU.mp hx];simp
 have sJ:bc [A.a,A.q] H1 H2:=b2.mono λx hx=>by rw[bU.mp hx];simp
 have bb:bc (T::p::A.all) H H2:=(V5.mono B6).trans (sJ.mono B7);obtain⟨n1,n2,n3,n4,n5,n6⟩:=h.rj;have ng:bW H1 H2:=(h.JK b1).v sJ;have dA:A.d∈A.all:=by simp[Ad.all]
 have aA:A.a∈A.all:=by simp[Ad.all]
 have s1:∀{x y:Addr},x≠y->x∉[y]:=λg=>by rw[bU];exact g
 have yi:=TabAt.but h.tab b1 (s1 λz=>h.nT (z▸dA)) λx hx φ=>h.uk x (.tail _ (by rw[bU.mp hx];exact dA)) φ;have yh:=TabAt.but yi b2 (s1 λz=>h.nT (z▸aA)) λx hx φ e=>by rw[bU.mp hx]at e;obtain⟨dx,mv,bv,cx,tv,er,_⟩:=(h.JK b1).ob;rw[er]at e;cases e
 have st:=h.Mg A.q bb (λo e=>sJ _ _ (V5 _ _ e n3) n6) (.inl Z) R2 (Z1.go ok.row.no ng (λo e=>sJ _ _ e n4) (λo e=>sJ _ _ e n5)) ok sm yh on ((h.bS.but b1 (s1 λz=>h.np (z▸dA))).but b2 (s1 λz=>h.np (z▸aA)));exact⟨st,bb⟩
end
theorem acv{T p q' x:Addr}{A:Ad}{H:Hp}{o:HO}(hx:x∉T::p::A.all)(nq:q'=A.q\/H q'=none)(e:H x=some o):x∉T::p::({A with q:=q'}:Ad).all:=λm=>by
 simp only[Ad.all,bM,cL,dv,qz]at m hx;obtain⟨h1,h2,h3,h4,h5,h6,h7⟩:=hx;rcases m with z|z|z|z|z|z|z
 ·exact h1 z
 ·exact h2 z
 ·exact h3 z
 ·rcases nq with g|g
  ·exact h4 (z.trans g)
  ·rw[z,g]at e;cases e
 ·exact h5 z
 ·exact h6 z
 ·exact h7 z
section
variable {C T:Addr}{qn:Str}{H H' H5 H6 H7 H8:Hp}{M:bL}{n:Nat}{A:Ad}{p l:Addr}{S S':bh}{q':Addr}{us:List V}{es:List ai}
theorem bT.ents(h:bT K C T qn H5 M n A p S)(aM:M.Ok)(R6:cD K C H6 A.a q' M S')(jw:Mv A.a A.q H5 q' H6)(nl:H5 l=none)(dl:H6 l=some (.lst us))(lq:l≠q')(rd:aP K H6 us es)(run:Run M S es S')(Z7:dC K H7 A.d A.e A.t M S')(b7:bc [A.d,A.e] H6 H7)(s8:aG H7 H8)(hn:n<=100): bT K C T qn H8 M (n+1) {A with q:=q'} p S'/\bc (T::p::A.all) H5 H8/\H7 l=some (.lst us)/\aP K H7 us es/\l∉T::p::({A with q:=q'}:Ad).all/\mC K H8 A.t (40+(n+1)) (λy=>(y∈({A with q:=q'}:Ad).all\/y=p)\/y=l):=by
 have HU:=run.ok h.ok aM;obtain⟨L7,b57⟩:=h.fin R6 jw.but jw.nq Z7 b7 (HU.mono aw aw) (run.sm h.ok aM h.sm) (by rw[run.goal h.ok aM];exact h.on);have lA:l∉T::p::A.all:=λm=>by
  rcases bM.mp m with z|m
  ·obtain⟨ps,e,_⟩:=h.tab
   rw[z,e]at nl;cases nl
  ·exact h.here l ((bM.mp m).elim .inr .inl) nl
 have lA':l∉T::p::({A with q:=q'}:Ad).all:=λm=>by
  simp only[Ad.all,bM,cL,dv,qz]at m lA;obtain⟨h1,h2,h3,h4,h5,h6,h7⟩:=lA;rcases m with z|z|z|z|z|z|z
  ·exact h1 z
  ·exact h2 z
  ·exact h3 z
  ·exact lq z
  ·exact h5 z
  ·exact h6 z
  ·exact h7 z
 have vf:bc (T::p::A.all) H5 H8:=λx o e hx=>s8 _ _ (b57 _ _ e hx);refine⟨L7.same s8,vf,b7 _ _ dl λm=>?_,aP.v (dC.v (h.mid jw.but) b7) _ (run.no h.ok aM) rd,lA',h.told.go aw (h.v vf) (λo e=>s8 _ _ (b7 _ _ (jw.but _ _ e h.rj.2.2.2.2.2) h.rj.2.2.1)) λy kh hx e=>⟨vf _ _ e λm=>?_,λz=>?_⟩⟩
 ·refine lA (iR _ (iR _ ?_))
  simp only[Ad.all,bM,cL,dv]at m⊢;rcases m with z|z<;>simp[z]
 ·rcases bM.mp m with z|m
  ·obtain⟨ps,e',_⟩:=h.tab
   rw[z,e']at e;cases e
  ·exact hx ((bM.mp m).elim .inr .inl)
 ·rcases z with(z|z)|z
  ·refine acv (T:=T) (p:=p) (A:=A) (λm=>?_) jw.nq e (iR _ (iR _ z))
   rcases bM.mp m with z|m
   ·obtain⟨ps,e',_⟩:=h.tab
    rw[z,e']at e;cases e
   ·exact hx ((bM.mp m).elim .inr .inl)
  ·exact hx (.inr z)
  ·rw[z,nl]at e;cases e
theorem bT.free(h:bT K C T qn H M n A p S)(To:mC K H A.t (40+n) (λy=>(y∈A.all\/y=p)\/y=l))(hl:l∉T::p::A.all)(el:H l=some (.lst us))(b:bc [l] H H'):bT K C T qn H' M n A p S:=by
 have v:bW H H':=b.v λx hx o eo=>by rw[bU.mp hx,el]at eo;cases eo;trivial
 have k:∀{x},x∈T::p::A.all->x∉[l]:=λhx m=>hl (by rw[<-bU.mp m];exact hx);have kA:∀{x},x∈A.all->∀o,H x=some o->H' x=some o:=λhx o e=>b _ _ e (k (iR _ (iR _ hx)));refine⟨h.run.go h.ok.row.no v (kA (by simp[Ad.all])) (kA (by simp[Ad.all])),h.sim.go h.ok.row.no v (kA (by simp[Ad.all])) (kA (by simp[Ad.all])),h.ok,h.sm,To.go (bR _) v (kA (by simp[Ad.all])) λy kh hx e=>⟨b _ _ e λm=>hx (.inr (bU.mp m)),λz=>hx (.inl z)⟩,h.nd,TabAt.but h.tab b (k (.head _)) λx hx φ e=>?_,h.on,h.bS.but b (k (.tail _ (.head _))),h.np⟩;rw[bU.mp hx,el]at e;cases e
theorem bT.tell{tt tp:Addr}{ts:List V}{HC:Hp}(h:bT K C T qn H M n A p S)(hl:l∉T::p::A.all)(el:H l=some (.lst us))(res:aP K H us es)(xC:Aj es)(sC:aG H HC)(htt:aU K HC tt us)(J2:aU K HC tp [.ref l,.ref tt])(et:HC A.t=some (.lst ts))(hn:n<=99):bT K C T qn (L2.upd HC A.t (.lst (ts++[.ref tp]))) M (n+1) A p S/\bc (T::p::A.all) H (L2.upd HC A.t (.lst (ts++[.ref tp]))):=by
 have LC:=(h.same sC).mono (Nat.le_succ n) aw;obtain⟨t0,e0,l0,ht⟩:=(h.same sC).told;rw[et]at e0;cases e0;have vD:bW HC (L2.upd HC A.t (.lst (ts++[.ref tp]))):=.upd et trivial;have bD:bc [A.t] HC (L2.upd HC A.t (.lst (ts++[.ref tp]))):=sF (by simp);have eD:(L2.upd HC A.t (.lst (ts++[.ref tp]))) A.t=some (.lst (ts++[.ref tp])):=bf;have tA:A.t∈A.all:=by simp[Ad.all]
 generalize L2.upd HC A.t (.lst (ts++[.ref tp]))=HD at vD bD eD⊢;have s1:∀{x:Addr},x≠A.t->x∉[A.t]:=λg=>by rw[bU];exact g
 have nd:=h.nd;simp only[Ad.all,oN,bM,cL,dv,qz]at nd;obtain⟨⟨t1,t2,t3,t4⟩,⟨t5,t6,t7⟩,⟨t8,t9⟩,tP,_⟩:=nd;have no:=LC.ok.row.no;refine⟨⟨LC.run.go no vD (λo e=>bD _ _ e (s1 t4)) (λo e=>bD _ _ e (s1 t7)),LC.sim.go no vD (λo e=>bD _ _ e (s1 t9)) (λo e=>bD _ _ e (s1 tP)),LC.ok,LC.sm,⟨ts++[.ref tp],eD,by rw[fy];show ts.length+1<=_;lia,λy hy=>?_⟩,LC.nd,TabAt.but LC.tab bD (s1 λz=>LC.nT (by rw[z];exact tA)) λx hx φ=>LC.uk x (iR _ (by rw[bU.mp hx];exact tA)) φ,LC.on,LC.bS.but bD (s1 λz=>LC.np (by rw[z];exact tA)),LC.np⟩,λx o e hx=>bD _ _ (sC _ _ e) (s1 λz=>hx (by rw[z];exact iR _ (iR _ tA)))⟩;rcases vy.mp hy with hy|hy
 ·obtain⟨p0,l0',ta,u0,e0,h1,h2,h3,h4,h5,h6,h7⟩:=ht y hy
  exact⟨p0,l0',ta,u0,e0,h1,aU.v vD h2,bD _ _ h3 (s1 λz=>h7 (.inl (by rw[z];exact tA))),aU.v vD h4,aP.v vD _ h6.2.2 h5,h6,h7⟩
 ·rw[bU]at hy
  exact⟨tp,l,tt,us,es,hy,aU.v vD J2,bD _ _ (sC _ _ el) (s1 λz=>hl (by rw[z];exact iR _ (iR _ tA))),aU.v vD htt,aP.v vD _ xC.2.2 (aP.mono sC _ res),xC,λz=>hl (z.elim (λz=>iR _ (iR _ z)) λz=>by rw[z];exact .tail _ (.head _))⟩
end
theorem a6d{M:bL}{ms:List Int}{sp:Int}(HS:fw M.rs.length 100 ms)(gZ:1<=sp)(iD:sp<=20):mY M.rs.length (iW ms sp) (some (ms,sp)):=⟨.inl ⟨ms,sp,Z,Z⟩,λn' s' e=>by cases e;exact⟨HS,gZ,iD⟩,λe=>by cases e⟩
theorem a6c{n:Nat}{d:ai}(h:qq d):mY n d none:=⟨h.it,(λ_ _ e=>nomatch e),λ_=>h⟩
end
end Lw
set_option maxHeartbeats 2000000
namespace Lw
open PySem PySem.Spec PyProof.Rows L2 Rt Ln Cn Pn Wk Rn
open Ow (topR cornO mnO betR atO ownF leadF ownL OkI OkIs)
section
variable {w:World}{mg:Str->Option Value}{base:Heap}
def mS(S:bh):bh:={S with pl:=dR S,dn:=0,ds:=[],os:=[]}
theorem cj.drop{M:bL}{D:Nat}{S:bh}(h:cj M D S):cj M D (mS S):=⟨.nil,λi d e=>by simp[mS]at e,by simp[mS],h.dh,h.dF,.inl rfl,Hu h,h.pd,h.pm,h.aW,h.D1,h.D2⟩
theorem Sx{pc:Rat}{t:Rn.gA}:(t.isSome&&decide (pc=0))=true↔Halt pc t:=by unfold Halt;cases t with |none=>simp |some z=>simp
theorem O9:bF ["self","dropped"] ["self"] (aZ FU):=bP aY
inductive Wj(K:aa)(C:Addr)(R:jC)(vs:List V)(H:Hp)(Q:VK)(E:XK):Prop |mk (a:_)(q:_)(M:_)(D:_)(S:_)(h0:vs=[.ref a])(h1:cD K C H a q M S)(h2:cj M D S)(h3:M.Ok)(h4:(¬Halt S.pc S.aW->∀H',aG H H'->E (.ref R.m) none H'))(h5:(Halt S.pc S.aW->∀q' H',cD K C H' a q' M (mS S)->H q'=none->bc [a] H H'->Q (.int (S.ds.length:Nat)) H')):Wj K C R vs H Q E
def Bf(K:aa)(C:Addr)(R:jC):Sp:=λvs H Q E=>Wj K C R vs H Q E
theorem a3A{C:Addr}{R:jC}(F:MA K C "drop" "Runner.drop" FU)(TC:fV K C)(B:bV mg)(a8P:Exc K mg "Moving" R.m qi qV)(zE:cN P w K mg base C "is_halted" 2 (fh K C λ_ S H Q=>Q (.bl (S.aW.isSome&&decide (S.pc=0))) H))(JD:cN P w K mg base C "place" 3 (fh K C λ_ S H Q=>∀v H',RD K H' v (fu (dR S))->aG H H'->Q v H')):vk P w K mg base C "drop" 5 (Bf K C R):=by
 refine F.Sv O9 (λvs H Q E h=>?_) (λ_ _ _ _ _ _=>eR λ_=>rfl) (λf aQ A outer s H vs Q E hr h=>?_)
 ·obtain⟨a,q,M,D,S,rfl,_⟩:=h
  rfl
 ·obtain⟨a,q,M,D,S,rfl,Ra,ok,aM,k1,k2⟩:=h
  obtain⟨dx,mv,bv,cx,tv,e,r1,r2,r3,r4⟩:=Ra.ob;obtain⟨ys,eq,rq⟩:=Ra.qu;have aq:=Ra.ne;have nd:=O9.nd;have ly:=rq.length;refine⟨_,(aF (bN (eO (cP (gs zE TC.cl (hr.mono aB) (pv 0)))) (aH (PD (λ_ _ _ _ _ _ _ I m q=>M4 I m q) a8P PySem.F.excBase_ValueError hr.hd Z (au ba az))) bQ) (aF (pS 1 nd (dJ K B (au (cS TC.cl TC.iI (pv 0)) az))) (aF (ie TC.cl TC.uu (pv 0) (gs JD TC.cl (hr.mono aB) (pv 0))) (aF (ie TC.cl TC.nR (pv 0) aE) (aF (ie TC.cl TC.iI (pv 0) (dj az)) (aH (aX (pv 1)))))))),?_⟩;refine⟨_,Z,a,dx,_,Z,e,Z,a,q,M,D,S,Z,Ra,ok,aM,_,Z,?_⟩;cases hh:(S.aW.isSome&&decide (S.pc=0))with |false=>exact cf ⟨bZ Z,k1 (λz=>by rw[Sx.mpr z]at hh;cases hh) _ (aG.refl _)⟩ |true=>
   refine bK ?_;have hH:=Sx.mp hh;refine⟨_,Z,a,dx,_,_,Z,e,Z,q,_,Z,.inl (aJ.of eq),?_⟩;refine⟨_,Z,a,dx,_,Z,e,Z,a,q,M,D,S,Z,Ra,ok,aM,λu H1 ru s1=>?_⟩;have e1:=s1 _ _ e;refine⟨_,Z,a,dx,_,Z,e1,by show 9<1000;decide,?_⟩;refine⟨_,Z,a,dx,_,Z,bf,by show 9<1000;decide,?_⟩;refine⟨bZ Z,λq' H2 n2=>?_⟩;have e2:=n2.same _ _ (bf (a:=a));refine⟨_,Z,a,dx,_,Z,e2,by show 9<1000;decide,?_⟩;have sM:a≠q':=λz=>by have:=n2.no;rw[<-z,bf]at this;cases this
   have key:∀X:Hp,(∀b,b≠a->X b=H2 b)->Q (.int (S.ds.length:Nat)) (L2.upd X a (.ins C dx (fM mv u (.int 0) (.ref q') cx (.int S.aD) (.str S.side) (.str S.mark) tv))):=by
    intro X hX;have zI:∀b o',b≠a->H1 b=some o'->H2 b=some o':=λb o' ha eb=>n2.same _ _ (by rw[aK ha,aK ha];exact eb);have bt:bc [a] H (L2.upd X a (.ins C dx (fM mv u (.int 0) (.ref q') cx (.int S.aD) (.str S.side) (.str S.mark) tv))):=λb o' eb hb=>by have ha:b≠a:=λz=>hb (by rw[z];exact .head _);rw[aK ha,hX b ha];exact zI _ _ ha (s1 _ _ eb)
    have sv:=bt.v λx hx o' eo=>by rw[bU]at hx;rw[hx,e]at eo;cases eo;trivial
    have vL:bW H1 (L2.upd X a (.ins C dx (fM mv u (.int 0) (.ref q') cx (.int S.aD) (.str S.side) (.str S.mark) tv))):=λb o' nb eb=>by
     have ha:b≠a:=λz=>by rw[z,e1]at eb;cases eb;exact nb trivial
     rw[aK ha,hX b ha];exact zI _ _ ha eb
    refine k2 hH q' _ ⟨⟨dx,mv,u,cx,tv,bf,RD.v sv _ (iJ _ _ _ _ _) r1,RD.v vL _ (gD _) ru,r3.v sv,r4.v sv⟩,[],?_,cX⟩ ?_ bt
    ·rw[aK sM.symm,hX q' sM.symm];exact n2.at'
    ·cases e':H q' with |none=>rfl |some o'=>have h1:=s1 _ _ e';have h2:=n2.no;rw[aK sM.symm,aK sM.symm,h1]at h2;cases h2
   refine⟨_,Z,?_⟩;rw[ly];exact key _ (λb hb=>rfl)
inductive W4(K:aa)(vs:List V)(H:Hp)(Q:VK):Prop |mk (d:_)(q:_)(td:_)(M:_)(D:_)(S:_)(h0:vs=[.ref d])(h1:dC K H d q td M S)(h2:cj M D S)(h3:M.Ok)(h4:(¬Halt S.pc S.aW->∀H',aG H H'->Q (.str "moving") H'))(h5:(Halt S.pc S.aW->∀q' H',dC K H' d q' td M (mS S)->H q'=none->bc [d] H H'->Q (.int (S.ds.length:Nat)) H')):W4 K vs H Q
def N4(K:aa):Sp:=λvs H Q _=>W4 K vs H Q
theorem a21(S:bh):dR (mS S)=dR S:=by show(if(0:Nat)=0 then dR S else _)=_;exact bp rfl
theorem NX:bF ["_law_sim_here","_law_many"] ["_law_sim_here"] (aZ Fs):=bP aY
theorem a3c(F:FA K mg "_law_sim_drop" Fs)(B:bV mg):aI P w K mg base "_law_sim_drop" 1 (N4 K):=by
 refine F.has NX (λvs H Q E h=>?_) (λ_ _ _ _ _ _=>eR λ_=>rfl) (λf aQ A outer s H vs Q E hr h=>?_)
 ·obtain⟨d,q,td,M,D,S,rfl,_⟩:=h
  rfl
 ·obtain⟨d,q,td,M,D,S,rfl,R,ok,aM,k1,k2⟩:=h
  obtain⟨mv,lv,gv,sv,bv,cv,rv,e,r1,r2,r3,r4,r5,r6⟩:=R.ob;obtain⟨ys,eq,rq⟩:=R.qu;have dq:=R.ne;have nd:=NX.nd;have ly:=rq.length;refine⟨_,(aF (bN (PW.pt (kQ (ck HP (cE hr (pv 0) ba) je (bB _)) (lF (ck (jv K Z hr.units) (cE hr (pv 0) ba) (ek (au aE (au aE az))) (bB _))))) (aH (aX ba)) bQ) (aF (pS 1 nd (dJ K B (au (cE hr (pv 0) ba) az))) (aF (fU (fk hr.units) (pv 0) ba (dj az) Z) (aF (fU (fk hr.units) (pv 0) ba aE Z) (aF (fU (fk hr.units) (pv 0) ba je Z) (aF (fU (fk hr.units) (pv 0) ba (cE hr (pv 0) ba) Z) (aH (aX (pv 1))))))))),?_⟩;refine⟨_,Z,d,_,Z,dg e xq,Z,_,Z,?_⟩;cases hs:S.aW with |none=>rw[hs]at r5;rw[r5.1];exact cf (k1 (λz=>z.1 hs) _ (aG.refl _)) |some z=>
   have hb:bv≠ .bw:=by obtain⟨sq,st,gn⟩:=z;rw[hs]at r5;obtain⟨_,_,rfl,_⟩:=r5;intro g;cases g
   rw[fb hb];refine bK ?_;refine⟨_,Z,d,_,Z,dg e rV,bZ Z,λtz H1 n1=>?_⟩;refine .inr ⟨cY S.pc,cY 0,(r4.go n1.same).rd,(qX (aU.of n1.at')).rd,Z,Z,_,Z,?_⟩;rw[He];by_cases hp:S.pc=0
   ·rw[cR hp]
    refine bK ?_;have e1:=n1.same _ _ e;have eq1:=n1.same _ _ eq;refine⟨_,Z,d,_,Z,dg e1 lT,q,ys,Z,.inl (aJ.of eq1),?_⟩;refine⟨bZ Z,λq' H2 n2=>?_⟩;have e2:=n2.same _ _ e1;refine⟨_,Z,d,_,Z,dp e2 a2v iU,?_⟩;refine⟨_,Z,d,_,Z,dp bf HH iU,?_⟩;refine⟨_,Z,d,_,Z,dp bf yP iU,?_⟩;refine⟨_,Z,d,_,Z,dg bf JM,_,Z,d,_,Z,dp bf PZ iU,?_⟩;refine⟨_,Z,?_⟩;have dq':d≠q':=λz=>by have:=n2.no;rw[<-z,e1]at this;cases this
    have key:∀X:Hp,(∀b,b≠d->X b=H2 b)->X d=some (.dK (bI mv lv lv sv (.int S.aD) (.str S.side) (.str S.mark) (.ref q') (.int 0) bv cv .bw (.ref td)))->Q (.int (S.ds.length:Nat)) X:=by
     intro X hX eX;have bt:bc [d] H X:=λb o' eb hb=>by have hd:b≠d:=λz=>hb (by rw[z];exact .head _);rw[hX b hd];exact n2.same _ _ (n1.same _ _ eb)
     have v0:bW H X:=bt.v λx hx o' eo=>by rw[bU.mp hx,e]at eo;cases eo;trivial
     refine k2 ⟨by rw[hs];simp,hp⟩ q' X ⟨⟨mv,lv,lv,sv,bv,cv,.bw,eX,RD.v v0 _ (iJ _ _ _ _ _) r1,?_,RD.v v0 _ (gD _) r2,r4.v v0,r5.v v0,.inl rfl⟩,[],?_,cX⟩ ?_ bt
     ·rw[a21];exact RD.v v0 _ (gD _) r2
     ·rw[hX q' dq'.symm];exact n2.at'
     ·cases e':H q' with |none=>rfl |some o'=>have h2:=n2.no;rw[n1.same _ _ e']at h2;cases h2
    rw[ly];exact key _ (λb hb=>by rw[aK hb,aK hb,aK hb,aK hb]) bf
   ·rw[fb hp]
    exact cf (k1 (λz=>hp z.2) _ n1.same)
end
end Lw
set_option maxHeartbeats 4000000
namespace Lw
open PySem PySem.Spec PyProof.Rows L2 Rt Ln Cn Pn Wk Rn
open Ow (topR cornO mnO betR atO ownF leadF ownL OkI OkIs)
section
variable {w:World}{mg:Str->Option Value}{base:Heap}
theorem Qw{z q k:Int}(hq:0<q)(hk:0<=k)(xh:k<=q)(hz:0<=z):0<=fz (k*z) q/\fz (k*z) q<=z:=by
 have hp:0<=k*z:=jI hk hz;refine⟨a4D hq hp,?_⟩;have h1:k*z<=q*z:=LS xh hz;unfold fz;rw[bp hp];obtain⟨a,_⟩:=Nt (p:=k*z) hq;have e:(((k*z).natAbs:Nat):Int)=k*z:=Y4 hp;rw[e]at a;by_cases hh:ja (k*z) q<=z
 ·exact hh
 ·exfalso
  have h2:z+1<=ja (k*z) q:=by omega
  have h3:q*(z+1)<=q*ja (k*z) q:=LU h2 (E9 hq);have h4:q*(z+1)=q*z+q:=by rw[Int.mul_add,Int.mul_one]
  have h5:2*q*ja (k*z) q=2*(q*ja (k*z) q):=by rw[tG]
  rw[h5]at a;omega
theorem a4G{z q k a r:Int}(hq:0<q)(hk:0<=k)(xh:k<=q)(a0:0<=a)(a1:a<=r)(b0:0<=a+z)(b1:a+z<=r):0<=a+fz (k*z) q/\a+fz (k*z) q<=r:=by
 by_cases hz:0<=z
 ·have:=Qw hq hk xh hz
  omega
 ·have h:=Qw (z:=-z) hq hk xh dM
  rw[show k*-z=-(k*z) by rw[Int.mul_neg],a4E hq]at h;omega
theorem a2M{rs pl ns:List Int}{k:Int}(hn:ns.length=pl.length)(hq:0<(aL ns:Int))(hk:0<=k)(xh:k<=aL ns)(h0:fD rs pl)(h1:fD rs (fK pl ns)):fD rs (fK pl (gC ns k)):=by
 have ls:(gC ns k).length=pl.length:=by unfold gC;rw[cB];exact hn
 refine⟨by rw[qo ls];exact h0.len,λi x r e1 e2=>?_⟩;have hi:i<rs.length:=(dQ.mp e2).1;have hip:i<pl.length:=by rw[h0.len];exact hi
 obtain⟨a,ea⟩:∃a,pl[i]? =some a:=⟨_,cu hip⟩;obtain⟨z,ez⟩:∃z,ns[i]? =some z:=⟨_,cu (show i<ns.length by omega)⟩;have es:(gC ns k)[i]? =some (fz (k*z) (aL ns)):=by unfold gC;rw[cH,ez];rfl
 rw[A4 ea es]at e1;cases e1;have p0:=h0.at' i a r ea e2;have p1:=h1.at' i (a+z) r (A4 ea ez) e2;exact a4G hq hk xh p0.1 p0.2 p1.1 p1.2
def fo(M:bL)(S:bh):Prop:=∀i,i<=S.os.length->fD M.rs ((S.os.take i).foldl gf S.pl)
theorem fo.goal{M:bL}{S:bh}(h:fo M S):fD M.rs (cM S):=by have:=h S.os.length (bR _);rw[vx]at this;exact this
theorem fo.pl{M:bL}{S:bh}(h:fo M S):fD M.rs S.pl:=h 0 (gj _)
theorem fo.eq{M:bL}{S S':bh}(h:fo M S)(e1:S'.os=S.os)(e2:S'.pl=S.pl):fo M S':=by unfold fo;rw[e1,e2];exact h
theorem fo.D6{M:bL}{S:bh}{d:ai}{o:Itm}(h:fo M S)(ho:fD M.rs (gf (cM S) o)):fo M (lU S d o):=λi hi=>by
 show fD M.rs (((S.os++[o]).take i).foldl gf S.pl);have CG:i<=S.os.length+1:=by
  have:(lU S d o).os.length=S.os.length+1:=by show(S.os++[o]).length=_;rw[fy];rfl
  omega
 by_cases hl:i<=S.os.length
 ·rw[List.take_append_of_le_length hl]
  exact h i hl
 ·rw[DZ (by rw[fy];show S.os.length+1<=i;omega),Y1]
  exact ho
theorem fo.end{M:bL}{S:bh}(h:fo M S):fo M (iP S):=by unfold iP;cases e:S.os with |nil=>exact h |cons o os=>intro i hi;have:=h (i+1) (by rw[e];exact XW hi);rw[e]at this;exact this
theorem fo.place{M:bL}{D:Nat}{S:bh}(ok:cj M D S)(h:fo M S):fD M.rs (dR S):=by
 by_cases h0:S.dn=0
 ·unfold dR
  rw[bp h0];exact h.pl
 ·obtain⟨ns,sp,eo,hd⟩:=ok.first h0
  have eZ:=(ok.row.ok 0 ns sp eo).1;unfold dR;rw[bu h0,eo];have lp:=eZ.lead.1;have h1:=h 1 (by have:=(dQ.mp eo).1;omega);have e1:(S.os.take 1).foldl gf S.pl=fK S.pl ns:=by cases e:S.os with |nil=>rw[e]at eo;simp at eo |cons o os=>rw[e]at eo;cases(eg eo);rfl
  rw[e1]at h1;exact a2M (by rw[eZ.len];exact h.pl.len.symm) dM dM dM h.pl h1
theorem fo.drop{M:bL}{D:Nat}{S:bh}(ok:cj M D S)(h:fo M S):fo M (mS S):=λi hi=>by have:i=0:=Nat.le_zero.mp hi;rw[this];exact h.place ok
theorem One.kR{M:bL}{D:Nat}{S S1:bh}{e:ai}(ok:cj M D S)(o:One M S e S1)(h:fo M S):fo M S1:=by cases o with
 |@line ns sp eo nh=>
  have h1:fo M (fP M S ns sp):=h.eq Z rfl;unfold fN;split
  ·exact h1.end
  ·exact h1 |ip eo ed nh=>obtain⟨_,e1,_,_,e2⟩:=Bl ok.raw e;exact(h.eq e1 e2).end
theorem Run.kR{M:bL}{D:Nat}{S S1:bh}{es:List ai}(ok:cj M D S)(aM:M.Ok)(r:Run M S es S1)(h:fo M S):fo M S1:=by induction r with |nil=>exact h |cons o _ ih=>exact ih (One.ok ok aM o) (o.kR ok h)
theorem a74{M:bL}{S:bh}(h:fo M S):fo M (jh M S):=by
 unfold jh;split
 ·exact h
 ·exact h
def Ad.qe(A:Ad)(q' e':Addr):Ad:=⟨A.a,q',A.d,e',A.t⟩
section
variable {C T:Addr}{qn:Str}{H H1 H2:Hp}{M:bL}{n:Nat}{A:Ad}{p:Addr}{S S1:bh}{q' e':Addr}
theorem Hm{A:Ad}{q' e' x:Addr}(m:x∈(A.qe q' e').all):x∈A.all\/x=q'\/x=e':=by simp only[Ad.all,Ad.qe,bM,cL,dv]at m⊢;rcases m with z|z|z|z|z<;>simp[z]
theorem bT.drop(h:bT K C T qn H M n A p S)(R1:cD K C H1 A.a q' M S1)(b1:bc [A.a] H H1)(nq:H q'=none)(Z2:dC K H2 A.d e' A.t M S1)(b2:bc [A.d] H1 H2)(ne:H1 e'=none)(ok:cj M (64+10*(n+1)) S1)(sm:SM S1)(on:fD M.rs (cM S1)):bT K C T qn H2 M (n+1) (A.qe q' e') p S1/\bc (T::p::A.all) H H2:=by
 have aA:A.a∈A.all:=by simp[Ad.all]
 have dA:A.d∈A.all:=by simp[Ad.all]
 have tA:A.t∈A.all:=by simp[Ad.all]
 have s1:∀{x y:Addr},x≠y->x∉[y]:=λg=>by rw[bU];exact g
 have bb1:bc (T::p::A.all) H H1:=b1.mono λx hx=>by rw[bU.mp hx];exact .tail _ (.tail _ aA)
 have bb2:bc (T::p::A.all) H1 H2:=b2.mono λx hx=>by rw[bU.mp hx];exact .tail _ (.tail _ dA)
 have bb:bc (T::p::A.all) H H2:=bb1.trans bb2;have nd:=h.nd;simp only[Ad.all,oN,bM,cL,dv,qz]at nd;obtain⟨⟨t1,t2,t3,t4⟩,⟨t5,t6,t7⟩,⟨t8,t9⟩,tP,_⟩:=nd;have ae7:=λx hx=>h.here x hx;have Di:∃o,H1 A.d=some o/\Ak o:=by obtain⟨o,eo,c,_⟩:=h.kind A.d dA;exact⟨o,b1 _ _ eo (s1 (eu t2)),c⟩
 have ng:bW H1 H2:=b2.v λx hx o eo=>by obtain⟨o',e',c⟩:=Di;rw[bU.mp hx,e']at eo;cases eo;exact c
 have Qy:H e'=none:=by cases e:H e' with |none=>rfl |some o=>
  by_cases z:e'=A.a
  ·obtain⟨dx,mv,bv,cx,tv,e,_⟩:=R1.ob
   rw[z,e]at ne;cases ne
  ·rw[b1 _ _ e (s1 z)]at ne;cases ne
 have q1:H1 q'≠none:=by obtain⟨ys,e,_⟩:=R1.qu;rw[e];simp
 have qe:q'≠e':=λz=>q1 (by rw[z];exact ne);have yW:∀{x},x∈A.all\/x=p->x≠q':=λhx z=>h.here _ hx (by rw[z];exact nq);have BO:∀{x},x∈A.all\/x=p->x≠e':=λhx z=>h.here _ hx (by rw[z];exact Qy);have qd:q'≠A.d:=λz=>yW (.inl dA) z.symm;have yi:=TabAt.but h.tab b1 (s1 λz=>h.nT (z▸aA)) λx hx φ=>h.uk x (.tail _ (by rw[bU.mp hx];exact aA)) φ;have yh:=TabAt.but yi b2 (s1 λz=>h.nT (z▸dA)) λx hx φ e=>by obtain⟨o',e',c⟩:=Di;rw[bU.mp hx,e']at e;cases e;exact c
 refine⟨⟨R1.go ok.row.no ng (λo e=>b2 _ _ e (s1 t2)) (λo e=>b2 _ _ e (s1 qd)),Z2,ok,sm,?_,?_,yh,on,(h.bS.but b1 (s1 λz=>h.np (z▸aA))).but b2 (s1 λz=>h.np (z▸dA)),?_⟩,bb⟩
 ·refine h.told.go dM (h.v bb) (λo e=>b2 _ _ (b1 _ _ e (s1 (eu t4))) (s1 (eu t9))) λl us hx e=>⟨bb _ _ e λm=>?_,λz=>?_⟩
  ·rcases bM.mp m with z|m
   ·obtain⟨ps,e',_⟩:=h.tab
    rw[z,e']at e;cases e
   ·exact hx ((bM.mp m).elim .inr .inl)
  ·rcases z with z|z
   ·rcases Hm z with z|z|z
    ·exact hx (.inl z)
    ·rw[z,nq]at e;cases e
    ·rw[z,Qy]at e;cases e
   ·exact hx (.inr z)
 ·have a1:=yW (.inl aA)
  have a2:=BO (.inl aA);have a3:=yW (.inl dA);have a4:=BO (.inl dA);have a5:=yW (.inl tA);have a6:=BO (.inl tA);simp only[Ad.all,Ad.qe,oN,bM,cL,dv,qz,List.nodup_nil,not_false_eq_true,and_true];exact⟨⟨a1,t2,a2,t4⟩,⟨eu a3,qe,eu a5⟩,⟨a4,t9⟩,eu a6⟩
 ·intro z
  rcases Hm z with z|z|z
  ·exact h.np z
  ·exact yW (.inr Z) z
  ·exact BO (.inr Z) z
theorem Ph{R:jC}{outer:List Env}{s':ae}{f c:Addr}{cl:List (Str×Addr)}{pr:Arguments}{b:Expr}{sc:Scope}{q:Str}{N:List Str}{Q:VK}{E:XK}(L:vm s'.heap H (du outer) f pr b sc q c cl)(hc:H c=some (.ext (jE c q)))(CA:qw s'.heap H (du outer) cl N [.ref A.a])(hN:N.length=1)(Sc:sR N sc)(hb:∀pm cd ct,bindArgs (PySem.W.kla_fn "<lambda>" q pr b sc cl pm cd ct) ⟨[],[]⟩=pure []) (Jb:∀(A:aj)(outer:List Env)(s:ae)(H:Hp)(E:XK),cQ 5 (A.deeper (PySem.W.envX q sc s.heap.objs.size f (.ref c) cl))->PE (pG (jF P w) P w K mg base N q sc f (.ref c) cl A outer s H E) b (vK C "drop" (Bf K C R) E (qJ 0) kM)) (h:bT K C T qn H M n A p S)(aM:M.Ok)(kf:¬Halt S.pc S.aW->∀H2,aG H H2->Q (.str "moving") H2)(kd:Halt S.pc S.aW->∀q' H2,cD K C H2 A.a q' M (mS S)->H q'=none->bc [A.a] H H2->Q (.int (S.ds.length:Nat)) H2):yp P w K mg base R 5 outer s' [.ref f] H Q E:=by obtain⟨dx,mv,bv,cx,tv,e,_⟩:=h.run.ob;refine⟨f,c,cl,pr,b,sc,q,N,_,λE=>vK C "drop" (Bf K C R) E (qJ 0) kM,Z,L,hc,CA,hN.symm,Sc,hb,Jb,?_⟩;exact⟨_,Z,A.a,dx,_,Z,e,Z,A.a,A.q,M,_,S,Z,h.run,h.ok,aM,λhn H2 s2=>⟨R.m,_,_,_,3,"moving",.m,Z,λH3 s3=>kf hn _ (s2.trans s3)⟩,kd⟩
end
structure fX(T p:Addr)(A A':Ad)(H H':Hp):Prop where
 a:A'.a=A.a
 d:A'.d=A.d
 but:bc (T::p::A.all) H H'
 nw:∀x∈A'.all,x∈A.all\/H x=none
theorem fX.of{T p:Addr}{A:Ad}{H H':Hp}(b:bc (T::p::A.all) H H'):fX T p A A H H':=⟨Z,Z,b,λ_ m=>.inl m⟩
theorem fX.q{T p q':Addr}{A:Ad}{H H':Hp}(b:bc (T::p::A.all) H H')(nq:q'=A.q\/H q'=none):fX T p A {A with q:=q'} H H':=⟨Z,Z,b,λx m=>by
 simp only[Ad.all,bM,cL,dv]at m⊢;rcases m with z|z|z|z|z
 ·simp[z]
 ·rcases nq with g|g
  ·simp[z,g]
  ·exact .inr (by rw[z];exact g)
 ·simp[z]
 ·simp[z]
 ·simp[z]⟩
theorem fX.same{T p:Addr}{A A':Ad}{H H' H2:Hp}(m:fX T p A A' H H')(s:aG H' H2):fX T p A A' H H2:=⟨m.a,m.d,λx o e hx=>s _ _ (m.but _ _ e hx),m.nw⟩
theorem fX.off{T p x:Addr}{A A':Ad}{H H':Hp}{o:HO}(m:fX T p A A' H H')(hx:x∉T::p::A.all)(e:H x=some o):x∉T::p::A'.all:=λh=>by
 rcases bM.mp h with z|h
 ·exact hx (by rw[z];exact .head _)
 ·rcases bM.mp h with z|h
  ·exact hx (by rw[z];exact .tail _ (.head _))
  ·rcases m.nw x h with z|z
   ·exact hx (.tail _ (.tail _ z))
   ·rw[z]at e;cases e
theorem fX.trans{C T:Addr}{qn:Str}{H H1 H2:Hp}{M:bL}{n:Nat}{A A1 A2:Ad}{p:Addr}{S1:bh}(L:bT K C T qn H1 M n A1 p S1)(m1:fX T p A A1 H H1)(m2:fX T p A1 A2 H1 H2):fX T p A A2 H H2:=by
 refine⟨m2.a.trans m1.a,m2.d.trans m1.d,λx o e hx=>m2.but _ _ (m1.but _ _ e hx) (m1.off hx e),λx hx=>?_⟩;rcases m2.nw x hx with z|z
 ·exact m1.nw x z
 ·cases e:H x with |none=>exact .inr rfl |some o=>
  by_cases h:x∈T::p::A.all
  ·rcases bM.mp h with g|h
   ·obtain⟨ps,et,_⟩:=L.tab
    rw[g,et]at z;cases z
   ·rcases bM.mp h with g|h
    ·exact absurd z (L.here x (.inr g))
    ·exact .inl h
  ·rw[m1.but _ _ e h]at z;cases z
theorem sH{T p:Addr}{A:Ad}{H H':Hp}(b:cn p H H'):bc (T::p::A.all) H H':=λx o e hx=>b.same x o (λz=>hx (by rw[z];simp)) e
theorem bT.dropped{C T:Addr}{qn:Str}{H H1 H2:Hp}{M:bL}{n:Nat}{A:Ad}{p:Addr}{S:bh}{q' e':Addr}(h:bT K C T qn H M n A p S)(R1:cD K C H1 A.a q' M (mS S))(b1:bc [A.a] H H1)(nq:H q'=none)(Z2:dC K H2 A.d e' A.t M (mS S))(b2:bc [A.d] H1 H2)(ne:H1 e'=none)(on:fo M S)(hn:n<=100):bT K C T qn H2 M (n+1) (A.qe q' e') p (mS S)/\fX T p A (A.qe q' e') H H2:=by
 obtain⟨L,b⟩:=h.drop R1 b1 nq Z2 b2 ne (h.ok.drop.mono dM dM) h.sm (on.drop h.ok).goal;refine⟨L,Z,Z,b,λx m=>?_⟩;rcases Hm m with z|z|z
 ·exact .inl z
 ·exact .inr (by rw[z];exact nq)
 ·refine .inr ?_
  rw[z];cases e:H e' with |none=>rfl |some o=>
   by_cases z:e'=A.a
   ·obtain⟨dx,mv,bv,cx,tv,e,_⟩:=R1.ob
    rw[z,e]at ne;cases ne
   ·rw[b1 _ _ e (by rw[bU];exact z)]at ne;cases ne
abbrev ml:Str:=(("_law_deed":Str)++Str.ofString ".<locals>.")++Str.ofString "<lambda>"
inductive WL(K:aa)(C:Addr)(T:Addr)(vs:List V)(H:Hp)(Q:VK):Prop |mk (p:_)(A:_)(M:_)(n:_)(S:_)(gI:_)(h0:vs=[.ref p,.ref (Ad.a A),.ref A.d,.int gI])(h1:bT K C T ml H M n A p S)(h2:fo M S)(h3:M.Ok)(h4:1<=gI)(h5:gI<=100)(h6:n<=90)(h7:∀A' S' H',bT K C T ml H' M (n+3) A' p S'->fo M S'->fX T p A A' H H'->Q (.bl true) H'):WL K C T vs H Q
def Nk(K:aa)(C T:Addr):Sp:=λvs H Q _=>WL K C T vs H Q
theorem OK:bF ["_law_bag_here","_law_runner","_law_sim_here","_law_far","_law_kind","_law_item","_law_n","_law_found"] ["_law_bag_here","_law_runner","_law_sim_here","_law_far"] (aZ Gs):=bP aY
theorem a48{C T:Addr}{R:jC}(F:Ai K mg "_law_deed" Gs T)(B:bV mg)(TC:fV K C)(pT:base.BuiltinsAt mg T)(eL:aI P w K mg base "_law_take" 1 qL)(a8K:aI P w K mg base "_law_line" 2 (EJ K))(a8I:aI P w K mg base "_law_other" 2 (Ng K))(jS:aI P w K mg base "_law_alike" 5 (yu (Nx (Nx (Nx (Nx A0)))) K))(JG:Ah P w K mg base "_law_refused" 7 (yp P w K mg base R 5))(a8x:vk P w K mg base C "feed" 5 (Be K C R))(a8E:aI P w K mg base "_law_sim_feed" 1 (N2 K))(SE:vk P w K mg base C "drop" 5 (Bf K C R))(SH:aI P w K mg base "_law_sim_drop" 1 (N4 K))(a8v:cN P w K mg base C "hold" 2 (N8 K C))(a8D:aI P w K mg base "_law_sim_hold" 2 (N1 K))(a8w:cN P w K mg base C "go" 1 (N9 K C))(SD:cN P w K mg base C "entries" 12 (Nb K C))(SG:aI P w K mg base "_law_sim_entries" 6 (N3 K)):aI P w K mg base "_law_deed" 13 (Nk K C T):=by
 refine F.has OK (λvs H Q E h=>?_) (λ_ _ _ _ _ _=>DA λ_ _ _ _=>rfl) (λf aQ A0 outer s H vs Q E zB hr h=>?_)
 ·obtain⟨p,A,M,n,S,gI,rfl,_⟩:=h
  rfl
 ·obtain⟨p,A,M,n,S,gI,rfl,L,kR,aM,JW,JV,n90,k⟩:=h
  have nd:=OK.nd;have BZ:=aM.len;refine⟨_,(aF (pS 4 nd (pf eL hr (au (pv 0) (au aE az)))) (aF (bN (ck kl (pv 4) aE (bB _)) (aF (pS 5 nd (pf a8K hr (au (pv 0) (au (cE hr (pv 2) ba) (au (cE hr (pv 2) ba) (au (pv 3) az)))))) (aF (hJ (bN (PW.pt (nN (ck (cW K Z hr.units) (pv 4) aE (bB _)) (qR (ck (cW K Z hr.units) (pf eL hr (au (pv 0) (au aE az))) aE (bB _))))) (aH (pS 5 nd (pf a8I hr (au (pv 0) az)))) bQ)) (aH (aX (pf jS hr (au (Hx (a5T "_law_runner" "_law_item" 1 5 aY Z Z Z Z) JG (hr.mono aB) Z (λ_=>rfl) zB pT Z Z) (au (pf a8E hr (au (pv 2) (au (pv 5) az))) az))))))) bQ) (aF (bN (ck (cW K Z hr.units) (pv 4) aE (bB _)) (aH (aX (pf jS hr (au (Hx (Rr "_law_runner" 1 aY Z Z) JG (hr.mono aB) Z (λ_=>rfl) zB pT Z Z) (au (pf SH hr (au (pv 2) az)) az))))) bQ) (aF (bN (ck (cW K Z hr.units) (pv 4) aE (bB _)) (aF (bN (PW.pt (nN (ck (cW K Z hr.units) (pf eL hr (au (pv 0) (au aE az))) aE (bB _)) (qR (eO (cP (pf jS hr (au (gs a8v TC.cl (hr.mono aB) (pv 1)) (au (pf a8D hr (au (pv 2) az)) az)))))))) (aH (aX ij)) bQ) (aF (pS 6 nd (px K (dj (au aE (au aE (au aE (au aE az))))) (pf eL hr (au (pv 0) (au aE az))))) (aF (bN (eO (cP (pf jS hr (au (yN SD TC.cl (hr.mono aB) (pv 1) (au (pv 6) az)) (au (pf SG hr (au (pv 2) (au (pv 6) az))) az))))) (aH (aX ij)) bQ) (aH (aX (pf jS hr (au (Hx (Rr "_law_runner" 1 aY Z Z) JG (hr.mono aB) Z (λ_=>rfl) zB pT Z Z) (au (pf SH hr (au (pv 2) az)) az)))))))) bQ) (aF (bN (ck (cW K Z hr.units) (pv 4) aE (bB _)) (aF (fU (fk hr.units) (pv 2) ba je Z) (aH (aX (pf jS hr (au (gs a8w TC.cl (hr.mono aB) (pv 1)) (au (dJ K B (au (cE hr (pv 2) ba) az)) az)))))) bQ) (aF (pS 6 nd (px K (dj (au aE (au aE (au aE (au (aO da aE (pf eL hr (au (pv 0) (au aE az)))) (au (pf eL hr (au (pv 0) (au aE az))) (au aE az))))))) (pf eL hr (au (pv 0) (au aE az))))) (aF (pS 7 nd (yN SD TC.cl (hr.mono aB) (pv 1) (au (pv 6) az))) (aF (bN (eO (cP (pf jS hr (au (pv 7) (au (pf SG hr (au (pv 2) (au (pv 6) az))) az))))) (aH (aX ij)) bQ) (aF (hJ (bN (ck (cW K Z hr.units) (aO pA (pv 6) aE) aE (bB _)) (aH (hO (a2q K Z (pv 7)))) (aH (hO (jq K Z (cE hr (pv 2) ba) (au (ek (au (pv 7) (au (iG (x:="tuple") (lD K Z) Z (B.at "tuple") fY (au (pv 7) az)) az))) az)))))) (aH (aX ij))))))))))),?_⟩;refine⟨_,Z,p,9,Z,L.bS,aB,aB,λkd H1 k0 k1 b1=>?_⟩;have L1:=L.kZ b1;have rE:∀A' S' H',bT K C T ml H' M (n+3) A' p S'->fo M S'->fX T p A A' H1 H'->Q (.bl true) H':=λA' S' H' h1 h2 h3=>k A' S' H' h1 h2 (fX.trans L1 (.of (sH b1)) h3);clear k;refine⟨_,Z,_,_,Z,Z,_,Z,?_⟩;refine dU (λh3=>?_) (λh3=>?_)
  ·--an item is D6
   obtain⟨mv,lv,gv,sv,bv,cv,rv,hz⟩:=L1.sim.ob;have ez:=hz.1;refine⟨_,Z,_,Z,A.d,_,Z,dg ez zK,_,Z,A.d,_,Z,dg ez JN,_,Z,p,mv,M.rs,M.r,M.f,M.j,M.t,gv,cM S,gI,Z,L1.bS,hz.2.1,aM,hz.2.2.2.1,L1.on,JW,JV,λiv ms sp H2 rl HS gZ iD onl b2=>?_⟩;have iz:=L1.kZ b2;refine⟨λO H3=>∃iv d o v6 v7,O=[some (.ref p),some (.ref A.a),some (.ref A.d),some (.int gI),some (.int kd),some iv,v6,v7]/\bT K C T ml H3 M n A p S/\cn p H1 H3/\RD K H3 iv d/\mY M.rs.length d o/\fD M.rs (gf (cM S) o),?_,?_⟩
   ·have line:∀H3,bT K C T ml H3 M n A p S->cn p H2 H3->∃RH d o v6 v7,[some (V.ref p),some (.ref A.a),some (.ref A.d),some (.int gI),some (.int kd),some iv,none,none]=[some (.ref p),some (.ref A.a),some (.ref A.d),some (.int gI),some (.int kd),some RH,v6,v7]/\bT K C T ml H3 M n A p S/\cn p H1 H3/\RD K H3 RH d/\mY M.rs.length d o/\fD M.rs (gf (cM S) o):=λH3 h b3=>⟨iv,_,some (ms,sp),_,_,Z,h,b2.trans b3,RD.t (cn.t iz.bS b3) _ (C5 _ _) rl,a6d HS gZ iD,onl⟩
    refine⟨_,Z,.inl ⟨_,_,Z,Z,_,Z,?_⟩⟩;refine dU (λh2=>?_) (λh2=>line _ iz (cn.refl iz.bS));refine⟨_,Z,p,3,Z,iz.bS,aB,aB,λz H3 z0 z1 b3=>.inl ⟨_,_,Z,Z,_,Z,?_⟩⟩;refine dU (λh4=>?_) (λh4=>line _ (iz.kZ b3) b3);refine⟨_,Z,p,Z,b3.bS,λv d H4 cU ip b4=>?_⟩;exact⟨v,d,none,_,_,Z,(iz.kZ b3).kZ b4,(b2.trans b3).trans b4,cU,a6c ip,L1.on⟩
   ·rintro O H3 ⟨iv,d,o,v6,v7,rfl,L3,b13,cU,it,mG⟩
    refine⟨[.ref A.a,iv],L3.tab,Z,λi j v e1 e2=>?_,λf' c' UI H4 s' La gU Ca tb bt=>?_⟩
    ·match i,e1,e2 with |0,e1,e2=>cases e1;cases e2;rfl |1,e1,e2=>cases e1;cases e2;rfl
    have L4:=L3.lam bt tb;have GJ:=RD.v (L3.v (bt.mono λx hx=>by rw[bU.mp hx];exact .head _)) _ it.it.no cU;have zY:bc (T::p::A.all) H1 H4:=(sH b13).trans (bt.mono λx hx=>by rw[bU.mp hx];exact .head _);refine a1l La gU Ca Z (zm aY).1 (λ_ _ _=>rfl) (λA outer s H E ku=>a2d a8x (Hz λ_ _ _ z=>z) TC.cl (ku.mono aB) (pv 0) (au (pv 1) az)) L4 GJ it aM mG (λlS H5 s5=>?_) λlS H5 R5 b5=>?_
    ·have L5:=L4.same s5
     refine⟨_,Z,_,Z,A.d,A.e,A.t,M,_,S,iv,d,o,Z,L5.sim,L5.ok,aM,RD.mono s5 _ GJ,it,λho=>?_,λ_ _ H6 s6=>?_,λ_ hl=>?_⟩
     ·rw[(Qh (xM (JJ L5.ok) λns sp eo=>(it.ln ns sp eo).1.len)).mpr mG]at ho;cases ho
     ·refine⟨_,_,.str "full",Z,cV _,cV _,pC (n:=0) aB (mh aY),λH7 s7=>?_⟩
      exact rE A S H7 (((L5.same s6).same s7).mono aw aw) kR (.of (λx o' e hx=>s7 _ _ (s6 _ _ (s5 _ _ (zY _ _ e hx)))))
     ·exact absurd hl aw
    ·have Z5:=L4.mid b5
     have rv5:=RD.v (L4.v (b5.mono B7)) _ it.it.no GJ;refine⟨_,Z,_,Z,A.d,A.e,A.t,M,_,S,iv,d,o,Z,Z5,L4.ok,aM,rv5,it,λho=>?_,λ_ hl=>?_,λ_ _ H6 Z6 b6=>?_⟩
     ·rw[(Qh (xM (JJ L4.ok) λns sp eo=>(it.ln ns sp eo).1.len)).mpr mG]at ho;cases ho
     ·exact absurd hl aw
     ·refine⟨_,_,.int _,Z,dw _,dw _,kn _,λH7 s7=>?_⟩
      obtain⟨L6,b46⟩:=L4.fin R5 b5 (.inl Z) Z6 b6 ((L4.ok.D6 it lS).mono aw aw) L4.sm (by rw[SW];exact mG);exact rE A _ H7 ((L6.same s7).mono aw aw) (kR.D6 mG) (.of (λx o' e hx=>s7 _ _ (b46 _ _ (zY _ _ e hx) hx)))
  ·refine⟨_,Z,.inl ⟨_,_,Z,Z,_,Z,?_⟩⟩
   refine dU (λh4=>?_) (λh4=>?_)
   ·--dropped
    refine⟨[.ref A.a],L1.tab,Z,λi j v e1 e2=>?_,λf' c' UI H4 s' La gU Ca tb bt=>?_⟩
    ·match i,e1,e2 with |0,e1,e2=>cases e1;cases e2;rfl
    have L4:=L1.lam bt tb;have zY:bc (T::p::A.all) H1 H4:=bt.mono λx hx=>by rw[bU.mp hx];exact .head _
    refine Ph La gU Ca Z (zm aY).1 (λ_ _ _=>rfl) (λA outer s H E ku=>PN SE (Hz λ_ _ _ z=>z) TC.cl (ku.mono aB) (pv 0)) L4 aM (λhn H5 s5=>?_) λhH q' H5 R5 nq b5=>?_
    ·have L5:=L4.same s5
     refine⟨_,Z,A.d,A.e,A.t,M,_,S,Z,L5.sim,L5.ok,aM,λ_ H6 s6=>?_,λhH=>absurd hH hn⟩;refine⟨_,_,.str "moving",Z,cV _,cV _,pC (n:=0) aB (mh aY),λH7 s7=>?_⟩;exact rE A S H7 (((L5.same s6).same s7).mono aw aw) kR (.of (λx o' e hx=>s7 _ _ (s6 _ _ (s5 _ _ (zY _ _ e hx)))))
    ·have Z5:=L4.mid (b5.mono λx hx=>by rw[bU.mp hx];exact .head _)
     refine⟨_,Z,A.d,A.e,A.t,M,_,S,Z,Z5,L4.ok,aM,λhn=>absurd hH hn,λ_ e' H6 Z6 ne b6=>?_⟩;refine⟨_,_,.int _,Z,dw _,dw _,kn _,λH7 s7=>?_⟩;obtain⟨L6,m6⟩:=L4.dropped R5 b5 nq Z6 b6 ne kR aw;exact rE _ _ H7 ((L6.same s7).mono aw aw) (kR.drop L4.ok) (fX.trans L4 (.of zY) (m6.same s7))
   ·refine⟨_,Z,.inl ⟨_,_,Z,Z,_,Z,?_⟩⟩
    refine dU (λh5=>?_) (λh5=>?_)
    ·--held ado,entries,dropped
     dsimp only[AX];refine RS (λH'=>∃S1,bT K C T ml H' M (n+1) A p S1/\fo M S1/\bc (T::p::A.all) H1 H') (λG1 g=>?_) (λzv=>?_)
     ·obtain⟨S1,LG,oG,bG⟩:=g
      refine⟨bZ Z,λln H4 n4=>?_⟩;have L4:=LG.same n4.same;refine⟨_,Z,p,4,Z,L4.bS,aB,aB,λix H5 uz Cf b5=>?_⟩;have L5:=L4.kZ b5;obtain⟨n',uK,n0,n1⟩:∃n':Int,fQ [V.int 0,.int 1,.int 100,.int 100] ix=some (.int n')/\0<=n'/\n'<=100:=by
       rcases(show ix=0\/ix=1\/ix=2\/ix=3 by lia)with rfl|rfl|rfl|rfl
       ·exact⟨0,Z,aB,aB⟩
       ·exact⟨1,Z,aB,aB⟩
       ·exact⟨100,Z,aB,aB⟩
       ·exact⟨100,Z,aB,aB⟩
      have IE:H5 ln=some (.lst [V.int 0,.int 1,.int 100,.int 100]):=b5.same _ _ (λz=>LG.here _ (.inr Z) (z▸n4.no)) n4.at';refine .inl ⟨ln,_,ix,_,Z,Z,aJ.of IE,uK,?_⟩;have sL:bc (T::p::A.all) H1 H5:=λx o e hx=>sH b5 _ _ (n4.same _ _ (bG _ _ e hx)) hx;obtain⟨Kk,mv5,bv5,a2s,YH,J9⟩:=L5.run.ob;refine⟨_,Z,A.a,Kk,_,Z,J9.1,Z,_,Z,A.a,A.q,M,_,_,n',Z,L5.run,L5.ok,aM,n0,aw,λl us es S' q' H6 nl dl rd run he mK R6 jw lq=>?_⟩;refine⟨_,Z,_,Z,A.d,A.e,A.t,M,_,_,n',Z,L5.mid jw.but,L5.ok,aM,n0,aw,λl2 Yw es2 S2 H7 Ii zT nL u7 Jq Jp Z7 b7=>?_⟩;obtain⟨e1,e2⟩:=run.Um he mK u7 Jq Jp;subst e1 e2;obtain⟨_,_,my,wg,_,_⟩:=L5.ents aM R6 jw nl dl lq rd run Z7 b7 (aG.refl _) aw;refine⟨_,_,.list es,Z,kO (aJ.of my) wg,kO (aJ.of zT) nL,TM L5.ok aM run aw,λH8 s8=>⟨_,Z,bK ?_⟩⟩;obtain⟨L8,vf,_,_,lA,To⟩:=L5.ents aM R6 jw nl dl lq rd run Z7 b7 s8 aw;have m8:fX T p A {A with q:=q'} H1 H8:=fX.trans L5 (.of sL) (.q vf jw.nq);have o8:=run.kR L5.ok aM oG;generalize SO:({A with q:=q'}:Ad)=A8 at L8 m8;have ea8:A8.a=A.a:=by rw[<-SO]
      have ed8:A8.d=A.d:=by rw[<-SO]
      rw[<-ea8,<-ed8];refine⟨[.ref A8.a],L8.tab,Z,λi j v e1 e2=>?_,λf' c' UI H9 s' La gU Ca tb bt=>?_⟩
      ·match i,e1,e2 with |0,e1,e2=>cases e1;cases e2;rfl
      have L9:=L8.lam bt tb;have m9:fX T p A A8 H1 H9:=fX.trans L8 m8 (.of (bt.mono λx hx=>by rw[bU.mp hx];exact .head _));refine Ph La gU Ca Z (zm aY).1 (λ_ _ _=>rfl) (λA outer s H E ku=>PN SE (Hz λ_ _ _ z=>z) TC.cl (ku.mono aB) (pv 0)) L9 aM (λhn H5 s5=>?_) λhH q' H5 R5 nq b5=>?_
      ·have L5:=L9.same s5
       refine⟨_,Z,A8.d,A8.e,A8.t,M,_,S',Z,L5.sim,L5.ok,aM,λ_ H6 s6=>?_,λhH=>absurd hH hn⟩;refine⟨_,_,.str "moving",Z,cV _,cV _,pC (n:=0) aB (mh aY),λH7 s7=>?_⟩;exact rE A8 S' H7 (((L5.same s6).same s7).mono aw aw) o8 (m9.same ((s5.trans s6).trans s7))
      ·have Z5:=L9.mid (b5.mono λx hx=>by rw[bU.mp hx];exact .head _)
       refine⟨_,Z,A8.d,A8.e,A8.t,M,_,S',Z,Z5,L9.ok,aM,λhn=>absurd hH hn,λ_ e' H6 Z6 ne b6=>?_⟩;refine⟨_,_,.int _,Z,dw _,dw _,kn _,λH7 s7=>?_⟩;obtain⟨L6,m6⟩:=L9.dropped R5 b5 nq Z6 b6 ne o8 aw;exact rE _ _ H7 ((L6.same s7).mono aw aw) (o8.drop L9.ok) (fX.trans L9 m9 (m6.same s7))
     ·refine⟨_,Z,p,2,Z,L1.bS,aB,aB,λz H2 z0 z1 b2=>.inl ⟨_,_,Z,Z,_,Z,?_⟩⟩
      have iz:=L1.kZ b2;refine dU (λh6=>?_) (λh6=>zv _ ⟨S,iz.mono aw aw,kR,sH b2⟩);obtain⟨dx,QG,UQ,cx,tv,hrr⟩:=iz.run.ob;refine⟨_,Z,A.a,dx,_,Z,hrr.1,Z,A.a,A.q,M,_,S,Z,iz.run,iz.ok,aM,λH3 R3 b3=>?_⟩;have xN:bc [A.a,A.q] H2 H3:=b3.mono λx hx=>by rw[bU.mp hx];simp
      refine⟨_,Z,A.d,A.e,A.t,M,_,S,Z,iz.mid xN,iz.ok,aM,λH4 Z4 b4=>?_⟩;refine⟨_,_,.int _,Z,dw _,dw _,kn _,λH5 s5=>⟨_,Z,bK ?_⟩⟩;obtain⟨L4,b24⟩:=iz.fin R3 xN (.inl Z) Z4 (b4.mono λx hx=>by rw[bU.mp hx];simp) (iz.ok.hold aM aw) (a73 iz.sm) (by rw[a75];exact iz.on);exact zv _ ⟨_,L4.same s5,a74 kR,λx o e hx=>s5 _ _ (b24 _ _ (sH b2 _ _ e hx) hx)⟩
    ·refine⟨_,Z,.inl ⟨_,_,Z,Z,_,Z,?_⟩⟩
     refine dU (λh6=>?_) (λh6=>?_)
     ·--let go on
      obtain⟨mv,lv,gv,sv,bv,cv,rv,hz⟩:=L1.sim.ob;refine⟨_,Z,A.d,_,Z,dp hz.1 Q3 iU,?_⟩;have b9:bc [A.d] H1 (L2.upd H1 A.d (.dK (bI mv lv gv sv (.int S.aD) (.str S.side) (.str S.mark) (.ref A.e) (.int S.dn) .bw cv rv (.ref A.t)))):=sF (by simp);have e9:(L2.upd H1 A.d (.dK (bI mv lv gv sv (.int S.aD) (.str S.side) (.str S.mark) (.ref A.e) (.int S.dn) .bw cv rv (.ref A.t)))) A.d=some (.dK (bI mv lv gv sv (.int S.aD) (.str S.side) (.str S.mark) (.ref A.e) (.int S.dn) .bw cv rv (.ref A.t))):=bf;generalize L2.upd H1 A.d (.dK (bI mv lv gv sv (.int S.aD) (.str S.side) (.str S.mark) (.ref A.e) (.int S.dn) .bw cv rv (.ref A.t)))=H9 at b9 e9⊢;have Z8:dC K H9 A.d A.e A.t M {S with aW:=none}:=L1.brk b9 e9 hz;have R9:=L1.JK b9;obtain⟨dx9,mv9,bv9,adp,tv9,hr9⟩:=R9.ob;refine⟨_,Z,A.a,dx9,_,Z,hr9.1,Z,A.a,A.q,M,_,S,Z,R9,L1.ok,λHA RA bA=>?_⟩;have okg:cj M (64+10*(n+1)) {S with aW:=none}:=cj.mono (D:=64+10*n) ⟨L1.ok.row,L1.ok.rw,L1.ok.len,L1.ok.dh,L1.ok.dF,L1.ok.dn,L1.ok.pl,L1.ok.pd,L1.ok.pm,trivial,L1.ok.D1,L1.ok.D2⟩ aw aw;obtain⟨LA,b8A⟩:=L1.a9r b9 Z8 RA bA okg L1.sm L1.on;obtain⟨Yf,S6⟩:=LA.sim.qu;obtain⟨mvA,lvA,gvA,ZE,bvA,cvA,rvA,IY⟩:=LA.sim.ob;refine⟨_,Z,A.d,_,Z,dg IY.1 lT,A.e,Yf,Z,.inl (aJ.of S6.1),?_⟩;refine⟨_,_,.int (S.ds.length:Nat),Z,dw _,by rw[S6.2.length];exact dw _,kn _,λHB sB=>?_⟩;exact rE A _ HB ((LA.same sB).mono aw aw) (kR.eq Z Z) (.of (λx o e hx=>sB _ _ (b8A _ _ e hx)))
     ·--entries
      refine⟨_,Z,p,20,Z,L1.bS,aB,aB,λz1 H2 z10 z11 b2=>⟨_,_,Z,Z,?_⟩⟩;refine⟨_,Z,p,101,Z,b2.bS,aB,aB,λz2 H3 z20 z21 b3=>?_⟩;refine⟨bZ Z,λln H4 n4=>?_⟩;have L4:=((L1.kZ b2).kZ b3).same n4.same;refine⟨_,Z,p,6,Z,L4.bS,aB,aB,λix H5 uz Cf b5=>?_⟩;have L5:=L4.kZ b5;have sL:bc (T::p::A.all) H1 H5:=λx o e hx=>sH b5 _ _ (n4.same _ _ (sH b3 _ _ (sH b2 _ _ e hx) hx)) hx;obtain⟨n',uK,n0,n1⟩:∃n':Int,fQ [V.int 1,.int 2,.int 5,.int (1+z1),.int z2,.int 0] ix=some (.int n')/\0<=n'/\n'<=100:=by
       rcases(show ix=0\/ix=1\/ix=2\/ix=3\/ix=4\/ix=5 by lia)with rfl|rfl|rfl|rfl|rfl|rfl
       ·exact⟨1,Z,aB,aB⟩
       ·exact⟨2,Z,aB,aB⟩
       ·exact⟨5,Z,aB,aB⟩
       ·exact⟨1+z1,Z,aw,aw⟩
       ·exact⟨z2,Z,aw,aw⟩
       ·exact⟨0,Z,aB,aB⟩
      have IE:H5 ln=some (.lst [V.int 1,.int 2,.int 5,.int (1+z1),.int z2,.int 0]):=b5.same _ _ (λz=>((L1.kZ b2).kZ b3).here _ (.inr Z) (z▸n4.no)) n4.at';refine .inl ⟨ln,_,ix,_,Z,Z,aJ.of IE,uK,?_⟩;obtain⟨Kk,mv5,bv5,a2s,YH,J9⟩:=L5.run.ob;refine⟨_,Z,A.a,Kk,_,Z,J9.1,Z,_,Z,A.a,A.q,M,_,_,n',Z,L5.run,L5.ok,aM,n0,aw,λl us es S' q' H6 nl dl rd run he mK R6 jw lq=>?_⟩;refine⟨_,Z,_,Z,_,Z,A.d,A.e,A.t,M,_,_,n',Z,L5.mid jw.but,L5.ok,aM,n0,aw,λl2 Yw es2 S2 H7 Ii zT nL u7 Jq Jp Z7 b7=>?_⟩;obtain⟨e1,e2⟩:=run.Um he mK u7 Jq Jp;subst e1 e2;obtain⟨_,_,my,wg,_,_⟩:=L5.ents aM R6 jw nl dl lq rd run Z7 b7 (aG.refl _) aw;refine⟨_,_,.list es,Z,kO (aJ.of my) wg,kO (aJ.of zT) nL,TM L5.ok aM run aw,λH8 s8=>⟨_,Z,bK ?_⟩⟩;obtain⟨L8,vf,_,_,lA,To⟩:=L5.ents aM R6 jw nl dl lq rd run Z7 b7 s8 aw;have mT:=s8 _ _ my;have rd8:=aP.mono s8 _ wg;have m8:fX T p A {A with q:=q'} H1 H8:=fX.trans L5 (.of sL) (.q vf jw.nq);refine⟨λ_ HA=>bT K C T ml HA M (n+2) {A with q:=q'} p S'/\fX T p A {A with q:=q'} H1 HA,?_,?_⟩
      ·refine⟨_,Z,_,_,Z,Z,?_,.inl ⟨_,_,Z,Z,_,Z,?_⟩⟩
       ·exact(by decide:(0:Int)<2)
       refine dU (λh1=>?_) (λh1=>?_)
       ·refine⟨_,Z,.inl ⟨Z,_,aJ.of mT⟩,l,us,Z,Z,mT,?_⟩
        have bl:bc [l] H8 (L2.upd H8 l (.lst [])):=sF (by simp);have bb:bc (T::p::A.all) H1 (L2.upd H8 l (.lst [])):=λx o e hx=>bl _ _ (m8.but _ _ e hx) λm=>by have e5:=sL x o e hx;rw[bU.mp m,nl]at e5;cases e5
        exact⟨(L8.free To lA mT bl).mono aw aw,⟨m8.a,m8.d,bb,m8.nw⟩⟩
       ·obtain⟨mvA,lvA,gvA,ZE,bvA,cvA,rvA,IY⟩:=L8.sim.ob
        obtain⟨ts,CN⟩:=L8.told;refine⟨_,Z,A.d,_,Z,dg IY.1 CU,.inl ⟨Z,_,aJ.of CN.1⟩,?_⟩;refine⟨_,Z,_,Z,l,us,Z,.inl ⟨aJ.of mT,λtt HB nB=>?_⟩⟩;refine⟨bZ Z,λtp HC nC=>?_⟩;have qN:=nB.same.trans nC.same;have kY:sizeLine=16777216:=by decide
        have BV:=CN.2.1;refine⟨A.t,ts,_,Z,Z,qN _ _ CN.1,aw,?_⟩;obtain⟨LD,bD⟩:=L8.tell lA mT rd8 (Tz (λd hd=>(run.ent L5.ok aM d hd).1) (run.no L5.ok aM)) qN ((aU.of nB.at').go nC.same) (aU.of nC.at') (qN _ _ CN.1) aw;exact⟨LD,fX.trans L8 m8 (.of bD)⟩
      ·rintro O HA ⟨LA,mA⟩
       exact rE _ S' HA (LA.mono aw aw) (run.kR L5.ok aM kR) mA
theorem jt{H:Hp}{x y:Addr}(hx:H x≠none)(hy:H y=none):x≠y:=λe=>hx (by rw[e];exact hy)
theorem EX{H H':Hp}{x:Addr}(s:aG H H')(hx:H x≠none):H' x≠none:=by cases h:H x with |none=>exact(hx h).elim |some o=>rw[s _ _ h];simp
theorem aG.but{S:List Addr}{H0 H H':Hp}(s:aG H0 H)(b:bc S H H')(hn:∀x∈S,H0 x=none):aG H0 H':=λb' o e=>b _ _ (s _ _ e) (λhm=>by rw[hn _ hm]at e;cases e)
theorem bT.first{C T:Addr}{qn:Str}{M:bL}{pl:List Int}{H5 H6 H9:Hp}{x q0 d0 e0 t0 p:Addr}(hT:H5 T=some (.fF #[]))(bg:gM H5 p)(nx:H5 x=none)(yX:H5 q0=none)(R6:cD K C H6 x q0 M (nv pl))(s6:aG H5 H6)(Z0:dC K H9 d0 e0 t0 M (nv pl))(T0:H9 t0=some (.lst []))(nP:H6 d0=none)(wJ:H6 e0=none)(wD:H6 t0=none)(g1:d0≠t0)(g2:e0≠t0)(s9:aG H6 H9)(on:fD M.rs pl)(hl:pl.length=M.rs.length):bT K C T qn H9 M 0 ⟨x,q0,d0,e0,t0⟩ p (nv pl):=by
 have px:H6 x≠none:=by obtain⟨_,_,_,_,_,e,_⟩:=R6.ob;rw[e];simp
 have pq:H6 q0≠none:=by obtain⟨_,e,_⟩:=R6.qu;rw[e];simp
 have pb:H5 p≠none:=by obtain⟨c,m,e,_⟩:=bg;rw[e];simp
 have Hy:=EX s6 pb;refine⟨R6.same Z s9,Z0,a0T hl,ZX pl,⟨[],T0,gj _,nofun⟩,?_,.first (s9 _ _ (s6 _ _ hT)),on,?_,?_⟩
 ·simp only[Ad.all,oN,bM,cL,dv,qz,List.nodup_nil,not_false_eq_true,and_true]
  exact⟨⟨R6.ne,jt px nP,jt px wJ,jt px wD⟩,⟨jt pq nP,jt pq wJ,jt pq wD⟩,⟨Z0.ne,g1⟩,g2⟩
 ·obtain⟨c,m,e,k⟩:=bg
  exact⟨c,m,s9 _ _ (s6 _ _ e),k⟩
 ·simp only[Ad.all,bM,cL,dv,qz]
  exact⟨jt pb nx,jt pb yX,jt Hy nP,jt Hy wJ,jt Hy wD⟩
def mW(K:aa)(H:Hp)(a:Addr)(p5:List Int)(L:List Addr):Prop:=(∀H2,aJ K H2 a (p5.map V.int))\/(aJ K H a (p5.map V.int)/\(∃o,H a=some o)/\a∉L)
theorem mW.EV{H:Hp}{a:Addr}{p5:List Int}{L:List Addr}(h:mW K H a p5 L):aJ K H a (p5.map V.int):=h.elim (λh=>h H) λh=>h.1
theorem mW.but{H H':Hp}{a:Addr}{p5:List Int}{L L':List Addr}(h:mW K H a p5 L)(b:bc L H H')(hn:∀x,x∈L'->x∈L\/H x=none):mW K H' a p5 L':=by
 rcases h with h|⟨h1,⟨o,e⟩,h3⟩
 ·exact .inl h
 ·refine .inr ⟨?_,⟨o,b _ _ e h3⟩,λm=>(hn a m).elim h3 λz=>by rw[z]at e;cases e⟩
  rcases h1 with h1|h1
  ·exact .inl (h1.imp (λz=>b _ _ z h3) λ⟨o',z⟩=>⟨o',b _ _ z h3⟩)
  ·exact .inr h1
theorem Ou:bF ["_law_script","_law_bag_here","_law_machine_here","_law_place_here","_law_runner","_law_sim_here","_law_far","_law_k","_law_quiet"] ["_law_script"] (aZ vW):=bP aY
theorem a3V{f C T:Addr}{fd:FuncData}(F:kG K "law" "law" vW f fd)(TC:fV K C)(B:bV mg)(SJ:aI P w K mg base "_law_bag" 1 (Nm K))(eL:aI P w K mg base "_law_take" 1 qL)(a8J:aI P w K mg base "_law_machine" 2 (Nh K))(a8H:aI P w K mg base "_law_place" 2 (Nc K))(a8n:DL P w K mg base C "Runner" 1 (N7 K C))(a8F:aI P w K mg base "_law_sim" 1 (MX K))(a8M:aI P w K mg base "_law_deed" 13 (Nk K C T))(SI:aI P w K mg base "_law_seen" 6 (EB K C)):jj P w K mg base jG 14 f fd ["_law_script"] (EK K T):=by
 refine F.ok Ou (λvs H Q E h=>?_) (λaQ A outer s H vs Q E hr h=>?_)
 ·obtain⟨a,ns,rfl,_⟩:=h
  rfl
 ·obtain⟨a,ns,rfl,hS,hlen,hT,k⟩:=h
  have nd:=Ou.nd;refine⟨_,(aF (pS 1 nd (pf SJ hr (au (pv 0) (au aE az)))) (aF (pS 2 nd (pf a8J hr (au (pv 1) az))) (aF (pS 3 nd (pf a8H hr (au (pv 1) (au (pv 2) az)))) (aF (pS 4 nd (a2e a8n (hr.mono aB) Z (au (pv 2) (au (pv 3) az)))) (aF (pS 5 nd (pf a8F hr (au (pv 2) (au (pv 3) az)))) (aF (pS 6 nd (px K (dj (au aE (au aE (au aE az)))) (pf eL hr (au (pv 1) (au aE az))))) (aF (me iA Z (yK Z (B.at "range") (au (dG (x:="max") (UN rfl) rfl (B.at "max") DW (au aE (au (dG (x:="min") (Kw rfl) rfl (B.at "min") XR (au (dJ K B (au (pv 0) az)) (au aE az))) az))) az)) (bJ 7 nd) (aF (pS 1 nd (pf SJ hr (au (pv 0) (au (aO da (pv 7) aE) az)))) (aF (pS 8 nd (fH (cW K Z hr.units) (pf eL hr (au (pv 1) (au aE az))) aE (bB _))) (aH (bN (PW.pt (kQ (eO (cP (pf a8M hr (au (pv 1) (au (pv 4) (au (pv 5) (au (pv 6) az))))))) (lF (PW.pt (nN (eO (cP (pv 8))) (qR (eO (cP (pf SI hr (au (pv 4) (au (pv 5) az))))))))))) (aH (aX ij)) bQ))))) (aH (aX (pf SI hr (au (pv 4) (au (pv 5) az)))))))))))),?_⟩;refine⟨_,Z,a,ns,_,Z,hS,hlen,aw,aw,λp H3 np Dw s3=>?_⟩;refine⟨_,Z,p,Z,Dw,λmv rs r f j ti H4 rm aM b4=>?_⟩;have nm:=iJ rs r f j ti;refine⟨_,Z,_,Z,p,mv,rs,r,f,j,ti,Z,b4.bS,rm,aM,λHt pl H5 yH on b5=>?_⟩;have rm5:=RD.t (cn.t b4.bS b5) _ nm rm;obtain⟨M,Pe,BJ,eRs⟩:∃M:bL,RD K H5 mv M.D/\M.Ok/\M.rs=rs:=⟨⟨rs,r,f,j,ti⟩,rm5,aM,Z⟩;have HQ:fD M.rs pl:=by rw[eRs];exact on
  have s5:aG H H5:=cn.OT (cn.OT s3 np b4) np b5;refine⟨_,Z,_,Z,λx dx nx Io Ik=>⟨x,dx,mv,Ht,M,pl,Z,bf,?_,?_,λq0 H6 R6 yX b6=>?_⟩⟩
  ·exact RD.mono (aG.new Io|>.trans (aG.new (by rw[aK Ik.symm];exact nx))) _ Pe
  ·exact RD.mono (aG.new Io|>.trans (aG.new (by rw[aK Ik.symm];exact nx))) _ yH
  have Nq:aG H5 (L2.upd (L2.upd H5 dx (.own x)) x (.ins C dx [])):=aG.new Io|>.trans (aG.new (by rw[aK Ik.symm];exact nx));have s6:aG H5 H6:=aG.but Nq b6 (by simpa using nx);have Ql:H5 q0=none:=same_none Nq yX;refine⟨Z,?_⟩;refine⟨_,Z,_,Z,mv,Ht,M,pl,Z,RD.mono s6 _ Pe,RD.mono s6 _ yH,λd0 e0 t0 H9 Z0 T0 nP wJ wD g1 g2 s9=>?_⟩;have L9:bT K C T ml H9 M 0 ⟨x,q0,d0,e0,t0⟩ p (nv pl):=bT.first (s5 _ _ hT) b5.bS nx Ql R6 s6 Z0 T0 nP wJ wD g1 g2 s9 HQ HQ.len;have P6:=s5.trans (s6.trans s9);have Sc9:mW K H9 a ns (T::p::[x,q0,d0,e0,t0]):=by
   rcases hS with hS|hS
   ·have ha:H a≠none:=by rcases hS with e|⟨o,e⟩<;>(rw[e];simp)
    obtain⟨o,e⟩:=Option.ne_none_iff_exists'.mp ha;refine .inr ⟨P6.seq (.inl hS),⟨o,P6 _ _ e⟩,λm=>?_⟩;have Jy:=EX s5 ha;have Jx:=EX s6 Jy;simp only[bM,cL,dv]at m;rcases m with z|z|z|z|z|z|z
    ·rw[z]at hS
     rcases hS with g|⟨o',g⟩<;>(rw[hT]at g;cases g)
    ·exact jt ha np z
    ·exact jt Jy nx z
    ·exact jt Jy Ql z
    ·exact jt Jx nP z
    ·exact jt Jx wJ z
    ·exact jt Jx wD z
   ·exact .inl λH2=>.inr hS
  refine⟨bZ Z,λlf jW ko=>?_⟩;have Vs:=L9.same ko.same;refine⟨_,Z,p,3,Z,Vs.bS,aB,aB,λzf j4 z0 z1 zZ=>?_⟩;obtain⟨gI,a7H,JW,JV⟩:∃gI:Int,fQ [V.int 3,.int 8,.int 25] zf=some (.int gI)/\1<=gI/\gI<=100:=by
   rcases(show zf=0\/zf=1\/zf=2 by lia)with rfl|rfl|rfl
   ·exact⟨3,Z,aB,aB⟩
   ·exact⟨8,Z,aB,aB⟩
   ·exact⟨25,Z,aB,aB⟩
  have a5I:j4 lf=some (.lst [V.int 3,.int 8,.int 25]):=zZ.same _ _ (λz=>L9.here _ (.inr Z) (z▸ko.no)) ko.at';refine .inl ⟨lf,_,zf,_,Z,Z,aJ.of a5I,a7H,?_⟩;have L11:=Vs.kZ zZ;have Vh:mW K j4 a ns (T::p::Ad.all ⟨x,q0,d0,e0,t0⟩):=Sc9.but (λy o e hy=>zZ.same y o (λz=>hy (by rw[z];simp)) (ko.same _ _ e)) λy m=>.inl m;refine⟨_,Z,a,_,Z,.inl Vh.EV,_,_,Z,_,_,Z,_,Z,?_,?_,?_⟩
  ·split<;>lia
  ·rw[cB];split<;>(try split)<;>lia
  have hN:(if(if(26:Int)<((ns.map V.int).length:Int)then(26:Int)else((ns.map V.int).length:Int))>10 then(if(26:Int)<((ns.map V.int).length:Int)then(26:Int)else((ns.map V.int).length:Int))else(10:Int)).toNat<=26:=by split<;>(try split)<;>lia
  have seen:∀{H2:Hp}{A:Ad}{p':Addr}{S:bh}{n:Nat}(Q':VK),bT K C T ml H2 M n A p' S->n<=90->(∀H3,bT K C T ml H3 M n A p' S->bc (T::p'::A.all) H2 H3->Q' (.bl true) H3)->EB K C [.ref A.a,.ref A.d] H2 Q' E0:=λ{H2 A p' S n} Q' L hn kq=>by
   have nd:=L.nd;simp only[Ad.all,oN,bM,cL,dv,qz]at nd;obtain⟨⟨t1,t2,t3,t4⟩,⟨t5,t6,t7⟩,⟨t8,t9⟩,tP,_⟩:=nd;refine⟨A.a,A.q,A.d,A.e,A.t,M,_,S,_,_,Z,L.run,L.sim,L.ok,BJ,L.sm,L.told,aw,aw,λy hy=>L.here y hy,.inl (by simp[Ad.all]),eu t4,eu t7,eu t9,eu tP,λH3 b3 T3=>?_⟩;have bb:bc (T::p'::A.all) H2 H3:=b3.mono λy hy=>by rw[bU.mp hy];simp[Ad.all]
   have v:=L.v bb;have no:=L.ok.row.no;have s1:∀{y:Addr},y≠A.t->y∉[A.t]:=λg=>by rw[bU];exact g
   refine kq H3 ⟨L.run.go no v (λo e=>b3 _ _ e (s1 t4)) (λo e=>b3 _ _ e (s1 t7)),L.sim.go no v (λo e=>b3 _ _ e (s1 t9)) (λo e=>b3 _ _ e (s1 tP)),L.ok,L.sm,T3,L.nd,TabAt.but L.tab b3 (s1 λz=>L.nT (by rw[z];simp[Ad.all])) λy hy φ=>L.uk y (iR _ (by rw[bU.mp hy];simp[Ad.all])) φ,L.on,L.bS.but b3 (s1 λz=>L.np (by rw[z];simp[Ad.all])),L.np⟩ bb
  refine CY (Pv:=λi O H2=>∃A p S,bT K C T ml H2 M (3*i) A p S/\fo M S/\mW K H2 a ns (T::p::A.all)/\∃v1 v7 v8,O=[some (.ref a),v1,some mv,some Ht,some (.ref A.a),some (.ref A.d),some (.int gI),v7,v8]) ?_ ?_ ?_
  ·exact⟨_,p,_,L11,λi hi=>by rw[Nat.le_zero.mp hi];exact HQ,Vh,_,none,none,Z⟩
  ·rintro i O H2 hi ⟨A,p,S,iz,oA,KS,v1,v7,v8,rfl⟩
   have hi8:i<26:=gB hi hN;refine⟨_,Z,_,Z,_,_,Z,Z,a,ns,_,Z,KS.EV,hlen,aw,aw,λp' H3 Qm Dw s3=>?_⟩;have L3:=iz.a4z s3 Qm Dw;have Sc3:mW K H3 a ns (T::p'::A.all):=KS.but (λy o e _=>s3 _ _ e) λy m=>by
    rcases bM.mp m with z|m
    ·exact .inl (by rw[z];exact .head _)
    ·rcases bM.mp m with z|m
     ·exact .inr (by rw[z];exact Qm)
     ·exact .inl (.tail _ (.tail _ m))
   refine⟨_,Z,p',3,Z,Dw,aB,aB,λz H4 z0 z1 b4=>.inl ⟨_,_,Z,Z,?_⟩⟩;have L4:=L3.kZ b4;have Sc4:mW K H4 a ns (T::p'::A.all):=Sc3.but (λy o e hy=>b4.same y o (λg=>hy (by rw[g];simp)) e) λy m=>.inl m;refine⟨_,Z,_,Z,_,Z,_,Z,p',A,M,_,S,gI,Z,L4,oA,BJ,JW,JV,aw,λA' S' H5 L5 o5 m5=>?_⟩;have Vg:mW K H5 a ns (T::p'::A'.all):=Sc4.but m5.but λy m=>by
    rcases bM.mp m with z|m
    ·exact .inl (by rw[z];exact .head _)
    ·rcases bM.mp m with z|m
     ·exact .inl (by rw[z];exact .tail _ (.head _))
     ·exact(m5.nw y m).imp (λz=>.tail _ (.tail _ z)) id
   rw[<-m5.a,<-m5.d];refine⟨_,Z,bK ?_⟩;refine⟨_,Z,_,Z,?_⟩;refine dU (λhq=>?_) (λhq=>?_)
   ·refine⟨_,Z,_,Z,?_⟩
    refine seen (A:=A') _ L5 (show 3*i+3<=90 by lia) λH6 L6 b6=>⟨_,Z,bK ?_⟩;exact⟨_,p',S',L6.mono aw aw,o5,Vg.but b6 λy m=>.inl m,_,_,_,Z⟩
   ·exact⟨_,p',S',L5.mono aw aw,o5,Vg,_,_,_,Z⟩
  ·rintro O H2 ⟨A,p,S,iz,oA,KS,v1,v7,v8,rfl⟩
   refine⟨_,Z,_,Z,?_⟩;exact seen _ iz (iQ (Nat.mul_le_mul_left 3 hN) aB) λH3 L3 b3=>k _
end
end Lw
namespace Lw
open PySem PySem.Spec PyProof.Rows L2
theorem oa{K:aa}{mg:Str->Option Value}{h:Heap}{x:Str}{c:Addr}(X:K.In h)(G:h.Ns mainGlobals mg)(a:PySem.W.nsIn K mainGlobals x=some (some (.ref c))):GV mg x (.ref c):=⟨_,xW X G a,Z⟩
theorem K9{K:aa}{mg:Str->Option Value}{h:Heap}{x:Str}{c:Addr}{bm:List Value}{nw:String}(X:K.In h)(G:h.Ns mainGlobals mg)(a:PySem.W.nsIn K mainGlobals x=some (some (.ref c)))(q:PySem.W.excIn K c bm nw=true):Exc K mg x c bm nw:=⟨xW X G a,q⟩
theorem RF{K:aa}{n o f m r cG c0 c1 c2 c3 c4 c5 C:Addr}{b0 b1 b2 b3 b4:Bool}(t:takes K C cG)(k:oJ K C)(i0:PySem.W.kitOne K (.ref C) (.ref n)=some b0)(i1:PySem.W.kitOne K (.ref C) (.ref o)=some b1)(i2:PySem.W.kitOne K (.ref C) (.ref f)=some b2)(i3:PySem.W.kitOne K (.ref C) (.ref m)=some b3)(i4:PySem.W.kitOne K (.ref C) (.ref r)=some b4)(any:PySem.W.kitAny K (.ref C) [.ref c0,.ref c1,.ref c2,.ref c3,.ref c4,.ref c5]=some false)(ve:PySem.W.kitOne K (.ref C) (.type "ValueError")=some true):KC K ⟨n,o,f,m,r⟩ cG [c0,c1,c2,c3,c4,c5] C b0 b1 b2 b3 b4:=⟨t,k,i0,i1,i2,i3,i4,any,ve⟩
theorem a1m{K:aa}{mg:Str->Option Value}{h:Heap}{n o f m r cG c0 c1 c2 c3 c4 c5:Addr}(X:K.In h)(G:h.Ns mainGlobals mg)(ag:PySem.W.nsIn K mainGlobals "GlideError"=some (some (.ref cG)))(qg:PySem.W.excIn K cG qi qV=true) (h0:PySem.W.nsIn K mainGlobals "NoFraction"=some (some (.ref c0)))(h1:PySem.W.nsIn K mainGlobals "NoLine"=some (some (.ref c1)))(h2:PySem.W.nsIn K mainGlobals "NoMachine"=some (some (.ref c2)))(h3:PySem.W.nsIn K mainGlobals "NoPlace"=some (some (.ref c3)))(h4:PySem.W.nsIn K mainGlobals "NoTape"=some (some (.ref c4)))(h5:PySem.W.nsIn K mainGlobals "NoText"=some (some (.ref c5))) (an:PySem.W.nsIn K mainGlobals "NoItem"=some (some (.ref n)))(ao:PySem.W.nsIn K mainGlobals "OffRails"=some (some (.ref o)))(am:PySem.W.nsIn K mainGlobals "Moving"=some (some (.ref m)))(ar:PySem.W.nsIn K mainGlobals "NoRate"=some (some (.ref r)))(v:PySem.W.nsIn K mainGlobals "ValueError"=some none)(af:PySem.W.nsIn K mainGlobals "Full"=some (some (.ref f)))(qf:PySem.W.excIn K f qi qV=true) (qm:PySem.W.excIn K m qi qV=true) (kf:KC K ⟨n,o,f,m,r⟩ cG [c0,c1,c2,c3,c4,c5] f false false true false false) (km:KC K ⟨n,o,f,m,r⟩ cG [c0,c1,c2,c3,c4,c5] m false false false true false) :∃R cG c0 c1 c2 c3 c4 c5,DH K mg R cG c0 c1 c2 c3 c4 c5:=⟨⟨n,o,f,m,r⟩,cG,c0,c1,c2,c3,c4,c5,K9 X G ag qg,oa X G h0,oa X G h1,oa X G h2,oa X G h3,oa X G h4,oa X G h5,oa X G an,oa X G ao,oa X G am,oa X G ar,PySem.W.mg_none_of X G v,K9 X G af qf,kf,K9 X G am qm,km⟩
theorem tab_of{T:Addr}{K:aa}{mg:Str->Option Value}(A:All T K mg):∃cd,qh K cd T=true:=by obtain⟨f,fd,_,_,h⟩:=A.Tq.ex;exact⟨_,h⟩
theorem acx:A6 K P:=by intro T w mg base f fd A pT F;have tk:aI P w K mg base "_law_take" 1 qL:=a30 A.aa9 A.B;have cd:aI P w K mg base "common_divisor" 1 EM:=a4a A.aa3 A.B;have lt:aI P w K mg base "lowest_terms" 2 vP:=a3N A.a9N A.B cd;have iw:aI P w K mg base "is_whole" 1 (vR K):=a3W A.a9S A.B;have ww:aI P w K mg base "is_whole_within" 2 (tT K):=a2S A.a9R A.B iw;have fn:aI P w K mg base "fraction" 3 (vO K):=a44 A.aa1 A.B iw lt;have ld:aI P w K mg base "lead_of" 1 (m7 K):=a3T A.a9P A.B;have ls:aI P w K mg base "is_less" 1 (vQ K):=a3R A.a9Y A.B;have cp:aI P w K mg base "corner_square" 6 (EN K):=a49 A.aa2 A.B (a2U A.aa0 A.B (a2T A.a9z A.B ld fn) (a3K A.a9M A.B lt) ls) fn;have irt:aI P w K mg base "is_rate" 3 (EG K):=a3X A.a9U A.B A.a9a A.a9c ww;have tp:aI P w K mg base "top_square" 4 (Bb K):=a2W A.a9A A.B irt fn;have Ci:aI P w K mg base "is_line" 1 (vS K):=a3Y A.a9X A.B;have lst:aI P w K mg base "least" 2 (jJ K):=a3S A.a9O A.B ls;have UZ:aI P w K mg base "bound_between" 7 (Bk K):=a4c A.aa4 A.B A.zL Ci tp cp lst;have own:aI P w K mg base "own_bounds" 8 (Nf K):=a3G A.Tp A.B A.zL UZ;have pw:aI P w K mg base "plus_whole" 4 (Bg K):=a3C A.a9H A.B;have nr:aI P w K mg base "nearest" 1 EI:=a3I A.a9K A.B;have MJ:aI P w K mg base "stand_at" 2 (Bc K):=a33 A.a9F A.B ld nr;have sr:aI P w K mg base "step_rows" 3 (EE K):=a3l A.a9D A.B ld MJ;have ent:aI P w K mg base "step_entry" 3 (EL K):=a46 A.a9E A.B (a2Z A.a9C A.B (a47 A.aa6 A.B));have ln:aI P w K mg base "_law_line" 2 (EJ K):=a3P A.aar A.B tk;have RI:aI P w K mg base "is_item" 4 (Bi K):=a42 A.a9Z A.B A.a9b ww (a4f A.aa5 A.B A.a96 ww) (a3Z A.a9T A.B A.a97 A.a95 ww (a41 A.a9W A.B A.a98 A.a99));have RK:aI P w K mg base "is_place" 3 (Bj K):=a40 A.a9V A.B ww;have QF:aI P w K mg base "moved" 1 (Bh K):=a3J A.a9L A.B;have Dv:aI P w K mg base "place_behind" 2 (vT K):=a4d A.a9J A.B Ci QF;have YS:aI P w K mg base "times" 3 (nA (·*·) K):=a2X A.a9B A.B lt;have rch:aI P w K mg base "reach_behind_first" 9 (EF K):=a3B A.a9G A.B (a3F A.Tp A.B A.zL UZ) (a45 A.a9Q A.B Ci ld pw lst);obtain⟨C,R⟩:=A.rc;have TC:=R.tc;have Bz:=a3s (w:=w) (mg:=mg) (base:=base) R.a5i TC;have Pb:=a3i (w:=w) (base:=base) R.a5b TC A.zL;have GX:=a3r R.a5j TC Bz Pb;have GU:=a3o R.a5g TC Dv;have rfd:=a3v R.QQ TC A.B A.Tb RI RK Dv GU;have rnx:=a3m R.a5f TC pw YS fn lst Bz;have ref:=a3z R.a5o TC Dv;have rsf:=a3h R.a5a TC A.B ld sr tp rch ent GX rnx ref;have reo:=a3w R.a5m TC Ci rsf ref;have ren:=a3x R.a5n TC A.B GX reo;have Pa:=a3g (w:=w) (mg:=mg) (base:=base) R.a59 TC;have rho:=a3q R.a5k TC Pa Bz;have rgo:=a3t (w:=w) (base:=base) R.a5l TC A.B;have yH:=a3k R.a5e TC QF MJ;have rwt:=a3d (w:=w) (base:=base) R.a57 TC A.B;have rsq:=a3f (w:=w) (mg:=mg) (base:=base) R.a5c TC;have rrt:=a3j (w:=w) (mg:=mg) (base:=base) R.a5d TC;have rto:=a3e (w:=w) (mg:=mg) (base:=base) R.a58 TC;have rmk:=a3n (w:=w) (mg:=mg) (base:=base) R.a5h TC;obtain⟨Rf,cG,c0,c1,c2,c3,c4,c5,EA⟩:=A.rf;have C6:=a43 (w:=w) (base:=base) A.aau A.B;have IG:=a3L A.aap A.B (a3Q (w:=w) (base:=base) A.aas A.B);have QS:=a31 A.aaa A.B C6;have QR:=a2V A.aa7 A.B C6;have C4:=a3U (w:=w) (base:=base) A.aat A.B;have MN:=a34 (w:=w) (base:=base) A.aac A.B;have ZP:=a35 A.aad A.B C4 (a36 A.aal A.B (a4b A.aav A.B C4 IG QR C6) QS C4 IG) QR QS C6 (a32 A.aab A.B C4) IG (a2Y A.aa8 A.B);have C3:=a3O (w:=w) (base:=base) A.aao A.B;have al:=BI aB A.zN A.B C3 (BI aB A.zN A.B C3 (BI aB A.zN A.B C3 (BI aB A.zN A.B C3 (a4g (w:=w) (base:=base) A.zN A.B))));have rfe:=a3u R.QQ TC A.B EA.xf A.Tb RI RK Dv GU;have a1g:Ah P w K mg base "_law_refused" 7 (yp P w K mg base Rf 5):=a3y A.aak A.B EA;have sen:=a3a A.aag A.B ZP;have sfd:=a39 (w:=w) (base:=base) A.aaf A.B;have seen:=a3b A.aaj A.B TC al MN rwt yH GU rsq rrt rto rmk Bz Pb Pa;have abh:=a48 A.Tq A.B TC pT tk ln (a3H A.aan A.B tk) al a1g rfe sfd (a3A R.a5p TC A.B EA.xm GX yH) (a3c A.aah A.B) rho (a38 A.aae A.B MN) rgo ren sen;exact a3V F TC A.B (a4e A.aaw A.B) tk (a3M A.aaq A.B tk) (a3E A.aam A.B tk) (a3p R.init TC A.zL A.a9d) (a37 A.aai A.B) abh seen
theorem acy{P:ah}{w:World}{K:aa}{mg:Str->Option Value}{base:Heap}{f T:Addr}{fd:FuncData}(A:All T K mg)(pT:base.BuiltinsAt mg T)(F:kG K "law" "law" vW f fd):jj P w K mg base jG 14 f fd ["_law_script"] (EK K T):=YV acx K P T w mg base f fd A pT F
end Lw
def PySem.W.Fast.tw2896321539114344697:PySem.Program:=PySem.Challenge.pw_glidequeue_k42_dropped
theorem PySem.W.Fast.te2896321539114344697:PySem.Challenge.pw_glidequeue_k42_dropped=PySem.W.Fast.tw2896321539114344697:=rfl
local macro_rules|`(command|universe $x:ident)=>return Lean.mkNullNode (<-((x.getId.toString.splitOn "_").drop 1).toArray.mapM fun i=>`(command|theorem $(Lean.mkIdent (`_root_.PySem.W.Fast++Lean.Name.mkSimple s!"tw{(`PySem.Challenge.cw_glidequeue_k42_dropped_holds++Lean.Name.mkSimple ((match i.front with|'h'=>"heap"|'t'=>"tree"|'v'=>"view"|'s'=>"sts"|'e'=>"env"|_=>"o")++"_"++(i.drop 1).toString)).hash}")):ident:True:=True.intro))
universe t_t934_t821_h39_t647_t733_h935_v39_t906_t477_t370_t435_t292_s822_o907_t241_s478_s907_o822_t211_t226_s737_o737_t189_s371_t167_o478_o436_s293_t152_o371_o878_o876_s436_t137_o911_o927_o925_o913_o293_o842_o596_o920_o840_o918_t115_o570_o598_o591_o589_o934_o811_s242_o932_o866_o809_t100_o864_o642_o852_o242_o854_o873_o816_o482_o568_o456_o871_o349_o447_o814_o885_o399_o347_o454_t85_o883_o861_o397_o859_o391_o227_o386_o423_o493_o759_o384_o799_o421_o212_o449_o660_o389_o797_o190_o830_o418_o168_o442_o752_o828_o440_o153_o631_o584_o750_o138_o906_o582_o435_o633_o577_o116_o433_o904_o344_o849_o897_o430_o342_o101_o463_o575_o363_t70_o847_o428_o86_o651_o301_o416_o339_o361_o292_o276_o278_o461_o71_o299_o370_o821_o337_o500_o804_o368_o49_o773_o612_o802_o619_o470_o667_o308_o290_o899_o676_o757_o745_o617_o605_o468_o771_o329_o306_o505_o594_o610_o334_o327_o477_o743_o563_o332_o603_o792_o819_o892_o475_o192_o322_o626_o285_o263_o315_o270_o766_o890_o413_o807_s168_o356_s116_o283_o354_o268_o184_o313_o837_o320_o930_o764_o411_o261_o780_o794_o556_o587_o641_o624_o186_o836_o182_o711_o377_o535_o640_o528_o778_o561_o382
open PySem PySem.W PyProof.Rows
set_option maxRecDepth 100000 in
set_option maxHeartbeats 0 in
theorem PySem.Challenge.cw_glidequeue_k42_dropped_holds : PySem.Challenge.rw_glidequeue_k42_dropped.Holds := by
 w_on; o_law; k_head; (case hw=>w_witness2)
 k_fill
 refine L2.a5P (l:=PySem.Challenge.rw_glidequeue_k42_dropped) (k:=14) (x:="_law_script") (st:=Lw.vW) rfl rfl ⟨rfl,by decide,by decide⟩ (fun w h Y=>⟨PySem.W.km_in_of Y,PySem.W.km_tabs_of Y _ (.head _)⟩) (Lw.All _) ?F ?K (fun _ _ A=>Lw.tab_of A) (fun _ _ A=>A.law) (fun _ _ _ _ _ _ _=>rfl) (fun _ _ _ _ _ _ _ A hB F=>Lw.acy A hB F)
 case K=>exact fun w=>(by kernel_rfl)
 case F=>
  intro w mg h KX G
  refine⟨L2.ac5 KX G ?b,?x1,?x2,?x3,?x4,?x5,?x6,?x7,?x8,?x9,?x10,?x11,?x12,?x13,?x14,?x16,?x17,?x18,?x19,?x20,?x21,?x22,?x23,?x24,?x25,?x26,?x27,?x28,?x29,?x30,?x31,?x32,?x33,?x34,?x35,?x36,?x37,?x38,?x39,?x40,?x41,?x42,?x43,?x44,?x45,?x46,?x47,?x48,?x49,?x50,?x51,?x52,?x53,?x54,?x55,?x56,?x57,?x58,?x59,?x60,?x61,?x62,?x63,?x64,?x65,?x66,?x67,?x68,?x69,?x70,?x71,?x72,?x73,?x74,?x75,?x76,?x77⟩
  case b=>(unfold L2.Du; repeat (refine L2.sQ.cons ?z ?_; (case z=>k_is))); exact L2.sQ.nil
  case x1=>refine' L2.SU KX G ?a ?l ?z ?r; (case a=>k_is); (case l=>k_is); (case z=>decide); (case r=>exact .cons ⟨_,rfl⟩ (.cons ⟨_,rfl⟩ .nil))
  case x2=>refine' L2.SU KX G ?a ?l ?z ?r; (case a=>k_is); (case l=>k_is); (case z=>decide); (case r=>exact .cons ⟨_,rfl⟩ (.cons ⟨_,rfl⟩ .nil))
  case x3=>(refine' L2.rS KX G ?z; (case z=>k_is))
  case x4=>(refine' L2.rS KX G ?z; (case z=>k_is))
  case x5=>(refine' L2.rS KX G ?z; (case z=>k_is))
  case x6=>(refine' L2.rS KX G ?z; (case z=>k_is))
  case x7=>(refine' L2.rS KX G ?z; (case z=>k_is))
  case x8=>(refine' L2.rS KX G ?z; (case z=>k_is))
  case x9=>(refine' L2.rS KX G ?z; (case z=>k_is))
  case x10=>(refine' L2.rS KX G ?z; (case z=>k_is))
  case x11=>(refine' L2.a8T KX G ?z; (case z=>k_is))
  case x74=>(refine' L2.a9u KX G ?a ?l ?c ?k ?t; (case a=>k_is); (case l=>k_is); (case c=>k_is); (case k=>k_is); (case t=>kernel_rfl))
  case x76=>
   refine' Exists.intro _ (Lw.Vk.mk (Lw.fV.mk (L2.jX.mk ?pg ?hd ?po ?sa) ?n1 ?n2 ?n3 ?n4 ?n5 ?n6 ?n7 ?n8 ?n9) (L2.abX KX G ?aC ?mk ?kc ?ia ?ii ?il ?ic ?ik) (L2.iK ?a0 ?i0 ?l0 ?c0 ?k0) (L2.iK ?a1 ?i1 ?l1 ?c1 ?k1) (L2.iK ?a2 ?i2 ?l2 ?c2 ?k2) (L2.iK ?a3 ?i3 ?l3 ?c3 ?k3) (L2.iK ?a4 ?i4 ?l4 ?c4 ?k4) (L2.iK ?a5 ?i5 ?l5 ?c5 ?k5) (L2.iK ?a6 ?i6 ?l6 ?c6 ?k6) (L2.iK ?a7 ?i7 ?l7 ?c7 ?k7) (L2.iK ?a8 ?i8 ?l8 ?c8 ?k8) (L2.iK ?a9 ?i9 ?l9 ?c9 ?k9) (L2.iK ?a10 ?i10 ?l10 ?c10 ?k10) (L2.iK ?a11 ?i11 ?l11 ?c11 ?k11) (L2.iK ?a12 ?i12 ?l12 ?c12 ?k12) (L2.iK ?a13 ?i13 ?l13 ?c13 ?k13) (L2.iK ?a14 ?i14 ?l14 ?c14 ?k14) (L2.iK ?a15 ?i15 ?l15 ?c15 ?k15) (L2.iK ?a16 ?i16 ?l16 ?c16 ?k16) (L2.iK ?a17 ?i17 ?l17 ?c17 ?k17) (L2.iK ?a18 ?i18 ?l18 ?c18 ?k18) (L2.iK ?a19 ?i19 ?l19 ?c19 ?k19))
   (case aC=>k_is)
   case n1 | n2 | n3 | n4 | n5 | n6 | n7 | n8 | n9=>(unfold L2.jD; k_is)
   case pg | hd | po | sa | mk | kc | ia | ii | il | ic | ik | a0 | i0 | l0 | c0 | k0 | a1 | i1 | l1 | c1 | k1 | a2 | i2 | l2 | c2 | k2 | a3 | i3 | l3 | c3 | k3 | a4 | i4 | l4 | c4 | k4 | a5 | i5 | l5 | c5 | k5 | a6 | i6 | l6 | c6 | k6 | a7 | i7 | l7 | c7 | k7 | a8 | i8 | l8 | c8 | k8 | a9 | i9 | l9 | c9 | k9 | a10 | i10 | l10 | c10 | k10 | a11 | i11 | l11 | c11 | k11 | a12 | i12 | l12 | c12 | k12 | a13 | i13 | l13 | c13 | k13 | a14 | i14 | l14 | c14 | k14 | a15 | i15 | l15 | c15 | k15 | a16 | i16 | l16 | c16 | k16 | a17 | i17 | l17 | c17 | k17 | a18 | i18 | l18 | c18 | k18 | a19 | i19 | l19 | c19 | k19=>k_is
  case x77=>
   refine' Lw.a1m KX G ?ag ?qg ?h0 ?h1 ?h2 ?h3 ?h4 ?h5 ?an ?ao ?am ?ar ?v ?af ?qf ?qm (Lw.RF ?ft ⟨?fk1,?fk2,?fk3,?fk4,?fk5,?fk6,?fk7,?fk8⟩ ?fi0 ?fi1 ?fi2 ?fi3 ?fi4 ?fany ?fve) (Lw.RF ?mt ⟨?mk1,?mk2,?mk3,?mk4,?mk5,?mk6,?mk7,?mk8⟩ ?mi0 ?mi1 ?mi2 ?mi3 ?mi4 ?many ?mve)
   case ag | h0 | h1 | h2 | h3 | h4 | h5 | an | ao | am | ar | v | af=>k_is
   case qg | qf | qm=>k_exc
   case ft=>(show PySem.W.mroIn _ _ _=_; k_is)
   case fk1 | fk2 | fk3 | fk4 | fk5 | fk6 | fk7 | fk8=>k_is
   case fi0 | fi1 | fi2 | fi3 | fi4 | fany | fve=>kit_is
   case mt=>(show PySem.W.mroIn _ _ _=_; k_is)
   case mk1 | mk2 | mk3 | mk4 | mk5 | mk6 | mk7 | mk8=>k_is
   case mi0 | mi1 | mi2 | mi3 | mi4 | many | mve=>kit_is
  all_goals (refine' L2.a9w KX G ?a ?l ?c ?k; (case a=>k_is); (case l=>k_is); (case c=>k_is); (case k=>k_is))
#print axioms PySem.Challenge.cw_glidequeue_k42_dropped_holds
