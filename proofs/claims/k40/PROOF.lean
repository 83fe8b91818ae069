import PyProof.Rows.All
import Wide.All
import OpenK.AllK
import Wide.FinOn
import Lean
import PyProof.EqAt
import PyProof.EqKinds
import PyProof.TupleCall
import PySem.Challenge.RW_glidequeue_k40_held
set_option Elab.async false
set_option linter.all false
set_option maxRecDepth 100000
abbrev aa:=PySem.W.Frag
abbrev ae:=PySem.Shared
abbrev ah:=PySem.Program
abbrev ai:=PySem.PyData
abbrev aj:=PySem.Around
abbrev aQ:=@PySem.wpAny_bind
abbrev bc:=@if_pos
abbrev bf:=@if_neg
abbrev bK:=@Nat.le_refl
abbrev bN:=@List.mem_cons
abbrev cf:=@List.mem_singleton
abbrev cg:=@PySem.intBits_le_64
abbrev cj:=@List.getElem?_eq_getElem
abbrev cn:=@PySem.wpAny_pure
abbrev cu:=@List.length_map
abbrev cy:=@PySem.Heap.get?_push_of_some
abbrev cA:=@List.getElem?_map
abbrev cB:=@PySem.Heap.lt_size
abbrev cH:=@decide_eq_true
abbrev cI:=@List.not_mem_nil
abbrev dB:=@or_false
abbrev dM:=@List.getElem?_eq_some_iff
abbrev dP:=@Option.some.inj
abbrev eg:=@Rat.le_trans
abbrev ek:=@List.size_toArray
abbrev eO:=@PySem.Heap.get?_push_size
abbrev fe:=@decide_eq_false
abbrev fg:=@Ne.symm
abbrev fh:=@Bool.and_eq_true
abbrev fC:=@Nat.ne_of_lt
abbrev fD:=@List.length_append
abbrev fL:=@PyProof.Rows.boot_tuple
abbrev fM:=@Int.pow_succ
abbrev fN:=@Int.natAbs_mul
abbrev fS:=@beq_iff_eq
abbrev fZ:=@Nat.zero_le
abbrev g9:=@Nat.lt_of_lt_of_le
abbrev gA:=@Int.le_refl
abbrev gG:=@List.mem_of_getElem?
abbrev gY:=@PySem.PassesOwn.never
abbrev iy:=@Nat.le_trans
abbrev iz:=@List.mem_cons_of_mem
abbrev iA:=@PySem.IntMulOk.of_bits
abbrev iB:=@Int.mul_pos
abbrev iQ:=@List.all_eq_true
abbrev j7:=@List.lookup_cons
abbrev jm:=@PySem.wpAny_field
abbrev jH:=@PySem.wpAny_mono
abbrev jI:=@of_decide_eq_true
abbrev jJ:=@List.mem_map
abbrev jK:=@Int.mul_nonneg
abbrev kn:=@List.length_cons
abbrev ko:=@Bool.true_and
abbrev kr:=@Bool.false_ne_true
abbrev kH:=@PyProof.Rows.boot_list
abbrev kI:=@Int.one_mul
abbrev kJ:=@Bool.false_and
abbrev lL:=@List.mem_append_right
abbrev lM:=@List.getElem?_eq_none
abbrev lN:=@Int.pow_zero
abbrev mF:=@Nat.mul_le_mul
abbrev o9:=@List.mem_filterMap
abbrev oa:=@List.map_cons
abbrev og:=@List.map_append
abbrev oh:=@List.length_take
abbrev oj:=@Int.emod_nonneg
abbrev om:=@Bool.eq_iff_iff
abbrev pI:=@PySem.wpAny_truthy_bool
abbrev pJ:=@PySem.wpAny_newObj_type
abbrev pK:=@Rat.le_refl
abbrev pL:=@PyProof.Rows.boot_str
abbrev pM:=@PyProof.Rows.boot_abs
abbrev pN:=@Nat.lt_of_le_of_lt
abbrev pO:=@Nat.lt_irrefl
abbrev pP:=@List.take_succ
abbrev pQ:=@List.mem_iff_getElem?
abbrev rH:=@decide_eq_true_iff
abbrev rJ:=@Rat.num_divInt_den
abbrev rK:=@PyProof.Rows.boot_all
abbrev rL:=@Nat.pow_le_pow_right
abbrev rM:=@List.nodup_cons
abbrev rO:=@List.ext_getElem?
abbrev rP:=@Int.emod_lt_of_pos
abbrev rQ:=@PySem.Heap.size_push
abbrev uD:=@PySem.wpAny_seqItems
abbrev uE:=@PySem.wpAny_holding
abbrev uF:=@if_true
abbrev uG:=@PySem.mem_of_lookup
abbrev uH:=@PyProof.Rows.boot_isinstance
abbrev uI:=@List.mem_append
abbrev uJ:=@List.length_set
abbrev uK:=@List.getElem_range
abbrev uL:=@List.any_cons
abbrev uM:=@Int.mul_assoc
abbrev wY:=@PySem.wpAny_passesOwn
abbrev wZ:=@PySem.call_meets
abbrev xb:=@Rat.divInt_nonneg_iff_of_pos_right
abbrev xc:=@PySem.W.mg_of
abbrev xg:=@PyProof.Rows.callWith_type1
abbrev xh:=@List.take_length
abbrev xi:=@List.getElem?_zip_eq_some
abbrev xj:=@List.getElem?_append_left
abbrev xk:=@Bool.eq_false_iff
abbrev zA:=@PySem.wpAny_setField_rec
abbrev zB:=@PySem.wpAny_of_eq
abbrev zC:=@PySem.wpAny_execs_nil
abbrev zD:=@PySem.wpAny_call
abbrev zE:=@PySem.wpAny_Call_Name_kw
abbrev zF:=@PySem.codeAny_mono
abbrev zG:=@Rat.not_lt
abbrev zH:=@PySem.F.plainAttrs_list
abbrev zI:=@List.of_mem_zip
abbrev zJ:=@List.map_set
abbrev zK:=@List.getElem?_set_self
abbrev zL:=@List.getElem?_append_right
abbrev zM:=@List.find?_cons
abbrev zN:=@Int.zero_mul
abbrev zO:=@PySem.Heap.get?_update_other
abbrev zP:=@Array.length_toList
abbrev CM:=@PySem.wpAny_setField
abbrev CN:=@PySem.wpAny_pyIter_list
abbrev CO:=@PySem.wpAny_onRaise
abbrev CP:=@PySem.wpAny_call_entry
abbrev CQ:=@PySem.wpAny_callSpecial?_slot
abbrev CS:=@decide_eq_true_eq
abbrev CT:=@beq_eq_false_iff_ne
abbrev CU:=@Rat.lt_iff
abbrev CV:=@Rat.le_antisymm
abbrev CW:=@PyProof.Rows.boot_max
abbrev CY:=@PySem.Obj.data_mapFields
abbrev CZ:=@Nat.ne_of_gt
abbrev D5:=@List.mem_of_mem_take
abbrev D6:=@List.length_replicate
abbrev D7:=@List.length_eq_zero_iff
abbrev D8:=@List.getElem_mem
abbrev D9:=@List.getElem?_zipWith
abbrev De:=@List.forIn_cons
abbrev Df:=@List.append_nil
abbrev Dg:=@Int.mul_le_mul
abbrev Dh:=@Array.toList_append
abbrev K2:=@PySem.wpAny_pyIter_rangeiter
abbrev K3:=@PySem.codeAmong.eq_def
abbrev K4:=@beq_self_eq_true
abbrev K5:=@Std.lt_of_le_of_ne
abbrev K6:=@Rat.num_nonneg
abbrev K7:=@Rat.num_intCast
abbrev K8:=@Rat.le_of_lt
abbrev K9:=@Rat.den_intCast
abbrev Ka:=@PySem.W.hideAll_get
abbrev Kb:=@PySem.F.slot_zip_next
abbrev Kc:=@PySem.F.slot_tuple_iterator_next
abbrev Kd:=@PyProof.Rows.boot_int
abbrev Ke:=@Nat.sub_self
abbrev Kf:=@Nat.lt_trans
abbrev Kg:=@Nat.lt_succ_of_lt
abbrev Kh:=@Nat.lt_succ_iff_lt_or_eq
abbrev Ki:=@Nat.le_of_lt
abbrev Kj:=@List.take_of_length_le
abbrev Kk:=@List.set_set
abbrev Kl:=@List.mem_cons_self
abbrev Km:=@List.length_pos_iff
abbrev Kn:=@List.length_nil
abbrev Ko:=@List.length_drop
abbrev Kp:=@List.getElem?_set_ne
abbrev Kq:=@List.all_cons
abbrev Kr:=@Int.mul_ne_zero
abbrev Ks:=@Int.mul_comm
abbrev Kt:=@Int.lt_or_le
abbrev Ku:=@Int.le_of_lt
abbrev Kv:=@PySem.Heap.get?_update_self
abbrev Kw:=@Bool.and_true
abbrev Kx:=@Array.getElem?_eq_some_iff
abbrev Wn:=@PySem.wpAny_updateSeq_pair
abbrev Wo:=@PySem.wpAny_pyNext_range_end
abbrev Wq:=@PySem.wpAny_newFunctionEnv
abbrev Wr:=@PySem.SeqAt.canLay_of_shaped
abbrev Ws:=@Rat.intCast_lt_intCast
abbrev Wt:=@Rat.divInt_sub_divInt
abbrev Wu:=@Rat.divInt_mul_divInt
abbrev Wv:=@PySem.W.plainGet_of
abbrev Ww:=@PySem.W.callWith_K
abbrev Wx:=@PySem.Str.cps_append
abbrev Wy:=@PyProof.Rows.slot_tuple_getitem
abbrev Wz:=@PyProof.Rows.boot_min
abbrev WA:=@PyProof.Rows.boot_bool
abbrev WB:=@PyProof.Rows.boot_any
abbrev WC:=@PySem.Obj.isFreed_of_fields
abbrev WD:=@Nat.lt_succ_self
abbrev WE:=@List.mem_iff_getElem
abbrev WG:=@List.mem_append_left
abbrev WH:=@List.getElem?_replicate
abbrev WI:=@List.filterMap_cons
abbrev WJ:=@Int.toNat_natCast
abbrev WK:=@Int.mul_nonneg_of_nonpos_of_nonpos
abbrev WL:=@Int.mul_le_mul_of_nonneg_right
abbrev WM:=@Int.mul_le_mul_of_nonneg_left
abbrev WN:=@Int.lt_trichotomy
abbrev WO:=@Int.fdiv_eq_ediv_of_nonneg
abbrev WQ:=@PySem.F.slot_range_reversed
abbrev WR:=@Bool.not_eq_true'
abbrev abN:=@PySem.F.entry_tuple_iterator_next
abbrev abO:=@PySem.F.args_tuple_iterator_next_1
abbrev abP:=@Array.all_eq_true_iff_forall_mem
namespace L2
open PySem PySem.Spec PyProof.Rows
abbrev Key:=Sum Int Str
def vS:Key->Value->Bool | .inl k,v=>Value.isInt k v | .inr x,v=>Value.isStrOf x v
def a4N(w:World):Key->Int | .inl k=>hashInt k | .inr x=>hashStr w x
theorem oS:∀{k:Key}{v:Value},vS k v=true->(∃i t,k=Sum.inl i/\v=Value.int i t)\/(∃x t,k=Sum.inr x/\v=Value.str x t) | .inl i,v,h=>by obtain⟨t,e⟩:=Value.isInt_shape (k:=i) (v:=v) h;exact .inl ⟨i,t,rfl,e⟩ | .inr x,v,h=>by obtain⟨t,e⟩:=Value.isStrOf_shape (x:=x) (v:=v) h;exact .inr ⟨x,t,rfl,e⟩
theorem a4M(i:Int)(t:Tok):vS (.inl i) (.int i t)=true:=by simp[vS,Value.isInt]
theorem a4L(x:Str)(t:Tok):vS (.inr x) (.str x t)=true:=by simp[vS,Value.isStrOf]
theorem a4K(a b:Int):decide ((Sum.inl a:Key)=Sum.inl b)=(a==b):=by
 by_cases e:a=b
 ·subst e;simp
 · have h:¬(Sum.inl a:Key)=Sum.inl b:=fun q=>e (Sum.inl.inj q)
   rw[fe h];exact(CT.mpr e).symm
theorem a4H(a b:Str):decide ((Sum.inr a:Key)=Sum.inr b)=decide (a=b):=by
 by_cases e:a=b
 ·subst e;simp
 · have h:¬(Sum.inr a:Key)=Sum.inr b:=fun q=>e (Sum.inr.inj q)
   rw[fe h,fe e]
theorem a4J(a:Int)(b:Str):decide ((Sum.inl a:Key)=Sum.inr b)=false:=fe (fun q=>nomatch q)
theorem a4I(a:Str)(b:Int):decide ((Sum.inr a:Key)=Sum.inl b)=false:=fe (fun q=>nomatch q)
def jx(prog:ah)(w:World):PySem.KeyKind prog w Key where
 is:=vS
 hash:=a4N w
 inj:=fun v a b ha hb=>by
  rcases oS ha with⟨i,t,rfl,rfl⟩|⟨x,t,rfl,rfl⟩
  · rcases oS hb with⟨j,u,rfl,e⟩|⟨y,u,rfl,e⟩
    ·injection e with e1 _;rw[e1]
    ·exact nomatch e
  · rcases oS hb with⟨j,u,rfl,e⟩|⟨y,u,rfl,e⟩
    ·exact nomatch e
    ·injection e with e1 _;rw[e1]
 byValue:=fun k v h=>by rcases oS h with⟨i,t,rfl,rfl⟩|⟨x,t,rfl,rfl⟩<;>rfl
 pyHash:=fun hv h=>by
  rcases oS hv with⟨i,t,rfl,rfl⟩|⟨x,t,rfl,rfl⟩
  ·exact wpAny_pyHash_int h
  ·exact wpAny_pyHash_str h
 eqBool:=fun hu hv h=>by
  rcases oS hu with⟨i,t,rfl,rfl⟩|⟨x,t,rfl,rfl⟩
  · rcases oS hv with⟨j,u,rfl,rfl⟩|⟨y,u,rfl,rfl⟩
    ·rw[a4K]at h;exact wpAny_eqBool_int h
    ·rw[a4J]at h;exact SeqAt.EqAt.int_str i t y u _ _ _ _ h
  · rcases oS hv with⟨j,u,rfl,rfl⟩|⟨y,u,rfl,rfl⟩
    ·rw[a4I]at h;exact SeqAt.EqAt.str_int x t j u _ _ _ _ h
    ·rw[a4H]at h;exact wpAny_eqBool_str h
 «strs»:=fun k x t v h=>by
  rcases oS h with⟨i,u,rfl,e⟩|⟨y,u,rfl,e⟩
  ·exact nomatch e
  · injection e with e1 _
    subst e1;cases v<;>rfl
theorem a3H(prog:ah)(w:World)(i:Int)(t:Tok):(jx prog w).is (.inl i) (.int i t)=true:=a4M i t
theorem a3G(prog:ah)(w:World)(x:Str)(t:Tok):(jx prog w).is (.inr x) (.str x t)=true:=a4L x t
inductive V where |bo|bl (b:Bool)|int (i:Int)|str (x:Str)|wL (b:Array UInt8)|C1 (b:UInt64)|ref (a:Addr)|ty (n:String) deriving DecidableEq
def RelV:V->Value->Prop | .bo,u=>u=Value.none | .bl b,u=>u=Value.bool b | .int i,u=>∃t,u=Value.int i t | .str x,u=>∃t,u=Value.str x t | .wL b,u=>∃t,u=Value.bytes b t | .C1 b,u=>∃t,u=Value.float b t | .ref a,u=>u=Value.ref a | .ty n,u=>u=Value.type n
abbrev Vals:List V->List Value->Prop:=Paired RelV
theorem Vals.length{xs:List V}{us:List Value}(r:Vals xs us):xs.length=us.length:=Paired.length r
theorem Vals.get:∀{xs:List V}{us:List Value}{i:Nat}{x:V},Vals xs us->xs[i]? =some x->∃u,us[i]? =some u/\RelV x u |_,_,_,_,.nil,e=>by simp at e |_,_,0,_,.cons r _,e=>by simp at e;subst e;exact⟨_,rfl,r⟩ |_,_,i+1,x,.cons _ t,e=>by obtain⟨u,h1,h2⟩:=Vals.get (i:=i) (x:=x) t (by simpa using e);exact⟨u,by simpa using h1,h2⟩
theorem Vals.set{x:V}{u:Value}(r:RelV x u):∀{xs:List V}{us:List Value}(i:Nat),Vals xs us->Vals (xs.set i x) (us.set i u) |_,_,_,.nil=>.nil |_,_,0,.cons _ t=>.cons r t |_,_,i+1,.cons q t=>.cons q (Vals.set r i t)
theorem Vals.append:∀{xs ys:List V}{us ws:List Value},Vals xs us->Vals ys ws->Vals (xs++ys) (us++ws) |_,_,_,_,.nil,s=>s |_,_,_,_,.cons r t,s=>.cons r (Vals.append t s)
theorem Vals.take:∀{xs:List V}{us:List Value}(n:Nat),Vals xs us->Vals (xs.take n) (us.take n) |_,_,0,_=>.nil |_,_,_+1,.nil=>.nil |_,_,n+1,.cons r t=>.cons r (Vals.take n t)
theorem Vals.drop:∀{xs:List V}{us:List Value}(n:Nat),Vals xs us->Vals (xs.drop n) (us.drop n) |_,_,0,r=>r |_,_,_+1,.nil=>.nil |_,_,n+1,.cons _ t=>Vals.drop n t
def jE:Option V->Option Value->Prop |some v,some u=>RelV v u |none,none=>True |_,_=>False
def KV{κ:Type}:List (κ×V)->List (κ×Value)->Prop:=Paired fun(p:κ×V)(q:κ×Value)=>p.1=q.1/\RelV p.2 q.2
def kV:Key->V | .inl i=>.int i | .inr x=>.str x
inductive HO where /--a list -/ |lst (xs:List V) /--a tuple (never changes) -/ |tup (xs:List V) /--a dict X1 keys are ints and texts; one X1 keys are tuples of ints and texts (uP empty one is both) -/ |dK (aM:List (Key×V))|dT (aM:List (List Key×V)) /--a set of ints: its members,its size -/ |set (S:Int->Bool)(n:Nat) /--an instance of uP class at C,its dict at dx,its attributes -/ |ins (C dx:Addr)(fs:List (Str×V)) /--uP dict of uP instance at x -/ |own (x:Addr) /--uP dict of an exception -/ |xd (fs:List (Str×V)) /--a bound method,f of x -/ |met (f x:Addr) /--a range object lo,lo+1,.. below hi -/ |sM (lo hi:Int) /--a XA ac4 is known to uP object (uP E5; a dict while a loop walks it): read,never written while it is so -/ |mr (o:Obj)(u:HO) /--a code ach table -/ |fi (ps:Array Value) /--any other XA,by what is true of its one object (a def of acg own: ads a S n:=HO.ext fun h=>..) -/ |ext (φ:Heap->Prop)
abbrev Hp:=Addr->Option HO
def upd(H:Hp)(a:Addr)(o:HO):Hp:=fun b=>if b=a then some o else H b
theorem ba{H:Hp}{a:Addr}{o:HO}:upd H a o a=some o:=by unfold upd;rw[bc rfl]
theorem aK{H:Hp}{a b:Addr}{o:HO}(h:b≠a):upd H a o b=H b:=by unfold upd;rw[bf h]
theorem yh{H:Hp}{a b:Addr}{o u:HO}(h:H a=some o)(h':H b=some u)(d:o≠u):a≠b:=by intro e;subst e;rw[h]at h';exact d (dP h')
theorem fW{H:Hp}{a b:Addr}{o:HO}(h:H a=some o)(h':H b=none):a≠b:=by intro e;subst e;rw[h]at h';cases h'
section
variable (P:ah) (w:World)
def fK(H:Hp)(h:Heap)(a:Addr):HO->Prop | .lst xs=>xs.length<=sizeLine/\∃(its:List Value)(n:Nat),Vals xs its/\h.get? a=some {cls:=.type "list",data:=.seq its.toArray n} | .tup xs=>xs.length<=sizeLine/\∃its:List Value,Vals xs its/\IsTup h a its.toArray | .dK aM=>aM.length<=sizeLine/\(a==sysModules)=false/\∃vs,KV aM vs/\h.DictOf (jx P w) a vs | .dT aM=>aM.length<=sizeLine/\(a==sysModules)=false/\∃xs:List (List Key×Addr×Value),Paired (fun(p:List Key×V)(q:List Key×Addr×Value)=>p.1=q.1/\H q.2.1=some (.tup (p.1.map kV))/\RelV p.2 q.2.2) aM xs/\∃o es ep,h.get? a=some o/\o.ExactDict/\o.data= .dict es ep/\es.toList=xs.map (entryOfKey (tupleKind (jx P w)))/\(xs.map (·.1)).Nodup | .set S n=>h.SetOf (intKind P w) a S n | .ins C dx fs=>H dx=some (.own a)/\fs.length<=1000/\dx≠a/\h.get? a=some (PySem.W.instObj C dx)/\∃mA,h.Ns1 dx mA/\(∀f,jE (fs.lookup f) (mA f))/\PySem.Within mA (fs.map (·.1)) | .own _=>∃o,h.get? a=some o | .xd fs=>∃mA,h.Ns1 a mA/\∀f,jE (fs.lookup f) (mA f) | .sM lo hi=>∃t u v,h.get? a=some {cls:=.type "range",data:=.fields #[.int lo t,.int hi u,.int 1 v]} | .mr o u=>h.get? a=some o/\fK H h a u | .fi ps=>h.get? a=some {cls:=.none,data:=.fields ps} | .met f x=>h.get? a=some (PySem.W.methodObj (.ref f) (.ref x)) | .ext φ=>φ h/\(∃o,h.get? a=some o)/\∀h1 h2:Heap,φ h1->(∀o,h1.get? a=some o->h2.get? a=some o)->φ h2
def dJ(H:Hp)(h:Heap):Prop:=∀a o,H a=some o->fK P w H h a o
end
section
variable {P:ah}{w:World}{H H':Hp}{h h':Heap}{a:Addr}{o:HO}
theorem fK.lt(x:fK P w H h a o):a<h.objs.size:=by cases o with |lst xs=>obtain⟨_,_,_,_,e⟩:=x;exact cB e |tup xs=>obtain⟨_,_,_,p⟩:=x;exact p.lt |dK aM=>obtain⟨_,_,_,_,o,_,_,e,_⟩:=x;exact cB e |dT aM=>obtain⟨_,_,_,_,o,_,_,e,_⟩:=x;exact cB e |set S n=>obtain⟨o,_,_,_,e,_⟩:=x;exact cB e |ins C dx fs=>obtain⟨_,_,_,e,_⟩:=x;exact cB e |own y=>obtain⟨_,e⟩:=x;exact cB e |xd fs=>obtain⟨_,⟨_,_,_,e,_⟩,_⟩:=x;exact cB e |sM lo hi=>obtain⟨_,_,_,e⟩:=x;exact cB e |mr ob u=>obtain⟨e,_⟩:=x;exact cB e |fi ps=>exact cB (show h.get? a=some _ from x) |met f y=>exact cB (show h.get? a=some _ from x) |ext φ=>obtain⟨_,⟨_,e⟩,_⟩:=x;exact cB e
theorem Paired.GY{α β:Type}{F G:α->β->Prop}:∀{l₁:List α}{l₂:List β},Paired F l₁ l₂->(∀a b,F a b->G a b)->Paired G l₁ l₂ |_,_,.nil,_=>.nil |_,_,.cons r t,f=>.cons (f _ _ r) (Paired.GY t f)
theorem fK.m7(x:fK P w H h a o)(k:∀b u,(b=a\/H b=some (.own a))->h.get? b=some u->h'.get? b=some u) (ho:∀b,H b=some (.own a)->H' b=some (.own a))(ht:∀b xs,H b=some (.tup xs)->H' b=some (.tup xs)):fK P w H' h' a o:=by induction o with |lst xs=>obtain⟨z,its,n,r,e⟩:=x;exact⟨z,its,n,r,k _ _ (.inl rfl) e⟩ |tup xs=>obtain⟨z,its,r,ob,e,c⟩:=x;exact⟨z,its,r,ob,k _ _ (.inl rfl) e,c⟩ |dK aM=>obtain⟨z,y,vs,r,ob,es,ep,e,c⟩:=x;exact⟨z,y,vs,r,ob,es,ep,k _ _ (.inl rfl) e,c⟩ |dT aM=>obtain⟨z,y,xs,r,ob,es,ep,e,c⟩:=x;exact⟨z,y,xs,Paired.GY r fun p q z=>⟨z.1,ht _ _ z.2.1,z.2.2⟩,ob,es,ep,k _ _ (.inl rfl) e,c⟩ |set S n=>obtain⟨ob,es,ep,t,e,c⟩:=x;exact⟨ob,es,ep,t,k _ _ (.inl rfl) e,c⟩ |ins C dx fs=>obtain⟨d,z,ne,e,mA,⟨od,es,ep,e2,c⟩,r⟩:=x;exact⟨ho _ d,z,ne,k _ _ (.inl rfl) e,mA,⟨od,es,ep,k _ _ (.inr d) e2,c⟩,r⟩ |own y=>obtain⟨ob,e⟩:=x;exact⟨ob,k _ _ (.inl rfl) e⟩ |xd fs=>obtain⟨mA,⟨od,es,ep,e,c⟩,r⟩:=x;exact⟨mA,⟨od,es,ep,k _ _ (.inl rfl) e,c⟩,r⟩ |sM lo hi=>obtain⟨t,u,v,e⟩:=x;exact⟨t,u,v,k _ _ (.inl rfl) e⟩ |mr ob u ih=>obtain⟨e,q⟩:=x;exact⟨k _ _ (.inl rfl) e,ih q⟩ |fi ps=>have e:h.get? a=some {cls:=.none,data:=.fields ps}:=x;show h'.get? a=some {cls:=.none,data:=.fields ps};exact k a _ (.inl rfl) e |met f y=>have e:h.get? a=some (PySem.W.methodObj (.ref f) (.ref y)):=x;show h'.get? a=some (PySem.W.methodObj (.ref f) (.ref y));exact k a _ (.inl rfl) e |ext φ=>obtain⟨p,⟨o,e⟩,st⟩:=x;exact⟨st _ _ p fun o q=>k _ _ (.inl rfl) q,⟨o,k _ _ (.inl rfl) e⟩,st⟩
theorem dJ.lt(x:dJ P w H h)(e:H a=some o):a<h.objs.size:=(x a o e).lt
theorem dJ.fresh(x:dJ P w H h)(e:h.objs.size<=a):H a=none:=by cases q:H a with |none=>rfl |some u=>exact absurd (g9 (x.lt q) e) (pO _)
theorem dJ.kept(x:dJ P w H h)(k:∀b u,h.get? b=some u->h'.get? b=some u):dJ P w H h':=fun a o e=>(x a o e).m7 (fun b u _ q=>k b u q) (fun _ q=>q) fun _ _ q=>q
theorem dJ.laid(x:dJ P w H h)(k:∀b u,h.get? b=some u->h'.get? b=some u)(hp:h.objs.size<=a)(new:fK P w (upd H a o) h' a o):dJ P w (upd H a o) h':=fun b u e=>by
 have hn:=x.fresh hp;by_cases hb:b=a
 ·subst hb;rw[ba]at e;cases e;exact new
 · rw[aK hb]at e
   exact(x b u e).m7 (fun c v _ q=>k c v q) (fun c q=>by rw[aK (fW q hn)];exact q) fun c xs q=>by rw[aK (fW q hn)];exact q
end
def Rd(H:Hp)(a:Addr)(u:HO):Prop:=H a=some u\/∃o,H a=some (.mr o u)
theorem Rd.ok{P:ah}{w:World}{H:Hp}{h:Heap}{a:Addr}{u:HO}(r:Rd H a u)(x:dJ P w H h):fK P w H h a u:=by
 rcases r with r|⟨o,r⟩
 ·exact x a u r
 · obtain⟨_,q⟩:=x a _ r
   exact q
def zr:Option HO->Prop |some (.lst _)=>True |some (.dK _)=>True |some (.dT _)=>True |some (.set _ _)=>True |some (.ins _ _ _)=>True |some (.ext _)=>True |_=>False
section
variable {P:ah}{w:World}{H:Hp}{h h':Heap}{x e:Addr}{o':HO}
theorem dJ.write(ok:dJ P w H h)(mu:zr (H x))(he:e=x\/H e=some (.own x))(k:∀b u,b≠e->h.get? b=some u->h'.get? b=some u)(wm:∃u,h'.get? e=some u) (new:fK P w (upd H x o') h' x o'):dJ P w (upd H x o') h':=fun b u q=>by
  have P6:∀c y,H c=some (.own y)->c≠x:=fun c y r z=>by subst z;rw[r]at mu;exact mu
  have a38:∀c xs,H c=some (.tup xs)->c≠x:=fun c xs r z=>by subst z;rw[r]at mu;exact mu
  by_cases hb:b=x
  ·subst hb;rw[ba]at q;cases q;exact new
  · rw[aK hb]at q
    by_cases tY:b=e
    · have q':H b=some (.own x):=by
        rcases he with z|z
        ·exact absurd (tY.trans z) hb
        ·rw[tY];exact z
      rw[q]at q';cases q';obtain⟨v,hv⟩:=wm;exact⟨v,by rw[tY];exact hv⟩
    · refine(ok b u q).m7 (fun c v hc r=>k c v ?_ r) (fun c r=>by rw[aK (P6 c b r)];exact r) fun c xs r=>by rw[aK (a38 c xs r)];exact r
      rcases hc with rfl|hc
      ·exact tY
      · rintro rfl
        rcases he with z|z
        ·exact P6 c b hc z
        ·rw[hc]at z;cases z;exact hb rfl
end
structure Un(fs ex:List Addr)(H H':Hp)(h h':Heap):Prop where
 keep:∀b o,h.get? b=some o->H b=none->b∉fs->b∉ex->h'.get? b=some o
 slot:∀b o,h.get? b=some o->H b=none->b∈fs->b∉ex->∃sl,h'.get? b=some {o with slots:=sl}
 free:∀b o,h.get? b=some o->H b=none->b∉ex->H' b=none
 there:∀b o,h.get? b=some o->b∉ex->∃o',h'.get? b=some o'
 ku:∀b xs,H b=some (.tup xs)->H' b=some (.tup xs)
 jW:∀b o u,H b=some (.mr o u)->H' b=some (.mr o u)
 jN:∀b ps,H b=some (.fi ps)->∃more,H' b=some (.fi (ps++more))
section
variable {fs fs' ex pj:List Addr}{H H1 H2:Hp}{h h1 h2 h':Heap}{a x e:Addr}{o:HO}
theorem Un.any(u:Un fs ex H H1 h h1){b:Addr}{ob:Obj}(q:h.get? b=some ob)(n:H b=none)(hx:b∉ex):∃sl,h1.get? b=some {ob with slots:=sl}:=by
 by_cases hb:b∈fs
 ·exact u.slot b ob q n hb hx
 ·exact⟨ob.slots,u.keep b ob q n hb hx⟩
theorem Un.kept(k:∀b u,h.get? b=some u->h'.get? b=some u):Un fs ex H H h h':=⟨fun b ob q _ _ _=>k b ob q,fun b ob q _ _ _=>⟨ob.slots,k b ob q⟩,fun _ _ _ n _=>n,fun b ob q _=>⟨ob,k b ob q⟩,fun _ _ q=>q,fun _ _ _ q=>q,fun _ ps q=>⟨#[],by rw[q];simp⟩⟩
theorem Un.refl:Un fs ex H H h h:=Un.kept fun _ _ q=>q
theorem Un.laid(k:∀b u,h.get? b=some u->h'.get? b=some u)(hp:h.objs.size<=a)(hn:H a=none):Un fs ex H (upd H a o) h h' where
 keep:=fun b u q _ _ _=>k b u q
 slot:=fun b u q _ _ _=>⟨u.slots,k b u q⟩
 free:=fun b u q n _=>by rw[aK (fC (g9 (cB q) hp))];exact n
 there:=fun b u q _=>⟨u,k b u q⟩
 ku:=fun b xs q=>by rw[aK (fW q hn)];exact q
 jW:=fun b u xs q=>by rw[aK (fW q hn)];exact q
 jN:=fun b ps q=>⟨#[],by rw[aK (fW q hn),q];simp⟩
theorem Un.write(mu:zr (H x))(he:e=x\/H e=some (.own x))(k:∀b u,b≠e->h.get? b=some u->h'.get? b=some u)(wm:∃u,h'.get? e=some u):Un fs ex H (upd H x o) h h':=by
 have hx:∀b,H b=none->b≠x:=fun b n z=>by subst z;rw[n]at mu;exact mu
 have hb:∀b,H b=none->b≠e:=fun b n z=>by
  subst z;rcases he with r|r
  ·exact hx b n r
  ·rw[n]at r;cases r
 have hm:∀b u,H b=some u->¬zr (some u)->b≠x:=fun b u q nm z=>by subst z;rw[q]at mu;exact nm mu
 refine⟨fun b u q n _ _=>k b u (hb b n) q,fun b u q n _ _=>⟨u.slots,k b u (hb b n) q⟩,fun b u q n _=>by rw[aK (hx b n)];exact n,fun b u q _=>?_,fun b xs q=>by rw[aK (hm b _ q fun z=>z)];exact q,fun b u xs q=>by rw[aK (hm b _ q fun z=>z)];exact q,fun b ps q=>⟨#[],by rw[aK (hm b _ q fun z=>z),q];simp⟩⟩;by_cases tY:b=e
 ·subst tY;exact wm
 ·exact⟨u,k b u tY q⟩
end
def A5(h:Heap)(H:Hp):List Addr:=(List.range h.objs.size).filter fun a=>(H a).isSome
def nj(h:Heap)(H:Hp):Heap:=PySem.W.hideAll h (A5 h H)
theorem a6o(h:Heap)(H:Hp):(nj h H).objs.size=h.objs.size:=PySem.W.hideAll_size _ _
theorem a6p{h:Heap}{H:Hp}{b:Addr}{o:Obj}(e:h.get? b=some o)(n:H b=none):(nj h H).get? b=some o:=Ka _ e fun hm=>by have q:(H b).isSome=true:=(List.mem_filter.mp hm).2;rw[n]at q;simp at q
theorem a34{h:Heap}{H:Hp}{b:Addr}{o:Obj}(e:(nj h H).get? b=some o):h.get? b=some o/\H b=none:=by have e':h.get? b=some o:=PySem.W.of_hideAll (A5 h H) e;refine⟨e',?_⟩;cases q:H b with |none=>rfl |some x=>have hm:b∈A5 h H:=List.mem_filter.mpr ⟨List.mem_range.mpr (cB e'),by simp[q]⟩;have z:(nj h H).get? b=none:=PySem.W.hideAll_none (A5 h H) hm;rw[z]at e;cases e
structure Mod(K:aa)(mg:Str->Option Value)(base:Heap):Prop where
 oQ:K.In base
 glob:base.Ns mainGlobals mg
 blt:∃mb,base.Ns builtinsNs mb/\∀x:Str,x≠"__name__"->mb x=bootBuiltins x
 nolimit:base.NoLimit
structure Cx where
 prog:ah
 w:World
 K:aa
 mg:Str->Option Value
 base:Heap
 A:aj
 N:List Str
 s₀:ae
 H₀:Hp
 env:Env
 outer:List Env
 stack:List Env
 ex:List Addr
 fn:Str->Bool
 calm:Bool
 pn:List (Addr×Obj)
 xe:Value->ae->Prop
def dj(l:List Env):List Addr:=l.filterMap (·.frame)
abbrev Cx.fs(X:Cx):List Addr:=dj X.outer
def Cy(sc:Scope)(x:Str):Prop:=sc.names.lookup x=some .local\/sc.names.lookup x=some .cell\/sc.names.lookup x=some .free
def Loc(sc:Scope)(x:Str):Prop:=sc.names.lookup x=some .local\/sc.names.lookup x=some .cell
def Look(env:Env)(h:Heap)(m:Str->Option Value)(x:Str)(u:Value):Prop:=(env.kindOf x=some .local/\m x=some u)\/((env.kindOf x=some .cell\/env.kindOf x=some .free)/\∃c,env.cells.lookup x=some c/\h.IsCell c (some u))
structure Cx.Ok(X:Cx):Prop where
 mod:Mod X.K X.mg X.base
 kind:X.env.scope.kind= .function
 glob:X.env.globals=mainGlobals
 blt:X.env.builtins=builtinsNs
 above:X.s₀.heap.objs.size<=X.env.locals
 inj:∀x y c,X.env.cells.lookup x=some c->X.env.cells.lookup y=some c->x=y
 has:∀x,(X.env.kindOf x=some .cell\/X.env.kindOf x=some .free)->∃c,X.env.cells.lookup x=some c
 qV:∀x c,X.fn x=true->X.env.cells.lookup x=some c->X.s₀.heap.objs.size<=c
 hd:X.calm=true->X.A.handled=none
 frames:X.A.frames=some X.stack
 uT:X.stack=X.outer\/(X.stack=X.env::X.outer/\X.env.frame=some X.env.locals)
 C4:∀b∈X.ex,b≠X.env.locals/\∀x c,X.env.cells.lookup x=some c->c≠b
 bs:∀b o,X.base.get? b=some o->X.s₀.heap.get? b=some o/\X.H₀ b=none
 m5:X.base.objs.size<=X.s₀.heap.objs.size
 sY:∀b o,X.base.get? b=some o->b∉X.ex
 qP:∀b∈X.ex,b∉X.fs
 jC:X.s₀.heap.FunFrames X.base X.outer
 ny:∀b∈X.fs,X.H₀ b=none
structure Inv(X:Cx)(au:List (Addr×Obj))(Z:List (Option V))(H:Hp)(s:ae):Prop where
 ok:X.Ok
 os:s.os=X.s₀.os
 bare:AllBare s.gens
 base:Un X.fs X.ex X.H₀ H X.s₀.heap s.heap
 loc:∃m,s.heap.Ns X.env.locals m/\∀(i:Nat)(x:Str)(v:V),X.N[i]? =some x->Z[i]? =some (some v)->Cy X.env.scope x->∃u,RelV v u/\Look X.env s.heap m x u
 cell:∀x c,X.env.cells.lookup x=some c->∃v,s.heap.IsCell c v
 free:H X.env.locals=none
 jX:∀x c,X.env.cells.lookup x=some c->H c=none
 pin:∀p∈X.pn++au,s.heap.get? p.1=some p.2/\H p.1=none/\p.1≠X.env.locals/\p.1∉X.fs/\∀v,p.2.data≠ .cell v
 aX:dJ X.prog X.w H s.heap
 len:Z.length=X.N.length
section
variable {X:Cx}{au:List (Addr×Obj)}{Z:List (Option V)}{H H':Hp}{s:ae}{h':Heap}
theorem Cx.Ok.a3g(ok:X.Ok){b:Addr}{o:Obj}(e:X.base.get? b=some o):b∉X.fs:=fun hb=>by have:=(ok.jC.mem hb).1;rw[e]at this;cases this
theorem Inv.bs(I:Inv X au Z H s):∀b o,X.base.get? b=some o->s.heap.get? b=some o/\H b=none:=fun b o e=>⟨I.base.keep b o (I.ok.bs b o e).1 (I.ok.bs b o e).2 (I.ok.a3g e) (I.ok.sY b o e),I.base.free b o (I.ok.bs b o e).1 (I.ok.bs b o e).2 (I.ok.sY b o e)⟩
theorem Inv.bk(I:Inv X au Z H s):∀b o,X.base.get? b=some o->s.heap.get? b=some o:=fun b o e=>(I.bs b o e).1
theorem Inv.mod(I:Inv X au Z H s):Mod X.K X.mg X.base:=I.ok.mod
theorem Inv.gD(I:Inv X au Z H s):X.K.In s.heap:=I.ok.mod.oQ.keeps I.bk
theorem Inv.lt(I:Inv X au Z H s):X.env.locals<s.heap.objs.size:=let⟨_,hn,_⟩:=I.loc;hn.lt
theorem Inv.sz(I:Inv X au Z H s):X.s₀.heap.objs.size<=s.heap.objs.size:=iy I.ok.above (Ki I.lt)
theorem Inv.P9(I:Inv X au Z H s){a:Addr}(h:s.heap.objs.size<=a):a∉X.fs:=fun hb=>by obtain⟨_,o,ho,_⟩:=I.ok.jC.mem hb;exact absurd (g9 (cB ho) (iy I.sz h)) (pO _)
theorem Inv.ka(I:Inv X au Z H s):∀x c,X.env.cells.lookup x=some c->c≠X.env.locals:=fun x c e z=>by obtain⟨v,o,ho,hd⟩:=I.cell x c e;obtain⟨m,⟨o',es,ep,mi,wo,_⟩,_⟩:=I.loc;rw[z,mi]at ho;cases ho;rw[wo]at hd;cases hd
theorem Inv.jC(I:Inv X au Z H s):s.heap.FunFrames X.base X.outer:=by
 have all:∀(l:List Env),(∀b∈dj l,b∈X.fs)->X.s₀.heap.FunFrames X.base l->s.heap.FunFrames X.base l:=by intro l;induction l with |nil=>intro _ _;trivial |cons env r ih=>intro hs hl;obtain⟨hk,⟨L,o,hf,hn,ho,hd⟩,hr⟩:=hl;have hL:L∈X.fs:=hs L (by unfold dj;rw[WI,hf];exact Kl);obtain⟨sl,e⟩:=I.base.slot L o ho (I.ok.ny L hL) hL fun z=>I.ok.qP L z hL;exact⟨hk,⟨L,_,hf,hn,e,hd⟩,ih (fun b hb=>hs b (by unfold dj;rw[WI,hf];exact iz _ hb)) hr⟩
 exact all X.outer (fun _ hb=>hb) I.ok.jC
theorem Inv.stack(I:Inv X au Z H s):s.heap.FunFrames X.base X.stack:=by
 rcases I.ok.uT with e|⟨e,hf⟩
 ·rw[e];exact I.jC
 · rw[e]
   obtain⟨m,hn,_⟩:=I.loc;refine .cons (by rw[I.ok.kind];decide) hf hn ?_ I.jC;exact Heap.get?_none_of_le (iy I.ok.m5 I.ok.above)
theorem Inv.xC(I:Inv X au Z H s):∀b∈dj X.stack,b∈X.env.locals::X.fs:=fun b hb=>by
 rcases I.ok.uT with e|⟨e,hf⟩
 ·rw[e]at hb;exact iz _ hb
 · rw[e]at hb
   unfold dj at hb;rw[WI,hf]at hb;exact hb
theorem Inv.Ah(I:Inv X au Z H s):∀b∈dj X.stack,H b=none:=fun b hb=>by
 rcases bN.mp (I.xC b hb)with e|hb
 ·rw[e];exact I.free
 · obtain⟨_,o,ho,_⟩:=I.ok.jC.mem hb
   exact I.base.free b o ho (I.ok.ny b hb) fun z=>I.ok.qP b z hb
theorem Inv.step{g':Array GenState}{t':Nat}{d':Drawn}{ch:List Addr}(I:Inv X au Z H s) (nk:∀b∈ch,(b∈X.ex\/X.s₀.heap.objs.size<=b)/\b≠X.env.locals/\(∀x c,X.env.cells.lookup x=some c->c≠b)/\∀p∈X.pn++au,p.1≠b) (keep:∀b o,b≠X.env.locals->b∉X.fs->b∉ch->s.heap.get? b=some o->H b=none->h'.get? b=some o) (slot:∀b o,b≠X.env.locals->b∈X.fs->b∉ch->s.heap.get? b=some o->H b=none->∃sl,h'.get? b=some {o with slots:=sl})(free:∀b o,b∉ch->s.heap.get? b=some o->H b=none->H' b=none) (there:∀b o,b∉ch->s.heap.get? b=some o->∃o',h'.get? b=some o') (ku:∀b xs,H b=some (.tup xs)->H' b=some (.tup xs))(jW:∀b o u,H b=some (.mr o u)->H' b=some (.mr o u))(jN:∀b ps,H b=some (.fi ps)->∃more,H' b=some (.fi (ps++more))) (ns:∀m,s.heap.Ns X.env.locals m->h'.Ns X.env.locals m)(aX:dJ X.prog X.w H' h')(hg:AllBare g'): Inv X au Z H' {s with heap:=h',gens:=g',drawn:=d',toks:=t'}:=by
  have Pj:∀b o,X.s₀.heap.get? b=some o->b≠X.env.locals:=fun b o e=>fC (g9 (cB e) I.ok.above);have AX:∀b o,X.s₀.heap.get? b=some o->b∉X.ex->b∉ch:=fun b o e hx hb=>by
   rcases(nk b hb).1 with z|z
   ·exact hx z
   ·exact absurd (g9 (cB e) z) (pO _)
  have cellK:∀x c,X.env.cells.lookup x=some c->∀v,s.heap.IsCell c v->h'.IsCell c v:=fun x c e v ⟨o,ho,hd⟩=>by
   have yi:c∉ch:=fun z=>(nk c z).2.2.1 x c e rfl;by_cases hc:c∈X.fs
   · obtain⟨sl,q⟩:=slot c o (I.ka x c e) hc yi ho (I.jX x c e)
     exact⟨_,q,hd⟩
   ·exact⟨o,keep c o (I.ka x c e) hc yi ho (I.jX x c e),hd⟩
  refine⟨I.ok,I.os,hg,⟨fun b o e n hb hx=>?_,fun b o e n hb hx=>?_,fun b o e n hx=>?_,fun b o e hx=>?_,fun b xs e=>ku b xs (I.base.ku b xs e),fun b o xs e=>jW b o xs (I.base.jW b o xs e),fun b ps e=>?_⟩,?_,fun x c e=>?_,?_,fun x c e=>?_,fun p hp=>?_,aX,I.len⟩
  ·exact keep b o (Pj b o e) hb (AX b o e hx) (I.base.keep b o e n hb hx) (I.base.free b o e n hx)
  · obtain⟨sl,e1⟩:=I.base.slot b o e n hb hx
    obtain⟨E1,e2⟩:=slot b _ (Pj b o e) hb (AX b o e hx) e1 (I.base.free b o e n hx);exact⟨E1,e2⟩
  · obtain⟨o',e1⟩:=I.base.there b o e hx
    exact free b o' (AX b o e hx) e1 (I.base.free b o e n hx)
  · obtain⟨o',e1⟩:=I.base.there b o e hx
    exact there b o' (AX b o e hx) e1
  · obtain⟨m1,e1⟩:=I.base.jN b ps e
    obtain⟨m2,e2⟩:=jN b _ e1;exact⟨m1++m2,by rw[e2,Array.append_assoc]⟩
  · obtain⟨m,hn,hl⟩:=I.loc
    refine⟨m,ns m hn,fun i x v e1 e2 e3=>?_⟩;obtain⟨u,r,l⟩:=hl i x v e1 e2 e3;refine⟨u,r,?_⟩;rcases l with l|⟨k,c,e,z⟩
    ·exact .inl l
    ·exact .inr ⟨k,c,e,cellK x c e _ z⟩
  · obtain⟨v,z⟩:=I.cell x c e
    exact⟨v,cellK x c e v z⟩
  · obtain⟨m,⟨o,_,_,ho,_⟩,_⟩:=I.loc
    exact free _ o (fun z=>(nk _ z).2.1 rfl) ho I.free
  · obtain⟨v,o,ho,hd⟩:=I.cell x c e
    exact free c o (fun z=>(nk c z).2.2.1 x c e rfl) ho (I.jX x c e)
  · obtain⟨e,n,ne,nf,d⟩:=I.pin p hp
    have yi:p.1∉ch:=fun z=>(nk p.1 z).2.2.2 p hp rfl;exact⟨keep p.1 p.2 ne nf yi e n,free p.1 p.2 yi e n,ne,nf,d⟩
theorem Inv.un{t':Nat}(I:Inv X au Z H s)(u:Un X.fs [] H H' s.heap h')(aX:dJ X.prog X.w H' h'):Inv X au Z H' {s with heap:=h',toks:=t'}:=by obtain⟨m,⟨o,es,ep,ho,r⟩,_⟩:=id I.loc;obtain⟨sl,hL⟩:=u.any ho I.free (by simp);exact I.step (g':=s.gens) (d':=s.drawn) (ch:=[]) (fun _ z=>nomatch z) (fun b o _ hb _ e n=>u.keep b o e n hb (by simp)) (fun b o _ hb _ e n=>u.slot b o e n hb (by simp)) (fun b o _ e n=>u.free b o e n (by simp)) (fun b o _ e=>u.there b o e (by simp)) u.ku u.jW u.jN (fun m' hm=>by obtain⟨o',pk,Jb,mi,r'⟩:=hm;rw[ho]at mi;cases mi;exact⟨_,pk,Jb,hL,r'⟩) aX I.bare
theorem Inv.call{g':Array GenState}{t':Nat}{d':Drawn}{ch:List Addr}(I:Inv X au Z H s)(u:Un (dj X.stack) ch H H' s.heap h')(aX:dJ X.prog X.w H' h')(hg:AllBare g') (nk:∀b∈ch,(b∈X.ex\/X.s₀.heap.objs.size<=b)/\b≠X.env.locals/\(∀x c,X.env.cells.lookup x=some c->c≠b)/\∀p∈X.pn++au,p.1≠b): Inv X au Z H' {s with heap:=h',gens:=g',drawn:=d',toks:=t'}:=by obtain⟨m,⟨o,es,ep,ho,r⟩,_⟩:=id I.loc;obtain⟨sl,hL⟩:=u.any ho I.free fun z=>(nk _ z).2.1 rfl;exact I.step (ch:=ch) nk (fun b o hL hb hc e n=>u.keep b o e n (fun z=>(bN.mp (I.xC b z)).elim hL hb) hc) (fun b o _ _ hc e n=>u.any e n hc) (fun b o hc e n=>u.free b o e n hc) (fun b o hc e=>u.there b o e hc) u.ku u.jW u.jN (fun m' hm=>by obtain⟨o',pk,Jb,mi,r'⟩:=hm;rw[ho]at mi;cases mi;exact⟨_,pk,Jb,hL,r'⟩) aX hg
theorem Inv.turned{t':Nat}{it:Addr}(I:Inv X au Z H s)(k:∀b o,b≠it->s.heap.get? b=some o->h'.get? b=some o)(hn:H it=none)(hL:it≠X.env.locals) (h1:it∈X.ex\/X.s₀.heap.objs.size<=it)(h2:∀x c,X.env.cells.lookup x=some c->c≠it)(h3:∀p∈X.pn++au,p.1≠it):Inv X au Z H {s with heap:=h',toks:=t'}:=by
  have yg:∀b u,H b=some u->b≠it:=fun b u e z=>by rw[z,hn]at e;cases e
  refine I.step (g':=s.gens) (d':=s.drawn) (ch:=[it]) (fun b hb=>?_) (fun b o _ _ hc e _=>k b o (fun z=>hc (by simp[z])) e) (fun b o _ _ hc e _=>⟨o.slots,k b o (fun z=>hc (by simp[z])) e⟩) (fun _ _ _ _ n=>n) (fun b o hc e=>⟨o,k b o (fun z=>hc (by simp[z])) e⟩) (fun _ _ e=>e) (fun _ _ _ e=>e) (fun b ps e=>⟨#[],by rw[e];simp⟩) (fun m hm=>?_) (fun b u e=>?_) I.bare
  · have e:b=it:=by simpa using hb
    subst e;exact⟨h1,hL,h2,h3⟩
  · obtain⟨o,es,ep,ho,r⟩:=hm
    exact⟨o,es,ep,k _ o (fg hL) ho,r⟩
  · refine(I.aX b u e).m7 (fun c v hc q=>k c v ?_ q) (fun _ q=>q) fun _ _ q=>q
    rcases hc with z|z
    ·rw[z];exact yg b u e
    ·exact yg c _ z
theorem Inv.tok(I:Inv X au Z H s)(t:Nat):Inv X au Z H {s with toks:=t}:=I.un (h':=s.heap) (t':=t) Un.refl I.aX
theorem Inv.kept{t':Nat}(I:Inv X au Z H s)(k:∀b u,s.heap.get? b=some u->h'.get? b=some u):Inv X au Z H {s with heap:=h',toks:=t'}:=I.un (Un.kept k) (I.aX.kept k)
theorem Inv.laid{a:Addr}{o:HO}{t':Nat}(I:Inv X au Z H s)(k:∀b u,s.heap.get? b=some u->h'.get? b=some u)(hp:s.heap.objs.size<=a)(new:fK X.prog X.w (upd H a o) h' a o): Inv X au Z (upd H a o) {s with heap:=h',toks:=t'}:=I.un (Un.laid k hp (I.aX.fresh hp)) (I.aX.laid k hp new)
theorem Inv.write{x e:Addr}{o:HO}{t':Nat}(I:Inv X au Z H s)(mu:zr (H x))(he:e=x\/H e=some (.own x))(k:∀b u,b≠e->s.heap.get? b=some u->h'.get? b=some u)(wm:∃u,h'.get? e=some u) (new:fK X.prog X.w (upd H x o) h' x o):Inv X au Z (upd H x o) {s with heap:=h',toks:=t'}:=I.un (Un.write mu he k wm) (I.aX.write mu he k wm new)
theorem Inv.Ov{Gq:List (Addr×Obj)}(I:Inv X au Z H s)(h:∀p∈Gq,s.heap.get? p.1=some p.2/\H p.1=none/\p.1≠X.env.locals/\p.1∉X.fs/\∀v,p.2.data≠ .cell v):Inv X Gq Z H s:=⟨I.ok,I.os,I.bare,I.base,I.loc,I.cell,I.free,I.jX,fun p hp=>(uI.mp hp).elim (fun z=>I.pin p (WG _ z)) (h p),I.aX,I.len⟩
theorem GI{N:List Str}(hN:N.Nodup){i j:Nat}{x:Str}(a:N[i]? =some x)(b:N[j]? =some x):i=j:=by obtain⟨h1,e1⟩:=dM.mp a;obtain⟨h2,e2⟩:=dM.mp b;exact(List.getElem_inj hN).mp (e1.trans e2.symm)
theorem Lz{M:Model}{A:aj}{E:Value->ae->Prop}{i:Nat}{x:Str}{v:V}{u:Value}{Q:Unit->ae->Prop}(I:Inv X au Z H s)(hN:X.N.Nodup)(hi:X.N[i]? =some x)(hx:Loc X.env.scope x)(r:RelV v u) (h:∀s',Inv X au (Z.set i (some v)) H s'->(∃a,Heap.SameBut a s.heap s'.heap/\(a=X.env.locals\/X.env.cells.lookup x=some a))->Q () s')(hf:X.fn x=true\/X.env.scope.names.lookup x=some .local:=by first|exact .inl rfl|exact .inr rfl|assumption):wpAny M A (storeName X.env x u) Q E s:=by
  obtain⟨m,hn,hl⟩:=id I.loc;have yK:(X.env.scope.kind== .class||(X.env.scope.kind== .module&&X.env.locals !=X.env.globals))=false:=by rw[I.ok.kind];rfl
  have BF:i<Z.length:=by rw[I.len];exact(dM.mp hi).1
  have ka:=I.ka;have tracked:∀{a:Addr}{h':Heap},(∃o,s.heap.get? a=some o/\H a=none)->Heap.SameBut a s.heap h'->dJ X.prog X.w H h':=fun{a h'} ha hs b ob e=>by
   obtain⟨_,_,wk⟩:=ha;refine(I.aX b ob e).m7 (fun c w' hc q=>(hs.2 c ?_).trans q) (fun _ q=>q) fun _ _ q=>q;rintro rfl;rcases hc with rfl|hc
   ·rw[wk]at e;cases e
   ·rw[wk]at hc;cases hc
  rcases hx with hk|hk
  · refine wpAny_storeName_local hk hn (fun h' yJ hs=>?_) yK
    obtain⟨oL,_,_,QD,_⟩:=id hn;refine h _ ⟨I.ok,I.os,I.bare,⟨fun b o e n hb hx=>?_,fun b o e n hb hx=>?_,I.base.free,fun b o e hx=>?_,I.base.ku,I.base.jW,I.base.jN⟩,⟨_,yJ,fun j y v' e1 e2 e3=>?_⟩,fun y c e=>?_,I.free,I.jX,fun p hp=>?_,tracked ⟨oL,QD,I.free⟩ hs,by simpa using I.len⟩ ⟨_,hs,.inl rfl⟩
    ·exact(hs.2 b (fC (g9 (cB e) I.ok.above))).trans (I.base.keep b o e n hb hx)
    · obtain⟨sl,e1⟩:=I.base.slot b o e n hb hx
      exact⟨sl,(hs.2 b (fC (g9 (cB e) I.ok.above))).trans e1⟩
    · obtain⟨o',e1⟩:=I.base.there b o e hx
      exact⟨o',(hs.2 b (fC (g9 (cB e) I.ok.above))).trans e1⟩
    · by_cases hj:j=i
      · subst hj
        rw[hi]at e1;cases e1;rw[zK BF]at e2;cases e2;exact⟨u,r,.inl ⟨hk,by simp⟩⟩
      · rw[Kp (fg hj)]at e2
        obtain⟨u',r',q⟩:=hl j y v' e1 e2 e3;refine⟨u',r',?_⟩;rcases q with⟨k,e⟩|⟨k,c,e,z⟩
        · refine .inl ⟨k,?_⟩
          have:y≠x:=fun e=>hj (GI hN e1 (e▸hi));simp[this,e]
        ·exact .inr ⟨k,c,e,z.sameBut hs (ka y c e)⟩
    · obtain⟨w',z⟩:=I.cell y c e
      exact⟨w',z.sameBut hs (ka y c e)⟩
    · obtain⟨e,n,ne,nf,d⟩:=I.pin p hp
      exact⟨(hs.2 p.1 ne).trans e,n,ne,nf,d⟩
  · have qH:X.fn x=true:=by
      rcases hf with z|z
      ·exact z
      ·rw[z]at hk;cases hk
    obtain⟨c,hc⟩:=I.ok.has x (.inl hk);obtain⟨w',z⟩:=I.cell x c hc;refine wpAny_storeName_cell I.ok.kind hk hc z (fun h' iI hs=>?_);obtain⟨oc,QC,a5U⟩:=id z;refine h {s with heap:=h'} ⟨I.ok,I.os,I.bare,⟨fun b o e n hb hx=>?_,fun b o e n hb hx=>?_,I.base.free,fun b o e hx=>?_,I.base.ku,I.base.jW,I.base.jN⟩,⟨m,hn.sameBut hs (fg (ka x c hc)),fun j y v' e1 e2 e3=>?_⟩,fun y c' e=>?_,I.free,I.jX,fun p hp=>?_,tracked ⟨oc,QC,I.jX x c hc⟩ hs,by simpa using I.len⟩ ⟨c,hs,.inr hc⟩
    ·exact(hs.2 b (fC (g9 (cB e) (I.ok.qV x c qH hc)))).trans (I.base.keep b o e n hb hx)
    · obtain⟨sl,e1⟩:=I.base.slot b o e n hb hx
      exact⟨sl,(hs.2 b (fC (g9 (cB e) (I.ok.qV x c qH hc)))).trans e1⟩
    · obtain⟨o',e1⟩:=I.base.there b o e hx
      exact⟨o',(hs.2 b (fC (g9 (cB e) (I.ok.qV x c qH hc)))).trans e1⟩
    · by_cases hj:j=i
      · subst hj
        rw[hi]at e1;cases e1;rw[zK BF]at e2;cases e2;exact⟨u,r,.inr ⟨.inl hk,c,hc,iI⟩⟩
      · rw[Kp (fg hj)]at e2
        obtain⟨u',r',q⟩:=hl j y v' e1 e2 e3;refine⟨u',r',?_⟩;rcases q with q|⟨k,c',e,z'⟩
        ·exact .inl q
        · refine .inr ⟨k,c',e,z'.sameBut hs ?_⟩
          rintro rfl;exact hj (GI hN e1 (I.ok.inj _ _ _ e hc▸hi))
    · by_cases QO:c'=c
      ·subst QO;exact⟨_,iI⟩
      · obtain⟨w2,z2⟩:=I.cell y c' e
        exact⟨w2,z2.sameBut hs QO⟩
    · obtain⟨e,n,ne,nf,d⟩:=I.pin p hp
      refine⟨(hs.2 p.1 ?_).trans e,n,ne,nf,d⟩;intro q;rw[q,QC]at e;have q':oc=p.2:=dP e;exact d w' (by rw[<-q'];exact a5U)
theorem uS{M:Model}{A:aj}{E:Value->ae->Prop}{i:Nat}{x:Str}{v:V}{u:Value}{Q:Unit->ae->Prop}(I:Inv X au Z H s)(hN:X.N.Nodup)(hi:X.N[i]? =some x)(hx:Loc X.env.scope x)(r:RelV v u) (h:∀s',Inv X au (Z.set i (some v)) H s'->Q () s')(hf:X.fn x=true\/X.env.scope.names.lookup x=some .local:=by first|exact .inl rfl|exact .inr rfl|assumption):wpAny M A (storeName X.env x u) Q E s:=Lz I hN hi hx r (fun s' I' _=>h s' I') hf
theorem Inv.Ck{s':ae}{ch:List Addr}(I:Inv X au Z H s)(ho:s'.os=s.os)(u:Un (dj X.stack) ch H H' s.heap s'.heap)(aX:dJ X.prog X.w H' s'.heap)(hg:AllBare s'.gens) (nk:∀b∈ch,(b∈X.ex\/X.s₀.heap.objs.size<=b)/\b≠X.env.locals/\(∀x c,X.env.cells.lookup x=some c->c≠b)/\∀p∈X.pn++au,p.1≠b):Inv X au Z H' s':=by obtain⟨h',g',d',t',o'⟩:=s';have e:o'=s.os:=ho;subst e;exact I.call (g':=g') (t':=t') (d':=d') u aX hg nk
end
abbrev XK:=Value->Option Addr->Hp->Prop
abbrev St:=List (Option V)
abbrev VK:=V->Hp->Prop
abbrev TE:=St->Hp->VK->Prop
abbrev TT:=St->Hp->(Bool->Hp->Prop)->Prop
abbrev TA:=St->Hp->(List V->Hp->Prop)->Prop
structure Ends where
 nx:St->Hp->Prop
 rt:VK
 bk:St->Hp->Prop:=fun _ _=>False
 ct:St->Hp->Prop:=fun _ _=>False
abbrev TS:=Ends->St->Hp->Prop
def EP(X:Cx)(au:List (Addr×Obj))(Z:St)(Q:VK)(u:Value)(s':ae):Prop:=∃v H',Inv X au Z H' s'/\RelV v u/\Q v H'
def TP(X:Cx)(au:List (Addr×Obj))(Z:St)(Q:Bool->Hp->Prop)(b:Bool)(s':ae):Prop:=∃H',Inv X au Z H' s'/\Q b H'
def AP(X:Cx)(au:List (Addr×Obj))(Z:St)(Q:List V->Hp->Prop)(us:List Value)(s':ae):Prop:=∃vs H',Inv X au Z H' s'/\Vals vs us/\Q vs H'
def SP(X:Cx)(au:List (Addr×Obj))(D:Ends)(f:Flow)(s':ae):Prop:=match f with | .next=>∃σ' H',Inv X au σ' H' s'/\D.nx σ' H' | .brk=>∃σ' H',Inv X au σ' H' s'/\D.bk σ' H' | .cont=>∃σ' H',Inv X au σ' H' s'/\D.ct σ' H' | .ret u=>∃v σ' H',Inv X au σ' H' s'/\RelV v u/\D.rt v H'
def PE(X:Cx)(e:Expr)(t:TE):Prop:=∀(au:List (Addr×Obj))(s:ae)(Z:St)(H:Hp)(Q:VK),Inv X au Z H s->t Z H Q->wpAny (model X.prog X.w) X.A (eval e X.env) (EP X au Z Q) X.xe s
def PT(X:Cx)(e:Expr)(t:TT):Prop:=∀(au:List (Addr×Obj))(s:ae)(Z:St)(H:Hp)(Q:Bool->Hp->Prop),Inv X au Z H s->t Z H Q->wpAny (model X.prog X.w) X.A (isTrue e X.env (eval e X.env)) (TP X au Z Q) X.xe s
def PW(X:Cx)(e:Expr)(t:TT):Prop:=∀(whole:Sem Value)(au:List (Addr×Obj))(s:ae)(Z:St)(H:Hp)(Q:Bool->Hp->Prop),Inv X au Z H s->t Z H Q->wpAny (model X.prog X.w) X.A (isTrue e X.env whole) (TP X au Z Q) X.xe s
theorem PW.pt{X:Cx}{e:Expr}{t:TT}(h:PW X e t):PT X e t:=h _
def PA(X:Cx)(es:List Expr)(t:TA):Prop:=∀(pos:Pos)(au:List (Addr×Obj))(s:ae)(Z:St)(H:Hp)(Q:List V->Hp->Prop),Inv X au Z H s->t Z H Q->wpAny (model X.prog X.w) X.A (spliced (backTo pos (starEach es X.env))) (AP X au Z Q) X.xe s
def PS(X:Cx)(st:Stmt)(t:TS):Prop:=∀(au:List (Addr×Obj))(s:ae)(Z:St)(H:Hp)(D:Ends),Inv X au Z H s->t D Z H->wpAny (model X.prog X.w) X.A (exec st X.env) (SP X au D) X.xe s
def gX(X:Cx)(st:List Stmt)(t:TS):Prop:=∀(au:List (Addr×Obj))(s:ae)(Z:St)(H:Hp)(D:Ends),Inv X au Z H s->t D Z H->wpAny (model X.prog X.w) X.A (execs st X.env) (SP X au D) X.xe s
theorem aY{α:Type}{t:Sem α}{Q Q':α->ae->Prop}{M:Model}{A:aj}{E:Value->ae->Prop}{s:ae}(h:wpAny M A t Q E s)(hQ:∀a s,Q a s->Q' a s):wpAny M A t Q' E s:=jH h hQ fun _ _ x=>x
section
variable {X:Cx}
inductive Ug(i:Nat)(Z:St)(H:Hp)(Q:VK):Prop |mk (v:_)(h0:Z[i]? =some (some v))(h1:Q v H):Ug i Z H Q
def uQ(i:Nat):TE:=fun Z H Q=>Ug i Z H Q
def tC (v:V):TE:=fun _ H Q=>Q v H
theorem Oy{i:Nat}{x:Str}{pos:Pos}(hN:X.N[i]? =some x)(hv:Cy X.env.scope x)(hd:(x==("__debug__":Str))=false:=by decide)(gR:(x==("__classdict__":Str))=false:=by decide):PE X (.Name x pos) (uQ i):=by
 intro au s Z H Q I h;obtain⟨v,e,h⟩:=h;obtain⟨m,hn,hl⟩:=I.loc;obtain⟨u,r,l⟩:=hl i x v hN e hv;have fin:EP X au Z Q u s:=⟨v,H,I,r,h⟩;rcases l with⟨hk,hm⟩|⟨hk,c,hc,mj⟩
 ·exact wpAny_Name (wpAny_loadName_local I.ok.kind hk hn hm fin) hd
 · rcases hk with hk|hk
   ·exact wpAny_Name (wpAny_loadName_cell I.ok.kind hk hc mj fin) hd
   ·exact wpAny_Name (wpAny_loadName_free I.ok.kind hk hc mj fin gR) hd
theorem az{i j pos}:PE X (.Constant (.int i) j pos) (tC (.int i)):=fun _ _ _ H _ I h=>wpAny_Constant_int ⟨.int i,H,I.tok _,⟨_,rfl⟩,h⟩
theorem iD{b j pos}:PE X (.Constant (.bool b) j pos) (tC (.bl b)):=fun _ _ _ H _ I h=>Constant_bool ⟨.bl b,H,I,rfl,h⟩
theorem jo{j pos}:PE X (.Constant .none j pos) (tC .bo):=fun _ _ _ H _ I h=>Constant_none ⟨.bo,H,I,rfl,h⟩
theorem aW{x j pos}:PE X (.Constant (.str x) j pos) (tC (.str x)):=fun _ _ _ H _ I h=>Calls.Constant_str ⟨.str x,H,I.tok _,⟨_,rfl⟩,h⟩
def Gl(X:Cx)(x:Str):Prop:=X.env.kindOf x=some .globalImplicit
theorem vR{E:Value->ae->Prop}{au:List (Addr×Obj)}{s:ae}{Z:St}{H:Hp}{x:Str}{u:Value}{pos:Pos}{Q:Value->ae->Prop}(I:Inv X au Z H s)(hg:Gl X x)(hm:X.mg x=some u)(h:Q u s) (hd:(x==("__debug__":Str))=false:=by decide):wpAny (model X.prog X.w) X.A (eval (.Name x pos) X.env) Q E s:=Calls.Name_function_global I.ok.kind hg (Calls.loadGlobal_global (by rw[I.ok.glob];exact I.mod.glob.keeps I.bk) hm h) hd
theorem oP{E:Value->ae->Prop}{au:List (Addr×Obj)}{s:ae}{Z:St}{H:Hp}{x:Str}{u:Value}{pos:Pos}{Q:Value->ae->Prop}(I:Inv X au Z H s)(hg:Gl X x)(hm:X.mg x=none)(hv:bootBuiltins x=some u)(h:Q u s) (hn:x≠"__name__":=by decide)(hd:(x==("__debug__":Str))=false:=by decide):wpAny (model X.prog X.w) X.A (eval (.Name x pos) X.env) Q E s:=by obtain⟨mb,h1,h2⟩:=I.mod.blt;exact Calls.Name_function_global I.ok.kind hg (Calls.loadGlobal_builtin (by rw[I.ok.glob];exact I.mod.glob.keeps I.bk) hm (by rw[I.ok.blt];exact h1.keeps I.bk) ((h2 x hn).trans hv) h) hd
theorem a0V{x:Str}{v:V}{u:Value}{pos:Pos}(hg:Gl X x)(hm:X.mg x=some u)(r:RelV v u)(hd:(x==("__debug__":Str))=false:=by decide):PE X (.Name x pos) (tC v):=fun _ _ _ H _ I h=>vR I hg hm ⟨v,H,I,r,h⟩ hd
theorem cY{x:Str}{v:V}{u:Value}{pos:Pos}(hg:Gl X x)(hm:X.mg x=none)(hv:bootBuiltins x=some u)(r:RelV v u)(hn:x≠"__name__":=by decide)(hd:(x==("__debug__":Str))=false:=by decide):PE X (.Name x pos) (tC v):=fun _ _ _ H _ I h=>oP I hg hm hv ⟨v,H,I,r,h⟩ hn hd
variable {a b:Expr}{ta tb:TE}{pos:Pos}
inductive Uq(Q:Bool->Hp->Prop)(x:V)(H1:Hp):Prop |mk (c:_)(h0:x= .bl c)(h1:Q c H1):Uq Q x H1
def tB(t:TE):TT:=fun Z H Q=>t Z H fun x H1=>Uq Q x H1
theorem cM{e:Expr}{t:TE}(h:PE X e t)(he:∀whole,isTrue e X.env whole=(do let v<-whole;standAt e.pos;holding [v] (truthy v)):=by intro _;rfl):PT X e (tB t):=by intro au s Z H Q I hw;refine isTrue_plain (aY (h au s Z H _ I hw) fun v s1 ⟨x,H1,I1,r1,q1⟩=>?_) (he _);obtain⟨d,rfl,q⟩:=q1;cases r1;exact pI ⟨H1,I1,q⟩
variable {tA Aa:TT} {rest:List Expr}
def Y5(t u:TT):TT:=fun Z H Q=>t Z H fun c H1=>if c=true then u Z H1 Q else Q false H1
def XO(t u:TT):TT:=fun Z H Q=>t Z H fun c H1=>if c=true then Q true H1 else u Z H1 Q
def XR(t:TT):TT:=fun Z H Q=>t Z H fun c H1=>Q (!c) H1
theorem qi(ha:PT X a tA):PW X (.BoolOp .And [a] pos) tA:=by intro wh au s Z H Q I h;refine isTrue_and (aY (ha au s Z H Q I h) fun c s1 e=>?_);cases c with |true=>exact isTrue_and_nil e |false=>exact e
theorem lR(ha:PT X a tA):PW X (.BoolOp .Or [a] pos) tA:=by intro wh au s Z H Q I h;refine isTrue_or (aY (ha au s Z H Q I h) fun c s1 e=>?_);cases c with |false=>exact isTrue_or_nil e |true=>exact e
theorem mT(ha:PT X a tA)(hb:PW X (.BoolOp .And (b::rest) pos) Aa):PW X (.BoolOp .And (a::b::rest) pos) (Y5 tA Aa):=by intro wh au s Z H Q I h;refine isTrue_and (aY (ha au s Z H _ I h) fun c s1 ⟨H1,I1,q1⟩=>?_);cases c with |true=>exact hb wh au s1 Z H1 Q I1 q1 |false=>exact⟨H1,I1,q1⟩
theorem kP(ha:PT X a tA)(hb:PW X (.BoolOp .Or (b::rest) pos) Aa):PW X (.BoolOp .Or (a::b::rest) pos) (XO tA Aa):=by intro wh au s Z H Q I h;refine isTrue_or (aY (ha au s Z H _ I h) fun c s1 ⟨H1,I1,q1⟩=>?_);cases c with |true=>exact⟨H1,I1,q1⟩ |false=>exact hb wh au s1 Z H1 Q I1 q1
theorem fk(ha:PT X a tA):PT X (.UnaryOp .Not a pos) (XR tA):=by intro au s Z H Q I h;exact isTrue_not (ha au s Z H (fun c H1=>Q (!c) H1) I h)
inductive Ur(tb:TE)(Z:St)(Q:VK)(x:V)(H1:Hp):Prop |mk (c:_)(h0:x= .bl c)(h1:if c=true then tb Z H1 Q else Q (.bl false) H1):Ur tb Z Q x H1
def Y4(ta tb:TE):TE:=fun Z H Q=>ta Z H fun x H1=>Ur tb Z Q x H1
inductive Ul(Q:VK)(x:V)(H1:Hp):Prop |mk (c:_)(h0:x= .bl c)(h1:Q (.bl (!c)) H1):Ul Q x H1
def XQ(ta:TE):TE:=fun Z H Q=>ta Z H fun x H1=>Ul Q x H1
theorem iW{op}{t:TE}(h:PE X a t):PE X (.BoolOp op [a] pos) t:=fun au s Z H Q I hw=>BoolOp_one (h au s Z H Q I hw)
theorem iE(ha:PE X a ta)(hb:PE X (.BoolOp .And (b::rest) pos) tb):PE X (.BoolOp .And (a::b::rest) pos) (Y4 ta tb):=by intro au s Z H Q I h;refine BoolOp_and (aY (ha au s Z H _ I h) fun v s1 ⟨x,H1,I1,r1,q1⟩=>?_);obtain⟨c,rfl,q1⟩:=q1;cases r1;refine pI ?_;cases c with |true=>exact hb au s1 Z H1 Q I1 q1 |false=>exact⟨.bl false,H1,I1,rfl,q1⟩
theorem Oz(ha:PE X a ta):PE X (.UnaryOp .Not a pos) (XQ ta):=by intro au s Z H Q I h;refine UnaryOp_ (aY (ha au s Z H _ I h) fun v s1 ⟨x,H1,I1,r1,q1⟩=>?_);obtain⟨c,rfl,q1⟩:=q1;cases r1;exact not_of (pI ⟨.bl (!c),H1,I1,rfl,q1⟩)
def XZ(t:TT)(ta tb:TE):TE:=fun Z H Q=>t Z H fun c H1=>if c=true then ta Z H1 Q else tb Z H1 Q
theorem OC{c:Expr}(hc:PT X c tA)(ha:PE X a ta)(hb:PE X b tb):PE X (.IfExp c a b pos) (XZ tA ta tb):=by intro au s Z H Q I h;refine wpAny_IfExp (aY (hc au s Z H _ I h) fun d s1 ⟨H1,I1,q1⟩=>?_);cases d with |true=>exact ha au s1 Z H1 Q I1 q1 |false=>exact hb au s1 Z H1 Q I1 q1
end
def aF(K:aa)(H:Hp)(a:Addr)(xs:List V):Prop:=Rd H a (.lst xs)\/ ∃(o:Obj)(its:Array Value)(n:Nat),K.lookup a=some o/\o.cls= .type "list"/\o.dict=none/\o.data= .seq its n/\its.size<=sizeLine/\Vals xs its.toList
def aP(K:aa)(H:Hp)(a:Addr)(xs:List V):Prop:=Rd H a (.tup xs)\/ ∃(o:Obj)(its:Array Value)(n:Nat),K.lookup a=some o/\o.cls= .type "tuple"/\o.data= .seq its n/\its.size<=sizeLine/\Vals xs its.toList
def abo:Value->Option V | .none=>some .bo | .bool b=>some (.bl b) | .int i _=>some (.int i) | .str x _=>some (.str x) | .bytes b _=>some (.wL b) | .float b _=>some (.C1 b) | .ref a=>some (.ref a) | .type n=>some (.ty n) |_=>none
theorem RelV.abs{x:V}{u:Value}(r:RelV x u):abo u=some x:=by cases x with |bo=>cases r;rfl |bl _=>cases r;rfl |int _=>obtain⟨t,rfl⟩:=r;rfl |str _=>obtain⟨t,rfl⟩:=r;rfl |wL _=>obtain⟨t,rfl⟩:=r;rfl |C1 _=>obtain⟨t,rfl⟩:=r;rfl |ref _=>cases r;rfl |ty _=>cases r;rfl
theorem RelV.inj{x y:V}{u:Value}(r:RelV x u)(q:RelV y u):x=y:=dP (r.abs.symm.trans q.abs)
theorem Vals.inj:∀{xs ys:List V}{us:List Value},Vals xs us->Vals ys us->xs=ys |_,_,_,.nil,.nil=>rfl |_,_,_,.cons r t,.cons r' t'=>by rw[r.inj r',Vals.inj t t']
section
variable {X:Cx}{au:List (Addr×Obj)}{Z:St}{H:Hp}{s:ae}{a:Addr}{xs ys:List V}
theorem aF.of{K:aa}(h:H a=some (.lst xs)):aF K H a xs:=.inl (.inl h)
theorem aP.of{K:aa}(h:H a=some (.tup xs)):aP K H a xs:=.inl (.inl h)
theorem Inv.list(I:Inv X au Z H s)(h:aF X.K H a xs):∃its:List Value,Vals xs its/\PlainL s.heap a its.toArray/\xs.length<=sizeLine:=by
 rcases h with h|⟨o,its,n,hk,hc,hd,hs,hz,r⟩
 · obtain⟨z,its,n,r,e⟩:=h.ok I.aX
   exact⟨its,r,⟨_,n,e,rfl,rfl,rfl⟩,z⟩
 · refine⟨its.toList,r,⟨o,n,I.gD a o hk,hc,hd,by simpa using hs⟩,?_⟩
   have e:=r.length;simp only[zP]at e
   lia
theorem Inv.tuple(I:Inv X au Z H s)(h:aP X.K H a xs):∃its:List Value,Vals xs its/\IsTup s.heap a its.toArray/\xs.length<=sizeLine:=by
 rcases h with h|⟨o,its,n,hk,hc,hs,hz,r⟩
 · obtain⟨z,its,r,p⟩:=h.ok I.aX
   exact⟨its,r,p,z⟩
 · refine⟨its.toList,r,⟨o,I.gD a o hk,hc,n,by simpa using hs⟩,?_⟩
   have e:=r.length;simp only[zP]at e
   lia
theorem Inv.PY(I:Inv X au Z H s)(h:aF X.K H a xs)(h':aF X.K H a ys):xs=ys:=by
 obtain⟨its,r,⟨o,n,e,_,_,d⟩,_⟩:=I.list h;obtain⟨its',r',⟨o',n',e',_,_,d'⟩,_⟩:=I.list h';rw[e]at e';cases e';rw[d]at d';injection d' with d1 _;have:its=its':=by simpa using congrArg Array.toList d1
 subst this;exact r.inj r'
theorem Inv.Le(I:Inv X au Z H s)(h:aP X.K H a xs)(h':aP X.K H a ys):xs=ys:=by
 obtain⟨its,r,⟨o,e,_,n,d⟩,_⟩:=I.tuple h;obtain⟨its',r',⟨o',e',_,n',d'⟩,_⟩:=I.tuple h';rw[e]at e';cases e';rw[d]at d';injection d' with d1 _;have:its=its':=by simpa using congrArg Array.toList d1
 subst this;exact r.inj r'
end
abbrev Cx.j8(X:Cx)(E:Value->ae->Prop):Cx:={X with xe:=E}
abbrev Cx.oN(X:Cx):Cx:=X.j8 fun _ _=>False
theorem Cx.Ok.j8{X:Cx}(ok:X.Ok)(E:Value->ae->Prop):(X.j8 E).Ok:=⟨ok.mod,ok.kind,ok.glob,ok.blt,ok.above,ok.inj,ok.has,ok.qV,ok.hd,ok.frames,ok.uT,ok.C4,ok.bs,ok.m5,ok.sY,ok.qP,ok.jC,ok.ny⟩
theorem Cx.Ok.mH{X:Cx}{E:Value->ae->Prop}(ok:(X.j8 E).Ok):X.Ok:=⟨ok.mod,ok.kind,ok.glob,ok.blt,ok.above,ok.inj,ok.has,ok.qV,ok.hd,ok.frames,ok.uT,ok.C4,ok.bs,ok.m5,ok.sY,ok.qP,ok.jC,ok.ny⟩
section
variable {X:Cx}{au:List (Addr×Obj)}{Z:St}{H:Hp}{s:ae}{E:Value->ae->Prop}
theorem Inv.j8(I:Inv X au Z H s)(E:Value->ae->Prop):Inv (X.j8 E) au Z H s:=⟨I.ok.j8 E,I.os,I.bare,I.base,I.loc,I.cell,I.free,I.jX,I.pin,I.aX,I.len⟩
theorem Inv.mH(I:Inv (X.j8 E) au Z H s):Inv X au Z H s:=⟨I.ok.mH,I.os,I.bare,I.base,I.loc,I.cell,I.free,I.jX,I.pin,I.aX,I.len⟩
theorem SP.mH{D:Ends}{f:Flow}{s':ae}(h:SP (X.j8 E) au D f s'):SP X au D f s':=by cases f with |next=>obtain⟨σ',H',I,q⟩:=h;exact⟨σ',H',I.mH,q⟩ |brk=>obtain⟨σ',H',I,q⟩:=h;exact⟨σ',H',I.mH,q⟩ |cont=>obtain⟨σ',H',I,q⟩:=h;exact⟨σ',H',I.mH,q⟩ |ret u=>obtain⟨v,σ',H',I,r,q⟩:=h;exact⟨v,σ',H',I.mH,r,q⟩
theorem gX.oN{st:List Stmt}{t:TS}(h:gX X.oN st t):gX X st t:=fun au s Z H D I hw=>jH (h au s Z H D (I.j8 _) hw) (fun _ _ q=>q.mH) fun _ _ z=>False.elim z
end
section
variable {X:Cx}{st:Stmt}{rest:List Stmt}{t u:TS}{e:Expr}{te:TE}{pos:Pos}
def A8:TS:=fun D Z H=>D.nx Z H
def DA(t u:TS):TS:=fun D Z H=>t {D with nx:=u D} Z H
theorem bO:gX X [] A8:=fun _ _ Z H _ I h=>zC ⟨Z,H,I,h⟩
theorem aB(h1:PS X st t)(h2:gX X rest u):gX X (st::rest) (DA t u):=by intro au s Z H D I h;refine wpAny_execs_cons (aY (h1 au s Z H {D with nx:=u D} I h) fun f s1 q=>?_);cases f with |next=>obtain⟨σ',H',I',q⟩:=q;exact h2 au s1 σ' H' D I' q |ret v=>exact q |brk=>exact q |cont=>exact q
theorem aG(h1:PS X st t):gX X [st] t:=by intro au s Z H D I h;refine wpAny_execs_cons (aY (h1 au s Z H D I h) fun f s1 q=>?_);cases f with |next=>exact zC q |ret v=>exact q |brk=>exact q |cont=>exact q
theorem Inv.quiet{au:List (Addr×Obj)}{Z:St}{H:Hp}{s:ae}(I:Inv X au Z H s):interactive X.env=false:=by simp[interactive,I.ok.kind]
def Y1(te:TE):TS:=fun D Z H=>te Z H fun _ H1=>D.nx Z H1
theorem gP(he:PE X e te)(hs:swapsWith e none pos.line X.env=pure false:=by rfl):PS X (.Expr e pos) (Y1 te):=by intro au s Z H D I h;exact wpAny_Expr_any (aY (he au s Z H _ I h) fun v s1 ⟨x,H1,I1,r1,q1⟩=>⟨Z,H1,I1,q1⟩) I.quiet hs
def XI(te:TE):TS:=fun D Z H=>te Z H D.rt
theorem aU(he:PE X e te):PS X (.Return (some e) pos) (XI te):=by intro au s Z H D I h;exact wpAny_Return_some (aY (he au s Z H _ I h) fun v s1 ⟨x,H1,I1,r1,q1⟩=>⟨x,Z,H1,I1,r1,q1⟩)
def DD(c:TT)(t u:TS):TS:=fun D Z H=>c Z H fun b H1=>if b=true then t D Z H1 else u D Z H1
theorem bJ{c:Expr}{a b:List Stmt}{tc:TT}(hc:PT X c tc)(ha:gX X a t)(hb:gX X b u):PS X (.If c a b pos) (DD tc t u):=by intro au s Z H D I h;refine wpAny_If (aY (hc au s Z H _ I h) fun d s1 ⟨H1,I1,q1⟩=>?_);cases d with |true=>exact ha au s1 Z H1 D I1 q1 |false=>exact hb au s1 Z H1 D I1 q1
def XT:TS:=fun _ _ _=>False
theorem vi:PS X st XT:=fun _ _ _ _ _ _ h=>h.elim
end
abbrev TG:=V->St->Hp->(St->Hp->Prop)->Prop
abbrev nS:=List V->St->Hp->(St->Hp->Prop)->Prop
def PG(X:Cx)(target:Expr)(t:TG):Prop:=∀(au:List (Addr×Obj))(s:ae)(Z:St)(H:Hp)(v:V)(u:Value)(Q:St->Hp->Prop),Inv X au Z H s->RelV v u->t v Z H Q->wpAny (model X.prog X.w) X.A (assign target X.env u) (fun _ s'=>∃σ' H',Inv X au σ' H' s'/\Q σ' H') X.xe s
def zq(X:Cx)(ts:List Expr)(t:nS):Prop:=∀(au:List (Addr×Obj))(s:ae)(Z:St)(H:Hp)(vs:List V)(us:List Value)(Q:St->Hp->Prop),Inv X au Z H s->Vals vs us->t vs Z H Q->wpAny (model X.prog X.w) X.A (assignInOrder ((assignEach ts X.env).map (·.2)) us) (fun _ s'=>∃σ' H',Inv X au σ' H' s'/\Q σ' H') X.xe s
abbrev JP:=V->V->V->Hp->(Hp->Prop)->Prop
def Ua(X:Cx)(t:JP):Prop:=∀(au:List (Addr×Obj))(s:ae)(Z:St)(H:Hp)(o i v:V)(ov iv u:Value)(Q:Hp->Prop),Inv X au Z H s->RelV o ov->RelV i iv->RelV v u->t o i v H Q->wpAny (model X.prog X.w) X.A (setItem ov iv u) (fun _ s'=>∃H',Inv X au Z H' s'/\Q H') X.xe s
abbrev TV:=V->V->Hp->VK->Prop
def PIp(X:Cx)(op:Operator)(t:TV):Prop:=∀(au:List (Addr×Obj))(s:ae)(Z:St)(H:Hp)(x y:V)(v u:Value)(Q:VK),Inv X au Z H s->RelV x v->RelV y u->t x y H Q->wpAny (model X.prog X.w) X.A (inplaceOp op v u) (EP X au Z Q) X.xe s
section
variable {X:Cx} {pos:Pos}
def eZ(i:Nat):TG:=fun v Z H Q=>Q (Z.set i (some v)) H
theorem a0O{i:Nat}{x:Str}(hN:X.N.Nodup)(hi:X.N[i]? =some x)(hx:Loc X.env.scope x)(hf:X.fn x=true\/X.env.scope.names.lookup x=some .local:=by first|exact .inl rfl|exact .inr rfl|assumption):PG X (.Name x pos) (eZ i):=by intro au s Z H v u Q I r h;exact wpAny_assign_Name (uS I hN hi hx r (fun s' I'=>⟨_,H,I',h⟩) hf)
def qN:nS:=fun vs Z H Q=>vs=[]/\Q Z H
inductive Wa(t:TG)(u:nS)(vs:List V)(Z:St)(H:Hp)(Q:St->Hp->Prop):Prop |mk (v:_)(r:_)(h0:vs=v::r)(h1:t v Z H fun σ' H'=>u r σ' H' Q):Wa t u vs Z H Q
def jV(t:TG)(u:nS):nS:=fun vs Z H Q=>Wa t u vs Z H Q
theorem dQ:zq X [] qN:=by intro au s Z H vs us Q I r h;obtain⟨e,h⟩:=h;subst e;cases r;exact assignInOrder_nil ⟨Z,H,I,h⟩
theorem bR{e:Expr}{es:List Expr}{t:TG}{u:nS}(h1:PG X e t)(h2:zq X es u) (hs:(assignEach (e::es) X.env).map (·.2)=assign e X.env::(assignEach es X.env).map (·.2):=by rfl):zq X (e::es) (jV t u):=by intro au s Z H vs us Q I r h;obtain⟨v,vr,e1,h⟩:=h;subst e1;cases r with |cons r rr=>rw[hs];refine assignInOrder_cons (aY (h1 au s Z H _ _ _ I r h) fun _ s1 ⟨σ1,H1,I1,q1⟩=>?_);exact h2 au s1 σ1 H1 _ _ Q I1 rr q1
inductive W9(K:aa)(n:Nat)(t:nS)(v:V)(Z:St)(H:Hp)(Q:St->Hp->Prop):Prop |mk (a:_)(xs:_)(h0:v= .ref a)(h1:aP K H a xs)(h2:xs.length=n)(h3:t xs Z H Q):W9 K n t v Z H Q
def p8(K:aa)(n:Nat)(t:nS):TG:=fun v Z H Q=>W9 K n t v Z H Q
theorem a0N{es:List Expr}{k:Nat}{t:nS}{n:Nat}(hc:X.calm=true)(h:zq X es t) (hn:(assignEach es X.env).length=n:=by rfl)(gQ:(assignEach es X.env).findIdx? (·.1)=none:=by rfl):PG X (.Tuple es k pos) (p8 X.K n t):=by intro au s Z H v u Q I r hw;obtain⟨a,xs,e1,hq,hl,hw⟩:=hw;subst e1;cases r;obtain⟨its,rv,ht,hz⟩:=I.tuple hq;refine assign_Tuple_tuple (I.ok.hd hc) ht (by simp[hn,<-hl,rv.length]) gQ fun h' hx=>?_;have I1:Inv X au Z H {s with heap:=h'}:=I.kept (t':=s.toks) fun b o e=>hx b o (fC (cB e)) e;exact h au _ Z H xs _ Q I1 (by simpa using rv) hw
def a8a(to ti:TE)(t:JP):TG:=fun v Z H Q=>to Z H fun o H1=>ti Z H1 fun i H2=>t o i v H2 fun H3=>Q Z H3
theorem sQ{o i:Expr}{to ti:TE}{t:JP}(ho:PE X o to)(hi:PE X i ti)(hs:Ua X t) (ha:∀v,assign (.Subscript o i pos) X.env v=(do
     let ov<-holding [v] (eval o X.env)
     let iv<-holding [v,ov] (eval i X.env)
     standAt pos
     holding [v,ov,iv] (setItem ov iv v)
     release [v,ov,iv] []):=by intro _;rfl):PG X (.Subscript o i pos) (a8a to ti t):=by
  intro au s Z H v u Q I r h;rw[ha];refine aQ (uE (aY (ho au s Z H _ I h) fun ov s1 ⟨x,H1,I1,r1,q1⟩=>?_));refine aQ (uE (aY (hi au s1 Z H1 _ I1 q1) fun iv s2 ⟨y,H2,I2,r2,q2⟩=>?_));refine aQ (wpAny_standAt (aQ (uE (aY (hs au s2 Z H2 x y v ov iv u _ I2 r1 r2 r q2) fun _ s3 ⟨H3,I3,q3⟩=>?_))));exact wpAny_release ⟨Z,H3,I3,q3⟩
def Ab(te:TE)(g:TG):TS:=fun D Z H=>te Z H fun x H1=>g x Z H1 D.nx
theorem fU{tg e:Expr}{te:TE}{g:TG}(he:PE X e te)(hg:PG X tg g)(hs:swapsWithSole [tg] e pos.line X.env=pure false:=by rfl)(hw:swappedStores [tg] e X.env=pure none:=by rfl) (h1:(assignEach [tg] X.env).map (·.2)=[assign tg X.env]:=by rfl):PS X (.Assign [tg] e pos) (Ab te g):=by intro au s Z H D I h;refine wpAny_Assign_stores (aY (he au s Z H _ I h) fun v s1 ⟨x,H1,I1,r1,q1⟩=>?_) hs hw;rw[h1];exact aY (hg au s1 Z H1 x v _ I1 r1 q1) fun _ s2 q=>q
theorem a0v{i:Nat}{x:Str}{e:Expr}{te:TE}{pos':Pos}(hN:X.N.Nodup)(hi:X.N[i]? =some x)(hx:Loc X.env.scope x)(he:PE X e te)(hs:swapsWith e (some (.Name x pos')) pos.line X.env=pure false:=by rfl)(hf:X.fn x=true\/X.env.scope.names.lookup x=some .local:=by first|exact .inl rfl|exact .inr rfl|assumption): PS X (.Assign [.Name x pos'] e pos) (Ab te (eZ i)):=by intro au s Z H D I h;refine wpAny_Assign_Name (aY (he au s Z H _ I h) fun v s1 ⟨y,H1,I1,r1,q1⟩=>?_) hs;exact uS I1 hN hi hx r1 (fun s2 I2=>⟨_,H1,I2,q1⟩) hf
inductive Uk(i:Nat)(j:Nat)(D:Ends)(Z:St)(vs:List V)(H1:Hp):Prop |mk (v:_)(w:_)(h0:vs=[v,w])(h1:D.nx ((Z.set i (some v)).set j (some w)) H1):Uk i j D Z vs H1
def XN(i j:Nat)(ta:TA):TS:=fun D Z H=>ta Z H fun vs H1=>Uk i j D Z vs H1
theorem oG{i j:Nat}{x y:Str}{a b:Expr}{ta:TA}{px py pt:Pos} {kt k2 Gj}(hc:X.calm=true)(hN:X.N.Nodup)(hi:X.N[i]? =some x)(hj:X.N[j]? =some y)(hij:i≠j) (hx:X.env.scope.names.lookup x=some .local)(hy:X.env.scope.names.lookup y=some .local)(ha:PA X [a,b] ta) (hw:swappedStores [.Tuple [.Name x px,.Name y py] kt pt] (.Tuple [a,b] k2 Gj) X.env=pure (some [x,y])) (hs:swapsWithSole [.Tuple [.Name x px,.Name y py] kt pt] (.Tuple [a,b] k2 Gj) pos.line X.env=pure false:=by rfl): PS X (.Assign [.Tuple [.Name x px,.Name y py] kt pt] (.Tuple [a,b] k2 Gj) pos) (XN i j ta):=by
  intro au s Z H D I h;rw[exec_Assign_arm];refine aQ (wpAny_standAt ?_);rw[hs];refine aQ (cn ?_);rw[bf (by decide)];refine aQ (Tuple_ (aY (ha _ au s Z H _ I h) fun us s1 ⟨vs,H1,I1,r1,q1⟩=>?_));obtain⟨v,w,e1,q1⟩:=q1;subst e1;obtain⟨u1,u2,rfl,rv,j9⟩:∃u1 u2,us=[u1,u2]/\RelV v u1/\RelV w u2:=by cases r1 with |cons p q=>cases q with |cons p' q'=>cases q';exact⟨_,_,rfl,p,p'⟩
  refine pJ ?_ (by show 2<=sizeLine;decide);have I2:Inv X au Z H1 {s1 with heap:=s1.heap.push {cls:=.type "tuple",data:=.seq [u1,u2].toArray}}:=I1.kept (t':=s1.toks) fun b o e=>cy _ e;rw[hw];refine aQ (cn ?_);show wpAny (model X.prog X.w) X.A (do rule "assign.swapped-stores";let items<-unpackItems (.ref s1.heap.objs.size) 2 none;assignInOrder [fun v=>bindName X.env y v,fun v=>bindName X.env x v] items.reverse;pure Flow.next) _ _ _;refine aQ (wpAny_rule (aQ (unpackItems_tuple (items:=#[u1,u2]) (I.ok.hd hc) (IsTup.new s1.heap _) fun h' hx'=>?_)));have I3:=I2.kept (h':=h') (t':=s1.toks) fun b o e=>hx' b o (fC (cB e)) e;show wpAny _ _ (assignInOrder [fun v=>bindName X.env y v,fun v=>bindName X.env x v] [u2,u1]>>=fun _=>pure Flow.next) _ _ _;refine aQ (assignInOrder_cons (wpAny_bindName (uS I3 hN hj (.inl hy) j9 (fun s2 I4=>?_) (.inr hy))));refine assignInOrder_cons (wpAny_bindName (uS I4 hN hi (.inl hx) rv (fun s3 I5=>assignInOrder_nil (cn ?_)) (.inr hx)));rw[List.set_comm _ _ (fg hij)]at I5;exact⟨_,H1,I5,q1⟩
inductive VX(f:Int->Int->Int)(x:V)(y:V)(H:Hp)(Q:VK):Prop |mk (i:_)(j:_)(h0:x= .int i)(h1:y= .int j)(h2:Q (.int (f i j)) H):VX f x y H Q
def ipI(f:Int->Int->Int):TV:=fun x y H Q=>VX f x y H Q
theorem a54:PIp X .Add (ipI fun i j=>i+j):=by intro au s Z H x y v u Q I r1 r2 h;obtain⟨i,j,e1,e2,q⟩:=h;subst e1;subst e2;obtain⟨t,rfl⟩:=r1;obtain⟨t',rfl⟩:=r2;exact iadd_int ⟨.int _,H,I.tok _,⟨_,rfl⟩,q⟩
def Lj(c:TT)(tb:TS):TS:=fun D Z H=>∃W:Nat->St->Hp->Prop,(∃m,W m Z H)/\∀m Z H,W m Z H->c Z H fun b H1=>if b=true then∃N:St->Hp->Prop,(∀σ' H',N σ' H'->∃m',m'<m/\W m' σ' H')/\tb {D with nx:=N,ct:=N,bk:=D.nx} Z H1 else D.nx Z H1
theorem mU{c:Expr}{body:List Stmt}{tc:TT}{tb:TS}(hp:PassesOwn (model X.prog X.w) X.A X.env X.xe)(hc:PT X c tc)(hb:gX X body tb):PS X (.While c body [] pos) (Lj tc tb):=by intro au s Z H D I h;obtain⟨W,⟨m0,w0⟩,turn⟩:=h;refine wpAny_While (codeAny_whileLoop (fun n s'=>∃σ' H',Inv X au σ' H' s'/\W n σ' H') ?_ m0 ⟨Z,H,I,w0⟩);rintro n s1 ⟨σ1,H1,I1,w1⟩;refine wY hp (aY (hc au s1 σ1 H1 _ I1 (turn n σ1 H1 w1)) fun b s2 ⟨H2,I2,q2⟩=>?_);cases b with
 |true=>obtain⟨N,hN,q2⟩:=q2;rw[bc rfl];refine wY hp (aY (hb au s2 σ1 H2 _ I2 q2) fun f s3 q3=>?_);cases f with |next=>obtain⟨σ3,H3,I3,n3⟩:=q3;obtain⟨m',hm,w3⟩:=hN σ3 H3 n3;exact⟨m',hm,σ3,H3,I3,w3⟩ |cont=>obtain⟨σ3,H3,I3,n3⟩:=q3;obtain⟨m',hm,w3⟩:=hN σ3 H3 n3;exact⟨m',hm,σ3,H3,I3,w3⟩ |brk=>exact q3 |ret v=>exact q3
 |false=>rw[bf kr];exact zC ⟨σ1,H2,I2,q2⟩
end
structure It where
 go:Nat->Hp->Prop
 jL:Nat->Hp->V->Hp->Prop
 stop:Nat->Hp->Prop
def lK(X:Cx)(au:List (Addr×Obj))(H:Hp)(b:Addr):Prop:=H b=none/\b≠X.env.locals/\b∉X.fs/\(b∈X.ex\/X.s₀.heap.objs.size<=b)/\(∀x c,X.env.cells.lookup x=some c->c≠b)/\∀p∈X.pn++au,p.1≠b
theorem Inv.p9{X:Cx}{au:List (Addr×Obj)}{Z:St}{H H':Hp}{s:ae}{b:Addr}(I:Inv X au Z H s)(hb:s.heap.objs.size<=b)(hn:H' b=none):lK X au H' b:=by
 refine⟨hn,CZ (g9 I.lt hb),I.P9 hb,.inr (iy I.sz hb),fun x c e z=>?_,fun p hp z=>?_⟩
 · obtain⟨v,q⟩:=I.cell x c e
   exact absurd (g9 q.lt (by rw[z];exact hb)) (pO _)
 ·exact absurd (g9 (cB (I.pin p hp).1) (by rw[z];exact hb)) (pO _)
structure Turn(P:ah)(w:World)(K:aa)(tg:Expr)(J:It)(fp:List Addr)(it:Addr)(tn:Nat->Heap->Prop):Prop where
 mem:it∈fp
 obj:∀i h,tn i h->∀b∈fp,∃o,h.get? b=some o/\∀v,o.data≠ .cell v
 keep:∀i h h',tn i h->(∀b∈fp,∀o,h.get? b=some o->h'.get? b=some o)->tn i h'
 item:∀(X:Cx),X.prog=P->X.w=w->X.K=K->X.calm=true->∀(i:Nat)(au:List (Addr×Obj))(s:ae)(Z:St)(H:Hp)(E:Value->ae->Prop),Inv X au Z H s->(∀b∈fp,lK X au H b)->tn i s.heap->J.go i H->wpAny (model P w) X.A (pyNext (.ref it)) (fun r s1=>∃u,r=some u/\wpAny (model P w) X.A (letOwnedTupleGo tg (.ref it) u) (fun _ s2=>∃x H',Inv X au Z H' s2/\RelV x u/\J.jL i H x H'/\tn (i+1) s2.heap/\∀b∈fp,H' b=none) E s1) E s
 done:∀(X:Cx),X.prog=P->X.w=w->X.K=K->X.calm=true->∀(i:Nat)(au:List (Addr×Obj))(s:ae)(Z:St)(H:Hp)(E:Value->ae->Prop),Inv X au Z H s->(∀b∈fp,lK X au H b)->tn i s.heap->J.stop i H->wpAny (model P w) X.A (pyNext (.ref it)) (fun r s1=>r=none/\Inv X au Z H s1) E s
 self:∀(A:aj)(i:Nat)(s:ae)(Q:Value->ae->Prop)(E:Value->ae->Prop),tn i s.heap->Q (.ref it) s->wpAny (model P w) A (pyIter (.ref it)) Q E s
abbrev TI:=St->Hp->(It->Hp->Prop)->Prop
def CH(X:Cx)(au:List (Addr×Obj))(Z:St)(tg:Expr)(R:It->Hp->Prop)(Bo:Value)(s2:ae):Prop:=∃(it:Addr)(fp:List Addr)(tn:Nat->Heap->Prop)(J:It)(H':Hp),Bo= .ref it/\Inv X au Z H' s2/\Turn X.prog X.w X.K tg J fp it tn/\tn 0 s2.heap/\(∀b∈fp,lK X au H' b)/\R J H'
def PI(X:Cx)(tg iter:Expr)(wi:TI):Prop:=∀(au:List (Addr×Obj))(s:ae)(Z:St)(H:Hp)(R:It->Hp->Prop),Inv X au Z H s->wi Z H R->wpAny (model X.prog X.w) X.A (eval iter X.env) (fun v s1=>wpAny (model X.prog X.w) X.A (pyIter v) (CH X au Z tg R) X.xe s1) X.xe s
theorem wx{M:Model}{A:aj}{E:Value->ae->Prop}{s:ae}{tg:Expr}{it:Addr}{u:Value}{o:Obj}{n:String}{vs:Array Value}{Q:Unit->ae->Prop}(ho:s.heap.get? it=some o)(hc:o.cls= .type n)(hd:o.data= .fields vs) (hn:["enumerate","zip","dict_itemiterator","dict_reverseitemiterator","odict_iterator","itertools.zip_longest","itertools.pairwise"].contains n=false)(hQ:Q () s):wpAny M A (letOwnedTupleGo tg (.ref it) u) Q E s:=by unfold letOwnedTupleGo;cases tg<;>first |exact cn hQ |(cases u<;>first
        |exact cn hQ
        | (refine aQ (wpAny_load ho ?_)
           rw[hc,hd];show wpAny M A (if(["enumerate","zip","dict_itemiterator","dict_reverseitemiterator","odict_iterator","itertools.zip_longest","itertools.pairwise"].contains n&&vs[0]? ==some (rawInt _))=true then _ else _) Q E s;rw[bf (by intro h;rw[hn,kJ]at h;cases h)];exact cn hQ))
def rB(K:aa)(a:Addr):It:=⟨fun i H=>∃xs x,aF K H a xs/\xs[i]? =some x,fun i H x H'=>H'=H/\∀xs,aF K H a xs->xs[i]? =some x,fun i H=>∃xs,aF K H a xs/\xs.length<=i⟩
def rA(K:aa)(a:Addr):It:=⟨fun i H=>∃xs x,aP K H a xs/\xs[i]? =some x,fun i H x H'=>H'=H/\∀xs,aP K H a xs->xs[i]? =some x,fun i H=>∃xs,aP K H a xs/\xs.length<=i⟩
def nV(lo:Int)(n:Nat):It:=⟨fun i _=>i<n,fun i H x H'=>H'=H/\x= .int (lo+i),fun i _=>n<=i⟩
theorem Xu{P:ah}{w:World}{K:aa}{tg:Expr}(a it:Addr):Turn P w K tg (rB K a) [it] it (fun i h=>h.IsListIter it a i) where
 mem:=by simp
 obj:=fun i h st b hb=>by
  have e:b=it:=by simpa using hb
  subst e;obtain⟨o,e,c,d⟩:=st;exact⟨o,e,fun v z=>by rw[d]at z;cases z⟩
 keep:=fun i h h' st k=>st.at fun o e=>k it (by simp) o e
 item:=by intro X hP hw hK hc i au s Z H E I hf st hg;subst hP hw hK;obtain⟨xs,x,hq,hx⟩:=hg;obtain⟨its,rv,p,hz⟩:=I.list hq;obtain⟨u,hu,ru⟩:=rv.get hx;obtain⟨f0,f1,f2,f3,f4,f5⟩:=hf it (by simp);refine wpAny_pyNext_list_item st p.isList (x:=u) (by simpa using hu) fun h' gH sb=>?_;have I1:Inv X au Z H {s with heap:=h'}:=I.turned (t':=s.toks) (fun b o hb e=>(sb.2 b hb).trans e) f0 f1 f3 f4 f5;obtain⟨o,e,c,d⟩:=id gH;exact⟨u,rfl,wx (s:={s with heap:=h'}) e c d (by decide) ⟨x,H,I1,ru,⟨rfl,fun ys hy=>by rw[I.PY hy hq];exact hx⟩,gH,fun b hb=>(hf b hb).1⟩⟩
 done:=by intro X hP hw hK hc i au s Z H E I hf st hg;subst hP hw hK;obtain⟨xs,hq,hx⟩:=hg;obtain⟨its,rv,p,hz⟩:=I.list hq;obtain⟨f0,f1,f2,f3,f4,f5⟩:=hf it (by simp);have hl:=rv.length;exact wpAny_pyNext_list_end (I.ok.hd hc) st p.isList (by simp;lia) fun h' eb=>⟨rfl,I.turned (t':=s.toks) (fun b o hb e=>eb b o hb e) f0 f1 f3 f4 f5⟩
 self:=fun _ _ _ _ _ st h=>wpAny_pyIter_listiter st h
theorem Xq{P:ah}{w:World}{K:aa}{tg:Expr}(a it:Addr):Turn P w K tg (rA K a) [it] it (fun i h=>h.IsTupleIter it a i) where
 mem:=by simp
 obj:=fun i h st b hb=>by
  have e:b=it:=by simpa using hb
  subst e;obtain⟨o,e,c,d⟩:=st;exact⟨o,e,fun v z=>by rw[d]at z;cases z⟩
 keep:=fun i h h' st k=>st.at fun o e=>k it (by simp) o e
 item:=by intro X hP hw hK hc i au s Z H E I hf st hg;subst hP hw hK;obtain⟨xs,x,hq,hx⟩:=hg;obtain⟨its,rv,p,hz⟩:=I.tuple hq;obtain⟨u,hu,ru⟩:=rv.get hx;obtain⟨f0,f1,f2,f3,f4,f5⟩:=hf it (by simp);refine wpAny_pyNext_tuple_item st (show s.heap.IsTuple a its.toArray from p) (x:=u) (by simpa using hu) fun h' gH sb=>?_;have I1:Inv X au Z H {s with heap:=h'}:=I.turned (t':=s.toks) (fun b o hb e=>(sb.2 b hb).trans e) f0 f1 f3 f4 f5;obtain⟨o,e,c,d⟩:=id gH;exact⟨u,rfl,wx (s:={s with heap:=h'}) e c d (by decide) ⟨x,H,I1,ru,⟨rfl,fun ys hy=>by rw[I.Le hy hq];exact hx⟩,gH,fun b hb=>(hf b hb).1⟩⟩
 done:=by intro X hP hw hK hc i au s Z H E I hf st hg;subst hP hw hK;obtain⟨xs,hq,hx⟩:=hg;obtain⟨its,rv,p,hz⟩:=I.tuple hq;obtain⟨f0,f1,f2,f3,f4,f5⟩:=hf it (by simp);have hl:=rv.length;exact wpAny_pyNext_tuple_end (I.ok.hd hc) st (show s.heap.IsTuple a its.toArray from p) (by simp;lia) fun h' eb=>⟨rfl,I.turned (t':=s.toks) (fun b o hb e=>eb b o hb e) f0 f1 f3 f4 f5⟩
 self:=fun _ _ _ _ _ st h=>wpAny_pyIter_tupleiter st h
theorem Xt{P:ah}{w:World}{K:aa}{tg:Expr}(it:Addr)(lo:Int)(n:Nat):Turn P w K tg (nV lo n) [it] it (fun i h=>IsRangeIter h it (lo+(i:Nat)*1) ((n:Int)-(i:Nat)) 1) where
 mem:=by simp
 obj:=fun i h st b hb=>by
  have e:b=it:=by simpa using hb
  subst e;exact⟨_,st,fun v z=>by have z':Data.fields _=Data.cell v:=z;cases z'⟩
 keep:=fun i h h' st k=>k it (by simp) _ st
 item:=by intro X hP hw hK hc i au s Z H E I hf st hg;subst hP hw hK;obtain⟨f0,f1,f2,f3,f4,f5⟩:=hf it (by simp);have W:=Walks.range (prog:=X.prog) (w:=X.w) (I.ok.hd hc) it lo 1 n;refine W.item i s _ _ hg st fun v h' tk hv gH kk=>?_;obtain⟨t,rfl⟩:=hv;have I1:Inv X au Z H {s with heap:=h',toks:=tk}:=I.turned (fun b o hb e=>kk b o (by simpa using hb) e) f0 f1 f3 f4 f5;refine⟨_,rfl,wx (s:={s with heap:=h',toks:=tk}) (n:="range_iterator") gH rfl rfl (by decide) ⟨.int (lo+i),H,I1,⟨t,?_⟩,⟨rfl,rfl⟩,gH,fun b hb=>(hf b hb).1⟩⟩;rw[Int.mul_one]
 done:=by intro X hP hw hK hc i au s Z H E I hf st hg;subst hP hw hK;obtain⟨f0,f1,f2,f3,f4,f5⟩:=hf it (by simp);exact Wo (I.ok.hd hc) st (by have:n<=i:=hg;lia) fun h' eb=>⟨rfl,I.turned (t':=s.toks) (fun b o hb e=>eb b o hb e) f0 f1 f3 f4 f5⟩
 self:=fun _ _ _ _ _ st h=>K2 st h
section
variable {X:Cx} {tg:Expr}
inductive W7(K:aa)(R:It->Hp->Prop)(x:V)(H1:Hp):Prop |mk (a:_)(h0:x= .ref a)(h1:(∃xs,aF K H1 a xs))(h2:R (rB K a) H1):W7 K R x H1
def Qr(K:aa)(tl:TE):TI:=fun Z H R=>tl Z H fun x H1=>W7 K R x H1
inductive VZ(K:aa)(R:It->Hp->Prop)(x:V)(H1:Hp):Prop |mk (a:_)(h0:x= .ref a)(h1:(∃xs,aP K H1 a xs))(h2:R (rA K a) H1):VZ K R x H1
def Qq(K:aa)(tl:TE):TI:=fun Z H R=>tl Z H fun x H1=>VZ K R x H1
theorem a0L{l:Expr}{tl:TE}(hl:PE X l tl):PI X tg l (Qr X.K tl):=by
 intro au s Z H R I h;refine aY (hl au s Z H _ I h) fun v s1 ⟨x,H1,I1,r1,q1⟩=>?_;obtain⟨a,e,⟨xs,hq⟩,q⟩:=q1;subst e;cases r1;obtain⟨its,rv,p,hz⟩:=I1.list hq;refine CN p.isList ?_;refine⟨s1.heap.objs.size,[s1.heap.objs.size],_,_,H1,rfl,I1.kept (t':=s1.toks) fun b o e=>cy _ e,Xu a _,⟨_,eO _ rfl,rfl,rfl⟩,fun b hb=>?_,q⟩;have e:b=s1.heap.objs.size:=by simpa using hb
 subst e;exact I1.p9 (bK _) (I1.aX.fresh (bK _))
theorem a0H{l:Expr}{tl:TE}(hl:PE X l tl):PI X tg l (Qq X.K tl):=by
 intro au s Z H R I h;refine aY (hl au s Z H _ I h) fun v s1 ⟨x,H1,I1,r1,q1⟩=>?_;obtain⟨a,e,⟨xs,hq⟩,q⟩:=q1;subst e;cases r1;obtain⟨its,rv,p,hz⟩:=I1.tuple hq;refine wpAny_pyIter_tuple (show s1.heap.IsTuple a its.toArray from p) ?_;refine⟨s1.heap.objs.size,[s1.heap.objs.size],_,_,H1,rfl,I1.kept (t':=s1.toks) fun b o e=>cy _ e,Xq a _,⟨_,eO _ rfl,rfl,rfl⟩,fun b hb=>?_,q⟩;have e:b=s1.heap.objs.size:=by simpa using hb
 subst e;exact I1.p9 (bK _) (I1.aX.fresh (bK _))
theorem Og{au:List (Addr×Obj)}{Z:St}{H:Hp}{s:ae}{R:It->Hp->Prop}{E:Value->ae->Prop}{lo hi:Int}{t u v:Tok}{tk:Nat}(I:Inv X au Z H s)(h1:-(2^62)<=lo)(h2:lo<2^62)(h3:-(2^62)<=hi)(h4:hi<2^62) (q:R (nV lo (hi-lo).toNat) H):wpAny (model X.prog X.w) X.A (pyIter (.ref s.heap.objs.size)) (CH X au Z tg R) E {s with heap:=s.heap.push {cls:=.type "range",data:=.fields #[.int lo t,.int hi u,.int 1 v]},toks:=tk}:=by
  refine wpAny_pyIter_range (IsRange.new ..) (small_one h1 h2 h3 h4) ?_;have I1:Inv X au Z H {s with heap:=s.heap.push {cls:=.type "range",data:=.fields #[.int lo t,.int hi u,.int 1 v]},toks:=tk}:=I.kept fun b o e=>cy _ e;refine⟨(s.heap.push {cls:=.type "range",data:=.fields #[.int lo t,.int hi u,.int 1 v]}).objs.size,[(s.heap.push {cls:=.type "range",data:=.fields #[.int lo t,.int hi u,.int 1 v]}).objs.size],_,_,H,rfl,I1.kept (t':=tk) fun b o e=>cy _ e,Xt _ lo (hi-lo).toNat,?_,fun b hb=>?_,q⟩
  · have e1:lo+((0:Nat):Int)*1=lo:=by simp
    have e2:(((hi-lo).toNat:Nat):Int)-((0:Nat):Int)=Builtin.Range.rangeSize lo hi 1:=by rw[rangeSize_one];split<;>lia
    show IsRangeIter _ _ (lo+((0:Nat):Int)*1) ((((hi-lo).toNat:Nat):Int)-((0:Nat):Int)) 1;rw[e1,e2];exact eO _ rfl
  · have e:b=(s.heap.push {cls:=.type "range",data:=.fields #[.int lo t,.int hi u,.int 1 v]}).objs.size:=by simpa using hb
    subst e;exact I1.p9 (bK _) (I1.aX.fresh (bK _))
inductive W5(R:It->Hp->Prop)(vs:List V)(H1:Hp):Prop |mk (j:Int)(h0:vs=[.int j])(h1:-(2^62)<=j)(h2:j<2^62)(h3:R (nV 0 j.toNat) H1):W5 R vs H1
def a5i(ta:TA):TI:=fun Z H R=>ta Z H fun vs H1=>W5 R vs H1
inductive W4(R:It->Hp->Prop)(vs:List V)(H1:Hp):Prop |mk (i:Int)(j:Int)(h0:vs=[.int i,.int j])(h1:(-(2^62)<=i/\i<2^62/\-(2^62)<=j/\j<2^62))(h2:R (nV i (j-i).toNat) H1):W4 R vs H1
def a5h(ta:TA):TI:=fun Z H R=>ta Z H fun vs H1=>W4 R vs H1
theorem xV{a:Expr}{ta:TA}{p pos:Pos}(hg:Gl X "range")(hm:X.mg "range"=none)(ha:PA X [a] ta)(hs:starEach [a] X.env=[(false,eval a X.env)]:=by rfl):PI X tg (.Call (.Name "range" p) [a] [] pos) (a5i ta):=by intro au s Z H R I h;refine Call_ (oP I hg hm boot_range (xg (aY (ha pos au s Z H _ I h) fun us s1 ⟨vs,H1,I1,r1,q1⟩=>?_) hs rfl));obtain⟨j,e,q1,q2,q⟩:=q1;subst e;cases r1 with |cons r rr=>cases rr;obtain⟨t,rfl⟩:=r;exact call_range_1 (Og I1 (by lia) (by lia) q1 q2 (by simpa using q))
theorem Ox{a b:Expr}{ta:TA}{p pos:Pos}(hg:Gl X "range")(hm:X.mg "range"=none)(ha:PA X [a,b] ta)(hs:starEach [a,b] X.env=[(false,eval a X.env),(false,eval b X.env)]:=by rfl)(jf:starEach [b] X.env=[(false,eval b X.env)]:=by rfl): PI X tg (.Call (.Name "range" p) [a,b] [] pos) (a5h ta):=by intro au s Z H R I h;refine Call_ (oP I hg hm boot_range (xg (aY (ha pos au s Z H _ I h) fun us s1 ⟨vs,H1,I1,r1,q1⟩=>?_) (by rw[hs,jf]) (by rw[jf];rfl)));obtain⟨i,j,e,⟨q1,q2,q3,q4⟩,q⟩:=q1;subst e;cases r1 with |cons r rr=>cases rr with |cons r' rr=>cases rr;obtain⟨t,rfl⟩:=r;obtain⟨t',rfl⟩:=r';exact call_range_2 (Og I1 q1 q2 q3 q4 q)
def Y0(wi:TI)(g:TG)(tb:TS):TS:=fun D Z H=>wi Z H fun J H1=>∃W:Nat->Nat->St->Hp->Prop,(∃m,W 0 m Z H1)/\∀i m Z H,W i m Z H->(J.stop i H/\D.nx Z H)\/(J.go i H/\∃N:St->Hp->Prop,(∀σ' H',N σ' H'->∃m',m'<m/\W (i+1) m' σ' H')/\∀x H',J.jL i H x H'->g x Z H' fun σ2 H2=>tb {D with nx:=N,ct:=N,bk:=D.nx} σ2 H2)
def vk(fp:List Addr)(h:Heap):List (Addr×Obj):=fp.filterMap fun b=>(h.get? b).map fun o=>(b,o)
theorem vO{fp:List Addr}{h:Heap}{b:Addr}{o:Obj}(hb:b∈fp)(e:h.get? b=some o):(b,o)∈vk fp h:=o9.mpr ⟨b,hb,by rw[e];rfl⟩
theorem a33{fp:List Addr}{h:Heap}{p:Addr×Obj}(hp:p∈vk fp h):p.1∈fp/\h.get? p.1=some p.2:=by obtain⟨b,hb,e⟩:=o9.mp hp;cases q:h.get? b with |none=>rw[q]at e;cases e |some o=>rw[q]at e;have e':(b,o)=p:=dP e;subst e';exact⟨hb,q⟩
theorem Inv.pinned{au:List (Addr×Obj)}{Z:St}{H:Hp}{s:ae}{fp:List Addr}(I:Inv X au Z H s)(hf:∀b∈fp,lK X au H b)(ho:∀b∈fp,∃o,s.heap.get? b=some o/\∀v,o.data≠ .cell v):Inv X (au++vk fp s.heap) Z H s:=I.Ov fun p hp=>(uI.mp hp).elim (fun z=>I.pin p (lL _ z)) fun z=>by obtain⟨hb,e⟩:=a33 z;obtain⟨f0,f1,f2,_⟩:=hf p.1 hb;obtain⟨o,e',d⟩:=ho p.1 hb;rw[e]at e';cases e';exact⟨e,f0,f1,f2,d⟩
theorem Inv.xp{au pl:List (Addr×Obj)}{Z:St}{H:Hp}{s:ae}(I:Inv X (au++pl) Z H s):Inv X au Z H s:=I.Ov fun p hp=>I.pin p (lL _ (WG _ hp))
theorem lS{iter:Expr}{body:List Stmt}{wi:TI}{g:TG}{tb:TS}{pos:Pos}(hp:PassesOwn (model X.prog X.w) X.A X.env X.xe)(hc:X.calm=true)(hi:PI X tg iter wi)(hg:PG X tg g)(hb:gX X body tb) (hs:∀x,foldedSetIterable iter X.env x=pure x:=by intro _;rfl):PS X (.For tg iter body [] pos) (Y0 wi g tb):=by
  intro au s Z H D I h;refine wpAny_For (aY (hi au s Z H _ I h) fun v s1 h1=>aY h1 fun Bo s2 h2=>?_) hs;obtain⟨it,fp,tn,J,H2,e,I2,T,rZ,f2,W,⟨m0,w0⟩,turn⟩:=h2;subst e;have m8:∀{H':Hp},(∀b∈fp,H' b=none)->∀b∈fp,lK X au H' b:=fun hn b hb=>⟨hn b hb,(f2 b hb).2⟩;refine codeAny_forLoop_any (fun n s'=>∃i σ' H',Inv X au σ' H' s'/\tn i s'.heap/\(∀b∈fp,H' b=none)/\W i n σ' H') ?_ m0 ⟨0,Z,H2,I2,rZ,fun b hb=>(f2 b hb).1,w0⟩;rintro n s3 ⟨i,σ3,H3,I3,LJ,RK,w3⟩;rcases turn i n σ3 H3 w3 with⟨stop,qn⟩|⟨go,N,hN,step⟩
  · refine wY hp (aY (T.done X rfl rfl rfl hc i au s3 σ3 H3 X.xe I3 (m8 RK) LJ stop) fun r s4 ⟨hr,I4⟩=>?_)
    subst hr;exact zC ⟨σ3,H3,I4,qn⟩
  · refine wY hp (aY (T.item X rfl rfl rfl hc i au s3 σ3 H3 X.xe I3 (m8 RK) LJ go) fun r s4 ⟨u,hr,h4⟩=>?_)
    subst hr;refine wY hp (aY h4 fun _ s5 ⟨x,H5,I5,r5,y5,oA,ud⟩=>?_);have I5':=I5.pinned (m8 ud) (T.obj _ _ oA);refine wY hp (aY (hg _ s5 σ3 H5 x u _ I5' r5 (step x H5 y5)) fun _ s6 ⟨σ6,H6,I6,q6⟩=>?_);refine wY hp (aY (hb _ s6 σ6 H6 _ I6 q6) fun f s7 q7=>?_);have again:∀{σ7:St}{H7:Hp},Inv X (au++vk fp s5.heap) σ7 H7 s7->N σ7 H7->∃m,m<n/\∃i σ' H',Inv X au σ' H' s7/\tn i s7.heap/\(∀b∈fp,H' b=none)/\W i m σ' H':=fun{σ7 H7} I7 n7=>by obtain⟨m',hm,w7⟩:=hN σ7 H7 n7;refine⟨m',hm,i+1,σ7,H7,I7.xp,T.keep _ _ _ oA fun b hb o e=>(I7.pin (b,o) (lL _ (lL _ (vO hb e)))).1,fun b hb=>?_,w7⟩;obtain⟨o,e,d⟩:=T.obj _ _ oA b hb;exact(I7.pin (b,o) (lL _ (lL _ (vO hb e)))).2.1
    cases f with |next=>obtain⟨σ7,H7,I7,n7⟩:=q7;exact again I7 n7 |cont=>obtain⟨σ7,H7,I7,n7⟩:=q7;exact again I7 n7 |brk=>obtain⟨σ7,H7,I7,q7⟩:=q7;exact⟨σ7,H7,I7.xp,q7⟩ |ret v=>obtain⟨x7,σ7,H7,I7,r7,q7⟩:=q7;exact⟨x7,σ7,H7,I7.xp,r7,q7⟩
end
theorem IM{K:aa}{a:Addr}{xs:List V}{g:TG}{tb:TS}{D:Ends}{Z:St}{H:Hp}(Pv:Nat->St->Hp->Prop)(h0:Pv 0 Z H)(hl:∀i Z H,i<=xs.length->Pv i Z H->aF K H a xs) (hs:∀i x Z H,xs[i]? =some x->Pv i Z H->g x Z H fun σ2 H2=>tb {D with nx:=Pv (i+1),ct:=Pv (i+1),bk:=D.nx} σ2 H2)(hd:∀Z H,Pv xs.length Z H->D.nx Z H): ∃W:Nat->Nat->St->Hp->Prop,(∃m,W 0 m Z H)/\∀i m Z H,W i m Z H->((rB K a).stop i H/\D.nx Z H)\/((rB K a).go i H/\∃N:St->Hp->Prop,(∀σ' H',N σ' H'->∃m',m'<m/\W (i+1) m' σ' H')/\∀x H',(rB K a).jL i H x H'->g x Z H' fun σ2 H2=>tb {D with nx:=N,ct:=N,bk:=D.nx} σ2 H2):=by
  refine⟨fun i m Z H=>m=xs.length-i/\i<=xs.length/\Pv i Z H,⟨xs.length,by simp,fZ _,h0⟩,?_⟩;rintro i m Z H ⟨rfl,hi,p⟩;have q:=hl i Z H hi p;by_cases cx:i<xs.length
  · refine .inr ⟨⟨xs,xs[i],q,by simp[cx]⟩,Pv (i+1),fun σ' H' p'=>⟨xs.length-(i+1),by lia,rfl,cx,p'⟩,fun x H' y=>?_⟩
    obtain⟨e,y⟩:=y;subst e;exact hs i x Z _ (y xs q) p
  · have e:i=xs.length:=by lia
    subst e;exact .inl ⟨⟨xs,q,bK _⟩,hd Z H p⟩
theorem a8c{K:aa}{a:Addr}{xs:List V}{g:TG}{tb:TS}{D:Ends}{Z:St}{H:Hp}(Pv:Nat->St->Hp->Prop)(h0:Pv 0 Z H)(hl:∀i Z H,i<=xs.length->Pv i Z H->aP K H a xs) (hs:∀i x Z H,xs[i]? =some x->Pv i Z H->g x Z H fun σ2 H2=>tb {D with nx:=Pv (i+1),ct:=Pv (i+1),bk:=D.nx} σ2 H2)(hd:∀Z H,Pv xs.length Z H->D.nx Z H): ∃W:Nat->Nat->St->Hp->Prop,(∃m,W 0 m Z H)/\∀i m Z H,W i m Z H->((rA K a).stop i H/\D.nx Z H)\/((rA K a).go i H/\∃N:St->Hp->Prop,(∀σ' H',N σ' H'->∃m',m'<m/\W (i+1) m' σ' H')/\∀x H',(rA K a).jL i H x H'->g x Z H' fun σ2 H2=>tb {D with nx:=N,ct:=N,bk:=D.nx} σ2 H2):=by
  refine⟨fun i m Z H=>m=xs.length-i/\i<=xs.length/\Pv i Z H,⟨xs.length,by simp,fZ _,h0⟩,?_⟩;rintro i m Z H ⟨rfl,hi,p⟩;have q:=hl i Z H hi p;by_cases cx:i<xs.length
  · refine .inr ⟨⟨xs,xs[i],q,by simp[cx]⟩,Pv (i+1),fun σ' H' p'=>⟨xs.length-(i+1),by omega,rfl,cx,p'⟩,fun x H' y=>?_⟩
    obtain⟨e,y⟩:=y;subst e;exact hs i x Z _ (y xs q) p
  · have e:i=xs.length:=by omega
    subst e;exact .inl ⟨⟨xs,q,bK _⟩,hd Z H p⟩
theorem C0{lo:Int}{n:Nat}{g:TG}{tb:TS}{D:Ends}{Z:St}{H:Hp}(Pv:Nat->St->Hp->Prop)(h0:Pv 0 Z H) (hs:∀i Z H,i<n->Pv i Z H->g (.int (lo+i)) Z H fun σ2 H2=>tb {D with nx:=Pv (i+1),ct:=Pv (i+1),bk:=D.nx} σ2 H2)(hd:∀Z H,Pv n Z H->D.nx Z H): ∃W:Nat->Nat->St->Hp->Prop,(∃m,W 0 m Z H)/\∀i m Z H,W i m Z H->((nV lo n).stop i H/\D.nx Z H)\/((nV lo n).go i H/\∃N:St->Hp->Prop,(∀σ' H',N σ' H'->∃m',m'<m/\W (i+1) m' σ' H')/\∀x H',(nV lo n).jL i H x H'->g x Z H' fun σ2 H2=>tb {D with nx:=N,ct:=N,bk:=D.nx} σ2 H2):=by
  refine⟨fun i m Z H=>m=n-i/\i<=n/\Pv i Z H,⟨n,by simp,fZ _,h0⟩,?_⟩;rintro i m Z H ⟨rfl,hi,p⟩;by_cases cx:i<n
  · refine .inr ⟨cx,Pv (i+1),fun σ' H' p'=>⟨n-(i+1),by lia,rfl,cx,p'⟩,fun x H' y=>?_⟩
    obtain⟨e,y⟩:=y;subst e y;exact hs i Z _ cx p
  · have e:i=n:=by lia
    subst e;exact .inl ⟨bK _,hd Z H p⟩
theorem mG{c:TT}{tb:TS}{D:Ends}{Z:St}{H:Hp}(Pv:St->Hp->Prop)(μ:St->Hp->Nat)(h0:Pv Z H) (hs:∀Z H,Pv Z H->c Z H fun b H1=>if b=true then tb {D with nx:=fun σ' H'=>Pv σ' H'/\μ σ' H'<μ Z H,ct:=fun σ' H'=>Pv σ' H'/\μ σ' H'<μ Z H,bk:=D.nx} Z H1 else D.nx Z H1) (mono:∀Z H Q Q',(∀b H1,Q b H1->Q' b H1)->c Z H Q->c Z H Q'):Lj c tb D Z H:=by refine⟨fun m Z H=>m=μ Z H/\Pv Z H,⟨_,rfl,h0⟩,?_⟩;rintro m Z H ⟨rfl,p⟩;refine mono Z H _ _ (fun b H1 q=>?_) (hs Z H p);cases b with |true=>exact⟨_,fun σ' H' ⟨p',l⟩=>⟨_,l,rfl,p'⟩,q⟩ |false=>exact q
abbrev R2:=V->V->Hp->VK->Prop
def dk(X:Cx)(f:Value->Value->Sem Value)(r:R2):Prop:=∀(au:List (Addr×Obj))(s:ae)(Z:St)(H:Hp)(x y:V)(v u:Value)(Q:VK),Inv X au Z H s->RelV x v->RelV y u->r x y H Q->wpAny (model X.prog X.w) X.A (f v u) (EP X au Z Q) X.xe s
def JN(X:Cx)(f:Value->Sem Value)(r:V->Hp->VK->Prop):Prop:=∀(au:List (Addr×Obj))(s:ae)(Z:St)(H:Hp)(x:V)(v:Value)(Q:VK),Inv X au Z H s->RelV x v->r x H Q->wpAny (model X.prog X.w) X.A (f v) (EP X au Z Q) X.xe s
def fy(X:Cx)(f:Value)(r:List V->Hp->VK->Prop):Prop:=∀(au:List (Addr×Obj))(s:ae)(Z:St)(H:Hp)(xs:List V)(us:List Value)(Q:VK),Inv X au Z H s->Vals xs us->r xs H Q->wpAny (model X.prog X.w) X.A (call f us) (EP X au Z Q) X.xe s
def aby(X:Cx)(r:V->Hp->(Bool->Hp->Prop)->Prop):Prop:=∀(au:List (Addr×Obj))(s:ae)(Z:St)(H:Hp)(x:V)(v:Value)(Q:Bool->Hp->Prop),Inv X au Z H s->RelV x v->r x H Q->wpAny (model X.prog X.w) X.A (truthy v) (TP X au Z Q) X.xe s
def xA(r:R2)(ta tb:TE):TE:=fun Z H Q=>ta Z H fun x H1=>tb Z H1 fun y H2=>r x y H2 Q
def XE(r:V->Hp->VK->Prop)(ta:TE):TE:=fun Z H Q=>ta Z H fun x H1=>r x H1 Q
inductive VQ(C:Int->Int->Prop)(g:Int->Int->V)(x:V)(y:V)(H:Hp)(Q:VK):Prop |mk (i:_)(j:_)(h0:x= .int i)(h1:y= .int j)(h2:C i j)(h3:Q (g i j) H):VQ C g x y H Q
def rI(C:Int->Int->Prop)(g:Int->Int->V):R2:=fun x y H Q=>VQ C g x y H Q
inductive VP(g:Int->Int->V)(x:V)(y:V)(H:Hp)(Q:VK):Prop |mk (i:_)(j:_)(h0:x= .int i)(h1:y= .int j)(h2:Q (g i j) H):VP g x y H Q
def ky(g:Int->Int->V):R2:=fun x y H Q=>VP g x y H Q
inductive Vy(g:Int->V)(x:V)(H:Hp)(Q:VK):Prop |mk (i:_)(h0:x= .int i)(h1:Q (g i) H):Vy g x H Q
def rU(g:Int->V):V->Hp->VK->Prop:=fun x H Q=>Vy g x H Q
section
variable {X:Cx}{a b c:Expr}{ta tb tc:TE}{pos:Pos}
theorem Jz(ha:PE X a ta)(hb:PE X b tb){au:List (Addr×Obj)}{s:ae}{Z:St}{H:Hp}{R:V->V->Hp->Prop}(I:Inv X au Z H s) (h:ta Z H fun x H1=>tb Z H1 fun y H2=>R x y H2){Q:Value->ae->Prop}{f:Value->Value->Sem Value} (hf:∀v u s2 x y H2,Inv X au Z H2 s2->RelV x v->RelV y u->R x y H2->wpAny (model X.prog X.w) X.A (f v u) Q X.xe s2): wpAny (model X.prog X.w) X.A (eval a X.env) (fun v s₁=>wpAny (model X.prog X.w) X.A (eval b X.env) (fun u s₂=>wpAny (model X.prog X.w) X.A (f v u) Q X.xe s₂) X.xe s₁) X.xe s:=by refine aY (ha au s Z H _ I h) fun v s1 ⟨x,H1,I1,r1,q1⟩=>?_;refine aY (hb au s1 Z H1 _ I1 q1) fun u s2 ⟨y,H2,I2,r2,q2⟩=>?_;exact hf v u s2 x y H2 I2 r1 r2 q2
theorem aI{op:Operator}{r:R2}(ho:dk X (binaryOp op) r)(ha:PE X a ta)(hb:PE X b tb):PE X (.BinOp a op b pos) (xA r ta tb):=by intro au s Z H Q I h;exact wpAny_BinOp (Jz ha hb I h fun v u s2 x y H2 I2 rx ry q=>ho au s2 Z H2 x y v u Q I2 rx ry q)
theorem xX{op:UnaryOp}{r:V->Hp->VK->Prop}(ho:JN X (unaryOp op) r)(ha:PE X a ta):PE X (.UnaryOp op a pos) (XE r ta):=by intro au s Z H Q I h;exact UnaryOp_ (aY (ha au s Z H _ I h) fun v s1 ⟨x,H1,I1,r1,q1⟩=>ho au s1 Z H1 x v Q I1 r1 q1)
theorem y6{f:Value->Value->Sem Value}{C:Int->Int->Prop}{g:Int->Int->Int} (rule:∀(i j:Int)(t u:Tok)(s:ae)(Q:Value->ae->Prop)(E:Value->ae->Prop),C i j->Q (.int (g i j) s.toks) {s with toks:=s.toks+1}->wpAny (model X.prog X.w) X.A (f (.int i t) (.int j u)) Q E s): dk X f (rI C fun i j=>.int (g i j)):=by intro au s Z H x y v u Q I rx ry h;obtain⟨i,j,rfl,rfl,hc,q⟩:=h;obtain⟨t,rfl⟩:=rx;obtain⟨t',rfl⟩:=ry;exact rule i j t t' s _ _ hc ⟨.int (g i j),H,I.tok _,⟨_,rfl⟩,q⟩
theorem OV{f:Value->Value->Sem Value}{g:Int->Int->Int} (rule:∀(i j:Int)(t u:Tok)(s:ae)(Q:Value->ae->Prop)(E:Value->ae->Prop),Q (.int (g i j) s.toks) {s with toks:=s.toks+1}->wpAny (model X.prog X.w) X.A (f (.int i t) (.int j u)) Q E s): dk X f (ky fun i j=>.int (g i j)):=by intro au s Z H x y v u Q I rx ry h;obtain⟨i,j,rfl,rfl,q⟩:=h;obtain⟨t,rfl⟩:=rx;obtain⟨t',rfl⟩:=ry;exact rule i j t t' s _ _ ⟨.int (g i j),H,I.tok _,⟨_,rfl⟩,q⟩
theorem vq{f:Value->Value->Sem Value}{g:Int->Int->Bool} (rule:∀(i j:Int)(t u:Tok)(s:ae)(Q:Value->ae->Prop)(E:Value->ae->Prop),Q (.bool (g i j)) s->wpAny (model X.prog X.w) X.A (f (.int i t) (.int j u)) Q E s): dk X f (ky fun i j=>.bl (g i j)):=by intro au s Z H x y v u Q I rx ry h;obtain⟨i,j,rfl,rfl,q⟩:=h;obtain⟨t,rfl⟩:=rx;obtain⟨t',rfl⟩:=ry;exact rule i j t t' s _ _ ⟨.bl (g i j),H,I,rfl,q⟩
def abM(i j:Int):Prop:=0<=j/\j<=1000000/\i.natAbs<2^64
theorem cS:dk X (binaryOp .Add) (ky fun i j=>.int (i+j)):=OV fun _ _ _ _ _ _ _ q=>add_int q
theorem gh:dk X (binaryOp .Sub) (ky fun i j=>.int (i-j)):=OV fun _ _ _ _ _ _ _ q=>sub_int q
theorem oK:dk X (binaryOp .Mod) (rI (fun _ j=>0<j) fun i j=>.int (i%j)):=y6 fun i j _ _ _ _ _ hc q=>by have h1:(0:Int)<j:=hc;exact mod_int' (by lia) (by rw[Int.fmod_eq_emod_of_nonneg i (by lia)];exact q)
theorem vo:dk X (binaryOp .Pow) (rI abM fun i j=>.int (i^j.toNat)):=y6 fun _ _ _ _ _ _ _ hc q=>pow_int_small hc.1 hc.2.1 hc.2.2 q
theorem Xk{f:Value->Sem Value}{g:Int->Int} (rule:∀(i:Int)(t:Tok)(s:ae)(Q:Value->ae->Prop)(E:Value->ae->Prop),Q (.int (g i) s.toks) {s with toks:=s.toks+1}->wpAny (model X.prog X.w) X.A (f (.int i t)) Q E s): JN X f (rU fun i=>.int (g i)):=by intro au s Z H x v Q I rx h;obtain⟨i,rfl,q⟩:=h;obtain⟨t,rfl⟩:=rx;exact rule i t s _ _ ⟨.int (g i),H,I.tok _,⟨_,rfl⟩,q⟩
theorem xq:JN X (unaryOp .USub) (rU fun i=>.int (-i)):=Xk fun _ _ _ _ _ q=>neg_int q
theorem IT{au:List (Addr×Obj)}{Z:St}{H:Hp}{s:ae}{Q:VK}{k k':Bool}(I:Inv X au Z H s)(q:Q (.bl k) H)(e:k=k'):EP X au Z Q (.bool k') s:=by subst e;exact⟨.bl k,H,I,rfl,q⟩
theorem jQ:dk X (compareOp .Lt) (ky fun i j=>.bl (decide (i<j))):=vq fun _ _ _ _ _ _ _ q=>lt_int q
theorem vp:dk X (compareOp .LtE) (ky fun i j=>.bl (decide (i<=j))):=vq fun _ _ _ _ _ _ _ q=>le_int q
theorem qk:dk X (compareOp .Gt) (ky fun i j=>.bl (decide (j<i))):=vq fun _ _ _ _ _ _ _ q=>gt_int q
theorem Gy:dk X (compareOp .GtE) (ky fun i j=>.bl (decide (j<=i))):=vq fun _ _ _ _ _ _ _ q=>ge_int q
theorem a1r:dk X (compareOp .In) (fun x y H Q=>∃i j,x= .str i/\y= .str j/\Q (.bl (!(Builtin.Str.occurrences j i 0 j.length 1).isEmpty)) H):=by intro au s Z H x y v u Q I rx ry h;obtain⟨i,j,rfl,rfl,q⟩:=h;obtain⟨t,rfl⟩:=rx;obtain⟨t',rfl⟩:=ry;exact in_str (IT I q rfl)
theorem OT:dk X (compareOp .Is) (fun x y H Q=>y= .bo/\Q (.bl (decide (x= .bo))) H):=by intro au s Z H x y v u Q I rx ry h;obtain⟨rfl,q⟩:=h;cases ry;refine is_none_gen (IT I q ?_);cases x<;>first |(cases rx;rfl) |(obtain⟨t,rfl⟩:=rx;rfl)
theorem xZ:dk X (compareOp .IsNot) (fun x y H Q=>y= .bo/\Q (.bl (!decide (x= .bo))) H):=by intro au s Z H x y v u Q I rx ry h;obtain⟨rfl,q⟩:=h;cases ry;refine isnot_none_gen (IT I q ?_);cases x<;>first |(cases rx;rfl) |(obtain⟨t,rfl⟩:=rx;rfl)
theorem dk.or{f:Value->Value->Sem Value}{r r':R2}(h:dk X f r)(h':dk X f r'):dk X f (fun x y H Q=>r x y H Q\/r' x y H Q):=by
 intro au s Z H x y v u Q I rx ry q;rcases q with q|q
 ·exact h au s Z H x y v u Q I rx ry q
 ·exact h' au s Z H x y v u Q I rx ry q
theorem bw(b:Expr){op:CmpOp}(h:op≠ .In:=by decide)(h2:op≠ .NotIn:=by decide):behindInMarks op b=false:=by
 have e1:(op==CmpOp.In)=false:=by cases op<;>first|rfl|exact absurd rfl h
 have e2:(op==CmpOp.NotIn)=false:=by cases op<;>first|rfl|exact absurd rfl h2
 cases b<;>simp[behindInMarks,e1,e2]
theorem fq{op:CmpOp}{r:R2}(ho:dk X (compareOp op) r)(ha:PE X a ta)(hb:PE X b tb)(hm:behindInMarks op b=false):PE X (.Compare a [op] [b] pos) (xA r ta tb):=by intro au s Z H Q I h;exact wpAny_Compare1 (Jz ha hb I h fun v u s2 x y H2 I2 rx ry q=>ho au s2 Z H2 x y v u Q I2 rx ry q) hm
inductive Ui(Q:Bool->Hp->Prop)(x:V)(H':Hp):Prop |mk (k:_)(h0:x= .bl k)(h1:Q k H'):Ui Q x H'
def Lk(t:TE):TT:=fun Z H Q=>t Z H fun x H'=>Ui Q x H'
theorem bZ{op:CmpOp}{r:R2}(ho:dk X (compareOp op) r)(ha:PE X a ta)(hb:PE X b tb)(hm:behindInMarks op b=false):PT X (.Compare a [op] [b] pos) (Lk (xA r ta tb)):=by intro au s Z H Q I h;refine wpAny_isTrue_Compare1 (aY (ha au s Z H _ I h) fun v s1 ⟨x,H1,I1,r1,q1⟩=>aY (hb au s1 Z H1 _ I1 q1) fun u s2 ⟨y,H2,I2,r2,q2⟩=>aY (ho au s2 Z H2 x y v u _ I2 r1 r2 q2) fun c s3 ⟨z,H3,I3,r3,k,e,q3⟩=>?_) hm;subst e;cases r3;exact pI ⟨H3,I3,q3⟩
inductive Up(r':R2)(tc:TE)(Z:St)(Q:VK)(y:V)(z:V)(H3:Hp):Prop |mk (k:_)(h0:z= .bl k)(h1:(if k=true then tc Z H3 fun w' H4=>r' y w' H4 Q else Q (.bl false) H3)):Up r' tc Z Q y z H3
def Lr(r r':R2)(ta tb tc:TE):TE:=fun Z H Q=>ta Z H fun x H1=>tb Z H1 fun y H2=>r x y H2 fun z H3=>Up r' tc Z Q y z H3
theorem OD{op sR:CmpOp}{r r':R2}(ho:dk X (compareOp op) r)(mi:dk X (compareOp sR) r')(ha:PE X a ta)(hb:PE X b tb)(hc:PE X c tc) (hm:lastMarks [op,sR] [b,c]=false:=by with_unfolding_all rfl):PE X (.Compare a [op,sR] [b,c] pos) (Lr r r' ta tb tc):=by intro au s Z H Q I h;refine Compare_chain (aY (ha au s Z H _ I h) fun v s1 ⟨x,H1,I1,r1,q1⟩=>chain_link (aY (hb au s1 Z H1 _ I1 q1) fun u s2 ⟨y,H2,I2,r2,q2⟩=>aY (ho au s2 Z H2 x y v u _ I2 r1 r2 q2) fun d s3 ⟨z,H3,I3,r3,k,e,q3⟩=>?_)) hm;subst e;cases r3;refine pI ?_;cases k with |false=>exact ite_ff ⟨.bl false,H3,I3,rfl,q3⟩ |true=>exact ite_tt (chain_last (aY (hc au s3 Z H3 _ I3 q3) fun w' s4 ⟨z',H4,I4,r4,q4⟩=>mi au s4 Z H4 y z' u w' Q I4 r2 r4 q4))
theorem a0t{op sR:CmpOp}{r r':R2}(ho:dk X (compareOp op) r)(mi:dk X (compareOp sR) r')(ha:PE X a ta)(hb:PE X b tb)(hc:PE X c tc) (hm:lastMarks [op,sR] [b,c]=false:=by with_unfolding_all rfl):PT X (.Compare a [op,sR] [b,c] pos) (Lk (Lr r r' ta tb tc)):=by intro au s Z H Q I h;refine isTrue_chain (aY (ha au s Z H _ I h) fun v s1 ⟨x,H1,I1,r1,q1⟩=>test_link (aY (hb au s1 Z H1 _ I1 q1) fun u s2 ⟨y,H2,I2,r2,q2⟩=>aY (ho au s2 Z H2 x y v u _ I2 r1 r2 q2) fun d s3 ⟨z,H3,I3,r3,k,e,q3⟩=>?_)) hm;subst e;cases r3;refine pI ?_;cases k with |false=>obtain⟨k',e',q'⟩:=q3;cases e';exact ite_ff ⟨H3,I3,q'⟩ |true=>refine ite_tt (test_last (aY (hc au s3 Z H3 _ I3 q3) fun w' s4 ⟨z',H4,I4,r4,q4⟩=>aY (mi au s4 Z H4 y z' u w' _ I4 r2 r4 q4) fun d' s5 ⟨z2,H5,I5,r5,k2,e2,q5⟩=>?_));subst e2;cases r5;exact pI ⟨H5,I5,q5⟩
def JO(K:aa)(x:V)(H:Hp)(k:Bool):Prop:=match x with | .bo=>k=false | .bl b=>k=b | .int i=>k=(i !=0) | .str y=>y.length<=sizeLine/\k=((y.length:Int) !=0) | .wL y=>y.size<=sizeLine/\k=((y.size:Int) !=0) | .ref p=>(∃xs,aF K H p xs/\k= !xs.isEmpty)\/(∃xs,aP K H p xs/\k= !xs.isEmpty)\/∃aM,H p=some (.dK aM)/\k= !aM.isEmpty |_=>False
theorem a52{κ:Type}{aM:List (κ×V)}{vs:List (κ×Value)}(r:KV aM vs):(!vs.isEmpty)= !aM.isEmpty:=by cases r<;>rfl
theorem Qj{xs:List V}{its:List Value}(r:Vals xs its):(!its.toArray.isEmpty)= !xs.isEmpty:=by cases r<;>simp
theorem tG:(sizeLine:Nat)<2^63:=by rw[sizeLine_eq];decide
theorem Xx:aby X (fun x H Q=>∃k,JO X.K x H k/\Q k H):=by intro au s Z H x v Q I rx h;obtain⟨k,e,q⟩:=h;have hl:=tG;have hs:sizeLine=16777216:=sizeLine_eq;cases x with |bo=>cases rx;have e':k=false:=e;subst e';exact truthy_none ⟨H,I,q⟩ |bl b=>cases rx;have e':k=b:=e;subst e';exact pI ⟨H,I,q⟩ |int i=>obtain⟨t,rfl⟩:=rx;have e':k=(i !=0):=e;subst e';exact PySem.P.truthy_int ⟨H,I,q⟩ |str y=>obtain⟨t,rfl⟩:=rx;obtain⟨hy,e'⟩:y.length<=sizeLine/\k=((y.length:Int) !=0):=e;subst e';exact PySem.P.truthy_str (by lia) ⟨H,I.tok _,q⟩ |wL y=>obtain⟨t,rfl⟩:=rx;obtain⟨hy,e'⟩:y.size<=sizeLine/\k=((y.size:Int) !=0):=e;subst e';exact PySem.W.truthy_bytes (by lia) ⟨H,I.tok _,q⟩ |ref p=>
   cases rx;have e':(∃xs,aF X.K H p xs/\k= !xs.isEmpty)\/(∃xs,aP X.K H p xs/\k= !xs.isEmpty)\/∃aM,H p=some (.dK aM)/\k= !aM.isEmpty:=e;rcases e' with⟨xs,hx,e'⟩|⟨xs,hx,e'⟩|⟨aM,hx,e'⟩
   · subst e'
     obtain⟨its,r,pl,hz⟩:=I.list hx;have hlen:=r.length;exact wpAny_truthy_list pl.isList (by simp only[ek];lia) ⟨H,I.tok _,by rw[Qj r];exact q⟩
   · subst e'
     obtain⟨its,r,pl,hz⟩:=I.tuple hx;have hlen:=r.length;exact truthy_tuple pl (by simp only[ek];lia) ⟨H,I.tok _,by rw[Qj r];exact q⟩
   · subst e'
     obtain⟨hz,hS,vs,r,m⟩:aM.length<=sizeLine/\(p==sysModules)=false/\∃vs,KV aM vs/\s.heap.DictOf (jx X.prog X.w) p vs:=I.aX p _ hx;have hlen:aM.length=vs.length:=Paired.length r;exact wpAny_truthy_dict hS m (by lia) ⟨H,I.tok _,by rw[a52 r];exact q⟩ |_=>exact(show False from e).elim
theorem a0s(ha:PE X a ta)(he:∀whole,isTrue a X.env whole=(do let v<-whole;standAt a.pos;holding [v] (truthy v))): PT X a (fun Z H Q=>ta Z H fun x H'=>∃k,JO X.K x H' k/\Q k H'):=by intro au s Z H Q I h;exact isTrue_plain (aY (ha au s Z H _ I h) fun v s1 ⟨x,H1,I1,r1,q1⟩=>Xx au s1 Z H1 x v Q I1 r1 q1) (he _)
theorem a1w:dk X (binaryOp .Add) (fun x y H Q=>∃i j,x= .str i/\y= .str j/\i.length+j.length<=sizeLine/\Q (.str (i++j)) H):=by intro au s Z H x y v u Q I rx ry h;obtain⟨i,j,rfl,rfl,hz,q⟩:=h;obtain⟨t,rfl⟩:=rx;obtain⟨t',rfl⟩:=ry;exact add_str (fun t' tk=>⟨.str (i++j),H,I.tok _,⟨_,rfl⟩,q⟩) hz
theorem vals1{x:V}{us:List Value}(r:Vals [x] us):∃u,us=[u]/\RelV x u:=by cases r with |cons r1 r2=>cases r2;exact⟨_,rfl,r1⟩
theorem vals2{x y:V}{us:List Value}(r:Vals [x,y] us):∃u w',us=[u,w']/\RelV x u/\RelV y w':=by cases r with |cons r1 r2=>cases r2 with |cons r3 r4=>cases r4;exact⟨_,_,rfl,r1,r3⟩
theorem nQ:fy X (.builtin "abs") (fun xs H Q=>∃i,xs=[.int i]/\Q (.int (if i<0 then-i else i)) H):=by intro au s Z H xs us Q I r h;obtain⟨i,rfl,q⟩:=h;obtain⟨u,rfl,t,rfl⟩:=vals1 r;exact call_abs_int fun u tk=>⟨.int (if i<0 then-i else i),H,I.tok _,⟨_,rfl⟩,q⟩
theorem Td(hc:X.calm=true):fy X (.builtin "max") (fun xs H Q=>∃i j,xs=[.int i,.int j]/\Q (.int (if j>i then j else i)) H):=by
 intro au s Z H xs us Q I r h;obtain⟨i,j,rfl,q⟩:=h;obtain⟨u,w',rfl,⟨t,rfl⟩,⟨t',rfl⟩⟩:=vals2 r;refine max_two_ints (I.ok.hd hc) fun h' tk k=>⟨_,H,I.kept k,?_,q⟩;by_cases hj:j>i
 ·rw[bc hj,bc hj];exact⟨_,rfl⟩
 ·rw[bf hj,bf hj];exact⟨_,rfl⟩
theorem Jv(hc:X.calm=true):fy X (.builtin "min") (fun xs H Q=>∃i j,xs=[.int i,.int j]/\Q (.int (if j<i then j else i)) H):=by
 intro au s Z H xs us Q I r h;obtain⟨i,j,rfl,q⟩:=h;obtain⟨u,w',rfl,⟨t,rfl⟩,⟨t',rfl⟩⟩:=vals2 r;refine min_two_ints (I.ok.hd hc) fun h' tk k=>⟨_,H,I.kept k,?_,q⟩;by_cases hj:j<i
 ·rw[bc hj,bc hj];exact⟨_,rfl⟩
 ·rw[bf hj,bf hj];exact⟨_,rfl⟩
theorem Te:fy X (.type "int") (fun xs H Q=>(∃i,xs=[.int i]/\Q (.int i) H)\/∃k,xs=[.bl k]/\Q (.int (if k then 1 else 0)) H):=by
 intro au s Z H xs us Q I r h;rcases h with⟨i,rfl,q⟩|⟨k,rfl,q⟩
 · obtain⟨u,rfl,t,rfl⟩:=vals1 r
   exact call_int_int ⟨.int i,H,I,⟨_,rfl⟩,q⟩
 · obtain⟨u,rfl,r1⟩:=vals1 r
   cases r1;exact call_int_bool ⟨.int (if k then 1 else 0),H,I.tok _,⟨_,rfl⟩,q⟩
end
structure uy(h:Heap)(x dx C:Addr)(mA:Str->Option Value):Prop where
 obj:h.get? x=some (PySem.W.instObj C dx)
 ns:h.Ns1 dx mA
 ne:dx≠x
theorem a4l{h:Heap}{dx:Addr}{mA:Str->Option Value}(n:h.Ns1 dx mA):∃od,h.get? dx=some od/\∀name,PySem.W.lookIn name od=some (mA name):=by
 obtain⟨o,es,ep,ho,hd,hk,_,hm⟩:=n;refine⟨o,ho,fun name=>?_⟩;have e:=hm name;unfold nsFind findBy at e;rw[<-Array.find?_toList]at e;unfold PySem.W.lookIn;rw[hd];dsimp only;split
 · rename_i y q
   rw[q]at e;exact congrArg some e
 · rename_i q
   rw[q]at e;have a:es.toList.any (·.refKey)=false:=by rw[List.any_eq_false];intro y hy;obtain⟨z,t,a6a⟩:=hk y (Array.mem_toList_iff.mp hy);simp[DictEntry.refKey,a6a]
   have a':¬es.toList.any (·.refKey)=true:=by rw[a];exact kr
   rw[bf a'];exact congrArg some e
theorem uy.look{h:Heap}{x dx C:Addr}{mA:Str->Option Value}(I:uy h x dx C mA):∃od,PySem.W.InstAt h x (PySem.W.instObj C dx) C (some od)/\∀name,PySem.W.lookIn name od=some (mA name):=let⟨od,ho,hl⟩:=a4l I.ns
 ⟨od,⟨I.obj,rfl,rfl,ho⟩,hl⟩
section
variable {prog:ah}{w:World}{A:aj}{E:Value->ae->Prop}{s:ae}{K:aa}{x dx C f:Addr}{mA:Str->Option Value}{name:Str}{v:Value}
theorem get_map{expr:Bool}{Q:Value->ae->Prop}(X:K.In s.heap)(I:uy s.heap x dx C mA)(hg:PySem.W.plainGet K C name=true)(hh:PySem.W.hasDictIn K C=true) (ha:PySem.W.findIn K (.ref C) name=some none)(hv:mA name=some v)(hv':PySem.W.handedIn v=true)(h:Q v {s with toks:=s.toks+1}): wpAny (model prog w) A (getAttr (.ref x) name expr) Q E s:=by obtain⟨od,J,hl⟩:=I.look;exact PySem.W.get_value X J (Wv hg).1 (PySem.W.findObj_own hh ha rfl (by rw[hl,hv])) hv' h
theorem a7T{pl:Sem Bool}{Q:Value×List Value->ae->Prop}(X:K.In s.heap)(I:uy s.heap x dx C mA)(hg:PySem.W.plainGet K C name=true) (hf:PySem.W.findIn K (.ref C) name=some (some (.ref f)))(ht:PySem.W.isFn K (.ref f)=true)(hv:mA name=none)(h:Q (.ref f,[.ref x]) s): wpAny (model prog w) A (getMethod (.ref x) name pl) Q E s:=by obtain⟨od,J,hl⟩:=I.look;exact PySem.W.method_fn X J (Wv hg).1 (Wv hg).2 hf (fS.mp ht) (by show(PySem.W.lookIn name od).map (·.isSome)=some false;rw[hl,hv];rfl) h
theorem YM{ns:List Str}{Q:Unit->ae->Prop}(X:K.In s.heap)(I:uy s.heap x dx C mA) (hs:PySem.W.findIn K (.ref C) "__setattr__"=some (some (.builtin "object.__setattr__")))(hp:PySem.W.plainOver K C=true)(ht:PySem.W.takerIn K C name=some none)(hh:PySem.W.hasDictIn K C=true) (hw:PySem.Within mA ns)(hsz:ns.length<=sizeLine) (h:∀h',uy h' x dx C (fun y=>if y=name then some v else mA y)->Heap.SameBut dx s.heap h'->Q () {s with heap:=h',toks:=s.toks+2}): wpAny (model prog w) A (setAttr (.ref x) name v) Q E s:=by obtain⟨od,J,hl⟩:=I.look;refine PySem.W.set_plain X J hs (PySem.W.osa_open (s:={s with toks:=s.toks+1}) (r:=none) X J hp ht fun b=>?_);obtain⟨cd,hc,wo⟩:=PySem.W.any_some hh;have hx:s.heap.get? x=some ⟨.ref C,some dx,.plain,#[]⟩:=I.obj;refine aQ (cn (aQ (aQ (wpAny_loadPart hx (aQ (PySem.W.Looks.here (s:={s with toks:=s.toks+1}) (PySem.W.looks_clsIn X hc) ?_))))));rw[wo];refine cn (a:=some dx) (aQ (cn (aQ ?_)));refine wpAny_nsSet1 (s:={s with toks:=s.toks+1}) I.ns fun h' BC jf=>?_;obtain⟨oD,esD,epD,hoD,hdD,hcD⟩:=BC.count (PySem.Within.cons name v hw);refine aQ (wpAny_lookBehind hoD (by rw[hdD];exact pastItsLine_dict (iy hcD (by rw[kn];lia))) ?_);exact cn (h _ ⟨(jf.2 _ (fg I.ne)).trans I.obj,BC,I.ne⟩ jf)
theorem a3M{R:Result->ae->Prop}{vs:List Value}{kw:List (Str×Value)}(X:K.In s.heap)(hm:PySem.W.makesIn K C=true) (hi:PySem.W.findIn K (.ref C) "__init__"=some (some (.ref f)))(hf:PySem.W.typeIn K (.ref f)=some (.type "function")) (h:codeAny (model prog w) (A.under (.builtin "type.__call__" ⟨.ref C::vs,kw⟩)) (.call (.ref f) ⟨.ref (s.heap.objs.size+1)::vs,kw⟩) (PySem.W.InitBack (s.heap.objs.size+1) R) {s with heap:=(s.heap.push PySem.W.emptyDict).push (PySem.W.instObj C s.heap.objs.size)}): codeAny (model prog w) A (.call (.ref C) ⟨vs,kw⟩) R s:=by obtain⟨hh,g,d,t,os⟩:=s;exact PySem.W.make_core (PySem.W.makes_of X hm) (PySem.W.looks_findIn X hi) (fun self=>PySem.W.bind_fn X self hf) (.inl rfl) h
end
def ja(f:Str)(v:V):List (Str×V)->List (Str×V) |[]=>[(f,v)] |(g,x)::r=>if g=f then(g,v)::r else(g,x)::ja f v r
theorem PQ(f g:Str)(v:V):∀fs:List (Str×V),(ja f v fs).lookup g=if g=f then some v else fs.lookup g
  |[]=>by
    show List.lookup g [(f,v)]=_;by_cases h:g=f
    · have hb:(g==f)=true:=fS.mpr h
      simp only[List.lookup,hb,bc h]
    · have hb:(g==f)=false:=CT.mpr h
      simp only[List.lookup,hb,bf h] |(k,x)::r=>by
    have ih:=PQ f g v r;rw[show ja f v ((k,x)::r)=(if k=f then(k,v)::r else(k,x)::ja f v r)from rfl];by_cases hk:k=f
    · rw[bc hk]
      by_cases h:g=k
      · have hb:(g==k)=true:=fS.mpr h
        simp only[List.lookup,hb,bc (h.trans hk)]
      · have hb:(g==k)=false:=CT.mpr h
        simp only[List.lookup,hb,bf (fun e:g=f=>h (e.trans hk.symm))]
    · rw[bf hk]
      by_cases h:g=k
      · have hb:(g==k)=true:=fS.mpr h
        simp only[List.lookup,hb,bf (fun e:g=f=>hk (h.symm.trans e))]
      · have hb:(g==k)=false:=CT.mpr h
        simp only[List.lookup,hb];exact ih
theorem Hl(f:Str)(v:V):∀fs:List (Str×V),f∈(ja f v fs).map (·.1)/\∀g,g∈fs.map (·.1)->g∈(ja f v fs).map (·.1)
  |[]=>⟨by simp[ja],fun g h=>by simp at h⟩ |(k,x)::r=>by
    obtain⟨i1,i2⟩:=Hl f v r;rw[show ja f v ((k,x)::r)=(if k=f then(k,v)::r else(k,x)::ja f v r)from rfl];by_cases hk:k=f
    · rw[bc hk]
      subst hk;exact⟨by simp,fun g h=>by simpa using h⟩
    · rw[bf hk]
      refine⟨?_,fun g h=>?_⟩
      · rw[oa]
        exact iz _ i1
      · rw[oa]at h⊢
        rcases bN.mp h with e|e
        ·exact bN.mpr (.inl e)
        ·exact iz _ (i2 g e)
theorem PZ(f:Str)(v:V):∀fs:List (Str×V),(ja f v fs).length<=fs.length+1
  |[]=>by simp[ja] |(k,x)::r=>by
    have ih:=PZ f v r;rw[show ja f v ((k,x)::r)=(if k=f then(k,v)::r else(k,x)::ja f v r)from rfl];by_cases hk:k=f
    ·rw[bc hk,kn,kn];lia
    ·rw[bf hk,kn,kn];lia
theorem jE.some_of{v:V}{o:Option Value}(r:jE (some v) o):∃u,o=some u/\RelV v u:=by cases o with |none=>exact(show False from r).elim |some u=>exact⟨u,rfl,r⟩
theorem jE.none_of{o:Option Value}(r:jE none o):o=none:=by cases o with |none=>rfl |some u=>exact(show False from r).elim
theorem a6Q{v:V}{u:Value}(r:RelV v u):PySem.W.handedIn u=true:=by cases v with |bo=>cases(show u=Value.none from r);rfl |bl b=>cases(show u=Value.bool b from r);rfl |int i=>obtain⟨t,e⟩:=(show∃t,u=Value.int i t from r);cases e;rfl |str x=>obtain⟨t,e⟩:=(show∃t,u=Value.str x t from r);cases e;rfl |wL b=>obtain⟨t,e⟩:=(show∃t,u=Value.bytes b t from r);cases e;rfl |C1 b=>obtain⟨t,e⟩:=(show∃t,u=Value.float b t from r);cases e;rfl |ref a=>cases(show u=Value.ref a from r);rfl |ty n=>cases(show u=Value.type n from r);rfl
section
variable {P:ah}{w:World}{H H':Hp}{h h':Heap}{a C dx:Addr}{fs fs':List (Str×V)}
theorem Ht(aX:dJ P w H h)(e:H a=some (.ins C dx fs)):∃mA,uy h a dx C mA/\(∀f,jE (fs.lookup f) (mA f))/\PySem.Within mA (fs.map (·.1))/\fs.length<=1000/\H dx=some (.own a):=by obtain⟨d,z,ne,ob,mA,n,r,q⟩:=(show fK P w H h a (.ins C dx fs)from aX a _ e);exact⟨mA,⟨ob,n,ne⟩,r,q,z,d⟩
end
structure ki(K:aa)(C:Addr):Prop where
 pg:PySem.W.plainGet K C Str.empty=true
 hd:PySem.W.hasDictIn K C=true
 po:PySem.W.plainOver K C=true
 sa:PySem.W.findIn K (.ref C) "__setattr__"=some (some (.builtin "object.__setattr__"))
theorem ki.get{K:aa}{C:Addr}(c:ki K C)(f:Str):PySem.W.plainGet K C f=true:=c.pg
def jj(K:aa)(C:Addr)(f:Str):Prop:=PySem.W.findIn K (.ref C) f=some none
theorem jj.XD{K:aa}{C:Addr}{f:Str}(n:jj K C f):PySem.W.takerIn K C f=some none:=by unfold PySem.W.takerIn;rw[show PySem.W.findIn K (.ref C) f=some none from n];rfl
structure Meth(K:aa)(C:Addr)(m:Str)(f:Addr):Prop where
 at_:PySem.W.findIn K (.ref C) m=some (some (.ref f))
 fn:PySem.W.isFn K (.ref f)=true
 kp:PySem.W.keepIn K (.ref f)=true
section
variable {X:Cx}{au:List (Addr×Obj)}{Z:St}{H:Hp}{s:ae}{a C dx:Addr}{fs:List (Str×V)}{f:Str}{v:V}{A:aj}{E:Value->ae->Prop}
theorem Rx{b:Bool}{Q:Value->ae->Prop}(I:Inv X au Z H s)(e:H a=some (.ins C dx fs))(c:ki X.K C)(n:jj X.K C f)(l:fs.lookup f=some v) (h:∀u s',Inv X au Z H s'->RelV v u->Q u s'):wpAny (model X.prog X.w) A (getAttr (.ref a) f b) Q E s:=by obtain⟨mA,ady,r,_,_,_⟩:=Ht I.aX e;obtain⟨u,hu,ru⟩:=jE.some_of (v:=v) (o:=mA f) (by rw[<-l];exact r f);exact get_map I.gD ady (c.get f) c.hd n hu (a6Q ru) (h u _ (I.tok _) ru)
theorem Rw{m:Str}{g:Addr}{pl:Sem Bool}{Q:Value×List Value->ae->Prop}(I:Inv X au Z H s)(e:H a=some (.ins C dx fs))(c:ki X.K C)(k:Meth X.K C m g)(l:fs.lookup m=none) (h:Q (.ref g,[.ref a]) s):wpAny (model X.prog X.w) A (getMethod (.ref a) m pl) Q E s:=by obtain⟨mA,ady,r,_,_,_⟩:=Ht I.aX e;have hn:mA m=none:=jE.none_of (by rw[<-l];exact r m);exact a7T I.gD ady (c.get m) k.at_ k.fn hn h
theorem Mt{y:V}{u:Value}{Q:Unit->ae->Prop}(I:Inv X au Z H s)(e:H a=some (.ins C dx fs))(c:ki X.K C)(n:jj X.K C f)(hl:fs.length<1000)(ry:RelV y u) (h:∀s',Inv X au Z (upd H a (.ins C dx (ja f y fs))) s'->Q () s'):wpAny (model X.prog X.w) A (setAttr (.ref a) f u) Q E s:=by
  obtain⟨mA,ady,r,wi,_,ho⟩:=Ht I.aX e;have hz:(fs.map (·.1)).length<=sizeLine:=by rw[cu,sizeLine_eq];lia
  refine YM I.gD ady c.sa c.po n.XD c.hd wi hz fun h' O' sb=>h _ ?_;have hd:∃o,h'.get? dx=some o:=let⟨o,_,_,e',_⟩:=O'.ns;⟨o,e'⟩;refine I.write (x:=a) (e:=dx) (by rw[e];exact True.intro) (.inr ho) (fun b q hb z=>(sb.2 b hb).trans z) hd ?_;refine⟨by rw[aK ady.ne];exact ho,?_,ady.ne,O'.obj,_,O'.ns,fun g=>?_,fun g hg=>?_⟩
  ·have:=PZ f y fs;lia
  · show jE ((ja f y fs).lookup g) (if g=f then some u else mA g)
    rw[PQ];by_cases q:g=f
    ·rw[bc q,bc q];exact ry
    ·rw[bf q,bf q];exact r g
  · by_cases q:g=f
    ·rw[q];exact(Hl f y fs).1
    · refine(Hl f y fs).2 g (wi g fun z=>hg ?_)
      show(if g=f then some u else mA g)=none;rw[bf q];exact z
theorem Inv.made(I:Inv X au Z H s):Inv X au Z (upd (upd H s.heap.objs.size (.own (s.heap.objs.size+1))) (s.heap.objs.size+1) (.ins C s.heap.objs.size [])) {s with heap:=(s.heap.push PySem.W.emptyDict).push (PySem.W.instObj C s.heap.objs.size)}:=by
  have e1:(s.heap.push PySem.W.emptyDict).get? s.heap.objs.size=some PySem.W.emptyDict:=eO s.heap rfl;have e2:((s.heap.push PySem.W.emptyDict).push (PySem.W.instObj C s.heap.objs.size)).get? (s.heap.objs.size+1)=some (PySem.W.instObj C s.heap.objs.size):=by have:=eO (s.heap.push PySem.W.emptyDict) (o:=PySem.W.instObj C s.heap.objs.size) rfl;rwa [rQ]at this
  have e3:(s.heap.push PySem.W.emptyDict).Ns s.heap.objs.size (fun _=>none):=⟨PySem.W.emptyDict,#[],_,e1,rfl,(fun e he=>absurd he (by simp)),fun _=>rfl⟩;have I1:=I.laid (a:=s.heap.objs.size) (o:=.own (s.heap.objs.size+1)) (h':=s.heap.push PySem.W.emptyDict) (t':=s.toks) (fun b u q=>cy _ q) (bK _) ⟨_,e1⟩;refine I1.laid (a:=s.heap.objs.size+1) (o:=.ins C s.heap.objs.size []) (t':=s.toks) (fun b u q=>cy _ q) (Nat.le_of_eq (rQ _ _)) ?_;have ne:s.heap.objs.size≠s.heap.objs.size+1:=fC (WD _);refine⟨by rw[aK ne,ba],fZ _,ne,e2,fun _=>none,(Heap.Ns1.of_empty e3).at fun o q=>cy _ q,fun _=>True.intro,fun y hy=>absurd rfl hy⟩
theorem ab8{prog:ah}{w:World}{env:Env}{e:Expr}{f:Str}{pos:Pos}{s:ae}{Q:Value->ae->Prop}(hb:attributeBase e f env (eval e env)=eval e env) (h:wpAny (model prog w) A (eval e env) (fun o s₁=>wpAny (model prog w) A (getAttr o f true) Q E s₁) E s):wpAny (model prog w) A (eval (.Attribute e f pos) env) Q E s:=Attribute_any_ h (by rw[arm_eval_Attribute,hb])
end
def abJ(X:Cx)(op:Operator)(rd:V->V->Hp->VK->Prop):Prop:=∀(au:List (Addr×Obj))(s:ae)(Z:St)(H:Hp)(x y:V)(u v:Value)(Q:VK),Inv X au Z H s->RelV x u->RelV y v->rd x y H Q->wpAny (model X.prog X.w) X.A (inplaceOp op u v) (EP X au Z Q) X.xe s
section
variable {X:Cx}{o e value:Expr}{f:Str}{pos pos' ow:Pos}{ta tv:TE}
end
section
variable {X:Cx}{au:List (Addr×Obj)}{Z:St}{H:Hp}{s:ae}{A:aj}{E:Value->ae->Prop}{Q:Value->ae->Prop}{c:Value}{b:Bool}
end
structure cJ(k:Nat)(A:aj):Prop where
 hd:A.handled=none
 dp:A.depth+3*k+5<recursionLimit
 un:A.units+16*k+200<cLine
theorem cJ.mono{j k:Nat}{A:aj}(r:cJ k A)(h:j<=k):cJ j A:=⟨r.hd,by have:=r.dp;lia,by have:=r.un;lia⟩
theorem cJ.deeper{k:Nat}{A:aj}(r:cJ (k+1) A)(env:Env):cJ k (A.deeper env):=⟨r.hd,by have:=r.dp;show A.depth+1+3*k+5<_;lia,by have:=r.un;show A.units+3+16*k+200<_;lia⟩
theorem a3N{A:aj}{C:Addr}{us:List Value}{kw:List (Str×Value)}:(A.under (.builtin "type.__call__" ⟨.ref C::us,kw⟩)).depth=A.depth+1:=by first|rfl|simp[Around.under,Code.weight,Code.isCreation,Code.isGuard,Code.isCaller,Code.frames,Code.isFrame,guardIds]
theorem a3L{A:aj}{C:Addr}{us:List Value}{kw:List (Str×Value)}:(A.under (.builtin "type.__call__" ⟨.ref C::us,kw⟩)).units=A.units+1:=by first|rfl|simp[Around.under,Code.cUnits,Code.frames,Code.isFrame]
theorem cJ.make{k:Nat}{A:aj}(r:cJ (k+1) A)(C:Addr)(us:List Value)(kw:List (Str×Value)):cJ k (A.under (.builtin "type.__call__" ⟨.ref C::us,kw⟩)):=⟨r.hd,by have:=r.dp;rw[a3N];omega,by have:=r.un;rw[a3L];omega⟩
theorem cJ.depth{k:Nat}{A:aj}(r:cJ k A):A.depth<recursionLimit:=by have:=r.dp;lia
theorem cJ.units{k:Nat}{A:aj}(r:cJ k A):A.units+64<cLine:=by have:=r.un;lia
def mJ:TA:=fun _ H Q=>Q [] H
def DE(ta:TE)(tr:TA):TA:=fun Z H Q=>ta Z H fun x H1=>tr Z H1 fun xs H2=>Q (x::xs) H2
section
variable {X:Cx}{e:Expr}{es:List Expr}{te:TE}{t:TA}{pos:Pos}
theorem aw:PA X [] mJ:=fun _ _ _ _ H Q I h=>Calls.spliced_nil ⟨[],H,I,.nil,h⟩
theorem O(ha:PE X e te)(hr:PA X es t)(hs:starEach (e::es) X.env=(false,eval e X.env)::starEach es X.env:=by rfl):PA X (e::es) (DE te t):=by intro pos au s Z H Q I h;rw[hs];show wpAny _ _ (spliced ((false,eval e X.env)::backTo pos (starEach es X.env))) _ _ s;refine Calls.spliced_cons (aY (ha au s Z H _ I h) fun u s1 ⟨x,H1,I1,r1,q1⟩=>?_);exact aY (hr pos au s1 Z H1 _ I1 q1) fun us s2 ⟨xs,H2,I2,r2,q2⟩=>⟨x::xs,H2,I2,.cons r1 r2,q2⟩
end
abbrev Sp:=List V->Hp->VK->XK->Prop
abbrev kl:=List Env->Hp->ae->XK->Value->ae->Prop
structure o8(P:ah)(w:World)(K:aa)(mg:Str->Option Value)(base:Heap)(A:aj)(outer:List Env)(s:ae)(H:Hp):Prop where
 frames:A.frames=some outer
 mod:Mod K mg base
 bs:∀b o,base.get? b=some o->s.heap.get? b=some o/\H b=none
 m5:base.objs.size<=s.heap.objs.size
 jC:s.heap.FunFrames base outer
 ny:∀b∈dj outer,H b=none
 aX:dJ P w H s.heap
 bare:AllBare s.gens
def CE(outer:List Env)(P:ah)(w:World)(H:Hp)(s:ae)(Q:VK)(u:Value)(s':ae):Prop:=∃v H',s'.os=s.os/\AllBare s'.gens/\Un (dj outer) [] H H' s.heap s'.heap/\dJ P w H' s'.heap/\RelV v u/\Q v H'
def CR(CX:kl)(outer:List Env)(P:ah)(w:World)(H:Hp)(s:ae)(Q:VK)(E:XK)(r:Result)(s':ae):Prop:=match r with | .ok (.ret u)=>CE outer P w H s Q u s' | .ok _=>False | .error e=>CX outer H s E e s'
structure j6(P:ah)(w:World)(K:aa)(mg:Str->Option Value)(base:Heap)(CX:kl)(k:Nat)(f:Addr)(fd:FuncData)(ps:List Str)(sp:Sp):Prop where
 len:∀vs H Q E,sp vs H Q E->vs.length=ps.length
 run:∀(A:aj)(outer:List Env)(s:ae)(H:Hp)(args:Args)(us:List Value)(vs:List V)(Q:VK)(E:XK),cJ k A->o8 P w K mg base A outer s H->BindsTo s fd args (ps.zip us)->Vals vs us->sp vs H Q E->codeAny (model P w) A (.call (.ref f) args) (CR CX outer P w H s Q E) s
theorem o8.make{P:ah}{w:World}{K:aa}{mg:Str->Option Value}{base:Heap}{A:aj}{outer:List Env}{s:ae}{H:Hp}(e:o8 P w K mg base A outer s H)(C:Addr)(us:List Value)(kw:List (Str×Value)): o8 P w K mg base (A.under (.builtin "type.__call__" ⟨.ref C::us,kw⟩)) outer s H:=⟨by first|exact e.frames|(simpa[Around.under,Code.envs,Code.isFrame,pushEnvs]using e.frames),e.mod,e.bs,e.m5,e.jC,e.ny,e.aX,e.bare⟩
section
variable {X:Cx}{au:List (Addr×Obj)}{Z:St}{H:Hp}{s s':ae}
theorem Inv.C8(I:Inv X au Z H s):o8 X.prog X.w X.K X.mg X.base X.A X.stack s H:=⟨I.ok.frames,I.ok.mod,I.bs,iy I.ok.m5 I.sz,I.stack,I.Ah,I.aX,I.bare⟩
theorem Inv.after{Q:VK}{u:Value}(I:Inv X au Z H s)(h:CE X.stack X.prog X.w H s Q u s'):EP X au Z Q u s':=by obtain⟨v,H',os,bare,un,aX,r,q⟩:=h;obtain⟨hh,g,d,t,fO⟩:=s';obtain rfl:fO=s.os:=os;exact⟨v,H',I.call (h':=hh) (g':=g) (d':=d) (t':=t) (ch:=[]) un aX bare (fun b z=>absurd z (by simp)),r,q⟩
end
def Y3(sp:Sp)(gq:List V)(E:XK)(t:TA):TE:=fun Z H Q=>t Z H fun vs H1=>sp (vs++gq) H1 Q E
inductive uA(C:Addr)(m:Str)(sp:Sp)(gq:List V)(E:XK)(t:TA)(Z:St)(Q:VK)(x:V)(H1:Hp):Prop |mk (a:_)(dx:_)(fs:_)(h0:x= .ref a)(h1:H1 a=some (.ins C dx fs))(h2:fs.lookup m=none)(h3:t Z H1 fun vs H2=>sp (x::(vs++gq)) H2 Q E):uA C m sp gq E t Z Q x H1
def Lm(C:Addr)(m:Str)(sp:Sp)(gq:List V)(E:XK)(ta:TE)(t:TA):TE:=fun Z H Q=>ta Z H fun x H1=>uA C m sp gq E t Z Q x H1
def XX(C:Addr)(sp:Sp)(gq:List V)(E:XK)(t:TA):TE:=fun Z H Q=>t Z H fun vs H1=>∀x dx,H1 x=none->H1 dx=none->dx≠x->sp (.ref x::(vs++gq)) (upd (upd H1 dx (.own x)) x (.ins C dx [])) (fun v H2=>v= .bo/\Q (.ref x) H2) E
def Binds(K:aa)(fd:FuncData)(ps:List Str)(ds:List Value):Prop:=∀(s:ae)(us:List Value),K.In s.heap->(us++ds).length=ps.length->BindsTo s fd ⟨us,[]⟩ (ps.zip (us++ds))
theorem Binds.all{K:aa}{fd:FuncData}{ps:List Str}(h:∀us:List Value,us.length=ps.length->bindArgs fd ⟨us,[]⟩=pure (ps.zip us)):Binds K fd ps []:=fun s us _ hl=>by rw[Df]at hl⊢;exact .of_eq (h us hl)
def Passes(CX:kl)(X:Cx)(E:XK):Prop:=∀(au:List (Addr×Obj))(Z:St)(H:Hp)(s:ae)(e:Value)(s':ae),Inv X au Z H s->CX X.stack H s E e s'->X.xe e s'
section
variable {X:Cx}{CX:kl}{k:Nat}{f C:Addr}{fd:FuncData}{ps:List Str}{sp:Sp}{gq:List V}{ds:List Value}{E:XK}{x m:Str}{p pos apos:Pos}{e o:Expr}{es:List Expr}{ta:TE}{t:TA}
theorem FU{au:List (Addr×Obj)}{Z:St}{H:Hp}{s:ae}{Q:VK}{us:List Value}{vs:List V}(F:j6 X.prog X.w X.K X.mg X.base CX k f fd ps sp)(hr:cJ k X.A)(hb:Binds X.K fd ps ds)(hd:Vals gq ds)(hx:Passes CX X E) (I:Inv X au Z H s)(r:Vals vs us)(h:sp (vs++gq) H Q E):wpAny (model X.prog X.w) X.A (call (.ref f) us) (EP X au Z Q) X.xe s:=by
  have r2:Vals (vs++gq) (us++ds):=r.append hd;have hl:(us++ds).length=ps.length:=by rw[<-r2.length];exact F.len _ _ _ _ h
  refine zD (zF (F.run X.A X.stack s H ⟨us,[]⟩ (us++ds) (vs++gq) Q E hr I.C8 (hb s us I.gD hl) r2 h) fun r s' hq=>?_);cases r with |error e=>exact hx au Z H s e s' I hq |ok fl=>cases fl with |ret u=>exact I.after hq |next=>exact False.elim hq |brk=>exact False.elim hq |cont=>exact False.elim hq
theorem a0Y(F:j6 X.prog X.w X.K X.mg X.base CX k f fd ps sp)(hr:cJ k X.A)(hg:Gl X x)(hm:X.mg x=some (.ref f))(hk:PySem.W.keepIn X.K (.ref f)=true)(hb:Binds X.K fd ps ds)(hd:Vals gq ds)(hx:Passes CX X E) (ha:PA X (e::es) t)(jh:(x==("__debug__":Str))=false:=by decide)(he:starEach (e::es) X.env=(false,eval e X.env)::starEach es X.env:=by rfl)(gj:(backTo pos (starEach es X.env)).any (·.1)=false:=by rfl): PE X (.Call (.Name x p) (e::es) [] pos) (Y3 sp gq E t):=by intro au s Z H Q I h;refine zE (vR I hg hm ?_ jh);refine Ww (h₀:=X.base) I.ok.mod.oQ hk (aY (ha pos au s Z H _ I h) fun us s1 ⟨vs,H1,I1,r,q⟩=>⟨I1.gD,?_⟩) he gj;exact FU F hr hb hd hx I1 r q
theorem OA{pl:Sem Bool}(he:PE X o ta)(c:ki X.K C)(hm:Meth X.K C m f)(F:j6 X.prog X.w X.K X.mg X.base CX k f fd ps sp)(hr:cJ k X.A)(hb:Binds X.K fd ps ds)(hd:Vals gq ds)(hx:Passes CX X E)(ha:PA X (e::es) t) (gQ:starEach (e::es) X.env=(false,eval e X.env)::starEach es X.env:=by rfl)(gj:(backTo pos (starEach es X.env)).any (·.1)=false:=by rfl) (ht:eval (.Call (.Attribute o m apos) (e::es) [] pos) X.env=(do
     let ov<-eval o X.env
     standAt apos.atName
     let(f,first)<-holding [ov] (getMethod ov m pl)
     callWith pos f first (backTo pos (starEach (e::es) X.env)) (backToKw pos (keywordEach [] X.env))):=by rfl): PE X (.Call (.Attribute o m apos) (e::es) [] pos) (Lm C m sp gq E ta t):=by
  intro au s Z H Q I h;refine PySem.W.methodCall_KW (pl:=pl) (aY (he au s Z H _ I h) fun u s1 ⟨x,H1,I1,rx,a,dx,fs,ex,ea,l,q⟩=>?_) ht;subst ex;obtain rfl:u=Value.ref a:=rx;refine Rw I1 ea c hm l ?_;refine Ww (first:=[.ref a]) (h₀:=X.base) I.ok.mod.oQ hm.kp (aY (ha pos au s1 Z H1 _ I1 q) fun us s2 ⟨vs,H2,I2,r,q2⟩=>⟨I2.gD,?_⟩) gQ gj;exact FU (us:=.ref a::us) (vs:=.ref a::vs) F hr hb hd hx I2 (.cons rfl r) q2
theorem a0S{pl:Sem Bool}(he:PE X o ta)(c:ki X.K C)(hm:Meth X.K C m f)(F:j6 X.prog X.w X.K X.mg X.base CX k f fd ps sp)(hr:cJ k X.A)(hb:Binds X.K fd ps ds)(hd:Vals gq ds)(hx:Passes CX X E) (ht:eval (.Call (.Attribute o m apos) [] [] pos) X.env=(do
     let ov<-eval o X.env
     standAt apos.atName
     let(f,first)<-holding [ov] (getMethod ov m pl)
     callWith pos f first (backTo pos (starEach [] X.env)) (backToKw pos (keywordEach [] X.env))):=by rfl): PE X (.Call (.Attribute o m apos) [] [] pos) (Lm C m sp gq E ta mJ):=by
  intro au s Z H Q I h;refine PySem.W.methodCall_KW (pl:=pl) (aY (he au s Z H _ I h) fun u s1 ⟨x,H1,I1,rx,a,dx,fs,ex,ea,l,q⟩=>?_) ht;subst ex;obtain rfl:u=Value.ref a:=rx;refine Rw I1 ea c hm l ?_;exact PySem.W.callWith_K0 (first:=[.ref a]) I1.gD hm.kp (FU (us:=[.ref a]) (vs:=[.ref a]) F hr hb hd hx I1 (.cons rfl .nil) q)
structure Mk(K:aa)(C f:Addr):Prop where
 makes:PySem.W.makesIn K C=true
 init:PySem.W.findIn K (.ref C) "__init__"=some (some (.ref f))
 fn:PySem.W.isFn K (.ref f)=true
 kp:PySem.W.keepIn K (.ref C)=true
theorem Zo{au:List (Addr×Obj)}{Z:St}{H:Hp}{s:ae}{Q:VK}{us:List Value}{vs:List V}(M:Mk X.K C f)(F:j6 X.prog X.w X.K X.mg X.base CX k f fd ps sp)(hr:cJ (k+1) X.A)(hb:Binds X.K fd ps ds)(hd:Vals gq ds) (hx:Passes CX X E)(I:Inv X au Z H s)(r:Vals vs us) (h:∀x dx,H x=none->H dx=none->dx≠x->sp (.ref x::(vs++gq)) (upd (upd H dx (.own x)) x (.ins C dx [])) (fun v H2=>v= .bo/\Q (.ref x) H2) E): wpAny (model X.prog X.w) X.A (call (.ref C) us) (EP X au Z Q) X.xe s:=by
  have hq:=h (s.heap.objs.size+1) s.heap.objs.size (I.aX.fresh (Nat.le_succ _)) (I.aX.fresh (bK _)) (fC (WD _));have I2:=Inv.made (C:=C) I;have r2:Vals (V.ref (s.heap.objs.size+1)::(vs++gq)) (Value.ref (s.heap.objs.size+1)::(us++ds)):=.cons rfl (r.append hd);have hl:(Value.ref (s.heap.objs.size+1)::us++ds).length=ps.length:=by have e:=r2.length;rw[F.len _ _ _ _ hq]at e;exact e.symm
  refine zD (a3M (f:=f) I.gD M.makes M.init (fS.mp M.fn) (zF (F.run _ X.stack _ _ ⟨Value.ref (s.heap.objs.size+1)::us,[]⟩ (Value.ref (s.heap.objs.size+1)::(us++ds)) _ _ E (hr.make C us []) (I2.C8.make C us []) (hb _ (Value.ref (s.heap.objs.size+1)::us) I2.gD hl) r2 hq) fun r s' jU=>?_));cases r with |error e=>exact hx au Z _ _ e s' I2 jU |ok fl=>cases fl with |ret u=>obtain⟨v,H',I3,rv,ev,q3⟩:=I2.after jU;subst ev;exact⟨rv,⟨V.ref (s.heap.objs.size+1),H',I3,rfl,q3⟩⟩ |next=>exact False.elim jU |brk=>exact False.elim jU |cont=>exact False.elim jU
theorem a0T(M:Mk X.K C f)(F:j6 X.prog X.w X.K X.mg X.base CX k f fd ps sp)(hr:cJ (k+1) X.A)(hg:Gl X x)(hm:X.mg x=some (.ref C))(hb:Binds X.K fd ps ds)(hd:Vals gq ds)(hx:Passes CX X E) (ha:PA X (e::es) t)(jh:(x==("__debug__":Str))=false:=by decide)(he:starEach (e::es) X.env=(false,eval e X.env)::starEach es X.env:=by rfl)(gj:(backTo pos (starEach es X.env)).any (·.1)=false:=by rfl): PE X (.Call (.Name x p) (e::es) [] pos) (XX C sp gq E t):=by intro au s Z H Q I h;refine zE (vR I hg hm ?_ jh);refine Ww (h₀:=X.base) I.ok.mod.oQ M.kp (aY (ha pos au s Z H _ I h) fun us s1 ⟨vs,H1,I1,r,q⟩=>⟨I1.gD,?_⟩) he gj;exact Zo M F hr hb hd hx I1 r q
end
section
variable {X:Cx}{CX:kl}{k:Nat}{f C:Addr}{fd:FuncData}{ps ks:List Str}{sp:Sp}{E:XK}{x m:Str}{p pos apos acG:Pos}{e o:Expr}{es:List Expr}{kws:List Keyword}{te ta:TE}{t tk:TA}{nm:Option Str}
variable {g:List Value->List Value->List Value}{gV:List V->List V->List V}
end
structure bp(N P:List Str)(sc:Scope):Prop where
 kind:sc.kind= .function
 co:sc.isCoroutine=false
 gen:sc.isGenerator=false
 nd:N.Nodup
 pre:N.take P.length=P
 par:∀x∈P,sc.names.lookup x=some .local\/sc.names.lookup x=some .cell
 a3f:∀y∈sc.names,y.2≠ .free
theorem Tj{kindOf:Str->Option NameKind}{x:Str}:∀{binds:List (Str×Value)}{m:Str->Option Value},(∀v,(x,v)∉binds)->bindL kindOf binds m x=m x
  |[],_,_=>rfl |(n,v)::r,m,h=>by
    unfold bindL;rw[Tj fun w hw=>h w (iz _ hw)];split
    · have:x≠n:=by rintro rfl;exact h v Kl
      simp[this]
    ·rfl
theorem Tp{kindOf:Str->Option NameKind}{x:Str}:∀{binds:List (Str×Value)}{m:Str->Option Value},(∀v,(x,v)∉binds)->bindC kindOf binds m x=m x
  |[],_,_=>rfl |(n,v)::r,m,h=>by
    unfold bindC;rw[Tp fun w hw=>h w (iz _ hw)];split
    ·rfl
    · have:x≠n:=by rintro rfl;exact h v Kl
      simp[this]
theorem Tn{kindOf:Str->Option NameKind}{x:Str}{v:Value}:∀{P:List Str}{vs:List Value}{i:Nat}{m:Str->Option Value},P.Nodup->P[i]? =some x->vs[i]? =some v->kindOf x=some .local->bindL kindOf (P.zip vs) m x=some v |[],_,_,_,_,h,_,_=>by simp at h |_::_,[],_,_,_,_,h,_=>by simp at h |p::P,w::vs,0,m,nd,h1,h2,hk=>by simp at h1 h2;subst h1;subst h2;show bindL kindOf ((p,w)::P.zip vs) m p=_;unfold bindL;rw[Tj fun v hv=>(rM.mp nd).1 (zI hv).1,bc hk];simp |p::P,w::vs,i+1,m,nd,h1,h2,hk=>by show bindL kindOf ((p,w)::P.zip vs) m x=_;unfold bindL;exact Tn (i:=i) (rM.mp nd).2 (by simpa using h1) (by simpa using h2) hk
theorem Tq{kindOf:Str->Option NameKind}{x:Str}{v:Value}:∀{P:List Str}{vs:List Value}{i:Nat}{m:Str->Option Value},P.Nodup->P[i]? =some x->vs[i]? =some v->kindOf x≠some .local->bindC kindOf (P.zip vs) m x=some v |[],_,_,_,_,h,_,_=>by simp at h |_::_,[],_,_,_,_,h,_=>by simp at h |p::P,w::vs,0,m,nd,h1,h2,hk=>by simp at h1 h2;subst h1;subst h2;show bindC kindOf ((p,w)::P.zip vs) m p=_;unfold bindC;rw[Tp fun v hv=>(rM.mp nd).1 (zI hv).1,bf hk];simp |p::P,w::vs,i+1,m,nd,h1,h2,hk=>by show bindC kindOf ((p,w)::P.zip vs) m x=_;unfold bindC;exact Tq (i:=i) (rM.mp nd).2 (by simpa using h1) (by simpa using h2) hk
def start(N:List Str)(vs:List V):St:=vs.map some++List.replicate (N.length-vs.length) none
def j4(CX:kl)(P:ah)(w:World)(K:aa)(mg:Str->Option Value)(base:Heap)(N:List Str)(qual:Str)(scope:Scope)(f:Addr)(cd:Value)(A:aj)(outer:List Env)(s:ae)(H:Hp)(E:XK):Cx where
 prog:=P
 w:=w
 K:=K
 mg:=mg
 base:=base
 A:=A.deeper (envOfC qual scope s.heap.objs.size f cd)
 N:=N
 s₀:=s
 H₀:=H
 env:=envOfC qual scope s.heap.objs.size f cd
 outer:=outer
 stack:=envOfC qual scope s.heap.objs.size f cd::outer
 ex:=[]
 calm:=true
 fn:=fun _=>true
 pn:=[]
 xe:=fun e s'=>wpAny (model P w) (A.deeper (envOfC qual scope s.heap.objs.size f cd)) (leaving (envOfC qual scope s.heap.objs.size f cd) e) (fun _ sJ=>CX outer H s E e sJ) (fun e' sJ=>CX outer H s E e' sJ) s'
theorem T9{sc:Scope}{n:Nat}{x:Str}(h:sc.names.lookup x=some .cell):∃c,(cellsFrom n sc.names []).lookup x=some c:=by have q:=PySem.W.cellsFrom_some sc.names n [] (.inl h);exact Option.isSome_iff_exists.mp q
theorem Qk{CX:kl}{P:ah}{w:World}{K:aa}{mg:Str->Option Value}{base:Heap}{N ps:List Str}{qual:Str}{scope:Scope}{f:Addr}{cd:Value}{A:aj}{outer:List Env}{s s1:ae}{H:Hp}{E:XK}{us:List Value}{vs:List V} (S:bp N ps scope)(hd:A.handled=none)(e0:o8 P w K mg base A outer s H)(hl:vs.length=ps.length)(r:Vals vs us) (x:InCallC s s.heap.objs.size (bindL (envOfC qual scope s.heap.objs.size f cd).kindOf (ps.zip us) fun _=>none) (cellsFrom (s.heap.objs.size+1) scope.names []) (bindC (envOfC qual scope s.heap.objs.size f cd).kindOf (ps.zip us) fun _=>none) s1): Inv (j4 CX P w K mg base N qual scope f cd A outer s H E) [] (start N vs) H s1:=by
  have gj:ps.length<=N.length:=by have:=congrArg List.length S.pre;rw[oh]at this;lia
  obtain⟨h1,tk,rfl,hk⟩:=x.done;have tj:∀b:Addr,b∉(j4 CX P w K mg base N qual scope f cd A outer s H E).ex:=fun b z=>absurd (show b∈([]:List Addr)from z) (by simp);refine⟨⟨e0.mod,S.kind,rfl,rfl,bK _,fun y z c h1 h2=>?_,fun y hy=>?_,fun y c _ h=>?_,fun _=>hd,Around.frames_deeper e0.frames,.inr ⟨rfl,rfl⟩,fun b z=>absurd z (tj b),e0.bs,e0.m5,fun b _ _=>tj b,fun b z=>absurd z (tj b),e0.jC,e0.ny⟩,rfl,e0.bare,Un.kept hk,⟨_,x.toInCall.ns,fun i y v h1 h2 h3=>?_⟩,fun y c h=>⟨_,x.cell y c h⟩,e0.aX.fresh (bK _),fun y c h=>?_,fun p hp=>absurd (show p∈([]:List (Addr×Obj))from hp) (by simp),e0.aX.kept hk,?_⟩
  ·exact name_of_addr x.apart (uG h1) (uG h2)
  · have hy:scope.names.lookup y=some .cell\/scope.names.lookup y=some .free:=hy
    rcases hy with hy|hy
    ·exact T9 hy
    ·exact absurd rfl (S.a3f _ (uG hy))
  ·exact Ki (x.above y c (uG h))
  · have hi:i<vs.length:=by
      unfold start at h2;by_cases hi:i<vs.length
      ·exact hi
      · rw[zL (by simpa using hi)]at h2
        rw[WH]at h2;split at h2<;>cases h2
    have ha:vs[i]? =some v:=by unfold start at h2;rw[xj (by simpa using hi),cA]at h2;cases e:vs[i]? with |none=>rw[e]at h2;cases h2 |some a=>rw[e]at h2;cases h2;rfl
    obtain⟨u,hu,rv⟩:=r.get ha;have hp:ps[i]? =some y:=by rw[<-S.pre,List.getElem?_take_of_lt (by lia)];exact h1
    have Pk:ps.Nodup:=by rw[<-S.pre];exact S.nd.sublist (List.take_sublist _ _)
    refine⟨u,rv,?_⟩;rcases S.par y (gG hp)with k|k
    ·exact .inl ⟨k,Tn Pk hp hu k⟩
    · obtain⟨c,e⟩:=T9 (n:=s.heap.objs.size+1) k
      refine .inr ⟨.inl k,c,e,?_⟩;have q:=x.cell y c e;rw[Tq Pk hp hu (by show scope.names.lookup y≠_;rw[k];decide)]at q;exact q
  ·exact e0.aX.fresh (Ki (x.above y c (uG h)))
  · unfold start
    show _=N.length;rw[fD,cu,D6]
    lia
theorem IP{CX:kl}{P:ah}{w:World}{K:aa}{mg:Str->Option Value}{base:Heap}{k:Nat}{f:Addr}{name qual:Str}{params:Arguments}{body:List Stmt}{scope:Scope}{dV kV doc pm aL ct oc:Value}{an od:Option Addr} {gf:Array (Option Value)}{N ps:List Str}{sp:Sp}(lk:K.lookup f=some ⟨oc,od,.func (PySem.W.fnOf name qual params body scope dV kV doc pm an aL ct),gf⟩)(gR:PySem.W.codeIn K aL qual=true)(S:bp N ps scope) (len:∀vs H Q E,sp vs H Q E->vs.length=ps.length) (iJ:∀(A:aj)(outer:List Env)(s:ae)(H:Hp)(vs:List V)(Q:VK)(E:XK),cJ k (A.deeper (envOfC qual scope s.heap.objs.size f aL))->sp vs H Q E->∃t,gX (j4 CX P w K mg base N qual scope f aL A outer s H E) body t/\t {nx:=fun _ H'=>Q .bo H',rt:=Q} (start N vs) H): j6 P w K mg base CX (k+1) f (PySem.W.fnOf name qual params body scope dV kV doc pm an aL ct) ps sp:=by
  refine⟨len,fun A outer s H args us vs Q E hr e0 hb r je=>?_⟩;have hl:=len _ _ _ _ je;have KX:K.In s.heap:=e0.mod.oQ.keeps fun b o e=>(e0.bs b o e).1;have lim:s.heap.NoLimit:=e0.mod.nolimit.keeps fun b o e=>(e0.bs b o e).1;have oX:∀y∈ps.zip us,scope.names.lookup y.1=some .local\/(scope.names.lookup y.1=some .cell/\((cellsFrom (s.heap.objs.size+1) scope.names []).lookup y.1).isSome=true):=fun⟨n,v⟩ hy=>by
   rcases S.par n (zI hy).1 with q|q
   ·exact .inl q
   ·exact .inr ⟨q,PySem.W.cellsFrom_some _ _ _ (.inl q)⟩
  refine codeAny_call_function hr.depth (KX _ _ lk) rfl S.co S.gen rfl (PySem.W.codeRec_of KX gR) (hb _ _ _ _ ?_);refine wpAny_newFunctionEnv_cells S.kind oX fun env he s1 x=>?_;subst he;refine⟨lim.keeps x.toInCall.keep,codeAny_func ?_⟩;obtain⟨t,ht,hq⟩:=iJ A outer s H vs Q E (hr.deeper _) je;have I:Inv (j4 CX P w K mg base N qual scope f aL A outer s H E) [] (start N vs) H s1:=Qk S hr.hd e0 hl r x;refine jH (ht [] s1 (start N vs) H _ I hq) (fun fl s' hs=>?_) fun e s' hs=>hs;have fin:∀{σ':St}{H':Hp}{v:V}{u:Value},Inv (j4 CX P w K mg base N qual scope f aL A outer s H E) [] σ' H' s'->RelV v u->Q v H'->CE outer P w H s Q u s':=fun{σ' H' v u} J rv q=>⟨v,H',J.os,J.bare,J.base,J.aX,rv,q⟩;cases fl with |ret u=>obtain⟨v,σ',H',J,rv,q⟩:=hs;exact fin J rv q |next=>obtain⟨σ',H',J,q⟩:=hs;exact fin (v:=V.bo) (u:=Value.none) J rfl q |brk=>obtain⟨_,_,_,q⟩:=hs;exact False.elim q |cont=>obtain⟨_,_,_,q⟩:=hs;exact False.elim q
section
variable {X:Cx}{x:Str}{p pos:Pos}{e:Expr}{es:List Expr}{t:TA}{id T:String}{r:List V->Hp->VK->Prop}
def A9(r:List V->Hp->VK->Prop)(t:TA):TE:=fun Z H Q=>t Z H fun vs H1=>r vs H1 Q
theorem dh(hc:fy X (.builtin id) r)(hg:Gl X x)(hm:X.mg x=none)(hv:bootBuiltins x=some (.builtin id))(ha:PA X (e::es) t)(hn:x≠"__name__":=by decide)(jh:(x==("__debug__":Str))=false:=by decide) (he:starEach (e::es) X.env=(false,eval e X.env)::starEach es X.env:=by rfl)(gj:(backTo pos (starEach es X.env)).any (·.1)=false:=by rfl):PE X (.Call (.Name x p) (e::es) [] pos) (A9 r t):=by intro au s Z H Q I h;refine zE (oP I hg hm hv ?_ hn jh);exact PyProof.Rows.callWith_builtin1 (aY (ha pos au s Z H _ I h) fun us s1 ⟨vs,H1,I1,r1,q1⟩=>hc au s1 Z H1 vs us Q I1 r1 q1) he gj
theorem ib(hc:fy X (.type T) r)(hg:Gl X x)(hm:X.mg x=none)(hv:bootBuiltins x=some (.type T))(ha:PA X (e::es) t)(hn:x≠"__name__":=by decide)(jh:(x==("__debug__":Str))=false:=by decide) (he:starEach (e::es) X.env=(false,eval e X.env)::starEach es X.env:=by rfl)(gj:(backTo pos (starEach es X.env)).any (·.1)=false:=by rfl):PE X (.Call (.Name x p) (e::es) [] pos) (A9 r t):=by intro au s Z H Q I h;refine zE (oP I hg hm hv ?_ hn jh);exact xg (aY (ha pos au s Z H _ I h) fun us s1 ⟨vs,H1,I1,r1,q1⟩=>hc au s1 Z H1 vs us Q I1 r1 q1) he gj
end
end L2
namespace HT
open PySem PyProof.Rows
section
open PySem.SeqAt
open PySem.AutoSeq1 (wpAny_loadPart')
open PySem.MeetsSeq PySem.MeetsSeq2 PySem.MeetsSeq3
end
section
variable {prog:ah}{w:World}{A:aj}{E:Value->ae->Prop}{s:ae}
def cw(n d:Nat):Option Int->Nat |none=>d |some v=>if v<0 then(v+(n:Int)).toNat else min v.toNat n
theorem Zc (n d:Nat):cw n d none=d:=rfl
theorem NM(n d k:Nat):cw n d (some (k:Int))=min k n:=by show(if(k:Int)<0 then((k:Int)+(n:Int)).toNat else min (k:Int).toNat n)=min k n;rw[bf (by lia),WJ]
theorem Zd(n d:Nat)(hd:d<=n)(o:Option Int):cw n d o<=n:=by cases o with |none=>exact hd |some v=>
   show(if v<0 then(v+(n:Int)).toNat else min v.toNat n)<=n;by_cases hv:v<0
   ·rw[bc hv];lia
   ·rw[bf hv];exact Nat.min_le_right _ _
theorem SX(v:Int)(n d:Nat):(if v<0 then max (v+(n:Int)) 0 else min v (n:Int))=((cw n d (some v):Nat):Int):=by
 show(if v<0 then max (v+(n:Int)) 0 else min v (n:Int))=(((if v<0 then(v+(n:Int)).toNat else min v.toNat n):Nat):Int);by_cases hv:v<0
 ·simp only[bc hv];lia
 ·simp only[bf hv];lia
theorem abl(lo hi:Option Int)(n:Nat):Builtin.Slice.sliceAdjust lo hi 1 (n:Int)=(((cw n 0 lo:Nat):Int),((cw n n hi:Nat):Int)):=by
 have h1:¬((1:Int)<0):=by lia
 unfold Builtin.Slice.sliceAdjust;simp only[h1,if_false];refine Prod.ext ?_ ?_
 ·cases lo with |none=>rfl |some v=>exact SX v n 0
 ·cases hi with |none=>rfl |some v=>exact SX v n n
theorem a0B(i j:Nat):Builtin.Slice.slicePlaces (i:Int) (j:Int) 1=j-i:=by
 unfold Builtin.Slice.slicePlaces;have h1:(1:Int)>0:=by lia
 simp only[h1,uF,Int.ediv_one];split<;>lia
theorem Mo{v:Value}{o:Option Int}{Q:Option Int->ae->Prop}(p:IsPart v o)(h:Q o s):wpAny (model prog w) A (Builtin.Slice.slicePartIndex v) Q E s:=by cases p with |none=>exact slicePart_none h |int i t=>exact slicePart_int h
theorem Yz{sl:Addr}{vl vu:Value}{lo hi:Option Int}{n:Nat}{Q:Int×Int×Nat->ae->Prop}(hs:s.heap.IsSliceOf sl vl vu .none)(pl:IsPart vl lo)(pu:IsPart vu hi) (h:Q (((cw n 0 lo:Nat):Int),1,cw n n hi-cw n 0 lo) s):wpAny (model prog w) A (Builtin.Slice.sliceApplied (.ref sl) (pure (n:Int))) Q E s:=by obtain⟨os,jz,BL,qJ⟩:=id hs;unfold Builtin.Slice.sliceApplied Builtin.Slice.sliceFields;refine aQ (aQ (jm jz qJ (x:=vl) rfl (aQ (jm jz qJ (x:=vu) rfl (aQ (jm jz qJ (x:=.none) rfl (cn ?_)))))));refine aQ (slicePart_none ?_);show wpAny _ _ (if((1:Int)==0)=true then _ else _) _ _ s;rw[bf (by decide)];refine aQ (Mo pl (aQ (Mo pu (aQ (cn ?_)))));show wpAny _ _ (match Builtin.Slice.sliceAdjust lo hi 1 (n:Int)with|(lo,hi)=>pure (lo,(1:Int),Builtin.Slice.slicePlaces lo hi 1)) _ _ s;rw[abl lo hi n];show wpAny _ _ (pure (((cw n 0 lo:Nat):Int),(1:Int),Builtin.Slice.slicePlaces ((cw n 0 lo:Nat):Int) ((cw n n hi:Nat):Int) 1)) _ _ s;rw[a0B];exact cn h
theorem a0G(xs:Array Value)(i k:Nat):((List.range k).filterMap fun(m:Nat)=>xs[((i:Int)+(m:Int)*1).toNat]?).toArray=((xs.toList.drop i).take k).toArray:=by
 have e:(fun(m:Nat)=>xs[((i:Int)+(m:Int)*1).toNat]?)=fun m=>xs[i+m]?:=by
  funext m;have:((i:Int)+(m:Int)*1).toNat=i+m:=by lia
  rw[this]
 rw[e];have:=pick_run xs i k;rw[List.filterMap_map]at this;have e2:((fun x=>xs[x]?)∘fun x=>i+x)=fun m=>xs[i+m]?:=rfl;rw[e2]at this;rw[this]
theorem a7U{t sl:Addr}{items:Array Value}{vl vu:Value}{lo hi:Option Int}{Q:Value->ae->Prop}(ht:IsTup s.heap t items)(hs:s.heap.IsSliceOf sl vl vu .none)(pl:IsPart vl lo)(pu:IsPart vu hi) (hw:¬(cw items.size 0 lo=0/\cw items.size items.size hi=items.size)) (h:Q (.ref s.heap.objs.size) {s with heap:=s.heap.push {cls:=.type "tuple",data:=.seq ((items.toList.drop (cw items.size 0 lo)).take (cw items.size items.size hi-cw items.size 0 lo)).toArray}}) (hsz:items.size<=sizeLine):wpAny (model prog w) A (getItem (.ref t) (.ref sl)) Q E s:=by
  have Bs:sizeOk (.seq ((items.toList.drop (cw items.size 0 lo)).take (cw items.size items.size hi-cw items.size 0 lo)).toArray):=by show((items.toList.drop (cw items.size 0 lo)).take (cw items.size items.size hi-cw items.size 0 lo)).toArray.size<=sizeLine;rw[ek,oh,Ko,zP];omega
  have hj:cw items.size items.size hi<=items.size:=Zd _ _ (bK _) hi;obtain⟨os,jz,BL,qJ⟩:=id hs;have BO:s.TypeIs (.ref sl) "slice":=⟨os,jz,BL⟩;unfold getItem
  try with_reducible refine uE ?_
  first|refine aQ (cn ?_)|skip
  refine aQ (wpAny_sequenceKey ht.typeIs (by decide) ?_);refine aQ (CQ (name:=Str.ofString "__getitem__") ht.typeIs Wy (CP Wy ht.typeIs entry_tuple_getitem ?_ (args_tuple_getitem _ _)));show wpAny _ _ (Builtin.Tuple.tupleItemsOf (.ref t)>>=_) _ _ s;refine aQ (tupleItemsOf_ ht ?_);refine aQ (wpAny_typeOf BO ?_);rw[bc (by decide)];refine aQ (Yz hs pl pu ?_);have lb:¬((((cw items.size 0 lo:Nat):Int)==0&&(1:Int)==1&&(cw items.size items.size hi-cw items.size 0 lo)==items.size)=true):=by intro q;rw[fh,fh]at q;have q1:((cw items.size 0 lo:Nat):Int)=0:=eq_of_beq q.1.1;have q2:cw items.size items.size hi-cw items.size 0 lo=items.size:=eq_of_beq q.2;exact hw ⟨by omega,by omega⟩
  show wpAny _ _ (if(((cw items.size 0 lo:Nat):Int)==0&&(1:Int)==1&&(cw items.size items.size hi-cw items.size 0 lo)==items.size)=true then _ else _) _ _ s;rw[bf lb,a0G]
  first |exact aQ (m:=Builtin.Tuple.tupleExact _) (pJ (cn ⟨_,rfl,cn h⟩) Bs) |exact aQ (m:=Builtin.Tuple.tupleExact _) (pJ (aQ (cn (cn ⟨_,rfl,cn h⟩))) Bs) |exact aQ (aQ (m:=Builtin.Tuple.tupleExact _) (pJ (cn (cn ⟨_,rfl,cn h⟩)) Bs)) |exact aQ (aQ (m:=Builtin.Tuple.tupleExact _) (pJ (cn ⟨_,rfl,cn h⟩) Bs))
end
end HT
namespace L2
open PySem PySem.Spec PyProof.Rows
abbrev TO:=St->Hp->(Option Int->Hp->Prop)->Prop
def PO(X:Cx)(e:Option Expr)(t:TO):Prop:=∀(au:List (Addr×Obj))(s:ae)(Z:St)(H:Hp)(Q:Option Int->Hp->Prop),Inv X au Z H s->t Z H Q->wpAny (model X.prog X.w) X.A (evalPart e X.env) (fun u s'=>∃o H',Inv X au Z H' s'/\IsPart u o/\Q o H') X.xe s
def XS:TO:=fun _ H Q=>Q none H
inductive Uj(Q:Option Int->Hp->Prop)(x:V)(H1:Hp):Prop |mk (i:_)(h0:x= .int i)(h1:Q (some i) H1):Uj Q x H1
def XM(t:TE):TO:=fun Z H Q=>t Z H fun x H1=>Uj Q x H1
section
variable {X:Cx}{e:Expr}{te:TE}{lo hi:Option Expr}{tl th:TO}{pos p2:Pos}
theorem Gn:PO X none XS:=by intro au s Z H Q I h;rw[evalPart_none];exact cn ⟨none,H,I,.none,h⟩
theorem Gm(h:PE X e te):PO X (some e) (XM te):=by intro au s Z H Q I hw;rw[evalPart_some];refine aY (h au s Z H _ I hw) fun u s1 ⟨x,H1,I1,r1,q1⟩=>?_;obtain⟨i,rfl,q⟩:=q1;obtain⟨t,rfl⟩:=r1;exact⟨some i,H1,I1,.int i t,q⟩
def CC(X:Cx)(r:V->Option Int->Option Int->Hp->VK->Prop):Prop:=∀(au:List (Addr×Obj))(s:ae)(Z:St)(H:Hp)(x:V)(v vl vu:Value)(lo hi:Option Int)(sl:Addr)(Q:VK),Inv X au Z H s->RelV x v->s.heap.IsSliceOf sl vl vu .none->IsPart vl lo->IsPart vu hi->r x lo hi H Q->∃T id,typeLookup (.type T) "__getitem__"=pure (some (.builtin id))/\s.TypeIs v T/\wpAny (model X.prog X.w) X.A (getItem v (.ref sl)) (EP X au Z Q) X.xe s
def XH(r:V->Option Int->Option Int->Hp->VK->Prop)(te:TE)(tl th:TO):TE:=fun Z H Q=>te Z H fun x H1=>tl Z H1 fun l H2=>th Z H2 fun u H3=>r x l u H3 Q
theorem Gr{r:V->Option Int->Option Int->Hp->VK->Prop}(hr:CC X r)(he:PE X e te)(hl:PO X lo tl)(hu:PO X hi th):PE X (.Subscript e (.Slice lo hi none p2) pos) (XH r te tl th):=by intro au s Z H Q I h;refine Subscript_ (aY (he au s Z H _ I h) fun v s1 ⟨x,H1,I1,r1,q1⟩=>?_);refine wpAny_Slice (aY (hl au s1 Z H1 _ I1 q1) fun vl s2 ⟨l,H2,I2,pl,q2⟩=>aY (hu au s2 Z H2 _ I2 q2) fun vu s3 ⟨u,H3,I3,pu,q3⟩=>?_);rw[evalPart_none];refine cn ?_;have I4:Inv X au Z H3 {s3 with heap:=s3.heap.push {cls:=.type "slice",data:=.fields #[vl,vu,.none]}}:=I3.kept (t':=s3.toks) fun b ob q=>cy _ q;obtain⟨T,id,hT,ht,hg⟩:=hr au {s3 with heap:=s3.heap.push {cls:=.type "slice",data:=.fields #[vl,vu,.none]}} Z H3 x v vl vu l u s3.heap.objs.size Q I4 r1 (Heap.IsSliceOf.new ..) pl pu q3;show wpAny (model X.prog X.w) X.A (subscriptTail e (.Slice lo hi none p2) v (.ref s3.heap.objs.size)) (EP X au Z Q) X.xe {s3 with heap:=s3.heap.push {cls:=.type "slice",data:=.fields #[vl,vu,.none]}};exact tail_any (ops:=[.ref s3.heap.objs.size,v]) ht hT hg (by with_unfolding_all rfl)
def my(xs:List V)(lo hi:Option Int):List V:=(xs.drop (HT.cw xs.length 0 lo)).take (HT.cw xs.length xs.length hi-HT.cw xs.length 0 lo)
theorem SG(xs:List V)(lo hi:Option Int):(my xs lo hi).length<=xs.length:=by
 unfold my;rw[oh,Ko]
 lia
inductive Vz(K:aa)(x:V)(lo:Option Int)(hi:Option Int)(H:Hp)(Q:VK):Prop |mk (a:_)(xs:_)(h0:x= .ref a)(h1:aP K H a xs)(h2:¬(HT.cw xs.length 0 lo=0/\HT.cw xs.length xs.length hi=xs.length))(h3:∀p,H p=none->Q (.ref p) (upd H p (.tup (my xs lo hi)))):Vz K x lo hi H Q
def a0a(K:aa):V->Option Int->Option Int->Hp->VK->Prop:=fun x lo hi H Q=>Vz K x lo hi H Q
theorem YA:CC X (a0a X.K):=by
 intro au s Z H x v vl vu lo hi sl Q I rx hs pl pu h;obtain⟨a,xs,rfl,hx,hw,q⟩:=h;cases rx;obtain⟨its,r,ht,hz⟩:=I.tuple hx;have hlen:its.toArray.size=xs.length:=by rw[ek];exact r.length.symm
 refine⟨"tuple",_,Wy.lookup,ht.typeIs,?_⟩;refine HT.a7U ht hs pl pu (by rw[hlen];exact hw) ?_ (by rw[hlen];exact hz);rw[hlen];refine⟨.ref s.heap.objs.size,_,I.laid (t':=s.toks) (o:=.tup (my xs lo hi)) (fun b ob q=>cy _ q) (bK _) ?_,rfl,q _ (I.aX.fresh (bK _))⟩;exact⟨iy (SG xs lo hi) hz,_,(r.drop (HT.cw xs.length 0 lo)).take (HT.cw xs.length xs.length hi-HT.cw xs.length 0 lo),IsTup.new _ _⟩
end
def jy(n:Nat)(i:Int):Option Nat:=if 0<=i then(if i<n then some i.toNat else none)else if-(n:Int)<=i then some (i+n).toNat else none
def fJ{α:Type}(xs:List α)(i:Int):Option α:=(jy xs.length i).bind fun j=>xs[j]?
theorem Qf{n:Nat}{i:Int}{j:Nat}(h:jy n i=some j):seqIndex? i n=some j/\j<n/\-(n:Int)<=i/\i<n:=by
 unfold jy at h;by_cases h0:0<=i
 · rw[bc h0]at h
   by_cases h1:i<n
   · rw[bc h1]at h
     have e:i.toNat=j:=dP h;exact⟨by rw[seqIndex_of h0 h1,e],by lia,by lia,h1⟩
   ·rw[bf h1]at h;cases h
 · rw[bf h0]at h
   by_cases h1:-(n:Int)<=i
   · rw[bc h1]at h
     have e:(i+n).toNat=j:=dP h;exact⟨by rw[seqIndex_neg (by lia) h1,e],by lia,h1,by lia⟩
   ·rw[bf h1]at h;cases h
theorem JG{α:Type}{xs:List α}{i:Int}{v:α}(h:fJ xs i=some v):∃j,seqIndex? i xs.length=some j/\xs[j]? =some v/\j<xs.length/\-(xs.length:Int)<=i/\i<xs.length:=by unfold fJ at h;cases e:jy xs.length i with |none=>rw[e]at h;cases h |some j=>rw[e]at h;obtain⟨h1,h2,h3,h4⟩:=Qf e;exact⟨j,h1,h,h2,h3,h4⟩
theorem abd{α:Type}{xs:List α}{j:Nat}{v:α}(h:xs[j]? =some v):fJ xs (j:Int)=some v:=by
 have hj:j<xs.length:=(dM.mp h).1;have e:jy xs.length (j:Int)=some j:=by unfold jy;rw[bc (by lia),bc (by lia)];simp
 unfold fJ;rw[e];exact h
def U9(b:Expr):Prop:=∀o i,subscripted b false o i=operate [o,i] (getItem o i)
def pH(X:Cx)(r:R2):Prop:=∀(value slice:Expr)(au:List (Addr×Obj))(s:ae)(Z:St)(H:Hp)(x y:V)(v u:Value)(Q:VK),Inv X au Z H s->RelV x v->RelV y u->r x y H Q->subscripted slice false v u=operate [v,u] (getItem v u)->wpAny (model X.prog X.w) X.A (subscriptTail value slice v u) (EP X au Z Q) X.xe s
def zt(X:Cx)(id:String)(r:V->List V->Hp->VK->Prop):Prop:=∀(au:List (Addr×Obj))(s:ae)(Z:St)(H:Hp)(x:V)(xs:List V)(v:Value)(us:List Value)(Q:VK),Inv X au Z H s->RelV x v->Vals xs us->r x xs H Q->wpAny (model X.prog X.w) X.A (call (.builtin id) (v::us)) (EP X au Z Q) X.xe s
section
variable {X:Cx}{a b:Expr}{ta tb:TE}{pos:Pos}
theorem pH.or{r r':R2}(h:pH X r)(h':pH X r'):pH X (fun x y H Q=>r x y H Q\/r' x y H Q):=by
 intro value slice au s Z H x y v u Q I rx ry q hs;rcases q with q|q
 ·exact h value slice au s Z H x y v u Q I rx ry q hs
 ·exact h' value slice au s Z H x y v u Q I rx ry q hs
theorem OB{r:R2}(hr:pH X r)(ha:PE X a ta)(hb:PE X b tb)(hs:U9 b):PE X (.Subscript a b pos) (xA r ta tb):=by intro au s Z H Q I h;exact Subscript_ (Jz ha hb I h fun v u s2 x y H2 I2 rx ry q=>hr a b au s2 Z H2 x y v u Q I2 rx ry q (hs _ _))
inductive VI(K:aa)(x:V)(y:V)(H:Hp)(Q:VK):Prop |mk (p:_)(xs:_)(i:_)(v:_)(h0:x= .ref p)(h1:y= .int i)(h2:aF K H p xs)(h3:fJ xs i=some v)(h4:Q v H):VI K x y H Q
def Gd(K:aa):R2:=fun x y H Q=>VI K x y H Q
inductive VG(K:aa)(x:V)(y:V)(H:Hp)(Q:VK):Prop |mk (p:_)(xs:_)(i:_)(v:_)(h0:x= .ref p)(h1:y= .int i)(h2:aP K H p xs)(h3:fJ xs i=some v)(h4:Q v H):VG K x y H Q
def Gb(K:aa):R2:=fun x y H Q=>VG K x y H Q
inductive VH(x:V)(y:V)(H:Hp)(Q:VK):Prop |mk (z:_)(i:_)(c:_)(h0:x= .str z)(h1:y= .int i)(h2:z.length<=sizeLine)(h3:fJ z.cps.toList i=some c)(h4:Q (.str ⟨#[c]⟩) H):VH x y H Q
def a0f:R2:=fun x y H Q=>VH x y H Q
theorem a4T:pH X (Gd X.K):=by
 intro value slice au s Z H x y v u Q I rx ry h hs;obtain⟨p,xs,i,z,rfl,rfl,hq,he,q⟩:=h;cases rx;obtain⟨t,rfl⟩:=ry;obtain⟨its,r,pl,hz⟩:=I.list hq;obtain⟨j,h1,h2,h3,h4,h5⟩:=JG he;obtain⟨w,ew,j9⟩:=r.get h2;have hl:=r.length;have hn:=tG;have fin:EP X au Z Q w s:=⟨z,H,I,j9,q⟩;by_cases h0:0<=i
 · have hj:i.toNat=j:=by rw[seqIndex_of h0 h5]at h1;exact dP h1
   exact item_listR pl.isList h0 (by lia) (by rw[hj];simpa using ew) fin hs
 · have hj:(i+(its.toArray.size:Int)).toNat=j:=by rw[seqIndex_neg (by lia) h4]at h1;rw[ek,<-hl];exact dP h1
   exact subscriptTail_builtinR (x:=w) pl.isList.typeIs slot_list_getitem.lookup (wpAny_getItem_list_neg (Q:=fun r s'=>r=w/\EP X au Z Q r s') pl.isList (by lia) (by rw[ek]<;>lia) (by lia) (by rw[hj];simpa using ew) ⟨rfl,fin⟩) hs
theorem a4R:pH X (Gb X.K):=by intro value slice au s Z H x y v u Q I rx ry h hs;obtain⟨p,xs,i,z,rfl,rfl,hq,he,q⟩:=h;cases rx;obtain⟨t,rfl⟩:=ry;obtain⟨its,r,pl,hz⟩:=I.tuple hq;obtain⟨j,h1,h2,h3,h4,h5⟩:=JG he;obtain⟨w,ew,j9⟩:=r.get h2;have hl:=r.length;have hn:=tG;have fin:EP X au Z Q w s:=⟨z,H,I,j9,q⟩;exact subscriptTail_builtinR (x:=w) pl.typeIs slot_tuple_getitem.lookup (getItem_tuple (j:=j) (Q:=fun r s'=>r=w/\EP X au Z Q r s') pl (by lia) (by lia) (by rw[ek,<-hl];exact h1) (by simpa using ew) ⟨rfl,fin⟩) hs
theorem a4S:pH X a0f:=by
 intro value slice au s Z H x y v u Q I rx ry h hs;obtain⟨z,i,c,rfl,rfl,hz,he,q⟩:=h;obtain⟨t,rfl⟩:=rx;obtain⟨t',rfl⟩:=ry;obtain⟨j,h1,h2,h3,h4,h5⟩:=JG he;have hl:z.cps.toList.length=z.length:=by simp[Str.length]
 rw[hl]at h1 h4 h5;have hn:=tG;exact tail_any (typeIs_str s z t) slot_str_getitem.lookup (getItem_str (c:=c) (by have e1:decide (i< -(2^63:Int))=false:=fe (by lia);have e2:decide (i>=2^63)=false:=fe (by lia);rw[e1,e2,Bool.or_false]) (by rw[h1];simpa using h2) ⟨.str ⟨#[c]⟩,H,I.tok _,⟨_,rfl⟩,q⟩) hs
theorem a3K(its:List Value)(n j:Nat)(u:Value):Obj.mapSeq (·.setIfInBounds j u) {cls:=.type "list",data:=.seq its.toArray n}={cls:=.type "list",data:=.seq (its.set j u).toArray n}:=by simp[Obj.mapSeq]
theorem Inv.lst{au:List (Addr×Obj)}{Z:St}{H:Hp}{s:ae}{p:Addr}{xs:List V}(I:Inv X au Z H s)(h:H p=some (.lst xs)): ∃(its:List Value)(n:Nat),Vals xs its/\s.heap.get? p=some {cls:=.type "list",data:=.seq its.toArray n}/\xs.length<=sizeLine:=by obtain⟨z,its,n,r,e⟩:=I.aX p _ h;exact⟨its,n,r,e,z⟩
theorem Inv.a4b{au:List (Addr×Obj)}{Z:St}{H:Hp}{s:ae}{p:Addr}{xs ys:List V}{its its':List Value}{n n':Nat}{f:Obj->Obj}(I:Inv X au Z H s)(h:H p=some (.lst xs)) (ho:s.heap.get? p=some {cls:=.type "list",data:=.seq its.toArray n})(hf:f {cls:=.type "list",data:=.seq its.toArray n}={cls:=.type "list",data:=.seq its'.toArray n'})(r:Vals ys its')(hz:ys.length<=sizeLine)(t:Nat): Inv X au Z (upd H p (.lst ys)) {s with heap:=s.heap.update p f,toks:=t}:=by
  have e:(s.heap.update p f).get? p=some {cls:=.type "list",data:=.seq its'.toArray n'}:=by rw[Kv f ho (by rw[hf]<;>rfl),hf]
  refine I.write (x:=p) (e:=p) (by rw[h];trivial) (.inl rfl) (fun b u hb q=>(zO _ _ (fg hb)).trans q) ⟨_,e⟩ ?_;exact⟨hz,its',n',r,e⟩
inductive VC(o:V)(i:V)(v:V)(H:Hp)(Q:Hp->Prop):Prop |mk (p:_)(xs:_)(k:_)(j:_)(h0:o= .ref p)(h1:i= .int k)(h2:H p=some (.lst xs))(h3:jy xs.length k=some j)(h4:Q (upd H p (.lst (xs.set j v)))):VC o i v H Q
def a0d:V->V->V->Hp->(Hp->Prop)->Prop:=fun o i v H Q=>VC o i v H Q
theorem set_list:Ua X a0d:=by
 intro au s Z H o i v ov iv u Q I ro ri rv h;obtain⟨p,xs,k,j,rfl,rfl,hp,hj,q⟩:=h;cases ro;obtain⟨t,rfl⟩:=ri;obtain⟨its,n,r,ho,hz⟩:=I.lst hp;obtain⟨h1,h2,h3,h4⟩:=Qf hj;have hl:=r.length;have hn:=tG;have I':Inv X au Z (upd H p (.lst (xs.set j v))) {s with heap:=s.heap.update p (Obj.mapSeq (·.setIfInBounds j u))}:=I.a4b hp ho (a3K its n j u) (r.set rv j) (by rw[uJ];exact hz) s.toks;by_cases h0:0<=k
 · have hk:k.toNat=j:=by rw[seqIndex_of h0 h4]at h1;exact dP h1
   exact PySem.W.ki_setAt ho h0 (by lia) (by rw[ek,<-hl];exact h4) (by rw[hk];exact⟨_,I',q⟩)
 · have hk:(k+(its.toArray.size:Int)).toNat=j:=by rw[seqIndex_neg (by lia) h3]at h1;rw[ek,<-hl];exact dP h1
   exact PySem.W.ki_setBack ho (by lia) (by rw[ek,<-hl];exact h3) (by lia) (by rw[hk];exact⟨_,I',q⟩)
theorem Yx(lo hi:Option Int)(n:Nat):(sliceBounds lo hi none n).1=((HT.cw n 0 lo:Nat):Int)/\(sliceBounds lo hi none n).2.1=((HT.cw n n hi:Nat):Int)/\(sliceBounds lo hi none n).2.2=1:=by
 refine⟨?_,?_,rfl⟩
 ·cases lo with |none=>simp[sliceBounds,HT.cw] |some i=>
     simp only[sliceBounds,HT.cw,Option.getD_none,show(1:Int)>0 by decide,uF];by_cases h:i<0
     ·simp only[h,uF]<;>lia
     ·simp only[h,if_false]<;>lia
 ·cases hi with |none=>simp[sliceBounds,HT.cw] |some i=>
     simp only[sliceBounds,HT.cw,Option.getD_none,show(1:Int)>0 by decide,uF];by_cases h:i<0
     ·simp only[h,uF]<;>lia
     ·simp only[h,if_false]<;>lia
theorem Yy(its:List Value)(lo hi:Option Int):slicePick its.toArray lo hi none=((its.drop (HT.cw its.length 0 lo)).take (HT.cw its.length its.length hi-HT.cw its.length 0 lo)).toArray:=by obtain⟨h1,h2,h3⟩:=Yx lo hi its.toArray.size;unfold slicePick;rw[h1,h2,h3];simp only[sliceRange_one,pick_run,ek]<;>rfl
inductive VA(K:aa)(x:V)(lo:Option Int)(hi:Option Int)(H:Hp)(Q:VK):Prop |mk (a:_)(xs:_)(h0:x= .ref a)(h1:aF K H a xs)(h2:∀p,H p=none->Q (.ref p) (upd H p (.lst (my xs lo hi)))):VA K x lo hi H Q
def a0b(K:aa):V->Option Int->Option Int->Hp->VK->Prop:=fun x lo hi H Q=>VA K x lo hi H Q
theorem YB:CC X (a0b X.K):=by intro au s Z H x v vl vu lo hi sl Q I rx hs pl pu h;obtain⟨a,xs,rfl,hx,q⟩:=h;cases rx;obtain⟨its,r,ht,hz⟩:=I.list hx;have hlen:=r.length;refine⟨"list",_,slot_list_getitem.lookup,ht.isList.typeIs,?_⟩;refine wpAny_getItem_list_slice ht.isList hs pl pu .none (by simp) ?_ (by rw[ek]<;>lia);rw[Yy,<-hlen];refine⟨.ref s.heap.objs.size,_,I.laid (t':=s.toks) (o:=.lst (my xs lo hi)) (fun b ob q=>cy _ q) (bK _) ?_,rfl,q _ (I.aX.fresh (bK _))⟩;exact⟨iy (SG xs lo hi) hz,_,0,(r.drop (HT.cw xs.length 0 lo)).take (HT.cw xs.length xs.length hi-HT.cw xs.length 0 lo),eO _ rfl⟩
theorem aaL:fy X (.builtin "len") (fun xs H Q=>∃p ys,xs=[.ref p]/\(aF X.K H p ys\/aP X.K H p ys)/\Q (.int ys.length) H):=by
 intro au s Z H xs us Q I r h;obtain⟨p,ys,rfl,hq,q⟩:=h;obtain⟨u,rfl,rx⟩:=vals1 r;cases rx;have hn:=tG;rcases hq with hq|hq
 · obtain⟨its,r',pl,hz⟩:=I.list hq
   have hlen:=r'.length;exact Calls.call_len_list pl.isList (by simp only[ek]<;>lia) ⟨.int ys.length,H,I.tok _,⟨s.toks+1,by rw[ek,hlen]⟩,q⟩
 · obtain⟨its,r',pl,hz⟩:=I.tuple hq
   have hlen:=r'.length;exact len_tuple pl (by simp only[ek]<;>lia) ⟨.int ys.length,H,I.tok _,⟨s.toks+1,by rw[ek,hlen]⟩,q⟩
theorem aaK:fy X (.builtin "len") (fun xs H Q=>∃z,xs=[.str z]/\z.length<=sizeLine/\Q (.int z.length) H):=by intro au s Z H xs us Q I r h;obtain⟨z,rfl,hz,q⟩:=h;obtain⟨u,rfl,t,rfl⟩:=vals1 r;have hn:=tG;exact len_str (by lia) ⟨.int z.length,H,I.tok _,⟨_,rfl⟩,q⟩
theorem fy.or{f:Value}{r r':List V->Hp->VK->Prop}(h:fy X f r)(h':fy X f r'):fy X f (fun xs H Q=>r xs H Q\/r' xs H Q):=by
 intro au s Z H xs us Q I rs q;rcases q with q|q
 ·exact h au s Z H xs us Q I rs q
 ·exact h' au s Z H xs us Q I rs q
theorem aaJ:fy X (.type "list") (fun xs H Q=>∃p ys,xs=[.ref p]/\(aF X.K H p ys\/aP X.K H p ys)/\∀l,H l=none->Q (.ref l) (upd H l (.lst ys))):=by
 intro au s Z H xs us Q I r h;obtain⟨p,ys,rfl,hq,q⟩:=h;obtain⟨u,rfl,rx⟩:=vals1 r;cases rx;have fin:∀(its:List Value),Vals ys its->ys.length<=sizeLine->∀(h':Heap)(c':Nat),(∀b o',s.heap.get? b=some o'->h'.get? b=some o')->h'.get? s.heap.objs.size=some {cls:=.type "list",dict:=none,data:=.seq its.toArray c',slots:=#[]}->EP X au Z Q (.ref s.heap.objs.size) {s with heap:=h'}:=fun its r' hz h' c' kp e=>⟨.ref s.heap.objs.size,_,I.laid (t':=s.toks) kp (bK _) (show fK X.prog X.w _ h' _ (.lst ys)from⟨hz,its,c',r',e⟩),rfl,q _ (I.aX.fresh (bK _))⟩;rcases hq with hq|hq
 · obtain⟨its,r',pl,hz⟩:=I.list hq
   have hlen:=r'.length;obtain⟨o,ho,hc,n,hd⟩:=pl.isList;exact call_list_seq p (.inl rfl) ho hc hd (fun h' c' kp e=>fin its r' hz h' c' kp e) (by simp only[ek]<;>lia)
 · obtain⟨its,r',pl,hz⟩:=I.tuple hq
   have hlen:=r'.length;obtain⟨o,ho,hc,n,hd⟩:=pl;exact call_list_seq p (.inr rfl) ho hc hd (fun h' c' kp e=>fin its r' hz h' c' kp e) (by simp only[ek]<;>lia)
theorem aaE:fy X (.type "tuple") (fun xs H Q=>∃p ys,xs=[.ref p]/\((aF X.K H p ys/\∀l,H l=none->Q (.ref l) (upd H l (.tup ys)))\/(aP X.K H p ys/\Q (.ref p) H))):=by
 intro au s Z H xs us Q I r h;obtain⟨p,ys,rfl,h⟩:=h;obtain⟨u,rfl,rx⟩:=vals1 r;cases rx;rcases h with⟨hq,q⟩|⟨hq,q⟩
 · obtain⟨its,r',pl,hz⟩:=I.list hq
   have hlen:=r'.length;refine call_tuple_list pl.isList (fun h' kp=>?_) (by simp only[ek]<;>lia);have I1:Inv X au Z H {s with heap:=h'}:=I.kept (t':=s.toks) kp;have I2:Inv X au Z (upd H h'.objs.size (.tup ys)) {s with heap:=h'.push {cls:=.type "tuple",data:=.seq its.toArray}}:=I1.laid (t':=s.toks) (fun b o e=>cy _ e) (bK _) (show fK X.prog X.w _ _ _ (.tup ys)from⟨hz,its,r',IsTup.new _ _⟩);exact⟨.ref h'.objs.size,_,I2,rfl,q _ (I1.aX.fresh (bK _))⟩
 · obtain⟨its,r',pl,hz⟩:=I.tuple hq
   exact call_tuple_same pl ⟨.ref p,H,I,rfl,q⟩
def Dt(K:aa)(T:String)(x:V)(H:Hp):Prop:=match x with | .str _=>T="str" | .int _=>T="int" | .ref p=>(T="list"/\∃xs,aF K H p xs)\/(T="tuple"/\∃o,K.lookup p=some o/\o.cls= .type "tuple"/\o.dict=none)\/ (T="dict"/\((∃aM,H p=some (.dK aM))\/∃aM,H p=some (.dT aM)))\/(T="set"/\∃S n,H p=some (.set S n)) |_=>False
theorem KW{au:List (Addr×Obj)}{Z:St}{H:Hp}{s:ae}{T:String}{x:V}{v:Value}(I:Inv X au Z H s)(r:RelV x v)(ty:Dt X.K T x H): s.TypeIs v T/\∀a,v= .ref a->∃ob,s.heap.get? a=some ob/\ob.dict=none:=by cases x with
  |str z=>obtain⟨t,rfl⟩:=r;cases(show T="str" from ty);exact⟨typeIs_str s z t,fun _ e=>nomatch e⟩ |int i=>obtain⟨t,rfl⟩:=r;cases(show T="int" from ty);exact⟨typeIs_int s i t,fun _ e=>nomatch e⟩ |ref p=>
    cases r;rcases ty with⟨rfl,xs,hq⟩|⟨rfl,o,hk,hc,hd⟩|⟨rfl,hk⟩|⟨rfl,S,n,hk⟩
    · obtain⟨its,_,pl,_⟩:=I.list hq
      refine⟨pl.isList.typeIs,fun a e=>?_⟩;cases e;obtain⟨o,n,e,c,hd,_⟩:=pl;exact⟨o,e,hd⟩
    · refine⟨⟨o,I.gD p o hk,hc⟩,fun a e=>?_⟩
      cases e;exact⟨o,I.gD _ o hk,hd⟩
    · have z:∃o,s.heap.get? p=some o/\o.ExactDict:=by
        rcases hk with⟨aM,hk⟩|⟨aM,hk⟩
        · obtain⟨_,_,_,_,o,_,_,e,ex,_⟩:=I.aX p _ hk
          exact⟨o,e,ex⟩
        · obtain⟨_,_,_,_,o,_,_,e,ex,_⟩:=I.aX p _ hk
          exact⟨o,e,ex⟩
      obtain⟨o,e,ex⟩:=z;refine⟨⟨o,e,ex.1⟩,fun a e2=>?_⟩;cases e2;exact⟨o,e,ex.2.1⟩
    · obtain⟨o,_,_,_,e,ex,_⟩:=I.aX p _ hk
      refine⟨⟨o,e,ex.1⟩,fun a e2=>?_⟩;cases e2;exact⟨o,e,ex.2.1⟩ |_=>exact False.elim ty
def Ls(K:aa)(T:String)(r:V->List V->Hp->VK->Prop)(to:TE):TE:=fun Z H Q=>to Z H fun x H1=>Dt K T x H1/\r x [] H1 Q
def rY(K:aa)(T:String)(r:V->List V->Hp->VK->Prop)(to:TE)(t:TA):TE:=fun Z H Q=>to Z H fun x H1=>Dt K T x H1/\t Z H1 fun xs H2=>r x xs H2 Q
variable {o e:Expr}{es:List Expr}{to:TE}{t:TA}{name:Str}{apos cC:Pos}{T id:String}{r:V->List V->Hp->VK->Prop}
theorem a0Z(pa:PlainAttrs T)(slot:Slot T name id)(yD:typeOf (.builtin id)=pure (.type "method_descriptor"))(hm:zt X id r)(ho:PE X o to) (ji:attributeBase o name X.env (eval o X.env)=eval o X.env:=by rfl)(jg:(apos.endLine==cC.line)=true:=by rfl):PE X (.Call (.Attribute o name apos) [] [] cC) (Ls X.K T r to):=by intro au s Z H Q I h;refine wpAny_Call_method0_late ji jg (aY (ho au s Z H _ I h) fun v s1 ⟨x,H1,I1,r1,ty,q1⟩=>?_);obtain⟨h1,h2⟩:=KW I1 r1 ty;exact⟨T,id,pa,slot,yD,h1,h2,Calls.callWith_builtin rfl (PySem.evalArgs_none (hm au s1 Z H1 x [] v [] Q I1 r1 .nil q1))⟩
theorem vm(pa:PlainAttrs T)(slot:Slot T name id)(yD:typeOf (.builtin id)=pure (.type "method_descriptor"))(hm:zt X id r)(ho:PE X o to)(ha:PA X (e::es) t) (ji:attributeBase o name X.env (eval o X.env)=eval o X.env:=by rfl) (lg:((backTo cC (starEach (e::es) X.env)).all (fun x=>!x.1)&&(backToKw cC (keywordEach [] X.env)).all (fun x=>x.1.isSome) &&decide ((e::es).length+([]:List Keyword).length+(if([]:List Keyword).isEmpty then 0 else 1)<30))=true:=by rfl) (jg:(apos.endLine==cC.line)=true:=by rfl)(hs:starEach (e::es) X.env=(false,eval e X.env)::starEach es X.env:=by rfl)(kZ:(backTo cC (starEach es X.env)).any (·.1)=false:=by rfl): PE X (.Call (.Attribute o name apos) (e::es) [] cC) (rY X.K T r to t):=by intro au s Z H Q I h;refine wpAny_Call_method_late ji lg jg rfl (aY (ho au s Z H _ I h) fun v s1 ⟨x,H1,I1,r1,ty,q1⟩=>?_);obtain⟨h1,h2⟩:=KW I1 r1 ty;refine⟨T,id,pa,slot,yD,h1,h2,?_⟩;have hA:=ha cC au s1 Z H1 _ I1 q1;rw[hs]at hA⊢;refine Calls.callWith_builtin (by show(false||(backTo cC (starEach es X.env)).any (·.1))=false;rw[kZ]<;>rfl) (Calls.evalArgs_plain ?_);exact aY hA fun us s2 ⟨vs,H2,I2,r2,q2⟩=>hm au s2 Z H2 x vs v us Q I2 r1 r2 q2
end
def CI(X:Cx)(id:String)(r:V->List V->Hp->VK->Prop):Prop:=∀(au:List (Addr×Obj))(s:ae)(Z:St)(H:Hp)(x:V)(xs:List V)(v:Value)(us:List Value)(Q:VK),Inv X au Z H s->RelV x v->Vals xs us->r x xs H Q->wpAny (model X.prog X.w) X.A (call (.builtin id) (v::us)) (EP X au Z Q) X.xe s
theorem Vals.one:∀{x:V}{us:List Value},Vals [x] us->∃u,us=[u]/\RelV x u |_,_,.cons r .nil=>⟨_,rfl,r⟩
theorem Vals.zero:∀{us:List Value},Vals [] us->us=[] |_,.nil=>rfl
theorem Vals.eraseIdx:∀{xs:List V}{us:List Value}(i:Nat),Vals xs us->Vals (xs.eraseIdx i) (us.eraseIdx i) |_,_,_,.nil=>.nil |_,_,0,.cons _ t=>t |_,_,i+1,.cons r t=>.cons r (Vals.eraseIdx i t)
theorem Q3{α:Type}:∀(l:List α)(i:Nat),(l.eraseIdx i).length<=l.length |[],_=>bK _ |_::_,0=>Nat.le_succ _ |_::r,i+1=>Nat.succ_le_succ (Q3 r i)
section
variable {X:Cx}{au:List (Addr×Obj)}{Z:St}{H:Hp}{s:ae}{l b:Addr}{xs ys zs:List V}
theorem Inv.B9{its its':List Value}{n:Nat}{f:Array Value->Array Value}{t':Nat}(I:Inv X au Z H s)(hH:H l=some (.lst xs)) (e:s.heap.get? l=some {cls:=.type "list",data:=.seq its.toArray n})(hf:f its.toArray=its'.toArray)(hv:Vals ys its')(hz:ys.length<=sizeLine): Inv X au Z (upd H l (.lst ys)) {s with heap:=s.heap.update l (Obj.mapSeq f),toks:=t'}:=by have q:=PySem.IsL.update e f;rw[hf]at q;refine I.write (x:=l) (e:=l) (by rw[hH];exact trivial) (.inl rfl) (fun b' u hb hu=>(zO s.heap (Obj.mapSeq f) (fg hb)).trans hu) ⟨_,q⟩ ?_;exact⟨hz,its',_,hv,q⟩
theorem Inv.PV{its:List Value}{t':Nat}(I:Inv X au Z H s)(hv:Vals ys its)(hz:ys.length<=sizeLine): Inv X au Z (upd H s.heap.objs.size (.lst ys)) {s with heap:=s.heap.push {cls:=.type "list",data:=.seq its.toArray},toks:=t'}:=I.laid (fun _ _ q=>cy _ q) (bK _) ⟨hz,its,0,hv,eO _ rfl⟩
theorem Inv.yp(I:Inv X au Z H s)(hH:H l=some (.lst xs)):xs.length<=sizeLine/\∃(its:List Value)(n:Nat),Vals xs its/\xs.length=its.length/\s.heap.get? l=some {cls:=.type "list",data:=.seq its.toArray n}:=by obtain⟨z,its,n,r,e⟩:=I.aX l _ hH;exact⟨z,its,n,r,r.length,e⟩
theorem a3d{n:Nat}(h:n<=sizeLine):Builtin.List.listTooLong n=false:=by unfold Builtin.List.listTooLong;exact fe (by lia)
end
section
variable {X:Cx}
inductive VW(x:V)(vs:List V)(H:Hp)(Q:VK):Prop |mk (l:_)(xs:_)(y:_)(h0:x= .ref l)(h1:vs=[y])(h2:H l=some (.lst xs))(h3:xs.length<sizeLine)(h4:Q .bo (upd H l (.lst (xs++[y])))):VW x vs H Q
def Ol:V->List V->Hp->VK->Prop:=fun x vs H Q=>VW x vs H Q
theorem GU:CI X "list.append" Ol:=by
 intro au s Z H x vs v us Q I rx rv h;obtain⟨l,xs,y,rfl,rfl,hH,hz,q⟩:=h;cases rx;obtain⟨u,rfl,ru⟩:=rv.one;obtain⟨z,its,n,r,hl,e⟩:=I.yp hH;refine wZ F.slot_list_append ⟨_,e,rfl⟩ F.entry_list_append (F.args_list_append_2 _ _) (PySem.list_append l its.toArray n u (by rw[ek];lia)) ⟨e,?_⟩;refine⟨.bo,_,I.B9 (its':=its++[u]) hH e (by simp) (r.append (.cons ru .nil)) ?_,rfl,q⟩;rw[fD,List.length_singleton]
 lia
inductive VR(x:V)(vs:List V)(H:Hp)(Q:VK):Prop |mk (l:_)(b:_)(xs:_)(zs:_)(h0:x= .ref l)(h1:vs=[.ref b])(h2:H l=some (.lst xs))(h3:H b=some (.lst zs))(h4:xs.length+zs.length<=sizeLine)(h5:Q .bo (upd H l (.lst (xs++zs)))):VR x vs H Q
def Oi:V->List V->Hp->VK->Prop:=fun x vs H Q=>VR x vs H Q
theorem a3y:CI X "list.extend" Oi:=by
 intro au s Z H x vs v us Q I rx rv h;obtain⟨l,b,xs,zs,rfl,rfl,hH,hB,hz,q⟩:=h;cases rx;obtain⟨u,rfl,ru⟩:=rv.one;cases ru;obtain⟨z,its,n,r,hl,e⟩:=I.yp hH;obtain⟨z2,me,n2,r2,qD,e2⟩:=I.yp hB;have hsz:its.toArray.size+me.toArray.size<=sizeLine:=by rw[ek,ek];lia
 have a65:¬(!its.toArray.isEmpty&&Builtin.List.listTooLong (its.toArray.size+me.toArray.size))=true:=by rw[a3d hsz,Bool.and_false];exact kr
 refine wZ F.slot_list_extend ⟨_,e,rfl⟩ F.entry_list_extend (F.args_list_extend_2 _ _) (AutoSeq1.list_extend_list_list_0 l its.toArray n b me.toArray n2 a65 (by rw[ek];lia) (by lia)) ⟨e,e2,?_⟩;refine⟨.bo,_,I.B9 (its':=its++me) hH e (by simp) (r.append r2) ?_,rfl,q⟩;rw[fD]
 lia
inductive VD(x:V)(vs:List V)(H:Hp)(Q:VK):Prop |mk (l:_)(xs:_)(i:_)(k:_)(y:_)(h0:x= .ref l)(h1:vs=[.int i])(h2:H l=some (.lst xs))(h3:-(2^63)<=i)(h4:i<2^63)(h5:seqIndex? i xs.length=some k)(h6:xs[k]? =some y)(h7:Q y (upd H l (.lst (xs.eraseIdx k)))):VD x vs H Q
def Oh:V->List V->Hp->VK->Prop:=fun x vs H Q=>VD x vs H Q
theorem a3x:CI X "list.pop" Oh:=by
 intro au s Z H x vs v us Q I rx rv h;obtain⟨l,xs,i,k,y,rfl,rfl,hH,h1,h2,hk,hy,q⟩:=h;cases rx;obtain⟨u,rfl,ru⟩:=rv.one;obtain⟨t,rfl⟩:=ru;obtain⟨z,its,n,r,hl,e⟩:=I.yp hH;obtain⟨w,hw,j9⟩:=r.get hy;refine wZ F.slot_list_pop ⟨_,e,rfl⟩ F.entry_list_pop (F.args_list_pop_2 _ _) (MeetsSeq.list_pop_at l its.toArray n i t k w (fitsIndex_both h1 h2) (by rw[ek,<-hl];exact hk) (by rw[<-Array.getElem?_toList];exact hw) (by rw[ek];lia)) ⟨e,?_⟩;refine⟨y,_,I.B9 (its':=its.eraseIdx k) hH e ?_ (r.eraseIdx k) ?_,j9,q⟩
 · show its.toArray.eraseIdxIfInBounds k=(its.eraseIdx k).toArray
   rw[List.eraseIdxIfInBounds_toArray]
 · have:=Q3 xs k
   lia
inductive VT(x:V)(vs:List V)(H:Hp)(Q:VK):Prop |mk (l:_)(xs:_)(h0:x= .ref l)(h1:vs=[])(h2:H l=some (.lst xs))(h3:Q .bo (upd H l (.lst []))):VT x vs H Q
def Oj:V->List V->Hp->VK->Prop:=fun x vs H Q=>VT x vs H Q
theorem a3z:CI X "list.clear" Oj:=by intro au s Z H x vs v us Q I rx rv h;obtain⟨l,xs,rfl,rfl,hH,q⟩:=h;cases rx;have hus:=rv.zero;subst hus;obtain⟨z,its,n,r,hl,e⟩:=I.yp hH;refine wZ F.slot_list_clear ⟨_,e,rfl⟩ F.entry_list_clear (F.args_list_clear_1 _) (AutoSeq1.list_clear_list_0 l its.toArray n (by rw[ek];lia)) ⟨e,?_⟩;exact⟨.bo,_,I.B9 (its':=[]) (ys:=[]) hH e rfl .nil (fZ _),rfl,q⟩
end
section
variable {prog:ah}{w:World}{A:aj}{E:Value->ae->Prop}{s:ae}
end
section
variable {X:Cx}
end
end L2
namespace Att
open PySem PySem.W PySem.Calls PyProof.Rows
theorem a57{P:Params}{h:Heap}:∀(ns:List Int)(vs:List Value),WellAll P h vs (ns.map WData.int)->IntsAre vs ns:=by intro ns;induction ns with |nil=>intro vs w;rw[List.map_nil]at w;cases w;exact .nil |cons n ns ih=>intro vs w;rw[oa]at w;cases w with |cons a b=>cases a;exact .cons _ _ (ih _ b)
theorem YS{l:OpenLaw}{n:Nat}(hn:l.most=some n){P:Params}{h:Heap}{args:List WData}{vals:List Value} (Bw:l.row.toRowW.claim.pre args=true)(Hy:WellAll P h vals args): ∃a vs ns,vals=[Value.ref a]/\args=[WData.list (ns.map WData.int)]/\h.get? a=some {cls:=.type "list",data:=.seq vs.toArray}/\IntsAre vs ns/\ns.length<=n:=by
  have hsh:WShape.hasAll [] args [.list .int]=true:=(pre_splitW Bw).1;have hc:l.pre.holds [] {args:=args}=true:=(pre_splitW Bw).2;obtain⟨d,r,rfl,h1,h2⟩:=hasAllW_cons hsh;obtain rfl:=hasAllW_nil h2;obtain⟨xs,rfl,h3⟩:=hasW_list h1;obtain⟨ns,rfl⟩:=items_int h3;have hlen:ns.length<=n:=by
   unfold OpenLaw.pre at hc;have h4:(WTm.not (.lt (.lit (.int (n:Int))) (.len (.arg 0)))).holds [] {args:=[.list (ns.map .int)]}=true:=by have h4:=(holds_andW hc).1;rw[hn]at h4;exact h4
   have h5:=condW_of h4 (w_not (w_lt w_lit (w_len_list (w_arg rfl))));rw[cu]at h5;refine Nat.le_of_not_lt fun q=>?_;have q':(n:Int)<((ns.length:Nat):Int):=by omega
   first |(rw[cH q']at h5;exact absurd h5 (by decide)) |(simp at h5;omega)
  cases Hy with |cons w1 w2=>cases w2;cases w1 with |list ho Iq=>exact⟨_,_,ns,rfl,rfl,ho,a57 ns _ Iq,hlen⟩
theorem a0z(l:OpenLaw)(args:List WData):l.row.toRowW.claim.post args (.bool true) args=true:=postW_of (r:=l.row.toRowW) (X:=(true==true)) (show WShape.has [] (.bool true) .bool=true by first|rfl|decide|simp[WShape.has,WShape.arms,WShape.armsAll]) (show(WTm.eq .res (.lit (.bool true))).value [] {args:=args,res:=some (.bool true),after:=args}=some (.bool (true==true))from w_eq_bool (w_res rfl) w_lit) rfl
theorem ab9{l:OpenLaw}{n:Nat}{q:ah}{loose:List Str}{XP:(Str->Option Value)->Heap->Prop}{YP:World->Heap->Prop}{d:DefRec} (hn:l.most=some n)(tX:d.params.defaults=[]) (call:∀(w:World)(s₀ s₁:ae)(mg mb:Str->Option Value)(fa:Addr)(o:Obj)(pm cd doc:Value)(a:Addr)(vs:List Value)(ns:List Int),Ground q loose [] XP w s₀ mg mb s₁.heap->YP w s₁.heap->s₁.heap.get? fa=some o->o.data= .func (docDef d.name d.params d.body d.scope pm cd doc)->s₁.heap.CodeRec cd d.name->mg d.name=some (.ref fa)->s₁.heap.get? a=some {cls:=.type "list",data:=.seq vs.toArray}->IntsAre vs ns->ns.length<=n->s₁.gens=#[]->codeAny (model l.prog w) callerA (.call (.ref fa) ⟨[.ref a],[]⟩) (fun r s'=>r= .ok (.ret (.bool true))/\OldK s₁.heap s'.heap/\s'.os=s₁.os/\AllBare s'.gens) s₁): WalkO q loose XP YP l.row.toRowW d [] (fun f vs=>PySem.call f vs):=by intro w s₀ s₁ mg mb G Y fa o pm cd doc dV kV ho hd gR hD Ic hg args vals as Bw acQ hrd Hy hlo;obtain rfl:dV= .none:=Dflts.none hD tX;obtain rfl:kV= .none:=Dflts.noKw hD;obtain⟨a,vs,ns,rfl,rfl,HR,hints,hlen⟩:=YS hn Bw Hy;refine enter_call (zF (call w s₀ s₁ mg mb fa o pm cd doc a vs ns G Y ho (fd_plain hd) gR Ic HR hints hlen hg) fun r s' hq=>?_);obtain⟨rfl,h2,h3,h4⟩:=hq;exact⟨.inl ⟨.bool true,.bool true,[],rfl,fun _=>rfl,.bool true,a0z l _,fun _=>⟨List.Pairwise.nil,fun _ hm=>(nomatch hm)⟩⟩,h2,h3,h4⟩
section
variable {prog:ah}{w:World}{A:aj}{E:Value->ae->Prop}{s:ae}{K:Frag}
end
end Att
namespace L2
open PySem PySem.Spec PyProof.Rows
theorem KI:∀{vs:List Value}{ns:List Int},IntsAre vs ns->Vals (ns.map V.int) vs |_,_,.nil=>.nil |_,_,.cons n t h=>.cons ⟨t,rfl⟩ (KI h)
def inClass(s:Stmt)(j:Nat):Stmt:=match s with | .ClassDef _ _ _ body _ _ _ _ _ _ _=>body.getD j (.Pass ⟨0,0,0,0⟩) |_=>.Pass ⟨0,0,0,0⟩
def jZ(s:Stmt):Arguments:=match s with | .FunctionDef _ a _ _ _ _ _ _ _ _=>a |_=>{posonlyargs:=[],args:=[],vararg:=none,kwonlyargs:=[],kw_defaults:=[],kwarg:=none,defaults:=[]}
def gF(s:Stmt):List Stmt:=match s with | .FunctionDef _ _ b _ _ _ _ _ _ _=>b |_=>[]
def aV(s:Stmt):Scope:=match s with | .FunctionDef _ _ _ _ _ _ sc _ _ _=>sc |_=>{kind:=.function,names:=[],isGenerator:=false,isCoroutine:=false}
abbrev jk:kl:=fun _ _ _ _ _ _=>False
abbrev E0:XK:=fun _ _ _=>False
theorem AN{X:Cx}:Passes jk X E0:=fun _ _ _ _ _ _ _ h=>h.elim
structure kh(K:aa)(x qual:Str)(st:Stmt)(f:Addr)(fd:FuncData):Prop where
 ex:∃(oc:Value)(od:Option Addr)(kV doc pm:Value)(an:Option Addr)(aL ct:Value)(gf:Array (Option Value)),fd=PySem.W.fnOf x qual (jZ st) (gF st) (aV st) .none kV doc pm an aL ct/\K.lookup f=some ⟨oc,od,.func fd,gf⟩/\PySem.W.codeIn K aL qual=true
 kp:PySem.W.keepIn K (.ref f)=true
section
variable {P:ah}{w:World}{K:aa}{mg:Str->Option Value}{base:Heap}
theorem kh.ok{x qual:Str}{st:Stmt}{f:Addr}{fd:FuncData}{N ps:List Str}{k:Nat}{sp:Sp}(F:kh K x qual st f fd)(S:bp N ps (aV st))(len:∀vs H Q E,sp vs H Q E->vs.length=ps.length) (iJ:∀(aL:Value)(A:aj)(outer:List Env)(s:ae)(H:Hp)(vs:List V)(Q:VK)(E:XK),cJ k (A.deeper (envOfC qual (aV st) s.heap.objs.size f aL))->sp vs H Q E->∃t,gX (j4 jk P w K mg base N qual (aV st) f aL A outer s H E).oN (gF st) t/\t {nx:=fun _ H'=>Q .bo H',rt:=Q} (start N vs) H):j6 P w K mg base jk (k+1) f fd ps sp:=by obtain⟨oc,od,kV,doc,pm,an,aL,ct,gf,rfl,lk,gR⟩:=F.ex;refine IP lk gR S len fun A outer s H vs Q E hr je=>?_;obtain⟨t,h,q⟩:=iJ aL A outer s H vs Q E hr je;exact⟨t,h.oN,q⟩
theorem kh.binds{x qual:Str}{st:Stmt}{f:Addr}{fd:FuncData}{ps:List Str}(F:kh K x qual st f fd) (h:∀(kV doc pm:Value)(an:Option Addr)(aL ct:Value)(us:List Value),us.length=ps.length->bindArgs (PySem.W.fnOf x qual (jZ st) (gF st) (aV st) .none kV doc pm an aL ct) ⟨us,[]⟩=pure (ps.zip us)):Binds K fd ps []:=by obtain⟨oc,od,kV,doc,pm,an,aL,ct,gf,rfl,lk,gR⟩:=F.ex;exact .all (h kV doc pm an aL ct)
theorem BZ{x qual:Str}{st:Stmt}{f:Addr}{oc:Value}{od an:Option Addr}{gf:Array (Option Value)}{kV doc pm aL ct:Value}(l:K.lookup f=some ⟨oc,od,.func (PySem.W.fnOf x qual (jZ st) (gF st) (aV st) .none kV doc pm an aL ct),gf⟩) (c:PySem.W.codeIn K aL qual=true)(k:PySem.W.keepIn K (.ref f)=true):kh K x qual st f (PySem.W.fnOf x qual (jZ st) (gF st) (aV st) .none kV doc pm an aL ct):=⟨⟨oc,od,kV,doc,pm,an,aL,ct,gf,rfl,l,c⟩,k⟩
end
section
variable {X:Cx}
theorem pv(i:Nat){x:Str}{pos:Pos}(hN:X.N[i]? =some x:=by rfl)(hv:Cy X.env.scope x:=by first|exact Or.inl rfl|exact Or.inr (Or.inl rfl)|exact Or.inr (Or.inr rfl))(hd:(x==("__debug__":Str))=false:=by decide) (gR:(x==("__classdict__":Str))=false:=by decide):PE X (.Name x pos) (uQ i):=Oy hN hv hd gR
end
theorem bF{A B:Prop}(h:B):if false=true then A else B:=by rw[bf kr];exact h
theorem bV{A B:Prop}(h:A):if true=true then A else B:=by rw[bc rfl];exact h
theorem dN{c A B:Prop}[Decidable c](h1:c->A)(h2:¬c->B):if c then A else B:=by
 by_cases h:c
 · rw[bc h]
   exact h1 h
 · rw[bf h]
   exact h2 h
def aE(H H':Hp):Prop:=∀b o,H b=some o->H' b=some o
theorem aE.refl(H:Hp):aE H H:=fun _ _ h=>h
theorem aE.trans{H H1 H2:Hp}(a:aE H H1)(b:aE H1 H2):aE H H2:=fun c o h=>b c o (a c o h)
theorem aE.seq{K:aa}{H H':Hp}{a:Addr}{xs:List V}(e:aE H H')(h:aF K H a xs):aF K H' a xs:=by
 rcases h with(h|⟨o,h⟩)|h
 ·exact .inl (.inl (e _ _ h))
 ·exact .inl (.inr ⟨o,e _ _ h⟩)
 ·exact .inr h
def Wd (i:Int):Prop:=i.natAbs<2^5000
theorem Wd.bits{i:Int}(h:Wd i):Builtin.Int.intBits i<=2^20:=iy (PyProof.Rows.intBits_le h) (by decide)
theorem Wd.log{i:Int}(h:Wd i):i.natAbs.log2<9000:=by
 by_cases e:i.natAbs=0
 ·rw[e];decide
 · have h1:i.natAbs.log2<5000:=(Nat.log2_lt e).mpr h
   lia
section
variable {X:Cx}
theorem m9:dk X (binaryOp .FloorDiv) (rI (fun _ j=>0<j/\Wd j) fun i j=>.int (i/j)):=y6 fun i j _ _ _ _ _ hc q=>by have h1:(0:Int)<j:=hc.1;exact floordiv_int (by lia) (by rw[WO i (by lia)];exact q) (.inl (PyProof.noPylong_of_log2 hc.2.log))
theorem OU:dk X (binaryOp .FloorDiv) (rI (fun _ j=>j≠0/\Wd j) fun i j=>.int (i.fdiv j)):=y6 fun _ _ _ _ _ _ _ hc q=>floordiv_int hc.1 q (.inl (PyProof.noPylong_of_log2 hc.2.log))
end
def uw(K:aa)(H:Hp)(x:V)(T:String):Prop:=match x with | .bo=>T="NoneType" | .bl _=>T="bool" | .int _=>T="int" | .str _=>T="str" | .ref a=>(T="list"/\∃xs,aF K H a xs)\/(T="tuple"/\∃xs,aP K H a xs) |_=>False
def iR(T n:String):Bool:=T==n||(T=="bool"&&n=="int")
def A2:List String:=["NoneType","bool","int","str","list","tuple"]
def xt:List String:=["bool","int","str","list","tuple"]
theorem Qd{K:aa}{T n:String}(h1:T∈A2)(h2:n∈xt):PySem.W.kitOne K (.type T) (.type n)=some (iR T n):=by
 have all:A2.all (fun T=>xt.all fun n=>PySem.W.kitOne [] (.type T) (.type n)==some (iR T n))=true:=by decide+kernel
 have a1:=iQ.mp all T h1;have a2:=iQ.mp a1 n h2;have e:PySem.W.kitOne K (.type T) (.type n)=PySem.W.kitOne [] (.type T) (.type n):=by unfold PySem.W.kitOne PySem.W.kitCls PySem.W.subIn;rfl
 rw[e];exact fS.mp a2
section
variable {X:Cx}
theorem uw.mem{K:aa}{H:Hp}{x:V}{T:String}(h:uw K H x T):T∈A2:=by cases x with |bo=>cases(show T="NoneType" from h);decide |bl b=>cases(show T="bool" from h);decide |int b=>cases(show T="int" from h);decide |str b=>cases(show T="str" from h);decide |ref a=>rcases(show(T="list"/\∃xs,aF K H a xs)\/(T="tuple"/\∃xs,aP K H a xs)from h)with⟨e,_⟩|⟨e,_⟩<;>cases e<;>decide |_=>exact(show False from h).elim
theorem Qe{au:List (Addr×Obj)}{s:ae}{Z:St}{H:Hp}{x:V}{u:Value}{T:String}(I:Inv X au Z H s)(rx:RelV x u)(ty:uw X.K H x T): ∃P:Heap->Prop,PySem.W.KitX X.K u (.type T) P/\P s.heap/\u≠ .builtin "__main__.__loader__#opaque":=by cases x with
  |bo=>cases(show T="NoneType" from ty);cases(show u=Value.none from rx);exact⟨_,PySem.W.kitx_none,True.intro,fun z=>nomatch z⟩ |bl b=>cases(show T="bool" from ty);cases(show u=Value.bool b from rx);exact⟨_,PySem.W.kitx_bool,True.intro,fun z=>nomatch z⟩ |int b=>cases(show T="int" from ty);obtain⟨t,q⟩:=(show∃t,u=Value.int b t from rx);cases q;exact⟨_,PySem.W.kitx_int,True.intro,fun z=>nomatch z⟩ |str b=>cases(show T="str" from ty);obtain⟨t,q⟩:=(show∃t,u=Value.str b t from rx);cases q;exact⟨_,PySem.W.kitx_str,True.intro,fun z=>nomatch z⟩ |ref a=>
    cases(show u=Value.ref a from rx);rcases(show(T="list"/\∃xs,aF X.K H a xs)\/(T="tuple"/\∃xs,aP X.K H a xs)from ty)with⟨e,xs,hx⟩|⟨e,xs,hx⟩
    · cases e
      obtain⟨its,r,⟨o,n,h1,h2,_⟩,_⟩:=I.list hx;exact⟨_,PySem.W.kitx_list,⟨o,h1,h2⟩,fun z=>nomatch z⟩
    · cases e
      obtain⟨its,r,⟨o,h1,h2,_⟩,_⟩:=I.tuple hx;exact⟨_,PySem.W.kitx_tuple,⟨o,h1,h2⟩,fun z=>nomatch z⟩ |_=>exact(show False from ty).elim
inductive VL(K:aa)(xs:List V)(H:Hp)(Q:VK):Prop |mk (x:_)(T:_)(n:_)(b:_)(h0:xs=[x,.ty n])(h1:uw K H x T)(h2:n∈xt)(h3:iR T n=b)(h4:Q (.bl b) H):VL K xs H Q
def Gf(K:aa):List V->Hp->VK->Prop:=fun xs H Q=>VL K xs H Q
theorem aaN:fy X (.builtin "isinstance") (Gf X.K):=by intro au s Z H xs us Q I r h;obtain⟨x,T,n,b,rfl,ty,hn,rfl,q⟩:=h;obtain⟨u,c,rfl,rx,rc⟩:=vals2 r;cases(show c=Value.type n from rc);obtain⟨P,adx,p,hx⟩:=Qe I rx ty;exact PySem.W.kia_one adx I.gD p (Qd ty.mem hn) hx fun tk=>⟨.bl (iR T n),H,I.tok _,rfl,q⟩
inductive VJ(K:aa)(xs:List V)(H:Hp)(Q:VK):Prop |mk (x:V)(T:String)(p:Addr)(ns:List String)(b:Bool)(h0:xs=[x,.ref p])(h1:H p=some (.tup (ns.map V.ty)))(h2:uw K H x T)(h3:(∀n∈ns,n∈xt))(h4:ns.any (iR T)=b)(h5:Q (.bl b) H):VJ K xs H Q
def Ge(K:aa):List V->Hp->VK->Prop:=fun xs H Q=>VJ K xs H Q
theorem Qc{K:aa}{T:String}(h1:T∈A2):∀{ns:List String},(∀n∈ns,n∈xt)->PySem.W.kitAny K (.type T) (ns.map Value.type)=some (ns.any (iR T)) |[],_=>rfl |n::r,h=>by have e:=Qd (K:=K) h1 (h n (Kl ..));have ih:=Qc (K:=K) h1 (ns:=r) fun m hm=>h m (iz _ hm);rw[oa,PySem.W.kitAny,e,uL];cases iR T n with |true=>rfl |false=>simpa using ih
theorem KG:∀{ns:List String}{us:List Value},Vals (ns.map V.ty) us->us=ns.map Value.type |[],_,.nil=>rfl |n::r,_,.cons q t=>by cases(show _=Value.type n from q);rw[KG t];rfl
theorem aaM:fy X (.builtin "isinstance") (Ge X.K):=by intro au s Z H xs us Q I r h;obtain⟨x,T,p,ns,b,rfl,hp,ty,hn,rfl,q⟩:=h;obtain⟨u,c,rfl,rx,rc⟩:=vals2 r;cases(show c=Value.ref p from rc);obtain⟨P,adx,pp,hx⟩:=Qe I rx ty;obtain⟨_,its,rv,⟨cls,dd,dt,sl⟩,h1,h2,n,h3⟩:=(show fK X.prog X.w H s.heap p (.tup (ns.map V.ty))from I.aX p _ hp);simp only at h2 h3;subst h2 h3;have e:=KG rv;subst e;exact PySem.W.kia_tup adx I.gD pp h1 (Qc ty.mem hn) hx fun tk=>⟨.bl _,H,I.tok _,rfl,q⟩
end
mutual
def RD(K:aa)(H:Hp):V->ai->Prop |x,.none=>x= .bo |x,.bool b=>x= .bl b |x,.int i=>x= .int i |x,.str y=>x= .str y |x,.list ds=>∃a xs,x= .ref a/\aF K H a xs/\aJ K H xs ds |x,.tuple ds=>∃a xs,x= .ref a/\aP K H a xs/\aJ K H xs ds |_,.dict _=>False
def aJ (K:aa)(H:Hp):List V->List ai->Prop |xs,[]=>xs=[] |xs,d::ds=>∃y ys,xs=y::ys/\RD K H y d/\aJ K H ys ds
end
section
variable {X:Cx}
mutual
theorem RD.reads{au:List (Addr×Obj)}{s:ae}{Z:St}{H:Hp}(I:Inv X au Z H s):∀{x:V}{u:Value}(d:ai),RelV x u->RD X.K H x d->∃as,Reads s.heap u d as |x,u,.none,r,h=>by cases(show x= .bo from by simpa[RD]using h);cases(show u=Value.none from r);exact⟨_,.none⟩ |x,u,.bool b,r,h=>by cases(show x= .bl b from by simpa[RD]using h);cases(show u=Value.bool b from r);exact⟨_,.bool b⟩ |x,u,.int i,r,h=>by cases(show x= .int i from by simpa[RD]using h);obtain⟨t,q⟩:=(show∃t,u=Value.int i t from r);cases q;exact⟨_,.int i t⟩ |x,u,.str y,r,h=>by cases(show x= .str y from by simpa[RD]using h);obtain⟨t,q⟩:=(show∃t,u=Value.str y t from r);cases q;exact⟨_,.str y t⟩ |x,u,.list ds,r,h=>by rw[RD]at h;obtain⟨a,xs,rfl,hx,hd⟩:=h;cases(show u=Value.ref a from r);obtain⟨its,rv,⟨o,n,h1,h2,h3,h4⟩,_⟩:=I.list hx;obtain⟨as,q⟩:=aJ.reads I ds rv hd;exact⟨_,.list h1 h2 h4 (by simpa using q)⟩ |x,u,.tuple ds,r,h=>by rw[RD]at h;obtain⟨a,xs,rfl,hx,hd⟩:=h;cases(show u=Value.ref a from r);obtain⟨its,rv,⟨o,h1,h2,n,h4⟩,_⟩:=I.tuple hx;obtain⟨as,q⟩:=aJ.reads I ds rv hd;exact⟨_,.tuple h1 h2 h4 (by simpa using q)⟩ |x,u,.dict _,r,h=>by simp[RD]at h
theorem aJ.reads {au:List (Addr×Obj)}{s:ae}{Z:St}{H:Hp}(I:Inv X au Z H s):∀{xs:List V}{us:List Value}(ds:List ai),Vals xs us->aJ X.K H xs ds->∃as,ReadsAll s.heap us ds as |xs,us,[],r,h=>by cases(show xs=[]from by simpa[aJ]using h);cases r;exact⟨_,.nil⟩ |xs,us,d::ds,r,h=>by rw[aJ]at h;obtain⟨y,ys,rfl,h1,h2⟩:=h;cases r with |cons ra rb=>obtain⟨as,q⟩:=RD.reads I d ra h1;obtain⟨bs,q'⟩:=aJ.reads I ds rb h2;exact⟨_,.cons q q'⟩
end
inductive VS(K:aa)(x:V)(y:V)(H:Hp)(Q:VK):Prop |mk (d:_)(e:_)(h0:RD K H x d)(h1:RD K H y e)(h2:SeqAt.shaped d=true)(h3:SeqAt.shaped e=true)(h4:Q (.bl (PyData.eqv d e)) H):VS K x y H Q
def Gg(K:aa):R2:=fun x y H Q=>VS K x y H Q
inductive VE(K:aa)(x:V)(y:V)(H:Hp)(Q:VK):Prop |mk (d:_)(e:_)(h0:RD K H x d)(h1:RD K H y e)(h2:SeqAt.shaped d=true)(h3:SeqAt.shaped e=true)(h4:Q (.bl (!PyData.eqv d e)) H):VE K x y H Q
def Ga(K:aa):R2:=fun x y H Q=>VE K x y H Q
theorem a1u(hu:X.A.units+64<cLine):dk X (compareOp .Eq) (Gg X.K):=by intro au s Z H x y v u Q I rx ry h;obtain⟨d,e,hd,he,sd,se,q⟩:=h;obtain⟨as,ra⟩:=RD.reads I d rx hd;obtain⟨bs,rb⟩:=RD.reads I e ry he;exact eq_dataH ra rb sd se hu ⟨.bl _,H,I,rfl,q⟩
theorem a1p(hu:X.A.units+64<cLine):dk X (compareOp .NotEq) (Ga X.K):=by intro au s Z H x y v u Q I rx ry h;obtain⟨d,e,hd,he,sd,se,q⟩:=h;obtain⟨as,ra⟩:=RD.reads I d rx hd;obtain⟨bs,rb⟩:=RD.reads I e ry he;exact ne_dataH ra rb sd se hu ⟨.bl _,H,I,rfl,q⟩
end
theorem aE.new{H:Hp}{t:Addr}{o:HO}(ht:H t=none):aE H (upd H t o):=fun b o' e=>by rw[aK (fW e ht)];exact e
structure Nw(H H':Hp)(p:Addr)(o:HO):Prop where
 no:H p=none
 at':H' p=some o
 same:aE H H'
 eq:H'=upd H p o
theorem Nw.of{H:Hp}{p:Addr}{o:HO}(h:H p=none):Nw H (upd H p o) p o:=⟨h,ba,.new h,rfl⟩
def Co:List Str:=["len","abs","min","max","range","isinstance","int","bool","str","tuple","list","any","all","sum","zip","enumerate","sorted","reversed","ord","chr","divmod","repr","dict","set"]
def bP(mg:Str->Option Value):Prop:=∀x∈Co,mg x=none
theorem bP.at{mg:Str->Option Value}(B:bP mg)(x:Str)(h:x∈Co:=by decide):mg x=none:=B x h
theorem eK{α:Type}{C:List α->Prop}(h:∀a,C [a]):∀us:List α,us.length=1->C us |[_],_=>h _
theorem dy{α:Type}{C:List α->Prop}(h:∀a b,C [a,b]):∀us:List α,us.length=2->C us |[_,_],_=>h _ _
theorem nR{α:Type}{C:List α->Prop}(h:∀a b c,C [a,b,c]):∀us:List α,us.length=3->C us |[_,_,_],_=>h _ _ _
theorem Cv{α:Type}{C:List α->Prop}(h:∀a b c d,C [a,b,c,d]):∀us:List α,us.length=4->C us |[_,_,_,_],_=>h _ _ _ _
def RI(N P:List Str)(sc:Scope):Bool:=decide (sc.kind= .function)&& !sc.isCoroutine&& !sc.isGenerator&&decide N.Nodup&&decide (N.take P.length=P)&&P.all (fun x=>decide (sc.names.lookup x=some .local\/sc.names.lookup x=some .cell))&&sc.names.all fun y=>decide (y.2≠ .free)
theorem bI{N P:List Str}{sc:Scope}(h:RI N P sc=true):bp N P sc:=by unfold RI at h;simp only[fh,CS,WR,iQ]at h;obtain⟨⟨⟨⟨⟨⟨h1,h2⟩,h3⟩,h4⟩,h5⟩,h6⟩,h7⟩:=h;exact⟨h1,h2,h3,h4,h5,h6,h7⟩
structure FA(K:aa)(mg:Str->Option Value)(x:Str)(st:Stmt):Prop where ex:∃f fd,mg x=some (.ref f)/\kh K x x st f fd
def aD(P:ah)(w:World)(K:aa)(mg:Str->Option Value)(base:Heap)(x:Str)(k:Nat)(sp:Sp):Prop:=∃f fd ps,j6 P w K mg base jk k f fd ps sp/\mg x=some (.ref f)/\PySem.W.keepIn K (.ref f)=true/\Binds K fd ps []
section
variable {P:ah}{w:World}{K:aa}{mg:Str->Option Value}{base:Heap}
theorem a8s{h:Heap}{x:Str}{st:Stmt}{f:Addr}{oc:Value}{od an:Option Addr}{gf:Array (Option Value)}{kV doc pm aL ct:Value}(X:K.In h)(G:h.Ns mainGlobals mg) (a:PySem.W.nsIn K mainGlobals x=some (some (.ref f))) (l:K.lookup f=some ⟨oc,od,.func (PySem.W.fnOf x x (jZ st) (gF st) (aV st) .none kV doc pm an aL ct),gf⟩) (c:PySem.W.codeIn K aL x=true)(k:PySem.W.keepIn K (.ref f)=true):FA K mg x st:=⟨f,_,xc X G a,BZ l c k⟩
theorem FA.has{x:Str}{st:Stmt}{N ps:List Str}{k:Nat}{sp:Sp}(F:FA K mg x st)(S:bp N ps (aV st))(len:∀vs H Q E,sp vs H Q E->vs.length=ps.length) (hb:∀(kV doc pm:Value)(an:Option Addr)(aL ct:Value)(us:List Value),us.length=ps.length->bindArgs (PySem.W.fnOf x x (jZ st) (gF st) (aV st) .none kV doc pm an aL ct) ⟨us,[]⟩=pure (ps.zip us)) (iJ:∀(f:Addr)(aL:Value)(A:aj)(outer:List Env)(s:ae)(H:Hp)(vs:List V)(Q:VK)(E:XK),cJ k (A.deeper (envOfC x (aV st) s.heap.objs.size f aL))->sp vs H Q E->∃t,gX (j4 jk P w K mg base N x (aV st) f aL A outer s H E).oN (gF st) t/\t {nx:=fun _ H'=>Q .bo H',rt:=Q} (start N vs) H):aD P w K mg base x (k+1) sp:=by obtain⟨f,fd,hm,F⟩:=F.ex;exact⟨f,fd,ps,F.ok S len fun aL A outer s H vs Q E=>iJ f aL A outer s H vs Q E,hm,F.kp,F.binds hb⟩
end
section
variable {X:Cx}{k:Nat}{x:Str}{p pos:Pos}{e:Expr}{es:List Expr}{t:TA}{sp:Sp}
def Lo(sp:Sp)(t:TA):TE:=fun Z H Q=>t Z H fun vs H1=>sp vs H1 Q E0
theorem oH(F:aD X.prog X.w X.K X.mg X.base x k sp)(hr:cJ k X.A)(hg:Gl X x)(ha:PA X (e::es) t)(jh:(x==("__debug__":Str))=false:=by decide) (he:starEach (e::es) X.env=(false,eval e X.env)::starEach es X.env:=by rfl)(gj:(backTo pos (starEach es X.env)).any (·.1)=false:=by rfl): PE X (.Call (.Name x p) (e::es) [] pos) (Lo sp t):=by
  obtain⟨f,fd,ps,F,hm,hk,hb⟩:=F;have h:=a0Y (pos:=pos) (p:=p) F hr hg hm hk hb .nil AN ha jh he gj;intro au s Z H Q I hq;refine h au s Z H Q I ?_;have e1:(fun(vs:List V) H1=>sp (vs++[]) H1 Q E0)=fun vs H1=>sp vs H1 Q E0:=by funext vs H1;rw[Df]
  show t Z H fun vs H1=>sp (vs++[]) H1 Q E0;rw[e1];exact hq
theorem pf{j:Nat}(F:aD X.prog X.w X.K X.mg X.base x j sp)(hr:cJ k X.A)(ha:PA X (e::es) t)(hjk:j<=k:=by decide)(hg:Gl X x:=by rfl)(jh:(x==("__debug__":Str))=false:=by decide)(he:starEach (e::es) X.env=(false,eval e X.env)::starEach es X.env:=by rfl)(gj:(backTo pos (starEach es X.env)).any (·.1)=false:=by rfl):PE X (.Call (.Name x p) (e::es) [] pos) (Lo sp t):=oH F (hr.mono hjk) hg ha jh he gj
theorem bE:dk X (binaryOp .Mult) (rI (fun i j=>IntMulOk i j) fun i j=>.int (i*j)):=y6 fun _ _ _ _ _ _ _ hc q=>mul_int q hc
theorem a1t:dk X (compareOp .Eq) (ky fun i j=>.bl (decide (i=j))):=vq fun _ _ _ _ _ _ _ q=>eq_int (by rw[Bool.beq_eq_decide_eq];exact q)
theorem a1o:dk X (compareOp .NotEq) (ky fun i j=>.bl (!decide (i=j))):=vq fun _ _ _ _ _ _ _ q=>ne_int (by rw[bne,Bool.beq_eq_decide_eq];exact q)
theorem a1v(hu:X.A.units+64<cLine):dk X (compareOp .Eq) (fun x y H Q=>ky (fun i j=>.bl (decide (i=j))) x y H Q\/Gg X.K x y H Q):=a1t.or (a1u hu)
theorem a1q(hu:X.A.units+64<cLine):dk X (compareOp .NotEq) (fun x y H Q=>ky (fun i j=>.bl (!decide (i=j))) x y H Q\/Ga X.K x y H Q):=a1o.or (a1p hu)
mutual
theorem eqv_refl:∀d:ai,d.canLay0=true->PyData.eqv d d=true | .none,_=>by simp[PyData.eqv] | .bool b,_=>by simp[PyData.eqv] | .int i,_=>by simp[PyData.eqv] | .str x,_=>by simp[PyData.eqv] | .list ds,h=>by simp only[PyData.eqv];exact eqvAll_refl ds (by simpa[PyData.canLay0]using h) | .tuple ds,h=>by simp only[PyData.eqv];exact eqvAll_refl ds (by simpa[PyData.canLay0]using h) | .dict _,h=>by simp[PyData.canLay0]at h
theorem eqvAll_refl:∀ds:List ai,PyData.canLayAll0 ds=true->PyData.eqvAll ds ds=true |[],_=>by simp[PyData.eqvAll] |d::ds,h=>by simp only[PyData.canLayAll0,fh]at h;simp only[PyData.eqvAll,fh];exact⟨eqv_refl d h.1,eqvAll_refl ds h.2⟩
end
theorem lQ{K:aa}{H:Hp}(b:Bool):RD K H (.bl b) (.bool b):=by simp[RD]
theorem dC{K:aa}{H:Hp}(i:Int):RD K H (.int i) (.int i):=by simp[RD]
theorem cV{K:aa}{H:Hp}(x:Str):RD K H (.str x) (.str x):=by simp[RD]
theorem a00{K:aa}{H:Hp}:RD K H .bo .none:=by simp[RD]
theorem iT{K:aa}{H:Hp}{p:Addr}{xs:List V}{ds:List ai}(h:aP K H p xs)(r:aJ K H xs ds):RD K H (.ref p) (.tuple ds):=by rw[RD];exact⟨p,xs,rfl,h,r⟩
theorem lP{K:aa}{H:Hp}{p:Addr}{xs:List V}{ds:List ai}(h:aF K H p xs)(r:aJ K H xs ds):RD K H (.ref p) (.list ds):=by rw[RD];exact⟨p,xs,rfl,h,r⟩
theorem cU{K:aa}{H:Hp}:aJ K H [] []:=by simp[aJ]
theorem bW{K:aa}{H:Hp}{x:V}{xs:List V}{d:ai}{ds:List ai}(h:RD K H x d)(r:aJ K H xs ds):aJ K H (x::xs) (d::ds):=by rw[aJ];exact⟨x,xs,rfl,h,r⟩
inductive Um(t:TS)(D:Ends)(Z:St)(H:Hp):Prop |mk (JT:St->Hp->Prop)(h0:t {D with nx:=JT} Z H)(h1:∀σ' H',JT σ' H'->D.nx σ' H'):Um t D Z H
def XW (t:TS):TS:=fun D Z H=>Um t D Z H
theorem gJ{st:Stmt}{t:TS}(h:PS X st t):PS X st (XW t):=by intro au s Z H D I hq;obtain⟨JT,q,m⟩:=hq;refine aY (h au s Z H _ I q) fun f s1 q1=>?_;cases f with |next=>obtain⟨σ',H',I',q'⟩:=q1;exact⟨σ',H',I',m _ _ q'⟩ |brk=>exact q1 |cont=>exact q1 |ret u=>exact q1
end
def rn(K:aa)(xs:List Str):Prop:=∀x∈xs,PySem.W.nsIn K mainGlobals x=some none
theorem rn.nil{K:aa}:rn K []:=fun _ h=>nomatch h
theorem rn.cons{K:aa}{x:Str}{xs:List Str}(a:PySem.W.nsIn K mainGlobals x=some none)(r:rn K xs):rn K (x::xs):=fun y hy=>by
 rcases bN.mp hy with e|e
 ·rw[e];exact a
 ·exact r y e
theorem aaX{K:aa}{mg:Str->Option Value}{h:Heap}(X:K.In h)(G:h.Ns mainGlobals mg)(a:rn K Co):bP mg:=fun x hx=>PySem.W.mg_none_of X G (a x hx)
theorem Ju{env:Env}:∀(ns:List (Str×NameKind))(cs:List (Str×Addr)),(∀x∈ns,x.2= .free->∃c,env.cells.lookup x.1=some c)->(∀x c,cs.lookup x=some c->env.cells.lookup x=some c)->∃cl,(forIn ns cs (fun x r=>if(x.2==NameKind.free)=true then do let a<-cellOf env x.1;pure (ForInStep.yield ((x.1,a)::r))else pure (ForInStep.yield r)):Sem (List (Str×Addr)))=pure cl/\(∀x c,cl.lookup x=some c->env.cells.lookup x=some c)/\(∀x c,cs.lookup x=some c->∃c',cl.lookup x=some c')/\∀x∈ns,x.2= .free->∃c,cl.lookup x.1=some c
  |[],cs,_,h2=>⟨cs,rfl,h2,fun x c e=>⟨c,e⟩,fun _ h=>nomatch h⟩ |(n,k)::r,cs,h1,h2=>by
    by_cases hk:k= .free
    · subst hk
      obtain⟨c,hc⟩:=h1 (n,.free) (.head _) rfl;have e1:cellOf env n=pure c:=by unfold cellOf;rw[show env.cells.lookup n=some c from hc]
      obtain⟨cl,a1,a2,a3,a4⟩:=Ju r ((n,c)::cs) (fun x hx=>h1 x (.tail _ hx)) (fun x d e=>by rw[j7]at e;cases z:x==n with |true=>rw[z]at e;cases e;rw[fS.mp z];exact hc |false=>rw[z]at e;exact h2 x d e);refine⟨cl,?_,a2,fun x d e=>?_,fun x hx hf=>?_⟩
      · rw[De]
        show(do let r'<-(if(NameKind.free==NameKind.free)=true then do let a<-cellOf env n;pure (ForInStep.yield ((n,a)::cs))else pure (ForInStep.yield cs));_)=_;rw[bc (by rfl),e1];exact a1
      · by_cases z:x==n
        ·exact a3 x c (by rw[j7,z])
        ·exact a3 x d (by rw[j7,xk.mpr z];exact e)
      · rcases bN.mp hx with rfl|hx
        ·exact a3 n c (by rw[j7,K4])
        ·exact a4 x hx hf
    · obtain⟨cl,a1,a2,a3,a4⟩:=Ju r cs (fun x hx=>h1 x (.tail _ hx)) h2
      refine⟨cl,?_,a2,a3,fun x hx hf=>?_⟩
      · rw[De]
        show(do let r'<-(if(k==NameKind.free)=true then do let a<-cellOf env n;pure (ForInStep.yield ((n,a)::cs))else pure (ForInStep.yield cs));_)=_;rw[bf (by simpa using hk)];exact a1
      · rcases bN.mp hx with rfl|hx
        ·exact absurd hf hk
        ·exact a4 x hx hf
theorem SW{env:Env}{scope:Scope}(h1:∀x∈scope.names,x.2= .free->∃c,env.cells.lookup x.1=some c): ∃cl,closureFor scope env=pure cl/\(∀x c,cl.lookup x=some c->env.cells.lookup x=some c)/\∀x∈scope.names,x.2= .free->∃c,cl.lookup x.1=some c:=by
  obtain⟨cl,a1,a2,_,a4⟩:=Ju (env:=env) scope.names [] h1 (fun x c e=>nomatch e);refine⟨cl,?_,a2,a4⟩;unfold closureFor;show(forIn scope.names ([]:List (Str×Addr)) (fun(x:Str×NameKind) r=>match x with|(name,kind)=>if(kind==NameKind.free)=true then do let a<-cellOf env name;pure (ForInStep.yield ((name,a)::r))else pure (ForInStep.yield r))>>=fun r=>(pure r:Sem (List (Str×Addr))))=pure cl;have ef:(fun(x:Str×NameKind)(r:List (Str×Addr))=>match x with|(name,kind)=>(if(kind==NameKind.free)=true then do let a<-cellOf env name;pure (ForInStep.yield ((name,a)::r))else pure (ForInStep.yield r):Sem (ForInStep (List (Str×Addr))))) =fun x r=>if(x.2==NameKind.free)=true then do let a<-cellOf env x.1;pure (ForInStep.yield ((x.1,a)::r))else pure (ForInStep.yield r):=by funext x r;obtain⟨n,k⟩:=x;rfl
  rw[ef,a1];rfl
theorem PN{env:Env}(hk:env.scope.kind= .function){x:Str}(hx:env.kindOf x=some .cell):∀{names:List (Str×NameKind)},names.lookup x=some .free->(names.map fun(n,k)=>if(k==NameKind.free&&env.scope.kind== .function&&env.kindOf n==some .cell)then(n,NameKind.cell)else(n,k)).lookup x=some .cell |[],h=>nomatch h |(n,k)::r,h=>by have ih:=@PN env hk x hx r;show List.lookup x ((if(k==NameKind.free&&env.scope.kind== .function&&env.kindOf n==some .cell)=true then(n,NameKind.cell)else(n,k))::_)=_;cases z:x==n with |true=>simp only[j7,z]at h;cases h;have e:=fS.mp z;subst e;rw[bc (by rw[hk,hx];rfl),j7,z] |false=>simp only[j7,z]at h;split<;>(simp only[j7,z];exact ih h)
def fQ(X:Cx)(N:List Str)(scope:Scope)(cl:List (Str×Addr))(s:ae)(H:Hp)(fp:List Addr)(au:List (Addr×Obj)):Cx:={prog:=X.prog,w:=X.w,K:=X.K,mg:=X.mg,base:=X.base,A:=X.A,N:=N,s₀:=s,H₀:=H,env:=compEnvC scope cl s.heap.objs.size X.env,outer:=X.stack,stack:=X.stack,ex:=fp,fn:=fun _=>false,calm:=X.calm,pn:=X.pn++au,xe:=fun _ _=>False}
def stC(js:List (Option Nat))(Z:St):St:=js.map fun|none=>none|some j=>(Z[j]?).join
def Cj(X:Cx)(N:List Str)(js:List (Option Nat))(scope:Scope):Bool:=N.length==js.length&&(N.zip js).all fun p=>match p.2 with|none=>true|some j=>X.N[j]? ==some p.1&&scope.names.lookup p.1==some NameKind.free&&X.env.kindOf p.1==some NameKind.cell
def wJ(X:Cx)(scope:Scope):Bool:=scope.kind== .function&&X.env.scope.kind== .function&&scope.names.all fun x=>match x.2 with | .free=>X.env.kindOf x.1==some NameKind.cell | .cell=>false | .local=>scope.names.lookup x.1==some NameKind.local |_=>true
section
variable {X:Cx}{au:List (Addr×Obj)}{Z:St}{H:Hp}{s:ae}
theorem lookup_mem{α β:Type}[BEq α][LawfulBEq α]:∀{l:List (α×β)}{x:α}{b:β},l.lookup x=some b->(x,b)∈l |[],_,_,h=>nomatch h |(n,k)::r,x,b,h=>by rw[j7]at h;cases z:x==n with |true=>rw[z]at h;cases h;rw[fS.mp z];exact .head _ |false=>rw[z]at h;exact .tail _ (lookup_mem h)
theorem O7{env:Env}{x:Str}{k:NameKind}:∀{names:List (Str×NameKind)},(names.map fun(n,k)=>if(k==NameKind.free&&env.scope.kind== .function&&env.kindOf n==some .cell)then(n,NameKind.cell)else(n,k)).lookup x=some k->names.lookup x=some k\/(k= .cell/\names.lookup x=some .free) |[],h=>nomatch h |(n,k')::r,h=>by have ih:=@O7 env x k r;have h':List.lookup x ((if(k'==NameKind.free&&env.scope.kind== .function&&env.kindOf n==some .cell)=true then(n,NameKind.cell)else(n,k'))::(r.map fun(n,k)=>if(k==NameKind.free&&env.scope.kind== .function&&env.kindOf n==some .cell)then(n,NameKind.cell)else(n,k)))=some k:=h;cases z:x==n with
    |true=>
      split at h'
      · rename_i hc
        simp only[j7,z]at h';cases h';rw[fh,fh]at hc;have e:k'= .free:=fS.mp hc.1.1;subst e;exact .inr ⟨rfl,by rw[j7,z]⟩
      · simp only[j7,z]at h'
        cases h';exact .inl (by rw[j7,z]) |false=>
      rw[j7,z];refine ih ?_;split at h'
      ·simpa only[j7,z]using h'
      ·simpa only[j7,z]using h'
theorem Inv.comp{N:List Str}{js:List (Option Nat)}{scope:Scope}{cl:List (Str×Addr)}{fp:List Addr}{h':Heap}{tk:Nat}(I:Inv X au Z H s)(hN:Cj X N js scope=true)(hS:wJ X scope=true) (c1:∀x c,cl.lookup x=some c->X.env.cells.lookup x=some c)(c2:∀x∈scope.names,x.2= .free->∃c,cl.lookup x.1=some c)(hf:∀b∈fp,lK X au H b)(hfl:∀b∈fp,b<s.heap.objs.size) (hn:h'.Ns s.heap.objs.size fun _=>none)(hk:∀b o,s.heap.get? b=some o->h'.get? b=some o):Inv (fQ X N scope cl s H fp au) [] (stC js Z) H {s with heap:=h',toks:=tk}:=by
  unfold wJ at hS;rw[fh,fh]at hS;obtain⟨⟨s1,s2⟩,s3⟩:=hS;have oX:scope.kind= .function:=fS.mp s1;have a69:X.env.scope.kind= .function:=fS.mp s2;unfold Cj at hN;rw[fh]at hN;obtain⟨n1,n2⟩:=hN;have hlen:N.length=js.length:=fS.mp n1;have Qo:∀x k,(relabel scope X.env).names.lookup x=some k->scope.names.lookup x=some k\/(k= .cell/\scope.names.lookup x=some .free):=fun x k e=>O7 e;have a3i:∀x,scope.names.lookup x≠some .cell:=fun x e=>by have:=iQ.mp s3 _ (lookup_mem e);exact kr this
  have RH:∀b∈(fQ X N scope cl s H fp au).fs,b∈X.env.locals::X.fs:=I.xC;have ok:(fQ X N scope cl s H fp au).Ok:={
    mod:=I.ok.mod
    kind:=oX
    glob:=I.ok.glob
    blt:=I.ok.blt
    above:=bK _
    inj:=fun x y c e1 e2=>I.ok.inj x y c (c1 x c e1) (c1 y c e2)
    has:=fun x hx=>by
     have fr:scope.names.lookup x=some .free->∃c,cl.lookup x=some c:=fun e=>c2 (x,.free) (lookup_mem e) rfl;rcases hx with e|e
     · rcases Qo x _ e with e|⟨_,e⟩
       ·exact absurd e (a3i x)
       ·exact fr e
     · rcases Qo x _ e with e|⟨z,_⟩
       ·exact fr e
       ·cases z
    qV:=fun x c e=>nomatch e
    hd:=I.ok.hd
    frames:=I.ok.frames
    uT:=.inl rfl
    C4:=fun b hb=>⟨fC (hfl b hb),fun x c e=>(hf b hb).2.2.2.2.1 x c (c1 x c e)⟩
    bs:=I.bs
    m5:=iy I.ok.m5 I.sz
    sY:=fun b o e hb=>by
     rcases(hf b hb).2.2.2.1 with z|z
     ·exact I.ok.sY b o e z
     ·exact absurd (g9 (cB e) (iy I.ok.m5 z)) (pO _)
    qP:=fun b hb z=>by
     obtain⟨_,q1,q2,_⟩:=hf b hb;rcases bN.mp (RH b z)with e|e
     ·exact q1 e
     ·exact q2 e
    jC:=I.stack
    ny:=I.Ah};refine⟨ok,rfl,I.bare,Un.kept hk,⟨_,hn,fun i x v e1 e2 e3=>?_⟩,fun x c e=>?_,I.aX.fresh (bK _),fun x c e=>I.jX x c (c1 x c e),fun p hp=>?_,I.aX.kept hk,?_⟩
  · have wF:(js.map fun|none=>none|some j=>(Z[j]?).join)[i]? =some (some v):=e2
    rw[cA]at wF;cases hj:js[i]? with |none=>rw[hj]at wF;cases wF |some o=>rw[hj]at wF;cases o with |none=>cases wF |some j=>
        have hz:(N.zip js)[i]? =some (x,some j):=by rw[xi];exact⟨e1,hj⟩
        have T5:=iQ.mp n2 _ (gG hz);simp only[fh,fS]at T5;obtain⟨⟨h1,h2⟩,h3⟩:=T5;have Cc:(Z[j]?).join=some v:=by simpa using wF
        have hσ:Z[j]? =some (some v):=by cases q:Z[j]? with |none=>rw[q]at Cc;cases Cc |some o=>
           rw[q]at Cc;have:o=some v:=by simpa using Cc
           rw[this]
        obtain⟨m,hm,hl⟩:=I.loc;obtain⟨u,r,l⟩:=hl j x v h1 hσ (.inr (.inl h3));refine⟨u,r,?_⟩;rcases l with⟨k,_⟩|⟨_,c,hc,mj⟩
        ·rw[h3]at k;cases k
        · obtain⟨c',iI⟩:=c2 (x,.free) (lookup_mem h2) rfl
          have:=c1 x c' iI;rw[hc]at this;cases this;refine .inr ⟨.inl (PN a69 h3 h2),c,iI,?_⟩;obtain⟨ob,ho,hd⟩:=mj;exact⟨ob,hk _ _ ho,hd⟩
  · obtain⟨v,ob,ho,hd⟩:=I.cell x c (c1 x c e)
    exact⟨v,ob,hk _ _ ho,hd⟩
  · have wa:p∈X.pn++au:=by simpa[fQ]using hp
    obtain⟨a1,a2,a3,a4,a5⟩:=I.pin p wa;refine⟨hk _ _ a1,a2,fC (cB a1),fun z=>?_,a5⟩;rcases bN.mp (RH p.1 z)with e|e
    ·exact a3 e
    ·exact a4 e
  · show(js.map _).length=N.length
    rw[cu,hlen]
end
theorem SR{prog:ah}{w:World}{A:aj}{R:Result->ae->Prop}{s:ae}{elt target iter:Expr}{ifs:List Expr}{scope:Scope}{pos:Pos}{it acc:Value}{env:Env}(I:Nat->ae->Prop) (turn:∀n s,I n s->wpAny (model prog w) A (pyNext it) (fun r s₁=>match r with |none=>R (.ok .next) s₁ |some v=>wpAny (model prog w) A (letOwnedTupleGo target it v) (fun _ s₁=>wpAny (model prog w) A (assign target env v) (fun _ s₂=>wpAny (model prog w) A (forIn ifs true fun c r=>if r=true then do let ok<-isTrue c env (eval c env);pure (ForInStep.yield ok)else pure (ForInStep.yield r)) (fun ok s₃=>if ok=true then wpAny (model prog w) A (eval elt env) (fun x s₄=>wpAny (model prog w) A (call (.builtin "list.append") [acc,x]) (fun _ s₅=>∃m,m<n/\I m s₅) (fun _ _=>False) s₄) (fun _ _=>False) s₃ else∃m,m<n/\I m s₃) (fun _ _=>False) s₂) (fun _ _=>False) s₁) (fun _ _=>False) s₁) (fun _ _=>False) s) (n:Nat)(h:I n s):codeAny (model prog w) A (.compLoop (.ListComp elt [⟨target,iter,ifs,0⟩] scope pos) 0 it acc env) R s:=by refine codeAny_loop rfl I (fun n s hI=>?_) n h;show wpAny _ A ((compTurn (.ListComp elt [⟨target,iter,ifs,0⟩] scope pos) 0 it acc env).onRaise (fun x=>do noteFrame x env;theTreesLotGoes x)) _ _ s;refine wpAny_noted ?_;rw[compTurn_list];refine aQ (wpAny_standAt (aQ (jH (turn n s hI) (fun r s₁ h₁=>?_) fun _ _ h'=>h'.elim)));cases r with |none=>exact cn h₁ |some v=>refine aQ (jH h₁ (fun _ ac6 h₁=>?_) fun _ _ h'=>h'.elim);refine aQ (jH h₁ (fun _ s₂ h₂=>aQ (jH h₂ (fun ok s₃ h₃=>?_) fun _ _ h'=>h'.elim)) fun _ _ h'=>h'.elim);cases ok with |false=>exact cn ⟨rfl,h₃⟩ |true=>exact aQ (aQ (jH h₃ (fun x s₄ h₄=>aQ (jH h₄ (fun _ s₅ h₅=>cn (cn ⟨rfl,h₅⟩)) fun _ _ h'=>h'.elim)) fun _ _ h'=>h'.elim))
def JR(X:Cx)(ifs:List Expr)(t:TT):Prop:=∀(au:List (Addr×Obj))(s:ae)(Z:St)(H:Hp)(Q:Bool->Hp->Prop),Inv X au Z H s->t Z H Q->wpAny (model X.prog X.w) X.A (forIn ifs true fun c r=>if r=true then do let ok<-isTrue c X.env (eval c X.env);pure (ForInStep.yield ok)else pure (ForInStep.yield r)) (TP X au Z Q) X.xe s
def hJ:TT:=fun _ H Q=>Q true H
theorem fF{X:Cx}:JR X [] hJ:=fun _ _ _ H _ I h=>wpAny_tests_nil ⟨H,I,h⟩
def iP(J:It)(g:TG)(tt:TT)(te:TE)(Q:VK)(D:Addr)(Z:St)(H:Hp):Prop:=∃W:Nat->Nat->St->Hp->Prop,(∃m,W 0 m Z H)/\∀i m σ' H',W i m σ' H'->(J.stop i H'/\Q (.ref D) H')\/(J.go i H'/\∀x H2,J.jL i H' x H2->g x σ' H2 fun σ3 H3=>tt σ3 H3 fun ok H4=>if ok=true then te σ3 H4 fun y H5=>∃ys,H5 D=some (.lst ys)/\ys.length<sizeLine/\∃m',m'<m/\W (i+1) m' σ3 (upd H5 D (.lst (ys++[y]))) else∃m',m'<m/\W (i+1) m' σ3 H4)
def Lq(js:List (Option Nat))(wi:TI)(g:TG)(tt:TT)(te:TE):TE:=fun Z H Q=>wi Z H fun J H1=>∀D H2,Nw H1 H2 D (.lst [])->iP J g tt te Q D (stC js Z) H2
theorem dJ.but{P:ah}{w:World}{H:Hp}{h h':Heap}{C:Addr}(ok:dJ P w H h)(hn:H C=none)(hs:Heap.SameBut C h h'):dJ P w H h':=fun b ob e=>by
 refine(ok b ob e).m7 (fun c w' hc q=>(hs.2 c ?_).trans q) (fun _ q=>q) fun _ _ q=>q;rintro rfl;rcases hc with rfl|hc
 ·rw[hn]at e;cases e
 ·rw[hn]at hc;cases hc
set_option maxHeartbeats 1000000 in
theorem gd{X:Cx}{N:List Str}{js:List (Option Nat)}{elt tg iter:Expr}{ifs:List Expr}{scope:Scope}{pos:Pos}{wi:TI}{g:TG}{tt:TT}{te:TE}(hc:X.calm=true)(hN:Cj X N js scope=true)(hS:wJ X scope=true) (hi:PI X tg iter wi)(hg:∀cl s H fp au,PG (fQ X N scope cl s H fp au) tg g)(ht:∀cl s H fp au,JR (fQ X N scope cl s H fp au) ifs tt)(he:∀cl s H fp au,PE (fQ X N scope cl s H fp au) elt te) (hs:∀x,foldedSetIterable iter X.env x=pure x:=by intro _;rfl):PE X (.ListComp elt [⟨tg,iter,ifs,0⟩] scope pos) (Lq js wi g tt te):=by
  intro au s Z H Q I h;have tZ:=hS;unfold wJ at tZ;rw[fh,fh]at tZ;obtain⟨⟨k1,k2⟩,k3⟩:=tZ;have oX:scope.kind= .function:=fS.mp k1;have wk:∀x∈scope.names,x.2= .free->∃c,X.env.cells.lookup x.1=some c:=fun x hx e=>by have:=iQ.mp k3 x hx;rw[e]at this;exact I.ok.has x.1 (.inl (fS.mp this))
  have mj:∀x∈scope.names,x.2≠ .cell:=fun x hx e=>by have:=iQ.mp k3 x hx;rw[e]at this;exact kr this
  have HV:∀x∈scope.names,x.2= .local->scope.names.lookup x.1=some .local:=fun x hx e=>by have:=iQ.mp k3 x hx;rw[e]at this;exact fS.mp this
  obtain⟨cl,Il,c1,c2⟩:=SW wk;rw[eval_ListComp];refine wpAny_comprehension_free (use:=none) rfl hs Il oX HV (aY (hi au s Z H _ I h) fun v s1 h1=>aY h1 fun Bo s2 h2=>?_);obtain⟨it,fp,tn,J,H2,e,I2,T,rZ,f2,h2⟩:=h2;subst e;have hD:H2 s2.heap.objs.size=none:=I2.aX.fresh (bK _);obtain⟨W,⟨m0,w0⟩,turn⟩:=h2 _ _ (Nw.of hD);refine pJ (Wq mj (by intro y hy;simp at hy) (fun h₁ yI yE=>?_) oX);have uf:∀b∈fp,b<s2.heap.objs.size:=fun b hb=>by obtain⟨o,e,_⟩:=T.obj _ _ rZ b hb;exact cB e
  have I3:Inv X au Z (upd H2 s2.heap.objs.size (.lst [])) {s2 with heap:=s2.heap.push {cls:=.type "list",dict:=none,data:=.seq ([]:List Value).toArray}}:=I2.PV (its:=[]) (t':=s2.toks) .nil (fZ _);generalize yO:s2.heap.push {cls:=.type "list",dict:=none,data:=.seq ([]:List Value).toArray}=h3 at I3 yI yE;have xB:h3.objs.size=s2.heap.objs.size+1:=by rw[<-yO,rQ]
  have Hn:∀b o,s2.heap.get? b=some o->h3.get? b=some o:=fun b o e=>by rw[<-yO];exact cy _ e
  have f3:∀b∈fp,lK X au (upd H2 s2.heap.objs.size (.lst [])) b:=fun b hb=>⟨by rw[aK (fC (uf b hb))];exact(f2 b hb).1,(f2 b hb).2⟩;have yy:∀b o,h3.get? b=some o->h₁.get? b=some o:=fun b o e=>(yE.2 b (fC (cB e))).trans (cy _ e);have I4:Inv (fQ X N scope cl {s2 with heap:=h3} (upd H2 s2.heap.objs.size (.lst [])) fp au) [] (stC js Z) (upd H2 s2.heap.objs.size (.lst [])) {s2 with heap:=h₁,toks:=s2.toks+([]:List (Str×Value)).length}:=I3.comp (s:={s2 with heap:=h3}) hN hS c1 c2 f3 (fun b hb=>by show b<h3.objs.size;rw[xB];exact Kg (uf b hb)) (by simpa using yI) yy;have xD:tn 0 h₁:=T.keep _ _ _ rZ fun b _ o e=>yy b o (Hn b o e);have loop:codeAny (model X.prog X.w) X.A (.compLoop (.ListComp elt [⟨tg,iter,ifs,0⟩] scope pos) 0 (.ref it) (.ref s2.heap.objs.size) (compEnvC scope cl h3.objs.size X.env)) (compPost (model X.prog X.w) X.A X.xe none (EP X au Z Q) (.ref s2.heap.objs.size) h3.objs.size) {s2 with heap:=h₁,toks:=s2.toks+([]:List (Str×Value)).length}:=by
    refine SR (fun n s'=>∃i σ' H',Inv (fQ X N scope cl {s2 with heap:=h3} (upd H2 s2.heap.objs.size (.lst [])) fp au) [] σ' H' s'/\tn i s'.heap/\(∀b∈fp,H' b=none)/\W i n σ' H') ?_ m0 ⟨0,_,_,I4,xD,fun b hb=>(f3 b hb).1,w0⟩;rintro n s5 ⟨i,σ5,H5,I5,oA,ud,w5⟩;have m8:∀{H':Hp},(∀b∈fp,H' b=none)->∀b∈fp,lK (fQ X N scope cl {s2 with heap:=h3} (upd H2 s2.heap.objs.size (.lst [])) fp au) [] H' b:=fun{H'} hn b hb=>by
     obtain⟨_,q1,q2,q3,q4,q5⟩:=f3 b hb;refine⟨hn b hb,fun z=>?_,I4.ok.qP b hb,.inl hb,fun x c e=>q4 x c (c1 x c e),fun p hp=>q5 p (by simpa[fQ]using hp)⟩;have cx:b<h3.objs.size:=by rw[xB];exact Kg (uf b hb)
     exact fC cx z
    rcases turn i n σ5 H5 w5 with⟨stop,qn⟩|⟨go,step⟩
    · refine aY (T.done (fQ X N scope cl {s2 with heap:=h3} (upd H2 s2.heap.objs.size (.lst [])) fp au) rfl rfl rfl hc i [] s5 σ5 H5 _ I5 (m8 ud) oA stop) fun r s6 ⟨hr,I6⟩=>?_
      subst hr;obtain⟨m,hm,_⟩:=I6.loc;refine⟨m,hm,fun h7 Bu=>?_⟩;have u0:Un (dj X.stack) fp (upd H2 s2.heap.objs.size (.lst [])) H5 h3 s6.heap:=I6.base;have ne:∀b o,h3.get? b=some o->b≠h3.objs.size:=fun b o e=>fC (cB e);have u:Un (dj X.stack) fp (upd H2 s2.heap.objs.size (.lst [])) H5 h3 h7:=⟨fun b o e n hb hx=>(Bu.2 b (ne b o e)).trans (u0.keep b o e n hb hx),fun b o e n hb hx=>let⟨sl,q⟩:=u0.slot b o e n hb hx;⟨sl,(Bu.2 b (ne b o e)).trans q⟩,u0.free,fun b o e hx=>let⟨o',q⟩:=u0.there b o e hx;⟨o',(Bu.2 b (ne b o e)).trans q⟩,u0.ku,u0.jW,u0.jN⟩;have I7:Inv X au Z H5 {s6 with heap:=h7}:=I3.Ck (s':={s6 with heap:=h7}) (ch:=fp) I6.os u (I6.aX.but I6.free Bu) I6.bare fun b hb=>⟨(f3 b hb).2.2.2.1,(f3 b hb).2.1,(f3 b hb).2.2.2.2.1,(f3 b hb).2.2.2.2.2⟩;exact⟨.ref s2.heap.objs.size,H5,I7,rfl,qn⟩
    · refine aY (T.item (fQ X N scope cl {s2 with heap:=h3} (upd H2 s2.heap.objs.size (.lst [])) fp au) rfl rfl rfl hc i [] s5 σ5 H5 _ I5 (m8 ud) oA go) fun r s6 ⟨u,hr,h6⟩=>?_
      subst hr;refine aY h6 fun _ s7 ⟨x,H7,I7,r7,y7,oz,IL⟩=>?_;have JZ:=I7.pinned (m8 IL) (T.obj _ _ oz);refine aY (hg _ _ _ _ _ _ s7 σ5 H7 x u _ JZ r7 (step x H7 y7)) fun _ s8 ⟨σ8,H8,I8,q8⟩=>?_;refine aY (ht _ _ _ _ _ _ s8 σ8 H8 _ I8 q8) fun ok s9 ⟨H9,I9,q9⟩=>?_;have again:∀{s':ae}{σ7:St}{H7:Hp},Inv (fQ X N scope cl {s2 with heap:=h3} (upd H2 s2.heap.objs.size (.lst [])) fp au) ([]++vk fp s7.heap) σ7 H7 s'->(∃m',m'<n/\W (i+1) m' σ7 H7)->∃m,m<n/\∃i σ' H',Inv (fQ X N scope cl {s2 with heap:=h3} (upd H2 s2.heap.objs.size (.lst [])) fp au) [] σ' H' s'/\tn i s'.heap/\(∀b∈fp,H' b=none)/\W i m σ' H':=fun{s' σ7 H7} J7 n7=>by obtain⟨m',hm,w7⟩:=n7;refine⟨m',hm,i+1,σ7,H7,J7.xp,T.keep _ _ _ oz fun b hb o e=>(J7.pin (b,o) (lL _ (lL _ (vO hb e)))).1,fun b hb=>?_,w7⟩;obtain⟨o,e,d⟩:=T.obj _ _ oz b hb;exact(J7.pin (b,o) (lL _ (lL _ (vO hb e)))).2.1
      cases ok with |false=>rw[bf kr]at q9⊢;exact again I9 q9 |true=>rw[bc rfl]at q9⊢;refine aY (he _ _ _ _ _ _ s9 σ8 H9 _ I9 q9) fun yv mR ⟨y,jF,wW,Gh,ys,oU,hz,kK⟩=>?_;refine aY (GU _ mR σ8 jF (.ref s2.heap.objs.size) [y] (.ref s2.heap.objs.size) [yv] (fun _ iO=>∃m',m'<n/\W (i+1) m' σ8 iO) wW rfl (.cons Gh .nil) ⟨_,ys,y,rfl,rfl,oU,hz,kK⟩) fun _ Az ⟨v11,iO,K0,r11,xU⟩=>?_;exact again K0 xU
  exact codeAny_compStart_list loop (T.self _ 0 _ _ _ xD loop)
theorem Jw:∀{bs:List Bool}{us:List Value},Vals (bs.map V.bl) us->us=bs.map Value.bool |[],_,.nil=>rfl |b::r,_,.cons q t=>by cases(show _=Value.bool b from q);rw[Jw t];rfl
section
variable {X:Cx}
theorem aaP(hc:X.calm=true):fy X (.builtin "all") (fun xs H Q=>∃(l:Addr)(bs:List Bool),xs=[.ref l]/\aF X.K H l (bs.map V.bl)/\Q (.bl (bs.all id)) H):=by
 intro au s Z H xs us Q I r h;obtain⟨l,bs,rfl,hl,q⟩:=h;obtain⟨u,rfl,ru⟩:=vals1 r;cases(show u=Value.ref l from ru);obtain⟨its,rv,pl,hz⟩:=I.list hl;have e:=Jw rv;subst e;have dX:=pl.isList;have cx:l<s.heap.objs.size:=by obtain⟨_,e,_⟩:=dX;exact cB e
 have hh:=I.ok.hd hc;refine call_all_walk (CN dX ?_);refine⟨s.heap.objs.size,[s.heap.objs.size,l],[s.heap.objs.size],(bs.map Value.bool).toArray.size,_,_,fun i=>(bs[i]?).getD true,rfl,Walks.list (A:=X.A.in1) hh _ l (fC cx) (bs.map Value.bool).toArray,⟨⟨_,eO _ rfl,rfl,rfl⟩,dX.push _⟩,fun i v s' Q' E' hP hQ=>?_,fun h' tk hk=>?_⟩
 · have mq:(bs.map Value.bool)[i]? =some v:=by simpa using hP
   rw[cA]at mq;cases e:bs[i]? with |none=>rw[e]at mq;cases mq |some b=>rw[e]at mq;cases mq;simp only[e,Option.getD_some]at hQ;exact pI hQ
 · have e:((List.range (bs.map Value.bool).toArray.size).all fun i=>(bs[i]?).getD true)=bs.all id:=by rw[ek,cu];exact LSm.range_all bs
   rw[e];exact⟨.bl _,H,I.kept (LSm.kept_iter hk),rfl,q⟩
theorem aaO(hc:X.calm=true):fy X (.builtin "any") (fun xs H Q=>∃(l:Addr)(bs:List Bool),xs=[.ref l]/\aF X.K H l (bs.map V.bl)/\Q (.bl (bs.any id)) H):=by
 intro au s Z H xs us Q I r h;obtain⟨l,bs,rfl,hl,q⟩:=h;obtain⟨u,rfl,ru⟩:=vals1 r;cases(show u=Value.ref l from ru);obtain⟨its,rv,pl,hz⟩:=I.list hl;have e:=Jw rv;subst e;have dX:=pl.isList;have cx:l<s.heap.objs.size:=by obtain⟨_,e,_⟩:=dX;exact cB e
 have hh:=I.ok.hd hc;refine call_any_walk (CN dX ?_);refine⟨s.heap.objs.size,[s.heap.objs.size,l],[s.heap.objs.size],(bs.map Value.bool).toArray.size,_,_,fun i=>(bs[i]?).getD false,rfl,Walks.list (A:=X.A.in1) hh _ l (fC cx) (bs.map Value.bool).toArray,⟨⟨_,eO _ rfl,rfl,rfl⟩,dX.push _⟩,fun i v s' Q' E' hP hQ=>?_,fun h' tk hk=>?_⟩
 · have mq:(bs.map Value.bool)[i]? =some v:=by simpa using hP
   rw[cA]at mq;cases e:bs[i]? with |none=>rw[e]at mq;cases mq |some b=>rw[e]at mq;cases mq;simp only[e,Option.getD_some]at hQ;exact pI hQ
 · have e:((List.range (bs.map Value.bool).toArray.size).any fun i=>(bs[i]?).getD false)=bs.any id:=by rw[ek,cu];exact LSm.range_any bs
   rw[e];exact⟨.bl _,H,I.kept (LSm.kept_iter hk),rfl,q⟩
end
theorem qT{J:It}{g:TG}{tt:TT}{te:TE}{Q:VK}{D:Addr}{Z:St}{H:Hp}(n:Nat)(Pv:Nat->St->Hp->Prop)(h0:Pv 0 Z H) (hs:∀i Z H,i<n->Pv i Z H->J.go i H/\∀x H2,J.jL i H x H2->g x Z H2 fun σ3 H3=>tt σ3 H3 fun ok H4=>if ok=true then te σ3 H4 fun y H5=>∃ys,H5 D=some (.lst ys)/\ys.length<sizeLine/\∃m',m'<n-i/\m'=n-(i+1)/\i+1<=n/\Pv (i+1) σ3 (upd H5 D (.lst (ys++[y]))) else∃m',m'<n-i/\m'=n-(i+1)/\i+1<=n/\Pv (i+1) σ3 H4) (hd:∀Z H,Pv n Z H->J.stop n H/\Q (.ref D) H): iP J g tt te Q D Z H:=by
  refine⟨fun i m Z H=>m=n-i/\i<=n/\Pv i Z H,⟨n,by simp,fZ _,h0⟩,?_⟩;rintro i m Z H ⟨rfl,hi,p⟩;by_cases cx:i<n
  ·exact .inr (hs i Z H cx p)
  · have e:i=n:=by lia
    subst e;exact .inl (hd Z H p)
section
variable {X:Cx} {tg:Expr}
theorem ixK(K:aa)(h:X.K=K):pH X (fun x y H Q=>Gd K x y H Q\/Gb K x y H Q):=by subst h;exact a4T.or a4R
inductive VB(K:aa)(x:V)(lo:Option Int)(hi:Option Int)(H:Hp)(Q:VK):Prop |mk (a:_)(xs:_)(h0:x= .ref a)(h1:((aF K H a xs/\∀p H',Nw H H' p (.lst (my xs lo hi))->Q (.ref p) H')\/ (aP K H a xs/\¬(HT.cw xs.length 0 lo=0/\HT.cw xs.length xs.length hi=xs.length)/\∀p H',Nw H H' p (.tup (my xs lo hi))->Q (.ref p) H'))):VB K x lo hi H Q
def a0c(K:aa):V->Option Int->Option Int->Hp->VK->Prop:=fun x lo hi H Q=>VB K x lo hi H Q
theorem DY(K:aa)(h:X.K=K):CC X (a0c K):=by
 subst h;intro au s Z H x v vl vu lo hi sl Q I rx hs pl pu hq;obtain⟨a,xs,e,hq⟩:=hq;rcases hq with⟨h1,k⟩|⟨h1,h2,k⟩
 ·exact YB au s Z H x v vl vu lo hi sl Q I rx hs pl pu ⟨a,xs,e,h1,fun p hp=>k p _ (.of hp)⟩
 ·exact YA au s Z H x v vl vu lo hi sl Q I rx hs pl pu ⟨a,xs,e,h1,h2,fun p hp=>k p _ (.of hp)⟩
theorem a4t(K:aa)(h:X.K=K):fy X (.builtin "len") (fun xs H Q=>∃p ys,xs=[.ref p]/\(aF K H p ys\/aP K H p ys)/\Q (.int ys.length) H):=by subst h;exact aaL
theorem a50(K:aa)(h:X.K=K):fy X (.builtin "isinstance") (fun xs H Q=>Gf K xs H Q\/Ge K xs H Q):=by subst h;exact aaN.or aaM
theorem cQ(K:aa)(h:X.K=K)(hu:X.A.units+64<cLine):dk X (compareOp .Eq) (fun x y H Q=>ky (fun i j=>.bl (decide (i=j))) x y H Q\/Gg K x y H Q):=by subst h;exact a1v hu
theorem jv(K:aa)(h:X.K=K)(hu:X.A.units+64<cLine):dk X (compareOp .NotEq) (fun x y H Q=>ky (fun i j=>.bl (!decide (i=j))) x y H Q\/Ga K x y H Q):=by subst h;exact a1q hu
theorem pF(K:aa)(h:X.K=K)(hc:X.calm=true):fy X (.builtin "all") (fun xs H Q=>∃(l:Addr)(bs:List Bool),xs=[.ref l]/\aF K H l (bs.map V.bl)/\Q (.bl (bs.all id)) H):=by subst h;exact aaP hc
theorem TK(K:aa)(h:X.K=K)(hc:X.calm=true):fy X (.builtin "any") (fun xs H Q=>∃(l:Addr)(bs:List Bool),xs=[.ref l]/\aF K H l (bs.map V.bl)/\Q (.bl (bs.any id)) H):=by subst h;exact aaO hc
theorem Hf(K:aa)(h:X.K=K):fy X (.type "list") (fun xs H Q=>∃p ys,xs=[.ref p]/\(aF K H p ys\/aP K H p ys)/\∀l H',Nw H H' l (.lst ys)->Q (.ref l) H'):=by subst h;intro au s Z H xs us Q I r hq;obtain⟨p,ys,e,h1,k⟩:=hq;exact aaJ au s Z H xs us Q I r ⟨p,ys,e,h1,fun l hl=>k l _ (.of hl)⟩
theorem kL(K:aa)(h:X.K=K):fy X (.type "tuple") (fun xs H Q=>∃p ys,xs=[.ref p]/\((aF K H p ys/\∀l H',Nw H H' l (.tup ys)->Q (.ref l) H')\/(aP K H p ys/\Q (.ref p) H))):=by subst h;intro au s Z H xs us Q I r hq;obtain⟨p,ys,e,h1⟩:=hq;exact aaE au s Z H xs us Q I r ⟨p,ys,e,h1.imp (fun⟨a,k⟩=>⟨a,fun l hl=>k l _ (.of hl)⟩) id⟩
def XF(t:TA):TE:=fun Z H Q=>t Z H fun xs H1=>xs.length<=sizeLine/\∀p H',Nw H1 H' p (.tup xs)->Q (.ref p) H'
def XY(t:TA):TE:=fun Z H Q=>t Z H fun xs H1=>xs.length<=sizeLine/\∀p H',Nw H1 H' p (.lst xs)->Q (.ref p) H'
theorem dS{es:List Expr}{t:TA}{pos:Pos} {x1}(h:PA X es t):PE X (.Tuple es x1 pos) (XF t):=by intro au s Z H Q I hq;refine wpAny_Tuple_spliced (aY (h pos au s Z H _ I hq) fun us s1 ⟨xs,H1,I1,r,z,q⟩=>⟨by rw[<-r.length];exact z,?_⟩);have hf:H1 s1.heap.objs.size=none:=I1.aX.fresh (bK _);refine⟨.ref s1.heap.objs.size,upd H1 s1.heap.objs.size (.tup xs),I1.laid (t':=s1.toks) (fun b u e=>cy _ e) (bK _) ?_,rfl,q _ _ (.of hf)⟩;exact⟨z,us,r,⟨_,eO _ rfl,rfl,_,rfl⟩⟩
theorem dv{es:List Expr}{t:TA}{pos:Pos}(h:PA X es t):PE X (.List es pos) (XY t):=by intro au s Z H Q I hq;refine wpAny_List_spliced (aY (h pos au s Z H _ I hq) fun us s1 ⟨xs,H1,I1,r,z,q⟩=>⟨by rw[<-r.length];exact z,?_⟩);have hf:H1 s1.heap.objs.size=none:=I1.aX.fresh (bK _);refine⟨.ref s1.heap.objs.size,upd H1 s1.heap.objs.size (.lst xs),I1.laid (t':=s1.toks) (fun b u e=>cy _ e) (bK _) ?_,rfl,q _ _ (.of hf)⟩;exact⟨z,us,0,r,eO _ rfl⟩
theorem xW(K:aa)(h:X.K=K){l:Expr}{tl:TE}(hl:PE X l tl):PI X tg l (Qr K tl):=by subst h;exact a0L hl
theorem qj(K:aa)(h:X.K=K){l:Expr}{tl:TE}(hl:PE X l tl):PI X tg l (Qq K tl):=by subst h;exact a0H hl
theorem dR(K:aa)(h:X.K=K){es:List Expr}{k:Nat}{t:nS}{n:Nat}{pos:Pos}(hc:X.calm=true)(hg:zq X es t)(hn:(assignEach es X.env).length=n:=by rfl)(gQ:(assignEach es X.env).findIdx? (·.1)=none:=by rfl): PG X (.Tuple es k pos) (p8 K n t):=by subst h;exact a0N hc hg hn gQ
theorem jq(K:aa)(h:X.K=K){o e:Expr}{to:TE}{t:TA}{apos cC:Pos}(ho:PE X o to)(ha:PA X [e] t) (ji:attributeBase o "append" X.env (eval o X.env)=eval o X.env:=by rfl) (lg:((backTo cC (starEach [e] X.env)).all (fun x=>!x.1)&&(backToKw cC (keywordEach [] X.env)).all (fun x=>x.1.isSome) &&decide ([e].length+([]:List Keyword).length+(if([]:List Keyword).isEmpty then 0 else 1)<30))=true:=by rfl) (jg:(apos.endLine==cC.line)=true:=by rfl)(hs:starEach [e] X.env=(false,eval e X.env)::starEach [] X.env:=by rfl)(kZ:(backTo cC (starEach [] X.env)).any (·.1)=false:=by rfl): PE X (.Call (.Attribute o "append" apos) [e] [] cC) (rY K "list" Ol to t):=by subst h;exact vm zH PySem.F.slot_list_append PySem.F.type_list_append GU ho ha ji lg jg hs kZ
theorem zU{j:Nat}{x:V}{Z:St}{H:Hp}{A B:St->Hp->Prop}(h:A (Z.set j (some x)) H):eZ j x Z H fun σ3 H3=>hJ σ3 H3 fun ok H4=>if ok=true then A σ3 H4 else B σ3 H4:=by show if true=true then A (Z.set j (some x)) H else B (Z.set j (some x)) H;rw[bc rfl];exact h
theorem yes{Z:St}{H:Hp}{Q:Bool->Hp->Prop}(h:Q true H):hJ Z H Q:=h
end
theorem aF.go{K:aa}{H H':Hp}{a:Addr}{xs:List V}(s:aE H H')(h:aF K H a xs):aF K H' a xs:=h.imp (fun r=>r.imp (s _ _) fun⟨o,e⟩=>⟨o,s _ _ e⟩) id
theorem aP.go{K:aa}{H H':Hp}{a:Addr}{xs:List V}(s:aE H H')(h:aP K H a xs):aP K H' a xs:=h.imp (fun r=>r.imp (s _ _) fun⟨o,e⟩=>⟨o,s _ _ e⟩) id
mutual
theorem RD.mono{K:aa}{H H':Hp}(s:aE H H'):∀{x:V}(d:ai),RD K H x d->RD K H' x d |x,.none,h=>by simpa[RD]using h |x,.bool b,h=>by simpa[RD]using h |x,.int i,h=>by simpa[RD]using h |x,.str y,h=>by simpa[RD]using h |x,.list ds,h=>by rw[RD]at h⊢;obtain⟨a,xs,e,h1,h2⟩:=h;exact⟨a,xs,e,h1.go s,aJ.mono s ds h2⟩ |x,.tuple ds,h=>by rw[RD]at h⊢;obtain⟨a,xs,e,h1,h2⟩:=h;exact⟨a,xs,e,h1.go s,aJ.mono s ds h2⟩ |x,.dict _,h=>by simp[RD]at h
theorem aJ.mono {K:aa}{H H':Hp}(s:aE H H'):∀{xs:List V}(ds:List ai),aJ K H xs ds->aJ K H' xs ds |xs,[],h=>by simpa[aJ]using h |xs,d::ds,h=>by rw[aJ]at h⊢;obtain⟨y,ys,e,h1,h2⟩:=h;exact⟨y,ys,e,RD.mono s d h1,aJ.mono s ds h2⟩
end
section
variable {K:aa} {H H':Hp}
theorem aJ.nil_inv{xs:List V}(h:aJ K H xs []):xs=[]:=by simpa[aJ]using h
theorem aJ.cons_inv{xs:List V}{d:ai}{ds:List ai}(h:aJ K H xs (d::ds)):∃y ys,xs=y::ys/\RD K H y d/\aJ K H ys ds:=by rw[aJ]at h;exact h
theorem RD.eu{x:V}{ds:List ai}(h:RD K H x (.tuple ds)):∃a xs,x= .ref a/\aP K H a xs/\aJ K H xs ds:=by rw[RD]at h;exact h
theorem RD.lst_inv{x:V}{ds:List ai}(h:RD K H x (.list ds)):∃a xs,x= .ref a/\aF K H a xs/\aJ K H xs ds:=by rw[RD]at h;exact h
theorem RD.int_inv{x:V}{i:Int}(h:RD K H x (.int i)):x= .int i:=by rw[RD]at h;exact h
theorem RD.aaZ{x:V}{i:Bool}(h:RD K H x (.bool i)):x= .bl i:=by rw[RD]at h;exact h
theorem RD.str_inv{x:V}{i:Str}(h:RD K H x (.str i)):x= .str i:=by rw[RD]at h;exact h
theorem RD.P8{x:V}(h:RD K H x .none):x= .bo:=by rw[RD]at h;exact h
theorem aJ.length:∀{xs:List V}{ds:List ai},aJ K H xs ds->xs.length=ds.length |xs,[],h=>by rw[h.nil_inv];rfl |xs,d::ds,h=>by obtain⟨y,ys,rfl,_,h2⟩:=h.cons_inv;rw[kn,kn,aJ.length h2]
theorem aJ.append:∀{xs ys:List V}{ds es:List ai},aJ K H xs ds->aJ K H ys es->aJ K H (xs++ys) (ds++es) |xs,ys,[],es,h,g=>by rw[h.nil_inv];exact g |xs,ys,d::ds,es,h,g=>by obtain⟨y,zs,rfl,h1,h2⟩:=h.cons_inv;exact bW h1 (aJ.append h2 g)
theorem aJ.drop:∀(n:Nat){xs:List V}{ds:List ai},aJ K H xs ds->aJ K H (xs.drop n) (ds.drop n) |0,xs,ds,h=>h |n+1,xs,[],h=>by rw[h.nil_inv];exact cU |n+1,xs,d::ds,h=>by obtain⟨y,zs,rfl,h1,h2⟩:=h.cons_inv;exact aJ.drop n h2
theorem aJ.get:∀(n:Nat){xs:List V}{ds:List ai}{d:ai},aJ K H xs ds->ds[n]? =some d->∃x,xs[n]? =some x/\RD K H x d
  |n,xs,[],d,h,e=>by simp at e |0,xs,d'::ds,d,h,e=>by
    obtain⟨y,zs,rfl,h1,h2⟩:=h.cons_inv;have e':d'=d:=by simpa using e
    subst e';exact⟨y,rfl,h1⟩ |n+1,xs,d'::ds,d,h,e=>by obtain⟨y,zs,rfl,h1,h2⟩:=h.cons_inv;exact aJ.get n h2 (by simpa using e)
theorem aJ.get'(n:Nat){xs:List V}{ds:List ai}{x:V}(h:aJ K H xs ds)(e:xs[n]? =some x):∃d,ds[n]? =some d/\RD K H x d:=by
 have hl:n<ds.length:=by rw[<-h.length];exact(dM.mp e).1
 obtain⟨y,e1,r⟩:=h.get n (cj hl);rw[e]at e1;cases e1;exact⟨_,cj hl,r⟩
def mI:ai->String | .none=>"NoneType" | .bool _=>"bool" | .int _=>"int" | .str _=>"str" | .list _=>"list" | .tuple _=>"tuple" | .dict _=>"dict"
theorem RD.ty{x:V}:∀{d:ai},RD K H x d->uw K H x (mI d) | .none,h=>by rw[h.P8];rfl | .bool b,h=>by rw[h.aaZ];rfl | .int b,h=>by rw[h.int_inv];rfl | .str b,h=>by rw[h.str_inv];rfl | .list ds,h=>by obtain⟨a,xs,rfl,h1,_⟩:=h.lst_inv;exact .inl ⟨rfl,xs,h1⟩ | .tuple ds,h=>by obtain⟨a,xs,rfl,h1,_⟩:=h.eu;exact .inr ⟨rfl,xs,h1⟩ | .dict _,h=>by simp[RD]at h
structure dw(n:Nat)(d:ai):Prop where
 lay:d.canLay0=true
 dep:d.depth<=n
def gy(n:Nat)(ds:List ai):Prop:=∀d∈ds,dw n d
theorem dw.le{n m:Nat}{d:ai}(h:dw n d)(l:n<=m):dw m d:=⟨h.lay,iy h.dep l⟩
theorem vv{n:Nat}:∀{ds:List ai},gy n ds↔(PyData.canLayAll0 ds=true/\PyData.depthAll ds<=n)
  |[]=>⟨fun _=>⟨rfl,fZ _⟩,fun _ _ h=>nomatch h⟩ |d::ds=>by
    have ih:=vv (n:=n) (ds:=ds);simp only[PyData.canLayAll0,PyData.depthAll,fh];constructor
    · intro h
      have h1:=h d (.head _);have h2:=ih.mp fun x hx=>h x (.tail _ hx);exact⟨⟨h1.lay,h2.1⟩,Nat.max_le.mpr ⟨h1.dep,h2.2⟩⟩
    · rintro⟨⟨a,b⟩,c⟩ x hx
      have c':=Nat.max_le.mp c;rcases bN.mp hx with rfl|hx
      ·exact⟨a,c'.1⟩
      ·exact ih.mpr ⟨b,c'.2⟩ x hx
theorem gy.tup{n:Nat}{ds:List ai}(h:gy n ds):dw (n+1) (.tuple ds):=⟨by simpa[PyData.canLay0]using(vv.mp h).1,by simpa[PyData.depth]using(vv.mp h).2⟩
theorem gy.lst{n:Nat}{ds:List ai}(h:gy n ds):dw (n+1) (.list ds):=⟨by simpa[PyData.canLay0]using(vv.mp h).1,by simpa[PyData.depth]using(vv.mp h).2⟩
theorem dw.eu{n:Nat}{ds:List ai}(h:dw (n+1) (.tuple ds)):gy n ds:=vv.mpr ⟨by simpa[PyData.canLay0]using h.lay,by simpa[PyData.depth]using h.dep⟩
theorem dw.int{n:Nat}(i:Int):dw n (.int i):=⟨rfl,fZ _⟩
theorem gy.nil{n:Nat}:gy n []:=fun _ h=>nomatch h
theorem gy.cons{n:Nat}{d:ai}{ds:List ai}(h:dw n d)(g:gy n ds):gy n (d::ds):=fun x hx=>by
 rcases bN.mp hx with rfl|hx
 ·exact h
 ·exact g x hx
theorem dw.shaped{n:Nat}{d:ai}(h:dw n d)(l:n<=64):SeqAt.shaped d=true:=by unfold SeqAt.shaped;rw[h.lay,ko];exact cH (iy h.dep l)
theorem dw.refl{n:Nat}{d:ai}(h:dw n d):PyData.eqv d d=true:=eqv_refl d h.lay
variable {p:Addr}{n m:Nat}{v:V}{vs:List V}{d:ai}{ds es:List ai}
end
section
variable {X:Cx}
end
end L2
namespace HT
open PySem PySem.Spec PyProof.Rows
section
variable {prog:ah}{w:World}{A:aj}{E:Value->ae->Prop}{s:ae}
end
end HT
namespace L2
open PySem PySem.Spec PyProof.Rows
section
variable {X:Cx}
end
end L2
namespace L2
theorem dc{α:Type}{xs:List α}{i:Int}{v:α}(h0:0<=i)(h:xs[i.toNat]? =some v):fJ xs i=some v:=by have hl:i.toNat<xs.length:=(dM.mp h).1;unfold fJ jy;rw[bc h0,bc (by lia)];exact h
end L2
namespace L2
open PySem PySem.Spec PyProof.Rows
theorem xI(n:Nat)(h:n<=1000):n<=sizeLine:=iy h (by decide)
section
variable {X:Cx}{p pos pos':Pos}{a b e:Expr}{es:List Expr}{ta tb te:TE}{t:TA}{x:Str}
theorem px(K:aa)(ha:PE X a ta)(hb:PE X b tb)(hK:X.K=K:=by rfl)(hp:U9 b:=by exact fun _ _=>rfl):PE X (.Subscript a b pos) (xA (fun x y H Q=>Gd K x y H Q\/Gb K x y H Q) ta tb):=OB (ixK K hK) ha hb hp
theorem dF(K:aa)(B:bP X.mg)(ha:PA X (e::es) t)(hK:X.K=K:=by rfl)(hg:Gl X "isinstance":=by rfl)(he:starEach (e::es) X.env=(false,eval e X.env)::starEach es X.env:=by rfl)(gj:(backTo pos (starEach es X.env)).any (·.1)=false:=by rfl):PE X (.Call (.Name "isinstance" p) (e::es) [] pos) (A9 (fun xs H Q=>Gf K xs H Q\/Ge K xs H Q) t):=dh (a50 K hK) hg (B.at "isinstance") uH ha (by decide) (by decide) he gj
theorem dU(K:aa)(B:bP X.mg)(ha:PA X (e::es) t)(hK:X.K=K:=by rfl)(hg:Gl X "len":=by rfl)(he:starEach (e::es) X.env=(false,eval e X.env)::starEach es X.env:=by rfl)(gj:(backTo pos (starEach es X.env)).any (·.1)=false:=by rfl):PE X (.Call (.Name "len" p) (e::es) [] pos) (A9 (fun xs H Q=>∃p ys,xs=[.ref p]/\(aF K H p ys\/aP K H p ys)/\Q (.int ys.length) H) t):=dh (a4t K hK) hg (B.at "len") PySem.boot_len ha (by decide) (by decide) he gj
theorem pS(i:Nat)(hN:X.N.Nodup)(he:PE X e te)(hi:X.N[i]? =some x:=by rfl)(hx:Loc X.env.scope x:=by first|exact Or.inl rfl|exact Or.inr rfl)(hs:swapsWith e (some (.Name x pos')) pos.line X.env=pure false:=by rfl)(hf:X.fn x=true\/X.env.scope.names.lookup x=some .local:=by first|exact .inl rfl|exact .inr rfl|assumption):PS X (.Assign [.Name x pos'] e pos) (Ab te (eZ i)):=a0v hN hi hx he hs hf
theorem bu(i:Nat)(hN:X.N.Nodup)(hi:X.N[i]? =some x:=by rfl)(hx:Loc X.env.scope x:=by first|exact Or.inl rfl|exact Or.inr rfl)(hf:X.fn x=true\/X.env.scope.names.lookup x=some .local:=by first|exact .inl rfl|exact .inr rfl|assumption):PG X (.Name x pos) (eZ i):=a0O hN hi hx hf
theorem tm (a:Str):[a].Nodup:=by simp
theorem fP{a b:Str}(h:(a==b)=false):[a,b].Nodup:=by
 have:a≠b:=fun z=>by rw[z,K4]at h;cases h
 simp[this]
theorem bU{n:Nat}(h:Nat.ble n 1000=true):n<=sizeLine:=xI n (Nat.le_of_ble_eq_true h)
end
def GV(mg:Str->Option Value)(x:Str)(v:V):Prop:=∃u,mg x=some u/\RelV v u
def GT(K:aa)(mg:Str->Option Value)(x:Str)(vs:List V):Prop:=∃a,GV mg x (.ref a)/\∀H,aP K H a vs
theorem eQ{X:Cx}{x:Str}{v:V}{pos:Pos}(hg:Gl X x)(h:GV X.mg x v)(hd:(x==("__debug__":Str))=false:=by decide):PE X (.Name x pos) (tC v):=by obtain⟨u,hm,r⟩:=h;exact a0V hg hm r hd
section
variable {K:aa}{mg:Str->Option Value}{h:Heap}
theorem qM{x:Str}{i:Int}{t:Tok}(X:K.In h)(G:h.Ns mainGlobals mg)(a:PySem.W.nsIn K mainGlobals x=some (some (.int i t))):GV mg x (.int i):=⟨_,xc X G a,t,rfl⟩
theorem Rm{x:Str}{vs:List V}{b:Addr}{its:Array Value}{n:Nat}{od:Option Addr}{gf:Array (Option Value)}(X:K.In h)(G:h.Ns mainGlobals mg)(a:PySem.W.nsIn K mainGlobals x=some (some (.ref b))) (l:K.lookup b=some ⟨.type "tuple",od,.seq its n,gf⟩)(hz:its.size<=sizeLine)(r:Vals vs its.toList):GT K mg x vs:=⟨b,⟨_,xc X G a,rfl⟩,fun H=>.inr ⟨_,its,n,l,rfl,rfl,hz,r⟩⟩
end
section
variable {X:Cx}
end
theorem Jt{J:It}{xs:List V}{bs:List Bool}{te:TE}{Q:VK}{D:Addr}{H H0:Hp}(rest:St)(nw:Nw H H0 D (.lst []))(hl:xs.length=bs.length)(hz:xs.length<=1000) (go:∀i x H2,xs[i]? =some x->aE H H2->J.go i H2/\∀y H3,J.jL i H2 y H3->H3=H2/\y=x)(stop:∀H2,aE H H2->J.stop xs.length H2) (hs:∀(i:Nat)(x:V)(b:Bool)(H2:Hp)(Q':VK),xs[i]? =some x->bs[i]? =some b->aE H H2->(∀H3,aE H2 H3->Q' (.bl b) H3)->te (some x::rest) H2 Q') (hq:∀H',aE H H'->H' D=some (.lst (bs.map V.bl))->Q (.ref D) H'):iP J (eZ 0) hJ te Q D (none::rest) H0:=by
  have hD:=nw.no;refine qT xs.length (fun i Z H2=>aE H H2/\H2 D=some (.lst ((bs.take i).map V.bl))/\∃v,Z=v::rest) ?_ ?_ ?_
  ·exact⟨nw.same,nw.at',none,rfl⟩
  · rintro i Z H2 hi ⟨s2,d2,v,rfl⟩
    have wj:i<bs.length:=by rw[<-hl];exact hi
    have ex:=cj hi;have eb:=cj wj;obtain⟨g1,g2⟩:=go i _ H2 ex s2;refine⟨g1,fun y H3 hy=>?_⟩;obtain⟨rfl,rfl⟩:=g2 y H3 hy;refine zU ?_;refine hs i _ _ _ _ ex eb s2 fun H4 s4=>?_;refine⟨_,s4 _ _ d2,?_,xs.length-(i+1),by lia,rfl,by lia,fun b o e=>?_,?_,_,rfl⟩
    · rw[cu,oh]
      have:(1000:Nat)<sizeLine:=by decide
      lia
    ·rw[aK (fW e hD)];exact s4 b o (s2 b o e)
    ·rw[ba,pP,eb,og];rfl
  · rintro Z H2 ⟨s2,d2,v,rfl⟩
    refine⟨stop H2 s2,hq H2 s2 ?_⟩;rw[d2,hl,xh]
theorem SO{K:aa}{a:Addr}{xs:List V}{bs:List Bool}{te:TE}{Q:VK}{D:Addr}{H H0:Hp}(rest:St)(hx:aP K H a xs)(nw:Nw H H0 D (.lst []))(hl:xs.length=bs.length)(hz:xs.length<=1000) (hs:∀(i:Nat)(x:V)(b:Bool)(H2:Hp)(Q':VK),xs[i]? =some x->bs[i]? =some b->aE H H2->(∀H3,aE H2 H3->Q' (.bl b) H3)->te (some x::rest) H2 Q') (hq:∀H',aE H H'->H' D=some (.lst (bs.map V.bl))->Q (.ref D) H'):iP (rA K a) (eZ 0) hJ te Q D (none::rest) H0:=Jt rest nw hl hz (fun i x H2 e s=>⟨⟨xs,x,hx.go s,e⟩,fun y H3 ⟨e3,y3⟩=>⟨e3,by have:=y3 _ (hx.go s);rw[e]at this;exact(dP this).symm⟩⟩) (fun H2 s=>⟨xs,hx.go s,bK _⟩) hs hq
theorem aav{K:aa}{a:Addr}{xs:List V}{bs:List Bool}{te:TE}{Q:VK}{D:Addr}{H H0:Hp}(rest:St)(hx:aF K H a xs)(nw:Nw H H0 D (.lst []))(hl:xs.length=bs.length)(hz:xs.length<=1000) (hs:∀(i:Nat)(x:V)(b:Bool)(H2:Hp)(Q':VK),xs[i]? =some x->bs[i]? =some b->aE H H2->(∀H3,aE H2 H3->Q' (.bl b) H3)->te (some x::rest) H2 Q') (hq:∀H',aE H H'->H' D=some (.lst (bs.map V.bl))->Q (.ref D) H'):iP (rB K a) (eZ 0) hJ te Q D (none::rest) H0:=Jt rest nw hl hz (fun i x H2 e s=>⟨⟨xs,x,hx.go s,e⟩,fun y H3 ⟨e3,y3⟩=>⟨e3,by have:=y3 _ (hx.go s);rw[e]at this;exact(dP this).symm⟩⟩) (fun H2 s=>⟨xs,hx.go s,bK _⟩) hs hq
theorem PH{ds:List ai}{f:ai->Bool}{i:Nat}{b:Bool}(h:(ds.map f)[i]? =some b):∃d,ds[i]? =some d/\f d=b:=by rw[cA]at h;cases e:ds[i]? with |none=>rw[e]at h;cases h |some d=>rw[e]at h;exact⟨d,rfl,dP h⟩
theorem all_map{ds:List ai}{f:ai->Bool}:(ds.map f).all id=ds.all f:=by rw[List.all_map];rfl
section
variable {X:Cx}
inductive VU(K:aa)(x:V)(y:V)(H:Hp)(Q:VK):Prop |mk (a:_)(b:_)(xs:_)(ys:_)(h0:x= .ref a)(h1:y= .ref b)(h2:aF K H a xs)(h3:aF K H b ys)(h4:xs.length+ys.length<=sizeLine)(h5:∀p H',Nw H H' p (.lst (xs++ys))->Q (.ref p) H'):VU K x y H Q
def a0j(K:aa):R2:=fun x y H Q=>VU K x y H Q
theorem wK(K:aa)(hK:X.K=K):dk X (binaryOp .Add) (a0j K):=by
 subst hK;intro au s Z H x y v u Q I rx ry h;obtain⟨a,b,xs,ys,rfl,rfl,ha,hb,hz,q⟩:=h;cases rx;cases ry;obtain⟨its,r1,p1,_⟩:=I.list ha;obtain⟨me,r2,p2,_⟩:=I.list hb;obtain⟨⟨cls,dd,data,sl⟩,n,ho,hc,hdd,hd⟩:=id p1;obtain⟨⟨adg,dd2,data2,DZ⟩,n2,wc,BM,acW,hd2⟩:=id p2;simp only at hc hd BM hd2;subst hc hd BM hd2;have e:its.toArray++me.toArray=(its++me).toArray:=by simp
 refine concat_meets ⟨_,ho,rfl⟩ ⟨_,wc,rfl⟩ noFill_list_add seq_list_add PySem.F.slot_list_add PySem.F.entry_list_add (PySem.F.args_list_add_2 _ _) (list_addW a b its.toArray me.toArray n n2 dd dd2 sl DZ (by rw[ek,ek,<-r1.length,<-r2.length];exact hz)) ⟨ho,wc,?_⟩;rw[e];have nw:Nw H (upd H s.heap.objs.size (.lst (xs++ys))) s.heap.objs.size (.lst (xs++ys)):=.of (I.aX.fresh (bK _));refine⟨.ref s.heap.objs.size,_,I.laid (t':=s.toks) (o:=.lst (xs++ys)) (fun b ob q=>cy _ q) (bK _) ?_,rfl,q _ _ nw⟩;exact⟨by rw[fD];exact hz,_,0,r1.append r2,eO _ rfl⟩
open Classical in
noncomputable def ug(h:Heap)(d:ai)(w:Value):Bool:=if q:∃e as,Reads h w e as then PyData.eqv q.choose d else false
theorem a9A{h:Heap}{d e:ai}{w:Value}{as:List Addr}(r:Reads h w e as):ug h d w=PyData.eqv e d:=by have q:∃e as,Reads h w e as:=⟨e,as,r⟩;unfold ug;rw[dif_pos q];obtain⟨as',r'⟩:=q.choose_spec;rw[(Reads.unique r' e as r).1]
theorem S6{au:List (Addr×Obj)}{s:ae}{Z:St}{H:Hp}(I:Inv X au Z H s)(hu:X.A.units+65<cLine){x:V}{u:Value}{d:ai}(rx:RelV x u)(hd:RD X.K H x d)(sd:SeqAt.shaped d=true): ∀{xs:List V}{us:List Value}{ds:List ai},Vals xs us->aJ X.K H xs ds->(∀e∈ds,SeqAt.shaped e=true)->(∀w∈us,SeqAt.EqAt X.A.in1 s w u (ug s.heap d w))/\us.any (ug s.heap d)=ds.any fun e=>PyData.eqv e d |xs,us,[],rv,h,_=>by cases h.nil_inv;cases rv;exact⟨fun _ h=>(cI h).elim,rfl⟩ |xs,us,e::ds,rv,h,se=>by obtain⟨y,ys,rfl,h1,h2⟩:=h.cons_inv;cases rv with |cons ra rb=>
      rename_i w ws;obtain⟨as,q1⟩:=RD.reads I e ra h1;obtain⟨bs,q2⟩:=RD.reads I d rx hd;have key:SeqAt.EqAt X.A.in1 s w u (PyData.eqv e d):=SeqAt.eqAt_reads e d X.A.in1 s w u as bs q1 q2 (Wr (se e (.head _))) (Wr sd) (SeqAt.room_of_shaped (se e (.head _)) (by show X.A.units+1+64<cLine;omega));obtain⟨k1,k2⟩:=S6 I hu rx hd sd rb h2 (fun e' he=>se e' (.tail _ he));have ew:ug s.heap d w=PyData.eqv e d:=a9A q1;refine⟨fun z hz=>?_,?_⟩
      · rcases bN.mp hz with rfl|hz
        ·rw[ew];exact key
        ·exact k1 z hz
      ·rw[uL,uL,ew,k2]
end
end L2
namespace L2
theorem cJ.Xi{k:Nat}{A:PySem.Around}(r:cJ k A):A.units+65<PySem.cLine:=by have:=r.un;lia
end L2
namespace L2
open PySem PySem.Spec PyProof.Rows
def kg(b:Bool)(h:Heap)(it l:Addr)(k:Nat):Prop:=match b with|true=>h.IsListIter it l k|false=>h.IsTupleIter it l k
def gW(b:Bool)(h:Heap)(l:Addr)(xs:Array Value):Prop:=match b with|true=>h.IsList l xs|false=>h.IsTuple l xs
def qU(b:Bool):String:=match b with|true=>"list_iterator"|false=>"tuple_iterator"
theorem kg.to{b:Bool}{h g:Heap}{it l:Addr}{k:Nat}(x:kg b h it l k)(e:∀o,h.get? it=some o->g.get? it=some o):kg b g it l k:=by cases b<;>(obtain⟨o,ho,r⟩:=x;exact⟨o,e o ho,r⟩)
theorem gW.to{b:Bool}{h g:Heap}{l:Addr}{xs:Array Value}(x:gW b h l xs)(e:∀o,h.get? l=some o->g.get? l=some o):gW b g l xs:=by cases b<;>(obtain⟨o,ho,r⟩:=x;exact⟨o,e o ho,r⟩)
theorem kg.ob{b:Bool}{h:Heap}{it l:Addr}{k:Nat}(x:kg b h it l k):∃o,h.get? it=some o/\o.cls= .type (qU b)/\∀v,o.data≠ .cell v:=by cases b<;>(obtain⟨o,ho,c,d⟩:=x;exact⟨o,ho,c,fun v z=>by rw[d]at z;cases z⟩)
section
variable {prog:ah}{w:World}{A:aj}{E:Value->ae->Prop}{s:ae}
theorem vI{b:Bool}{l:Addr}{xs:Array Value}{Q:Value->ae->Prop}(x:gW b s.heap l xs) (q:Q (.ref s.heap.objs.size) {s with heap:=s.heap.push {cls:=.type (qU b),data:=.fields #[.ref l,.int 0 0]}}):wpAny (model prog w) A (pyIter (.ref l)) Q E s:=by
  cases b
  ·exact wpAny_pyIter_tuple x q
  ·exact CN x q
theorem a36{it t:Addr}{k:Nat}{ts:Array Value}{x:Value}{Q:Value->ae->Prop}(hi:s.heap.IsTupleIter it t k)(ht:s.heap.IsTuple t ts)(hx:ts[k]? =some x) (q:∀g,g.IsTupleIter it t (k+1)->Heap.SameBut it s.heap g->Q x {s with heap:=g}):wpAny (model prog w) A (Builtin.SmallTypes.nextOf (.ref it)) Q E s:=by obtain⟨oi,la,ci,di⟩:=id hi;obtain⟨ot,HQ,_,nt,dt⟩:=ht;unfold Builtin.SmallTypes.nextOf;refine aQ (CQ (name:=Str.ofString "__next__") hi.typeIs Kc (CP Kc hi.typeIs abN ?_ (abO _)));show wpAny _ _ (field (.ref it) 0>>=_) _ _ s;refine aQ (jm la di (x:=.ref t) rfl ?_);show wpAny _ _ (if(Value.ref t==Value.none)=true then _ else _) _ _ s;rw[bf (show¬((Value.ref t==Value.none)=true)from kr)];show wpAny _ _ (field (.ref it) 1>>=_) _ _ s;refine aQ (jm la di (x:=.int k 0) rfl ?_);show wpAny _ _ (seqItems? (.ref t)>>=_) _ _ s;refine aQ (uD HQ dt ?_);simp only[WJ,hx];refine aQ (CM la di (by simp) (cn ⟨x,rfl,cn (q _ ?_ (Heap.SameBut.update ..))⟩));exact⟨_,Kv _ la (WC (CY di _)),(Obj.cls_mapFields ..).trans ci,by rw[CY di];simp[rawInt]⟩
theorem a9G{it t:Addr}{k:Nat}{ts:Array Value}{Q:Value->ae->Prop}(hh:A.handled=none)(hi:s.heap.IsTupleIter it t k)(ht:s.heap.IsTuple t ts)(hx:ts[k]? =none) (q:∀g e,Heap.ExtBut it s.heap g->(∃o,g.get? e=some o/\o.cls= .type "StopIteration")->E (.ref e) {s with heap:=g}):wpAny (model prog w) A (Builtin.SmallTypes.nextOf (.ref it)) Q E s:=by
  obtain⟨oi,la,ci,di⟩:=id hi;obtain⟨ot,HQ,_,nt,dt⟩:=ht;unfold Builtin.SmallTypes.nextOf;refine aQ (CQ (name:=Str.ofString "__next__") hi.typeIs Kc (CP Kc hi.typeIs abN ?_ (abO _)));show wpAny _ _ (field (.ref it) 0>>=_) _ _ s;refine aQ (jm la di (x:=.ref t) rfl ?_);show wpAny _ _ (if(Value.ref t==Value.none)=true then _ else _) _ _ s;rw[bf (show¬((Value.ref t==Value.none)=true)from kr)];show wpAny _ _ (field (.ref it) 1>>=_) _ _ s;refine aQ (jm la di (x:=.int k 0) rfl ?_);show wpAny _ _ (seqItems? (.ref t)>>=_) _ _ s;refine aQ (uD HQ dt ?_);simp only[WJ,hx];refine aQ (wpAny_rule (aQ (CM la di (by simp) ?_)));show wpAny _ _ (newExc (.type "StopIteration") []>>=_) _ _ _;refine aQ ?_;simp only[newExc,newTuple];refine aQ (pJ ?_ (by size_fits));refine aQ (m:=firstArgMember _ _) (zB (a:=Value.none) (by first|rfl|(simp only[firstArgMember];rfl)) ?_);refine pJ ?_ (by size_fits);simp only[raiseNew];refine aQ (wpAny_handled ?_)
  first|rw[show A.in1.handled=none from hh]|rw[hh]
  exact aQ (cn (wpAny_throw (q _ _ (((Heap.SameBut.update ..).extBut.push _).push _) ⟨_,eO _ rfl,rfl⟩)))
theorem AV{b:Bool}{it l:Addr}{k:Nat}{xs:Array Value}{x:Value}{Q:Value->ae->Prop}(hi:kg b s.heap it l k)(hl:gW b s.heap l xs)(hx:xs[k]? =some x) (q:∀g,kg b g it l (k+1)->Heap.SameBut it s.heap g->Q x {s with heap:=g}):wpAny (model prog w) A (Builtin.SmallTypes.nextOf (.ref it)) Q E s:=by
  cases b
  ·exact a36 hi hl hx q
  ·exact wpAny_nextOf_list_item hi hl hx q
theorem Jd{b:Bool}{it l:Addr}{k:Nat}{xs:Array Value}{Q:Value->ae->Prop}(hh:A.handled=none)(hi:kg b s.heap it l k)(hl:gW b s.heap l xs)(hx:xs[k]? =none) (q:∀g e,Heap.ExtBut it s.heap g->(∃o,g.get? e=some o/\o.cls= .type "StopIteration")->E (.ref e) {s with heap:=g}):wpAny (model prog w) A (Builtin.SmallTypes.nextOf (.ref it)) Q E s:=by
  cases b
  ·exact a9G hh hi hl hx q
  ·exact wpAny_nextOf_list_end hh hi hl hx q
structure Zp(b1 b2:Bool)(h:Heap)(z TI TO i1 i2 l1 l2:Addr)(f0:Value)(k:Nat):Prop where
 zz:IsZip h z TI TO f0
 ti:IsPair h TI (.ref i1) (.ref i2)
 to:∃a b,IsPair h TO a b
 n1:kg b1 h i1 l1 k
 n2:kg b2 h i2 l2 k
theorem OM{z TI TO:Addr}{Q:Bool->ae->Prop}(hz:IsZip s.heap z TI TO .none)(q:Q true s):wpAny (model prog w) A (Builtin.SmallTypes.ownedTupleIsFree (.ref z)) Q E s:=by unfold Builtin.SmallTypes.ownedTupleIsFree;exact aQ (jm hz rfl (x:=.none) rfl (cn q))
theorem WU{b1 b2:Bool}{z TI TO i1 i2 l1 l2:Addr}{k:Nat}{xs ys:Array Value}{x y:Value}{Q:Value->ae->Prop}(D:ZipApart z TI TO i1 i2 l1 l2)(adx:Zp b1 b2 s.heap z TI TO i1 i2 l1 l2 .none k) (tT:gW b1 s.heap l1 xs)(qD:gW b2 s.heap l2 ys)(hx:xs[k]? =some x)(hy:ys[k]? =some y) (q:∀g,Zp b1 b2 g z TI TO i1 i2 l1 l2 (rawInt s.heap.objs.size) (k+1)->IsPair g s.heap.objs.size x y->(∀c o,c≠z->c≠TO->c≠i1->c≠i2->s.heap.get? c=some o->g.get? c=some o)->Q (.ref s.heap.objs.size) {s with heap:=g}): wpAny (model prog w) A (Builtin.«zip.__next__» ⟨[.ref z],[]⟩) (fun r s'=>∃v,r= .done (.ret v)/\Q v s') E s:=by
  obtain⟨hz,lZ,⟨a,b,mm⟩,h1,h2⟩:=adx;show wpAny _ _ (field (.ref z) 2>>=_) _ _ _;refine aQ (jm hz rfl (x:=.bool false) rfl ?_);show wpAny _ _ (field (.ref z) 3>>=_) _ _ _;refine aQ (jm hz rfl (x:=.ref TI) rfl (aQ (uD lZ rfl ?_)));show wpAny _ _ (Builtin.SmallTypes.ownedTupleIsFree (.ref z)>>=_) _ _ _;refine aQ (OM hz ?_);simp only[uF];refine aQ (wpAny_rule (aQ (jm hz rfl (x:=.ref TO) rfl (aQ (zA hz (by simp) fun g1 z1 e1=>?_)))));replace z1:IsZip g1 z TI TO .ellipsis:=z1;refine aQ ?_;simp only[List.zipIdx_cons,List.zipIdx_nil,De,List.forIn_nil];refine aQ (aQ (CO ?_));show wpAny _ _ (Builtin.SmallTypes.nextOf (.ref i1)>>=_) _ _ _;refine aQ (AV (h1.to fun o e=>e1.extBut _ _ D.i1z e) (tT.to fun o e=>e1.extBut _ _ D.l1z e) hx fun g2 n1 e2=>cn ?_);have t2:IsPair g2 TO a b:=e2.extBut _ _ D.TOi1 (e1.extBut _ _ D.TOz mm);refine aQ (uD t2 rfl (aQ (Wn t2 fun g3 t3 e3=>?_)));replace t3:IsPair g3 TO x b:=t3;refine aQ (wpAny_letGo (cn ?_));refine aQ (aQ (CO ?_));show wpAny _ _ (Builtin.SmallTypes.nextOf (.ref i2)>>=_) _ _ _;refine aQ (AV (h2.to fun o e=>e3.extBut _ _ D.TOi2.symm (e2.extBut _ _ D.i12.symm (e1.extBut _ _ D.i2z e))) (qD.to fun o e=>e3.extBut _ _ D.l2TO (e2.extBut _ _ D.l2i1 (e1.extBut _ _ D.l2z e))) hy fun g4 n2 e4=>cn ?_);have t4:IsPair g4 TO x b:=e4.extBut _ _ D.TOi2 t3;refine aQ (uD t4 rfl (aQ (Wn t4 fun g5 t5 e5=>?_)));replace t5:IsPair g5 TO x y:=t5;refine aQ (wpAny_letGo (cn (cn ?_)));refine aQ (uD t5 rfl (aQ (wpAny_newTuple ?_)));have sz:g5.objs.size=s.heap.objs.size:=by rw[e5.1,e4.1,e3.1,e2.1,e1.1]
  have z5:IsZip g5 z TI TO .ellipsis:=e5.extBut _ _ D.TOz.symm (e4.extBut _ _ D.i2z.symm (e3.extBut _ _ D.TOz.symm (e2.extBut _ _ D.i1z.symm z1)));have kp:∀c o,c≠z->c≠TO->c≠i1->c≠i2->s.heap.get? c=some o->g5.get? c=some o:=fun c o c1 c2 c3 c4 e=>e5.extBut _ _ c2 (e4.extBut _ _ c4 (e3.extBut _ _ c2 (e2.extBut _ _ c3 (e1.extBut _ _ c1 e))));have m1:kg b1 g5 i1 l1 (k+1):=n1.to fun o e=>e5.extBut _ _ D.TOi1.symm (e4.extBut _ _ D.i12 (e3.extBut _ _ D.TOi1.symm e));have m2:kg b2 g5 i2 l2 (k+1):=n2.to fun o e=>e5.extBut _ _ D.TOi2.symm e;have Di:z<g5.objs.size:=cB z5;show wpAny _ _ (Builtin.SmallTypes.ownedTupleHandOut (.ref z) (.ref g5.objs.size)>>=_) _ _ _;refine aQ ?_;unfold Builtin.SmallTypes.ownedTupleHandOut;have z6:IsZip (g5.push {cls:=.type "tuple",data:=.seq #[x,y]}) z TI TO .ellipsis:=cy _ z5;refine aQ (zA z6 (by simp) fun g7 z7 e7=>?_);replace z7:IsZip g7 z TI TO (rawInt g5.objs.size):=z7;refine zA z7 (by simp) fun g8 z8 e8=>?_;replace z8:IsZip g8 z TI TO (rawInt g5.objs.size):=z8;have up:∀c o,c≠z->g5.get? c=some o->g8.get? c=some o:=fun c o c1 e=>e8.extBut _ _ c1 (e7.extBut _ _ c1 (cy _ e));have t8:IsPair g8 g5.objs.size x y:=e8.extBut _ _ (CZ Di) (e7.extBut _ _ (CZ Di) (eO _ rfl));rw[sz]at z8 t8;refine cn ⟨_,rfl,?_⟩;show Q (.ref g5.objs.size) _;rw[sz];exact q g8 ⟨z8,up _ _ D.TIz (kp _ _ D.TIz D.TITO D.TIi1 D.TIi2 lZ),⟨_,_,up _ _ D.TOz t5⟩,m1.to fun o e=>up _ o D.i1z e,m2.to fun o e=>up _ o D.i2z e⟩ t8 fun c o c1 c2 c3 c4 e=>up c o c1 (kp c o c1 c2 c3 c4 e)
theorem WV{b1 b2:Bool}{z TI TO i1 i2 l1 l2:Addr}{k:Nat}{xs ys:Array Value}{Q:Fin->ae->Prop}(hh:A.handled=none)(D:ZipApart z TI TO i1 i2 l1 l2)(adx:Zp b1 b2 s.heap z TI TO i1 i2 l1 l2 .none k) (tT:gW b1 s.heap l1 xs)(qD:gW b2 s.heap l2 ys)(p4:xs[k]? =none\/ys[k]? =none) (q:∀g e,(∀c o,c≠z->c≠TO->c≠i1->c≠i2->s.heap.get? c=some o->g.get? c=some o)->(∃o,g.get? e=some o/\o.cls= .type "StopIteration")->E (.ref e) {s with heap:=g}): wpAny (model prog w) A (Builtin.«zip.__next__» ⟨[.ref z],[]⟩) Q E s:=by obtain⟨hz,lZ,⟨a,b,mm⟩,h1,h2⟩:=adx;show wpAny _ _ (field (.ref z) 2>>=_) _ _ _;refine aQ (jm hz rfl (x:=.bool false) rfl ?_);show wpAny _ _ (field (.ref z) 3>>=_) _ _ _;refine aQ (jm hz rfl (x:=.ref TI) rfl (aQ (uD lZ rfl ?_)));show wpAny _ _ (Builtin.SmallTypes.ownedTupleIsFree (.ref z)>>=_) _ _ _;refine aQ (OM hz ?_);simp only[uF];refine aQ (wpAny_rule (aQ (jm hz rfl (x:=.ref TO) rfl (aQ (zA hz (by simp) fun g1 z1 e1=>?_)))));replace z1:IsZip g1 z TI TO .ellipsis:=z1;refine aQ ?_;simp only[List.zipIdx_cons,List.zipIdx_nil,De,List.forIn_nil];refine aQ (aQ (CO ?_));show wpAny _ _ (Builtin.SmallTypes.nextOf (.ref i1)>>=_) _ _ _;have j1:=h1.to fun o e=>e1.extBut _ _ D.i1z e;have k1:=tT.to fun o e=>e1.extBut _ _ D.l1z e;cases hx:xs[k]? with
  |none=>
    refine aQ (Jd hh j1 k1 hx fun g2 er e2 ⟨oe,tQ,yL⟩=>?_);have z2:IsZip g2 z TI TO .ellipsis:=e2 _ _ D.i1z.symm z1;have nz:er≠z:=fun v=>by subst v;rw[z2]at tQ;cases tQ;simp at yL
    refine zA z2 (by simp) fun g3 _ e3=>q g3 er (fun c o c1 _ c3 _ v=>e3.extBut _ _ c1 (e2 _ _ c3 (e1.extBut _ _ c1 v))) ⟨oe,e3.extBut _ _ nz tQ,yL⟩ |some x=>
    have hy:ys[k]? =none:=by rcases p4 with h|h;rw[hx]at h;cases h;exact h
    refine aQ (AV j1 k1 hx fun g2 n1 e2=>cn ?_);have t2:IsPair g2 TO a b:=e2.extBut _ _ D.TOi1 (e1.extBut _ _ D.TOz mm);refine aQ (uD t2 rfl (aQ (Wn t2 fun g3 t3 e3=>?_)));refine aQ (wpAny_letGo (cn ?_));refine aQ (aQ (CO ?_));show wpAny _ _ (Builtin.SmallTypes.nextOf (.ref i2)>>=_) _ _ _;refine aQ (Jd hh (h2.to fun o e=>e3.extBut _ _ D.TOi2.symm (e2.extBut _ _ D.i12.symm (e1.extBut _ _ D.i2z e))) (qD.to fun o e=>e3.extBut _ _ D.l2TO (e2.extBut _ _ D.l2i1 (e1.extBut _ _ D.l2z e))) hy fun g4 er e4 ⟨oe,tQ,yL⟩=>?_);have z4:IsZip g4 z TI TO .ellipsis:=e4 _ _ D.i2z.symm (e3.extBut _ _ D.TOz.symm (e2.extBut _ _ D.i1z.symm z1));have nz:er≠z:=fun v=>by subst v;rw[z4]at tQ;cases tQ;simp at yL
    refine zA z4 (by simp) fun g5 _ e5=>q g5 er (fun c o c1 c2 c3 c4 v=>e5.extBut _ _ c1 (e4 _ _ c4 (e3.extBut _ _ c2 (e2.extBut _ _ c3 (e1.extBut _ _ c1 v))))) ⟨oe,e5.extBut _ _ nz tQ,yL⟩
abbrev zT(b1:Bool)(h:Heap)(l1:Addr):Heap:=h.push {cls:=.type (qU b1),data:=.fields #[.ref l1,.int 0 0]}
abbrev zS(b1 b2:Bool)(h:Heap)(l1 l2:Addr):Heap:=(zT b1 h l1).push {cls:=.type (qU b2),data:=.fields #[.ref l2,.int 0 0]}
abbrev zR(b1 b2:Bool)(h:Heap)(l1 l2:Addr):Heap:=(zS b1 b2 h l1 l2).push {cls:=.type "tuple",data:=.seq #[.ref h.objs.size,.ref (zT b1 h l1).objs.size]}
abbrev zQ(b1 b2:Bool)(h:Heap)(l1 l2:Addr):Heap:=(zR b1 b2 h l1 l2).push {cls:=.type "tuple",data:=.seq #[.none,.none]}
abbrev uN(b1 b2:Bool)(h:Heap)(l1 l2:Addr):Heap:=(zQ b1 b2 h l1 l2).push {cls:=.type "zip",data:=.fields #[.none,.bool false,.bool false,.ref (zS b1 b2 h l1 l2).objs.size,.ref (zR b1 b2 h l1 l2).objs.size]}
theorem WT(b1 b2:Bool)(l1 l2:Addr)(xs ys:Array Value):Meets (Builtin.«zip.__new__» ⟨[.type "zip",.ref l1,.ref l2],[]⟩) (fun _ R s=>gW b1 s.heap l1 xs/\gW b2 s.heap l2 ys/\R (.ok (.ret (.ref (zQ b1 b2 s.heap l1 l2).objs.size))) {s with heap:=uN b1 b2 s.heap l1 l2}):=.of_wp fun prog w A R s h=>by
   obtain⟨hp,gg,d,tk,os⟩:=s;obtain⟨tT,qD,h⟩:=h;have HH:=sub_zip;have hL1:gW b1 (Shared.heap ⟨hp,gg,d,tk,os⟩) l1 xs:=tT;have yN:gW b2 (Shared.heap ⟨hp.push {cls:=.type (qU b1),data:=.fields #[.ref l1,.int 0 0]},gg,d,tk,os⟩) l2 ys:=qD.to fun o e=>cy _ e
   wp_walk using vI hL1,vI yN;exact⟨_,rfl,h⟩
theorem WW{b1 b2:Bool}{l1 l2:Addr}{xs ys:Array Value}{Q:Value->ae->Prop}(tT:gW b1 s.heap l1 xs)(qD:gW b2 s.heap l2 ys) (q:∀g,Zp b1 b2 g (s.heap.objs.size+4) (s.heap.objs.size+2) (s.heap.objs.size+3) s.heap.objs.size (s.heap.objs.size+1) l1 l2 .none 0->(∀c o,s.heap.get? c=some o->g.get? c=some o)->Q (.ref (s.heap.objs.size+4)) {s with heap:=g}): wpAny (model prog w) A (call (.type "zip") [.ref l1,.ref l2]) Q E s:=by
  refine callType_new PySem.F.called_zip (by decide) (PySem.F.typeCall_zip_2 _ _) (PySem.F.newCall_zip_2 _ _) (fun obj=>PySem.F.args_object_init_3 obj _ _) PySem.F.entry_zip_new (WT b1 b2 l1 l2 xs ys) ⟨tT,qD,?_⟩;have z1:(zT b1 s.heap l1).objs.size=s.heap.objs.size+1:=rQ ..;have z2:(zS b1 b2 s.heap l1 l2).objs.size=s.heap.objs.size+2:=by rw[rQ,z1]
  have z3:(zR b1 b2 s.heap l1 l2).objs.size=s.heap.objs.size+3:=by rw[rQ,z2]
  have z4:(zQ b1 b2 s.heap l1 l2).objs.size=s.heap.objs.size+4:=by rw[rQ,z3]
  have g5:(uN b1 b2 s.heap l1 l2).get? (zQ b1 b2 s.heap l1 l2).objs.size=some _:=eO _ rfl;have g4:(uN b1 b2 s.heap l1 l2).get? (zR b1 b2 s.heap l1 l2).objs.size=some _:=cy _ (eO _ rfl);have g3:(uN b1 b2 s.heap l1 l2).get? (zS b1 b2 s.heap l1 l2).objs.size=some _:=cy _ (cy _ (eO _ rfl));have g2:(uN b1 b2 s.heap l1 l2).get? (zT b1 s.heap l1).objs.size=some _:=cy _ (cy _ (cy _ (eO _ rfl)));have g1:(uN b1 b2 s.heap l1 l2).get? s.heap.objs.size=some _:=cy _ (cy _ (cy _ (cy _ (eO _ rfl))));show _/\_;rw[z2,z3,z4]at g5;rw[z1,z2]at g3;rw[z3]at g4;rw[z1]at g2;rw[z4];refine⟨⟨_,g5,rfl⟩,q _ ⟨g5,g3,⟨_,_,g4⟩,?_,?_⟩ fun c o e=>cy _ (cy _ (cy _ (cy _ (cy _ e))))⟩
  ·cases b1<;>exact⟨_,g1,rfl,rfl⟩
  ·cases b2<;>exact⟨_,g2,rfl,rfl⟩
end
section
variable {X:Cx}{au:List (Addr×Obj)}{Z:St}{H:Hp}{s:ae}{h':Heap}
theorem Inv.xx{t':Nat}{fp:List Addr}(I:Inv X au Z H s)(k:∀b o,b∉fp->s.heap.get? b=some o->h'.get? b=some o)(hf:∀b∈fp,lK X au H b):Inv X au Z H {s with heap:=h',toks:=t'}:=by
 have yg:∀b u,H b=some u->b∉fp:=fun b u e z=>by rw[(hf b z).1]at e;cases e
 have hL:X.env.locals∉fp:=fun z=>(hf _ z).2.1 rfl;refine I.step (g':=s.gens) (d':=s.drawn) (ch:=fp) (fun b hb=>?_) (fun b o _ _ hc e _=>k b o hc e) (fun b o _ _ hc e _=>⟨o.slots,k b o hc e⟩) (fun _ _ _ _ n=>n) (fun b o hc e=>⟨o,k b o hc e⟩) (fun _ _ e=>e) (fun _ _ _ e=>e) (fun b ps e=>⟨#[],by rw[e];simp⟩) (fun m hm=>?_) (fun b u e=>?_) I.bare
 · obtain⟨f0,f1,f2,f3,f4,f5⟩:=hf b hb
   exact⟨f3,f1,f4,f5⟩
 · obtain⟨o,es,ep,ho,r⟩:=hm
   exact⟨o,es,ep,k _ o hL ho,r⟩
 · refine(I.aX b u e).m7 (fun c v hc q=>k c v ?_ q) (fun _ q=>q) fun _ _ q=>q
   rcases hc with z|z
   ·rw[z];exact yg b u e
   ·exact yg c _ z
end
def eL(b:Bool)(K:aa)(H:Hp)(a:Addr)(xs:List V):Prop:=match b with|true=>aF K H a xs|false=>aP K H a xs
theorem eL.get{X:Cx}{au:List (Addr×Obj)}{Z:St}{H:Hp}{s:ae}{b:Bool}{a:Addr}{xs:List V}(I:Inv X au Z H s)(h:eL b X.K H a xs):∃its:List Value,Vals xs its/\gW b s.heap a its.toArray:=by
 cases b
 ·obtain⟨its,r,p,_⟩:=I.tuple h;exact⟨its,r,p⟩
 ·obtain⟨its,r,p,_⟩:=I.list h;exact⟨its,r,p.isList⟩
theorem eL.inj{X:Cx}{au:List (Addr×Obj)}{Z:St}{H:Hp}{s:ae}{b:Bool}{a:Addr}{xs ys:List V}(I:Inv X au Z H s)(h:eL b X.K H a xs)(g:eL b X.K H a ys):xs=ys:=by
 cases b
 ·exact I.Le h g
 ·exact I.PY h g
def mE(K:aa)(b1 b2:Bool)(l1 l2:Addr):It:=⟨fun i H=>∃xs ys x y,eL b1 K H l1 xs/\eL b2 K H l2 ys/\xs[i]? =some x/\ys[i]? =some y,fun i H v H'=>∃T x y,v= .ref T/\(∀xs,eL b1 K H l1 xs->xs[i]? =some x)/\(∀ys,eL b2 K H l2 ys->ys[i]? =some y)/\Nw H H' T (.tup [x,y]),fun i H=>∃xs ys,eL b1 K H l1 xs/\eL b2 K H l2 ys/\(xs.length<=i\/ys.length<=i)⟩
theorem Xp{P:ah}{w:World}{K:aa}{elts:List Expr}{kt:Nat}{pos:Pos}{b1 b2:Bool}{z TI TO i1 i2 l1 l2:Addr}(D:ZipApart z TI TO i1 i2 l1 l2): Turn P w K (.Tuple elts kt pos) (mE K b1 b2 l1 l2) [z,TI,TO,i1,i2] z (fun i h=>Zp b1 b2 h z TI TO i1 i2 l1 l2 .none i) where
  mem:=by simp
  obj:=fun i h st b hb=>by
   obtain⟨hz,lZ,⟨a,c,mm⟩,h1,h2⟩:=st;simp only[bN,cI,dB]at hb;rcases hb with rfl|rfl|rfl|rfl|rfl
   ·exact⟨_,hz,fun v e=>by cases e⟩
   ·exact⟨_,lZ,fun v e=>by cases e⟩
   ·exact⟨_,mm,fun v e=>by cases e⟩
   ·obtain⟨o,e,_,n⟩:=h1.ob;exact⟨o,e,n⟩
   ·obtain⟨o,e,_,n⟩:=h2.ob;exact⟨o,e,n⟩
  keep:=fun i h h' st k=>by obtain⟨hz,lZ,⟨a,c,mm⟩,h1,h2⟩:=st;exact⟨k z (by simp) _ hz,k TI (by simp) _ lZ,⟨a,c,k TO (by simp) _ mm⟩,h1.to fun o e=>k i1 (by simp) o e,h2.to fun o e=>k i2 (by simp) o e⟩
  item:=by
   intro X hP hw hK hc i au s Z H E I hf st hg;subst hP hw hK;obtain⟨xs,ys,x,y,q1,q2,e1,e2⟩:=hg;obtain⟨Hq,r1,p1⟩:=q1.get I;obtain⟨me,r2,p2⟩:=q2.get I;obtain⟨u1,fA,kO⟩:=r1.get e1;obtain⟨u2,hu2,sL⟩:=r2.get e2;have hT:s.TypeIs (.ref z) "zip":=⟨_,st.zz,rfl⟩;unfold pyNext;refine aQ (wpAny_attempt (CQ (name:=Str.ofString "__next__") hT Kb (CP Kb hT PySem.F.entry_zip_next (WU D st p1 p2 (x:=u1) (y:=u2) (by simpa using fA) (by simpa using hu2) fun g zg tg kp=>cn ?_) (PySem.F.args_zip_next_1 _))));refine⟨_,rfl,?_⟩;refine wpAny_letOwnedTupleGo_zip zg.zz fun g' WS sb=>?_;have hs:=sb.extBut;have Di:z<s.heap.objs.size:=cB st.zz;have nw:Nw H (upd H s.heap.objs.size (.tup [x,y])) s.heap.objs.size (.tup [x,y]):=.of (I.aX.fresh (bK _));have I1:Inv X au Z (upd H s.heap.objs.size (.tup [x,y])) {s with heap:=s.heap.push {cls:=.type "tuple",data:=.seq #[u1,u2]}}:=I.laid (t':=s.toks) (fun b ob q=>cy _ q) (bK _) ⟨by show 2<=sizeLine;decide,[u1,u2],.cons kO (.cons sL .nil),⟨_,eO _ rfl,rfl,_,rfl⟩⟩;have B7:∀b∈[z,TI,TO,i1,i2],b<s.heap.objs.size:=fun b hb=>by
    simp only[bN,cI,dB]at hb;obtain⟨hz,lZ,⟨a,c,mm⟩,h1,h2⟩:=st;rcases hb with rfl|rfl|rfl|rfl|rfl
    ·exact cB hz
    ·exact cB lZ
    ·exact cB mm
    ·obtain⟨o,e,_⟩:=h1.ob;exact cB e
    ·obtain⟨o,e,_⟩:=h2.ob;exact cB e
   have hn:∀b∈[z,TI,TO,i1,i2],upd H s.heap.objs.size (.tup [x,y]) b=none:=fun b hb=>by rw[aK (fC (B7 b hb))];exact(hf b hb).1
   have I2:Inv X au Z (upd H s.heap.objs.size (.tup [x,y])) {s with heap:=g'}:=Inv.xx (s:={s with heap:=s.heap.push {cls:=.type "tuple",data:=.seq #[u1,u2]}}) (t':=s.toks) (fp:=[z,TI,TO,i1,i2]) I1 (fun b o hb e=>by
    have e:(s.heap.push {cls:=.type "tuple",data:=.seq #[u1,u2]}).get? b=some o:=e;have nz:b≠z:=fun q=>hb (by simp[q]);rcases Heap.get?_push_cases e with⟨wq,rfl⟩|e'
    · subst wq
      exact hs _ _ nz tg
    ·exact hs _ _ nz (kp b o nz (fun q=>hb (by simp[q])) (fun q=>hb (by simp[q])) (fun q=>hb (by simp[q])) e')) (fun b hb=>by obtain⟨f0,f1,f2,f3,f4,f5⟩:=hf b hb;exact⟨hn b hb,f1,f2,f3,f4,f5⟩);refine⟨.ref s.heap.objs.size,_,I2,rfl,⟨s.heap.objs.size,x,y,rfl,fun zs hz=>?_,fun zs hz=>?_,nw⟩,?_,hn⟩
   ·rw[eL.inj I hz q1];exact e1
   ·rw[eL.inj I hz q2];exact e2
   · obtain⟨_,lZ,⟨a,c,mm⟩,h1,h2⟩:=zg
     exact⟨WS,hs _ _ D.TIz lZ,⟨a,c,hs _ _ D.TOz mm⟩,h1.to fun o e=>hs _ o D.i1z e,h2.to fun o e=>hs _ o D.i2z e⟩
  done:=by intro X hP hw hK hc i au s Z H E I hf st hg;subst hP hw hK;obtain⟨xs,ys,q1,q2,p4⟩:=hg;obtain⟨Hq,r1,p1⟩:=q1.get I;obtain⟨me,r2,p2⟩:=q2.get I;have hT:s.TypeIs (.ref z) "zip":=⟨_,st.zz,rfl⟩;have l1:=r1.length;have l2:=r2.length;unfold pyNext;refine aQ (wpAny_attempt (CQ (name:=Str.ofString "__next__") hT Kb (CP Kb hT PySem.F.entry_zip_next (WV (I.ok.hd hc) D st p1 p2 (p4.imp (fun h=>by simp;lia) fun h=>by simp;lia) fun g e kp he=>?_) (PySem.F.args_zip_next_1 _))));obtain⟨o,ho,lX⟩:=he;refine aQ (wpAny_isInstance (T:="StopIteration") (b:=true) ⟨o,ho,lX⟩ isSubtype_stop (cn ⟨rfl,?_⟩));exact I.xx (t':=s.toks) (fp:=[z,TI,TO,i1,i2]) (fun b o hb e=>kp b o (fun q=>hb (by simp[q])) (fun q=>hb (by simp[q])) (fun q=>hb (by simp[q])) (fun q=>hb (by simp[q])) e) hf
  self:=fun _ _ _ _ _ st h=>wpAny_pyIter_zip st.zz h
inductive VY(K:aa)(b1:Bool)(b2:Bool)(R:It->Hp->Prop)(vs:List V)(H1:Hp):Prop |mk (l1:_)(l2:_)(h0:vs=[.ref l1,.ref l2])(h1:(∃xs,eL b1 K H1 l1 xs))(h2:(∃ys,eL b2 K H1 l2 ys))(h3:R (mE K b1 b2 l1 l2) H1):VY K b1 b2 R vs H1
def a5e(K:aa)(b1 b2:Bool)(ta:TA):TI:=fun Z H R=>ta Z H fun vs H1=>VY K b1 b2 R vs H1
theorem jP(K:aa){X:Cx}(hK:X.K=K)(b1 b2:Bool){elts:List Expr}{kt:Nat}{ow:Pos}{a b:Expr}{ta:TA}{p pos:Pos}(hg:Gl X "zip")(hm:X.mg "zip"=none)(ha:PA X [a,b] ta)(hs:starEach [a,b] X.env=[(false,eval a X.env),(false,eval b X.env)]:=by rfl)(jf:starEach [b] X.env=[(false,eval b X.env)]:=by rfl): PI X (.Tuple elts kt ow) (.Call (.Name "zip" p) [a,b] [] pos) (a5e K b1 b2 ta):=by
  subst hK;intro au s Z H R I h;refine Call_ (oP I hg hm PyProof.Rows.boot_zip (xg (aY (ha pos au s Z H _ I h) fun us s1 ⟨vs,H1,I1,r1,q1⟩=>?_) (by rw[hs,jf]) (by rw[jf];rfl)));obtain⟨l1,l2,e,⟨xs,h1⟩,⟨ys,h2⟩,q⟩:=q1;subst e;obtain⟨u1,u2,rfl,kO,sL⟩:=vals2 r1;cases(show u1=Value.ref l1 from kO);cases(show u2=Value.ref l2 from sL);obtain⟨Hq,v1,p1⟩:=h1.get I1;obtain⟨me,v2,p2⟩:=h2.get I1;have a1:l1<s1.heap.objs.size:=by cases b1<;>(obtain⟨o,e,_⟩:=p1;exact cB e)
  have a2:l2<s1.heap.objs.size:=by cases b2<;>(obtain⟨o,e,_⟩:=p2;exact cB e)
  refine WW p1 p2 fun g zg kp=>wpAny_pyIter_zip zg.zz ?_;refine⟨_,_,_,_,H1,rfl,I1.kept (t':=s1.toks) kp,Xp (zipApart_new a1 a2),zg,fun c hc=>?_,q⟩;have hle:s1.heap.objs.size<=c:=by simp only[bN,cI,dB]at hc;rcases hc with rfl|rfl|rfl|rfl|rfl<;>first|exact bK _|exact Nat.le_add_right _ _
  exact I1.p9 hle (I1.aX.fresh hle)
theorem eL.go{b:Bool}{K:aa}{H H':Hp}{a:Addr}{xs:List V}(s:aE H H')(h:eL b K H a xs):eL b K H' a xs:=by
 cases b
 ·exact aP.go s h
 ·exact aF.go s h
theorem SN{K:aa}{b1 b2:Bool}{l1 l2:Addr}{xs ys:List V}{bs:List Bool}{te:TE}{Q:VK}{D:Addr}{H H0:Hp}{n:Nat}(rest:St)(hn:n=2)(h1:eL b1 K H l1 xs)(h2:eL b2 K H l2 ys)(nw:Nw H H0 D (.lst [])) (hl:min xs.length ys.length=bs.length)(hz:bs.length<=1000) (hs:∀(i:Nat)(x y:V)(b:Bool)(H2:Hp)(Q':VK),xs[i]? =some x->ys[i]? =some y->bs[i]? =some b->aE H H2->(∀H3,aE H2 H3->Q' (.bl b) H3)->te (some x::some y::rest) H2 Q') (hq:∀H',aE H H'->H' D=some (.lst (bs.map V.bl))->Q (.ref D) H'):iP (mE K b1 b2 l1 l2) (p8 K n (jV (eZ 0) (jV (eZ 1) qN))) hJ te Q D (none::none::rest) H0:=by
  subst hn;have hD:=nw.no;refine qT bs.length (fun i Z H2=>aE H H2/\H2 D=some (.lst ((bs.take i).map V.bl))/\∃v v',Z=v::v'::rest) ?_ ?_ ?_
  ·exact⟨nw.same,nw.at',none,none,rfl⟩
  · rintro i Z H2 hi ⟨s2,d2,v,v',rfl⟩
    have hx:i<xs.length:=by lia
    have hy:i<ys.length:=by lia
    have ex:=cj hx;have ey:=cj hy;have eb:=cj hi;refine⟨⟨xs,ys,_,_,h1.go s2,h2.go s2,ex,ey⟩,fun y' H3 jT=>?_⟩;obtain⟨T,x0,y0,rfl,k1,k2,n3⟩:=jT;have e1:=k1 _ (h1.go s2);have e2:=k2 _ (h2.go s2);rw[ex]at e1;rw[ey]at e2;cases e1;cases e2;refine⟨T,_,rfl,aP.of n3.at',rfl,_,_,rfl,_,_,rfl,rfl,?_⟩;refine yes (bV ?_);refine hs i _ _ _ _ _ ex ey eb (s2.trans n3.same) fun H4 s4=>?_;refine⟨_,s4 _ _ (n3.same _ _ d2),?_,bs.length-(i+1),by lia,rfl,by lia,fun b o e=>?_,?_,_,_,rfl⟩
    · rw[cu,oh]
      have:(1000:Nat)<sizeLine:=by decide
      lia
    ·rw[aK (fW e hD)];exact s4 b o (n3.same b o (s2 b o e))
    ·rw[ba,pP,eb,og];rfl
  · rintro Z H2 ⟨s2,d2,v,v',rfl⟩
    refine⟨⟨xs,ys,h1.go s2,h2.go s2,by lia⟩,hq H2 s2 ?_⟩;rw[d2,xh]
theorem fK.there{P:ah}{w:World}{H:Hp}{h:Heap}{a:Addr}{o:HO}(x:fK P w H h a o):∃ob,h.get? a=some ob:=by induction o with |lst xs=>obtain⟨_,_,_,_,e⟩:=x;exact⟨_,e⟩ |tup xs=>obtain⟨_,_,_,ob,e,_⟩:=x;exact⟨ob,e⟩ |dK aM=>obtain⟨_,_,_,_,ob,_,_,e,_⟩:=x;exact⟨ob,e⟩ |dT aM=>obtain⟨_,_,_,_,ob,_,_,e,_⟩:=x;exact⟨ob,e⟩ |set S n=>obtain⟨ob,_,_,_,e,_⟩:=x;exact⟨ob,e⟩ |ins C dx fs=>obtain⟨_,_,_,e,_⟩:=x;exact⟨_,e⟩ |own y=>exact x |xd fs=>obtain⟨_,⟨ob,_,_,e,_⟩,_⟩:=x;exact⟨ob,e⟩ |sM lo hi=>obtain⟨_,_,_,e⟩:=x;exact⟨_,e⟩ |mr ob u=>exact⟨_,x.1⟩ |fi ps=>exact⟨_,x⟩ |met f y=>exact⟨_,x⟩ |ext φ=>exact x.2.1
structure Fl(P:ah)(w:World)(outer:List Env)(H:Hp)(h₁:Heap)(ex:Addr)(H':Hp)(B h:Heap):Prop where
 un:Un (dj outer) [] H H' h₁ h
 aX:dJ P w H' h
 k1:∀b o,h₁.get? b=some o->H b=none->b∉dj outer->B.get? b=some o
 k2:∀b o,H' b=some o->∃ob,B.get? b=some ob
 k3:∀b o,h₁.get? b=some o->b∉dj outer->∃ob,B.get? b=some ob
 fr:∀b∈dj outer,H' b=none
 nw:h₁.get? ex=none
 ne:H' ex=none
theorem Fl.step{P:ah}{w:World}{outer:List Env}{H H':Hp}{h₁ B h h':Heap}{ex:Addr}{base:Heap}(F:Fl P w outer H h₁ ex H' B h)(st:B.StaysIn h)(gH:B.StaysIn h')(up:h.UpToSlots h')(ff:h.FunFrames base outer):Fl P w outer H h₁ ex H' B h':=by
 have slot:∀b o,h₁.get? b=some o->H b=none->b∈dj outer->∃sl,h'.get? b=some {o with slots:=sl}:=fun b o e n hb=>by obtain⟨sl,e1⟩:=F.un.slot b o e n hb (by simp);obtain⟨_,o2,e2,hd⟩:=ff.mem hb;rw[e1]at e2;cases e2;obtain⟨E1,e3⟩:=up b _ e1 (fun vs=>hd vs);exact⟨E1,e3⟩
 refine⟨⟨fun b o e n hb _=>gH b o (F.k1 b o e n hb),fun b o e n hb _=>slot b o e n hb,F.un.free,fun b o e hx=>?_,F.un.ku,F.un.jW,F.un.jN⟩,fun b u e=>?_,F.k1,F.k2,F.k3,F.fr,F.nw,F.ne⟩
 · by_cases hb:b∈dj outer
   · obtain⟨_,o2,e2,hd⟩:=ff.mem hb
     obtain⟨sl,e3⟩:=up b o2 e2 hd;exact⟨_,e3⟩
   · obtain⟨ob,e1⟩:=F.k3 b o e hb
     exact⟨ob,gH b ob e1⟩
 · refine(F.aX b u e).m7 (fun c v hc q=>?_) (fun _ q=>q) fun _ _ q=>q
   have inB:∃ob,B.get? c=some ob:=by
    rcases hc with z|z
    ·rw[z];exact F.k2 b u e
    ·exact F.k2 c _ z
   obtain⟨ob,e1⟩:=inB;have e2:=st c ob e1;rw[q]at e2;cases e2;exact gH c _ e1
section
variable {P:ah}{w:World}{K:aa}{mg:Str->Option Value}{base:Heap}{N:List Str}{qual:Str}{scope:Scope}{f:Addr}{cd:Value}{A:aj}{outer:List Env}{s:ae}{H:Hp}{E:XK}{au:List (Addr×Obj)}{Z:St}{H1:Hp}{s1:ae}{h2:Heap}{ex:Addr}{cls:Value}{vs:List Value}
end
structure Exc(K:aa)(mg:Str->Option Value)(x:Str)(C:Addr)(mz:List Value)(newId:String):Prop where
 at':mg x=some (.ref C)
 ok:PySem.W.excIn K C mz newId=true
theorem Exc.own{K:aa}{mg:Str->Option Value}{x:Str}{C:Addr}{mz:List Value}{newId:String}{h:Heap}(e:Exc K mg x C mz newId)(X:K.In h):OwnCls x C mz newId mg h:=by
 refine⟨e.at',?_⟩;have q:=e.ok;unfold PySem.W.excIn at q;split at q
 · rename_i dd cd sl ho
   split at q
   · rename_i D2 bl a0 a1 a2 a3 nn a5 hm hs
     simp only[fS,fh,WR]at q;obtain⟨⟨⟨⟨⟨r1,r2⟩,QL⟩,ht⟩,aX⟩,BB⟩:=q;subst r1 r2;obtain⟨c1,c2,c3,c4,c5,c6,c7,c8,c9,c10,c11⟩:=cd;dsimp only at hm QL aX BB;subst hm QL;obtain⟨l⟩:=sl;simp only at hs;subst hs;exact⟨bl,c4,c1,c5,c2,c6,c7,c8,c9,c10,dd,a0,a1,a2,a3,a5,_,X _ _ ho,.of_isNs (PySem.W.isNs_of_in X aX),PySem.W.nsMap_none_of_in X aX BB,PySem.W.tail_of_in X ht⟩
   ·cases q
 ·cases q
section
variable {X:Cx}{x:Str}{C:Addr}{mz:List Value}{newId Hu B:String}{e:Expr}{t:TA}{np cC pos:Pos}
def XJ(E:XK)(cls:Value)(t:TA):TS:=fun _ Z H=>t Z H fun vs H1=>vs.length<=sizeLine/\E cls none H1
theorem a0w{E:XK}(hx:∀au Z H s h2 ex vs,Inv X au Z H s->Heap.MadeExcOf s.heap h2 ex (.ref C) vs->E (.ref C) none H->X.xe (.ref ex) {s with heap:=h2})(EC:Exc X.K X.mg x C mz newId)(FB:ExcBaseFacts B newId Hu mz)(hh:X.A.handled=none)(hg:Gl X x)(ha:PA X [e] t) (he:starEach [e] X.env=[(false,eval e X.env)]:=by rfl)(hd:(x==("__debug__":Str))=false:=by decide): PS X (.Raise (some (.Call (.Name x np) [e] [] cC)) none pos) (XJ E (.ref C) t):=by intro au s Z H D I h;obtain⟨tl,Nn,nm,q,bs,hdct,sn,sub,ab,col,dd,k0,k1,k2,k3,k5,mN,hC,hN,BB,T⟩:=(EC.own I.ok.mod.oQ).obj;refine wpAny_Raise_call_subT (C:=C) (nm:=nm) (q:=q) (N:=Nn) (bs:=bs) (bm:=tl) (hdct:=hdct) (sn:=sn) (sub:=sub) (ab:=ab) (col:=col) (dd:=dd) (k0:=k0) (k1:=k1) (k2:=k2) (k3:=k3) (k5:=k5) FB (mN:=mN) (T.hasType FB.hasBase) hh (by rw[he];rfl) BB (vR I hg EC.at' ⟨rfl,?_⟩ hd);have hA:=ha cC au s Z H _ I h;rw[he]at hA⊢;refine Calls.evalArgs_plain (aY hA fun us s2 ⟨vs,H1,I1,r1,z,w1⟩=>⟨rfl,by rw[<-r1.length];exact z,I1.bk _ _ hC,hN.keeps I1.bk,T.keeps I1.bk,fun h' ex hm=>hx au Z H1 s2 h' ex us I1 hm w1⟩)
end
section
variable {M:Model}{A:aj}{Ex:Value->ae->Prop}
theorem a9v{h:Heap}{g:Array GenState}{d:Drawn}{tk:Nat}{os:OsState}{e:Addr}{oe:Obj}{Q:Bool->ae->Prop}{C D N N':Addr}{nm Pe q q':Str}{bs Ti bm Jy:List Value}{hdct QM:Bool}{sn Mm:List Str}{sub Lv:List Value}{ab TU:Bool}{col SS:Option Bool}{dd nN:Option Addr}{k0 k1 k2 k3 k5 j0 j1 j2 j3 j5:Option Value}{newId a3l:String} (hC:h.get? C=some (excClassObj nm q C N bs bm hdct sn sub ab col dd k0 k1 k2 k3 k5 newId))(hD:h.get? D=some (excClassObj Pe q' D N' Ti Jy QM Mm Lv TU SS nN j0 j1 j2 j3 j5 a3l)) (he:h.get? e=some oe)(yK:oe.cls= .ref C)(hb:Jy.contains (.type "BaseException")=true)(hs:(Value.ref C::bm).contains (.ref D)=true) (hq:Q true ⟨h,g,d,tk,os⟩):wpAny M A (excMatches (.ref e) (.ref D)) Q Ex ⟨h,g,d,tk,os⟩:=by
  have hcB:(Value.ref D::Jy).contains (.type "BaseException")=true:=by rw[List.contains_cons,hb,Bool.or_true]
  have f:=tc_notTuple;unfold excMatches
  repeat (first|(with_reducible refine wpAny_loadPart_at he ?_;rw[yK])|with_reducible refine wpAny_loadPart_at hD ?_|(with_reducible refine wpAny_isSubtype_exc hD ?_;rw[hcB])|(with_reducible refine wpAny_isSubtype_exc hC ?_;rw[hs])|with_reducible refine wpAny_loadPart_at hC ?_|wp_step)
  exact hq
end
section
variable {X:Cx}{k:Nat}{x:Str}{p pos:Pos}{e:Expr}{es:List Expr}{t:TA}{sp:Sp}
end
abbrev Cx.hand(X:Cx)(ex:Addr):Cx:={X with A:=X.A.mark (some (.ref ex)),calm:=false,xe:=fun _ _=>False}
section
variable {X:Cx}{au:List (Addr×Obj)}{Z:St}{H:Hp}{s:ae}
theorem Inv.hand(I:Inv X au Z H s)(ex:Addr):Inv (X.hand ex) au Z H s:=⟨⟨I.ok.mod,I.ok.kind,I.ok.glob,I.ok.blt,I.ok.above,I.ok.inj,I.ok.has,I.ok.qV,fun h=>(kr h).elim,I.ok.frames,I.ok.uT,I.ok.C4,I.ok.bs,I.ok.m5,I.ok.sY,I.ok.qP,I.ok.jC,I.ok.ny⟩,I.os,I.bare,I.base,I.loc,I.cell,I.free,I.jX,I.pin,I.aX,I.len⟩
theorem Inv.back{ex:Addr}(ok:X.Ok)(I:Inv (X.hand ex) au Z H s):Inv X au Z H s:=⟨ok,I.os,I.bare,I.base,I.loc,I.cell,I.free,I.jX,I.pin,I.aX,I.len⟩
theorem Xj{M:Model}{A:aj}{E:Value->ae->Prop}{i:Nat}{x:Str}{v:V}{pos:Pos}{Q:Unit->ae->Prop}(I:Inv X au Z H s)(hN:X.N.Nodup)(hi:X.N[i]? =some x)(hk:X.env.kindOf x=some .local)(hs:X.env.scope.names.lookup x=some .local) (hv:Z[i]? =some (some v))(h:∀s',Inv X au (Z.set i none) H s'->Q () s'):wpAny M A (unbindBehindTheSuite X.env x pos) Q E s:=by
  obtain⟨m,hn,hl⟩:=id I.loc;have yK:(X.env.scope.kind== .class||(X.env.scope.kind== .module&&X.env.locals !=X.env.globals))=false:=by rw[I.ok.kind];rfl
  have BF:i<Z.length:=by rw[I.len];exact(dM.mp hi).1
  have ka:=I.ka;obtain⟨u,r,look⟩:=hl i x v hi hv (.inl hs);have hm:m x=some u:=by
   rcases look with⟨_,e⟩|⟨k,_⟩
   ·exact e
   ·rcases k with k|k<;>(rw[hk]at k;cases k)
  unfold unbindBehindTheSuite;refine CO (wpAny_unbindName_local hk hn hm yK fun h' u' yJ tK=>?_);obtain⟨oL,_,_,QD,_⟩:=id hn;have tr:dJ X.prog X.w H h':=fun b ob e=>by
   refine(I.aX b ob e).m7 (fun c w' hc q=>(tK.2 c ?_).trans q) (fun _ q=>q) fun _ _ q=>q;rintro rfl;rcases hc with rfl|hc
   ·rw[I.free]at e;cases e
   ·rw[I.free]at hc;cases hc
  have lt:∀b o,X.s₀.heap.get? b=some o->b≠X.env.locals:=fun b o e=>fC (g9 (cB e) I.ok.above);refine h _ ⟨I.ok,I.os,I.bare,⟨fun b o e n hb hx=>(tK.2 b (lt b o e)).trans (I.base.keep b o e n hb hx),fun b o e n hb hx=>?_,I.base.free,fun b o e hx=>?_,I.base.ku,I.base.jW,I.base.jN⟩,⟨_,yJ,fun j y v' e1 e2 e3=>?_⟩,fun y c e=>?_,I.free,I.jX,fun p hp=>?_,tr,by simpa using I.len⟩
  · obtain⟨sl,e1⟩:=I.base.slot b o e n hb hx
    exact⟨sl,(tK.2 b (lt b o e)).trans e1⟩
  · obtain⟨o',e1⟩:=I.base.there b o e hx
    exact⟨o',(tK.2 b (lt b o e)).trans e1⟩
  · by_cases hj:j=i
    · subst hj
      rw[zK BF]at e2;cases e2
    · rw[Kp (fg hj)]at e2
      obtain⟨u2,r2,q⟩:=hl j y v' e1 e2 e3;refine⟨u2,r2,?_⟩;rcases q with⟨k,e⟩|⟨k,c,e,z⟩
      · have:y≠x:=fun e=>hj (GI hN e1 (e▸hi))
        exact .inl ⟨k,by simp[this,e]⟩
      ·exact .inr ⟨k,c,e,z.sameBut tK (ka y c e)⟩
  · obtain⟨w',z⟩:=I.cell y c e
    exact⟨w',z.sameBut tK (ka y c e)⟩
  · obtain⟨e,n,ne,nf,d⟩:=I.pin p hp
    exact⟨(tK.2 p.1 ne).trans e,n,ne,nf,d⟩
end
def zp(X:Cx)(st:List Stmt)(t:TS):Prop:=∀(s:ae)(Z:St)(H:Hp)(D:Ends),Inv X [] Z H s->t D Z H->wpAny (model X.prog X.w) X.A (execs st X.env) (SP X [] D) X.xe s
def Ub(X:Cx)(st:Stmt)(t:TS):Prop:=∀(s:ae)(Z:St)(H:Hp)(D:Ends),Inv X [] Z H s->t D Z H->wpAny (model X.prog X.w) X.A (exec st X.env) (SP X [] D) X.xe s
theorem zp.one{X:Cx}{st:Stmt}{t:TS}(h:Ub X st t):zp X [st] t:=by intro s Z H D I q;refine wpAny_execs_cons (aY (h s Z H D I q) fun f s1 q=>?_);cases f with |next=>exact zC q |ret v=>exact q |brk=>exact q |cont=>exact q
theorem Inv.ab3{X:Cx}{au:List (Addr×Obj)}{Z:St}{H:Hp}{s:ae}(I:Inv X au Z H s):Inv X [] Z H s:=⟨I.ok,I.os,I.bare,I.base,I.loc,I.cell,I.free,I.jX,fun p hp=>I.pin p (WG _ (by simpa using hp)),I.aX,I.len⟩
def ExcAt(ex:Addr)(cls:Value)(h:Heap):Prop:=∃o,h.get? ex=some o/\o.cls=cls
def takes(K:aa)(C D:Addr):Prop:=PySem.W.mroIn K C (.ref D)=some true
section
variable {X:Cx}{i:Nat}{n y:Str}{Dc:Addr}{Jx:List Value}{newD:String}{body Ae:List Stmt}{b0:Stmt}{np tN pos:Pos}{tb:XK->TS}{th:TS}{Cs:Addr->Prop}
end
end L2
namespace L2
open PySem PySem.Spec PyProof.Rows PySem.W Builtin.Getset_descriptor
section
variable {prog:ah}{w:World}{A:aj}{E:Value->ae->Prop}{h:Heap}{g:Array GenState}{d:Drawn}{t:Nat}{os:OsState}{K:Frag}{x C:Addr}{o:Obj}
theorem RU{M:Model}(h1:h.get? x=some o)(h2:o.cls= .ref C):Looks M h (typeOf (.ref x)) (.ref C):=h2▸(Looks.ld h1).andThen .now
structure nY(K:Frag)(C:Addr):Prop where
 ga:findIn K (.ref C) "__getattribute__"=some (some (.builtin "BaseException.__getattribute__"))
 gx:findIn K (.ref C) "__getattr__"=some none
 cl:findIn K (.ref C) "__class__"=some (some (.builtin "object.__class__"))
 gt:specialIn K (.builtin "object.__class__") "__get__"=some (some (.builtin "getset_descriptor.__get__"))
 tk:takesIn K (.builtin "object.__class__")=some true
 ob:mroIn K C (.type "object")=some true
 be:mroIn K C (.type "BaseException")=some true
 is:hasDictIn K C=true
theorem a4k{M:Model}(X:K.In h)(k:nY K C):Looks M h (Builtin.ObjectAttr.find (.ref x) (.ref C) "__class__") (.bind (.builtin "getset_descriptor.__get__") (.builtin "object.__class__")):=by have L1:=looks_findIn (M:=M) X k.cl;have L2:Looks M h (Builtin.ObjectAttr.getOf (some (.builtin "object.__class__"))) (some (.builtin "getset_descriptor.__get__")):=looks_specialIn X k.gt;have L3:=looks_takesIn (M:=M) X k.tk;unfold Builtin.ObjectAttr.find;refine L1.andThen (L2.andThen ?_);have L4:Looks M h (Builtin.ObjectAttr.dataDescriptor? (some (.builtin "object.__class__")) (some (.builtin "getset_descriptor.__get__"))) (some (.builtin "getset_descriptor.__get__",.builtin "object.__class__")):=L3.andThen .now;exact L4.andThen (Looks.tag .now)
theorem a7W{M:Model}{Po:Value}{Q:Unit->ae->Prop}(X:K.In h)(k:nY K C)(L0:Looks M h (typeOf (.ref x)) (.ref C))(hq:Q () ⟨h,g,d,t,os⟩): wpAny M A (checkBuiltinCall "BaseException.__getattribute__" ⟨[.ref x,Po],[]⟩) Q E ⟨h,g,d,t,os⟩:=by
  have hk:builtinKind "BaseException.__getattribute__"=some .slot:=by decide+kernel
  have je:splitId "BaseException.__getattribute__"=some ("BaseException","__getattribute__"):=by decide+kernel
  have ha:=PySem.F.args_bexc_ga (.ref x) Po;have L1:=looks_mroIn (M:=M) X k.be;simp only[checkBuiltinCall,hk,je];refine aQ ?_;unfold isInstance;refine aQ (L0.at (L1.at ?_))
  repeat (first|assumption|wp_step)
theorem get_cls{R:Result->ae->Prop}{tp:Value}(X:K.In h)(k:nY K C)(L0:Looks (model prog w) h (typeOf (.ref x)) (.ref C))(hq:R (.ok (.ret (.ref C))) ⟨h,g,d,t,os⟩): codeAny (model prog w) A (.call (.builtin "getset_descriptor.__get__") ⟨[.builtin "object.__class__",.ref x,tp],[]⟩) R ⟨h,g,d,t,os⟩:=by
  have L1:=looks_mroIn (M:=model prog w) X k.ob;refine codeAny_call_builtin KF.slot_gs.plain KF.entry_gs (KF.slot_gs.check _ _ _ _ _ _ _ _ KF.type_class (KF.args_gs _ _ _) ?_);unfold Builtin.«getset_descriptor.__get__»descrGet;rw[dga_obj];refine aQ (cn ?_);unfold descrGetter descrCheckInstance descrNameAndClass isInstance;simp only[KF.owner_class];repeat lk
  refine⟨Code.quiet_builtin _ (by decide+kernel),codeAny_builtin KF.entry_class ?_⟩;unfold Builtin.«object.__class__»shownTypeOf;repeat lk
  exact hq
theorem a7X{tk:Tok}{Q:Fin->ae->Prop}(X:K.In h)(k:nY K C)(L0:Looks (model prog w) h (typeOf (.ref x)) (.ref C)) (hq:Q (.done (.ret (.ref C))) ⟨h,g,d,t,os⟩):wpAny (model prog w) A (Builtin.«object.__getattribute__» ⟨[.ref x,.str "__class__" tk],[]⟩) Q E ⟨h,g,d,t,os⟩:=by have L1:=a4k (M:=model prog w) (x:=x) X k;refine aQ (cn (aQ (cn (aQ (L0.at (aQ (L1.at ?_)))))));show wpAny _ _ (Builtin.ObjectAttr.bindTo _ _ (.ref x) (.ref C)) _ _ _;unfold Builtin.ObjectAttr.bindTo;show wpAny _ _ (holding [_] (call (.builtin "getset_descriptor.__get__") [.builtin "object.__class__",.ref x,.ref C])>>=_) _ _ _;exact aQ (uE (zD (get_cls X k L0 (cn hq))))
theorem aaA{Q:Option Value->ae->Prop}(X:K.In h)(k:nY K C)(L0:Looks (model prog w) h (typeOf (.ref x)) (.ref C)) (hq:Q (some (.ref C)) ⟨h,g,d,t+1,os⟩):wpAny (model prog w) A (getAttr? (.ref x) "__class__") Q E ⟨h,g,d,t,os⟩:=by
  have L1:=looks_findIn (M:=model prog w) X k.ga;have L2:=looks_findIn (M:=model prog w) X k.gx;have f3:=PySem.F.excAttr_ValueError.ga.bind (.ref x);have hx2:(Value.builtin "BaseException.__getattribute__"==Value.builtin "object.__getattribute__")=false:=by decide+kernel
  unfold getAttr? getAttrBy? getAttrBy;refine aQ (wpAny_mkText (aQ (wpAny_attempt (uE (aQ (L0.at (aQ (L1.at ?_))))))));show wpAny _ _ (if(onTheHeap (Value.ref C)&&Value.builtin "BaseException.__getattribute__"==Value.builtin "object.__getattribute__")=true then _ else _) _ _ _;rw[hx2,Bool.and_false,bf (by decide)];unfold getAttrByItsOwn hookBefore;refine aQ ?_;show wpAny _ _ (typeLookup (.ref C) "__getattr__") _ _ _;refine L2.at (aQ (wpAny_attempt (uE ?_)));unfold callGetattribute;show wpAny _ _ (boundAndCalled _ _ _) _ _ _;unfold boundAndCalled;rw[f3];refine aQ (cn (zD ?_));refine codeAny_call_builtin PySem.F.excAttr_ValueError.ga.plain PySem.F.entry_bexc_ga (a7W X k L0 (a7X X k L0 ?_));exact handed_on rfl (cn hq)
theorem Qb(k:nY K C):KitX K (.ref x) (.ref C) (ExcAt x (.ref C)) where
 ty:=fun M h _ p=>by obtain⟨o,h1,h2⟩:=p;exact RU h1 h2
 it:=fun _ _ X _=>by
  obtain⟨cd,hc,_⟩:=any_some k.is;unfold clsIn at hc;split at hc
  · rename_i c1 d1 cd1 YC ho
    intro A' Q' E' s' kk q;unfold isType loadHead;exact aQ (wpAny_loadPart (kk _ _ (X _ _ ho)) (cn q))
  ·cases hc
 ne:=fun h tp dd its n sl X Hz=>by
  obtain⟨cd,hc,_⟩:=any_some k.is;refine xk.mpr fun q=>?_;have e:C=tp:=Value.ref.inj (fS.mp q);subst e;unfold clsIn at hc;split at hc
  · rename_i c1 d1 cd1 YC ho
    cases(X _ _ ho).symm.trans Hz
  ·cases hc
 ca:=fun{prog w A E Q s} X p q=>by obtain⟨o,h1,h2⟩:=p;obtain⟨h0,g0,d0,t0,os0⟩:=s;exact aaA X k (RU h1 h2) q
end
end L2
namespace L2
open PySem PySem.Spec PyProof.Rows
def aaB:V->Option Value | .ref D=>some (.ref D) | .ty n=>some (.type n) |_=>none
theorem KH:∀{Ds:List Addr}{us:List Value},Vals (Ds.map V.ref) us->us=Ds.map Value.ref |[],_,.nil=>rfl |n::r,_,.cons q t=>by cases(show _=Value.ref n from q);rw[KH t];rfl
section
variable {X:Cx}
end
theorem aaW:bootBuiltins "ValueError"=some (.type "ValueError"):=by kernel_rfl
abbrev wN:List Value:=[.type "ValueError",.type "Exception",.type "BaseException",.type "object"]
abbrev yc:String:="ValueError.__new__"
end L2
namespace Ar
theorem a7V(a b:Int):Int.gcd b (a.fmod b)=Int.gcd a b:=by rw[Int.fmod_def,Int.gcd_sub_mul_left_right,Int.gcd_comm]
theorem Ry{a b:Int}(h:0<b):Int.gcd b (a%b)=Int.gcd a b:=by rw[<-Int.fmod_eq_emod_of_nonneg a (Ku h)];exact a7V a b
def sg(p q:Int):Int:=if q<0 then-(Int.gcd p q:Int)else(Int.gcd p q:Int)
def lowP (p q:Int):Int:=p.fdiv (sg p q)
def gL (p q:Int):Int:=q.fdiv (sg p q)
theorem BV{p q:Int}(h:q≠0):0<(Int.gcd p q:Int):=by
 have:Int.gcd p q≠0:=fun z=>h (Int.gcd_eq_zero_iff.mp z).2
 lia
theorem xK{p q:Int}(h:q≠0):sg p q≠0:=by have:=BV (p:=p) h;unfold sg;split<;>omega
theorem Mr(p q:Int):sg p q∣p:=by
 unfold sg;split
 ·exact Int.neg_dvd.mpr (Int.gcd_dvd_left p q)
 ·exact Int.gcd_dvd_left p q
theorem Mq(p q:Int):sg p q∣q:=by
 unfold sg;split
 ·exact Int.neg_dvd.mpr (Int.gcd_dvd_right p q)
 ·exact Int.gcd_dvd_right p q
theorem Hb(p q:Int):sg p q*lowP p q=p:=by unfold lowP;rw[Int.fdiv_eq_ediv_of_dvd (Mr p q)];exact Int.mul_ediv_cancel' (Mr p q)
theorem Bc(p q:Int):sg p q*gL p q=q:=by unfold gL;rw[Int.fdiv_eq_ediv_of_dvd (Mq p q)];exact Int.mul_ediv_cancel' (Mq p q)
theorem Ms(p q:Int):(sg p q).natAbs=Int.gcd p q:=by unfold sg;split<;>lia
theorem a4h{p q:Int}(h:q≠0):Int.gcd (lowP p q) (gL p q)=1:=by
 have e:Int.gcd (sg p q*lowP p q) (sg p q*gL p q)=(sg p q).natAbs*Int.gcd (lowP p q) (gL p q):=Int.gcd_mul_left _ _ _;rw[Hb,Bc,Ms]at e;have g:=BV (p:=p) h;have g':0<Int.gcd p q:=by lia
 have e':Int.gcd p q*1=Int.gcd p q*Int.gcd (lowP p q) (gL p q):=by lia
 exact(Nat.eq_of_mul_eq_mul_left g' e').symm
theorem a4i{p q:Int}(h:q≠0):0<gL p q:=by
 have e:=Bc p q;have g:=BV (p:=p) h;by_cases hq:q<0
 · have es:sg p q=-(Int.gcd p q:Int):=by unfold sg;rw[bc hq]
   rw[es]at e;refine Int.not_le.mp fun hl=>?_;have:0<=-(Int.gcd p q:Int)*gL p q:=WK (by lia) hl
   lia
 · have es:sg p q=(Int.gcd p q:Int):=by unfold sg;rw[bf hq]
   rw[es]at e;refine Int.not_le.mp fun hl=>?_;have:(Int.gcd p q:Int)*gL p q<=0:=Int.mul_nonpos_of_nonneg_of_nonpos (by lia) hl
   lia
theorem TR{s x y:Int}(hs:s≠0)(e:s*x=y):x.natAbs<=y.natAbs:=by rw[<-e,fN];exact Nat.le_mul_of_pos_left _ (by lia)
theorem a4j{p q:Int}(h:q≠0):(lowP p q).natAbs<=p.natAbs:=TR (xK h) (Hb p q)
theorem PM{p q:Int}(h:q≠0):(gL p q).natAbs<=q.natAbs:=TR (xK h) (Bc p q)
theorem Mp{p q:Int}(h:q≠0):(sg p q).natAbs<=q.natAbs:=by rw[Ms];exact Nat.le_of_dvd (by lia) (Int.gcd_dvd_natAbs_right p q)
end Ar
namespace Rt
open Rat
theorem Bb{a b:Int}(hb:b≠0):Ar.lowP a b=(Rat.divInt a b).num/\Ar.gL a b=((Rat.divInt a b).den:Int):=by
 have hp:=Ar.a4i (p:=a) hb;have hc:=Ar.a4h (p:=a) hb;have Ik:(Ar.gL a b).natAbs≠0:=by lia
 have a6F:(Ar.lowP a b).natAbs.Coprime (Ar.gL a b).natAbs:=hc;have e1:Rat.divInt a b=Rat.divInt (Ar.lowP a b) (Ar.gL a b):=by have h:=Rat.divInt_mul_left (a:=Ar.sg a b) (n:=Ar.lowP a b) (d:=Ar.gL a b) (Ar.xK hb);rw[Ar.Hb,Ar.Bc]at h;exact h
 have e2:(⟨Ar.lowP a b,(Ar.gL a b).natAbs,Ik,a6F⟩:Rat)=Rat.divInt (Ar.lowP a b) (((Ar.gL a b).natAbs:Nat):Int):=Rat.mk_eq_divInt;have e3:(((Ar.gL a b).natAbs:Nat):Int)=Ar.gL a b:=by lia
 rw[e3]at e2;rw[e1,<-e2];exact⟨rfl,e3.symm⟩
theorem den_pos(r:Rat):(0:Int)<(r.den:Int):=by have:=r.den_pos;omega
structure Bd(n:Nat)(r:Rat):Prop where
 num:r.num.natAbs<2^n
 den:r.den<2^n
theorem Bd.mono{n m:Nat}{r:Rat}(h:Bd n r)(l:n<=m):Bd m r:=⟨g9 h.num (rL (by decide) l),g9 h.den (rL (by decide) l)⟩
theorem kS{a b n m:Nat}(h:a<2^n)(g:b<2^m):a*b<2^(n+m):=by rw[Nat.pow_add];exact Nat.mul_lt_mul'' h g
theorem kz{n:Nat}{a b:Int}(hb:b≠0)(h1:a.natAbs<2^n)(h2:b.natAbs<2^n):Bd n (Rat.divInt a b):=by
 obtain⟨e1,e2⟩:=Bb (a:=a) hb;have l1:=Ar.a4j (p:=a) hb;have l2:=Ar.PM (p:=a) hb;refine⟨?_,?_⟩
 ·rw[<-e1];lia
 ·lia
theorem pC(r s:Rat):(r.den:Int)*(s.den:Int)≠0:=Int.ne_of_gt (iB (den_pos r) (den_pos s))
theorem add_div(r s:Rat):r+s=Rat.divInt (r.num*s.den+s.num*r.den) (r.den*s.den):=by have h:=Rat.divInt_add_divInt r.num s.num (d₁:=r.den) (d₂:=s.den) (by have:=den_pos r;lia) (by have:=den_pos s;lia);rw[rJ,rJ]at h;exact h
theorem Yh(r s:Rat):r-s=Rat.divInt (r.num*s.den-s.num*r.den) (r.den*s.den):=by have h:=Wt r.num s.num (d₁:=r.den) (d₂:=s.den) (by have:=den_pos r;lia) (by have:=den_pos s;lia);rw[rJ,rJ]at h;exact h
theorem mul_div(r s:Rat):r*s=Rat.divInt (r.num*s.num) (r.den*s.den):=by have h:=Wu r.num s.num (d₁:=r.den) (d₂:=s.den);rw[rJ,rJ]at h;exact h
section
variable {n m:Nat} {r s:Rat}
theorem aal(h:Bd n r)(g:Bd m s):(r.num*s.den).natAbs<2^(n+m):=by rw[fN];exact kS h.num (by have:=g.den;omega)
theorem aak(h:Bd n r)(g:Bd m s):(s.num*r.den).natAbs<2^(n+m):=by rw[fN,Nat.mul_comm];exact kS (by have:=h.den;lia) g.num
theorem Jo(h:Bd n r)(g:Bd m s):((r.den:Int)*(s.den:Int)).natAbs<2^(n+m):=by rw[fN];exact kS (by have:=h.den;lia) (by have:=g.den;lia)
theorem Bd.add(h:Bd n r)(g:Bd m s):Bd (n+m+1) (r+s):=by
 rw[add_div];have h1:=aal h g;have h2:=aak h g;have h3:=Jo h g;have e:2^(n+m+1)=2^(n+m)+2^(n+m):=by rw[Nat.pow_succ];omega
 exact kz (pC r s) (by omega) (by omega)
theorem Bd.mul(h:Bd n r)(g:Bd m s):Bd (n+m) (r*s):=by rw[mul_div];exact kz (pC r s) (by rw[fN];exact kS h.num g.num) (Jo h g)
end
end Rt
namespace L2
open PySem PySem.Spec PyProof.Rows
def iL(H H':Hp):Prop:=∀b o,(∀xs,o≠ .lst xs)->H b=some o->H' b=some o
section
variable {K:aa} {H H' H2:Hp}
theorem iL.trans(a:iL H H')(b:iL H' H2):iL H H2:=fun c o n e=>b c o n (a c o n e)
theorem iL.pU{D:Addr}{xs ys:List V}(h:H D=some (.lst xs)):iL H (upd H D (.lst ys)):=fun b o n e=>by rw[aK (yh e h (n xs))];exact e
theorem aP.t{a:Addr}{xs:List V}(s:iL H H')(h:aP K H a xs):aP K H' a xs:=h.imp (fun r=>r.imp (s _ _ fun _ z=>nomatch z) fun⟨o,e⟩=>⟨o,s _ _ (fun _ z=>nomatch z) e⟩) id
mutual
def fu:ai->Bool | .list _=>false | .dict _=>false | .tuple ds=>cN ds | .none=>true | .bool _=>true | .int _=>true | .str _=>true
def cN:List ai->Bool |[]=>true |d::ds=>fu d&&cN ds
end
theorem ij:∀{ds:List ai},cN ds=true↔∀d∈ds,fu d=true
  |[]=>⟨fun _ _ h=>(nomatch h),fun _=>by simp[cN]⟩ |d::ds=>by
    rw[cN,fh,ij (ds:=ds)];constructor
    · rintro⟨a,b⟩ x hx
      rcases bN.mp hx with rfl|hx
      ·exact a
      ·exact b x hx
    · intro h
      exact⟨h d (.head _),fun x hx=>h x (.tail _ hx)⟩
theorem kR(ns:List Int):cN (ns.map PyData.int)=true:=ij.mpr fun d hd=>by obtain⟨i,_,rfl⟩:=jJ.mp hd;simp[fu]
mutual
theorem RD.t(s:iL H H'):∀{x:V}(d:ai),fu d=true->RD K H x d->RD K H' x d |x,.none,_,h=>by simpa[RD]using h |x,.bool b,_,h=>by simpa[RD]using h |x,.int i,_,h=>by simpa[RD]using h |x,.str y,_,h=>by simpa[RD]using h |x,.list ds,n,h=>by simp[fu]at n |x,.tuple ds,n,h=>by rw[RD]at h⊢;obtain⟨a,xs,e,h1,h2⟩:=h;exact⟨a,xs,e,h1.t s,aJ.t s ds (by simpa[fu]using n) h2⟩ |x,.dict _,_,h=>by simp[RD]at h
theorem aJ.t (s:iL H H'):∀{xs:List V}(ds:List ai),cN ds=true->aJ K H xs ds->aJ K H' xs ds |xs,[],_,h=>by simpa[aJ]using h |xs,d::ds,n,h=>by rw[aJ]at h⊢;rw[cN,fh]at n;obtain⟨y,ys,e,h1,h2⟩:=h;exact⟨y,ys,e,RD.t s d n.1 h1,aJ.t s ds n.2 h2⟩
end
theorem aJ.iY:∀{xs:List V}{ns:List Int},aJ K H xs (ns.map PyData.int)->xs=ns.map V.int |xs,[],h=>h.nil_inv |xs,n::ns,h=>by obtain⟨y,ys,rfl,h1,h2⟩:=h.cons_inv;rw[h1.int_inv,aJ.iY h2];rfl
theorem vg:∀(ns:List Int),aJ K H (ns.map V.int) (ns.map PyData.int) |[]=>cU |n::ns=>bW (dC n) (vg ns)
theorem SJ{J:It}{xs:List V}{ds:List ai}{te:TE}{Q:VK}{D:Addr}{H0:Hp}(rest:St)(nw:Nw H H0 D (.lst []))(hl:xs.length=ds.length)(hz:xs.length<=1000)(hn:cN ds=true) (go:∀i x H2,xs[i]? =some x->aE H H2->J.go i H2/\∀y H3,J.jL i H2 y H3->H3=H2/\y=x)(stop:∀H2,aE H H2->J.stop xs.length H2) (hs:∀(i:Nat)(x:V)(d:ai)(H2:Hp)(Q':VK),xs[i]? =some x->ds[i]? =some d->aE H H2->(∀y H3,aE H2 H3->RD K H3 y d->Q' y H3)->te (some x::rest) H2 Q') (hq:∀H' ys,aE H H'->H' D=some (.lst ys)->aJ K H' ys ds->Q (.ref D) H'):iP J (eZ 0) hJ te Q D (none::rest) H0:=by
  have hD:=nw.no;refine qT xs.length (fun i Z H2=>aE H H2/\(∃ys,H2 D=some (.lst ys)/\aJ K H2 ys (ds.take i))/\∃v,Z=v::rest) ?_ ?_ ?_
  ·exact⟨nw.same,⟨[],nw.at',cU⟩,none,rfl⟩
  · rintro i Z H2 hi ⟨s2,⟨ys,d2,r2⟩,v,rfl⟩
    have wj:i<ds.length:=by rw[<-hl];exact hi
    have ex:=cj hi;have eb:=cj wj;obtain⟨g1,g2⟩:=go i _ H2 ex s2;refine⟨g1,fun y H3 hy=>?_⟩;obtain⟨rfl,rfl⟩:=g2 y H3 hy;refine zU ?_;refine hs i _ _ _ _ ex eb s2 fun z H4 s4 r4=>?_;have d4:=s4 _ _ d2;have len:=r2.length;rw[oh]at len;refine⟨ys,d4,?_,xs.length-(i+1),by lia,rfl,by lia,fun b o e=>?_,⟨ys++[z],ba,?_⟩,_,rfl⟩
    · have:(1000:Nat)<sizeLine:=by decide
      lia
    ·rw[aK (fW e hD)];exact s4 b o (s2 b o e)
    · have t:iL H4 (upd H4 D (.lst (ys++[z]))):=.pU d4
      rw[pP,eb];have n1:cN (ds.take i)=true:=ij.mpr fun d hd=>ij.mp hn d (D5 hd);exact(aJ.t t _ n1 (aJ.mono s4 _ r2)).append (bW (RD.t t _ (ij.mp hn _ (D8 wj)) r4) cU)
  · rintro Z H2 ⟨s2,⟨ys,d2,r2⟩,v,rfl⟩
    refine⟨stop H2 s2,hq H2 ys s2 d2 ?_⟩;rw[hl,xh]at r2;exact r2
theorem Ci{a:Addr}{xs:List V}{ds:List ai}{te:TE}{Q:VK}{D:Addr}{H0:Hp}(rest:St)(hx:aP K H a xs)(nw:Nw H H0 D (.lst []))(hl:xs.length=ds.length)(hz:xs.length<=1000)(hn:cN ds=true) (hs:∀(i:Nat)(x:V)(d:ai)(H2:Hp)(Q':VK),xs[i]? =some x->ds[i]? =some d->aE H H2->(∀y H3,aE H2 H3->RD K H3 y d->Q' y H3)->te (some x::rest) H2 Q') (hq:∀H' ys,aE H H'->H' D=some (.lst ys)->aJ K H' ys ds->Q (.ref D) H'):iP (rA K a) (eZ 0) hJ te Q D (none::rest) H0:=SJ rest nw hl hz hn (fun i x H2 e s=>⟨⟨xs,x,hx.go s,e⟩,fun y H3 ⟨e3,y3⟩=>⟨e3,by have:=y3 _ (hx.go s);rw[e]at this;exact(dP this).symm⟩⟩) (fun H2 s=>⟨xs,hx.go s,bK _⟩) hs hq
theorem aar{lo:Int}{n:Nat}{ds:List ai}{te:TE}{Q:VK}{D:Addr}{H0:Hp}(rest:St)(nw:Nw H H0 D (.lst []))(hl:n=ds.length)(hz:n<=1000)(hn:cN ds=true) (hs:∀(i:Nat)(d:ai)(H2:Hp)(Q':VK),ds[i]? =some d->aE H H2->(∀y H3,aE H2 H3->RD K H3 y d->Q' y H3)->te (some (.int (lo+i))::rest) H2 Q') (hq:∀H' ys,aE H H'->H' D=some (.lst ys)->aJ K H' ys ds->Q (.ref D) H'):iP (nV lo n) (eZ 0) hJ te Q D (none::rest) H0:=by
  have hx:∀i x,((List.range n).map fun i:Nat=>V.int (lo+i))[i]? =some x->i<n/\x= .int (lo+i):=fun i x e=>by rw[cA]at e;cases h:(List.range n)[i]? with |none=>rw[h]at e;cases e |some j=>rw[h]at e;obtain⟨h1,h2⟩:=dM.mp h;rw[uK]at h2;subst h2;exact⟨by simpa using h1,(dP e).symm⟩
  refine SJ (xs:=(List.range n).map fun i:Nat=>V.int (lo+i)) rest nw (by simpa using hl) (by simpa using hz) hn (fun i x H2 e s=>?_) (fun H2 s=>?_) (fun i x d H2 Q' e1 e2 s k=>?_) hq
  · obtain⟨h1,rfl⟩:=hx i x e
    exact⟨h1,fun y H3 ⟨e3,y3⟩=>⟨e3,y3⟩⟩
  · show n<=_
    simp
  · obtain⟨h1,rfl⟩:=hx i x e1
    exact hs i d H2 Q' e2 s k
theorem uq{b1 b2:Bool}{l1 l2:Addr}{xs ys:List V}{ds:List ai}{te:TE}{Q:VK}{D:Addr}{H0:Hp}{n:Nat}(rest:St)(BC:n=2)(h1:eL b1 K H l1 xs)(h2:eL b2 K H l2 ys)(nw:Nw H H0 D (.lst [])) (hl:min xs.length ys.length=ds.length)(hz:ds.length<=1000)(hn:cN ds=true) (hs:∀(i:Nat)(x y:V)(d:ai)(H2:Hp)(Q':VK),xs[i]? =some x->ys[i]? =some y->ds[i]? =some d->aE H H2->(∀z H3,aE H2 H3->RD K H3 z d->Q' z H3)->te (some x::some y::rest) H2 Q') (hq:∀H' zs,aE H H'->H' D=some (.lst zs)->aJ K H' zs ds->Q (.ref D) H'):iP (mE K b1 b2 l1 l2) (p8 K n (jV (eZ 0) (jV (eZ 1) qN))) hJ te Q D (none::none::rest) H0:=by
  subst BC;have hD:=nw.no;refine qT ds.length (fun i Z H2=>aE H H2/\(∃zs,H2 D=some (.lst zs)/\aJ K H2 zs (ds.take i))/\∃v v',Z=v::v'::rest) ?_ ?_ ?_
  ·exact⟨nw.same,⟨[],nw.at',cU⟩,none,none,rfl⟩
  · rintro i Z H2 hi ⟨s2,⟨zs,d2,r2⟩,v,v',rfl⟩
    have hx:i<xs.length:=by lia
    have hy:i<ys.length:=by lia
    have ex:=cj hx;have ey:=cj hy;have eb:=cj hi;refine⟨⟨xs,ys,_,_,h1.go s2,h2.go s2,ex,ey⟩,fun y' H3 jT=>?_⟩;obtain⟨T,x0,y0,rfl,k1,k2,n3⟩:=jT;have e1:=k1 _ (h1.go s2);have e2:=k2 _ (h2.go s2);rw[ex]at e1;rw[ey]at e2;cases e1;cases e2;refine⟨T,_,rfl,aP.of n3.at',rfl,_,_,rfl,_,_,rfl,rfl,?_⟩;refine yes (bV ?_);refine hs i _ _ _ _ _ ex ey eb (s2.trans n3.same) fun z H4 s4 r4=>?_;have oE:=n3.same.trans s4;have d4:=oE _ _ d2;have len:=r2.length;rw[oh]at len;refine⟨zs,d4,?_,ds.length-(i+1),by lia,rfl,by lia,fun b o e=>?_,⟨zs++[z],ba,?_⟩,_,_,rfl⟩
    · have:(1000:Nat)<sizeLine:=by decide
      lia
    ·rw[aK (fW e hD)];exact oE b o (s2 b o e)
    · have t:iL H4 (upd H4 D (.lst (zs++[z]))):=.pU d4
      rw[pP,eb];have n1:cN (ds.take i)=true:=ij.mpr fun d hd=>ij.mp hn d (D5 hd);exact(aJ.t t _ n1 (aJ.mono oE _ r2)).append (bW (RD.t t _ (ij.mp hn _ (D8 hi)) r4) cU)
  · rintro Z H2 ⟨s2,⟨zs,d2,r2⟩,v,v',rfl⟩
    refine⟨⟨xs,ys,h1.go s2,h2.go s2,by lia⟩,hq H2 zs s2 d2 ?_⟩;rw[xh]at r2;exact r2
end
theorem Ql:∀{ns:List Int}{us:List Value},Vals (ns.map V.int) us->(∀v∈us,∃a t,v=Value.int a t)/\numsOf us=ns
  |[],_,.nil=>⟨fun _ h=>(nomatch h),rfl⟩ |n::ns,_,.cons q r=>by
    obtain⟨t,rfl⟩:=(show∃t,_=Value.int n t from q);obtain⟨h1,h2⟩:=Ql r;refine⟨fun v hv=>?_,?_⟩
    · rcases bN.mp hv with rfl|hv
      ·exact⟨n,t,rfl⟩
      ·exact h1 v hv
    · show n::numsOf _=_
      rw[h2]
section
variable {X:Cx}
theorem GX(K:aa)(hK:X.K=K)(hc:X.calm=true):fy X (.builtin "max") (fun xs H Q=>∃(l:Addr)(ns:List Int),xs=[.ref l]/\aF K H l (ns.map V.int)/\ns≠[]/\∀M,M∈ns->(∀a∈ns,a<=M)->Q (.int M) H):=by
 subst hK;intro au s Z H xs us Q I r h;obtain⟨l,ns,rfl,hl,dG,q⟩:=h;obtain⟨u,rfl,ru⟩:=vals1 r;cases(show u=Value.ref l from ru);obtain⟨its,rv,pl,hz⟩:=I.list hl;obtain⟨a1,a2⟩:=Ql rv;have all:AllInts its.toArray:=fun v hv=>a1 v (by simpa using hv);obtain⟨ps,QA⟩:=all.items;have e0:numsOf (intItems ps).toList=ns:=by rw[<-QA];exact a2
 rw[nums_intItems]at e0;have hlen:ps.size=ns.length:=by rw[<-e0,cu,zP]
 have tN:0<ps.size:=by rw[hlen];exact Km.mpr dG
 refine max_intList (I.ok.hd hc) (by rw[<-QA];exact pl.isList) tN fun v h' tk hv hk=>?_;obtain⟨t,rfl⟩:=intItems_at hv;obtain⟨h1,h2⟩:=argBest_gt (numAt ps) (ps.size-1);refine⟨.int _,H,I.kept hk,⟨_,rfl⟩,q _ ?_ fun a ha=>?_⟩
 ·rw[numAt_eq,e0];exact getD_mem (by omega)
 · obtain⟨j,hj,rfl⟩:=mem_getD ha
   rw[<-e0,<-numAt_eq];exact h2 j (by omega)
theorem Qm{ns:List Int}{us:List Value}(r:Vals (ns.map V.int) us){i:Nat}{v:Value}(h:us[i]? =some v):∃n t,ns[i]? =some n/\v=Value.int n t:=by
 have hl:=r.length;rw[cu]at hl;have hi:i<ns.length:=by rw[hl];exact(dM.mp h).1
 obtain⟨u,e,ru⟩:=r.get (i:=i) (x:=.int ns[i]) (by rw[cA,cj hi];rfl);rw[h]at e;cases e;obtain⟨t,rfl⟩:=(show∃t,v=Value.int ns[i] t from ru);exact⟨_,t,cj hi,rfl⟩
theorem a07(ns:List Int):((List.range ns.length).any fun i=>((ns.map (· !=0))[i]?).getD false)=ns.any (· !=0):=by have:=LSm.range_any (ns.map (· !=0));rw[cu]at this;rw[this,List.any_map];rfl
theorem abg(K:aa)(hK:X.K=K)(hc:X.calm=true):fy X (.builtin "any") (fun xs H Q=>∃(l:Addr)(ns:List Int),xs=[.ref l]/\(aF K H l (ns.map V.int)\/aP K H l (ns.map V.int))/\Q (.bl (ns.any (· !=0))) H):=by
 subst hK;intro au s Z H xs us Q I r h;obtain⟨l,ns,rfl,hl,q⟩:=h;obtain⟨u,rfl,ru⟩:=vals1 r;cases(show u=Value.ref l from ru);have hh:=I.ok.hd hc;have fin:∀(its:List Value),Vals (ns.map V.int) its->((List.range its.toArray.size).any fun i=>((ns.map (· !=0))[i]?).getD false)=ns.any (· !=0):=fun its rv=>by rw[ek,<-rv.length,cu];exact a07 ns
 rcases hl with hl|hl
 · obtain⟨its,rv,pl,hz⟩:=I.list hl
   have dX:=pl.isList;have cx:l<s.heap.objs.size:=by obtain⟨_,e,_⟩:=dX;exact cB e
   refine call_any_walk (CN dX ?_);refine⟨s.heap.objs.size,[s.heap.objs.size,l],[s.heap.objs.size],its.toArray.size,_,_,fun i=>((ns.map (· !=0))[i]?).getD false,rfl,Walks.list (A:=X.A.in1) hh _ l (fC cx) its.toArray,⟨⟨_,eO _ rfl,rfl,rfl⟩,dX.push _⟩,fun i v s' Q' E' hP hQ=>?_,fun h' tk hk=>?_⟩
   · obtain⟨n,t,e,rfl⟩:=Qm rv (i:=i) (v:=v) (by simpa using hP)
     simp only[cA,e]at hQ;exact truthy_int hQ
   · rw[fin its rv]
     exact⟨.bl _,H,I.kept (LSm.kept_iter hk),rfl,q⟩
 · obtain⟨its,rv,pl,hz⟩:=I.tuple hl
   have dX:s.heap.IsTuple l its.toArray:=by obtain⟨⟨cls,dd,data,sl⟩,ho,iI,n,hd⟩:=pl;exact⟨_,ho,iI,by simpa using⟨n,hd⟩⟩
   have cx:l<s.heap.objs.size:=by obtain⟨_,e,_⟩:=dX;exact cB e
   refine call_any_walk (wpAny_pyIter_tuple dX ?_);refine⟨s.heap.objs.size,[s.heap.objs.size,l],[s.heap.objs.size],its.toArray.size,_,_,fun i=>((ns.map (· !=0))[i]?).getD false,rfl,Walks.tuple (A:=X.A.in1) hh _ l (fC cx) its.toArray,⟨⟨_,eO _ rfl,rfl,rfl⟩,dX.push _⟩,fun i v s' Q' E' hP hQ=>?_,fun h' tk hk=>?_⟩
   · obtain⟨n,t,e,rfl⟩:=Qm rv (i:=i) (v:=v) (by simpa using hP)
     simp only[cA,e]at hQ;exact truthy_int hQ
   · rw[fin its rv]
     exact⟨.bl _,H,I.kept (LSm.kept_iter hk),rfl,q⟩
end
end L2
set_option maxHeartbeats 1000000
namespace Lw
open PySem PySem.Spec PyProof.Rows L2
def Uc(c m:Int):Prop:=0<=c/\0<=m/\m<2147483648
def gz(H:Hp)(p:Addr):Prop:=∃c m,H p=some (.lst [.int c,.int m])/\Uc c m
structure bT(p:Addr)(H H':Hp):Prop where
 bL:gz H' p
 same:∀b o,b≠p->H b=some o->H' b=some o
theorem bT.refl{p:Addr}{H:Hp}(h:gz H p):bT p H H:=⟨h,fun _ _ _ e=>e⟩
theorem bT.trans{p:Addr}{H H1 H2:Hp}(a:bT p H H1)(b:bT p H1 H2):bT p H H2:=⟨b.bL,fun c o n e=>b.same c o n (a.same c o n e)⟩
theorem bT.upd{p:Addr}{H:Hp}{c m:Int}(h:Uc c m):bT p H (L2.upd H p (.lst [.int c,.int m])):=⟨⟨c,m,ba,h⟩,fun b o n e=>by rw[aK n];exact e⟩
theorem bT.jt{p:Addr}{H H':Hp}(h:gz H p)(s:aE H H'):bT p H H':=by obtain⟨c,m,e,ok⟩:=h;exact⟨⟨c,m,s _ _ e,ok⟩,fun b o _ e=>s b o e⟩
theorem KD{j:Int}(h0:0<=j)(h:j<=10^40):Wd j:=by
 have:j.natAbs<=10^40:=by lia
 exact pN this (by decide+kernel)
theorem gz.ne{H:Hp}{p:Addr}(h:gz H p):H p≠none:=by obtain⟨c,m,e,_⟩:=h;rw[e];exact fun z=>nomatch z
theorem gz.a3p{H:Hp}{p:Addr}{q:Addr}{o:HO}(h:gz H p)(e:H q=some o)(n:∀xs,o≠ .lst xs):q≠p:=by obtain⟨c,m,e',_⟩:=h;exact yh e e' (n _)
theorem bT.t{p:Addr}{H H':Hp}(bg:gz H p)(b:bT p H H'):iL H H':=fun c o n e=>b.same c o (bg.a3p e n) e
theorem bT.NL{p:Addr}{H0 H H':Hp}(s:aE H0 H)(hp:H0 p=none)(b:bT p H H'):aE H0 H':=fun c o e=>b.same c o (fW e hp) (s c o e)
section
variable {K:aa}
theorem aax{J:It}{te:TE}{Q:VK}{D p:Addr}{H H0:Hp}(n:Nat)(rest:L2.St)(nw:Nw H H0 D (.lst []))(bg:gz H p)(hn:n<=1000)(xv:Nat->V) (go:∀i H2,i<n->bT p H H2->J.go i H2/\∀y H3,J.jL i H2 y H3->H3=H2/\y=xv i)(stop:∀H2,bT p H H2->J.stop n H2)(Pz:Int->Prop) (hs:∀i H2 (Q':VK),i<n->bT p H H2->(∀z H3,Pz z->bT p H2 H3->Q' (.int z) H3)->te (some (xv i)::rest) H2 Q') (hq:∀H' (is:List Int),bT p H H'->H' D=some (.lst (is.map V.int))->is.length=n->(∀z∈is,Pz z)->Q (.ref D) H'):iP J (eZ 0) hJ te Q D (none::rest) H0:=by
  have yP:D≠p:=fun e=>bg.ne (e▸nw.no);refine qT n (fun i Z H3=>bT p H H3/\(∃is:List Int,H3 D=some (.lst (is.map V.int))/\is.length=i/\∀z∈is,Pz z)/\∃v,Z=v::rest) ?_ ?_ ?_
  ·exact⟨.jt bg nw.same,⟨[],nw.at',rfl,fun _ h=>(cI h).elim⟩,none,rfl⟩
  · rintro i Z H3 hi ⟨b3,⟨is,d3,li,pi⟩,v,rfl⟩
    obtain⟨g1,g2⟩:=go i H3 hi b3;refine⟨g1,fun y H4 hy=>?_⟩;obtain⟨rfl,rfl⟩:=g2 y H4 hy;refine zU ?_;refine hs i _ _ hi b3 fun z H5 pz b5=>?_;refine⟨_,b5.same _ _ yP d3,?_,n-(i+1),by lia,rfl,by lia,?_,⟨is++[z],?_,?_,?_⟩,_,rfl⟩
    · rw[cu,li]
      have:(1000:Nat)<sizeLine:=by decide
      lia
    · have zh:=b3.trans b5
      refine⟨?_,fun b o n e=>?_⟩
      · obtain⟨c,m,e,ok⟩:=zh.bL
        exact⟨c,m,by rw[aK yP.symm];exact e,ok⟩
      ·rw[aK (fW e nw.no)];exact zh.same b o n e
    ·rw[ba,og];rfl
    ·rw[fD,li];rfl
    · intro y hy
      rcases uI.mp hy with h|h
      ·exact pi y h
      ·rw[cf.mp h];exact pz
  · rintro Z H3 ⟨b3,⟨is,d3,li,pi⟩,v,rfl⟩
    exact⟨stop H3 b3,hq H3 is b3 d3 li pi⟩
theorem a58(ns:List Int){i:Int}(h0:0<=i)(h:i<ns.length):∃z,z∈ns/\fJ (ns.map V.int) i=some (.int z):=by
 have hl:i.toNat<ns.length:=by omega
 exact⟨ns[i.toNat],D8 hl,dc h0 (by rw[cA,cj hl];rfl)⟩
theorem SI{J:It}{te:TE}{Q:VK}{D p:Addr}{H H0:Hp}(n:Nat)(rest:L2.St)(nw:Nw H H0 D (.lst []))(bg:gz H p)(hn:n<=1000)(xv:Nat->V) (go:∀i H2,i<n->bT p H H2->J.go i H2/\∀y H3,J.jL i H2 y H3->H3=H2/\y=xv i)(stop:∀H2,bT p H H2->J.stop n H2)(Pd:Nat->ai->Prop) (hs:∀i H2 (Q':VK),i<n->bT p H H2->(∀y d H3,Pd i d->fu d=true->RD K H3 y d->bT p H2 H3->Q' y H3)->te (some (xv i)::rest) H2 Q') (hq:∀H' ys ds,bT p H H'->H' D=some (.lst ys)->aJ K H' ys ds->ds.length=n->cN ds=true->(∀i d,ds[i]? =some d->Pd i d)->Q (.ref D) H'):iP J (eZ 0) hJ te Q D (none::rest) H0:=by
  have yP:D≠p:=fun e=>bg.ne (e▸nw.no);refine qT n (fun i Z H3=>bT p H H3/\(∃ys ds,H3 D=some (.lst ys)/\aJ K H3 ys ds/\ds.length=i/\cN ds=true/\∀j d,ds[j]? =some d->Pd j d)/\∃v,Z=v::rest) ?_ ?_ ?_
  ·exact⟨.jt bg nw.same,⟨[],[],nw.at',cU,rfl,rfl,fun j d e=>by simp at e⟩,none,rfl⟩
  · rintro i Z H3 hi ⟨b3,⟨ys,ds,d3,r3,li,ni,pi⟩,v,rfl⟩
    obtain⟨g1,g2⟩:=go i H3 hi b3;refine⟨g1,fun y H4 hy=>?_⟩;obtain⟨rfl,rfl⟩:=g2 y H4 hy;refine zU ?_;refine hs i _ _ hi b3 fun z d H5 pz nz rz b5=>?_;have d5:=b5.same _ _ yP d3;have t:iL H5 (L2.upd H5 D (.lst (ys++[z]))):=.pU d5;refine⟨ys,d5,?_,n-(i+1),by lia,rfl,by lia,?_,⟨ys++[z],ds++[d],ba,?_,?_,?_,?_⟩,_,rfl⟩
    · rw[r3.length,li]
      have:(1000:Nat)<sizeLine:=by decide
      lia
    · have zh:=b3.trans b5
      refine⟨?_,fun b o n e=>?_⟩
      · obtain⟨c,m,e,ok⟩:=zh.bL
        exact⟨c,m,by rw[aK yP.symm];exact e,ok⟩
      ·rw[aK (fW e nw.no)];exact zh.same b o n e
    ·exact(aJ.t ((bT.t b3.bL b5).trans t) _ ni r3).append (bW (RD.t t _ nz rz) cU)
    ·rw[fD,li];rfl
    ·exact ij.mpr fun x hx=>by
        rcases uI.mp hx with h|h
        ·exact ij.mp ni x h
        ·rw[cf.mp h];exact nz
    · intro j e he
      by_cases hj:j<ds.length
      · rw[xj hj]at he
        exact pi j e he
      · have oY:j=ds.length:=by
          have:=(dM.mp he).1;rw[fD]at this;have:j<ds.length+1:=this
          lia
        subst oY;rw[zL (bK _),Ke]at he;cases he;rw[li];exact pz
  · rintro Z H3 ⟨b3,⟨ys,ds,d3,r3,li,ni,pi⟩,v,rfl⟩
    exact⟨stop H3 b3,hq H3 ys ds b3 d3 r3 li ni pi⟩
end
end Lw
namespace Ln
open PySem L2
def iK(i:Int):Int:=if i<0 then-i else i
theorem zk(i:Int):iK i=(i.natAbs:Int):=by unfold iK;split<;>lia
def aH(ns:List Int):Nat:=ns.foldr (fun z m=>max z.natAbs m) 0
theorem Hi:∀{ns:List Int}{z:Int},z∈ns->z.natAbs<=aH ns
  |n::ns,z,h=>by
    show z.natAbs<=max n.natAbs (aH ns);rcases bN.mp h with rfl|h
    ·exact Nat.le_max_left _ _
    ·exact iy (Hi h) (Nat.le_max_right _ _)
theorem Hh:∀{ns:List Int},ns≠[]->∃z∈ns,z.natAbs=aH ns
  |[],h=>absurd rfl h |[n],_=>⟨n,.head _,by show n.natAbs=max n.natAbs 0;lia⟩ |n::m::ns,_=>by
    obtain⟨z,hz,e⟩:=Hh (ns:=m::ns) (by simp);by_cases h:n.natAbs<=aH (m::ns)
    ·exact⟨z,.tail _ hz,by show _=max n.natAbs (aH (m::ns));lia⟩
    ·exact⟨n,.head _,by show _=max n.natAbs (aH (m::ns));lia⟩
theorem nc{ns:List Int}{m:Nat}(h:∀z∈ns,z.natAbs<=m):aH ns<=m:=by cases ns with |nil=>exact fZ _ |cons a r=>obtain⟨z,hz,e⟩:=Hh (ns:=a::r) (by simp);rw[<-e];exact h z hz
theorem a4x{ns:List Int}(h:∃z∈ns,z≠0):0<aH ns:=by
 obtain⟨z,hz,h0⟩:=h;have:=Hi hz
 lia
theorem Hg{ns:List Int}(dG:ns≠[]){M:Int}(h1:M∈ns.map iK)(h2:∀a∈ns.map iK,a<=M):M=(aH ns:Int):=by
 obtain⟨z,hz,e⟩:=jJ.mp h1;obtain⟨y,hy,ey⟩:=Hh dG;have a1:=Hi hz;have a2:=h2 (iK y) (jJ.mpr ⟨y,hy,rfl⟩);rw[zk]at e a2
 lia
def kM(p q:Int):Int:=(2*(p.natAbs:Int)+q)/(2*q)
def ip(p q:Int):Int:=if p>=0 then kM p q else-kM p q
structure wR(x p q:Int):Prop where
 lo:-q<=2*(x*q-p)
 hi:2*(x*q-p)<=q
 gk:2*(x*q-p)=q\/2*(x*q-p)=-q->p.natAbs<=(x*q).natAbs
theorem YD{p q:Int}(hq:0<q):2*q*kM p q<=2*(p.natAbs:Int)+q/\2*(p.natAbs:Int)+q<2*q*kM p q+2*q:=by have h:=Int.mul_ediv_add_emod (2*(p.natAbs:Int)+q) (2*q);have h0:=oj (2*(p.natAbs:Int)+q) (show 2*q≠0 by omega);have h1:=rP (2*(p.natAbs:Int)+q) (show 0<2*q by omega);unfold kM;constructor<;>omega
theorem YE{p q:Int}(hq:0<q):0<=kM p q:=Int.ediv_nonneg (by lia) (by lia)
theorem near_is{p q:Int}(hq:0<q):wR (ip p q) p q:=by
 obtain⟨h1,h2⟩:=YD (p:=p) hq;have h0:=YE (p:=p) hq;rw[uM,Ks q]at h1 h2;have hs0:0<=kM p q*q:=jK h0 (Ku hq);unfold ip;split
 ·refine⟨?_,?_,fun h=>?_⟩<;>(generalize kM p q*q=s at*;omega)
 ·refine⟨?_,?_,?_⟩<;>rw[Int.neg_mul]<;>(generalize kM p q*q=s at*;omega)
theorem yk{x y q:Int}(hq:0<q)(h:x<y):x*q+q<=y*q:=by have:(x+1)*q<=y*q:=WL (by lia) (by lia);rw[Int.add_mul,kI]at this;exact this
theorem a3n{x y p q:Int}(hq:0<q)(a:wR x p q)(b:wR y p q):x=y:=by
 have key:∀{x y:Int},wR x p q->wR y p q->¬x<y:=fun{x y} a b h=>by
  have g:=yk hq h;have e1:=a.lo;have e2:=a.hi;have e3:=b.lo;have e4:=b.hi;have f1:=a.gk;have f2:=b.gk;have hx:x*q=0\/q<=x*q\/x*q<=-q:=by
   rcases WN x 0 with h|h|h
   ·have:=yk hq h;lia
   ·left;rw[h,zN]
   ·have:=yk hq h;lia
  have hy:y*q=0\/q<=y*q\/y*q<=-q:=by
   rcases WN y 0 with h|h|h
   ·have:=yk hq h;lia
   ·left;rw[h,zN]
   ·have:=yk hq h;lia
  generalize x*q=u at*;generalize y*q=v at*;have hu:=f1 (by lia);have hv:=f2 (by lia)
  lia
 rcases WN x y with h|h|h
 ·exact absurd h (key a b)
 ·exact h
 ·exact absurd h (key b a)
theorem Ph{x p q:Int}(hq:0<q)(a:wR x p q):x=ip p q:=a3n hq a (near_is hq)
theorem GN{q:Int}(hq:0<q):ip 0 q=0:=(Ph hq ⟨by lia,by lia,fun h=>by lia⟩).symm
theorem a3o{n q:Int}(hq:0<q):ip (q*n) q=n:=by refine(Ph hq ⟨?_,?_,?_⟩).symm<;>rw[Ks n q]<;>lia
end Ln
namespace L2
open PySem PySem.Spec PyProof.Rows
abbrev C9(b:Bool)(h:Heap)(l:Addr):Heap:=h.push {cls:=.type (qU b),data:=.fields #[.ref l,.int 0 0]}
abbrev Je(b:Bool)(h:Heap)(l:Addr):Heap:=(C9 b h l).push {cls:=.type "enumerate",data:=.fields #[.none,.bool false,.ref h.objs.size,rawInt 0,.none,.none]}
theorem a9H(b:Bool)(l:Addr)(xs:Array Value):Meets (Builtin.«enumerate.__new__» ⟨[.type "enumerate",.ref l],[]⟩) (fun _ R s=>gW b s.heap l xs/\R (.ok (.ret (.ref (C9 b s.heap l).objs.size))) {s with heap:=Je b s.heap l}):=.of_wp fun prog w A R s h=>by
   obtain⟨hp,gg,d,tk,os⟩:=s;obtain⟨hl,h⟩:=h;have HH:=sub_enumerate;have hL:gW b (Shared.heap ⟨hp,gg,d,tk,os⟩) l xs:=hl
   wp_walk using vI hL;refine wpAny_stack_any fun st=>cn ?_;split
   · rename_i c _ _ _ _ _
     cases(c==Value.type "enumerate")
     · wp_walk using vI hL
       exact⟨_,rfl,h⟩
     · wp_walk using vI hL
       exact⟨_,rfl,h⟩
   · wp_walk using vI hL
     exact⟨_,rfl,h⟩
section
variable {prog:ah}{w:World}{A:aj}{E:Value->ae->Prop}{s:ae}
theorem a9I{b:Bool}{l:Addr}{xs:Array Value}{Q:Value->ae->Prop}(hl:gW b s.heap l xs) (q:∀g,IsEnum g (s.heap.objs.size+1) s.heap.objs.size 0 .none->kg b g s.heap.objs.size l 0->(∀c o,s.heap.get? c=some o->g.get? c=some o)->Q (.ref (s.heap.objs.size+1)) {s with heap:=g}): wpAny (model prog w) A (call (.type "enumerate") [.ref l]) Q E s:=by refine callType_new PySem.F.called_enumerate (by decide) (PySem.F.typeCall_enumerate_1 _) (PySem.F.newCall_enumerate_1 _) (fun obj=>PySem.F.args_object_init_2 obj _) PySem.F.entry_enumerate_new (a9H b l xs) ⟨hl,?_⟩;have z1:(C9 b s.heap l).objs.size=s.heap.objs.size+1:=rQ ..;have g2:(Je b s.heap l).get? (C9 b s.heap l).objs.size=some _:=eO _ rfl;have g1:(Je b s.heap l).get? s.heap.objs.size=some _:=cy _ (eO _ rfl);show _/\_;rw[z1]at g2⊢;refine⟨⟨_,g2,rfl⟩,q _ g2 ?_ fun c o e=>cy _ (cy _ e)⟩;cases b<;>exact⟨_,g1,rfl,rfl⟩
theorem Se{b:Bool}{it l:Addr}{xs:Array Value}(hh:A.handled=none)(ne:l≠it):Draws prog w A it [it,l] xs.size (fun i x=>xs[i]? =some x) (fun i h=>kg b h it l i/\gW b h l xs) where
 live:=fun i h st=>by obtain⟨o,e,_⟩:=st.1.ob;exact⟨o,e⟩
 frame:=fun i h h' st k=>⟨st.1.to fun o e=>k it (by simp) o e,st.2.to fun o e=>k l (by simp) o e⟩
 item:=fun i s Q E hi st hQ=>AV st.1 st.2 (x:=xs[i]) (by simp[hi]) fun g gi sb=>hQ _ g s.toks (by simp[hi]) ⟨gi,st.2.to fun o e=>sb.extBut _ _ ne e⟩ sb
 done:=fun s Q E st hE=>Jd hh st.1 st.2 (by simp) fun g e a b=>hE g e a b
end
def zv(K:aa)(b:Bool)(l:Addr):It:=⟨fun i H=>∃xs x,eL b K H l xs/\xs[i]? =some x,fun i H v H'=>∃T x,v= .ref T/\(∀xs,eL b K H l xs->xs[i]? =some x)/\Nw H H' T (.tup [.int i,x]),fun i H=>∃xs,eL b K H l xs/\xs.length=i⟩
theorem Xv{P:ah}{w:World}{K:aa}{elts:List Expr}{kt:Nat}{pos:Pos}{b:Bool}{e it l:Addr}(D:e≠it): Turn P w K (.Tuple elts kt pos) (zv K b l) [e,it] e (fun i h=>(∃old,IsEnum h e it i old)/\kg b h it l i) where
  mem:=by simp
  obj:=fun i h st c hc=>by
   obtain⟨⟨old,he⟩,h1⟩:=st;simp only[bN,cI,dB]at hc;rcases hc with rfl|rfl
   ·exact⟨_,he,fun v e=>by cases e⟩
   ·obtain⟨o,e,_,n⟩:=h1.ob;exact⟨o,e,n⟩
  keep:=fun i h h' st k=>by obtain⟨⟨old,he⟩,h1⟩:=st;exact⟨⟨old,k e (by simp) _ he⟩,h1.to fun o q=>k it (by simp) o q⟩
  item:=by
   intro X hP hw hK hc i au s Z H E I hf st hg;subst hP hw hK;obtain⟨xs,x,q1,e1⟩:=hg;obtain⟨its,r1,p1⟩:=q1.get I;obtain⟨u1,fA,kO⟩:=r1.get e1;obtain⟨⟨old,he⟩,h1⟩:=st;obtain⟨oi,la,ci,_⟩:=h1.ob;have Hj:∃o,s.heap.get? l=some o/\(o.cls= .type "list"\/o.cls= .type "tuple"):=by cases b<;>(obtain⟨o,ho,cc,_⟩:=p1;first|exact⟨o,ho,.inl cc⟩|exact⟨o,ho,.inr cc⟩)
   obtain⟨ol,tP,cl⟩:=Hj;have nel:e≠l:=fun z=>by subst z;rw[he]at tP;cases tP;rcases cl with h|h<;>simp at h
   have nil:l≠it:=fun z=>by subst z;rw[la]at tP;cases tP;rw[ci]at cl;cases b<;>(rcases cl with h|h<;>simp[qU]at h)
   have cx:i<its.toArray.size:=by rw[ek,<-r1.length];exact(dM.mp e1).1
   refine wpAny_pyNext_enum_itemD (Se (I.ok.hd hc) nil) he ⟨h1,p1⟩ cx D (by simp[D,nel]) fun y h' tk hPy ho gQ hT hsz kp=>⟨_,rfl,?_⟩;have ey:y=u1:=by
    have a1:its.toArray[i]? =some y:=hPy;have a2:its.toArray[i]? =some u1:=by simpa using fA
    rw[a1]at a2;exact dP a2
   subst ey;refine wpAny_letOwnedTupleGo_enum ho fun g' Ij sb=>?_;have hs:=sb.extBut;have elt:e<s.heap.objs.size:=cB he;have ilt:it<s.heap.objs.size:=cB la;have nw:Nw H (upd H s.heap.objs.size (.tup [.int i,x])) s.heap.objs.size (.tup [.int i,x]):=.of (I.aX.fresh (bK _));have I1:Inv X au Z (upd H s.heap.objs.size (.tup [.int i,x])) {s with heap:=s.heap.push {cls:=.type "tuple",data:=.seq #[.int i tk,y]},toks:=tk+1}:=I.laid (t':=tk+1) (fun b ob q=>cy _ q) (bK _) ⟨by show 2<=sizeLine;decide,[.int i tk,y],.cons ⟨tk,rfl⟩ (.cons kO .nil),⟨_,eO _ rfl,rfl,_,rfl⟩⟩;have B7:∀c∈[e,it],c<s.heap.objs.size:=fun c hc=>by
    simp only[bN,cI,dB]at hc;rcases hc with rfl|rfl
    ·exact elt
    ·exact ilt
   have hn:∀c∈[e,it],upd H s.heap.objs.size (.tup [.int i,x]) c=none:=fun c hc=>by rw[aK (fC (B7 c hc))];exact(hf c hc).1
   have I2:Inv X au Z (upd H s.heap.objs.size (.tup [.int i,x])) {s with heap:=g',toks:=tk+1}:=Inv.xx (s:={s with heap:=s.heap.push {cls:=.type "tuple",data:=.seq #[.int i tk,y]},toks:=tk+1}) (t':=tk+1) (fp:=[e,it]) I1 (fun c o hc q=>by
    have q:(s.heap.push {cls:=.type "tuple",data:=.seq #[.int i tk,y]}).get? c=some o:=q;have nz:c≠e:=fun z=>hc (by simp[z]);rcases Heap.get?_push_cases q with⟨wq,rfl⟩|q'
    · subst wq
      exact hs _ _ nz hT
    ·exact hs _ _ nz (kp c o nz (fun z=>hc (by simp[z])) q')) (fun c hc=>by obtain⟨f0,f1,f2,f3,f4,f5⟩:=hf c hc;exact⟨hn c hc,f1,f2,f3,f4,f5⟩);refine⟨.ref s.heap.objs.size,_,I2,rfl,⟨s.heap.objs.size,x,rfl,fun zs hz=>?_,nw⟩,⟨⟨_,by simpa using Ij⟩,gQ.1.to fun o q=>hs _ o (fg D) q⟩,hn⟩;rw[eL.inj I hz q1];exact e1
  done:=by
   intro X hP hw hK hc i au s Z H E I hf st hg;subst hP hw hK;obtain⟨xs,q1,p4⟩:=hg;obtain⟨its,r1,p1⟩:=q1.get I;obtain⟨⟨old,he⟩,h1⟩:=st;obtain⟨oi,la,ci,_⟩:=h1.ob;have Hj:∃o,s.heap.get? l=some o/\(o.cls= .type "list"\/o.cls= .type "tuple"):=by cases b<;>(obtain⟨o,ho,cc,_⟩:=p1;first|exact⟨o,ho,.inl cc⟩|exact⟨o,ho,.inr cc⟩)
   obtain⟨ol,tP,cl⟩:=Hj;have nil:l≠it:=fun z=>by subst z;rw[la]at tP;cases tP;rw[ci]at cl;cases b<;>(rcases cl with h|h<;>simp[qU]at h)
   have hi:i=its.toArray.size:=by rw[ek,<-r1.length];exact p4.symm
   subst hi;refine wpAny_pyNext_enum_endD (Se (I.ok.hd hc) nil) he ⟨h1,p1⟩ fun h' kp=>⟨rfl,?_⟩;exact I.xx (t':=s.toks) (fp:=[e,it]) (fun c o hc q=>kp c o (fun z=>hc (by simp[z])) q) hf
  self:=fun _ _ _ _ _ st h=>by obtain⟨⟨old,he⟩,_⟩:=st;exact wpAny_pyIter_enum he h
inductive W8(K:aa)(b:Bool)(R:It->Hp->Prop)(vs:List V)(H1:Hp):Prop |mk (l:_)(h0:vs=[.ref l])(h1:(∃xs,eL b K H1 l xs))(h2:R (zv K b l) H1):W8 K b R vs H1
def a5k(K:aa)(b:Bool)(ta:TA):TI:=fun Z H R=>ta Z H fun vs H1=>W8 K b R vs H1
theorem a0M(K:aa){X:Cx}(hK:X.K=K)(b:Bool){elts:List Expr}{kt:Nat}{ow:Pos}{a:Expr}{ta:TA}{p pos:Pos}(hg:Gl X "enumerate")(hm:X.mg "enumerate"=none)(ha:PA X [a] ta)(hs:starEach [a] X.env=[(false,eval a X.env)]:=by rfl)(jf:starEach [] X.env=[]:=by rfl): PI X (.Tuple elts kt ow) (.Call (.Name "enumerate" p) [a] [] pos) (a5k K b ta):=by
  subst hK;intro au s Z H R I h;refine Call_ (oP I hg hm PyProof.Rows.boot_enumerate (xg (aY (ha pos au s Z H _ I h) fun us s1 ⟨vs,H1,I1,r1,q1⟩=>?_) (by rw[hs,jf]) (by rw[jf];rfl)));obtain⟨l,e,⟨xs,h1⟩,q⟩:=q1;subst e;obtain⟨u1,rfl,kO⟩:=vals1 r1;cases(show u1=Value.ref l from kO);obtain⟨Hq,v1,p1⟩:=h1.get I1;refine a9I p1 fun g zg ig kp=>wpAny_pyIter_enum zg ?_;refine⟨_,_,_,_,H1,rfl,I1.kept (t':=s1.toks) kp,Xv (CZ (WD _)),⟨⟨_,zg⟩,ig⟩,fun c hc=>?_,q⟩;have hle:s1.heap.objs.size<=c:=by simp only[bN,cI,dB]at hc;rcases hc with rfl|rfl<;>first|exact bK _|exact Nat.le_add_right _ _
  exact I1.p9 hle (I1.aX.fresh hle)
theorem a8e{K:aa}{b:Bool}{a:Addr}{xs:List V}{g:TG}{tb:TS}{D:Ends}{Z:St}{H:Hp}(Pv:Nat->St->Hp->Prop)(h0:Pv 0 Z H)(hl:∀i Z H,i<=xs.length->Pv i Z H->eL b K H a xs) (hs:∀i x Z H,xs[i]? =some x->Pv i Z H->∀T H',Nw H H' T (.tup [.int i,x])->g (.ref T) Z H' fun σ2 H2=>tb {D with nx:=Pv (i+1),ct:=Pv (i+1),bk:=D.nx} σ2 H2)(hd:∀Z H,Pv xs.length Z H->D.nx Z H): ∃W:Nat->Nat->St->Hp->Prop,(∃m,W 0 m Z H)/\∀i m Z H,W i m Z H->((zv K b a).stop i H/\D.nx Z H)\/((zv K b a).go i H/\∃N:St->Hp->Prop,(∀σ' H',N σ' H'->∃m',m'<m/\W (i+1) m' σ' H')/\∀x H',(zv K b a).jL i H x H'->g x Z H' fun σ2 H2=>tb {D with nx:=N,ct:=N,bk:=D.nx} σ2 H2):=by
  refine⟨fun i m Z H=>m=xs.length-i/\i<=xs.length/\Pv i Z H,⟨xs.length,by simp,fZ _,h0⟩,?_⟩;rintro i m Z H ⟨rfl,hi,p⟩;have q:=hl i Z H hi p;by_cases cx:i<xs.length
  · refine .inr ⟨⟨xs,xs[i],q,by simp[cx]⟩,Pv (i+1),fun σ' H' p'=>⟨xs.length-(i+1),by lia,rfl,cx,p'⟩,fun x H' y=>?_⟩
    obtain⟨T,z,rfl,ez,nw⟩:=y;exact hs i z Z H (ez xs q) p T H' nw
  · have e:i=xs.length:=by lia
    subst e;exact .inl ⟨⟨xs,q,rfl⟩,hd Z H p⟩
theorem a8b{K:aa}{b1 b2:Bool}{a1 a2:Addr}{xs ys:List V}{g:TG}{tb:TS}{D:Ends}{Z:St}{H:Hp}(n:Nat)(hn:n=min xs.length ys.length)(Pv:Nat->St->Hp->Prop)(h0:Pv 0 Z H)(hl:∀i Z H,i<=n->Pv i Z H->eL b1 K H a1 xs/\eL b2 K H a2 ys) (hs:∀i x y Z H,xs[i]? =some x->ys[i]? =some y->Pv i Z H->∀T H',Nw H H' T (.tup [x,y])->g (.ref T) Z H' fun σ2 H2=>tb {D with nx:=Pv (i+1),ct:=Pv (i+1),bk:=D.nx} σ2 H2)(hd:∀Z H,Pv n Z H->D.nx Z H): ∃W:Nat->Nat->St->Hp->Prop,(∃m,W 0 m Z H)/\∀i m Z H,W i m Z H->((mE K b1 b2 a1 a2).stop i H/\D.nx Z H)\/((mE K b1 b2 a1 a2).go i H/\∃N:St->Hp->Prop,(∀σ' H',N σ' H'->∃m',m'<m/\W (i+1) m' σ' H')/\∀x H',(mE K b1 b2 a1 a2).jL i H x H'->g x Z H' fun σ2 H2=>tb {D with nx:=N,ct:=N,bk:=D.nx} σ2 H2):=by
  refine⟨fun i m Z H=>m=n-i/\i<=n/\Pv i Z H,⟨n,by simp,fZ _,h0⟩,?_⟩;rintro i m Z H ⟨rfl,hi,p⟩;obtain⟨q1,q2⟩:=hl i Z H hi p;by_cases cx:i<n
  · have l1:i<xs.length:=by lia
    have l2:i<ys.length:=by lia
    refine .inr ⟨⟨xs,ys,xs[i],ys[i],q1,q2,by simp[l1],by simp[l2]⟩,Pv (i+1),fun σ' H' p'=>⟨n-(i+1),by lia,rfl,cx,p'⟩,fun x H' y=>?_⟩;obtain⟨T,z1,z2,rfl,e1,e2,nw⟩:=y;exact hs i z1 z2 Z H (e1 xs q1) (e2 ys q2) p T H' nw
  · have e:i=n:=by lia
    subst e;exact .inl ⟨⟨xs,ys,q1,q2,by lia⟩,hd Z H p⟩
section
variable {X:Cx}
theorem a1d(K:aa)(h:X.K=K){o:Expr}{to:TE}{apos cC:Pos}(ho:PE X o to)(ji:attributeBase o "clear" X.env (eval o X.env)=eval o X.env:=by rfl)(jg:(apos.endLine==cC.line)=true:=by rfl): PE X (.Call (.Attribute o "clear" apos) [] [] cC) (Ls K "list" Oj to):=by subst h;exact a0Z zH PySem.F.slot_list_clear PySem.F.type_list_clear a3z ho ji jg
theorem OE(K:aa)(h:X.K=K){o e:Expr}{to:TE}{t:TA}{apos cC:Pos}(ho:PE X o to)(ha:PA X [e] t) (ji:attributeBase o "pop" X.env (eval o X.env)=eval o X.env:=by rfl) (lg:((backTo cC (starEach [e] X.env)).all (fun x=>!x.1)&&(backToKw cC (keywordEach [] X.env)).all (fun x=>x.1.isSome) &&decide ([e].length+([]:List Keyword).length+(if([]:List Keyword).isEmpty then 0 else 1)<30))=true:=by rfl) (jg:(apos.endLine==cC.line)=true:=by rfl)(hs:starEach [e] X.env=(false,eval e X.env)::starEach [] X.env:=by rfl)(kZ:(backTo cC (starEach [] X.env)).any (·.1)=false:=by rfl): PE X (.Call (.Attribute o "pop" apos) [e] [] cC) (rY K "list" Oh to t):=by subst h;exact vm zH PySem.F.slot_list_pop PySem.F.type_list_pop a3x ho ha ji lg jg hs kZ
end
set_option maxHeartbeats 1000000 in
theorem Gk{X:Cx}{N:List Str}{js:List (Option Nat)}{elt tg iter:Expr}{ifs:List Expr}{scope:Scope}{pos:Pos}{wi:TI}{g:TG}{tt:TT}{te:TE}{i0:Nat}{x0:Str}{vh LM:Pos}(hNd:X.N.Nodup)(hix:X.N[i0]? =some x0)(Hx:Loc X.env.scope x0)(hc:X.calm=true)(hN:Cj X N js scope=true)(hS:wJ X scope=true) (hi:PI X tg iter wi)(hg:∀cl s H fp au,PG (fQ X N scope cl s H fp au) tg g)(ht:∀cl s H fp au,JR (fQ X N scope cl s H fp au) ifs tt)(he:∀cl s H fp au,PE (fQ X N scope cl s H fp au) elt te) (hsw:swapsWith (.ListComp elt [⟨tg,iter,ifs,0⟩] scope pos) (some (.Name x0 vh)) LM.line X.env=pure true:=by rfl)(hf0:X.fn x0=true\/X.env.scope.names.lookup x0=some .local:=by first|exact .inl rfl|exact .inr rfl) (hs:∀x,foldedSetIterable iter X.env x=pure x:=by intro _;rfl):PS X (.Assign [.Name x0 vh] (.ListComp elt [⟨tg,iter,ifs,0⟩] scope pos) LM) (Ab (Lq js wi g tt te) (eZ i0)):=by
  intro au s Z H D0 I h;have tZ:=hS;unfold wJ at tZ;rw[fh,fh]at tZ;obtain⟨⟨k1,k2⟩,k3⟩:=tZ;have oX:scope.kind= .function:=fS.mp k1;have wk:∀x∈scope.names,x.2= .free->∃c,X.env.cells.lookup x.1=some c:=fun x hx e=>by have:=iQ.mp k3 x hx;rw[e]at this;exact I.ok.has x.1 (.inl (fS.mp this))
  have mj:∀x∈scope.names,x.2≠ .cell:=fun x hx e=>by have:=iQ.mp k3 x hx;rw[e]at this;exact kr this
  have HV:∀x∈scope.names,x.2= .local->scope.names.lookup x.1=some .local:=fun x hx e=>by have:=iQ.mp k3 x hx;rw[e]at this;exact fS.mp this
  obtain⟨cl,Il,c1,c2⟩:=SW wk;rw[exec_Assign_Name_used _ _ _ _ hsw];refine aQ (wpAny_standAt (aQ ?_));show wpAny _ X.A (do let _<-comprehension (.ListComp elt [⟨tg,iter,ifs,0⟩] scope pos) scope X.env _ (newList []) false (eval iter X.env) (some (assign (.Name x0 vh) X.env))) _ _ s;refine aQ (jH (wpAny_comprehension_free (use:=some (assign (.Name x0 vh) X.env)) (Q:=fun _ s'=>SP X au D0 .next s') rfl hs Il oX HV (aY (hi au s Z H _ I h) fun v s1 h1=>aY h1 fun Bo s2 h2=>?_)) (fun _ s' hq=>cn (cn hq)) fun _ _ e=>e);obtain⟨it,fp,tn,J,H2,e,I2,T,rZ,f2,h2⟩:=h2;subst e;have hD:H2 s2.heap.objs.size=none:=I2.aX.fresh (bK _);obtain⟨W,⟨m0,w0⟩,turn⟩:=h2 _ _ (Nw.of hD);refine pJ (Wq mj (by intro y hy;simp at hy) (fun h₁ yI yE=>?_) oX);have uf:∀b∈fp,b<s2.heap.objs.size:=fun b hb=>by obtain⟨o,e,_⟩:=T.obj _ _ rZ b hb;exact cB e
  have I3:Inv X au Z (upd H2 s2.heap.objs.size (.lst [])) {s2 with heap:=s2.heap.push {cls:=.type "list",dict:=none,data:=.seq ([]:List Value).toArray}}:=I2.PV (its:=[]) (t':=s2.toks) .nil (fZ _);generalize yO:s2.heap.push {cls:=.type "list",dict:=none,data:=.seq ([]:List Value).toArray}=h3 at I3 yI yE;have xB:h3.objs.size=s2.heap.objs.size+1:=by rw[<-yO,rQ]
  have Hn:∀b o,s2.heap.get? b=some o->h3.get? b=some o:=fun b o e=>by rw[<-yO];exact cy _ e
  have f3:∀b∈fp,lK X au (upd H2 s2.heap.objs.size (.lst [])) b:=fun b hb=>⟨by rw[aK (fC (uf b hb))];exact(f2 b hb).1,(f2 b hb).2⟩;have yy:∀b o,h3.get? b=some o->h₁.get? b=some o:=fun b o e=>(yE.2 b (fC (cB e))).trans (cy _ e);have I4:Inv (fQ X N scope cl {s2 with heap:=h3} (upd H2 s2.heap.objs.size (.lst [])) fp au) [] (stC js Z) (upd H2 s2.heap.objs.size (.lst [])) {s2 with heap:=h₁,toks:=s2.toks+([]:List (Str×Value)).length}:=I3.comp (s:={s2 with heap:=h3}) hN hS c1 c2 f3 (fun b hb=>by show b<h3.objs.size;rw[xB];exact Kg (uf b hb)) (by simpa using yI) yy;have xD:tn 0 h₁:=T.keep _ _ _ rZ fun b _ o e=>yy b o (Hn b o e);have loop:codeAny (model X.prog X.w) X.A (.compLoop (.ListComp elt [⟨tg,iter,ifs,0⟩] scope pos) 0 (.ref it) (.ref s2.heap.objs.size) (compEnvC scope cl h3.objs.size X.env)) (compPost (model X.prog X.w) X.A X.xe (some (assign (.Name x0 vh) X.env)) (fun _ s'=>SP X au D0 .next s') (.ref s2.heap.objs.size) h3.objs.size) {s2 with heap:=h₁,toks:=s2.toks+([]:List (Str×Value)).length}:=by
    refine SR (fun n s'=>∃i σ' H',Inv (fQ X N scope cl {s2 with heap:=h3} (upd H2 s2.heap.objs.size (.lst [])) fp au) [] σ' H' s'/\tn i s'.heap/\(∀b∈fp,H' b=none)/\W i n σ' H') ?_ m0 ⟨0,_,_,I4,xD,fun b hb=>(f3 b hb).1,w0⟩;rintro n s5 ⟨i,σ5,H5,I5,oA,ud,w5⟩;have m8:∀{H':Hp},(∀b∈fp,H' b=none)->∀b∈fp,lK (fQ X N scope cl {s2 with heap:=h3} (upd H2 s2.heap.objs.size (.lst [])) fp au) [] H' b:=fun{H'} hn b hb=>by
     obtain⟨_,q1,q2,q3,q4,q5⟩:=f3 b hb;refine⟨hn b hb,fun z=>?_,I4.ok.qP b hb,.inl hb,fun x c e=>q4 x c (c1 x c e),fun p hp=>q5 p (by simpa[fQ]using hp)⟩;have cx:b<h3.objs.size:=by rw[xB];exact Kg (uf b hb)
     exact fC cx z
    rcases turn i n σ5 H5 w5 with⟨stop,qn⟩|⟨go,step⟩
    · refine aY (T.done (fQ X N scope cl {s2 with heap:=h3} (upd H2 s2.heap.objs.size (.lst [])) fp au) rfl rfl rfl hc i [] s5 σ5 H5 _ I5 (m8 ud) oA stop) fun r s6 ⟨hr,I6⟩=>?_
      subst hr;obtain⟨m,hm,_⟩:=I6.loc;have u0:Un (dj X.stack) fp (upd H2 s2.heap.objs.size (.lst [])) H5 h3 s6.heap:=I6.base;have I7:Inv X au Z H5 s6:=I3.Ck (s':=s6) (ch:=fp) I6.os u0 I6.aX I6.bare fun b hb=>⟨(f3 b hb).2.2.2.1,(f3 b hb).2.1,(f3 b hb).2.2.2.2.1,(f3 b hb).2.2.2.2.2⟩;have hC:lK X au H5 h3.objs.size:=I3.p9 (bK _) I6.free;show wpAny _ X.A (assign (.Name x0 vh) X.env (.ref s2.heap.objs.size)) _ _ s6;refine wpAny_assign_Name (Lz I7 hNd hix Hx (show RelV (.ref s2.heap.objs.size) (.ref s2.heap.objs.size)from rfl) (fun s8 I8 HL=>?_) hf0);obtain⟨a,sb,ha⟩:=HL;have hCa:h3.objs.size≠a:=by
       rcases ha with rfl|ha
       ·exact hC.2.1
       ·exact fun z=>hC.2.2.2.2.1 x0 a ha z.symm
      refine⟨m,hm.sameBut sb hCa,fun h9 hs9=>⟨_,H5,?_,qn⟩⟩;exact I8.xx (t':=s8.toks) (fp:=[h3.objs.size]) (fun b o hb e=>hs9.extBut b o (fun z=>hb (by simp[z])) e) fun b hb=>by rw[cf.mp hb];exact hC
    · refine aY (T.item (fQ X N scope cl {s2 with heap:=h3} (upd H2 s2.heap.objs.size (.lst [])) fp au) rfl rfl rfl hc i [] s5 σ5 H5 _ I5 (m8 ud) oA go) fun r s6 ⟨u,hr,h6⟩=>?_
      subst hr;refine aY h6 fun _ s7 ⟨x,H7,I7,r7,y7,oz,IL⟩=>?_;have JZ:=I7.pinned (m8 IL) (T.obj _ _ oz);refine aY (hg _ _ _ _ _ _ s7 σ5 H7 x u _ JZ r7 (step x H7 y7)) fun _ s8 ⟨σ8,H8,I8,q8⟩=>?_;refine aY (ht _ _ _ _ _ _ s8 σ8 H8 _ I8 q8) fun ok s9 ⟨H9,I9,q9⟩=>?_;have again:∀{s':ae}{σ7:St}{H7:Hp},Inv (fQ X N scope cl {s2 with heap:=h3} (upd H2 s2.heap.objs.size (.lst [])) fp au) ([]++vk fp s7.heap) σ7 H7 s'->(∃m',m'<n/\W (i+1) m' σ7 H7)->∃m,m<n/\∃i σ' H',Inv (fQ X N scope cl {s2 with heap:=h3} (upd H2 s2.heap.objs.size (.lst [])) fp au) [] σ' H' s'/\tn i s'.heap/\(∀b∈fp,H' b=none)/\W i m σ' H':=fun{s' σ7 H7} J7 n7=>by obtain⟨m',hm,w7⟩:=n7;refine⟨m',hm,i+1,σ7,H7,J7.xp,T.keep _ _ _ oz fun b hb o e=>(J7.pin (b,o) (lL _ (lL _ (vO hb e)))).1,fun b hb=>?_,w7⟩;obtain⟨o,e,d⟩:=T.obj _ _ oz b hb;exact(J7.pin (b,o) (lL _ (lL _ (vO hb e)))).2.1
      cases ok with |false=>rw[bf kr]at q9⊢;exact again I9 q9 |true=>rw[bc rfl]at q9⊢;refine aY (he _ _ _ _ _ _ s9 σ8 H9 _ I9 q9) fun yv mR ⟨y,jF,wW,Gh,ys,oU,hz,kK⟩=>?_;refine aY (GU _ mR σ8 jF (.ref s2.heap.objs.size) [y] (.ref s2.heap.objs.size) [yv] (fun _ iO=>∃m',m'<n/\W (i+1) m' σ8 iO) wW rfl (.cons Gh .nil) ⟨_,ys,y,rfl,rfl,oU,hz,kK⟩) fun _ Az ⟨v11,iO,K0,r11,xU⟩=>?_;exact again K0 xU
  exact codeAny_compStart_list loop (T.self _ 0 _ _ _ xD loop)
theorem Tb:∀{zs:List Str}{us:List Value},Vals (zs.map V.str) us->CarriedAll us (zs.map PyData.str) |[],_,.nil=>.nil |z::zs,_,.cons q r=>by obtain⟨t,rfl⟩:=(show∃t,_=Value.str z t from q);exact .cons (.str z t) (Tb r)
section
variable {X:Cx}
inductive VF(K:aa)(x:V)(vs:List V)(H:Hp)(Q:VK):Prop |mk (sep:Str)(l:Addr)(zs:List Str)(h0:x= .str sep)(h1:vs=[.ref l])(h2:aF K H l (zs.map V.str))(h3:(∀z∈zs,z.length<=8))(h4:sep.length<=8)(h5:zs.length<=1000)(h6:Q (.str (Txt.join sep zs)) H):VF K x vs H Q
def rJoin(K:aa):V->List V->Hp->VK->Prop:=fun x vs H Q=>VF K x vs H Q
theorem a3A(K:aa)(hK:X.K=K):zt X "str.join" (rJoin K):=by subst hK;intro au s Z H x vs v us Q I rx rv h;obtain⟨sep,l,zs,rfl,rfl,hl,hz,hs,hn,q⟩:=h;obtain⟨t,rfl⟩:=rx;obtain⟨u,rfl,ru⟩:=vals1 rv;cases(show u=Value.ref l from ru);obtain⟨its,r,pl,_⟩:=I.list hl;refine join_madeW (l:=zs) (g:=id) 8 pl.isList (by rw[List.map_id];exact Tb r) (fun a ha=>hz a ha) (by lia) (by lia) fun t' k=>?_;rw[List.map_id];exact⟨.str _,H,I.tok _,⟨_,rfl⟩,q⟩
theorem a19(K:aa)(h:X.K=K){o e:Expr}{to:TE}{t:TA}{apos cC:Pos}(ho:PE X o to)(ha:PA X [e] t) (ji:attributeBase o "join" X.env (eval o X.env)=eval o X.env:=by rfl) (lg:((backTo cC (starEach [e] X.env)).all (fun x=>!x.1)&&(backToKw cC (keywordEach [] X.env)).all (fun x=>x.1.isSome) &&decide ([e].length+([]:List Keyword).length+(if([]:List Keyword).isEmpty then 0 else 1)<30))=true:=by rfl) (jg:(apos.endLine==cC.line)=true:=by rfl)(hs:starEach [e] X.env=(false,eval e X.env)::starEach [] X.env:=by rfl)(kZ:(backTo cC (starEach [] X.env)).any (·.1)=false:=by rfl): PE X (.Call (.Attribute o "join" apos) [e] [] cC) (rY K "str" (rJoin K) to t):=by subst h;exact vm PySem.F.plainAttrs_str PySem.F.slot_str_join PySem.F.type_str_join (a3A X.K rfl) ho ha ji lg jg hs kZ
end
section
variable {X:Cx}{au:List (Addr×Obj)}{Z:St}{H:Hp}{s:ae}
end
section
variable {X:Cx}
theorem aaI:fy X (.type "range") (fun xs H Q=>∃n,xs=[.int n]/\∀p H',Nw H H' p (.sM 0 n)->Q (.ref p) H'):=by intro au s Z H xs us Q I r h;obtain⟨n,rfl,q⟩:=h;obtain⟨u,rfl,t,rfl⟩:=vals1 r;refine call_range_1 ?_;have hf:H s.heap.objs.size=none:=I.aX.fresh (bK _);refine⟨.ref s.heap.objs.size,upd H s.heap.objs.size (.sM 0 n),I.laid (t':=s.toks+1+1) (fun b u e=>cy _ e) (bK _) ?_,rfl,q _ _ (.of hf)⟩;exact⟨_,_,_,eO _ rfl⟩
end
theorem Yg:isSubtype (.type "range_iterator") (.type "reversed")=pure false:=by rw[isSubtype_type];kernel_rfl
section
variable {prog:ah}{w:World}{A:aj}{E:Value->ae->Prop}{s:ae}
abbrev xS(n:Nat):Obj:={cls:=.type "range_iterator",data:=.fields #[rawInt (0+((n:Int)-1)*1),rawInt (n:Int),rawInt (-1)]}
abbrev FR(n:Nat):Bool:=Builtin.Range.rangeFitsLong 0&&Builtin.Range.rangeFitsLong n&&Builtin.Range.rangeFitsLong 1&&Builtin.Range.rangeFitsLong (-1)&&Builtin.Range.rangeFitsLong (0-1)&&Builtin.Range.rangeFitsLong (Builtin.Range.rangeSize 0 n 1)
theorem NZ{n:Nat}(h:n<2^62):FR n=true:=by unfold FR;rw[rangeSize_one];simp only[Builtin.Range.rangeFitsLong,fh,CS];split<;>lia
theorem ZT(r:Addr)(a b c:Int)(t u v:Tok)(hc0:¬(!(Builtin.Range.rangeFitsLong a&&Builtin.Range.rangeFitsLong b&&Builtin.Range.rangeFitsLong c&&Builtin.Range.rangeFitsLong (-c)&&Builtin.Range.rangeFitsLong (a-c)&&Builtin.Range.rangeFitsLong (Builtin.Range.rangeSize a b c)))=true):Meets (Builtin.«range.__reversed__» ⟨[.ref r],[]⟩) (fun _ R s=>s.heap.get? r=some {cls:=.type "range",dict:=none,data:=.fields #[.int a t,.int b u,.int c v],slots:=#[]}/\R (.ok (.ret (.ref s.heap.objs.size))) {s with heap:=s.heap.push {cls:=.type (if(Builtin.Range.rangeFitsLong a&&Builtin.Range.rangeFitsLong b&&Builtin.Range.rangeFitsLong c&&Builtin.Range.rangeFitsLong (-c)&&Builtin.Range.rangeFitsLong (a-c)&&Builtin.Range.rangeFitsLong (Builtin.Range.rangeSize a b c))=true then "range_iterator" else "longrange_iterator"),data:=.fields #[rawInt (a+(Builtin.Range.rangeSize a b c-1)*c),rawInt (Builtin.Range.rangeSize a b c),rawInt (-c)]},toks:=s.toks}):=.of_wp fun prog w A R s h=>by
   obtain⟨hp,g,d,tk,os⟩:=s;obtain⟨hl,h⟩:=h
   wp_walk;exact⟨_,rfl,h⟩
theorem aaG{l:Addr}{n:Nat}{t u v:Tok}{Q:Value->ae->Prop}(hn:n<2^62)(hl:s.heap.get? l=some {cls:=.type "range",data:=.fields #[.int 0 t,.int n u,.int 1 v]}) (h:Q (.ref s.heap.objs.size) {s with heap:=s.heap.push (xS n)}):wpAny (model prog w) A (call (.builtin "range.__reversed__") [.ref l]) Q E s:=by
  have hT:s.TypeIs (.ref l) "range":=⟨_,hl,rfl⟩;refine wZ WQ hT F.entry_range_reversed (F.args_range_reversed_1 _) (ZT l 0 n 1 t u v (by have:=NZ hn;unfold FR at this;rw[this];decide)) ⟨hl,?_⟩;rw[bc (NZ hn)];have e:Builtin.Range.rangeSize 0 n 1=n:=by rw[rangeSize_one];split<;>lia
  rw[e];exact h
theorem aay{l:Addr}{n:Nat}{t u v:Tok}{Q₁:Value->ae->Prop}(hn:n<2^62)(hl:s.heap.get? l=some {cls:=.type "range",data:=.fields #[.int 0 t,.int n u,.int 1 v]}) (h:Q₁ (.ref s.heap.objs.size) {s with heap:=s.heap.push (xS n)}): codeAny (model prog w) A (.call (.builtin "reversed.__new__") ⟨[.type "reversed",.ref l],[]⟩) (wants Q₁ E) s:=by
  have hT:s.TypeIs (.ref l) "range":=⟨_,hl,rfl⟩;refine codeAny_of_tree ?_;show wpAny _ A.in1 (do checkBuiltinCall "reversed.__new__" ⟨[.type "reversed",.ref l],[]⟩;again (.builtin "reversed.__new__" ⟨[.type "reversed",.ref l],[]⟩)) _ _ s;refine aQ (zB (F.newCall_reversed_1 _) (cn ⟨plainId_quiet F.plain_reversed_new _,codeAny_builtin F.entry_reversed_new ?_⟩));rw[Around.under_plainId F.plain_reversed_new _];unfold Builtin.«reversed.__new__»;refine aQ (zB (newClass_reversed _) ?_)
  try dsimp only
  refine aQ (zB (a:=()) (by first|rfl|kernel_rfl) ?_);refine aQ (zB (a:=()) (by first|rfl|kernel_rfl) ?_)
  try dsimp only
  refine aQ (wpAny_specialOf hT WQ.lookup ?_)
  try dsimp only
  refine aQ (zB (WQ.bind _) ?_)
  try dsimp only
  first |rw[bf (show¬((Value.builtin "range.__reversed__"==Value.none)=true)from kr)] |(show wpAny _ _ (if(Value.builtin "range.__reversed__"==Value.none)=true then _ else _) _ _ _;rw[bf (show¬((Value.builtin "range.__reversed__"==Value.none)=true)from kr)])
  refine aQ (wpAny_rule ?_);refine aQ (m:=runValue (.call (.builtin "range.__reversed__") ⟨[.ref l],[]⟩)) (show wpAny _ _ (call (.builtin "range.__reversed__") [.ref l]) _ _ _ from aaG hn hl ?_)
  first |exact cn h |exact aQ (cn (cn h))
theorem aaH{l:Addr}{n:Nat}{t u v:Tok}{Q:Value->ae->Prop}(hn:n<2^62)(hl:s.heap.get? l=some {cls:=.type "range",data:=.fields #[.int 0 t,.int n u,.int 1 v]}) (h:Q (.ref s.heap.objs.size) {s with heap:=s.heap.push (xS n)}):wpAny (model prog w) A (call (.type "reversed") [.ref l]) Q E s:=by refine callType_other (U:="range_iterator") (Q₁:=fun obj s₁=>obj= .ref s.heap.objs.size/\s₁={s with heap:=s.heap.push (xS n)}) (by decide+kernel) F.create_reversed ⟨_,_,F.mro_reversed⟩ F.made_reversed Yg (F.typeCall_reversed_1 _) (aay hn hl ⟨rfl,rfl⟩) ?_;rintro obj s₁ ⟨rfl,rfl⟩;exact⟨⟨_,eO _ rfl,rfl⟩,h⟩
end
def zu(n:Nat):It:=⟨fun i _=>i<n,fun i H x H'=>H'=H/\x= .int ((n:Int)-1-i),fun i _=>n<=i⟩
theorem Xs{P:ah}{w:World}{K:aa}{tg:Expr}(it:Addr)(n:Nat):Turn P w K tg (zu n) [it] it (fun i h=>IsRangeIter h it ((0+((n:Int)-1)*1)+(i:Nat)*(-1)) ((n:Int)-(i:Nat)) (-1)) where
 mem:=by simp
 obj:=fun i h st b hb=>by
  have e:b=it:=by simpa using hb
  subst e;exact⟨_,st,fun v z=>by have z':Data.fields _=Data.cell v:=z;cases z'⟩
 keep:=fun i h h' st k=>k it (by simp) _ st
 item:=by
  intro X hP hw hK hc i au s Z H E I hf st hg;subst hP hw hK;obtain⟨f0,f1,f2,f3,f4,f5⟩:=hf it (by simp);have W:=Walks.range (prog:=X.prog) (w:=X.w) (I.ok.hd hc) it (0+((n:Int)-1)*1) (-1) n;refine W.item i s _ _ hg st fun v h' tk hv gH kk=>?_;obtain⟨t,rfl⟩:=hv;have I1:Inv X au Z H {s with heap:=h',toks:=tk}:=I.turned (fun b o hb e=>kk b o (by simpa using hb) e) f0 f1 f3 f4 f5;refine⟨_,rfl,wx (s:={s with heap:=h',toks:=tk}) (n:="range_iterator") gH rfl rfl (by decide) ⟨.int ((n:Int)-1-i),H,I1,⟨t,?_⟩,⟨rfl,rfl⟩,gH,fun b hb=>(hf b hb).1⟩⟩;have e:(0+((n:Int)-1)*1)+(i:Int)*(-1)=(n:Int)-1-i:=by lia
  rw[e]
 done:=by intro X hP hw hK hc i au s Z H E I hf st hg;subst hP hw hK;obtain⟨f0,f1,f2,f3,f4,f5⟩:=hf it (by simp);exact Wo (I.ok.hd hc) st (by have:n<=i:=hg;lia) fun h' eb=>⟨rfl,I.turned (t':=s.toks) (fun b o hb e=>eb b o hb e) f0 f1 f3 f4 f5⟩
 self:=fun _ _ _ _ _ st h=>K2 st h
inductive W6(R:It->Hp->Prop)(vs:List V)(H1:Hp):Prop |mk (p:_)(n:_)(h0:vs=[.ref p])(h1:H1 p=some (.sM 0 n))(h2:0<=n)(h3:n<2^62)(h4:R (zu n.toNat) H1):W6 R vs H1
def a5j(ta:TA):TI:=fun Z H R=>ta Z H fun vs H1=>W6 R vs H1
theorem a0J{X:Cx}{tg:Expr}{a:Expr}{ta:TA}{p pos:Pos}(hg:Gl X "reversed")(hm:X.mg "reversed"=none)(ha:PA X [a] ta)(hs:starEach [a] X.env=[(false,eval a X.env)]:=by rfl)(jf:starEach [] X.env=[]:=by rfl): PI X tg (.Call (.Name "reversed" p) [a] [] pos) (a5j ta):=by
  intro au s Z H R I h;refine Call_ (oP I hg hm PyProof.Rows.boot_reversed (xg (aY (ha pos au s Z H _ I h) fun us s1 ⟨vs,H1,I1,r1,q1⟩=>?_) (by rw[hs,jf]) (by rw[jf];rfl)));obtain⟨l,n,e,hl,n0,n1,q⟩:=q1;subst e;obtain⟨u1,rfl,kO⟩:=vals1 r1;cases(show u1=Value.ref l from kO);obtain⟨t,u,v,e⟩:∃t u v,s1.heap.get? l=some {cls:=.type "range",data:=.fields #[.int 0 t,.int n u,.int 1 v]}:=I1.aX l _ hl;obtain⟨m,rfl⟩:∃m:Nat,n=m:=⟨n.toNat,by lia⟩;refine aaH (by lia) e ?_;have hit:IsRangeIter (s1.heap.push (xS m)) s1.heap.objs.size ((0+((m:Int)-1)*1)+((0:Nat):Int)*(-1)) ((m:Int)-((0:Nat):Int)) (-1):=by
   have e1:(0+((m:Int)-1)*1)+((0:Nat):Int)*(-1)=0+((m:Int)-1)*1:=by lia
   have e2:(m:Int)-((0:Nat):Int)=m:=by lia
   rw[e1,e2];exact eO _ rfl
  refine K2 hit ?_;refine⟨s1.heap.objs.size,[s1.heap.objs.size],_,_,H1,rfl,I1.kept (t':=s1.toks) fun b o e=>cy _ e,Xs _ m,hit,fun b hb=>?_,q⟩;have e:b=s1.heap.objs.size:=by simpa using hb
  subst e;exact I1.p9 (bK _) (I1.aX.fresh (bK _))
theorem a8d{n:Nat}{g:TG}{tb:TS}{D:Ends}{Z:St}{H:Hp}(Pv:Nat->St->Hp->Prop)(h0:Pv 0 Z H) (hs:∀i Z H,i<n->Pv i Z H->g (.int ((n:Int)-1-i)) Z H fun σ2 H2=>tb {D with nx:=Pv (i+1),ct:=Pv (i+1),bk:=D.nx} σ2 H2)(hd:∀Z H,Pv n Z H->D.nx Z H): ∃W:Nat->Nat->St->Hp->Prop,(∃m,W 0 m Z H)/\∀i m Z H,W i m Z H->((zu n).stop i H/\D.nx Z H)\/((zu n).go i H/\∃N:St->Hp->Prop,(∀σ' H',N σ' H'->∃m',m'<m/\W (i+1) m' σ' H')/\∀x H',(zu n).jL i H x H'->g x Z H' fun σ2 H2=>tb {D with nx:=N,ct:=N,bk:=D.nx} σ2 H2):=by
  refine⟨fun i m Z H=>m=n-i/\i<=n/\Pv i Z H,⟨n,by simp,fZ _,h0⟩,?_⟩;rintro i m Z H ⟨rfl,hi,p⟩;by_cases cx:i<n
  · refine .inr ⟨cx,Pv (i+1),fun σ' H' q=>⟨n-(i+1),by lia,rfl,cx,q⟩,fun x H' hy=>?_⟩
    obtain⟨rfl,rfl⟩:=hy;exact hs i Z _ cx p
  · have e:i=n:=by lia
    subst e;exact .inl ⟨bK _,hd Z H p⟩
theorem Gi(K:aa){X:Cx}(hK:X.K=K){a:Expr}{ta:TE}(ha:PE X a ta)(he:∀whole,isTrue a X.env whole=(do let v<-whole;standAt a.pos;holding [v] (truthy v)):=by intro _;rfl): PT X a (fun Z H Q=>ta Z H fun x H'=>∃k,JO K x H' k/\Q k H'):=by subst hK;exact a0s ha he
end L2
namespace Cn
open Ln
def da(ns ms:List Int):List Int:=(ns.zip ms).map fun p=>p.1*(aH ms:Int)-p.2*(aH ns:Int)
theorem a3J{ns ms:List Int}{z:Int}(h:z∈da ns ms):∃a b,a∈ns/\b∈ms/\z=a*(aH ms:Int)-b*(aH ns:Int):=by obtain⟨⟨a,b⟩,hp,rfl⟩:=jJ.mp h;exact⟨a,b,(zI hp).1,(zI hp).2,rfl⟩
theorem kU{a b:Int}{m n:Nat}(h:a.natAbs<=m)(g:b.natAbs<=n):(a*b).natAbs<=m*n:=by rw[fN];exact mF h g
theorem Cg{ns ms:List Int}(h1:∀z∈ns,z.natAbs<=1000)(h2:∀z∈ms,z.natAbs<=1000):∀z∈da ns ms,z.natAbs<=2000000:=fun z hz=>by obtain⟨a,b,ha,hb,rfl⟩:=a3J hz;have l1:=nc h1;have l2:=nc h2;have e1:=kU (b:=(aH ms:Int)) (n:=1000) (h1 a ha) (by omega);have e2:=kU (b:=(aH ns:Int)) (n:=1000) (h2 b hb) (by omega);omega
def qF(zs:List Int)(i:Nat):Nat:=aH (zs.take i)
theorem Q4:∀(xs ys:List Int),aH (xs++ys)=max (aH xs) (aH ys) |[],ys=>by simp[aH] |x::xs,ys=>by show max x.natAbs (aH (xs++ys))=max (max x.natAbs (aH xs)) (aH ys);rw[Q4 xs ys];lia
theorem a6q{zs:List Int}{i:Nat}{z:Int}(h:zs[i]? =some z):qF zs (i+1)=max (qF zs i) z.natAbs:=by
 unfold qF;rw[pP,h,Q4];show max _ (max z.natAbs 0)=_
 lia
def uu(r:Rat):Rat:=if r.num<0 then-r else r
theorem abp(r:Rat):(uu r).num=iK r.num:=by
 unfold uu iK;split
 ·rfl
 ·rfl
theorem abr(r:Rat):(uu r).den=r.den:=by
 unfold uu;split
 ·rfl
 ·rfl
theorem aa6{a b:Int}(hb:0<b):0<=(Rat.divInt a b).num↔0<=a:=by rw[K6,xb hb]
theorem abq{c L:Int}(hL:0<L):uu (Rat.divInt c L)=Rat.divInt (iK c) L:=by
 have h:=aa6 (a:=c) hL;unfold uu iK;by_cases hc:c<0
 ·rw[bc hc,bc (by lia),Rat.neg_divInt]
 ·rw[bf hc,bf (by lia)]
theorem SA{a b L:Int}(hL:0<L):Rat.divInt a L<=Rat.divInt b L↔a<=b:=by
 rw[Rat.le_iff_sub_nonneg,Wt _ _ (by lia) (by lia),xb (iB hL hL),<-Int.sub_mul];constructor
 · intro h
   have:=Int.nonneg_of_mul_nonneg_left h hL
   lia
 · intro h
   exact jK (by lia) (by lia)
theorem Sz{a b L:Int}(hL:0<L):Rat.divInt a L<Rat.divInt b L↔a<b:=by rw[<-Rat.not_le,SA hL];lia
theorem Yf{a b l1 l2:Int}(h1:0<l1)(h2:0<l2):Rat.divInt b l2-Rat.divInt a l1=Rat.divInt (b*l1-a*l2) (l1*l2):=by rw[Wt _ _ (by lia) (by lia),Ks l2 l1]
theorem aan{j p q h L:Int}(hp:p≠0)(hh:h≠0)(e:p*L=h*q):Rat.divInt (j*j*q*q) (p*p)=Rat.divInt ((j*L)^2) (h^2):=by
 rw[Rat.divInt_eq_divInt_iff (Kr hp hp) (by rw[fM,fM,lN,kI];exact Kr hh hh)];have e2:(p*L)*(p*L)=(h*q)*(h*q):=by rw[e]
 rw[fM,fM,lN,kI,fM,fM,lN,kI];have a1:j*j*q*q*(h*h)=(j*j)*((h*q)*(h*q)):=by ac_rfl
 have a2:j*L*(j*L)*(p*p)=(j*j)*((p*L)*(p*L)):=by ac_rfl
 rw[a1,a2,e2]
end Cn
namespace Pn
def mn(a b:Rat):Rat:=if b<a then b else a
theorem gC(a b:Rat):mn a b<=a:=by
 unfold mn;split
 ·next h=>exact K8 h
 ·exact pK
theorem kB(a b:Rat):mn a b<=b:=by
 unfold mn;split
 ·exact pK
 ·next h=>exact zG.mp h
theorem kX{a b c:Rat}(h1:c<=a)(h2:c<=b):c<=mn a b:=by unfold mn;split<;>assumption
theorem yl(a b:Rat):mn a b=a\/mn a b=b:=by
 unfold mn;split
 ·exact .inr rfl
 ·exact .inl rfl
theorem mX{a b c:Rat}(hc:c=a\/c=b)(h1:c<=a)(h2:c<=b):mn a b=c:=by
 rcases hc with rfl|rfl
 ·exact CV (gC _ _) (kX h1 h2)
 ·exact CV (kB _ _) (kX h1 h2)
theorem Q7{a b c:Rat}(h:a<=b)(hc:0<=c):a<=b+c:=eg h (by have:=(Rat.add_le_add_left (c:=b)).mpr hc;rwa [Rat.add_zero]at this)
section
variable (n:Nat)(own:Nat->Rat)(L:Nat->Option Nat)(r f:Int)
def Pz(g:Nat->Rat):Nat->Rat |0=>g n |k+1=>match L (n-(k+1))with |some m=>mn (g (n-(k+1))) (Pz g k+((f*(m:Int):Int):Rat)) |none=>g (n-(k+1))
def fl(g:Nat->Rat)(i:Nat):Rat:=Pz n L f g (n-i)
end
section
variable {n:Nat}{own g:Nat->Rat}{L:Nat->Option Nat}{r f:Int}
theorem wz:fl n L f g n=g n:=by unfold fl;rw[Ke];rfl
theorem wA{i m:Nat}(hi:i<n)(h:L i=some m):fl n L f g i=mn (g i) (fl n L f g (i+1)+((f*(m:Int):Int):Rat)):=by
 unfold fl;have e:n-i=(n-(i+1))+1:=by omega
 rw[e];show(match L (n-((n-(i+1))+1))with|some m=>_|none=>_)=_;have e2:n-((n-(i+1))+1)=i:=by omega
 rw[e2,h]
theorem wy{i:Nat}(hi:i<n)(h:L i=none):fl n L f g i=g i:=by
 unfold fl;have e:n-i=(n-(i+1))+1:=by lia
 rw[e];show(match L (n-((n-(i+1))+1))with|some m=>_|none=>_)=_;have e2:n-((n-(i+1))+1)=i:=by lia
 rw[e2,h]
theorem a3w{a:Int}{m:Nat}(h:0<=a):(0:Rat)<=((a*(m:Int):Int):Rat):=by have:((0:Int):Rat)<=((a*(m:Int):Int):Rat):=Rat.intCast_le_intCast.mpr (jK h (by lia));exact this
theorem down{C:Nat->Prop}(hn:C n)(hs:∀i,i<n->C (i+1)->C i):∀i,i<=n->C i:=by
 have key:∀k,k<=n->C (n-k):=fun k=>by induction k with |zero=>intro _;exact hn |succ k ih=>
    intro hk;refine hs _ (by omega) ?_;have e:n-(k+1)+1=n-k:=by omega
    rw[e];exact ih (by omega)
 intro i hi;have:=key (n-i) (by omega);have e:n-(n-i)=i:=by omega
 rwa [e]at this
end
open Rt
theorem yn{n:Nat}{a b:Rat}(h1:Bd n a)(h2:Bd n b):Bd n (mn a b):=by rcases yl a b with e|e<;>rw[e]<;>assumption
theorem Cw{n:Nat}{q:Rat}{z:Int}(h:Bd n q)(hz:z.natAbs<2^24):Bd (n+25) (q+(z:Rat)):=by have b:Bd 24 (z:Rat):=⟨hz,by show 1<2^24;decide⟩;exact(h.add b).mono (by lia)
theorem RL{n b:Nat}{g:Nat->Rat}{L:Nat->Option Nat}{f:Int}(ho:∀i,i<=n->Bd b (g i))(hL:∀i m,L i=some m->(f*(m:Int)).natAbs<2^24):∀i,i<=n->Bd (b+25*(n-i)) (fl n L f g i):=by
 refine down ?_ fun i hi ih=>?_
 ·rw[wz];exact(ho n (bK _)).mono (by lia)
 ·cases h:L i with |none=>rw[wy hi h];exact(ho i (by lia)).mono (by lia) |some m=>rw[wA hi h];exact yn ((ho i (by lia)).mono (by lia)) ((Cw ih (hL i m h)).mono (by lia))
def lst(n:Nat)(g:Nat->Rat):List Rat:=(List.range (n+1)).map g
theorem qA(n:Nat)(g:Nat->Rat):(lst n g).length=n+1:=by simp[lst]
theorem qB{n:Nat}(g:Nat->Rat){i:Nat}(h:i<=n):(lst n g)[i]? =some (g i):=by unfold lst;rw[cA,cj (by simp;lia),uK];rfl
theorem a4a{n:Nat}{g g':Nat->Rat}{i:Nat}(h:∀k,k<=n->k≠i->g' k=g k):(lst n g).set i (g' i)=lst n g':=by
 apply rO;intro k;by_cases hk:k<=n
 · rw[qB g' hk,List.getElem?_set]
   by_cases e:i=k
   ·subst e;rw[bc rfl,bc (by rw[qA];lia)]
   ·rw[bf e,qB g hk,h k hk (fun z=>e z.symm)]
 ·rw[lM (by rw[uJ,qA];lia),lM (by rw[qA];lia)]
theorem Ha{n:Nat}{g g':Nat->Rat}(h:∀k,k<=n->g' k=g k):lst n g=lst n g':=by
 apply rO;intro k;by_cases hk:k<=n
 ·rw[qB g hk,qB g' hk,h k hk]
 ·rw[lM (by rw[qA];lia),lM (by rw[qA];lia)]
end Pn
namespace Ow
open Pn Cn Ln Rt
abbrev Itm:=Option (List Int × Int)
def topR(ay sp:Int):Rat:=Rat.divInt ((sp*ay)^2) 10000
def cornO(j:Int)(ns ms:List Int):Option Rat:=if aH (da ns ms)=0 then none else some (Rat.divInt ((j*aH ns*aH ms)^2) ((aH (da ns ms):Int)^2))
def mnO(a:Rat):Option Rat->Rat |none=>a |some c=>mn a c
def betR(j ay:Int):Itm->Itm->Rat |some (ns,sp),some (ms,sq)=>mnO (mn (topR ay sp) (topR ay sq)) (cornO j ns ms) |_,_=>0
def atO(os:List Itm)(i:Nat):Itm:=(os[i]?).join
def ownF(j ay:Int)(os:List Itm):Nat->Rat |0=>0 |i+1=>betR j ay (atO os i) (atO os (i+1))
def leadF(os:List Itm)(i:Nat):Option Nat:=(atO os i).map fun q=>aH q.1
def ownL(j ay:Int)(os:List Itm):List Rat:=(List.range (os.length+1)).map (ownF j ay os)
theorem pE{os:List Itm}{i:Nat}{o:Itm}(h:os[i]? =some o):atO os i=o:=by unfold atO;rw[h];rfl
theorem abb{os:List Itm}{i:Nat}(h:os.length<=i):atO os i=none:=by unfold atO;rw[lM h];rfl
theorem Cq(j ay:Int)(o:Itm):betR j ay o none=0:=by unfold betR;split<;>simp_all
theorem Tr(j ay:Int)(o:Itm):betR j ay none o=0:=by unfold betR;split<;>simp_all
theorem Gv(j ay:Int)(os:List Itm):∀n,n=os.length->ownF j ay os n=0 |0,_=>rfl |n+1,h=>by show betR j ay (atO os n) (atO os (n+1))=0;rw[abb (i:=n+1) (by lia)];exact Cq _ _ _
theorem OJ(j ay:Int)(os:List Itm):(ownL j ay os).length=os.length+1:=by simp[ownL]
theorem OK(j ay:Int)(os:List Itm){i:Nat}(h:i<=os.length):(ownL j ay os)[i]? =some (ownF j ay os i):=by unfold ownL;rw[cA,cj (by simp;lia),uK];rfl
theorem OL(j ay:Int){os:List Itm}(h:os≠[]):ownL j ay os=[0]++(List.range (os.length-1)).map (fun i=>ownF j ay os (i+1))++[0]:=by
 have h0:0<os.length:=Km.mpr h;apply rO;intro i;by_cases hi:i<=os.length
 · rw[OK j ay os hi]
   rcases Nat.eq_zero_or_pos i with rfl|hp
   ·rfl
   · by_cases hl:i=os.length
     · rw[zL (by simp;lia),hl,Gv j ay os _ rfl]
       have:os.length-([0]++List.map (fun i=>ownF j ay os (i+1)) (List.range (os.length-1))).length=0:=by simp;lia
       rw[this];rfl
     · rw[xj (by simp;lia),zL (by simp;lia),cA]
       have e:i-[(0:Rat)].length=i-1:=rfl;rw[e,cj (by simp;lia),uK];show some _=some (ownF j ay os (i-1+1));rw[Nat.sub_add_cancel hp]
 ·rw[lM (by rw[OJ];lia),lM (by simp;lia)]
theorem A7(ay sp:Int):0<=topR ay sp:=by
 unfold topR;rw[xb (by decide),fM,fM,lN,kI];rcases Int.le_total 0 (sp*ay)with h|h
 ·exact jK h h
 ·exact WK h h
theorem Yq(a:Int):0<=a^2:=by
 rw[fM,fM,lN,kI];rcases Int.le_total 0 a with h|h
 ·exact jK h h
 ·exact WK h h
theorem aao{j:Int}{ns ms:List Int}{c:Rat}(h:cornO j ns ms=some c):0<=c:=by
 unfold cornO at h;split at h
 ·cases h
 ·next h0=>
   cases h;rw[xb]
   ·exact Yq _
   ·rw[fM,fM,lN,kI];exact iB (by lia) (by lia)
theorem ab1(j ay:Int)(o p:Itm):0<=betR j ay o p:=by
 unfold betR;split
 ·next ns sp ms sq=>
   have h:=kX (A7 ay sp) (A7 ay sq);unfold mnO;split
   ·exact h
   ·next c e=>exact kX h (aao e)
 ·exact pK
theorem ON(j ay:Int)(os:List Itm):∀i,0<=ownF j ay os i |0=>pK |i+1=>ab1 _ _ _ _
def OkI(o:Itm):Prop:=∀ns sp,o=some (ns,sp)->(∀z∈ns,(z.natAbs:Int)<=100)/\1<=sp/\sp<=20
theorem DH{a:Int}{m:Nat}(h:a.natAbs<=m):(a^2).natAbs<=m*m:=by rw[fM,fM,lN,kI];exact kU h h
theorem uO{ay sp:Int}(h1:1<=sp)(h2:sp<=20)(h3:10<=ay)(h4:ay<=200):Bd 64 (topR ay sp):=by
 have lD:(2:Nat)^64=18446744073709551616:=by decide
 have a:=DH (kU (a:=sp) (b:=ay) (m:=20) (n:=200) (by lia) (by lia));exact kz (by decide) (by rw[lD];lia) (by decide)
theorem Js{j:Int}{ns ms:List Int}{c:Rat}(h1:1<=j)(h2:j<=50)(hn:∀z∈ns,(z.natAbs:Int)<=100)(hm:∀z∈ms,(z.natAbs:Int)<=100)(h:cornO j ns ms=some c):Bd 64 c:=by
 have lD:(2:Nat)^64=18446744073709551616:=by decide
 have cb:=Cg (fun z hz=>by have:=hn z hz;lia) (fun z hz=>by have:=hm z hz;lia) (ns:=ns) (ms:=ms);have hb:=nc cb;have l1:=nc (ns:=ns) (m:=100) fun z hz=>by have:=hn z hz;lia
 have l2:=nc (ns:=ms) (m:=100) fun z hz=>by have:=hm z hz;lia
 unfold cornO at h;split at h
 ·cases h
 ·next h0=>cases h;have a:=DH (kU (kU (a:=j) (b:=(aH ns:Int)) (m:=50) (n:=100) (by lia) (by lia)) (b:=(aH ms:Int)) (n:=100) (by lia));have b:=DH (a:=(aH (da ns ms):Int)) (m:=2000000) (by lia);refine kz ?_ (by rw[lD];lia) (by rw[lD];lia);rw[fM,fM,lN,kI];exact Kr (by lia) (by lia)
theorem yn{n:Nat}{a b:Rat}(h1:Bd n a)(h2:Bd n b):Bd n (mn a b):=by rcases yl a b with e|e<;>rw[e]<;>assumption
theorem Kz:Bd 64 (0:Rat):=⟨by decide,by decide⟩
theorem ab2{j ay:Int}{o p:Itm}(h1:1<=j)(h2:j<=50)(h3:10<=ay)(h4:ay<=200)(ho:OkI o)(hp:OkI p):Bd 64 (betR j ay o p):=by
 unfold betR;split
 ·next ns sp ms sq=>
   obtain⟨a1,a2,a3⟩:=ho ns sp rfl;obtain⟨b1,b2,b3⟩:=hp ms sq rfl;have h:=yn (uO a2 a3 h3 h4) (uO b2 b3 h3 h4);unfold mnO;split
   ·exact h
   ·next c e=>exact yn h (Js h1 h2 a1 b1 e)
 ·exact Kz
def OkIs(os:List Itm):Prop:=∀i,OkI (atO os i)
theorem Gw{j ay:Int}{os:List Itm}(h1:1<=j)(h2:j<=50)(h3:10<=ay)(h4:ay<=200)(ho:OkIs os):∀i,Bd 64 (ownF j ay os i) |0=>Kz |i+1=>ab2 h1 h2 h3 h4 (ho i) (ho (i+1))
end Ow
namespace Wk
open PySem L2
def fR(pl ns:List Int):List Int:=List.zipWith (fun a b=>a+b) pl ns
theorem qX{pl ns:List Int}(h:ns.length=pl.length):(fR pl ns).length=pl.length:=by unfold fR;rw[List.length_zipWith,h];exact Nat.min_self _
theorem JM{pl ns:List Int}{i:Nat}{a b:Int}(h1:pl[i]? =some a)(h2:ns[i]? =some b):(fR pl ns)[i]? =some (a+b):=by unfold fR;rw[D9,h1,h2]
def qo(rs pl:List Int):Bool:=(pl.zip rs).all fun p=>decide (0<=p.1)&&decide (p.1<=p.2)
structure iM(rs pl:List Int):Prop where
 len:pl.length=rs.length
 at':∀(i:Nat)(x r:Int),pl[i]? =some x->rs[i]? =some r->0<=x/\x<=r
theorem OX{rs pl:List Int}(h:pl.length=rs.length):qo rs pl=true↔iM rs pl:=by
 unfold qo;rw[iQ];constructor
 · intro a
   refine⟨h,fun i x r e1 e2=>?_⟩;have:=a (x,r) (gG ((xi (z:=(x,r))).mpr ⟨e1,e2⟩));rw[fh,rH,rH]at this;exact this
 · rintro a ⟨x,r⟩ hp
   obtain⟨i,hi⟩:=pQ.mp hp;obtain⟨e1,e2⟩:=(xi (z:=(x,r))).mp hi;have:=a.at' i x r e1 e2;rw[fh,rH,rH];exact this
end Wk
namespace L2
open PySem PySem.Spec PyProof.Rows
section
variable {X:Cx}
theorem a1b(K:aa)(h:X.K=K){o e:Expr}{to:TE}{t:TA}{apos cC:Pos}(ho:PE X o to)(ha:PA X [e] t) (ji:attributeBase o "extend" X.env (eval o X.env)=eval o X.env:=by rfl) (lg:((backTo cC (starEach [e] X.env)).all (fun x=>!x.1)&&(backToKw cC (keywordEach [] X.env)).all (fun x=>x.1.isSome) &&decide ([e].length+([]:List Keyword).length+(if([]:List Keyword).isEmpty then 0 else 1)<30))=true:=by rfl) (jg:(apos.endLine==cC.line)=true:=by rfl)(hs:starEach [e] X.env=(false,eval e X.env)::starEach [] X.env:=by rfl)(kZ:(backTo cC (starEach [] X.env)).any (·.1)=false:=by rfl): PE X (.Call (.Attribute o "extend" apos) [e] [] cC) (rY K "list" Oi to t):=by subst h;exact vm zH PySem.F.slot_list_extend PySem.F.type_list_extend a3y ho ha ji lg jg hs kZ
open PyProof
end
end L2
namespace L2
open PySem PySem.Spec PyProof.Rows
section
variable {K:aa} {H H' H2:Hp}
end
def JU(z:Str):It:=⟨fun i _=>i<z.cps.size,fun i H x H'=>H'=H/\∃c,z.cps.toList[i]? =some c/\x= .str ⟨#[c]⟩,fun i _=>z.cps.size<=i⟩
theorem Xr{P:ah}{w:World}{K:aa}{tg:Expr}(it:Addr)(z:Str)(t:Tok)(ty:String)(yD:["enumerate","zip","dict_itemiterator","dict_reverseitemiterator","odict_iterator","itertools.zip_longest","itertools.pairwise"].contains ty=false) (W:∀A':aj,A'.handled=none->Walks P w A' it [it] [it] z.cps.size (SignAt z) (fun i h=>h.IsStrIter it ty z t i)) (self:∀(A:aj)(i:Nat)(s:ae)(Q:Value->ae->Prop)(E:Value->ae->Prop),s.heap.IsStrIter it ty z t i->Q (.ref it) s->wpAny (model P w) A (pyIter (.ref it)) Q E s): Turn P w K tg (JU z) [it] it (fun i h=>h.IsStrIter it ty z t i/\i<=z.cps.size) where
  mem:=by simp
  obj:=fun i h st b hb=>by
   have e:b=it:=by simpa using hb
   subst e;obtain⟨⟨o,e,c,d⟩,_⟩:=st;exact⟨o,e,fun v z=>by rw[d]at z;cases z⟩
  keep:=fun i h h' st k=>⟨let⟨o,e,r⟩:=st.1;⟨o,k it (by simp) o e,r⟩,st.2⟩
  item:=by intro X hP hw hK hc i au s Z H E I hf st hg;subst hP hw hK;obtain⟨f0,f1,f2,f3,f4,f5⟩:=hf it (by simp);refine(W X.A (I.ok.hd hc)).item i s _ _ hg st.1 fun v h' tk hv gH kk=>?_;obtain⟨c,u,ec,rfl⟩:=hv;have I1:Inv X au Z H {s with heap:=h',toks:=tk}:=I.turned (fun b o hb e=>kk b o (by simpa using hb) e) f0 f1 f3 f4 f5;obtain⟨o,e,cl,d⟩:=id gH;exact⟨_,rfl,wx (s:={s with heap:=h',toks:=tk}) e cl d yD ⟨.str ⟨#[c]⟩,H,I1,⟨u,rfl⟩,⟨rfl,c,by simpa using ec,rfl⟩,⟨gH,hg⟩,fun b hb=>(hf b hb).1⟩⟩
  done:=by intro X hP hw hK hc i au s Z H E I hf st hg;subst hP hw hK;obtain⟨f0,f1,f2,f3,f4,f5⟩:=hf it (by simp);obtain⟨st,hle⟩:=st;have ei:i=z.cps.size:=Nat.le_antisymm hle hg;subst ei;exact(W X.A (I.ok.hd hc)).done s _ _ st fun h' tk eb=>⟨rfl,I.turned (fun b o hb e=>eb b o (by simpa using hb) e) f0 f1 f3 f4 f5⟩
  self:=fun A i s Q E st h=>self A i s Q E st.1 h
section
variable {X:Cx} {tg:Expr}
inductive W0(R:It->Hp->Prop)(x:V)(H1:Hp):Prop |mk (z:_)(h0:x= .str z)(h1:R (JU z) H1):W0 R x H1
def a5f(tl:TE):TI:=fun Z H R=>tl Z H fun x H1=>W0 R x H1
theorem a0I{l:Expr}{tl:TE}(hl:PE X l tl):PI X tg l (a5f tl):=by
 intro au s Z H R I h;refine aY (hl au s Z H _ I h) fun v s1 ⟨x,H1,I1,r1,q1⟩=>?_;obtain⟨z,e,q⟩:=q1;subst e;obtain⟨t,rfl⟩:=r1;have fin:∀ty,["enumerate","zip","dict_itemiterator","dict_reverseitemiterator","odict_iterator","itertools.zip_longest","itertools.pairwise"].contains ty=false->(∀A':aj,A'.handled=none->Walks X.prog X.w A' s1.heap.objs.size [s1.heap.objs.size] [s1.heap.objs.size] z.cps.size (SignAt z) (fun i h=>h.IsStrIter s1.heap.objs.size ty z t i))->(∀(A:aj)(i:Nat)(s:ae)(Q:Value->ae->Prop)(E:Value->ae->Prop),s.heap.IsStrIter s1.heap.objs.size ty z t i->Q (.ref s1.heap.objs.size) s->wpAny (model X.prog X.w) A (pyIter (.ref s1.heap.objs.size)) Q E s)->CH X au Z tg R (.ref s1.heap.objs.size) {s1 with heap:=s1.heap.push {cls:=.type ty,data:=.fields #[.str z t,.int 0 0]}}:=fun ty h1 h2 h3=>by
   refine⟨s1.heap.objs.size,[s1.heap.objs.size],_,_,H1,rfl,I1.kept (t':=s1.toks) fun b o e=>cy _ e,Xr _ z t ty h1 h2 h3,⟨⟨_,eO _ rfl,rfl,rfl⟩,fZ _⟩,fun b hb=>?_,q⟩;have e:b=s1.heap.objs.size:=by simpa using hb
   subst e;exact I1.p9 (bK _) (I1.aX.fresh (bK _))
 cases ha:z.cps.all (·<128)
 ·exact wpAny_pyIter_wide ha (fin "str_iterator" (by decide) (fun A' hA=>Walks.strWide hA _ z t) (fun _ _ _ _ _ st h=>wpAny_pyIter_striter_wide st h))
 ·exact wpAny_pyIter_ascii ha (fin "str_ascii_iterator" (by decide) (fun A' hA=>Walks.strAscii hA _ z t) (fun _ _ _ _ _ st h=>wpAny_pyIter_striter_ascii st h))
theorem aau{z:Str}{f:Nat->Bool}{te:TE}{Q:VK}{D:Addr}{H H0:Hp}(rest:St)(nw:Nw H H0 D (.lst []))(hz:z.length<=1000) (hs:∀(c:Nat)(H2:Hp)(Q':VK),c∈z.cps.toList->aE H H2->(∀H3,aE H2 H3->Q' (.bl (f c)) H3)->te (some (.str ⟨#[c]⟩)::rest) H2 Q') (hq:∀H',aE H H'->H' D=some (.lst ((z.cps.toList.map f).map V.bl))->Q (.ref D) H'):iP (JU z) (eZ 0) hJ te Q D (none::rest) H0:=by
  have hl:z.cps.toList.length=z.cps.size:=by simp
  refine Jt (xs:=z.cps.toList.map fun c=>V.str ⟨#[c]⟩) (bs:=z.cps.toList.map f) rest nw (by simp) (by simpa[Str.length]using hz) ?_ ?_ ?_ hq
  · intro i x H2 ex s2
    rw[cA]at ex;cases ec:z.cps.toList[i]? with |none=>rw[ec]at ex;cases ex |some c=>rw[ec]at ex;cases ex;refine⟨by have:=(dM.mp ec).1;show i<z.cps.size;omega,fun y H3 ⟨e3,c',Sk,e⟩=>⟨e3,?_⟩⟩;rw[ec]at Sk;cases Sk;exact e
  · intro H2 s2
    show z.cps.size<=(z.cps.toList.map _).length;rw[cu,hl];exact bK _
  · intro i x b H2 Q' ex eb s2 jU
    rw[cA]at ex eb;cases ec:z.cps.toList[i]? with |none=>rw[ec]at ex;cases ex |some c=>rw[ec]at ex eb;cases ex;cases eb;exact hs c H2 Q' (gG ec) s2 jU
theorem a1s:dk X (compareOp .In) (fun x y H Q=>∃c j,x= .str ⟨#[c]⟩/\y= .str j/\Q (.bl (decide (c∈j.cps.toList))) H):=by intro au s Z H x y v u Q I rx ry h;obtain⟨c,j,rfl,rfl,q⟩:=h;refine a1r au s Z H _ _ v u Q I rx ry ⟨_,_,rfl,rfl,?_⟩;rw[PySem.StrLaws.found_one];exact q
inductive VO(K:aa)(x:V)(y:V)(H:Hp)(Q:VK):Prop |mk (p:_)(xs:_)(d:_)(ds:_)(h0:y= .ref p)(h1:aP K H p xs)(h2:RD K H x d)(h3:aJ K H xs ds)(h4:SeqAt.shaped d=true)(h5:(∀e∈ds,SeqAt.shaped e=true))(h6:Q (.bl (ds.any fun e=>PyData.eqv e d)) H):VO K x y H Q
def a0i(K:aa):R2:=fun x y H Q=>VO K x y H Q
theorem a5b(K:aa)(hK:X.K=K)(hu:X.A.units+65<cLine):dk X (compareOp .In) (a0i K):=by
 subst hK;intro au s Z H x y v u Q I rx ry h;obtain⟨p,xs,d,ds,rfl,hx,hd,qJ,sd,YR,q⟩:=h;cases ry;obtain⟨its,r,pl,hz⟩:=I.tuple hx;obtain⟨k1,k2⟩:=S6 I hu rx hd sd r qJ YR;refine SeqAt.in_tupleAt (ug s.heap d) (show s.heap.IsTuple p its.toArray from pl) (fun w hw=>k1 w (by simpa using hw)) ⟨.bl _,H,I,rfl,?_⟩;have e:its.toArray.any (ug s.heap d)=ds.any fun e=>PyData.eqv e d:=by rw[<-k2];simp
 rw[e];exact q
end
def wV(lo:Int)(n:Nat):It:=⟨fun i _=>i<n,fun i H x H'=>H'=H/\x= .int (lo-i),fun i _=>n<=i⟩
theorem Xw{P:ah}{w:World}{K:aa}{tg:Expr}(it:Addr)(lo:Int)(n:Nat):Turn P w K tg (wV lo n) [it] it (fun i h=>IsRangeIter h it (lo+(i:Nat)*(-1)) ((n:Int)-(i:Nat)) (-1)) where
 mem:=by simp
 obj:=fun i h st b hb=>by
  have e:b=it:=by simpa using hb
  subst e;exact⟨_,st,fun v z=>by have z':Data.fields _=Data.cell v:=z;cases z'⟩
 keep:=fun i h h' st k=>k it (by simp) _ st
 item:=by
  intro X hP hw hK hc i au s Z H E I hf st hg;subst hP hw hK;obtain⟨f0,f1,f2,f3,f4,f5⟩:=hf it (by simp);have W:=Walks.range (prog:=X.prog) (w:=X.w) (I.ok.hd hc) it lo (-1) n;refine W.item i s _ _ hg st fun v h' tk hv gH kk=>?_;obtain⟨t,rfl⟩:=hv;have I1:Inv X au Z H {s with heap:=h',toks:=tk}:=I.turned (fun b o hb e=>kk b o (by simpa using hb) e) f0 f1 f3 f4 f5;refine⟨_,rfl,wx (s:={s with heap:=h',toks:=tk}) (n:="range_iterator") gH rfl rfl (by decide) ⟨.int (lo-i),H,I1,⟨t,?_⟩,⟨rfl,rfl⟩,gH,fun b hb=>(hf b hb).1⟩⟩;have e:lo+(i:Int)*(-1)=lo-i:=by lia
  rw[e]
 done:=by intro X hP hw hK hc i au s Z H E I hf st hg;subst hP hw hK;obtain⟨f0,f1,f2,f3,f4,f5⟩:=hf it (by simp);exact Wo (I.ok.hd hc) st (by have:n<=i:=hg;lia) fun h' eb=>⟨rfl,I.turned (t':=s.toks) (fun b o hb e=>eb b o hb e) f0 f1 f3 f4 f5⟩
 self:=fun _ _ _ _ _ st h=>K2 st h
theorem Yu{a b:Int}(ha:-(2^62)<=a)(QV:a<2^62)(hb:-(2^62)<=b)(lY:b<2^62):Builtin.Range.small a b (-1)=true:=by unfold Builtin.Range.small Builtin.Range.rangeSize;rw[bf (by decide),show(-(-1):Int)=1 by decide,Int.ediv_one];simp only[Builtin.Range.rangeFitsLong,fh,Bool.or_eq_true,CS,fS,show¬((-1:Int)>0) by decide,if_false];split<;>lia
theorem YF(a b:Int):Builtin.Range.rangeSize a b (-1)=(((a-b).toNat:Nat):Int):=by unfold Builtin.Range.rangeSize;rw[bf (by decide),show(-(-1):Int)=1 by decide,Int.ediv_one];split<;>lia
inductive W3(R:It->Hp->Prop)(vs:List V)(H1:Hp):Prop |mk (i:Int)(j:Int)(h0:vs=[.int i,.int j,.int (-1)])(h1:(-(2^62)<=i/\i<2^62/\-(2^62)<=j/\j<2^62))(h2:R (wV i (i-j).toNat) H1):W3 R vs H1
def a5g(ta:TA):TI:=fun Z H R=>ta Z H fun vs H1=>W3 R vs H1
section
variable {X:Cx} {tg:Expr}
theorem a06{au:List (Addr×Obj)}{Z:St}{H:Hp}{s:ae}{R:It->Hp->Prop}{E:Value->ae->Prop}{lo hi:Int}{t u v:Tok}{tk:Nat}(I:Inv X au Z H s)(h1:-(2^62)<=lo)(h2:lo<2^62)(h3:-(2^62)<=hi)(h4:hi<2^62) (q:R (wV lo (lo-hi).toNat) H):wpAny (model X.prog X.w) X.A (pyIter (.ref s.heap.objs.size)) (CH X au Z tg R) E {s with heap:=s.heap.push {cls:=.type "range",data:=.fields #[.int lo t,.int hi u,.int (-1) v]},toks:=tk}:=by
  refine wpAny_pyIter_range (IsRange.new ..) (Yu h1 h2 h3 h4) ?_;have I1:Inv X au Z H {s with heap:=s.heap.push {cls:=.type "range",data:=.fields #[.int lo t,.int hi u,.int (-1) v]},toks:=tk}:=I.kept fun b o e=>cy _ e;refine⟨(s.heap.push {cls:=.type "range",data:=.fields #[.int lo t,.int hi u,.int (-1) v]}).objs.size,[(s.heap.push {cls:=.type "range",data:=.fields #[.int lo t,.int hi u,.int (-1) v]}).objs.size],_,_,H,rfl,I1.kept (t':=tk) fun b o e=>cy _ e,Xw _ lo (lo-hi).toNat,?_,fun b hb=>?_,q⟩
  · have e1:lo+((0:Nat):Int)*(-1)=lo:=by simp
    have e2:(((lo-hi).toNat:Nat):Int)-((0:Nat):Int)=Builtin.Range.rangeSize lo hi (-1):=by rw[YF];lia
    show IsRangeIter _ _ (lo+((0:Nat):Int)*(-1)) ((((lo-hi).toNat:Nat):Int)-((0:Nat):Int)) (-1);rw[e1,e2];exact eO _ rfl
  · have e:b=(s.heap.push {cls:=.type "range",data:=.fields #[.int lo t,.int hi u,.int (-1) v]}).objs.size:=by simpa using hb
    subst e;exact I1.p9 (bK _) (I1.aX.fresh (bK _))
theorem a0K{a b c:Expr}{ta:TA}{p pos:Pos}(hg:Gl X "range")(hm:X.mg "range"=none)(ha:PA X [a,b,c] ta)(hs:starEach [a,b,c] X.env=[(false,eval a X.env),(false,eval b X.env),(false,eval c X.env)]:=by rfl)(jf:starEach [b,c] X.env=[(false,eval b X.env),(false,eval c X.env)]:=by rfl): PI X tg (.Call (.Name "range" p) [a,b,c] [] pos) (a5g ta):=by intro au s Z H R I h;refine Call_ (oP I hg hm boot_range (xg (aY (ha pos au s Z H _ I h) fun us s1 ⟨vs,H1,I1,r1,q1⟩=>?_) (by rw[hs,jf]) (by rw[jf];rfl)));obtain⟨i,j,e,⟨q1,q2,q3,q4⟩,q⟩:=q1;subst e;cases r1 with |cons r rr=>cases rr with |cons r' rr=>cases rr with |cons r'' rr=>cases rr;obtain⟨t,rfl⟩:=r;obtain⟨t',rfl⟩:=r';obtain⟨t'',rfl⟩:=r'';exact call_range_3 (by decide) (a06 I1 q1 q2 q3 q4 q) (Or.inl (PyProof.noPylong_small (by lia)))
theorem a8f{lo:Int}{n:Nat}{g:TG}{tb:TS}{D:Ends}{Z:St}{H:Hp}(Pv:Nat->St->Hp->Prop)(h0:Pv 0 Z H) (hs:∀i Z H,i<n->Pv i Z H->g (.int (lo-i)) Z H fun σ2 H2=>tb {D with nx:=Pv (i+1),ct:=Pv (i+1),bk:=D.nx} σ2 H2)(hd:∀Z H,Pv n Z H->D.nx Z H): ∃W:Nat->Nat->St->Hp->Prop,(∃m,W 0 m Z H)/\∀i m Z H,W i m Z H->((wV lo n).stop i H/\D.nx Z H)\/((wV lo n).go i H/\∃N:St->Hp->Prop,(∀σ' H',N σ' H'->∃m',m'<m/\W (i+1) m' σ' H')/\∀x H',(wV lo n).jL i H x H'->g x Z H' fun σ2 H2=>tb {D with nx:=N,ct:=N,bk:=D.nx} σ2 H2):=by
  refine⟨fun i m Z H=>m=n-i/\i<=n/\Pv i Z H,⟨n,by simp,fZ _,h0⟩,?_⟩;rintro i m Z H ⟨rfl,hi,hp⟩;by_cases h:i<n
  · refine .inr ⟨h,Pv (i+1),fun σ' H' wa=>⟨n-(i+1),by lia,rfl,by lia,wa⟩,?_⟩
    rintro x H' ⟨rfl,rfl⟩;exact hs i Z H' h hp
  · have e:i=n:=by lia
    subst e;exact .inl ⟨bK _,hd Z H hp⟩
end
theorem SK{K:aa}{b1 b2:Bool}{l1 l2:Addr}{xs ys:List V}{bs:List Bool}{te:TE}{Q:VK}{D:Addr}{H H0:Hp}{n:Nat}(rest:St)(hn:n=2)(h1:eL b1 K H l1 xs)(h2:eL b2 K H l2 ys)(nw:Nw H H0 D (.lst [])) (hl:min xs.length ys.length=bs.length)(hz:bs.length<=100000) (hs:∀(i:Nat)(x y:V)(b:Bool)(H2:Hp)(Q':VK),xs[i]? =some x->ys[i]? =some y->bs[i]? =some b->aE H H2->(∀H3,aE H2 H3->Q' (.bl b) H3)->te (some x::some y::rest) H2 Q') (hq:∀H',aE H H'->H' D=some (.lst (bs.map V.bl))->Q (.ref D) H'):iP (mE K b1 b2 l1 l2) (p8 K n (jV (eZ 0) (jV (eZ 1) qN))) hJ te Q D (none::none::rest) H0:=by
  subst hn;have hD:=nw.no;refine qT bs.length (fun i Z H2=>aE H H2/\H2 D=some (.lst ((bs.take i).map V.bl))/\∃v v',Z=v::v'::rest) ?_ ?_ ?_
  ·exact⟨nw.same,nw.at',none,none,rfl⟩
  · rintro i Z H2 hi ⟨s2,d2,v,v',rfl⟩
    have hx:i<xs.length:=by lia
    have hy:i<ys.length:=by lia
    have ex:=cj hx;have ey:=cj hy;have eb:=cj hi;refine⟨⟨xs,ys,_,_,h1.go s2,h2.go s2,ex,ey⟩,fun y' H3 jT=>?_⟩;obtain⟨T,x0,y0,rfl,k1,k2,n3⟩:=jT;have e1:=k1 _ (h1.go s2);have e2:=k2 _ (h2.go s2);rw[ex]at e1;rw[ey]at e2;cases e1;cases e2;refine⟨T,_,rfl,aP.of n3.at',rfl,_,_,rfl,_,_,rfl,rfl,?_⟩;refine yes (bV ?_);refine hs i _ _ _ _ _ ex ey eb (s2.trans n3.same) fun H4 s4=>?_;refine⟨_,s4 _ _ (n3.same _ _ d2),?_,bs.length-(i+1),by lia,rfl,by lia,fun b o e=>?_,?_,_,_,rfl⟩
    · rw[cu,oh]
      have:(100000:Nat)<sizeLine:=by decide
      lia
    ·rw[aK (fW e hD)];exact s4 b o (n3.same b o (s2 b o e))
    ·rw[ba,pP,eb,og];rfl
  · rintro Z H2 ⟨s2,d2,v,v',rfl⟩
    refine⟨⟨xs,ys,h1.go s2,h2.go s2,by lia⟩,hq H2 s2 ?_⟩;rw[d2,xh]
structure MA(K:aa)(C:Addr)(m qual:Str)(st:Stmt):Prop where ex:∃f fd,Meth K C m f/\kh K m qual st f fd
def cL(P:ah)(w:World)(K:aa)(mg:Str->Option Value)(base:Heap)(C:Addr)(m:Str)(k:Nat)(sp:Sp):Prop:=∃f fd ps,j6 P w K mg base jk k f fd ps sp/\Meth K C m f/\Binds K fd ps []
structure CA(K:aa)(mg:Str->Option Value)(C:Addr)(x qual:Str)(st:Stmt):Prop where
 mgC:mg x=some (.ref C)
 ex:∃f fd,Mk K C f/\kh K "__init__" qual st f fd
def CK(P:ah)(w:World)(K:aa)(mg:Str->Option Value)(base:Heap)(C:Addr)(x:Str)(k:Nat)(sp:Sp):Prop:=∃f fd ps,j6 P w K mg base jk k f fd ps sp/\Mk K C f/\Binds K fd ps []/\mg x=some (.ref C)
section
variable {P:ah}{w:World}{K:aa}{mg:Str->Option Value}{base:Heap}
theorem iG{C:Addr}{m qual:Str}{st:Stmt}{f:Addr}{oc:Value}{od an:Option Addr}{gf:Array (Option Value)}{kV doc pm aL ct:Value} (a:PySem.W.findIn K (.ref C) m=some (some (.ref f)))(i:PySem.W.isFn K (.ref f)=true) (l:K.lookup f=some ⟨oc,od,.func (PySem.W.fnOf m qual (jZ st) (gF st) (aV st) .none kV doc pm an aL ct),gf⟩) (c:PySem.W.codeIn K aL qual=true)(k:PySem.W.keepIn K (.ref f)=true):MA K C m qual st:=⟨f,_,⟨a,i,k⟩,BZ l c k⟩
theorem aaQ{h:Heap}{C:Addr}{x qual:Str}{st:Stmt}{f:Addr}{oc:Value}{od an:Option Addr}{gf:Array (Option Value)}{kV doc pm aL ct:Value}(X:K.In h)(G:h.Ns mainGlobals mg) (aC:PySem.W.nsIn K mainGlobals x=some (some (.ref C)))(mk:PySem.W.makesIn K C=true)(kc:PySem.W.keepIn K (.ref C)=true) (a:PySem.W.findIn K (.ref C) "__init__"=some (some (.ref f)))(i:PySem.W.isFn K (.ref f)=true) (l:K.lookup f=some ⟨oc,od,.func (PySem.W.fnOf "__init__" qual (jZ st) (gF st) (aV st) .none kV doc pm an aL ct),gf⟩) (c:PySem.W.codeIn K aL qual=true)(k:PySem.W.keepIn K (.ref f)=true):CA K mg C x qual st:=⟨xc X G aC,f,_,⟨mk,a,i,kc⟩,BZ l c k⟩
theorem MA.has{C:Addr}{m qual:Str}{st:Stmt}{N ps:List Str}{k:Nat}{sp:Sp}(F:MA K C m qual st)(S:bp N ps (aV st))(len:∀vs H Q E,sp vs H Q E->vs.length=ps.length) (hb:∀(kV doc pm:Value)(an:Option Addr)(aL ct:Value)(us:List Value),us.length=ps.length->bindArgs (PySem.W.fnOf m qual (jZ st) (gF st) (aV st) .none kV doc pm an aL ct) ⟨us,[]⟩=pure (ps.zip us)) (iJ:∀(f:Addr)(aL:Value)(A:aj)(outer:List Env)(s:ae)(H:Hp)(vs:List V)(Q:VK)(E:XK),cJ k (A.deeper (envOfC qual (aV st) s.heap.objs.size f aL))->sp vs H Q E->∃t,gX (j4 jk P w K mg base N qual (aV st) f aL A outer s H E).oN (gF st) t/\t {nx:=fun _ H'=>Q .bo H',rt:=Q} (start N vs) H):cL P w K mg base C m (k+1) sp:=by obtain⟨f,fd,hm,F⟩:=F.ex;exact⟨f,fd,ps,F.ok S len fun aL A outer s H vs Q E=>iJ f aL A outer s H vs Q E,hm,F.binds hb⟩
theorem CA.has{C:Addr}{x qual:Str}{st:Stmt}{N ps:List Str}{k:Nat}{sp:Sp}(F:CA K mg C x qual st)(S:bp N ps (aV st))(len:∀vs H Q E,sp vs H Q E->vs.length=ps.length) (hb:∀(kV doc pm:Value)(an:Option Addr)(aL ct:Value)(us:List Value),us.length=ps.length->bindArgs (PySem.W.fnOf "__init__" qual (jZ st) (gF st) (aV st) .none kV doc pm an aL ct) ⟨us,[]⟩=pure (ps.zip us)) (iJ:∀(f:Addr)(aL:Value)(A:aj)(outer:List Env)(s:ae)(H:Hp)(vs:List V)(Q:VK)(E:XK),cJ k (A.deeper (envOfC qual (aV st) s.heap.objs.size f aL))->sp vs H Q E->∃t,gX (j4 jk P w K mg base N qual (aV st) f aL A outer s H E).oN (gF st) t/\t {nx:=fun _ H'=>Q .bo H',rt:=Q} (start N vs) H):CK P w K mg base C x (k+1) sp:=by obtain⟨f,fd,hm,F'⟩:=F.ex;exact⟨f,fd,ps,F'.ok S len fun aL A outer s H vs Q E=>iJ f aL A outer s H vs Q E,hm,F'.binds hb,F.mgC⟩
end
section
variable {X:Cx}{k:Nat}{x m:Str}{C:Addr}{p pos apos:Pos}{o e:Expr}{es:List Expr}{t:TA}{ta:TE}{sp:Sp}
inductive JW(C:Addr)(m:Str)(sp:Sp)(t:TA)(Z:St)(Q:VK)(x:V)(H1:Hp):Prop |mk (a:_)(dx:_)(fs:_)(h0:x= .ref a)(h1:H1 a=some (.ins C dx fs))(h2:fs.lookup m=none)(h3:t Z H1 fun vs H2=>sp (x::vs) H2 Q E0):JW C m sp t Z Q x H1
def Ll(C:Addr)(m:Str)(sp:Sp)(ta:TE)(t:TA):TE:=fun Z H Q=>ta Z H fun x H1=>JW C m sp t Z Q x H1
theorem Pw{Z:St}{Q:VK}{x:V}{H1:Hp}:uA C m sp [] E0 t Z Q x H1=JW C m sp t Z Q x H1:=by
 have e1:(fun(vs:List V) H1=>sp (x::(vs++[])) H1 Q E0)=fun vs H1=>sp (x::vs) H1 Q E0:=by funext vs H1;rw[Df]
 refine propext ⟨fun⟨a,dx,fs,h0,h1,h2,h3⟩=>⟨a,dx,fs,h0,h1,h2,?_⟩,fun⟨a,dx,fs,h0,h1,h2,h3⟩=>⟨a,dx,fs,h0,h1,h2,?_⟩⟩
 ·rw[<-e1];exact h3
 ·rw[e1];exact h3
theorem AK{pl:Sem Bool}(F:cL X.prog X.w X.K X.mg X.base C m k sp)(c:ki X.K C)(hr:cJ k X.A)(he:PE X o ta)(ha:PA X (e::es) t) (gQ:starEach (e::es) X.env=(false,eval e X.env)::starEach es X.env:=by rfl)(gj:(backTo pos (starEach es X.env)).any (·.1)=false:=by rfl) (ht:eval (.Call (.Attribute o m apos) (e::es) [] pos) X.env=(do
     let ov<-eval o X.env
     standAt apos.atName
     let(f,first)<-holding [ov] (getMethod ov m pl)
     callWith pos f first (backTo pos (starEach (e::es) X.env)) (backToKw pos (keywordEach [] X.env))):=by rfl): PE X (.Call (.Attribute o m apos) (e::es) [] pos) (Ll C m sp ta t):=by
  obtain⟨f,fd,ps,F,hm,hb⟩:=F;have h:=OA (pos:=pos) (apos:=apos) (pl:=pl) he c hm F hr hb .nil AN ha gQ gj ht;intro au s Z H Q I hq;refine h au s Z H Q I ?_;show ta Z H fun x H1=>uA C m sp [] E0 t Z Q x H1;simp only[Pw];exact hq
theorem gK{pl:Sem Bool}(F:cL X.prog X.w X.K X.mg X.base C m k sp)(c:ki X.K C)(hr:cJ k X.A)(he:PE X o ta) (ht:eval (.Call (.Attribute o m apos) [] [] pos) X.env=(do
     let ov<-eval o X.env
     standAt apos.atName
     let(f,first)<-holding [ov] (getMethod ov m pl)
     callWith pos f first (backTo pos (starEach [] X.env)) (backToKw pos (keywordEach [] X.env))):=by rfl): PE X (.Call (.Attribute o m apos) [] [] pos) (Ll C m sp ta mJ):=by
  obtain⟨f,fd,ps,F,hm,hb⟩:=F;have h:=a0S (pos:=pos) (apos:=apos) (pl:=pl) he c hm F hr hb .nil AN ht;intro au s Z H Q I hq;refine h au s Z H Q I ?_;show ta Z H fun x H1=>uA C m sp [] E0 mJ Z Q x H1;simp only[Pw];exact hq
def XU(C:Addr)(sp:Sp)(t:TA):TE:=fun Z H Q=>t Z H fun vs H1=>∀x dx,H1 x=none->H1 dx=none->dx≠x->sp (.ref x::vs) (upd (upd H1 dx (.own x)) x (.ins C dx [])) (fun v H2=>v= .bo/\Q (.ref x) H2) E0
theorem a0R(F:CK X.prog X.w X.K X.mg X.base C x k sp)(hr:cJ (k+1) X.A)(hg:Gl X x)(ha:PA X (e::es) t)(jh:(x==("__debug__":Str))=false:=by decide) (he:starEach (e::es) X.env=(false,eval e X.env)::starEach es X.env:=by rfl)(gj:(backTo pos (starEach es X.env)).any (·.1)=false:=by rfl): PE X (.Call (.Name x p) (e::es) [] pos) (XU C sp t):=by
  obtain⟨f,fd,ps,F,M,hb,hm⟩:=F;have h:=a0T (pos:=pos) (p:=p) M F hr hg hm hb .nil AN ha jh he gj;intro au s Z H Q I hq;refine h au s Z H Q I ?_;have e1:(fun(vs:List V) H1=>∀x dx,H1 x=none->H1 dx=none->dx≠x->sp (.ref x::(vs++[])) (upd (upd H1 dx (.own x)) x (.ins C dx [])) (fun v H2=>v= .bo/\Q (.ref x) H2) E0) =fun vs H1=>∀x dx,H1 x=none->H1 dx=none->dx≠x->sp (.ref x::vs) (upd (upd H1 dx (.own x)) x (.ins C dx [])) (fun v H2=>v= .bo/\Q (.ref x) H2) E0:=by funext vs H1;rw[Df]
  show t Z H fun vs H1=>∀x dx,H1 x=none->H1 dx=none->dx≠x->sp (.ref x::(vs++[])) (upd (upd H1 dx (.own x)) x (.ins C dx [])) (fun v H2=>v= .bo/\Q (.ref x) H2) E0;rw[e1];exact hq
inductive Wh(C:Addr)(x:Str)(Q:VK)(v:V)(H1:Hp):Prop |mk (a dx:Addr)(fs:List (Str×V))(u:V)(h0:v= .ref a)(h1:H1 a=some (.ins C dx fs))(h2:fs.lookup x=some u)(h3:Q u H1):Wh C x Q v H1
theorem cW(T:ki X.K C)(hn:jj X.K C x)(he:PE X e ta)(hb:attributeBase e x X.env (eval e X.env)=eval e X.env:=by rfl): PE X (.Attribute e x pos) (fun Z H Q=>ta Z H fun v H1=>Wh C x Q v H1):=by intro au s Z H Q I h;refine ab8 hb (aY (he au s Z H _ I h) fun u s1 ⟨v,H1,I1,rx,a,dx,fs,w,ex,ea,l,q⟩=>?_);subst ex;obtain rfl:u=Value.ref a:=rx;exact Rx I1 ea T hn l fun u' s2 I2 ru=>⟨w,H1,I2,ru,q⟩
inductive Wc(C:Addr)(x:Str)(D:Ends)(Z:St)(y v:V)(H2:Hp):Prop |mk (a dx:Addr)(fs:List (Str×V))(h0:v= .ref a)(h1:H2 a=some (.ins C dx fs))(h2:fs.length<1000)(h3:D.nx Z (upd H2 a (.ins C dx (ja x y fs)))):Wc C x D Z y v H2
inductive Wf(C a:Addr)(x:Str)(D:Ends)(Z:St)(z:V)(H3:Hp):Prop |mk (uo:Addr)(fs':List (Str×V))(h0:H3 a=some (.ins C uo fs'))(h1:fs'.length<1000)(h2:D.nx Z (upd H3 a (.ins C uo (ja x z fs')))):Wf C a x D Z z H3
inductive Wg(C:Addr)(x:Str)(tv:TE)(rd:V->V->Hp->VK->Prop)(D:Ends)(Z:St)(v:V)(H1:Hp):Prop |mk (a dx:Addr)(fs:List (Str×V))(u:V)(h0:v= .ref a)(h1:H1 a=some (.ins C dx fs))(h2:fs.lookup x=some u)(h3:tv Z H1 fun y H2=>rd u y H2 fun z H3=>Wf C a x D Z z H3):Wg C x tv rd D Z v H1
theorem iV{value:Expr}{tv:TE}{pos':Pos}(T:ki X.K C)(hn:jj X.K C x)(ha:PE X o ta)(hv:PE X value tv)(hs:swapsWith value (some (.Attribute o x pos')) pos.line X.env=pure false:=by rfl): PS X (.Assign [.Attribute o x pos'] value pos) (fun D Z H=>tv Z H fun y H1=>ta Z H1 fun v H2=>Wc C x D Z y v H2):=by intro au s Z H D I h;refine plainObj_wpAny_Assign_Attribute (aY (hv au s Z H _ I h) fun u s1 ⟨y,H1,I1,ry,q⟩=>aY (ha au s1 Z H1 _ I1 q) fun ov s2 ⟨v,H2,I2,rx,a,dx,fs,ex,ea,l,q2⟩=>?_) hs;subst ex;obtain rfl:ov=Value.ref a:=rx;exact Mt I2 ea T hn l ry fun s3 I3=>⟨Z,_,I3,q2⟩
theorem a0x{op:Operator}{rd:V->V->Hp->VK->Prop}{value:Expr}{tv:TE}{ow:Pos}(T:ki X.K C)(hn:jj X.K C x)(ha:PE X o ta)(hv:PE X value tv)(hop:abJ X op rd): PS X (.AugAssign (.Attribute o x ow) op value pos) (fun D Z H=>ta Z H fun v H1=>Wg C x tv rd D Z v H1):=by intro au s Z H D I h;refine wpAny_AugAssign_AttributeAny (aY (ha au s Z H _ I h) fun ov s1 ⟨v,H1,I1,rx,a,dx,fs,u,ex,ea,l,q⟩=>?_);subst ex;obtain rfl:ov=Value.ref a:=rx;refine Rx I1 ea T hn l fun u s2 I2 ru=>aY (hv au s2 Z H1 _ I2 q) fun w3 s3 ⟨y,H2,I3,ry,q3⟩=>aY (hop au s3 Z H2 _ y u w3 _ I3 ru ry q3) fun w4 s4 ⟨z,H3,I4,rz,uo,fs',nL,l',q4⟩=>?_;exact Mt I4 nL T hn l' rz fun s5 I5=>⟨Z,_,I5,q4⟩
end
def aZ(S:List Addr)(H H':Hp):Prop:=∀b o,H b=some o->b∉S->H' b=some o
theorem aZ.refl(S:List Addr)(H:Hp):aZ S H H:=fun _ _ e _=>e
theorem aZ.of{S:List Addr}{H H':Hp}(s:aE H H'):aZ S H H':=fun b o e _=>s b o e
theorem aZ.trans{S:List Addr}{H H1 H2:Hp}(a:aZ S H H1)(b:aZ S H1 H2):aZ S H H2:=fun c o e n=>b c o (a c o e n) n
theorem aZ.mono{S S':List Addr}{H H1:Hp}(h:∀x,x∈S->x∈S')(a:aZ S H H1):aZ S' H H1:=fun c o e n=>a c o e fun z=>n (h c z)
theorem qW{S:List Addr}{H:Hp}{a:Addr}{o:HO}(h:a∈S):aZ S H (upd H a o):=fun b o' e n=>by have hb:b≠a:=fun z=>n (by rw[z];exact h);rw[aK hb];exact e
def CL:HO->Prop | .lst _=>True | .ins _ _ _=>True | .dK _=>True | .fi _=>True |_=>False
def bS(H H':Hp):Prop:=∀b o,¬CL o->H b=some o->H' b=some o
section
variable {K:aa} {H H' H2:Hp}
theorem bS.refl:bS H H:=fun _ _ _ e=>e
theorem bS.trans(a:bS H H')(b:bS H' H2):bS H H2:=fun c o n e=>b c o n (a c o n e)
theorem iL.v(s:iL H H'):bS H H':=fun b o n e=>s b o (fun xs z=>n (by rw[z];trivial)) e
theorem aE.v(s:aE H H'):bS H H':=fun b o _ e=>s b o e
theorem aZ.v{S:List Addr}(s:aZ S H H')(h:∀x∈S,∀o,H x=some o->CL o):bS H H':=fun b o n e=>s b o e fun z=>n (h b z o e)
theorem bS.upd{a:Addr}{o o':HO}(h:H a=some o)(m:CL o):bS H (upd H a o'):=fun b p n e=>by
 have hb:b≠a:=fun z=>by rw[z,h]at e;cases e;exact n m
 rw[aK hb];exact e
theorem aP.v{a:Addr}{xs:List V}(s:bS H H')(h:aP K H a xs):aP K H' a xs:=h.imp (fun r=>r.imp (s _ _ (fun z=>z)) fun⟨o,e⟩=>⟨o,s _ _ (fun z=>z) e⟩) id
mutual
theorem RD.v(s:bS H H'):∀{x:V}(d:ai),fu d=true->RD K H x d->RD K H' x d |x,.none,_,h=>by simpa[RD]using h |x,.bool b,_,h=>by simpa[RD]using h |x,.int i,_,h=>by simpa[RD]using h |x,.str y,_,h=>by simpa[RD]using h |x,.list ds,n,h=>by simp[fu]at n |x,.tuple ds,n,h=>by rw[RD]at h⊢;obtain⟨a,xs,e,h1,h2⟩:=h;exact⟨a,xs,e,h1.v s,aJ.v s ds (by simpa[fu]using n) h2⟩ |x,.dict _,_,h=>by simp[RD]at h
theorem aJ.v (s:bS H H'):∀{xs:List V}(ds:List ai),cN ds=true->aJ K H xs ds->aJ K H' xs ds |xs,[],_,h=>by simpa[aJ]using h |xs,d::ds,n,h=>by rw[aJ]at h⊢;rw[cN,fh]at n;obtain⟨y,ys,e,h1,h2⟩:=h;exact⟨y,ys,e,RD.v s d n.1 h1,aJ.v s ds n.2 h2⟩
end
end
end L2
namespace Pn
section
variable {n:Nat}{own:Nat->Rat}{L:Nat->Option Nat}{r f:Int}
end
end Pn
namespace Ow
open Pn Ln Cn
end Ow
namespace Pn
section
variable {n:Nat}{own Gx:Nat->Rat}{L L':Nat->Option Nat}{r f:Int}
end
section
variable {n:Nat}{own Gx q:Nat->Rat}{L:Nat->Option Nat}{r f r' f':Int}
end
end Pn
namespace Ow
open Pn Ln Cn
end Ow
namespace Pn
section
variable {n:Nat}{own Gx:Nat->Rat}{L L':Nat->Option Nat}{r f:Int}{c:Nat}
end
end Pn
namespace Ow
open Pn
section
variable (j ay:Int) (os1 os2:List Itm)
end
end Ow
namespace Pn
section
variable {n:Nat}{own:Nat->Rat}{L:Nat->Option Nat}{r f:Int}
theorem a8j{g:Nat->Rat}{i:Nat}(hi:i<=n):fl n L f g i<=g i:=by
 rcases Nat.lt_or_ge i n with h|h
 ·cases e:L i with |none=>rw[wy h e];exact pK |some m=>rw[wA h e];exact gC _ _
 · have:i=n:=by lia
   subst this;rw[wz];exact pK
theorem a8i{g:Nat->Rat}(hf:0<=f)(h0:∀i,i<=n->0<=g i):∀i,i<=n->0<=fl n L f g i:=by
 refine down ?_ ?_
 ·rw[wz];exact h0 n (bK _)
 · intro i hi ih
   cases e:L i with |none=>rw[wy hi e];exact h0 i (by lia) |some m=>rw[wA hi e];exact kX (h0 i (by lia)) (Q7 ih (a3w hf))
end
end Pn
namespace Rn
open Pn Rt Ln
open Ow (topR ownF leadF Itm OkIs)
theorem Ce{n:Nat}{a b:Int}(hb:b≠0)(h2:b.natAbs<2^n):(Rat.divInt a b).den<2^n:=by obtain⟨-,e⟩:=Bb (a:=a) hb;have l2:=Ar.PM (p:=a) hb;omega
structure Dd(D:Nat)(q:Rat):Prop where
 nn:0<=q
 den:q.den<2^D
theorem Dd.mono{D E:Nat}{q:Rat}(h:Dd D q)(l:D<=E):Dd E q:=⟨h.nn,g9 h.den (rL (by decide) l)⟩
theorem Dd.bd{D:Nat}{q:Rat}(h:Dd D q)(hl:q<=2000):Bd (D+11) q:=by
 have h1:=K6.mpr h.nn;have ub:¬((2000:Rat)<q):=zG.mpr hl;rw[CU]at ub;have e1:(2000:Rat).num=2000:=rfl;have e2:(2000:Rat).den=1:=rfl;rw[e1,e2]at ub;have h2:q.num<=2000*(q.den:Int):=by lia
 refine⟨?_,g9 h.den (rL (by decide) (by lia))⟩;have h3:=h.den;have h4:q.num.natAbs<=2000*q.den:=by lia
 have h5:(2:Nat)^(D+11)=2^D*2048:=by rw[Nat.pow_add]
 rw[h5];have h6:2000*q.den<2000*2^D:=Nat.mul_lt_mul_of_pos_left h3 (by decide)
 lia
theorem Dd.mn{D:Nat}{a b:Rat}(h1:Dd D a)(h2:Dd D b):Dd D (mn a b):=by rcases yl a b with e|e<;>rw[e]<;>assumption
theorem Dd.add{D:Nat}{q:Rat}(h:Dd D q){z:Int}(hz:0<=z):Dd D (q+(z:Rat)):=by
 refine⟨Q7 h.nn (by have:=Rat.intCast_le_intCast.mpr hz;exact this),?_⟩;rw[add_div,K7,K9];have e:(q.den:Int)*((1:Nat):Int)=(q.den:Int):=by lia
 rw[e];have hd:=q.den_pos;exact Ce (by lia) (by have:=h.den;lia)
theorem Sy{a b:Int}(ha:0<=a)(hb:0<b):0<=Rat.divInt a b:=(xb hb).mpr ha
theorem div_pos{a b:Int}(ha:0<a)(hb:0<b):0<Rat.divInt a b:=by
 have h0:=Sy (Ku ha) hb;refine K5 h0 fun e=>?_;have h2:0<=Rat.divInt (-a) b:=by rw[<-Rat.neg_divInt,<-e];decide
 have:=(xb hb).mp h2
 lia
theorem Dd.mul{D m:Nat}{q:Rat}(h:Dd D q){a s:Int}(ha:0<=a)(hs:0<s)(hm:s.natAbs<2^m):Dd (D+m) (q*Rat.divInt a s):=by refine⟨Rat.mul_nonneg h.nn (Sy ha hs),?_⟩;have h1:(Rat.divInt a s).den<2^m:=Ce (by lia) hm;rw[mul_div];have hd:=q.den_pos;have hd2:=(Rat.divInt a s).den_pos;refine Ce (pC _ _) ?_;rw[fN];exact kS (by have:=h.den;lia) (by lia)
theorem Dw(ay sp:Int):Dd 14 (topR ay sp):=⟨Ow.A7 _ _,Ce (by decide) (by decide)⟩
theorem A6{ay sp:Int}(h1:1<=sp)(h2:sp<=20)(h3:10<=ay)(h4:ay<=200):topR ay sp<=1600:=by
 have e:(1600:Rat)=Rat.divInt 16000000 10000:=by decide+kernel
 rw[e];refine(Cn.SA (by decide)).mpr ?_;have hp:sp*ay<=20*200:=Dg h2 h4 (by lia) (by lia);have Bz:0<=sp*ay:=jK (by lia) (by lia);rw[fM,fM,lN,kI];have:=Dg hp hp Bz (by decide)
 lia
theorem a1m{j ay:Int}{os:List Itm}(h1:1<=j)(h2:j<=50)(h3:10<=ay)(h4:ay<=200)(ho:OkIs os)(i:Nat):Dd 64 (ownF j ay os i):=⟨Ow.ON _ _ _ _,(Ow.Gw h1 h2 h3 h4 ho i).den⟩
theorem a8k{D n:Nat}{g:Nat->Rat}{L:Nat->Option Nat}{f:Int}(hf:0<=f)(h:∀i,i<=n->Dd D (g i)):∀i,i<=n->Dd D (fl n L f g i):=by
 refine down ?_ ?_
 ·rw[wz];exact h n (bK _)
 · intro i hi ih
   cases e:L i with |none=>rw[wy hi e];exact h i (by lia) |some m=>rw[wA hi e];exact(h i (by lia)).mn (ih.add (jK hf (by lia)))
theorem ab0{j ay:Int}{o p:Itm}(h3:10<=ay)(h4:ay<=200)(ho:Ow.OkI o):Ow.betR j ay o p<=1600:=by cases o with |none=>rw[Ow.Tr];decide+kernel |some q=>cases p with |none=>rw[Ow.Cq];decide+kernel |some q'=>obtain⟨ns,sp⟩:=q;obtain⟨ms,sq⟩:=q';obtain⟨-,a1,a2⟩:=ho ns sp rfl;have ht:=A6 a1 a2 h3 h4;show Ow.mnO (mn (topR ay sp) (topR ay sq)) (Ow.cornO j ns ms)<=1600;cases Ow.cornO j ns ms with |none=>exact eg (gC _ _) ht |some c=>exact eg (gC _ _) (eg (gC _ _) ht)
theorem a1l{j ay:Int}{os:List Itm}(h3:10<=ay)(h4:ay<=200)(ho:OkIs os):∀i,ownF j ay os i<=1600 |0=>by show(0:Rat)<=1600;decide+kernel |i+1=>ab0 h3 h4 (ho i)
abbrev gs:=Option (Rat × Int × Int)
def lT(r f:Int)(pc top R:Rat)(left:Int):gs->Rat |none=>mn (mn (pc+(r:Rat)) top) (R+((f*(2*left-1):Int):Rat)) |some (sq,st,gn)=>mn (mn (mn (pc+(r:Rat)) top) (R+((f*(2*left-1):Int):Rat))) (sq*Rat.divInt (2*(st-gn-1)+1) (2*st))
def oM(r f:Int)(pc top R:Rat)(left:Int):gs->Rat |none=>mn (mn (pc+((2*r:Int):Rat)) top) (R+((2*f*(left-1):Int):Rat)) |some (sq,st,gn)=>mn (mn (mn (pc+((2*r:Int):Rat)) top) (R+((2*f*(left-1):Int):Rat))) (sq*Rat.divInt (st-gn-1) st)
def AU:gs->gs |none=>none |some (sq,st,gn)=>some (sq,st,gn+1)
def qZ(D:Nat)(pc:Rat):gs->Prop |none=>True |some (sq,st,gn)=>0<=gn/\gn<=st/\st<=1000/\Dd D sq/\sq<=2000/\(st=0->pc=0)/\pc*(st:Rat)<=sq*((st-gn:Int):Rat)
def Halt(pc:Rat)(aR:gs):Prop:=aR≠none/\pc=0
theorem vz{D:Nat}{pc:Rat}{sq:Rat}{st gn:Int}(h:qZ D pc (some (sq,st,gn)))(hp:0<=pc)(hn:¬Halt pc (some (sq,st,gn))):gn<st/\0<sq/\0<pc:=by
 obtain⟨g0,g1,g2,hd,hl,hz,hh⟩:=h;have yH:0<pc:=K5 hp fun e=>hn ⟨by simp,e.symm⟩;have gQ:gn<st:=by
  rcases Kt gn st with h|h
  ·exact h
  · have e:st-gn=0:=by lia
    rw[e]at hh;have e0:sq*((0:Int):Rat)=0:=Rat.mul_zero sq;rw[e0]at hh;exfalso;rcases Kt 0 st with h3|h3
    · have h4:(0:Rat)<(st:Rat):=Ws.mpr h3
      have h5:=Rat.mul_pos yH h4;exact absurd (Std.lt_of_lt_of_le h5 hh) (Rat.lt_irrefl)
    ·rw[hz (by lia)]at yH;exact absurd yH (Rat.lt_irrefl)
 refine⟨gQ,?_,yH⟩;refine K5 hd.nn fun e=>?_;rw[<-e,Rat.zero_mul]at hh;have h4:(0:Rat)<(st:Rat):=Ws.mpr (show(0:Int)<st by lia);exact absurd (Std.lt_of_lt_of_le (Rat.mul_pos yH h4) hh) (Rat.lt_irrefl)
section
variable {D:Nat}{r f:Int}{pc top R:Rat}{left:Int}{aR:gs}
theorem a9E:oM r f pc top R left aR<=top:=by cases aR with |none=>exact eg (gC _ _) (kB _ _) |some q=>obtain⟨sq,st,gn⟩:=q;exact eg (gC _ _) (eg (gC _ _) (kB _ _))
theorem PC:lT r f pc top R left aR<=top:=by cases aR with |none=>exact eg (gC _ _) (kB _ _) |some q=>obtain⟨sq,st,gn⟩:=q;exact eg (gC _ _) (eg (gC _ _) (kB _ _))
theorem a9F(hr:0<=r)(hf:0<=f)(hl:1<=left)(hp:Dd (D+10) pc)(ht:Dd (D+10) top)(hR:Dd (D+10) R)(hs:qZ D pc aR)(hn:¬Halt pc aR):Dd (D+10) (oM r f pc top R left aR):=by have h1:=(hp.add (z:=2*r) (by lia)).mn ht;have h2:=hR.add (z:=2*f*(left-1)) (jK (by lia) (by lia));cases aR with |none=>exact h1.mn h2 |some q=>obtain⟨sq,st,gn⟩:=q;obtain⟨a,b,c⟩:=vz hs hp.nn hn;obtain⟨g0,g1,g2,hd,hl,hz,hh⟩:=hs;exact(h1.mn h2).mn (hd.mul (m:=10) (by lia) (by lia) (by lia))
theorem PF(hr:0<=r)(hf:0<=f)(hl:1<=left)(hp:Dd (D+10) pc)(ht:Dd (D+10) top)(hR:Dd (D+10) R)(hs:qZ D pc aR)(hn:¬Halt pc aR):Dd (D+11) (lT r f pc top R left aR):=by have h1:=((hp.add (z:=r) (by lia)).mn ht).mono (show D+10<=D+11 by lia);have h2:=(hR.add (z:=f*(2*left-1)) (jK (by lia) (by lia))).mono (show D+10<=D+11 by lia);cases aR with |none=>exact h1.mn h2 |some q=>obtain⟨sq,st,gn⟩:=q;obtain⟨a,b,c⟩:=vz hs hp.nn hn;obtain⟨g0,g1,g2,hd,hl,hz,hh⟩:=hs;exact(h1.mn h2).mn (hd.mul (m:=11) (by lia) (by lia) (by lia))
theorem add_pos{x:Rat}{z:Int}(hx:0<=x)(hz:0<z):0<x+(z:Rat):=by have h1:((0:Int):Rat)<(z:Rat):=Ws.mpr hz;have h2:x+((0:Int):Rat)<x+(z:Rat):=Rat.add_lt_add_left.mpr h1;rw[show((0:Int):Rat)=0 from rfl,Rat.add_zero]at h2;exact Std.lt_of_le_of_lt hx h2
theorem GW{a b:Rat}(ha:0<a)(hb:0<b):0<mn a b:=by rcases yl a b with e|e<;>rw[e]<;>assumption
theorem PD(hr:1<=r)(hf:1<=f)(hl:1<=left)(hp:0<=pc)(ht:0<top)(hR:0<=R)(hs:qZ D pc aR)(hn:¬Halt pc aR):0<lT r f pc top R left aR:=by have h1:=GW (GW (add_pos hp (show 0<r by lia)) ht) (add_pos hR (show 0<f*(2*left-1)from iB (by lia) (by lia)));cases aR with |none=>exact h1 |some q=>obtain⟨sq,st,gn⟩:=q;obtain⟨a,b,c⟩:=vz hs hp hn;obtain⟨g0,g1,g2,hd,hl,hz,hh⟩:=hs;exact GW h1 (Rat.mul_pos b (div_pos (by lia) (by lia)))
theorem Sx(a:Int):Rat.divInt a 1=(a:Rat):=by
 conv=>rhs;rw[<-rJ (a:Rat)]
 rfl
theorem aa7{a s:Int}(hs:0<s):Rat.divInt a s*(s:Rat)=(a:Rat):=by
 have e:(s:Rat)=Rat.divInt s 1:=by rw[Sx]
 rw[e,Wu _ _,Int.mul_one,Ks a s];have e2:Rat.divInt (s*a) s=Rat.divInt (s*a) (s*1):=by rw[Int.mul_one]
 rw[e2,Rat.divInt_mul_left (by lia),Sx]
theorem Yk(hs:qZ D pc aR)(hp:0<=pc)(hn:¬Halt pc aR):qZ D (oM r f pc top R left aR) (AU aR):=by cases aR with |none=>trivial |some q=>
   obtain⟨sq,st,gn⟩:=q;obtain⟨a,b,c⟩:=vz hs hp hn;obtain⟨g0,g1,g2,hd,hl,hz,hh⟩:=hs;refine⟨by lia,by lia,g2,hd,hl,fun e=>by lia,?_⟩;have h1:oM r f pc top R left (some (sq,st,gn))<=sq*Rat.divInt (st-gn-1) st:=kB _ _;have h2:(0:Rat)<=(st:Rat):=Rat.intCast_nonneg.mpr (by lia);have h3:=Rat.mul_le_mul_of_nonneg_right h1 h2;have h4:sq*Rat.divInt (st-gn-1) st*(st:Rat)=sq*((st-(gn+1):Int):Rat):=by
    rw[Rat.mul_assoc,aa7 (by lia)];congr 2
    lia
   rw[h4]at h3;exact h3
end
end Rn
namespace L2
open PySem PySem.Spec PyProof.Rows
section
variable {κ : Type} [DecidableEq κ]
def fT(aM:List (κ×V))(k:κ):Option V:=(aM.find? fun kv=>decide (kv.1=k)).map (·.2)
def putK(aM:List (κ×V))(k:κ)(v:V):List (κ×V):=if(aM.any fun kv=>decide (kv.1=k))=true then aM.map (fun kv=>if kv.1=k then(kv.1,v)else kv)else aM++[(k,v)]
theorem Dk{p:κ×V}{r:List (κ×V)}{k:κ}(e:p.1=k):fT (p::r) k=some p.2:=by simp[fT,zM,e]
theorem Dl{p:κ×V}{r:List (κ×V)}{k:κ}(e:¬p.1=k):fT (p::r) k=fT r k:=by simp[fT,zM,e]
theorem KJ(k:κ):∀aM:List (κ×V),(aM.any fun kv=>decide (kv.1=k))=(fT aM k).isSome
  |[]=>rfl |p::r=>by
    rw[uL];by_cases e:p.1=k
    ·simp only[Dk e,cH e,Bool.true_or,Option.isSome_some]
    ·rw[Dl e,fe e,Bool.false_or];exact KJ k r
theorem Bi(aM:List (κ×V))(k:κ)(v:V):(putK aM k v).length<=aM.length+1:=by
 unfold putK;split
 ·rw[cu];lia
 ·rw[fD,kn,Kn];lia
theorem jE.a51{o:Option V}{u:Option Value}(r:jE o u):o.isSome=u.isSome:=by cases o with
 |none=>cases u with |none=>rfl |some _=>exact(show False from r).elim
 |some _=>cases u with |none=>exact(show False from r).elim |some _=>rfl
theorem KV.val{aM:List (κ×V)}{vs:List (κ×Value)}(r:KV aM vs)(k:κ):jE (fT aM k) (valueAt vs k):=by unfold KV at r;induction r with |nil=>exact True.intro |@cons p q ps qs h t ih=>
   obtain⟨h1,h2⟩:=h;by_cases e:p.1=k
   · have e':q.1=k:=h1.symm.trans e
     have b:valueAt (q::qs) k=some q.2:=by simp[valueAt,zM,e']
     rw[Dk e,b];exact h2
   · have e':¬q.1=k:=fun z=>e (h1.trans z)
     have b:valueAt (q::qs) k=valueAt qs k:=by simp[valueAt,zM,e']
     rw[Dl e,b];exact ih
theorem KV.any{aM:List (κ×V)}{vs:List (κ×Value)}(r:KV aM vs)(k:κ):(aM.any fun kv=>decide (kv.1=k))=vs.any fun kv=>decide (kv.1=k):=by unfold KV at r;induction r with |nil=>rfl |cons h t ih=>rw[uL,uL,ih,h.1]
theorem KV.G4{aM:List (κ×V)}{vs:List (κ×Value)}(r:KV aM vs)(k:κ){y:V}{u:Value}(ry:RelV y u): KV (aM.map fun kv=>if kv.1=k then(kv.1,y)else kv) (vs.map fun kv=>if kv.1=k then(kv.1,u)else kv):=by unfold KV at r⊢;induction r with |nil=>exact .nil |@cons p q ps qs h t ih=>
    rw[oa,oa];refine .cons ?_ ih;obtain⟨h1,h2⟩:=h;by_cases e:p.1=k
    ·rw[bc e,bc (h1.symm.trans e)];exact⟨h1,ry⟩
    ·rw[bf e,bf (fun z=>e (h1.trans z))];exact⟨h1,h2⟩
theorem KV.put{aM:List (κ×V)}{vs:List (κ×Value)}(r:KV aM vs)(k:κ){y:V}{u:Value}(ry:RelV y u):KV (putK aM k y) (stored vs k u):=by
 unfold putK stored;rw[r.any k];by_cases e:(vs.any fun kv=>decide (kv.1=k))=true
 ·rw[bc e,bc e];exact r.G4 k ry
 ·rw[bf e,bf e];exact Paired.snoc r ⟨rfl,ry⟩
theorem KV.length{aM:List (κ×V)}{vs:List (κ×Value)}(r:KV aM vs):aM.length=vs.length:=Paired.length r
end
theorem Bn{P:ah}{w:World}{k:Key}{u:Value}(r:RelV (kV k) u):(jx P w).is k u=true:=by cases k with |inl i=>obtain⟨t,e⟩:=(show∃t,u=Value.int i t from r);subst e;exact a3H P w i t |inr x=>obtain⟨t,e⟩:=(show∃t,u=Value.str x t from r);subst e;exact a3G P w x t
theorem Qh{P:ah}{w:World}:∀{ks:List Key}{us:List Value},Vals (ks.map kV) us->ItemsAre (jx P w) ks us |[],_,r=>by rw[List.map_nil]at r;cases r;exact .nil |k::ks,_,r=>by rw[oa]at r;cases r with |cons h t=>exact .cons (Bn h) (Qh t)
abbrev KT(H:Hp):List (List Key×V)->List (List Key×Addr×Value)->Prop:=Paired fun p q=>p.1=q.1/\H q.2.1=some (.tup (p.1.map kV))/\RelV p.2 q.2.2
theorem KT.val{H:Hp}{aM:List (List Key×V)}{xs:List (List Key×Addr×Value)}(r:KT H aM xs)(k:List Key):jE (fT aM k) ((atKey xs k).map (·.2)):=by induction r with |nil=>exact True.intro |@cons p q ps qs h t ih=>
   obtain⟨h1,_,h2⟩:=h;by_cases e:p.1=k
   · have e':q.1=k:=h1.symm.trans e
     have b:atKey (q::qs) k=some q.2:=by simp[atKey,zM,e']
     rw[Dk e,b];exact h2
   · have e':¬q.1=k:=fun z=>e (h1.trans z)
     have b:atKey (q::qs) k=atKey qs k:=by simp[atKey,zM,e']
     rw[Dl e,b];exact ih
theorem KT.G4{H:Hp}{aM:List (List Key×V)}{xs:List (List Key×Addr×Value)}(r:KT H aM xs)(k:List Key){y:V}{u:Value}(ry:RelV y u): KT H (aM.map fun kv=>if kv.1=k then(kv.1,y)else kv) (xs.map (putAt k u)):=by induction r with |nil=>exact .nil |@cons p q ps qs h t ih=>
    rw[oa,oa];refine .cons ?_ ih;obtain⟨h1,h2,h3⟩:=h;unfold putAt;by_cases e:p.1=k
    ·rw[bc e,bc (h1.symm.trans e)];exact⟨h1,h2,ry⟩
    ·rw[bf e,bf (fun z=>e (h1.trans z))];exact⟨h1,h2,h3⟩
theorem KT.put{H:Hp}{aM:List (List Key×V)}{xs:List (List Key×Addr×Value)}(r:KT H aM xs)(k:List Key){b:Addr}{y:V}{u:Value}(hb:H b=some (.tup (k.map kV)))(ry:RelV y u): KT H (putK aM k y) (storedH xs k b u):=by
  have e:(aM.any fun kv=>decide (kv.1=k))=(atKey xs k).isSome:=by rw[KJ,(r.val k).a51,Option.isSome_map]
  unfold putK storedH;rw[e];by_cases q:(atKey xs k).isSome=true
  ·rw[bc q,bc q];exact r.G4 k ry
  ·rw[bf q,bf q];exact Paired.snoc r ⟨rfl,hb,ry⟩
theorem KT.keeps{H H':Hp}{aM:List (List Key×V)}{xs:List (List Key×Addr×Value)}(r:KT H aM xs)(ht:∀b ys,H b=some (.tup ys)->H' b=some (.tup ys)):KT H' aM xs:=Paired.GY r fun _ _ z=>⟨z.1,ht _ _ z.2.1,z.2.2⟩
section
variable {P:ah}{w:World}{H:Hp}{h:Heap}{a:Addr}
theorem Oa{u:HO}(ok:dJ P w H h)(e:Rd H a u):fK P w H h a u:=e.ok ok
theorem Jn{aM:List (Key×V)}(ok:dJ P w H h)(e:Rd H a (.dK aM)):aM.length<=sizeLine/\(a==sysModules)=false/\∃vs,KV aM vs/\h.DictOf (jx P w) a vs:=show fK P w H h a (.dK aM)from Oa ok e
theorem Sv{aM:List (Key×V)}(ok:dJ P w H h)(e:H a=some (.dK aM)):aM.length<=sizeLine/\(a==sysModules)=false/\∃vs,KV aM vs/\h.DictOf (jx P w) a vs:=Jn ok (.inl e)
theorem Hm{ks:List Key}(ok:dJ P w H h)(e:H a=some (.tup (ks.map kV))):(tupleKind (jx P w)).is h ks a:=by obtain⟨_,its,r,o,h1,h2,n,h3⟩:=(show fK P w H h a (.tup (ks.map kV))from ok a _ e);exact⟨o,its.toArray,n,h1,h2,h3,by simpa using Qh r⟩
theorem Jj{aM:List (List Key×V)}(ok:dJ P w H h)(e:Rd H a (.dT aM)):aM.length<=sizeLine/\(a==sysModules)=false/\∃xs,KT H aM xs/\h.DictOfH (tupleKind (jx P w)) a xs:=by
  obtain⟨z,y,xs,r,o,es,ep,h1,h2,h3,h4,h5⟩:=(show fK P w H h a (.dT aM)from Oa ok e);refine⟨z,y,xs,r,o,es,ep,h1,h2,h3,h4,fun x hx=>?_,h5⟩;have all:∀{l:List (List Key×V)}{m:List (List Key×Addr×Value)},KT H l m->∀x∈m,(tupleKind (jx P w)).is h x.1 x.2.1:=by intro l m q;induction q with |nil=>intro x hx;exact nomatch hx |@cons p q ps qs hq t ih=>
     intro x hx;rcases bN.mp hx with e|hx
     · subst e
       exact Hm ok (by rw[<-hq.1];exact hq.2.1)
     ·exact ih x hx
  exact all r x hx
theorem a9V{aM:List (List Key×V)}(ok:dJ P w H h)(e:H a=some (.dT aM)):aM.length<=sizeLine/\(a==sysModules)=false/\∃xs,KT H aM xs/\h.DictOfH (tupleKind (jx P w)) a xs:=Jj ok (.inl e)
end
def uB(H:Hp)(a:Addr)(y:V)(r:Option V):Prop:=(∃aM k,Rd H a (.dK aM)/\y=kV k/\r=fT aM k)\/∃aM k b,Rd H a (.dT aM)/\y= .ref b/\H b=some (.tup (k.map kV))/\r=fT aM k
def rE(H:Hp)(a:Addr)(y v:V)(H':Hp):Prop:=(∃aM k,H a=some (.dK aM)/\y=kV k/\aM.length<sizeLine/\H'=upd H a (.dK (putK aM k v)))\/ ∃aM k b,H a=some (.dT aM)/\y= .ref b/\H b=some (.tup (k.map kV))/\aM.length<sizeLine/\H'=upd H a (.dT (putK aM k v))
theorem uB.k{H:Hp}{a:Addr}{aM:List (Key×V)}{k:Key}(e:H a=some (.dK aM)):uB H a (kV k) (fT aM k):=.inl ⟨aM,k,.inl e,rfl,rfl⟩
theorem rE.k{H:Hp}{a:Addr}{aM:List (Key×V)}{k:Key}{v:V}(e:H a=some (.dK aM))(hl:aM.length<sizeLine):rE H a (kV k) v (upd H a (.dK (putK aM k v))):=.inl ⟨aM,k,e,rfl,hl,rfl⟩
section
variable {X:Cx}{au:List (Addr×Obj)}{Z:St}{H:Hp}{s:ae}{a:Addr}{y v:V}{u r:Value}{o:Option V}{A:aj}{E:Value->ae->Prop}
theorem Inv.big(I:Inv X au Z H s):sysModules<s.heap.objs.size:=by have h:mainGlobals<s.heap.objs.size:=(I.mod.glob.keeps I.bk).lt;exact Kf (by decide) h
theorem aaf{Q:Value->ae->Prop}(hu:A.units+1<cLine)(I:Inv X au Z H s)(g:uB H a y (some v))(ry:RelV y u)(h:∀w' s',Inv X au Z H s'->RelV v w'->Q w' s'): wpAny (model X.prog X.w) A (getItem (.ref a) u) Q E s:=by
  rcases g with⟨aM,k,e,ey,l⟩|⟨aM,k,b,e,ey,eb,l⟩
  · subst ey
    obtain⟨z,hd,vs,rel,dd⟩:=Jn I.aX e;obtain⟨w',hw,j9⟩:=jE.some_of (v:=v) (o:=valueAt vs k) (by rw[l];exact rel.val k);exact wpAny_getItem_of (Bn ry) dd.mapOf hw (h w' _ (I.tok _) j9)
  · subst ey
    cases(show u=Value.ref b from ry);obtain⟨z,hd,xs,rel,dd⟩:=Jj I.aX e;obtain⟨w',hw,j9⟩:=jE.some_of (v:=v) (o:=(atKey xs k).map (·.2)) (by rw[l];exact rel.val k);obtain⟨p,hp,Bx⟩:=Option.map_eq_some_iff.mp hw;refine wpAny_getItem_heap (tupleKind_room_in1 hu) (Hm I.aX eb) dd hp ?_;rw[Bx];exact h w' _ (I.tok _) j9
theorem Jq{h':Heap}{t':Nat}{ob:HO}(I:Inv X au Z H s)(mu:zr (H a))(hs:Heap.SameBut a s.heap h')(he:∃q,h'.get? a=some q)(new:fK X.prog X.w (upd H a ob) h' a ob): Inv X au Z (upd H a ob) {s with heap:=h',toks:=t'}:=I.write (x:=a) (e:=a) mu (.inl rfl) (fun b q hb z=>(hs.2 b hb).trans z) he new
theorem Sw{P:ah}{w:World}{H':Hp}{h':Heap}{aM:List (Key×V)}{vs:List (Key×Value)}(z:aM.length<=sizeLine)(hd:(a==sysModules)=false)(rel:KV aM vs)(dd:h'.DictOf (jx P w) a vs): fK P w H' h' a (.dK aM):=⟨z,hd,vs,rel,dd⟩
theorem aae{H':Hp}{Q:Unit->ae->Prop}(hu:A.units+1<cLine)(I:Inv X au Z H s)(g:rE H a y v H')(ry:RelV y u)(rv:RelV v r)(h:∀s',Inv X au Z H' s'->Q () s'): wpAny (model X.prog X.w) A (setItem (.ref a) u r) Q E s:=by
  rcases g with⟨aM,k,e,ey,l,eH⟩|⟨aM,k,b,e,ey,eb,l,eH⟩
  · subst ey eH
    obtain⟨z,hd,vs,rel,dd⟩:=Sv I.aX e;have hz:vs.length<=sizeLine:=by rw[<-rel.length];exact z
    have hl:(putK aM k v).length<=sizeLine:=by have:=Bi aM k v;lia
    refine wpAny_setItem_pairs (hsz:=hz) (Bn ry) dd fun h' nN hs=>h _ ?_;have he:∃q,h'.get? a=some q:=let⟨q,_,_,hq,_⟩:=nN;⟨q,hq⟩;exact Jq I (by rw[e];exact True.intro) hs he (Sw hl hd (rel.put k rv) nN)
  · subst ey eH
    cases(show u=Value.ref b from ry);obtain⟨z,hd,xs,rel,dd⟩:=a9V I.aX e;have hz:xs.length<=sizeLine:=by rw[<-Paired.length rel];exact z
    have hl:(putK aM k v).length<=sizeLine:=by have:=Bi aM k v;lia
    refine wpAny_setItem_heap (hsz:=hz) (tupleKind_room_in1 hu) (Hm I.aX eb) dd fun h' nN hs=>h _ ?_;obtain⟨q,es,ep,hq,h2,h3,h4,_,h5⟩:=nN;refine Jq I (by rw[e];exact True.intro) hs ⟨q,hq⟩ ⟨hl,hd,_,(rel.put k eb rv).keeps fun c ys ec=>?_,q,es,ep,hq,h2,h3,h4,h5⟩;rw[aK (yh ec e (fun z=>nomatch z))];exact ec
end
section
variable {X:Cx}{au:List (Addr×Obj)}{Z:St}{H:Hp}{s:ae}{a:Addr}{aM:List (Key×V)}{k:Key}{u:Value}{A:aj}{E:Value->ae->Prop}
end
def JS(i:Expr):Prop:=∀ov iv,subscripted i false ov iv=operate [ov,iv] (getItem ov iv)
theorem Yi{prog:ah}{w:World}{A:aj}{E:Value->ae->Prop}{s:ae}{env:Env}{value slice:Expr}{pos:Pos}{T id:String}{Q:Value->ae->Prop} (hl:typeLookup (.type T) "__getitem__"=pure (some (.builtin id)))(hs:JS slice) (h:wpAny (model prog w) A (eval value env) (fun o s₁=>wpAny (model prog w) A (eval slice env) (fun i s₂=>s₂.TypeIs o T/\wpAny (model prog w) A (getItem o i) Q E s₂) E s₁) E s): wpAny (model prog w) A (eval (.Subscript value slice pos) env) Q E s:=by
  refine Subscript_ (jH h (fun o s₁ h₁=>jH h₁ (fun i s₂ h₂=>?_) fun _ _ x=>x) fun _ _ x=>x);obtain⟨hT,h₂⟩:=h₂;unfold subscriptTail;refine aQ ?_;rw[getitemInPython_of_ne hT.not_modules];refine aQ (wpAny_specialOf hT hl ?_);have fin:wpAny (model prog w) A (subscripted slice false o i) (fun r s₃=>wpAny (model prog w) A (letTemporaryGo value o r>>=fun _=>pure r) Q E s₃) E s₂:=by rw[hs o i];exact wpAny_operating (jH h₂ (fun r s₃ h₃=>aQ (wpAny_letTemporaryGo (cn h₃))) fun _ _ x=>x)
  first |exact cn (aQ fin) |exact aQ (cn (aQ fin)) |exact aQ fin
theorem aa8{X:Cx}{au:List (Addr×Obj)}{Z:St}{H:Hp}{s:ae}{a:Addr}{y:V}{o:Option V}(I:Inv X au Z H s)(g:uB H a y o):s.TypeIs (.ref a) "dict":=by
 rcases g with⟨aM,k,e,_,_⟩|⟨aM,k,b,e,_,_,_⟩
 · obtain⟨_,_,vs,_,dd⟩:=Jn I.aX e
   exact dd.typeIs
 · obtain⟨_,_,xs,_,dd⟩:=Jj I.aX e
   exact dd.typeIs
inductive Uo(Q:VK)(x:V)(y:V)(H2:Hp):Prop |mk (a:_)(v:_)(h0:x= .ref a)(h1:uB H2 a y (some v))(h2:Q v H2):Uo Q x y H2
def Lp(td ty:TE):TE:=fun Z H Q=>td Z H fun x H1=>ty Z H1 fun y H2=>Uo Q x y H2
inductive Vx(D:Ends)(Z:St)(v:V)(x:V)(y:V)(H3:Hp):Prop |mk (a:_)(H4:_)(h0:x= .ref a)(h1:rE H3 a y v H4)(h2:D.nx Z H4):Vx D Z v x y H3
def Ze(td ty tv:TE):TS:=fun D Z H=>tv Z H fun v H1=>td Z H1 fun x H2=>ty Z H2 fun y H3=>Vx D Z v x y H3
section
variable {X:Cx}{o i e value:Expr}{pos pos' ow:Pos}{td ty tv:TE}
theorem a0X(hu:X.A.units+1<cLine)(ho:PE X o td)(hi:PE X i ty)(hs:JS i):PE X (.Subscript o i pos) (Lp td ty):=by intro au s Z H Q I h;refine Yi PySem.F.slot_dict_getitem.lookup hs (aY (ho au s Z H _ I h) fun u s1 ⟨x,H1,I1,rx,q1⟩=>aY (hi au s1 Z H1 _ I1 q1) fun iv s2 ⟨y,H2,I2,ry,a,v,ex,g,q2⟩=>?_);subst ex;obtain rfl:u=Value.ref a:=rx;exact⟨aa8 I2 g,aaf hu I2 g ry fun w' s3 I3 j9=>⟨v,H2,I3,j9,q2⟩⟩
theorem gB(hu:X.A.units+1<cLine)(ho:PE X o td)(hi:PE X i ty)(hv:PE X value tv)(hs:swapsWith value (some (.Subscript o i pos')) pos.line X.env=pure false): PS X (.Assign [.Subscript o i pos'] value pos) (Ze td ty tv):=by intro au s Z H D I h;refine wpAny_Assign_Subscript (aY (hv au s Z H _ I h) fun r s1 ⟨v,H1,I1,rv,q1⟩=>aY (ho au s1 Z H1 _ I1 q1) fun u s2 ⟨x,H2,I2,rx,q2⟩=>aY (hi au s2 Z H2 _ I2 q2) fun iv s3 ⟨y,H3,I3,ry,a,H4,ex,g,q3⟩=>?_) hs;subst ex;obtain rfl:u=Value.ref a:=rx;exact aae hu I3 g ry rv fun s4 I4=>⟨Z,H4,I4,q3⟩
end
theorem aa5{P:ah}{w:World}{H:Hp}(h:Heap)(hb:sysModules<h.objs.size):fK P w H (h.push {cls:=.type "dict",data:=.dict #[]}) h.objs.size (.dK []):=⟨fZ _,CT.mpr (fg (fC hb)),[],.nil,Heap.DictOf.new h⟩
section
variable {X:Cx} {pos:Pos}
end
def DB:List (TE×TE)->St->Hp->(List (V×V)->Hp->Prop)->Prop |[],_,H,Q=>Q [] H |(tk,tv)::r,Z,H,Q=>tk Z H fun x H1=>tv Z H1 fun y H2=>DB r Z H2 fun ps H3=>Q ((x,y)::ps) H3
abbrev VV:List (V×V)->List (Value×Value)->Prop:=Paired fun p q=>RelV p.1 q.1/\RelV p.2 q.2
def CG(X:Cx)(pos:Pos)(keys:List (Option Expr))(values:List Expr)(ou:List (TE×TE)):Prop:=∀(au:List (Addr×Obj))(s:ae)(Z:St)(H:Hp)(Q:List (V×V)->Hp->Prop),Inv X au Z H s->DB ou Z H Q->wpAny (model X.prog X.w) X.A (evalPairs (pairTrees keys values X.env pos)) (fun vs s'=>∃ps H',Inv X au Z H' s'/\VV ps vs/\Q ps H') X.xe s
theorem a0y{X:Cx}{pos:Pos}:CG X pos [] [] []:=fun au s Z H Q I h=>pairTrees_nil_walk ⟨[],H,I,.nil,h⟩
theorem AJ{X:Cx}{pos:Pos}{k v:Expr}{ks:List (Option Expr)}{vs:List Expr}{tk tv:TE}{ou:List (TE×TE)}(hk:PE X k tk)(hv:PE X v tv)(hr:CG X pos ks vs ou): CG X pos (some k::ks) (v::vs) ((tk,tv)::ou):=fun au s Z H Q I h=>pairTrees_cons_walk (aY (hk au s Z H _ I h) fun u s1 ⟨x,H1,I1,rx,q1⟩=>aY (hv au s1 Z H1 _ I1 q1) fun w2 s2 ⟨y,H2,I2,ry,q2⟩=>aY (hr au s2 Z H2 _ I2 q2) fun ws s3 ⟨ps,H3,I3,rel,q3⟩=>⟨(x,y)::ps,H3,I3,.cons ⟨rx,ry⟩ rel,q3⟩)
def qz(aM more:List (Key×V)):List (Key×V):=more.foldl (fun acc kv=>putK acc kv.1 kv.2) aM
theorem KV.merge:∀{more:List (Key×V)}{rs:List (Key×Value)}{aM:List (Key×V)}{vs:List (Key×Value)},KV more rs->KV aM vs->KV (qz aM more) (merged vs rs):=by intro more rs aM vs r;unfold KV at r;induction r generalizing aM vs with |nil=>intro q;exact q |@cons p q ps qs h t ih=>
   intro r0;have e:KV (putK aM p.1 p.2) (stored vs q.1 q.2):=by have:=r0.put p.1 h.2;rw[<-h.1];exact this
   exact ih e
theorem Q0:∀(more aM:List (Key×V)),(qz aM more).length<=aM.length+more.length |[],aM=>by show aM.length<=aM.length+0;lia |p::r,aM=>by have h1:=Q0 r (putK aM p.1 p.2);have h2:=Bi aM p.1 p.2;show(qz (putK aM p.1 p.2) r).length<=_;rw[kn];lia
theorem Ta{P:ah}{w:World}:∀{aM:List (Key×V)}{ws:List (Value×Value)},VV (aM.map fun kv=>(kV kv.1,kv.2)) ws->∃rs,Carries (jx P w) ws rs/\KV aM rs |[],_,r=>by rw[List.map_nil]at r;cases r;exact⟨[],True.intro,.nil⟩ |p::aM,_,r=>by rw[oa]at r;cases r with |@cons a b as bs h t=>obtain⟨rs,c,q⟩:=Ta (P:=P) (w:=w) t;obtain⟨b1,b2⟩:=b;exact⟨(p.1,b2)::rs,⟨Bn h.1,rfl,c⟩,.cons ⟨rfl,h.2⟩ q⟩
def Y2(ou:List (TE×TE)):TE:=fun Z H Q=>∀p,H p=none->DB ou Z (upd H p (.dK [])) fun ps H2=>H2 p=some (.dK [])/\∃aM:List (Key×V),ps=aM.map (fun kv=>(kV kv.1,kv.2))/\aM.length<=15/\Q (.ref p) (upd H2 p (.dK (qz [] aM)))
theorem a0W{X:Cx}{pos:Pos}{keys:List (Option Expr)}{values:List Expr}{ou:List (TE×TE)}(h:CG X pos keys values ou)(Iq:keys.all (·.isSome)=true)(hl:keys.length=values.length)(h0:keys≠[]) (Rh:keys.length<=15):PE X (.Dict keys values pos) (Y2 ou):=by
  intro au s Z H Q I q;have hn:=I.aX.fresh (bK s.heap.objs.size);have I1:=I.laid (a:=s.heap.objs.size) (o:=.dK []) (h':=s.heap.push {cls:=.type "dict",data:=.dict #[]}) (t':=s.toks) (fun _ _ q=>cy _ q) (bK _) (aa5 s.heap I.big);refine wpAny_Dict_walk (knd:=jx X.prog X.w) Iq hl h0 Rh (aY (h au _ Z _ _ I1 (q _ hn)) fun ws s2 ⟨ps,H2,I2,rel,e,aM,ep,lk,q2⟩=>?_);subst ep;obtain⟨rs,c,rk⟩:=Ta (P:=X.prog) (w:=X.w) rel;obtain⟨z,hd,vs0,r0,dd⟩:=Sv I2.aX e;cases r0;refine⟨rs,c,dd,fun h' nN hs=>⟨.ref s.heap.objs.size,_,?_,rfl,q2⟩⟩;have hz:(qz [] aM).length<=sizeLine:=by have h1:=Q0 aM [];rw[Kn]at h1;rw[sizeLine_eq];lia
  have he:∃q,h'.get? s.heap.objs.size=some q:=let⟨q,_,_,hq,_⟩:=nN;⟨q,hq⟩;exact Jq I2 (by rw[e];exact True.intro) hs he (Sw hz hd (rk.merge .nil) nN)
section
variable {X:Cx}{au:List (Addr×Obj)}{Z:St}{H:Hp}{s:ae}{a:Addr}{y d:V}{u r:Value}{o:Option V}{A:aj}{E:Value->ae->Prop}
end
section
variable {X:Cx}{o e f:Expr}{apos cC:Pos}{td ty tx:TE}
end
section
variable {X:Cx}{au:List (Addr×Obj)}{Z:St}{H:Hp}{s:ae}{a:Addr}{aM:List (Key×V)}{A:aj}{E:Value->ae->Prop}
end
section
variable {X:Cx}{au:List (Addr×Obj)}{Z:St}{H:Hp}{s:ae}{a:Addr}{y:V}{u:Value}{A:aj}{E:Value->ae->Prop}
end
section
variable {X:Cx}
end
theorem a7O{K:aa}{mg:Str->Option Value}{x z:Str}{t:Tok}{h:Heap}(X:K.In h)(G:h.Ns mainGlobals mg)(a:PySem.W.nsIn K mainGlobals x=some (some (.str z t))):GV mg x (.str z):=⟨_,xc X G a,t,rfl⟩
end L2
set_option exponentiation.threshold 6000
namespace L2
open PySem PySem.Spec PyProof.Rows
section
variable {X:Cx}
theorem aaF:fy X (.type "str") (fun xs H Q=>(∃i,xs=[.int i]/\i.natAbs.log2<1920/\Q (.str (toString i)) H)\/∃z,xs=[.str z]/\Q (.str z) H):=by
 intro au s Z H xs us Q I r h;rcases h with⟨i,rfl,hz,q⟩|⟨z,rfl,q⟩
 · obtain⟨u,rfl,t,rfl⟩:=vals1 r
   exact PySem.P.str_of_int hz ⟨.str _,H,I.tok _,⟨_,rfl⟩,q⟩
 · obtain⟨u,rfl,t,rfl⟩:=vals1 r
   exact PySem.P.str_of_str ⟨.str _,H,I,⟨_,rfl⟩,q⟩
theorem Xn{i:Int}(h:i.natAbs<10^40):(Str.ofString (toString i)).length<=41:=by rw[PySem.ofString_length];exact int_text_length_le10 (k:=40) (by decide) h
theorem a4m{i:Int}(h:i.natAbs<10^40):i.natAbs.log2<1920:=by
 by_cases h0:i.natAbs=0
 ·rw[h0];decide
 ·exact(Nat.log2_lt h0).mpr (Kf h (by decide))
end
end L2
namespace Tu
open Ln
end Tu
namespace Pn
theorem Px(a b:Rat):mn a b=mn b a:=CV (kX (kB _ _) (gC _ _)) (kX (kB _ _) (gC _ _))
section
variable {n:Nat}{own Gx:Nat->Rat}{L L':Nat->Option Nat}{r f:Int}
end
end Pn
namespace Ow
open Pn Ln Cn Tu
end Ow
namespace L2
open PySem PySem.Spec PyProof.Rows
theorem aa9(f:Array Value->Array Value)(o:Obj):(o.mapFields f).dict=o.dict:=by obtain⟨c,d,dt,sl⟩:=o;cases dt<;>rfl
def TrD(h B:Heap)(ex:Addr)(cls:Value)(dx:Option Addr)(fl:Value):Prop:=∃ob fs tb ot ts,h.get? ex=some ob/\ob.cls=cls/\ob.dict=dx/\ob.data= .fields fs/\fs[1]? =some (.ref tb)/\B.get? tb=none/\tb≠ex/\h.get? tb=some ot/\ot.data= .fields ts/\ts[3]? =some fl
def kF(B:Heap)(l:List Env)(ex:Addr)(cls:Value)(dx:Option Addr)(fl:Value)(h:Heap):Prop:=B.StaysIn h/\B.get? ex=none/\h.FunFrames B l/\TrD h B ex cls dx fl
theorem kF.there{B h:Heap}{l:List Env}{ex:Addr}{cls fl:Value}{dx:Option Addr}(x:kF B l ex cls dx fl h):∃ob,h.get? ex=some ob/\ob.cls=cls/\ob.dict=dx/\∃fs,ob.data= .fields fs:=by obtain⟨_,_,_,ob,fs,_,_,_,e,c,d,z,_⟩:=x;exact⟨ob,e,c,d,fs,z⟩
section
variable {M:Model}{A:aj}{E:Value->ae->Prop}{s:ae}{B:Heap}{env:Env}{outer:List Env}{L ex:Addr}{ob:Obj}{fs:Array Value}{head:Value}{nx:Bool}{Q:Unit->ae->Prop}{cls fl:Value}{dx:Option Addr}
theorem S9(hA:A.frames=some (env::outer))(ff:s.heap.FunFrames B (env::outer))(hL:env.frame=some L)(ho:s.heap.get? ex=some ob)(st:B.StaysIn s.heap)(hB:B.get? ex=none)(hd:ob.data= .fields fs)(hz:1<fs.size) (q:∀h',kF B (env::outer) ex ob.cls ob.dict (rawInt L) h'->s.heap.UpToSlots h'->Q () {s with heap:=h'}): wpAny M A (do let a<-frameOf env;let pl<-entryPlaceOf L nx;let b<-EntryCells.newEntry head a .none (rawInt L) .none pl;setField (.ref ex) 1 b) Q E s:=by
  have qv:ex∉(env::outer).filterMap (·.frame):=fun hm=>by obtain⟨_,o,e1,nf⟩:=ff.mem hm;rw[ho]at e1;cases e1;exact nf fs hd
  refine aQ (wpAny_frameOf_fun hA ff hL fun g1 k1=>aQ (wpAny_entryPlaceOf fun pl hp=>?_));unfold EntryCells.newEntry newFields;refine aQ (pJ ?_ (hp.sizeOk5 _ _ _ _ _));have o1:g1.get? ex=some ob:=(k1.2.1 ex qv).trans ho;have Ai:B.StaysIn g1:=fun b o e=>(k1.2.1 b fun hm=>by rw[(ff.mem hm).1]at e;cases e).trans (st b o e);generalize hT:({cls:=.type "traceback",dict:=none,data:=.fields ([head,.ref L,.none,rawInt L,.none]++(if pl.isEmpty then List.replicate 6 Value.none else pl)).toArray}:Obj)=T;have o2:(g1.push T).get? ex=some ob:=cy T o1;refine CM o2 hd hz (q _ ?_ ?_);all_goals have ne:g1.objs.size≠ex:=CZ (cB o1)
  all_goals have keep:∀b o,b≠ex->g1.get? b=some o->((g1.push T).update ex (Obj.mapFields (·.setIfInBounds 1 (Value.ref g1.objs.size)))).get? b=some o:=fun b o nb e=>by rw[zO _ _ (fg nb)];exact cy _ e
  all_goals have qq:∀b o,s.heap.get? b=some o->(∀vs,o.data≠ .fields vs)->b≠ex:=fun b o e nf z=>by rw[z,ho]at e;cases e;exact nf fs hd
  · have d3:=CY hd (·.setIfInBounds 1 (Value.ref g1.objs.size))
    have o3:=Kv (Obj.mapFields (·.setIfInBounds 1 (Value.ref g1.objs.size))) o2 (WC d3);refine⟨fun b o e=>keep b o (fun z=>by rw[z,hB]at e;cases e) (Ai b o e),hB,ff.of_keeps fun b o e nf=>?_,?_⟩
    · obtain⟨sl,e1⟩:=k1.2.2 b o e
      exact⟨_,keep b _ (qq b o e nf) e1,rfl⟩
    · refine⟨_,_,g1.objs.size,T,_,o3,Obj.cls_mapFields _ _,aa9 _ _,d3,by simp[hz],Ai.fresh,ne,?_,by rw[<-hT],?_⟩
      ·rw[zO _ _ (fg ne)];exact eO g1 (by rw[<-hT];rfl)
      ·first|(simp;done)|(rcases hp with rfl|⟨_,_,_,_,_,_,_,rfl⟩<;>simp)
  · intro b o e nf
    obtain⟨sl,e1⟩:=k1.2.2 b o e;exact⟨sl,keep b _ (qq b o e nf) e1⟩
theorem a3c(hA:A.frames=some (env::outer))(ff:s.heap.FunFrames B (env::outer))(hL:env.frame=some L)(ho:s.heap.get? ex=some ob)(st:B.StaysIn s.heap)(hB:B.get? ex=none)(hd:ob.data= .fields fs)(h1:fs[1]? =some .none) (q:∀h',kF B (env::outer) ex ob.cls ob.dict (rawInt L) h'->s.heap.UpToSlots h'->Q () {s with heap:=h'}):wpAny M A (noteFrame (.ref ex) env) Q E s:=by unfold noteFrame;simp only[hL];refine aQ (jm ho hd h1 ?_);rw[bf (by decide)];exact S9 hA ff hL ho st hB hd (Kx.mp h1).1 q
theorem P7(hA:A.frames=some (env::outer))(hL:env.frame=some L)(x:kF B (env::outer) ex cls dx .none s.heap) (q:∀h',kF B (env::outer) ex cls dx (rawInt L) h'->s.heap.UpToSlots h'->Q () {s with heap:=h'}):wpAny M A (noteFrame (.ref ex) env) Q E s:=by
  obtain⟨st,hB,ff,ob,fs,tb,ot,ts,ho,rfl,rfl,hd,h1,BU,nt,ht,qI,h3⟩:=x;unfold noteFrame;simp only[hL];refine aQ (jm ho hd h1 ?_);rw[bc (show(Value.ref tb !=Value.none)=true from by simp)];refine aQ (jm ht qI h3 ?_);rw[bf (show¬((Value.none==rawInt L)=true)from by simp[rawInt])];refine aQ (CM ht qI (Kx.mp h3).1 ?_);have other:∀b,b≠tb->(s.heap.update tb (Obj.mapFields (·.setIfInBounds 3 Value.none))).get? b=s.heap.get? b:=fun b nb=>zO _ _ (fg nb);have qq:∀b o,s.heap.get? b=some o->(∀vs,o.data≠ .fields vs)->b≠tb:=fun b o e nf z=>by rw[z,ht]at e;cases e;exact nf ts qI
  refine S9 (s:={s with heap:=s.heap.update tb (Obj.mapFields (·.setIfInBounds 3 Value.none))}) hA (ff.of_keeps fun b o e nf=>⟨o,(other b (qq b o e nf)).trans e,rfl⟩) hL ((other ex (fg nt)).trans ho) (fun b o e=>(other b fun z=>by rw[z,BU]at e;cases e).trans (st b o e)) hB hd (Kx.mp h1).1 fun h' y up=>q h' y fun b o e nf=>up b o ((other b (qq b o e nf)).trans e) nf
theorem C3{l:List Env}(x:kF B l ex cls dx fl s.heap)(q:∀h',kF B l ex cls dx .none h'->s.heap.UpToSlots h'->Q () {s with heap:=h'}):wpAny M A (setFlight (.ref ex) none) Q E s:=by
 obtain⟨st,hB,ff,ob,fs,tb,ot,ts,ho,hc,hx,hd,h1,BU,nt,ht,qI,h3⟩:=x;have z3:3<ts.size:=(Kx.mp h3).1;have other:∀b,b≠tb->(s.heap.update tb (Obj.mapFields (·.setIfInBounds 3 ((none:Option Addr).elim Value.none fun f=>rawInt f)))).get? b=s.heap.get? b:=fun b nb=>zO _ _ (fg nb);have qq:∀b o,s.heap.get? b=some o->(∀vs,o.data≠ .fields vs)->b≠tb:=fun b o e nf z=>by rw[z,ht]at e;cases e;exact nf ts qI
 unfold setFlight;refine aQ (jm ho hd h1 ?_);rw[bc (show(Value.ref tb !=Value.none)=true from by simp)];refine CM ht qI z3 (q _ ⟨fun b o e=>(other b fun z=>by rw[z,BU]at e;cases e).trans (st b o e),hB,ff.of_keeps fun b o e nf=>⟨o,(other b (qq b o e nf)).trans e,rfl⟩,?_⟩ fun b o e nf=>⟨o.slots,(other b (qq b o e nf)).trans e⟩);exact⟨ob,fs,tb,_,_,(other ex (fg nt)).trans ho,hc,hx,hd,h1,BU,nt,Kv _ ht (WC (CY qI _)),CY qI _,by simp[z3]⟩
theorem a4v(hA:A.frames=some (env::outer))(ff:s.heap.FunFrames B (env::outer))(hL:env.frame=some L)(ho:s.heap.get? ex=some ob)(st:B.StaysIn s.heap)(hB:B.get? ex=none)(hd:ob.data= .fields fs)(h1:fs[1]? =some .none) (q:∀h',kF B outer ex ob.cls ob.dict .none h'->s.heap.UpToSlots h'->Q () {s with heap:=h'}):wpAny M A (leaving env (.ref ex)) Q E s:=by unfold leaving;refine aQ (a3c hA ff hL ho st hB hd h1 fun h1 x1 u1=>C3 x1 fun h2 x2 u2=>q h2 ?_ (u1.trans u2));obtain⟨a,b,⟨_,_,c⟩,d⟩:=x2;exact⟨a,b,c,d⟩
theorem a4u(hA:A.frames=some (env::outer))(hL:env.frame=some L)(x:kF B (env::outer) ex cls dx .none s.heap) (q:∀h',kF B outer ex cls dx .none h'->s.heap.UpToSlots h'->Q () {s with heap:=h'}):wpAny M A (leaving env (.ref ex)) Q E s:=by unfold leaving;refine aQ (P7 hA hL x fun h1 x1 u1=>C3 x1 fun h2 x2 u2=>q h2 ?_ (u1.trans u2));obtain⟨a,b,⟨_,_,c⟩,d⟩:=x2;exact⟨a,b,c,d⟩
end
end L2
namespace L2
open PySem PySem.Spec PyProof.Rows
open Builtin Builtin.ObjectAttr
section
variable {prog:ah}{w:World}{A:aj}{E:Value->ae->Prop}{s:ae}{K:aa}{x C:Addr}{ox:Obj}{fs:Array Value}{name:Str}{v:Value}{Q:Unit->ae->Prop}
end
end L2
namespace L2
open PySem PySem.Spec PyProof.Rows
section
variable {X:Cx}{o e value:Expr}{f:Str}{pos pos' ow:Pos}{ta tv:TE}
end
section
variable {prog:ah}{w:World}{A:aj}{E:Value->ae->Prop}{h:Heap}{g:Array GenState}{d:Drawn}{t:Nat}{os:OsState}
variable {nm q:Str}{C N fI:Addr}{bs bm mz:List Value}{hdct:Bool}{sn:List Str}{sub:List Value}{ab:Bool}{col:Option Bool}{dd:Option Addr}{k0 k1 k2 k3 k5:Option Value}{B newId Hu:String}{mN:Str->Option Value}{rest:List Value}{oI:Obj}
end
section
variable {M:Model}{A:aj}{E:Value->ae->Prop}{env:Env}{nm q:Str}{C N:Addr}{bs bm:List Value}{hdct:Bool}{sn:List Str}{sub:List Value}{ab:Bool}{col:Option Bool}{dd:Option Addr}{k0 k1 k2 k3 k5:Option Value}{newId:String}
end
def kj(P:ah)(w:World):kl:=fun outer H s E e s'=>∃(ex:Addr)(cls:Value)(dx:Option Addr)(H':Hp)(B:Heap),e= .ref ex/\s'.os=s.os/\AllBare s'.gens/\kF B outer ex cls dx .none s'.heap/\Fl P w outer H s.heap ex H' B s'.heap/\E cls dx H'
section
variable {P:ah}{w:World}{K:aa}{mg:Str->Option Value}{base:Heap}{N:List Str}{qual:Str}{scope:Scope}{f:Addr}{cd:Value}{A:aj}{outer:List Env}{s:ae}{H:Hp}{E:XK}{au:List (Addr×Obj)}{Z:St}{H1:Hp}{s1:ae}{ex:Addr}{C:Addr}{dx:Addr}
end
section
variable {X:Cx}{x:Str}{C fI:Addr}{mz:List Value}{newId Hu B:String}{e:Expr}{t:TA}{np cC pos:Pos}{k:Nat}{fd:FuncData}{ps:List Str}{sp:Sp}
end
def nZ(ex:Addr)(cls:Value)(dx:Option Addr)(h:Heap):Prop:=∃o,h.get? ex=some o/\o.cls=cls/\o.dict=dx/\∃fs,o.data= .fields fs
def ClsAt(K:aa)(C:Addr):Prop:=∀h,K.In h->∃nm q N bs tl hdct sn sub ab col dd k0 k1 k2 k3 k5 newId,h.get? C=some (excClassObj nm q C N bs tl hdct sn sub ab col dd k0 k1 k2 k3 k5 newId)
theorem Exc.cls{K:aa}{mg:Str->Option Value}{x:Str}{C:Addr}{mz:List Value}{newId:String}(e:Exc K mg x C mz newId):ClsAt K C:=fun h X=>by obtain⟨tl,N,nm,q,bs,hdct,sn,sub,ab,col,dd,k0,k1,k2,k3,k5,mN,hC,_⟩:=(e.own X).obj;exact⟨nm,q,N,bs,tl,hdct,sn,sub,ab,col,dd,k0,k1,k2,k3,k5,newId,hC⟩
inductive Uh(i:Nat)(Cs:Addr->Prop)(tb:XK->TS)(th:TS)(D:Ends)(Z:St)(H:Hp):Prop |mk (E:XK)(h0:tb E D Z H)(h1:(∀cls dx H',E cls dx H'->∃C,cls= .ref C/\Cs C))(h2:∀(C ex:Addr)(dx:Option Addr)(σ':St)(H':Hp),σ'.length=Z.length->E (.ref C) dx H'->H' ex=none->th {nx:=fun σ2 H2=>D.nx (σ2.set i none) H2,rt:=D.rt,bk:=fun σ2 H2=>D.bk (σ2.set i none) H2,ct:=fun σ2 H2=>D.ct (σ2.set i none) H2} (σ'.set i (some (.ref ex))) (upd H' ex (.ext (nZ ex (.ref C) dx)))):Uh i Cs tb th D Z H
def XG(i:Nat)(Cs:Addr->Prop)(tb:XK->TS)(th:TS):TS:=fun D Z H=>Uh i Cs tb th D Z H
section
variable {X:Cx}{i:Nat}{n y:Str}{Dc:Addr}{Jx:List Value}{newD:String}{body Ae:List Stmt}{b0:Stmt}{np tN pos:Pos}{tb:XK->TS}{th:TS}{Cs:Addr->Prop}
theorem a0u(gQ:X.stack=X.env::X.outer)(hfr:X.env.frame=some X.env.locals)(hN:X.N.Nodup)(hi:X.N[i]? =some n)(hk:X.env.kindOf n=some .local)(hs:X.env.scope.names.lookup n=some .local) (hb:∀(E:XK)(xe:Value->ae->Prop),Passes (kj X.prog X.w) (X.j8 xe) E->gX (X.j8 xe) body (tb E)) (hg:Gl X y)(hy:Exc X.K X.mg y Dc Jx newD)(Ip:Jx.contains (.type "BaseException")=true)(ID:∀C,Cs C->ClsAt X.K C/\takes X.K C Dc) (hh:∀ex,gX (X.hand ex) (b0::Ae) th)(jh:(y==("__debug__":Str))=false:=by decide): Ub X (.Try body [.ExceptHandler (some (.Name y np)) (some n) (b0::Ae) tN] [] [] pos) (XG i Cs tb th):=by
  intro s Z H D I h;obtain⟨E,hq,lX,hth⟩:=h;refine wpAny_Try_except ?_;have ps:Passes (kj X.prog X.w) (X.j8 fun e s₁=>wpAny (model X.prog X.w) X.A (noteFrame e X.env) (fun _ s₂=>wpAny (model X.prog X.w) X.A (setFlight e none) (fun _ s₃=>wpAny (model X.prog X.w) X.A (handleBy e X.env [.ExceptHandler (some (.Name y np)) (some n) (b0::Ae) tN]) (SP X [] D) X.xe s₃) X.xe s₂) X.xe s₁) E:=by
   intro Gq σ' H1 s1 ev s2 I1 hx;obtain⟨ex,cls,dx,H',B,rfl,ho,QI,ph,F,hE⟩:=hx;obtain⟨C,rfl,hC⟩:=lX cls dx H' hE;have I0:Inv X [] σ' H1 s1:=I1.mH.ab3;obtain⟨Bx,g2,d2,t2,o2⟩:=s2;have a8h:kF B (X.env::X.outer) ex (.ref C) dx .none Bx:=by rw[<-gQ];exact ph
   have hA:X.A.frames=some (X.env::X.outer):=by rw[<-gQ];exact I0.ok.frames
   refine P7 (s:=⟨Bx,g2,d2,t2,o2⟩) hA hfr a8h fun h4 BK Xh=>?_;refine C3 BK fun h5 yV Xg=>?_;have F4:=F.step ph.1 BK.1 Xh ph.2.2.1;have ff4:h4.FunFrames B X.stack:=by rw[gQ];exact BK.2.2.1
   have F5:=F4.step BK.1 yV.1 Xg ff4;have ff5:h5.FunFrames B X.stack:=by rw[gQ];exact yV.2.2.1
   have I5:Inv X [] σ' H' ⟨h5,g2,d2,t2,o2⟩:=I0.Ck (s':=⟨h5,g2,d2,t2,o2⟩) ho F5.un F5.aX QI (fun b hb=>(cI hb).elim);refine wpAny_handleBy_cons (codeAny_handlers_test (vR (X:=X.hand ex) (I5.hand ex) hg hy.at' ?_ jh)) (by intro q;cases q);obtain⟨eC,tk⟩:=ID C hC;obtain⟨nm,q,Nn,bs,tl,hdct,sn,sub,ab,col,dd,k0,k1,k2,k3,k5,nw,oC⟩:=eC _ I5.gD;obtain⟨tl',Nn',Pe,q',Ti,QM,Mm,Lv,TU,SS,nN,j0,j1,j2,j3,j5,mN',oD,ad2,acM,TL'⟩:=(hy.own I5.gD).obj;obtain⟨ob,hob,a5V,_⟩:=yV.there;have HH:(Value.ref C::tl).contains (.ref Dc)=true:=by
    obtain⟨cd,ha,lY⟩:=Option.bind_eq_some_iff.mp tk;split at lY
    ·cases lY
    · have hc:=dP lY
      unfold PySem.W.clsIn at ha;split at ha
      · rename_i c1 c2 cd' c4 hl
        cases ha;have e1:=I5.gD _ _ hl;rw[show(Shared.heap ⟨h5,g2,d2,t2,o2⟩).get? C=some _ from oC]at e1;have e2:=dP e1;unfold excClassObj at e2;injection e2 with _ _ e3 _;injection e3 with e4;rw[<-e4]at hc;exact hc
      ·cases ha
   refine a9v oC oD hob a5V (TL'.hasType Ip) HH ?_;refine codeAny_handlers_suite_as ?_;refine C3 (s:=⟨h5,g2,d2,t2,o2⟩) yV fun h6 RM Xf=>?_;have F6:=F5.step yV.1 RM.1 Xf ff5;have Xl:Un (dj X.stack) [] H1 (upd H' ex (.ext (nZ ex (.ref C) dx))) s1.heap h6:=by
    have nb:∀b u,H' b=some u->b≠ex:=fun b u e z=>by rw[z,F6.ne]at e;cases e
    refine⟨F6.un.keep,F6.un.slot,fun b o e n hx=>?_,F6.un.there,fun b xs e=>?_,fun b o u e=>?_,fun b ps e=>?_⟩
    ·rw[aK (fun z=>by rw[z,F6.nw]at e;cases e)];exact F6.un.free b o e n hx
    ·have:=F6.un.ku b xs e;rw[aK (nb b _ this)];exact this
    ·have:=F6.un.jW b o u e;rw[aK (nb b _ this)];exact this
    ·obtain⟨more,e1⟩:=F6.un.jN b ps e;exact⟨more,by rw[aK (nb b _ e1)];exact e1⟩
   have a5T:dJ X.prog X.w (upd H' ex (.ext (nZ ex (.ref C) dx))) h6:=fun b u e=>by
    by_cases QP:b=ex
    · subst QP
      rw[ba]at e;cases e;obtain⟨o6,e6,c6⟩:=RM.there;exact⟨⟨o6,e6,c6⟩,⟨o6,e6⟩,fun g1 g3 ⟨o7,e7,c7⟩ k=>⟨o7,k o7 e7,c7⟩⟩
    · rw[aK QP]at e
      refine(F6.aX b u e).m7 (fun c v hc q=>q) (fun c q=>?_) fun c xs q=>?_
      ·rw[aK (fun z=>by rw[z,F6.ne]at q;cases q)];exact q
      ·rw[aK (fun z=>by rw[z,F6.ne]at q;cases q)];exact q
   have I6:Inv X [] σ' (upd H' ex (.ext (nZ ex (.ref C) dx))) ⟨h6,g2,d2,t2,o2⟩:=I0.Ck (s':=⟨h6,g2,d2,t2,o2⟩) ho Xl a5T QI (fun b hb=>(cI hb).elim);refine uS (X:=X.hand ex) (I6.hand ex) hN hi (.inl hs) (v:=.ref ex) rfl (fun s7 I7=>?_) (.inr hs);refine jH (hh ex [] s7 _ _ _ I7 (hth C ex dx σ' H' (I0.len.trans I.len.symm) hE F.ne)) (fun f s8 q=>?_) fun e s8 q=>False.elim q;have un:∀(σ2:St)(H2:Hp)(Q:Unit->ae->Prop),Inv (X.hand ex) [] σ2 H2 s8->(∀s9,Inv X [] (σ2.set i none) H2 s9->Q () s9)->wpAny (model X.prog X.w) X.A (do bindName X.env n .none;unbindBehindTheSuite X.env n tN) Q X.xe s8:=fun σ2 H2 Q I8 hq=>by
    have Wi:=I8.back I0.ok;have cx:i<σ2.length:=by rw[Wi.len];exact(dM.mp hi).1
    unfold bindName;refine aQ (aQ (uE (wpAny_point (aQ (uS Wi hN hi (.inl hs) (v:=.bo) rfl (fun s9 I9=>wpAny_point ?_) (.inr hs))))));refine Xj I9 hN hi hk hs (v:=.bo) (zK cx) fun mR wW=>hq mR ?_;rw[Kk]at wW;exact wW
   cases f with |next=>obtain⟨σ2,H2,I8,dq⟩:=q;exact un σ2 H2 _ I8 fun s9 I9=>⟨_,H2,I9,dq⟩ |brk=>obtain⟨σ2,H2,I8,dq⟩:=q;exact un σ2 H2 _ I8 fun s9 I9=>⟨_,H2,I9,dq⟩ |cont=>obtain⟨σ2,H2,I8,dq⟩:=q;exact un σ2 H2 _ I8 fun s9 I9=>⟨_,H2,I9,dq⟩ |ret u=>obtain⟨v,σ2,H2,I8,r8,dq⟩:=q;exact un σ2 H2 _ I8 fun s9 I9=>⟨v,_,H2,I9,r8,dq⟩
  refine jH (hb E _ ps [] s Z H D (I.j8 _) hq) (fun f s1 q=>?_) fun e s1 q=>q;have q':=q.mH;cases f with |next=>exact zC q' |brk=>exact q' |cont=>exact q' |ret u=>exact q'
end
end L2
namespace L2
open PySem PySem.Spec PyProof.Rows PySem.W
section
variable {prog:ah}{w:World}{A:aj}{E:Value->ae->Prop}{h:Heap}{g:Array GenState}{d:Drawn}{t:Nat}{os:OsState}{K:Frag}{x C:Addr}{ox:Obj}{od:Obj}{f:Str}{v:Value}
end
section
variable {X:Cx}{e:Expr}{f:Str}{pos:Pos}{ta:TE}
inductive VN(K:Frag)(xs:List V)(H:Hp)(Q:VK):Prop |mk (ex:Addr)(C:Addr)(dx:Option Addr)(c:V)(cv:Value)(b:Bool)(h0:xs=[.ref ex,c])(h1:H ex=some (.ext (nZ ex (.ref C) dx)))(h2:nY K C)(h3:aaB c=some cv)(h4:kitOne K (.ref C) cv=some b)(h5:Q (.bl b) H):VN K xs H Q
def a0h(K:Frag):List V->Hp->VK->Prop:=fun xs H Q=>VN K xs H Q
inductive VM(K:Frag)(xs:List V)(H:Hp)(Q:VK):Prop |mk (ex:Addr)(C:Addr)(p:Addr)(dx:Option Addr)(Ds:List Addr)(b:Bool)(h0:xs=[.ref ex,.ref p])(h1:H ex=some (.ext (nZ ex (.ref C) dx)))(h2:nY K C)(h3:H p=some (.tup (Ds.map V.ref)))(h4:kitAny K (.ref C) (Ds.map Value.ref)=some b)(h5:Q (.bl b) H):VM K xs H Q
def a0g(K:Frag):List V->Hp->VK->Prop:=fun xs H Q=>VM K xs H Q
theorem tH(K:Frag)(hK:X.K=K):fy X (.builtin "isinstance") (fun xs H Q=>a0h K xs H Q\/a0g K xs H Q):=by
 subst hK;intro au s Z H xs us Q I r h;rcases h with⟨ex,C,dx,c,cv,b,rfl,he,k,hc,kb,q⟩|⟨ex,C,p,dx,Ds,b,rfl,he,k,hp,kb,q⟩
 · obtain⟨u,v,rfl,rx,rc⟩:=vals2 r
   cases(show u=Value.ref ex from rx);have hv:v=cv:=by cases c with |ref D=>cases(show v=Value.ref D from rc);exact dP hc |ty n=>cases(show v=Value.type n from rc);exact dP hc |_=>cases hc
   subst hv;obtain⟨o,o1,o2,_⟩:=(I.aX ex _ he).1;exact kia_one (Qb k) I.gD ⟨o,o1,o2⟩ kb (fun z=>nomatch z) fun tk=>⟨.bl b,H,I.tok _,rfl,q⟩
 · obtain⟨u,v,rfl,rx,rc⟩:=vals2 r
   cases(show u=Value.ref ex from rx);cases(show v=Value.ref p from rc);obtain⟨o,o1,o2,_⟩:=(I.aX ex _ he).1;obtain⟨_,its,rv,⟨cls,dd,dt,sl⟩,h1,h2,n,h3⟩:=(show fK X.prog X.w H s.heap p (.tup (Ds.map V.ref))from I.aX p _ hp);simp only at h2 h3;subst h2 h3;have e:=KH rv;subst e;exact kia_tup (Qb k) I.gD ⟨o,o1,o2⟩ h1 kb (fun z=>nomatch z) fun tk=>⟨.bl b,H,I.tok _,rfl,q⟩
end
end L2
namespace L2
open PySem PySem.Spec PyProof.Rows
section
variable {X:Cx}{k:Nat}{x:Str}{p pos:Pos}{e:Expr}{es:List Expr}{t:TA}{sp:Sp}
end
section
variable {P:ah}{w:World}{K:aa}{mg:Str->Option Value}{base:Heap}{N:List Str}{qual:Str}{scope:Scope}{f:Addr}{cd:Value}{A:aj}{outer:List Env}{s:ae}{H:Hp}{E E0:XK}
end
end L2
namespace L2
open PySem PySem.Spec PyProof.Rows
open Builtin Builtin.ObjectAttr
section
variable {prog:ah}{w:World}{A:aj}{E:Value->ae->Prop}{s:ae}{K:aa}{x C dx:Addr}{ox:Obj}{fs:Array Value}{name:Str}{v:Value}{Q:Unit->ae->Prop}{mA:Str->Option Value}{ks:List Str}
end
section
variable {X:Cx}{o e value:Expr}{f:Str}{pos pos' ow:Pos}{ta tv:TE}
end
end L2
namespace L2
open PySem PySem.Spec PyProof.Rows
def CJ(P:ah)(w:World)(K:aa)(mg:Str->Option Value)(base:Heap)(C:Addr)(m:Str)(k:Nat)(sp:Sp):Prop:=∃f fd ps,j6 P w K mg base (kj P w) k f fd ps sp/\Meth K C m f/\Binds K fd ps []
section
variable {P:ah}{w:World}{K:aa}{mg:Str->Option Value}{base:Heap}
theorem kh.okD{m qual:Str}{st:Stmt}{f:Addr}{fd:FuncData}{N ps:List Str}{k:Nat}{sp:Sp}(F:kh K m qual st f fd)(S:bp N ps (aV st))(len:∀vs H Q E,sp vs H Q E->vs.length=ps.length) (iJ:∀(aL:Value)(A:aj)(outer:List Env)(s:ae)(H:Hp)(vs:List V)(Q:VK)(E:XK),cJ k (A.deeper (envOfC qual (aV st) s.heap.objs.size f aL))->sp vs H Q E->∃t,gX (j4 (kj P w) P w K mg base N qual (aV st) f aL A outer s H E) (gF st) t/\t {nx:=fun _ H'=>Q .bo H',rt:=Q} (start N vs) H):j6 P w K mg base (kj P w) (k+1) f fd ps sp:=by obtain⟨oc,od,kV,doc,pm,an,aL,ct,gf,rfl,lk,gR⟩:=F.ex;exact IP lk gR S len fun A outer s H vs Q E hr je=>iJ aL A outer s H vs Q E hr je
theorem MA.a6N{C:Addr}{m qual:Str}{st:Stmt}{N ps:List Str}{k:Nat}{sp:Sp}(F:MA K C m qual st)(S:bp N ps (aV st))(len:∀vs H Q E,sp vs H Q E->vs.length=ps.length) (hb:∀(kV doc pm:Value)(an:Option Addr)(aL ct:Value)(us:List Value),us.length=ps.length->bindArgs (PySem.W.fnOf m qual (jZ st) (gF st) (aV st) .none kV doc pm an aL ct) ⟨us,[]⟩=pure (ps.zip us)) (iJ:∀(f:Addr)(aL:Value)(A:aj)(outer:List Env)(s:ae)(H:Hp)(vs:List V)(Q:VK)(E:XK),cJ k (A.deeper (envOfC qual (aV st) s.heap.objs.size f aL))->sp vs H Q E->∃t,gX (j4 (kj P w) P w K mg base N qual (aV st) f aL A outer s H E) (gF st) t/\t {nx:=fun _ H'=>Q .bo H',rt:=Q} (start N vs) H):CJ P w K mg base C m (k+1) sp:=by obtain⟨f,fd,hm,F⟩:=F.ex;exact⟨f,fd,ps,F.okD S len fun aL A outer s H vs Q E=>iJ f aL A outer s H vs Q E,hm,F.binds hb⟩
end
section
variable {X:Cx}{k:Nat}{x m:Str}{C:Addr}{p pos apos:Pos}{o e:Expr}{es:List Expr}{t:TA}{ta:TE}{sp:Sp}{E:XK}
inductive JV(C:Addr)(m:Str)(sp:Sp)(E:XK)(t:TA)(Z:St)(Q:VK)(x:V)(H1:Hp):Prop |mk (a:Addr)(dx:Addr)(fs:List (Str×V))(h0:x= .ref a)(h1:H1 a=some (.ins C dx fs))(h2:fs.lookup m=none)(h3:t Z H1 fun vs H2=>sp (x::vs) H2 Q E):JV C m sp E t Z Q x H1
def DC(C:Addr)(m:Str)(sp:Sp)(E:XK)(ta:TE)(t:TA):TE:=fun Z H Q=>ta Z H fun x H1=>JV C m sp E t Z Q x H1
theorem a3C{Z:St}{Q:VK}{x:V}{H1:Hp}:uA C m sp [] E t Z Q x H1=JV C m sp E t Z Q x H1:=by
 have e1:(fun(vs:List V) H1=>sp (x::(vs++[])) H1 Q E)=fun vs H1=>sp (x::vs) H1 Q E:=by funext vs H1;rw[Df]
 refine propext ⟨fun⟨a,dx,fs,h0,h1,h2,h3⟩=>⟨a,dx,fs,h0,h1,h2,?_⟩,fun⟨a,dx,fs,h0,h1,h2,h3⟩=>⟨a,dx,fs,h0,h1,h2,?_⟩⟩
 ·rw[<-e1];exact h3
 ·rw[e1];exact h3
theorem a0Q{pl:Sem Bool}(F:CJ X.prog X.w X.K X.mg X.base C m k sp)(hp:Passes (kj X.prog X.w) X E)(c:ki X.K C)(hr:cJ k X.A)(he:PE X o ta)(ha:PA X (e::es) t) (gQ:starEach (e::es) X.env=(false,eval e X.env)::starEach es X.env:=by rfl)(gj:(backTo pos (starEach es X.env)).any (·.1)=false:=by rfl) (ht:eval (.Call (.Attribute o m apos) (e::es) [] pos) X.env=(do
     let ov<-eval o X.env
     standAt apos.atName
     let(f,first)<-holding [ov] (getMethod ov m pl)
     callWith pos f first (backTo pos (starEach (e::es) X.env)) (backToKw pos (keywordEach [] X.env))):=by rfl): PE X (.Call (.Attribute o m apos) (e::es) [] pos) (DC C m sp E ta t):=by
  obtain⟨f,fd,ps,F,hm,hb⟩:=F;have h:=OA (pos:=pos) (apos:=apos) (pl:=pl) he c hm F hr hb .nil hp ha gQ gj ht;intro au s Z H Q I hq;refine h au s Z H Q I ?_;show ta Z H fun x H1=>uA C m sp [] E t Z Q x H1;simp only[a3C];exact hq
end
end L2
namespace L2
open PySem PySem.Spec PyProof.Rows SeqAt
section
variable {X:Cx}{k:Nat}{x:Str}{p pos:Pos}{e:Expr}{es:List Expr}{t:TA}{sp:Sp}{E:XK}
end
section
variable {X:Cx}
theorem Dj:∀{bs:List Bool}{us:List Value},Vals (bs.map V.bl) us->us=bs.map Value.bool |[],_,.nil=>rfl |b::bs,_,.cons q r=>by cases(show _=Value.bool b from q);rw[Dj r];rfl
def tI:Value->Bool | .bool b=>b |_=>false
theorem S7{bs:List Bool}(A:aj)(s:ae):∀y,y∈(bs.map Value.bool).toArray->EqAt A s y (.bool true) (tI y):=fun y hy=>by obtain⟨b,_,rfl⟩:=jJ.mp (List.mem_toArray.mp hy);have:=EqAt.bool_bool (A:=A) (s:=s) b true;cases b<;>exact this
theorem aam(bs:List Bool):(bs.map Value.bool).countP tI=bs.count true:=by induction bs with |nil=>rfl |cons b r ih=>cases b<;>simp[List.countP_cons,tI,ih,List.count_cons]
inductive JY(K:aa)(x:V)(vs:List V)(H:Hp)(Q:VK):Prop |mk (l:Addr)(bs:List Bool)(h0:x= .ref l)(h1:vs=[.bl true])(h2:aF K H l (bs.map V.bl))(h3:Q (.int (bs.count true:Nat)) H):JY K x vs H Q
theorem a3D(K:aa)(hK:X.K=K):zt X "list.count" (fun x vs H Q=>JY K x vs H Q):=by subst hK;intro au s Z H x vs v us Q I rx rv h;obtain⟨l,bs,rfl,rfl,hl,q⟩:=h;cases rx;obtain⟨u,rfl,ru⟩:=vals1 rv;cases(show u=Value.bool true from ru);obtain⟨its,r,pl,_⟩:=I.list hl;rw[Dj r]at pl;obtain⟨⟨cls,dd,data,sl⟩,ho,hc,n,hd⟩:=id pl.isList;simp only at hc hd;subst hc hd;refine wZ PySem.F.slot_list_count ⟨_,ho,rfl⟩ PySem.F.entry_list_count (PySem.F.args_list_count_2 _ _) (list_countAt l _ n dd sl (.bool true) tI) ⟨ho,S7 _ _,?_⟩;rw[show(bs.map Value.bool).toArray.toList=bs.map Value.bool from rfl,aam];exact⟨.int _,H,I.tok _,⟨_,rfl⟩,q⟩
inductive JX(K:aa)(x:V)(vs:List V)(H:Hp)(Q:VK):Prop |mk (l:Addr)(bs:List Bool)(j:Nat)(h0:x= .ref l)(h1:vs=[.bl true])(h2:aF K H l (bs.map V.bl))(h3:bs[j]? =some true)(h4:∀m,m<j->bs[m]? =some false)(h5:j<1000)(h6:Q (.int (j:Nat)) H):JX K x vs H Q
theorem a3B(K:aa)(hK:X.K=K):zt X "list.index" (fun x vs H Q=>JX K x vs H Q):=by
 subst hK;intro au s Z H x vs v us Q I rx rv h;obtain⟨l,bs,j,rfl,rfl,hl,hj,hm,ad4,q⟩:=h;cases rx;obtain⟨u,rfl,ru⟩:=vals1 rv;cases(show u=Value.bool true from ru);obtain⟨its,r,pl,_⟩:=I.list hl;rw[Dj r]at pl;obtain⟨⟨cls,dd,data,sl⟩,ho,hc,n,hd⟩:=id pl.isList;simp only at hc hd;subst hc hd;have QE:=(dM.mp hj);obtain⟨hj1,oY⟩:=QE;refine wZ PySem.F.slot_list_index ⟨_,ho,rfl⟩ PySem.F.entry_list_index (PySem.F.args_list_index_2 _ _) (list_indexAt l _ n dd sl (.bool true) tI j (by simpa using hj1) (by lia) ?_ (fun m hm1 BE=>?_)) ⟨ho,S7 _ _,⟨.int _,H,I.tok _,⟨_,rfl⟩,q⟩⟩
 ·simp[oY,tI]
 · have:=hm m BE
   obtain⟨h1,h2⟩:=dM.mp this;simp[h2,tI]
theorem a1c(K:aa)(h:X.K=K){o e:Expr}{to:TE}{t:TA}{apos cC:Pos}(ho:PE X o to)(ha:PA X [e] t) (ji:attributeBase o "count" X.env (eval o X.env)=eval o X.env:=by rfl) (lg:((backTo cC (starEach [e] X.env)).all (fun x=>!x.1)&&(backToKw cC (keywordEach [] X.env)).all (fun x=>x.1.isSome) &&decide ([e].length+([]:List Keyword).length+(if([]:List Keyword).isEmpty then 0 else 1)<30))=true:=by rfl) (jg:(apos.endLine==cC.line)=true:=by rfl)(hs:starEach [e] X.env=(false,eval e X.env)::starEach [] X.env:=by rfl)(kZ:(backTo cC (starEach [] X.env)).any (·.1)=false:=by rfl): PE X (.Call (.Attribute o "count" apos) [e] [] cC) (rY K "list" (fun x vs H Q=>JY K x vs H Q) to t):=by subst h;exact vm zH PySem.F.slot_list_count PySem.F.type_list_count (a3D X.K rfl) ho ha ji lg jg hs kZ
theorem a1a(K:aa)(h:X.K=K){o e:Expr}{to:TE}{t:TA}{apos cC:Pos}(ho:PE X o to)(ha:PA X [e] t) (ji:attributeBase o "index" X.env (eval o X.env)=eval o X.env:=by rfl) (lg:((backTo cC (starEach [e] X.env)).all (fun x=>!x.1)&&(backToKw cC (keywordEach [] X.env)).all (fun x=>x.1.isSome) &&decide ([e].length+([]:List Keyword).length+(if([]:List Keyword).isEmpty then 0 else 1)<30))=true:=by rfl) (jg:(apos.endLine==cC.line)=true:=by rfl)(hs:starEach [e] X.env=(false,eval e X.env)::starEach [] X.env:=by rfl)(kZ:(backTo cC (starEach [] X.env)).any (·.1)=false:=by rfl): PE X (.Call (.Attribute o "index" apos) [e] [] cC) (rY K "list" (fun x vs H Q=>JX K x vs H Q) to t):=by subst h;exact vm zH PySem.F.slot_list_index PySem.F.type_list_index (a3B X.K rfl) ho ha ji lg jg hs kZ
end
end L2
namespace L2
open PySem PySem.Spec PyProof.Rows PySem.W
abbrev ux:=List Env->ae->Sp
structure Wm(P:ah)(w:World)(K:Frag)(mg:Str->Option Value)(base:Heap)(CX:kl)(k:Nat)(f:Addr)(fd:FuncData)(ps:List Str)(sp:ux):Prop where
 len:∀outer s vs H Q E,sp outer s vs H Q E->vs.length=ps.length
 run:∀(A:aj)(outer:List Env)(s:ae)(H:Hp)(args:Args)(us:List Value)(vs:List V)(Q:VK)(E:XK),cJ k A->o8 P w K mg base A outer s H->BindsTo s fd args (ps.zip us)->Vals vs us->sp outer s vs H Q E->codeAny (model P w) A (.call (.ref f) args) (CR CX outer P w H s Q E) s
theorem a8g{CX:kl}{P:ah}{w:World}{K:Frag}{mg:Str->Option Value}{base:Heap}{k:Nat}{f:Addr}{name qual:Str}{params:Arguments}{body:List Stmt}{scope:Scope}{dV kV doc pm aL ct oc:Value}{an od:Option Addr}{gf:Array (Option Value)}{N ps:List Str}{sp:ux} (lk:K.lookup f=some ⟨oc,od,.func (fnOf name qual params body scope dV kV doc pm an aL ct),gf⟩)(gR:codeIn K aL qual=true)(S:bp N ps scope)(len:∀outer s vs H Q E,sp outer s vs H Q E->vs.length=ps.length) (iJ:∀(A:aj)(outer:List Env)(s:ae)(H:Hp)(vs:List V)(Q:VK)(E:XK),cJ k (A.deeper (envOfC qual scope s.heap.objs.size f aL))->sp outer s vs H Q E->∃t,zp (j4 CX P w K mg base N qual scope f aL A outer s H E) body t/\t {nx:=fun _ H'=>Q .bo H',rt:=Q} (start N vs) H): Wm P w K mg base CX (k+1) f (fnOf name qual params body scope dV kV doc pm an aL ct) ps sp:=by refine⟨len,fun A outer s H args us vs Q E hr e0 hb r je=>?_⟩;have hl:=len _ _ _ _ _ _ je;have KX:K.In s.heap:=e0.mod.oQ.keeps fun b o e=>(e0.bs b o e).1;have lim:s.heap.NoLimit:=e0.mod.nolimit.keeps fun b o e=>(e0.bs b o e).1;refine codeAny_call_function hr.depth (KX _ _ lk) rfl S.co S.gen rfl (codeRec_of KX gR) (hb _ _ _ _ (wpAny_newFunctionEnv_cells S.kind (fun⟨n,v⟩ hy=>(S.par n (zI hy).1).imp id fun q=>⟨q,cellsFrom_some _ _ _ (.inl q)⟩) fun env he s1 x=>?_));subst he;obtain⟨t,ht,hq⟩:=iJ A outer s H vs Q E (hr.deeper _) je;have I:Inv (j4 CX P w K mg base N qual scope f aL A outer s H E) [] (start N vs) H s1:=Qk S hr.hd e0 hl r x;refine⟨lim.keeps x.toInCall.keep,codeAny_func (jH (ht s1 (start N vs) H _ I hq) (fun fl s' hs=>?_) fun e s' hs=>hs)⟩;have fin:∀{σ':St}{H':Hp}{v:V}{u:Value},Inv (j4 CX P w K mg base N qual scope f aL A outer s H E) [] σ' H' s'->RelV v u->Q v H'->CE outer P w H s Q u s':=fun{σ' H' v u} J rv q=>⟨v,H',J.os,J.bare,J.base,J.aX,rv,q⟩;cases fl with |ret u=>obtain⟨v,σ',H',J,rv,q⟩:=hs;exact fin J rv q |next=>obtain⟨σ',H',J,q⟩:=hs;exact fin (v:=V.bo) (u:=Value.none) J rfl q |brk=>obtain⟨_,_,_,q⟩:=hs;exact False.elim q |cont=>obtain⟨_,_,_,q⟩:=hs;exact False.elim q
def zw(P:ah)(w:World)(K:Frag)(mg:Str->Option Value)(base:Heap)(x:Str)(k:Nat)(sp:ux):Prop:=∃f fd ps,Wm P w K mg base jk k f fd ps sp/\mg x=some (.ref f)/\keepIn K (.ref f)=true/\Binds K fd ps []
def jG(c:Addr)(q:Str)(h:Heap):Prop:=h.CodeRec (.ref c) q
theorem aaz{P:ah}{w:World}{H:Hp}{h:Heap}{c:Addr}{q:Str}(e:h.CodeRec (.ref c) q):fK P w H h c (.ext (jG c q)):=by obtain⟨c',o,vs,t,e1,e2,e3,e4⟩:=id e;cases e1;refine⟨e,⟨o,e2⟩,fun h1 h2 y k=>?_⟩;obtain⟨c2,o2,X4,t2,y1,y2,y3,y4⟩:=y;cases y1;exact⟨c,o2,X4,t2,rfl,k _ y2,y3,y4⟩
structure abA(H:Hp)(q:Str)(ps:Array Value):Prop where
 tr:TriplesOk ps.toList
 at':∀pos v,codeAmong pos ps.toList=some v->∃c,v= .ref c/\H c=some (.ext (jG c q))
def TabAt(H:Hp)(T:Addr)(q:Str):Prop:=∃ps,H T=some (.fi ps)/\abA H q ps
theorem TabAt.first{H:Hp}{T:Addr}{q:Str}(h:H T=some (.fi #[])):TabAt H T q:=⟨#[],h,trivial,fun pos v e=>by rw[K3]at e;cases e⟩
theorem TabAt.keep{H H':Hp}{T:Addr}{q:Str}(h:TabAt H T q)(e1:∀ps,H T=some (.fi ps)->H' T=some (.fi ps))(e2:∀b φ,H b=some (.ext φ)->H' b=some (.ext φ)):TabAt H' T q:=by obtain⟨ps,e,tr,ha⟩:=h;refine⟨ps,e1 _ e,tr,fun pos v ev=>?_⟩;obtain⟨c,rfl,hc⟩:=ha pos v ev;exact⟨c,rfl,e2 _ _ hc⟩
theorem Tf{p:Pos}{a b:Int}{c v:Value}(l:List Value)(ht:TriplesOk l)(h:codeAmong p (l++[rawInt a,rawInt b,c])=some v):codeAmong p l=some v\/v=c:=by
 rw[TriplesOk.eq_def]at ht;split at ht
 · rw[K3]at h
   simp only[List.nil_append]at h;split at h
   · rename_i e
     cases e;split at h
     ·cases h;exact .inr rfl
     ·rw[K3]at h;cases h
   ·cases h
 · rename_i i t j u x r
   rw[K3]at h⊢;simp only[List.cons_append]at h;dsimp only at h⊢;split at h
   ·exact .inl (by rw[bc (by assumption)];exact h)
   · rename_i hn
     rw[bf hn];exact Tf r ht h
 ·exact ht.elim
termination_by l.length
def wU(h:Heap)(H:Hp)(fs:List Addr)(f:Addr)(pr:Arguments)(b:Expr)(sc:Scope)(q:Str)(c:Addr)(cl:List (Str×Addr)):Prop:=∃pm ct,h.get? f=some (kla_obj "<lambda>" q pr b sc cl pm c ct)/\H f=none/\f∉fs
structure rF(h:Heap)(H:Hp)(fs:List Addr)(cl:List (Str×Addr))(N:List Str)(vs:List V):Prop where
 cell:∀x c,cl.lookup x=some c->∃u,h.IsCell c u
 free:∀x c,cl.lookup x=some c->H c=none
 nf:∀x c,cl.lookup x=some c->c∉fs
 inj:∀x y c,cl.lookup x=some c->cl.lookup y=some c->x=y
 val:∀(i:Nat) x v,N[i]? =some x->vs[i]? =some v->∃c u,cl.lookup x=some c/\h.IsCell c (some u)/\RelV v u
structure uz(N:List Str)(sc:Scope):Prop where
 kind:sc.kind= .function
 co:sc.isCoroutine=false
 gen:sc.isGenerator=false
 Pa:∀y∈sc.names,y.2≠ .cell
 fr:∀x∈N,sc.names.lookup x=some .free
 only:∀x,sc.names.lookup x=some .free->x∈N
def qC(CX:kl)(P:ah)(w:World)(K:Frag)(mg:Str->Option Value)(base:Heap)(N:List Str)(qual:Str)(scope:Scope)(f:Addr)(cd:Value)(cl:List (Str×Addr))(A:aj)(outer:List Env)(s:ae)(H:Hp)(E:XK):Cx where
 prog:=P
 w:=w
 K:=K
 mg:=mg
 base:=base
 A:=A.deeper (envX qual scope s.heap.objs.size f cd cl)
 N:=N
 s₀:=s
 H₀:=H
 env:=envX qual scope s.heap.objs.size f cd cl
 outer:=outer
 stack:=envX qual scope s.heap.objs.size f cd cl::outer
 ex:=[]
 calm:=true
 fn:=fun _=>false
 pn:=[]
 xe:=fun e s'=>wpAny (model P w) (A.deeper (envX qual scope s.heap.objs.size f cd cl)) (leaving (envX qual scope s.heap.objs.size f cd cl) e) (fun _ sJ=>CX outer H s E e sJ) (fun e' sJ=>CX outer H s E e' sJ) s'
theorem a56{CX:kl}{P:ah}{w:World}{K:Frag}{mg:Str->Option Value}{base:Heap}{N:List Str}{qual:Str}{scope:Scope}{f:Addr}{cd:Value}{cl:List (Str×Addr)}{A:aj}{outer:List Env}{s:ae}{H:Hp}{E:XK}{vs:List V}{h':Heap}{tk:Nat}{m:Str->Option Value}{fs:List Addr} (S:uz N scope)(hd:A.handled=none)(e0:o8 P w K mg base A outer s H)(hl:vs.length=N.length)(C:rF s.heap H fs cl N vs)(we:h'.Ns s.heap.objs.size m)(hk:∀b u,s.heap.get? b=some u->h'.get? b=some u): Inv (qC CX P w K mg base N qual scope f cd cl A outer s H E) [] (vs.map some) H ⟨h',s.gens,s.drawn,tk,s.os⟩:=by
  have tj:∀b:Addr,b∉([]:List Addr):=fun b=>by simp
  have Qi:∀{c:Addr}{v:Option Value},s.heap.IsCell c v->h'.IsCell c v:=fun⟨o,e,d⟩=>⟨o,hk _ _ e,d⟩;refine⟨⟨e0.mod,S.kind,rfl,rfl,bK _,C.inj,fun y hy=>?_,fun y c z=>(nomatch z),fun _=>hd,Around.frames_deeper e0.frames,.inr ⟨rfl,rfl⟩,fun b z=>absurd z (tj b),e0.bs,e0.m5,fun b _ _=>tj b,fun b z=>absurd z (tj b),e0.jC,e0.ny⟩,rfl,e0.bare,Un.kept hk,⟨_,we,fun i y v h1 h2 h3=>?_⟩,fun y c h=>?_,e0.aX.fresh (bK _),C.free,fun p hp=>absurd hp (by simp[qC]),e0.aX.kept hk,by rw[cu];exact hl⟩
  · have hy:scope.names.lookup y=some .cell\/scope.names.lookup y=some .free:=hy
    rcases hy with hy|hy
    ·exact absurd rfl (S.Pa _ (uG hy))
    · obtain⟨i,hi⟩:=pQ.mp (S.only y hy)
      obtain⟨v,hv⟩:∃v,vs[i]? =some v:=⟨_,cj (by rw[hl];exact(dM.mp hi).1)⟩;obtain⟨c,u,e,_⟩:=C.val i y v hi hv;exact⟨c,e⟩
  · rw[cA]at h2
    cases e:vs[i]? with |none=>rw[e]at h2;cases h2 |some v'=>rw[e]at h2;cases h2;obtain⟨c,u,e1,e2,r⟩:=C.val i y v h1 e;exact⟨u,r,.inr ⟨.inr (S.fr y (gG h1)),c,e1,Qi e2⟩⟩
  · obtain⟨u,e⟩:=C.cell y c h
    exact⟨u,Qi e⟩
theorem a4A{CX:kl}{P:ah}{w:World}{K:Frag}{mg:Str->Option Value}{base:Heap}{k:Nat}{f c:Addr}{qual:Str}{pr:Arguments}{b:Expr}{sc:Scope}{cl:List (Str×Addr)}{N:List Str}{A:aj}{outer:List Env}{s:ae}{H:Hp}{E:XK}{vs:List V}{Q:VK}{t:TE}{fs fs':List Addr} (S:uz N sc)(hb:∀pm cd ct,bindArgs (kla_fn "<lambda>" qual pr b sc cl pm cd ct) ⟨[],[]⟩=pure [])(hr:cJ (k+1) A)(e0:o8 P w K mg base A outer s H)(L:wU s.heap H fs f pr b sc qual c cl)(hc:H c=some (.ext (jG c qual)))(hl:vs.length=N.length)(C:rF s.heap H fs' cl N vs) (ht:PE (qC CX P w K mg base N qual sc f (.ref c) cl A outer s H E) b t)(hq:t (vs.map some) H Q):codeAny (model P w) A (.call (.ref f) ⟨[],[]⟩) (CR CX outer P w H s Q E) s:=by
  obtain⟨pm,ct,ho,hf,hn⟩:=L;have lim:s.heap.NoLimit:=e0.mod.nolimit.keeps fun b o e=>(e0.bs b o e).1;have cr:s.heap.CodeRec (.ref c) qual:=(e0.aX c _ hc).1;refine kla_callFunE hr.depth ho rfl S.co S.gen rfl cr ?_;rw[hb];refine cn (Wq (fun x hx=>S.Pa x hx) (fun x hx=>nomatch hx) (fun h' we HL=>?_) S.kind);have hk:∀b u,s.heap.get? b=some u->h'.get? b=some u:=fun b u e=>by
   have dG:b≠s.heap.objs.size:=fun z=>by have:=cB e;rw[z]at this;exact pO _ this
   rw[HL.2 b dG];exact cy _ e
  refine⟨lim.keeps hk,kla_codeExpr ?_⟩;have I:Inv (qC CX P w K mg base N qual sc f (.ref c) cl A outer s H E) [] (vs.map some) H ⟨h',s.gens,s.drawn,s.toks+([]:List (Str×Value)).length,s.os⟩:=a56 S hr.hd e0 hl C we hk;refine jH (ht [] _ (vs.map some) H _ I hq) (fun u s' ⟨v,H',J,rv,q⟩=>?_) fun e s' h=>h;exact⟨v,H',J.os,J.bare,J.base,J.aX,rv,q⟩
section
variable {P:ah}{w:World}{K:Frag}{mg:Str->Option Value}{base:Heap}{N:List Str}{qual:Str}{scope:Scope}{f:Addr}{cd:Value}{cl:List (Str×Addr)}{A:aj}{outer:List Env}{s:ae}{H:Hp}{E E0:XK}
theorem a1f(he:∀cls dx H',E cls dx H'->E0 cls dx H'):Passes (kj P w) (qC (kj P w) P w K mg base N qual scope f cd cl A outer s H E0) E:=by
 intro au Z H1 s1 e s2 I hx;obtain⟨ex,cls,dx,H',B,rfl,ho,hg,ph,F,q⟩:=hx;have ph:kF B (envX qual scope s.heap.objs.size f cd cl::outer) ex cls dx .none s2.heap:=ph;show wpAny (model P w) (A.deeper (envX qual scope s.heap.objs.size f cd cl)) (leaving (envX qual scope s.heap.objs.size f cd cl) (.ref ex)) _ _ _;refine a4u (L:=s.heap.objs.size) I.ok.frames rfl ph fun h' x1 x2=>?_;have F2:=F.step ph.1 x1.1 x2 ph.2.2.1;have sub:∀b,b∈dj outer->b∈dj (envX qual scope s.heap.objs.size f cd cl::outer):=fun b hb=>by obtain⟨env,h1,h2⟩:=o9.mp hb;exact o9.mpr ⟨env,.tail _ h1,h2⟩
 have qv:∀b o,s.heap.get? b=some o->b∉dj outer->b∉dj (envX qual scope s.heap.objs.size f cd cl::outer):=fun b o e hb hm=>by
  obtain⟨env,h1,h2⟩:=o9.mp hm;rcases bN.mp h1 with z|h1
  · subst z
    have e1:s.heap.objs.size=b:=dP h2;have e2:=cB e;rw[<-e1]at e2;exact absurd e2 (pO _)
  ·exact hb (o9.mpr ⟨env,h1,h2⟩)
 have nx:∀b:Addr,b∉([]:List Addr):=fun _=>cI;refine⟨ex,cls,dx,H',B,rfl,ho.trans I.os,hg,x1,⟨⟨fun b o e n hb _=>?_,fun b o e n hb _=>?_,fun b o e n _=>?_,fun b o e _=>?_,fun b xs e=>F2.un.ku b xs (I.base.ku b xs e),fun b o u e=>F2.un.jW b o u (I.base.jW b o u e),fun b ps e=>?_⟩,F2.aX,fun b o e n hb=>?_,F2.k2,fun b o e hb=>?_,fun b hb=>F2.fr b (sub b hb),?_,F2.ne⟩,he _ _ _ q⟩
 ·exact F2.un.keep b o (I.base.keep b o e n hb (nx b)) (I.base.free b o e n (nx b)) (qv b o e hb) (nx b)
 · obtain⟨sl,e1⟩:=I.base.slot b o e n hb (nx b)
   obtain⟨DZ,e2⟩:=F2.un.slot b _ e1 (I.base.free b o e n (nx b)) (sub b hb) (nx b);exact⟨DZ,e2⟩
 · obtain⟨sl,e1⟩:=I.base.any e n (nx b)
   exact F2.un.free b _ e1 (I.base.free b o e n (nx b)) (nx b)
 · obtain⟨o1,e1⟩:=I.base.there b o e (nx b)
   exact F2.un.there b o1 e1 (nx b)
 · obtain⟨m1,e1⟩:=I.base.jN b ps e
   obtain⟨m2,e2⟩:=F2.un.jN b _ e1;exact⟨m1++m2,by rw[<-Array.append_assoc];exact e2⟩
 ·exact F2.k1 b o (I.base.keep b o e n hb (nx b)) (I.base.free b o e n (nx b)) (qv b o e hb)
 · obtain⟨o1,e1⟩:=I.base.there b o e (nx b)
   exact F2.k3 b o1 e1 (qv b o e hb)
 ·cases e:s.heap.get? ex with |none=>rfl |some o=>obtain⟨o1,e1⟩:=I.base.there ex o e (nx ex);rw[F2.nw]at e1;cases e1
end
section
variable {X:Cx}{x:Str}{p pos:Pos}{E:XK}
inductive We(X:Cx)(i:Nat)(E:XK)(Z:St)(H:Hp)(Q:VK):Prop |mk (f c:Addr)(cl:List (Str×Addr))(pr:Arguments)(b:Expr)(sc:Scope)(q:Str)(N:List Str)(vs:List V)(t:XK->TE)(k:Nat)(h0:Z[i]? =some (some (.ref f)))(h1:H=X.H₀)(h2:wU X.s₀.heap X.H₀ X.fs f pr b sc q c cl)(h3:H c=some (.ext (jG c q)))(h4:rF X.s₀.heap X.H₀ X.fs cl N vs)(h5:vs.length=N.length)(h6:uz N sc)(h7:∀pm cd ct,bindArgs (kla_fn "<lambda>" q pr b sc cl pm cd ct) ⟨[],[]⟩=pure [])(h8:cJ (k+1) X.A) (h9:∀(A:aj)(outer:List Env)(s:ae)(H:Hp)(E:XK),cJ k (A.deeper (envX q sc s.heap.objs.size f (.ref c) cl))->PE (qC (kj X.prog X.w) X.prog X.w X.K X.mg X.base N q sc f (.ref c) cl A outer s H E) b (t E))(yQ:t E (vs.map some) H Q):We X i E Z H Q
theorem a0U{xe:Value->ae->Prop}(i:Nat)(hp:Passes (kj X.prog X.w) (X.j8 xe) E)(hex:X.ex=[]:=by rfl)(hN:X.N[i]? =some x:=by rfl)(hv:Cy X.env.scope x:=by first|exact Or.inl rfl|exact Or.inr (Or.inl rfl)|exact Or.inr (Or.inr rfl))(hd:(x==("__debug__":Str))=false:=by decide) (gR:(x==("__classdict__":Str))=false:=by decide):PE (X.j8 xe) (.Call (.Name x p) [] [] pos) (fun Z H Q=>We X i E Z H Q):=by
  intro au s Z H Q I h;obtain⟨f,c,cl,pr,b,sc,q,N,vs,t,k,h0,h1,⟨pm,ct,L1,L2,L3⟩,h3,C,h5,h6,h7,h8,h9,yQ⟩:=h;have nx:∀b:Addr,b∉X.ex:=fun b=>by rw[hex];exact cI
  refine zE (aY (Oy (X:=X.j8 xe) (pos:=p) hN hv hd gR au s Z H (fun v H'=>v= .ref f/\H'=H) I ⟨_,h0,rfl,rfl⟩) fun u s1 ⟨v,H1,I1,rv,e1,e2⟩=>?_);subst e1 e2;cases(show u=Value.ref f from rv);have hf:=I1.base.keep f _ L1 L2 L3 (nx f);have kc:∀{x c u},cl.lookup x=some c->X.s₀.heap.IsCell c u->s1.heap.IsCell c u:=fun{x c u} e ⟨o,e1,e2⟩=>⟨o,I1.base.keep c o e1 (C.free x c e) (C.nf x c e) (nx c),e2⟩;have C2:rF s1.heap H1 X.fs cl N vs:=⟨fun x c e=>(C.cell x c e).imp fun u z=>kc e z,fun x c e=>by rw[h1];exact C.free x c e,C.nf,C.inj,fun i x v a b=>by obtain⟨c,u,e,z,r⟩:=C.val i x v a b;exact⟨c,u,e,kc e z,r⟩⟩;refine callWith_F0 ⟨_,_,_,_,hf⟩ (zD (zF (a4A (k:=k) (fs:=X.fs) (fs':=X.fs) h6 h7 h8 I1.C8 ⟨pm,ct,hf,by rw[h1];exact L2,L3⟩ h3 h5 C2 (h9 _ _ _ _ E (h8.deeper _)) yQ) fun r s' hq=>?_));cases r with |error e=>exact hp au Z H1 s1 e s' I1 hq |ok fl=>cases fl with |ret u=>exact I1.after hq |next=>exact False.elim hq |brk=>exact False.elim hq |cont=>exact False.elim hq
end
def nP(cells:List (Str×Addr)):List (Str×NameKind)->List (Str×Addr)->List (Str×Addr) |[],cs=>cs |(n,k)::r,cs=>nP cells r (if k== .free then(n,(cells.lookup n).getD 0)::cs else cs)
theorem SV{env:Env}:∀(l:List (Str×NameKind))(cs:List (Str×Addr)),(∀y∈l,y.2= .free->∃c,env.cells.lookup y.1=some c)->(forIn l cs (fun(x:Str×NameKind)(cs:List (Str×Addr))=>match x with |(name,kind)=>if(kind==NameKind.free)=true then(do let c<-cellOf env name;pure (ForInStep.yield ((name,c)::cs)))else pure (ForInStep.yield cs)):Sem (List (Str×Addr)))=pure (nP env.cells l cs)
  |[],cs,_=>rfl |(n,k)::r,cs,h=>by
    rw[De];have ih:=fun cs=>SV r cs fun y hy=>h y (.tail _ hy);unfold nP;by_cases hk:(k==NameKind.free)=true
    · obtain⟨c,e⟩:=h (n,k) (.head _) (by cases k<;>first|rfl|cases hk)
      simp only[hk,uF];unfold cellOf;rw[e];exact ih _
    · simp only[hk]
      exact ih _
theorem SY{cells:List (Str×Addr)}{x:Str}{c:Addr}:∀(l:List (Str×NameKind))(cs:List (Str×Addr)),(∀y∈l,y.2= .free->∃c,cells.lookup y.1=some c)->(nP cells l cs).lookup x=some c->cs.lookup x=some c\/cells.lookup x=some c
  |[],cs,_,h=>.inl h |(n,k)::r,cs,ha,h=>by
    unfold nP at h;rcases SY r _ (fun y hy=>ha y (.tail _ hy)) h with z|z
    · by_cases hk:(k==NameKind.free)=true
      · rw[bc hk,j7]at z
        split at z
        · rename_i e
          obtain⟨c',e'⟩:=ha (n,k) (.head _) (by cases k<;>first|rfl|cases hk);rw[show cells.lookup n=some c' from e']at z;cases z;rw[fS.mp e];exact .inr e'
        ·exact .inl z
      ·rw[bf hk]at z;exact .inl z
    ·exact .inr z
theorem T4{cells:List (Str×Addr)}{x:Str}:∀(l:List (Str×NameKind))(cs:List (Str×Addr)),(x,NameKind.free)∈l\/(∃c,cs.lookup x=some c)->∃c,(nP cells l cs).lookup x=some c
  |[],cs,h=>by
    rcases h with h|h
    ·cases h
    ·exact h |(n,k)::r,cs,h=>by
    unfold nP;refine T4 r _ ?_;rcases h with h|⟨c,h⟩
    · rcases bN.mp h with e|e
      · cases e
        exact .inr ⟨(cells.lookup x).getD 0,by simp[j7]⟩
      ·exact .inl e
    · refine .inr ?_
      split
      · rw[j7]
        split
        ·exact⟨_,rfl⟩
        ·exact⟨c,h⟩
      ·exact⟨c,h⟩
theorem aaC{env:Env}{sc:Scope}(h:∀y∈sc.names,y.2= .free->∃c,env.cells.lookup y.1=some c):closureFor sc env=pure (nP env.cells sc.names []):=by unfold closureFor;have:=SV sc.names [] h;simp only[this];rfl
theorem aaY{h h':Heap}{mg:Str->Option Value}{T:Addr}(b:h.BuiltinsAt mg T)(k:∀b o,h.get? b=some o->h'.get? b=some o):h'.BuiltinsAt mg T:=by obtain⟨bm,o,b1,b2,b3,b4,b5,b6⟩:=b;exact⟨bm,o,b1,b2,b3,b4,k _ _ b5,b6⟩
section
variable {X:Cx}{au:List (Addr×Obj)}{Z:St}{H:Hp}{s:ae}{pr:Arguments}{bd:Expr}{sc:Scope}{fz:Pos}{cl:List (Str×Addr)}{T c:Addr}{q:Str}
theorem Inv.OY(I:Inv X au Z H s){f:Addr}(h:s.heap.objs.size<=f):f∉dj X.stack:=fun hb=>by
 rcases bN.mp (I.xC f hb)with e|e
 ·rw[e]at h;exact absurd I.lt (Nat.not_lt.mpr h)
 ·exact I.P9 h e
theorem a4B{U8:Value->ae->Prop}(I:Inv X au Z H s)(hc:X.env.code= .ref c)(hd:CodeHd X.base c T)(hB:X.base.BuiltinsAt X.mg T)(lX:closureFor sc X.env=pure cl)(tX:defaultsOf pr X.env=([],[]))(HP:X.env.qual++Str.ofString "<lambda>"=q)(ht:TabAt H T q) (hq:∀f c' H' s',Inv X au Z H' s'->wU s'.heap H' (dj X.stack) f pr bd sc q c' cl->H' c'=some (.ext (jG c' q))->TabAt H' T q->aZ [T] H H'->(∀b,b≠T->H b=none->(∃o,s.heap.get? b=some o)->H' b=none/\∀o,s.heap.get? b=some o->s'.heap.get? b=some o)->U8 (.ref f) s'): wpAny (model X.prog X.w) X.A (eval (.Lambda pr bd sc fz) X.env) U8 X.xe s:=by
  refine kla_eval tX ?_;rw[HP];obtain⟨ps,hT,tr,yM⟩:=ht;have kb:=I.bk;have QJ:=I.ok.mod.glob.keeps kb;have QN:CodeHd s.heap c T:=CodeHd.keeps hd kb;have BO:s.heap.get? T=some (tabObj ps):=I.aX T _ hT;have Rg:=aaY hB kb;have gT:mainGlobals≠T:=fun z=>by obtain⟨o,es,ep,e,_⟩:=I.ok.mod.glob;have:=(I.bs _ _ e).2;rw[z,hT]at this;cases this
  cases ha:codeAmong fz ps.toList with |some v=>obtain⟨c',rfl,iI⟩:=yM fz v ha;refine kla_makeFunctionHit lX I.ok.glob QJ hc QN BO tr ha Rg fun nO h' tk hk hsz=>?_;have ng:∀b o,s.heap.get? b=some o->(h'.push {cls:=Value.type "function",data:=Data.func (kla_fn (Str.ofString "<lambda>") q pr bd sc cl ((X.mg (Str.ofString "__name__")).getD Value.none) (Value.ref c') nO)}).get? b=some o:=fun b o e=>cy _ (hk b o e);refine hq h'.objs.size c' H _ (I.kept ng) ⟨_,nO,eO _ rfl,I.aX.fresh hsz,I.OY hsz⟩ iI ⟨ps,hT,tr,yM⟩ (fun b o e _=>e) fun b _ hb _=>⟨hb,fun o e=>ng b o e⟩ |none=>
    refine kla_makeFunction lX I.ok.glob QJ hc QN BO tr ha gT Rg fun c' nO h' tk hx BJ cx a5F htb=>?_;have fc:H c'=none:=I.aX.fresh BJ;have cT:c'≠T:=fun z=>by rw[z,hT]at fc;cases fc
    have ng:∀b o,b≠T->s.heap.get? b=some o->(h'.push (kla_obj (Str.ofString "<lambda>") q pr bd sc cl ((X.mg (Str.ofString "__name__")).getD Value.none) c' nO)).get? b=some o:=fun b o hb e=>cy _ (hx b o hb e);have SH:(h'.push (kla_obj (Str.ofString "<lambda>") q pr bd sc cl ((X.mg (Str.ofString "__name__")).getD Value.none) c' nO)).CodeRec (.ref c') q:=by obtain⟨c2,o,vs,t,e1,e2,e3⟩:=a5F;exact⟨c2,o,vs,t,e1,cy _ e2,e3⟩
    have Iv:(h'.push (kla_obj (Str.ofString "<lambda>") q pr bd sc cl ((X.mg (Str.ofString "__name__")).getD Value.none) c' nO)).get? T=some (tabObj (ps++#[rawInt ↑fz.line,rawInt ↑fz.col,Value.ref c'])):=cy _ htb;have RG:s.heap.objs.size<=h'.objs.size:=Ki (pN BJ cx);have hf:(h'.push (kla_obj (Str.ofString "<lambda>") q pr bd sc cl ((X.mg (Str.ofString "__name__")).getD Value.none) c' nO)).get? h'.objs.size=some (kla_obj (Str.ofString "<lambda>") q pr bd sc cl ((X.mg (Str.ofString "__name__")).getD Value.none) c' nO):=eO _ rfl;have eU:∀b o,b≠T->H b=some o->upd (upd H T (.fi (ps++#[rawInt ↑fz.line,rawInt ↑fz.col,Value.ref c']))) c' (.ext (jG c' q)) b=some o:=fun b o hb e=>by rw[aK (fW e fc),aK hb];exact e
    have eN:∀b,b≠T->b≠c'->H b=none->upd (upd H T (.fi (ps++#[rawInt ↑fz.line,rawInt ↑fz.col,Value.ref c']))) c' (.ext (jG c' q)) b=none:=fun b hb ml e=>by rw[aK ml,aK hb];exact e
    have eT:upd (upd H T (.fi (ps++#[rawInt ↑fz.line,rawInt ↑fz.col,Value.ref c']))) c' (.ext (jG c' q)) T=some (.fi (ps++#[rawInt ↑fz.line,rawInt ↑fz.col,Value.ref c'])):=by rw[aK cT.symm];exact ba
    have eC:upd (upd H T (.fi (ps++#[rawInt ↑fz.line,rawInt ↑fz.col,Value.ref c']))) c' (.ext (jG c' q)) c'=some (.ext (jG c' q)):=ba;have eX:∀b o,upd (upd H T (.fi (ps++#[rawInt ↑fz.line,rawInt ↑fz.col,Value.ref c']))) c' (.ext (jG c' q)) b=some o->(b=c'/\o= .ext (jG c' q))\/(b=T/\o= .fi (ps++#[rawInt ↑fz.line,rawInt ↑fz.col,Value.ref c']))\/(b≠T/\H b=some o):=fun b o e=>by
     by_cases h1:b=c'
     ·subst h1;rw[ba]at e;cases e;exact .inl ⟨rfl,rfl⟩
     · rw[aK h1]at e
       by_cases h2:b=T
       ·subst h2;rw[ba]at e;cases e;exact .inr (.inl ⟨rfl,rfl⟩)
       ·rw[aK h2]at e;exact .inr (.inr ⟨h2,e⟩)
    generalize upd (upd H T (.fi (ps++#[rawInt ↑fz.line,rawInt ↑fz.col,Value.ref c']))) c' (.ext (jG c' q))=H' at eU eN eT eC eX;generalize hhn:h'.push (kla_obj (Str.ofString "<lambda>") q pr bd sc cl ((X.mg (Str.ofString "__name__")).getD Value.none) c' nO)=hn at ng SH Iv hf⊢;have B8:∀{b o},s.heap.get? b=some o->b≠c':=fun{b o} e z=>by have:=cB e;rw[z]at this;exact absurd this (Nat.not_lt.mpr BJ)
    have nT:∀{b},H b=none->b≠T:=fun{b} e z=>by rw[z,hT]at e;cases e
    have un:Un (dj X.stack) [] H H' s.heap hn:=by
     refine⟨fun b o e n _ _=>ng b o (nT n) e,fun b o e n _ _=>⟨o.slots,ng b o (nT n) e⟩,fun b o e n _=>eN b (nT n) (B8 e) n,fun b o e _=>?_,fun b xs e=>eU b _ (fun z=>by rw[z,hT]at e;cases e) e,fun b o u e=>eU b _ (fun z=>by rw[z,hT]at e;cases e) e,fun b ps' e=>?_⟩
     · by_cases hb:b=T
       ·rw[hb];exact⟨_,Iv⟩
       ·exact⟨o,ng b o hb e⟩
     · by_cases hb:b=T
       · rw[hb,hT]at e
         cases e;rw[hb];exact⟨_,eT⟩
       ·exact⟨#[],by rw[Array.append_empty];exact eU b _ hb e⟩
    have ho:dJ X.prog X.w H' hn:=fun a o e=>by
     rcases eX a o e with⟨rfl,rfl⟩|⟨rfl,rfl⟩|⟨dG,e⟩
     ·exact aaz SH
     ·exact Iv
     · refine(I.aX a o e).m7 (fun b' u hb e'=>ng b' u (fun z=>?_) e') (fun b' e'=>eU b' _ (fun z=>by rw[z,hT]at e';cases e') e') fun b' xs e'=>eU b' _ (fun z=>by rw[z,hT]at e';cases e') e'
       rcases hb with z2|z2
       ·exact dG (z2▸z)
       ·rw[z,hT]at z2;cases z2
    have I':Inv X au Z H' ⟨hn,s.gens,s.drawn,tk,s.os⟩:=I.call (ch:=[]) un ho I.bare fun b hb=>(cI hb).elim;refine hq h'.objs.size c' H' _ I' ⟨_,nO,hf,?_,I.OY RG⟩ eC ⟨_,eT,?_,fun p v e=>?_⟩ (fun b o e hb=>eU b o (fun z=>hb (by rw[z];exact .head _)) e) fun b hb hn0 he=>?_
    · have qH:H h'.objs.size=none:=I.aX.fresh RG
      exact eN _ (nT qH) (fun z=>absurd cx (by rw[<-z];exact pO _)) qH
    ·rw[Dh];exact TriplesOk_snoc _ _ _ _ tr
    · rw[Dh]at e
      rcases Tf _ tr e with z|z
      · obtain⟨c2,r1,r2⟩:=yM p v z
        exact⟨c2,r1,eU c2 _ (fun z=>by rw[z,hT]at r2;cases r2) r2⟩
      ·exact⟨c',z,eC⟩
    · obtain⟨o,e⟩:=he
      exact⟨eN b hb (B8 e) hn0,fun o e=>ng b o hb e⟩
end
def pD(K:Frag)(cd:Value)(T:Addr):Bool:=match cd with
 | .ref c=>match K.lookup c with |some ⟨.type n,_,.fields vs,_⟩=>n=="code"&&(match(vs[11]? :Option Value),(vs.getD 11 .none:Value),(vs.getD 18 .none:Value),(vs.getD 7 .none:Value),(vs.getD 9 .none:Value),(vs.getD 10 .none:Value)with |some (.ref P),.ref P2,.str _ _,.int _ _,.bool _,.int _ _=>P==T&&P2==T&&c !=T |_,_,_,_,_,_=>false) |_=>false
 |_=>false
theorem SU{K:Frag}{cd:Value}{T:Addr}{h:Heap}(e:pD K cd T=true)(X:K.In h):∃c,cd= .ref c/\CodeHd h c T:=by
 unfold pD at e;split at e
 · rename_i c
   split at e
   · rename_i n d vs sl hl
     rw[fh]at e;obtain⟨e1,e2⟩:=e;split at e2
     · rename_i P P2 f tf fl tg b t tt h1 h2 h3 h4 h5 h6
       simp only[fh,fS,bne_iff_ne]at e1 e2;obtain⟨⟨e3,e4⟩,e5⟩:=e2;subst e1 e3;rw[e4]at h2;exact⟨c,rfl,_,vs,f,tf,fl,tg,b,t,tt,X _ _ hl,rfl,rfl,h1,h2,h3,h4,h5,h6,e5⟩
     ·cases e2
   ·cases e
 ·cases e
section
variable {X:Cx}{k:Nat}{x:Str}{p pos fz:Pos}{pr:Arguments}{bd:Expr}{sc:Scope}{sp:ux}{T c:Addr}{q:Str}{N:List Str}
inductive Wb(X:Cx)(T:Addr)(q:Str)(pr:Arguments)(bd:Expr)(sc:Scope)(N:List Str)(js:List Nat)(sp:ux)(Z:St)(H:Hp)(Q:VK):Prop |mk (vs:List V)(h0:TabAt H T q)(h1:vs.length=N.length)(h2:∀(i j:Nat) v,js[i]? =some j->vs[i]? =some v->Z[j]? =some (some v)) (h3:∀f c cl H' s',wU s'.heap H' (dj X.stack) f pr bd sc q c cl->H' c=some (.ext (jG c q))->rF s'.heap H' (dj X.stack) cl N vs->TabAt H' T q->aZ [T] H H'->sp X.stack s' [.ref f] H' Q E0):Wb X T q pr bd sc N js sp Z H Q
structure Ud(X:Cx)(N:List Str)(js:List Nat)(sc:Scope):Prop where
 S:uz N sc
 cell:∀y∈sc.names,y.2= .free->X.env.kindOf y.1=some .cell
 ix:∀(i:Nat) y,N[i]? =some y->∃j,js[i]? =some j/\X.N[j]? =some y
theorem a0P{js:List Nat}(LI:Ud X N js sc)(F:zw X.prog X.w X.K X.mg X.base x k sp)(hr:cJ k X.A)(hg:Gl X x)(qH:∀y,X.fn y=true)(hct:pD X.K X.env.code T=true)(hB:X.base.BuiltinsAt X.mg T)(HP:X.env.qual++Str.ofString "<lambda>"=q)(tX:defaultsOf pr X.env=([],[])) (jh:(x==("__debug__":Str))=false:=by decide): PE X (.Call (.Name x p) [.Lambda pr bd sc fz] [] pos) (fun Z H Q=>Wb X T q pr bd sc N js sp Z H Q):=by
  intro au s Z H Q I h;obtain⟨f0,fd,ps,F,hm,hk,hb⟩:=F;obtain⟨vs,h0,h1,h2,h3⟩:=h;obtain⟨S,mj,hj⟩:=LI;obtain⟨c,hc,hd⟩:=SU hct I.ok.mod.oQ;have QU:∀y∈sc.names,y.2= .free->∃c,X.env.cells.lookup y.1=some c:=fun y hy e=>I.ok.has y.1 (.inl (mj y hy e));refine zE (vR I hg hm ?_ jh);refine callWith_K (h₀:=X.base) I.ok.mod.oQ hk ?_ rfl rfl;show wpAny _ _ (spliced ((false,eval (.Lambda pr bd sc fz) X.env)::backTo pos (starEach [] X.env))) _ _ s;refine Calls.spliced_cons (a4B I hc hd hB (aaC QU) tX HP h0 fun f c' H' s' I' L iI tb bt _=>?_);refine Calls.spliced_nil ⟨I'.gD,?_⟩;have sub:∀{y c},(nP X.env.cells sc.names []).lookup y=some c->X.env.cells.lookup y=some c:=fun{y c} e=>by
   rcases SY sc.names [] QU e with z|z
   ·cases z
   ·exact z
  have C:rF s'.heap H' (dj X.stack) (nP X.env.cells sc.names []) N vs:=by
   refine⟨fun y c e=>I'.cell y c (sub e),fun y c e=>I'.jX y c (sub e),fun y c e hf=>?_,fun y z c e1 e2=>I'.ok.inj y z c (sub e1) (sub e2),fun i y v e1 e2=>?_⟩
   · rcases bN.mp (I'.xC c hf)with z|z
     ·exact I'.ka y c (sub e) z
     · obtain⟨_,o,ho,_⟩:=I'.ok.jC.mem z
       exact absurd (cB ho) (Nat.not_lt.mpr (I'.ok.qV y c (qH y) (sub e)))
   · obtain⟨j,ej,eN⟩:=hj i y e1
     have mem:=uG (S.fr y (gG e1));have kd:X.env.kindOf y=some .cell:=mj _ mem rfl;obtain⟨m,_,a66⟩:=I'.loc;obtain⟨u,ru,lk⟩:=a66 j y v eN (h2 i j v ej e2) (.inr (.inl kd));obtain⟨c1,e3⟩:=T4 (cells:=X.env.cells) sc.names [] (.inl mem);rcases lk with⟨z,_⟩|⟨_,c2,e4,ic⟩
     ·rw[kd]at z;cases z
     · have:=sub e3
       rw[e4]at this;cases this;exact⟨_,u,e3,ic,ru⟩
  have hs:=h3 f c' _ H' s' L iI C tb bt;have hl:([Value.ref f]++([]:List Value)).length=ps.length:=by rw[<-F.len _ _ _ _ _ _ hs];rfl
  have bt2:=hb s' [.ref f] I'.gD hl;refine zD (zF (F.run X.A X.stack s' H' ⟨[.ref f],[]⟩ [.ref f] [.ref f] Q E0 hr I'.C8 bt2 (.cons rfl .nil) hs) fun r s2 hq=>?_);cases r with |error e=>exact False.elim hq |ok fl=>cases fl with |ret u=>exact I'.after hq |next=>exact False.elim hq |brk=>exact False.elim hq |cont=>exact False.elim hq
end
structure zx(K:Frag)(mg:Str->Option Value)(x:Str)(st:Stmt)(T:Addr):Prop where ex:∃f fd,mg x=some (.ref f)/\kh K x x st f fd/\pD K fd.code T=true
section
variable {P:ah}{w:World}{K:Frag}{mg:Str->Option Value}{base:Heap}
theorem a8q{h:Heap}{x:Str}{st:Stmt}{f T:Addr}{oc:Value}{od an:Option Addr}{gf:Array (Option Value)}{kV doc pm aL ct:Value}(X:K.In h)(G:h.Ns mainGlobals mg)(a:nsIn K mainGlobals x=some (some (.ref f))) (l:K.lookup f=some ⟨oc,od,.func (fnOf x x (jZ st) (gF st) (aV st) .none kV doc pm an aL ct),gf⟩)(c:codeIn K aL x=true)(k:keepIn K (.ref f)=true)(t:pD K aL T=true):zx K mg x st T:=⟨f,_,mg_of X G a,BZ l c k,t⟩
theorem zx.has{x:Str}{st:Stmt}{N ps:List Str}{k:Nat}{sp:Sp}{T:Addr}(F:zx K mg x st T)(S:bp N ps (aV st))(len:∀vs H Q E,sp vs H Q E->vs.length=ps.length) (hb:∀(kV doc pm:Value)(an:Option Addr)(aL ct:Value)(us:List Value),us.length=ps.length->bindArgs (fnOf x x (jZ st) (gF st) (aV st) .none kV doc pm an aL ct) ⟨us,[]⟩=pure (ps.zip us)) (iJ:∀(f:Addr)(aL:Value)(A:aj)(outer:List Env)(s:ae)(H:Hp)(vs:List V)(Q:VK)(E:XK),pD K aL T=true->cJ k (A.deeper (envOfC x (aV st) s.heap.objs.size f aL))->sp vs H Q E->∃t,gX (j4 jk P w K mg base N x (aV st) f aL A outer s H E).oN (gF st) t/\t {nx:=fun _ H'=>Q .bo H',rt:=Q} (start N vs) H):aD P w K mg base x (k+1) sp:=by obtain⟨f,fd,hm,F,ct⟩:=F.ex;have p7:=F.binds hb;have kp:=F.kp;obtain⟨oc,od,kV,doc,pm,an,aL,ctt,gf,rfl,lk,gR⟩:=F.ex;exact⟨f,_,ps,IP lk gR S len fun A outer s H vs Q E hr je=>(iJ f aL A outer s H vs Q E ct hr je).imp fun t h=>⟨h.1.oN,h.2⟩,hm,kp,p7⟩
theorem FA.a6M{x:Str}{st:Stmt}{N ps:List Str}{k:Nat}{sp:ux}(F:FA K mg x st)(S:bp N ps (aV st))(len:∀outer s vs H Q E,sp outer s vs H Q E->vs.length=ps.length) (hb:∀(kV doc pm:Value)(an:Option Addr)(aL ct:Value)(us:List Value),us.length=ps.length->bindArgs (fnOf x x (jZ st) (gF st) (aV st) .none kV doc pm an aL ct) ⟨us,[]⟩=pure (ps.zip us)) (iJ:∀(f:Addr)(aL:Value)(A:aj)(outer:List Env)(s:ae)(H:Hp)(vs:List V)(Q:VK)(E:XK),cJ k (A.deeper (envOfC x (aV st) s.heap.objs.size f aL))->sp outer s vs H Q E->∃t,zp (j4 jk P w K mg base N x (aV st) f aL A outer s H E) (gF st) t/\t {nx:=fun _ H'=>Q .bo H',rt:=Q} (start N vs) H):zw P w K mg base x (k+1) sp:=by obtain⟨f,fd,hm,F⟩:=F.ex;have p7:=F.binds hb;have kp:=F.kp;obtain⟨oc,od,kV,doc,pm,an,aL,ctt,gf,rfl,lk,gR⟩:=F.ex;exact⟨f,_,ps,a8g lk gR S len fun A outer s H vs Q E hr je=>iJ f aL A outer s H vs Q E hr je,hm,kp,p7⟩
end
theorem a4z{P:ah}{w:World}{K:Frag}{mg mb:Str->Option Value}{k:Nat}{fa a T:Addr}{fd:FuncData}{x:Str}{sp:Sp}{s₁:ae}{vs:List Value}{ns:List Int}{cd:Value} (KX:K.In s₁.heap)(we:s₁.heap.Ns mainGlobals mg)(p7:s₁.heap.Ns builtinsNs mb)(hbb:∀x:Str,x≠"__name__"->mb x=bootBuiltins x)(a67:s₁.heap.NoLimit)(hg:s₁.gens=#[])(hbm:∃bm ob,mg (Str.ofString "__builtins__")=some (.ref bm)/\bm≠builtinsNs/\s₁.heap.get? bm=some ob/\ob.cls= .type "module"/\ob.dict=some builtinsNs/\ob.data= .plain) (hT:s₁.heap.get? T=some (tabObj #[]))(kT:K.lookup T=none)(cT:pD K cd T=true)(ha:s₁.heap.get? a=some {cls:=.type "list",data:=.seq vs.toArray})(hi:IntsAre vs ns)(hl:ns.length<=sizeLine)(hr:cJ k callerA) (F:∀base:Heap,K.In base->base.BuiltinsAt mg T->j6 P w K mg base jk k fa fd [x] sp)(a6K:∀(s:ae)(u:Value),BindsTo s fd ⟨[u],[]⟩ [(x,u)]) (je:∀H:Hp,H T=some (.fi #[])->aF K H a (ns.map V.int)->sp [.ref a] H (fun v _=>v= .bl true) fun _ _ _=>False): codeAny (model P w) callerA (.call (.ref fa) ⟨[.ref a],[]⟩) (fun r s'=>r= .ok (.ret (.bool true))/\OldK s₁.heap s'.heap/\s'.os=s₁.os/\AllBare s'.gens) s₁:=by
  have rv:=KI hi;have a4s:=hi.length;have aT:a≠T:=fun z=>by rw[z,hT]at ha;cases ha
  have core:∀H:Hp,H T=some (.fi #[])->aF K H a (ns.map V.int)->dJ P w H s₁.heap->(∀b,H b≠none->b=a\/b=T)->(H a=none\/∃ob xs,H a=some (.mr ob (.lst xs)))->(H a≠none->K.lookup a=none)->codeAny (model P w) callerA (.call (.ref fa) ⟨[.ref a],[]⟩) (fun r s'=>r= .ok (.ret (.bool true))/\OldK s₁.heap s'.heap/\s'.os=s₁.os/\AllBare s'.gens) s₁:=by
    intro H BS hS aX hA hF hK;have JB:∀{b:Addr}{o:Obj},s₁.heap.get? b=some o->H b=none->(nj s₁.heap H).get? b=some o:=fun e n=>a6p e n;have Pc:∀{b:Addr}{o:Obj},s₁.heap.get? b=some o->(∀its n,o.data≠ .seq its n)->(∀its,o.data≠ .fields its)->H b=none:=fun{b o} e d1 d2=>by cases q:H b with |none=>rfl |some u=>
       rcases hA b (by rw[q];simp)with z|z
       ·subst z;rw[ha]at e;cases e;exact(d1 _ _ rfl).elim
       ·subst z;rw[hT]at e;cases e;exact(d2 _ rfl).elim
    have GH:∀{b:Addr}{m:Str->Option Value},s₁.heap.Ns b m->(nj s₁.heap H).Ns b m:=fun{b m} ⟨o,es,ep,e,d,r⟩=>⟨o,es,ep,JB e (Pc e (fun _ _ z=>by rw[d]at z;cases z) fun _ z=>by rw[d]at z;cases z),d,r⟩;have Rb:K.In (nj s₁.heap H):=fun b o e=>JB (KX b o e) (by cases q:H b with |none=>rfl |some u=>
       rcases hA b (by rw[q];simp)with z|z
       ·subst z;rw[hK (by rw[q];simp)]at e;cases e
       ·subst z;rw[kT]at e;cases e);have hM:Mod K mg (nj s₁.heap H):=⟨Rb,GH we,⟨mb,GH p7,hbb⟩,let⟨mc,h1,h2⟩:=a67;⟨mc,GH h1,h2⟩⟩;have e0:o8 P w K mg (nj s₁.heap H) callerA [] s₁ H:=⟨rfl,hM,fun b o e=>a34 e,Nat.le_of_eq (a6o _ _),trivial,fun b hb=>absurd (show b∈([]:List Addr)from hb) (by simp),aX,.of_eq hg⟩;have u9:(nj s₁.heap H).BuiltinsAt mg T:=by
     obtain⟨bm,ob,b1,b2,b3,b4,b5,b6⟩:=hbm;refine⟨bm,ob,b1,b2,fun z=>?_,fun z=>?_,JB b3 (Pc b3 (fun _ _ z=>by rw[b6]at z;cases z) fun _ z=>by rw[b6]at z;cases z),b4,b5,b6⟩
     · obtain⟨o,es,ep,e,d,_⟩:=we
       rw[z,e]at b3;cases b3;rw[b6]at d;cases d
     ·rw[z,hT]at b3;cases b3;cases b4
    refine zF ((F _ Rb u9).run callerA [] s₁ H ⟨[.ref a],[]⟩ [.ref a] [.ref a] _ _ hr e0 (a6K s₁ (.ref a)) (.cons rfl .nil) (je H BS hS)) fun r s' h=>?_;cases r with |error e=>exact False.elim h |ok fl=>cases fl with |next=>exact False.elim h |brk=>exact False.elim h |cont=>exact False.elim h |ret u=>
        obtain⟨v,H',os,bare,un,QB,r',q⟩:=h;have q':v= .bl true:=q;subst q';obtain rfl:u=Value.bool true:=r';refine⟨rfl,⟨fun b o e=>?_,fun b o e=>un.there b o e (by simp)⟩,os,bare⟩;by_cases wq:b=T
        · subst wq
          rw[hT]at e;cases e;obtain⟨more,e2⟩:=un.jN b _ BS;have e3:s'.heap.get? b=some {cls:=.none,data:=.fields (#[]++more)}:=QB b _ e2;obtain⟨c,rfl,o,X5,file,tf,flags,tg,inF,text,tt,c1,c2,c3,c4,_⟩:=SU cT KX;exact .inr (.inl ⟨⟨c,o,X5,c1,c2,c3,c4⟩,rfl,#[],more,rfl,e3⟩)
        · refine .inl ?_
          cases q:H b with |none=>exact un.keep b o e q (by intro z;exact absurd (show b∈([]:List Addr)from z) (by simp)) (by simp) |some u=>
            rcases hA b (by rw[q];simp)with z|z
            · subst z
              rcases hF with z|⟨ob,xs,z⟩
              ·rw[q]at z;cases z
              · have z2:=un.jW b ob _ z
                obtain⟨e1,_⟩:=aX b _ z;obtain⟨e2,_⟩:=QB b _ z2;rw[e]at e1;cases e1;exact e2
            ·exact(wq z).elim
  cases hk:K.lookup a with |some o=>
    have e:=KX a o hk;rw[ha]at e;cases e;refine core (fun b=>if b=T then some (.fi #[])else none) (bc rfl) (.inr ⟨_,vs.toArray,_,hk,rfl,rfl,rfl,by rw[ek,a4s];exact hl,by simpa using rv⟩) (fun b u z=>?_) (fun b z=>?_) (.inl (bf aT)) fun z=>absurd (bf aT) z
    · by_cases hb:b=T
      · have z':=(bc hb).symm.trans z
        cases z';subst hb;exact hT
      · have z':=(bf hb).symm.trans z
        cases z'
    · by_cases hb:b=T
      ·exact .inr hb
      ·exact absurd (bf hb) z |none=>
    refine core (fun b=>if b=T then some (.fi #[])else if b=a then some (.mr {cls:=.type "list",data:=.seq vs.toArray} (.lst (ns.map V.int)))else none) (bc rfl) (.inl (.inr ⟨{cls:=.type "list",data:=.seq vs.toArray},(bf aT).trans (bc rfl)⟩)) (fun b u z=>?_) (fun b z=>?_) (.inr ⟨_,_,(bf aT).trans (bc rfl)⟩) fun _=>hk
    · by_cases hb:b=T
      · have z':=(bc hb).symm.trans z
        cases z';subst hb;exact hT
      · have z':=(bf hb).symm.trans z
        by_cases ml:b=a
        · have z2:=(bc ml).symm.trans z'
          cases z2;subst ml;exact⟨ha,by rw[cu];exact hl,vs,_,rv,ha⟩
        · have z2:=(bf ml).symm.trans z'
          cases z2
    · by_cases hb:b=T
      ·exact .inr hb
      · by_cases ml:b=a
        ·exact .inl ml
        ·exact absurd ((bf hb).trans (bf ml)) z
theorem a4y{l:OpenLaw}{q:ah}{loose:List Str}{XP:(Str->Option Value)->Heap->Prop}{YP:World->Heap->Prop}{d:DefRec}{K:Params->Frag}{k:Nat}{x:Str}{st:Stmt}{T:Addr}(hn:l.most=some 63)(tX:d.params.defaults=[]) (hr:cJ k callerA)(hY:∀(w:World)(h:Heap),YP w h->(K w.params).In h/\h.get? T=some (tabObj #[]))(All:Frag->(Str->Option Value)->Prop) (F:∀(w:World)(mg:Str->Option Value)(h:Heap),(K w.params).In h->h.Ns mainGlobals mg->All (K w.params) mg)(kT:∀w:World,(K w.params).lookup T=none) (cT:∀(K:Frag)(mg:Str->Option Value),All K mg->∃cd,pD K cd T=true) (L:∀(K:Frag)(mg:Str->Option Value),All K mg->FA K mg d.name st) (hb:∀(kV doc pm:Value)(an:Option Addr)(aL ct u:Value),bindArgs (fnOf d.name d.name (jZ st) (gF st) (aV st) .none kV doc pm an aL ct) ⟨[u],[]⟩=pure [(x,u)]) (ok:∀(P:ah)(w:World)(K:Frag)(mg:Str->Option Value)(base:Heap)(f:Addr)(fd:FuncData),All K mg->base.BuiltinsAt mg T->kh K d.name d.name st f fd->j6 P w K mg base jk k f fd [x] (fun vs H Q _=>∃(a:Addr)(ns:List Int),vs=[.ref a]/\aF K H a (ns.map V.int)/\ns.length<=63/\H T=some (.fi #[])/\∀H',Q (.bl true) H')): WalkO q loose XP YP l.row.toRowW d [] (fun f vs=>PySem.call f vs):=by
  refine Att.ab9 hn tX fun w s₀ s₁ mg mb fa o pm cd doc a vs ns G Y ho hd gR Ic HR hints hlen hg=>?_;obtain⟨KX,hT⟩:=hY w _ Y;have A:=F w mg _ KX G.T.g;obtain⟨f,fd,hm,Fn⟩:=(L _ _ A).ex;have e:fa=f:=by rw[Ic]at hm;injection (dP hm)
  subst e;obtain⟨cdT,Im⟩:=cT _ _ A;refine a4z KX G.T.g G.T.b G.T.builtins G.T.nolimit hg G.T.bmain hT (kT w) Im HR hints (iy hlen (by decide)) hr (fun base _ hB=>ok l.prog w _ mg base fa fd A hB Fn) (fun s u=>?_) fun H BS hS=>⟨a,ns,rfl,hS,hlen,BS,fun _=>rfl⟩;obtain⟨oc,od,kV,a9X,pm',an,aL,ct,gf,rfl,lk,acZ⟩:=Fn.ex;exact .of_eq (hb kV a9X pm' an aL ct u)
end L2
namespace L2
open PySem PySem.Spec PyProof.Rows
section
variable {P:ah}{w:World}{K:aa}{mg:Str->Option Value}{base:Heap}{N:List Str}{qual:Str}{scope:Scope}{f:Addr}{cd:Value}{A:aj}{outer:List Env}{s:ae}{H:Hp}{E:XK}{au:List (Addr×Obj)}{Z:St}{H1:Hp}{s1:ae}{ex:Addr}{C:Addr}{dx:Addr}{φ:Heap->Prop}{cls:Value}{dxo:Option Addr}{h2:Heap}{vs:List Value}
theorem X0(I:Inv (j4 (kj P w) P w K mg base N qual scope f cd A outer s H E) au Z H1 s1)(hx:Heap.MadeExcOf s1.heap h2 ex cls vs)(q:E cls none H1):(j4 (kj P w) P w K mg base N qual scope f cd A outer s H E).xe (.ref ex) {s1 with heap:=h2}:=by
 obtain⟨t,e1,_⟩:=hx.there;have hf:H1 ex=none:=by cases e:H1 ex with |none=>rfl |some o=>obtain⟨ob,e2⟩:=(I.aX ex o e).there;rw[hx.new]at e2;cases e2
 have nw:s.heap.get? ex=none:=by cases e:s.heap.get? ex with |none=>rfl |some o=>obtain⟨ob,e2⟩:=I.base.there ex o e (cI);rw[hx.new]at e2;cases e2
 have I2:=I.kept (t':=s1.toks) hx.keeps;have gQ:h2.FunFrames base (envOfC qual scope s.heap.objs.size f cd::outer):=I2.stack;have BH:∀env∈(envOfC qual scope s.heap.objs.size f cd::outer),∀b,env.frame=some b->b∈ex::dj (envOfC qual scope s.heap.objs.size f cd::outer):=fun env he b hb=>.tail _ (o9.mpr ⟨env,he,hb⟩);have hB:(PySem.W.hideAll h2 (ex::dj (envOfC qual scope s.heap.objs.size f cd::outer))).StaysIn h2:=fun b o e=>PySem.W.of_hideAll _ e;have qv:∀b o,s.heap.get? b=some o->b∉dj outer->b∉ex::dj (envOfC qual scope s.heap.objs.size f cd::outer):=fun b o e hb hm=>by
  rcases bN.mp hm with rfl|hm
  ·rw[nw]at e;cases e
  obtain⟨env,he,hf⟩:=o9.mp hm;rcases bN.mp he with rfl|he
  · have e1:s.heap.objs.size=b:=dP hf
    have h1:=cB e;rw[<-e1]at h1;exact absurd h1 (pO _)
  ·exact hb (o9.mpr ⟨env,he,hf⟩)
 have F0:Fl P w outer H s.heap ex H1 (PySem.W.hideAll h2 (ex::dj (envOfC qual scope s.heap.objs.size f cd::outer))) h2:=by
  refine⟨I2.base,I2.aX,fun b o e n hb=>Ka _ (I2.base.keep b o e n hb (cI)) (qv b o e hb),fun b o e=>?_,fun b o e hb=>?_,fun b hb=>?_,nw,hf⟩
  · obtain⟨GD,e1⟩:=(I2.aX b o e).there
    refine⟨GD,Ka _ e1 fun hm=>?_⟩;rcases bN.mp hm with z|hm
    ·rw[z,hf]at e;cases e
    · rw[I2.Ah b hm]at e
      cases e
  · obtain⟨GD,e1⟩:=I2.base.there b o e (cI)
    exact⟨GD,Ka _ e1 (qv b o e hb)⟩
  · obtain⟨env,he,hf⟩:=o9.mp hb
    exact I2.Ah b (o9.mpr ⟨env,.tail _ he,hf⟩)
 show wpAny (model P w) (A.deeper (envOfC qual scope s.heap.objs.size f cd)) (leaving (envOfC qual scope s.heap.objs.size f cd) (.ref ex)) _ _ _;refine a4v (L:=s.heap.objs.size) I.ok.frames (PySem.W.funFrames_hide gQ BH) rfl e1 hB (PySem.W.hideAll_none _ (.head _)) rfl rfl fun h' x1 x2=>?_;exact⟨ex,cls,none,H1,_,rfl,I.os,I.bare,x1,F0.step hB x1.1 x2 gQ.2.2,q⟩
end
def Hk(N:List Str)(sc:Scope):Bool:=decide (sc.kind= .function)&& !sc.isCoroutine&& !sc.isGenerator&&sc.names.all (fun y=>decide (y.2≠ .cell)&&(decide (y.2≠ .free)||N.contains y.1))&&N.all fun x=>decide (sc.names.lookup x=some .free)
theorem Q8{N:List Str}{sc:Scope}(h:Hk N sc=true):uz N sc/\∀y∈sc.names,y.2= .free->y.1∈N:=by unfold Hk at h;simp only[fh,CS,WR,iQ,Bool.or_eq_true,List.contains_iff_mem]at h;obtain⟨⟨⟨⟨h1,h2⟩,h3⟩,h4⟩,h5⟩:=h;have m:∀y∈sc.names,y.2= .free->y.1∈N:=fun y hy e=>(h4 y hy).2.elim (fun z=>(z e).elim) id;exact⟨⟨h1,h2,h3,fun y hy=>(h4 y hy).1,h5,fun x hx=>m _ (uG hx) rfl⟩,m⟩
section
variable {X:Cx} {sc:Scope}
theorem a4C(x0 x1:Str)(j0 j1:Nat)(h:Hk [x0,x1] sc=true)(k0:X.env.kindOf x0=some .cell)(k1:X.env.kindOf x1=some .cell)(n0:X.N[j0]? =some x0)(n1:X.N[j1]? =some x1):Ud X [x0,x1] [j0,j1] sc:=by
 obtain⟨S,m⟩:=Q8 h;refine⟨S,fun y hy e=>?_,fun i y e=>?_⟩
 · rcases bN.mp (m y hy e)with z|z
   ·rw[z];exact k0
   ·rw[cf.mp z];exact k1
 ·match i,e with |0,e=>cases e;exact⟨_,rfl,n0⟩ |1,e=>cases e;exact⟨_,rfl,n1⟩
end
end L2
namespace Lw
open PySem PySem.Spec PyProof.Rows L2 Ln Rt Cn Pn Wk Rn
open Ow (topR cornO mnO betR atO ownF leadF ownL OkI OkIs)
open Ow (Itm)
def top(i:Nat):Stmt:=PySem.Challenge.pw_glidequeue_k40_held.main.body.getD i (.Pass ⟨0,0,0,0⟩)
abbrev Eg:Stmt:=top 71
abbrev FH:Stmt:=top 70
abbrev FD:Stmt:=top 26
abbrev Fo:Stmt:=top 15
abbrev Fg:Stmt:=top 81
abbrev Ff:Stmt:=top 28
abbrev Fh:Stmt:=top 25
abbrev F7:Stmt:=top 21
abbrev Ed:Stmt:=top 22
abbrev Fd:Stmt:=top 23
abbrev Fe:Stmt:=top 24
abbrev Fv:Stmt:=top 19
abbrev F9:Stmt:=top 77
abbrev Fu:Stmt:=top 73
abbrev Fi:Stmt:=top 72
abbrev Fm:Stmt:=top 50
def jD:Str:="abcdefghijklmnopqrstuvwxyz"
abbrev EZ:Stmt:=top 80
abbrev E8:Stmt:=top 29
abbrev E9:Stmt:=top 16
abbrev Ea:Stmt:=top 39
abbrev FC:Stmt:=top 36
abbrev Fj:Stmt:=top 38
abbrev Ec:Stmt:=top 37
abbrev Eb:Stmt:=top 83
abbrev FF:Stmt:=top 58
abbrev Au:Stmt:=top 57
abbrev EY:Stmt:=top 20
abbrev Fw:Stmt:=top 59
abbrev Eh:Stmt:=top 74
abbrev Fc:Stmt:=top 75
abbrev F8:Stmt:=top 76
abbrev EX:Stmt:=top 78
abbrev Fb:Stmt:=top 79
abbrev F1:Stmt:=top 32
abbrev Ej:Stmt:=top 30
abbrev Et:Stmt:=top 31
abbrev Fy:Stmt:=top 62
abbrev Ef:Stmt:=top 61
abbrev Fx:Stmt:=top 63
abbrev Ew:Stmt:=top 68
abbrev Fs:Stmt:=top 55
abbrev Fp:Stmt:=top 54
abbrev FI:Stmt:=top 53
abbrev Ft:Stmt:=top 49
abbrev Fq:Stmt:=top 41
abbrev F3:Stmt:=top 52
abbrev FG:Stmt:=top 51
structure fY(K:aa)(C:Addr):Prop where
 cl:ki K C
 qy:jj K C "machine"
 vL:jj K C "begun_at"
 oO:jj K C "done"
 jR:jj K C "queue"
 qx:jj K C "pace"
 AY:jj K C "rate_now"
 GP:jj K C "side"
 GQ:jj K C "mark"
 vK:jj K C "stopping"
abbrev EB:Stmt:=inClass (top 67) 3
abbrev EG:Stmt:=inClass (top 67) 4
abbrev Ez:Stmt:=inClass (top 67) 5
abbrev EJ:Stmt:=inClass (top 67) 6
abbrev Ey:Stmt:=inClass (top 67) 7
abbrev EO:Stmt:=inClass (top 67) 8
abbrev EF:Stmt:=inClass (top 67) 9
abbrev EN:Stmt:=inClass (top 67) 10
abbrev EH:Stmt:=inClass (top 67) 1
abbrev EK:Stmt:=inClass (top 67) 2
abbrev EL:Stmt:=inClass (top 67) 0
abbrev ES:Stmt:=inClass (top 67) 11
abbrev EV:Stmt:=inClass (top 67) 16
abbrev EI:Stmt:=inClass (top 67) 15
abbrev EE:Stmt:=inClass (top 67) 14
abbrev ET:Stmt:=inClass (top 67) 13
abbrev EU:Stmt:=inClass (top 67) 12
abbrev ER:Stmt:=inClass (top 67) 19
abbrev ED:Stmt:=inClass (top 67) 17
abbrev EM:Stmt:=inClass (top 67) 18
abbrev FE:Stmt:=top 84
abbrev Ee:Stmt:=top 85
abbrev Ei:Stmt:=top 82
abbrev Em:Stmt:=top 92
abbrev Ep:Stmt:=top 93
abbrev Ek:Stmt:=top 87
abbrev Er:Stmt:=top 88
abbrev Eo:Stmt:=top 89
abbrev En:Stmt:=top 90
abbrev Es:Stmt:=top 91
abbrev Aw:Stmt:=top 86
abbrev El:Stmt:=top 94
structure lI where
 n:Addr
 o:Addr
 f:Addr
 m:Addr
 r:Addr
structure KC(K:aa)(R:lI)(cG:Addr)(cs:List Addr)(C:Addr)(b0 b1 b2 b3 b4:Bool):Prop where
 tk:takes K C cG
 k:nY K C
 i0:PySem.W.kitOne K (.ref C) (.ref R.n)=some b0
 i1:PySem.W.kitOne K (.ref C) (.ref R.o)=some b1
 i2:PySem.W.kitOne K (.ref C) (.ref R.f)=some b2
 i3:PySem.W.kitOne K (.ref C) (.ref R.m)=some b3
 i4:PySem.W.kitOne K (.ref C) (.ref R.r)=some b4
 any:PySem.W.kitAny K (.ref C) (cs.map Value.ref)=some false
 ve:PySem.W.kitOne K (.ref C) (.type "ValueError")=some true
structure CF(K:aa)(mg:Str->Option Value)(R:lI)(cG c0 c1 c2 c3 c4 c5:Addr):Prop where
 g:Exc K mg "GlideError" cG wN yc
 h0:GV mg "NoFraction" (.ref c0)
 h1:GV mg "NoLine" (.ref c1)
 h2:GV mg "NoMachine" (.ref c2)
 h3:GV mg "NoPlace" (.ref c3)
 h4:GV mg "NoTape" (.ref c4)
 h5:GV mg "NoText" (.ref c5)
 gn:GV mg "NoItem" (.ref R.n)
 go:GV mg "OffRails" (.ref R.o)
 gm:GV mg "Moving" (.ref R.m)
 gr:GV mg "NoRate" (.ref R.r)
 v:mg "ValueError"=none
 xf:Exc K mg "Full" R.f wN yc
 f:KC K R cG [c0,c1,c2,c3,c4,c5] R.f false false true false false
abbrev Eu:Stmt:=top 95
abbrev Fz:Stmt:=top 96
def DS(K:aa)(T:Addr):Sp:=fun vs H Q _=>∃(a:Addr)(ns:List Int),vs=[.ref a]/\aF K H a (ns.map V.int)/\ns.length<=63/\H T=some (.fi #[])/\∀H',Q (.bl true) H'
abbrev vb:Stmt:=top 97
structure U5(K:aa)(mg:Str->Option Value)(C:Addr):Prop where
 tc:fY K C
 init:CA K mg C "Runner" "Runner.__init__" EL
 a3W:MA K C "place" "Runner.place" EH
 a3Y:MA K C "leads_to" "Runner.leads_to" EK
 a3U:MA K C "square" "Runner.square" EB
 a3V:MA K C "rate" "Runner.rate" EG
 a3Q:MA K C "tool" "Runner.tool" Ez
 a3Z:MA K C "last_mark" "Runner.last_mark" EJ
 a3P:MA K C "waiting" "Runner.waiting" Ey
 a40:MA K C "is_held" "Runner.is_held" EO
 a3T:MA K C "stands" "Runner.stands" EF
 a41:MA K C "is_halted" "Runner.is_halted" EN
 a44:MA K C "feed" "Runner.feed" ES
 a46:MA K C "entries" "Runner.entries" EU
 a45:MA K C "entries_of_first" "Runner.entries_of_first" ET
 a3S:MA K C "steps_of_first" "Runner.steps_of_first" EE
 a3X:MA K C "next_square" "Runner.next_square" EI
 a47:MA K C "end_first" "Runner.end_first" EV
 a3R:MA K C "stops_in" "Runner.stops_in" ED
 a42:MA K C "hold" "Runner.hold" EM
 a43:MA K C "go" "Runner.go" ER
structure All(T:Addr)(K:aa)(mg:Str->Option Value):Prop where
 B:bP mg
 yT:GT K mg "NOUGHT" [.int 0,.int 1]
 a80:GT K mg "SIDES" [.str "up",.str "down"]
 a86:GV mg "LEAST_RATE" (.int 10)
 a88:GV mg "GREATEST_RATE" (.int 200)
 a89:GV mg "FIRST_RATE" (.int 100)
 a81:GV mg "MOST_WAITING" (.int 20)
 a82:GV mg "MOST_STEPS" (.int 100)
 a87:GV mg "GREATEST_SPEED" (.int 20)
 a83:GV mg "LONGEST_WAIT" (.int 1000)
 a84:GV mg "LONGEST_NAME" (.int 8)
 a85:GV mg "LETTERS" (.str jD)
 a8O:FA K mg "is_whole" Fo
 a8N:FA K mg "is_whole_within" E9
 a8X:FA K mg "fraction" Fv
 a8D:FA K mg "plus_whole" EY
 a8I:FA K mg "minus" F7
 a8x:FA K mg "times" Ed
 a8U:FA K mg "is_less" Fd
 a8K:FA K mg "least" Fe
 a8J:FA K mg "lowest_terms" Fh
 a8Z:FA K mg "common_divisor" FD
 a8L:FA K mg "lead_of" Ff
 a8v:FA K mg "ways_of" E8
 a8B:FA K mg "stand_at" Ej
 a8z:FA K mg "step_rows" Et
 a8G:FA K mg "nearest" F1
 a8Y:FA K mg "corner_square" FC
 a8w:FA K mg "top_square" Ec
 a8Q:FA K mg "is_rate" Fj
 a8W:FA K mg "greatest_turn" Ea
 a8R:FA K mg "is_place" Fq
 a8V:FA K mg "is_item" Ft
 a8T:FA K mg "is_line" Fm
 a8F:FA K mg "place_behind" FG
 a8H:FA K mg "moved" F3
 a91:FA K mg "are_steps" FI
 a8P:FA K mg "is_short_item" Fp
 a8S:FA K mg "is_name" Fs
 RO:FA K mg "own_bounds" Au
 a90:FA K mg "bound_between" FF
 a8M:FA K mg "kept_by_fall" Fw
 a8y:FA K mg "ticks_of" Ef
 a92:FA K mg "are_enough" Fy
 a8A:FA K mg "step_entry" Fx
 a8C:FA K mg "reach_behind_first" Ew
 a9r:FA K mg "_law_bag" FH
 a95:FA K mg "_law_take" Eg
 a9j:FA K mg "_law_number" Fi
 a9p:FA K mg "_law_frac" Fu
 a96:FA K mg "_law_sum" Eh
 a9n:FA K mg "_law_less" Fc
 a9k:FA K mg "_law_min" F8
 a9l:FA K mg "_law_machine" F9
 a9h:FA K mg "_law_place" EX
 a9m:FA K mg "_law_line" Fb
 a9i:FA K mg "_law_other" EZ
 a9o:FA K mg "_law_lead" Fg
 a97:FA K mg "_law_stand" Ei
 a93:FA K mg "_law_top" Eb
 a9q:FA K mg "_law_bounds" FE
 a94:FA K mg "_law_ticks" Ee
 yW:FA K mg "_law_alike" Aw
 a9d:FA K mg "_law_sim" Ek
 a9b:FA K mg "_law_sim_feed" Er
 a9g:FA K mg "_law_reach" Eo
 a99:FA K mg "_law_sim_step" En
 a9c:FA K mg "_law_sim_entries" Es
 a98:FA K mg "_law_sim_stops" Em
 a9a:FA K mg "_law_sim_hold" Ep
 a9e:FA K mg "_law_seen" El
 a9f:FA K mg "_law_refused" Eu
 RP:zx K mg "_law_deed" Fz T
 law:FA K mg "law" vb
 rc:∃C,U5 K mg C
 rf:∃R cG c0 c1 c2 c3 c4 c5,CF K mg R cG c0 c1 c2 c3 c4 c5
def zl(K:aa)(P:ah):Prop:=∀(T:Addr)(w:World)(mg:Str->Option Value)(base:Heap)(f:Addr)(fd:FuncData),All T K mg->base.BuiltinsAt mg T->kh K "law" "law" vb f fd->j6 P w K mg base jk 14 f fd ["_law_script"] (DS K T)
@[irreducible] noncomputable def KP:aa×ah:=Classical.epsilon fun x=>¬zl x.1 x.2
@[irreducible] noncomputable def K:aa:=KP.1
@[irreducible] noncomputable def P:ah:=KP.2
theorem XB(h:zl K P)(K':aa)(P':ah):zl K' P':=Classical.byContradiction fun n=>by have e:=Classical.epsilon_spec (p:=fun x:aa×ah=>¬zl x.1 x.2) ⟨(K',P'),n⟩;unfold K P KP at h;exact e h
end Lw
namespace Lw
open PySem PySem.Spec PyProof.Rows L2
section
variable {w:World}{mg:Str->Option Value}{base:Heap}
inductive UB(vs:List V)(H:Hp)(Q:VK):Prop |mk (p:_)(many:_)(h0:vs=[.ref p,.int many])(h1:gz H p)(h2:1<=many)(h3:many<=10^40)(h4:∀d H',0<=d->d<many->bT p H H'->Q (.int d) H'):UB vs H Q
def pW:Sp:=fun vs H Q _=>UB vs H Q
theorem ME:bp ["_law_bag_here","_law_many","_law_digit","_law_number_here","_law_room"] ["_law_bag_here","_law_many"] (aV Eg):=bI (by decide+kernel)
theorem a1N(F:FA K mg "_law_take" Eg)(B:bP mg):aD P w K mg base "_law_take" 1 pW:=by
 refine F.has ME (fun vs H Q E h=>?_) (fun _ _ _ _ _ _=>dy fun _ _=>rfl) (fun f aL A outer s H vs Q E hr h=>?_)
 · obtain⟨p,many,rfl,_⟩:=h
   rfl
 · obtain⟨p,many,rfl,⟨c,m,hp,ok⟩,h1,h2,k⟩:=h
   obtain⟨c0,m0,m1⟩:=id ok;have nd:=ME.nd;refine⟨_,(aB (bJ (bZ qk (px K (pv 0) az) az (bw _)) (aB (pS 2 nd (aI oK (px K (pv 0) az) (pv 1))) (aB (fU (aI m9 (px K (pv 0) az) (pv 1)) (sQ (pv 0) az set_list)) (aG (aU (pv 2))))) bO) (aB (pS 3 nd az) (aB (pS 4 nd az) (aB (mU gY (bZ jQ (pv 4) (pv 1) (bw _)) (aB (fU (aI oK (aI vo (aI cS (aI bE (px K (pv 0) az) az) az) az) az) (sQ (pv 0) az set_list)) (aB (pS 3 nd (aI cS (aI bE (pv 3) az) (aI oK (aI bE (aI m9 (px K (pv 0) az) az) az) az))) (aG (pS 4 nd (aI bE (pv 4) az)))))) (aG (aU (aI oK (pv 3) (pv 1)))))))),?_⟩;refine⟨_,rfl,.inl ⟨p,_,0,.int c,rfl,rfl,aF.of hp,rfl,_,_,rfl,rfl,_,rfl,?_⟩⟩;refine dN (fun hc=>?_) (fun _=>?_)
   · refine⟨_,rfl,.inl ⟨p,_,0,.int c,rfl,rfl,aF.of hp,rfl,_,rfl,_,_,rfl,rfl,h1,?_⟩⟩
     refine⟨_,rfl,.inl ⟨p,_,0,.int c,rfl,rfl,aF.of hp,rfl,_,rfl,_,_,rfl,rfl,⟨h1,KD (by lia) h2⟩,?_⟩⟩;refine⟨_,rfl,p,_,0,0,rfl,rfl,hp,rfl,?_⟩;refine⟨_,rfl,?_⟩;exact k _ _ (oj _ (by lia)) (rP _ (by lia)) (bT.upd ⟨Int.ediv_nonneg c0 (by lia),m0,m1⟩)
   · refine mG (fun Z H2=>∃(v:Option V)(n r:Int),Z=[some (.ref p),some (.int many),v,some (.int n),some (.int r)]/\bT p H H2/\1<=r) (fun Z _=>match Z with|[_,_,_,_,some (.int r)]=>(many-r).toNat|_=>0) ?_ ?_ ?_
     ·exact⟨none,0,1,rfl,.refl ⟨c,m,hp,ok⟩,gA _⟩
     · rintro Z H2 ⟨v,n,r,rfl,bx,Bv⟩
       obtain⟨c',m',wa,c0',m0',m1'⟩:=id bx.bL;refine⟨_,rfl,_,rfl,_,_,rfl,rfl,_,rfl,?_⟩;refine dN (fun hc=>?_) (fun hc=>?_)
       · have cx:r<many:=jI hc
         refine⟨_,rfl,.inl ⟨p,_,1,.int m',rfl,rfl,aF.of wa,rfl,_,_,rfl,rfl,.of_right (cg (by decide) (by decide)),_,_,rfl,rfl,_,_,rfl,rfl,⟨by decide,by decide,?_⟩,_,_,rfl,rfl,(by show(0:Int)<2147483629;decide),?_⟩⟩
         · have lD:(2:Nat)^64=18446744073709551616:=by decide
           rw[lD];lia
         refine⟨_,rfl,p,_,1,1,rfl,rfl,wa,rfl,?_⟩;have g0:0<=((m'*48271+7919)^(5:Int).toNat)%2147483629:=oj _ (by decide);have g1:((m'*48271+7919)^(5:Int).toNat)%2147483629<2147483629:=rP _ (by decide);have bx2:bT p H (L2.upd H2 p (.lst [.int c',.int (((m'*48271+7919)^(5:Int).toNat)%2147483629)])):=bx.trans (.upd ⟨c0',g0,Int.lt_trans g1 (by decide)⟩);refine⟨_,rfl,_,_,rfl,rfl,.of_right (cg (by decide) (by decide)),_,rfl,.inl ⟨p,_,1,.int _,rfl,rfl,aF.of ba,rfl,_,_,rfl,rfl,⟨by decide,KD (by decide) (by decide)⟩,_,_,rfl,rfl,.of_right (cg (by decide) (by decide)),_,_,rfl,rfl,(by show(0:Int)<1073741789;decide),_,_,rfl,rfl,?_⟩⟩;refine⟨_,rfl,_,_,rfl,rfl,.of_right (cg (by decide) (by decide)),?_⟩;refine⟨⟨v,_,_,rfl,bx2,?_⟩,?_⟩
         ·lia
         · show(many-r*1073741789).toNat<(many-r).toNat
           lia
       · refine⟨_,rfl,_,rfl,_,_,rfl,rfl,h1,?_⟩
         exact k _ _ (oj _ (by lia)) (rP _ (by lia)) bx
     · rintro Z H2 Q1 Q2 hq ⟨v1,e1,v2,e2,i,j,e3,e4,kk,e5,q⟩
       exact⟨v1,e1,v2,e2,i,j,e3,e4,kk,e5,hq _ _ q⟩
inductive Vv(K:aa)(vs:List V)(H:Hp)(Q:VK):Prop |mk (a:Addr)(ns:List Int)(at':Int)(h0:vs=[.ref a,.int at'])(h1:aF K H a (ns.map V.int))(h2:ns.length<=63)(h3:0<=at')(h4:at'<=100)(h5:∀p H',H p=none->gz H' p->aE H H'->Q (.ref p) H'):Vv K vs H Q
def Ml(K:aa):Sp:=fun vs H Q _=>Vv K vs H Q
theorem NJ:bp ["_law_script","_law_at","_law_cell","_law_mix","_law_k"] ["_law_script","_law_at"] (aV FH):=bI (by decide+kernel)
theorem Qn{ns:List Int}{j:Nat}(h:j<ns.length):∃z,fJ (ns.map V.int) (j:Int)=some (.int z):=⟨ns[j],abd (by simp[h])⟩
theorem a2Y(F:FA K mg "_law_bag" FH)(B:bP mg):aD P w K mg base "_law_bag" 1 (Ml K):=by
 refine F.has NJ (fun vs H Q E h=>?_) (fun _ _ _ _ _ _=>dy fun _ _=>rfl) (fun f aL A outer s H vs Q E hr h=>?_)
 · obtain⟨a,ns,at',rfl,_⟩:=h
   rfl
 · obtain⟨a,ns,at',rfl,hS,hlen,h0,h1,k⟩:=h
   obtain⟨j,rfl⟩:∃j:Nat,at'=(j:Int):=⟨at'.toNat,by lia⟩;have nd:=NJ.nd;refine⟨_,(aB (pS 2 nd az) (aB (gJ (bJ (bZ jQ (pv 1) (dU K B (O (pv 0) aw)) (bw _)) (aG (pS 2 nd (dh (x:="abs") nQ rfl (B.at "abs") pM (O (px K (pv 0) (pv 1)) aw)))) bO)) (aB (pS 3 nd (aI cS (aI cS (aI bE (aI bE az (pv 1)) (pv 1)) (aI bE az (pv 1))) az)) (aB (lS gY rfl (xV rfl (B.at "range") (O (dh (x:="min") (Jv rfl) rfl (B.at "min") Wz (O (dU K B (O (pv 0) aw)) (O az aw))) aw)) (bu 4 nd) (aG (pS 3 nd (aI oK (aI vo (aI cS (aI cS (aI bE (pv 3) az) (aI oK (px K (pv 0) (pv 4)) az)) (aI bE (pv 4) (pv 4))) az) az)))) (aB (gJ (bJ (bZ jQ (pv 2) (aI vo az az) (bw _)) (aG (pS 2 nd az)) bO)) (aG (aU (dv (O (pv 2) (O (pv 3) aw)))))))))),?_⟩;refine⟨fun Z H'=>H'=H/\∃c:Int,Z=[some (.ref a),some (.int (j:Int)),some (.int c),none,none]/\0<=c,?_,?_⟩
   · refine⟨_,rfl,_,rfl,a,_,rfl,.inl hS,_,_,rfl,rfl,_,rfl,?_⟩
     refine dN (fun hc=>?_) (fun _=>?_)
     · have hj:(j:Int)<((ns.map V.int).length:Int):=jI hc
       rw[cu]at hj;obtain⟨z,hz⟩:=Qn (ns:=ns) (j:=j) (by lia);refine⟨_,rfl,_,rfl,.inl ⟨a,_,_,_,rfl,rfl,hS,hz,z,rfl,?_⟩⟩;exact⟨rfl,_,rfl,by split<;>lia⟩
     ·exact⟨rfl,0,rfl,gA _⟩
   rintro Z H' ⟨rfl,c,rfl,c0⟩;refine⟨_,rfl,_,_,rfl,rfl,.of_left (cg (by decide) (by decide)),_,rfl,_,_,rfl,rfl,.of_right (cg (by lia) (by lia)),_,rfl,_,_,rfl,rfl,.of_left (cg (by decide) (by decide)),_,_,rfl,rfl,_,_,rfl,rfl,?_⟩;refine⟨_,rfl,a,_,rfl,.inl hS,_,_,rfl,_,rfl,?_,?_,?_⟩
   ·split<;>lia
   ·split<;>(try rw[cu])<;>lia
   refine C0 (Pv:=fun i Z H2=>H2=H'/\∃(m:Int)(v:Option V),Z=[some (.ref a),some (.int (j:Int)),some (.int c),some (.int m),v]/\0<=m/\m<2147483648) ?_ ?_ ?_
   · refine⟨rfl,_,none,rfl,?_,?_⟩
     · have:(0:Int)<=(j:Int)*(j:Int):=jK (by lia) (by lia)
       rw[uM];lia
     · have:(j:Int)*(j:Int)<=100*100:=Dg (by lia) (by lia) (by lia) (by lia)
       rw[uM];lia
   · rintro i Z H2 hi ⟨rfl,m,v,rfl,m0,m1⟩
     have Ih:i<ns.length:=by rw[cu]at hi;split at hi<;>lia
     obtain⟨z,hz⟩:=Qn (ns:=ns) (j:=i) Ih;rw[<-Int.zero_add (i:Int)]at hz;have hz0:0<=z%2147483647:=oj _ (by decide);have hz1:z%2147483647<2147483647:=rP _ (by decide);have a6m:(0:Int)<=(0+(i:Int))*(0+(i:Int)):=jK (by lia) (by lia);have hii:(0+(i:Int))*(0+(i:Int))<=100*100:=Dg (by lia) (by lia) (by lia) (by lia);refine⟨_,rfl,_,_,rfl,rfl,.of_right (cg (by decide) (by decide)),_,rfl,_,rfl,.inl ⟨a,_,_,_,rfl,rfl,hS,hz,_,_,rfl,rfl,(by show(0:Int)<2147483647;decide),_,_,rfl,rfl,_,rfl,_,rfl,_,_,rfl,rfl,.of_right (cg (by lia) (by lia)),_,_,rfl,rfl,_,_,rfl,rfl,⟨by decide,by decide,?_⟩,_,_,rfl,rfl,(by show(0:Int)<2147483629;decide),?_⟩⟩
     · have lD:(2:Nat)^64=18446744073709551616:=by decide
       rw[lD];generalize(0+(i:Int))*(0+(i:Int))=ii at a6m hii⊢;generalize z%2147483647=zz at hz0 hz1⊢
       lia
     ·exact⟨rfl,_,_,rfl,oj _ (by decide),Int.lt_trans (rP _ (by decide)) (by decide)⟩
   · rintro Z H2 ⟨rfl,m,v,rfl,m0,m1⟩
     refine⟨fun Z H3=>H3=H2/\∃c:Int,Z=[some (.ref a),some (.int (j:Int)),some (.int c),some (.int m),v]/\0<=c,?_,?_⟩
     · refine⟨_,rfl,_,_,rfl,rfl,⟨by decide,by decide,by decide⟩,_,_,rfl,rfl,_,rfl,?_⟩
       refine dN (fun hc=>?_) (fun _=>?_)
       ·exact⟨rfl,0,rfl,gA _⟩
       ·exact⟨rfl,c,rfl,c0⟩
     rintro Z H3 ⟨rfl,c,rfl,c0⟩;refine⟨_,rfl,_,rfl,(by show 2<=sizeLine;decide),fun p H4 nw=>?_⟩;exact k p H4 nw.no ⟨c,m,nw.at',c0,m0,m1⟩ nw.same
inductive Vp(vs:List V)(H:Hp)(Q:VK):Prop |mk (a:Int)(b:Int)(h0:vs=[.int a,.int b])(h1:Q (.int (Int.gcd a b)) H):Vp vs H Q
def DW:Sp:=fun vs H Q _=>Vp vs H Q
inductive Vc(vs:List V)(H:Hp)(Q:VK):Prop |mk (a:Int)(b:Int)(h0:vs=[.int a,.int b])(h1:b≠0)(h2:Wd b)(h3:∀t H',Nw H H' t (.tup [.int (Ar.lowP a b),.int (Ar.gL a b)])->Q (.ref t) H'):Vc vs H Q
def uV:Sp:=fun vs H Q _=>Vc vs H Q
def vV(T:String):Bool:=iR T "int"&& !iR T "bool"
inductive Vi(K:aa)(vs:List V)(H:Hp)(Q:VK):Prop |mk (v:_)(T:_)(h0:vs=[v])(h1:uw K H v T)(h2:Q (.bl (vV T)) H):Vi K vs H Q
def uX(K:aa):Sp:=fun vs H Q _=>Vi K vs H Q
theorem NF:bp ["p","q","high","low"] ["p","q"] (aV FD):=bI (by decide+kernel)
theorem a2U(F:FA K mg "common_divisor" FD)(B:bP mg):aD P w K mg base "common_divisor" 1 DW:=by
 refine F.has NF (fun vs H Q E h=>?_) (fun _ _ _ _ _ _=>dy fun _ _=>rfl) (fun f aL A outer s H vs Q E hr h=>?_)
 · obtain⟨a,b,rfl,_⟩:=h
   rfl
 · obtain⟨a,b,rfl,k⟩:=h
   have nd:=NF.nd;refine⟨_,(aB (oG (i:=2) (j:=3) rfl nd rfl rfl (by decide) rfl rfl (O (dh (x:="abs") nQ rfl (B.at "abs") pM (O (pv 0) aw)) (O (dh (x:="abs") nQ rfl (B.at "abs") pM (O (pv 1) aw)) aw)) rfl) (aB (mU gY (bZ (jv K rfl hr.units) (pv 3) az (bw _)) (aG (oG (i:=2) (j:=3) rfl nd rfl rfl (by decide) rfl rfl (O (pv 3) (O (aI oK (pv 2) (pv 3)) aw)) rfl))) (aG (aU (pv 2))))),?_⟩;refine⟨_,rfl,_,rfl,_,rfl,_,rfl,_,_,rfl,?_⟩;refine mG (fun Z H2=>H2=H/\∃(x y:Int),Z=[some (.int a),some (.int b),some (.int x),some (.int y)]/\0<=x/\0<=y/\Int.gcd x y=Int.gcd a b) (fun Z _=>match Z with|[_,_,_,some (.int y)]=>y.natAbs|_=>0) ?_ ?_ ?_
   · refine⟨rfl,_,_,rfl,by split<;>lia,by split<;>lia,?_⟩
     have h1:(if a<0 then-a else a).natAbs=a.natAbs:=by split<;>lia
     have h2:(if b<0 then-b else b).natAbs=b.natAbs:=by split<;>lia
     unfold Int.gcd;rw[h1,h2]
   · rintro Z H2 ⟨rfl,x,y,rfl,x0,y0,e⟩
     refine⟨_,rfl,.inl ⟨_,_,rfl,rfl,_,rfl,?_⟩⟩;refine dN (fun hc=>?_) (fun hc=>?_)
     · have hy:y≠0:=by simpa using hc
       have jT:0<y:=by lia
       refine⟨_,rfl,_,rfl,_,rfl,_,_,rfl,rfl,jT,_,_,rfl,?_⟩;refine⟨⟨rfl,_,_,rfl,y0,oj _ hy,(Ar.Ry jT).trans e⟩,?_⟩;show(x%y).natAbs<y.natAbs;have:=oj x hy;have:=rP x jT
       lia
     · have hy:y=0:=by simpa using hc
       subst hy;refine⟨_,rfl,?_⟩;rw[Int.gcd_zero_right]at e;have e2:x=((Int.gcd a b:Nat):Int):=by lia
       rw[e2];exact k
   · rintro Z H2 Q1 Q2 hq ⟨v1,e1,h⟩
     refine⟨v1,e1,?_⟩;rcases h with⟨i,j,e3,e4,kk,e5,q⟩|⟨d,e,r1,r2,s1,s2,kk,e5,q⟩
     ·exact .inl ⟨i,j,e3,e4,kk,e5,hq _ _ q⟩
     ·exact .inr ⟨d,e,r1,r2,s1,s2,kk,e5,hq _ _ q⟩
theorem Np:bp ["thing"] ["thing"] (aV Fo):=bI (by decide+kernel)
theorem a2G(F:FA K mg "is_whole" Fo)(B:bP mg):aD P w K mg base "is_whole" 1 (uX K):=by
 refine F.has Np (fun vs H Q E h=>?_) (fun _ _ _ _ _ _=>eK fun _=>rfl) (fun f aL A outer s H vs Q E hr h=>?_)
 · obtain⟨v,T,rfl,_⟩:=h
   rfl
 · obtain⟨v,T,rfl,ty,k⟩:=h
   have nd:=Np.nd;refine⟨_,(aG (aU (iE (dF K B (O (pv 0) (O (cY (x:="int") (v:=.ty "int") rfl (B.at "int") Kd rfl) aw))) (iW (Oz (dF K B (O (pv 0) (O (cY (x:="bool") (v:=.ty "bool") rfl (B.at "bool") WA rfl) aw)))))))),?_⟩;refine⟨_,rfl,.inl ⟨_,T,"int",_,rfl,ty,by decide,rfl,_,rfl,?_⟩⟩;unfold vV at k;refine dN (fun hc=>?_) (fun hc=>?_)
   · refine⟨_,rfl,.inl ⟨_,T,"bool",_,rfl,ty,by decide,rfl,_,rfl,?_⟩⟩
     rw[hc,ko]at k;exact k
   · rw[xk.mpr hc,kJ]at k
     exact k
open Ln
def iH(ns:List Int)(sp:Int):ai:=.tuple [.str "line",.tuple (ns.map PyData.int),.int sp]
theorem Bg(ns:List Int)(sp:Int):fu (iH ns sp)=true:=by simp[iH,fu,cN,kR]
structure eR(ax:Nat)(m:Int)(ns:List Int):Prop where
 len:ns.length=ax
 bd:∀z∈ns,(z.natAbs:Int)<=m
 nz:∃z∈ns,z≠0
theorem eR.lead{ax:Nat}{m:Int}{ns:List Int}(h:eR ax m ns):0<aH ns/\(aH ns:Int)<=m:=by
 refine⟨a4x h.nz,?_⟩;have hm:0<=m:=by obtain⟨z,hz,_⟩:=h.nz;have:=h.bd z hz;lia
 have:=nc (ns:=ns) (m:=m.toNat) fun z hz=>by have:=h.bd z hz;lia
 lia
theorem eR.ne{ax:Nat}{m:Int}{ns:List Int}(h:eR ax m ns):ns≠[]:=by obtain⟨z,hz,_⟩:=h.nz;intro e;subst e;cases hz
theorem lV{H:Hp}{v:V}{ns:List Int}{sp:Int}(h:RD K H v (iH ns sp)):∃a b,v= .ref a/\aP K H a [.str "line",.ref b,.int sp]/\aP K H b (ns.map V.int):=by obtain⟨a,xs,rfl,h1,h2⟩:=h.eu;obtain⟨x1,r1,rfl,e1,h2⟩:=h2.cons_inv;obtain⟨x2,r2,rfl,e2,h2⟩:=h2.cons_inv;obtain⟨x3,r3,rfl,e3,h2⟩:=h2.cons_inv;cases h2.nil_inv;cases e1.str_inv;cases e3.int_inv;obtain⟨b,ys,rfl,h3,h4⟩:=e2.eu;rw[h4.iY]at h3;exact⟨a,b,rfl,h1,h3⟩
inductive Vg(K:aa)(vs:List V)(H:Hp)(Q:VK):Prop |mk (v:_)(ns:_)(sp:_)(h0:vs=[v])(h1:RD K H v (iH ns sp))(h2:ns≠[])(h3:ns.length<=1000)(h4:∀H',aE H H'->Q (.int (aH ns)) H'):Vg K vs H Q
def lO(K:aa):Sp:=fun vs H Q _=>Vg K vs H Q
theorem md{ns:List Int}{f:Int->ai}{i:Nat}{d:ai}(h:(ns.map f)[i]? =some d):∃n,ns[i]? =some n/\f n=d:=by rw[cA]at h;cases e:ns[i]? with |none=>rw[e]at h;cases h |some n=>rw[e]at h;exact⟨n,rfl,dP h⟩
theorem yo{ns:List Int}{i:Nat}{x:V}{n:Int}(h:(ns.map V.int)[i]? =some x)(e:ns[i]? =some n):x= .int n:=by rw[cA,e]at h;exact(dP h).symm
theorem Nh:bp ["_law_line_here"] ["_law_line_here"] (aV Fg):=bI (by decide+kernel)
theorem a2E(F:FA K mg "_law_lead" Fg)(B:bP mg):aD P w K mg base "_law_lead" 1 (lO K):=by
 refine F.has Nh (fun vs H Q E h=>?_) (fun _ _ _ _ _ _=>eK fun _=>rfl) (fun f aL A outer s H vs Q E hr h=>?_)
 · obtain⟨v,ns,sp,rfl,_⟩:=h
   rfl
 · obtain⟨v,ns,sp,rfl,rd,dG,hz,k⟩:=h
   have nd:=Nh.nd;obtain⟨a,b,rfl,ha,hb⟩:=lV rd;refine⟨_,(aG (aU (dh (x:="max") (GX K rfl rfl) rfl (B.at "max") CW (O (gd (N:=["_law_step"]) (js:=[none]) rfl rfl rfl (qj K rfl (px K (pv 0) az)) (fun _ _ _ _ _=>(bu 0 (tm _))) (fun _ _ _ _ _=>fF) (fun _ _ _ _ _=>(dh (x:="abs") nQ rfl (B.at "abs") pM (O (pv 0) aw)))) aw)))),?_⟩;refine⟨_,rfl,.inr ⟨a,_,1,.ref b,rfl,rfl,ha,rfl,b,rfl,⟨_,hb⟩,fun D H0 nw=>?_⟩⟩;refine Ci (K:=K) (xs:=ns.map V.int) (ds:=(ns.map iK).map PyData.int) [] hb nw (by simp) (by simpa using hz) (kR _) ?_ ?_
   · intro i x d H2 Q' ex ed s2 hq
     obtain⟨m,em,rfl⟩:=md ed;rw[cA]at em;cases en:ns[i]? with |none=>rw[en]at em;cases em |some n=>rw[en]at em;cases em;cases yo ex en;exact⟨_,rfl,n,rfl,hq _ _ (aE.refl _) (dC _)⟩
   · intro H' ys s2 d2 r2
     rw[r2.iY]at d2;refine⟨D,_,rfl,aF.of d2,by simpa using dG,fun M h1 h2=>?_⟩;rw[Hg dG h1 h2];exact k H' s2
theorem Ng:bp ["line"] ["line"] (aV Ff):=bI (by decide+kernel)
theorem a2D(F:FA K mg "lead_of" Ff)(B:bP mg):aD P w K mg base "lead_of" 1 (lO K):=by
 refine F.has Ng (fun vs H Q E h=>?_) (fun _ _ _ _ _ _=>eK fun _=>rfl) (fun f aL A outer s H vs Q E hr h=>?_)
 · obtain⟨v,ns,sp,rfl,_⟩:=h
   rfl
 · obtain⟨v,ns,sp,rfl,rd,dG,hz,k⟩:=h
   have nd:=Ng.nd;obtain⟨a,b,rfl,ha,hb⟩:=lV rd;refine⟨_,(aG (aU (dh (x:="max") (GX K rfl rfl) rfl (B.at "max") CW (O (gd (N:=["step"]) (js:=[none]) rfl rfl rfl (qj K rfl (px K (pv 0) az)) (fun _ _ _ _ _=>(bu 0 (tm _))) (fun _ _ _ _ _=>fF) (fun _ _ _ _ _=>(dh (x:="abs") nQ rfl (B.at "abs") pM (O (pv 0) aw)))) aw)))),?_⟩;refine⟨_,rfl,.inr ⟨a,_,1,.ref b,rfl,rfl,ha,rfl,b,rfl,⟨_,hb⟩,fun D H0 nw=>?_⟩⟩;refine Ci (K:=K) (xs:=ns.map V.int) (ds:=(ns.map iK).map PyData.int) [] hb nw (by simp) (by simpa using hz) (kR _) ?_ ?_
   · intro i x d H2 Q' ex ed s2 hq
     obtain⟨m,em,rfl⟩:=md ed;rw[cA]at em;cases en:ns[i]? with |none=>rw[en]at em;cases em |some n=>rw[en]at em;cases em;cases yo ex en;exact⟨_,rfl,n,rfl,hq _ _ (aE.refl _) (dC _)⟩
   · intro H' ys s2 d2 r2
     rw[r2.iY]at d2;refine⟨D,_,rfl,aF.of d2,by simpa using dG,fun M h1 h2=>?_⟩;rw[Hg dG h1 h2];exact k H' s2
open Rt
theorem Nj:bp ["p","q","divisor"] ["p","q"] (aV Fh):=bI (by decide+kernel)
theorem a2x(F:FA K mg "lowest_terms" Fh)(B:bP mg)(a6G:aD P w K mg base "common_divisor" 1 DW):aD P w K mg base "lowest_terms" 2 uV:=by
 refine F.has Nj (fun vs H Q E h=>?_) (fun _ _ _ _ _ _=>dy fun _ _=>rfl) (fun f aL A outer s H vs Q E hr h=>?_)
 · obtain⟨a,b,rfl,_⟩:=h
   rfl
 · obtain⟨a,b,rfl,hb,wb,k⟩:=h
   have nd:=Nj.nd;have sw:Wd (Ar.sg a b):=pN (Ar.Mp hb) wb;refine⟨_,(aB (pS 2 nd (pf a6G hr (O (pv 0) (O (pv 1) aw)))) (aB (gJ (bJ (bZ jQ (pv 1) az (bw _)) (aG (pS 2 nd (xX xq (pv 2)))) bO)) (aG (aU (dS (O (aI OU (pv 0) (pv 2)) (O (aI OU (pv 1) (pv 2)) aw))))))),?_⟩;refine⟨_,rfl,_,rfl,a,b,rfl,?_⟩;refine⟨fun Z H'=>H'=H/\Z=[some (.int a),some (.int b),some (.int (Ar.sg a b))],?_,?_⟩
   · refine⟨_,rfl,_,_,rfl,rfl,_,rfl,?_⟩
     refine dN (fun hc=>?_) (fun hc=>?_)
     · have hd:b<0:=jI hc
       refine⟨_,rfl,_,rfl,?_⟩;refine⟨rfl,?_⟩;unfold Ar.sg;rw[bc hd];rfl
     · have hd:¬b<0:=fun z=>hc (cH z)
       refine⟨rfl,?_⟩;unfold Ar.sg;rw[bf hd];rfl
   rintro Z H' ⟨rfl,rfl⟩;refine⟨_,rfl,_,rfl,_,_,rfl,rfl,⟨Ar.xK hb,sw⟩,_,rfl,_,rfl,_,_,rfl,rfl,⟨Ar.xK hb,sw⟩,(by show 2<=sizeLine;decide),fun t H4 nw=>?_⟩;exact k t H4 nw
def bh(K:aa)(H:Hp)(v:V)(r:Rat):Prop:=∃p,v= .ref p/\aP K H p [.int r.num,.int r.den]
theorem bh.go{H H':Hp}{v:V}{r:Rat}(h:bh K H v r)(s:aE H H'):bh K H' v r:=by obtain⟨p,e,q⟩:=h;exact⟨p,e,q.go s⟩
def cR(r:Rat):ai:=.tuple [.int r.num,.int r.den]
theorem bh.rd{H:Hp}{v:V}{r:Rat}(h:bh K H v r):RD K H v (cR r):=by obtain⟨p,rfl,q⟩:=h;exact iT q (bW (dC _) (bW (dC _) cU))
theorem Of(r:Rat):dw 1 (cR r):=gy.tup (.cons (.int _) (.cons (.int _) .nil))
theorem a05(r:Rat):SeqAt.shaped (cR r)=true:=(Of r).shaped (by decide)
theorem eqR{r s:Rat}(h:r=s):PyData.eqv (cR r) (cR s)=true:=by rw[h];exact(Of s).refl
theorem gZ{n:Nat}{i:Int}(h:i.natAbs<2^n)(l:n<=5000):Wd i:=g9 h (rL (by decide) l)
theorem _root_.Rt.Bd.wn{r:Rat}(h:Bd 2000 r):Wd r.num:=gZ h.num (by decide)
theorem _root_.Rt.Bd.wd{r:Rat}(h:Bd 2000 r):Wd (r.den:Int):=gZ (n:=2000) (by have:=h.den;omega) (by decide)
theorem zW{r s:Rat}(h:Bd 2000 r)(g:Bd 2000 s):Wd ((r.den:Int)*(s.den:Int)):=gZ (n:=4000) (Jo h g) (by decide)
theorem AH{H':Hp}{t:Addr}{a b:Int}{r:Rat}(hb:b≠0)(e:r=Rat.divInt a b)(h:H' t=some (.tup [.int (Ar.lowP a b),.int (Ar.gL a b)])):bh K H' (.ref t) r:=by obtain⟨e1,e2⟩:=Bb (a:=a) hb;rw[e1,e2,<-e]at h;exact⟨t,rfl,aP.of h⟩
inductive V2(op:Rat->Rat->Rat)(K:aa)(vs:List V)(H:Hp)(Q:VK):Prop |mk (v1:_)(v2:_)(r:_)(s:_)(h0:vs=[v1,v2])(h1:bh K H v1 r)(h2:bh K H v2 s)(h3:Bd 2000 r)(h4:Bd 2000 s)(h5:∀v H',bh K H' v (op r s)->aE H H'->Q v H'):V2 op K vs H Q
def mM(op:Rat->Rat->Rat)(K:aa):Sp:=fun vs H Q _=>V2 op K vs H Q
theorem N8:bp ["one","other","p","q","r","s"] ["one","other"] (aV F7):=bI (by decide+kernel)
theorem a2u(F:FA K mg "minus" F7)(B:bP mg)(tS:aD P w K mg base "lowest_terms" 2 uV):aD P w K mg base "minus" 3 (mM (·-·) K):=by
 refine F.has N8 (fun vs H Q E h=>?_) (fun _ _ _ _ _ _=>dy fun _ _=>rfl) (fun f aL A outer s H vs Q E hr h=>?_)
 · obtain⟨v1,v2,r,s,rfl,_⟩:=h
   rfl
 · obtain⟨v1,v2,r,s,rfl,⟨p,rfl,hp⟩,⟨q,rfl,hq⟩,br,bs,k⟩:=h
   have nd:=N8.nd;refine⟨_,(aB (fU (pv 0) (dR K rfl (n:=2) rfl (bR (bu 2 nd) (bR (bu 3 nd) dQ)))) (aB (fU (pv 1) (dR K rfl (n:=2) rfl (bR (bu 4 nd) (bR (bu 5 nd) dQ)))) (aG (aU (pf tS hr (O (aI gh (aI bE (pv 2) (pv 5)) (aI bE (pv 4) (pv 3))) (O (aI bE (pv 3) (pv 5)) aw))))))),?_⟩;refine⟨_,rfl,_,_,rfl,hp,rfl,_,_,rfl,_,_,rfl,rfl,?_⟩;refine⟨_,rfl,_,_,rfl,hq,rfl,_,_,rfl,_,_,rfl,rfl,?_⟩;refine⟨_,rfl,_,rfl,_,_,rfl,rfl,iA br.wn.bits bs.wd.bits,_,rfl,_,rfl,_,_,rfl,rfl,iA bs.wn.bits br.wd.bits,_,_,rfl,rfl,_,rfl,_,rfl,_,_,rfl,rfl,iA br.wd.bits bs.wd.bits,?_⟩;exact⟨_,_,rfl,pC r s,zW br bs,fun t H' nw=>k _ _ (AH (pC r s) (Yh r s) nw.at') nw.same⟩
theorem xr_dvd {a : Int} {b : Nat} {x : Rat} (hb : b ≠ 0) (hx : Rat.divInt a b = x) : ∃ g, a = x.num * g ∧ (b : Int) = x.den * g := by
  obtain ⟨g, _, p⟩ := Rat.divInt_num_den (z' := x.den_nz) (c := x.reduced) (by omega) hx
  exact ⟨g, p⟩
theorem xr_mul {r s x y : Rat} (hx : Rat.divInt r.num s.den = x) (hy : Rat.divInt s.num r.den = y) (m : r * s = Rat.divInt (r.num * s.num) (r.den * s.den)) : x.num * y.num = (r * s).num ∧ (y.den : Int) * x.den = (r * s).den := by
  obtain ⟨g, h1, h2⟩ := xr_dvd s.den_nz hx
  obtain ⟨h, h3, h4⟩ := xr_dvd r.den_nz hy
  have w : ∀ {q : Rat} {a b g h : Int}, q.num = a * g → q.den = b * h → a.natAbs.Coprime b.natAbs := fun {q a b g h} p z => by
    have c : Int.gcd q.num q.den = 1 := q.reduced
    rw [p, z, Int.gcd_eq_natAbs_gcd_natAbs, Int.natAbs_mul, Int.natAbs_mul] at c
    exact Nat.Coprime.coprime_mul_right_right (Nat.Coprime.coprime_mul_right c)
  have c : (x.num * y.num).natAbs.gcd (x.den * y.den) = 1 := by
    rw [Int.natAbs_mul]; exact Nat.Coprime.mul_left (Nat.Coprime.mul_right x.reduced (w h1 h4)) (Nat.Coprime.mul_right (w h3 h2) y.reduced)
  have e : r * s = x * y := by rw [m, ← hx, ← hy, Rat.divInt_mul_divInt, Int.mul_comm (s.den : Int)]
  rw [e, Rat.num_mul, Rat.den_mul, c, Nat.div_one, Nat.mul_comm x.den]
  exact ⟨(Int.ediv_one _).symm, rfl⟩
theorem MB:bp ["one","other","p","s","r","q"] ["one","other"] (aV Ed):=bI (by decide+kernel)
theorem a1K(F:FA K mg "times" Ed)(B:bP mg)(tS:aD P w K mg base "lowest_terms" 2 uV):aD P w K mg base "times" 3 (mM (·*·) K):=by
 refine F.has MB (fun vs H Q E h=>?_) (fun _ _ _ _ _ _=>dy fun _ _=>rfl) (fun f aL A outer s H vs Q E hr h=>?_)
 · obtain⟨v1,v2,r,s,rfl,_⟩:=h
   rfl
 · obtain⟨v1,v2,r,s,rfl,⟨p,rfl,hp⟩,⟨q,rfl,hq⟩,br,bs,k⟩:=h
   have nd:=MB.nd;have nr:=Int.ne_of_gt (den_pos r);have ns:=Int.ne_of_gt (den_pos s)
   refine ⟨_,(aB (fU (pf tS hr (O (px K (pv 0) az) (O (px K (pv 1) az) aw))) (dR K rfl (n:=2) rfl (bR (bu 2 nd) (bR (bu 3 nd) dQ)))) (aB (fU (pf tS hr (O (px K (pv 1) az) (O (px K (pv 0) az) aw))) (dR K rfl (n:=2) rfl (bR (bu 4 nd) (bR (bu 5 nd) dQ)))) (aG (aU (dS (O (aI bE (pv 2) (pv 4)) (O (aI bE (pv 5) (pv 3)) aw))))))),?_⟩
   refine ⟨_,rfl,Or.inr ⟨_,_,_,_,rfl,rfl,hp,rfl,_,rfl,Or.inr ⟨_,_,_,_,rfl,rfl,hq,rfl,_,_,rfl,ns,bs.wd,fun t1 H1 n1=>?_⟩⟩⟩
   obtain ⟨_,e,g1⟩:=AH ns rfl n1.at';cases e
   refine ⟨_,_,rfl,g1,rfl,_,_,rfl,_,_,rfl,rfl,?_⟩
   refine ⟨_,rfl,Or.inr ⟨_,_,_,_,rfl,rfl,hq.go n1.same,rfl,_,rfl,Or.inr ⟨_,_,_,_,rfl,rfl,hp.go n1.same,rfl,_,_,rfl,nr,br.wd,fun t2 H2 n2=>?_⟩⟩⟩
   obtain ⟨_,e,g2⟩:=AH nr rfl n2.at';cases e
   refine ⟨_,_,rfl,g2,rfl,_,_,rfl,_,_,rfl,rfl,?_⟩
   have b1:Bd 2000 _:=kz ns br.num (by have:=bs.den;omega)
   have b2:Bd 2000 _:=kz nr bs.num (by have:=br.den;omega)
   refine ⟨_,rfl,_,rfl,_,_,rfl,rfl,iA b1.wn.bits b2.wn.bits,_,rfl,_,rfl,_,_,rfl,rfl,iA b2.wd.bits b1.wd.bits,bU rfl,fun t H' n=>k _ _ ⟨t,rfl,aP.of ?_⟩ (n1.same.trans (n2.same.trans n.same))⟩
   obtain ⟨e1,e2⟩:=xr_mul rfl rfl (mul_div r s)
   rw [← e1,← e2]; exact n.at'
inductive Ve(K:aa)(vs:List V)(H:Hp)(Q:VK):Prop |mk (v1:_)(v2:_)(r:_)(s:_)(h0:vs=[v1,v2])(h1:bh K H v1 r)(h2:bh K H v2 s)(h3:Bd 2000 r)(h4:Bd 2000 s)(h5:Q (.bl (decide (r<s))) H):Ve K vs H Q
def uW(K:aa):Sp:=fun vs H Q _=>Ve K vs H Q
theorem Nd:bp ["one","other","p","q","r","s"] ["one","other"] (aV Fd):=bI (by decide+kernel)
theorem a2B(F:FA K mg "is_less" Fd)(B:bP mg):aD P w K mg base "is_less" 1 (uW K):=by
 refine F.has Nd (fun vs H Q E h=>?_) (fun _ _ _ _ _ _=>dy fun _ _=>rfl) (fun f aL A outer s H vs Q E hr h=>?_)
 · obtain⟨v1,v2,r,s,rfl,_⟩:=h
   rfl
 · obtain⟨v1,v2,r,s,rfl,⟨p,rfl,hp⟩,⟨q,rfl,hq⟩,br,bs,k⟩:=h
   have nd:=Nd.nd;refine⟨_,(aB (fU (pv 0) (dR K rfl (n:=2) rfl (bR (bu 2 nd) (bR (bu 3 nd) dQ)))) (aB (fU (pv 1) (dR K rfl (n:=2) rfl (bR (bu 4 nd) (bR (bu 5 nd) dQ)))) (aG (aU (fq jQ (aI bE (pv 2) (pv 5)) (aI bE (pv 4) (pv 3)) (bw _)))))),?_⟩;refine⟨_,rfl,_,_,rfl,hp,rfl,_,_,rfl,_,_,rfl,rfl,?_⟩;refine⟨_,rfl,_,_,rfl,hq,rfl,_,_,rfl,_,_,rfl,rfl,?_⟩;refine⟨_,rfl,_,rfl,_,_,rfl,rfl,iA br.wn.bits bs.wd.bits,_,rfl,_,rfl,_,_,rfl,rfl,iA bs.wn.bits br.wd.bits,_,_,rfl,rfl,?_⟩;have e:decide (r.num*(s.den:Int)<s.num*(r.den:Int))=decide (r<s):=by rw[om,rH,rH,CU]
   show Q (.bl (decide (r.num*(s.den:Int)<s.num*(r.den:Int)))) H;rw[e];exact k
def rj(K:aa)(H:Hp):List V->List Rat->Prop |[],[]=>True |v::vs,r::rs=>bh K H v r/\Bd 2000 r/\rj K H vs rs |_,_=>False
theorem rj.length{H:Hp}:∀{vs:List V}{rs:List Rat},rj K H vs rs->vs.length=rs.length |[],[],_=>rfl |v::vs,r::rs,h=>by rw[kn,kn,rj.length h.2.2] |[],_::_,h=>h.elim |_::_,[],h=>h.elim
theorem rj.get{H:Hp}:∀{vs:List V}{rs:List Rat}{i:Nat}{v:V},rj K H vs rs->vs[i]? =some v->∃r,rs[i]? =some r/\bh K H v r/\Bd 2000 r
  |[],[],i,v,_,e=>by simp at e |v::vs,r::rs,0,v',h,e=>by
    have e':v=v':=by simpa using e
    subst e';exact⟨r,rfl,h.1,h.2.1⟩ |v::vs,r::rs,i+1,v',h,e=>by obtain⟨r',e1,q⟩:=rj.get h.2.2 (show vs[i]? =some v' by simpa using e);exact⟨r',by simpa using e1,q⟩ |[],_::_,_,_,h,_=>h.elim |_::_,[],_,_,h,_=>h.elim
inductive Vf(K:aa)(vs:List V)(H:Hp)(Q:VK):Prop |mk (l:_)(xs:_)(rs:_)(h0:vs=[.ref l])(h1:aF K H l xs)(h2:rj K H xs rs)(h3:xs≠[])(h4:∀(i:Nat)(v:V)(r:Rat),xs[i]? =some v->rs[i]? =some r->(∀s∈rs,r<=s)->Q v H):Vf K vs H Q
def jn(K:aa):Sp:=fun vs H Q _=>Vf K vs H Q
theorem Nf:bp ["some","best","one"] ["some"] (aV Fe):=bI (by decide+kernel)
theorem a2C(F:FA K mg "least" Fe)(B:bP mg)(Ig:aD P w K mg base "is_less" 1 (uW K)):aD P w K mg base "least" 2 (jn K):=by
 refine F.has Nf (fun vs H Q E h=>?_) (fun _ _ _ _ _ _=>eK fun _=>rfl) (fun f aL A outer s H vs Q E hr h=>?_)
 · obtain⟨l,xs,rs,rfl,_⟩:=h
   rfl
 · obtain⟨l,xs,rs,rfl,hl,mh,dG,k⟩:=h
   have nd:=Nf.nd;refine⟨_,(aB (pS 1 nd (px K (pv 0) az)) (aB (lS gY rfl (xW K rfl (pv 0)) (bu 2 nd) (aG (bJ (cM (pf Ig hr (O (pv 2) (O (pv 1) aw)))) (aG (pS 1 nd (pv 2))) bO))) (aG (aU (pv 1))))),?_⟩;have hlen:=mh.length;have h0:0<xs.length:=Km.mpr dG;have e0:=cj h0;refine⟨_,rfl,.inl ⟨l,xs,0,xs[0],rfl,rfl,hl,dc (by decide) e0,?_⟩⟩;refine⟨_,rfl,l,rfl,⟨_,hl⟩,IM (K:=K) (a:=l) (xs:=xs) (fun i Z H2=>H2=H/\∃(j:Nat)(b:V)(r:Rat)(v:Option V),xs[j]? =some b/\rs[j]? =some r/\(∀(m:Nat)(s:Rat),m<i->rs[m]? =some s->r<=s)/\Z=[some (.ref l),some b,v]) ?_ (fun i Z H2 _ h=>by rw[h.1];exact hl) ?_ ?_⟩
   · obtain⟨r,e1,_⟩:=mh.get e0
     exact⟨rfl,0,_,r,none,e0,e1,fun m s hm=>absurd hm (Nat.not_lt_zero _),rfl⟩
   · rintro i x Z H2 hx ⟨rfl,j,b,r,v,eb,er,hm,rfl⟩
     obtain⟨t,et,rt,bt⟩:=mh.get hx;obtain⟨r2,nH,rb,bb⟩:=mh.get eb;rw[er]at nH;cases nH;refine⟨_,rfl,_,rfl,x,b,t,r,rfl,rt,rb,bt,bb,_,rfl,?_⟩;refine dN (fun hc=>?_) (fun hc=>?_)
     · have cx:t<r:=jI hc
       refine⟨_,rfl,?_⟩;refine⟨rfl,i,x,t,_,hx,et,fun m s tR es=>?_,rfl⟩;rcases Kh.mp tR with h|h
       ·exact eg (K8 cx) (hm m s h es)
       · subst h
         rw[et]at es;cases es;exact pK
     · have HU:¬t<r:=fun z=>hc (cH z)
       refine⟨rfl,j,b,r,_,eb,er,fun m s tR es=>?_,rfl⟩;rcases Kh.mp tR with h|h
       ·exact hm m s h es
       · subst h
         rw[et]at es;cases es;exact zG.mp HU
   · rintro Z H2 ⟨rfl,j,b,r,v,eb,er,hm,rfl⟩
     refine⟨_,rfl,k j b r eb er fun s hs=>?_⟩;obtain⟨m,Ib,em⟩:=WE.mp hs;exact hm m s (by lia) (by rw[cj Ib,em])
inductive Va(K:aa)(vs:List V)(H:Hp)(Q:VK):Prop |mk (a:_)(b:_)(h0:vs=[.int a,.int b])(h1:b≠0)(h2:Wd b)(h3:∀v H',bh K H' v (Rat.divInt a b)->aE H H'->Q v H'):Va K vs H Q
def uU(K:aa):Sp:=fun vs H Q _=>Va K vs H Q
theorem Ny:bp ["p","q"] ["p","q"] (aV Fv):=bI (by decide+kernel)
theorem a2O(F:FA K mg "fraction" Fv)(B:bP mg)(BG:aD P w K mg base "is_whole" 1 (uX K))(tS:aD P w K mg base "lowest_terms" 2 uV):aD P w K mg base "fraction" 3 (uU K):=by
 refine F.has Ny (fun vs H Q E h=>?_) (fun _ _ _ _ _ _=>dy fun _ _=>rfl) (fun f aL A outer s H vs Q E hr h=>?_)
 · obtain⟨a,b,rfl,_⟩:=h
   rfl
 · obtain⟨a,b,rfl,hb,wb,k⟩:=h
   have nd:=Ny.nd;refine⟨_,(aB (bJ (PW.pt (kP (fk (cM (pf BG hr (O (pv 0) aw)))) (lR (fk (cM (pf BG hr (O (pv 1) aw))))))) (aG vi) bO) (aB (bJ (bZ (cQ K rfl hr.units) (pv 1) az (bw _)) (aG vi) bO) (aG (aU (pf tS hr (O (pv 0) (O (pv 1) aw))))))),?_⟩;have iw:vV "int"=true:=by decide
   refine⟨_,rfl,_,"int",rfl,rfl,_,rfl,?_⟩;rw[iw];refine bF ?_;refine⟨_,rfl,_,"int",rfl,rfl,_,rfl,?_⟩;rw[iw];refine bF ?_;refine⟨_,rfl,.inl ⟨_,_,rfl,rfl,_,rfl,?_⟩⟩;rw[fe hb];refine bF ?_;exact⟨_,rfl,_,rfl,_,_,rfl,hb,wb,fun t H' nw=>k _ _ (AH hb rfl nw.at') nw.same⟩
def iX(rs:List Int)(r f j t:Int):ai:=.tuple [.tuple (rs.map PyData.int),.int r,.int f,.int j,.int t]
theorem jd(rs:List Int)(r f j t:Int):fu (iX rs r f j t)=true:=by simp[iX,fu,cN,kR]
theorem kW{H:Hp}{v:V}{rs:List Int}{r f j t:Int}(h:RD K H v (iX rs r f j t)):∃a b,v= .ref a/\aP K H a [.ref b,.int r,.int f,.int j,.int t]/\aP K H b (rs.map V.int):=by obtain⟨a,xs,rfl,h1,h2⟩:=h.eu;obtain⟨x1,r1,rfl,e1,h2⟩:=h2.cons_inv;obtain⟨x2,r2,rfl,e2,h2⟩:=h2.cons_inv;obtain⟨x3,r3,rfl,e3,h2⟩:=h2.cons_inv;obtain⟨x4,r4,rfl,e4,h2⟩:=h2.cons_inv;obtain⟨x5,r5,rfl,e5,h2⟩:=h2.cons_inv;cases h2.nil_inv;cases e2.int_inv;cases e3.int_inv;cases e4.int_inv;cases e5.int_inv;obtain⟨b,ys,rfl,h3,h4⟩:=e1.eu;rw[h4.iY]at h3;exact⟨a,b,rfl,h1,h3⟩
structure nU(rs:List Int)(r f j t:Int):Prop where
 len:rs.length=2\/rs.length=3
 rl:∀z∈rs,1<=z/\z<=100
 r1:1<=r/\r<=50
 f1:1<=f/\f<=50
 j1:1<=j/\j<=50
 t1:1<=t/\t<=100
inductive Vb(K:aa)(vs:List V)(H:Hp)(Q:VK):Prop |mk (p:_)(h0:vs=[.ref p])(h1:gz H p)(h2:∀v rs r f j t H',RD K H' v (iX rs r f j t)->nU rs r f j t->bT p H H'->Q v H'):Vb K vs H Q
def Mf(K:aa):Sp:=fun vs H Q _=>Vb K vs H Q
theorem Na:bp ["_law_bag_here","_law_kind","_law_most","_law_rails"] ["_law_bag_here"] (aV F9):=bI (by decide+kernel)
theorem a2w(F:FA K mg "_law_machine" F9)(B:bP mg)(dZ:aD P w K mg base "_law_take" 1 pW):aD P w K mg base "_law_machine" 2 (Mf K):=by
 refine F.has Na (fun vs H Q E h=>?_) (fun _ _ _ _ _ _=>eK fun _=>rfl) (fun f aL A outer s H vs Q E hr h=>?_)
 · obtain⟨p,rfl,_⟩:=h
   rfl
 · obtain⟨p,rfl,bg,k⟩:=h
   have nd:=Na.nd;refine⟨_,(aB (pS 1 nd (pf dZ hr (O (pv 0) (O az aw)))) (aB (pS 2 nd (px K (dv (O az (O az (O az (O az (O az (O az (O az (O az aw))))))))) (pv 1))) (aB (pS 3 nd (ib (x:="tuple") (kL K rfl) rfl (B.at "tuple") fL (O (gd (N:=["_law_axis","_law_bag_here","_law_most"]) (js:=[none,some 0,some 2]) rfl rfl rfl (xV rfl (B.at "range") (O (aI cS az (pf dZ hr (O (pv 0) (O az aw)))) aw)) (fun _ _ _ _ _=>(bu 0 (show List.Nodup (["_law_axis","_law_bag_here","_law_most"]:List Str) by decide+kernel))) (fun _ _ _ _ _=>fF) (fun _ _ _ _ _=>(aI cS az (pf dZ hr (O (pv 1) (O (pv 2) aw)))))) aw))) (aB (bJ (bZ (cQ K rfl hr.units) (pv 1) az (bw _)) (aG (aU (dS (O (pv 3) (O (aI cS az (aI bE az (pf dZ hr (O (pv 0) (O az aw))))) (O (aI cS az (aI bE az (pf dZ hr (O (pv 0) (O az aw))))) (O (aI cS az (aI bE az (pf dZ hr (O (pv 0) (O az aw))))) (O az aw)))))))) bO) (aG (aU (dS (O (pv 3) (O (aI cS az (pf dZ hr (O (pv 0) (O az aw)))) (O (aI cS az (pf dZ hr (O (pv 0) (O az aw)))) (O (aI cS az (pf dZ hr (O (pv 0) (O az aw)))) (O (aI cS az (pf dZ hr (O (pv 0) (O az aw)))) aw)))))))))))),?_⟩;refine⟨_,rfl,p,8,rfl,bg,by decide,by decide,fun kd H1 k0 k1 b1=>?_⟩;refine⟨bU rfl,fun l H2 nw=>?_⟩;have b2:bT p H1 H2:=.jt b1.bL nw.same;obtain⟨gk,mf,ef⟩:=a58 [100,100,100,60,60,20,5,100] k0 k1;have f1:1<=gk/\gk<=100:=by
    have h:∀z∈([100,100,100,60,60,20,5,100]:List Int),1<=z/\z<=100:=by decide
    exact h gk mf
   refine⟨_,rfl,.inl ⟨l,_,_,_,rfl,rfl,aF.of nw.at',ef,?_⟩⟩;refine⟨_,rfl,p,2,rfl,b2.bL,by decide,by decide,fun ax H3 a0 a1 b3=>?_⟩;refine⟨_,_,rfl,rfl,_,rfl,by lia,by lia,fun D H4 n4=>?_⟩;refine aax (J:=nV 0 (2+ax).toNat) (p:=p) (H:=H3) (2+ax).toNat _ n4 b3.bL (by lia) (fun i=>.int (0+(i:Int))) (fun i H5 hi _=>⟨hi,fun y H6 ⟨e,q⟩=>⟨e,q⟩⟩) (fun H5 _=>bK _) (fun z=>1<=z/\z<=100) ?_ ?_
   · intro i H5 Q' hi b5 hq
     refine⟨_,rfl,_,rfl,p,gk,rfl,b5.bL,f1.1,by lia,fun d H6 d0 d1 b6=>?_⟩;exact⟨_,_,rfl,rfl,hq _ _ (by lia) b6⟩
   intro H5 is b5 d5 l5 Tt;have ur:=b1.trans (b2.trans (b3.trans b5));refine⟨D,_,rfl,.inl ⟨aF.of d5,fun q H6 n6=>?_⟩⟩;have b6:bT p H5 H6:=.jt ur.bL n6.same;have q6:aP K H6 q (is.map V.int):=aP.of n6.at';refine⟨_,rfl,.inl ⟨_,_,rfl,rfl,_,rfl,?_⟩⟩;refine dN (fun hc=>?_) (fun hc=>?_)
   · refine⟨_,rfl,_,rfl,p,2,rfl,b6.bL,by decide,by decide,fun ri H7 ZO ZN b7=>?_⟩
     refine⟨_,_,rfl,rfl,.of_left (cg (by decide) (by decide)),_,_,rfl,rfl,?_⟩;refine⟨_,rfl,p,2,rfl,b7.bL,by decide,by decide,fun fa H8 fa0 fa1 b8=>?_⟩;refine⟨_,_,rfl,rfl,.of_left (cg (by decide) (by decide)),_,_,rfl,rfl,?_⟩;refine⟨_,rfl,p,2,rfl,b8.bL,by decide,by decide,fun ju H9 ju0 ju1 b9=>?_⟩;refine⟨_,_,rfl,rfl,.of_left (cg (by decide) (by decide)),_,_,rfl,rfl,?_⟩;refine⟨bU rfl,fun t jF jS=>?_⟩;have Cu:bT p H9 jF:=.jt b9.bL jS.same;have Tw:=b7.trans (b8.trans (b9.trans Cu));have q10:aP K jF q (is.map V.int):=aP.t (bT.t b6.bL Tw) q6;exact k (.ref t) is (1+49*ri) (1+49*fa) (1+49*ju) 100 jF (iT (aP.of jS.at') (bW (iT q10 (vg is)) (bW (dC _) (bW (dC _) (bW (dC _) (bW (dC _) cU)))))) ⟨by lia,Tt,by lia,by lia,by lia,by lia⟩ (ur.trans (b6.trans Tw))
   · refine⟨_,rfl,_,rfl,p,50,rfl,b6.bL,by decide,by decide,fun ri H7 ZO ZN b7=>?_⟩
     refine⟨_,_,rfl,rfl,?_⟩;refine⟨_,rfl,p,50,rfl,b7.bL,by decide,by decide,fun fa H8 fa0 fa1 b8=>?_⟩;refine⟨_,_,rfl,rfl,?_⟩;refine⟨_,rfl,p,50,rfl,b8.bL,by decide,by decide,fun ju H9 ju0 ju1 b9=>?_⟩;refine⟨_,_,rfl,rfl,?_⟩;refine⟨_,rfl,p,100,rfl,b9.bL,by decide,by decide,fun ti jF ti0 ti1 Cu=>?_⟩;refine⟨_,_,rfl,rfl,bU rfl,fun t iO jw=>?_⟩;have zi:bT p jF iO:=.jt Cu.bL jw.same;have Tv:=b7.trans (b8.trans (b9.trans (Cu.trans zi)));have xU:aP K iO q (is.map V.int):=aP.t (bT.t b6.bL Tv) q6;exact k (.ref t) is (1+ri) (1+fa) (1+ju) (1+ti) iO (iT (aP.of jw.at') (bW (iT xU (vg is)) (bW (dC _) (bW (dC _) (bW (dC _) (bW (dC _) cU)))))) ⟨by lia,Tt,by lia,by lia,by lia,by lia⟩ (ur.trans (b6.trans Tv))
inductive Vl(K:aa)(vs:List V)(H:Hp)(Q:VK):Prop |mk (a:_)(b:_)(h0:vs=[.int a,.int b])(h1:0<b)(h2:Wd b)(h3:∀v H',bh K H' v (Rat.divInt a b)->aE H H'->Q v H'):Vl K vs H Q
def xE(K:aa):Sp:=fun vs H Q _=>Vl K vs H Q
theorem Nv:bp ["_law_p","_law_q","_law_one","_law_other_here"] ["_law_p","_law_q"] (aV Fu):=bI (by decide+kernel)
theorem a2N(F:FA K mg "_law_frac" Fu)(B:bP mg):aD P w K mg base "_law_frac" 1 (xE K):=by
 refine F.has Nv (fun vs H Q E h=>?_) (fun _ _ _ _ _ _=>dy fun _ _=>rfl) (fun f aL A outer s H vs Q E hr h=>?_)
 · obtain⟨a,b,rfl,_⟩:=h
   rfl
 · obtain⟨a,b,rfl,hb,wb,k⟩:=h
   have nd:=Nv.nd;refine⟨_,(aB (oG (i:=2) (j:=3) rfl nd rfl rfl (by decide) rfl rfl (O (dh (x:="abs") nQ rfl (B.at "abs") pM (O (pv 0) aw)) (O (pv 1) aw)) rfl) (aB (mU gY (bZ qk (pv 3) az (bw _)) (aG (oG (i:=2) (j:=3) rfl nd rfl rfl (by decide) rfl rfl (O (pv 3) (O (aI oK (pv 2) (pv 3)) aw)) rfl))) (aG (aU (dS (O (aI m9 (pv 0) (pv 2)) (O (aI m9 (pv 1) (pv 2)) aw))))))),?_⟩;refine⟨_,rfl,_,rfl,_,rfl,_,_,rfl,?_⟩;refine mG (fun Z H2=>H2=H/\∃(x y:Int),Z=[some (.int a),some (.int b),some (.int x),some (.int y)]/\0<=x/\0<=y/\Int.gcd x y=Int.gcd a b) (fun Z _=>match Z with|[_,_,_,some (.int y)]=>y.natAbs|_=>0) ?_ ?_ ?_
   · refine⟨rfl,_,_,rfl,by split<;>lia,by lia,?_⟩
     have h1:(if a<0 then-a else a).natAbs=a.natAbs:=by split<;>lia
     unfold Int.gcd;rw[h1]
   · rintro Z H2 ⟨rfl,x,y,rfl,x0,y0,e⟩
     refine⟨_,rfl,_,_,rfl,rfl,_,rfl,?_⟩;refine dN (fun hc=>?_) (fun hc=>?_)
     · have jT:0<y:=jI hc
       have hy:y≠0:=by lia
       refine⟨_,rfl,_,rfl,_,rfl,_,_,rfl,rfl,jT,_,_,rfl,?_⟩;refine⟨⟨rfl,_,_,rfl,y0,oj _ hy,(Ar.Ry jT).trans e⟩,?_⟩;show(x%y).natAbs<y.natAbs;have:=oj x hy;have:=rP x jT
       lia
     · have hy:y=0:=by
         have:¬y>0:=fun z=>hc (cH z)
         lia
       subst hy;rw[Int.gcd_zero_right]at e;have ex:x=((Int.gcd a b:Nat):Int):=by lia
       have p7:b≠0:=by lia
       have gp:=Ar.BV (p:=a) p7;have es:Ar.sg a b=(Int.gcd a b:Int):=by unfold Ar.sg;rw[bf (by lia)]
       have gw:Wd (Int.gcd a b:Int):=by rw[<-es];exact pN (Ar.Mp p7) wb
       obtain⟨e1,e2⟩:=Bb (a:=a) p7;have f1:a/(Int.gcd a b:Int)=(Rat.divInt a b).num:=by rw[<-e1];unfold Ar.lowP;rw[es,WO _ (by lia)]
       have f2:b/(Int.gcd a b:Int)=((Rat.divInt a b).den:Int):=by rw[<-e2];unfold Ar.gL;rw[es,WO _ (by lia)]
       subst ex;refine⟨_,rfl,_,rfl,_,_,rfl,rfl,⟨gp,gw⟩,_,rfl,_,rfl,_,_,rfl,rfl,⟨gp,gw⟩,bU rfl,fun t H6 n6=>?_⟩;have TJ:=n6.at';simp only[f1,f2]at TJ;exact k _ _ ⟨t,rfl,aP.of TJ⟩ n6.same
   · rintro Z H2 Q1 Q2 hq ⟨v1,e1,i,j,e3,e4,kk,e5,q⟩
     exact⟨v1,e1,i,j,e3,e4,kk,e5,hq _ _ q⟩
theorem Nk:bp ["_law_thing"] ["_law_thing"] (aV Fi):=bI (by decide+kernel)
theorem a2y(F:FA K mg "_law_number" Fi)(B:bP mg):aD P w K mg base "_law_number" 1 (uX K):=by
 refine F.has Nk (fun vs H Q E h=>?_) (fun _ _ _ _ _ _=>eK fun _=>rfl) (fun f aL A outer s H vs Q E hr h=>?_)
 · obtain⟨v,T,rfl,_⟩:=h
   rfl
 · obtain⟨v,T,rfl,ty,k⟩:=h
   have nd:=Nk.nd;refine⟨_,(aG (aU (iE (dF K B (O (pv 0) (O (cY (x:="int") (v:=.ty "int") rfl (B.at "int") Kd rfl) aw))) (iW (Oz (dF K B (O (pv 0) (O (cY (x:="bool") (v:=.ty "bool") rfl (B.at "bool") WA rfl) aw)))))))),?_⟩;refine⟨_,rfl,.inl ⟨_,T,"int",_,rfl,ty,by decide,rfl,_,rfl,?_⟩⟩;unfold vV at k;refine dN (fun hc=>?_) (fun hc=>?_)
   · refine⟨_,rfl,.inl ⟨_,T,"bool",_,rfl,ty,by decide,rfl,_,rfl,?_⟩⟩
     rw[hc,ko]at k;exact k
   · rw[xk.mpr hc,kJ]at k
     exact k
theorem KY:iR "tuple" "tuple"=true:=by decide
theorem Ld:iR "list" "list"=true:=by decide
abbrev Itm:=Option (List Int × Int)
def itR(d:ai)(o:Itm):Prop:=(∃ns sp,d=iH ns sp/\o=some (ns,sp))\/∃w x,d= .tuple [.str w,x]/\(w="wait"\/w="tool"\/w="mark")/\fu x=true/\o=none
theorem itR.no{d:ai}{o:Itm}(h:itR d o):fu d=true:=by
 rcases h with⟨ns,sp,rfl,_⟩|⟨w,x,rfl,_,h,_⟩
 ·exact Bg _ _
 ·simp[fu,cN,h]
theorem vU{H:Hp}{v:V}{d:ai}{o:Itm}(h:RD K H v d)(i:itR d o):∃a w ys,v= .ref a/\aP K H a (.str w::ys)/\(PyData.eqv (.str w) (.str "line")=o.isSome)/\SeqAt.shaped (.str w)=true:=by
 rcases i with⟨ns,sp,rfl,rfl⟩|⟨w,x,rfl,hw,_,rfl⟩
 · obtain⟨a,b,rfl,h1,_⟩:=lV h
   exact⟨a,_,_,rfl,h1,(by show PyData.eqv (.str "line") (.str "line")=true;decide+kernel),by decide+kernel⟩
 · obtain⟨a,xs,rfl,h1,h2⟩:=h.eu
   obtain⟨x1,r1,rfl,e1,h2⟩:=h2.cons_inv;cases e1.str_inv;refine⟨a,w,r1,rfl,h1,?_,?_⟩
   · show PyData.eqv (.str w) (.str "line")=false
     rcases hw with rfl|rfl|rfl<;>decide+kernel
   ·rcases hw with rfl|rfl|rfl<;>decide+kernel
theorem tF:SeqAt.shaped (.str "line")=true:=by decide+kernel
theorem kC{d:ai}{ns:List Int}{sp:Int}(h:itR d (some (ns,sp))):d=iH ns sp:=by
 rcases h with⟨yd,xH,e1,e2⟩|⟨_,_,_,_,_,e2⟩
 ·cases e2;exact e1
 ·cases e2
structure gO(ax:Nat)(ds:List ai)(os:List Itm):Prop where
 len:ds.length=os.length
 it:∀(i:Nat)(d:ai)(o:Itm),ds[i]? =some d->os[i]? =some o->itR d o
 ok:∀(i:Nat)(ns:List Int)(sp:Int),os[i]? =some (some (ns,sp))->eR ax 100 ns/\1<=sp/\sp<=20
theorem gO.nil{ax:Nat}:gO ax [] []:=⟨rfl,fun i d o e=>by simp at e,fun i ns sp e=>by simp at e⟩
theorem sx{α:Type}{xs:List α}{x y:α}{j:Nat}(e:(xs++[x])[j]? =some y):xs[j]? =some y\/(j=xs.length/\y=x):=by
 by_cases hj:j<xs.length
 ·rw[xj hj]at e;exact .inl e
 · have oY:j=xs.length:=by
     have:=(dM.mp e).1;rw[fD]at this;have:j<xs.length+1:=this
     lia
   rw[oY,zL (bK _),Ke]at e;exact .inr ⟨oY,(dP e).symm⟩
theorem gO.snoc{ax:Nat}{ds:List ai}{os:List Itm}{d:ai}{o:Itm}(h:gO ax ds os)(i:itR d o)(g:∀ns sp,o=some (ns,sp)->eR ax 100 ns/\1<=sp/\sp<=20):gO ax (ds++[d]) (os++[o]):=by
 have hl:=h.len;refine⟨by rw[fD,fD,h.len];rfl,fun j d' o' e1 e2=>?_,fun j ns sp e=>?_⟩
 · rcases sx e1 with e1|⟨j1,rfl⟩
   · rcases sx e2 with e2|⟨j2,rfl⟩
     ·exact h.it j d' o' e1 e2
     ·have:=(dM.mp e1).1;lia
   · rcases sx e2 with e2|⟨j2,rfl⟩
     ·have:=(dM.mp e2).1;lia
     ·exact i
 · rcases sx e with e|⟨_,e⟩
   ·exact h.ok j ns sp e
   ·exact g ns sp e.symm
theorem gO.no{ax:Nat}{ds:List ai}{os:List Itm}(h:gO ax ds os):cN ds=true:=ij.mpr fun d hd=>by obtain⟨i,hi⟩:=pQ.mp hd;have hl:=(dM.mp hi).1;exact(h.it i d _ hi (cj (by rw[<-h.len];exact hl))).no
theorem gO.get{ax:Nat}{ds:List ai}{os:List Itm}(h:gO ax ds os){i:Nat}{d:ai}(e:ds[i]? =some d):∃o,os[i]? =some o/\itR d o:=by have hl:=(dM.mp e).1;have e2:=cj (show i<os.length by rw[<-h.len];exact hl);exact⟨_,e2,h.it i d _ e e2⟩
inductive Vk(K:aa)(vs:List V)(H:Hp)(Q:VK):Prop |mk (v:_)(d:_)(o:_)(h0:vs=[v])(h1:RD K H v d)(h2:itR d o)(h3:Q (.bl o.isSome) H):Vk K vs H Q
def uY(K:aa):Sp:=fun vs H Q _=>Vk K vs H Q
theorem Nm:bp ["item"] ["item"] (aV Fm):=bI (by decide+kernel)
theorem a2I(F:FA K mg "is_line" Fm)(B:bP mg):aD P w K mg base "is_line" 1 (uY K):=by
 refine F.has Nm (fun vs H Q E h=>?_) (fun _ _ _ _ _ _=>eK fun _=>rfl) (fun f aL A outer s H vs Q E hr h=>?_)
 · obtain⟨v,d,o,rfl,_⟩:=h
   rfl
 · obtain⟨v,d,o,rfl,ri,it,k⟩:=h
   have nd:=Nm.nd;refine⟨_,(aG (aU (fq (cQ K rfl hr.units) (px K (pv 0) az) aW (bw _)))),?_⟩;obtain⟨a,wd,ys,rfl,h1,ew,sw⟩:=vU ri it;refine⟨_,rfl,.inr ⟨a,_,0,.str wd,rfl,rfl,h1,dc (gA 0) rfl,.inr ⟨_,_,cV _,cV _,sw,tF,?_⟩⟩⟩;rw[ew];exact k
theorem Lx{H:Hp}:∀{xs:List V}{zs:List Str},aJ K H xs (zs.map PyData.str)->xs=zs.map V.str |xs,[],h=>h.nil_inv |xs,n::ns,h=>by obtain⟨y,ys,rfl,h1,h2⟩:=h.cons_inv;rw[h1.str_inv,Lx h2];rfl
theorem abv:jD.cps.toList.length=26:=by decide+kernel
theorem N5:bp ["_law_bag_here","_law_kind","_law_letters"] ["_law_bag_here"] (aV EZ):=bI (by decide+kernel)
def X3(ns:List Int):ai:=.tuple (ns.map fun z=>cR (Rat.divInt z (Ln.aH ns)))
theorem qh(r:Rat):fu (cR r)=true:=by simp[cR,fu,cN]
theorem Pb{α:Type}{f:α->ai}(h:∀a,fu (f a)=true)(l:List α):cN (l.map f)=true:=ij.mpr fun d hd=>by obtain⟨a,_,rfl⟩:=jJ.mp hd;exact h a
inductive Us(K:aa)(vs:List V)(H:Hp)(Q:VK):Prop |mk (v:_)(ns:_)(sp:_)(h0:vs=[v])(h1:RD K H v (iH ns sp))(h2:eR ns.length 1000 ns)(h3:ns.length<=1000)(h4:∀v' H',RD K H' v' (X3 ns)->aE H H'->Q v' H'):Us K vs H Q
def LN(K:aa):Sp:=fun vs H Q _=>Us K vs H Q
theorem Mu:bp ["line","lead"] ["line"] (aV E8):=bI (by decide+kernel)
theorem a1G(F:FA K mg "ways_of" E8)(B:bP mg)(oV:aD P w K mg base "lead_of" 1 (lO K))(qG:aD P w K mg base "fraction" 3 (uU K)):aD P w K mg base "ways_of" 4 (LN K):=by
 refine F.has Mu (fun vs H Q E h=>?_) (fun _ _ _ _ _ _=>eK fun _=>rfl) (fun f aL A outer s H vs Q E hr h=>?_)
 · obtain⟨v,ns,sp,rfl,_⟩:=h
   rfl
 · obtain⟨v,ns,sp,rfl,rd,ok,hz,k⟩:=h
   have nd:=Mu.nd;refine⟨_,(aB (pS 1 nd (pf oV hr (O (pv 0) aw))) (aG (aU (ib (x:="tuple") (kL K rfl) rfl (B.at "tuple") fL (O (gd (N:=["step","lead"]) (js:=[none,some 1]) rfl rfl rfl (qj K rfl (px K (pv 0) az)) (fun _ _ _ _ _=>(bu 0 (fP (by decide)))) (fun _ _ _ _ _=>fF) (fun _ _ _ _ _=>(pf qG hr (O (pv 0) (O (pv 1) aw))))) aw))))),?_⟩;refine⟨_,rfl,v,ns,sp,rfl,rd,ok.ne,hz,fun H1 s1=>?_⟩;obtain⟨a,b,rfl,ha,hb⟩:=lV (RD.mono s1 _ rd);obtain⟨lp,lm⟩:=ok.lead;refine⟨_,rfl,.inr ⟨a,_,1,.ref b,rfl,rfl,ha,rfl,b,rfl,⟨_,hb⟩,fun D H0 nw=>?_⟩⟩;refine Ci (K:=K) (xs:=ns.map V.int) (ds:=ns.map fun z=>cR (Rat.divInt z (Ln.aH ns))) _ hb nw (by simp) (by simpa using hz) (Pb (fun _=>qh _) _) ?_ ?_
   · intro i x d H2 Q' ex ed s2 hq
     obtain⟨n,en,rfl⟩:=md ed;cases yo ex en;refine⟨_,rfl,_,rfl,n,_,rfl,by omega,gZ (n:=20) (by omega) (by decide),fun v3 H3 r3 s3=>?_⟩;exact hq _ _ s3 r3.rd
   · intro H' ys s2 d2 r2
     refine⟨D,_,rfl,.inl ⟨aF.of d2,fun t H4 n4=>?_⟩⟩;exact k _ _ (iT (aP.of n4.at') (aJ.mono n4.same _ r2)) (s1.trans (s2.trans n4.same))
theorem xu:iR "tuple" "tuple"=true:=by decide
theorem X2(d:ai):(∃i,d= .int i/\vV (mI d)=true)\/(vV (mI d)=false/\∀i,d≠ .int i):=by cases d with |int i=>exact .inl ⟨i,rfl,by simp[mI];decide⟩ |_=>exact .inr ⟨by simp[mI];decide,fun _ z=>nomatch z⟩
theorem Du(d:ai):(∃ds,d= .tuple ds)\/(iR (mI d) "tuple"=false/\∀ds,d≠ .tuple ds):=by cases d with |tuple ds=>exact .inl ⟨ds,rfl⟩ |_=>exact .inr ⟨by simp[mI];decide,fun _ z=>nomatch z⟩
def gE(lo hi:Int):ai->Bool | .int i=>decide (lo<=i)&&decide (i<=hi) |_=>false
theorem a59{lo hi:Int}{d:ai}(h:∀i,d≠ .int i):gE lo hi d=false:=by cases d<;>first|rfl|exact absurd rfl (h _)
inductive Ut(K:aa)(vs:List V)(H:Hp)(Q:VK):Prop |mk (v:_)(d:_)(lo:_)(hi:_)(h0:vs=[v,.int lo,.int hi])(h1:RD K H v d)(h2:Q (.bl (gE lo hi d)) H):Ut K vs H Q
def sj(K:aa):Sp:=fun vs H Q _=>Ut K vs H Q
theorem Mw:bp ["thing","low","high"] ["thing","low","high"] (aV E9):=bI (by decide+kernel)
theorem a1F(F:FA K mg "is_whole_within" E9)(B:bP mg)(BG:aD P w K mg base "is_whole" 1 (uX K)):aD P w K mg base "is_whole_within" 2 (sj K):=by
 refine F.has Mw (fun vs H Q E h=>?_) (fun _ _ _ _ _ _=>nR fun _ _ _=>rfl) (fun f aL A outer s H vs Q E hr h=>?_)
 · obtain⟨v,d,lo,hi,rfl,_⟩:=h
   rfl
 · obtain⟨v,d,lo,hi,rfl,rd,k⟩:=h
   have nd:=Mw.nd;refine⟨_,(aG (aU (iE (pf BG hr (O (pv 0) aw)) (iW (OD vp vp (pv 1) (pv 0) (pv 2)))))),?_⟩;refine⟨_,rfl,_,_,rfl,rd.ty,_,rfl,?_⟩;rcases X2 d with⟨i,rfl,e⟩|⟨e,hn⟩
   · cases rd.int_inv
     rw[e];refine bV ?_;have k:Q (.bl (decide (lo<=i)&&decide (i<=hi))) H:=k;refine⟨_,rfl,_,rfl,_,_,rfl,rfl,_,rfl,?_⟩;refine dN (fun hc=>?_) (fun hc=>?_)
     · have iI:decide (lo<=i)=true:=hc
       rw[iI,ko]at k;exact⟨_,rfl,_,_,rfl,rfl,k⟩
     · have iI:decide (lo<=i)=false:=xk.mpr hc
       rw[iI,kJ]at k;exact k
   · rw[e]
     refine bF ?_;rw[a59 hn]at k;exact k
open Cn
theorem Ky{ns ms:List Int}{i:Nat}{a b:Int}(h1:ns[i]? =some a)(h2:ms[i]? =some b):(da ns ms)[i]? =some (a*(aH ms:Int)-b*(aH ns:Int)):=by unfold da;rw[cA,(xi (z:=(a,b))).mpr ⟨h1,h2⟩];rfl
def zd(j:Int)(ns ms:List Int):ai:=if aH (da ns ms)=0 then .none else cR (Rat.divInt ((j*aH ns*aH ms)^2) ((aH (da ns ms):Int)^2))
inductive Vr(K:aa)(vs:List V)(H:Hp)(Q:VK):Prop |mk (v:_)(v1:_)(v2:_)(rs:_)(r:_)(f:_)(j:_)(t:_)(ns:_)(ms:_)(gI:_)(hO:_)(h0:vs=[v,v1,v2])(h1:RD K H v (iX rs r f j t))(h2:RD K H v1 (iH ns gI))(h3:RD K H v2 (iH ms hO))(h4:eR ns.length 1000 ns)(h5:eR ns.length 1000 ms)(h6:ns.length<=1000)(h7:1<=j)(h8:j<=50)(h9:∀v' H',RD K H' v' (zd j ns ms)->aE H H'->Q v' H'):Vr K vs H Q
def DX(K:aa):Sp:=fun vs H Q _=>Vr K vs H Q
theorem zip2{ns ms:List Int}(h:ms.length=ns.length){i:Nat}{x y:V}(ex:(ns.map V.int)[i]? =some x)(ey:(ms.map V.int)[i]? =some y):∃a b,ns[i]? =some a/\ms[i]? =some b/\x= .int a/\y= .int b:=by rw[cA]at ex ey;cases e1:ns[i]? with |none=>rw[e1]at ex;cases ex |some a=>cases e2:ms[i]? with |none=>rw[e2]at ey;cases ey |some b=>rw[e1]at ex;rw[e2]at ey;exact⟨a,b,rfl,rfl,(dP ex).symm,(dP ey).symm⟩
inductive Uv(K:aa)(vs:List V)(H:Hp)(Q:VK):Prop |mk (v1:_)(v2:_)(ns:_)(ms:_)(gI:_)(hO:_)(h0:vs=[v1,v2])(h1:RD K H v1 (iH ns gI))(h2:RD K H v2 (iH ms hO))(h3:eR ns.length 1000 ns)(h4:eR ns.length 1000 ms)(h5:ns.length<=1000)(h6:∀v' H',bh K H' v' (Rat.divInt (aH (da ns ms)) ((aH ns:Int)*aH ms))->aE H H'->Q v' H'):Uv K vs H Q
def LP(K:aa):Sp:=fun vs H Q _=>Uv K vs H Q
theorem Mx:bp ["one","other","greatest","way","new_way","p","q","difference"] ["one","other"] (aV Ea):=bI (by decide+kernel)
theorem a1H(F:FA K mg "greatest_turn" Ea)(B:bP mg)(Qu:aD P w K mg base "ways_of" 4 (LN K))(a64:aD P w K mg base "minus" 3 (mM (·-·) K))(Ig:aD P w K mg base "is_less" 1 (uW K)):aD P w K mg base "greatest_turn" 5 (LP K):=by
 refine F.has Mx (fun vs H Q E h=>?_) (fun _ _ _ _ _ _=>dy fun _ _=>rfl) (fun f aL A outer s H vs Q E hr h=>?_)
 · obtain⟨v1,v2,ns,ms,gI,hO,rfl,_⟩:=h
   rfl
 · obtain⟨v1,v2,ns,ms,gI,hO,rfl,G7,qe,fV,eG,hz,k⟩:=h
   have nd:=Mx.nd;obtain⟨lp1,lm1⟩:=fV.lead;obtain⟨lp2,He⟩:=eG.lead;have Qs:ms.length<=1000:=by rw[eG.len];exact hz
   have a32:eR ms.length 1000 ms:=⟨rfl,eG.bd,eG.nz⟩;have cb:=Cg (fun z hz=>by have:=fV.bd z hz;lia) (fun z hz=>by have:=eG.bd z hz;lia) (ns:=ns) (ms:=ms);have L0:(0:Int)<(aH ns:Int)*aH ms:=iB (by lia) (by lia);have Lb:((aH ns:Int)*aH ms).natAbs<=1000*1000:=kU (by lia) (by lia);have adh:(da ns ms).length=ns.length:=by simp[da,eG.len]
   have QQ:∀c:Int,c.natAbs<=2000000->Bd 2000 (Rat.divInt c ((aH ns:Int)*aH ms)):=fun c hc=>(kz (n:=30) (by lia) (by lia) (by lia)).mono (by decide);refine⟨_,(aB (pS 2 nd (dS (O az (O az aw)))) (aB (lS gY rfl (jP K rfl false false rfl (B.at "zip") (O (pf Qu hr (O (pv 0) aw)) (O (pf Qu hr (O (pv 1) aw)) aw))) (dR K rfl (n:=2) rfl (bR (bu 3 nd) (bR (bu 4 nd) dQ))) (aB (fU (pf a64 hr (O (pv 4) (O (pv 3) aw))) (dR K rfl (n:=2) rfl (bR (bu 5 nd) (bR (bu 6 nd) dQ)))) (aB (pS 7 nd (dS (O (dh (x:="abs") nQ rfl (B.at "abs") pM (O (pv 5) aw)) (O (pv 6) aw)))) (aG (bJ (cM (pf Ig hr (O (pv 2) (O (pv 7) aw)))) (aG (pS 2 nd (pv 7))) bO))))) (aG (aU (pv 2))))),?_⟩;refine⟨bU rfl,fun g0 H1 n1=>?_⟩;refine⟨_,rfl,v1,ns,gI,rfl,RD.mono n1.same _ G7,fV,hz,fun w1 H2 r2 s2=>?_⟩;have t2:=n1.same.trans s2;refine⟨_,rfl,v2,ms,hO,rfl,RD.mono t2 _ qe,a32,Qs,fun w2 H3 r3 s3=>?_⟩;have t3:=t2.trans s3;obtain⟨c1,xs1,rfl,h1,q1⟩:=(RD.mono s3 _ r2).eu;obtain⟨c2,xs2,rfl,h2,q2⟩:=r3.eu;have l1:=q1.length;have l2:=q2.length;rw[cu]at l1 l2;refine⟨c1,c2,rfl,⟨_,h1⟩,⟨_,h2⟩,?_⟩;refine a8b (K:=K) (b1:=false) (b2:=false) (xs:=xs1) (ys:=xs2) ns.length (by rw[l1,l2,eG.len];lia) (fun i Z H4=>aE H3 H4/\∃g u1 u2 u3 u4 u5,bh K H4 g (Rat.divInt (qF (da ns ms) i) ((aH ns:Int)*aH ms))/\Z=[some v1,some v2,some g,u1,u2,u3,u4,u5]) ?_ (fun i Z H4 _ h=>⟨h1.go h.1,h2.go h.1⟩) ?_ ?_
   · refine⟨aE.refl _,.ref g0,none,none,none,none,none,⟨g0,rfl,?_⟩,rfl⟩
     have e0:Rat.divInt ((qF (da ns ms) 0:Nat):Int) ((aH ns:Int)*aH ms)=0:=by show Rat.divInt 0 _=0;exact Rat.zero_divInt _
     rw[e0];exact aP.of (s3 _ _ (s2 _ _ n1.at'))
   · rintro i x y Z H4 ex ey ⟨s4,g,u1,u2,u3,u4,u5,rg,rfl⟩ T H5 n5
     obtain⟨d1,e1,rx⟩:=q1.get' i ex;obtain⟨d2,e2,ry⟩:=q2.get' i ey;obtain⟨a,ea,rfl⟩:=md e1;obtain⟨b,eb,rfl⟩:=md e2;have qa:=fV.bd a (gG ea);have qb:=eG.bd b (gG eb);have cz:=Ky ea eb;have czb:=cb _ (gG cz);have t5:=s4.trans n5.same;refine⟨T,_,rfl,aP.of n5.at',rfl,_,_,rfl,_,_,rfl,rfl,?_⟩;have mS:∀{H':Hp}{v:V}{r:Rat},RD K H' v (cR r)->bh K H' v r:=fun{H' v r} h=>by obtain⟨p,xs,rfl,h1,h2⟩:=h.eu;have:=h2.iY (ns:=[r.num,r.den]);subst this;exact⟨p,rfl,h1⟩
     refine⟨_,rfl,_,rfl,y,x,_,_,rfl,mS (RD.mono t5 _ ry),mS (RD.mono t5 _ rx),(kz (n:=30) (by lia) (by lia) (by lia)).mono (by decide),(kz (n:=30) (by lia) (by lia) (by lia)).mono (by decide),fun v6 H6 r6 s6=>?_⟩;have ed:Rat.divInt b (aH ms)-Rat.divInt a (aH ns)=Rat.divInt (b*aH ns-a*aH ms) ((aH ns:Int)*aH ms):=Yf (by lia) (by lia);have r6:bh K H6 v6 (Rat.divInt b (aH ms)-Rat.divInt a (aH ns)):=r6;rw[ed]at r6;obtain⟨p6,rfl,h6⟩:=r6;refine⟨p6,_,rfl,h6,rfl,_,_,rfl,_,_,rfl,rfl,?_⟩;refine⟨_,rfl,_,rfl,_,rfl,bU rfl,fun dd H7 n7=>?_⟩;have mQ:=s6.trans n7.same;have rD:bh K H7 (.ref dd) (Rat.divInt (((a*(aH ms:Int)-b*(aH ns:Int)).natAbs:Nat):Int) ((aH ns:Int)*aH ms)):=by
      have e:Rat.divInt (((a*(aH ms:Int)-b*(aH ns:Int)).natAbs:Nat):Int) ((aH ns:Int)*aH ms)=uu (Rat.divInt (b*aH ns-a*aH ms) ((aH ns:Int)*aH ms)):=by rw[abq L0,zk];congr 1;lia
      rw[e];refine⟨dd,rfl,?_⟩;rw[abp,abr];exact aP.of n7.at'
     have rG:bh K H7 g _:=(rg.go n5.same).go mQ;have hG:qF (da ns ms) i<=2000000:=nc fun z hz=>cb z (D5 hz);refine⟨_,rfl,_,rfl,g,.ref dd,_,_,rfl,rG,rD,QQ _ (by lia),QQ _ (by lia),_,rfl,?_⟩;have hs:=a6q cz;refine dN (fun hc=>?_) (fun hc=>?_)
     · have cx:=(Sz L0).mp (jI hc)
       refine⟨_,rfl,?_⟩;refine⟨t5.trans mQ,_,_,_,_,_,_,?_,rfl⟩;rw[hs,Nat.max_eq_right (by lia)];exact rD
     · have BJ:¬_:=fun z=>hc (cH ((Sz L0).mpr z))
       refine⟨t5.trans mQ,_,_,_,_,_,_,?_,rfl⟩;rw[hs,Nat.max_eq_left (by lia)];exact rG
   · rintro Z H4 ⟨s4,g,u1,u2,u3,u4,u5,rg,rfl⟩
     refine⟨_,rfl,k _ _ ?_ (t3.trans s4)⟩;have:qF (da ns ms) ns.length=aH (da ns ms):=by unfold qF;rw[Kj (by lia)]
     rw[this]at rg;exact rg
theorem ND:bp ["machine","one","other","jump","p","q"] ["machine","one","other"] (aV FC):=bI (by decide+kernel)
theorem a2T(F:FA K mg "corner_square" FC)(B:bP mg)(a6s:aD P w K mg base "greatest_turn" 5 (LP K))(qG:aD P w K mg base "fraction" 3 (uU K)):aD P w K mg base "corner_square" 6 (DX K):=by
 refine F.has ND (fun vs H Q E h=>?_) (fun _ _ _ _ _ _=>nR fun _ _ _=>rfl) (fun f aL A outer s H vs Q E hr h=>?_)
 · obtain⟨v,v1,v2,rs,r,f',j,t,ns,ms,gI,hO,rfl,_⟩:=h
   rfl
 · obtain⟨v,v1,v2,rs,r,f',j,t,ns,ms,gI,hO,rfl,rd,G7,qe,fV,eG,hz,j1,j2,k⟩:=h
   have nd:=ND.nd;obtain⟨lp1,lm1⟩:=fV.lead;obtain⟨lp2,He⟩:=eG.lead;have L0:(0:Int)<(aH ns:Int)*aH ms:=iB (by lia) (by lia);have Lb:((aH ns:Int)*aH ms).natAbs<=1000*1000:=kU (by lia) (by lia);have cb:=Cg (fun z hz=>by have:=fV.bd z hz;lia) (fun z hz=>by have:=eG.bd z hz;lia) (ns:=ns) (ms:=ms);have hH:=nc cb;refine⟨_,(aB (pS 3 nd (px K (pv 0) az)) (aB (fU (pf a6s hr (O (pv 1) (O (pv 2) aw))) (dR K rfl (n:=2) rfl (bR (bu 4 nd) (bR (bu 5 nd) dQ)))) (aB (bJ (bZ (cQ K rfl hr.units) (pv 4) az (bw _)) (aG (aU jo)) bO) (aG (aU (pf qG hr (O (aI bE (aI bE (aI bE (pv 3) (pv 3)) (pv 5)) (pv 5)) (O (aI bE (pv 4) (pv 4)) aw)))))))),?_⟩;obtain⟨am,bm,rfl,gM,jB⟩:=kW rd;refine⟨_,rfl,.inr ⟨am,_,3,.int j,rfl,rfl,gM,rfl,?_⟩⟩;refine⟨_,rfl,_,rfl,v1,v2,ns,ms,gI,hO,rfl,G7,qe,fV,eG,hz,fun v3 H3 r3 s3=>?_⟩;obtain⟨JC⟩:Nonempty (Bd 30 (Rat.divInt (aH (da ns ms)) ((aH ns:Int)*aH ms))):=⟨kz (n:=30) (by lia) (by lia) (by lia)⟩;have en:=rJ (Rat.divInt (aH (da ns ms)) ((aH ns:Int)*aH ms));obtain⟨R,hR⟩:∃R,Rat.divInt (aH (da ns ms)) ((aH ns:Int)*aH ms)=R:=⟨_,rfl⟩;rw[hR]at r3 JC en;have dp:=den_pos R;have zc:R.num*((aH ns:Int)*aH ms)=aH (da ns ms)*R.den:=by rw[<-hR]at en;have:=(Rat.divInt_eq_divInt_iff (by rw[hR];lia) (by lia)).mp en;rw[hR]at this;exact this
   have nb:=JC.num;have db:=JC.den;obtain⟨p3,rfl,h3⟩:=r3;refine⟨p3,_,rfl,h3,rfl,_,_,rfl,_,_,rfl,rfl,?_⟩;refine⟨_,rfl,.inl ⟨_,_,rfl,rfl,_,rfl,?_⟩⟩;refine dN (fun hc=>?_) (fun hc=>?_)
   · have h0:R.num=0:=by simpa using hc
     have hl:aH (da ns ms)=0:=by
      rw[h0,zN]at zc;rcases Int.mul_eq_zero.mp zc.symm with h|h
      ·lia
      ·lia
     refine k .bo H3 ?_ s3;unfold zd;rw[bc hl];exact a00
   · have h0:R.num≠0:=by simpa using hc
     have hl:aH (da ns ms)≠0:=by
      intro z;rw[z]at zc;have:R.num*((aH ns:Int)*aH ms)=0:=by rw[zc];exact zN _
      rcases Int.mul_eq_zero.mp this with h|h
      ·exact h0 h
      ·lia
     have m1:(j*j).natAbs<=50*50:=kU (by lia) (by lia);have lD:(2:Nat)^64=18446744073709551616:=by decide
     refine⟨_,rfl,_,rfl,_,_,rfl,rfl,.of_left (cg (by lia) (by lia)),_,rfl,_,_,rfl,rfl,.of_left (cg (by lia) (by lia)),_,rfl,_,_,rfl,rfl,.of_right (cg (by lia) (by lia)),?_⟩;refine⟨_,rfl,_,rfl,_,_,rfl,rfl,.of_left (cg (by lia) (by lia)),?_⟩;refine⟨_,_,rfl,Kr h0 h0,?_,fun v4 H4 r4 s4=>?_⟩
     · refine gZ (n:=60) ?_ (by decide)
       rw[fN];exact kS (n:=30) (m:=30) nb nb
     · refine k _ _ ?_ (s3.trans s4)
       unfold zd;rw[bf hl];have e:=aan (j:=j) (p:=R.num) (q:=R.den) (h:=aH (da ns ms)) (L:=(aH ns:Int)*aH ms) h0 (by lia) zc;rw[e,<-uM]at r4;exact r4.rd
def Od (d:ai):Bool:=gE 10 200 d
inductive UR(K:aa)(vs:List V)(H:Hp)(Q:VK):Prop |mk (v:_)(d:_)(h0:vs=[v])(h1:RD K H v d)(h2:Q (.bl (Od d)) H):UR K vs H Q
def DN(K:aa):Sp:=fun vs H Q _=>UR K vs H Q
theorem Nl:bp ["thing"] ["thing"] (aV Fj):=bI (by decide+kernel)
theorem a2H(F:FA K mg "is_rate" Fj)(B:bP mg)(a79:GV mg "LEAST_RATE" (.int 10))(a7b:GV mg "GREATEST_RATE" (.int 200))(oZ:aD P w K mg base "is_whole_within" 2 (sj K)):aD P w K mg base "is_rate" 3 (DN K):=by
 refine F.has Nl (fun vs H Q E h=>?_) (fun _ _ _ _ _ _=>eK fun _=>rfl) (fun f aL A outer s H vs Q E hr h=>?_)
 · obtain⟨v,d,rfl,_⟩:=h
   rfl
 · obtain⟨v,d,rfl,rd,k⟩:=h
   have nd:=Nl.nd;refine⟨_,(aG (aU (pf oZ hr (O (pv 0) (O (eQ (x:="LEAST_RATE") rfl a79) (O (eQ (x:="GREATEST_RATE") rfl a7b) aw)))))),?_⟩;exact⟨_,rfl,v,d,10,200,rfl,rd,k⟩
inductive Ux(K:aa)(vs:List V)(H:Hp)(Q:VK):Prop |mk (v:_)(ns:_)(sp:_)(r:_)(h0:vs=[v,.int r])(h1:RD K H v (iH ns sp))(h2:1<=sp)(h3:sp<=20)(h4:10<=r)(h5:r<=200)(h6:∀v' H',bh K H' v' (Rat.divInt ((sp*r)^2) 10000)->aE H H'->Q v' H'):Ux K vs H Q
def Ak(K:aa):Sp:=fun vs H Q _=>Ux K vs H Q
theorem LL(a b:Int):a*a*b*b=(a*b)^2:=by rw[fM,fM,lN,kI];ac_rfl
theorem a03{r:Int}(h1:10<=r)(h2:r<=200):Od (.int r)=true:=by show(decide (10<=r)&&decide (r<=200))=true;rw[cH h1,cH h2];rfl
theorem Mz:bp ["line","rate","speed"] ["line","rate"] (aV Ec):=bI (by decide+kernel)
theorem a1J(F:FA K mg "top_square" Ec)(B:bP mg)(a6g:aD P w K mg base "is_rate" 3 (DN K))(qG:aD P w K mg base "fraction" 3 (uU K)):aD P w K mg base "top_square" 4 (Ak K):=by
 refine F.has Mz (fun vs H Q E h=>?_) (fun _ _ _ _ _ _=>dy fun _ _=>rfl) (fun f aL A outer s H vs Q E hr h=>?_)
 · obtain⟨v,ns,sp,r,rfl,_⟩:=h
   rfl
 · obtain⟨v,ns,sp,r,rfl,rd,s1,s2,r1,r2,k⟩:=h
   have nd:=Mz.nd;refine⟨_,(aB (bJ (fk (cM (pf a6g hr (O (pv 1) aw)))) (aG vi) bO) (aB (pS 2 nd (px K (pv 0) az)) (aG (aU (pf qG hr (O (aI bE (aI bE (aI bE (pv 2) (pv 2)) (pv 1)) (pv 1)) (O (aI bE az az) aw))))))),?_⟩;refine⟨_,rfl,_,.int r,rfl,dC r,_,rfl,?_⟩;rw[a03 r1 r2];refine bF ?_;obtain⟨a,b,rfl,ha,hb⟩:=lV rd;refine⟨_,rfl,.inr ⟨a,_,2,.int sp,rfl,rfl,ha,rfl,?_⟩⟩;have m1:(sp*sp).natAbs<=20*20:=by rw[fN];exact mF (by lia) (by lia)
   refine⟨_,rfl,_,rfl,_,_,rfl,rfl,.of_left (cg (by lia) (by lia)),_,rfl,_,_,rfl,rfl,.of_left (cg (by lia) (by lia)),_,rfl,_,_,rfl,rfl,.of_right (cg (by lia) (by lia)),?_⟩;refine⟨_,_,rfl,rfl,.of_left (cg (by decide) (by decide)),?_⟩;refine⟨_,_,rfl,by decide,gZ (n:=20) (by decide) (by decide),fun v' H' r' s'=>k v' H' ?_ s'⟩;rw[LL]at r';exact r'
inductive Uw(K:aa)(vs:List V)(H:Hp)(Q:VK):Prop |mk (v:_)(ns:_)(sp:_)(r:_)(h0:vs=[v,.int r])(h1:RD K H v (iH ns sp))(h2:1<=sp)(h3:sp<=20)(h4:10<=r)(h5:r<=200)(h6:∀v' H',bh K H' v' (Rat.divInt ((sp*r)^2) 10000)->aE H H'->Q v' H'):Uw K vs H Q
def DI(K:aa):Sp:=fun vs H Q _=>Uw K vs H Q
theorem My:bp ["_law_line_here","_law_rate"] ["_law_line_here","_law_rate"] (aV Eb):=bI (by decide+kernel)
open Pn
open Ow (topR cornO mnO betR atO ownF leadF ownL OkI OkIs)
theorem Yv(n:Nat)(h:n<=1000):n<sizeLine:=pN h (by decide)
theorem mS{H:Hp}{v:V}{r:Rat}(h:RD K H v (cR r)):bh K H v r:=by obtain⟨p,xs,rfl,h1,h2⟩:=h.eu;have:=h2.iY (ns:=[r.num,r.den]);subst this;exact⟨p,rfl,h1⟩
theorem eR.up{ax:Nat}{ns:List Int}(h:eR ax 100 ns):eR ns.length 1000 ns:=⟨rfl,fun z hz=>by have:=h.bd z hz;lia,h.nz⟩
theorem gO.vw{ax:Nat}{ds:List ai}{os:List Itm}(h:gO ax ds os):OkIs os:=fun i ns sp e=>by unfold atO at e;cases ho:os[i]? with |none=>rw[ho]at e;cases e |some o=>rw[ho]at e;have e':o=some (ns,sp):=e;subst e';obtain⟨a,b,c⟩:=h.ok i ns sp ho;exact⟨a.bd,b,c⟩
theorem sX{H:Hp}{a:Addr}(h:aP K H a [.int 0,.int 1]):bh K H (.ref a) 0:=⟨a,rfl,h⟩
theorem aap(j:Int)(ns ms:List Int):zd j ns ms=match cornO j ns ms with|none=>.none|some c=>cR c:=by unfold zd cornO;split<;>rfl
inductive Vt(K:aa)(vs:List V)(H:Hp)(Q:VK):Prop |mk (m:_)(v1:_)(v2:_)(ay:_)(rs:_)(r:_)(f:_)(j:_)(t:_)(d1:_)(d2:_)(o1:_)(o2:_)(ax:_)(h0:vs=[m,v1,v2,.int ay])(h1:RD K H m (iX rs r f j t))(h2:1<=j)(h3:j<=50)(h4:RD K H v1 d1)(h5:RD K H v2 d2)(h6:itR d1 o1)(h7:itR d2 o2)(h8:(∀ns sp,o1=some (ns,sp)->eR ax 100 ns/\1<=sp/\sp<=20))(h9:(∀ns sp,o2=some (ns,sp)->eR ax 100 ns/\1<=sp/\sp<=20))(yQ:ax<=100)(Rk:10<=ay)(Rj:ay<=200)(Ri:∀v H',bh K H' v (betR j ay o1 o2)->aE H H'->Q v H'):Vt K vs H Q
def Aq(K:aa):Sp:=fun vs H Q _=>Vt K vs H Q
theorem NH:bp ["machine","one","other","rate","squares","corner"] ["machine","one","other","rate"] (aV FF):=bI (by decide+kernel)
theorem a2W(F:FA K mg "bound_between" FF)(B:bP mg)(gN:GT K mg "NOUGHT" [.int 0,.int 1])(qE:aD P w K mg base "is_line" 1 (uY K))(Br:aD P w K mg base "top_square" 4 (Ak K))(a6E:aD P w K mg base "corner_square" 6 (DX K))(wg:aD P w K mg base "least" 2 (jn K)):aD P w K mg base "bound_between" 7 (Aq K):=by
 obtain⟨aN,lB,mL⟩:=gN;refine F.has NH (fun vs H Q E h=>?_) (fun _ _ _ _ _ _=>Cv fun _ _ _ _=>rfl) (fun f aL A outer s H vs Q E hr h=>?_)
 · obtain⟨m,v1,v2,ay,rs,r,f,j,t,d1,d2,o1,o2,ax,rfl,_⟩:=h
   rfl
 · obtain⟨m,v1,v2,ay,rs,r,f,j,t,d1,d2,o1,o2,ax,rfl,rm,j1,j2,r1,r2,i1,i2,k1,k2,QS,cZ,du,k⟩:=h
   have nd:=NH.nd;refine⟨_,(aB (bJ (PW.pt (kP (fk (cM (pf qE hr (O (pv 1) aw)))) (lR (fk (cM (pf qE hr (O (pv 2) aw))))))) (aG (aU (eQ (x:="NOUGHT") rfl lB))) bO) (aB (pS 4 nd (dv (O (pf Br hr (O (pv 1) (O (pv 3) aw))) (O (pf Br hr (O (pv 2) (O (pv 3) aw))) aw)))) (aB (pS 5 nd (pf a6E hr (O (pv 0) (O (pv 1) (O (pv 2) aw))))) (aB (gJ (bJ (bZ xZ (pv 5) jo (bw _)) (aG (gP (jq K rfl (pv 4) (O (pv 5) aw)))) bO)) (aG (aU (pf wg hr (O (pv 4) aw)))))))),?_⟩;refine⟨_,rfl,v1,d1,o1,rfl,r1,i1,_,rfl,?_⟩;cases o1 with |none=>refine bV (bV ?_);have:=k _ H (sX (mL H)) (aE.refl _);exact this |some q1=>obtain⟨ns,sp⟩:=q1;refine bF ?_;refine⟨_,rfl,v2,d2,o2,rfl,r2,i2,_,rfl,?_⟩;cases o2 with |none=>refine bV ?_;exact k _ H (sX (mL H)) (aE.refl _) |some q2=>obtain⟨ms,sq⟩:=q2;refine bF ?_;have e1:=kC i1;have e2:=kC i2;subst e1 e2;obtain⟨fV,a1,a2⟩:=k1 ns sp rfl;obtain⟨eG,b1,b2⟩:=k2 ms sq rfl;refine⟨_,rfl,_,rfl,v1,ns,sp,ay,rfl,r1,a1,a2,cZ,du,fun t1 H1 FY s1=>?_⟩;refine⟨_,rfl,_,rfl,v2,ms,sq,ay,rfl,RD.mono s1 _ r2,b1,b2,cZ,du,fun t2 H2 FX s2=>?_⟩;refine⟨bU rfl,fun l H3 n3=>?_⟩;have t3:=s1.trans (s2.trans n3.same);have AS:eR ns.length 1000 ms:=⟨by rw[fV.len,eG.len],eG.up.bd,eG.nz⟩;refine⟨_,rfl,_,rfl,_,rfl,m,v1,v2,rs,r,f,j,t,ns,ms,sp,sq,rfl,RD.mono t3 _ rm,RD.mono t3 _ r1,RD.mono t3 _ r2,fV.up,AS,by rw[fV.len];lia,j1,j2,fun c H4 rc s4=>?_⟩;have T1:Bd 2000 (topR ay sp):=(Ow.uO a1 a2 cZ du).mono (by decide);have T2:Bd 2000 (topR ay sq):=(Ow.uO b1 b2 cZ du).mono (by decide);have R1:bh K H4 t1 (topR ay sp):=((FY.go s2).go n3.same).go s4;have R2:bh K H4 t2 (topR ay sq):=(FX.go n3.same).go s4;have t4:=t3.trans s4;rw[aap]at rc;cases hc:cornO j ns ms with
       |none=>
         rw[hc]at rc;cases rc.P8;refine⟨fun Z H5=>H5=H4/\Z=[some m,some v1,some v2,some (.int ay),some (.ref l),some .bo],?_,?_⟩
         · refine⟨_,rfl,rfl,_,rfl,bF ?_⟩
           exact⟨rfl,rfl⟩
         rintro Z H5 ⟨rfl,rfl⟩;refine⟨_,rfl,l,[t1,t2],[topR ay sp,topR ay sq],rfl,aF.of (s4 _ _ n3.at'),⟨R1,T1,R2,T2,trivial⟩,by simp,fun i v q e1 e2 hq=>?_⟩;have tL:betR j ay (some (ns,sp)) (some (ms,sq))=q:=by
          show mnO (mn _ _) (cornO j ns ms)=q;rw[hc];refine mX ?_ (hq _ (by simp)) (hq _ (by simp))
          match i,e2 with |0,e2=>cases e2;exact .inl rfl |1,e2=>cases e2;exact .inr rfl
         refine k v _ ?_ t4;rw[tL]
         match i,e1,e2 with |0,e1,e2=>cases e1;cases e2;exact R1 |1,e1,e2=>cases e1;cases e2;exact R2
       |some cq=>
         rw[hc]at rc;have Rc:bh K H4 c cq:=mS rc;have Tc:Bd 2000 cq:=(Ow.Js j1 j2 fV.bd eG.bd hc).mono (by decide);have jY:=s4 _ _ n3.at';have tU:iL H4 (L2.upd H4 l (.lst ([t1,t2]++[c]))):=.pU jY;refine⟨fun Z H5=>H5=L2.upd H4 l (.lst ([t1,t2]++[c]))/\Z=[some m,some v1,some v2,some (.int ay),some (.ref l),some c],?_,?_⟩
         · obtain⟨pc,rfl,_⟩:=id Rc
           refine⟨_,rfl,rfl,_,rfl,bV ?_⟩;refine⟨_,rfl,.inl ⟨rfl,_,aF.of jY⟩,_,rfl,l,[t1,t2],_,rfl,rfl,jY,Yv _ (Nat.le_of_ble_eq_true rfl),?_⟩;exact⟨rfl,rfl⟩
         rintro Z H5 ⟨rfl,rfl⟩;have up:∀{v:V}{q:Rat},bh K H4 v q->bh K (L2.upd H4 l (.lst ([t1,t2]++[c]))) v q:=fun{v q} h=>mS (RD.t tU _ (qh q) h.rd);refine⟨_,rfl,l,[t1,t2,c],[topR ay sp,topR ay sq,cq],rfl,aF.of ba,⟨up R1,T1,up R2,T2,up Rc,Tc,trivial⟩,by simp,fun i v q e1 e2 hq=>?_⟩;have tL:betR j ay (some (ns,sp)) (some (ms,sq))=q:=by
          show mnO (mn _ _) (cornO j ns ms)=q;rw[hc];show mn (mn _ _) cq=q;have h1:=hq _ (show topR ay sp∈[topR ay sp,topR ay sq,cq] by simp);have h2:=hq _ (show topR ay sq∈[topR ay sp,topR ay sq,cq] by simp);have h3:=hq _ (show cq∈[topR ay sp,topR ay sq,cq] by simp);refine mX ?_ (kX h1 h2) h3
          match i,e2 with |0,e2=>cases e2;exact .inl (mX (.inl rfl) h1 h2).symm |1,e2=>cases e2;exact .inl (mX (.inr rfl) h1 h2).symm |2,e2=>cases e2;exact .inr rfl
         have sU:aE H (L2.upd H4 l (.lst ([t1,t2]++[c]))):=fun b o e=>by have h0:H2 l=none:=n3.no;have e2:=s2 b o (s1 b o e);rw[aK (fW e2 h0)];exact t4 b o e
         refine k v _ ?_ sU;rw[tL]
         match i,e1,e2 with |0,e1,e2=>cases e1;cases e2;exact up R1 |1,e1,e2=>cases e1;cases e2;exact up R2 |2,e1,e2=>cases e1;cases e2;exact up Rc
theorem vF(qs:List Rat):cN (qs.map cR)=true:=Pb qh qs
theorem aJ.E3{H:Hp}{l:Addr}{ys:List V}{y:V}{ds:List ai}{d:ai}{i:Nat}(dl:H l=some (.lst ys))(r:aJ K H ys ds)(rd:RD K H y d)(n1:cN ds=true)(n2:fu d=true):aJ K (L2.upd H l (.lst (ys.set i y))) (ys.set i y) (ds.set i d):=by have t:iL H (L2.upd H l (.lst (ys.set i y))):=.pU dl;have r':=aJ.t t _ n1 r;have Ob:=RD.t t _ n2 rd;clear r rd dl t;generalize L2.upd H l (.lst (ys.set i y))=H' at r' Ob;induction ds generalizing ys i with |nil=>cases r'.nil_inv;exact cU |cons d0 ds ih=>
   obtain⟨y0,yr,rfl,h1,h2⟩:=r'.cons_inv;have n1':cN ds=true:=by rw[cN,fh]at n1;exact n1.2
   cases i with |zero=>exact bW Ob h2 |succ i=>exact bW h1 (ih n1' h2)
theorem Jr(xs:List V):my xs (some 1) none=xs.drop 1:=by unfold my;have e:HT.cw xs.length 0 (some 1)=min 1 xs.length:=HT.NM _ _ 1;rw[e,HT.Zc];cases xs with |nil=>rfl |cons x xs=>
   have e2:min 1 (x::xs).length=1:=by simp
   rw[e2,Kj (by simp)]
inductive V6(K:aa)(vs:List V)(H:Hp)(Q:VK):Prop |mk (m:_)(iv:_)(ay:_)(rs:_)(r:_)(f:_)(j:_)(t:_)(ds:_)(os:_)(h0:vs=[m,iv,.int ay])(h1:RD K H m (iX rs r f j t))(h2:nU rs r f j t)(h3:RD K H iv (.tuple ds))(h4:gO rs.length ds os)(h5:ds.length<=100)(h6:10<=ay)(h7:ay<=200)(h8:∀l ys H',H l=none->H' l=some (.lst ys)->aJ K H' ys ((ownL j ay os).map cR)->aE H H'->Q (.ref l) H'):V6 K vs H Q
def Md(K:aa):Sp:=fun vs H Q _=>V6 K vs H Q
theorem As:bp ["machine","items","rate","between"] ["machine","items","rate"] (aV Au):=bI (by decide+kernel)
theorem a2q(F:FA K mg "own_bounds" Au)(B:bP mg)(gN:GT K mg "NOUGHT" [.int 0,.int 1])(Io:aD P w K mg base "bound_between" 7 (Aq K)):aD P w K mg base "own_bounds" 8 (Md K):=by
 obtain⟨aN,lB,mL⟩:=gN;refine F.has As (fun vs H Q E h=>?_) (fun _ _ _ _ _ _=>nR fun _ _ _=>rfl) (fun f aL A outer s H vs Q E hr h=>?_)
 · obtain⟨m,iv,ay,rs,r,f,j,t,ds,os,rfl,_⟩:=h
   rfl
 · obtain⟨m,iv,ay,rs,r,f,j,t,ds,os,rfl,rm,aO,ri,row,hz,cZ,du,k⟩:=h
   have nd:=As.nd;have rN:∀H',RD K H' (.ref aN) (cR 0):=fun H'=>(sX (mL H')).rd;refine⟨_,(aB (bJ (fk (Gi K rfl (pv 1))) (aG (aU (dv (O (eQ (x:="NOUGHT") rfl lB) aw)))) bO) (aB (Gk (i0:=3) nd rfl (Or.inl rfl) (N:=["one","other","machine","rate"]) (js:=[none,none,some 0,some 2]) rfl rfl rfl (jP K rfl false false rfl (B.at "zip") (O (pv 1) (O (Gr (DY K rfl) (pv 1) (Gm az) Gn) aw))) (fun _ _ _ _ _=>(dR K rfl (n:=2) rfl (bR (bu 0 (show List.Nodup (["one","other","machine","rate"]:List Str) by decide+kernel)) (bR (bu 1 (show List.Nodup (["one","other","machine","rate"]:List Str) by decide+kernel)) dQ)))) (fun _ _ _ _ _=>fF) (fun _ _ _ _ _=>(pf Io hr (O (pv 2) (O (pv 0) (O (pv 1) (O (pv 3) aw))))))) (aG (aU (aI (wK K rfl) (aI (wK K rfl) (dv (O (eQ (x:="NOUGHT") rfl lB) aw)) (pv 3)) (dv (O (eQ (x:="NOUGHT") rfl lB) aw))))))),?_⟩;obtain⟨ia,xs,rfl,hi,ir⟩:=ri.eu;have lx:=ir.length;have ll:=row.len;refine⟨_,rfl,_,.inr (.inl ⟨_,hi,rfl⟩),?_⟩;cases hd:xs with
   |nil=>
     subst hd;refine bV ?_;refine⟨bU rfl,fun l H1 n1=>?_⟩;refine k l [.ref aN] H1 n1.no n1.at' ?_ n1.same;have e:os=[]:=by
      have:os.length=0:=by rw[<-ll,<-lx];rfl
      exact D7.mp this
     rw[e];exact bW (rN H1) cU |cons x0 xr=>
     refine bF ?_;have dG:os≠[]:=by intro e;rw[e]at ll;rw[hd]at lx;simp at ll lx;rw[ll]at lx;cases lx
     have Hx:0<xs.length:=by rw[hd];simp
     refine⟨_,rfl,_,rfl,1,rfl,ia,xs,rfl,.inr ⟨hi,?_,fun tl H1 n1=>?_⟩⟩
     · rintro⟨h1,_⟩
       have e:HT.cw xs.length 0 (some 1)=min 1 xs.length:=HT.NM _ _ 1;rw[e]at h1
       lia
     refine⟨ia,tl,rfl,⟨_,hi.go n1.same⟩,⟨_,aP.of n1.at'⟩,fun D H2 n2=>?_⟩;have et:=n1.at';rw[Jr]at et;have y8:∀(i:Nat)(o:Itm),os[i]? =some o->∀(ns:List Int)(sp:Int),o=some (ns,sp)->eR rs.length 100 ns/\1<=sp/\sp<=20:=fun i o e ns sp e'=>row.ok i ns sp (by rw[e,e']);have lr:=aO.len;refine uq (K:=K) (b1:=false) (b2:=false) (xs:=xs) (ys:=xs.drop 1) (ds:=((List.range (os.length-1)).map (fun i=>ownF j ay os (i+1))).map cR) _ rfl (hi.go n1.same) (aP.of et) n2 (by rw[Ko];simp;lia) (by simp;lia) (vF _) ?_ ?_
     · intro i x y d H3 Q' ex ey ed s3 hq
       have df:=n1.same.trans s3;rw[List.getElem?_drop]at ey;obtain⟨d1,e1,r1⟩:=ir.get' i ex;obtain⟨d2,e2,r2⟩:=ir.get' (1+i) ey;obtain⟨o1,nK,i1⟩:=row.get e1;obtain⟨o2,m4,i2⟩:=row.get e2;have QH:1+i<os.length:=(dM.mp m4).1;have lH:d=cR (betR j ay o1 o2):=by rw[cA,cA,cj (by simp;lia),uK]at ed;have:=(dP ed).symm;rw[this];show cR (betR j ay (atO os i) (atO os (i+1)))=_;rw[Ow.pE nK,Ow.pE (show os[i+1]? =some o2 by rw[Nat.add_comm];exact m4)]
       subst lH;refine⟨_,rfl,_,rfl,_,rfl,_,rfl,m,x,y,ay,rs,r,f,j,t,d1,d2,o1,o2,rs.length,rfl,RD.mono df _ rm,aO.j1.1,aO.j1.2,RD.mono df _ r1,RD.mono df _ r2,i1,i2,y8 _ _ nK,y8 _ _ m4,by lia,cZ,du,fun v H4 rv s4=>?_⟩;exact hq _ _ s4 rv.rd
     · intro H3 zs s3 d3 r3
       have lz:=r3.length;simp at lz;refine⟨bU rfl,fun l1 H4 n4=>?_⟩;refine⟨_,rfl,l1,D,_,zs,rfl,rfl,aF.of n4.at',aF.of (n4.same _ _ d3),xI _ (by simp;lia),fun l2 H5 n5=>?_⟩;refine⟨bU rfl,fun l3 H6 n6=>?_⟩;refine⟨l2,l3,_,_,rfl,rfl,aF.of (n6.same _ _ n5.at'),aF.of n6.at',xI _ (by simp;lia),fun l H7 n7=>?_⟩;have xO:aE H H6:=n1.same.trans (s3.trans (n4.same.trans (n5.same.trans n6.same)));have nl:H l=none:=by cases e:H l with |none=>rfl |some o=>have:=xO _ _ e;rw[n7.no]at this;cases this
       refine k l _ H7 nl n7.at' ?_ (xO.trans n7.same);rw[Ow.OL j ay dG,og,og];exact((bW (rN H7) cU).append (aJ.mono (n4.same.trans (n5.same.trans (n6.same.trans n7.same))) _ r3)).append (bW (rN H7) cU)
inductive V4(K:aa)(vs:List V)(H:Hp)(Q:VK):Prop |mk (v:_)(r:_)(z:_)(h0:vs=[v,.int z])(h1:bh K H v r)(h2:Bd 2000 r)(h3:z.natAbs<2^24)(h4:∀v H',bh K H' v (r+(z:Rat))->aE H H'->Q v H'):V4 K vs H Q
def Ao(K:aa):Sp:=fun vs H Q _=>V4 K vs H Q
theorem xr_addz {r : Rat} {z : Int} (m : r + (z : Rat) = Rat.divInt (r.num * (1:Nat) + z * r.den) (r.den * (1:Nat))) : r.num + z * r.den = (r + (z : Rat)).num ∧ (r.den : Int) = (r + (z : Rat)).den := by
  have c : (r.num + z * r.den).natAbs.Coprime r.den := (Int.gcd_add_mul_right_left (r.den : Int) r.num z).trans r.reduced
  have e : r + (z : Rat) = ⟨r.num + z * r.den, r.den, r.den_nz, c⟩ := by
    rw [m, Rat.mk_eq_divInt, Int.natCast_one, Int.mul_one, Int.mul_one]
  rw [e]
  exact ⟨rfl, rfl⟩
theorem N4:bp ["one","more","p","q"] ["one","more"] (aV EY):=bI (by decide+kernel)
theorem a2m(F:FA K mg "plus_whole" EY)(B:bP mg):aD P w K mg base "plus_whole" 4 (Ao K):=by
 refine F.has N4 (fun vs H Q E h=>?_) (fun _ _ _ _ _ _=>dy fun _ _=>rfl) (fun f aL A outer s H vs Q E hr h=>?_)
 · obtain⟨v,r,z,rfl,_⟩:=h
   rfl
 · obtain⟨v,r,z,rfl,rv,br,hz,k⟩:=h
   have nd:=N4.nd
   obtain ⟨p,rfl,hp⟩:=rv
   refine ⟨_,(aB (fU (pv 0) (dR K rfl (n:=2) rfl (bR (bu 2 nd) (bR (bu 3 nd) dQ)))) (aG (aU (dS (O (aI cS (pv 2) (aI bE (pv 1) (pv 3))) (O (pv 3) aw)))))),?_⟩
   refine ⟨_,rfl,_,_,rfl,hp,rfl,_,_,rfl,_,_,rfl,rfl,?_⟩
   have bz:Bd 24 (z:Rat):=⟨hz,by show 1<2^24;decide⟩
   obtain ⟨e1,e2⟩:=xr_addz (add_div r z)
   refine ⟨_,rfl,_,rfl,_,rfl,_,_,rfl,rfl,iA (bz.mono (by decide)).wn.bits br.wd.bits,_,_,rfl,rfl,_,rfl,bU rfl,fun t H' n=>k _ _ ⟨t,rfl,aP.of ?_⟩ n.same⟩
   rw [← e1,← e2]; exact n.at'
theorem Bl{os:List Itm}{i:Nat}{ns:List Int}{sp:Int}(h:os[i]? =some (some (ns,sp))):leadF os i=some (aH ns):=by unfold leadF;rw[Ow.pE h];rfl
theorem Q5{os:List Itm}{i:Nat}(h:os[i]? =some none):leadF os i=none:=by unfold leadF;rw[Ow.pE h];rfl
theorem Q6{os:List Itm}(h:OkIs os){i m:Nat}(e:leadF os i=some m):m<=100:=by unfold leadF at e;cases ho:atO os i with |none=>rw[ho]at e;cases e |some q=>rw[ho]at e;cases e;obtain⟨a,_,_⟩:=h i q.1 q.2 ho;exact nc fun z hz=>by have:=a z hz;lia
theorem KU{r:Int}{m:Nat}(h1:1<=r)(h2:r<=50)(h3:m<=100):(2*r*(m:Int)).natAbs<2^24:=by
 have lE:(2:Nat)^24=16777216:=by decide
 have:=kU (a:=2*r) (b:=(m:Int)) (m:=100) (n:=100) (by lia) (by lia);rw[lE];lia
theorem Nz:bp ["machine","items","squares","fall","kept","i"] ["machine","items","squares"] (aV Fw):=bI (by decide+kernel)
theorem MF:bp ["_law_one","_law_other_here"] ["_law_one","_law_other_here"] (aV Eh):=bI (by decide+kernel)
theorem a1O(F:FA K mg "_law_sum" Eh)(B:bP mg)(qL:aD P w K mg base "_law_frac" 1 (xE K)):aD P w K mg base "_law_sum" 2 (mM (·+·) K):=by
 refine F.has MF (fun vs H Q E h=>?_) (fun _ _ _ _ _ _=>dy fun _ _=>rfl) (fun f aL A outer s H vs Q E hr h=>?_)
 · obtain⟨v1,v2,r,s,rfl,_⟩:=h
   rfl
 · obtain⟨v1,v2,r,s,rfl,⟨p,rfl,hp⟩,⟨q,rfl,hq⟩,br,bs,k⟩:=h
   have nd:=MF.nd;refine⟨_,(aG (aU (pf qL hr (O (aI cS (aI bE (px K (pv 0) az) (px K (pv 1) az)) (aI bE (px K (pv 1) az) (px K (pv 0) az))) (O (aI bE (px K (pv 0) az) (px K (pv 1) az)) aw))))),?_⟩;refine⟨_,rfl,.inr ⟨p,_,0,.int r.num,rfl,rfl,hp,rfl,_,rfl,.inr ⟨q,_,1,.int s.den,rfl,rfl,hq,rfl,_,_,rfl,rfl,iA br.wn.bits bs.wd.bits,?_⟩⟩⟩;refine⟨_,rfl,.inr ⟨q,_,0,.int s.num,rfl,rfl,hq,rfl,_,rfl,.inr ⟨p,_,1,.int r.den,rfl,rfl,hp,rfl,_,_,rfl,rfl,iA bs.wn.bits br.wd.bits,?_⟩⟩⟩;refine⟨_,_,rfl,rfl,?_⟩;refine⟨_,rfl,.inr ⟨p,_,1,.int r.den,rfl,rfl,hp,rfl,_,rfl,.inr ⟨q,_,1,.int s.den,rfl,rfl,hq,rfl,_,_,rfl,rfl,iA br.wd.bits bs.wd.bits,?_⟩⟩⟩;refine⟨_,_,rfl,iB (den_pos r) (den_pos s),zW br bs,fun v H' r' s'=>k v H' ?_ s'⟩;show bh K H' v (r+s);rw[add_div];exact r'
theorem Nc:bp ["_law_one","_law_other_here"] ["_law_one","_law_other_here"] (aV Fc):=bI (by decide+kernel)
theorem a2A(F:FA K mg "_law_less" Fc)(B:bP mg):aD P w K mg base "_law_less" 1 (uW K):=by
 refine F.has Nc (fun vs H Q E h=>?_) (fun _ _ _ _ _ _=>dy fun _ _=>rfl) (fun f aL A outer s H vs Q E hr h=>?_)
 · obtain⟨v1,v2,r,s,rfl,_⟩:=h
   rfl
 · obtain⟨v1,v2,r,s,rfl,⟨p,rfl,hp⟩,⟨q,rfl,hq⟩,br,bs,k⟩:=h
   have nd:=Nc.nd;refine⟨_,(aG (aU (fq jQ (aI bE (px K (pv 0) az) (px K (pv 1) az)) (aI bE (px K (pv 1) az) (px K (pv 0) az)) (bw _)))),?_⟩;refine⟨_,rfl,.inr ⟨p,_,0,.int r.num,rfl,rfl,hp,rfl,_,rfl,.inr ⟨q,_,1,.int s.den,rfl,rfl,hq,rfl,_,_,rfl,rfl,iA br.wn.bits bs.wd.bits,?_⟩⟩⟩;refine⟨_,rfl,.inr ⟨q,_,0,.int s.num,rfl,rfl,hq,rfl,_,rfl,.inr ⟨p,_,1,.int r.den,rfl,rfl,hp,rfl,_,_,rfl,rfl,iA bs.wn.bits br.wd.bits,?_⟩⟩⟩;refine⟨_,_,rfl,rfl,?_⟩;have e:decide (r.num*(s.den:Int)<s.num*(r.den:Int))=decide (r<s):=by rw[om,rH,rH,CU]
   show Q (.bl (decide (r.num*(s.den:Int)<s.num*(r.den:Int)))) H;rw[e];exact k
theorem N9:bp ["_law_some","_law_best","_law_one"] ["_law_some"] (aV F8):=bI (by decide+kernel)
theorem a2v(F:FA K mg "_law_min" F8)(B:bP mg)(a7H:aD P w K mg base "_law_less" 1 (uW K)):aD P w K mg base "_law_min" 2 (jn K):=by
 refine F.has N9 (fun vs H Q E h=>?_) (fun _ _ _ _ _ _=>eK fun _=>rfl) (fun f aL A outer s H vs Q E hr h=>?_)
 · obtain⟨l,xs,rs,rfl,_⟩:=h
   rfl
 · obtain⟨l,xs,rs,rfl,hl,mh,dG,k⟩:=h
   have nd:=N9.nd;refine⟨_,(aB (pS 1 nd (px K (pv 0) az)) (aB (lS gY rfl (xW K rfl (pv 0)) (bu 2 nd) (aG (bJ (cM (pf a7H hr (O (pv 2) (O (pv 1) aw)))) (aG (pS 1 nd (pv 2))) bO))) (aG (aU (pv 1))))),?_⟩;have hlen:=mh.length;have h0:0<xs.length:=Km.mpr dG;have e0:=cj h0;refine⟨_,rfl,.inl ⟨l,xs,0,xs[0],rfl,rfl,hl,dc (by decide) e0,?_⟩⟩;refine⟨_,rfl,l,rfl,⟨_,hl⟩,IM (K:=K) (a:=l) (xs:=xs) (fun i Z H2=>H2=H/\∃(j:Nat)(b:V)(r:Rat)(v:Option V),xs[j]? =some b/\rs[j]? =some r/\(∀(m:Nat)(s:Rat),m<i->rs[m]? =some s->r<=s)/\Z=[some (.ref l),some b,v]) ?_ (fun i Z H2 _ h=>by rw[h.1];exact hl) ?_ ?_⟩
   · obtain⟨r,e1,_⟩:=mh.get e0
     exact⟨rfl,0,_,r,none,e0,e1,fun m s hm=>absurd hm (Nat.not_lt_zero _),rfl⟩
   · rintro i x Z H2 hx ⟨rfl,j,b,r,v,eb,er,hm,rfl⟩
     obtain⟨t,et,rt,bt⟩:=mh.get hx;obtain⟨r2,nH,rb,bb⟩:=mh.get eb;rw[er]at nH;cases nH;refine⟨_,rfl,_,rfl,x,b,t,r,rfl,rt,rb,bt,bb,_,rfl,?_⟩;refine dN (fun hc=>?_) (fun hc=>?_)
     · have cx:t<r:=jI hc
       refine⟨_,rfl,?_⟩;refine⟨rfl,i,x,t,_,hx,et,fun m s tR es=>?_,rfl⟩;rcases Kh.mp tR with h|h
       ·exact eg (K8 cx) (hm m s h es)
       · subst h
         rw[et]at es;cases es;exact pK
     · have HU:¬t<r:=fun z=>hc (cH z)
       refine⟨rfl,j,b,r,_,eb,er,fun m s tR es=>?_,rfl⟩;rcases Kh.mp tR with h|h
       ·exact hm m s h es
       · subst h
         rw[et]at es;cases es;exact zG.mp HU
   · rintro Z H2 ⟨rfl,j,b,r,v,eb,er,hm,rfl⟩
     refine⟨_,rfl,k j b r eb er fun s hs=>?_⟩;obtain⟨m,Ib,em⟩:=WE.mp hs;exact hm m s (by lia) (by rw[cj Ib,em])
theorem a1I(F:FA K mg "_law_top" Eb)(B:bP mg)(qL:aD P w K mg base "_law_frac" 1 (xE K)):aD P w K mg base "_law_top" 2 (DI K):=by
 refine F.has My (fun vs H Q E h=>?_) (fun _ _ _ _ _ _=>dy fun _ _=>rfl) (fun f aL A outer s H vs Q E hr h=>?_)
 · obtain⟨v,ns,sp,r,rfl,_⟩:=h
   rfl
 · obtain⟨v,ns,sp,r,rfl,rd,s1,s2,r1,r2,k⟩:=h
   have nd:=My.nd;refine⟨_,(aG (aU (pf qL hr (O (aI bE (aI bE (aI bE (px K (pv 0) az) (px K (pv 0) az)) (pv 1)) (pv 1)) (O az aw))))),?_⟩;obtain⟨a,b,rfl,ha,hb⟩:=lV rd;have m1:(sp*sp).natAbs<=20*20:=by rw[fN];exact mF (by omega) (by omega)
   have m2:(sp*sp*r).natAbs<=400*200:=by rw[fN];exact mF (by omega) (by omega)
   refine⟨_,rfl,.inr ⟨a,_,2,.int sp,rfl,rfl,ha,rfl,_,rfl,.inr ⟨a,_,2,.int sp,rfl,rfl,ha,rfl,_,_,rfl,rfl,.of_left (cg (by omega) (by omega)),?_⟩⟩⟩;refine⟨_,rfl,_,_,rfl,rfl,.of_left (cg (by omega) (by omega)),_,rfl,_,_,rfl,rfl,.of_left (cg (by omega) (by omega)),?_⟩;refine⟨_,_,rfl,by decide,gZ (n:=20) (by decide) (by decide),fun v' H' r' s'=>k v' H' ?_ s'⟩;rw[LL]at r';exact r'
theorem mn3{x y z q:Rat}(h:q=x\/q=y\/q=z)(h1:q<=x)(h2:q<=y)(h3:q<=z):mn (mn x y) z=q:=by
 refine CV ?_ (kX (kX h1 h2) h3);rcases h with h|h|h
 ·rw[h];exact eg (gC _ _) (gC _ _)
 ·rw[h];exact eg (gC _ _) (kB _ _)
 ·rw[h];exact kB _ _
theorem yx{n:Nat}{ns:List Int}(h:eR n 100 ns):aH ns<=100:=by have:=h.lead;lia
open Wk
def fo(pl:List Int):ai:=.tuple (pl.map PyData.int)
theorem hZ(pl:List Int):fu (fo pl)=true:=by rw[fo,fu];exact kR pl
theorem sP{H:Hp}{v:V}{pl:List Int}(h:RD K H v (fo pl)):∃a,v= .ref a/\aP K H a (pl.map V.int):=by obtain⟨a,xs,rfl,h1,h2⟩:=h.eu;rw[h2.iY]at h1;exact⟨a,rfl,h1⟩
theorem vj{H:Hp}{a:Addr}{pl:List Int}(h:aP K H a (pl.map V.int)):RD K H (.ref a) (fo pl):=iT h (vg pl)
def gU(pl:List Int):Itm->List Int |none=>pl |some (ns,_)=>fR pl ns
theorem bT.putL{p l:Addr}{H H1:Hp}{xs:List V}(b:bT p H H1)(hp:l≠p)(nl:H l=none):bT p H (L2.upd H1 l (.lst xs)):=by
 refine⟨?_,fun c o n e=>?_⟩
 · obtain⟨c',m',e,ok⟩:=b.bL
   exact⟨c',m',by rw[aK hp.symm];exact e,ok⟩
 ·rw[aK (fW e nl)];exact b.same c o n e
inductive V3(K:aa)(vs:List V)(H:Hp)(Q:VK):Prop |mk (p:_)(m:_)(rs:_)(r:_)(f:_)(j:_)(t:_)(h0:vs=[.ref p,m])(h1:gz H p)(h2:RD K H m (iX rs r f j t))(h3:nU rs r f j t)(h4:∀v pl H',RD K H' v (fo pl)->iM rs pl->bT p H H'->Q v H'):V3 K vs H Q
def Mb(K:aa):Sp:=fun vs H Q _=>V3 K vs H Q
theorem N3:bp ["_law_bag_here","_law_machine_here"] ["_law_bag_here","_law_machine_here"] (aV EX):=bI (by decide+kernel)
theorem a2o(F:FA K mg "_law_place" EX)(B:bP mg)(dZ:aD P w K mg base "_law_take" 1 pW):aD P w K mg base "_law_place" 2 (Mb K):=by
 refine F.has N3 (fun vs H Q E h=>?_) (fun _ _ _ _ _ _=>dy fun _ _=>rfl) (fun f aL A outer s H vs Q E hr h=>?_)
 · obtain⟨p,m,rs,r,f,j,t,rfl,_⟩:=h
   rfl
 · obtain⟨p,m,rs,r,f,j,t,rfl,bg,rm,vt,k⟩:=h
   have nd:=N3.nd;refine⟨_,(aG (aU (ib (x:="tuple") (kL K rfl) rfl (B.at "tuple") fL (O (gd (N:=["_law_rail","_law_bag_here"]) (js:=[none,some 0]) rfl rfl rfl (qj K rfl (px K (pv 1) az)) (fun _ _ _ _ _=>(bu 0 (fP (by decide)))) (fun _ _ _ _ _=>fF) (fun _ _ _ _ _=>(pf dZ hr (O (pv 1) (O (aI cS (pv 0) az) aw))))) aw)))),?_⟩;obtain⟨ma,mb,rfl,gM,jB⟩:=kW rm;have lr:=vt.len;refine⟨_,rfl,.inr ⟨ma,_,0,.ref mb,rfl,rfl,gM,dc (gA 0) rfl,mb,rfl,⟨_,jB⟩,fun D H1 n1=>?_⟩⟩;refine SI (K:=K) (J:=rA K mb) (p:=p) (H:=H) rs.length _ n1 bg (by lia) (fun i=>.int (rs.getD i 0)) (fun i H2 hi b2=>?_) (fun H2 b2=>?_) (fun i d=>∃z r,d= .int z/\rs[i]? =some r/\0<=z/\z<=r) ?_ ?_
   · have BE:=jB.t (bT.t bg b2)
     have e:(rs.map V.int)[i]? =some (.int (rs.getD i 0)):=by rw[cA,List.getD_eq_getElem?_getD,cj hi];rfl
     exact⟨⟨_,_,BE,e⟩,fun y H3 ⟨e3,y3⟩=>⟨e3,by have:=y3 _ BE;rw[e]at this;exact(dP this).symm⟩⟩
   ·exact⟨_,jB.t (bT.t bg b2),by rw[cu];exact bK _⟩
   · intro i H2 Q' hi b2 hq
     have er:rs[i]? =some (rs.getD i 0):=by rw[List.getD_eq_getElem?_getD,cj hi];rfl
     obtain⟨r0,r1⟩:=vt.rl _ (gG er);refine⟨_,rfl,_,rfl,_,_,rfl,rfl,p,_,rfl,b2.bL,by lia,by lia,fun z H3 z0 z1 b3=>?_⟩;exact hq _ _ _ ⟨z,_,rfl,er,z0,by lia⟩ rfl (dC z) b3
   · intro H2 ys ds b2 d2 r2 l2 nl pd
     have qJ:∃pl:List Int,ds=pl.map PyData.int/\iM rs pl:=by
      have key:∀(ds:List ai),(∀d∈ds,∃z:Int,d= .int z)->∃pl:List Int,ds=pl.map PyData.int:=by intro ds;induction ds with |nil=>exact fun _=>⟨[],rfl⟩ |cons d ds ih=>intro h;obtain⟨z,rfl⟩:=h d (.head _);obtain⟨pl,rfl⟩:=ih fun x hx=>h x (.tail _ hx);exact⟨z::pl,rfl⟩
      obtain⟨pl,rfl⟩:=key ds fun d hd=>by obtain⟨i,hi⟩:=pQ.mp hd;obtain⟨z,_,e,_⟩:=pd i d hi;exact⟨z,e⟩
      refine⟨pl,rfl,by simpa using l2,fun i x r e1 e2=>?_⟩;obtain⟨z,r',e,er,h0,h1⟩:=pd i (.int x) (by rw[cA,e1];rfl);cases e;rw[e2]at er;cases er;exact⟨h0,h1⟩
     obtain⟨pl,rfl,on⟩:=qJ;refine⟨D,_,rfl,.inl ⟨aF.of d2,fun t H3 n3=>?_⟩⟩;have et:=n3.at';rw[r2.iY]at et;exact k (.ref t) pl H3 (vj (aP.of et)) on (b2.trans (.jt b2.bL n3.same))
inductive Vd(K:aa)(vs:List V)(H:Hp)(Q:VK):Prop |mk (p:_)(m:_)(rs:_)(r:_)(f:_)(j:_)(t:_)(x:_)(pl:_)(mo:_)(h0:vs=[.ref p,m,x,.int mo])(h1:gz H p)(h2:RD K H m (iX rs r f j t))(h3:nU rs r f j t)(h4:RD K H x (fo pl))(h5:iM rs pl)(h6:1<=mo)(h7:mo<=100)(h8:∀v ns sp H',RD K H' v (iH ns sp)->eR rs.length 100 ns->1<=sp->sp<=20->iM rs (fR pl ns)->bT p H H'->Q v H'):Vd K vs H Q
def DR(K:aa):Sp:=fun vs H Q _=>Vd K vs H Q
def gs(rs pl is:List Int)(mo:Int):Prop:=∀(j:Nat)(z a r:Int),is[j]? =some z->pl[j]? =some a->rs[j]? =some r->0<=a+z/\a+z<=r/\(z.natAbs:Int)<=mo
theorem gs.on{rs pl is:List Int}{mo:Int}(h:gs rs pl is mo)(lp:pl.length=rs.length)(ls:is.length=pl.length):iM rs (fR pl is):=by
 refine⟨by rw[qX ls];exact lp,?_⟩;intro j x r ej nI;have hj:j<pl.length:=by have:=(dM.mp ej).1;rw[qX ls]at this;exact this
 have Sg:=JM (cj hj) (cj (show j<is.length by lia));rw[ej]at Sg;have ej3:=dP Sg;have:=h j _ _ r (cj (show j<is.length by lia)) (cj hj) nI
 lia
theorem gs.bd{rs pl is:List Int}{mo:Int}(h:gs rs pl is mo)(lp:pl.length=rs.length)(ls:is.length=pl.length):∀z∈is,(z.natAbs:Int)<=mo:=fun z lW=>by obtain⟨j,hj⟩:=pQ.mp lW;have QE:=(dM.mp hj).1;exact(h j z _ _ hj (cj (show j<pl.length by lia)) (cj (show j<rs.length by lia))).2.2
theorem gs.snoc{rs pl is:List Int}{mo z a r:Int}(h:gs rs pl is mo)(ea:pl[is.length]? =some a)(er:rs[is.length]? =some r)(hz:0<=a+z/\a+z<=r/\(z.natAbs:Int)<=mo):gs rs pl (is++[z]) mo:=by
 intro j z' a' r' ej nL nI;by_cases hj:j<is.length
 · rw[xj hj]at ej
   exact h j z' a' r' ej nL nI
 · have oY:j=is.length:=by
     have:=(dM.mp ej).1;rw[fD]at this;have:j<is.length+1:=this
     lia
   rw[oY,zL (bK _),Ke]at ej;cases ej;rw[oY]at nL nI;rw[ea]at nL;rw[er]at nI;cases nL;cases nI;exact hz
theorem gs.set{rs pl is:List Int}{mo z a r:Int}{i:Nat}(h:gs rs pl is mo)(ea:pl[i]? =some a)(er:rs[i]? =some r)(hz:0<=a+z/\a+z<=r/\(z.natAbs:Int)<=mo):gs rs pl (is.set i z) mo:=by
 intro j z' a' r' ej nL nI;by_cases hj:j=i
 · subst hj
   rw[ea]at nL;rw[er]at nI;cases nL;cases nI;have hl:j<is.length:=by have:=(dM.mp ej).1;rwa [uJ]at this
   rw[zK hl]at ej;cases ej;exact hz
 · rw[Kp (fg hj)]at ej
   exact h j z' a' r' ej nL nI
theorem Nb:bp ["_law_bag_here","_law_machine_here","_law_place_here","_law_most","_law_steps","_law_flat","_law_axis","_law_stand_here","_law_low","_law_high"] ["_law_bag_here","_law_machine_here","_law_place_here","_law_most"] (aV Fb):=bI (by decide+kernel)
theorem a2z(F:FA K mg "_law_line" Fb)(B:bP mg)(dZ:aD P w K mg base "_law_take" 1 pW):aD P w K mg base "_law_line" 2 (DR K):=by
 refine F.has Nb (fun vs H Q E h=>?_) (fun _ _ _ _ _ _=>Cv fun _ _ _ _=>rfl) (fun fa aL A outer s H vs Q E hr h=>?_)
 · obtain⟨p,m,rs,r,f,j,t,x,pl,mo,rfl,_⟩:=h
   rfl
 · obtain⟨p,m,rs,r,f,j,t,x,pl,mo,rfl,bg,rm,vt,rx,on,mo1,mo2,k⟩:=h
   have nd:=Nb.nd;refine⟨_,(aB (pS 4 nd (dv aw)) (aB (pS 5 nd (pf dZ hr (O (pv 0) (O az aw)))) (aB (lS gY rfl (a0M K rfl false rfl (B.at "enumerate") (O (pv 2) aw)) (dR K rfl (n:=2) rfl (bR (bu 6 nd) (bR (bu 7 nd) dQ))) (aB (pS 8 nd (dh (x:="max") (Td rfl) rfl (B.at "max") CW (O az (O (aI gh (pv 7) (pv 3)) aw)))) (aB (pS 9 nd (dh (x:="min") (Jv rfl) rfl (B.at "min") Wz (O (px K (px K (pv 1) az) (pv 6)) (O (aI cS (pv 7) (pv 3)) aw)))) (aB (gP (jq K rfl (pv 4) (O (aI gh (aI cS (pv 8) (pf dZ hr (O (pv 0) (O (aI cS (aI gh (pv 9) (pv 8)) az) aw)))) (pv 7)) aw))) (aG (bJ (bZ (cQ K rfl hr.units) (pv 5) (pv 6) (bw _)) (aG (fU az (sQ (pv 4) (pv 6) set_list))) bO)))))) (aB (gJ (bJ (fk (cM (dh (x:="any") (abg K rfl rfl) rfl (B.at "any") WB (O (pv 4) aw)))) (aB (pS 6 nd (pf dZ hr (O (pv 0) (O (dU K B (O (pv 4) aw)) aw)))) (aG (fU (aI gh az (aI bE az (ib (x:="int") Te rfl (B.at "int") Kd (O (fq qk (px K (pv 2) (pv 6)) az (bw _)) aw)))) (sQ (pv 4) (pv 6) set_list)))) bO)) (aG (aU (dS (O aW (O (ib (x:="tuple") (kL K rfl) rfl (B.at "tuple") fL (O (pv 4) aw)) (O (aI cS az (pf dZ hr (O (pv 0) (O az aw)))) aw)))))))))),?_⟩;have lr:=vt.len;have lp:=on.len;obtain⟨ma,mb,rfl,gM,jB⟩:=kW rm;obtain⟨xa,rfl,Hw⟩:=sP rx;refine⟨bU rfl,fun l H1 n1=>?_⟩;have b1:bT p H H1:=.jt bg n1.same;have vQ:l≠p:=fun z=>bg.ne (z▸n1.no);refine⟨_,rfl,p,4,rfl,b1.bL,by decide,by decide,fun fl H2 f0 f1 b2=>?_⟩;have Ct:=b1.trans b2;have Ya:=bT.t bg Ct;refine⟨_,rfl,xa,rfl,⟨_,Hw.t Ya⟩,a8e (K:=K) (b:=false) (a:=xa) (xs:=pl.map V.int) (fun i Z H3=>bT p H H3/\∃(is:List Int)(v1 v2 v3 v4:Option V),H3 l=some (.lst (is.map V.int))/\is.length=i/\gs rs pl is mo/\Z=[some (.ref p),some (.ref ma),some (.ref xa),some (.int mo),some (.ref l),some (.int fl),v1,v2,v3,v4]) ?_ (fun i Z H3 _ h=>Hw.t (bT.t bg h.1)) ?_ ?_⟩
   ·exact⟨Ct,[],none,none,none,none,b2.same _ _ vQ n1.at',rfl,fun j z a r e=>by simp at e,rfl⟩
   · rintro i y Z H3 hy ⟨b3,is,v1,v2,v3,v4,dl,li,hz,rfl⟩ T H4 n4
     rw[cA]at hy;obtain⟨a,ea,rfl⟩:=Option.map_eq_some_iff.mp hy;have QF:i<pl.length:=(dM.mp ea).1;obtain⟨rl,er⟩:∃rl,rs[i]? =some rl:=⟨_,cj (show i<rs.length by lia)⟩;obtain⟨a0,a1⟩:=on.at' i a rl ea er;obtain⟨r0,r1⟩:=vt.rl rl (gG er);have b4:bT p H H4:=b3.trans (.jt b3.bL n4.same);have t4:=bT.t bg b4;have jY:=n4.same _ _ dl;have atr:fJ (rs.map V.int) (i:Int)=some (.int rl):=dc (by lia) (by rw[cA];simp[er]);refine⟨T,_,rfl,aP.of n4.at',rfl,_,_,rfl,_,_,rfl,rfl,?_⟩;refine⟨_,rfl,_,rfl,_,_,rfl,rfl,_,_,rfl,?_⟩;obtain⟨low,a9J,lo0,lo1,lo2⟩:∃low:Int,(if a-mo>0 then a-mo else 0)=low/\0<=low/\a-mo<=low/\low<=a:=⟨_,rfl,by split<;>lia,by split<;>lia,by split<;>lia⟩;rw[a9J];refine⟨_,rfl,.inr ⟨ma,_,0,.ref mb,rfl,rfl,gM.t t4,rfl,_,rfl,.inr ⟨mb,_,_,.int rl,rfl,rfl,jB.t t4,atr,_,rfl,_,rfl,_,_,rfl,rfl,_,_,rfl,?_⟩⟩⟩;obtain⟨hi,uh,hi0,hi1,QH⟩:∃hi:Int,(if a+mo<rl then a+mo else rl)=hi/\a<=hi/\hi<=rl/\hi<=a+mo:=⟨_,rfl,by split<;>lia,by split<;>lia,by split<;>lia⟩;rw[uh];refine⟨_,rfl,.inl ⟨rfl,_,aF.of jY⟩,?_⟩;refine⟨_,rfl,_,rfl,_,rfl,_,rfl,_,_,rfl,rfl,_,_,rfl,rfl,p,hi-low+1,rfl,b4.bL,by lia,by lia,fun d H5 d0 d1 b5=>?_⟩;refine⟨_,_,rfl,rfl,_,rfl,_,_,rfl,rfl,l,_,_,rfl,rfl,b5.same _ _ vQ jY,?_,?_⟩
     · rw[cu,li]
       have:(1000:Nat)<sizeLine:=by decide
       lia
     have b6:bT p H (L2.upd H5 l (.lst (is.map V.int++[.int (low+d-a)]))):=(b4.trans b5).putL vQ n1.no;have e6:(L2.upd H5 l (.lst (is.map V.int++[.int (low+d-a)]))) l=some (.lst ((is++[low+d-a]).map V.int)):=by rw[ba,og];rfl
     generalize L2.upd H5 l (.lst (is.map V.int++[.int (low+d-a)]))=H6 at b6 e6⊢;rw[<-li]at ea er;have LH:=hz.snoc ea er (z:=low+d-a) (by lia);refine⟨_,rfl,_,rfl,.inl ⟨_,_,rfl,rfl,_,rfl,?_⟩⟩;refine dN (fun hc=>?_) (fun hc=>?_)
     · have ix:jy ((is++[low+d-a]).map V.int).length (i:Int)=some i:=by unfold jy;rw[bc (by lia),bc (by rw[cu,fD];show(i:Int)<((is.length+1:Nat):Int);lia)];simp
       refine⟨_,rfl,_,rfl,l,_,_,_,rfl,rfl,e6,ix,?_⟩;refine⟨b6.putL vQ n1.no,(is++[low+d-a]).set i 0,_,_,_,_,by rw[ba,zJ],by rw[uJ,fD,li];rfl,?_,rfl⟩;rw[li]at ea er;exact LH.set ea er (by lia)
     ·exact⟨b6,is++[low+d-a],_,_,_,_,e6,by rw[fD,li];rfl,LH,rfl⟩
   · rintro Z H3 ⟨b3,is,v1,v2,v3,v4,dl,li,hz,rfl⟩
     rw[cu]at li;have t3:=bT.t bg b3;refine⟨fun Z H4=>bT p H H4/\∃(is:List Int)(v1:Option V),H4 l=some (.lst (is.map V.int))/\eR rs.length 100 is/\iM rs (fR pl is)/\Z=[some (.ref p),some (.ref ma),some (.ref xa),some (.int mo),some (.ref l),some (.int fl),v1,v2,v3,v4],?_,?_⟩
     · refine⟨_,rfl,l,is,rfl,.inl (aF.of dl),_,rfl,?_⟩
       cases ha:is.any (· !=0)with |false=>
         refine bV ?_;refine⟨_,rfl,_,rfl,l,_,rfl,.inl (aF.of dl),p,_,rfl,b3.bL,(by rw[cu];lia),(by rw[cu];lia),fun ax H4 a0 a1 b4=>?_⟩;rw[cu]at a1;have Tx:=b3.trans b4;have QS:ax.toNat<pl.length:=by lia
         have ea:=cj QS;have er:=cj (show ax.toNat<rs.length by lia);obtain⟨q0,q1⟩:=on.at' _ _ _ ea er;obtain⟨r0,r1⟩:=vt.rl _ (gG er);have TH:fJ (pl.map V.int) ax=some (.int pl[ax.toNat]):=dc a0 (by rw[cA,ea];rfl);generalize pl[ax.toNat]=qa at ea q0 q1 TH;generalize rs[ax.toNat]=qr at er q1 r0 r1;refine⟨_,rfl,_,rfl,.inr ⟨xa,_,_,_,rfl,rfl,Hw.t (bT.t bg Tx),TH,?_⟩⟩;refine⟨_,_,rfl,rfl,.inr ⟨_,rfl,?_⟩⟩;refine⟨_,_,rfl,rfl,.of_left (cg (by decide) (by decide)),_,_,rfl,rfl,?_⟩;obtain⟨y,ey,y1,y2,y3⟩:∃y:Int,(1-2*(if decide (qa>0)=true then 1 else 0):Int)=y/\y.natAbs=1/\0<=qa+y/\qa+y<=qr:=by
          by_cases h:qa>0
          ·rw[cH h];exact⟨-1,rfl,rfl,by lia,by lia⟩
          ·rw[fe h];exact⟨1,rfl,rfl,by lia,by lia⟩
         have jY:=b4.same _ _ vQ dl;have ix:jy (is.map V.int).length ax=some ax.toNat:=by unfold jy;rw[bc a0,bc (by rw[cu];lia)]
         refine⟨_,rfl,_,rfl,l,_,_,_,rfl,rfl,jY,ix,?_⟩;have st:=hz.set (i:=ax.toNat) ea er (z:=y) (by lia);have ls:(is.set ax.toNat y).length=pl.length:=by rw[uJ];lia
         refine⟨Tx.putL vQ n1.no,is.set ax.toNat y,_,?_,⟨by lia,fun z lW=>?_,?_⟩,st.on lp ls,rfl⟩
         · rw[ba,<-zJ]
           simp only[ey]
         ·have:=st.bd lp ls z lW;lia
         ·exact⟨y,WE.mpr ⟨ax.toNat,by rw[uJ];lia,by rw[List.getElem_set_self]⟩,by lia⟩ |true=>
         refine bF ?_;have ls:is.length=pl.length:=by lia
         refine⟨b3,is,_,dl,⟨by lia,fun z lW=>?_,?_⟩,hz.on lp ls,rfl⟩
         ·have:=hz.bd lp ls z lW;lia
         · obtain⟨z,lW,h0⟩:=List.any_eq_true.mp ha
           exact⟨z,lW,by simpa using h0⟩
     rintro Z H4 ⟨b4,is,v1,dl,ok,on2,rfl⟩;refine⟨_,rfl,l,_,rfl,.inl ⟨aF.of dl,fun q H5 n5=>?_⟩⟩;have b5:bT p H H5:=b4.trans (.jt b4.bL n5.same);have qp:q≠p:=fun e=>b4.bL.ne (e▸n5.no);refine⟨_,rfl,p,20,rfl,b5.bL,by decide,by decide,fun sp H6 p0 p1 b6=>?_⟩;refine⟨_,_,rfl,rfl,bU rfl,fun t H7 n7=>?_⟩;have b7:=b5.trans (b6.trans (.jt b6.bL n7.same));exact k (.ref t) is (1+sp) H7 (iT (aP.of n7.at') (bW (cV _) (bW (iT (aP.of (n7.same _ _ (b6.same _ _ qp n5.at'))) (vg is)) (bW (dC _) cU)))) ok (by lia) (by lia) on2 b7
def gu(z:Str):Prop:=∀c∈z.cps.toList,c<0x110000
theorem gu.app{a b:Str}(ha:gu a)(hb:gu b):gu (a++b):=fun c hc=>by rw[Wx,Dh,uI]at hc;exact hc.elim (ha c) (hb c)
theorem gu.joined{sep:Str}(hs:gu sep):∀l:List Str,(∀a∈l,gu a)->gu (PySem.Str.join sep l) |[],_=>fun c hc=>by simp[PySem.Str.join,PySem.Str.empty]at hc |[x],h=>h x (.head _) |x::y::r,h=>((h x (.head _)).app hs).app (gu.joined hs (y::r) fun a ha=>h a (.tail _ ha))
theorem gu.join{sep:Str}{l:List Str}(hs:gu sep)(h:∀a∈l,gu a):gu (Txt.join sep l):=by show gu (Builtin.Str.glued sep l);rw[StrLaws.glued_eq_join];exact gu.joined hs l h
theorem a1E{n:Nat}{z:Str}(h:gu z):dw n (.str z):=⟨by show PyData.strOk z=true;unfold PyData.strOk;rw[abP];exact fun c hc=>cH (h c (by simpa using hc)),fZ _⟩
theorem a1C{n:Nat}{z:Str}(h:dw n (.str z)):gu z:=fun c hc=>by have q:PyData.strOk z=true:=h.lay;unfold PyData.strOk at q;rw[abP]at q;exact jI (q c (by simpa using hc))
theorem OZ{z:Str}(h:z.cps.all (·<0x110000)=true):gu z:=a1C (n:=0) ⟨h,fZ _⟩
theorem Ly:∀(ds:List ai),(∀d∈ds,∃z:Str,d= .str z/\z.length=1/\gu z/\z.cps.toList.all (fun c=>decide (97<=c)&&decide (c<=122))=true)->∃zs:List Str,ds=zs.map PyData.str/\∀z∈zs,z.length=1/\gu z/\z.cps.toList.all (fun c=>decide (97<=c)&&decide (c<=122))=true |[],_=>⟨[],rfl,fun _ h=>nomatch h⟩ |d::ds,h=>by obtain⟨z,rfl,e⟩:=h d (.head _);obtain⟨zs,rfl,q⟩:=Ly ds fun x hx=>h x (.tail _ hx);exact⟨z::zs,rfl,fun y hy=>by
     rcases bN.mp hy with rfl|hy
     ·exact e
     ·exact q y hy⟩
theorem abt:gu jD:=OZ (by decide+kernel)
def GZ(c:Nat):Bool:=decide (97<=c)&&decide (c<=122)
def yj(s:Str):Bool:=(decide (1<=s.length)&&decide (s.length<=8))&&s.cps.toList.all GZ
def OS(w s:Str):Prop:=(w="tool"/\(s="up"\/s="down"))\/(w="mark"/\yj s=true)
def pG(d:ai):Prop:=(∃n,d= .tuple [.str "wait",.int n]/\1<=n/\n<=1000)\/∃w s,d= .tuple [.str w,.str s]/\(w="tool"\/w="mark")/\dw 0 (.str s)/\OS w s
theorem Rr:∀l:List Str,(PySem.Str.join ("":Str) l).cps.toList=(l.map fun z=>z.cps.toList).flatten
  |[]=>by simp[PySem.Str.join,PySem.Str.empty] |[x]=>by simp[PySem.Str.join] |x::y::r=>by
    show((x++("":Str))++PySem.Str.join ("":Str) (y::r)).cps.toList=_;rw[Wx,Wx,Dh,Dh,Rr (y::r)];have:(("":Str)).cps.toList=[]:=by decide+kernel
    rw[this];simp
theorem a3s{l:List Str}(h1:1<=l.length)(h8:l.length<=8)(h:∀z∈l,z.length=1/\z.cps.toList.all GZ=true):yj (Txt.join ("":Str) l)=true:=by
 have e:(Txt.join ("":Str) l).cps.toList=(l.map fun z=>z.cps.toList).flatten:=by show(Builtin.Str.glued ("":Str) l).cps.toList=_;rw[StrLaws.glued_eq_join];exact Rr l
 have el:(Txt.join ("":Str) l).length=l.length:=by
  show(Txt.join ("":Str) l).cps.size=_;rw[<-zP,e,List.length_flatten,List.map_map];have:∀(l:List Str),(∀z∈l,z.length=1/\z.cps.toList.all GZ=true)->(l.map (List.length∘fun z=>z.cps.toList)).sum=l.length:=by intro l;induction l with |nil=>intro _;rfl |cons a r ih=>
     intro h;rw[oa,List.sum_cons,ih fun z hz=>h z (.tail _ hz),kn];have:=(h a (.head _)).1;have e2:(List.length∘fun z:Str=>z.cps.toList) a=1:=by show a.cps.toList.length=1;rw[zP];exact this
     rw[e2,Nat.add_comm]
  exact this l h
 unfold yj;rw[el,e,cH h1,cH h8,ko,ko,iQ];intro c hc;obtain⟨cs,BL,BM⟩:=List.mem_flatten.mp hc;obtain⟨z,hz,rfl⟩:=jJ.mp BL;exact iQ.mp (h z hz).2 c BM
theorem pG.it{d:ai}(h:pG d):itR d none:=by
 rcases h with⟨n,rfl,_⟩|⟨w,s,rfl,hw|hw,_⟩
 ·exact .inr ⟨_,_,rfl,.inl rfl,rfl,rfl⟩
 ·exact .inr ⟨_,_,rfl,.inr (.inl hw),rfl,rfl⟩
 ·exact .inr ⟨_,_,rfl,.inr (.inr hw),rfl,rfl⟩
inductive V7(K:aa)(vs:List V)(H:Hp)(Q:VK):Prop |mk (p:Addr)(h0:vs=[.ref p])(h1:gz H p)(h2:∀v d H',RD K H' v d->pG d->bT p H H'->Q v H'):V7 K vs H Q
def Me(K:aa):Sp:=fun vs H Q _=>V7 K vs H Q
theorem a2r(F:FA K mg "_law_other" EZ)(B:bP mg)(dZ:aD P w K mg base "_law_take" 1 pW):aD P w K mg base "_law_other" 2 (Me K):=by
 refine F.has N5 (fun vs H Q E h=>?_) (fun _ _ _ _ _ _=>eK fun _=>rfl) (fun f aL A outer s H vs Q E hr h=>?_)
 · obtain⟨p,rfl,_⟩:=h
   rfl
 · obtain⟨p,rfl,bg,k⟩:=h
   have nd:=N5.nd;refine⟨_,(aB (pS 1 nd (pf dZ hr (O (pv 0) (O az aw)))) (aB (bJ (bZ (cQ K rfl hr.units) (pv 1) az (bw _)) (aG (aU (dS (O aW (O (aI cS az (pf dZ hr (O (pv 0) (O (px K (dv (O az (O az aw))) (pf dZ hr (O (pv 0) (O az aw)))) aw)))) aw))))) bO) (aB (bJ (bZ (cQ K rfl hr.units) (pv 1) az (bw _)) (aG (aU (dS (O aW (O (px K (dv (O aW (O aW aw))) (pf dZ hr (O (pv 0) (O az aw)))) aw))))) bO) (aB (pS 2 nd aW) (aG (aU (dS (O aW (O (a19 K rfl aW (O (gd (N:=["_law_turn","_law_letters","_law_bag_here"]) (js:=[none,some 2,some 0]) rfl rfl rfl (xV rfl (B.at "range") (O (aI cS az (pf dZ hr (O (pv 0) (O az aw)))) aw)) (fun _ _ _ _ _=>(bu 0 (show List.Nodup (["_law_turn","_law_letters","_law_bag_here"]:List Str) by decide+kernel))) (fun _ _ _ _ _=>fF) (fun _ _ _ _ _=>(OB a4S (pv 1) (pf dZ hr (O (pv 2) (O az aw))) (fun _ _=>rfl)))) aw)) aw))))))))),?_⟩;refine⟨_,rfl,p,3,rfl,bg,by decide,by decide,fun so H1 s0 s1 b1=>?_⟩;refine⟨_,rfl,.inl ⟨_,_,rfl,rfl,_,rfl,?_⟩⟩;refine dN (fun hc=>?_) (fun hc=>?_)
   · refine⟨_,rfl,bU rfl,fun c H2' GS=>?_⟩
     have mC:bT p H1 H2':=.jt b1.bL GS.same;have cp:c≠p:=fun z=>b1.bL.ne (z▸GS.no);refine⟨_,rfl,p,2,rfl,mC.bL,by decide,by decide,fun i H3' i0 i1 JD=>?_⟩;have hi:∃z:Int,fJ ([.int 1000,.int 2]:List V) i=some (.int z)/\2<=z/\z<=1000:=by
      rcases(show i=0\/i=1 by lia)with rfl|rfl
      ·exact⟨1000,rfl,by decide,by decide⟩
      ·exact⟨2,rfl,by decide,by decide⟩
     obtain⟨z,ez,z2,abT⟩:=hi;refine .inl ⟨c,_,_,_,rfl,rfl,aF.of (JD.same _ _ cp GS.at'),ez,?_⟩;refine⟨p,z,rfl,JD.bL,by lia,by lia,fun n H2 n0 n1 ab7=>?_⟩;have b2:=mC.trans (JD.trans ab7);refine⟨_,_,rfl,rfl,bU rfl,fun t H3 n3=>?_⟩;exact k (.ref t) _ H3 (iT (aP.of n3.at') (bW (cV _) (bW (dC _) cU))) (.inl ⟨_,rfl,by lia,by lia⟩) (b1.trans (b2.trans (.jt b2.bL n3.same)))
   refine⟨_,rfl,.inl ⟨_,_,rfl,rfl,_,rfl,?_⟩⟩;refine dN (fun hc=>?_) (fun hc=>?_)
   · refine⟨bU rfl,fun c H2 n2=>?_⟩
     have b2:bT p H1 H2:=.jt b1.bL n2.same;have cp:c≠p:=fun z=>b1.bL.ne (z▸n2.no);refine⟨_,rfl,p,2,rfl,b2.bL,by decide,by decide,fun i H3 i0 i1 b3=>?_⟩;have hi:∃z:Str,fJ ([.str "up",.str "down"]:List V) i=some (.str z)/\dw 0 (.str z)/\OS "tool" z:=by
      rcases(show i=0\/i=1 by lia)with rfl|rfl
      ·exact⟨"up",rfl,⟨by decide+kernel,by decide+kernel⟩,.inl ⟨rfl,.inl rfl⟩⟩
      ·exact⟨"down",rfl,⟨by decide+kernel,by decide+kernel⟩,.inl ⟨rfl,.inr rfl⟩⟩
     obtain⟨z,ez,okz,onz⟩:=hi;refine .inl ⟨c,_,_,_,rfl,rfl,aF.of (b3.same _ _ cp n2.at'),ez,bU rfl,fun t H4 n4=>?_⟩;exact k (.ref t) _ H4 (iT (aP.of n4.at') (bW (cV _) (bW (cV _) cU))) (.inr ⟨_,_,rfl,.inl rfl,okz,onz⟩) (b1.trans (b2.trans (b3.trans (.jt b3.bL n4.same))))
   refine⟨rfl,?_⟩;refine⟨_,rfl,p,8,rfl,b1.bL,by decide,by decide,fun n H2 n0 n1 b2=>?_⟩;refine⟨_,_,rfl,rfl,_,rfl,by lia,by lia,fun D H3 nD=>?_⟩;refine SI (K:=K) (J:=nV 0 (1+n).toNat) (p:=p) (H:=H2) (1+n).toNat _ nD b2.bL (by lia) (fun i=>.int (0+(i:Int))) (fun i H3 hi _=>⟨hi,fun y H4 ⟨e,q⟩=>⟨e,q⟩⟩) (fun H3 _=>bK _) (fun _ d=>∃z:Str,d= .str z/\z.length=1/\gu z/\z.cps.toList.all (fun c=>decide (97<=c)&&decide (c<=122))=true) ?_ ?_
   · intro i H3 Q' hi b3 hq
     refine⟨_,rfl,_,rfl,p,26,rfl,b3.bL,by decide,by decide,fun d H4 d0 d1 b4=>?_⟩;have hd:d.toNat<jD.cps.toList.length:=by rw[abv];lia
     refine⟨jD,d,jD.cps.toList[d.toNat],rfl,rfl,by decide+kernel,dc d0 (cj hd),?_⟩;have fV:gu ⟨#[jD.cps.toList[d.toNat]]⟩:=fun c hc=>by have iI:c=jD.cps.toList[d.toNat]:=cf.mp hc;rw[iI];exact abt _ (D8 hd)
     have eG:(⟨#[jD.cps.toList[d.toNat]]⟩:Str).cps.toList.all (fun c=>decide (97<=c)&&decide (c<=122))=true:=by have:=iQ.mp (show jD.cps.toList.all (fun c=>decide (97<=c)&&decide (c<=122))=true by decide+kernel) _ (D8 hd);show([jD.cps.toList[d.toNat]]:List Nat).all _=true;rw[Kq,List.all_nil,Kw];exact this
     exact hq _ _ _ ⟨_,rfl,rfl,fV,eG⟩ rfl (cV _) b4
   · intro H3 ys ds b3 d3 r3 l3 nl pd
     obtain⟨zs,rfl,hz⟩:=Ly ds fun d hd=>by obtain⟨i,hi⟩:=pQ.mp hd;exact pd i d hi
     rw[Lx r3]at d3;rw[cu]at l3;refine⟨"",D,zs,rfl,rfl,aF.of d3,fun z lW=>by rw[(hz z lW).1];decide,by decide,by lia,bU rfl,fun t H4 n4=>?_⟩;exact k (.ref t) _ H4 (iT (aP.of n4.at') (bW (cV _) (bW (cV _) cU))) (.inr ⟨_,_,rfl,.inr rfl,a1E (gu.join (OZ (by decide+kernel)) fun a ha=>(hz a ha).2.1),.inr ⟨rfl,a3s (by lia) (by lia) fun z lW=>⟨(hz z lW).1,(hz z lW).2.2⟩⟩⟩) (b1.trans (b2.trans (b3.trans (.jt b3.bL n4.same))))
def RowW(ds:List ai)(os:List Itm):Prop:=∀(i:Nat)(d:ai),os[i]? =some none->ds[i]? =some d->pG d
theorem RowW.snoc{ds:List ai}{os:List Itm}{d:ai}{o:Itm}(h:RowW ds os)(hl:ds.length=os.length)(hd:o=none->pG d):RowW (ds++[d]) (os++[o]):=by
 intro i x e1 e2;rcases sx e1 with h1|⟨h1,h1'⟩
 · rcases sx e2 with h2|⟨h2,_⟩
   ·exact h i x h1 h2
   ·have:=(dM.mp h1).1;lia
 · rcases sx e2 with h2|⟨_,ub⟩
   ·have:=(dM.mp h2).1;lia
   ·subst ub;exact hd h1'.symm
theorem KA{j:Int}(h:j.natAbs<2^64):Wd j:=Kf h (by decide+kernel)
inductive V8(vs:List V)(H:Hp)(Q:VK):Prop |mk (p:Int)(q:Int)(h0:vs=[.int p,.int q])(h1:0<q)(h2:q<=10^6)(h3:p.natAbs<=10^9)(h4:Q (.int (ip p q)) H):V8 vs H Q
def DQ:Sp:=fun vs H Q _=>V8 vs H Q
theorem N6:bp ["p","q","size"] ["p","q"] (aV F1):=bI (by decide+kernel)
theorem a2s(F:FA K mg "nearest" F1)(B:bP mg):aD P w K mg base "nearest" 1 DQ:=by
 refine F.has N6 (fun vs H Q E h=>?_) (fun _ _ _ _ _ _=>dy fun _ _=>rfl) (fun f aL A outer s H vs Q E hr h=>?_)
 · obtain⟨p,q,rfl,_⟩:=h
   rfl
 · obtain⟨p,q,rfl,q0,q1,p1,k⟩:=h
   have nd:=N6.nd;refine⟨_,(aB (pS 2 nd (aI m9 (aI cS (aI bE az (dh (x:="abs") nQ rfl (B.at "abs") pM (O (pv 0) aw))) (pv 1)) (aI bE az (pv 1)))) (aG (aU (OC (bZ Gy (pv 0) az (bw _)) (pv 2) (xX xq (pv 2)))))),?_⟩;refine⟨_,rfl,p,rfl,_,_,rfl,rfl,.of_left (cg (by decide) (by decide)),_,rfl,_,_,rfl,rfl,_,rfl,_,_,rfl,rfl,.of_left (cg (by decide) (by decide)),_,_,rfl,rfl,⟨by lia,KA (by lia)⟩,?_⟩;have e:(2*(if p<0 then-p else p)+q)/(2*q)=kM p q:=by unfold kM;rw[<-zk];rfl
   refine⟨_,rfl,_,_,rfl,rfl,_,rfl,?_⟩;unfold ip at k;rw[<-e]at k;refine dN (fun hc=>?_) (fun hc=>?_)
   · have hp:p>=0:=jI hc
     rw[bc hp]at k;exact⟨_,rfl,k⟩
   · have hp:¬p>=0:=fun z=>hc (cH z)
     rw[bf hp]at k;exact⟨_,rfl,_,rfl,k⟩
def DG(ns:List Int)(k:Int):ai:=.tuple ((ns.map fun z=>ip (k*z) (aH ns)).map PyData.int)
theorem Oq{k z:Int}(h:k.natAbs<=10^6)(g:(z.natAbs:Int)<=1000):(k*z).natAbs<=10^9:=by rw[fN];exact iy (mF h (show z.natAbs<=1000 by lia)) (by decide)
inductive UD(K:aa)(vs:List V)(H:Hp)(Q:VK):Prop |mk (v:_)(ns:_)(sp:_)(k:_)(h0:vs=[v,.int k])(h1:RD K H v (iH ns sp))(h2:eR ns.length 1000 ns)(h3:ns.length<=1000)(h4:k.natAbs<=10^6)(h5:∀v' H',RD K H' v' (DG ns k)->aE H H'->Q v' H'):UD K vs H Q
def Al(K:aa):Sp:=fun vs H Q _=>UD K vs H Q
theorem MH:bp ["line","k","lead"] ["line","k"] (aV Ej):=bI (by decide+kernel)
theorem a1Q(F:FA K mg "stand_at" Ej)(B:bP mg)(oV:aD P w K mg base "lead_of" 1 (lO K))(a60:aD P w K mg base "nearest" 1 DQ):aD P w K mg base "stand_at" 2 (Al K):=by
 refine F.has MH (fun vs H Q E h=>?_) (fun _ _ _ _ _ _=>dy fun _ _=>rfl) (fun f aL A outer s H vs Q E hr h=>?_)
 · obtain⟨v,ns,sp,k,rfl,_⟩:=h
   rfl
 · obtain⟨v,ns,sp,kk,rfl,rd,ok,hz,hk,k⟩:=h
   have nd:=MH.nd;refine⟨_,(aB (pS 2 nd (pf oV hr (O (pv 0) aw))) (aG (aU (ib (x:="tuple") (kL K rfl) rfl (B.at "tuple") fL (O (gd (N:=["step","lead","k"]) (js:=[none,some 2,some 1]) rfl rfl rfl (qj K rfl (px K (pv 0) az)) (fun _ _ _ _ _=>(bu 0 (show List.Nodup (["step","lead","k"]:List Str) by decide+kernel))) (fun _ _ _ _ _=>fF) (fun _ _ _ _ _=>(pf a60 hr (O (aI bE (pv 2) (pv 0)) (O (pv 1) aw))))) aw))))),?_⟩;refine⟨_,rfl,v,ns,sp,rfl,rd,ok.ne,hz,fun H1 s1=>?_⟩;obtain⟨a,b,rfl,ha,hb⟩:=lV (RD.mono s1 _ rd);obtain⟨lp,lm⟩:=ok.lead;refine⟨_,rfl,.inr ⟨a,_,1,.ref b,rfl,rfl,ha,rfl,b,rfl,⟨_,hb⟩,fun D H0 nw=>?_⟩⟩;refine Ci (K:=K) (xs:=ns.map V.int) (ds:=(ns.map fun z=>ip (kk*z) (aH ns)).map PyData.int) _ hb nw (by simp) (by simpa using hz) (kR _) ?_ ?_
   · intro i x d H2 Q' ex ed s2 hq
     rw[List.map_map]at ed;obtain⟨n,en,rfl⟩:=md ed;cases yo ex en;refine⟨_,rfl,_,rfl,_,_,rfl,rfl,.of_left (cg (by lia) (by lia)),_,rfl,_,_,rfl,by lia,by lia,Oq hk (ok.bd n (gG en)),?_⟩;exact hq _ _ (aE.refl _) (dC _)
   · intro H' ys s2 d2 r2
     refine⟨D,_,rfl,.inl ⟨aF.of d2,fun t H4 n4=>?_⟩⟩;exact k _ _ (iT (aP.of n4.at') (aJ.mono n4.same _ r2)) (s1.trans (s2.trans n4.same))
def hW(ns:List Int)(j:Nat):List Int:=ns.map fun z=>ip (((j:Int)+1)*z) (aH ns)-ip ((j:Int)*z) (aH ns)
def oF(ns:List Int):List ai:=(List.range (aH ns)).map fun j=>.tuple ((hW ns j).map PyData.int)
theorem G2(zs:List Int):fu (.tuple (zs.map PyData.int))=true:=by rw[fu];exact kR zs
theorem FZ(ns:List Int):cN (oF ns)=true:=ij.mpr fun d hd=>by obtain⟨j,_,rfl⟩:=jJ.mp hd;exact G2 _
theorem O2{ns:List Int}{i:Nat}(h:i<aH ns):(oF ns)[i]? =some (.tuple ((hW ns i).map PyData.int)):=by unfold oF;rw[cA,cj (by simpa using h),uK];rfl
theorem G0(ns:List Int):(oF ns).length=aH ns:=by simp[oF]
inductive UP(K:aa)(vs:List V)(H:Hp)(Q:VK):Prop |mk (v:_)(ns:_)(sp:_)(h0:vs=[v])(h1:RD K H v (iH ns sp))(h2:eR ns.length 1000 ns)(h3:ns.length<=1000)(h4:∀l ys H',H l=none->H' l=some (.lst ys)->aJ K H' ys (oF ns)->aE H H'->Q (.ref l) H'):UP K vs H Q
def DL(K:aa):Sp:=fun vs H Q _=>UP K vs H Q
theorem MQ:bp ["line","rows","before","k","behind"] ["line"] (aV Et):=bI (by decide+kernel)
theorem a27(F:FA K mg "step_rows" Et)(B:bP mg)(oV:aD P w K mg base "lead_of" 1 (lO K))(Bt:aD P w K mg base "stand_at" 2 (Al K)):aD P w K mg base "step_rows" 3 (DL K):=by
 refine F.has MQ (fun vs H Q E h=>?_) (fun _ _ _ _ _ _=>eK fun _=>rfl) (fun f aL A outer s H vs Q E hr h=>?_)
 · obtain⟨v,ns,sp,rfl,_⟩:=h
   rfl
 · obtain⟨v,ns,sp,rfl,rd,ok,hz,k⟩:=h
   have nd:=MQ.nd;obtain⟨lp,lm⟩:=ok.lead;refine⟨_,(aB (pS 1 nd (dv aw)) (aB (pS 2 nd (pf Bt hr (O (pv 0) (O az aw)))) (aB (lS gY rfl (Ox rfl (B.at "range") (O az (O (aI cS (pf oV hr (O (pv 0) aw)) az) aw))) (bu 3 nd) (aB (pS 4 nd (pf Bt hr (O (pv 0) (O (pv 3) aw)))) (aB (gP (jq K rfl (pv 1) (O (ib (x:="tuple") (kL K rfl) rfl (B.at "tuple") fL (O (gd (N:=["new","old"]) (js:=[none,none]) rfl rfl rfl (jP K rfl false false rfl (B.at "zip") (O (pv 4) (O (pv 2) aw))) (fun _ _ _ _ _=>(dR K rfl (n:=2) rfl (bR (bu 0 (fP (by decide))) (bR (bu 1 (fP (by decide))) dQ)))) (fun _ _ _ _ _=>fF) (fun _ _ _ _ _=>(aI gh (pv 0) (pv 1)))) aw)) aw))) (aG (pS 2 nd (pv 4)))))) (aG (aU (pv 1)))))),?_⟩;refine⟨bU rfl,fun l H1 n1=>?_⟩;refine⟨_,rfl,v,ns,sp,0,rfl,RD.mono n1.same _ rd,ok,hz,by decide,fun u H2 ru s2=>?_⟩;have t2:=n1.same.trans s2;refine⟨_,rfl,v,ns,sp,rfl,RD.mono t2 _ rd,ok.ne,hz,fun H3 s3=>?_⟩;refine⟨_,_,rfl,rfl,_,_,rfl,⟨by lia,by lia,by lia,by lia⟩,?_⟩;have t3:=t2.trans s3;have e3:((aH ns:Int)+1-1).toNat=aH ns:=by lia
   refine C0 (Pv:=fun i Z H4=>aE H H4/\(∃ys,H4 l=some (.lst ys)/\aJ K H4 ys ((oF ns).take i))/\∃b v1 v2,RD K H4 b (DG ns i)/\Z=[some v,some (.ref l),some b,v1,v2]) ?_ ?_ ?_
   ·exact⟨t3,⟨[],s3 _ _ (s2 _ _ n1.at'),cU⟩,u,none,none,RD.mono s3 _ ru,rfl⟩
   · rintro i Z H4 hi ⟨t4,⟨ys,dl,ry⟩,b,v1,v2,rb,rfl⟩
     have Ih:i<aH ns:=by lia
     refine⟨_,rfl,_,rfl,v,ns,sp,_,rfl,RD.mono t4 _ rd,ok,hz,by lia,fun b2 H5 G9 s5=>?_⟩;refine⟨_,rfl,.inl ⟨rfl,_,aF.of (s5 _ _ dl)⟩,?_⟩;obtain⟨a1,xs1,rfl,h1,q1⟩:=G9.eu;have e1:=q1.iY;subst e1;obtain⟨a0,xs0,rfl,h0,q0⟩:=(RD.mono s5 _ rb).eu;have e0:=q0.iY;subst e0;refine⟨_,rfl,_,rfl,a1,a0,rfl,⟨_,h1⟩,⟨_,h0⟩,fun D H6 nw=>?_⟩;refine uq (K:=K) (b1:=false) (b2:=false) (ds:=(hW ns i).map PyData.int) [] rfl h1 h0 nw (by simp[hW]) (by simpa[hW]using hz) (kR _) ?_ ?_
     · intro j x y d H7 Q' ex ey ed s7 hq
       obtain⟨m,em,rfl⟩:=md ed;unfold hW at em;rw[cA]at em ex ey;rw[cA]at ex ey;cases en:ns[j]? with |none=>rw[en]at em;cases em |some n=>
         rw[en]at em ex ey;cases em;cases ex;cases ey;refine⟨_,rfl,_,rfl,_,_,rfl,rfl,?_⟩;have ee:(1:Int)+(i:Int)=(i:Int)+1:=by lia
         rw[ee];exact hq _ _ (aE.refl _) (dC _)
     · intro H7 zs s7 d7 r7
       refine⟨D,_,rfl,.inl ⟨aF.of d7,fun t H8 n8=>?_⟩⟩;have FO:=s5.trans (s7.trans n8.same);have mx:=FO _ _ dl;have len:=ry.length;rw[oh,G0]at len;refine⟨l,ys,_,rfl,rfl,mx,?_,?_⟩
       · have:(1000:Nat)<sizeLine:=by decide
         lia
       refine⟨_,rfl,?_⟩;have tt:iL H8 (L2.upd H8 l (.lst (ys++[.ref t]))):=.pU mx;refine⟨fun b o e=>?_,⟨_,ba,?_⟩,_,_,_,?_,rfl⟩
       ·rw[aK (fW e n1.no)];exact FO b o (t4 b o e)
       · rw[pP,O2 Ih]
         have nt:cN ((oF ns).take i)=true:=ij.mpr fun d hd=>ij.mp (FZ ns) d (D5 hd);exact(aJ.t tt _ nt (aJ.mono FO _ ry)).append (bW (RD.t tt _ (G2 _) (iT (aP.of n8.at') (aJ.mono n8.same _ r7))) cU)
       · have ee:(1:Int)+(i:Int)=((i+1:Nat):Int):=by lia
         rw[ee]at G9;exact RD.t tt _ (G2 _) (RD.mono (s7.trans n8.same) _ G9)
   · rintro Z H4 ⟨t4,⟨ys,dl,ry⟩,b,v1,v2,rb,rfl⟩
     rw[e3,Kj (by rw[G0];exact bK _)]at ry;exact⟨_,rfl,k l ys H4 n1.no dl ry t4⟩
def fX(ti:Int)(q:Rat)(t:Int):Bool:=decide (ti*ti*(q.den:Int)<=t*t*q.num)
inductive Vo(K:aa)(vs:List V)(H:Hp)(Q:VK):Prop |mk (m:_)(sq:_)(t:_)(rs:_)(r:_)(f:_)(j:_)(ti:_)(q:_)(h0:vs=[m,sq,.int t])(h1:RD K H m (iX rs r f j ti))(h2:bh K H sq q)(h3:Bd 2000 q)(h4:1<=ti)(h5:ti<=100)(h6:0<=t)(h7:t.natAbs<2^2400)(h8:Q (.bl (fX ti q t)) H):Vo K vs H Q
def Mh(K:aa):Sp:=fun vs H Q _=>Vo K vs H Q
theorem NB:bp ["machine","square","t","p","q","ticks"] ["machine","square","t"] (aV Fy):=bI (by decide+kernel)
theorem a2R(F:FA K mg "are_enough" Fy)(B:bP mg):aD P w K mg base "are_enough" 1 (Mh K):=by
 refine F.has NB (fun vs H Q E h=>?_) (fun _ _ _ _ _ _=>nR fun _ _ _=>rfl) (fun f aL A outer s H vs Q E hr h=>?_)
 · obtain⟨m,sq,t,rs,r,f,j,ti,q,rfl,_⟩:=h
   rfl
 · obtain⟨m,sq,t,rs,r,f,j,ti,q,rfl,rm,⟨p,rfl,hp⟩,bq,t1,t2,t0,tw,k⟩:=h
   have nd:=NB.nd;refine⟨_,(aB (fU (pv 1) (dR K rfl (n:=2) rfl (bR (bu 3 nd) (bR (bu 4 nd) dQ)))) (aB (pS 5 nd (px K (pv 0) az)) (aG (aU (fq Gy (aI bE (aI bE (pv 2) (pv 2)) (pv 3)) (aI bE (aI bE (pv 5) (pv 5)) (pv 4)) (bw _)))))),?_⟩;obtain⟨a,b,rfl,ha,hb⟩:=kW rm;have wt:Wd t:=gZ tw (by decide);have zV:Wd (t*t):=gZ (n:=4800) (by rw[fN];exact kS (n:=2400) (m:=2400) tw tw) (by decide);have m1:(ti*ti).natAbs<=100*100:=by rw[fN];exact mF (by omega) (by omega)
   refine⟨_,rfl,_,_,rfl,hp,rfl,_,_,rfl,_,_,rfl,rfl,?_⟩;refine⟨_,rfl,.inr ⟨a,_,4,.int ti,rfl,rfl,ha,rfl,?_⟩⟩;refine⟨_,rfl,_,rfl,_,_,rfl,rfl,iA wt.bits wt.bits,_,rfl,_,_,rfl,rfl,iA zV.bits bq.wn.bits,?_⟩;refine⟨_,rfl,_,rfl,_,_,rfl,rfl,.of_left (cg (by omega) (by omega)),_,rfl,_,_,rfl,rfl,.of_left (cg (by omega) (by omega)),?_⟩;exact⟨_,_,rfl,rfl,k⟩
theorem Sd{ti t:Int}{q:Rat}(hq:0<q.num)(h0:0<=t)(h:ti*ti*(q.den:Int)<=t):fX ti q t=true:=by
 refine cH (Int.le_trans h ?_);by_cases ht:t=0
 ·subst ht;simp
 · have e1:t*1<=t*t:=WM (by lia) h0
   have e2:t*t*1<=t*t*q.num:=WM (by lia) (jK h0 h0)
   lia
theorem Sa{ti:Int}{q:Rat}(h1:1<=ti):fX ti q 0=false:=by
 refine fe fun h=>?_;have:=iB (iB (show 0<ti by lia) (show 0<ti by lia)) (den_pos q);simp only[zN]at h
 lia
inductive Uz(K:aa)(vs:List V)(H:Hp)(Q:VK):Prop |mk (m:_)(sq:_)(rs:_)(r:_)(f:_)(j:_)(ti:_)(q:_)(h0:vs=[m,sq])(h1:RD K H m (iX rs r f j ti))(h2:bh K H sq q)(h3:Bd 2000 q)(h4:1<=ti)(h5:ti<=100)(h6:0<q.num)(h7:∀T,1<=T->T.natAbs<2^2400->fX ti q T=true->fX ti q (T-1)=false->Q (.int T) H):Uz K vs H Q
def LR(K:aa):Sp:=fun vs H Q _=>Uz K vs H Q
theorem MD:bp ["machine","square","enough","too_few","between"] ["machine","square"] (aV Ef):=bI (by decide+kernel)
theorem a1M(F:FA K mg "ticks_of" Ef)(B:bP mg)(QT:aD P w K mg base "are_enough" 1 (Mh K)):aD P w K mg base "ticks_of" 2 (LR K):=by
 refine F.has MD (fun vs H Q E h=>?_) (fun _ _ _ _ _ _=>dy fun _ _=>rfl) (fun f aL A outer s H vs Q E hr h=>?_)
 · obtain⟨m,sq,rs,r,f,j,ti,q,rfl,_⟩:=h
   rfl
 · obtain⟨m,sq,rs,r,f,j,ti,q,rfl,rm,rq,bq,t1,t2,hq,k⟩:=h
   have nd:=MD.nd;refine⟨_,(aB (pS 2 nd az) (aB (mU gY (fk (cM (pf QT hr (O (pv 0) (O (pv 1) (O (pv 2) aw)))))) (aG (pS 2 nd (aI bE az (pv 2))))) (aB (pS 3 nd (aI m9 (pv 2) az)) (aB (mU gY (bZ qk (aI gh (pv 2) (pv 3)) az (bw _)) (aB (pS 4 nd (aI m9 (aI cS (pv 3) (pv 2)) az)) (aG (bJ (cM (pf QT hr (O (pv 0) (O (pv 1) (O (pv 4) aw))))) (aG (pS 2 nd (pv 4))) (aG (pS 3 nd (pv 4))))))) (aG (aU (pv 2))))))),?_⟩;have lim:(ti*ti*(q.den:Int)).natAbs<2^2399:=by
    have m1:(ti*ti).natAbs<=100*100:=by rw[fN];exact mF (by lia) (by lia)
    have hd:=bq.den;rw[fN];have:(q.den:Int).natAbs=q.den:=rfl;rw[this];have:=kS (n:=14) (m:=2000) (a:=(ti*ti).natAbs) (b:=q.den) (pN m1 (by decide)) hd;exact g9 this (rL (by decide) (by decide))
   have p0:0<ti*ti*(q.den:Int):=iB (iB (by lia) (by lia)) (den_pos q);have e2:(2:Nat)^2400=2^2399*2:=Nat.pow_succ 2 2399;generalize hL:ti*ti*(q.den:Int)=L at lim p0;refine mG (fun Z H2=>H2=H/\∃(x:Int),Z=[some m,some sq,some (.int x),none,none]/\1<=x/\x<=2*L/\fX ti q (x/2)=false) (fun Z _=>match Z with|[_,_,some (.int x),_,_]=>(L-x).toNat|_=>0) ?_ ?_ ?_
   ·exact⟨rfl,1,rfl,by lia,by lia,Sa t1⟩
   · rintro Z H2 ⟨rfl,x,rfl,x1,xL,hx⟩
     have xw:x.natAbs<2^2400:=by lia
     refine⟨_,rfl,_,rfl,_,rfl,m,sq,x,rs,r,f,j,ti,q,rfl,rm,rq,bq,t1,t2,by lia,xw,_,rfl,?_⟩;cases p5:fX ti q x with
     |false=>
       have cx:x<L:=by
        by_cases cx:x<L
        ·exact cx
        ·rw[Sd hq (by lia) (by lia)]at p5;cases p5
       refine dN (fun hc=>?_) (fun hc=>(hc rfl).elim);refine⟨_,rfl,_,_,rfl,rfl,.of_left (cg (by decide) (by decide)),?_⟩;refine⟨⟨rfl,_,rfl,by lia,by lia,?_⟩,?_⟩
       · have:2*x/2=x:=by lia
         rw[this];exact p5
       · show(L-2*x).toNat<(L-x).toNat
         lia |true=>
       refine dN (fun hc=>nomatch hc) (fun hc=>?_);refine⟨_,rfl,_,_,rfl,rfl,⟨by decide,gZ (n:=2) (by decide) (by decide)⟩,?_⟩;refine mG (fun Z H3=>H3=H2/\∃(lo hi:Int)(v:Option V),Z=[some m,some sq,some (.int hi),some (.int lo),v]/\0<=lo/\lo<hi/\hi<=2*L/\fX ti q lo=false/\fX ti q hi=true) (fun Z _=>match Z with|[_,_,some (.int x),some (.int y),_]=>(x-y).toNat|_=>0) ?_ ?_ ?_
       ·exact⟨rfl,x/2,x,none,rfl,by lia,by lia,xL,hx,p5⟩
       · rintro Z H3 ⟨rfl,lo,hi,v,rfl,l0,lh,yN,za,uh⟩
         refine⟨_,rfl,_,rfl,_,_,rfl,rfl,_,_,rfl,rfl,_,rfl,?_⟩;refine dN (fun hc=>?_) (fun hc=>?_)
         · have hgt:hi-lo>1:=jI hc
           refine⟨_,rfl,_,rfl,_,_,rfl,rfl,_,_,rfl,rfl,⟨by decide,gZ (n:=2) (by decide) (by decide)⟩,?_⟩;have mw:((lo+hi)/2).natAbs<2^2400:=by lia
           refine⟨_,rfl,_,rfl,_,rfl,m,sq,(lo+hi)/2,rs,r,f,j,ti,q,rfl,rm,rq,bq,t1,t2,by lia,mw,_,rfl,?_⟩;cases hm:fX ti q ((lo+hi)/2)with
           |true=>
             refine bV ?_;refine⟨_,rfl,⟨rfl,lo,_,_,rfl,l0,by lia,by lia,za,hm⟩,?_⟩;show((lo+hi)/2-lo).toNat<(hi-lo).toNat
             lia |false=>
             refine bF ?_;refine⟨_,rfl,⟨rfl,_,hi,_,rfl,by lia,by lia,yN,hm,uh⟩,?_⟩;show(hi-(lo+hi)/2).toNat<(hi-lo).toNat
             lia
         · have hle:¬hi-lo>1:=fun z=>hc (cH z)
           have e:lo=hi-1:=by lia
           subst e;exact⟨_,rfl,k hi (by lia) (by lia) uh za⟩
       · rintro Z H2 Q1 Q2 hq ⟨v1,e1,v2,e2,i,j,e3,e4,i2,j2,e5,e6,kk,e7,q⟩
         exact⟨v1,e1,v2,e2,i,j,e3,e4,i2,j2,e5,e6,kk,e7,hq _ _ q⟩
   · rintro Z H2 Q1 Q2 hq ⟨v1,e1,v2,e2,v3,e3,m',Yt,x',Zw,r',f',j',Xz,q',e4,h1,h2,h3,h4,h5,h6,h7,b,eb,q⟩
     exact⟨v1,e1,v2,e2,v3,e3,m',Yt,x',Zw,r',f',j',Xz,q',e4,h1,h2,h3,h4,h5,h6,h7,b,eb,hq _ _ q⟩
def zm(ti:Int)(q:Rat)(T:Int):Prop:=1<=T/\fX ti q T=true/\fX ti q (T-1)=false
open Classical in
noncomputable def Dx(ti:Int)(q:Rat):Int:=if h:∃T,zm ti q T then h.choose else 0
theorem Sb{ti:Int}{q:Rat}{s t:Int}(hq:0<=q.num)(h0:0<=s)(h:s<=t)(e:fX ti q s=true):fX ti q t=true:=by refine cH (Int.le_trans (jI e) ?_);exact WL (Dg h h h0 (by lia)) hq
theorem XC{ti:Int}{q:Rat}{S T:Int}(hq:0<=q.num)(h1:zm ti q S)(h2:zm ti q T):S=T:=by
 obtain⟨a1,a2,a3⟩:=h1;obtain⟨b1,b2,b3⟩:=h2;by_cases h:S<=T-1
 · have:=Sb hq (by lia) h a2
   rw[b3]at this;cases this
 · by_cases h':T<=S-1
   · have:=Sb hq (by lia) h' b2
     rw[a3]at this;cases this
   ·lia
theorem Lg{ti:Int}{q:Rat}{T:Int}(hq:0<=q.num)(h:zm ti q T):Dx ti q=T:=by have hx:∃T,zm ti q T:=⟨T,h⟩;unfold Dx;rw[dif_pos hx];exact XC hq hx.choose_spec h
theorem GG{q:Rat}(h:0<q):0<q.num:=by
 have h1:=K6.mpr (K8 h);have h2:q.num≠0:=fun e=>by rw[Rat.num_eq_zero.mp e]at h;exact absurd h (by decide)
 lia
noncomputable def oy(ti:Int)(zs:List Int)(q:Rat):ai:=.tuple [.str "step",.tuple (zs.map PyData.int),.int (Dx ti q),cR q]
theorem DF(ti:Int)(zs:List Int)(q:Rat):fu (oy ti zs q)=true:=by simp[oy,fu,cN,kR,qh]
inductive Vn(K:aa)(vs:List V)(H:Hp)(Q:VK):Prop |mk (m:_)(rv:_)(sq:_)(rs:_)(r:_)(f:_)(j:_)(ti:_)(zs:_)(q:_)(h0:vs=[m,rv,sq])(h1:RD K H m (iX rs r f j ti))(h2:nU rs r f j ti)(h3:RD K H rv (.tuple (zs.map PyData.int)))(h4:bh K H sq q)(h5:Bd 2000 q)(h6:0<q)(h7:∀v H',RD K H' v (oy ti zs q)->aE H H'->Q v H'):Vn K vs H Q
def DV(K:aa):Sp:=fun vs H Q _=>Vn K vs H Q
theorem NA:bp ["machine","row","square"] ["machine","row","square"] (aV Fx):=bI (by decide+kernel)
theorem a2Q(F:FA K mg "step_entry" Fx)(B:bP mg)(a5t:aD P w K mg base "ticks_of" 2 (LR K)):aD P w K mg base "step_entry" 3 (DV K):=by
 refine F.has NA (fun vs H Q E h=>?_) (fun _ _ _ _ _ _=>nR fun _ _ _=>rfl) (fun f aL A outer s H vs Q E hr h=>?_)
 · obtain⟨m,rv,sq,rs,r,f,j,ti,zs,q,rfl,_⟩:=h
   rfl
 · obtain⟨m,rv,sq,rs,r,f,j,ti,zs,q,rfl,rm,aO,rr,Rq,bq,q0,k⟩:=h
   have nd:=NA.nd;refine⟨_,(aG (aU (dS (O aW (O (pv 1) (O (pf a5t hr (O (pv 0) (O (pv 2) aw))) (O (pv 2) aw))))))),?_⟩;have t1:=aO.t1;have qn:0<q.num:=GG q0;refine⟨_,rfl,_,rfl,_,rfl,m,sq,rs,r,f,j,ti,q,rfl,rm,Rq,bq,t1.1,t1.2,qn,fun T T1 _ T2 T3=>?_⟩;refine⟨_,rfl,bU rfl,fun t H1 n1=>k (.ref t) H1 ?_ n1.same⟩;have e:=Lg (by lia) ⟨T1,T2,T3⟩;unfold oy;rw[e];exact iT (aP.of n1.at') (bW (cV _) (bW (RD.mono n1.same _ rr) (bW (dC _) (bW (Rq.go n1.same).rd cU))))
theorem Lf{ay sp:Int}(h1:1<=sp)(h2:10<=ay):0<topR ay sp:=by
 have h0:=Ow.A7 ay sp;refine K5 h0 fun e=>?_;have hp:0<(sp*ay)^2:=by rw[fM,fM,lN,kI];exact iB (iB (by lia) (by lia)) (iB (by lia) (by lia))
 have h2:0<=Rat.divInt (-((sp*ay)^2)) 10000:=by rw[<-Rat.neg_divInt];show 0<=-(topR ay sp);rw[<-e];decide
 have:=(xb (by decide)).mp h2
 lia
inductive V5(K:aa)(vs:List V)(H:Hp)(Q:VK):Prop |mk (m:_)(iv:_)(ay:_)(rs:_)(r:_)(f:_)(j:_)(t:_)(ds:_)(os:_)(h0:vs=[m,iv,.int ay])(h1:RD K H m (iX rs r f j t))(h2:nU rs r f j t)(h3:RD K H iv (.list ds))(h4:gO rs.length ds os)(h5:ds.length<=100)(h6:10<=ay)(h7:ay<=200)(h8:∀l ys H',H l=none->H' l=some (.lst ys)->aJ K H' ys ((ownL j ay os).map cR)->aE H H'->Q (.ref l) H'):V5 K vs H Q
def Mc(K:aa):Sp:=fun vs H Q _=>V5 K vs H Q
theorem a2p(F:FA K mg "own_bounds" Au)(B:bP mg)(gN:GT K mg "NOUGHT" [.int 0,.int 1])(Io:aD P w K mg base "bound_between" 7 (Aq K)):aD P w K mg base "own_bounds" 8 (Mc K):=by
 obtain⟨aN,lB,mL⟩:=gN;refine F.has As (fun vs H Q E h=>?_) (fun _ _ _ _ _ _=>nR fun _ _ _=>rfl) (fun f aL A outer s H vs Q E hr h=>?_)
 · obtain⟨m,iv,ay,rs,r,f,j,t,ds,os,rfl,_⟩:=h
   rfl
 · obtain⟨m,iv,ay,rs,r,f,j,t,ds,os,rfl,rm,aO,ri,row,hz,cZ,du,k⟩:=h
   have nd:=As.nd;have rN:∀H',RD K H' (.ref aN) (cR 0):=fun H'=>(sX (mL H')).rd;refine⟨_,(aB (bJ (fk (Gi K rfl (pv 1))) (aG (aU (dv (O (eQ (x:="NOUGHT") rfl lB) aw)))) bO) (aB (Gk (i0:=3) nd rfl (Or.inl rfl) (N:=["one","other","machine","rate"]) (js:=[none,none,some 0,some 2]) rfl rfl rfl (jP K rfl true true rfl (B.at "zip") (O (pv 1) (O (Gr (DY K rfl) (pv 1) (Gm az) Gn) aw))) (fun _ _ _ _ _=>(dR K rfl (n:=2) rfl (bR (bu 0 (show List.Nodup (["one","other","machine","rate"]:List Str) by decide+kernel)) (bR (bu 1 (show List.Nodup (["one","other","machine","rate"]:List Str) by decide+kernel)) dQ)))) (fun _ _ _ _ _=>fF) (fun _ _ _ _ _=>(pf Io hr (O (pv 2) (O (pv 0) (O (pv 1) (O (pv 3) aw))))))) (aG (aU (aI (wK K rfl) (aI (wK K rfl) (dv (O (eQ (x:="NOUGHT") rfl lB) aw)) (pv 3)) (dv (O (eQ (x:="NOUGHT") rfl lB) aw))))))),?_⟩;obtain⟨ia,xs,rfl,hi,ir⟩:=ri.lst_inv;have lx:=ir.length;have ll:=row.len;refine⟨_,rfl,_,.inl ⟨_,hi,rfl⟩,?_⟩;cases hd:xs with
   |nil=>
     subst hd;refine bV ?_;refine⟨bU rfl,fun l H1 n1=>?_⟩;refine k l [.ref aN] H1 n1.no n1.at' ?_ n1.same;have e:os=[]:=by
      have:os.length=0:=by rw[<-ll,<-lx];rfl
      exact D7.mp this
     rw[e];exact bW (rN H1) cU |cons x0 xr=>
     refine bF ?_;have dG:os≠[]:=by intro e;rw[e]at ll;rw[hd]at lx;simp at ll lx;rw[ll]at lx;cases lx
     have Hx:0<xs.length:=by rw[hd];simp
     refine⟨_,rfl,_,rfl,1,rfl,ia,xs,rfl,.inl ⟨hi,fun tl H1 n1=>?_⟩⟩;refine⟨ia,tl,rfl,⟨_,hi.go n1.same⟩,⟨_,aF.of n1.at'⟩,fun D H2 n2=>?_⟩;have et:=n1.at';rw[Jr]at et;have y8:∀(i:Nat)(o:Itm),os[i]? =some o->∀(ns:List Int)(sp:Int),o=some (ns,sp)->eR rs.length 100 ns/\1<=sp/\sp<=20:=fun i o e ns sp e'=>row.ok i ns sp (by rw[e,e']);have lr:=aO.len;refine uq (K:=K) (b1:=true) (b2:=true) (xs:=xs) (ys:=xs.drop 1) (ds:=((List.range (os.length-1)).map (fun i=>ownF j ay os (i+1))).map cR) _ rfl (hi.go n1.same) (aF.of et) n2 (by rw[Ko];simp;lia) (by simp;lia) (vF _) ?_ ?_
     · intro i x y d H3 Q' ex ey ed s3 hq
       have df:=n1.same.trans s3;rw[List.getElem?_drop]at ey;obtain⟨d1,e1,r1⟩:=ir.get' i ex;obtain⟨d2,e2,r2⟩:=ir.get' (1+i) ey;obtain⟨o1,nK,i1⟩:=row.get e1;obtain⟨o2,m4,i2⟩:=row.get e2;have QH:1+i<os.length:=(dM.mp m4).1;have lH:d=cR (betR j ay o1 o2):=by rw[cA,cA,cj (by simp;lia),uK]at ed;have:=(dP ed).symm;rw[this];show cR (betR j ay (atO os i) (atO os (i+1)))=_;rw[Ow.pE nK,Ow.pE (show os[i+1]? =some o2 by rw[Nat.add_comm];exact m4)]
       subst lH;refine⟨_,rfl,_,rfl,_,rfl,_,rfl,m,x,y,ay,rs,r,f,j,t,d1,d2,o1,o2,rs.length,rfl,RD.mono df _ rm,aO.j1.1,aO.j1.2,RD.mono df _ r1,RD.mono df _ r2,i1,i2,y8 _ _ nK,y8 _ _ m4,by lia,cZ,du,fun v H4 rv s4=>?_⟩;exact hq _ _ s4 rv.rd
     · intro H3 zs s3 d3 r3
       have lz:=r3.length;simp at lz;refine⟨bU rfl,fun l1 H4 n4=>?_⟩;refine⟨_,rfl,l1,D,_,zs,rfl,rfl,aF.of n4.at',aF.of (n4.same _ _ d3),xI _ (by simp;lia),fun l2 H5 n5=>?_⟩;refine⟨bU rfl,fun l3 H6 n6=>?_⟩;refine⟨l2,l3,_,_,rfl,rfl,aF.of (n6.same _ _ n5.at'),aF.of n6.at',xI _ (by simp;lia),fun l H7 n7=>?_⟩;have xO:aE H H6:=n1.same.trans (s3.trans (n4.same.trans (n5.same.trans n6.same)));have nl:H l=none:=by cases e:H l with |none=>rfl |some o=>have:=xO _ _ e;rw[n7.no]at this;cases this
       refine k l _ H7 nl n7.at' ?_ (xO.trans n7.same);rw[Ow.OL j ay dG,og,og];exact((bW (rN H7) cU).append (aJ.mono (n4.same.trans (n5.same.trans (n6.same.trans n7.same))) _ r3)).append (bW (rN H7) cU)
inductive Vm(K:aa)(vs:List V)(H:Hp)(Q:VK):Prop |mk (m:_)(iv:_)(l:_)(ys:_)(rs:_)(r:_)(f:_)(j:_)(t:_)(ds:_)(os:_)(g:_)(h0:vs=[m,iv,.ref l])(h1:RD K H m (iX rs r f j t))(h2:nU rs r f j t)(h3:RD K H iv (.list ds))(h4:gO rs.length ds os)(h5:ds.length<=30)(h6:H l=some (.lst ys))(h7:aJ K H ys ((lst os.length g).map cR))(h8:(∀i,i<=os.length->Bd 900 (g i)))(h9:∀l ys H',H l=none->H' l=some (.lst ys)->aJ K H' ys ((lst os.length (fl os.length (leadF os) (2*f) g)).map cR)->aE H H'->Q (.ref l) H'):Vm K vs H Q
def Mg(K:aa):Sp:=fun vs H Q _=>Vm K vs H Q
theorem a2P(F:FA K mg "kept_by_fall" Fw)(B:bP mg)(qE:aD P w K mg base "is_line" 1 (uY K))(oV:aD P w K mg base "lead_of" 1 (lO K))(vZ:aD P w K mg base "plus_whole" 4 (Ao K))(wg:aD P w K mg base "least" 2 (jn K)):aD P w K mg base "kept_by_fall" 5 (Mg K):=by
 refine F.has Nz (fun vs H Q E h=>?_) (fun _ _ _ _ _ _=>nR fun _ _ _=>rfl) (fun fa aL A outer s H vs Q E hr h=>?_)
 · obtain⟨m,iv,l,ys,rs,r,f,j,t,ds,os,g,rfl,_⟩:=h
   rfl
 · obtain⟨m,iv,l,ys,rs,r,f,j,t,ds,os,g,rfl,rm,aO,ri,row,hz,dl,qc,bg,k⟩:=h
   have nd:=Nz.nd;refine⟨_,(aB (pS 3 nd (px K (pv 0) az)) (aB (pS 4 nd (ib (x:="list") (Hf K rfl) rfl (B.at "list") kH (O (pv 2) aw))) (aB (lS gY rfl (a0J rfl (B.at "reversed") (O (ib (x:="range") aaI rfl (B.at "range") PyProof.Rows.boot_range (O (dU K B (O (pv 1) aw)) aw)) aw)) (bu 5 nd) (aG (bJ (cM (pf qE hr (O (px K (pv 1) (pv 5)) aw))) (aG (fU (pf wg hr (O (dv (O (px K (pv 4) (pv 5)) (O (pf vZ hr (O (px K (pv 4) (aI cS (pv 5) az)) (O (aI bE (aI bE az (pv 3)) (pf oV hr (O (px K (pv 1) (pv 5)) aw))) aw))) aw))) aw)) (sQ (pv 4) (pv 5) set_list))) bO))) (aG (aU (pv 4)))))),?_⟩;obtain⟨ma,mb,rfl,gM,jB⟩:=kW rm;obtain⟨ia,xs,rfl,hi,ir⟩:=ri.lst_inv;have lx:=ir.length;have ll:=row.len;have lr:=aO.len;have hL:∀i m,leadF os i=some m->(2*f*(m:Int)).natAbs<2^24:=fun i m e=>KU aO.f1.1 aO.f1.2 (Q6 row.vw e);have FB:∀i,i<=os.length->Bd 1700 (fl os.length (leadF os) (2*f) g i):=fun i hi=>(RL bg hL i hi).mono (by lia);refine⟨_,rfl,.inr ⟨ma,_,2,.int f,rfl,rfl,gM,rfl,?_⟩⟩;refine⟨_,rfl,l,ys,rfl,.inl (aF.of dl),fun D H1 n1=>?_⟩;refine⟨_,rfl,ia,_,rfl,.inl (hi.go n1.same),_,rfl,fun pr H2 n2=>?_⟩;refine⟨pr,_,rfl,n2.at',by lia,by lia,?_⟩;have eN:((xs.length:Int)).toNat=os.length:=by lia
   rw[eN];refine a8d (Pv:=fun i Z H5=>aE H H5/\∃zs v1,H5 D=some (.lst zs)/\aJ K H5 zs ((lst os.length fun k=>if os.length<=k+i then fl os.length (leadF os) (2*f) g k else g k).map cR)/\Z=[some (.ref ma),some (.ref ia),some (.ref l),some (.int f),some (.ref D),v1]) ?_ ?_ ?_
   · refine⟨n1.same.trans n2.same,ys,none,n2.same _ _ n1.at',?_,rfl⟩
     rw[Ha (g:=fun k=>if os.length<=k+0 then fl os.length (leadF os) (2*f) g k else g k) (g':=g)]
     ·exact aJ.mono (n1.same.trans n2.same) _ qc
     · intro k hk
       show g k=if os.length<=k+0 then _ else g k;split
       · next h => have:k=os.length:=by lia
                   subst this;exact wz.symm
       ·rfl
   · rintro i Z H3 BH ⟨s3,zs,v1,dz,rz,rfl⟩
     obtain⟨x,hx⟩:∃x,xs[os.length-1-i]? =some x:=⟨_,cj (show os.length-1-i<xs.length by lia)⟩;generalize hc:os.length-1-i=c at hx;have lX:c<os.length:=by lia
     have eI:((os.length:Int)-1-(i:Int))=(c:Int):=by lia
     rw[eI];obtain⟨d,ed,rd⟩:=ir.get' c hx;obtain⟨o,eo,it⟩:=row.get ed;have lz:=rz.length;rw[cu,qA]at lz;have zj:fJ xs (c:Int)=some x:=dc (by lia) (by simpa using hx);refine⟨_,rfl,_,rfl,.inl ⟨ia,_,_,_,rfl,rfl,hi.go s3,zj,?_⟩⟩;refine⟨x,d,o,rfl,RD.mono s3 _ rd,it,_,rfl,?_⟩;cases o with
     |none=>
       refine bF ?_;refine⟨s3,zs,_,dz,?_,rfl⟩;rw[Ha (g:=fun k=>if os.length<=k+(i+1)then fl os.length (leadF os) (2*f) g k else g k) (g':=fun k=>if os.length<=k+i then fl os.length (leadF os) (2*f) g k else g k)]
       ·exact rz
       · intro k _
         show(if os.length<=k+i then _ else g k)=if os.length<=k+(i+1)then _ else g k;by_cases h1:os.length<=k+i
         ·rw[bc h1,bc (by lia)]
         · rw[bf h1]
           by_cases h2:k=c
           ·subst h2;rw[bc (by lia),wy lX (Q5 eo)]
           ·rw[bf (by lia)] |some q=>
       obtain⟨ns,sp⟩:=q;refine bV ?_;have lH:=kC it;subst lH;obtain⟨eV,_,_⟩:=row.ok c ns sp eo;obtain⟨z1,RS⟩:∃z,zs[c+1]? =some z:=⟨_,cj (show c+1<zs.length by lia)⟩;obtain⟨z0,z9⟩:∃z,zs[c]? =some z:=⟨_,cj (show c<zs.length by lia)⟩;have R1:bh K H3 z1 (fl os.length (leadF os) (2*f) g (c+1)):=by
        obtain⟨d1,e1,r1⟩:=rz.get' (c+1) RS;rw[cA,qB _ (show c+1<=os.length by lia)]at e1;cases e1;have:os.length<=c+1+i:=by lia
        simp only[bc this]at r1;exact mS r1
       have R0:bh K H3 z0 (g c):=by
        obtain⟨d1,e1,r1⟩:=rz.get' c z9;rw[cA,qB _ (show c<=os.length by lia)]at e1;cases e1;have:¬os.length<=c+i:=by lia
        simp only[bf this]at r1;exact mS r1
       have Ji:((c:Int)+1).toNat=c+1:=by lia
       have JH:fJ zs ((c:Int)+1)=some z1:=dc (by lia) (by rw[Ji];exact RS);have JI:fJ zs (c:Int)=some z0:=dc (by lia) (by simpa using z9);refine⟨_,rfl,_,rfl,.inl ⟨D,_,_,_,rfl,rfl,aF.of dz,JI,?_⟩⟩;refine⟨_,rfl,_,rfl,_,_,rfl,rfl,.inl ⟨D,_,_,_,rfl,rfl,aF.of dz,JH,?_⟩⟩;refine⟨_,rfl,_,_,rfl,rfl,.of_left (cg (by decide) (by decide)),?_⟩;refine⟨_,rfl,_,rfl,.inl ⟨ia,_,_,_,rfl,rfl,hi.go s3,zj,?_⟩⟩;refine⟨x,ns,sp,rfl,RD.mono s3 _ rd,eV.ne,by rw[eV.len];lia,fun H4 s4=>?_⟩;have qO:=aO.f1;refine⟨_,_,rfl,rfl,.of_left (cg (by lia) (by lia)),?_⟩;have us:=hL c _ (Bl eo);refine⟨z1,_,_,rfl,R1.go s4,(FB (c+1) (by lia)).mono (by decide),us,fun u H5 ru s5=>?_⟩;refine⟨bU rfl,fun l2 H6 n6=>?_⟩;have pZ:=s4.trans (s5.trans n6.same);have TZ:=R0.go pZ;have Ru:=ru.go n6.same;have B1:Bd 2000 (g c):=(bg _ (by lia)).mono (by decide);have B2:Bd 2000 (fl os.length (leadF os) (2*f) g (c+1)+((2*f*(aH ns:Int):Int):Rat)):=(Cw (FB (c+1) (by lia)) us).mono (by decide);refine⟨l2,[z0,u],[_,_],rfl,aF.of n6.at',⟨TZ,B1,Ru,B2,trivial⟩,by simp,fun c' v q e1 e2 hq=>?_⟩;have tL:mn (g c) (fl os.length (leadF os) (2*f) g (c+1)+((2*f*(aH ns:Int):Int):Rat))=q:=by
        refine mX ?_ (hq _ (by simp)) (hq _ (by simp))
        match c',e2 with |0,e2=>cases e2;exact .inl rfl |1,e2=>cases e2;exact .inr rfl
       have Rv:bh K H6 v q:=by match c',e1,e2 with |0,e1,e2=>cases e1;cases e2;exact TZ |1,e1,e2=>cases e1;cases e2;exact Ru
       have Sm:=pZ _ _ dz;have vT:jy zs.length (c:Int)=some c:=by unfold jy;rw[bc (by lia),bc (by lia)];simp
       refine⟨_,rfl,_,rfl,D,zs,_,_,rfl,rfl,Sm,vT,?_⟩;refine⟨fun b o e=>?_,_,_,ba,?_,rfl⟩
       ·rw[aK (fW e n1.no)];exact pZ b o (s3 b o e)
       · have h:=aJ.E3 (i:=c) Sm (aJ.mono pZ _ rz) Rv.rd (vF _) (qh _)
         rw[<-zJ]at h;have e:(lst os.length fun k=>if os.length<=k+i then fl os.length (leadF os) (2*f) g k else g k).set c q=lst os.length fun k=>if os.length<=k+(i+1)then fl os.length (leadF os) (2*f) g k else g k:=by
          rw[<-a4a (g:=fun k=>if os.length<=k+i then fl os.length (leadF os) (2*f) g k else g k) (g':=fun k=>if os.length<=k+(i+1)then fl os.length (leadF os) (2*f) g k else g k) (i:=c)]
          · have:os.length<=c+(i+1):=by lia
            simp only[bc this];rw[wA lX (Bl eo),tL]
          · intro k _ hk
            show(if os.length<=k+(i+1)then _ else g k)=if os.length<=k+i then _ else g k;by_cases h1:os.length<=k+i
            ·rw[bc h1,bc (by lia)]
            ·rw[bf h1,bf (by lia)]
         rw[e]at h;exact h
   · rintro Z H3 ⟨s3,zs,v1,dz,rz,rfl⟩
     rw[Ha (g:=fun k=>if os.length<=k+os.length then fl os.length (leadF os) (2*f) g k else g k) (g':=fl os.length (leadF os) (2*f) g) (fun k hk=>by show _=if os.length<=k+os.length then _ else _;rw[bc (by lia)])]at rz;exact⟨_,rfl,k D zs H3 n1.no dz rz s3⟩
def O8(f j ay:Int)(os:List Itm):Rat:=fl os.length (leadF os) (2*f) (ownF j ay os) 1
inductive UQ(K:aa)(vs:List V)(H:Hp)(Q:VK):Prop |mk (m:_)(iv:_)(ay:_)(rs:_)(r:_)(f:_)(j:_)(t:_)(ds:_)(os:_)(h0:vs=[m,iv,.int ay])(h1:RD K H m (iX rs r f j t))(h2:nU rs r f j t)(h3:RD K H iv (.list ds))(h4:gO rs.length ds os)(h5:ds.length<=30)(h6:1<=ds.length)(h7:10<=ay)(h8:ay<=200)(h9:∀v H',bh K H' v (O8 f j ay os)->aE H H'->Q v H'):UQ K vs H Q
def DM(K:aa):Sp:=fun vs H Q _=>UQ K vs H Q
theorem MS:bp ["machine","items","rate"] ["machine","items","rate"] (aV Ew):=bI (by decide+kernel)
theorem a2l(F:FA K mg "reach_behind_first" Ew)(B:bP mg)(a5O:aD P w K mg base "own_bounds" 8 (Mc K))(a6b:aD P w K mg base "kept_by_fall" 5 (Mg K)):aD P w K mg base "reach_behind_first" 9 (DM K):=by
 refine F.has MS (fun vs H Q E h=>?_) (fun _ _ _ _ _ _=>nR fun _ _ _=>rfl) (fun fa aL A outer s H vs Q E hr h=>?_)
 · obtain⟨m,iv,ay,rs,r,f,j,t,ds,os,rfl,_⟩:=h
   rfl
 · obtain⟨m,iv,ay,rs,r,f,j,t,ds,os,rfl,rm,aO,ri,row,hz,h1,cZ,du,k⟩:=h
   have nd:=MS.nd;refine⟨_,(aG (aU (px K (pf a6b hr (O (pv 0) (O (pv 1) (O (pf a5O hr (O (pv 0) (O (pv 1) (O (pv 2) aw)))) aw)))) az))),?_⟩;have ll:=row.len;have hB:=Ow.Gw aO.j1.1 aO.j1.2 cZ du row.vw;refine⟨_,rfl,_,rfl,_,rfl,_,rfl,_,rfl,m,iv,ay,rs,r,f,j,t,ds,os,rfl,rm,aO,ri,row,by lia,cZ,du,fun l1 y1 H1 nl1 d1 r1 s1=>?_⟩;refine⟨m,iv,l1,y1,rs,r,f,j,t,ds,os,ownF j ay os,rfl,RD.mono s1 _ rm,aO,RD.mono s1 _ ri,row,hz,d1,r1,fun i _=>(hB i).mono (by decide),fun l2 y2 H2 Pg d2 r2 s2=>?_⟩;have ly:=r2.length;rw[cu,qA]at ly;obtain⟨z,ez⟩:∃z,y2[1]? =some z:=⟨_,cj (show 1<y2.length by lia)⟩;refine .inl ⟨l2,_,1,z,rfl,rfl,aF.of d2,dc (by decide) ez,?_⟩;obtain⟨d,ed,rd⟩:=r2.get' 1 ez;rw[cA,qB _ (show 1<=os.length by lia)]at ed;cases ed;exact k z H2 (mS rd) (s1.trans s2)
open Ow (Itm)
theorem a3O{H:Hp}{v:V}{rs:List Int}{es:List ai}(h:RD K H v (.tuple (.tuple (rs.map PyData.int)::es))):∃a b ys,v= .ref a/\aP K H a (.ref b::ys)/\aP K H b (rs.map V.int):=by obtain⟨a,xs,rfl,h1,h2⟩:=h.eu;obtain⟨x1,r1,rfl,e1,h2⟩:=h2.cons_inv;obtain⟨b,ys,rfl,h3,h4⟩:=e1.eu;rw[h4.iY]at h3;exact⟨a,b,r1,rfl,h1,h3⟩
def iq(z:Str):ai->Bool | .str x=>x==z |_=>false
theorem C6(z:Str)(d:ai):PyData.eqv d (.str z)=iq z d:=by cases d<;>simp[PyData.eqv,iq]
theorem S5(z:Str)(d:ai):PyData.eqv (.str z) d=iq z d:=by cases d<;>simp[PyData.eqv,iq];rw[om];simp;exact eq_comm
theorem Yj(d:ai):(∃z,d= .str z)\/(iR (mI d) "str"=false/\∀z,d≠ .str z):=by cases d with |str z=>exact .inl ⟨z,rfl⟩ |_=>exact .inr ⟨by simp[mI];decide,fun _ z=>nomatch z⟩
theorem Xm:iR "str" "str"=true:=by decide
def Hr(d:ai):Bool:=iq "up" d||iq "down" d
def vx(c:Nat):Bool:=decide (97<=c)&&decide (c<=122)
def isNm:ai->Bool | .str x=>(decide (1<=x.length)&&decide (x.length<=8))&&x.cps.toList.all vx |_=>false
def oT(wd v:ai):Bool:=if iq "wait" wd then gE 1 1000 v else if iq "tool" wd then Hr v else iq "mark" wd&&isNm v
def yb:ai->Bool | .int i=>i !=0 |_=>true
def sT(n:Nat):ai->Bool | .tuple ds=>(ds.length==n&&ds.all (gE (-100) 100))&&ds.any yb |_=>false
def tJ(n:Nat):ai->Bool | .tuple [wd,a,b]=>iq "line" wd&&(sT n a&&gE 1 20 b) | .tuple [wd,v]=>oT wd v |_=>false
def pX:ai->Bool | .str x=>decide (x.length<=900) |_=>true
def E2:ai->Bool | .tuple ds=>ds.all pX |_=>true
inductive Uu(f:ai->Bool)(K:aa)(vs:List V)(H:Hp)(Q:VK):Prop |mk (v:_)(d:_)(h0:vs=[v])(h1:RD K H v d)(h2:pX d=true)(h3:∀H',aE H H'->Q (.bl (f d)) H'):Uu f K vs H Q
def LO(f:ai->Bool)(K:aa):Sp:=fun vs H Q _=>Uu f K vs H Q
theorem YI{z:Str}(h:pX (.str z)=true):z.length<=900:=jI h
theorem Pm(n:Nat):decide ((1:Int)<=(n:Int))=decide (1<=n):=by rw[om];simp;omega
theorem a3q(n:Nat):decide ((n:Int)<=8)=decide (n<=8):=by rw[om];simp;omega
theorem abh{l:List Nat}{f:Nat->Bool}:(l.map f).all id=l.all f:=by rw[List.all_map];rfl
theorem abu:∀c<128,decide (c∈jD.cps.toList)=vx c:=by decide+kernel
theorem abx:∀c∈jD.cps.toList,c<128:=by decide+kernel
theorem abw(c:Nat):decide (c∈jD.cps.toList)=vx c:=by
 by_cases h:c<128
 ·exact abu c h
 ·rw[fe (fun hc=>h (abx c hc)),vx,fe (show¬c<=122 by omega),Bool.and_false]
theorem Nt:bp ["thing"] ["thing"] (aV Fs):=bI (by decide+kernel)
theorem a2L(F:FA K mg "is_name" Fs)(B:bP mg)(a77:GV mg "LONGEST_NAME" (.int 8))(a78:GV mg "LETTERS" (.str jD)):aD P w K mg base "is_name" 1 (LO isNm K):=by
 refine F.has Nt (fun vs H Q E h=>?_) (fun _ _ _ _ _ _=>eK fun _=>rfl) (fun f aL A outer s H vs Q E hr h=>?_)
 · obtain⟨v,d,rfl,_⟩:=h
   rfl
 · obtain⟨v,d,rfl,rd,sh,k⟩:=h
   have nd:=Nt.nd;refine⟨_,(aB (bJ (PW.pt (kP (fk (cM (dF K B (O (pv 0) (O (cY (x:="str") (v:=.ty "str") rfl (B.at "str") pL rfl) aw))))) (lR (fk (a0t vp vp az (dh (x:="len") aaK rfl (B.at "len") PySem.boot_len (O (pv 0) aw)) (eQ (x:="LONGEST_NAME") rfl a77)))))) (aG (aU iD)) bO) (aG (aU (dh (x:="all") (pF K rfl rfl) rfl (B.at "all") rK (O (gd (N:=["letter"]) (js:=[none]) rfl rfl rfl (a0I (pv 0)) (fun _ _ _ _ _=>(bu 0 (tm _))) (fun _ _ _ _ _=>fF) (fun _ _ _ _ _=>(fq a1s (pv 0) (eQ (x:="LETTERS") rfl a78) (by with_unfolding_all rfl)))) aw))))),?_⟩;rcases Yj d with⟨z,rfl⟩|⟨ht,hn⟩
   · refine⟨_,rfl,.inl ⟨_,_,"str",true,rfl,rd.ty,by decide,Xm,_,rfl,bF ?_⟩⟩
     cases rd.str_inv;have hl:=YI sh;have k:∀H',aE H H'->Q (.bl ((decide (1<=z.length)&&decide (z.length<=8))&&z.cps.toList.all vx)) H':=k;refine⟨_,rfl,z,rfl,iy hl (by decide),_,_,rfl,rfl,_,rfl,?_⟩;refine dN (fun h1=>?_) (fun h1=>?_)
     · rw[<-Pm,show decide ((1:Int)<=(z.length:Int))=true from h1,ko]at k
       refine⟨_,_,rfl,rfl,_,rfl,?_⟩;rw[a3q];cases e8:decide (z.length<=8)with |false=>rw[e8,kJ]at k;exact bV (k H (aE.refl _)) |true=>
         rw[e8,ko]at k;refine bF ⟨_,rfl,z,rfl,fun D H0 nw=>?_⟩;refine aau (f:=vx) [] nw (by lia) (fun c H2 Q' hc s2 hq=>?_) (fun H2 s2 d2=>?_)
         · refine⟨_,rfl,c,jD,rfl,rfl,?_⟩
           rw[abw];exact hq _ (aE.refl _)
         · refine⟨D,_,rfl,aF.of d2,?_⟩
           rw[abh];exact k H2 s2
     · rw[<-Pm,show decide ((1:Int)<=(z.length:Int))=false from xk.mpr h1,kJ,kJ]at k
       exact⟨_,rfl,bV (k H (aE.refl _))⟩
   · have e:isNm d=false:=by cases d<;>first|rfl|exact absurd rfl (hn _)
     rw[e]at k;refine⟨_,rfl,.inl ⟨_,_,"str",false,rfl,rd.ty,by decide,ht,_,rfl,bV ?_⟩⟩;exact k H (aE.refl _)
inductive UH(K:aa)(vs:List V)(H:Hp)(Q:VK):Prop |mk (x:_)(v:_)(wd:_)(d:_)(h0:vs=[x,v])(h1:RD K H x wd)(h2:RD K H v d)(h3:dw 8 wd)(h4:dw 8 d)(h5:pX d=true)(h6:∀H',aE H H'->Q (.bl (oT wd d)) H'):UH K vs H Q
def LW(K:aa):Sp:=fun vs H Q _=>UH K vs H Q
theorem xJ{d:ai}(h:dw 8 d):SeqAt.shaped d=true:=h.shaped (by decide)
theorem Nq:bp ["word","value"] ["word","value"] (aV Fp):=bI (by decide+kernel)
theorem a2J(F:FA K mg "is_short_item" Fp)(B:bP mg)(a76:GV mg "LONGEST_WAIT" (.int 1000))(gS:GT K mg "SIDES" [.str "up",.str "down"])(oZ:aD P w K mg base "is_whole_within" 2 (sj K))(a6i:aD P w K mg base "is_name" 1 (LO isNm K)):aD P w K mg base "is_short_item" 3 (LW K):=by
 refine F.has Nq (fun vs H Q E h=>?_) (fun _ _ _ _ _ _=>dy fun _ _=>rfl) (fun f aL A outer s H vs Q E hr h=>?_)
 · obtain⟨x,v,wd,d,rfl,_⟩:=h
   rfl
 · obtain⟨x,v,wd,d,rfl,FQ,rd,Gz,y9,sh,k⟩:=h
   have nd:=Nq.nd;obtain⟨aS,a6U,Yr⟩:=gS;refine⟨_,(aB (bJ (bZ (cQ K rfl hr.units) (pv 0) aW (bw _)) (aG (aU (pf oZ hr (O (pv 1) (O az (O (eQ (x:="LONGEST_WAIT") rfl a76) aw)))))) bO) (aB (bJ (bZ (cQ K rfl hr.units) (pv 0) aW (bw _)) (aG (aU (fq (a5b K rfl (hr.Xi)) (pv 1) (eQ (x:="SIDES") rfl a6U) (by with_unfolding_all rfl)))) bO) (aG (aU (iE (fq (cQ K rfl hr.units) (pv 0) aW (bw _)) (iW (pf a6i hr (O (pv 1) aw)))))))),?_⟩;have k:∀H',aE H H'->Q (.bl (if iq "wait" wd then gE 1 1000 d else if iq "tool" wd then Hr d else iq "mark" wd&&isNm d)) H':=k;refine⟨_,rfl,.inr ⟨_,_,FQ,cV _,xJ Gz,by decide+kernel,_,rfl,?_⟩⟩;rw[C6];cases e1:iq "wait" wd with |true=>rw[e1,bc rfl]at k;exact bV ⟨_,rfl,_,d,1,1000,rfl,rd,k H (aE.refl _)⟩ |false=>rw[e1,bf kr]at k;refine bF ⟨_,rfl,.inr ⟨_,_,FQ,cV _,xJ Gz,by decide+kernel,_,rfl,?_⟩⟩;rw[C6];cases e2:iq "tool" wd with
     |true=>
       rw[e2,bc rfl]at k;refine bV ⟨_,rfl,aS,_,d,[.str "up",.str "down"],rfl,Yr H,rd,bW (cV _) (bW (cV _) cU),xJ y9,?_,?_⟩
       · intro e he
         rcases bN.mp he with rfl|he
         ·decide+kernel
         rcases bN.mp he with rfl|he
         ·decide+kernel
         ·exact(cI he).elim
       · have e:([.str "up",.str "down"]:List ai).any (fun e=>PyData.eqv e d)=Hr d:=by rw[uL,uL,List.any_nil,S5,S5,Bool.or_false];rfl
         rw[e];exact k H (aE.refl _) |false=>rw[e2,bf kr]at k;refine bF ⟨_,rfl,.inr ⟨_,_,FQ,cV _,xJ Gz,by decide+kernel,_,rfl,?_⟩⟩;rw[C6];cases e3:iq "mark" wd with |true=>rw[e3,ko]at k;exact bV ⟨_,rfl,_,d,rfl,rd,sh,k⟩ |false=>rw[e3,kJ]at k;exact bF (k H (aE.refl _))
theorem a35(i:Int):(!decide (i=0))=(i !=0):=by rw[om];simp
theorem a5a{lo hi:Int}{d:ai}(h:gE lo hi d=true):∃i,d= .int i:=by cases d<;>simp[gE]at h;exact⟨_,rfl⟩
theorem any_map'{ds:List ai}{f:ai->Bool}:(ds.map f).any id=ds.any f:=by rw[List.any_map];rfl
inductive UE(K:aa)(vs:List V)(H:Hp)(Q:VK):Prop |mk (m:V)(v:V)(rs:List Int)(es:List ai)(d:ai)(h0:vs=[m,v])(h1:RD K H m ((.tuple (.tuple (rs.map PyData.int)::es))))(h2:RD K H v d)(h3:rs.length<=3)(h4:∀H',aE H H'->Q (.bl (sT rs.length d)) H'):UE K vs H Q
def LU(K:aa):Sp:=fun vs H Q _=>UE K vs H Q
theorem NK:bp ["machine","thing","rails"] ["machine","thing"] (aV FI):=bI (by decide+kernel)
theorem a2Z(F:FA K mg "are_steps" FI)(B:bP mg)(QW:GV mg "MOST_STEPS" (.int 100))(oZ:aD P w K mg base "is_whole_within" 2 (sj K)):aD P w K mg base "are_steps" 3 (LU K):=by
 refine F.has NK (fun vs H Q E h=>?_) (fun _ _ _ _ _ _=>dy fun _ _=>rfl) (fun f aL A outer s H vs Q E hr h=>?_)
 · obtain⟨m,v,rs,es,d,rfl,_⟩:=h
   rfl
 · obtain⟨m,v,rs,es,d,rfl,rm,rd,l3,k⟩:=h
   have nd:=NK.nd;refine⟨_,(aB (pS 2 nd (px K (pv 0) az)) (aB (bJ (PW.pt (kP (fk (cM (dF K B (O (pv 1) (O (cY (x:="tuple") (v:=.ty "tuple") rfl (B.at "tuple") fL rfl) aw))))) (lR (bZ (jv K rfl hr.units) (dU K B (O (pv 1) aw)) (dU K B (O (pv 2) aw)) (bw _))))) (aG (aU iD)) bO) (aB (bJ (fk (cM (dh (x:="all") (pF K rfl rfl) rfl (B.at "all") rK (O (gd (N:=["step"]) (js:=[none]) rfl rfl rfl (qj K rfl (pv 1)) (fun _ _ _ _ _=>(bu 0 (tm _))) (fun _ _ _ _ _=>fF) (fun _ _ _ _ _=>(pf oZ hr (O (pv 0) (O (xX xq (eQ (x:="MOST_STEPS") rfl QW)) (O (eQ (x:="MOST_STEPS") rfl QW) aw)))))) aw)))) (aG (aU iD)) bO) (aG (aU (dh (x:="any") (TK K rfl rfl) rfl (B.at "any") WB (O (gd (N:=["step"]) (js:=[none]) rfl rfl rfl (qj K rfl (pv 1)) (fun _ _ _ _ _=>(bu 0 (tm _))) (fun _ _ _ _ _=>fF) (fun _ _ _ _ _=>(fq (jv K rfl hr.units) (pv 0) az (bw _)))) aw))))))),?_⟩;obtain⟨am,ar,ym,rfl,hm,har⟩:=a3O rm;refine⟨_,rfl,.inr ⟨am,_,0,_,rfl,rfl,hm,dc (gA 0) rfl,?_⟩⟩;rcases Du d with⟨ds,rfl⟩|⟨ht,hn⟩
   · refine⟨_,rfl,.inl ⟨_,_,"tuple",true,rfl,rd.ty,by decide,xu,_,rfl,bF ?_⟩⟩
     obtain⟨av,xs,rfl,hx,hd⟩:=rd.eu;have hl:=hd.length;refine⟨_,rfl,av,_,rfl,.inr hx,_,rfl,ar,_,rfl,.inr har,.inl ⟨_,_,rfl,rfl,_,rfl,?_⟩⟩;have k:∀H',aE H H'->Q (.bl ((ds.length==rs.length&&ds.all (gE (-100) 100))&&ds.any yb)) H':=k;have e0:(!decide ((xs.length:Int)=((rs.map V.int).length:Int)))= !(ds.length==rs.length):=by rw[hl,cu];congr 1;rw[om];simp;lia
     rw[e0];cases e:(ds.length==rs.length)with |false=>rw[e,kJ,kJ]at k;exact bV (k H (aE.refl _)) |true=>
       rw[e,ko]at k;refine bF ?_;have el:ds.length=rs.length:=fS.mp e;refine⟨_,rfl,av,rfl,⟨_,hx⟩,fun D H0 nw=>?_⟩;refine SO (xs:=xs) (bs:=ds.map (gE (-100) 100)) [] hx nw (by rw[cu,hl]) (by lia) ?_ ?_
       · intro i x b H2 Q' ex eb s2 hq
         obtain⟨d,ed,rfl⟩:=PH eb;obtain⟨x',pj,rx⟩:=hd.get i ed;rw[ex]at pj;cases pj;exact⟨_,rfl,_,rfl,_,d,-100,100,rfl,RD.mono s2 _ rx,hq _ (aE.refl _)⟩
       · intro H2 s2 d2
         refine⟨D,_,rfl,aF.of d2,_,rfl,?_⟩;rw[all_map];cases e1:ds.all (gE (-100) 100)with |false=>rw[e1,kJ]at k;exact bV (k H2 s2) |true=>
           rw[e1,ko]at k;refine bF ⟨_,rfl,av,rfl,⟨_,hx.go s2⟩,fun D2 H3 n3=>?_⟩;refine SO (xs:=xs) (bs:=ds.map yb) [] (hx.go s2) n3 (by rw[cu,hl]) (by lia) ?_ ?_
           · intro i x b H4 Q' ex eb s4 hq
             obtain⟨d,ed,rfl⟩:=PH eb;obtain⟨x',pj,rx⟩:=hd.get i ed;rw[ex]at pj;cases pj;obtain⟨z,rfl⟩:=a5a (iQ.mp e1 d (gG ed));cases rx.int_inv;refine⟨_,rfl,.inl ⟨_,_,rfl,rfl,?_⟩⟩;show Q' (.bl (!decide (z=0))) H4;rw[a35];exact hq _ (aE.refl _)
           · intro H4 s4 d4
             refine⟨D2,_,rfl,aF.of d4,?_⟩;rw[any_map'];exact k H4 (s2.trans s4)
   · have e:sT rs.length d=false:=by cases d<;>first|rfl|exact absurd rfl (hn _)
     rw[e]at k;refine⟨_,rfl,.inl ⟨_,_,"tuple",false,rfl,rd.ty,by decide,ht,_,rfl,bV ?_⟩⟩;exact k H (aE.refl _)
theorem item_cases(n:Nat)(d:ai):(∃wd a b,d= .tuple [wd,a,b])\/(∃wd v,d= .tuple [wd,v])\/(∃ds,d= .tuple ds/\ds.length≠3/\ds.length≠2/\tJ n d=false)\/(iR (mI d) "tuple"=false/\tJ n d=false):=by
 rcases Du d with⟨ds,rfl⟩|⟨ht,hn⟩
 ·match ds with |[r,a,b]=>exact .inl ⟨r,a,b,rfl⟩ |[r,a]=>exact .inr (.inl ⟨r,a,rfl⟩) |[]=>exact .inr (.inr (.inl ⟨_,rfl,by simp,by simp,by simp[tJ]⟩)) |[_]=>exact .inr (.inr (.inl ⟨_,rfl,by simp,by simp,by simp[tJ]⟩)) |_::_::_::_::_=>exact .inr (.inr (.inl ⟨_,rfl,by simp,by simp,by simp[tJ]⟩))
 ·exact .inr (.inr (.inr ⟨ht,by cases d<;>first|rfl|exact absurd rfl (hn _)⟩))
inductive Vh(K:aa)(vs:List V)(H:Hp)(Q:VK):Prop |mk (m:V)(v:V)(rs:List Int)(es:List ai)(d:ai)(h0:vs=[m,v])(h1:RD K H m ((.tuple (.tuple (rs.map PyData.int)::es))))(h2:RD K H v d)(h3:rs.length<=3)(h4:dw 8 d)(h5:E2 d=true)(h6:∀H',aE H H'->Q (.bl (tJ rs.length d)) H'):Vh K vs H Q
def DT(K:aa):Sp:=fun vs H Q _=>Vh K vs H Q
theorem GC{ds:List ai}(h:dw 8 (.tuple ds)){d:ai}(hd:d∈ds):dw 8 d:=((dw.eu (n:=7) h) d hd).le (by decide)
theorem YJ{ds:List ai}(h:E2 (.tuple ds)=true){d:ai}(hd:d∈ds):pX d=true:=iQ.mp (show ds.all pX=true from h) d hd
theorem Nu:bp ["machine","thing","word","steps","speed","value"] ["machine","thing"] (aV Ft):=bI (by decide+kernel)
theorem a2M(F:FA K mg "is_item" Ft)(B:bP mg)(a7a:GV mg "GREATEST_SPEED" (.int 20))(oZ:aD P w K mg base "is_whole_within" 2 (sj K))(a6O:aD P w K mg base "are_steps" 3 (LU K))(a6f:aD P w K mg base "is_short_item" 3 (LW K)):aD P w K mg base "is_item" 4 (DT K):=by
 refine F.has Nu (fun vs H Q E h=>?_) (fun _ _ _ _ _ _=>dy fun _ _=>rfl) (fun f aL A outer s H vs Q E hr h=>?_)
 · obtain⟨m,v,rs,es,d,rfl,_⟩:=h
   rfl
 · obtain⟨m,v,rs,es,d,rfl,rm,rd,l3,y9,sh,k⟩:=h
   have nd:=Nu.nd;refine⟨_,(aB (bJ (fk (cM (dF K B (O (pv 1) (O (cY (x:="tuple") (v:=.ty "tuple") rfl (B.at "tuple") fL rfl) aw))))) (aG (aU iD)) bO) (aB (bJ (bZ (cQ K rfl hr.units) (dU K B (O (pv 1) aw)) az (bw _)) (aB (fU (pv 1) (dR K rfl (n:=3) rfl (bR (bu 2 nd) (bR (bu 3 nd) (bR (bu 4 nd) dQ))))) (aG (aU (iE (fq (cQ K rfl hr.units) (pv 2) aW (bw _)) (iE (pf a6O hr (O (pv 0) (O (pv 3) aw))) (iW (pf oZ hr (O (pv 4) (O az (O (eQ (x:="GREATEST_SPEED") rfl a7a) aw)))))))))) bO) (aB (bJ (bZ (cQ K rfl hr.units) (dU K B (O (pv 1) aw)) az (bw _)) (aB (fU (pv 1) (dR K rfl (n:=2) rfl (bR (bu 2 nd) (bR (bu 5 nd) dQ)))) (aG (aU (pf a6f hr (O (pv 2) (O (pv 5) aw)))))) bO) (aG (aU iD))))),?_⟩;rcases item_cases rs.length d with⟨wd,a,b,rfl⟩|⟨wd,a,rfl⟩|⟨ds,rfl,h3,h2,hf⟩|⟨ht,hf⟩
   · refine⟨_,rfl,.inl ⟨_,_,"tuple",true,rfl,rd.ty,by decide,xu,_,rfl,bF ?_⟩⟩
     obtain⟨p,xs,rfl,hx,hd⟩:=rd.eu;obtain⟨u1,ys,rfl,r1,hd⟩:=hd.cons_inv;obtain⟨u2,ys,rfl,r2,hd⟩:=hd.cons_inv;obtain⟨u3,ys,rfl,r3,hd⟩:=hd.cons_inv;cases hd.nil_inv;have k:∀H',aE H H'->Q (.bl (iq "line" wd&&(sT rs.length a&&gE 1 20 b))) H':=k;refine⟨_,rfl,p,_,rfl,.inr hx,.inl ⟨_,_,rfl,rfl,_,rfl,bV ?_⟩⟩;refine⟨_,rfl,p,_,rfl,hx,rfl,_,_,rfl,_,_,rfl,_,_,rfl,rfl,?_⟩;refine⟨_,rfl,.inr ⟨_,_,r1,cV _,xJ (GC y9 (by simp)),by decide+kernel,_,rfl,?_⟩⟩;rw[C6];cases e1:iq "line" wd with |false=>rw[e1,kJ]at k;exact bF (k H (aE.refl _)) |true=>rw[e1,ko]at k;refine bV ⟨_,rfl,_,rfl,_,_,rs,es,a,rfl,rm,r2,l3,fun H1 s1=>⟨_,rfl,?_⟩⟩;cases e2:sT rs.length a with |false=>rw[e2,kJ]at k;exact bF (k H1 s1) |true=>rw[e2,ko]at k;exact bV ⟨_,rfl,_,b,1,20,rfl,RD.mono s1 _ r3,k H1 s1⟩
   · refine⟨_,rfl,.inl ⟨_,_,"tuple",true,rfl,rd.ty,by decide,xu,_,rfl,bF ?_⟩⟩
     obtain⟨p,xs,rfl,hx,hd⟩:=rd.eu;obtain⟨u1,ys,rfl,r1,hd⟩:=hd.cons_inv;obtain⟨u2,ys,rfl,r2,hd⟩:=hd.cons_inv;cases hd.nil_inv;have k:∀H',aE H H'->Q (.bl (oT wd a)) H':=k;refine⟨_,rfl,p,_,rfl,.inr hx,.inl ⟨_,_,rfl,rfl,_,rfl,bF ?_⟩⟩;refine⟨_,rfl,p,_,rfl,.inr hx,.inl ⟨_,_,rfl,rfl,_,rfl,bV ?_⟩⟩;refine⟨_,rfl,p,_,rfl,hx,rfl,_,_,rfl,_,_,rfl,rfl,?_⟩;exact⟨_,rfl,_,rfl,_,_,wd,a,rfl,r1,r2,GC y9 (by simp),GC y9 (by simp),YJ sh (by simp),k⟩
   · rw[hf]at k
     refine⟨_,rfl,.inl ⟨_,_,"tuple",true,rfl,rd.ty,by decide,xu,_,rfl,bF ?_⟩⟩;obtain⟨p,xs,rfl,hx,hd⟩:=rd.eu;have hl:=hd.length;refine⟨_,rfl,p,_,rfl,.inr hx,.inl ⟨_,_,rfl,rfl,_,rfl,?_⟩⟩;rw[show decide ((xs.length:Int)=3)=false from fe (by lia)];refine bF ⟨_,rfl,p,_,rfl,.inr hx,.inl ⟨_,_,rfl,rfl,_,rfl,?_⟩⟩;rw[show decide ((xs.length:Int)=2)=false from fe (by lia)];exact bF (k H (aE.refl _))
   · rw[hf]at k
     refine⟨_,rfl,.inl ⟨_,_,"tuple",false,rfl,rd.ty,by decide,ht,_,rfl,bV ?_⟩⟩;exact k H (aE.refl _)
def Hs(rs:List Int):ai->Bool | .tuple es=>es.length==rs.length&&((es.zip rs).map fun p=>gE 0 p.2 p.1).all id |_=>false
inductive Vj(K:aa)(vs:List V)(H:Hp)(Q:VK):Prop |mk (m:V)(v:V)(rs:List Int)(ds:List ai)(d:ai)(h0:vs=[m,v])(h1:RD K H m (.tuple (.tuple (rs.map PyData.int)::ds)))(h2:RD K H v d)(h3:rs.length<=3)(h4:∀H',aE H H'->Q (.bl (Hs rs d)) H'):Vj K vs H Q
def DU(K:aa):Sp:=fun vs H Q _=>Vj K vs H Q
theorem zip_get{es:List ai}{rs:List Int}{i:Nat}{b:Bool}(h:((es.zip rs).map fun p=>gE 0 p.2 p.1)[i]? =some b):∃e r,es[i]? =some e/\rs[i]? =some r/\gE 0 r e=b:=by rw[cA]at h;cases q:(es.zip rs)[i]? with |none=>rw[q]at h;cases h |some p=>rw[q]at h;obtain⟨e1,e2⟩:=xi.mp q;exact⟨p.1,p.2,e1,e2,dP h⟩
theorem ints_get{rs:List Int}{i:Nat}{r:Int}(h:rs[i]? =some r):(rs.map V.int)[i]? =some (.int r):=by rw[cA,h];rfl
theorem Nr:bp ["machine","thing","rails"] ["machine","thing"] (aV Fq):=bI (by decide+kernel)
theorem a2K(F:FA K mg "is_place" Fq)(B:bP mg)(oZ:aD P w K mg base "is_whole_within" 2 (sj K)):aD P w K mg base "is_place" 3 (DU K):=by
 refine F.has Nr (fun vs H Q E h=>?_) (fun _ _ _ _ _ _=>dy fun _ _=>rfl) (fun f aL A outer s H vs Q E hr h=>?_)
 · obtain⟨m,v,rs,ds,d,rfl,_⟩:=h
   rfl
 · obtain⟨m,v,rs,ds,d,rfl,rm,rd,l3,k⟩:=h
   have nd:=Nr.nd;refine⟨_,(aB (pS 2 nd (px K (pv 0) az)) (aB (bJ (PW.pt (kP (fk (cM (dF K B (O (pv 1) (O (cY (x:="tuple") (v:=.ty "tuple") rfl (B.at "tuple") fL rfl) aw))))) (lR (bZ (jv K rfl hr.units) (dU K B (O (pv 1) aw)) (dU K B (O (pv 2) aw)) (bw _))))) (aG (aU iD)) bO) (aG (aU (dh (x:="all") (pF K rfl rfl) rfl (B.at "all") rK (O (gd (N:=["number","rail"]) (js:=[none,none]) rfl rfl rfl (jP K rfl false false rfl (B.at "zip") (O (pv 1) (O (pv 2) aw))) (fun _ _ _ _ _=>(dR K rfl (n:=2) rfl (bR (bu 0 (fP (by decide))) (bR (bu 1 (fP (by decide))) dQ)))) (fun _ _ _ _ _=>fF) (fun _ _ _ _ _=>(pf oZ hr (O (pv 0) (O az (O (pv 1) aw)))))) aw)))))),?_⟩;obtain⟨am,xm,rfl,hm,hdm⟩:=rm.eu;obtain⟨yr,ym,rfl,r1,acV⟩:=hdm.cons_inv;obtain⟨ar,xr,rfl,Bv,hdr⟩:=r1.eu;cases hdr.iY;refine⟨_,rfl,.inr ⟨am,_,0,_,rfl,rfl,hm,dc (gA 0) rfl,?_⟩⟩;rcases Du d with⟨es,rfl⟩|⟨ht,hn⟩
   · refine⟨_,rfl,.inl ⟨_,_,"tuple",true,rfl,rd.ty,by decide,xu,_,rfl,bF ?_⟩⟩
     obtain⟨av,xs,rfl,hx,hd⟩:=rd.eu;have hl:=hd.length;refine⟨_,rfl,av,_,rfl,.inr hx,_,rfl,ar,_,rfl,.inr Bv,.inl ⟨_,_,rfl,rfl,_,rfl,?_⟩⟩;have k:∀H',aE H H'->Q (.bl (es.length==rs.length&&((es.zip rs).map fun p=>gE 0 p.2 p.1).all id)) H':=k;have e0:(decide ((xs.length:Int)=((rs.map V.int).length:Int)))=(es.length==rs.length):=by rw[hl,cu,om];simp;lia
     rw[e0];cases e:(es.length==rs.length)with |false=>rw[e,kJ]at k;exact bV (k H (aE.refl _)) |true=>
       rw[e,ko]at k;refine bF ?_;have el:es.length=rs.length:=fS.mp e;refine⟨_,rfl,_,rfl,av,ar,rfl,⟨_,hx⟩,⟨_,Bv⟩,fun D H0 nw=>?_⟩;refine SN (b1:=false) (b2:=false) (xs:=xs) (ys:=rs.map V.int) (bs:=(es.zip rs).map fun p=>gE 0 p.2 p.1) [] rfl hx Bv nw (by rw[cu,cu,List.length_zip,hl]) (by rw[cu,List.length_zip];lia) ?_ ?_
       · intro i x y b H2 Q' ex ey eb s2 hq
         obtain⟨e',r,ee,er,rfl⟩:=zip_get eb;obtain⟨x',pj,rx⟩:=hd.get i ee;rw[ex]at pj;cases pj;rw[ints_get er]at ey;cases ey;exact⟨_,rfl,_,rfl,_,e',0,r,rfl,RD.mono s2 _ rx,hq _ (aE.refl _)⟩
       · intro H2 s2 d2
         exact⟨D,_,rfl,aF.of d2,k H2 s2⟩
   · have e:Hs rs d=false:=by cases d<;>first|rfl|exact absurd rfl (hn _)
     rw[e]at k;refine⟨_,rfl,.inl ⟨_,_,"tuple",false,rfl,rd.ty,by decide,ht,_,rfl,bV ?_⟩⟩;exact k H (aE.refl _)
inductive V9(K:aa)(vs:List V)(H:Hp)(Q:VK):Prop |mk (pw:_)(b:_)(pl:_)(ns:_)(h0:vs=[pw,.ref b])(h1:RD K H pw (fo pl))(h2:aP K H b (ns.map V.int))(h3:ns.length=pl.length)(h4:pl.length<=1000)(h5:∀v' H',RD K H' v' (fo (fR pl ns))->aE H H'->Q v' H'):V9 K vs H Q
def Ap(K:aa):Sp:=fun vs H Q _=>V9 K vs H Q
theorem N7:bp ["place","steps"] ["place","steps"] (aV F3):=bI (by decide+kernel)
theorem a2t(F:FA K mg "moved" F3)(B:bP mg):aD P w K mg base "moved" 1 (Ap K):=by
 refine F.has N7 (fun vs H Q E h=>?_) (fun _ _ _ _ _ _=>dy fun _ _=>rfl) (fun f aL A outer s H vs Q E hr h=>?_)
 · obtain⟨pw,b,pl,ns,rfl,_⟩:=h
   rfl
 · obtain⟨pw,b,pl,ns,rfl,rp,hb,ln,hz,k⟩:=h
   have nd:=N7.nd;refine⟨_,(aG (aU (ib (x:="tuple") (kL K rfl) rfl (B.at "tuple") fL (O (gd (N:=["number","step"]) (js:=[none,none]) rfl rfl rfl (jP K rfl false false rfl (B.at "zip") (O (pv 0) (O (pv 1) aw))) (fun _ _ _ _ _=>(dR K rfl (n:=2) rfl (bR (bu 0 (fP (by decide))) (bR (bu 1 (fP (by decide))) dQ)))) (fun _ _ _ _ _=>fF) (fun _ _ _ _ _=>(aI cS (pv 0) (pv 1)))) aw)))),?_⟩;obtain⟨pa,rfl,hp⟩:=sP rp;refine⟨_,rfl,_,rfl,pa,b,rfl,⟨_,hp⟩,⟨_,hb⟩,fun D H1 n1=>?_⟩;refine uq (K:=K) (b1:=false) (b2:=false) (xs:=pl.map V.int) (ys:=ns.map V.int) (ds:=(fR pl ns).map PyData.int) [] rfl hp hb n1 (by simp[qX ln,ln]) (by rw[cu,qX ln];exact hz) (kR _) ?_ ?_
   · intro i x y d H2 Q' ex ey ed s2 hq
     obtain⟨m,em,rfl⟩:=md ed;rw[cA]at ex ey;cases e1:pl[i]? with |none=>rw[e1]at ex;cases ex |some u=>cases e2:ns[i]? with |none=>rw[e2]at ey;cases ey |some v=>rw[e1]at ex;rw[e2]at ey;cases ex;cases ey;rw[JM e1 e2]at em;cases em;exact⟨_,rfl,_,rfl,_,_,rfl,rfl,hq _ _ (aE.refl _) (dC _)⟩
   · intro H2 zs s2 d2 r2
     refine⟨D,_,rfl,.inl ⟨aF.of d2,fun t H3 n3=>?_⟩⟩;have et:=n3.at';rw[r2.iY]at et;exact k (.ref t) H3 (vj (aP.of et)) (s2.trans n3.same)
inductive Vu(K:aa)(vs:List V)(H:Hp)(Q:VK):Prop |mk (pw:_)(iv:_)(pl:_)(d:_)(o:_)(h0:vs=[pw,iv])(h1:RD K H pw (fo pl))(h2:RD K H iv d)(h3:itR d o)(h4:(∀ns sp,o=some (ns,sp)->ns.length=pl.length))(h5:pl.length<=1000)(h6:∀v' H',RD K H' v' (fo (gU pl o))->aE H H'->Q v' H'):Vu K vs H Q
def xF(K:aa):Sp:=fun vs H Q _=>Vu K vs H Q
theorem NI:bp ["place","item"] ["place","item"] (aV FG):=bI (by decide+kernel)
theorem a2X(F:FA K mg "place_behind" FG)(B:bP mg)(qE:aD P w K mg base "is_line" 1 (uY K))(Ia:aD P w K mg base "moved" 1 (Ap K)):aD P w K mg base "place_behind" 2 (xF K):=by
 refine F.has NI (fun vs H Q E h=>?_) (fun _ _ _ _ _ _=>dy fun _ _=>rfl) (fun f aL A outer s H vs Q E hr h=>?_)
 · obtain⟨pw,iv,pl,d,o,rfl,_⟩:=h
   rfl
 · obtain⟨pw,iv,pl,d,o,rfl,rp,ri,it,hl,hz,k⟩:=h
   have nd:=NI.nd;refine⟨_,(aG (aU (OC (cM (pf qE hr (O (pv 1) aw))) (pf Ia hr (O (pv 0) (O (px K (pv 1) az) aw))) (pv 0)))),?_⟩;refine⟨_,rfl,iv,d,o,rfl,ri,it,_,rfl,?_⟩;cases o with |some q=>obtain⟨ns,sp⟩:=q;refine bV ?_;have ed:=kC it;subst ed;obtain⟨a,b,rfl,ha,hb⟩:=lV ri;exact⟨_,rfl,_,rfl,.inr ⟨a,_,1,.ref b,rfl,rfl,ha,rfl,pw,b,pl,ns,rfl,rp,hb,hl ns sp rfl,hz,fun v' H' r s=>k v' H' r s⟩⟩ |none=>refine bF ?_;exact⟨_,rfl,k pw H rp (aE.refl _)⟩
open Rn
def gc(m b d q p r s k t:V):List (Str×V):=[("machine",m),("begun_at",b),("done",d),("queue",q),("pace",p),("rate_now",r),("side",s),("mark",k),("stopping",t)]
structure bM where
 rs:List Int
 r:Int
 f:Int
 j:Int
 t:Int
abbrev bM.D(M:bM):ai:=iX M.rs M.r M.f M.j M.t
abbrev bM.Ok(M:bM):Prop:=nU M.rs M.r M.f M.j M.t
structure bj where
 pl:List Int
 dn:Nat
 ds:List ai
 os:List Itm
 pc:Rat
 ay:Int
 side:Str
 mark:Str
 aR:Rn.gs
def wQ(K:aa)(H:Hp)(v:V):Rn.gs->Prop |none=>v= .bo |some (sq,st,gn)=>∃a u,v= .ref a/\aP K H a [u,.int st,.int gn]/\bh K H u sq
structure cm(M:bM)(D:Nat)(S:bj):Prop where
 row:gO M.rs.length S.ds S.os
 rw:RowW S.ds S.os
 len:S.ds.length<=20
 cZ:10<=S.ay
 du:S.ay<=200
 dn:S.dn=0\/∃ns sp,S.os[0]? =some (some (ns,sp))/\S.dn<aH ns
 pl:S.pl.length=M.rs.length
 pd:Dd (D+10) S.pc
 pm:S.pc<=1600
 aR:qZ D S.pc S.aR
 D1:64<=D
 D2:D<=1500
structure cF(K:aa)(C:Addr)(H:Hp)(a q:Addr)(M:bM)(S:bj):Prop where
 ob:∃dx mv bv cE tv,H a=some (.ins C dx (gc mv bv (.int S.dn) (.ref q) cE (.int S.ay) (.str S.side) (.str S.mark) tv))/\RD K H mv M.D/\RD K H bv (fo S.pl)/\bh K H cE S.pc/\wQ K H tv S.aR
 qu:∃ys,H q=some (.lst ys)/\aJ K H ys S.ds
theorem bh.v{H H':Hp}{v:V}{q:Rat}(s:bS H H')(h:bh K H v q):bh K H' v q:=by obtain⟨p,rfl,hp⟩:=h;exact⟨p,rfl,aP.v s hp⟩
theorem wQ.v{H H':Hp}{v:V}{t:Rn.gs}(s:bS H H')(h:wQ K H v t):wQ K H' v t:=by cases t with |none=>exact h |some q=>obtain⟨sq,st,gn⟩:=q;obtain⟨a,u,rfl,h1,h2⟩:=h;exact⟨a,u,rfl,aP.v s h1,bh.v s h2⟩
theorem cF.go{C:Addr}{H H':Hp}{a q:Addr}{M:bM}{S:bj}(h:cF K C H a q M S)(hn:cN S.ds=true)(s:bS H H')(ea:∀o,H a=some o->H' a=some o)(eq:∀o,H q=some o->H' q=some o):cF K C H' a q M S:=by obtain⟨⟨dx,mv,bv,cE,tv,e,r1,r2,r3,r4⟩,ys,lG,rq⟩:=h;exact⟨⟨dx,mv,bv,cE,tv,ea _ e,RD.v s _ (jd _ _ _ _ _) r1,RD.v s _ (hZ _) r2,r3.v s,r4.v s⟩,ys,eq _ lG,aJ.v s _ hn rq⟩
theorem cF.same{C:Addr}{H H':Hp}{a q:Addr}{M:bM}{S:bj}(h:cF K C H a q M S)(hn:cN S.ds=true)(s:aE H H'):cF K C H' a q M S:=h.go hn s.v (fun o e=>s _ _ e) (fun o e=>s _ _ e)
theorem cF.ne{C:Addr}{H:Hp}{a q:Addr}{M:bM}{S:bj}(h:cF K C H a q M S):a≠q:=by obtain⟨⟨dx,mv,bv,cE,tv,e,_⟩,ys,lG,_⟩:=h;exact yh e lG (by intro z;cases z)
theorem cF.v{C:Addr}{H H':Hp}{a q:Addr}{M:bM}{S:bj}(h:cF K C H a q M S)(b:aZ [a,q] H H'):bS H H':=by
 obtain⟨⟨dx,mv,bv,cE,tv,e,_⟩,ys,lG,_⟩:=h;refine b.v fun x hx o eo=>?_;simp only[bN,cI,dB]at hx;rcases hx with rfl|rfl
 ·rw[e]at eo;cases eo;trivial
 ·rw[lG]at eo;cases eo;trivial
inductive UA(K:aa)(C:Addr)(G:bM->bj->Hp->VK->Prop)(vs:List V)(H:Hp)(Q:VK):Prop |mk (a:_)(q:_)(M:_)(D:_)(S:_)(h0:vs=[.ref a])(h1:cF K C H a q M S)(h2:cm M D S)(h3:M.Ok)(h4:G M S H Q):UA K C G vs H Q
def fj(K:aa)(C:Addr)(G:bM->bj->Hp->VK->Prop):Sp:=fun vs H Q _=>UA K C G vs H Q
theorem YV:bp ["self"] ["self"] (aV EB):=bI (by decide+kernel)
def RF(K:aa):bM->bj->Hp->VK->Prop:=fun _ S H Q=>∀v,bh K H v S.pc->Q v H
theorem a21{C:Addr}(F:MA K C "square" "Runner.square" EB)(TC:fY K C):cL P w K mg base C "square" 1 (fj K C (RF K)):=by
 refine F.has YV (fun vs H Q E h=>?_) (fun _ _ _ _ _ _=>eK fun _=>rfl) (fun f aL A outer s H vs Q E hr h=>?_)
 · obtain⟨a,q,M,D,S,rfl,_⟩:=h
   rfl
 · obtain⟨a,q,M,D,S,rfl,R,ok,aO,k⟩:=h
   obtain⟨dx,mv,bv,cE,tv,e,r1,r2,r3,r4⟩:=R.ob;exact⟨_,(aG (aU (cW TC.cl TC.qx (pv 0)))),_,rfl,a,dx,_,_,rfl,e,rfl,k cE r3⟩
theorem YX:bp ["self"] ["self"] (aV EG):=bI (by decide+kernel)
theorem a25{C:Addr}(F:MA K C "rate" "Runner.rate" EG)(TC:fY K C):cL P w K mg base C "rate" 1 (fj K C fun _ S H Q=>Q (.int S.ay) H):=by
 refine F.has YX (fun vs H Q E h=>?_) (fun _ _ _ _ _ _=>eK fun _=>rfl) (fun f aL A outer s H vs Q E hr h=>?_)
 · obtain⟨a,q,M,D,S,rfl,_⟩:=h
   rfl
 · obtain⟨a,q,M,D,S,rfl,R,ok,aO,k⟩:=h
   obtain⟨dx,mv,bv,cE,tv,e,r1,r2,r3,r4⟩:=R.ob;exact⟨_,(aG (aU (cW TC.cl TC.AY (pv 0)))),_,rfl,a,dx,_,_,rfl,e,rfl,k⟩
theorem YU:bp ["self"] ["self"] (aV Ez):=bI (by decide+kernel)
theorem a20{C:Addr}(F:MA K C "tool" "Runner.tool" Ez)(TC:fY K C):cL P w K mg base C "tool" 1 (fj K C fun _ S H Q=>Q (.str S.side) H):=by
 refine F.has YU (fun vs H Q E h=>?_) (fun _ _ _ _ _ _=>eK fun _=>rfl) (fun f aL A outer s H vs Q E hr h=>?_)
 · obtain⟨a,q,M,D,S,rfl,_⟩:=h
   rfl
 · obtain⟨a,q,M,D,S,rfl,R,ok,aO,k⟩:=h
   obtain⟨dx,mv,bv,cE,tv,e,r1,r2,r3,r4⟩:=R.ob;exact⟨_,(aG (aU (cW TC.cl TC.GP (pv 0)))),_,rfl,a,dx,_,_,rfl,e,rfl,k⟩
theorem YZ:bp ["self"] ["self"] (aV EJ):=bI (by decide+kernel)
theorem a29{C:Addr}(F:MA K C "last_mark" "Runner.last_mark" EJ)(TC:fY K C):cL P w K mg base C "last_mark" 1 (fj K C fun _ S H Q=>Q (.str S.mark) H):=by
 refine F.has YZ (fun vs H Q E h=>?_) (fun _ _ _ _ _ _=>eK fun _=>rfl) (fun f aL A outer s H vs Q E hr h=>?_)
 · obtain⟨a,q,M,D,S,rfl,_⟩:=h
   rfl
 · obtain⟨a,q,M,D,S,rfl,R,ok,aO,k⟩:=h
   obtain⟨dx,mv,bv,cE,tv,e,r1,r2,r3,r4⟩:=R.ob;exact⟨_,(aG (aU (cW TC.cl TC.GQ (pv 0)))),_,rfl,a,dx,_,_,rfl,e,rfl,k⟩
theorem YT:bp ["self"] ["self"] (aV Ey):=bI (by decide+kernel)
theorem a1Z{C:Addr}(F:MA K C "waiting" "Runner.waiting" Ey)(TC:fY K C)(B:bP mg):cL P w K mg base C "waiting" 1 (fj K C fun _ S H Q=>∀l ys H',H l=none->H' l=some (.lst ys)->aJ K H' ys S.ds->aE H H'->Q (.ref l) H'):=by
 refine F.has YT (fun vs H Q E h=>?_) (fun _ _ _ _ _ _=>eK fun _=>rfl) (fun f aL A outer s H vs Q E hr h=>?_)
 · obtain⟨a,q,M,D,S,rfl,_⟩:=h
   rfl
 · obtain⟨a,q,M,D,S,rfl,R,ok,aO,k⟩:=h
   obtain⟨dx,mv,bv,cE,tv,e,r1,r2,r3,r4⟩:=R.ob;obtain⟨ys,eq,rq⟩:=R.qu;refine⟨_,(aG (aU (ib (x:="list") (Hf K rfl) rfl (B.at "list") kH (O (cW TC.cl TC.jR (pv 0)) aw)))),_,rfl,a,dx,_,_,rfl,e,rfl,q,ys,rfl,.inl (aF.of eq),fun l H1 n1=>?_⟩;exact k l ys H1 n1.no n1.at' (aJ.mono n1.same _ rq) n1.same
theorem Za:bp ["self"] ["self"] (aV EO):=bI (by decide+kernel)
theorem a2e{C:Addr}(F:MA K C "is_held" "Runner.is_held" EO)(TC:fY K C):cL P w K mg base C "is_held" 1 (fj K C fun _ S H Q=>Q (.bl S.aR.isSome) H):=by
 refine F.has Za (fun vs H Q E h=>?_) (fun _ _ _ _ _ _=>eK fun _=>rfl) (fun f aL A outer s H vs Q E hr h=>?_)
 · obtain⟨a,q,M,D,S,rfl,_⟩:=h
   rfl
 · obtain⟨a,q,M,D,S,rfl,R,ok,aO,k⟩:=h
   obtain⟨dx,mv,bv,cE,tv,e,r1,r2,r3,r4⟩:=R.ob;refine⟨_,(aG (aU (fq xZ (cW TC.cl TC.vK (pv 0)) jo (bw _)))),_,rfl,a,dx,_,_,rfl,e,rfl,?_⟩;cases hs:S.aR with |none=>rw[hs]at r4 k;cases(show tv= .bo from r4);exact⟨rfl,k⟩ |some z=>rw[hs]at r4 k;obtain⟨sq,st,gn⟩:=z;obtain⟨b,u,rfl,_⟩:=r4;exact⟨rfl,k⟩
theorem Oe(q:Rat):PyData.eqv (cR q) (cR 0)=decide (q=0):=by
 by_cases h:q=0
 ·rw[cH h];exact eqR h
 · rw[fe h]
   cases e:PyData.eqv (cR q) (cR 0)with |false=>rfl |true=>
     exfalso;apply h;have e':(PyData.eqv (.int q.num) (.int (0:Rat).num)&&(PyData.eqv (.int (q.den:Int)) (.int ((0:Rat).den:Int))&&true))=true:=e;rw[Kw,fh]at e';obtain⟨a,b⟩:=e';have h1:q.num=(0:Rat).num:=by simpa[PyData.eqv]using a
     have h2:(q.den:Int)=((0:Rat).den:Int):=by simpa[PyData.eqv]using b
     exact Rat.ext h1 (by lia)
theorem YW:bp ["self"] ["self"] (aV EF):=bI (by decide+kernel)
theorem a24{C:Addr}(F:MA K C "stands" "Runner.stands" EF)(TC:fY K C)(gN:GT K mg "NOUGHT" [.int 0,.int 1]):cL P w K mg base C "stands" 1 (fj K C fun _ S H Q=>Q (.bl (decide (S.pc=0))) H):=by
 obtain⟨aN,lB,mL⟩:=gN;refine F.has YW (fun vs H Q E h=>?_) (fun _ _ _ _ _ _=>eK fun _=>rfl) (fun f aL A outer s H vs Q E hr h=>?_)
 · obtain⟨a,q,M,D,S,rfl,_⟩:=h
   rfl
 · obtain⟨a,q,M,D,S,rfl,R,ok,aO,k⟩:=h
   obtain⟨dx,mv,bv,cE,tv,e,r1,r2,r3,r4⟩:=R.ob;refine⟨_,(aG (aU (fq (cQ K rfl hr.units) (cW TC.cl TC.qx (pv 0)) (eQ (x:="NOUGHT") rfl lB) (bw _)))),_,rfl,a,dx,_,_,rfl,e,rfl,.inr ⟨_,_,r3.rd,(sX (mL H)).rd,rfl,rfl,?_⟩⟩;rw[Oe];exact k
theorem Z9:bp ["self"] ["self"] (aV EN):=bI (by decide+kernel)
theorem a2d{C:Addr}(F:MA K C "is_halted" "Runner.is_halted" EN)(TC:fY K C)(u6:cL P w K mg base C "is_held" 1 (fj K C fun _ S H Q=>Q (.bl S.aR.isSome) H))(Iy:cL P w K mg base C "stands" 1 (fj K C fun _ S H Q=>Q (.bl (decide (S.pc=0))) H)):cL P w K mg base C "is_halted" 2 (fj K C fun _ S H Q=>Q (.bl (S.aR.isSome&&decide (S.pc=0))) H):=by
 refine F.has Z9 (fun vs H Q E h=>?_) (fun _ _ _ _ _ _=>eK fun _=>rfl) (fun f aL A outer s H vs Q E hr h=>?_)
 · obtain⟨a,q,M,D,S,rfl,_⟩:=h
   rfl
 · obtain⟨a,q,M,D,S,rfl,R,ok,aO,k⟩:=h
   obtain⟨dx,mv,bv,cE,tv,e,r1,r2,r3,r4⟩:=R.ob;refine⟨_,(aG (aU (iE (gK u6 TC.cl (hr.mono (by decide)) (pv 0)) (iW (gK Iy TC.cl (hr.mono (by decide)) (pv 0)))))),_,rfl,a,dx,_,rfl,e,rfl,a,q,M,D,S,rfl,R,ok,aO,_,rfl,?_⟩;cases hs:S.aR.isSome with |false=>rw[hs]at k;exact bF k |true=>rw[hs]at k;refine bV ⟨_,rfl,a,dx,_,rfl,e,rfl,a,q,M,D,S,rfl,R,ok,aO,?_⟩;exact k
structure nX(n:Nat)(d:ai)(o:Itm):Prop where
 it:itR d o
 ln:∀ns sp,o=some (ns,sp)->eR n 100 ns/\1<=sp/\sp<=20
 ot:o=none->pG d
theorem a3r{z:Str}(h:yj z=true):isNm (.str z)=true:=h
theorem abf:∀{ns:List Int},(∃z∈ns,z≠0)->(ns.map PyData.int).any yb=true:=fun{ns} ⟨z,hz,h⟩=>List.any_eq_true.mpr ⟨.int z,jJ.mpr ⟨z,hz,rfl⟩,by show(z !=0)=true;simpa using h⟩
theorem abk{ns:List Int}(h:∀z∈ns,(z.natAbs:Int)<=100):(ns.map PyData.int).all (gE (-100) 100)=true:=by rw[iQ];intro d hd;obtain⟨z,hz,rfl⟩:=jJ.mp hd;have:=h z hz;show(decide (-100<=z)&&decide (z<=100))=true;rw[cH (by omega),cH (by omega)];rfl
theorem nX.is{n:Nat}{d:ai}{o:Itm}(h:nX n d o):tJ n d=true/\dw 8 d/\E2 d=true:=by cases o with
 |some q=>
   obtain⟨ns,sp⟩:=q;have ed:=kC h.it;subst ed;obtain⟨eV,s1,s2⟩:=h.ln ns sp rfl;refine⟨?_,?_,rfl⟩
   · show(iq "line" (.str "line")&&(sT n (.tuple (ns.map PyData.int))&&gE 1 20 (.int sp)))=true
     have e1:iq "line" (.str "line")=true:=by decide+kernel
     have e2:sT n (.tuple (ns.map PyData.int))=true:=by show(((ns.map PyData.int).length==n&&(ns.map PyData.int).all (gE (-100) 100))&&(ns.map PyData.int).any yb)=true;rw[abk eV.bd,abf eV.nz,cu,eV.len,K4];rfl
     have e3:gE 1 20 (.int sp)=true:=by show(decide (1<=sp)&&decide (sp<=20))=true;rw[cH s1,cH s2];rfl
     rw[e1,e2,e3];rfl
   · refine(gy.tup (n:=1) (.cons ⟨by decide+kernel,fZ _⟩ (.cons (gy.tup (n:=0) fun d hd=>?_) (.cons (.int _) .nil)))).le (by decide)
     obtain⟨a,_,rfl⟩:=jJ.mp hd;exact .int _ |none=>
   rcases h.ot rfl with⟨z,rfl,z1,z2⟩|⟨w,s,rfl,hw,sS,on⟩
   · refine⟨?_,(gy.tup (n:=0) (.cons ⟨by decide+kernel,fZ _⟩ (.cons (.int _) .nil))).le (by decide),rfl⟩
     show oT (.str "wait") (.int z)=true;unfold oT;rw[bc (by decide+kernel)];show(decide (1<=z)&&decide (z<=1000))=true;rw[cH z1,cH z2];rfl
   · have a4E:pX (.str s)=true:=by
       refine cH ?_;rcases on with⟨_,rfl|rfl⟩|⟨_,hn⟩
       ·decide+kernel
       ·decide+kernel
       · unfold yj at hn
         simp only[fh,CS]at hn
         lia
     refine⟨?_,(gy.tup (n:=0) (.cons ?_ (.cons sS .nil))).le (by decide),?_⟩
     · rcases on with⟨rfl,hs⟩|⟨rfl,hn⟩
       · show oT (.str "tool") (.str s)=true
         unfold oT;rw[bf (by decide+kernel),bc (by decide+kernel)];rcases hs with rfl|rfl<;>decide+kernel
       · show oT (.str "mark") (.str s)=true
         unfold oT;rw[bf (by decide+kernel),bf (by decide+kernel)];rw[a3r hn];decide+kernel
     ·rcases hw with rfl|rfl<;>exact⟨by decide+kernel,fZ _⟩
     · show([.str w,.str s]:List ai).all pX=true
       rw[Kq,Kq,List.all_nil,a4E];rcases hw with rfl|rfl<;>decide+kernel
def iC(ns:List Int)(k:Int):List Int:=ns.map fun z=>ip (k*z) (aH ns)
def fm(S:bj):List Int:=if S.dn=0 then S.pl else match S.os[0]? with |some (some (ns,_))=>fR S.pl (iC ns S.dn) |_=>S.pl
def cP(S:bj):List Int:=S.os.foldl gU S.pl
theorem wO{n:Nat}{pl:List Int}{o:Itm}(h:pl.length=n)(ho:∀ns sp,o=some (ns,sp)->ns.length=n):(gU pl o).length=n:=by cases o with |none=>exact h |some q=>obtain⟨ns,sp⟩:=q;show(fR pl ns).length=n;rw[qX (by rw[ho ns sp rfl,h])];exact h
theorem yU{n:Nat}:∀(os:List Itm)(pl:List Int),pl.length=n->(∀o∈os,∀ns sp,o=some (ns,sp)->ns.length=n)->(os.foldl gU pl).length=n |[],pl,h,_=>h |o::os,pl,h,ho=>yU os (gU pl o) (wO h (ho o (.head _))) fun x hx=>ho x (.tail _ hx)
theorem cm.sS{M:bM}{D:Nat}{S:bj}(h:cm M D S):∀o∈S.os,∀ns sp,o=some (ns,sp)->ns.length=M.rs.length:=fun o ho ns sp e=>by obtain⟨i,hi⟩:=pQ.mp ho;rw[e]at hi;exact(h.row.ok i ns sp hi).1.len
theorem cm.first{M:bM}{D:Nat}{S:bj}(h:cm M D S)(hn:S.dn≠0):∃ns sp,S.os[0]? =some (some (ns,sp))/\S.dn<aH ns:=by
 rcases h.dn with e|e
 ·exact(hn e).elim
 ·exact e
theorem YY:bp ["self"] ["self"] (aV EH):=bI (by decide+kernel)
theorem a26{C:Addr}(F:MA K C "place" "Runner.place" EH)(TC:fY K C)(Ia:aD P w K mg base "moved" 1 (Ap K))(Bt:aD P w K mg base "stand_at" 2 (Al K)):cL P w K mg base C "place" 3 (fj K C fun _ S H Q=>∀v H',RD K H' v (fo (fm S))->aE H H'->Q v H'):=by
 refine F.has YY (fun vs H Q E h=>?_) (fun _ _ _ _ _ _=>eK fun _=>rfl) (fun f aL A outer s H vs Q E hr h=>?_)
 · obtain⟨a,q,M,D,S,rfl,_⟩:=h
   rfl
 · obtain⟨a,q,M,D,S,rfl,R,ok,aO,k⟩:=h
   obtain⟨dx,mv,bv,cE,tv,e,r1,r2,r3,r4⟩:=R.ob;obtain⟨ys,eq,rq⟩:=R.qu;refine⟨_,(aB (bJ (bZ (cQ K rfl hr.units) (cW TC.cl TC.oO (pv 0)) az (bw _)) (aG (aU (cW TC.cl TC.vL (pv 0)))) bO) (aG (aU (pf Ia hr (O (cW TC.cl TC.vL (pv 0)) (O (pf Bt hr (O (px K (cW TC.cl TC.jR (pv 0)) az) (O (cW TC.cl TC.oO (pv 0)) aw))) aw)))))),_,rfl,a,dx,_,_,rfl,e,rfl,.inl ⟨_,_,rfl,rfl,_,rfl,?_⟩⟩;by_cases h0:S.dn=0
   · rw[cH (by lia)]
     have ep:fm S=S.pl:=by unfold fm;rw[bc h0]
     rw[ep]at k;exact bV ⟨_,rfl,a,dx,_,_,rfl,e,rfl,k bv H r2 (aE.refl _)⟩
   · rw[fe (by lia)]
     refine bF ?_;obtain⟨ns,sp,eo,hd⟩:=ok.first h0;obtain⟨eV,gI,hO⟩:=ok.row.ok 0 ns sp eo;have ep:fm S=fR S.pl (iC ns S.dn):=by unfold fm;rw[bf h0,eo]
     rw[ep]at k;have ll:=ok.row.len;have oW:0<S.os.length:=(dM.mp eo).1;obtain⟨d,ed⟩:∃d,S.ds[0]? =some d:=⟨_,cj (show 0<S.ds.length by lia)⟩;obtain⟨y,ey,ry⟩:=rq.get 0 ed;have it:=ok.row.it 0 d _ ed eo;have lH:=kC it;subst lH;have Q9:=yx eV;have lr:=aO.len;refine⟨_,rfl,a,dx,_,_,rfl,e,rfl,?_⟩;refine⟨_,rfl,a,dx,_,_,rfl,e,rfl,.inl ⟨q,_,0,y,rfl,rfl,aF.of eq,dc (gA 0) ey,?_⟩⟩;refine⟨_,rfl,a,dx,_,_,rfl,e,rfl,y,ns,sp,_,rfl,ry,⟨rfl,fun z hz=>by have:=eV.bd z hz;lia,eV.nz⟩,by rw[eV.len];lia,by lia,fun u H1 ru s1=>?_⟩;obtain⟨b,xs,rfl,hb,hx⟩:=ru.eu;rw[hx.iY]at hb;exact⟨bv,b,S.pl,_,rfl,RD.mono s1 _ r2,hb,by rw[cu,eV.len,ok.pl],by rw[ok.pl];lia,fun v H2 rv s2=>k v H2 rv (s1.trans s2)⟩
theorem MW:bp ["self","here","item"] ["self"] (aV EK):=bI (by decide+kernel)
theorem a2a{C:Addr}(F:MA K C "leads_to" "Runner.leads_to" EK)(TC:fY K C)(yG:aD P w K mg base "place_behind" 2 (xF K)):cL P w K mg base C "leads_to" 3 (fj K C fun _ S H Q=>∀v H',RD K H' v (fo (cP S))->aE H H'->Q v H'):=by
 refine F.has MW (fun vs H Q E h=>?_) (fun _ _ _ _ _ _=>eK fun _=>rfl) (fun f aL A outer s H vs Q E hr h=>?_)
 · obtain⟨a,q,M,D,S,rfl,_⟩:=h
   rfl
 · obtain⟨a,q,M,D,S,rfl,R,ok,aO,k⟩:=h
   obtain⟨dx,mv,bv,cE,tv,e,r1,r2,r3,r4⟩:=R.ob;obtain⟨ys,eq,rq⟩:=R.qu;have nd:=MW.nd;have ll:=ok.row.len;have ly:=rq.length;have lr:=aO.len;refine⟨_,(aB (pS 1 nd (cW TC.cl TC.vL (pv 0))) (aB (lS gY rfl (xW K rfl (cW TC.cl TC.jR (pv 0))) (bu 2 nd) (aG (pS 1 nd (pf yG hr (O (pv 1) (O (pv 2) aw)))))) (aG (aU (pv 1))))),_,rfl,a,dx,_,_,rfl,e,rfl,_,rfl,a,dx,_,_,rfl,e,rfl,q,rfl,⟨_,aF.of eq⟩,?_⟩;refine IM (K:=K) (a:=q) (xs:=ys) (fun i Z H1=>aE H H1/\∃hv v2,RD K H1 hv (fo ((S.os.take i).foldl gU S.pl))/\Z=[some (.ref a),some hv,v2]) ⟨aE.refl _,bv,none,r2,rfl⟩ (fun i Z H1 _ h=>aF.of (h.1 _ _ eq)) ?_ ?_
   · rintro i x Z H1 hx ⟨s1,hv,v2,rh,rfl⟩
     obtain⟨d,ed,rd⟩:=rq.get' i hx;obtain⟨o,eo,it⟩:=ok.row.get ed;have lp:((S.os.take i).foldl gU S.pl).length=M.rs.length:=yU _ _ ok.pl fun o ho=>ok.sS o (D5 ho);refine⟨_,rfl,_,rfl,hv,x,_,d,o,rfl,rh,RD.mono s1 _ rd,it,fun ns sp e'=>by rw[lp];exact ok.sS o (gG eo) ns sp e',by lia,fun v H2 rv s2=>?_⟩;refine⟨s1.trans s2,v,_,?_,rfl⟩;rw[pP,eo,List.foldl_append];exact rv
   · rintro Z H1 ⟨s1,hv,v2,rh,rfl⟩
     rw[ly,ll,xh]at rh;exact⟨_,rfl,k hv H1 rh s1⟩
structure Mv(a q:Addr)(H:Hp)(q':Addr)(H':Hp):Prop where
 but:aZ [a,q] H H'
 nq:q'=q\/H q'=none
theorem Z4:bp ["self","machine","place"] ["self","machine","place"] (aV EL):=bI (by decide+kernel)
def mK(pl:List Int):bj:=⟨pl,0,[],[],0,100,"up","",none⟩
inductive UU(K:aa)(C:Addr)(vs:List V)(H:Hp)(Q:VK):Prop |mk (a:_)(dx:_)(mv:_)(sO:_)(M:_)(pl:_)(h0:vs=[.ref a,mv,sO])(h1:H a=some (.ins C dx []))(h2:RD K H mv (bM.D M))(h3:RD K H sO (fo pl))(h4:∀q H',cF K C H' a q M (mK pl)->H q=none->aZ [a] H H'->Q .bo H'):UU K C vs H Q
def M6(K:aa)(C:Addr):Sp:=fun vs H Q _=>UU K C vs H Q
theorem a2b{C:Addr}(F:CA K mg C "Runner" "Runner.__init__" EL)(TC:fY K C)(gN:GT K mg "NOUGHT" [.int 0,.int 1])(a7d:GV mg "FIRST_RATE" (.int 100)):CK P w K mg base C "Runner" 1 (M6 K C):=by
 obtain⟨aN,lB,mL⟩:=gN;refine F.has Z4 (fun vs H Q E h=>?_) (fun _ _ _ _ _ _=>nR fun _ _ _=>rfl) (fun f aL A outer s H vs Q E hr h=>?_)
 · obtain⟨a,dx,mv,sO,M,pl,rfl,_⟩:=h
   rfl
 · obtain⟨a,dx,mv,sO,M,pl,rfl,e,rm,rp,k⟩:=h
   refine⟨_,(aB (iV TC.cl TC.qy (pv 0) (pv 1)) (aB (iV TC.cl TC.vL (pv 0) (pv 2)) (aB (iV TC.cl TC.oO (pv 0) az) (aB (iV TC.cl TC.jR (pv 0) (dv aw)) (aB (iV TC.cl TC.qx (pv 0) (eQ (x:="NOUGHT") rfl lB)) (aB (iV TC.cl TC.AY (pv 0) (eQ (x:="FIRST_RATE") rfl a7d)) (aB (iV TC.cl TC.GP (pv 0) aW) (aB (iV TC.cl TC.GQ (pv 0) aW) (aG (iV TC.cl TC.vK (pv 0) jo)))))))))),?_⟩;refine⟨_,rfl,_,rfl,a,dx,_,rfl,e,by decide,?_⟩;refine⟨_,rfl,_,rfl,a,dx,_,rfl,ba,by show 1<1000;decide,?_⟩;refine⟨_,rfl,a,dx,_,rfl,ba,by show 2<1000;decide,?_⟩;refine⟨bU rfl,fun q H1 n1=>?_⟩;have aq:a≠q:=fun z=>by have:=n1.no;rw[<-z,ba]at this;cases this
   have e1:=n1.same _ _ (ba (a:=a));refine⟨_,rfl,a,dx,_,rfl,e1,by show 3<1000;decide,?_⟩;refine⟨_,rfl,a,dx,_,rfl,ba,by show 4<1000;decide,?_⟩;refine⟨_,rfl,a,dx,_,rfl,ba,by show 5<1000;decide,?_⟩;refine⟨_,rfl,a,dx,_,rfl,ba,by show 6<1000;decide,?_⟩;refine⟨_,rfl,a,dx,_,rfl,ba,by show 7<1000;decide,?_⟩;refine⟨_,rfl,a,dx,_,rfl,ba,by show 8<1000;decide,?_⟩;have key:∀X:Hp,(∀b,b≠a->X b=H1 b)->Q .bo (L2.upd X a (.ins C dx (gc mv sO (.int 0) (.ref q) (.ref aN) (.int 100) (.str "up") (.str "") .bo))):=by
    intro X hX;have bt:aZ [a] H (L2.upd X a (.ins C dx (gc mv sO (.int 0) (.ref q) (.ref aN) (.int 100) (.str "up") (.str "") .bo))):=fun b o eb hb=>by have ha:b≠a:=fun z=>hb (by rw[z];exact .head _);rw[aK ha,hX b ha];exact n1.same _ _ (by rw[aK ha,aK ha,aK ha];exact eb)
    have sv:=bt.v fun x hx o eo=>by rw[cf]at hx;rw[hx,e]at eo;cases eo;trivial
    refine k q _ ⟨⟨dx,mv,sO,.ref aN,.bo,ba,RD.v sv _ (jd _ _ _ _ _) rm,RD.v sv _ (hZ _) rp,sX (mL _),rfl⟩,[],?_,cU⟩ ?_ bt
    ·rw[aK aq.symm,hX q aq.symm];exact n1.at'
    · have:=n1.no
      rw[aK aq.symm,aK aq.symm,aK aq.symm]at this;exact this
   exact key _ (fun b hb=>by rw[aK hb,aK hb,aK hb,aK hb,aK hb])
theorem ZF{M:bM}{pl:List Int}(hp:pl.length=M.rs.length):cm M 64 (mK pl):=⟨.nil,fun i d e=>by simp[mK]at e,by simp[mK],(show(10:Int)<=100 by decide),(show(100:Int)<=200 by decide),.inl rfl,hp,⟨(show(0:Rat)<=0 by decide),(show(0:Rat).den<2^74 by decide+kernel)⟩,(show(0:Rat)<=1600 by decide+kernel),trivial,by decide,by decide⟩
theorem a1z{rs pl:List Int}(h:iM rs pl):Hs rs (fo pl)=true:=by show((pl.map PyData.int).length==rs.length&&(((pl.map PyData.int).zip rs).map fun p=>gE 0 p.2 p.1).all id)=true;rw[cu,h.len,K4,ko,iQ];intro b hb;obtain⟨⟨d,r⟩,hm,rfl⟩:=jJ.mp hb;obtain⟨i,hi⟩:=pQ.mp hm;obtain⟨e1,e2⟩:=(xi (z:=(d,r))).mp hi;rw[cA]at e1;cases e:pl[i]? with |none=>rw[e]at e1;cases e1 |some x=>rw[e]at e1;cases e1;obtain⟨a1,a2⟩:=h.at' i x r e e2;show(decide (0<=x)&&decide (x<=r))=true;rw[cH a1,cH a2];rfl
def nA(S:bj)(d:ai)(o:Itm):bj:={S with ds:=S.ds++[d],os:=S.os++[o]}
theorem cm.RN{M:bM}{D:Nat}{S:bj}{d:ai}{o:Itm}(h:cm M D S)(it:nX M.rs.length d o)(hl:S.ds.length<20):cm M D (nA S d o):=by
 have ll:=h.row.len;refine⟨h.row.snoc it.it it.ln,RowW.snoc h.rw ll it.ot,by show(S.ds++[d]).length<=20;rw[fD];show _+1<=20;lia,h.cZ,h.du,?_,h.pl,h.pd,h.pm,h.aR,h.D1,h.D2⟩;rcases h.dn with e|⟨ns,sp,e,e2⟩
 ·exact .inl e
 · refine .inr ⟨ns,sp,?_,e2⟩
   show(S.os++[o])[0]? =_;rw[xj (dM.mp e).1];exact e
theorem MY:bp ["self","item"] ["self","item"] (aV ES):=bI (by decide+kernel)
def iZ(S:bj):bj:=match S.os with |o::os=>{S with pl:=gU S.pl o,ds:=S.ds.tail,os:=os,dn:=0} |[]=>S
theorem gO.tail{n:Nat}{d:ai}{ds:List ai}{o:Itm}{os:List Itm}(h:gO n (d::ds) (o::os)):gO n ds os:=⟨by have:=h.len;simpa using this,fun i d' o' e1 e2=>h.it (i+1) d' o' (by simpa using e1) (by simpa using e2),fun i ns sp e=>h.ok (i+1) ns sp (by simpa using e)⟩
theorem RowW.tail{d:ai}{ds:List ai}{o:Itm}{os:List Itm}(h:RowW (d::ds) (o::os)):RowW ds os:=fun i d' e1 e2=>h (i+1) d' (by simpa using e1) (by simpa using e2)
structure kE(M:bM)(D:Nat)(S:bj):Prop where
 row:gO M.rs.length S.ds S.os
 rw:RowW S.ds S.os
 len:S.ds.length<=20
 cZ:10<=S.ay
 du:S.ay<=200
 pl:S.pl.length=M.rs.length
 pd:Dd (D+10) S.pc
 pm:S.pc<=1600
 aR:qZ D S.pc S.aR
 D1:64<=D
 D2:D<=1500
theorem cm.raw{M:bM}{D:Nat}{S:bj}(h:cm M D S):kE M D S:=⟨h.row,h.rw,h.len,h.cZ,h.du,h.pl,h.pd,h.pm,h.aR,h.D1,h.D2⟩
theorem kE.ok{M:bM}{D:Nat}{S:bj}(h:kE M D S)(hd:S.dn=0\/∃ns sp,S.os[0]? =some (some (ns,sp))/\S.dn<aH ns):cm M D S:=⟨h.row,h.rw,h.len,h.cZ,h.du,hd,h.pl,h.pd,h.pm,h.aR,h.D1,h.D2⟩
theorem kE.end{M:bM}{D:Nat}{S:bj}(h:kE M D S)(hn:S.os≠[]):cm M D (iZ S):=by obtain⟨pl,dn,ds,os,pc,ay,side,mark,aR⟩:=S;cases os with |nil=>exact(hn rfl).elim |cons o os=>have ll:=h.row.len;cases ds with |nil=>simp at ll |cons d ds=>
     refine⟨h.row.tail,h.rw.tail,?_,h.cZ,h.du,.inl rfl,?_,h.pd,h.pm,h.aR,h.D1,h.D2⟩
     · have:=h.len
       simp only[kn]at this;show ds.length<=20
       lia
     ·exact wO h.pl fun ns sp e=>(h.row.ok 0 ns sp (by rw[<-e];rfl)).1.len
theorem aai(xs:List V):my xs (some 1) none=xs.drop 1:=Jr xs
theorem N1:bp ["self"] ["self"] (aV EV):=bI (by decide+kernel)
inductive V1(K:aa)(C:Addr)(vs:List V)(H:Hp)(Q:VK):Prop |mk (a:_)(q:_)(M:_)(D:_)(S:_)(h0:vs=[.ref a])(h1:cF K C H a q M S)(h2:kE M D S)(h3:M.Ok)(h4:S.os≠[])(h5:∀q' H',cF K C H' a q' M (iZ S)->H q'=none->aZ [a] H H'->Q .bo H'):V1 K C vs H Q
def DP(K:aa)(C:Addr):Sp:=fun vs H Q _=>V1 K C vs H Q
theorem a2k{C:Addr}(F:MA K C "end_first" "Runner.end_first" EV)(TC:fY K C)(yG:aD P w K mg base "place_behind" 2 (xF K)):cL P w K mg base C "end_first" 3 (DP K C):=by
 refine F.has N1 (fun vs H Q E h=>?_) (fun _ _ _ _ _ _=>eK fun _=>rfl) (fun f aL A outer s H vs Q E hr h=>?_)
 · obtain⟨a,q,M,D,S,rfl,_⟩:=h
   rfl
 · obtain⟨a,q,M,D,S,rfl,R,ok,aO,hn,k⟩:=h
   obtain⟨dx,mv,bv,cE,tv,e,r1,r2,r3,r4⟩:=R.ob;obtain⟨ys,eq,rq⟩:=R.qu;have aq:=R.ne;have nd:=N1.nd;have lr:=aO.len;have ll:=ok.row.len;refine⟨_,(aB (iV TC.cl TC.vL (pv 0) (pf yG hr (O (cW TC.cl TC.vL (pv 0)) (O (px K (cW TC.cl TC.jR (pv 0)) az) aw)))) (aB (iV TC.cl TC.jR (pv 0) (Gr (DY K rfl) (cW TC.cl TC.jR (pv 0)) (Gm az) Gn)) (aG (iV TC.cl TC.oO (pv 0) az)))),?_⟩;obtain⟨pl,dn,ds,os,pc,ay,side,mark,aR⟩:=S;cases os with |nil=>exact(hn rfl).elim |cons o os=>cases ds with |nil=>simp at ll |cons d ds=>
       obtain⟨y,yr,rfl,ry,rr⟩:=rq.cons_inv;have it:itR d o:=ok.row.it 0 d o rfl rfl;have lp:pl.length=M.rs.length:=ok.pl;refine⟨_,rfl,a,dx,_,_,rfl,e,rfl,?_⟩;refine⟨_,rfl,a,dx,_,_,rfl,e,rfl,.inl ⟨q,_,0,y,rfl,rfl,aF.of eq,dc (gA 0) rfl,?_⟩⟩;refine⟨bv,y,pl,d,o,rfl,r2,ry,it,fun ns sp e'=>by rw[lp];exact(ok.row.ok 0 ns sp (by rw[<-e'];rfl)).1.len,by lia,fun u H1 ru s1=>?_⟩;have e1:=s1 _ _ e;refine⟨_,rfl,a,dx,_,rfl,e1,by show 9<1000;decide,?_⟩;have eq1:(L2.upd H1 a (.ins C dx (gc mv u (.int dn) (.ref q) cE (.int ay) (.str side) (.str mark) tv))) q=some (.lst (y::yr)):=by rw[aK aq.symm];exact s1 _ _ eq
       refine⟨_,rfl,a,dx,_,_,rfl,ba,rfl,_,rfl,q,_,rfl,.inl ⟨aF.of eq1,fun q' H2 n2=>?_⟩⟩;have e2:=n2.same _ _ (ba (a:=a));refine⟨_,rfl,a,dx,_,rfl,e2,by show 9<1000;decide,?_⟩;refine⟨_,rfl,a,dx,_,rfl,ba,by show 9<1000;decide,?_⟩;have JJ:a≠q':=fun z=>by have:=n2.no;rw[<-z,ba]at this;cases this
       have key:∀X:Hp,(∀b,b≠a->X b=H2 b)->Q .bo (L2.upd X a (.ins C dx (gc mv u (.int 0) (.ref q') cE (.int ay) (.str side) (.str mark) tv))):=by
        intro X hX;have bt:aZ [a] H (L2.upd X a (.ins C dx (gc mv u (.int 0) (.ref q') cE (.int ay) (.str side) (.str mark) tv))):=fun b o' eb hb=>by have ha:b≠a:=fun z=>hb (by rw[z];exact .head _);rw[aK ha,hX b ha];exact n2.same _ _ (by rw[aK ha];exact s1 _ _ eb)
        have sv:=bt.v fun x hx o' eo=>by rw[cf]at hx;rw[hx,e]at eo;cases eo;trivial
        have Ac:bS H1 (L2.upd X a (.ins C dx (gc mv u (.int 0) (.ref q') cE (.int ay) (.str side) (.str mark) tv))):=fun b o' nb eb=>by
         have ha:b≠a:=fun z=>by rw[z,e1]at eb;cases eb;exact nb trivial
         rw[aK ha,hX b ha];exact n2.same _ _ (by rw[aK ha];exact eb)
        have jU:=n2.at';rw[aai]at jU;refine k q' _ ⟨⟨dx,mv,u,cE,tv,ba,RD.v sv _ (jd _ _ _ _ _) r1,RD.v Ac _ (hZ _) ru,r3.v sv,r4.v sv⟩,yr,?_,?_⟩ ?_ bt
        ·rw[aK JJ.symm,hX q' JJ.symm];exact jU
        ·exact aJ.v sv _ ok.row.tail.no rr
        ·cases e':H q' with |none=>rfl |some o'=>have h1:=s1 _ _ e';have h2:=n2.no;rw[aK JJ.symm,h1]at h2;cases h2
       exact key _ (fun b hb=>by rw[aK hb])
theorem mn4{x y z u q:Rat}(h:q=x\/q=y\/q=z\/q=u)(h1:q<=x)(h2:q<=y)(h3:q<=z)(h4:q<=u):mn (mn (mn x y) z) u=q:=by
 refine CV ?_ (kX (kX (kX h1 h2) h3) h4);rcases h with h|h|h|h
 ·rw[h];exact eg (gC _ _) (eg (gC _ _) (gC _ _))
 ·rw[h];exact eg (gC _ _) (eg (gC _ _) (kB _ _))
 ·rw[h];exact eg (gC _ _) (kB _ _)
 ·rw[h];exact kB _ _
theorem Bk{H:Hp}{Q:VK}{l:Addr}{u1 u2 u3:V}{x y z:Rat}(dl:H l=some (.lst [u1,u2,u3]))(R1:bh K H u1 x)(R2:bh K H u2 y)(R3:bh K H u3 z)(b1:Bd 2000 x)(b2:Bd 2000 y)(b3:Bd 2000 z)(k:∀v,bh K H v (mn (mn x y) z)->Q v H):jn K [.ref l] H Q E0:=by
 refine⟨l,[u1,u2,u3],[x,y,z],rfl,aF.of dl,⟨R1,b1,R2,b2,R3,b3,trivial⟩,by simp,fun c v q e1 e2 hq=>k v ?_⟩;have e:mn (mn x y) z=q:=by
  refine mn3 ?_ (hq _ (by simp)) (hq _ (by simp)) (hq _ (by simp))
  match c,e2 with |0,e2=>cases e2;exact .inl rfl |1,e2=>cases e2;exact .inr (.inl rfl) |2,e2=>cases e2;exact .inr (.inr rfl)
 rw[e]
 match c,e1,e2 with |0,e1,e2=>cases e1;cases e2;exact R1 |1,e1,e2=>cases e1;cases e2;exact R2 |2,e1,e2=>cases e1;cases e2;exact R3
theorem Bj{H:Hp}{Q:VK}{l:Addr}{u1 u2 u3 u4:V}{x y z t:Rat}(dl:H l=some (.lst [u1,u2,u3,u4]))(R1:bh K H u1 x)(R2:bh K H u2 y)(R3:bh K H u3 z)(R4:bh K H u4 t)(b1:Bd 2000 x)(b2:Bd 2000 y)(b3:Bd 2000 z)(b4:Bd 2000 t)(k:∀v,bh K H v (mn (mn (mn x y) z) t)->Q v H):jn K [.ref l] H Q E0:=by
 refine⟨l,[u1,u2,u3,u4],[x,y,z,t],rfl,aF.of dl,⟨R1,b1,R2,b2,R3,b3,R4,b4,trivial⟩,by simp,fun c v q e1 e2 hq=>k v ?_⟩;have e:mn (mn (mn x y) z) t=q:=by
  refine mn4 ?_ (hq _ (by simp)) (hq _ (by simp)) (hq _ (by simp)) (hq _ (by simp))
  match c,e2 with |0,e2=>cases e2;exact .inl rfl |1,e2=>cases e2;exact .inr (.inl rfl) |2,e2=>cases e2;exact .inr (.inr (.inl rfl)) |3,e2=>cases e2;exact .inr (.inr (.inr rfl))
 rw[e]
 match c,e1,e2 with |0,e1,e2=>cases e1;cases e2;exact R1 |1,e1,e2=>cases e1;cases e2;exact R2 |2,e1,e2=>cases e1;cases e2;exact R3 |3,e1,e2=>cases e1;cases e2;exact R4
theorem qS{D:Nat}{q:Rat}{z:Int}(h:Dd D q)(hl:q<=1600)(hz:0<=z)(Qs:z<2^24)(hD:D<=1700):Bd 2000 (q+(z:Rat)):=by have b:Bd (D+11) q:=h.bd (eg hl (by decide+kernel));exact(Cw b (by lia)).mono (by lia)
theorem MV:bp ["self","top","reach","left","rise","fall","middles","ends","square","steps","gone","still"] ["self","top","reach","left"] (aV EI):=bI (by decide+kernel)
def GF(M:bM)(S:bj)(top R:Rat)(left:Int):bj:={S with pc:=oM M.r M.f S.pc top R left S.aR,aR:=AU S.aR}
inductive UT(K:aa)(C:Addr)(vs:List V)(H:Hp)(Q:VK):Prop |mk (a:_)(q:_)(M:_)(D:_)(S:_)(tv:_)(Rv:_)(top:_)(R:_)(left:_)(h0:vs=[.ref a,tv,Rv,.int left])(h1:cF K C H a q M S)(h2:cm M D S)(h3:M.Ok)(h4:bh K H tv top)(h5:Dd 14 top)(h6:top<=1600)(h7:bh K H Rv R)(h8:Dd 64 R)(h9:R<=1600)(yQ:1<=left)(Rk:left<=100)(Rj:¬Halt S.pc S.aR)(Ri:∀v H',bh K H' v (lT M.r M.f S.pc top R left S.aR)->cF K C H' a q M (GF M S top R left)->aZ [a] H H'->Q v H'):UT K C vs H Q
def M5(K:aa)(C:Addr):Sp:=fun vs H Q _=>UT K C vs H Q
theorem a28{C:Addr}(F:MA K C "next_square" "Runner.next_square" EI)(TC:fY K C)(vZ:aD P w K mg base "plus_whole" 4 (Ao K))(Qv:aD P w K mg base "times" 3 (mM (·*·) K))(qG:aD P w K mg base "fraction" 3 (uU K))(wg:aD P w K mg base "least" 2 (jn K))(u6:cL P w K mg base C "is_held" 1 (fj K C fun _ S H Q=>Q (.bl S.aR.isSome) H)):cL P w K mg base C "next_square" 5 (M5 K C):=by
 refine F.has MV (fun vs H Q E h=>?_) (fun _ _ _ _ _ _=>Cv fun _ _ _ _=>rfl) (fun f aL A outer s H vs Q E hr h=>?_)
 · obtain⟨a,q,M,D,S,tv,Rv,top,R,left,rfl,_⟩:=h
   rfl
 · obtain⟨a,q,M,D,S,tv,Rv,top,R,left,rfl,R0,ok,aO,rt,td,tl,rR,Rd,Rl,l1,l2,nh,k⟩:=h
   obtain⟨dx,mv,bv,cE,sv,e,r1,r2,r3,r4⟩:=R0.ob;obtain⟨ys,eq,rq⟩:=R0.qu;have aq:=R0.ne;have nd:=MV.nd;have AI:=aO.r1;have qO:=aO.f1;have D1:=ok.D1;have D2:=ok.D2;have lE:(2:Int)^24=16777216:=by decide
   obtain⟨ma,mb,rfl,gM,jB⟩:=kW r1;refine⟨_,(aB (oG (i:=4) (j:=5) rfl nd rfl rfl (by decide) rfl rfl (O (px K (cW TC.cl TC.qy (pv 0)) az) (O (px K (cW TC.cl TC.qy (pv 0)) az) aw)) rfl) (aB (pS 6 nd (dv (O (pf vZ hr (O (cW TC.cl TC.qx (pv 0)) (O (pv 4) aw))) (O (pv 1) (O (pf vZ hr (O (pv 2) (O (aI bE (pv 5) (aI gh (aI bE az (pv 3)) az)) aw))) aw))))) (aB (pS 7 nd (dv (O (pf vZ hr (O (cW TC.cl TC.qx (pv 0)) (O (aI bE az (pv 4)) aw))) (O (pv 1) (O (pf vZ hr (O (pv 2) (O (aI bE (aI bE az (pv 5)) (aI gh (pv 3) az)) aw))) aw))))) (aB (gJ (bJ (cM (gK u6 TC.cl (hr.mono (by decide)) (pv 0))) (aB (fU (cW TC.cl TC.vK (pv 0)) (dR K rfl (n:=3) rfl (bR (bu 8 nd) (bR (bu 9 nd) (bR (bu 10 nd) dQ))))) (aB (pS 11 nd (aI gh (aI gh (pv 9) (pv 10)) az)) (aB (gP (jq K rfl (pv 6) (O (pf Qv hr (O (pv 8) (O (pf qG hr (O (aI cS (aI bE az (pv 11)) az) (O (aI bE az (pv 9)) aw))) aw))) aw))) (aB (gP (jq K rfl (pv 7) (O (pf Qv hr (O (pv 8) (O (pf qG hr (O (pv 11) (O (pv 9) aw))) aw))) aw))) (aG (iV TC.cl TC.vK (pv 0) (dS (O (pv 8) (O (pv 9) (O (aI cS (pv 10) az) aw)))))))))) bO)) (aB (iV TC.cl TC.qx (pv 0) (pf wg hr (O (pv 7) aw))) (aG (aU (pf wg hr (O (pv 6) aw))))))))),?_⟩;refine⟨_,rfl,a,dx,_,_,rfl,e,rfl,.inr ⟨ma,_,1,.int M.r,rfl,rfl,gM,rfl,?_⟩⟩;refine⟨_,rfl,a,dx,_,_,rfl,e,rfl,.inr ⟨ma,_,2,.int M.f,rfl,rfl,gM,rfl,_,_,rfl,?_⟩⟩;have fl1:(M.f*(2*left-1)).natAbs<=50*200:=by rw[fN];exact mF (by lia) (by lia)
   have IS:0<=M.f*(2*left-1):=jK (by lia) (by lia);have fl2:(2*M.f*(left-1)).natAbs<=100*100:=by rw[fN];exact mF (by lia) (by lia)
   have IQ:0<=2*M.f*(left-1):=jK (by lia) (by lia);have xY:Bd 2000 S.pc:=(ok.pd.bd (eg ok.pm (by decide+kernel))).mono (by lia);have RB:Bd 2000 R:=(Rd.bd (eg Rl (by decide+kernel))).mono (by decide);have tB:Bd 2000 top:=(td.bd (eg tl (by decide+kernel))).mono (by decide);have B1:Bd 2000 (S.pc+(M.r:Rat)):=qS ok.pd ok.pm (by lia) (by lia) (by lia);have B2:Bd 2000 (R+((M.f*(2*left-1):Int):Rat)):=qS Rd Rl IS (by lia) (by lia);have B3:Bd 2000 (S.pc+((2*M.r:Int):Rat)):=qS ok.pd ok.pm (by lia) (by lia) (by lia);have B4:Bd 2000 (R+((2*M.f*(left-1):Int):Rat)):=qS Rd Rl IQ (by lia) (by lia);refine⟨_,rfl,a,dx,_,_,rfl,e,rfl,_,rfl,cE,_,_,rfl,r3,xY,by lia,fun u1 H1 kO s1=>?_⟩;refine⟨_,rfl,_,rfl,_,rfl,_,rfl,_,_,rfl,rfl,.of_left (cg (by decide) (by decide)),_,_,rfl,rfl,_,_,rfl,rfl,.of_left (cg (by lia) (by lia)),Rv,_,_,rfl,rR.go s1,RB,by lia,fun u2 H2 sL s2=>?_⟩;refine⟨bU rfl,fun lm H3 n3=>?_⟩;have df:=s1.trans (s2.trans n3.same);refine⟨_,rfl,a,dx,_,_,rfl,df _ _ e,rfl,_,rfl,_,_,rfl,rfl,.of_left (cg (by decide) (by decide)),cE,_,_,rfl,r3.go df,xY,by lia,fun u3 H4 FW s4=>?_⟩;have gb:=df.trans s4;refine⟨_,rfl,_,rfl,_,rfl,_,_,rfl,rfl,.of_left (cg (by decide) (by decide)),_,rfl,_,_,rfl,rfl,_,_,rfl,rfl,.of_left (cg (by lia) (by lia)),Rv,_,_,rfl,rR.go gb,RB,by lia,fun u4 H5 FV s5=>?_⟩;refine⟨bU rfl,fun le H6 n6=>?_⟩;have kx:=gb.trans (s5.trans n6.same);have pZ:=s4.trans (s5.trans n6.same);have e6:=kx _ _ e;have R6:=R0.same ok.row.no kx;have U1:=kO.go (s2.trans (n3.same.trans pZ));have U2:=sL.go (n3.same.trans pZ);have U3:=FW.go (s5.trans n6.same);have U4:=FV.go n6.same;have T6:=rt.go kx;have dm:=pZ _ _ n3.at';have de:=n6.at';have JK:a≠lm:=fun z=>by have:=n3.no;rw[<-z,(s1.trans s2) _ _ e]at this;cases this
   have TQ:a≠le:=fun z=>by have:=n6.no;rw[<-z,(gb.trans s5) _ _ e]at this;cases this
   have yt:lm≠le:=fun z=>by have:=n6.no;rw[<-z,(s4.trans s5) _ _ n3.at']at this;cases this
   have AW:H lm=none:=by cases e':H lm with |none=>rfl |some o=>have:=(s1.trans s2) _ _ e';rw[n3.no]at this;cases this
   have yf:H le=none:=by cases e':H le with |none=>rfl |some o=>have:=(gb.trans s5) _ _ e';rw[n6.no]at this;cases this
   refine⟨fun Z H7=>∃pV w8 w9 kK oq um ue,Z=[some (.ref a),some tv,some Rv,some (.int left),some (.int M.r),some (.int M.f),some (.ref lm),some (.ref le),w8,w9,kK,oq]/\aZ [a,lm,le] H6 H7/\H7 a=some (.ins C dx (gc (.ref ma) bv (.int S.dn) (.ref q) cE (.int S.ay) (.str S.side) (.str S.mark) pV))/\wQ K H7 pV (AU S.aR)/\H7 lm=some (.lst um)/\H7 le=some (.lst ue)/\(∀H8 Q',bS H7 H8->H8 lm=some (.lst um)->(∀v,bh K H8 v (lT M.r M.f S.pc top R left S.aR)->Q' v H8)->jn K [.ref lm] H8 Q' E0)/\(∀H8 Q',bS H7 H8->H8 le=some (.lst ue)->(∀v,bh K H8 v (oM M.r M.f S.pc top R left S.aR)->Q' v H8)->jn K [.ref le] H8 Q' E0),?_,?_⟩
   · refine⟨_,rfl,a,dx,_,rfl,e6,rfl,a,q,M,D,S,rfl,R6,ok,aO,_,rfl,?_⟩
     cases hs:S.aR with |none=>rw[hs]at r4;refine bF ⟨sv,_,_,_,_,_,_,rfl,aZ.refl _ _,e6,r4,dm,de,fun H8 Q' sV d8 kq=>Bk d8 (U1.v sV) (T6.v sV) (U2.v sV) B1 tB B2 kq,fun H8 Q' sV d8 kq=>Bk d8 (U3.v sV) (T6.v sV) (U4.v sV) B3 tB B4 kq⟩ |some z=>
       obtain⟨sq,st,gn⟩:=z;rw[hs]at r4;have sk:=ok.aR;rw[hs]at sk nh;obtain⟨g1,g2,g3⟩:=vz sk ok.pd.nn nh;obtain⟨gn0,gn1,Ai,si,sf,_,_⟩:=sk;obtain⟨ta,su,rfl,vW,hsu⟩:=r4;refine bV ?_;have a5w:=vW.go kx;have HK:=hsu.go kx;have Aj:Bd 2000 sq:=(si.bd sf).mono (by lia);refine⟨_,rfl,a,dx,_,_,rfl,e6,rfl,ta,_,rfl,a5w,rfl,_,_,rfl,_,_,rfl,_,_,rfl,rfl,?_⟩;refine⟨_,rfl,_,rfl,_,_,rfl,rfl,_,_,rfl,rfl,?_⟩;have lE:sizeLine=16777216:=by decide
       refine⟨_,rfl,.inl ⟨rfl,_,aF.of dm⟩,_,rfl,_,rfl,_,_,rfl,rfl,.of_left (cg (by decide) (by decide)),_,_,rfl,rfl,_,rfl,_,_,rfl,rfl,.of_left (cg (by decide) (by decide)),_,_,rfl,by lia,gZ (n:=64) (by lia) (by decide),fun fv H7 rf s7=>?_⟩;have fB:Bd 2000 (Rat.divInt (2*(st-gn-1)+1) (2*st)):=(kz (n:=12) (by lia) (by lia) (by lia)).mono (by decide);have fB2:Bd 2000 (Rat.divInt (st-gn-1) st):=(kz (n:=12) (by lia) (by lia) (by lia)).mono (by decide);have pB:Bd 2000 (sq*Rat.divInt (2*(st-gn-1)+1) (2*st)):=((si.bd sf).mul (kz (n:=12) (by lia) (by lia) (by lia))).mono (by lia);have Gu:Bd 2000 (sq*Rat.divInt (st-gn-1) st):=((si.bd sf).mul (kz (n:=12) (by lia) (by lia) (by lia))).mono (by lia);refine⟨su,fv,sq,_,rfl,HK.go s7,rf,Aj,fB,fun x1 H8 xQ s8=>?_⟩;have vd:=s7.trans s8;have Sq:=vd _ _ dm;refine⟨lm,_,_,rfl,rfl,Sq,by show 3<sizeLine;lia,?_⟩;have v8:bS H8 (L2.upd H8 lm (.lst ([u1,tv,u2]++[x1]))):=.upd Sq trivial;have SE:(L2.upd H8 lm (.lst ([u1,tv,u2]++[x1]))) le=some (.lst [u3,tv,u4]):=by rw[aK yt.symm];exact vd _ _ de
       refine⟨_,rfl,.inl ⟨rfl,_,aF.of SE⟩,_,rfl,_,rfl,_,rfl,_,_,rfl,by lia,gZ (n:=64) (by lia) (by decide),fun gv H9 rg s9=>?_⟩;refine⟨su,gv,sq,_,rfl,((HK.go vd).v v8).go s9,rg,Aj,fB2,fun x2 jF xP mR=>?_⟩;have vc:=s9.trans mR;have SF:=vc _ _ SE;refine⟨le,_,_,rfl,rfl,SF,by show 3<sizeLine;lia,?_⟩;have v10:bS jF (L2.upd jF le (.lst ([u3,tv,u4]++[x2]))):=.upd SF trivial;refine⟨_,rfl,_,rfl,_,rfl,_,_,rfl,rfl,bU rfl,fun tn iO jw=>?_⟩;have X9:bS H6 jF:=(vd.v.trans v8).trans vc.v;have X8:bS H6 iO:=(X9.trans v10).trans jw.same.v;have e8:(L2.upd H8 lm (.lst ([u1,tv,u2]++[x1]))) a=some (.ins C dx (gc (.ref ma) bv (.int S.dn) (.ref q) cE (.int S.ay) (.str S.side) (.str S.mark) (.ref ta))):=by rw[aK JK];exact vd _ _ e6
       have Sl:iO a=some (.ins C dx (gc (.ref ma) bv (.int S.dn) (.ref q) cE (.int S.ay) (.str S.side) (.str S.mark) (.ref ta))):=jw.same _ _ (by rw[aK TQ];exact vc _ _ e8);refine⟨_,rfl,a,dx,_,rfl,Sl,by show 9<1000;decide,?_⟩;have pT:bS iO (L2.upd iO a (.ins C dx (gc (.ref ma) bv (.int S.dn) (.ref q) cE (.int S.ay) (.str S.side) (.str S.mark) (.ref tn)))):=.upd Sl trivial;have rV:=X8.trans pT;have X7:=(((v8.trans vc.v).trans v10).trans jw.same.v).trans pT;have Xc:=(v10.trans jw.same.v).trans pT;refine⟨.ref tn,_,_,_,_,[u1,tv,u2,x1],[u3,tv,u4,x2],rfl,fun b o' eb hb=>?_,ba,⟨tn,su,rfl,aP.v pT (aP.of jw.at'),HK.v rV⟩,?_,?_,fun H' Q' sV d' kq=>?_,fun H' Q' sV d' kq=>?_⟩
       · have ha:b≠a:=fun z=>hb (by rw[z];simp)
         have Ie:b≠lm:=fun z=>hb (by rw[z];simp);have hle:b≠le:=fun z=>hb (by rw[z];simp);rw[aK ha];exact jw.same _ _ (by rw[aK hle];exact vc _ _ (by rw[aK Ie];exact vd _ _ eb))
       · rw[aK JK.symm]
         exact jw.same _ _ (by rw[aK yt];exact vc _ _ ba)
       · rw[aK TQ.symm]
         exact jw.same _ _ ba
       ·exact Bj d' ((U1.v rV).v sV) ((T6.v rV).v sV) ((U2.v rV).v sV) ((xQ.v X7).v sV) B1 tB B2 pB kq
       ·exact Bj d' ((U3.v rV).v sV) ((T6.v rV).v sV) ((U4.v rV).v sV) ((xP.v Xc).v sV) B3 tB B4 Gu kq
   · rintro Z H7 ⟨pV,w8,w9,kK,oq,um,ue,rfl,bt,e7,oz,dm7,de7,km,ke⟩
     refine⟨_,rfl,?_⟩;dsimp only[mJ];refine ke H7 _ .refl de7 fun pe AE=>?_;refine⟨_,rfl,a,dx,_,rfl,e7,by show 9<1000;decide,?_⟩;have v8:bS H7 (L2.upd H7 a (.ins C dx (gc (.ref ma) bv (.int S.dn) (.ref q) pe (.int S.ay) (.str S.side) (.str S.mark) pV))):=.upd e7 trivial;refine⟨_,rfl,?_⟩;dsimp only[mJ];refine km _ _ v8 (by rw[aK JK.symm];exact dm7) fun v rv=>?_;have bH:aZ [a] H (L2.upd H7 a (.ins C dx (gc (.ref ma) bv (.int S.dn) (.ref q) pe (.int S.ay) (.str S.side) (.str S.mark) pV))):=fun b o' eb hb=>by
      have ha:b≠a:=fun z=>hb (by rw[z];simp);rw[aK ha];refine bt b o' (kx _ _ eb) fun hm=>?_;simp only[bN,cI,dB]at hm;rcases hm with h|h|h
      ·exact ha h
      ·rw[h,AW]at eb;cases eb
      ·rw[h,yf]at eb;cases eb
     have vH:bS H (L2.upd H7 a (.ins C dx (gc (.ref ma) bv (.int S.dn) (.ref q) pe (.int S.ay) (.str S.side) (.str S.mark) pV))):=bH.v fun x hx o' eo=>by rw[cf]at hx;rw[hx,e]at eo;cases eo;trivial
     refine k v _ rv ⟨⟨dx,.ref ma,bv,pe,pV,ba,RD.v vH _ (jd _ _ _ _ _) r1,RD.v vH _ (hZ _) r2,AE.v v8,oz.v v8⟩,ys,bH _ _ eq (by rw[cf];exact aq.symm),aJ.v vH _ ok.row.no rq⟩ bH
end
end Lw
set_option maxHeartbeats 2000000
namespace Lw
open PySem PySem.Spec PyProof.Rows L2 Rt Ln Cn Pn Wk Rn
open Ow (topR cornO mnO betR atO ownF leadF ownL OkI OkIs)
section
variable {w:World}{mg:Str->Option Value}{base:Heap}
noncomputable def fE(M:bM)(S:bj):Rat:=O8 M.f M.j S.ay S.os
noncomputable def Hc(M:bM)(S:bj)(ns:List Int)(sp:Int):Rat:=lT M.r M.f S.pc (topR S.ay sp) (fE M S) ((aH ns:Int)-S.dn) S.aR
noncomputable def mZ(M:bM)(S:bj)(ns:List Int)(sp:Int):ai:=oy M.t (hW ns S.dn) (Hc M S ns sp)
noncomputable def fH(M:bM)(S:bj)(ns:List Int)(sp:Int):bj:={GF M S (topR S.ay sp) (fE M S) ((aH ns:Int)-S.dn)with dn:=S.dn+1}
def fG(ns:List Int)(S:bj):bj:=if S.dn=aH ns then iZ S else S
def ck(d:ai)(S:bj):bj:=match d with | .tuple [.str w,.str s]=>if w="tool" then{S with side:=s}else if w="mark" then{S with mark:=s}else S |_=>S
inductive One(M:bM):bj->ai->bj->Prop |line {S:bj}{ns:List Int}{sp:Int}:S.os[0]? =some (some (ns,sp))->¬Halt S.pc S.aR->One M S (mZ M S ns sp) (fG ns (fH M S ns sp)) |ie {S:bj}{d:ai}:S.os[0]? =some none->S.ds[0]? =some d->¬Halt S.pc S.aR->One M S d (iZ (ck d S))
inductive Run(M:bM):bj->List ai->bj->Prop |nil (S:bj):Run M S [] S |cons {S S1 S2:bj}{e:ai}{es:List ai}:One M S e S1->Run M S1 es S2->Run M S (e::es) S2
theorem Run.trans{M:bM}{S S1 S2:bj}{es fs:List ai}(h:Run M S es S1)(g:Run M S1 fs S2):Run M S (es++fs) S2:=by induction h with |nil=>exact g |cons o _ ih=>exact .cons o (ih g)
theorem Run.snoc{M:bM}{S S1 S2:bj}{es:List ai}{e:ai}(h:Run M S es S1)(g:One M S1 e S2):Run M S (es++[e]) S2:=h.trans (.cons g (.nil _))
theorem E4{M:bM}{D:Nat}{S:bj}(h:kE M D S)(d:ai):kE M D (ck d S)/\(ck d S).os=S.os/\(ck d S).ds=S.ds/\(ck d S).dn=S.dn/\(ck d S).pl=S.pl:=by
 unfold ck;split
 · split
   ·exact⟨⟨h.row,h.rw,h.len,h.cZ,h.du,h.pl,h.pd,h.pm,h.aR,h.D1,h.D2⟩,rfl,rfl,rfl,rfl⟩
   · split
     ·exact⟨⟨h.row,h.rw,h.len,h.cZ,h.du,h.pl,h.pd,h.pm,h.aR,h.D1,h.D2⟩,rfl,rfl,rfl,rfl⟩
     ·exact⟨h,rfl,rfl,rfl,rfl⟩
 ·exact⟨h,rfl,rfl,rfl,rfl⟩
theorem G8{M:bM}{D:Nat}{S:bj}(h:kE M D S)(aO:M.Ok)(hn:S.os≠[]):Dd 64 (fE M S)/\fE M S<=1600:=by
 have h1:1<=S.os.length:=by cases e:S.os with|nil=>exact(hn e).elim|cons _ _=>simp
 refine⟨a8k (by have:=aO.f1;lia) (fun i _=>a1m aO.j1.1 aO.j1.2 h.cZ h.du h.row.vw i) 1 h1,?_⟩;exact eg (a8j h1) (a1l h.cZ h.du h.row.vw 1)
theorem PX{M:bM}{D:Nat}{S:bj}{ns:List Int}{sp:Int}(h:kE M D S)(aO:M.Ok)(eo:S.os[0]? =some (some (ns,sp)))(hd:S.dn<aH ns)(nh:¬Halt S.pc S.aR):kE M D (fH M S ns sp):=by
 have hn:S.os≠[]:=fun e=>by rw[e]at eo;simp at eo
 obtain⟨R1,R2⟩:=G8 h aO hn;obtain⟨eV,s1,s2⟩:=h.row.ok 0 ns sp eo;have D1:=h.D1;have AI:=aO.r1;have qO:=aO.f1;refine⟨h.row,h.rw,h.len,h.cZ,h.du,h.pl,?_,?_,?_,h.D1,h.D2⟩
 ·exact a9F (by lia) (by lia) (by lia) h.pd ((Dw _ _).mono (by lia)) (R1.mono (by lia)) h.aR nh
 ·exact eg a9E (A6 s1 s2 h.cZ h.du)
 ·exact Yk h.aR h.pd.nn nh
theorem One.ok{M:bM}{D:Nat}{S S1:bj}{e:ai}(h:cm M D S)(aO:M.Ok)(o:One M S e S1):cm M D S1:=by cases o with
 |@line ns sp eo nh=>
   have hd:S.dn<aH ns:=by
    rcases h.dn with e|⟨yd,xH,e1,e2⟩
    ·rw[e];exact(h.row.ok 0 ns sp eo).1.lead.1
    ·rw[eo]at e1;cases e1;exact e2
   have raw:=PX h.raw aO eo hd nh;have hn:S.os≠[]:=fun e=>by rw[e]at eo;simp at eo
   unfold fG;split
   ·exact raw.end hn
   ·next dG=>
     refine raw.ok (.inr ⟨ns,sp,eo,?_⟩);have:(fH M S ns sp).dn=S.dn+1:=rfl
     lia |ie eo ed nh=>obtain⟨h1,h2,_⟩:=E4 h.raw e;refine h1.end ?_;rw[h2];intro z;rw[z]at eo;simp at eo
theorem Run.ok{M:bM}{D:Nat}{S S1:bj}{es:List ai}(h:cm M D S)(aO:M.Ok)(r:Run M S es S1):cm M D S1:=by induction r with |nil=>exact h |cons o _ ih=>exact ih (o.ok h aO)
theorem One.no{M:bM}{D:Nat}{S S1:bj}{e:ai}(h:cm M D S)(o:One M S e S1):fu e=true:=by cases o with |line _ _=>exact DF _ _ _ |ie eo ed _=>exact ij.mp h.row.no _ (gG ed)
theorem Run.no{M:bM}{D:Nat}{S S1:bj}{es:List ai}(h:cm M D S)(aO:M.Ok)(r:Run M S es S1):cN es=true:=by induction r with |nil=>rfl |cons o _ ih=>rw[cN,fh];exact⟨o.no h,ih (o.ok h aO)⟩
theorem yA{b:Bool}{A B A' B':Prop}(h1:A->A')(h2:B->B'):(if b=true then A else B)->(if b=true then A' else B'):=by
 cases b
 ·exact h2
 ·exact h1
theorem MU:bp ["self","most","line","lead","rows","top","reach","told","middle"] ["self","most"] (aV EE):=bI (by decide+kernel)
inductive US(K:aa)(C:Addr)(vs:List V)(H:Hp)(Q:VK):Prop |mk (a:_)(q:_)(M:_)(D:_)(S:_)(ns:_)(sp:_)(most:_)(h0:vs=[.ref a,.int most])(h1:cF K C H a q M S)(h2:cm M D S)(h3:M.Ok)(h4:S.os[0]? =some (some (ns,sp)))(h5:¬Halt S.pc S.aR)(h6:1<=most)(h7:most<=1000)(h8:∀l ys es S' q' H',H l=none->H' l=some (.lst ys)->aJ K H' ys es->Run M S es S'->1<=es.length->(es.length:Int)<=most->cF K C H' a q' M S'->Mv a q H q' H'->l≠q'->Q (.ref l) H'):US K C vs H Q
def M4(K:aa)(C:Addr):Sp:=fun vs H Q _=>US K C vs H Q
theorem a23{C:Addr}(F:MA K C "steps_of_first" "Runner.steps_of_first" EE)(TC:fY K C)(B:bP mg)(oV:aD P w K mg base "lead_of" 1 (lO K))(a5A:aD P w K mg base "step_rows" 3 (DL K))(Br:aD P w K mg base "top_square" 4 (Ak K))(a5G:aD P w K mg base "reach_behind_first" 9 (DM K))(a5B:aD P w K mg base "step_entry" 3 (DV K))(IA:cL P w K mg base C "is_halted" 2 (fj K C fun _ S H Q=>Q (.bl (S.aR.isSome&&decide (S.pc=0))) H))(a7m:cL P w K mg base C "next_square" 5 (M5 K C))(IB:cL P w K mg base C "end_first" 3 (DP K C)):cL P w K mg base C "steps_of_first" 10 (M4 K C):=by
 refine F.has MU (fun vs H Q E h=>?_) (fun _ _ _ _ _ _=>dy fun _ _=>rfl) (fun f aL A outer s H vs Q E hr h=>?_)
 · obtain⟨a,q,M,D,S,ns,sp,most,rfl,_⟩:=h
   rfl
 · obtain⟨a,q,M,D,S,ns,sp,most,rfl,R0,ok,aO,eo,nh,m1,m2,k⟩:=h
   obtain⟨dx,mv,bv,cE,tv,e,r1,r2,r3,r4⟩:=R0.ob;obtain⟨ys,eq,rq⟩:=R0.qu;have aq:=R0.ne;have nd:=MU.nd;have lr:=aO.len;have AI:=aO.r1;have qO:=aO.f1;have ll:=ok.row.len;have lF:=ok.len;have oW:0<S.os.length:=(dM.mp eo).1;have dG:S.os≠[]:=fun z=>by rw[z]at oW;exact absurd oW (by decide)
   obtain⟨d,ed⟩:∃d,S.ds[0]? =some d:=⟨_,cj (show 0<S.ds.length by lia)⟩;obtain⟨y,ey,ry⟩:=rq.get 0 ed;have lH:=kC (ok.row.it 0 d _ ed eo);subst lH;obtain⟨eV,gI,hO⟩:=ok.row.ok 0 ns sp eo;have AQ:eR ns.length 1000 ns:=⟨rfl,fun z hz=>by have:=eV.bd z hz;lia,eV.nz⟩;have fz:=eV.lead.1;have Q9:=yx eV;have nl3:ns.length<=3:=by rw[eV.len];lia
   have hd0:S.dn<aH ns:=by
    rcases ok.dn with e'|⟨yd,xH,e1,e2⟩
    ·lia
    ·rw[eo]at e1;cases e1;exact e2
   obtain⟨Rd,Rl⟩:=G8 ok.raw aO dG;refine⟨_,(aB (pS 2 nd (px K (cW TC.cl TC.jR (pv 0)) az)) (aB (pS 3 nd (pf oV hr (O (pv 2) aw))) (aB (pS 4 nd (pf a5A hr (O (pv 2) aw))) (aB (pS 5 nd (pf Br hr (O (pv 2) (O (cW TC.cl TC.AY (pv 0)) aw)))) (aB (pS 6 nd (pf a5G hr (O (cW TC.cl TC.qy (pv 0)) (O (cW TC.cl TC.jR (pv 0)) (O (cW TC.cl TC.AY (pv 0)) aw))))) (aB (pS 7 nd (dv aw)) (aB (gJ (mU gY (PW.pt (mT (bZ jQ (dU K B (O (pv 7) aw)) (pv 1) (bw _)) (mT (bZ jQ (cW TC.cl TC.oO (pv 0)) (pv 3) (bw _)) (qi (fk (cM (gK IA TC.cl (hr.mono (by decide)) (pv 0)))))))) (aB (pS 8 nd (AK a7m TC.cl (hr.mono (by decide)) (pv 0) (O (pv 5) (O (pv 6) (O (aI gh (pv 3) (cW TC.cl TC.oO (pv 0))) aw))))) (aB (gP (jq K rfl (pv 7) (O (pf a5B hr (O (cW TC.cl TC.qy (pv 0)) (O (px K (pv 4) (cW TC.cl TC.oO (pv 0))) (O (pv 8) aw)))) aw))) (aG (a0x TC.cl TC.oO (pv 0) az a54)))))) (aB (gJ (bJ (bZ (cQ K rfl hr.units) (cW TC.cl TC.oO (pv 0)) (pv 3) (bw _)) (aG (gP (gK IB TC.cl (hr.mono (by decide)) (pv 0)))) bO)) (aG (aU (pv 7))))))))))),?_⟩;refine⟨_,rfl,a,dx,_,_,rfl,e,rfl,.inl ⟨q,_,0,y,rfl,rfl,aF.of eq,dc (gA 0) ey,?_⟩⟩;refine⟨_,rfl,y,ns,sp,rfl,ry,eV.ne,by lia,fun H1 s1=>?_⟩;refine⟨_,rfl,y,ns,sp,rfl,RD.mono s1 _ ry,AQ,by lia,fun mY yr H2 nlr Sr O5 s2=>?_⟩;have kN:=s1.trans s2;refine⟨_,rfl,_,rfl,a,dx,_,_,rfl,kN _ _ e,rfl,y,ns,sp,S.ay,rfl,RD.mono kN _ ry,gI,hO,ok.cZ,ok.du,fun rX H3 Zr s3=>?_⟩;have df:=kN.trans s3;have e3:=df _ _ e;refine⟨_,rfl,a,dx,_,_,rfl,e3,rfl,_,rfl,a,dx,_,_,rfl,e3,rfl,_,rfl,a,dx,_,_,rfl,e3,rfl,mv,.ref q,S.ay,M.rs,M.r,M.f,M.j,M.t,S.ds,S.os,rfl,RD.mono df _ r1,aO,lP (aF.of (df _ _ eq)) (aJ.mono df _ rq),ok.row,by lia,by lia,ok.cZ,ok.du,fun sN H4 Zz s4=>?_⟩;have gb:=df.trans s4;refine⟨bU rfl,fun l H5 n5=>?_⟩;have vf:=gb.trans n5.same;have sy:aE H2 H5:=s3.trans (s4.trans n5.same);have nl:H l=none:=by cases e':H l with |none=>rfl |some o=>have:=gb _ _ e';rw[n5.no]at this;cases this
   have Pf:H mY=none:=by cases e':H mY with |none=>rfl |some o=>have:=s1 _ _ e';rw[nlr]at this;cases this
   have al:a≠l:=fun z=>by rw[<-z,e]at nl;cases nl
   have ql:q≠l:=fun z=>by rw[<-z,eq]at nl;cases nl
   have TL:a≠mY:=fun z=>by rw[<-z,e]at Pf;cases Pf
   have llr:l≠mY:=fun z=>by have:=n5.no;rw[z,(s3.trans s4) _ _ Sr]at this;cases this
   have WY:=O5.length;rw[G0]at WY;have td:=Dw S.ay sp;have tl:=A6 gI hO ok.cZ ok.du;have tp:=Lf gI ok.cZ;have a3a:fG ns S=S:=by unfold fG;rw[bf (by lia)]
   have lE:sizeLine=16777216:=by decide
   refine⟨fun Z H6=>∃T es us w8,Z=[some (.ref a),some (.int most),some y,some (.int (aH ns)),some (.ref mY),some rX,some sN,some (.ref l),w8]/\aZ [a,l] H5 H6/\cF K C H6 a q M T/\kE M D T/\T.os=S.os/\T.ds=S.ds/\T.ay=S.ay/\T.dn<=aH ns/\1<=es.length/\(es.length:Int)<=most/\H6 l=some (.lst us)/\aJ K H6 us es/\cN es=true/\Run M S es (fG ns T),?_,?_⟩
   · refine mG (fun Z H6=>∃T es us w8,Z=[some (.ref a),some (.int most),some y,some (.int (aH ns)),some (.ref mY),some rX,some sN,some (.ref l),w8]/\aZ [a,l] H5 H6/\cF K C H6 a q M T/\kE M D T/\T.os=S.os/\T.ds=S.ds/\T.ay=S.ay/\T.dn=S.dn+es.length/\T.dn<=aH ns/\(es.length:Int)<=most/\H6 l=some (.lst us)/\aJ K H6 us es/\cN es=true/\Run M S es (fG ns T)/\(es=[]->¬Halt T.pc T.aR)) (fun _ H6=>match H6 l with|some (.lst us)=>2000-us.length|_=>0) ?_ ?_ ?_
     ·exact⟨S,[],[],none,rfl,aZ.refl _ _,R0.same ok.row.no vf,ok.raw,rfl,rfl,rfl,rfl,by lia,by simp;lia,n5.at',cU,rfl,by rw[a3a];exact .nil _,fun _=>nh⟩
     · rintro Z H6 ⟨T,es,us,w8,rfl,bt,RT,raw,iu,Cb,wC,edn,QK,lj,dl,rd,lb,run,hnh⟩
       have lu:=rd.length;obtain⟨uj,lU,bv6,a1e,Xo,e6,t1,t2,t3,t4⟩:=RT.ob;have Dp:bS H5 H6:=bt.v fun x hx o' cX=>by
        simp only[bN,cI,dB]at hx;rcases hx with rfl|rfl
        ·rw[vf _ _ e]at cX;cases cX;trivial
        ·rw[n5.at']at cX;cases cX;trivial
       have nos:cN T.ds=true:=by rw[Cb];exact ok.row.no
       have qQ:1<=es.length->∃T' pk jM zX,[some (.ref a),some (.int most),some y,some (.int (aH ns)),some (.ref mY),some rX,some sN,some (.ref l),w8]=[some (.ref a),some (.int most),some y,some (.int (aH ns)),some (.ref mY),some rX,some sN,some (.ref l),zX]/\aZ [a,l] H5 H6/\cF K C H6 a q M T'/\kE M D T'/\T'.os=S.os/\T'.ds=S.ds/\T'.ay=S.ay/\T'.dn<=aH ns/\1<=pk.length/\(pk.length:Int)<=most/\H6 l=some (.lst jM)/\aJ K H6 jM pk/\cN pk=true/\Run M S pk (fG ns T'):=fun h1=>⟨T,es,us,w8,rfl,bt,RT,raw,iu,Cb,wC,QK,h1,lj,dl,rd,lb,run⟩;refine⟨_,rfl,l,us,rfl,.inl (aF.of dl),_,rfl,_,_,rfl,rfl,_,rfl,?_⟩;show if decide ((us.length:Int)<most)=true then _ else _;by_cases c1:(us.length:Int)<most
       · rw[cH c1]
         refine bV ?_;refine⟨_,rfl,a,uj,_,_,rfl,e6,rfl,_,rfl,_,_,rfl,rfl,_,rfl,?_⟩;show if decide ((T.dn:Int)<(aH ns:Int))=true then _ else _;by_cases c2:T.dn<aH ns
         · rw[cH (by lia)]
           refine bV ?_;have P0:cm M D T:=raw.ok (.inr ⟨ns,sp,by rw[iu];exact eo,c2⟩);have a39:fG ns T=T:=by unfold fG;rw[bf (by lia)]
           refine⟨_,rfl,a,uj,_,rfl,e6,rfl,a,q,M,D,T,rfl,RT,P0,aO,_,rfl,?_⟩;by_cases c3:Halt T.pc T.aR
           · have hb:(T.aR.isSome&&decide (T.pc=0))=true:=by obtain⟨h1,h2⟩:=c3;rw[cH h2,Kw];cases hs:T.aR with |none=>exact(h1 hs).elim |some _=>rfl
             rw[hb];refine bF ?_;refine qQ ?_;cases es with |nil=>exact(hnh rfl c3).elim |cons _ _=>simp
           · have hb:(T.aR.isSome&&decide (T.pc=0))=false:=by cases hs:T.aR with |none=>rfl |some _=>show decide (T.pc=0)=false;exact fe fun h2=>c3 ⟨by rw[hs];simp,h2⟩
             rw[hb];refine bV ?_;have rT:fE M T=fE M S:=by unfold fE;rw[iu,wC]
             refine⟨_,rfl,a,uj,_,rfl,e6,rfl,?_⟩;refine⟨_,rfl,_,rfl,_,rfl,_,rfl,a,uj,_,_,rfl,e6,rfl,_,_,rfl,rfl,?_⟩;have Zq:bh K H6 rX (topR S.ay sp):=((Zr.go s4).go n5.same).v Dp;have Zy:bh K H6 sN (fE M S):=(Zz.go n5.same).v Dp;refine⟨a,q,M,D,T,rX,sN,topR S.ay sp,fE M S,_,rfl,RT,P0,aO,Zq,td,tl,Zy,Rd,Rl,by lia,by lia,c3,fun mid H7 ZI R7 b7=>?_⟩;obtain⟨qR,tE,Cm,AL,A3,e7',Lu,Y8,Y7,Y6⟩:=R7.ob;have e7:H7 a=some (.ins C qR (gc tE Cm (.int T.dn) (.ref q) AL (.int T.ay) (.str T.side) (.str T.mark) A3)):=e7';have A1:bS H6 H7:=b7.v fun x hx o' cX=>by rw[cf]at hx;rw[hx,e6]at cX;cases cX;trivial
             have nM:=b7 _ _ dl (by rw[cf];exact al.symm);have aa2:=sy _ _ Sr;have aa1:=bt _ _ aa2 (by simp;exact⟨TL.symm,llr.symm⟩);have aa0:=b7 _ _ aa1 (by rw[cf];exact TL.symm);have ZK:aJ K H7 yr (oF ns):=aJ.v A1 _ (FZ ns) (aJ.v Dp _ (FZ ns) (aJ.mono sy _ O5));obtain⟨rv,S0⟩:∃rv,yr[T.dn]? =some rv:=⟨_,cj (show T.dn<yr.length by lia)⟩;obtain⟨dr,Sh,ZZ⟩:=ZK.get' T.dn S0;rw[O2 c2]at Sh;cases Sh;have mB:Bd 2000 (lT M.r M.f T.pc (topR S.ay sp) (fE M S) ((aH ns:Int)-T.dn) T.aR):=by have D1:=raw.D1;have D2:=raw.D2;exact((PF (by lia) (by lia) (by lia) raw.pd (td.mono (by lia)) (Rd.mono (by lia)) raw.aR c3).bd (eg PC (eg tl (by decide+kernel)))).mono (by lia)
             have mP:0<lT M.r M.f T.pc (topR S.ay sp) (fE M S) ((aH ns:Int)-T.dn) T.aR:=PD AI.1 qO.1 (by lia) raw.pd.nn tp Rd.nn raw.aR c3;refine⟨_,rfl,.inl ⟨rfl,_,aF.of nM⟩,?_⟩;refine⟨_,rfl,a,qR,_,_,rfl,e7,rfl,?_⟩;refine⟨_,rfl,_,rfl,a,qR,_,_,rfl,e7,rfl,.inl ⟨mY,_,_,_,rfl,rfl,aF.of aa0,dc (show(0:Int)<=(T.dn:Int) by lia) (by simpa using S0),?_⟩⟩;refine⟨_,rfl,tE,rv,mid,M.rs,M.r,M.f,M.j,M.t,hW ns T.dn,_,rfl,Lu,aO,ZZ,ZI,mB,mP,fun ent H8 ZV s8=>?_⟩;have mx:=s8 _ _ nM;refine⟨l,us,_,rfl,rfl,mx,by lia,?_⟩;have e8:(L2.upd H8 l (.lst (us++[ent]))) a=some (.ins C qR (gc tE Cm (.int T.dn) (.ref q) AL (.int T.ay) (.str T.side) (.str T.mark) A3)):=by rw[aK al];exact s8 _ _ e7
             refine⟨_,rfl,a,qR,_,_,rfl,e8,rfl,_,_,rfl,rfl,qR,_,e8,by show 9<1000;decide,?_⟩;have vl:bS H8 (L2.upd H8 l (.lst (us++[ent]))):=.upd mx trivial;have va:bS (L2.upd H8 l (.lst (us++[ent]))) (L2.upd (L2.upd H8 l (.lst (us++[ent]))) a (.ins C qR (gc tE Cm (.int ((T.dn:Int)+1)) (.ref q) AL (.int T.ay) (.str T.side) (.str T.mark) A3))):=.upd e8 trivial;have v7:=(s8.v.trans vl).trans va;have eS:fH M T ns sp={GF M T (topR S.ay sp) (fE M S) ((aH ns:Int)-T.dn)with dn:=T.dn+1}:=by unfold fH;rw[rT,wC]
             have eE:mZ M T ns sp=oy M.t (hW ns T.dn) (lT M.r M.f T.pc (topR S.ay sp) (fE M S) ((aH ns:Int)-T.dn) T.aR):=by unfold mZ Hc;rw[rT,wC]
             have a5Q:One M T (mZ M T ns sp) (fG ns (fH M T ns sp)):=.line (by rw[iu];exact eo) c3;obtain⟨yq,eq7,ZA⟩:=R7.qu;have GJ:cN (es++[mZ M T ns sp])=true:=ij.mpr fun d hd=>by
              rcases uI.mp hd with h|h
              ·exact ij.mp lb d h
              ·rw[cf]at h;rw[h];exact DF _ _ _
             have q7l:q≠l:=ql;refine⟨⟨fH M T ns sp,es++[mZ M T ns sp],us++[ent],_,rfl,fun b o' eb hb=>?_,?_,PX raw aO (by rw[iu];exact eo) c2 c3,iu,Cb,wC,?_,?_,?_,?_,?_,?_,?_,fun z=>by simp at z⟩,?_⟩
             · have ha:b≠a:=fun z=>hb (by rw[z];simp)
               have dX:b≠l:=fun z=>hb (by rw[z];simp);rw[aK ha,aK dX];exact s8 _ _ (b7 _ _ (bt _ _ eb hb) (by rw[cf];exact ha))
             · rw[eS]
               refine⟨⟨qR,tE,Cm,AL,A3,?_,RD.v v7 _ (jd _ _ _ _ _) Lu,RD.v v7 _ (hZ _) Y8,Y7.v v7,Y6.v v7⟩,yq,?_,aJ.v v7 _ nos ZA⟩
               ·exact ba
               ·rw[aK aq.symm,aK ql];exact s8 _ _ eq7
             · show T.dn+1=_
               rw[fD];show _=_+(_+1);lia
             · show T.dn+1<=_
               lia
             ·rw[fD];show((es.length+1:Nat):Int)<=most;lia
             ·rw[aK al.symm,ba]
             · refine aJ.v va _ GJ (aJ.v vl _ GJ ?_)
               have r7:aJ K H8 us es:=aJ.mono s8 _ (aJ.v A1 _ lb rd);refine r7.append (bW ?_ cU);rw[eE];exact ZV
             ·exact GJ
             · rw[a39]at run
               exact run.snoc a5Q
             · show(match(L2.upd (L2.upd H8 l (.lst (us++[ent]))) a _) l with|some (.lst us)=>2000-us.length|_=>0)<(match H6 l with|some (.lst us)=>2000-us.length|_=>0)
               rw[aK al.symm,ba,dl];show 2000-(us++[ent]).length<2000-us.length;rw[fD];show 2000-(us.length+1)<_
               lia
         · rw[fe (by lia)]
           refine bF ?_;exact qQ (by lia)
       · rw[fe c1]
         refine bF ?_;exact qQ (by lia)
     · rintro Z H6 Q1 Q2 hq ⟨v1,f1,l',jM,f2,f3,v2,f4,i1,i2,f5,f6,b1,f7,h⟩
       refine⟨v1,f1,l',jM,f2,f3,v2,f4,i1,i2,f5,f6,b1,f7,yA ?_ (hq _ _) h⟩;rintro⟨v3,f8,a',uo,fs',u',f9,yZ,yY,v4,J8,i3,i4,J6,J5,b2,yX,h⟩;refine⟨v3,f8,a',uo,fs',u',f9,yZ,yY,v4,J8,i3,i4,J6,J5,b2,yX,yA ?_ (hq _ _) h⟩;rintro⟨v5,J4,a2,uk,IK,J3,J2,J1,a3,q3,M3,D3,S3,J0,IZ,IY,IX,b3,IW,h⟩;exact⟨v5,J4,a2,uk,IK,J3,J2,J1,a3,q3,M3,D3,S3,J0,IZ,IY,IX,b3,IW,hq _ _ h⟩
   · rintro Z H6 ⟨T,es,us,w8,rfl,bt,RT,raw,iu,Cb,wC,QK,h1,lj,dl,rd,lb,run⟩
     obtain⟨uj,lU,bv6,a1e,Xo,e6,t1,t2,t3,t4⟩:=RT.ob;have a61:T.os≠[]:=by rw[iu];exact dG
     have bH:∀{H7:Hp},aZ [a] H6 H7->aZ [a,q] H H7:=fun{H7} b7 b o' eb hb=>by
      have ha:b≠a:=fun z=>hb (by rw[z];simp);refine b7 _ _ (bt _ _ (vf _ _ eb) fun hm=>?_) (by rw[cf];exact ha);simp only[bN,cI,dB]at hm;rcases hm with h|h
      ·exact ha h
      ·rw[h,nl]at eb;cases eb
     refine⟨fun Z H7=>∃q' zX,Z=[some (.ref a),some (.int most),some y,some (.int (aH ns)),some (.ref mY),some rX,some sN,some (.ref l),zX]/\cF K C H7 a q' M (fG ns T)/\Mv a q H q' H7/\l≠q'/\∃jM,H7 l=some (.lst jM)/\aJ K H7 jM es,?_,?_⟩
     · refine⟨_,rfl,a,uj,_,_,rfl,e6,rfl,_,rfl,.inl ⟨_,_,rfl,rfl,_,rfl,?_⟩⟩
       show if decide ((T.dn:Int)=(aH ns:Int))=true then _ else _;by_cases c:T.dn=aH ns
       · rw[cH (by lia)]
         refine bV ?_;refine⟨_,rfl,a,uj,_,rfl,e6,rfl,a,q,M,D,T,rfl,RT,raw,aO,a61,fun q' H7 R7 nq b7=>?_⟩;have A1:bS H6 H7:=b7.v fun x hx o' cX=>by rw[cf]at hx;rw[hx,e6]at cX;cases cX;trivial
         refine⟨q',_,rfl,by unfold fG;rw[bc c];exact R7,⟨bH b7,.inr ?_⟩,fun z=>?_,us,b7 _ _ dl (by rw[cf];exact al.symm),aJ.v A1 _ lb rd⟩
         ·cases e':H q' with |none=>rfl |some o'=>
             have h5:=vf _ _ e';by_cases ha:q'=a
             ·rw[ha,e6]at nq;cases nq
             · by_cases dX:q'=l
               ·rw[dX,nl]at e';cases e'
               · have:=bt _ _ h5 (by simp;exact⟨ha,dX⟩)
                 rw[nq]at this;cases this
         ·rw[<-z,dl]at nq;cases nq
       · rw[fe (by lia)]
         refine bF ?_;exact⟨q,_,rfl,by unfold fG;rw[bf c];exact RT,⟨bH (aZ.refl _ _),.inl rfl⟩,ql.symm,us,dl,rd⟩
     · rintro Z H7 ⟨q',zX,rfl,R7,tE,lq,jM,nM,AG⟩
       exact⟨_,rfl,k l jM es (fG ns T) q' H7 nl nM AG run h1 lj R7 tE lq⟩
theorem Mv.trans{a q q1 q2:Addr}{H H1 H2:Hp}(m1:Mv a q H q1 H1)(m2:Mv a q1 H1 q2 H2)(ha:H1 a≠none):Mv a q H q2 H2:=by
 refine⟨fun b o e hb=>?_,?_⟩
 · refine m2.but _ _ (m1.but _ _ e hb) fun hm=>?_
   simp only[bN,cI,dB]at hm hb;rcases hm with h|h
   ·exact hb (.inl h)
   · rcases m1.nq with h1|h1
     ·exact hb (.inr (h.trans h1))
     ·rw[<-h]at h1;rw[h1]at e;cases e
 · rcases m2.nq with h|h
   ·rw[h];exact m1.nq
   ·cases e:H q2 with |none=>exact .inr rfl |some o=>
       by_cases h1:q2=q
       ·exact .inl h1
       · by_cases h2:q2=a
         ·rw[h2]at h;exact(ha h).elim
         · have:=m1.but _ _ e (by simp;exact⟨h2,h1⟩)
           rw[h]at this;cases this
inductive UZ(K:aa)(C:Addr)(vs:List V)(H:Hp)(Q:VK):Prop |mk (a:_)(q:_)(M:_)(D:_)(S:_)(most:_)(h0:vs=[.ref a,.int most])(h1:cF K C H a q M S)(h2:cm M D S)(h3:M.Ok)(h4:S.os≠[])(h5:¬Halt S.pc S.aR)(h6:1<=most)(h7:most<=1000)(h8:∀l ys es S' q' H',H l=none->H' l=some (.lst ys)->aJ K H' ys es->Run M S es S'->1<=es.length->(es.length:Int)<=most->cF K C H' a q' M S'->Mv a q H q' H'->l≠q'->Q (.ref l) H'):UZ K C vs H Q
def M9(K:aa)(C:Addr):Sp:=fun vs H Q _=>UZ K C vs H Q
theorem MZ:bp ["self","most","item"] ["self","most"] (aV ET):=bI (by decide+kernel)
theorem a2h{C:Addr}(F:MA K C "entries_of_first" "Runner.entries_of_first" ET)(TC:fY K C)(qE:aD P w K mg base "is_line" 1 (uY K))(a7i:cL P w K mg base C "steps_of_first" 10 (M4 K C))(IB:cL P w K mg base C "end_first" 3 (DP K C)):cL P w K mg base C "entries_of_first" 11 (M9 K C):=by
 refine F.has MZ (fun vs H Q E h=>?_) (fun _ _ _ _ _ _=>dy fun _ _=>rfl) (fun f aL A outer s H vs Q E hr h=>?_)
 · obtain⟨a,q,M,D,S,most,rfl,_⟩:=h
   rfl
 · obtain⟨a,q,M,D,S,most,rfl,R0,ok,aO,dG,nh,m1,m2,k⟩:=h
   obtain⟨dx,mv,bv,cE,tv,e,r1,r2,r3,r4⟩:=R0.ob;obtain⟨ys,eq,rq⟩:=R0.qu;have aq:=R0.ne;have nd:=MZ.nd;have ll:=ok.row.len;have oW:0<S.os.length:=by cases h:S.os with|nil=>exact(dG h).elim|cons _ _=>simp
   obtain⟨d,ed⟩:∃d,S.ds[0]? =some d:=⟨_,cj (show 0<S.ds.length by lia)⟩;obtain⟨y,ey,ry⟩:=rq.get 0 ed;obtain⟨o,eo,it⟩:=ok.row.get ed;refine⟨_,(aB (pS 2 nd (px K (cW TC.cl TC.jR (pv 0)) az)) (aB (bJ (cM (pf qE hr (O (pv 2) aw))) (aG (aU (AK a7i TC.cl (hr.mono (by decide)) (pv 0) (O (pv 1) aw)))) bO) (aB (gJ (bJ (bZ (cQ K rfl hr.units) (px K (pv 2) az) aW (bw _)) (aG (iV TC.cl TC.GP (pv 0) (px K (pv 2) az))) bO)) (aB (gJ (bJ (bZ (cQ K rfl hr.units) (px K (pv 2) az) aW (bw _)) (aG (iV TC.cl TC.GQ (pv 0) (px K (pv 2) az))) bO)) (aB (gP (gK IB TC.cl (hr.mono (by decide)) (pv 0))) (aG (aU (dv (O (pv 2) aw))))))))),?_⟩;refine⟨_,rfl,a,dx,_,_,rfl,e,rfl,.inl ⟨q,_,0,y,rfl,rfl,aF.of eq,dc (gA 0) ey,?_⟩⟩;refine⟨_,rfl,y,d,o,rfl,ry,it,_,rfl,?_⟩;cases o with |some z=>obtain⟨ns,sp⟩:=z;refine bV ?_;exact⟨_,rfl,a,dx,_,rfl,e,rfl,_,rfl,a,q,M,D,S,ns,sp,most,rfl,R0,ok,aO,eo,nh,m1,m2,k⟩ |none=>
     refine bF ?_;have ie:=ok.rw 0 d eo ed;have wd:∃z u ya yr,d= .tuple [.str z,u]/\y= .ref ya/\aP K H ya (.str z::[yr])/\RD K H yr u/\SeqAt.shaped (.str z)=true:=by
      rcases ie with⟨n,rfl,_⟩|⟨w',s',rfl,hw,_⟩
      · obtain⟨ya,xs,rfl,h1,h2⟩:=ry.eu
        obtain⟨x1,rr,rfl,e1,h2⟩:=h2.cons_inv;obtain⟨x2,rr,rfl,e2,h2⟩:=h2.cons_inv;cases h2.nil_inv;cases e1.str_inv;exact⟨_,_,ya,x2,rfl,rfl,h1,e2,by decide+kernel⟩
      · obtain⟨ya,xs,rfl,h1,h2⟩:=ry.eu
        obtain⟨x1,rr,rfl,e1,h2⟩:=h2.cons_inv;obtain⟨x2,rr,rfl,e2,h2⟩:=h2.cons_inv;cases h2.nil_inv;cases e1.str_inv;exact⟨_,_,ya,x2,rfl,rfl,h1,e2,by rcases hw with rfl|rfl<;>decide+kernel⟩
     obtain⟨z,u,ya,yr,rfl,rfl,yC,NX,sz⟩:=wd;have tU:SeqAt.shaped (.str "tool")=true:=by decide+kernel
     have tM:SeqAt.shaped (.str "mark")=true:=by decide+kernel
     have eqT:∀(x y:Str),PyData.eqv (.str x) (.str y)=decide (x=y):=fun x y=>by show(x==y)=decide (x=y);rw[om];simp
     refine⟨fun Z H1=>Z=[some (.ref a),some (.int most),some (.ref ya)]/\aZ [a] H H1/\H1 a=some (.ins C dx (gc mv bv (.int S.dn) (.ref q) cE (.int S.ay) (.str (if z="tool" then(ck (.tuple [.str z,u]) S).side else S.side)) (.str S.mark) tv)),?_,?_⟩
     · refine⟨_,rfl,.inr ⟨ya,_,0,.str z,rfl,rfl,yC,dc (gA 0) rfl,.inr ⟨_,_,cV _,cV _,sz,tU,_,rfl,?_⟩⟩⟩
       rw[eqT];by_cases c:z="tool"
       · rw[cH c]
         refine bV ?_;have hu:∃s',u= .str s':=by
          rcases ie with⟨n,h,_⟩|⟨w',s',h,hw,_⟩
          ·cases h;exact absurd c (by decide+kernel)
          ·cases h;exact⟨_,rfl⟩
         obtain⟨s',rfl⟩:=hu;cases NX.str_inv;refine⟨_,rfl,.inr ⟨ya,_,1,.str s',rfl,rfl,yC,dc (by decide) rfl,_,rfl,a,dx,_,rfl,e,by show 9<1000;decide,?_⟩⟩;refine⟨rfl,qW (by simp),?_⟩;rw[bc c];have es:(ck (.tuple [.str z,.str s']) S).side=s':=by unfold ck;simp only[bc c]
         rw[es];exact ba
       · rw[fe c]
         refine bF ⟨rfl,aZ.refl _ _,?_⟩;rw[bf c];exact e
     rintro Z H1 ⟨rfl,b1,e1⟩;have Xe:bS H H1:=b1.v fun x hx o' cX=>by rw[cf]at hx;rw[hx,e]at cX;cases cX;trivial
     have Qt:=aP.v Xe yC;refine⟨fun Z H2=>Z=[some (.ref a),some (.int most),some (.ref ya)]/\aZ [a] H H2/\H2 a=some (.ins C dx (gc mv bv (.int S.dn) (.ref q) cE (.int S.ay) (.str (ck (.tuple [.str z,u]) S).side) (.str (ck (.tuple [.str z,u]) S).mark) tv)),?_,?_⟩
     · refine⟨_,rfl,.inr ⟨ya,_,0,.str z,rfl,rfl,Qt,dc (gA 0) rfl,.inr ⟨_,_,cV _,cV _,sz,tM,_,rfl,?_⟩⟩⟩
       rw[eqT];by_cases c:z="mark"
       · rw[cH c]
         refine bV ?_;have nt:¬z="tool":=by rw[c];decide+kernel
         rw[bf nt]at e1;have hu:∃s',u= .str s':=by
          rcases ie with⟨n,h,_⟩|⟨w',s',h,hw,_⟩
          ·cases h;exact absurd c (by decide+kernel)
          ·cases h;exact⟨_,rfl⟩
         obtain⟨s',rfl⟩:=hu;cases NX.str_inv;refine⟨_,rfl,.inr ⟨ya,_,1,.str s',rfl,rfl,Qt,dc (by decide) rfl,_,rfl,a,dx,_,rfl,e1,by show 9<1000;decide,?_⟩⟩;refine⟨rfl,b1.trans (qW (by simp)),?_⟩;have es:(ck (.tuple [.str z,.str s']) S).side=S.side/\(ck (.tuple [.str z,.str s']) S).mark=s':=by constructor<;>(unfold ck;simp only[bf nt,bc c])
         rw[es.1,es.2];exact ba
       · rw[fe c]
         refine bF ⟨rfl,b1,?_⟩;have em:(ck (.tuple [.str z,u]) S).mark=S.mark:=by
          unfold ck;split
          · next h => cases h;split
                      ·rfl
                      ·first|rfl|rw[bf c]
          ·rfl
         have es:(if z="tool" then(ck (.tuple [.str z,u]) S).side else S.side)=(ck (.tuple [.str z,u]) S).side:=by
          by_cases c2:z="tool"
          ·rw[bc c2]
          · rw[bf c2]
            unfold ck;split
            ·next h=>cases h;first|rfl|rw[bf c2,bf c]
            ·rfl
         rw[es]at e1;rw[em];exact e1
     rintro Z H2 ⟨rfl,b2,e2⟩;have xo:bS H H2:=b2.v fun x hx o' cX=>by rw[cf]at hx;rw[hx,e]at cX;cases cX;trivial
     obtain⟨Oc,fO,ds',dn',pl'⟩:=E4 ok.raw (.tuple [.str z,u]);have fx:(ck (.tuple [.str z,u]) S).pc=S.pc/\(ck (.tuple [.str z,u]) S).ay=S.ay/\(ck (.tuple [.str z,u]) S).aR=S.aR:=by
      unfold ck;split
      · split
        ·exact⟨rfl,rfl,rfl⟩
        ·split<;>exact⟨rfl,rfl,rfl⟩
      ·exact⟨rfl,rfl,rfl⟩
     have R2:cF K C H2 a q M (ck (.tuple [.str z,u]) S):=by
      refine⟨⟨dx,mv,bv,cE,tv,?_,RD.v xo _ (jd _ _ _ _ _) r1,?_,?_,?_⟩,ys,b2 _ _ eq (by rw[cf];exact aq.symm),?_⟩
      ·rw[dn',fx.2.1];exact e2
      ·rw[pl'];exact RD.v xo _ (hZ _) r2
      ·rw[fx.1];exact r3.v xo
      ·rw[fx.2.2];exact r4.v xo
      ·rw[ds'];exact aJ.v xo _ ok.row.no rq
     refine⟨_,rfl,a,dx,_,rfl,e2,rfl,a,q,M,D,_,rfl,R2,Oc,aO,by rw[fO];exact dG,fun q' H3 R3 nq b3=>?_⟩;have JF:=b2.trans b3;have Xd:bS H H3:=JF.v fun x hx o' cX=>by rw[cf]at hx;rw[hx,e]at cX;cases cX;trivial
     have ye:H q'=none:=by cases e':H q' with |none=>rfl |some o'=>
        by_cases ha:q'=a
        ·rw[ha,e2]at nq;cases nq
        · have:=b2 _ _ e' (by rw[cf];exact ha)
          rw[nq]at this;cases this
     refine⟨_,rfl,bU rfl,fun l H4 n4=>?_⟩;have nl:H l=none:=by cases e':H l with |none=>rfl |some o'=>
        by_cases ha:l=a
        · obtain⟨dx3,_,_,_,_,e3,_⟩:=R3.ob
          have:=n4.no;rw[ha,e3]at this;cases this
        · have:=JF _ _ e' (by rw[cf];exact ha)
          rw[n4.no]at this;cases this
     have GB:cm M D (iZ (ck (.tuple [.str z,u]) S)):=Oc.end (by rw[fO];exact dG);refine k l [.ref ya] [.tuple [.str z,u]] _ q' H4 nl n4.at' (bW (RD.v (Xd.trans n4.same.v) _ (ij.mp ok.row.no _ (gG ed)) ry) cU) (.cons (.ie eo ed nh) (.nil _)) (by simp) (by simpa using m1) (R3.same GB.row.no n4.same) ⟨fun b o' eb hb=>n4.same _ _ (JF _ _ eb (by rw[cf];intro h;exact hb (by rw[h];simp))),.inr ye⟩ ?_;intro h;have:=n4.no;obtain⟨yq,eq3,_⟩:=R3.qu;rw[h,eq3]at this;cases this
inductive V0(K:aa)(C:Addr)(vs:List V)(H:Hp)(Q:VK):Prop |mk (a:_)(q:_)(M:_)(D:_)(S:_)(n:_)(h0:vs=[.ref a,.int n])(h1:cF K C H a q M S)(h2:cm M D S)(h3:M.Ok)(h4:0<=n)(h5:n<=1000)(h6:∀l ys es S' q' H',H l=none->H' l=some (.lst ys)->aJ K H' ys es->Run M S es S'->(es.length:Int)<=n->((es.length:Int)=n\/S'.os=[]\/Halt S'.pc S'.aR)->cF K C H' a q' M S'->Mv a q H q' H'->l≠q'->Q (.ref l) H'):V0 K C vs H Q
def Ma(K:aa)(C:Addr):Sp:=fun vs H Q _=>V0 K C vs H Q
theorem N0:bp ["self","n","told"] ["self","n"] (aV EU):=bI (by decide+kernel)
theorem a2i{C:Addr}(F:MA K C "entries" "Runner.entries" EU)(TC:fY K C)(B:bP mg)(IA:cL P w K mg base C "is_halted" 2 (fj K C fun _ S H Q=>Q (.bl (S.aR.isSome&&decide (S.pc=0))) H))(a7r:cL P w K mg base C "entries_of_first" 11 (M9 K C)):cL P w K mg base C "entries" 12 (Ma K C):=by
 refine F.has N0 (fun vs H Q E h=>?_) (fun _ _ _ _ _ _=>dy fun _ _=>rfl) (fun f aL A outer s H vs Q E hr h=>?_)
 · obtain⟨a,q,M,D,S,n,rfl,_⟩:=h
   rfl
 · obtain⟨a,q,M,D,S,n,rfl,R0,ok,aO,n0,n1,k⟩:=h
   have nd:=N0.nd;refine⟨_,(aB (pS 2 nd (dv aw)) (aB (gJ (mU gY (PW.pt (mT (bZ jQ (dU K B (O (pv 2) aw)) (pv 1) (bw _)) (mT (Gi K rfl (cW TC.cl TC.jR (pv 0))) (qi (fk (cM (gK IA TC.cl (hr.mono (by decide)) (pv 0)))))))) (aG (gP (a1b K rfl (pv 2) (O (AK a7r TC.cl (hr.mono (by decide)) (pv 0) (O (aI gh (pv 1) (dU K B (O (pv 2) aw))) aw)) aw)))))) (aG (aU (pv 2))))),?_⟩;refine⟨bU rfl,fun l H1 nw=>?_⟩;obtain⟨dx,mv,bv,cE,tv,e,r1,r2,r3,r4⟩:=R0.ob;obtain⟨ys,eq,rq⟩:=R0.qu;have al:a≠l:=fun z=>by have:=nw.no;rw[<-z,e]at this;cases this
   have ql:q≠l:=fun z=>by have:=nw.no;rw[<-z,eq]at this;cases this
   have hq0:H q≠none:=by rw[eq];simp
   have ha0:H a≠none:=by rw[e];simp
   refine⟨fun Z H2=>∃es S' q' us,Z=[some (.ref a),some (.int n),some (.ref l)]/\cF K C H2 a q' M S'/\H2 l=some (.lst us)/\aJ K H2 us es/\Run M S es S'/\(es.length:Int)<=n/\((es.length:Int)=n\/S'.os=[]\/Halt S'.pc S'.aR)/\Mv a q H q' H2/\l≠q',?_,?_⟩
   · refine mG (fun Z H2=>∃es S' q' us,Z=[some (.ref a),some (.int n),some (.ref l)]/\cF K C H2 a q' M S'/\H2 l=some (.lst us)/\aJ K H2 us es/\Run M S es S'/\(es.length:Int)<=n/\Mv a q H q' H2/\l≠q') (fun _ H2=>match H2 l with|some (.lst us)=>2000-us.length|_=>0) ?_ ?_ ?_
     ·exact⟨[],S,q,[],rfl,R0.same ok.row.no nw.same,nw.at',cU,.nil _,by simpa using n0,⟨.of nw.same,.inl rfl⟩,ql.symm⟩
     · rintro Z H2 ⟨es,S',q',us,rfl,R2,dl,rd,run,lj,vN,lq⟩
       have jb:=run.ok ok aO;have lb:=run.no ok aO;have lu:=rd.length;obtain⟨uk,mv2,bv2,acb,tv2,e2,t1,t2,t3,t4⟩:=R2.ob;obtain⟨yq,eq2,ZC⟩:=R2.qu;have vP:=ZC.length;have yu:=jb.row.len;refine⟨_,rfl,l,us,rfl,.inl (aF.of dl),_,rfl,_,_,rfl,rfl,_,rfl,?_⟩;show if decide ((us.length:Int)<n)=true then _ else _;by_cases c1:(us.length:Int)<n
       · rw[cH c1]
         refine bV ?_;refine⟨_,rfl,a,uk,_,_,rfl,e2,rfl,_,.inl ⟨_,aF.of eq2,rfl⟩,?_⟩;cases jz:S'.os with |nil=>have:yq=[]:=D7.mp (by rw[vP,yu,jz];rfl);subst this;refine bF ?_;exact⟨es,S',q',us,rfl,R2,dl,rd,run,lj,.inr (.inl jz),vN,lq⟩ |cons o os=>
           have dG:S'.os≠[]:=by rw[jz];simp
           have:∃y yr,yq=y::yr:=by cases yq with |nil=>rw[yu,jz]at vP;simp at vP |cons y yr=>exact⟨y,yr,rfl⟩
           obtain⟨y,yr,rfl⟩:=this;refine bV ?_;refine⟨_,rfl,a,uk,_,rfl,e2,rfl,a,q',M,D,S',rfl,R2,jb,aO,_,rfl,?_⟩;by_cases c3:Halt S'.pc S'.aR
           · have hb:(S'.aR.isSome&&decide (S'.pc=0))=true:=by obtain⟨h1,h2⟩:=c3;rw[cH h2,Kw];cases hs:S'.aR with |none=>exact(h1 hs).elim |some _=>rfl
             rw[hb];exact bF ⟨es,S',q',us,rfl,R2,dl,rd,run,lj,.inr (.inr c3),vN,lq⟩
           · have hb:(S'.aR.isSome&&decide (S'.pc=0))=false:=by cases hs:S'.aR with |none=>rfl |some _=>show decide (S'.pc=0)=false;exact fe fun h2=>c3 ⟨by rw[hs];simp,h2⟩
             rw[hb];refine bV ?_;refine⟨_,rfl,.inl ⟨rfl,_,aF.of dl⟩,?_⟩;refine⟨_,rfl,a,uk,_,rfl,e2,rfl,_,rfl,_,rfl,l,us,rfl,.inl (aF.of dl),_,_,rfl,rfl,?_⟩;refine⟨a,q',M,D,S',_,rfl,R2,jb,aO,dG,c3,by lia,by lia,fun l2 y2 fs S2 q2 H3 Pg Jl qe xR f1 f2 R3 B6 lq2=>?_⟩;have Xa:=R2.v B6.but;have wI:=B6.but _ _ dl (by simp;exact⟨al.symm,lq⟩);have G6:=aJ.v Xa _ lb rd;have ly2:=qe.length;have lE:sizeLine=16777216:=by decide
             refine⟨l,l2,us,y2,rfl,rfl,wI,Jl,by lia,?_⟩;have vu:bS H3 (L2.upd H3 l (.lst (us++y2))):=.upd wI trivial;have a5Y:=xR.no jb aO;have eG:=xR.ok jb aO;have PL:l≠q2:=fun z=>by
              rcases B6.nq with h|h
              ·exact lq (z.trans h)
              ·rw[<-z,dl]at h;cases h
             refine⟨⟨es++fs,S2,q2,us++y2,rfl,R3.go eG.row.no vu (fun o' cX=>by rw[aK al];exact cX) (fun o' cX=>by rw[aK PL.symm];exact cX),ba,(aJ.v vu _ lb G6).append (aJ.v vu _ a5Y qe),run.trans xR,by rw[fD];lia,?_,PL⟩,?_⟩
             · have m:=vN.trans B6 (by rw[e2];simp)
               exact⟨fun b o' eb hb=>by
                have dX:b≠l:=fun z=>by have:=nw.no;rw[<-z,eb]at this;cases this
                rw[aK dX];exact m.but _ _ eb hb,m.nq⟩
             · show(match(L2.upd H3 l (.lst (us++y2))) l with|some (.lst us)=>2000-us.length|_=>0)<(match H2 l with|some (.lst us)=>2000-us.length|_=>0)
               rw[ba,dl];show 2000-(us++y2).length<2000-us.length;rw[fD]
               lia
       · rw[fe c1]
         refine bF ?_;exact⟨es,S',q',us,rfl,R2,dl,rd,run,lj,.inl (by lia),vN,lq⟩
     · rintro Z H6 Q1 Q2 hq ⟨v1,f1,l',jM,f2,f3,v2,f4,i1,i2,f5,f6,b1,f7,h⟩
       refine⟨v1,f1,l',jM,f2,f3,v2,f4,i1,i2,f5,f6,b1,f7,yA ?_ (hq _ _) h⟩;rintro⟨v3,f8,a',uo,fs',u',f9,yZ,yY,b2,yX,h⟩;refine⟨v3,f8,a',uo,fs',u',f9,yZ,yY,b2,yX,yA ?_ (hq _ _) h⟩;rintro⟨v5,J4,a2,uk,IK,J3,J2,J1,a3,q3,M3,D3,S3,J0,IZ,IY,IX,b3,IW,h⟩;exact⟨v5,J4,a2,uk,IK,J3,J2,J1,a3,q3,M3,D3,S3,J0,IZ,IY,IX,b3,IW,hq _ _ h⟩
   · rintro Z H2 ⟨es,S',q',us,rfl,R2,dl,rd,run,lj,p4,vN,lq⟩
     exact⟨_,rfl,k l us es S' q' H2 nw.no dl rd run lj p4 R2 vN lq⟩
theorem cF.Oo{C:Addr}{H:Hp}{a q dx:Addr}{M:bM}{S S':bj}{mv bv cE tv:V}(R:cF K C H a q M S)(e:H a=some (.ins C dx (gc mv bv (.int S.dn) (.ref q) cE (.int S.ay) (.str S.side) (.str S.mark) tv))){wM AM A4:V}(hn:cN S.ds=true)(hd:S'.ds=S.ds) (r1:RD K H mv M.D)(r2:RD K H wM (fo S'.pl))(r3:bh K H AM S'.pc)(r4:wQ K H A4 S'.aR):cF K C (L2.upd H a (.ins C dx (gc mv wM (.int S'.dn) (.ref q) AM (.int S'.ay) (.str S'.side) (.str S'.mark) A4))) a q M S':=by
  have v:bS H (L2.upd H a (.ins C dx (gc mv wM (.int S'.dn) (.ref q) AM (.int S'.ay) (.str S'.side) (.str S'.mark) A4))):=.upd e trivial;obtain⟨ys,eq,rq⟩:=R.qu;refine⟨⟨dx,mv,wM,AM,A4,ba,RD.v v _ (jd _ _ _ _ _) r1,RD.v v _ (hZ _) r2,r3.v v,r4.v v⟩,ys,?_,?_⟩
  ·rw[aK R.ne.symm];exact eq
  ·rw[hd];exact aJ.v v _ hn rq
theorem Zb:bp ["self"] ["self"] (aV ER):=bI (by decide+kernel)
inductive UX(K:aa)(C:Addr)(vs:List V)(H:Hp)(Q:VK):Prop |mk (a:_)(q:_)(M:_)(D:_)(S:_)(h0:vs=[.ref a])(h1:cF K C H a q M S)(h2:cm M D S)(h3:∀H',cF K C H' a q M {S with aR:=none}->aZ [a] H H'->Q (.int (S.ds.length:Nat)) H'):UX K C vs H Q
def M8(K:aa)(C:Addr):Sp:=fun vs H Q _=>UX K C vs H Q
theorem a2f{C:Addr}(F:MA K C "go" "Runner.go" ER)(TC:fY K C)(B:bP mg):cL P w K mg base C "go" 1 (M8 K C):=by
 refine F.has Zb (fun vs H Q E h=>?_) (fun _ _ _ _ _ _=>eK fun _=>rfl) (fun f aL A outer s H vs Q E hr h=>?_)
 · obtain⟨a,q,M,D,S,rfl,_⟩:=h
   rfl
 · obtain⟨a,q,M,D,S,rfl,R,ok,k⟩:=h
   obtain⟨dx,mv,bv,cE,tv,e,r1,r2,r3,r4⟩:=R.ob;obtain⟨ys,eq,rq⟩:=R.qu;refine⟨_,(aB (iV TC.cl TC.vK (pv 0) jo) (aG (aU (dU K B (O (cW TC.cl TC.jR (pv 0)) aw))))),?_⟩;refine⟨_,rfl,a,dx,_,rfl,e,by show 9<1000;decide,?_⟩;have lG:(L2.upd H a (.ins C dx (gc mv bv (.int S.dn) (.ref q) cE (.int S.ay) (.str S.side) (.str S.mark) .bo))) q=some (.lst ys):=by rw[aK R.ne.symm];exact eq
   refine⟨_,rfl,a,dx,_,_,rfl,ba,rfl,q,_,rfl,.inl (aF.of lG),?_⟩;rw[rq.length];exact k _ (R.Oo (S':={S with aR:=none}) e ok.row.no rfl r1 r2 r3 rfl) (qW (by simp))
def iS(f:Int)(pc:Rat):Int:=(pc.num+2*f*(pc.den:Int)-1)/(2*f*(pc.den:Int))
theorem Yl{f:Int}(hf:1<=f){pc:Rat}(h:0<=pc):(0<=iS f pc)/\(iS f pc=0->pc=0)/\pc<=((2*f*iS f pc:Int):Rat)/\(pc<=1600->iS f pc<=1000):=by
 have hn:=K6.mpr h;have hd:0<2*f*(pc.den:Int):=iB (by lia) (den_pos pc);have hd1:2*(pc.den:Int)<=2*f*(pc.den:Int):=by
  have:2*1*(pc.den:Int)<=2*f*(pc.den:Int):=WL (by lia) (by lia)
  lia
 unfold iS;generalize hD:2*f*(pc.den:Int)=dd at hd hd1;have q1:=Int.mul_ediv_add_emod (pc.num+dd-1) dd;have q2:=oj (pc.num+dd-1) (show dd≠0 by lia);have q3:=rP (pc.num+dd-1) hd;have q0:0<=(pc.num+dd-1)/dd:=Int.ediv_nonneg (by lia) (by lia);generalize hQ:(pc.num+dd-1)/dd=Q at q0 q1;generalize(pc.num+dd-1)%dd=R at q1 q2 q3;have hle:pc.num<=dd*Q:=by lia
 refine⟨q0,fun e=>?_,?_,fun hm=>?_⟩
 · rw[e,Int.mul_zero]at hle
   have:pc.num=0:=by lia
   exact Rat.num_eq_zero.mp this
 · refine zG.mp fun cx=>?_
   rw[CU,K7,K9]at cx;have e1:2*f*Q*(pc.den:Int)=dd*Q:=by rw[<-hD,Int.mul_right_comm]
   rw[e1]at cx
   lia
 · have ub:¬((1600:Rat)<pc):=zG.mpr hm
   rw[CU]at ub;have e1:(1600:Rat).num=1600:=rfl;have e2:(1600:Rat).den=1:=rfl;rw[e1,e2]at ub;have h3:pc.num<=1600*(pc.den:Int):=by lia
   refine Int.not_lt.mp fun cx=>?_;have h4:dd*1001<=dd*Q:=WM (by lia) (by lia)
   lia
theorem MT:bp ["self","p","q","in_one"] ["self"] (aV ED):=bI (by decide+kernel)
theorem a22{C:Addr}(F:MA K C "stops_in" "Runner.stops_in" ED)(TC:fY K C):cL P w K mg base C "stops_in" 1 (fj K C fun M S H Q=>Q (.int (iS M.f S.pc)) H):=by
 refine F.has MT (fun vs H Q E h=>?_) (fun _ _ _ _ _ _=>eK fun _=>rfl) (fun f aL A outer s H vs Q E hr h=>?_)
 · obtain⟨a,q,M,D,S,rfl,_⟩:=h
   rfl
 · obtain⟨a,q,M,D,S,rfl,R,ok,aO,k⟩:=h
   obtain⟨dx,mv,bv,cE,tv,e,r1,r2,⟨pa,rfl,tO⟩,r4⟩:=R.ob;have nd:=MT.nd;have qO:=aO.f1;obtain⟨ma,mb,rfl,gM,jB⟩:=kW r1;have bd:Bd 1600 S.pc:=(ok.pd.bd (eg ok.pm (by decide+kernel))).mono (by have:=ok.D2;lia);have hd:0<2*M.f*(S.pc.den:Int):=iB (by lia) (den_pos S.pc);have wd:Wd (2*M.f*(S.pc.den:Int)):=by
    refine gZ (n:=1700) ?_ (by decide);rw[fN];have h1:(2*M.f).natAbs<2^7:=by lia
    have:=kS h1 bd.den;exact g9 this (rL (by decide) (by decide))
   refine⟨_,(aB (fU (cW TC.cl TC.qx (pv 0)) (dR K rfl (n:=2) rfl (bR (bu 1 nd) (bR (bu 2 nd) dQ)))) (aB (pS 3 nd (aI bE (aI bE az (px K (cW TC.cl TC.qy (pv 0)) az)) (pv 2))) (aG (aU (aI m9 (aI gh (aI cS (pv 1) (pv 3)) az) (pv 3)))))),?_⟩;refine⟨_,rfl,a,dx,_,_,rfl,e,rfl,pa,_,rfl,tO,rfl,_,_,rfl,_,_,rfl,rfl,?_⟩;refine⟨_,rfl,a,dx,_,_,rfl,e,rfl,.inr ⟨ma,_,2,.int M.f,rfl,rfl,gM,rfl,_,_,rfl,rfl,.of_left (cg (by decide) (by decide)),?_⟩⟩;refine⟨_,rfl,_,_,rfl,rfl,.of_left (cg (by lia) (by lia)),?_⟩;refine⟨_,rfl,_,rfl,_,_,rfl,rfl,_,_,rfl,rfl,_,rfl,_,_,rfl,rfl,⟨hd,wd⟩,?_⟩;exact k
theorem MX:bp ["self","steps"] ["self"] (aV EM):=bI (by decide+kernel)
def jA(M:bM)(S:bj):bj:=match S.aR with |none=>{S with aR:=some (S.pc,iS M.f S.pc,0)} |some _=>S
inductive UW(K:aa)(C:Addr)(vs:List V)(H:Hp)(Q:VK):Prop |mk (a:_)(q:_)(M:_)(D:_)(S:_)(h0:vs=[.ref a])(h1:cF K C H a q M S)(h2:cm M D S)(h3:M.Ok)(h4:∀H',cF K C H' a q M (jA M S)->aZ [a] H H'->Q (.int (iS M.f S.pc)) H'):UW K C vs H Q
def M7(K:aa)(C:Addr):Sp:=fun vs H Q _=>UW K C vs H Q
theorem cm.hold{M:bM}{D:Nat}{S:bj}(h:cm M D S)(aO:M.Ok)(hD:D<=1490):cm M (D+10) (jA M S):=by have D1:=h.D1;unfold jA;cases hs:S.aR with |some z=>show cm M (D+10) S;have st:=h.aR;refine⟨h.row,h.rw,h.len,h.cZ,h.du,h.dn,h.pl,h.pd.mono (by lia),h.pm,?_,by lia,by lia⟩;rw[hs]at st⊢;obtain⟨sq,gH,gn⟩:=z;obtain⟨a1,a2,a3,a4,a5⟩:=st;exact⟨a1,a2,a3,a4.mono (by lia),a5⟩ |none=>obtain⟨z1,z2,z3,z4⟩:=Yl aO.f1.1 h.pd.nn;refine⟨h.row,h.rw,h.len,h.cZ,h.du,h.dn,h.pl,h.pd.mono (by lia),h.pm,?_,by lia,by lia⟩;refine⟨gA _,z1,z4 h.pm,h.pd,eg h.pm (by decide+kernel),z2,?_⟩;show S.pc*(iS M.f S.pc:Rat)<=S.pc*((iS M.f S.pc-0:Int):Rat);rw[Int.sub_zero];exact pK
theorem a2c{C:Addr}(F:MA K C "hold" "Runner.hold" EM)(TC:fY K C)(Iw:cL P w K mg base C "stops_in" 1 (fj K C fun M S H Q=>Q (.int (iS M.f S.pc)) H))(u6:cL P w K mg base C "is_held" 1 (fj K C fun _ S H Q=>Q (.bl S.aR.isSome) H)):cL P w K mg base C "hold" 2 (M7 K C):=by
 refine F.has MX (fun vs H Q E h=>?_) (fun _ _ _ _ _ _=>eK fun _=>rfl) (fun f aL A outer s H vs Q E hr h=>?_)
 · obtain⟨a,q,M,D,S,rfl,_⟩:=h
   rfl
 · obtain⟨a,q,M,D,S,rfl,R,ok,aO,k⟩:=h
   obtain⟨dx,mv,bv,cE,tv,e,r1,r2,r3,r4⟩:=R.ob;have nd:=MX.nd;refine⟨_,(aB (pS 1 nd (gK Iw TC.cl (hr.mono (by decide)) (pv 0))) (aB (gJ (bJ (fk (cM (gK u6 TC.cl (hr.mono (by decide)) (pv 0)))) (aG (iV TC.cl TC.vK (pv 0) (dS (O (cW TC.cl TC.qx (pv 0)) (O (pv 1) (O az aw)))))) bO)) (aG (aU (pv 1))))),?_⟩;refine⟨_,rfl,a,dx,_,rfl,e,rfl,a,q,M,D,S,rfl,R,ok,aO,?_⟩;refine⟨fun Z H1=>Z=[some (.ref a),some (.int (iS M.f S.pc))]/\cF K C H1 a q M (jA M S)/\aZ [a] H H1,?_,?_⟩
   · refine⟨_,rfl,a,dx,_,rfl,e,rfl,a,q,M,D,S,rfl,R,ok,aO,_,rfl,?_⟩
     cases hs:S.aR with |some z=>refine bF ⟨rfl,?_,aZ.refl _ _⟩;unfold jA;rw[hs];exact R |none=>
       refine bV ?_;refine⟨_,rfl,a,dx,_,_,rfl,e,rfl,_,rfl,bU rfl,fun t H1 n1=>?_⟩;have e1:=n1.same _ _ e;refine⟨_,rfl,a,dx,_,rfl,e1,by show 9<1000;decide,?_⟩;have eh:jA M S={S with aR:=some (S.pc,iS M.f S.pc,0)}:=by unfold jA;rw[hs]
       refine⟨rfl,?_,fun b o' eb hb=>?_⟩
       · rw[eh]
         exact(R.same ok.row.no n1.same).Oo (S':={S with aR:=some (S.pc,iS M.f S.pc,0)}) e1 ok.row.no rfl (RD.mono n1.same _ r1) (RD.mono n1.same _ r2) (r3.go n1.same) ⟨t,cE,rfl,aP.of n1.at',r3.go n1.same⟩
       · have ha:b≠a:=fun z=>hb (by rw[z];simp)
         rw[aK ha];exact n1.same _ _ eb
   · rintro Z H1 ⟨rfl,R1,b1⟩
     exact⟨_,rfl,k H1 R1 b1⟩
end
end Lw
set_option maxHeartbeats 1000000
namespace Lw
open PySem PySem.Spec PyProof.Rows L2 Rt Ln Cn Pn
open Ow (topR cornO mnO betR atO ownF leadF ownL OkI OkIs)
section
variable {w:World}{mg:Str->Option Value}{base:Heap}
inductive Vs(K:aa)(vs:List V)(H:Hp)(Q:VK):Prop |mk (m:_)(iv:_)(ay:_)(rs:_)(r:_)(f:_)(j:_)(t:_)(ds:_)(os:_)(h0:vs=[m,iv,.int ay])(h1:RD K H m (iX rs r f j t))(h2:nU rs r f j t)(h3:RD K H iv (.list ds))(h4:gO rs.length ds os)(h5:ds.length<=100)(h6:10<=ay)(h7:ay<=200)(h8:∀l ys H',H l=none->H' l=some (.lst ys)->aJ K H' ys ((ownL j ay os).map cR)->aE H H'->Q (.ref l) H'):Vs K vs H Q
def Mj(K:aa):Sp:=fun vs H Q _=>Vs K vs H Q
def jr(j ay:Int)(os:List Itm)(i:Nat):List Rat:=(List.range (os.length+1)).map fun k=>if k<=i then ownF j ay os k else 0
theorem vn(j ay:Int)(os:List Itm)(i:Nat){k:Nat}(h:k<=os.length):(jr j ay os i)[k]? =some (if k<=i then ownF j ay os k else 0):=by unfold jr;rw[cA,cj (by simp;lia),uK];rfl
theorem oJ(j ay:Int)(os:List Itm)(i:Nat):(jr j ay os i).length=os.length+1:=by simp[jr]
theorem OI(j ay:Int)(os:List Itm)(i:Nat)(h:i+1<=os.length):(jr j ay os i).set (i+1) (ownF j ay os (i+1))=jr j ay os (i+1):=by
 apply rO;intro k;by_cases hk:k<=os.length
 · rw[vn j ay os (i+1) hk,List.getElem?_set]
   by_cases e:i+1=k
   · subst e
     rw[bc rfl,bc (by rw[oJ];lia),bc (bK _)]
   · rw[bf e,vn j ay os i hk]
     congr 1;by_cases h1:k<=i
     ·rw[bc h1,bc (by lia)]
     ·rw[bf h1,bf (by lia)]
 ·rw[lM (by rw[uJ,oJ];lia),lM (by rw[oJ];lia)]
theorem a1n(j ay:Int)(os:List Itm)(i:Nat)(h:i+1<=os.length)(e:ownF j ay os (i+1)=0):jr j ay os (i+1)=jr j ay os i:=by
 apply rO;intro k;by_cases hk:k<=os.length
 · rw[vn j ay os (i+1) hk,vn j ay os i hk]
   congr 1;by_cases h1:k<=i
   ·rw[bc h1,bc (by lia)]
   · rw[bf h1]
     by_cases h2:k=i+1
     ·subst h2;rw[bc (bK _),e]
     ·rw[bf (by lia)]
 ·rw[lM (by rw[oJ];lia),lM (by rw[oJ];lia)]
theorem NG:bp ["_law_machine_here","_law_items","_law_rate","_law_found","_law_border","_law_one","_law_other_here","_law_a","_law_b","_law_gap","_law_corner"] ["_law_machine_here","_law_items","_law_rate"] (aV FE):=bI (by decide+kernel)
theorem a2V(F:FA K mg "_law_bounds" FE)(B:bP mg)(qK:aD P w K mg base "_law_lead" 1 (lO K))(u7:aD P w K mg base "_law_min" 2 (jn K))(BQ:aD P w K mg base "_law_top" 2 (DI K))(qL:aD P w K mg base "_law_frac" 1 (xE K)):aD P w K mg base "_law_bounds" 3 (Mj K):=by
 refine F.has NG (fun vs H Q E h=>?_) (fun _ _ _ _ _ _=>nR fun _ _ _=>rfl) (fun f aL A outer s H vs Q E hr h=>?_)
 · obtain⟨m,iv,ay,rs,r,f,j,t,ds,os,rfl,_⟩:=h
   rfl
 · obtain⟨m,iv,ay,rs,r,f,j,t,ds,os,rfl,rm,aO,ri,row,hz,cZ,du,k⟩:=h
   have nd:=NG.nd;refine⟨_,(aB (Gk (i0:=3) nd rfl (Or.inl rfl) (N:=["_law_border"]) (js:=[none]) rfl rfl rfl (xV rfl (B.at "range") (O (aI cS (dU K B (O (pv 1) aw)) az) aw)) (fun _ _ _ _ _=>(bu 0 (tm _))) (fun _ _ _ _ _=>fF) (fun _ _ _ _ _=>(dS (O az (O az aw))))) (aB (lS gY rfl (Ox rfl (B.at "range") (O az (O (dU K B (O (pv 1) aw)) aw))) (bu 4 nd) (aB (oG (i:=5) (j:=6) rfl nd rfl rfl (by decide) rfl rfl (O (px K (pv 1) (aI gh (pv 4) az)) (O (px K (pv 1) (pv 4)) aw)) rfl) (aG (bJ (PW.pt (mT (bZ (cQ K rfl hr.units) (px K (pv 5) az) aW (bw _)) (qi (bZ (cQ K rfl hr.units) (px K (pv 6) az) aW (bw _))))) (aB (fU (dS (O (pf qK hr (O (pv 5) aw)) (O (pf qK hr (O (pv 6) aw)) aw))) (dR K rfl (n:=2) rfl (bR (bu 7 nd) (bR (bu 8 nd) dQ)))) (aB (pS 9 nd (dh (x:="max") (GX K rfl rfl) rfl (B.at "max") CW (O (gd (N:=["_law_x","_law_y","_law_b","_law_a"]) (js:=[none,none,some 8,some 7]) rfl rfl rfl (jP K rfl false false rfl (B.at "zip") (O (px K (pv 5) az) (O (px K (pv 6) az) aw))) (fun _ _ _ _ _=>(dR K rfl (n:=2) rfl (bR (bu 0 (show List.Nodup (["_law_x","_law_y","_law_b","_law_a"]:List Str) by decide+kernel)) (bR (bu 1 (show List.Nodup (["_law_x","_law_y","_law_b","_law_a"]:List Str) by decide+kernel)) dQ)))) (fun _ _ _ _ _=>fF) (fun _ _ _ _ _=>(dh (x:="abs") nQ rfl (B.at "abs") pM (O (aI gh (aI bE (pv 0) (pv 2)) (aI bE (pv 1) (pv 3))) aw)))) aw))) (aB (fU (pf u7 hr (O (dv (O (pf BQ hr (O (pv 5) (O (pv 2) aw))) (O (pf BQ hr (O (pv 6) (O (pv 2) aw))) aw))) aw)) (sQ (pv 3) (pv 4) set_list)) (aG (bJ (bZ qk (pv 9) az (bw _)) (aB (pS 10 nd (pf qL hr (O (aI vo (aI bE (aI bE (px K (pv 0) az) (pv 7)) (pv 8)) az) (O (aI vo (pv 9) az) aw)))) (aG (fU (pf u7 hr (O (dv (O (px K (pv 3) (pv 4)) (O (pv 10) aw))) aw)) (sQ (pv 3) (pv 4) set_list)))) bO))))) bO)))) (aG (aU (pv 3))))),?_⟩;obtain⟨ia,xs,rfl,hi,ir⟩:=ri.lst_inv;obtain⟨ma,mb,rfl,gM,jB⟩:=kW rm;have lx:=ir.length;have ll:=row.len;have lr:=aO.len;refine⟨_,rfl,ia,_,rfl,.inl hi,_,_,rfl,rfl,_,rfl,by lia,by lia,fun D H1 n1=>?_⟩;have eN:((xs.length:Int)+1).toNat=os.length+1:=by lia
   rw[eN];refine aar (K:=K) (lo:=0) (n:=os.length+1) (ds:=(jr j ay os 0).map cR) _ n1 (by rw[cu,oJ]) (by lia) (vF _) ?_ ?_
   · intro i d H2 Q' ed s2 hq
     have QF:i<=os.length:=by have:=(dM.mp ed).1;rw[cu,oJ]at this;lia
     have e0:d=cR 0:=by
      rw[cA,vn j ay os 0 QF]at ed;have:=(dP ed).symm;rw[this];congr 1;split
      · next h => have:i=0:=by lia
                  subst this;rfl
      ·rfl
     subst e0;refine⟨bU rfl,fun z H3 n3=>?_⟩;exact hq _ _ n3.same (bh.rd ⟨z,rfl,aP.of n3.at'⟩)
   intro H2 ys s2 d2 r2;refine⟨_,rfl,ia,_,rfl,.inl (hi.go s2),_,_,rfl,⟨by decide,by decide,by lia,by lia⟩,?_⟩;refine C0 (Pv:=fun i Z H5=>aE H H5/\∃(ys:List V)(v1 v2 v3 v4 v5 v6 v7:Option V),H5 D=some (.lst ys)/\aJ K H5 ys ((jr j ay os i).map cR)/\Z=[some (.ref ma),some (.ref ia),some (.int ay),some (.ref D),v1,v2,v3,v4,v5,v6,v7]) ?_ ?_ ?_
   ·exact⟨s2,ys,none,none,none,none,none,none,none,d2,r2,rfl⟩
   · rintro i Z H5 BH ⟨s5,ys,v1,v2,v3,v4,v5,v6,v7,dl,qc,rfl⟩
     have hio:i+1<os.length:=by lia
     have nK:=cj (show i<os.length by lia);have m4:=cj hio;obtain⟨x1,qQ⟩:∃x,xs[i]? =some x:=⟨_,cj (show i<xs.length by lia)⟩;obtain⟨x2,C5⟩:∃x,xs[i+1]? =some x:=⟨_,cj (show i+1<xs.length by lia)⟩;obtain⟨d1,e1,r1⟩:=ir.get' i qQ;obtain⟨d2,e2,r2⟩:=ir.get' (i+1) C5;have i1:=row.it i d1 _ e1 nK;have i2:=row.it (i+1) d2 _ e2 m4;have BA:ownF j ay os (i+1)=betR j ay os[i] os[i+1]:=by show betR j ay (atO os i) (atO os (i+1))=_;rw[Ow.pE nK,Ow.pE m4]
     have Ji:((1:Int)+(i:Int)-1).toNat=i:=by lia
     have Jh:((1:Int)+(i:Int)).toNat=i+1:=by lia
     have JH:fJ xs ((1:Int)+(i:Int)-1)=some x1:=dc (by lia) (by rw[Ji];exact qQ);have at2:fJ xs ((1:Int)+(i:Int))=some x2:=dc (by lia) (by rw[Jh];exact C5);have QG:=hi.go s5;obtain⟨a1,w1,y1,rfl,h1,ew1,Yd⟩:=vU (RD.mono s5 _ r1) i1;obtain⟨a2,w2,y2,rfl,h2,ew2,Yc⟩:=vU (RD.mono s5 _ r2) i2;have same:os[i]=none\/os[i+1]=none->aJ K H5 ys ((jr j ay os (i+1)).map cR):=fun hn=>by
      rw[a1n j ay os i (by lia)]
      ·exact qc
      · rw[BA]
        rcases hn with e|e
        ·rw[e];exact Ow.Tr _ _ _
        ·rw[e];exact Ow.Cq _ _ _
     refine⟨_,rfl,_,rfl,_,_,rfl,rfl,.inl ⟨ia,_,_,_,rfl,rfl,QG,JH,_,rfl,_,rfl,.inl ⟨ia,_,_,_,rfl,rfl,QG,at2,_,_,rfl,?_⟩⟩⟩;refine⟨_,rfl,.inr ⟨a1,_,0,.str w1,rfl,rfl,h1,dc (gA 0) rfl,.inr ⟨_,_,cV _,cV _,Yd,tF,_,rfl,?_⟩⟩⟩;rw[ew1];cases HS:os[i]with |none=>exact bF ⟨s5,ys,_,_,_,_,_,_,_,dl,same (.inl HS),rfl⟩ |some q1=>refine bV ?_;refine⟨_,rfl,.inr ⟨a2,_,0,.str w2,rfl,rfl,h2,dc (gA 0) rfl,.inr ⟨_,_,cV _,cV _,Yc,tF,_,rfl,?_⟩⟩⟩;rw[ew2];cases wc:os[i+1]with |none=>exact bF ⟨s5,ys,_,_,_,_,_,_,_,dl,same (.inr wc),rfl⟩ |some q2=>
         refine bV ?_;obtain⟨ns,sp⟩:=q1;obtain⟨ms,sq⟩:=q2;rw[HS]at i1 nK;rw[wc]at i2 m4;have ed1:=kC i1;have ed2:=kC i2;subst ed1 ed2;obtain⟨fV,p1,p2⟩:=row.ok i ns sp nK;obtain⟨eG,q1,q2⟩:=row.ok (i+1) ms sq m4;have T1:Bd 2000 (topR ay sp):=(Ow.uO p1 p2 cZ du).mono (by decide);have T2:Bd 2000 (topR ay sq):=(Ow.uO q1 q2 cZ du).mono (by decide);have l1:=yx fV;have l2:=yx eG;have lq1:=fV.lead.1;have lq2:=eG.lead.1;have ln1:ns.length<=3:=by rw[fV.len];lia
         have ln2:ms.length<=3:=by rw[eG.len];lia
         have PU:ms.length=ns.length:=by rw[fV.len,eG.len]
         refine⟨_,rfl,_,ns,sp,rfl,RD.mono s5 _ r1,fV.ne,by lia,fun H6 s6=>?_⟩;have NQ:=s5.trans s6;refine⟨_,rfl,_,ms,sq,rfl,RD.mono NQ _ r2,eG.ne,by lia,fun H7 s7=>?_⟩;refine⟨bU rfl,fun tq H7' GR=>?_⟩;refine⟨tq,_,rfl,aP.of GR.at',rfl,_,_,rfl,_,_,rfl,rfl,?_⟩;have mQ:=NQ.trans (s7.trans GR.same);have Zj:=s6.trans (s7.trans GR.same);obtain⟨a1',b1,ea1,ha1,BN⟩:=lV (RD.mono mQ _ r1);obtain⟨a2',b2,ea2,ha2,ml⟩:=lV (RD.mono mQ _ r2);cases ea1;cases ea2;refine⟨_,rfl,.inr ⟨a1,_,1,.ref b1,rfl,rfl,ha1,rfl,_,rfl,.inr ⟨a2,_,1,.ref b2,rfl,rfl,ha2,rfl,b1,b2,rfl,⟨_,BN⟩,⟨_,ml⟩,fun D4 H8 n8=>?_⟩⟩⟩;refine uq (K:=K) (b1:=false) (b2:=false) (xs:=ns.map V.int) (ys:=ms.map V.int) (ds:=((da ns ms).map iK).map PyData.int) _ rfl BN ml n8 (by simp[da]) (by simp[da];lia) (kR _) ?_ ?_
         · intro i x y d H9 Q' ex ey ed s9 hq
           obtain⟨a,b,e1,e2,rfl,rfl⟩:=zip2 PU ex ey;obtain⟨m,em,rfl⟩:=md ed;rw[cA,Ky e1 e2]at em;cases em;have q1:=fV.bd a (gG e1);have q2:=eG.bd b (gG e2);refine⟨_,rfl,_,rfl,_,_,rfl,rfl,.of_left (cg (by lia) (by lia)),?_⟩;refine⟨_,rfl,_,rfl,_,_,rfl,rfl,.of_left (cg (by lia) (by lia)),?_⟩;exact⟨_,_,rfl,rfl,_,rfl,hq _ _ (aE.refl _) (dC _)⟩
         intro H9 zs s9 d9 r9;rw[r9.iY]at d9;have ka:da ns ms≠[]:=by
          have hl:(da ns ms).length=ns.length:=by simp[da,PU]
          intro e;rw[e]at hl;exact fV.ne (D7.mp hl.symm)
         refine⟨D4,_,rfl,aF.of d9,by simpa using ka,fun M h1 h2=>?_⟩;have eM:=Hg ka h1 h2;subst eM;have NP:=mQ.trans s9;have Zi:=Zj.trans s9;refine⟨_,rfl,_,rfl,_,ns,sp,ay,rfl,RD.mono NP _ r1,p1,p2,cZ,du,fun t1 jF FY mR=>?_⟩;refine⟨_,rfl,_,rfl,_,ms,sq,ay,rfl,RD.mono (NP.trans mR) _ r2,q1,q2,cZ,du,fun t2 iO FX Az=>?_⟩;refine⟨bU rfl,fun lm rC B5=>?_⟩;have R1:bh K rC t1 (topR ay sp):=(FY.go Az).go B5.same;have R2:bh K rC t2 (topR ay sq):=FX.go B5.same;refine⟨lm,[t1,t2],[topR ay sp,topR ay sq],rfl,aF.of B5.at',⟨R1,T1,R2,T2,trivial⟩,by simp,fun c lv q Jf Sj hq=>?_⟩;have tL:mn (topR ay sp) (topR ay sq)=q:=by
          refine mX ?_ (hq _ (by simp)) (hq _ (by simp))
          match c,Sj with |0,e2=>cases e2;exact .inl rfl |1,e2=>cases e2;exact .inr rfl
         have rl:bh K rC lv (mn (topR ay sp) (topR ay sq)):=by
          rw[tL]
          match c,Jf,Sj with |0,e1,e2=>cases e1;cases e2;exact R1 |1,e1,e2=>cases e1;cases e2;exact R2
         have Zh:=mR.trans (Az.trans B5.same);have FK:=Zi.trans Zh;have Jm:=FK _ _ dl;have ly:=qc.length;rw[cu,oJ]at ly;have Ho:jy ys.length ((1:Int)+(i:Int))=some (i+1):=by unfold jy;rw[bc (by lia),bc (by lia),Jh]
         refine⟨_,rfl,_,rfl,D,ys,_,_,rfl,rfl,Jm,Ho,?_⟩;have G5:=aJ.E3 (i:=i+1) Jm (aJ.mono FK _ qc) rl.rd (vF _) (qh _);have sD:∀{o:HO},aE H (L2.upd rC D o):=fun{o} b o' e=>by rw[aK (fW e n1.no)];exact FK b o' (s5 b o' e)
         have tU:iL rC (L2.upd rC D (.lst (ys.set (i+1) lv))):=.pU Jm;refine⟨_,rfl,_,_,rfl,rfl,_,rfl,?_⟩;rw[HS,wc]at BA;have cO:cornO j ns ms=if aH (da ns ms)=0 then none else some (Rat.divInt ((j*aH ns*aH ms)^2) ((aH (da ns ms):Int)^2)):=rfl;show if decide ((aH (da ns ms):Int)>0)=true then _ else _;by_cases h0:aH (da ns ms)=0
         · rw[fe (by lia)]
           refine bF ?_;rw[bc h0]at cO;refine⟨sD,ys.set (i+1) lv,_,_,_,_,_,_,_,ba,?_,rfl⟩;rw[<-zJ]at G5;have e:(jr j ay os i).set (i+1) (mn (topR ay sp) (topR ay sq))=jr j ay os (i+1):=by rw[<-OI j ay os i (by lia),BA];show _=List.set _ _ (mnO _ (cornO j ns ms));rw[cO];rfl
           rw[<-e];exact G5
         · rw[cH (by lia)]
           refine bV ?_;rw[bf h0]at cO;have jl:(j*aH ns).natAbs<=50*100:=kU (by have:=aO.j1;lia) (by lia);have jl2:(j*aH ns*aH ms).natAbs<=50*100*100:=kU jl (by lia);have cb:=Cg (fun z hz=>by have:=fV.bd z hz;lia) (fun z hz=>by have:=eG.bd z hz;lia) (ns:=ns) (ms:=ms);have lY:=nc cb;have lD:(2:Nat)^64=18446744073709551616:=by decide
           refine⟨_,rfl,.inr ⟨ma,_,3,.int j,rfl,rfl,gM.go sD,rfl,?_⟩⟩;refine⟨_,rfl,_,_,rfl,rfl,.of_left (cg (by have:=aO.j1;lia) (by have:=aO.j1;lia)),_,rfl,_,_,rfl,rfl,.of_right (cg (by lia) (by lia)),?_⟩;refine⟨_,_,rfl,rfl,⟨by decide,by decide,by rw[lD];lia⟩,_,rfl,_,_,rfl,rfl,⟨by decide,by decide,by rw[lD];lia⟩,_,_,rfl,?_,?_,fun v6 K1 r6 df=>?_⟩
           · show 0<(aH (da ns ms):Int)^2
             rw[fM,fM,lN,kI];exact iB (by lia) (by lia)
           · refine gZ (n:=64) ?_ (by decide)
             show((aH (da ns ms):Int)^2).natAbs<_;rw[fM,fM,lN,kI,lD];have:=kU (a:=(aH (da ns ms):Int)) (b:=(aH (da ns ms):Int)) (m:=2000000) (n:=2000000) (by lia) (by lia)
             lia
           have Rc:bh K K1 v6 (Rat.divInt ((j*aH ns*aH ms)^2) ((aH (da ns ms):Int)^2)):=r6;have Tc:Bd 2000 (Rat.divInt ((j*aH ns*aH ms)^2) ((aH (da ns ms):Int)^2)):=(Ow.Js aO.j1.1 aO.j1.2 fV.bd eG.bd cO).mono (by decide);generalize Rat.divInt ((j*aH ns*aH ms)^2) ((aH (da ns ms):Int)^2)=cq at Rc Tc cO;have Su:=df _ _ (ba (H:=rC) (a:=D) (o:=.lst (ys.set (i+1) lv)));have at3:fJ (ys.set (i+1) lv) ((1:Int)+(i:Int))=some lv:=dc (by lia) (by rw[Jh,zK (by lia)]);have abF:bh K K1 lv (mn (topR ay sp) (topR ay sq)):=mS (RD.mono df _ (RD.t tU _ (qh _) rl.rd));refine⟨_,rfl,_,rfl,.inl ⟨D,_,_,_,rfl,rfl,aF.of Su,at3,_,rfl,?_⟩⟩;refine⟨bU rfl,fun He Wj vM=>?_⟩;have U7:=abF.go vM.same;have U6:=Rc.go vM.same;refine⟨He,[lv,v6],[mn (topR ay sp) (topR ay sq),cq],rfl,aF.of vM.at',⟨U7,Ow.yn T1 T2,U6,Tc,trivial⟩,by simp,fun c' lv2 q' a9M Si jU=>?_⟩;have a5K:mn (mn (topR ay sp) (topR ay sq)) cq=q':=by
            refine mX ?_ (jU _ (by simp)) (jU _ (by simp))
            match c',Si with |0,e2=>cases e2;exact .inl rfl |1,e2=>cases e2;exact .inr rfl
           have G3:bh K Wj lv2 (mn (mn (topR ay sp) (topR ay sq)) cq):=by
            rw[a5K]
            match c',a9M,Si with |0,e1,e2=>cases e1;cases e2;exact U7 |1,e1,e2=>cases e1;cases e2;exact U6
           have Ss:=vM.same _ _ Su;refine⟨_,rfl,_,rfl,D,_,_,_,rfl,rfl,Ss,(by rw[uJ];exact Ho),?_⟩;have O9:=aJ.E3 (i:=i+1) Ss (aJ.mono (df.trans vM.same) _ G5) G3.rd (by rw[<-zJ];exact vF _) (qh _);refine⟨fun b o' e=>by rw[aK (fW e n1.no)];exact vM.same b o' (df b o' (sD b o' e)),_,_,_,_,_,_,_,_,ba,?_,rfl⟩;rw[Kk,Kk,<-zJ]at O9;have e:(jr j ay os i).set (i+1) (mn (mn (topR ay sp) (topR ay sq)) cq)=jr j ay os (i+1):=by rw[<-OI j ay os i (by lia),BA];show _=List.set _ _ (mnO _ (cornO j ns ms));rw[cO];rfl
           rw[<-e,Kk];exact O9
   · rintro Z H5 ⟨s5,ys,v1,v2,v3,v4,v5,v6,v7,dl,qc,rfl⟩
     have e:jr j ay os ((xs.length:Int)-1).toNat=ownL j ay os:=by
      apply rO;intro k;by_cases hk:k<=os.length
      · rw[vn j ay os _ hk,Ow.OK j ay os hk]
        congr 1;split
        ·rfl
        · have:k=os.length:=by lia
          exact(Ow.Gv j ay os k this).symm
      ·rw[lM (by rw[oJ];lia),lM (by rw[Ow.OJ];lia)]
     rw[e]at qc;exact⟨_,rfl,k D ys H5 n1.no dl qc s5⟩
inductive Uy(K:aa)(vs:List V)(H:Hp)(Q:VK):Prop |mk (m:_)(sq:_)(rs:_)(r:_)(f:_)(j:_)(ti:_)(q:_)(h0:vs=[m,sq])(h1:RD K H m (iX rs r f j ti))(h2:bh K H sq q)(h3:Bd 2000 q)(h4:1<=ti)(h5:ti<=100)(h6:0<q.num)(h7:∀T,1<=T->T.natAbs<2^2400->fX ti q T=true->fX ti q (T-1)=false->∀H',aE H H'->Q (.int T) H'):Uy K vs H Q
def LQ(K:aa):Sp:=fun vs H Q _=>Uy K vs H Q
theorem MC:bp ["_law_machine_here","_law_square","_law_wanted","_law_low","_law_high","_law_half"] ["_law_machine_here","_law_square"] (aV Ee):=bI (by decide+kernel)
theorem a1L(F:FA K mg "_law_ticks" Ee)(B:bP mg):aD P w K mg base "_law_ticks" 1 (LQ K):=by
 refine F.has MC (fun vs H Q E h=>?_) (fun _ _ _ _ _ _=>dy fun _ _=>rfl) (fun f aL A outer s H vs Q E hr h=>?_)
 · obtain⟨m,sq,rs,r,f,j,ti,q,rfl,_⟩:=h
   rfl
 · obtain⟨m,sq,rs,r,f,j,ti,q,rfl,rm,⟨p,rfl,hp⟩,bq,t1,t2,hq,k⟩:=h
   have nd:=MC.nd;refine⟨_,(aB (pS 2 nd (aI bE (aI vo (px K (pv 0) az) az) (px K (pv 1) az))) (aB (fU (dS (O az (O az aw))) (dR K rfl (n:=2) rfl (bR (bu 3 nd) (bR (bu 4 nd) dQ)))) (aB (mU gY (bZ jQ (aI bE (aI bE (pv 4) (pv 4)) (px K (pv 1) az)) (pv 2) (bw _)) (aG (oG (i:=3) (j:=4) rfl nd rfl rfl (by decide) rfl rfl (O (pv 4) (O (aI bE az (pv 4)) aw)) rfl))) (aB (mU gY (bZ qk (aI gh (pv 4) (pv 3)) az (bw _)) (aB (pS 5 nd (aI m9 (aI cS (pv 3) (pv 4)) az)) (aG (bJ (bZ jQ (aI bE (aI bE (pv 5) (pv 5)) (px K (pv 1) az)) (pv 2) (bw _)) (aG (pS 3 nd (pv 5))) (aG (pS 4 nd (pv 5))))))) (aG (aU (pv 4))))))),?_⟩;obtain⟨a,b,rfl,ha,hb⟩:=kW rm;have m1:(ti*ti).natAbs<=100*100:=by rw[fN];exact mF (by lia) (by lia)
   have eP:ti^(2:Int).toNat=ti*ti:=by show ti^2=ti*ti;rw[fM,fM,lN,kI]
   have lim:(ti*ti*(q.den:Int)).natAbs<2^2399:=by have hd:=bq.den;rw[fN];have:(q.den:Int).natAbs=q.den:=rfl;rw[this];have:=kS (n:=14) (m:=2000) (a:=(ti*ti).natAbs) (b:=q.den) (pN m1 (by decide)) hd;exact g9 this (rL (by decide) (by decide))
   have p0:0<ti*ti*(q.den:Int):=iB (iB (by lia) (by lia)) (den_pos q);have e2:(2:Nat)^2400=2^2399*2:=Nat.pow_succ 2 2399;have zV:∀{t:Int},t.natAbs<2^2400->Wd (t*t):=fun{t} tw=>gZ (n:=4800) (by rw[fN];exact kS (n:=2400) (m:=2400) tw tw) (by decide);have wt:∀{t:Int},t.natAbs<2^2400->Wd t:=fun{t} tw=>gZ tw (by decide);refine⟨_,rfl,.inr ⟨a,_,4,.int ti,rfl,rfl,ha,rfl,?_⟩⟩
   refine ⟨_, _, rfl, rfl, ⟨by decide, by decide, by have:(2:Nat)^64=18446744073709551616:=by decide
                                                     lia⟩,?_⟩;refine⟨_,rfl,.inr ⟨p,_,1,.int q.den,rfl,rfl,hp,rfl,?_⟩⟩;refine⟨_,_,rfl,rfl,by rw[eP];exact .of_left (cg (by lia) (by lia)),?_⟩;have eW:ti^(2:Int).toNat*(q.den:Int)=ti*ti*(q.den:Int):=by rw[eP]
   have Sf:∀t:Int,decide (t*t*q.num<ti^(2:Int).toNat*(q.den:Int))= !fX ti q t:=fun t=>by unfold fX;rw[eW,<-decide_not];exact decide_eq_decide.mpr (by lia)
   refine⟨bU rfl,fun c0 H0 n0=>?_⟩;refine⟨c0,_,rfl,aP.of n0.at',rfl,_,_,rfl,_,_,rfl,rfl,?_⟩;have Bz:=hp.go n0.same;have k':∀T:Int,1<=T->T.natAbs<2^2400->fX ti q T=true->fX ti q (T-1)=false->Q (.int T) H0:=fun T a1 a2 a3 a4=>(k T a1 a2 a3 a4) H0 n0.same;generalize hL:ti*ti*(q.den:Int)=L at lim p0;refine mG (fun Z H2=>H2=H0/\∃(lo x:Int),Z=[some (.ref a),some (.ref p),some (.int (ti^(2:Int).toNat*(q.den:Int))),some (.int lo),some (.int x),none]/\0<=lo/\lo<x/\x<=2*L/\fX ti q lo=false) (fun Z _=>match Z with|[_,_,_,_,some (.int x),_]=>(L-x).toNat|_=>0) ?_ ?_ ?_
   ·exact⟨rfl,0,1,rfl,by lia,by lia,by lia,Sa t1⟩
   · rintro Z H2 ⟨rfl,lo,x,rfl,l0,lx,xL,hx⟩
     have xw:x.natAbs<2^2400:=by lia
     refine⟨_,rfl,_,rfl,_,_,rfl,rfl,iA (wt xw).bits (wt xw).bits,_,rfl,.inr ⟨p,_,0,.int q.num,rfl,rfl,Bz,rfl,_,_,rfl,rfl,iA (zV xw).bits bq.wn.bits,?_⟩⟩;refine⟨_,rfl,_,_,rfl,rfl,_,rfl,?_⟩;show if decide (x*x*q.num<ti^(2:Int).toNat*(q.den:Int))=true then _ else _;rw[Sf];cases p5:fX ti q x with
     |false=>
       have cx:x<L:=by
        by_cases cx:x<L
        ·exact cx
        ·rw[Sd hq (by lia) (by lia)]at p5;cases p5
       refine bV ?_;refine⟨_,rfl,_,rfl,_,_,rfl,rfl,.of_left (cg (by decide) (by decide)),_,_,rfl,?_⟩;refine⟨⟨rfl,x,2*x,rfl,by lia,by lia,by lia,p5⟩,?_⟩;show(L-2*x).toNat<(L-x).toNat
       lia |true=>
       refine bF ?_;refine mG (fun Z H3=>H3=H2/\∃(lo hi:Int)(v:Option V),Z=[some (.ref a),some (.ref p),some (.int (ti^(2:Int).toNat*(q.den:Int))),some (.int lo),some (.int hi),v]/\0<=lo/\lo<hi/\hi<=2*L/\fX ti q lo=false/\fX ti q hi=true) (fun Z _=>match Z with|[_,_,_,some (.int y),some (.int x),_]=>(x-y).toNat|_=>0) ?_ ?_ ?_
       ·exact⟨rfl,lo,x,none,rfl,by lia,by lia,xL,hx,p5⟩
       · rintro Z H3 ⟨rfl,lo,hi,v,rfl,l0,lh,yN,za,uh⟩
         refine⟨_,rfl,_,rfl,_,_,rfl,rfl,_,_,rfl,rfl,_,rfl,?_⟩;refine dN (fun hc=>?_) (fun hc=>?_)
         · have hgt:hi-lo>1:=jI hc
           refine⟨_,rfl,_,rfl,_,_,rfl,rfl,_,_,rfl,rfl,⟨by decide,gZ (n:=2) (by decide) (by decide)⟩,?_⟩;have mw:((lo+hi)/2).natAbs<2^2400:=by lia
           refine⟨_,rfl,_,rfl,_,_,rfl,rfl,iA (wt mw).bits (wt mw).bits,_,rfl,.inr ⟨p,_,0,.int q.num,rfl,rfl,Bz,rfl,_,_,rfl,rfl,iA (zV mw).bits bq.wn.bits,?_⟩⟩;refine⟨_,rfl,_,_,rfl,rfl,_,rfl,?_⟩;show if decide ((lo+hi)/2*((lo+hi)/2)*q.num<ti^(2:Int).toNat*(q.den:Int))=true then _ else _;rw[Sf];cases hm:fX ti q ((lo+hi)/2)with
           |true=>
             refine bF ?_;refine⟨_,rfl,⟨rfl,lo,_,_,rfl,l0,by lia,by lia,za,hm⟩,?_⟩;show((lo+hi)/2-lo).toNat<(hi-lo).toNat
             lia |false=>
             refine bV ?_;refine⟨_,rfl,⟨rfl,_,hi,_,rfl,by lia,by lia,yN,hm,uh⟩,?_⟩;show(hi-(lo+hi)/2).toNat<(hi-lo).toNat
             lia
         · have hle:¬hi-lo>1:=fun z=>hc (cH z)
           have e:lo=hi-1:=by lia
           subst e;exact⟨_,rfl,k' hi (by lia) (by lia) uh za⟩
       · rintro Z H2 Q1 Q2 hq ⟨v1,e1,v2,e2,i,j,e3,e4,i2,j2,e5,e6,kk,e7,q⟩
         exact⟨v1,e1,v2,e2,i,j,e3,e4,i2,j2,e5,e6,kk,e7,hq _ _ q⟩
   · rintro Z H2 Q1 Q2 hq ⟨v1,e1,v2,e2,i,j,e3,e4,mo,v3,e5,h⟩
     refine⟨v1,e1,v2,e2,i,j,e3,e4,mo,v3,e5,?_⟩;rcases h with⟨a,xs,ii,x,f1,f2,f3,f4,i2,j2,g1,g2,g3,v4,g4,i3,j3,g5,g6,kk,g7,q⟩|⟨a,xs,ii,x,f1,f2,f3,f4,i2,j2,g1,g2,g3,v4,g4,i3,j3,g5,g6,kk,g7,q⟩
     ·exact .inl ⟨a,xs,ii,x,f1,f2,f3,f4,i2,j2,g1,g2,g3,v4,g4,i3,j3,g5,g6,kk,g7,hq _ _ q⟩
     ·exact .inr ⟨a,xs,ii,x,f1,f2,f3,f4,i2,j2,g1,g2,g3,v4,g4,i3,j3,g5,g6,kk,g7,hq _ _ q⟩
inductive UC(K:aa)(vs:List V)(H:Hp)(Q:VK):Prop |mk (v:_)(ns:_)(sp:_)(k:_)(h0:vs=[v,.int k])(h1:RD K H v (iH ns sp))(h2:eR ns.length 1000 ns)(h3:ns.length<=1000)(h4:0<=k)(h5:k<=10^6)(h6:∀v' H',RD K H' v' (DG ns k)->aE H H'->Q v' H'):UC K vs H Q
def LS(K:aa):Sp:=fun vs H Q _=>UC K vs H Q
theorem a8r{k n q:Int}(hk:0<=k)(hq:0<q):(if n<0 then-((2*k*iK n+q)/(2*q))else(2*k*iK n+q)/(2*q))=ip (k*n) q:=by
 have e:2*k*iK n=2*((k*n).natAbs:Int):=by rw[zk,fN,Int.natCast_mul,uM,Int.natAbs_of_nonneg hk]
 rw[e];show(if n<0 then-(kM (k*n) q)else kM (k*n) q)=ip (k*n) q;rcases Kt n 0 with hn|hn
 · rw[bc hn]
   rcases Kt 0 k with h0|h0
   · have:k*n<0:=Int.mul_neg_of_pos_of_neg h0 hn
     unfold ip;rw[bf (by lia)]
   · have e0:k=0:=by lia
     rw[e0,zN,GN hq];have:=GN hq;unfold ip at this;rw[bc (by lia)]at this
     lia
 · rw[bf (by lia)]
   have:0<=k*n:=jK hk hn;unfold ip;rw[bc this]
theorem MG:bp ["_law_line_here","_law_k","_law_lead_here","_law_found","_law_step","_law_far"] ["_law_line_here","_law_k"] (aV Ei):=bI (by decide+kernel)
theorem a1P(F:FA K mg "_law_stand" Ei)(B:bP mg)(qK:aD P w K mg base "_law_lead" 1 (lO K)):aD P w K mg base "_law_stand" 2 (LS K):=by
 refine F.has MG (fun vs H Q E h=>?_) (fun _ _ _ _ _ _=>dy fun _ _=>rfl) (fun f aL A outer s H vs Q E hr h=>?_)
 · obtain⟨v,ns,sp,k,rfl,_⟩:=h
   rfl
 · obtain⟨v,ns,sp,kk,rfl,rd,ok,hz,hk,ng,k⟩:=h
   have nd:=MG.nd;refine⟨_,(aB (pS 2 nd (pf qK hr (O (pv 0) aw))) (aB (pS 3 nd (dv aw)) (aB (lS gY rfl (qj K rfl (px K (pv 0) az)) (bu 4 nd) (aB (pS 5 nd (aI m9 (aI cS (aI bE (aI bE az (pv 1)) (dh (x:="abs") nQ rfl (B.at "abs") pM (O (pv 4) aw))) (pv 2)) (aI bE az (pv 2)))) (aG (gP (jq K rfl (pv 3) (O (px K (dv (O (pv 5) (O (xX xq (pv 5)) aw))) (ib (x:="int") Te rfl (B.at "int") Kd (O (fq jQ (pv 4) az (bw _)) aw))) aw)))))) (aG (aU (ib (x:="tuple") (kL K rfl) rfl (B.at "tuple") fL (O (pv 3) aw))))))),?_⟩;refine⟨_,rfl,v,ns,sp,rfl,rd,ok.ne,hz,fun H1 s1=>?_⟩;obtain⟨lp,lm⟩:=ok.lead;refine⟨bU rfl,fun l H2 n2=>?_⟩;obtain⟨a,b,rfl,ha,hb⟩:=lV (RD.mono (s1.trans n2.same) _ rd);refine⟨_,rfl,.inr ⟨a,_,1,.ref b,rfl,rfl,ha,rfl,b,rfl,⟨_,hb⟩,a8c (K:=K) (a:=b) (xs:=ns.map V.int) (fun i Z H3=>aE H1 H3/\aP K H3 b (ns.map V.int)/\H3 l=some (.lst (((ns.map fun z=>ip (kk*z) (aH ns)).take i).map V.int))/\∃v1 v2,Z=[some (.ref a),some (.int kk),some (.int (aH ns)),some (.ref l),v1,v2]) ⟨n2.same,hb,n2.at',none,none,rfl⟩ (fun i Z H3 _ h=>h.2.1) ?_ ?_⟩⟩
   · rintro i x Z H3 hx ⟨s3,QR,dl,v1,v2,rfl⟩
     obtain⟨n,en⟩:∃n,ns[i]? =some n:=by rw[cA]at hx;cases e:ns[i]? with |none=>rw[e]at hx;cases hx |some n=>exact⟨n,rfl⟩
     cases yo hx en;have nb:=ok.bd n (gG en);have hi:i<ns.length:=(dM.mp en).1;have ab:iK n=(n.natAbs:Int):=zk n;have pb:=Oq (k:=kk) (z:=n) (by lia) nb;have eA:2*kk*iK n=2*((kk*n).natAbs:Int):=by rw[ab,fN,Int.natCast_mul,uM,Int.natAbs_of_nonneg hk]
     refine⟨_,rfl,_,_,rfl,rfl,.of_left (cg (by decide) (by decide)),_,rfl,_,rfl,_,_,rfl,rfl,.of_left (cg (by lia) (by lia)),_,rfl,_,_,rfl,rfl,_,rfl,_,_,rfl,rfl,.of_left (cg (by decide) (by decide)),_,_,rfl,rfl,⟨by lia,KA (by lia)⟩,?_⟩;have fn:=a8r (n:=n) hk (show(0:Int)<aH ns by lia);refine⟨_,rfl,.inl ⟨rfl,_,aF.of dl⟩,_,rfl,_,rfl,_,rfl,bU rfl,fun c H4 n4=>?_⟩;refine⟨_,rfl,_,_,rfl,rfl,.inr ⟨_,rfl,?_⟩⟩;have Pl:=n4.same _ _ dl;have yM:fJ ([.int ((2*kk*iK n+(aH ns:Int))/(2*(aH ns:Int))),.int (-((2*kk*iK n+(aH ns:Int))/(2*(aH ns:Int))))]:List V) (if decide (n<0)=true then 1 else 0)=some (.int (ip (kk*n) (aH ns))):=by
      rw[<-fn];by_cases hn:n<0
      ·rw[bc (cH hn),bc hn];rfl
      ·rw[bf (fun z=>hn (jI z)),bf hn];rfl
     refine .inl ⟨c,_,_,_,rfl,rfl,aF.of n4.at',yM,?_⟩;refine⟨l,_,_,rfl,rfl,Pl,?_,?_⟩
     · have:(1000:Nat)<sizeLine:=by decide
       rw[cu,oh,cu];lia
     refine⟨fun b o e=>?_,aP.t (.pU Pl) (QR.go n4.same),?_,_,_,rfl⟩
     ·rw[aK (fW e n2.no)];exact n4.same b o (s3 b o e)
     ·rw[ba,pP,cA,en,og];rfl
   · rintro Z H3 ⟨s3,QR,dl,v1,v2,rfl⟩
     rw[Kj (by simp)]at dl;refine⟨_,rfl,l,_,rfl,.inl ⟨aF.of dl,fun t H4 n4=>?_⟩⟩;exact k _ _ (iT (aP.of n4.at') (vg _)) (s1.trans (s3.trans n4.same))
end
end Lw
set_option maxHeartbeats 2000000
namespace Lw
open PySem PySem.Spec PyProof.Rows L2 Rt Ln Cn Pn Wk Rn
open Ow (topR cornO mnO betR atO ownF leadF ownL OkI OkIs)
section
variable {w:World}{mg:Str->Option Value}{base:Heap}
theorem fA{n:Nat}(h:n+64<cLine):n+1<cLine:=pN (Nat.add_le_add_left (by decide) n) h
theorem cD{X:Cx}{k:Nat}{o i:Expr}{td ty:TE}{pos:Pos}(hr:cJ k X.A)(ho:PE X o td)(hi:PE X i ty)(hs:JS i:=by exact fun _ _=>rfl):PE X (.Subscript o i pos) (Lp td ty):=a0X (fA hr.units) ho hi hs
def bB(m p g s r t k q n b c re td:V):List (Key×V):=[(.inr "machine",m),(.inr "place",p),(.inr "goal",g),(.inr "square",s),(.inr "rate",r),(.inr "tool",t),(.inr "mark",k),(.inr "queue",q),(.inr "gone",n),(.inr "brake",b),(.inr "braked",c),(.inr "reach",re),(.inr "told",td)]
section
variable {H:Hp}{a:Addr}{m p g s r t k q n b c re td x:V}
theorem dg{aM:List (Key×V)}{z:Str}{v:V}(h:H a=some (.dK aM))(e:fT aM (.inr z)=some v):uB H a (.str z) (some v):=by rw[<-e];exact uB.k (k:=Sum.inr z) h
theorem dp{aM Qa:List (Key×V)}{z:Str}{v:V}(h:H a=some (.dK aM))(e:putK aM (.inr z) v=Qa)(hl:aM.length<=13):rE H a (.str z) v (L2.upd H a (.dK Qa)):=by rw[<-e];exact rE.k (k:=Sum.inr z) h (pN hl (by decide))
theorem yR:fT (bB m p g s r t k q n b c re td) (.inr "machine")=some m:=by kernel_rfl
theorem RC:fT (bB m p g s r t k q n b c re td) (.inr "place")=some p:=by kernel_rfl
theorem IJ:fT (bB m p g s r t k q n b c re td) (.inr "goal")=some g:=by kernel_rfl
theorem uc:fT (bB m p g s r t k q n b c re td) (.inr "square")=some s:=by kernel_rfl
theorem II:fT (bB m p g s r t k q n b c re td) (.inr "rate")=some r:=by kernel_rfl
theorem a7Y:fT (bB m p g s r t k q n b c re td) (.inr "tool")=some t:=by kernel_rfl
theorem a7Z:fT (bB m p g s r t k q n b c re td) (.inr "mark")=some k:=by kernel_rfl
theorem m3:fT (bB m p g s r t k q n b c re td) (.inr "queue")=some q:=by kernel_rfl
theorem BX:fT (bB m p g s r t k q n b c re td) (.inr "gone")=some n:=by kernel_rfl
theorem yS:fT (bB m p g s r t k q n b c re td) (.inr "brake")=some b:=by kernel_rfl
theorem RE:fT (bB m p g s r t k q n b c re td) (.inr "braked")=some c:=by kernel_rfl
theorem Rz:fT (bB m p g s r t k q n b c re td) (.inr "reach")=some re:=by kernel_rfl
theorem BW:fT (bB m p g s r t k q n b c re td) (.inr "told")=some td:=by kernel_rfl
theorem a1i:putK (bB m p g s r t k q n b c re td) (.inr "place") x=bB m x g s r t k q n b c re td:=by kernel_rfl
theorem a1k:putK (bB m p g s r t k q n b c re td) (.inr "goal") x=bB m p x s r t k q n b c re td:=by kernel_rfl
theorem a1h:putK (bB m p g s r t k q n b c re td) (.inr "square") x=bB m p g x r t k q n b c re td:=by kernel_rfl
theorem a1g:putK (bB m p g s r t k q n b c re td) (.inr "tool") x=bB m p g s r x k q n b c re td:=by kernel_rfl
theorem a1j:putK (bB m p g s r t k q n b c re td) (.inr "mark") x=bB m p g s r t x q n b c re td:=by kernel_rfl
theorem OF:putK (bB m p g s r t k q n b c re td) (.inr "gone") x=bB m p g s r t k q x b c re td:=by kernel_rfl
theorem OH:putK (bB m p g s r t k q n b c re td) (.inr "brake") x=bB m p g s r t k q n x c re td:=by kernel_rfl
theorem OG:putK (bB m p g s r t k q n b c re td) (.inr "braked") x=bB m p g s r t k q n b x re td:=by kernel_rfl
theorem AO:putK (bB m p g s r t k q n b c re td) (.inr "reach") x=bB m p g s r t k q n b c x td:=by kernel_rfl
theorem jO:(bB m p g s r t k q n b c re td).length<=13:=bK _
end
def uC(K:aa)(H:Hp)(bv cv:V):Rn.gs->Prop |none=>bv= .bo/\∃c,cv= .int c |some (sq,st,gn)=>∃a u,bv= .ref a/\aP K H a [u,.int st]/\bh K H u sq/\cv= .int gn
theorem uC.v{H H':Hp}{bv cv:V}{t:Rn.gs}(s:bS H H')(h:uC K H bv cv t):uC K H' bv cv t:=by cases t with |none=>exact h |some q=>obtain⟨sq,st,gn⟩:=q;obtain⟨a,u,rfl,h1,h2,h3⟩:=h;exact⟨a,u,rfl,aP.v s h1,bh.v s h2,h3⟩
def zo(K:aa)(H:Hp)(M:bM)(S:bj)(rv:V):Prop:=rv= .bo\/bh K H rv (fE M S)
theorem zo.v{H H':Hp}{M:bM}{S:bj}{rv:V}(s:bS H H')(h:zo K H M S rv):zo K H' M S rv:=h.imp id (bh.v s)
structure dH(K:aa)(H:Hp)(d q td:Addr)(M:bM)(S:bj):Prop where
 ob:∃mv lv gv sv bv cv rv,H d=some (.dK (bB mv lv gv sv (.int S.ay) (.str S.side) (.str S.mark) (.ref q) (.int S.dn) bv cv rv (.ref td)))/\RD K H mv M.D/\RD K H lv (fo (fm S))/\RD K H gv (fo (cP S))/\bh K H sv S.pc/\uC K H bv cv S.aR/\zo K H M S rv
 qu:∃ys,H q=some (.lst ys)/\aJ K H ys S.ds
theorem dH.go{H H':Hp}{d q td:Addr}{M:bM}{S:bj}(h:dH K H d q td M S)(hn:cN S.ds=true)(s:bS H H')(ea:∀o,H d=some o->H' d=some o)(eq:∀o,H q=some o->H' q=some o):dH K H' d q td M S:=by obtain⟨⟨mv,lv,gv,sv,bv,cv,rv,e,r1,r2,r3,r4,r5,r6⟩,ys,lG,rq⟩:=h;exact⟨⟨mv,lv,gv,sv,bv,cv,rv,ea _ e,RD.v s _ (jd _ _ _ _ _) r1,RD.v s _ (hZ _) r2,RD.v s _ (hZ _) r3,r4.v s,r5.v s,r6.v s⟩,ys,eq _ lG,aJ.v s _ hn rq⟩
theorem dH.same{H H':Hp}{d q td:Addr}{M:bM}{S:bj}(h:dH K H d q td M S)(hn:cN S.ds=true)(s:aE H H'):dH K H' d q td M S:=h.go hn s.v (fun o e=>s _ _ e) (fun o e=>s _ _ e)
theorem dH.ne{H:Hp}{d q td:Addr}{M:bM}{S:bj}(h:dH K H d q td M S):d≠q:=by obtain⟨⟨mv,lv,gv,sv,bv,cv,rv,e,_⟩,ys,lG,_⟩:=h;exact yh e lG (by intro z;cases z)
theorem dH.v{H H':Hp}{d q td:Addr}{M:bM}{S:bj}(h:dH K H d q td M S)(b:aZ [d,q] H H'):bS H H':=by
 obtain⟨⟨mv,lv,gv,sv,bv,cv,rv,e,_⟩,ys,lG,_⟩:=h;refine b.v fun x hx o eo=>?_;simp only[bN,cI,dB]at hx;rcases hx with rfl|rfl
 ·rw[e]at eo;cases eo;trivial
 ·rw[lG]at eo;cases eo;trivial
inductive UJ(K:aa)(vs:List V)(H:Hp)(Q:VK):Prop |mk (d:_)(q:_)(td:_)(M:_)(D:_)(S:_)(h0:vs=[.ref d])(h1:dH K H d q td M S)(h2:cm M D S)(h3:M.Ok)(h4:Q (.int (iS M.f S.pc)) H):UJ K vs H Q
def DK(K:aa):Sp:=fun vs H Q _=>UJ K vs H Q
theorem MK:bp ["_law_sim_here","_law_each"] ["_law_sim_here"] (aV Em):=bI (by decide+kernel)
theorem a1R(F:FA K mg "_law_sim_stops" Em)(B:bP mg):aD P w K mg base "_law_sim_stops" 1 (DK K):=by
 refine F.has MK (fun vs H Q E h=>?_) (fun _ _ _ _ _ _=>eK fun _=>rfl) (fun f aL A outer s H vs Q E hr h=>?_)
 · obtain⟨d,q,td,M,D,S,rfl,_⟩:=h
   rfl
 · obtain⟨d,q,td,M,D,S,rfl,R,ok,aO,k⟩:=h
   obtain⟨mv,lv,gv,sv,bv,cv,rv,e,r1,r2,r3,⟨pa,rfl,tO⟩,r5,r6⟩:=R.ob;have nd:=MK.nd;have qO:=aO.f1;obtain⟨ma,mb,rfl,gM,jB⟩:=kW r1;have bd:Bd 1600 S.pc:=(ok.pd.bd (eg ok.pm (by decide+kernel))).mono (by have:=ok.D2;lia);have hd:0<2*M.f*(S.pc.den:Int):=iB (by lia) (den_pos S.pc);have wd:Wd (2*M.f*(S.pc.den:Int)):=by
    refine gZ (n:=1700) ?_ (by decide);rw[fN];have h1:(2*M.f).natAbs<2^7:=by lia
    have:=kS h1 bd.den;exact g9 this (rL (by decide) (by decide))
   refine⟨_,(aB (pS 1 nd (aI bE (aI bE az (px K (cD hr (pv 0) aW) az)) (px K (cD hr (pv 0) aW) az))) (aG (aU (aI m9 (aI gh (aI cS (px K (cD hr (pv 0) aW) az) (pv 1)) az) (pv 1))))),?_⟩;refine⟨_,rfl,d,_,rfl,dg e yR,.inr ⟨ma,_,2,.int M.f,rfl,rfl,gM,rfl,_,_,rfl,rfl,.of_left (cg (by decide) (by decide)),?_⟩⟩;refine⟨_,rfl,d,_,rfl,dg e uc,.inr ⟨pa,_,1,_,rfl,rfl,tO,rfl,_,_,rfl,rfl,.of_left (cg (by lia) (by lia)),?_⟩⟩;refine⟨_,rfl,d,_,rfl,dg e uc,.inr ⟨pa,_,0,_,rfl,rfl,tO,rfl,_,rfl,_,_,rfl,rfl,_,_,rfl,rfl,_,rfl,_,_,rfl,rfl,⟨hd,wd⟩,?_⟩⟩;exact k
inductive UM(K:aa)(vs:List V)(H:Hp)(Q:VK):Prop |mk (d:_)(q:_)(td:_)(M:_)(D:_)(S:_)(h0:vs=[.ref d])(h1:dH K H d q td M S)(h2:cm M D S)(h3:M.Ok)(h4:∀H',dH K H' d q td M (jA M S)->aZ [d] H H'->Q (.int (iS M.f S.pc)) H'):UM K vs H Q
def LZ(K:aa):Sp:=fun vs H Q _=>UM K vs H Q
theorem MN:bp ["_law_sim_here","_law_many"] ["_law_sim_here"] (aV Ep):=bI (by decide+kernel)
theorem a1V(F:FA K mg "_law_sim_hold" Ep)(B:bP mg)(IC:aD P w K mg base "_law_sim_stops" 1 (DK K)):aD P w K mg base "_law_sim_hold" 2 (LZ K):=by
 refine F.has MN (fun vs H Q E h=>?_) (fun _ _ _ _ _ _=>eK fun _=>rfl) (fun f aL A outer s H vs Q E hr h=>?_)
 · obtain⟨d,q,td,M,D,S,rfl,_⟩:=h
   rfl
 · obtain⟨d,q,td,M,D,S,rfl,R,ok,aO,k⟩:=h
   obtain⟨mv,lv,gv,sv,bv,cv,rv,e,r1,r2,r3,r4,r5,r6⟩:=R.ob;obtain⟨ys,eq,rq⟩:=R.qu;have dq:=R.ne;have nd:=MN.nd;refine⟨_,(aB (pS 1 nd (pf IC hr (O (pv 0) aw))) (aB (gJ (bJ (bZ OT (cD hr (pv 0) aW) jo (bw _)) (aB (gB (fA hr.units) (pv 0) aW (dS (O (cD hr (pv 0) aW) (O (pv 1) aw))) rfl) (aG (gB (fA hr.units) (pv 0) aW az rfl))) bO)) (aG (aU (pv 1))))),?_⟩;refine⟨_,rfl,d,q,td,M,D,S,rfl,R,ok,aO,?_⟩;refine⟨fun Z H1=>Z=[some (.ref d),some (.int (iS M.f S.pc))]/\dH K H1 d q td M (jA M S)/\aZ [d] H H1,?_,?_⟩
   · refine⟨_,rfl,d,_,rfl,dg e yS,rfl,_,rfl,?_⟩
     cases hs:S.aR with |some z=>obtain⟨sq,st,gn⟩:=z;have iU:=r5;rw[hs]at iU;obtain⟨a,u,rfl,_⟩:=iU;refine bF ⟨rfl,?_,aZ.refl _ _⟩;unfold jA;rw[hs];exact R |none=>
       have iU:=r5;rw[hs]at iU;obtain⟨rfl,_⟩:=iU;refine bV ?_;refine⟨_,rfl,d,_,rfl,dg e uc,_,rfl,bU rfl,fun t H1 n1=>?_⟩;have e1:=n1.same _ _ e;refine⟨_,rfl,d,_,rfl,dp e1 OH jO,?_⟩;refine⟨_,rfl,d,_,rfl,dp ba OG jO,rfl,?_,fun b o eb hb=>?_⟩
       · have key:∀X:Hp,(∀b,b≠d->X b=H1 b)->dH K (L2.upd X d (.dK (bB mv lv gv sv (.int S.ay) (.str S.side) (.str S.mark) (.ref q) (.int S.dn) (.ref t) (.int 0) rv (.ref td)))) d q td M (jA M S):=by
           intro X hX;have Ac:bS H1 (L2.upd X d (.dK (bB mv lv gv sv (.int S.ay) (.str S.side) (.str S.mark) (.ref q) (.int S.dn) (.ref t) (.int 0) rv (.ref td)))):=fun b o nb eb=>by
            have hb:b≠d:=fun z=>by rw[z,e1]at eb;cases eb;exact nb trivial
            rw[aK hb,hX b hb];exact eb
           have sH:=n1.same.v.trans Ac;unfold jA;rw[hs];refine⟨⟨mv,lv,gv,sv,.ref t,.int 0,rv,ba,RD.v sH _ (jd _ _ _ _ _) r1,RD.v sH _ (hZ _) r2,RD.v sH _ (hZ _) r3,r4.v sH,⟨t,sv,rfl,aP.v Ac (aP.of n1.at'),r4.v sH,rfl⟩,r6.v sH⟩,ys,?_,aJ.v sH _ ok.row.no rq⟩;rw[aK dq.symm,hX q dq.symm];exact n1.same _ _ eq
         exact key _ (fun b hb=>by rw[aK hb])
       · have lY:b≠d:=fun z=>hb (by rw[z];exact .head _)
         rw[aK lY,aK lY];exact n1.same _ _ eb
   · rintro Z H1 ⟨rfl,R1,b1⟩
     exact⟨_,rfl,k _ R1 b1⟩
theorem pA{H:Hp}{a:Addr}{aM:List (Key×V)}{z:Str}{v:V}{n:Nat}(h:H a=some (.dK aM))(hl:aM.length<=n)(hn:n<=13):rE H a (.str z) v (L2.upd H a (.dK (putK aM (.inr z) v)))/\(putK aM (.inr z) v).length<=n+1:=⟨rE.k (k:=Sum.inr z) h (pN (iy hl hn) (by decide)),iy (Bi _ _ _) (Nat.succ_le_succ hl)⟩
theorem YG{mv lv s q' t':V}:putK (putK (putK (putK (putK (putK (putK (putK (putK (qz [] [(Sum.inr "machine",mv),(.inr "place",lv),(.inr "goal",lv),(.inr "square",s)]) (.inr "rate") (.int 100)) (.inr "tool") (.str "up")) (.inr "mark") (.str "")) (.inr "queue") q') (.inr "gone") (.int 0)) (.inr "brake") .bo) (.inr "braked") (.int 0)) (.inr "reach") .bo) (.inr "told") t'=bB mv lv lv s (.int 100) (.str "up") (.str "") q' (.int 0) .bo (.int 0) .bo t':=by kernel_rfl
theorem YH{mv lv s:V}:(qz [] [(Sum.inr "machine",mv),(.inr "place",lv),(.inr "goal",lv),(.inr "square",s)]).length<=4:=by rw[show qz [] [(Sum.inr "machine",mv),(.inr "place",lv),(.inr "goal",lv),(.inr "square",s)]=([(.inr "machine",mv),(.inr "place",lv),(.inr "goal",lv),(.inr "square",s)]:List (Key×V)) by kernel_rfl];exact bK _
inductive UG(K:aa)(vs:List V)(H:Hp)(Q:VK):Prop |mk (mv:_)(lv:_)(M:_)(pl:_)(h0:vs=[mv,lv])(h1:RD K H mv (bM.D M))(h2:RD K H lv (fo pl))(h3:∀d q td H',dH K H' d q td M (mK pl)->H' td=some (.lst [])->H d=none->H q=none->H td=none->d≠td->q≠td->aE H H'->Q (.ref d) H'):UG K vs H Q
def LV(K:aa):Sp:=fun vs H Q _=>UG K vs H Q
theorem MI:bp ["_law_machine_here","_law_place_here","_law_sim_here"] ["_law_machine_here","_law_place_here"] (aV Ek):=bI (by decide+kernel)
theorem a1U(F:FA K mg "_law_sim" Ek)(B:bP mg):aD P w K mg base "_law_sim" 1 (LV K):=by
 refine F.has MI (fun vs H Q E h=>?_) (fun _ _ _ _ _ _=>dy fun _ _=>rfl) (fun f aL A outer s H vs Q E hr h=>?_)
 · obtain⟨mv,lv,M,pl,rfl,_⟩:=h
   rfl
 · obtain⟨mv,lv,M,pl,rfl,rm,rl,k⟩:=h
   have nd:=MI.nd;refine⟨_,(aB (pS 2 nd (a0W (AJ aW (pv 0) (AJ aW (pv 1) (AJ aW (pv 1) (AJ aW (dS (O az (O az aw))) a0y)))) rfl rfl (by simp) (by decide))) (aB (gB (fA hr.units) (pv 2) aW az rfl) (aB (gB (fA hr.units) (pv 2) aW aW rfl) (aB (gB (fA hr.units) (pv 2) aW aW rfl) (aB (gB (fA hr.units) (pv 2) aW (dv aw) rfl) (aB (gB (fA hr.units) (pv 2) aW az rfl) (aB (gB (fA hr.units) (pv 2) aW jo rfl) (aB (gB (fA hr.units) (pv 2) aW az rfl) (aB (gB (fA hr.units) (pv 2) aW jo rfl) (aB (gB (fA hr.units) (pv 2) aW (dv aw) rfl) (aG (aU (pv 2))))))))))))),fun d mW=>?_⟩;refine⟨_,rfl,_,rfl,_,rfl,bU rfl,fun t H1 n1=>?_⟩;have td:t≠d:=fun z=>by have:=n1.no;rw[z,ba]at this;cases this
   have e1:=n1.same _ _ (ba (a:=d) (o:=HO.dK []));refine⟨e1,[(.inr "machine",mv),(.inr "place",lv),(.inr "goal",lv),(.inr "square",.ref t)],rfl,(by show 4<=15;decide),?_⟩;obtain⟨d1,l1⟩:=pA (z:="rate") (v:=.int 100) (H:=L2.upd H1 d _) (a:=d) ba YH (by decide);refine⟨_,rfl,d,_,rfl,d1,?_⟩;obtain⟨d2,l2⟩:=pA (z:="tool") (v:=.str "up") (a:=d) ba l1 (by decide);refine⟨_,rfl,d,_,rfl,d2,?_⟩;obtain⟨d3,l3⟩:=pA (z:="mark") (v:=.str "") (a:=d) ba l2 (by decide);refine⟨_,rfl,d,_,rfl,d3,?_⟩;refine⟨fZ _,fun q H2 n2=>?_⟩;obtain⟨d4,l4⟩:=pA (z:="queue") (v:=.ref q) (a:=d) (n2.same _ _ ba) l3 (by decide);refine⟨_,rfl,d,_,rfl,d4,?_⟩;obtain⟨d5,l5⟩:=pA (z:="gone") (v:=.int 0) (a:=d) ba l4 (by decide);refine⟨_,rfl,d,_,rfl,d5,?_⟩;obtain⟨d6,l6⟩:=pA (z:="brake") (v:=.bo) (a:=d) ba l5 (by decide);refine⟨_,rfl,d,_,rfl,d6,?_⟩;obtain⟨d7,l7⟩:=pA (z:="braked") (v:=.int 0) (a:=d) ba l6 (by decide);refine⟨_,rfl,d,_,rfl,d7,?_⟩;obtain⟨d8,l8⟩:=pA (z:="reach") (v:=.bo) (a:=d) ba l7 (by decide);refine⟨_,rfl,d,_,rfl,d8,?_⟩;refine⟨fZ _,fun tl H3 n3=>?_⟩;obtain⟨d9,l9⟩:=pA (z:="told") (v:=.ref tl) (a:=d) (n3.same _ _ ba) l8 (by decide);refine⟨_,rfl,d,_,rfl,d9,_,rfl,?_⟩;rw[YG];have s1:∀b o,H b=some o->H1 b=some o:=fun b o eb=>n1.same _ _ (by rw[aK (fW eb mW)];exact eb);have sU:∀{X:Hp}{o':HO},(∀b o,H b=some o->X b=some o)->∀b o,H b=some o->(L2.upd X d o') b=some o:=fun h b o eb=>by rw[aK (fW eb mW)];exact h b o eb
   have s2:∀b o,H b=some o->H2 b=some o:=fun b o eb=>n2.same _ _ (sU (sU (sU (sU s1))) b o eb);have s3:∀b o,H b=some o->H3 b=some o:=fun b o eb=>n3.same _ _ (sU (sU (sU (sU (sU s2)))) b o eb);have s4:aE H (L2.upd H3 d (.dK (bB mv lv lv (.ref t) (.int 100) (.str "up") (.str "") (.ref q) (.int 0) .bo (.int 0) .bo (.ref tl)))):=fun b o eb=>sU s3 b o eb;have nu:∀{X:Hp}{o':HO}{y:Addr},(L2.upd X d o') y=none->y≠d/\X y=none:=fun{X o' y} h=>by
    have hy:y≠d:=fun z=>by rw[z,ba]at h;cases h
    exact⟨hy,by rw[aK hy]at h;exact h⟩
   have no:∀{X:Hp}{y:Addr},(∀b o,H b=some o->X b=some o)->X y=none->H y=none:=fun{X y} h hy=>by cases e:H y with |none=>rfl |some o=>rw[h y o e]at hy;cases hy
   obtain⟨qd,q0⟩:=nu n2.no;have q1:=(nu (nu (nu q0).2).2).2;obtain⟨Li,t0⟩:=nu n3.no;have t1:=(nu (nu (nu (nu t0).2).2).2).2;have qt:q≠tl:=fun z=>by rw[<-z,n2.at']at t1;cases t1
   have ht:∀{X:Hp},X t=some (.tup [.int 0,.int 1])->(L2.upd X d (.dK (bB mv lv lv (.ref t) (.int 100) (.str "up") (.str "") (.ref q) (.int 0) .bo (.int 0) .bo (.ref tl)))) t=some (.tup [.int 0,.int 1]):=fun h=>by rw[aK td];exact h
   refine k d q tl _ ⟨⟨mv,lv,lv,.ref t,.bo,.int 0,.bo,ba,RD.mono s4 _ rm,?_,?_,⟨t,rfl,?_⟩,⟨rfl,_,rfl⟩,.inl rfl⟩,[],?_,cU⟩ ?_ mW (no s1 q1) (no s2 t1) Li.symm qt s4
   ·exact RD.mono s4 _ rl
   ·exact RD.mono s4 _ rl
   · refine aP.of (ht (n3.same _ _ ?_))
     rw[aK td,aK td,aK td,aK td,aK td];refine n2.same _ _ ?_;rw[aK td,aK td,aK td,aK td];exact n1.at'
   · rw[aK qd]
     refine n3.same _ _ ?_;rw[aK qd,aK qd,aK qd,aK qd,aK qd];exact n2.at'
   ·rw[aK Li];exact n3.at'
theorem SQ{pa b:Addr}{pl ns:List Int}{te:TE}{Q:VK}{D:Addr}{H H1:Hp}(hp:aP K H pa (pl.map V.int))(hb:aP K H b (ns.map V.int))(ln:ns.length=pl.length)(hz:pl.length<=1000)(n1:Nw H H1 D (.lst [])) (ht:∀(x y:Int)(H:Hp)(Q:VK),Q (.int (x+y)) H->te [some (.int x),some (.int y)] H Q)(k:∀H2,aE H H2->H2 D=some (.lst ((fR pl ns).map V.int))->Q (.ref D) H2):iP (mE K false false pa b) (p8 K 2 (jV (eZ 0) (jV (eZ 1) qN))) hJ te Q D [none,none] H1:=by
  refine uq (K:=K) (b1:=false) (b2:=false) (xs:=pl.map V.int) (ys:=ns.map V.int) (ds:=(fR pl ns).map PyData.int) [] rfl hp hb n1 (by simp[qX ln,ln]) (by rw[cu,qX ln];exact hz) (kR _) ?_ ?_
  · intro i x y d H2 Q' ex ey ed s2 hq
    obtain⟨m,em,rfl⟩:=md ed;rw[cA]at ex ey;cases e1:pl[i]? with |none=>rw[e1]at ex;cases ex |some u=>cases e2:ns[i]? with |none=>rw[e2]at ey;cases ey |some v=>rw[e1]at ex;rw[e2]at ey;cases ex;cases ey;rw[JM e1 e2]at em;cases em;exact ht _ _ _ _ (hq _ _ (aE.refl _) (dC _))
  · intro H2 zs s2 d2 r2
    rw[r2.iY]at d2;exact k H2 s2 d2
theorem aas{pa b:Addr}{pl rs:List Int}{te:TE}{Q:VK}{D:Addr}{H H1:Hp}(hp:aP K H pa (pl.map V.int))(hb:aP K H b (rs.map V.int))(ln:pl.length=rs.length)(hz:pl.length<=1000)(n1:Nw H H1 D (.lst [])) (ht:∀(x y:Int)(H:Hp)(Q:VK),Q (.bl (decide (0<=x)&&decide (x<=y))) H->te [some (.int x),some (.int y)] H Q)(k:∀(H2:Hp)(bs:List Bool),aE H H2->H2 D=some (.lst (bs.map V.bl))->bs.all id=qo rs pl->Q (.ref D) H2):iP (mE K false false pa b) (p8 K 2 (jV (eZ 0) (jV (eZ 1) qN))) hJ te Q D [none,none] H1:=by
  refine SN (K:=K) (b1:=false) (b2:=false) (xs:=pl.map V.int) (ys:=rs.map V.int) (bs:=(pl.zip rs).map fun p=>decide (0<=p.1)&&decide (p.1<=p.2)) [] rfl hp hb n1 (by simp) (by simp;lia) (fun i x y b' H2 Q' ex ey eb s2 hq=>?_) (fun H2 s2 d2=>?_)
  · rw[cA]at ex ey
    cases e1:pl[i]? with |none=>rw[e1]at ex;cases ex |some u=>cases e2:rs[i]? with |none=>rw[e2]at ey;cases ey |some v=>rw[e1]at ex;rw[e2]at ey;cases ex;cases ey;rw[cA,xi.mpr (show pl[i]? =some (u,v).1/\rs[i]? =some (u,v).2 from⟨e1,e2⟩)]at eb;cases eb;exact ht _ _ _ _ (hq _ (aE.refl _))
  ·exact k H2 _ s2 d2 (by unfold qo;rw[List.all_map];rfl)
theorem Rp(S:bj)(d:ai)(o:Itm):cP (nA S d o)=gU (cP S) o:=by unfold cP nA;rw[List.foldl_append];rfl
theorem a0D{M:bM}{D:Nat}{S:bj}(h:cm M D S)(d:ai)(o:Itm):fm (nA S d o)=fm S:=by
 unfold fm;by_cases h0:S.dn=0
 ·rw[bc h0,bc (show(nA S d o).dn=0 from h0)];rfl
 · obtain⟨ns,sp,eo,_⟩:=h.first h0
   rw[bf h0,bf (show¬(nA S d o).dn=0 from h0),eo];have e2:(nA S d o).os[0]? =some (some (ns,sp)):=by show(S.os++[o])[0]? =_;rw[xj (dM.mp eo).1];exact eo
   rw[e2];rfl
inductive UN(K:aa)(vs:List V)(H:Hp)(Q:VK):Prop |mk (d:_)(q:_)(td:_)(M:_)(D:_)(S:_)(v:_)(it:_)(o:_)(h0:vs=[.ref d,v])(h1:dH K H d q td M S)(h2:cm M D S)(h3:M.Ok)(h4:RD K H v it)(h5:nX M.rs.length it o)(h6:(qo M.rs (gU (cP S) o)=false->∀H',aE H H'->Q (.str ("rails "++Str.ofString (toString (S.ds.length:Int)))) H'))(h7:(qo M.rs (gU (cP S) o)=true->S.ds.length=20->∀H',aE H H'->Q (.str "full") H'))(h8:(qo M.rs (gU (cP S) o)=true->S.ds.length<20->∀H',dH K H' d q td M (nA S it o)->aZ [d,q] H H'->Q (.int (S.ds.length+1:Nat)) H')):UN K vs H Q
def M0(K:aa):Sp:=fun vs H Q _=>UN K vs H Q
theorem MO:bp ["_law_sim_here","_law_item","_law_goal"] ["_law_sim_here","_law_item"] (aV Er):=bI (by decide+kernel)
theorem a1W(F:FA K mg "_law_sim_feed" Er)(B:bP mg):aD P w K mg base "_law_sim_feed" 1 (M0 K):=by
 refine F.has MO (fun vs H Q E h=>?_) (fun _ _ _ _ _ _=>dy fun _ _=>rfl) (fun f aL A outer s H vs Q E hr h=>?_)
 · obtain⟨d,q,td,M,D,S,v,it,o,rfl,_⟩:=h
   rfl
 · obtain⟨d,q,td,M,D,S,v,it,o,rfl,R,ok,aO,rv,yB,k1,k2,k3⟩:=h
   obtain⟨mv,lv,gv,sv,bv,cv,re,e,r1,r2,r3,r4,r5,r6⟩:=R.ob;obtain⟨ys,eq,rq⟩:=R.qu;have dq:=R.ne;have nd:=MO.nd;have ly:=rq.length;have Bm:=ok.len;have Ba:=aO.len;have gl:(cP S).length=M.rs.length:=yU _ _ ok.pl ok.sS;have bl:(gU (cP S) o).length=M.rs.length:=wO gl fun ns sp eo=>(yB.ln ns sp eo).1.len;obtain⟨ma,mb,rfl,gM,jB⟩:=kW r1;refine⟨_,(aB (pS 2 nd (cD hr (pv 0) aW)) (aB (gJ (bJ (bZ (cQ K rfl hr.units) (px K (pv 1) az) aW (bw _)) (aG (pS 2 nd (ib (x:="tuple") (kL K rfl) rfl (B.at "tuple") fL (O (gd (N:=["_law_stand_here","_law_step"]) (js:=[none,none]) rfl rfl rfl (jP K rfl false false rfl (B.at "zip") (O (pv 2) (O (px K (pv 1) az) aw))) (fun _ _ _ _ _=>(dR K rfl (n:=2) rfl (bR (bu 0 (fP (by decide))) (bR (bu 1 (fP (by decide))) dQ)))) (fun _ _ _ _ _=>fF) (fun _ _ _ _ _=>(aI cS (pv 0) (pv 1)))) aw)))) bO)) (aB (bJ (fk (cM (dh (x:="all") (pF K rfl rfl) rfl (B.at "all") rK (O (gd (N:=["_law_stand_here","_law_rail"]) (js:=[none,none]) rfl rfl rfl (jP K rfl false false rfl (B.at "zip") (O (pv 2) (O (px K (cD hr (pv 0) aW) az) aw))) (fun _ _ _ _ _=>(dR K rfl (n:=2) rfl (bR (bu 0 (fP (by decide))) (bR (bu 1 (fP (by decide))) dQ)))) (fun _ _ _ _ _=>fF) (fun _ _ _ _ _=>(OD vp vp az (pv 0) (pv 1)))) aw)))) (aG (aU (aI a1w aW (ib (x:="str") aaF rfl (B.at "str") pL (O (dU K B (O (cD hr (pv 0) aW) aw)) aw))))) bO) (aB (bJ (bZ (cQ K rfl hr.units) (dU K B (O (cD hr (pv 0) aW) aw)) az (bw _)) (aG (aU aW)) bO) (aB (gB (fA hr.units) (pv 0) aW (pv 2) rfl) (aB (gB (fA hr.units) (pv 0) aW jo rfl) (aB (gP (jq K rfl (cD hr (pv 0) aW) (O (pv 1) aw))) (aG (aU (dU K B (O (cD hr (pv 0) aW) aw))))))))))),?_⟩;refine⟨_,rfl,d,_,rfl,dg e IJ,?_⟩;refine⟨fun Z H1=>∃ga,Z=[some (.ref d),some v,some (.ref ga)]/\aP K H1 ga ((gU (cP S) o).map V.int)/\aE H H1,?_,?_⟩
   · obtain⟨a,wd,zs,rfl,ha,ew,sw⟩:=vU rv yB.it
     refine⟨_,rfl,.inr ⟨a,_,0,.str wd,rfl,rfl,ha,dc (gA 0) rfl,.inr ⟨_,_,cV _,cV _,sw,by decide+kernel,?_⟩⟩⟩;rw[ew];refine⟨_,rfl,?_⟩;cases o with |none=>obtain⟨ga,rfl,hg⟩:=sP r3;exact bF ⟨ga,rfl,hg,aE.refl _⟩ |some z=>
       obtain⟨ns,sp⟩:=z;refine bV ?_;have ed:=kC yB.it;subst ed;obtain⟨a',b,ea,QV,hb⟩:=lV rv;cases ea;obtain⟨ga,rfl,hg⟩:=sP r3;have ln:ns.length=(cP S).length:=by rw[gl];exact(yB.ln ns sp rfl).1.len
       refine⟨_,rfl,_,rfl,.inr ⟨a,_,1,.ref b,rfl,rfl,QV,rfl,ga,b,rfl,⟨_,hg⟩,⟨_,hb⟩,fun D1 H1 n1=>?_⟩⟩;refine SQ hg hb ln (by lia) n1 (fun x y H Q h=>⟨_,rfl,_,rfl,_,_,rfl,rfl,h⟩) fun H2 s2 d2=>?_;refine⟨D1,_,rfl,.inl ⟨aF.of d2,fun t H3 n3=>?_⟩⟩;exact⟨t,rfl,aP.of n3.at',s2.trans n3.same⟩
   · rintro Z H1 ⟨ga,rfl,hg,s1⟩
     have e1:=s1 _ _ e;refine⟨_,rfl,_,rfl,d,_,rfl,dg e1 yR,.inr ⟨ma,_,0,.ref mb,rfl,rfl,gM.go s1,rfl,ga,mb,rfl,⟨_,hg⟩,⟨_,jB.go s1⟩,fun D1 H2 n2=>?_⟩⟩;refine aas hg (jB.go s1) bl (by lia) n2 (fun x y H Q h=>?_) fun H3 bs s3 d3 eb=>?_
     · refine⟨_,rfl,_,_,rfl,rfl,_,rfl,?_⟩
       refine dN (fun h0=>?_) (fun h0=>?_)
       · rw[h0,ko]at h
         exact⟨_,rfl,_,_,rfl,rfl,h⟩
       · rw[xk.mpr h0,kJ]at h
         exact h
     refine⟨D1,_,rfl,aF.of d3,?_⟩;rw[eb];refine⟨_,rfl,?_⟩;have df:=s1.trans s3;have e3:=df _ _ e;have eq3:=df _ _ eq;have lE:sizeLine=16777216:=by decide
     cases ho:qo M.rs (gU (cP S) o)with
     |false=>
       refine bV ?_;refine⟨_,rfl,d,_,rfl,dg e3 m3,q,_,rfl,.inl (aF.of eq3),.inl ⟨_,rfl,?_,?_⟩⟩
       · have:ys.length<=20:=by lia
         exact a4m (by show(ys.length:Int).natAbs<10^40;lia)
       · have el:((ys.length:Nat):Int)=(S.ds.length:Int):=by rw[ly]
         refine⟨_,_,rfl,rfl,?_,?_⟩
         · rw[el]
           have e6:Str.length "rails "=6:=by decide+kernel
           have:(Str.ofString (toString (S.ds.length:Int))).length<=41:=Xn (by lia)
           lia
         ·rw[el];exact k1 ho H3 df |true=>
       refine bF ?_;refine⟨_,rfl,d,_,rfl,dg e3 m3,q,_,rfl,.inl (aF.of eq3),.inl ⟨_,_,rfl,rfl,_,rfl,?_⟩⟩;refine dN (fun lF=>?_) (fun lF=>?_)
       · have lF:((ys.length:Nat):Int)=20:=jI lF
         exact k2 ho (by lia) H3 df
       · have lF:¬((ys.length:Nat):Int)=20:=fun z=>lF (cH z)
         refine⟨_,rfl,_,rfl,d,_,rfl,dp e3 a1k jO,?_⟩;refine⟨_,rfl,d,_,rfl,dp ba AO jO,?_⟩;have S8:∀{X:Hp}{o':HO},X q=some (.lst ys)->(L2.upd X d o') q=some (.lst ys):=fun h=>by rw[aK dq.symm];exact h
         have eq5:=S8 (o':=.dK (bB (.ref ma) lv (.ref ga) sv (.int S.ay) (.str S.side) (.str S.mark) (.ref q) (.int S.dn) bv cv .bo (.ref td))) (S8 (o':=.dK (bB (.ref ma) lv (.ref ga) sv (.int S.ay) (.str S.side) (.str S.mark) (.ref q) (.int S.dn) bv cv re (.ref td))) eq3);refine⟨_,rfl,d,_,rfl,dg ba m3,.inl ⟨rfl,_,aF.of eq5⟩,_,rfl,q,ys,_,rfl,rfl,eq5,by lia,?_⟩;have key:∀X:Hp,(∀b,b≠d->X b=H3 b)->X d=some (.dK (bB (.ref ma) lv (.ref ga) sv (.int S.ay) (.str S.side) (.str S.mark) (.ref q) (.int S.dn) bv cv .bo (.ref td)))->Q (.int (S.ds.length+1:Nat)) (L2.upd X q (.lst (ys++[v]))):=by
          intro X hX eX;have b3:aZ [d,q] H (L2.upd X q (.lst (ys++[v]))):=fun b o' eb hb=>by have hd:b≠d:=fun z=>hb (by rw[z];simp);have hq:b≠q:=fun z=>hb (by rw[z];simp);rw[aK hq,hX b hd];exact df _ _ eb
          have v0:=R.v b3;have v3:bS H1 (L2.upd X q (.lst (ys++[v]))):=fun b o' nb eb=>by
           have hd:b≠d:=fun z=>by rw[z,e1]at eb;cases eb;exact nb trivial
           have hq:b≠q:=fun z=>by rw[z,s1 _ _ eq]at eb;cases eb;exact nb trivial
           rw[aK hq,hX b hd];exact s3 _ _ eb
          have iv:=yB.it.no;refine k3 ho (by lia) _ ⟨⟨.ref ma,lv,.ref ga,sv,bv,cv,.bo,by rw[aK dq];exact eX,RD.v v0 _ (jd _ _ _ _ _) r1,?_,?_,r4.v v0,r5.v v0,.inl rfl⟩,ys++[v],ba,?_⟩ b3
          ·rw[a0D ok];exact RD.v v0 _ (hZ _) r2
          ·rw[Rp];exact vj (aP.v v3 hg)
          ·exact(aJ.v v0 _ ok.row.no rq).append (bW (RD.v v0 _ iv rv) cU)
         refine⟨_,rfl,d,_,rfl,dg (by rw[aK dq];exact ba) m3,q,_,rfl,.inl (aF.of ba),?_⟩;rw[fD,List.length_singleton,ly];exact key _ (fun b hb=>by rw[aK hb,aK hb]) ba
theorem xl{z:Int}(h:z.natAbs<2^24):Bd 100 (z:Rat):=⟨by rw[K7];exact Kf h (by decide),by rw[K9];decide⟩
theorem xT{H:Hp}{a:Addr}{z:Int}(h:aP K H a [.int z,.int 1]):bh K H (.ref a) (z:Rat):=by refine⟨a,rfl,?_⟩;rw[K7,K9];exact h
theorem a4w{H:Hp}{Q:VK}{l:Addr}{u1 u2:V}{x y:Rat}(dl:H l=some (.lst [u1,u2]))(R1:bh K H u1 x)(R2:bh K H u2 y)(b1:Bd 2000 x)(b2:Bd 2000 y)(k:∀v,bh K H v (mn x y)->Q v H):jn K [.ref l] H Q E0:=by
 refine⟨l,[u1,u2],[x,y],rfl,aF.of dl,⟨R1,b1,R2,b2,trivial⟩,by simp,fun c v q e1 e2 hq=>k v ?_⟩;have e:mn x y=q:=by
  refine mX ?_ (hq _ (by simp)) (hq _ (by simp))
  match c,e2 with |0,e2=>cases e2;exact .inl rfl |1,e2=>cases e2;exact .inr rfl
 rw[e]
 match c,e1,e2 with |0,e1,e2=>cases e1;cases e2;exact R1 |1,e1,e2=>cases e1;cases e2;exact R2
inductive UL(K:aa)(vs:List V)(H:Hp)(Q:VK):Prop |mk (d:_)(q:_)(td:_)(M:_)(D:_)(S:_)(h0:vs=[.ref d])(h1:dH K H d q td M S)(h2:cm M D S)(h3:M.Ok)(h4:S.os≠[])(h5:∀v H',bh K H' v (fE M S)->aE H H'->Q v H'):UL K vs H Q
def LY(K:aa):Sp:=fun vs H Q _=>UL K vs H Q
theorem MM:bp ["_law_sim_here","_law_machine_here","_law_items","_law_bounds_here","_law_reach_here","_law_border"] ["_law_sim_here"] (aV Eo):=bI (by decide+kernel)
theorem a1T(F:FA K mg "_law_reach" Eo)(B:bP mg)(a7J:aD P w K mg base "_law_bounds" 3 (Mj K))(wu:aD P w K mg base "_law_sum" 2 (mM (·+·) K))(qK:aD P w K mg base "_law_lead" 1 (lO K))(u7:aD P w K mg base "_law_min" 2 (jn K)):aD P w K mg base "_law_reach" 4 (LY K):=by
 refine F.has MM (fun vs H Q E h=>?_) (fun _ _ _ _ _ _=>eK fun _=>rfl) (fun fa aL A outer s H vs Q E hr h=>?_)
 · obtain⟨d,q,td,M,D,S,rfl,_⟩:=h
   rfl
 · obtain⟨d,q,td,M,D,S,rfl,R,ok,aO,dG,k⟩:=h
   obtain⟨mv,lv,gv,sv,bv,cv,re,e,r1,r2,r3,r4,r5,r6⟩:=R.ob;obtain⟨ys,eq,rq⟩:=R.qu;have nd:=MM.nd;have ly:=rq.length;have Bm:=ok.len;have ll:=ok.row.len;have tN:1<=S.os.length:=by cases e:S.os with|nil=>exact(dG e).elim|cons _ _=>simp
   have qO:=aO.f1;have Ba:=aO.len;have hB:=Ow.Gw aO.j1.1 aO.j1.2 ok.cZ ok.du ok.row.vw;have hN:=Ow.ON M.j S.ay S.os;have h0:=Ow.Gv M.j S.ay S.os S.os.length rfl;have hL:∀i m,leadF S.os i=some m->(2*M.f*(m:Int)).natAbs<2^24:=fun i m e=>KU aO.f1.1 aO.f1.2 (Q6 ok.row.vw e);have FB:∀i,i<=S.os.length->Bd 1700 (fl S.os.length (leadF S.os) (2*M.f) (ownF M.j S.ay S.os) i):=fun i hi=>(RL (fun i _=>hB i) hL i hi).mono (by lia);have FN:=a8i (n:=S.os.length) (L:=leadF S.os) (f:=2*M.f) (g:=ownF M.j S.ay S.os) (by lia) (fun i _=>hN i);obtain⟨ma,mb,rfl,gM,jB⟩:=kW r1;refine⟨_,(aB (oG (i:=1) (j:=2) rfl nd rfl rfl (by decide) rfl rfl (O (cD hr (pv 0) aW) (O (cD hr (pv 0) aW) aw)) rfl) (aB (pS 3 nd (pf a7J hr (O (pv 1) (O (pv 2) (O (cD hr (pv 0) aW) aw))))) (aB (pS 4 nd (dS (O az (O az aw)))) (aB (lS gY rfl (a0K rfl (B.at "range") (O (aI gh (dU K B (O (pv 2) aw)) az) (O az (O (xX xq az) aw)))) (bu 5 nd) (aB (gJ (bJ (bZ (cQ K rfl hr.units) (px K (px K (pv 2) (pv 5)) az) aW (bw _)) (aG (pS 4 nd (pf wu hr (O (pv 4) (O (dS (O (aI bE (aI bE az (px K (pv 1) az)) (pf qK hr (O (px K (pv 2) (pv 5)) aw))) (O az aw))) aw))))) bO)) (aG (pS 4 nd (pf u7 hr (O (dv (O (pv 4) (O (px K (pv 3) (pv 5)) aw))) aw)))))) (aG (aU (pv 4))))))),?_⟩;refine⟨_,rfl,d,_,rfl,dg e yR,_,rfl,d,_,rfl,dg e m3,_,_,rfl,?_⟩;refine⟨_,rfl,_,rfl,_,rfl,d,_,rfl,dg e II,?_⟩;refine⟨.ref ma,.ref q,S.ay,M.rs,M.r,M.f,M.j,M.t,S.ds,S.os,rfl,r1,aO,lP (aF.of eq) rq,ok.row,by lia,ok.cZ,ok.du,fun l zs H1 nl dl rz s1=>?_⟩;refine⟨bU rfl,fun t H2 n2=>?_⟩;have s2:=s1.trans n2.same;refine⟨_,rfl,q,_,rfl,.inl (aF.of (s2 _ _ eq)),_,_,rfl,rfl,_,rfl,_,_,rfl,⟨by lia,by lia,by decide,by decide⟩,?_⟩;have eN:((ys.length:Int)-1-0).toNat=S.os.length-1:=by lia
   rw[eN];have rz:aJ K H1 zs ((lst S.os.length (ownF M.j S.ay S.os)).map cR):=rz;have lz:=rz.length;rw[cu,qA]at lz;refine a8f (Pv:=fun i Z H5=>aE H2 H5/\∃v w5,bh K H5 v (fl S.os.length (leadF S.os) (2*M.f) (ownF M.j S.ay S.os) (S.os.length-i))/\Z=[some (.ref d),some (.ref ma),some (.ref q),some (.ref l),some v,w5]) ?_ ?_ ?_
   · refine⟨aE.refl _,.ref t,none,?_,rfl⟩
     rw[Nat.sub_zero,wz,h0];exact⟨t,rfl,aP.of n2.at'⟩
   · rintro i Z H5 BH ⟨s5,v,w5,rv,rfl⟩
     obtain⟨c,hc⟩:∃c,S.os.length-1-i=c:=⟨_,rfl⟩;have lX:c<S.os.length:=by lia
     have eI:((ys.length:Int)-1-(i:Int))=(c:Int):=by lia
     rw[eI];have sy:=s2.trans s5;have Jf:S.os.length-i=c+1:=by lia
     rw[Jf]at rv;obtain⟨x,hx⟩:∃x,ys[c]? =some x:=⟨_,cj (show c<ys.length by lia)⟩;obtain⟨dd,ed,rd⟩:=rq.get' c hx;obtain⟨o,eo,it⟩:=ok.row.get ed;have zj:fJ ys (c:Int)=some x:=dc (by lia) (by simpa using hx);obtain⟨z0,z9⟩:∃z,zs[c]? =some z:=⟨_,cj (show c<zs.length by lia)⟩;have R0:bh K H1 z0 (ownF M.j S.ay S.os c):=by obtain⟨d1,e1,r1'⟩:=rz.get' c z9;rw[cA,qB _ (show c<=S.os.length by lia)]at e1;cases e1;exact mS r1'
     have JI:fJ zs (c:Int)=some z0:=dc (by lia) (by simpa using z9);have eq5:=sy _ _ eq;obtain⟨a,wd,yw,rfl,h1,ew,sw⟩:=vU (RD.mono sy _ rd) it;have ei:S.os.length-(i+1)=c:=by lia
     refine⟨fun Z H6=>aE H5 H6/\∃v' x',bh K H6 v' x'/\Bd 2000 x'/\mn x' (ownF M.j S.ay S.os c)=fl S.os.length (leadF S.os) (2*M.f) (ownF M.j S.ay S.os) c/\Z=[some (.ref d),some (.ref ma),some (.ref q),some (.ref l),some v',some (.int c)],?_,?_⟩
     · refine⟨_,rfl,_,rfl,.inl ⟨q,_,_,_,rfl,rfl,aF.of eq5,zj,.inr ⟨a,_,0,.str wd,rfl,rfl,h1,dc (gA 0) rfl,.inr ⟨_,_,cV _,cV _,sw,tF,_,rfl,?_⟩⟩⟩⟩
       rw[ew];cases o with |none=>
         refine bF ⟨aE.refl _,v,_,rv,(FB (c+1) (by lia)).mono (by decide),?_,rfl⟩;have hz:ownF M.j S.ay S.os c=0:=by cases c with |zero=>rfl |succ c'=>show betR M.j S.ay (atO S.os c') (atO S.os (c'+1))=0;rw[Ow.pE eo,Ow.Cq]
         rw[wy lX (Q5 eo),hz];exact mX (.inr rfl) (FN (c+1) (by lia)) (pK) |some z=>obtain⟨ns,sp⟩:=z;refine bV ?_;have lH:=kC it;subst lH;obtain⟨eV,_,_⟩:=ok.row.ok c ns sp eo;have us:=hL c _ (Bl eo);refine⟨_,rfl,_,rfl,.inr ⟨ma,_,2,.int M.f,rfl,rfl,gM.go sy,rfl,_,_,rfl,rfl,.of_left (cg (by decide) (by decide)),?_⟩⟩;refine⟨_,rfl,_,rfl,.inl ⟨q,_,_,_,rfl,rfl,aF.of eq5,zj,?_⟩⟩;refine⟨_,ns,sp,rfl,RD.mono sy _ rd,eV.ne,by rw[eV.len];lia,fun H6 s6=>?_⟩;refine⟨_,_,rfl,rfl,.of_left (cg (by lia) (by lia)),?_⟩;refine⟨bU rfl,fun tq H7 n7=>?_⟩;refine⟨v,.ref tq,_,_,rfl,(rv.go s6).go n7.same,xT (aP.of n7.at'),(FB (c+1) (by lia)).mono (by decide),(xl us).mono (by decide),fun u H8 ru s8=>?_⟩;refine⟨s6.trans (n7.same.trans s8),u,_,ru,(Cw (FB (c+1) (by lia)) us).mono (by decide),?_,rfl⟩;rw[wA lX (Bl eo)];exact mX ((yl _ _).symm.imp id id) (kB _ _) (gC _ _)
     · rintro Z H6 ⟨s6,v',x',cK,bx,ex,rfl⟩
       have kx:=n2.same.trans (s5.trans s6);refine⟨_,rfl,_,rfl,_,rfl,.inl ⟨l,_,_,_,rfl,rfl,aF.of (kx _ _ dl),JI,?_⟩⟩;refine⟨bU rfl,fun l2 H7 n7=>?_⟩;refine a4w n7.at' (cK.go n7.same) (R0.go (kx.trans n7.same)) bx ((hB c).mono (by decide)) fun u ru=>?_;refine⟨s5.trans (s6.trans n7.same),u,_,?_,rfl⟩;rw[ei,<-ex];exact ru
   · rintro Z H5 ⟨s5,v,w5,rv,rfl⟩
     have e1:S.os.length-(S.os.length-1)=1:=by lia
     rw[e1]at rv;exact⟨_,rfl,k v H5 rv (s2.trans s5)⟩
theorem abn{pl ns:List Int}(h:ns.length=pl.length)(k:Nat):fR (fR pl (iC ns k)) (hW ns k)=fR pl (iC ns (k+1)):=by
 apply rO;intro i;unfold fR iC hW;simp only[D9,cA];cases pl[i]? <;>cases ns[i]? <;>simp
 lia
theorem abm{pl ns:List Int}(h:ns.length=pl.length)(hq:0<aH ns):fR pl (iC ns 0)=pl:=by
 apply rO;intro i;unfold fR iC;simp only[D9,cA];by_cases hi:i<pl.length
 · rw[cj hi,cj (show i<ns.length by lia)]
   simp[GN (show(0:Int)<(aH ns:Int) by lia)]
 ·rw[lM (by lia)]
theorem Yo{ns:List Int}(hq:0<aH ns):iC ns (aH ns)=ns:=by
 unfold iC;have:(fun z=>ip ((aH ns:Int)*z) (aH ns:Int))=fun z=>z:=by funext z;exact a3o (by lia)
 rw[this,List.map_id']
theorem a0E{S:bj}{ns:List Int}{sp:Int}(eo:S.os[0]? =some (some (ns,sp)))(h:ns.length=S.pl.length)(hq:0<aH ns):fm S=fR S.pl (iC ns S.dn):=by
 unfold fm;by_cases h0:S.dn=0
 ·rw[bc h0,h0];exact(abm h hq).symm
 ·rw[bf h0,eo]
theorem a0C{M:bM}{S:bj}{ns:List Int}{sp:Int}(eo:S.os[0]? =some (some (ns,sp)))(h:ns.length=S.pl.length)(hq:0<aH ns)(hd:S.dn<aH ns):fR (fm S) (hW ns S.dn)=fm (fG ns (fH M S ns sp)):=by
 rw[a0E eo h hq,abn h];unfold fG;by_cases he:S.dn+1=aH ns
 · rw[bc (show(fH M S ns sp).dn=aH ns from he)]
   obtain⟨fO,iu⟩:∃fO,S.os=some (ns,sp)::fO:=by cases e:S.os with |nil=>rw[e]at eo;simp at eo |cons a r=>rw[e]at eo;cases eo;exact⟨r,rfl⟩
   have e1:((S.dn:Int)+1)=(aH ns:Int):=by lia
   rw[e1,Yo hq];unfold fm iZ;have:(fH M S ns sp).os=some (ns,sp)::fO:=iu;rw[this];rfl
 · rw[bf (show¬(fH M S ns sp).dn=aH ns from he)]
   unfold fm;rw[bf (show¬(fH M S ns sp).dn=0 from Nat.succ_ne_zero _)];have:(fH M S ns sp).os[0]? =some (some (ns,sp)):=eo;rw[this];show _=fR S.pl (iC ns ((S.dn+1:Nat):Int));rfl
theorem Ro{M:bM}{S:bj}{ns:List Int}{sp:Int}(eo:S.os[0]? =some (some (ns,sp))):cP (fG ns (fH M S ns sp))=cP S:=by
 unfold fG;split
 · obtain⟨fO,iu⟩:∃fO,S.os=some (ns,sp)::fO:=by cases e:S.os with |nil=>rw[e]at eo;simp at eo |cons a r=>rw[e]at eo;cases eo;exact⟨r,rfl⟩
   unfold cP iZ;have:(fH M S ns sp).os=some (ns,sp)::fO:=iu;rw[this,iu];rfl
 ·rfl
theorem PB(a b c:Rat):mn (mn b a) c=mn (mn a b) c:=by rw[Px b a]
theorem Py(a b c d:Rat):mn (mn (mn b a) c) d=mn (mn (mn a b) c) d:=by rw[Px b a]
theorem RJ{sq:Rat}{a b:Int}(hb:b≠0):Rat.divInt (sq.num*a) ((sq.den:Int)*b)=sq*Rat.divInt a b:=by
 conv=>rhs;rw[<-rJ sq]
 rw[Wu]
end
end Lw
set_option maxHeartbeats 4000000
namespace Lw
open PySem PySem.Spec PyProof.Rows L2 Rt Ln Cn Pn Wk Rn
open Ow (topR cornO mnO betR atO ownF leadF ownL OkI OkIs)
section
variable {w:World}{mg:Str->Option Value}{base:Heap}
theorem aaq{pa b:Addr}{xs ys:List Int}{te:TE}{Q:VK}{D:Addr}{H H1:Hp}(hp:aP K H pa (xs.map V.int))(hb:aP K H b (ys.map V.int))(ln:ys.length=xs.length)(hz:xs.length<=1000)(n1:Nw H H1 D (.lst [])) (ht:∀(x y:Int)(H:Hp)(Q:VK),Q (.int (y-x)) H->te [some (.int x),some (.int y)] H Q)(k:∀H2,aE H H2->H2 D=some (.lst ((List.zipWith (fun x y=>y-x) xs ys).map V.int))->Q (.ref D) H2):iP (mE K false false pa b) (p8 K 2 (jV (eZ 0) (jV (eZ 1) qN))) hJ te Q D [none,none] H1:=by
  refine uq (K:=K) (b1:=false) (b2:=false) (xs:=xs.map V.int) (ys:=ys.map V.int) (ds:=(List.zipWith (fun x y=>y-x) xs ys).map PyData.int) [] rfl hp hb n1 (by simp[ln]) (by rw[cu,List.length_zipWith];lia) (kR _) ?_ ?_
  · intro i x y d H2 Q' ex ey ed s2 hq
    obtain⟨m,em,rfl⟩:=md ed;rw[cA]at ex ey;cases e1:xs[i]? with |none=>rw[e1]at ex;cases ex |some u=>cases e2:ys[i]? with |none=>rw[e2]at ey;cases ey |some v=>rw[e1]at ex;rw[e2]at ey;cases ex;cases ey;rw[D9,e1,e2]at em;cases em;exact ht _ _ _ _ (hq _ _ (aE.refl _) (dC _))
  · intro H2 zs s2 d2 r2
    rw[r2.iY]at d2;exact k H2 s2 d2
theorem ZD(ns:List Int)(k:Nat):List.zipWith (fun x y=>y-x) (iC ns (k:Int)) (iC ns ((k:Int)+1))=hW ns k:=by apply rO;intro i;unfold iC hW;simp only[D9,cA];cases ns[i]? <;>simp
theorem S4{H:Hp}{ys:List V}{ds:List ai}(h:aJ K H ys ds):aJ K H (ys.eraseIdx 0) ds.tail:=by have:=h.drop 1;rw[List.drop_one,List.drop_one]at this;rw[List.eraseIdx_zero];exact this
theorem Ou{M:bM}{D:Nat}{S:bj}(ok:cm M D S):(fm S).length=M.rs.length:=by
 unfold fm;split
 ·exact ok.pl
 · split
   ·next ns sp eo=>rw[qX (by rw[ok.pl];simp[iC];exact(ok.row.ok 0 ns sp eo).1.len)];exact ok.pl
   ·exact ok.pl
inductive UK(K:aa)(vs:List V)(H:Hp)(Q:VK):Prop |mk (d:_)(q:_)(td:_)(M:_)(D:_)(S:_)(ns:_)(sp:_)(h0:vs=[.ref d])(h1:dH K H d q td M S)(h2:cm M D S)(h3:M.Ok)(h4:S.os[0]? =some (some (ns,sp)))(h5:¬Halt S.pc S.aR)(h6:∀v H',RD K H' v (mZ M S ns sp)->dH K H' d q td M (fG ns (fH M S ns sp))->aZ [d,q] H H'->Q v H'):UK K vs H Q
def LX(K:aa):Sp:=fun vs H Q _=>UK K vs H Q
theorem ML:bp ["_law_sim_here","_law_machine_here","_law_line_here","_law_w","_law_rest","_law_reach_here","_law_tops","_law_square","_law_behind","_law_start","_law_many","_law_more","_law_row"] ["_law_sim_here"] (aV En):=bI (by decide+kernel)
theorem a1S(F:FA K mg "_law_sim_step" En)(B:bP mg)(qK:aD P w K mg base "_law_lead" 1 (lO K))(a7C:aD P w K mg base "_law_reach" 4 (LY K))(BQ:aD P w K mg base "_law_top" 2 (DI K))(wu:aD P w K mg base "_law_sum" 2 (mM (·+·) K))(qL:aD P w K mg base "_law_frac" 1 (xE K))(QX:aD P w K mg base "_law_stand" 2 (LS K))(u7:aD P w K mg base "_law_min" 2 (jn K))(a7v:aD P w K mg base "_law_ticks" 1 (LQ K)):aD P w K mg base "_law_sim_step" 5 (LX K):=by
 refine F.has ML (fun vs H Q E h=>?_) (fun _ _ _ _ _ _=>eK fun _=>rfl) (fun fa aL A outer s H vs Q E hr h=>?_)
 · obtain⟨d,q,td,M,D,S,ns,sp,rfl,_⟩:=h
   rfl
 · obtain⟨d,q,td,M,D,S,ns,sp,rfl,R,ok,aO,eo,nh,k⟩:=h
   obtain⟨mv,lv,gv,sv,bv,cv,rv,e,r1,r2,r3,r4,r5,r6⟩:=R.ob;obtain⟨ys,eq,rq⟩:=R.qu;have dq:=R.ne;have nd:=ML.nd;have ll:=ok.row.len;have Bm:=ok.len;have Ba:=aO.len;have D1:=ok.D1;have D2:=ok.D2;have AI:=aO.r1;have qO:=aO.f1;have oW:0<S.os.length:=(dM.mp eo).1;have dG:S.os≠[]:=fun z=>by rw[z]at oW;simp at oW
   obtain⟨dd,ed⟩:∃dd,S.ds[0]? =some dd:=⟨_,cj (show 0<S.ds.length by lia)⟩;obtain⟨y,ey,ry⟩:=rq.get 0 ed;have lH:=kC (ok.row.it 0 dd _ ed eo);subst lH;obtain⟨eV,gI,hO⟩:=ok.row.ok 0 ns sp eo;have Q9:=yx eV;have fz:=eV.lead.1;have hd:S.dn<aH ns:=by
    rcases ok.dn with z|⟨yd,xH,e1,e2⟩
    ·rw[z];exact fz
    ·rw[eo]at e1;cases e1;exact e2
   obtain⟨Rd,Rl⟩:=G8 ok.raw aO dG;have Lh:=Dw S.ay sp;have tl:=A6 gI hO ok.cZ ok.du;obtain⟨ma,mb,rfl,gM,jB⟩:=kW r1;refine⟨_,(aB (oG (i:=1) (j:=2) rfl nd rfl rfl (by decide) rfl rfl (O (cD hr (pv 0) aW) (O (px K (cD hr (pv 0) aW) az) aw)) rfl) (aB (pS 3 nd (cD hr (pv 0) aW)) (aB (pS 4 nd (aI gh (pf qK hr (O (pv 2) aw)) (cD hr (pv 0) aW))) (aB (gJ (bJ (bZ OT (cD hr (pv 0) aW) jo (bw _)) (aG (gB (fA hr.units) (pv 0) aW (pf a7C hr (O (pv 0) aw)) rfl)) bO)) (aB (pS 5 nd (cD hr (pv 0) aW)) (aB (pS 6 nd (dv (O (pf BQ hr (O (pv 2) (O (cD hr (pv 0) aW) aw))) aw))) (aB (pS 7 nd (aI (wK K rfl) (pv 6) (dv (O (pf wu hr (O (pv 3) (O (dS (O (px K (pv 1) az) (O az aw))) aw))) (O (pf wu hr (O (pv 5) (O (dS (O (aI bE (px K (pv 1) az) (aI gh (aI bE az (pv 4)) az)) (O az aw))) aw))) aw))))) (aB (pS 8 nd (aI (wK K rfl) (pv 6) (dv (O (pf wu hr (O (pv 3) (O (dS (O (aI bE az (px K (pv 1) az)) (O az aw))) aw))) (O (pf wu hr (O (pv 5) (O (dS (O (aI bE (aI bE az (px K (pv 1) az)) (aI gh (pv 4) az)) (O az aw))) aw))) aw))))) (aB (gJ (bJ (bZ xZ (cD hr (pv 0) aW) jo (bw _)) (aB (fU (cD hr (pv 0) aW) (dR K rfl (n:=2) rfl (bR (bu 9 nd) (bR (bu 10 nd) dQ)))) (aB (gB (fA hr.units) (pv 0) aW (aI cS (cD hr (pv 0) aW) az) rfl) (aB (pS 11 nd (aI gh (pv 10) (cD hr (pv 0) aW))) (aB (gP (jq K rfl (pv 7) (O (pf qL hr (O (aI bE (px K (pv 9) az) (aI cS (aI bE az (pv 11)) az)) (O (aI bE (aI bE (px K (pv 9) az) az) (pv 10)) aw))) aw))) (aG (gP (jq K rfl (pv 8) (O (pf qL hr (O (aI bE (px K (pv 9) az) (pv 11)) (O (aI bE (px K (pv 9) az) (pv 10)) aw))) aw)))))))) bO)) (aB (pS 12 nd (ib (x:="tuple") (kL K rfl) rfl (B.at "tuple") fL (O (gd (N:=["_law_a","_law_b"]) (js:=[none,none]) rfl rfl rfl (jP K rfl false false rfl (B.at "zip") (O (pf QX hr (O (pv 2) (O (cD hr (pv 0) aW) aw))) (O (pf QX hr (O (pv 2) (O (aI cS (cD hr (pv 0) aW) az) aw))) aw))) (fun _ _ _ _ _=>(dR K rfl (n:=2) rfl (bR (bu 0 (fP (by decide))) (bR (bu 1 (fP (by decide))) dQ)))) (fun _ _ _ _ _=>fF) (fun _ _ _ _ _=>(aI gh (pv 1) (pv 0)))) aw))) (aB (gB (fA hr.units) (pv 0) aW (ib (x:="tuple") (kL K rfl) rfl (B.at "tuple") fL (O (gd (N:=["_law_stand_here","_law_step"]) (js:=[none,none]) rfl rfl rfl (jP K rfl false false rfl (B.at "zip") (O (cD hr (pv 0) aW) (O (pv 12) aw))) (fun _ _ _ _ _=>(dR K rfl (n:=2) rfl (bR (bu 0 (fP (by decide))) (bR (bu 1 (fP (by decide))) dQ)))) (fun _ _ _ _ _=>fF) (fun _ _ _ _ _=>(aI cS (pv 0) (pv 1)))) aw)) rfl) (aB (gB (fA hr.units) (pv 0) aW (pf u7 hr (O (pv 8) aw)) rfl) (aB (gB (fA hr.units) (pv 0) aW (aI cS (cD hr (pv 0) aW) az) rfl) (aB (gJ (bJ (bZ (cQ K rfl hr.units) (pv 4) az (bw _)) (aB (gP (OE K rfl (cD hr (pv 0) aW) (O az aw))) (aB (gB (fA hr.units) (pv 0) aW az rfl) (aG (gB (fA hr.units) (pv 0) aW jo rfl)))) bO)) (aB (pS 7 nd (pf u7 hr (O (pv 7) aw))) (aG (aU (dS (O aW (O (pv 12) (O (pf a7v hr (O (pv 1) (O (pv 7) aw))) (O (pv 7) aw)))))))))))))))))))))),?_⟩;refine⟨_,rfl,d,_,rfl,dg e yR,_,rfl,d,_,rfl,dg e m3,.inl ⟨q,_,0,y,rfl,rfl,aF.of eq,dc (gA 0) ey,_,_,rfl,?_⟩⟩;refine⟨_,rfl,d,_,rfl,dg e uc,?_⟩;refine⟨_,rfl,y,ns,sp,rfl,ry,eV.ne,by rw[eV.len];lia,fun H1 s1=>?_⟩;refine⟨_,rfl,d,_,rfl,dg (s1 _ _ e) BX,_,_,rfl,rfl,?_⟩;refine⟨fun Z H2=>∃cK w5 w6 w7 w8 w9 kK oq zY,Z=[some (.ref d),some (.ref ma),some y,some sv,some (.int ((aH ns:Int)-S.dn)),w5,w6,w7,w8,w9,kK,oq,zY]/\aZ [d] H H2/\H2 d=some (.dK (bB (.ref ma) lv gv sv (.int S.ay) (.str S.side) (.str S.mark) (.ref q) (.int S.dn) bv cv cK (.ref td)))/\bh K H2 cK (fE M S),?_,?_⟩
   · refine⟨_,rfl,d,_,rfl,dg (s1 _ _ e) Rz,rfl,_,rfl,?_⟩
     rcases r6 with rfl|r6
     · refine bV ?_
       refine⟨_,rfl,d,q,td,M,D,S,rfl,R.same ok.row.no s1,ok,aO,dG,fun v H2 r2' s2=>?_⟩;have e2:=s2 _ _ (s1 _ _ e);refine⟨_,rfl,d,_,rfl,dp e2 AO jO,?_⟩;have v2:bS H2 (L2.upd H2 d (.dK (bB (.ref ma) lv gv sv (.int S.ay) (.str S.side) (.str S.mark) (.ref q) (.int S.dn) bv cv v (.ref td)))):=.upd e2 trivial;refine⟨v,_,_,_,_,_,_,_,_,rfl,fun b o eb hb=>?_,ba,r2'.v v2⟩;have lY:b≠d:=fun z=>hb (by rw[z];exact .head _);rw[aK lY];exact s2 _ _ (s1 _ _ eb)
     · obtain⟨ra,rfl,hra⟩:=r6
       refine bF ⟨_,_,_,_,_,_,_,_,_,rfl,.of s1,s1 _ _ e,ra,rfl,hra.go s1⟩
   · rintro Z H2 ⟨cK,w5,w6,w7,w8,w9,kK,oq,zY,rfl,Ii⟩
     have b2:=Ii.1;have e2:=Ii.2.1;have rR:=Ii.2.2;have v2:bS H H2:=b2.v fun x hx o' cX=>by rw[cf]at hx;rw[hx,e]at cX;cases cX;trivial
     have R0:=r4.v v2;have Zk:=RD.v v2 _ (Bg ns sp) ry;have BD:=aP.v v2 gM;have l1:1<=(aH ns:Int)-S.dn:=by lia
     obtain⟨left,el⟩:∃left,(aH ns:Int)-S.dn=left:=⟨_,rfl⟩;have l2:left<=100:=by lia
     rw[el]at l1⊢;have lE:(2:Int)^24=16777216:=by decide
     have fl1:(M.f*(2*left-1)).natAbs<=50*200:=by rw[fN];exact mF (by lia) (by lia)
     have IS:0<=M.f*(2*left-1):=jK (by lia) (by lia);have fl2:(2*M.f*(left-1)).natAbs<=100*100:=by rw[fN];exact mF (by lia) (by lia)
     have IQ:0<=2*M.f*(left-1):=jK (by lia) (by lia);have xY:Bd 2000 S.pc:=(ok.pd.bd (eg ok.pm (by decide+kernel))).mono (by lia);have RB:Bd 2000 (fE M S):=(Rd.bd (eg Rl (by decide+kernel))).mono (by decide);have tB:Bd 2000 (topR S.ay sp):=(Lh.bd (eg tl (by decide+kernel))).mono (by decide);have B1:Bd 2000 (S.pc+(M.r:Rat)):=qS ok.pd ok.pm (by lia) (by lia) (by lia);have B2:Bd 2000 (fE M S+((M.f*(2*left-1):Int):Rat)):=qS Rd Rl IS (by lia) (by lia);have B3:Bd 2000 (S.pc+((2*M.r:Int):Rat)):=qS ok.pd ok.pm (by lia) (by lia) (by lia);have B4:Bd 2000 (fE M S+((2*M.f*(left-1):Int):Rat)):=qS Rd Rl IQ (by lia) (by lia);refine⟨_,rfl,d,_,rfl,dg e2 Rz,?_⟩;refine⟨_,rfl,_,rfl,d,_,rfl,dg e2 II,y,ns,sp,S.ay,rfl,Zk,gI,hO,ok.cZ,ok.du,fun tv H3 rt s3=>?_⟩;have rt:bh K H3 tv (topR S.ay sp):=rt;refine⟨bU rfl,fun lt H4 n4=>?_⟩;have oE:=s3.trans n4.same;refine⟨_,rfl,_,rfl,_,rfl,.inr ⟨ma,_,1,.int M.r,rfl,rfl,BD.go oE,rfl,bU rfl,fun t5 H5 n5=>?_⟩⟩;refine⟨sv,.ref t5,_,_,rfl,(R0.go oE).go n5.same,xT (aP.of n5.at'),xY,(xl (by lia)).mono (by decide),fun u1 H6 kO s6=>?_⟩;have NT:=oE.trans (n5.same.trans s6);refine⟨_,rfl,_,rfl,.inr ⟨ma,_,2,.int M.f,rfl,rfl,BD.go NT,rfl,_,rfl,_,_,rfl,rfl,.of_left (cg (by decide) (by decide)),_,_,rfl,rfl,_,_,rfl,rfl,.of_left (cg (by lia) (by lia)),bU rfl,fun t7 H7 n7=>?_⟩⟩;refine⟨cK,.ref t7,_,_,rfl,(rR.go NT).go n7.same,xT (aP.of n7.at'),RB,(xl (by lia)).mono (by decide),fun u2 H8 sL s8=>?_⟩;refine⟨bU rfl,fun l9 H9 n9=>?_⟩;have FL:=(n5.same.trans s6).trans ((n7.same.trans s8).trans n9.same);refine⟨lt,l9,_,_,rfl,rfl,aF.of (FL _ _ n4.at'),aF.of n9.at',by show 3<=sizeLine;decide,fun lm jF jS=>?_⟩;have FP:=FL.trans jS.same;have xM:=oE.trans FP;refine⟨_,rfl,_,rfl,_,rfl,.inr ⟨ma,_,1,.int M.r,rfl,rfl,BD.go xM,rfl,_,_,rfl,rfl,.of_left (cg (by decide) (by decide)),bU rfl,fun Yb iO jw=>?_⟩⟩;refine⟨sv,.ref Yb,_,_,rfl,(R0.go xM).go jw.same,xT (aP.of jw.at'),xY,(xl (by lia)).mono (by decide),fun u3 rC FW kN=>?_⟩;have NV:=xM.trans (jw.same.trans kN);refine⟨_,rfl,_,rfl,.inr ⟨ma,_,2,.int M.f,rfl,rfl,BD.go NV,rfl,_,_,rfl,rfl,.of_left (cg (by decide) (by decide)),_,rfl,_,_,rfl,rfl,_,_,rfl,rfl,.of_left (cg (by lia) (by lia)),bU rfl,fun Y9 K1 B0=>?_⟩⟩;refine⟨cK,.ref Y9,_,_,rfl,(rR.go NV).go B0.same,xT (aP.of B0.at'),RB,(xl (by lia)).mono (by decide),fun u4 Wj FV gb=>?_⟩;refine⟨bU rfl,fun l15 H15 AZ=>?_⟩;have AA:=(jw.same.trans kN).trans ((B0.same.trans gb).trans AZ.same);refine⟨lt,l15,_,_,rfl,rfl,aF.of ((FP.trans AA) _ _ n4.at'),aF.of AZ.at',by show 3<=sizeLine;decide,fun le lJ tD=>?_⟩;have xN:=AA.trans tD.same;have Ay:=xM.trans xN;have ui:=Ay _ _ e2;have Cz:=rt.go (n4.same.trans (FP.trans xN));have U1:=kO.go ((n7.same.trans s8).trans (n9.same.trans (jS.same.trans xN)));have U2:=sL.go (n9.same.trans (jS.same.trans xN));have U3:=FW.go ((B0.same.trans gb).trans (AZ.same.trans tD.same));have U4:=FV.go (AZ.same.trans tD.same);have dm:lJ lm=some (.lst [tv,u1,u2]):=xN _ _ jS.at';have de:lJ le=some (.lst [tv,u3,u4]):=tD.at';have NS:=oE.trans FL;have NU:=xM.trans AA;have wH:d≠lm:=fun z=>by have:=jS.no;rw[<-z,NS _ _ e2]at this;cases this
     have Cd:d≠le:=fun z=>by have:=tD.no;rw[<-z,NU _ _ e2]at this;cases this
     have yt:lm≠le:=fun z=>by have:=tD.no;rw[<-z,AA _ _ jS.at']at this;cases this
     have AW:H lm=none:=by cases e':H lm with |none=>rfl |some o=>have:=NS _ _ (b2 _ _ e' (by rw[cf];exact wH.symm));rw[jS.no]at this;cases this
     have yf:H le=none:=by cases e':H le with |none=>rfl |some o=>have:=NU _ _ (b2 _ _ e' (by rw[cf];exact Cd.symm));rw[tD.no]at this;cases this
     have KL:bS H lJ:=v2.trans Ay.v;refine⟨fun Z HA=>∃fb w9 kK oq zY um ue,Z=[some (.ref d),some (.ref ma),some y,some sv,some (.int left),some cK,some (.ref lt),some (.ref lm),some (.ref le),w9,kK,oq,zY]/\aZ [d,lm,le] lJ HA/\HA d=some (.dK (bB (.ref ma) lv gv sv (.int S.ay) (.str S.side) (.str S.mark) (.ref q) (.int S.dn) bv fb cK (.ref td)))/\uC K HA bv fb (AU S.aR)/\HA lm=some (.lst um)/\HA le=some (.lst ue)/\(∀H8 Q',bS HA H8->H8 lm=some (.lst um)->(∀v,bh K H8 v (lT M.r M.f S.pc (topR S.ay sp) (fE M S) left S.aR)->Q' v H8)->jn K [.ref lm] H8 Q' E0)/\(∀H8 Q',bS HA H8->H8 le=some (.lst ue)->(∀v,bh K H8 v (oM M.r M.f S.pc (topR S.ay sp) (fE M S) left S.aR)->Q' v H8)->jn K [.ref le] H8 Q' E0),?_,?_⟩
     · refine⟨_,rfl,d,_,rfl,dg ui yS,rfl,_,rfl,?_⟩
       cases hs:S.aR with |none=>
         have iU:=r5.v KL;rw[hs]at iU;have a0k:=iU;obtain⟨rfl,_⟩:=iU;refine bF ⟨cv,_,_,_,_,_,_,rfl,aZ.refl _ _,ui,a0k,dm,de,fun H8 Q' sV d8 kq=>Bk d8 (Cz.v sV) (U1.v sV) (U2.v sV) tB B1 B2 fun v rv=>kq v ?_,fun H8 Q' sV d8 kq=>Bk d8 (Cz.v sV) (U3.v sV) (U4.v sV) tB B3 B4 fun v rv=>kq v ?_⟩
         ·rw[PB]at rv;exact rv
         ·rw[PB]at rv;exact rv |some z=>
         obtain⟨sq,st,gn⟩:=z;have iU:=r5.v KL;rw[hs]at iU;have sk:=ok.aR;rw[hs]at sk nh;obtain⟨g1,g2,g3⟩:=vz sk ok.pd.nn nh;obtain⟨gn0,gn1,Ai,si,sf,_,_⟩:=sk;obtain⟨ta,su,rfl,vW,⟨sa,rfl,Qw⟩,rfl⟩:=iU;refine bV ?_;have Aj:Bd 2000 sq:=(si.bd sf).mono (by lia);refine⟨_,rfl,d,_,rfl,dg ui yS,ta,_,rfl,vW,rfl,_,_,rfl,_,_,rfl,rfl,?_⟩;refine⟨_,rfl,d,_,rfl,dg ui RE,_,_,rfl,rfl,_,rfl,d,_,rfl,dp ui OG jO,?_⟩;refine⟨_,rfl,_,rfl,d,_,rfl,dg ba RE,_,_,rfl,rfl,?_⟩;have vA:bS lJ (L2.upd lJ d (.dK (bB (.ref ma) lv gv sv (.int S.ay) (.str S.side) (.str S.mark) (.ref q) (.int S.dn) (.ref ta) (.int (gn+1)) cK (.ref td)))):=.upd ui trivial;have wG:(L2.upd lJ d (.dK (bB (.ref ma) lv gv sv (.int S.ay) (.str S.side) (.str S.mark) (.ref q) (.int S.dn) (.ref ta) (.int (gn+1)) cK (.ref td)))) lm=some (.lst [tv,u1,u2]):=by rw[aK wH.symm];exact dm
         have Cf:(L2.upd lJ d (.dK (bB (.ref ma) lv gv sv (.int S.ay) (.str S.side) (.str S.mark) (.ref q) (.int S.dn) (.ref ta) (.int (gn+1)) cK (.ref td)))) le=some (.lst [tv,u3,u4]):=by rw[aK Cd.symm];exact de
         have eA:(L2.upd lJ d (.dK (bB (.ref ma) lv gv sv (.int S.ay) (.str S.side) (.str S.mark) (.ref q) (.int S.dn) (.ref ta) (.int (gn+1)) cK (.ref td)))) d=some (.dK (bB (.ref ma) lv gv sv (.int S.ay) (.str S.side) (.str S.mark) (.ref q) (.int S.dn) (.ref ta) (.int (gn+1)) cK (.ref td))):=ba;have bA:∀b o,b≠d->lJ b=some o->(L2.upd lJ d (.dK (bB (.ref ma) lv gv sv (.int S.ay) (.str S.side) (.str S.mark) (.ref q) (.int S.dn) (.ref ta) (.int (gn+1)) cK (.ref td)))) b=some o:=fun b o hb eb=>by rw[aK hb];exact eb
         generalize L2.upd lJ d (.dK (bB (.ref ma) lv gv sv (.int S.ay) (.str S.side) (.str S.mark) (.ref q) (.int S.dn) (.ref ta) (.int (gn+1)) cK (.ref td)))=HA at vA wG Cf eA bA⊢;have HM:=aP.v vA Qw;have Ik:=den_pos sq;have dW:∀z:Int,0<z->z<=2000->0<(sq.den:Int)*z/\Wd ((sq.den:Int)*z):=fun z h1 h2=>by refine⟨iB Ik h1,gZ (n:=2011) ?_ (by decide)⟩;rw[fN];exact kS Aj.den (show z.natAbs<2^11 by lia)
         have lE:sizeLine=16777216:=by decide
         refine⟨_,rfl,.inl ⟨rfl,_,aF.of wG⟩,_,rfl,.inr ⟨sa,_,0,_,rfl,rfl,HM,rfl,_,rfl,_,_,rfl,rfl,.of_left (cg (by decide) (by decide)),_,_,rfl,rfl,_,_,rfl,rfl,.of_right (cg (by lia) (by lia)),?_⟩⟩;refine⟨_,rfl,.inr ⟨sa,_,1,_,rfl,rfl,HM,rfl,_,_,rfl,rfl,.of_right (cg (by decide) (by decide)),_,rfl,_,_,rfl,rfl,.of_right (cg (by lia) (by lia)),?_⟩⟩;have W1:=dW (2*st) (by lia) (by lia);rw[<-uM]at W1;refine⟨_,_,rfl,W1.1,W1.2,fun x1 HB xQ sB=>?_⟩;have qQ:Rat.divInt (sq.num*(2*(st-(gn+1))+1)) ((sq.den:Int)*2*st)=sq*Rat.divInt (2*(st-gn-1)+1) (2*st):=by rw[uM,RJ (show(2*st:Int)≠0 by lia),show st-(gn+1)=st-gn-1 by lia]
         have C5:Rat.divInt (sq.num*(st-(gn+1))) ((sq.den:Int)*st)=sq*Rat.divInt (st-gn-1) st:=by rw[RJ (show(st:Int)≠0 by lia),show st-(gn+1)=st-gn-1 by lia]
         have xQ:bh K HB x1 (sq*Rat.divInt (2*(st-gn-1)+1) (2*st)):=by rw[<-qQ];exact xQ
         have pB:Bd 2000 (sq*Rat.divInt (2*(st-gn-1)+1) (2*st)):=((si.bd sf).mul (kz (n:=12) (by lia) (by lia) (by lia))).mono (by lia);have Gu:Bd 2000 (sq*Rat.divInt (st-gn-1) st):=((si.bd sf).mul (kz (n:=12) (by lia) (by lia) (by lia))).mono (by lia);have So:=sB _ _ wG;refine⟨lm,_,_,rfl,rfl,So,by show 3<sizeLine;lia,?_⟩;have vC:bS HB (L2.upd HB lm (.lst ([tv,u1,u2]++[x1]))):=.upd So trivial;have Jp:(L2.upd HB lm (.lst ([tv,u1,u2]++[x1]))) le=some (.lst [tv,u3,u4]):=by rw[aK yt.symm];exact sB _ _ Cf
         have Sn:(L2.upd HB lm (.lst ([tv,u1,u2]++[x1]))) lm=some (.lst [tv,u1,u2,x1]):=ba;have eC:(L2.upd HB lm (.lst ([tv,u1,u2]++[x1]))) d=some (.dK (bB (.ref ma) lv gv sv (.int S.ay) (.str S.side) (.str S.mark) (.ref q) (.int S.dn) (.ref ta) (.int (gn+1)) cK (.ref td))):=by rw[aK wH];exact sB _ _ eA
         have bC:∀b o,b≠lm->HB b=some o->(L2.upd HB lm (.lst ([tv,u1,u2]++[x1]))) b=some o:=fun b o hb eb=>by rw[aK hb];exact eb
         generalize L2.upd HB lm (.lst ([tv,u1,u2]++[x1]))=HC at vC Jp Sn eC bC⊢;have Qx:=aP.v vC (HM.go sB);refine⟨_,rfl,.inl ⟨rfl,_,aF.of Jp⟩,_,rfl,.inr ⟨sa,_,0,_,rfl,rfl,Qx,rfl,_,rfl,_,_,rfl,rfl,.of_right (cg (by lia) (by lia)),?_⟩⟩;refine⟨_,rfl,.inr ⟨sa,_,1,_,rfl,rfl,Qx,rfl,_,rfl,_,_,rfl,rfl,.of_right (cg (by lia) (by lia)),?_⟩⟩;have W2:=dW st (by lia) (by lia);refine⟨_,_,rfl,W2.1,W2.2,fun x2 HD xP sD=>?_⟩;have xP:bh K HD x2 (sq*Rat.divInt (st-gn-1) st):=by rw[<-C5];exact xP
         have SD:=sD _ _ Jp;refine⟨le,_,_,rfl,rfl,SD,by show 3<sizeLine;lia,?_⟩;have vE:bS HD (L2.upd HD le (.lst ([tv,u3,u4]++[x2]))):=.upd SD trivial;have X6:=sB.v.trans vC;have KN:=sD.v.trans vE;have pR:=vA.trans (X6.trans KN);refine⟨.int (gn+1),_,_,_,_,[tv,u1,u2,x1],[tv,u3,u4,x2],rfl,fun b o' eb hb=>?_,?_,⟨ta,.ref sa,rfl,aP.v pR vW,⟨sa,rfl,aP.v pR Qw⟩,rfl⟩,?_,ba,fun H' Q' sV d' kq=>?_,fun H' Q' sV d' kq=>?_⟩
         · have ha:b≠d:=fun z=>hb (by rw[z];simp)
           have Ie:b≠lm:=fun z=>hb (by rw[z];simp);have hle:b≠le:=fun z=>hb (by rw[z];simp);rw[aK hle];exact sD _ _ (bC _ _ Ie (sB _ _ (bA _ _ ha eb)))
         ·rw[aK Cd];exact sD _ _ eC
         ·rw[aK yt];exact sD _ _ Sn
         · refine Bj d' ((Cz.v pR).v sV) ((U1.v pR).v sV) ((U2.v pR).v sV) (((xQ.v vC).v KN).v sV) tB B1 B2 pB fun v rv=>kq v ?_
           rw[Py]at rv;exact rv
         · refine Bj d' ((Cz.v pR).v sV) ((U3.v pR).v sV) ((U4.v pR).v sV) ((xP.v vE).v sV) tB B3 B4 Gu fun v rv=>kq v ?_
           rw[Py]at rv;exact rv
     · rintro Z HA ⟨fb,w9,kK,oq,abV,um,ue,rfl,tV⟩
       have bt:=tV.1;have eA:=tV.2.1;have LF:=tV.2.2.1;have wG:=tV.2.2.2.1;have Cf:=tV.2.2.2.2.1;have km:=tV.2.2.2.2.2.1;have ke:=tV.2.2.2.2.2.2;have Cr:aZ [d] H HA:=fun b o' eb hb=>by
        have ha:b≠d:=fun z=>hb (by rw[z];simp);refine bt b o' (Ay _ _ (b2 _ _ eb hb)) fun hm=>?_;simp only[bN,cI,dB]at hm;rcases hm with h|h|h
        ·exact ha h
        ·rw[h,AW]at eb;cases eb
        ·rw[h,yf]at eb;cases eb
       have Dn:bS H HA:=Cr.v fun x hx o' cX=>by rw[cf]at hx;rw[hx,e]at cX;cases cX;trivial
       have Xb:bS lJ HA:=bt.v fun x hx o' cX=>by
        simp only[bN,cI,dB]at hx;rcases hx with h|h|h
        ·rw[h,ui]at cX;cases cX;trivial
        ·rw[h,dm]at cX;cases cX;trivial
        ·rw[h,de]at cX;cases cX;trivial
       have rRA:bh K HA cK (fE M S):=(rR.go Ay).v Xb;have NY:=RD.v Dn _ (Bg ns sp) ry;have AQ:eR ns.length 1000 ns:=eV.up;have PR:ns.length=M.rs.length:=eV.len;refine⟨_,rfl,_,rfl,d,_,rfl,dg eA BX,y,ns,sp,_,rfl,NY,AQ,by lia,by lia,by lia,fun a1 HB ra1 sB=>?_⟩;refine⟨_,rfl,_,rfl,d,_,rfl,dg (sB _ _ eA) BX,_,_,rfl,rfl,y,ns,sp,_,rfl,RD.mono sB _ NY,AQ,by lia,by lia,by lia,fun a2 HC ra2 sC=>?_⟩;obtain⟨p1,rfl,h1⟩:=sP (pl:=iC ns (S.dn:Int)) ra1;obtain⟨p2,rfl,h2⟩:=sP (pl:=iC ns ((S.dn:Int)+1)) ra2;refine⟨p1,p2,rfl,⟨_,h1.go sC⟩,⟨_,h2⟩,fun D1 HD nD=>?_⟩;refine aaq (h1.go sC) h2 (by simp[iC]) (by simp[iC];lia) nD (fun x y H Q h=>⟨_,rfl,_,rfl,_,_,rfl,rfl,h⟩) fun HE sE dE=>?_;refine⟨D1,_,rfl,.inl ⟨aF.of dE,fun j9 HF nF=>?_⟩⟩;have HN:aP K HF j9 ((hW ns S.dn).map V.int):=by rw[<-ZD];exact aP.of nF.at'
       have mO:=sB.trans (sC.trans (sE.trans nF.same));have eF:=mO _ _ eA;have hlv:=(r2:RD K H lv (fo (fm S)));obtain⟨pa,rfl,tO⟩:=sP (RD.v Dn _ (hZ _) r2);have lpl:(fm S).length=M.rs.length:=Ou ok;have a4c:(hW ns S.dn).length=(fm S).length:=by rw[lpl];simp[hW,PR]
       refine⟨_,rfl,d,_,rfl,dg eF RC,_,rfl,pa,j9,rfl,⟨_,tO.go mO⟩,⟨_,HN⟩,fun D2 HG nG=>?_⟩;refine SQ (tO.go mO) HN a4c (by lia) nG (fun x y H Q h=>⟨_,rfl,_,rfl,_,_,rfl,rfl,h⟩) fun HI sI dI=>?_;refine⟨D2,_,rfl,.inl ⟨aF.of dI,fun pt HJ nJ=>?_⟩⟩;have Av:=sI.trans nJ.same;have eJ:=Av _ _ eF;have Qz:aP K HJ pt ((fR (fm S) (hW ns S.dn)).map V.int):=aP.of nJ.at';refine⟨_,rfl,d,_,rfl,dp eJ a1i jO,?_⟩;have KO:bS HA HJ:=(mO.trans Av).v;have Dm:bS HJ (L2.upd HJ d (.dK (bB (.ref ma) (.ref pt) gv sv (.int S.ay) (.str S.side) (.str S.mark) (.ref q) (.int S.dn) bv fb cK (.ref td)))):=.upd eJ trivial;have e1:(L2.upd HJ d (.dK (bB (.ref ma) (.ref pt) gv sv (.int S.ay) (.str S.side) (.str S.mark) (.ref q) (.int S.dn) bv fb cK (.ref td)))) d=some (.dK (bB (.ref ma) (.ref pt) gv sv (.int S.ay) (.str S.side) (.str S.mark) (.ref q) (.int S.dn) bv fb cK (.ref td))):=ba;have b1:∀b o,b≠d->HA b=some o->(L2.upd HJ d (.dK (bB (.ref ma) (.ref pt) gv sv (.int S.ay) (.str S.side) (.str S.mark) (.ref q) (.int S.dn) bv fb cK (.ref td)))) b=some o:=fun b o hb eb=>by rw[aK hb];exact Av _ _ (mO _ _ eb)
       generalize L2.upd HJ d (.dK (bB (.ref ma) (.ref pt) gv sv (.int S.ay) (.str S.side) (.str S.mark) (.ref q) (.int S.dn) bv fb cK (.ref td)))=wX at Dm e1 b1⊢;refine⟨_,rfl,?_⟩;dsimp only[mJ];refine ke wX _ (KO.trans Dm) (b1 _ _ Cd.symm Cf) fun pe AE=>?_;refine⟨_,rfl,d,_,rfl,dp e1 a1h jO,?_⟩;refine⟨_,rfl,d,_,rfl,dg ba BX,_,_,rfl,rfl,_,rfl,d,_,rfl,dp ba OF jO,?_⟩;have vX:bS wX (L2.upd (L2.upd wX d (.dK (bB (.ref ma) (.ref pt) gv pe (.int S.ay) (.str S.side) (.str S.mark) (.ref q) (.int S.dn) bv fb cK (.ref td)))) d (.dK (bB (.ref ma) (.ref pt) gv pe (.int S.ay) (.str S.side) (.str S.mark) (.ref q) (.int ((S.dn:Int)+1)) bv fb cK (.ref td)))):=fun b o nb eb=>by
        have hb:b≠d:=fun z=>by rw[z,e1]at eb;cases eb;exact nb trivial
        rw[aK hb,aK hb];exact eb
       have eX:(L2.upd (L2.upd wX d (.dK (bB (.ref ma) (.ref pt) gv pe (.int S.ay) (.str S.side) (.str S.mark) (.ref q) (.int S.dn) bv fb cK (.ref td)))) d (.dK (bB (.ref ma) (.ref pt) gv pe (.int S.ay) (.str S.side) (.str S.mark) (.ref q) (.int ((S.dn:Int)+1)) bv fb cK (.ref td)))) d=some (.dK (bB (.ref ma) (.ref pt) gv pe (.int S.ay) (.str S.side) (.str S.mark) (.ref q) (.int ((S.dn:Int)+1)) bv fb cK (.ref td))):=ba;have bX:∀b o,b≠d->HA b=some o->(L2.upd (L2.upd wX d (.dK (bB (.ref ma) (.ref pt) gv pe (.int S.ay) (.str S.side) (.str S.mark) (.ref q) (.int S.dn) bv fb cK (.ref td)))) d (.dK (bB (.ref ma) (.ref pt) gv pe (.int S.ay) (.str S.side) (.str S.mark) (.ref q) (.int ((S.dn:Int)+1)) bv fb cK (.ref td)))) b=some o:=fun b o hb eb=>by rw[aK hb,aK hb];exact b1 _ _ hb eb
       generalize(L2.upd (L2.upd wX d (.dK (bB (.ref ma) (.ref pt) gv pe (.int S.ay) (.str S.side) (.str S.mark) (.ref q) (.int S.dn) bv fb cK (.ref td)))) d (.dK (bB (.ref ma) (.ref pt) gv pe (.int S.ay) (.str S.side) (.str S.mark) (.ref q) (.int ((S.dn:Int)+1)) bv fb cK (.ref td))))=HX at vX eX bX⊢;have zZ:=Dm.trans vX;have xn:=KO.trans zZ;have rS:=Dn.trans xn;have C7:HX q=some (.lst ys):=bX _ _ dq.symm (Cr _ _ eq (by rw[cf];exact dq.symm));have qlm:q≠lm:=fun z=>by rw[z,AW]at eq;cases eq
       have Pq:0<lT M.r M.f S.pc (topR S.ay sp) (fE M S) left S.aR:=PD (by lia) (by lia) l1 ok.pd.nn (Lf gI ok.cZ) Rd.nn ok.aR nh;have CB:fm (fG ns (fH M S ns sp))=fR (fm S) (hW ns S.dn):=(a0C eo (by rw[PR,ok.pl]) fz hd).symm;have CD:cP (fG ns (fH M S ns sp))=cP S:=Ro eo;refine⟨fun Z HY=>Z=[some (.ref d),some (.ref ma),some y,some sv,some (.int left),some cK,some (.ref lt),some (.ref lm),some (.ref le),w9,kK,oq,some (.ref j9)]/\dH K HY d q td M (fG ns (fH M S ns sp))/\aZ [d,q] H HY/\bS HX HY/\HY lm=some (.lst um),?_,?_⟩
       · refine⟨_,rfl,.inl ⟨_,_,rfl,rfl,_,rfl,?_⟩⟩
         refine dN (fun h0=>?_) (fun h0=>?_)
         · have hl:left=1:=jI h0
           have Ij:(fH M S ns sp).dn=aH ns:=by show S.dn+1=aH ns;lia
           obtain⟨fO,iu⟩:∃fO,S.os=some (ns,sp)::fO:=by cases e:S.os with |nil=>rw[e]at eo;simp at eo |cons a r=>rw[e]at eo;cases eo;exact⟨r,rfl⟩
           have eN:fG ns (fH M S ns sp)={fH M S ns sp with pl:=gU S.pl (some (ns,sp)),ds:=S.ds.tail,os:=fO,dn:=0}:=by unfold fG;rw[bc Ij];unfold iZ;rw[show(fH M S ns sp).os=some (ns,sp)::fO from iu];rfl
           rw[eN]at CB CD⊢;have vT:seqIndex? 0 ys.length=some 0:=by have:0<ys.length:=(dM.mp ey).1;unfold seqIndex?;simp[this]
           refine⟨_,rfl,d,_,rfl,dg eX m3,.inl ⟨rfl,_,aF.of C7⟩,q,ys,0,0,y,rfl,rfl,C7,by decide,by decide,vT,ey,?_⟩;have e3:(L2.upd HX q (.lst (ys.eraseIdx 0))) d=some (.dK (bB (.ref ma) (.ref pt) gv pe (.int S.ay) (.str S.side) (.str S.mark) (.ref q) (.int ((S.dn:Int)+1)) bv fb cK (.ref td))):=by rw[aK dq];exact eX
           refine⟨_,rfl,d,_,rfl,dp e3 OF jO,?_⟩;refine⟨_,rfl,d,_,rfl,dp ba AO jO,?_⟩;have vY:bS HX (L2.upd (L2.upd (L2.upd HX q (.lst (ys.eraseIdx 0))) d (.dK (bB (.ref ma) (.ref pt) gv pe (.int S.ay) (.str S.side) (.str S.mark) (.ref q) (.int 0) bv fb cK (.ref td)))) d (.dK (bB (.ref ma) (.ref pt) gv pe (.int S.ay) (.str S.side) (.str S.mark) (.ref q) (.int 0) bv fb .bo (.ref td)))):=fun b o nb eb=>by
            have hb:b≠d:=fun z=>by rw[z,eX]at eb;cases eb;exact nb trivial
            have hq:b≠q:=fun z=>by rw[z,C7]at eb;cases eb;exact nb trivial
            rw[aK hb,aK hb,aK hq];exact eb
           have bY:∀b o,b≠d->b≠q->HX b=some o->(L2.upd (L2.upd (L2.upd HX q (.lst (ys.eraseIdx 0))) d (.dK (bB (.ref ma) (.ref pt) gv pe (.int S.ay) (.str S.side) (.str S.mark) (.ref q) (.int 0) bv fb cK (.ref td)))) d (.dK (bB (.ref ma) (.ref pt) gv pe (.int S.ay) (.str S.side) (.str S.mark) (.ref q) (.int 0) bv fb .bo (.ref td)))) b=some o:=fun b o hb hq eb=>by rw[aK hb,aK hb,aK hq];exact eb
           have eY:(L2.upd (L2.upd (L2.upd HX q (.lst (ys.eraseIdx 0))) d (.dK (bB (.ref ma) (.ref pt) gv pe (.int S.ay) (.str S.side) (.str S.mark) (.ref q) (.int 0) bv fb cK (.ref td)))) d (.dK (bB (.ref ma) (.ref pt) gv pe (.int S.ay) (.str S.side) (.str S.mark) (.ref q) (.int 0) bv fb .bo (.ref td)))) d=some (.dK (bB (.ref ma) (.ref pt) gv pe (.int S.ay) (.str S.side) (.str S.mark) (.ref q) (.int 0) bv fb .bo (.ref td))):=ba;have qY:(L2.upd (L2.upd (L2.upd HX q (.lst (ys.eraseIdx 0))) d (.dK (bB (.ref ma) (.ref pt) gv pe (.int S.ay) (.str S.side) (.str S.mark) (.ref q) (.int 0) bv fb cK (.ref td)))) d (.dK (bB (.ref ma) (.ref pt) gv pe (.int S.ay) (.str S.side) (.str S.mark) (.ref q) (.int 0) bv fb .bo (.ref td)))) q=some (.lst (ys.eraseIdx 0)):=by rw[aK dq.symm,aK dq.symm];exact ba
           refine⟨rfl,⟨⟨.ref ma,.ref pt,gv,pe,bv,fb,.bo,eY,RD.v (rS.trans vY) _ (jd _ _ _ _ _) r1,?_,?_,?_,LF.v (xn.trans vY),.inl rfl⟩,ys.eraseIdx 0,qY,?_⟩,fun b o eb hb=>?_,vY,bY _ _ wH.symm qlm.symm (bX _ _ wH.symm wG)⟩
           ·rw[CB];exact vj (aP.v vY (aP.v zZ Qz))
           ·rw[CD];exact RD.v (rS.trans vY) _ (hZ _) r3
           · show bh K _ pe (oM M.r M.f S.pc (topR S.ay sp) (fE M S) ((aH ns:Int)-S.dn) S.aR)
             rw[el];exact(AE.v vX).v vY
           ·exact S4 (aJ.v (rS.trans vY) _ ok.row.no rq)
           · have ha:b≠d:=fun z=>hb (by rw[z];simp)
             have hq:b≠q:=fun z=>hb (by rw[z];simp);exact bY _ _ ha hq (bX _ _ ha (Cr _ _ eb (by rw[cf];exact ha)))
         · have hl:left≠1:=fun z=>h0 (cH z)
           have a62:¬(fH M S ns sp).dn=aH ns:=fun z=>hl (by have:S.dn+1=aH ns:=z;lia);have eN:fG ns (fH M S ns sp)=fH M S ns sp:=bf a62;rw[eN]at CB CD⊢;refine⟨rfl,⟨⟨.ref ma,.ref pt,gv,pe,bv,fb,cK,eX,RD.v rS _ (jd _ _ _ _ _) r1,?_,?_,?_,LF.v xn,.inr (show bh K HX cK (fE M S)from rRA.v xn)⟩,ys,C7,aJ.v rS _ ok.row.no rq⟩,fun b o eb hb=>?_,.refl,bX _ _ wH.symm wG⟩
           ·rw[CB];exact vj (aP.v zZ Qz)
           ·rw[CD];exact RD.v rS _ (hZ _) r3
           · show bh K HX pe (oM M.r M.f S.pc (topR S.ay sp) (fE M S) ((aH ns:Int)-S.dn) S.aR)
             rw[el];exact AE.v vX
           · have ha:b≠d:=fun z=>hb (by rw[z];simp)
             exact bX _ _ ha (Cr _ _ eb (by rw[cf];exact ha))
       · rintro Z HY ⟨rfl,BI⟩
         have RY:=BI.1;have bY:=BI.2.1;have vY:=BI.2.2.1;have dY:=BI.2.2.2;refine⟨_,rfl,?_⟩;dsimp only[mJ];refine km HY _ (xn.trans vY) dY fun v rv=>?_;have t1:=aO.t1;have nB:Bd 2000 (lT M.r M.f S.pc (topR S.ay sp) (fE M S) left S.aR):=((PF (D:=D) (by lia) (by lia) l1 ok.pd (Lh.mono (by lia)) (Rd.mono (by lia)) ok.aR nh).bd (eg PC (eg tl (by decide+kernel)))).mono (by lia);refine⟨_,rfl,_,rfl,_,rfl,.ref ma,v,M.rs,M.r,M.f,M.j,M.t,_,rfl,RD.v (rS.trans vY) _ (jd _ _ _ _ _) r1,rv,nB,t1.1,t1.2,GG Pq,fun T T1 _ T2 T3 HZ sZ=>?_⟩;refine⟨_,rfl,bU rfl,fun tt HW nW=>k (.ref tt) HW ?_ (RY.same (One.ok ok aO (.line eo nh)).row.no (sZ.trans nW.same)) (fun b o eb hb=>(sZ.trans nW.same) _ _ (bY b o eb hb))⟩;have etk:=Lg (Ku (GG Pq)) ⟨T1,T2,T3⟩;unfold mZ Hc oy;rw[el,etk];exact iT (aP.of nW.at') (bW (cV _) (bW (RD.mono (sZ.trans nW.same) _ (vj (aP.v (Av.v.trans (zZ.trans vY)) HN))) (bW (dC _) (bW (rv.go (sZ.trans nW.same)).rd cU))))
theorem a9C(q:Rat):PyData.eqv (cR q) (.tuple [.int 0,.int 1])=decide (q=0):=by have h:(q.num=0/\(q.den:Int)=1)↔q=0:=⟨fun h=>Rat.num_eq_zero.mp h.1,fun h=>by rw[h];exact⟨rfl,rfl⟩⟩;rw[om,rH,<-h];simp[cR,PyData.eqv,PyData.eqvAll]
theorem YN(d:ai)(S:bj):(ck d S).pc=S.pc/\(ck d S).ay=S.ay/\(ck d S).aR=S.aR:=by
 unfold ck;split
 · split
   ·exact⟨rfl,rfl,rfl⟩
   ·split<;>exact⟨rfl,rfl,rfl⟩
 ·exact⟨rfl,rfl,rfl⟩
theorem OO{M:bM}{D:Nat}{S:bj}{d:ai}(ok:cm M D S)(eo:S.os[0]? =some none):∃fO,S.os=none::fO/\iZ (ck d S)={ck d S with pl:=S.pl,ds:=S.ds.tail,os:=fO,dn:=0}/\fm (iZ (ck d S))=fm S/\cP (iZ (ck d S))=cP S:=by
 obtain⟨fO,iu⟩:∃fO,S.os=none::fO:=by cases e:S.os with |nil=>rw[e]at eo;simp at eo |cons a r=>rw[e]at eo;cases eo;exact⟨r,rfl⟩
 obtain⟨_,e1,e2,e3,e4⟩:=E4 ok.raw d;have Jk:S.dn=0:=by
  rcases ok.dn with z|⟨yd,xH,e1,e2⟩
  ·exact z
  ·rw[eo]at e1;cases e1
 have eE:iZ (ck d S)={ck d S with pl:=S.pl,ds:=S.ds.tail,os:=fO,dn:=0}:=by unfold iZ;rw[e1,iu,e2,e4];rfl
 refine⟨fO,iu,eE,?_,?_⟩
 · rw[eE]
   unfold fm;rw[bc rfl,bc Jk]
 · rw[eE]
   unfold cP;rw[iu];rfl
theorem Qp{c:TT}{ts rest:TS}{D:Ends}{Z:L2.St}{H:Hp}(G:Hp->Prop)(hr:∀H',G H'->rest D Z H')(h:(∀H',G H'->rest D Z H')->DA (DD c ts A8) rest D Z H):DA (DD c ts A8) rest D Z H:=h hr
inductive UO(K:aa)(vs:List V)(H:Hp)(Q:VK):Prop |mk (d:_)(q:_)(td:_)(M:_)(D:_)(S:_)(n:_)(h0:vs=[.ref d,.int n])(h1:dH K H d q td M S)(h2:cm M D S)(h3:M.Ok)(h4:0<=n)(h5:n<=1000)(h6:∀l ys es S' H',H l=none->H' l=some (.lst ys)->aJ K H' ys es->Run M S es S'->(es.length:Int)<=n->((es.length:Int)=n\/S'.os=[]\/Halt S'.pc S'.aR)->dH K H' d q td M S'->aZ [d,q] H H'->Q (.ref l) H'):UO K vs H Q
def M1(K:aa):Sp:=fun vs H Q _=>UO K vs H Q
theorem MP:bp ["_law_sim_here","_law_n","_law_found","_law_item"] ["_law_sim_here","_law_n"] (aV Es):=bI (by decide+kernel)
theorem a1X(F:FA K mg "_law_sim_entries" Es)(B:bP mg)(a7w:aD P w K mg base "_law_sim_step" 5 (LX K)):aD P w K mg base "_law_sim_entries" 6 (M1 K):=by
 refine F.has MP (fun vs H Q E h=>?_) (fun _ _ _ _ _ _=>dy fun _ _=>rfl) (fun fa aL A outer s H vs Q E hr h=>?_)
 · obtain⟨d,q,td,M,D,S,n,rfl,_⟩:=h
   rfl
 · obtain⟨d,q,td,M,D,S,n,rfl,R,ok,aO,n0,n1,k⟩:=h
   have dq:=R.ne;have nd:=MP.nd;refine⟨_,(aB (pS 2 nd (dv aw)) (aB (mU gY (PW.pt (mT (bZ jQ (dU K B (O (pv 2) aw)) (pv 1) (bw _)) (qi (bZ qk (dU K B (O (cD hr (pv 0) aW) aw)) az (bw _))))) (aB (bJ (PW.pt (mT (bZ xZ (cD hr (pv 0) aW) jo (bw _)) (qi (bZ (cQ K rfl hr.units) (cD hr (pv 0) aW) (dS (O az (O az aw))) (bw _))))) (aG (aU (pv 2))) bO) (aB (pS 3 nd (px K (cD hr (pv 0) aW) az)) (aG (bJ (bZ (cQ K rfl hr.units) (px K (pv 3) az) aW (bw _)) (aG (gP (jq K rfl (pv 2) (O (pf a7w hr (O (pv 0) aw)) aw)))) (aB (gJ (bJ (bZ (jv K rfl hr.units) (px K (pv 3) az) aW (bw _)) (aG (gB (fA hr.units) (pv 0) (px K (pv 3) az) (px K (pv 3) az) rfl)) bO)) (aB (gP (jq K rfl (pv 2) (O (OE K rfl (cD hr (pv 0) aW) (O az aw)) aw))) (aG (gB (fA hr.units) (pv 0) aW jo rfl))))))))) (aG (aU (pv 2))))),?_⟩;refine⟨bU rfl,fun l H1 nw=>?_⟩;obtain⟨mv,lv,gv,sv,bv,cv,rv,e,r1,r2,r3,r4,r5,r6⟩:=R.ob;obtain⟨ys,eq,rq⟩:=R.qu;have zb:d≠l:=fun z=>by have:=nw.no;rw[<-z,e]at this;cases this
   have ql:q≠l:=fun z=>by have:=nw.no;rw[<-z,eq]at this;cases this
   refine mG (fun Z H2=>∃es S' us w3,Z=[some (.ref d),some (.int n),some (.ref l),w3]/\dH K H2 d q td M S'/\H2 l=some (.lst us)/\aJ K H2 us es/\Run M S es S'/\(es.length:Int)<=n/\aZ [d,q] H H2) (fun _ H2=>match H2 l with|some (.lst us)=>2000-us.length|_=>0) ?_ ?_ ?_
   ·exact⟨[],S,[],none,rfl,R.same ok.row.no nw.same,nw.at',cU,.nil _,by simpa using n0,.of nw.same⟩
   · rintro Z H2 ⟨es,S',us,w3,rfl,R2,dl,rd,run,lj,bt⟩
     have jb:=run.ok ok aO;have lb:=run.no ok aO;have lu:=rd.length;obtain⟨mv,lv,gv,sv,bv,cv,rv,e,r1,r2,r3,r4,r5,r6⟩:=R2.ob;obtain⟨yq,eq2,rq⟩:=R2.qu;have vP:=rq.length;have yu:=jb.row.len;have lE:sizeLine=16777216:=by decide
     refine⟨_,rfl,l,us,rfl,.inl (aF.of dl),_,rfl,_,_,rfl,rfl,_,rfl,?_⟩;show if decide ((us.length:Int)<n)=true then _ else _;by_cases c1:(us.length:Int)<n
     · rw[cH c1]
       refine bV ?_;refine⟨_,rfl,d,_,rfl,dg e m3,q,yq,rfl,.inl (aF.of eq2),_,_,rfl,rfl,_,rfl,?_⟩;cases jz:S'.os with |nil=>have:yq=[]:=D7.mp (by rw[vP,yu,jz];rfl);subst this;refine bF ?_;exact⟨_,rfl,k l us es S' H2 nw.no dl rd run lj (.inr (.inl jz)) R2 bt⟩ |cons o os=>
         have dG:S'.os≠[]:=by rw[jz];simp
         have oW:0<yq.length:=by rw[vP,yu,jz];simp
         rw[cH (show(0:Int)<(yq.length:Int) by lia)];refine bV ?_;have eo:S'.os[0]? =some o:=by rw[jz];rfl
         refine Qp (fun H3=>¬Halt S'.pc S'.aR/\aE H2 H3) (fun H3 g=>?_) (fun yF=>?_)
         · obtain⟨nh,s3⟩:=g
           have R3:=R2.same jb.row.no s3;have e3:=s3 _ _ e;have eq3:=s3 _ _ eq2;have wI:=s3 _ _ dl;have G6:=aJ.mono s3 _ rd;have Th:aZ [d,q] H H3:=fun b o' eb hb=>s3 _ _ (bt b o' eb hb);have dlq:l∉[d,q]:=by simp;exact⟨zb.symm,ql.symm⟩
           obtain⟨dd,ed⟩:∃dd,S'.ds[0]? =some dd:=⟨_,cj (show 0<S'.ds.length by lia)⟩;obtain⟨y,ey,ry⟩:=rq.get 0 ed;have it:=jb.row.it 0 dd _ ed eo;have AB:=RD.mono s3 _ ry;refine⟨_,rfl,d,_,rfl,dg e3 m3,.inl ⟨q,_,0,y,rfl,rfl,aF.of eq3,dc (gA 0) ey,?_⟩⟩;obtain⟨ya,wd,zs,rfl,yC,ew,sw⟩:=vU AB it;refine⟨_,rfl,.inr ⟨ya,_,0,.str wd,rfl,rfl,yC,dc (gA 0) rfl,.inr ⟨_,_,cV _,cV _,sw,tF,_,rfl,?_⟩⟩⟩;rw[ew];cases o with
           |some z=>
             obtain⟨ns,sp⟩:=z;refine bV ?_;refine⟨_,rfl,.inl ⟨rfl,_,aF.of wI⟩,_,rfl,d,q,td,M,D,S',ns,sp,rfl,R3,jb,aO,eo,nh,fun v H4 cK R4 b4=>?_⟩;have Dq:=R3.v b4;have jY:=b4 _ _ wI dlq;refine⟨l,us,_,rfl,rfl,jY,by lia,?_⟩;have vu:bS H4 (L2.upd H4 l (.lst (us++[v]))):=.upd jY trivial;have one:One M S' (mZ M S' ns sp) (fG ns (fH M S' ns sp)):=.line eo nh;have eG:=One.ok jb aO one;refine⟨⟨es++[mZ M S' ns sp],_,us++[v],_,rfl,R4.go eG.row.no vu (fun o' cX=>by rw[aK zb];exact cX) (fun o' cX=>by rw[aK ql];exact cX),ba,(aJ.v (Dq.trans vu) _ lb G6).append (bW (RD.v vu _ (DF _ _ _) cK) cU),run.snoc one,by rw[fD];show((es.length+1:Nat):Int)<=n;lia,fun b o' eb hb=>?_⟩,?_⟩
             · have dX:b≠l:=fun z=>by have:=nw.no;rw[<-z,eb]at this;cases this
               rw[aK dX];exact b4 _ _ (Th _ _ eb hb) hb
             · show(match(L2.upd H4 l (.lst (us++[v]))) l with|some (.lst us)=>2000-us.length|_=>0)<(match H2 l with|some (.lst us)=>2000-us.length|_=>0)
               rw[ba,dl];show 2000-(us++[v]).length<2000-us.length;rw[fD];show 2000-(us.length+1)<2000-us.length
               lia |none=>
             refine bF ?_;have ie:=jb.rw 0 dd eo ed;have tW:SeqAt.shaped (.str "wait")=true:=by decide+kernel
             have eqT:∀(x y:Str),PyData.eqv (.str x) (.str y)=decide (x=y):=fun x y=>by show(x==y)=decide (x=y);rw[om];simp
             refine⟨fun Z H4=>Z=[some (.ref d),some (.int n),some (.ref l),some (.ref ya)]/\aZ [d] H3 H4/\H4 d=some (.dK (bB mv lv gv sv (.int S'.ay) (.str (ck dd S').side) (.str (ck dd S').mark) (.ref q) (.int S'.dn) bv cv rv (.ref td))),?_,?_⟩
             · rcases ie with⟨m,rfl,_⟩|⟨w',s',rfl,hw,_⟩
               · obtain⟨WZ,xs,ea,h1,h2⟩:=AB.eu
                 cases ea;obtain⟨x1,rr,rfl,e1,h2⟩:=h2.cons_inv;cases e1.str_inv;refine⟨_,rfl,.inr ⟨ya,_,0,.str "wait",rfl,rfl,h1,dc (gA 0) rfl,.inr ⟨_,_,cV _,cV _,tW,tW,_,rfl,?_⟩⟩⟩;rw[eqT,cH rfl];exact bF ⟨rfl,aZ.refl _ _,e3⟩
               · obtain⟨WZ,xs,ea,h1,h2⟩:=AB.eu
                 cases ea;obtain⟨x1,rr,rfl,e1,h2⟩:=h2.cons_inv;obtain⟨x2,rr,rfl,e2,h2⟩:=h2.cons_inv;cases h2.nil_inv;cases e1.str_inv;cases e2.str_inv;have sz:SeqAt.shaped (.str w')=true:=by rcases hw with rfl|rfl<;>decide+kernel
                 have nw':¬w'="wait":=by rcases hw with rfl|rfl<;>decide+kernel
                 refine⟨_,rfl,.inr ⟨ya,_,0,.str w',rfl,rfl,h1,dc (gA 0) rfl,.inr ⟨_,_,cV _,cV _,sz,tW,_,rfl,?_⟩⟩⟩;rw[eqT,fe nw'];refine bV ?_;rcases hw with rfl|rfl
                 · refine⟨_,rfl,.inr ⟨ya,_,1,.str s',rfl,rfl,h1,dc (by decide) rfl,_,rfl,_,rfl,.inr ⟨ya,_,0,.str "tool",rfl,rfl,h1,dc (gA 0) rfl,d,_,rfl,dp e3 a1g jO,?_⟩⟩⟩
                   exact⟨rfl,qW (by simp),ba⟩
                 · refine⟨_,rfl,.inr ⟨ya,_,1,.str s',rfl,rfl,h1,dc (by decide) rfl,_,rfl,_,rfl,.inr ⟨ya,_,0,.str "mark",rfl,rfl,h1,dc (gA 0) rfl,d,_,rfl,dp e3 a1j jO,?_⟩⟩⟩
                   exact⟨rfl,qW (by simp),ba⟩
             rintro Z H4 ⟨rfl,b4,e4⟩;have Dq:bS H3 H4:=b4.v fun x hx o' cX=>by rw[cf]at hx;rw[hx,e3]at cX;cases cX;trivial
             have eq4:=b4 _ _ eq3 (by rw[cf];exact dq.symm);have jY:=b4 _ _ wI (by rw[cf];exact zb.symm);have vT:seqIndex? 0 yq.length=some 0:=by unfold seqIndex?;simp[oW]
             have dl5:(L2.upd H4 q (.lst (yq.eraseIdx 0))) l=some (.lst us):=by rw[aK ql.symm];exact jY
             refine⟨_,rfl,.inl ⟨rfl,_,aF.of jY⟩,_,rfl,d,_,rfl,dg e4 m3,.inl ⟨rfl,_,aF.of eq4⟩,q,yq,0,0,.ref ya,rfl,rfl,eq4,by decide,by decide,vT,ey,?_⟩;refine⟨l,us,_,rfl,rfl,dl5,by lia,?_⟩;have e6:(L2.upd (L2.upd H4 q (.lst (yq.eraseIdx 0))) l (.lst (us++[.ref ya]))) d=some (.dK (bB mv lv gv sv (.int S'.ay) (.str (ck dd S').side) (.str (ck dd S').mark) (.ref q) (.int S'.dn) bv cv rv (.ref td))):=by rw[aK zb,aK dq];exact e4
             refine⟨_,rfl,d,_,rfl,dp e6 AO jO,?_⟩;have KQ:bS H4 (L2.upd (L2.upd (L2.upd H4 q (.lst (yq.eraseIdx 0))) l (.lst (us++[.ref ya]))) d (.dK (bB mv lv gv sv (.int S'.ay) (.str (ck dd S').side) (.str (ck dd S').mark) (.ref q) (.int S'.dn) bv cv .bo (.ref td)))):=fun b o nb eb=>by
              have hb:b≠d:=fun z=>by rw[z,e4]at eb;cases eb;exact nb trivial
              have hq:b≠q:=fun z=>by rw[z,eq4]at eb;cases eb;exact nb trivial
              have dX:b≠l:=fun z=>by rw[z,jY]at eb;cases eb;exact nb trivial
              rw[aK hb,aK dX,aK hq];exact eb
             have b7:∀b o,b≠d->b≠q->b≠l->H4 b=some o->(L2.upd (L2.upd (L2.upd H4 q (.lst (yq.eraseIdx 0))) l (.lst (us++[.ref ya]))) d (.dK (bB mv lv gv sv (.int S'.ay) (.str (ck dd S').side) (.str (ck dd S').mark) (.ref q) (.int S'.dn) bv cv .bo (.ref td)))) b=some o:=fun b o hb hq dX eb=>by rw[aK hb,aK dX,aK hq];exact eb
             have e7:(L2.upd (L2.upd (L2.upd H4 q (.lst (yq.eraseIdx 0))) l (.lst (us++[.ref ya]))) d (.dK (bB mv lv gv sv (.int S'.ay) (.str (ck dd S').side) (.str (ck dd S').mark) (.ref q) (.int S'.dn) bv cv .bo (.ref td)))) d=some (.dK (bB mv lv gv sv (.int S'.ay) (.str (ck dd S').side) (.str (ck dd S').mark) (.ref q) (.int S'.dn) bv cv .bo (.ref td))):=ba;have q7:(L2.upd (L2.upd (L2.upd H4 q (.lst (yq.eraseIdx 0))) l (.lst (us++[.ref ya]))) d (.dK (bB mv lv gv sv (.int S'.ay) (.str (ck dd S').side) (.str (ck dd S').mark) (.ref q) (.int S'.dn) bv cv .bo (.ref td)))) q=some (.lst (yq.eraseIdx 0)):=by rw[aK dq.symm,aK ql];exact ba
             have l7:(L2.upd (L2.upd (L2.upd H4 q (.lst (yq.eraseIdx 0))) l (.lst (us++[.ref ya]))) d (.dK (bB mv lv gv sv (.int S'.ay) (.str (ck dd S').side) (.str (ck dd S').mark) (.ref q) (.int S'.dn) bv cv .bo (.ref td)))) l=some (.lst (us++[.ref ya])):=by rw[aK zb.symm];exact ba
             generalize(L2.upd (L2.upd (L2.upd H4 q (.lst (yq.eraseIdx 0))) l (.lst (us++[.ref ya]))) d (.dK (bB mv lv gv sv (.int S'.ay) (.str (ck dd S').side) (.str (ck dd S').mark) (.ref q) (.int S'.dn) bv cv .bo (.ref td))))=H7 at KQ b7 e7 q7 l7⊢;have KR:=Dq.trans KQ;have rW:=s3.v.trans KR;obtain⟨fO,iu,eE,ePl,eGo⟩:=OO (d:=dd) jb eo;have fx:=YN dd S';have one:One M S' dd (iZ (ck dd S')):=.ie eo ed nh;have Jk:S'.dn=0:=by
              rcases jb.dn with z|⟨yd,xH,e1,e2⟩
              ·exact z
              ·rw[eo]at e1;cases e1
             have nod:fu dd=true:=ij.mp jb.row.no _ (gG ed);refine⟨⟨es++[dd],iZ (ck dd S'),us++[.ref ya],_,rfl,?_,l7,(aJ.v rW _ lb rd).append (bW (RD.v KR _ nod AB) cU),run.snoc one,by rw[fD];show((es.length+1:Nat):Int)<=n;lia,fun b o' eb hb=>?_⟩,?_⟩
             · refine⟨⟨mv,lv,gv,sv,bv,cv,.bo,?_,RD.v rW _ (jd _ _ _ _ _) r1,?_,?_,?_,?_,.inl rfl⟩,yq.eraseIdx 0,q7,?_⟩
               · rw[eE]
                 show H7 d=some (.dK (bB mv lv gv sv (.int (ck dd S').ay) (.str (ck dd S').side) (.str (ck dd S').mark) (.ref q) (.int 0) bv cv .bo (.ref td)));rw[fx.2.1,e7,Jk];rfl
               ·rw[ePl];exact RD.v rW _ (hZ _) r2
               ·rw[eGo];exact RD.v rW _ (hZ _) r3
               · rw[eE]
                 show bh K H7 sv (ck dd S').pc;rw[fx.1];exact r4.v rW
               · rw[eE]
                 show uC K H7 bv cv (ck dd S').aR;rw[fx.2.2];exact r5.v rW
               · rw[eE]
                 exact S4 (aJ.v rW _ jb.row.no rq)
             · have dX:b≠l:=fun z=>by have:=nw.no;rw[<-z,eb]at this;cases this
               have wo:b≠d:=fun z=>hb (by rw[z];simp);have jU:b≠q:=fun z=>hb (by rw[z];simp);exact b7 _ _ wo jU dX (b4 _ _ (Th _ _ eb hb) (by rw[cf];exact wo))
             · show(match H7 l with|some (.lst us)=>2000-us.length|_=>0)<(match H2 l with|some (.lst us)=>2000-us.length|_=>0)
               rw[l7,dl];show 2000-(us++[V.ref ya]).length<2000-us.length;rw[fD];show 2000-(us.length+1)<2000-us.length
               lia
         · refine⟨_,rfl,d,_,rfl,dg e yS,rfl,_,rfl,?_⟩
           cases hs:S'.aR with |none=>have iU:=r5;rw[hs]at iU;obtain⟨rfl,_⟩:=iU;refine bF ?_;exact yF H2 ⟨fun h=>h.1 hs,aE.refl _⟩ |some z=>
             obtain⟨sq,st,gn⟩:=z;have iU:=r5;rw[hs]at iU;obtain⟨ta,su,rfl,_⟩:=iU;refine bV ?_;refine⟨_,rfl,d,_,rfl,dg e uc,bU rfl,fun t H3 n3=>?_⟩;have YK:SeqAt.shaped (.tuple [.int 0,.int 1])=true:=by decide+kernel
             refine .inr ⟨_,_,(r4.go n3.same).rd,iT (aP.of n3.at') (bW (dC _) (bW (dC _) cU)),a05 _,YK,_,rfl,?_⟩;rw[a9C];by_cases c3:S'.pc=0
             · rw[cH c3]
               refine bV ?_;have R3:=R2.same jb.row.no n3.same;exact⟨_,rfl,k l us es S' H3 nw.no (n3.same _ _ dl) (aJ.mono n3.same _ rd) run lj (.inr (.inr ⟨by rw[hs];simp,c3⟩)) R3 fun b o' eb hb=>n3.same _ _ (bt b o' eb hb)⟩
             · rw[fe c3]
               refine bF ?_;exact yF H3 ⟨fun h=>c3 h.2,n3.same⟩
     · rw[fe c1]
       refine bF ?_;exact⟨_,rfl,k l us es S' H2 nw.no dl rd run lj (.inl (by lia)) R2 bt⟩
   · rintro Z H6 Q1 Q2 hq ⟨v1,f1,l',jM,f2,f3,v2,f4,i1,i2,f5,f6,b1,f7,h⟩
     refine⟨v1,f1,l',jM,f2,f3,v2,f4,i1,i2,f5,f6,b1,f7,yA ?_ (hq _ _) h⟩;rintro⟨v3,f8,a',k',f9,yZ,p',y',yY,J8,i3,i4,J6,J5,b2,yX,h⟩;exact⟨v3,f8,a',k',f9,yZ,p',y',yY,J8,i3,i4,J6,J5,b2,yX,hq _ _ h⟩
end
end Lw
set_option maxHeartbeats 1000000
namespace Lw
open PySem PySem.Spec PyProof.Rows L2 Rt Ln
section
variable {w:World}{mg:Str->Option Value}{base:Heap}
theorem KZ:iR "tuple" "list"=false:=by decide
theorem Lc:iR "list" "tuple"=false:=by decide
theorem TM(n:Nat):(List.replicate n true).all id=true:=by induction n with |zero=>rfl |succ n ih=>rw[List.replicate_succ,Kq,ih];rfl
def abH(D:ai):Prop:=(∃z,D= .int z)\/∃s,D= .str s/\SeqAt.shaped (.str s)=true/\PyData.eqv (.str s) (.str s)=true
def Nx(A:ai->Prop)(D:ai):Prop:=abH D\/∃ds,(D= .tuple ds\/D= .list ds)/\ds.length<=100000/\∀x∈ds,A x
inductive Vw(A:ai->Prop)(K:aa)(vs:List V)(H:Hp)(Q:VK):Prop |mk (v:_)(u:_)(D:_)(h0:vs=[v,u])(h1:RD K H v D)(h2:RD K H u D)(h3:A D)(h4:∀H',aE H H'->Q (.bl true) H'):Vw A K vs H Q
def xG(A:ai->Prop)(K:aa):Sp:=fun vs H Q _=>Vw A K vs H Q
theorem E6:bp ["_law_found","_law_due"] ["_law_found","_law_due"] (aV Aw):=bI (by decide+kernel)
theorem a30(F:FA K mg "_law_alike" Aw)(B:bP mg):aD P w K mg base "_law_alike" 1 (xG (fun _=>False) K):=by
 refine F.has E6 (fun vs H Q E h=>?_) (fun _ _ _ _ _ _=>dy fun _ _=>rfl) (fun f aL A outer s H vs Q E hr h=>?_)
 · obtain⟨v,u,D,rfl,_,_,h,_⟩:=h
   exact h.elim
 · obtain⟨v,u,D,rfl,_,_,h,_⟩:=h
   exact h.elim
theorem AR{A:ai->Prop}{n:Nat}(hn:1<=n)(F:FA K mg "_law_alike" Aw)(B:bP mg)(BR:aD P w K mg base "_law_number" 1 (uX K))(lC:aD P w K mg base "_law_alike" n (xG A K)):aD P w K mg base "_law_alike" (n+1) (xG (Nx A) K):=by
 refine F.has E6 (fun vs H Q E h=>?_) (fun _ _ _ _ _ _=>dy fun _ _=>rfl) (fun f aL A' outer s H vs Q E hr h=>?_)
 · obtain⟨v,u,D,rfl,_⟩:=h
   rfl
 · obtain⟨v,u,D,rfl,rv,ru,hD,k⟩:=h
   have nd:=E6.nd;rcases hD with(⟨z,rfl⟩|⟨z,rfl,sh,eq⟩)|⟨ds,rfl|rfl,hz,hA⟩
   · refine⟨_,(aB (bJ (cM (dF K B (O (pv 1) (O (dS (O (cY (x:="list") (v:=.ty "list") rfl (B.at "list") kH rfl) (O (cY (x:="tuple") (v:=.ty "tuple") rfl (B.at "tuple") fL rfl) aw))) aw)))) (aB (bJ (PW.pt (kP (bZ (jv K rfl hr.units) (dF K B (O (pv 1) (O (cY (x:="list") (v:=.ty "list") rfl (B.at "list") kH rfl) aw))) (dF K B (O (pv 0) (O (cY (x:="list") (v:=.ty "list") rfl (B.at "list") kH rfl) aw))) (bw _)) (lR (bZ (jv K rfl hr.units) (dF K B (O (pv 1) (O (cY (x:="tuple") (v:=.ty "tuple") rfl (B.at "tuple") fL rfl) aw))) (dF K B (O (pv 0) (O (cY (x:="tuple") (v:=.ty "tuple") rfl (B.at "tuple") fL rfl) aw))) (bw _))))) (aG (aU iD)) bO) (aG (aU (iE (fq (cQ K rfl hr.units) (dU K B (O (pv 0) aw)) (dU K B (O (pv 1) aw)) (bw _)) (iW (dh (x:="all") (pF K rfl rfl) rfl (B.at "all") rK (O (gd (N:=["_law_one","_law_two"]) (js:=[none,none]) rfl rfl rfl (jP K rfl false false rfl (B.at "zip") (O (pv 0) (O (pv 1) aw))) (fun _ _ _ _ _=>(dR K rfl (n:=2) rfl (bR (bu 0 (fP (by decide))) (bR (bu 1 (fP (by decide))) dQ)))) (fun _ _ _ _ _=>fF) (fun _ _ _ _ _=>(oH lC (hr.mono (by lia)) rfl (O (pv 0) (O (pv 1) aw))))) aw))))))) bO) (aB (bJ (cM (dF K B (O (pv 1) (O (cY (x:="str") (v:=.ty "str") rfl (B.at "str") pL rfl) aw)))) (aG (aU (iE (dF K B (O (pv 0) (O (cY (x:="str") (v:=.ty "str") rfl (B.at "str") pL rfl) aw))) (iW (fq (cQ K rfl hr.units) (pv 0) (pv 1) (bw _)))))) bO) (aG (aU (iE (oH BR (hr.mono (by lia)) rfl (O (pv 0) aw)) (iW (fq (cQ K rfl hr.units) (pv 0) (pv 1) (bw _)))))))),?_⟩
     cases rv.int_inv;cases ru.int_inv;refine⟨_,rfl,bU rfl,fun tt H1 n1=>.inr ⟨_,"int",tt,["list","tuple"],_,rfl,n1.at',rfl,by decide,rfl,_,rfl,bF ?_⟩⟩;refine⟨_,rfl,.inl ⟨_,"int","str",_,rfl,rfl,by decide,rfl,_,rfl,bF ?_⟩⟩;refine⟨_,rfl,_,"int",rfl,rfl,_,rfl,bV ?_⟩;refine⟨_,rfl,_,rfl,.inl ⟨_,_,rfl,rfl,?_⟩⟩;show Q (.bl (decide (z=z))) H1;rw[cH rfl];exact k H1 n1.same
   · refine⟨_,(aB (bJ (cM (dF K B (O (pv 1) (O (dS (O (cY (x:="list") (v:=.ty "list") rfl (B.at "list") kH rfl) (O (cY (x:="tuple") (v:=.ty "tuple") rfl (B.at "tuple") fL rfl) aw))) aw)))) (aB (bJ (PW.pt (kP (bZ (jv K rfl hr.units) (dF K B (O (pv 1) (O (cY (x:="list") (v:=.ty "list") rfl (B.at "list") kH rfl) aw))) (dF K B (O (pv 0) (O (cY (x:="list") (v:=.ty "list") rfl (B.at "list") kH rfl) aw))) (bw _)) (lR (bZ (jv K rfl hr.units) (dF K B (O (pv 1) (O (cY (x:="tuple") (v:=.ty "tuple") rfl (B.at "tuple") fL rfl) aw))) (dF K B (O (pv 0) (O (cY (x:="tuple") (v:=.ty "tuple") rfl (B.at "tuple") fL rfl) aw))) (bw _))))) (aG (aU iD)) bO) (aG (aU (iE (fq (cQ K rfl hr.units) (dU K B (O (pv 0) aw)) (dU K B (O (pv 1) aw)) (bw _)) (iW (dh (x:="all") (pF K rfl rfl) rfl (B.at "all") rK (O (gd (N:=["_law_one","_law_two"]) (js:=[none,none]) rfl rfl rfl (jP K rfl false false rfl (B.at "zip") (O (pv 0) (O (pv 1) aw))) (fun _ _ _ _ _=>(dR K rfl (n:=2) rfl (bR (bu 0 (fP (by decide))) (bR (bu 1 (fP (by decide))) dQ)))) (fun _ _ _ _ _=>fF) (fun _ _ _ _ _=>(oH lC (hr.mono (by lia)) rfl (O (pv 0) (O (pv 1) aw))))) aw))))))) bO) (aB (bJ (cM (dF K B (O (pv 1) (O (cY (x:="str") (v:=.ty "str") rfl (B.at "str") pL rfl) aw)))) (aG (aU (iE (dF K B (O (pv 0) (O (cY (x:="str") (v:=.ty "str") rfl (B.at "str") pL rfl) aw))) (iW (fq (cQ K rfl hr.units) (pv 0) (pv 1) (bw _)))))) bO) (aG (aU (iE (oH BR (hr.mono (by lia)) rfl (O (pv 0) aw)) (iW (fq (cQ K rfl hr.units) (pv 0) (pv 1) (bw _)))))))),?_⟩
     cases rv.str_inv;cases ru.str_inv;refine⟨_,rfl,bU rfl,fun tt H1 n1=>.inr ⟨_,"str",tt,["list","tuple"],_,rfl,n1.at',rfl,by decide,rfl,_,rfl,bF ?_⟩⟩;refine⟨_,rfl,.inl ⟨_,"str","str",_,rfl,rfl,by decide,rfl,_,rfl,bV ?_⟩⟩;refine⟨_,rfl,.inl ⟨_,"str","str",_,rfl,rfl,by decide,rfl,_,rfl,bV ?_⟩⟩;refine⟨_,rfl,_,rfl,.inr ⟨_,_,cV _,cV _,sh,sh,?_⟩⟩;rw[eq];exact k H1 n1.same
   · refine⟨_,(aB (bJ (cM (dF K B (O (pv 1) (O (dS (O (cY (x:="list") (v:=.ty "list") rfl (B.at "list") kH rfl) (O (cY (x:="tuple") (v:=.ty "tuple") rfl (B.at "tuple") fL rfl) aw))) aw)))) (aB (bJ (PW.pt (kP (bZ (jv K rfl hr.units) (dF K B (O (pv 1) (O (cY (x:="list") (v:=.ty "list") rfl (B.at "list") kH rfl) aw))) (dF K B (O (pv 0) (O (cY (x:="list") (v:=.ty "list") rfl (B.at "list") kH rfl) aw))) (bw _)) (lR (bZ (jv K rfl hr.units) (dF K B (O (pv 1) (O (cY (x:="tuple") (v:=.ty "tuple") rfl (B.at "tuple") fL rfl) aw))) (dF K B (O (pv 0) (O (cY (x:="tuple") (v:=.ty "tuple") rfl (B.at "tuple") fL rfl) aw))) (bw _))))) (aG (aU iD)) bO) (aG (aU (iE (fq (cQ K rfl hr.units) (dU K B (O (pv 0) aw)) (dU K B (O (pv 1) aw)) (bw _)) (iW (dh (x:="all") (pF K rfl rfl) rfl (B.at "all") rK (O (gd (N:=["_law_one","_law_two"]) (js:=[none,none]) rfl rfl rfl (jP K rfl false false rfl (B.at "zip") (O (pv 0) (O (pv 1) aw))) (fun _ _ _ _ _=>(dR K rfl (n:=2) rfl (bR (bu 0 (fP (by decide))) (bR (bu 1 (fP (by decide))) dQ)))) (fun _ _ _ _ _=>fF) (fun _ _ _ _ _=>(oH lC (hr.mono (by lia)) rfl (O (pv 0) (O (pv 1) aw))))) aw))))))) bO) (aB (bJ (cM (dF K B (O (pv 1) (O (cY (x:="str") (v:=.ty "str") rfl (B.at "str") pL rfl) aw)))) (aG (aU (iE (dF K B (O (pv 0) (O (cY (x:="str") (v:=.ty "str") rfl (B.at "str") pL rfl) aw))) (iW (fq (cQ K rfl hr.units) (pv 0) (pv 1) (bw _)))))) bO) (aG (aU (iE (oH BR (hr.mono (by lia)) rfl (O (pv 0) aw)) (iW (fq (cQ K rfl hr.units) (pv 0) (pv 1) (bw _)))))))),?_⟩
     obtain⟨va,xs,rfl,hV,ir⟩:=rv.eu;obtain⟨ua,ys,rfl,hU,oU⟩:=ru.eu;have lx:=ir.length;have ly:=oU.length;refine⟨_,rfl,bU rfl,fun tt H1 n1=>.inr ⟨_,"tuple",tt,["list","tuple"],_,rfl,n1.at',.inr ⟨rfl,_,hU.go n1.same⟩,by decide,rfl,_,rfl,bV ?_⟩⟩;have s1:=n1.same;refine⟨_,rfl,.inl ⟨_,"tuple","list",_,rfl,.inr ⟨rfl,_,hU.go s1⟩,by decide,KZ,_,rfl,.inl ⟨_,"tuple","list",_,rfl,.inr ⟨rfl,_,hV.go s1⟩,by decide,KZ,.inr ⟨.bool false,.bool false,lQ _,lQ _,rfl,rfl,_,rfl,bF ?_⟩⟩⟩⟩;refine⟨_,rfl,.inl ⟨_,"tuple","tuple",_,rfl,.inr ⟨rfl,_,hU.go s1⟩,by decide,KY,_,rfl,.inl ⟨_,"tuple","tuple",_,rfl,.inr ⟨rfl,_,hV.go s1⟩,by decide,KY,.inr ⟨.bool true,.bool true,lQ _,lQ _,rfl,rfl,_,rfl,bF ?_⟩⟩⟩⟩;refine⟨_,rfl,va,_,rfl,.inr (hV.go s1),_,rfl,ua,_,rfl,.inr (hU.go s1),.inl ⟨_,_,rfl,rfl,_,rfl,?_⟩⟩;rw[cH (show(xs.length:Int)=(ys.length:Int) by lia)];refine bV ?_;refine⟨_,rfl,_,rfl,va,ua,rfl,⟨_,hV.go s1⟩,⟨_,hU.go s1⟩,fun D2 H2 n2=>?_⟩;refine SK (K:=K) (b1:=false) (b2:=false) (xs:=xs) (ys:=ys) (bs:=List.replicate ds.length true) _ rfl (hV.go s1) (hU.go s1) n2 (by rw[D6];lia) (by rw[D6];lia) ?_ ?_
     · intro q x y b H3 Q' ex ey eb s3 hq
       have Jg:b=true:=by
        rw[WH]at eb;split at eb
        ·exact(dP eb).symm
        ·cases eb
       subst Jg;have df:=s1.trans s3;obtain⟨d1,e1,r1⟩:=ir.get' q ex;obtain⟨d2,e2,r2⟩:=oU.get' q ey;rw[e1]at e2;cases e2;exact⟨_,rfl,_,rfl,x,y,d1,rfl,RD.mono df _ r1,RD.mono df _ r2,hA d1 (gG e1),fun H4 s4=>hq H4 s4⟩
     · intro H3 s3 d3
       refine⟨D2,_,rfl,aF.of d3,?_⟩;rw[TM];exact k H3 (s1.trans s3)
   · refine⟨_,(aB (bJ (cM (dF K B (O (pv 1) (O (dS (O (cY (x:="list") (v:=.ty "list") rfl (B.at "list") kH rfl) (O (cY (x:="tuple") (v:=.ty "tuple") rfl (B.at "tuple") fL rfl) aw))) aw)))) (aB (bJ (PW.pt (kP (bZ (jv K rfl hr.units) (dF K B (O (pv 1) (O (cY (x:="list") (v:=.ty "list") rfl (B.at "list") kH rfl) aw))) (dF K B (O (pv 0) (O (cY (x:="list") (v:=.ty "list") rfl (B.at "list") kH rfl) aw))) (bw _)) (lR (bZ (jv K rfl hr.units) (dF K B (O (pv 1) (O (cY (x:="tuple") (v:=.ty "tuple") rfl (B.at "tuple") fL rfl) aw))) (dF K B (O (pv 0) (O (cY (x:="tuple") (v:=.ty "tuple") rfl (B.at "tuple") fL rfl) aw))) (bw _))))) (aG (aU iD)) bO) (aG (aU (iE (fq (cQ K rfl hr.units) (dU K B (O (pv 0) aw)) (dU K B (O (pv 1) aw)) (bw _)) (iW (dh (x:="all") (pF K rfl rfl) rfl (B.at "all") rK (O (gd (N:=["_law_one","_law_two"]) (js:=[none,none]) rfl rfl rfl (jP K rfl true true rfl (B.at "zip") (O (pv 0) (O (pv 1) aw))) (fun _ _ _ _ _=>(dR K rfl (n:=2) rfl (bR (bu 0 (fP (by decide))) (bR (bu 1 (fP (by decide))) dQ)))) (fun _ _ _ _ _=>fF) (fun _ _ _ _ _=>(oH lC (hr.mono (by lia)) rfl (O (pv 0) (O (pv 1) aw))))) aw))))))) bO) (aB (bJ (cM (dF K B (O (pv 1) (O (cY (x:="str") (v:=.ty "str") rfl (B.at "str") pL rfl) aw)))) (aG (aU (iE (dF K B (O (pv 0) (O (cY (x:="str") (v:=.ty "str") rfl (B.at "str") pL rfl) aw))) (iW (fq (cQ K rfl hr.units) (pv 0) (pv 1) (bw _)))))) bO) (aG (aU (iE (oH BR (hr.mono (by lia)) rfl (O (pv 0) aw)) (iW (fq (cQ K rfl hr.units) (pv 0) (pv 1) (bw _)))))))),?_⟩
     obtain⟨va,xs,rfl,hV,ir⟩:=rv.lst_inv;obtain⟨ua,ys,rfl,hU,oU⟩:=ru.lst_inv;have lx:=ir.length;have ly:=oU.length;refine⟨_,rfl,bU rfl,fun tt H1 n1=>.inr ⟨_,"list",tt,["list","tuple"],_,rfl,n1.at',.inl ⟨rfl,_,hU.go n1.same⟩,by decide,rfl,_,rfl,bV ?_⟩⟩;have s1:=n1.same;refine⟨_,rfl,.inl ⟨_,"list","list",_,rfl,.inl ⟨rfl,_,hU.go s1⟩,by decide,Ld,_,rfl,.inl ⟨_,"list","list",_,rfl,.inl ⟨rfl,_,hV.go s1⟩,by decide,Ld,.inr ⟨.bool true,.bool true,lQ _,lQ _,rfl,rfl,_,rfl,bF ?_⟩⟩⟩⟩;refine⟨_,rfl,.inl ⟨_,"list","tuple",_,rfl,.inl ⟨rfl,_,hU.go s1⟩,by decide,Lc,_,rfl,.inl ⟨_,"list","tuple",_,rfl,.inl ⟨rfl,_,hV.go s1⟩,by decide,Lc,.inr ⟨.bool false,.bool false,lQ _,lQ _,rfl,rfl,_,rfl,bF ?_⟩⟩⟩⟩;refine⟨_,rfl,va,_,rfl,.inl (hV.go s1),_,rfl,ua,_,rfl,.inl (hU.go s1),.inl ⟨_,_,rfl,rfl,_,rfl,?_⟩⟩;rw[cH (show(xs.length:Int)=(ys.length:Int) by lia)];refine bV ?_;refine⟨_,rfl,_,rfl,va,ua,rfl,⟨_,hV.go s1⟩,⟨_,hU.go s1⟩,fun D2 H2 n2=>?_⟩;refine SK (K:=K) (b1:=true) (b2:=true) (xs:=xs) (ys:=ys) (bs:=List.replicate ds.length true) _ rfl (hV.go s1) (hU.go s1) n2 (by rw[D6];lia) (by rw[D6];lia) ?_ ?_
     · intro q x y b H3 Q' ex ey eb s3 hq
       have Jg:b=true:=by
        rw[WH]at eb;split at eb
        ·exact(dP eb).symm
        ·cases eb
       subst Jg;have df:=s1.trans s3;obtain⟨d1,e1,r1⟩:=ir.get' q ex;obtain⟨d2,e2,r2⟩:=oU.get' q ey;rw[e1]at e2;cases e2;exact⟨_,rfl,_,rfl,x,y,d1,rfl,RD.mono df _ r1,RD.mono df _ r2,hA d1 (gG e1),fun H4 s4=>hq H4 s4⟩
     · intro H3 s3 d3
       refine⟨D2,_,rfl,aF.of d3,?_⟩;rw[TM];exact k H3 (s1.trans s3)
end
end Lw
set_option maxHeartbeats 4000000
namespace Lw
open PySem PySem.Spec PyProof.Rows L2 Rt Ln Cn Pn Wk Rn
open Ow (topR cornO mnO betR atO ownF leadF ownL OkI OkIs)
section
variable {w:World}{mg:Str->Option Value}{base:Heap}
theorem mV{z:Str}{n:Nat}(h:SeqAt.shaped (.str z)=true):dw n (.str z):=⟨Wr h,fZ _⟩
theorem uZ{z:Str}(h:z="step"\/z="wait"\/z="tool"\/z="mark"):SeqAt.shaped (.str z)=true:=by rcases h with rfl|rfl|rfl|rfl<;>decide+kernel
abbrev A0:ai->Prop:=fun _=>False
theorem kQ{A:ai->Prop}(z:Int):Nx A (.int z):=.inl (.inl ⟨z,rfl⟩)
theorem sW{A:ai->Prop}{s:Str}{n:Nat}(hn:n<=8)(h:dw n (.str s)):Nx A (.str s):=.inl (.inr ⟨s,rfl,h.shaped (by lia),h.refl⟩)
theorem Yn(ti:Int)(zs:List Int)(q:Rat)(hz:zs.length<=1000):Nx (Nx (Nx A0)) (oy ti zs q):=by
 refine .inr ⟨_,.inl rfl,(by simp),fun x hx=>?_⟩;simp only[bN,cI,dB]at hx;rcases hx with rfl|rfl|rfl|rfl
 ·exact sW (n:=0) (by decide) (mV (uZ (.inl rfl)))
 · refine .inr ⟨_,.inl rfl,by rw[cu];lia,fun y hy=>?_⟩
   obtain⟨z,_,rfl⟩:=jJ.mp hy;exact kQ z
 ·exact kQ _
 · refine .inr ⟨_,.inl rfl,(by simp),fun y hy=>?_⟩
   simp only[bN,cI,dB]at hy;rcases hy with rfl|rfl<;>exact kQ _
theorem OQ{d:ai}(h:pG d):Nx (Nx (Nx A0)) d:=by
 rcases h with⟨n,rfl,_⟩|⟨w,s,rfl,hw,h,_⟩
 · refine .inr ⟨_,.inl rfl,(by simp),fun x hx=>?_⟩
   simp only[bN,cI,dB]at hx;rcases hx with rfl|rfl
   ·exact sW (n:=0) (by decide) (mV (uZ (.inr (.inl rfl))))
   ·exact kQ _
 · refine .inr ⟨_,.inl rfl,(by simp),fun x hx=>?_⟩
   simp only[bN,cI,dB]at hx;rcases hx with rfl|rfl
   ·exact sW (n:=0) (by decide) (mV (uZ (.inr (.inr hw))))
   ·exact sW (by decide) h
theorem a4q{n:Nat}{ns:List Int}{sp:Int}(h:eR n 100 ns)(hn:n<=1000):Nx (Nx (Nx A0)) (iH ns sp):=by
 refine .inr ⟨_,.inl rfl,(by simp),fun x hx=>?_⟩;simp only[bN,cI,dB]at hx;rcases hx with rfl|rfl|rfl
 ·exact .inl (.inr ⟨_,rfl,tF,by decide+kernel⟩)
 · refine .inr ⟨_,.inl rfl,by rw[cu,h.len];lia,fun y hy=>?_⟩
   obtain⟨z,_,rfl⟩:=jJ.mp hy;exact kQ z
 ·exact kQ _
theorem ZE{n:Nat}{ds:List ai}{os:List Itm}(h:gO n ds os)(hw:RowW ds os)(hn:n<=1000)(hl:ds.length<=1000):Nx (Nx (Nx (Nx A0))) (.list ds):=by refine .inr ⟨_,.inr rfl,by lia,fun x hx=>?_⟩;obtain⟨i,hi⟩:=pQ.mp hx;obtain⟨o,eo,it⟩:=h.get hi;cases o with |none=>exact OQ (hw i x eo hi) |some z=>obtain⟨ns,sp⟩:=z;rw[kC it];exact a4q (h.ok i ns sp eo).1 hn
theorem aaw{a:Addr}{xs:List V}{bs:List Bool}{te:TE}{Q:VK}{D:Addr}{H H0:Hp}{n:Nat}(Pr:V->V->Prop)(rest:L2.St)(hn:n=2)(hx:aF K H a xs)(nw:Nw H H0 D (.lst []))(hl:xs.length=bs.length)(hz:xs.length<=1000) (hp:∀(i:Nat)(x:V),xs[i]? =some x->∃p y z,x= .ref p/\aP K H p [y,z]/\Pr y z) (hs:∀(i:Nat)(y z:V)(b:Bool)(H2:Hp)(Q':VK),Pr y z->bs[i]? =some b->aE H H2->(∀H3,aE H2 H3->Q' (.bl b) H3)->te (some y::some z::rest) H2 Q') (hq:∀H',aE H H'->H' D=some (.lst (bs.map V.bl))->Q (.ref D) H'):iP (rB K a) (p8 K n (jV (eZ 0) (jV (eZ 1) qN))) hJ te Q D (none::none::rest) H0:=by
  subst hn;have hD:=nw.no;refine qT xs.length (fun i Z H2=>aE H H2/\H2 D=some (.lst ((bs.take i).map V.bl))/\∃v v',Z=v::v'::rest) ?_ ?_ ?_
  ·exact⟨nw.same,nw.at',none,none,rfl⟩
  · rintro i Z H2 hi ⟨s2,d2,v,v',rfl⟩
    have wj:i<bs.length:=by rw[<-hl];exact hi
    have ex:=cj hi;have eb:=cj wj;refine⟨⟨xs,_,hx.go s2,ex⟩,fun y' H3 jT=>?_⟩;obtain⟨rfl,k1⟩:=jT;have e1:=k1 _ (hx.go s2);rw[ex]at e1;cases e1;obtain⟨p,y,z,ep,hpp,pr⟩:=hp i _ ex;rw[ep]at ex⊢;refine⟨p,_,rfl,hpp.go s2,rfl,_,_,rfl,_,_,rfl,rfl,?_⟩;refine yes (bV ?_);refine hs i y z _ _ _ pr eb s2 fun H4 s4=>?_;refine⟨_,s4 _ _ d2,?_,xs.length-(i+1),by lia,rfl,by lia,fun b o e=>?_,?_,_,_,rfl⟩
    · rw[cu,oh]
      have:(1000:Nat)<sizeLine:=by decide
      lia
    ·rw[aK (fW e hD)];exact s4 b o (s2 b o e)
    ·rw[ba,pP,eb,og];rfl
  · rintro Z H2 ⟨s2,d2,v,v',rfl⟩
    refine⟨⟨xs,hx.go s2,bK _⟩,hq H2 s2 ?_⟩;rw[d2,hl,xh]
def zy(es:List ai):Prop:=SeqAt.shaped (.list es)=true/\PyData.eqv (.list es) (.list es)=true/\cN es=true
structure Ad where
 a:Addr
 q:Addr
 d:Addr
 e:Addr
 t:Addr
def Ad.all(x:Ad):List Addr:=[x.a,x.q,x.d,x.e,x.t]
def m6(K:aa)(H:Hp)(td:Addr)(n:Nat)(X:Addr->Prop):Prop:=∃ts,H td=some (.lst ts)/\ts.length<=n/\∀t∈ts,∃p l ta us es,t=V.ref p/\aP K H p [.ref l,.ref ta]/\H l=some (.lst us)/\aP K H ta us/\aJ K H us es/\zy es/\¬X l
theorem m6.go{H H':Hp}{td:Addr}{n m:Nat}{X X':Addr->Prop}(h:m6 K H td n X)(hm:n<=m)(s:bS H H')(et:∀o,H td=some o->H' td=some o)(hl:∀l us,¬X l->H l=some (.lst us)->H' l=some (.lst us)/\¬X' l):m6 K H' td m X':=by obtain⟨ts,e,l,ht⟩:=h;refine⟨ts,et _ e,by lia,fun t m=>?_⟩;obtain⟨p,l,ta,us,es,h1,h2,h3,h4,h5,h6,h7⟩:=ht t m;obtain⟨g1,g2⟩:=hl l us h7 h3;exact⟨p,l,ta,us,es,h1,aP.v s h2,g1,aP.v s h4,aJ.v s _ h6.2.2 h5,h6,g2⟩
theorem cm.mono{M:bM}{D D':Nat}{S:bj}(h:cm M D S)(h1:D<=D')(h2:D'<=1500):cm M D' S:=by refine⟨h.row,h.rw,h.len,h.cZ,h.du,h.dn,h.pl,h.pd.mono (by lia),h.pm,?_,by have:=h.D1;lia,h2⟩;have:=h.aR;cases hs:S.aR with |none=>trivial |some z=>obtain⟨sq,st,gn⟩:=z;rw[hs]at this;obtain⟨g0,g1,g2,hd,hl,hz,hh⟩:=this;exact⟨g0,g1,g2,hd.mono h1,hl,hz,hh⟩
theorem a5S(M:bM)(S:bj):cP (jA M S)=cP S:=by unfold jA;split<;>rfl
theorem One.goal{M:bM}{D:Nat}{S S1:bj}{e:ai}(ok:cm M D S)(o:One M S e S1):cP S1=cP S:=by cases o with |line eo nh=>exact Ro eo |ie eo ed nh=>obtain⟨_,_,_,_,h⟩:=OO (d:=e) ok eo;exact h
theorem Run.goal{M:bM}{D:Nat}{S S1:bj}{es:List ai}(ok:cm M D S)(aO:M.Ok)(r:Run M S es S1):cP S1=cP S:=by induction r with |nil=>rfl |cons o _ ih=>rw[ih (One.ok ok aO o),o.goal ok]
theorem One.det{M:bM}{S S1 S2:bj}{e f:ai}(h:One M S e S1)(g:One M S f S2):e=f/\S1=S2:=by cases h with
 |line h1 _=>cases g with |line g1 _=>rw[h1]at g1;cases g1;exact⟨rfl,rfl⟩ |ie g1 _ _=>rw[h1]at g1;cases g1
 |ie h1 h2 _=>cases g with |line g1 _=>rw[h1]at g1;cases g1 |ie g1 g2 _=>rw[h2]at g2;cases g2;exact⟨rfl,rfl⟩
theorem One.go{M:bM}{S S1:bj}{e:ai}(h:One M S e S1):¬(S.os=[]\/Halt S.pc S.aR):=by
 rintro(z|z)
 ·cases h with |line h1 _=>rw[z]at h1;simp at h1 |ie h1 _ _=>rw[z]at h1;simp at h1
 ·cases h with |line _ nh=>exact nh z |ie _ _ nh=>exact nh z
theorem Run.aaa{M:bM}{S S1 S2:bj}{es fs:List ai}(h:Run M S es S1){n:Int}(l1:(es.length:Int)<=n)(c1:(es.length:Int)=n\/S1.os=[]\/Halt S1.pc S1.aR)(g:Run M S fs S2)(l2:(fs.length:Int)<=n)(c2:(fs.length:Int)=n\/S2.os=[]\/Halt S2.pc S2.aR):es=fs/\S1=S2:=by induction h generalizing fs n with
 |nil=>cases g with |nil=>exact⟨rfl,rfl⟩ |cons o r=>
     rcases c1 with z|z
     ·simp only[kn,Kn]at z l2;lia
     ·exact(o.go z).elim
 |cons o r ih=>cases g with
   |nil=>
     rcases c2 with z|z
     ·simp only[kn,Kn]at z l1;lia
     ·exact(o.go z).elim |cons o2 r2=>obtain⟨e,z⟩:=o.det o2;subst e z;simp only[kn]at l1 c1 l2 c2;obtain⟨e1,e2⟩:=ih (n:=n-1) (by lia) (c1.imp (fun h=>by lia) id) r2 (by lia) (c2.imp (fun h=>by lia) id);exact⟨by rw[e1],e2⟩
theorem Ym(ti:Int)(zs:List Int)(q:Rat):dw 2 (oy ti zs q):=by refine gy.tup (.cons (mV (uZ (.inl rfl))) (.cons (gy.tup fun d hd=>?_) (.cons (.int _) (.cons (gy.tup (.cons (.int _) (.cons (.int _) .nil))) .nil))));obtain⟨a,_,rfl⟩:=jJ.mp hd;exact .int _
theorem OP{d:ai}(h:pG d):dw 2 d:=by
 rcases h with⟨n,rfl,_⟩|⟨w,s,rfl,hw,h,_⟩
 ·exact gy.tup (.cons (mV (uZ (.inr (.inl rfl)))) (.cons (.int _) .nil))
 ·exact gy.tup (.cons (mV (uZ (.inr (.inr hw)))) (.cons (h.le (by decide)) .nil))
theorem Run.ent{M:bM}{D:Nat}{S S1:bj}{es:List ai}(ok:cm M D S)(aO:M.Ok)(r:Run M S es S1):∀d∈es,dw 2 d/\Nx (Nx (Nx A0)) d:=by induction r with |nil=>exact nofun |@cons S S1 S2 e es o r ih=>
   intro d hd;rcases bN.mp hd with rfl|hd
   ·cases o with
     |@line ns sp eo nh=>
       refine⟨Ym _ _ _,Yn _ _ _ ?_⟩;have h1:=(ok.row.ok 0 ns sp eo).1.len;have h2:=aO.len;simp only[hW,cu]
       lia |ie eo ed nh=>have:=ok.rw 0 d eo ed;exact⟨OP this,OQ this⟩
   ·exact ih (One.ok ok aO o) d hd
theorem RZ{es:List ai}(h:∀d∈es,dw 2 d)(hn:cN es=true):zy es:=by have:dw 3 (.list es):=gy.lst h;exact⟨this.shaped (by decide),this.refl,hn⟩
section
variable {C a lr ls:Addr}{mv:V}{oB:List Int}{M:bM}{H H':Hp}{n:Nat}{A:Nat->Ad}{S:Nat->bj}
end
def SM(S:bj):Prop:=dw 0 (.str S.side)/\dw 0 (.str S.mark)
theorem Yw(pl:List Int):SM (mK pl):=⟨(mV (by decide+kernel):dw 0 (.str "up")),(mV (by decide+kernel):dw 0 (.str ""))⟩
theorem same_none{H0 H:Hp}{x:Addr}(s:aE H0 H)(h:H x=none):H0 x=none:=by cases e:H0 x with |none=>rfl |some o=>have:=s _ _ e;rw[h]at this;cases this
theorem Jc{S:bj}(h:SM S):SM (iZ S):=by unfold iZ;split<;>exact h
theorem One.sm{M:bM}{D:Nat}{S S1:bj}{e:ai}(ok:cm M D S)(o:One M S e S1)(h:SM S):SM S1:=by cases o with
 |line eo nh=>
   unfold fG;split
   ·exact Jc h
   ·exact h |ie eo ed nh=>
   have oo:=ok.rw 0 e eo ed;rcases oo with⟨n,rfl,_⟩|⟨w,s,rfl,hw,hs,_⟩
   ·exact Jc h
   · show SM (iZ (if w="tool" then{S with side:=s}else if w="mark" then{S with mark:=s}else S))
     refine Jc ?_;split
     ·exact⟨hs,h.2⟩
     · split
       ·exact⟨h.1,hs⟩
       ·exact h
theorem Run.sm{M:bM}{D:Nat}{S S1:bj}{es:List ai}(ok:cm M D S)(aO:M.Ok)(r:Run M S es S1)(h:SM S):SM S1:=by induction r with |nil=>exact h |cons o _ ih=>exact ih (One.ok ok aO o) (o.sm ok h)
theorem a5R{M:bM}{S:bj}(h:SM S):SM (jA M S):=by unfold jA;split<;>exact h
theorem Ot{A:ai->Prop}{pl:List Int}(h:pl.length<=1000):Nx (Nx A) (fo pl):=by refine .inr ⟨_,.inl rfl,by rw[cu];lia,fun y hy=>?_⟩;obtain⟨z,_,rfl⟩:=jJ.mp hy;exact kQ z
theorem a04{A:ai->Prop}(q:Rat):Nx (Nx A) (cR q):=by refine .inr ⟨_,.inl rfl,(by simp),fun y hy=>?_⟩;simp only[bN,cI,dB]at hy;rcases hy with rfl|rfl<;>exact kQ _
theorem IG{M:bM}{D:Nat}{S:bj}(ok:cm M D S):(cP S).length=M.rs.length:=yU _ _ ok.pl ok.sS
def v9(S:bj):List ai:=[fo (fm S),fo (cP S),cR S.pc,.int S.ay,.str S.side,.str S.mark]
theorem YQ{M:bM}{D:Nat}{S:bj}(ok:cm M D S)(aO:M.Ok)(sm:SM S):Nx (Nx (Nx (Nx A0))) (.list (v9 S)):=by
 have lr:=aO.len;refine .inr ⟨_,.inr rfl,(by simp[v9]),fun x hx=>?_⟩;simp only[v9,bN,cI,dB]at hx;rcases hx with rfl|rfl|rfl|rfl|rfl|rfl
 ·exact Ot (by rw[Ou ok];lia)
 ·exact Ot (by rw[IG ok];lia)
 ·exact a04 _
 ·exact kQ _
 ·exact sW (n:=0) (by decide) sm.1
 ·exact sW (n:=0) (by decide) sm.2
theorem a4W{M:bM}{D:Nat}{S:bj}(ok:cm M D S):zy S.ds:=by refine RZ (fun d hd=>?_) ok.row.no;obtain⟨i,hi⟩:=pQ.mp hd;obtain⟨o,eo,it⟩:=ok.row.get hi;cases o with |none=>exact OP (ok.rw i d eo hi) |some z=>obtain⟨ns,sp⟩:=z;rw[kC it];refine gy.tup (.cons (mV tF) (.cons (gy.tup fun d hd=>?_) (.cons (.int _) .nil)));obtain⟨a,_,rfl⟩:=jJ.mp hd;exact .int _
theorem aat{a:Addr}{b0 b1:Bool}{te:TE}{Q:VK}{D:Addr}{H H0:Hp}(hx:aF K H a [V.bl b0,.bl b1])(nw:Nw H H0 D (.lst []))(hs:∀(b:Bool)(H2:Hp)(Q':VK),Q' (.bl true) H2->te [some (V.bl b)] H2 Q')(hq:∀H',aE H H'->H' D=some (.lst ([true,true].map V.bl))->Q (.ref D) H'):iP (rB K a) (eZ 0) hJ te Q D [none] H0:=by
 refine aav (bs:=[true,true]) [] hx nw rfl (by simp) (fun i x b H2 Q' ex eb s2 kq=>?_) hq;have hb:b=true:=by match i,eb with |0,eb=>cases eb;rfl |1,eb=>cases eb;rfl
 subst hb
 match i,ex with |0,ex=>cases ex;exact hs _ _ _ (kq _ (aE.refl _)) |1,ex=>cases ex;exact hs _ _ _ (kq _ (aE.refl _))
inductive UI(K:aa)(C:Addr)(vs:List V)(H:Hp)(Q:VK):Prop |mk (a:_)(q:_)(d:_)(e:_)(t:_)(M:_)(D:_)(S:_)(n:_)(X:_)(h0:vs=[.ref a,.ref d])(h1:cF K C H a q M S)(h2:dH K H d e t M S)(h3:cm M D S)(h4:M.Ok)(h5:SM S)(h6:m6 K H t n X)(h7:40<=n)(h8:n<=900)(h9:(∀x,X x->H x≠none))(yQ:X t)(Rk:t≠a)(Rj:t≠q)(Ri:t≠d)(h14:t≠e)(Rh:∀H',aZ [t] H H'->m6 K H' t n X->Q (.bl true) H'):UI K C vs H Q
def DJ(K:aa)(C:Addr):Sp:=fun vs H Q _=>UI K C vs H Q
theorem MJ:bp ["_law_runner","_law_sim_here","_law_found","_law_due","_law_waits"] ["_law_runner","_law_sim_here"] (aV El):=bI (by decide+kernel)
theorem a1Y{C:Addr}(F:FA K mg "_law_seen" El)(B:bP mg)(TC:fY K C)(lC:aD P w K mg base "_law_alike" 5 (xG (Nx (Nx (Nx (Nx A0)))) K))(IC:aD P w K mg base "_law_sim_stops" 1 (DK K))(a7g:cL P w K mg base C "waiting" 1 (fj K C fun _ S H Q=>∀l ys H',H l=none->H' l=some (.lst ys)->aJ K H' ys S.ds->aE H H'->Q (.ref l) H'))(a7l:cL P w K mg base C "place" 3 (fj K C fun _ S H Q=>∀v H',RD K H' v (fo (fm S))->aE H H'->Q v H'))(Iz:cL P w K mg base C "leads_to" 3 (fj K C fun _ S H Q=>∀v H',RD K H' v (fo (cP S))->aE H H'->Q v H'))(a7j:cL P w K mg base C "square" 1 (fj K C (RF K)))(a7k:cL P w K mg base C "rate" 1 (fj K C fun _ S H Q=>Q (.int S.ay) H))(a7h:cL P w K mg base C "tool" 1 (fj K C fun _ S H Q=>Q (.str S.side) H))(a7n:cL P w K mg base C "last_mark" 1 (fj K C fun _ S H Q=>Q (.str S.mark) H))(u6:cL P w K mg base C "is_held" 1 (fj K C fun _ S H Q=>Q (.bl S.aR.isSome) H))(Iy:cL P w K mg base C "stands" 1 (fj K C fun _ S H Q=>Q (.bl (decide (S.pc=0))) H))(Iw:cL P w K mg base C "stops_in" 1 (fj K C fun M S H Q=>Q (.int (iS M.f S.pc)) H)):aD P w K mg base "_law_seen" 6 (DJ K C):=by
 refine F.has MJ (fun vs H Q E h=>?_) (fun _ _ _ _ _ _=>dy fun _ _=>rfl) (fun f aL A outer s H vs Q E hr h=>?_)
 · obtain⟨a,q,d,e,t,M,D,S,n,X,rfl,_⟩:=h
   rfl
 · obtain⟨a,q,d,e,t,M,D,S,n,X,rfl,R,adx,ok,aO,sm,T,n40,acn,hX,hXt,ta,tq,td,te,k⟩:=h
   obtain⟨dx,Pu,Tg,cE,tv,er,_⟩:=R.ob;obtain⟨mv,lv,gv,sv,bv,cv,rv,ez,r1,r2,r3,r4,r5,r6⟩:=adx.ob;obtain⟨ys,eq,rq⟩:=adx.qu;obtain⟨ts,et,lt,ht⟩:=T;have nd:=MJ.nd;have no:=ok.row.no;have Ba:=aO.len;have Bm:=ok.len;have lE:sizeLine=16777216:=by decide
   refine⟨_,(aB (pS 2 nd (dv (O (gK a7l TC.cl (hr.mono (by decide)) (pv 0)) (O (gK Iz TC.cl (hr.mono (by decide)) (pv 0)) (O (gK a7j TC.cl (hr.mono (by decide)) (pv 0)) (O (gK a7k TC.cl (hr.mono (by decide)) (pv 0)) (O (gK a7h TC.cl (hr.mono (by decide)) (pv 0)) (O (gK a7n TC.cl (hr.mono (by decide)) (pv 0)) aw)))))))) (aB (pS 3 nd (dv (O (cD hr (pv 1) aW) (O (cD hr (pv 1) aW) (O (cD hr (pv 1) aW) (O (cD hr (pv 1) aW) (O (cD hr (pv 1) aW) (O (cD hr (pv 1) aW) aw)))))))) (aB (pS 4 nd (gK a7g TC.cl (hr.mono (by decide)) (pv 0))) (aB (bJ (PW.pt (kP (fk (cM (pf lC hr (O (pv 2) (O (pv 3) aw))))) (lR (fk (cM (pf lC hr (O (pv 4) (O (cD hr (pv 1) aW) aw)))))))) (aG (aU iD)) bO) (aB (gJ (bJ (bZ jQ (dU K B (O (cD hr (pv 1) aW) aw)) az (bw _)) (aG (gP (jq K rfl (cD hr (pv 1) aW) (O (dS (O (pv 4) (O (ib (x:="tuple") (kL K rfl) rfl (B.at "tuple") fL (O (pv 4) aw)) aw))) aw)))) bO)) (aB (bJ (cM (dh (x:="any") (TK K rfl rfl) rfl (B.at "any") WB (O (gd (N:=["_law_one","_law_kept"]) (js:=[none,none]) rfl rfl rfl (xW K rfl (cD hr (pv 1) aW)) (fun _ _ _ _ _=>(dR K rfl (n:=2) rfl (bR (bu 0 (fP (by decide))) (bR (bu 1 (fP (by decide))) dQ)))) (fun _ _ _ _ _=>fF) (fun _ _ _ _ _=>(fq (jv K rfl hr.units) (pv 0) (ib (x:="list") (Hf K rfl) rfl (B.at "list") kH (O (pv 1) aw)) (bw _)))) aw))) (aG (aU iD)) bO) (aB (pS 2 nd (dv (O (gK u6 TC.cl (hr.mono (by decide)) (pv 0)) (O (gK Iy TC.cl (hr.mono (by decide)) (pv 0)) aw)))) (aB (bJ (fk (cM (dh (x:="all") (pF K rfl rfl) rfl (B.at "all") rK (O (gd (N:=["_law_one"]) (js:=[none]) rfl rfl rfl (xW K rfl (pv 2)) (fun _ _ _ _ _=>(bu 0 (tm _))) (fun _ _ _ _ _=>fF) (fun _ _ _ _ _=>(dF K B (O (pv 0) (O (cY (x:="bool") (v:=.ty "bool") rfl (B.at "bool") WA rfl) aw))))) aw)))) (aG (aU iD)) bO) (aB (bJ (bZ (jv K rfl hr.units) (pv 2) (dv (O (fq xZ (cD hr (pv 1) aW) jo (bw _)) (O (fq (cQ K rfl hr.units) (cD hr (pv 1) aW) (dS (O az (O az aw))) (bw _)) aw))) (bw _)) (aG (aU iD)) bO) (aG (aU (pf lC hr (O (gK Iw TC.cl (hr.mono (by decide)) (pv 0)) (O (pf IC hr (O (pv 1) aw)) aw)))))))))))))),?_⟩;refine⟨_,rfl,a,dx,_,rfl,er,rfl,a,q,M,D,S,rfl,R,ok,aO,fun pv1 H1 rp s1=>?_⟩;refine⟨_,rfl,a,dx,_,rfl,s1 _ _ er,rfl,a,q,M,D,S,rfl,R.same no s1,ok,aO,fun gv1 H2 rg s2=>?_⟩;have kN:=s1.trans s2;have R2:=R.same no kN;have nH:=kN _ _ er;refine⟨_,rfl,a,dx,_,rfl,nH,rfl,a,q,M,D,S,rfl,R2,ok,aO,fun Ys Zv=>?_⟩;refine⟨_,rfl,a,dx,_,rfl,nH,rfl,a,q,M,D,S,rfl,R2,ok,aO,?_⟩;refine⟨_,rfl,a,dx,_,rfl,nH,rfl,a,q,M,D,S,rfl,R2,ok,aO,?_⟩;refine⟨_,rfl,a,dx,_,rfl,nH,rfl,a,q,M,D,S,rfl,R2,ok,aO,?_⟩;refine⟨bU rfl,fun l1 H3 n3=>?_⟩;have df:=kN.trans n3.same;have ZM:aJ K H3 [pv1,gv1,Ys,.int S.ay,.str S.side,.str S.mark] (v9 S):=bW (RD.mono (s2.trans n3.same) _ rp) (bW (RD.mono n3.same _ rg) (bW (Zv.go n3.same).rd (bW (dC _) (bW (cV _) (bW (cV _) cU)))));have wB:=df _ _ ez;refine⟨_,rfl,d,_,rfl,dg wB RC,?_⟩;refine⟨_,rfl,d,_,rfl,dg wB IJ,?_⟩;refine⟨_,rfl,d,_,rfl,dg wB uc,?_⟩;refine⟨_,rfl,d,_,rfl,dg wB II,?_⟩;refine⟨_,rfl,d,_,rfl,dg wB a7Y,?_⟩;refine⟨_,rfl,d,_,rfl,dg wB a7Z,?_⟩;refine⟨bU rfl,fun l2 H4 n4=>?_⟩;have gb:=df.trans n4.same;have G3:aJ K H4 [lv,gv,sv,.int S.ay,.str S.side,.str S.mark] (v9 S):=bW (RD.mono gb _ r2) (bW (RD.mono gb _ r3) (bW (r4.go gb).rd (bW (dC _) (bW (cV _) (bW (cV _) cU)))));refine⟨_,rfl,a,dx,_,rfl,gb _ _ er,rfl,a,q,M,D,S,rfl,R.same no gb,ok,aO,fun l zs H5 nl dl rl s5=>?_⟩;have vf:=gb.trans s5;have NR:=n4.same.trans s5;refine⟨_,rfl,_,rfl,.ref l1,.ref l2,.list (v9 S),rfl,lP (aF.of (NR _ _ n3.at')) (aJ.mono NR _ ZM),lP (aF.of (s5 _ _ n4.at')) (aJ.mono s5 _ G3),YQ ok aO sm,fun H6 s6=>?_⟩;have kx:=vf.trans s6;refine⟨_,rfl,bF ?_⟩;refine⟨_,rfl,_,rfl,d,_,rfl,dg (kx _ _ ez) m3,.ref l,.ref e,.list S.ds,rfl,lP (aF.of (s6 _ _ dl)) (aJ.mono s6 _ rl),lP (aF.of (kx _ _ eq)) (aJ.mono kx _ rq),ZE ok.row ok.rw (by lia) (by lia),fun H7 s7=>?_⟩;have sF:=kx.trans s7;have mQ:=s6.trans s7;refine⟨_,rfl,bF ?_⟩;have GK:H l=none:=same_none gb nl;have B8:l≠t:=fun z=>by rw[z,et]at GK;cases GK
   have nM:=mQ _ _ dl;have ZL:=aJ.mono mQ _ rl;have J9:=sF _ _ et;have RR:=sF _ _ ez;have nXl:¬X l:=fun z=>hX l z GK;have T7:m6 K H7 t n X:=m6.go (H:=H) ⟨ts,et,lt,ht⟩ (bK _) sF.v (fun o e=>sF _ _ e) fun l us hx e=>⟨sF _ _ e,hx⟩;refine⟨fun Z H8=>∃v2 v3,Z=[some (.ref a),some (.ref d),v2,v3,some (.ref l)]/\aZ [t] H H8/\m6 K H8 t n X,?_,?_⟩
   · refine⟨_,rfl,d,_,rfl,dg RR BW,t,ts,rfl,.inl (aF.of J9),_,_,rfl,rfl,_,rfl,?_⟩
     refine dN (fun IE=>?_) (fun IE=>?_)
     · have IE:((ts.length:Nat):Int)<40:=jI IE
       refine⟨_,rfl,d,_,rfl,dg RR BW,.inl ⟨rfl,_,aF.of J9⟩,?_⟩;refine⟨_,rfl,_,rfl,l,zs,rfl,.inl ⟨aF.of nM,fun tt HB nB=>?_⟩⟩;refine⟨bU rfl,fun tp HC nC=>?_⟩;have pY:=nB.same.trans nC.same;have RW:=pY _ _ J9;refine⟨t,ts,_,rfl,rfl,RW,by lia,?_⟩;have vD:bS HC (L2.upd HC t (.lst (ts++[.ref tp]))):=.upd RW trivial;have bD:∀x o,x≠t->HC x=some o->(L2.upd HC t (.lst (ts++[.ref tp]))) x=some o:=fun x o hx e=>by rw[aK hx];exact e
       have eD:(L2.upd HC t (.lst (ts++[.ref tp]))) t=some (.lst (ts++[.ref tp])):=ba;generalize L2.upd HC t (.lst (ts++[.ref tp]))=HD at vD bD eD⊢;have FJ:=sF.trans pY;refine⟨_,_,rfl,fun x o eb hb=>bD x o (fun z=>hb (by rw[z];simp)) (FJ _ _ eb),ts++[.ref tp],eD,by rw[fD];show ts.length+1<=_;lia,fun y hy=>?_⟩;rcases uI.mp hy with hy|hy
       · obtain⟨p0,l0,xy,u0,e0,h1,h2,h3,h4,h5,h6,h7⟩:=ht y hy
         have Dr:=FJ.v.trans vD;have l0t:l0≠t:=fun z=>h7 (z▸hXt);exact⟨p0,l0,xy,u0,e0,h1,aP.v Dr h2,bD _ _ l0t (FJ _ _ h3),aP.v Dr h4,aJ.v Dr _ h6.2.2 h5,h6,h7⟩
       · rw[cf]at hy
         exact⟨tp,l,tt,zs,S.ds,hy,aP.v vD (aP.of nC.at'),bD _ _ B8 (pY _ _ nM),aP.v vD ((aP.of nB.at').go nC.same),aJ.v (pY.v.trans vD) _ no ZL,a4W ok,nXl⟩
     ·exact⟨_,_,rfl,aZ.of sF,T7⟩
   · rintro Z H8 ⟨v2,v3,rfl,b8,T8⟩
     have v8:bS H H8:=b8.v fun x hx o eo=>by rw[cf]at hx;rw[hx,et]at eo;cases eo;trivial
     have vG:∀{x},x≠t->x∉[t]:=fun h=>by rw[cf];exact h
     have R8:=R.go no v8 (fun o e=>b8 _ _ e (vG ta.symm)) (fun o e=>b8 _ _ e (vG tq.symm));have Z8:=adx.go no v8 (fun o e=>b8 _ _ e (vG td.symm)) (fun o e=>b8 _ _ e (vG te.symm));have ez8:=b8 _ _ ez (vG td.symm);have Ja:=b8 _ _ er (vG ta.symm);obtain⟨Dv,RX,lt8,ht8⟩:=id T8;refine⟨_,rfl,d,_,rfl,dg ez8 BW,t,rfl,⟨_,aF.of RX⟩,fun D1 H9 n9=>?_⟩;refine aaw (bs:=Dv.map fun _=>false) (fun y z=>∃l ta us es,y= .ref l/\z= .ref ta/\H8 l=some (.lst us)/\aP K H8 ta us/\aJ K H8 us es/\zy es) [] rfl (aF.of RX) n9 (by rw[cu]) (by lia) (fun i x ex=>?_) (fun i y z b HA Q' pr eb sA kq=>?_) fun HA sA dA=>?_
     · obtain⟨p,l',xy,us,es,rfl,hp,h1,h2,h3,h4,_⟩:=ht8 x (gG ex)
       exact⟨p,_,_,rfl,hp,l',xy,us,es,rfl,rfl,h1,h2,h3,h4⟩
     · obtain⟨l',xy,us,es,rfl,rfl,dX,vW,res,wD⟩:=pr
       have eb:b=false:=by rw[cA]at eb;cases h:Dv[i]? with |none=>rw[h]at eb;cases eb |some c=>rw[h]at eb;cases eb;rfl
       subst eb;refine⟨_,rfl,_,rfl,xy,us,rfl,.inr (vW.go sA),fun l2 HB nB=>?_⟩;refine .inr ⟨.list es,.list es,lP (aF.of (nB.same _ _ (sA _ _ dX))) (aJ.mono (sA.trans nB.same) _ res),lP (aF.of nB.at') (aJ.mono (sA.trans nB.same) _ res),wD.1,wD.1,?_⟩;rw[wD.2.1];exact kq _ nB.same
     · refine⟨D1,_,rfl,aF.of dA,_,rfl,?_⟩
       have ef:(Dv.map fun _=>false).any id=false:=by rw[List.any_map,List.any_eq_false];simp
       rw[ef];refine bF ?_;refine⟨_,rfl,a,dx,_,rfl,sA _ _ Ja,rfl,a,q,M,D,S,rfl,R8.same no sA,ok,aO,?_⟩;refine⟨_,rfl,a,dx,_,rfl,sA _ _ Ja,rfl,a,q,M,D,S,rfl,R8.same no sA,ok,aO,?_⟩;refine⟨bU rfl,fun l3 HB nB=>?_⟩;have Zg:=sA.trans nB.same;refine⟨_,rfl,l3,rfl,⟨_,aF.of nB.at'⟩,fun D2 HC nC=>?_⟩;refine aat (aF.of nB.at') nC (fun b H2 Q' hq=>?_) fun HD sD dD=>?_
       ·exact⟨_,rfl,.inl ⟨_,"bool","bool",true,rfl,rfl,by decide,by decide,hq⟩⟩
       refine⟨D2,_,rfl,aF.of dD,_,rfl,bF ?_⟩;have NO:=Zg.trans sD;obtain⟨mv',lv',gv',pV,wM,fb,cK,ez',q1,q2,q3,q4,q5,q6⟩:=Z8.ob;have RQ:=NO _ _ ez';refine⟨_,rfl,_,rfl,d,_,rfl,dg RQ yS,rfl,?_⟩;refine⟨_,rfl,d,_,rfl,dg RQ uc,bU rfl,fun tz HE nE=>?_⟩;have NN:=NO.trans nE.same;refine .inr ⟨cR S.pc,cR 0,(q4.go NN).rd,(sX (aP.of nE.at')).rd,rfl,rfl,?_⟩;rw[Oe];refine⟨bU rfl,fun l4 HF nF=>?_⟩;have mO:=NN.trans nF.same;have eB:(!decide (wM= .bo))=S.aR.isSome:=by cases hs:S.aR with |none=>rw[hs]at q5;rw[q5.1];rfl |some z=>obtain⟨sq,st,gn⟩:=z;rw[hs]at q5;obtain⟨ta,su,rfl,_⟩:=q5;rfl
       rw[eB]at nF;have Zf:=sD.trans (nE.same.trans nF.same);refine .inr ⟨.list [.bool S.aR.isSome,.bool (decide (S.pc=0))],.list [.bool S.aR.isSome,.bool (decide (S.pc=0))],lP (aF.of (Zf _ _ nB.at')) (bW (lQ _) (bW (lQ _) cU)),lP (aF.of nF.at') (bW (lQ _) (bW (lQ _) cU)),rfl,rfl,?_⟩;rw[show PyData.eqv (.list [.bool S.aR.isSome,.bool (decide (S.pc=0))]) (.list [.bool S.aR.isSome,.bool (decide (S.pc=0))])=true by cases S.aR.isSome<;>cases decide (S.pc=0)<;>rfl];refine⟨_,rfl,bF ?_⟩;refine⟨_,rfl,a,dx,_,rfl,mO _ _ Ja,rfl,a,q,M,D,S,rfl,R8.same no mO,ok,aO,?_⟩;refine⟨_,rfl,d,e,t,M,D,S,rfl,Z8.same no mO,ok,aO,?_⟩;refine⟨_,_,.int _,rfl,dC _,dC _,kQ _,fun HG sG=>?_⟩;have Ax:=mO.trans sG;refine k HG (fun x o eb hb=>Ax _ _ (b8 _ _ eb hb)) (T8.go (bK _) Ax.v (fun o e=>Ax _ _ e) fun l us hx e=>⟨Ax _ _ e,hx⟩)
end
end Lw
set_option maxHeartbeats 1000000
namespace Lw
open PySem PySem.Spec PyProof.Rows L2 Rt Ln Cn Pn Wk Rn
open Ow (topR cornO mnO betR atO ownF leadF ownL OkI OkIs)
section
variable {w:World}{mg:Str->Option Value}{base:Heap}
inductive UY(K:aa)(C:Addr)(R:lI)(vs:List V)(H:Hp)(Q:VK)(E:XK):Prop |mk (a:_)(q:_)(M:_)(D:_)(S:_)(v:_)(d:_)(o:_)(h0:vs=[.ref a,v])(h1:cF K C H a q M S)(h2:cm M D S)(h3:M.Ok)(h4:RD K H v d)(h5:nX M.rs.length d o)(h6:iM M.rs (gU (cP S) o))(h7:(S.ds.length=20->∀H',aE H H'->E (.ref R.f) none H'))(h8:(S.ds.length<20->∀H',cF K C H' a q M (nA S d o)->aZ [a,q] H H'->Q (.int (S.ds.length+1:Nat)) H')):UY K C R vs H Q E
def An(K:aa)(C:Addr)(R:lI):Sp:=fun vs H Q E=>UY K C R vs H Q E
theorem a2g{C:Addr}{R:lI}(F:MA K C "feed" "Runner.feed" ES)(TC:fY K C)(B:bP mg)(a7L:Exc K mg "Full" R.f wN yc)(a75:GV mg "MOST_WAITING" (.int 20))(a6j:aD P w K mg base "is_item" 4 (DT K))(a6h:aD P w K mg base "is_place" 3 (DU K))(yG:aD P w K mg base "place_behind" 2 (xF K))(Iz:cL P w K mg base C "leads_to" 3 (fj K C fun _ S H Q=>∀v H',RD K H' v (fo (cP S))->aE H H'->Q v H')):CJ P w K mg base C "feed" 5 (An K C R):=by
 refine F.a6N MY (fun vs H Q E h=>?_) (fun _ _ _ _ _ _=>dy fun _ _=>rfl) (fun f aL A outer s H vs Q E hr h=>?_)
 · obtain⟨a,q,M,D,S,v,d,o,rfl,_⟩:=h
   rfl
 · obtain⟨a,q,M,D,S,v,d,o,rfl,Ra,ok,aO,rd,it,qm,kf,kd⟩:=h
   obtain⟨i1,i2,i3⟩:=it.is;obtain⟨dx,mv,bv,cE,tv,e,r1,r2,r3,r4⟩:=Ra.ob;obtain⟨ys,eq,rq⟩:=Ra.qu;have nd:=MY.nd;have lr:=aO.len;have ly:=rq.length;refine⟨_,(aB (bJ (fk (cM (pf a6j hr (O (cW TC.cl TC.qy (pv 0)) (O (pv 1) aw))))) (aG vi) bO) (aB (bJ (fk (cM (pf a6h hr (O (cW TC.cl TC.qy (pv 0)) (O (pf yG hr (O (gK Iz TC.cl (hr.mono (by decide)) (pv 0)) (O (pv 1) aw))) aw))))) (aG vi) bO) (aB (bJ (bZ Gy (dU K B (O (cW TC.cl TC.jR (pv 0)) aw)) (eQ (x:="MOST_WAITING") rfl a75) (bw _)) (aG (a0w (fun _ _ _ _ _ _ _ I m q=>X0 I m q) a7L PySem.F.excBase_ValueError hr.hd rfl (O aW aw))) bO) (aB (gP (jq K rfl (cW TC.cl TC.jR (pv 0)) (O (pv 1) aw))) (aG (aU (dU K B (O (cW TC.cl TC.jR (pv 0)) aw)))))))),?_⟩;refine⟨_,rfl,a,dx,_,_,rfl,e,rfl,_,rfl,mv,v,M.rs,_,d,rfl,r1,rd,by lia,i2,i3,fun H1 s1=>⟨_,rfl,?_⟩⟩;rw[i1];refine bF ?_;have e1:=s1 _ _ e;have R1:=Ra.same ok.row.no s1;refine⟨_,rfl,a,dx,_,_,rfl,e1,rfl,?_⟩;refine⟨_,rfl,a,dx,_,rfl,e1,rfl,a,q,M,D,S,rfl,R1,ok,aO,fun g H2 rg s2=>?_⟩;have kN:=s1.trans s2;have gl:(cP S).length=M.rs.length:=yU _ _ ok.pl ok.sS;have bl:(gU (cP S) o).length=M.rs.length:=wO gl fun ns sp eo=>(it.ln ns sp eo).1.len;refine⟨_,rfl,g,v,cP S,d,o,rfl,rg,RD.mono kN _ rd,it.it,fun ns sp e'=>by rw[gl];exact(it.ln ns sp e').1.len,by lia,fun u H3 ru s3=>?_⟩;have df:=kN.trans s3;refine⟨mv,u,M.rs,_,_,rfl,RD.mono df _ r1,ru,by lia,fun H4 s4=>⟨_,rfl,?_⟩⟩;rw[a1z qm];refine bF ?_;have gb:=df.trans s4;have e4:=gb _ _ e;have eq4:=gb _ _ eq;refine⟨_,rfl,a,dx,_,_,rfl,e4,rfl,q,_,rfl,.inl (aF.of eq4),_,_,rfl,rfl,_,rfl,?_⟩;by_cases lF:S.ds.length=20
   · rw[show decide ((ys.length:Int)>=20)=true from cH (by lia)]
     exact bV ⟨bU rfl,kf lF _ gb⟩
   have Bm:=ok.len;rw[show decide ((ys.length:Int)>=20)=false from fe (by lia)];refine bF ?_;have lE:sizeLine=16777216:=by decide
   refine⟨_,rfl,a,dx,_,_,rfl,e4,rfl,.inl ⟨rfl,_,aF.of eq4⟩,_,rfl,q,ys,_,rfl,rfl,eq4,by lia,?_⟩;have aq:=Ra.ne;have tu:bS H4 (L2.upd H4 q (.lst (ys++[v]))):=.upd eq4 trivial;have e5:(L2.upd H4 q (.lst (ys++[v]))) a=some (.ins C dx (gc mv bv (.int S.dn) (.ref q) cE (.int S.ay) (.str S.side) (.str S.mark) tv)):=by rw[aK aq];exact e4
   refine⟨_,rfl,a,dx,_,_,rfl,e5,rfl,q,_,rfl,.inl (aF.of ba),?_⟩;have sv:bS H (L2.upd H4 q (.lst (ys++[v]))):=gb.v.trans tu;have el:((ys++[v]).length:Int)=((S.ds.length+1:Nat):Int):=by rw[fD,ly];rfl
   rw[el];refine kd (by lia) _ ⟨⟨dx,mv,bv,cE,tv,e5,RD.v sv _ (jd _ _ _ _ _) r1,RD.v sv _ (hZ _) r2,r3.v sv,r4.v sv⟩,_,ba,?_⟩ fun b o' eb hb=>?_
   ·exact(aJ.v sv _ ok.row.no rq).append (bW (RD.v sv _ it.it.no rd) cU)
   · have lY:b≠q:=fun z=>hb (by rw[z];simp)
     rw[aK lY];exact gb _ _ eb
inductive uv(R:lI):Addr->Bool->Bool->Bool->Nat->Str->Prop |f:uv R R.f true false false 2 "full"
def U0(R:lI)(Q:VK):XK:=fun cls dx H'=>∃C b2 b3 b4 j w,uv R C b2 b3 b4 j w/\cls= .ref C/\∀Wl,aE H' Wl->Q (.str w) Wl
theorem uv.kc{R:lI}{cG c0 c1 c2 c3 c4 c5 C:Addr}{b2 b3 b4:Bool}{j:Nat}{z:Str}(A:CF K mg R cG c0 c1 c2 c3 c4 c5)(h:uv R C b2 b3 b4 j z):KC K R cG [c0,c1,c2,c3,c4,c5] C false false b2 b3 b4/\ClsAt K C:=by
 cases h
 ·exact⟨A.f,A.xf.cls⟩
theorem uv.one{R:lI}{C:Addr}{b2 b3 b4:Bool}{j:Nat}{z:Str}(h:uv R C b2 b3 b4 j z):[false,false,b2,b3,b4].count true=1/\[false,false,b2,b3,b4][j]? =some true/\(∀m,m<j->[false,false,b2,b3,b4][m]? =some false)/\j<1000/\fJ [V.str "item",.str "",.str "full",.str "moving",.str "rate"] (j:Nat)=some (.str z):=by
 cases h<;>refine⟨by decide,rfl,fun m hm=>?_,by decide,rfl⟩
 ·match m,hm with|0,_=>rfl|1,_=>rfl
def Am(P:ah)(w:World)(K:aa)(mg:Str->Option Value)(base:Heap)(R:lI)(k:Nat):ux:=fun outer s vs H Q _=>∃(f c:Addr)(cl:List (Str×Addr))(pr:Arguments)(b:Expr)(sc:Scope)(q:Str)(N:List Str)(xs:List V)(t:XK->TE),vs=[.ref f]/\wU s.heap H (dj outer) f pr b sc q c cl/\H c=some (.ext (jG c q))/\rF s.heap H (dj outer) cl N xs/\xs.length=N.length/\uz N sc/\(∀pm cd ct,bindArgs (PySem.W.kla_fn "<lambda>" q pr b sc cl pm cd ct) ⟨[],[]⟩=pure [])/\(∀(A:aj)(outer:List Env)(s:ae)(H:Hp)(E:XK),cJ k (A.deeper (PySem.W.envX q sc s.heap.objs.size f (.ref c) cl))->PE (qC (kj P w) P w K mg base N q sc f (.ref c) cl A outer s H E) b (t E))/\t (U0 R Q) (xs.map some) H Q
theorem MR:bp ["_law_deed_here","e","_law_kinds","_law_others"] ["_law_deed_here"] (aV Eu):=bI (by decide+kernel)
theorem a2j{R:lI}{cG c0 c1 c2 c3 c4 c5:Addr}{k:Nat}(F:FA K mg "_law_refused" Eu)(B:bP mg)(EA:CF K mg R cG c0 c1 c2 c3 c4 c5):zw P w K mg base "_law_refused" (k+2) (Am P w K mg base R k):=by
 refine F.a6M MR (fun outer s vs H Q E h=>?_) (fun _ _ _ _ _ _=>eK fun _=>rfl) (fun f0 aL A outer s H vs Q E hr h=>?_)
 · obtain⟨f,c,cl,pr,b,sc,q,N,xs,t,rfl,_⟩:=h
   rfl
 · obtain⟨f,c,cl,pr,b,sc,q,N,xs,t,rfl,L,hc,C,hl,S,hb,ht,hq⟩:=h
   have nd:=MR.nd;have hy:=EA.g;have Ip:(wN).contains (.type "BaseException")=true:=by decide
   have ID:∀C',(∃b2 b3 b4 j w,uv R C' b2 b3 b4 j w)->ClsAt K C'/\takes K C' cG:=fun C' ⟨b2,b3,b4,j,w,h⟩=>⟨(h.kc EA).2,(h.kc EA).1.tk⟩;have a72:=EA.gn;have a6V:=EA.go;have a7c:GV mg "Full" (.ref R.f):=⟨_,EA.xf.at',rfl⟩;have a74:=EA.gm;have a6Y:=EA.gr;have a73:=EA.h0;have a71:=EA.h1;have a70:=EA.h2;have a6Z:=EA.h3;have a6X:=EA.h4;have a6W:=EA.h5;have a6T:=EA.v;refine⟨_,(zp.one (a0u (i:=1) rfl rfl nd rfl rfl rfl (fun E xe hp=>(aG (aU (a0U 0 hp)))) rfl hy Ip ID (fun ex=>(aB (pS 2 nd (dv (O (dh (x:="isinstance") (tH K rfl) rfl (B.at "isinstance") uH (O (pv 1) (O (eQ (x:="NoItem") rfl a72) aw))) (O (dh (x:="isinstance") (tH K rfl) rfl (B.at "isinstance") uH (O (pv 1) (O (eQ (x:="OffRails") rfl a6V) aw))) (O (dh (x:="isinstance") (tH K rfl) rfl (B.at "isinstance") uH (O (pv 1) (O (eQ (x:="Full") rfl a7c) aw))) (O (dh (x:="isinstance") (tH K rfl) rfl (B.at "isinstance") uH (O (pv 1) (O (eQ (x:="Moving") rfl a74) aw))) aw)))))) (aB (gP (jq K rfl (pv 2) (O (dh (x:="isinstance") (tH K rfl) rfl (B.at "isinstance") uH (O (pv 1) (O (eQ (x:="NoRate") rfl a6Y) aw))) aw))) (aB (pS 3 nd (dh (x:="isinstance") (tH K rfl) rfl (B.at "isinstance") uH (O (pv 1) (O (dS (O (eQ (x:="NoFraction") rfl a73) (O (eQ (x:="NoLine") rfl a71) (O (eQ (x:="NoMachine") rfl a70) (O (eQ (x:="NoPlace") rfl a6Z) (O (eQ (x:="NoTape") rfl a6X) (O (eQ (x:="NoText") rfl a6W) aw))))))) aw)))) (aB (bJ (PW.pt (kP (bZ (jv K rfl hr.units) (a1c K rfl (pv 2) (O iD aw)) az (bw _)) (kP (cM (pv 3)) (lR (fk (cM (dh (x:="isinstance") (tH K rfl) rfl (B.at "isinstance") uH (O (pv 1) (O (cY (x:="ValueError") (v:=.ty "ValueError") rfl a6T aaW rfl) aw))))))))) (aG (aU aW)) bO) (aB (bJ (cM (px K (pv 2) az)) (aG vi) bO) (aG (aU (px K (dv (O aW (O aW (O aW (O aW (O aW aw)))))) (a1a K rfl (pv 2) (O iD aw))))))))))))),?_⟩;refine⟨U0 R Q,?_,fun cls dx H' h=>?_,?_⟩
   ·exact⟨f,c,cl,pr,b,sc,q,N,xs,t,k,rfl,rfl,L,hc,C,hl,S,hb,hr,ht,hq⟩
   · obtain⟨C,b2,b3,b4,j,w,h,e,_⟩:=h
     exact⟨C,e,b2,b3,b4,j,w,h⟩
   · intro C' ex dx σ' H' dX hE hex
     have hl4:σ'.length=4:=dX;have e1:(L2.upd H' ex (.ext (nZ ex (.ref C') dx))) ex=some (.ext (nZ ex (.ref C') dx)):=ba;have sm:=aE.new (o:=.ext (nZ ex (.ref C') dx)) hex;have lE:sizeLine=16777216:=by decide
     match σ',hl4 with
     |[u0,u1,u2,u3],_=>
       obtain⟨C,b2,b3,b4,j,z,hw,e,kq⟩:=hE;cases e;obtain⟨cnt,o2,o3,o4,o5⟩:=hw.one;have kc:=(hw.kc EA).1;refine⟨_,rfl,.inl ⟨ex,C',dx,.ref R.n,.ref R.n,false,rfl,e1,kc.k,rfl,kc.i0,?_⟩⟩;refine⟨_,rfl,.inl ⟨ex,C',dx,.ref R.o,.ref R.o,false,rfl,e1,kc.k,rfl,kc.i1,?_⟩⟩;refine⟨_,rfl,.inl ⟨ex,C',dx,.ref R.f,.ref R.f,b2,rfl,e1,kc.k,rfl,kc.i2,?_⟩⟩;refine⟨_,rfl,.inl ⟨ex,C',dx,.ref R.m,.ref R.m,b3,rfl,e1,kc.k,rfl,kc.i3,?_⟩⟩;refine⟨bU rfl,fun l H2 n2=>?_⟩;have e2:=n2.same _ _ e1;refine⟨_,rfl,.inl ⟨rfl,_,aF.of n2.at'⟩,_,rfl,.inl ⟨ex,C',dx,.ref R.r,.ref R.r,b4,rfl,e2,kc.k,rfl,kc.i4,l,_,_,rfl,rfl,n2.at',by show 4<_;lia,?_⟩⟩;have yf:ex≠l:=fun z=>by have:=n2.no;rw[<-z,e1]at this;cases this
       have e3:(L2.upd H2 l (.lst ([V.bl false,.bl false,.bl b2,.bl b3]++[.bl b4]))) ex=some (.ext (nZ ex (.ref C') dx)):=by rw[aK yf];exact e2
       have e4:(L2.upd H2 l (.lst ([V.bl false,.bl false,.bl b2,.bl b3]++[.bl b4]))) l=some (.lst ([false,false,b2,b3,b4].map V.bl)):=ba;have s3:aE H' (L2.upd H2 l (.lst ([V.bl false,.bl false,.bl b2,.bl b3]++[.bl b4]))):=fun b' o' eb=>by
        have nb:b'≠l:=fun z=>by have:=n2.no;rw[<-z,sm _ _ eb]at this;cases this
        rw[aK nb];exact n2.same _ _ (sm _ _ eb)
       generalize L2.upd H2 l (.lst ([V.bl false,.bl false,.bl b2,.bl b3]++[.bl b4]))=H3 at e3 e4 s3⊢;refine⟨_,rfl,bU rfl,fun tp H4 n4=>?_⟩;have e5:=n4.same _ _ e3;have e6:=n4.same _ _ e4;have s4:=s3.trans n4.same;refine .inr ⟨ex,C',tp,dx,[c0,c1,c2,c3,c4,c5],false,rfl,e5,kc.k,n4.at',kc.any,?_⟩;refine⟨_,rfl,.inl ⟨rfl,_,aF.of e6⟩,l,_,rfl,rfl,aF.of e6,.inl ⟨_,_,rfl,rfl,_,rfl,?_⟩⟩;rw[show(!decide (((([false,false,b2,b3,b4].count true:Nat)):Int)=1))=false by rw[cnt];rfl];refine bF ⟨_,rfl,_,rfl,bF ?_⟩;refine⟨_,rfl,.inl ⟨ex,C',dx,.ty "ValueError",.type "ValueError",true,rfl,e5,kc.k,rfl,kc.ve,_,rfl,bF ?_⟩⟩;refine⟨_,rfl,.inl ⟨l,_,1,.bl false,rfl,rfl,aF.of e6,rfl,_,rfl,?_⟩⟩;refine bF ?_;refine⟨bU rfl,fun lw H5 n5=>?_⟩;refine⟨_,rfl,.inl ⟨rfl,_,aF.of (n5.same _ _ e6)⟩,l,_,j,rfl,rfl,aF.of (n5.same _ _ e6),o2,o3,o4,?_⟩;exact .inl ⟨lw,_,_,_,rfl,rfl,aF.of n5.at',o5,kq _ (s4.trans n5.same)⟩
end
end Lw
set_option maxHeartbeats 4000000
namespace Lw
open PySem PySem.Spec PyProof.Rows L2 Rt Ln Cn Pn Wk Rn
open Ow (topR cornO mnO betR atO ownF leadF ownL OkI OkIs)
section
variable {w:World}{mg:Str->Option Value}{base:Heap}
structure bQ(K:aa)(C T:Addr)(qn:Str)(H:Hp)(M:bM)(n:Nat)(A:Ad)(p:Addr)(S:bj):Prop where
 run:cF K C H A.a A.q M S
 sim:dH K H A.d A.e A.t M S
 ok:cm M (64+10*n) S
 sm:SM S
 told:m6 K H A.t (40+n) (fun l=>l∈A.all\/l=p)
 nd:A.all.Nodup
 tab:TabAt H T qn
 on:iM M.rs (cP S)
 bL:gz H p
 np:p∉A.all
section
variable {C T:Addr}{qn:Str}{H H':Hp}{M:bM}{n:Nat}{A:Ad}{p:Addr}{S:bj}
theorem bQ.kind(h:bQ K C T qn H M n A p S):∀x∈A.all,∃o,H x=some o/\CL o/\∀ps,o≠ .fi ps:=by
 intro x hx;obtain⟨dx,Pu,Tg,cE,tv,e,_⟩:=h.run.ob;obtain⟨zs,eq,_⟩:=h.run.qu;obtain⟨mv,lv,gv,sv,bv,cv,rv,ez,_⟩:=h.sim.ob;obtain⟨ys,ee,_⟩:=h.sim.qu;obtain⟨ts,et,_⟩:=h.told;simp only[Ad.all,bN,cI,dB]at hx;rcases hx with rfl|rfl|rfl|rfl|rfl
 ·exact⟨_,e,trivial,fun _ z=>nomatch z⟩
 ·exact⟨_,eq,trivial,fun _ z=>nomatch z⟩
 ·exact⟨_,ez,trivial,fun _ z=>nomatch z⟩
 ·exact⟨_,ee,trivial,fun _ z=>nomatch z⟩
 ·exact⟨_,et,trivial,fun _ z=>nomatch z⟩
theorem bQ.here(h:bQ K C T qn H M n A p S):∀x,(x∈A.all\/x=p)->H x≠none:=by
 intro x hx;rcases hx with hx|rfl
 · obtain⟨o,e,_⟩:=h.kind x hx
   rw[e];simp
 · obtain⟨c,m,e,_⟩:=h.bL
   rw[e];simp
theorem bQ.nT(h:bQ K C T qn H M n A p S):T∉A.all:=fun hx=>by obtain⟨o,e,_,hn⟩:=h.kind T hx;obtain⟨ps,et,_⟩:=h.tab;rw[e]at et;exact hn _ (dP et)
theorem bQ.Pp(h:bQ K C T qn H M n A p S):T≠p:=fun hx=>by obtain⟨c,m,e,_⟩:=h.bL;obtain⟨ps,et,_⟩:=h.tab;rw[<-hx,et]at e;cases e
theorem bQ.v(h:bQ K C T qn H M n A p S)(b:aZ (T::p::A.all) H H'):bS H H':=by
 refine b.v fun x hx o eo=>?_;rcases bN.mp hx with z|hx
 · obtain⟨ps,et,_⟩:=h.tab
   rw[z,et]at eo;cases eo;trivial
 · rcases bN.mp hx with z|hx
   · obtain⟨c,m,e,_⟩:=h.bL
     rw[z,e]at eo;cases eo;trivial
   · obtain⟨o',e,c,_⟩:=h.kind x hx
     rw[eo]at e;cases e;exact c
theorem TabAt.but{q:Str}{S':List Addr}(h:TabAt H T q)(b:aZ S' H H')(hT:T∉S')(hS:∀x∈S',∀φ,H x≠some (.ext φ)):TabAt H' T q:=h.keep (fun ps e=>b _ _ e hT) fun x φ e=>b _ _ e fun hx=>hS x hx φ e
theorem gz.but{S':List Addr}(h:gz H p)(b:aZ S' H H')(hp:p∉S'):gz H' p:=by obtain⟨c,m,e,k⟩:=h;exact⟨c,m,b _ _ e hp,k⟩
theorem bQ.vB(h:bQ K C T qn H M n A p S):∀x∈p::A.all,∀φ,H x≠some (.ext φ):=fun x hx φ e=>by
 rcases bN.mp hx with z|hx
 · obtain⟨c,m,e',_⟩:=h.bL
   rw[z,e']at e;cases e
 · obtain⟨o',e',c,_⟩:=h.kind x hx
   rw[e]at e';cases e';exact c
theorem bQ.kD(h:bQ K C T qn H M n A p S)(x:bT p H H'):bQ K C T qn H' M n A p S:=by have b:aZ [p] H H':=fun b o e hb=>x.same b o (fun z=>hb (by rw[z];exact .head _)) e;have v:=(bT.t h.bL x).v;have np:∀y∈A.all,∀o,H y=some o->H' y=some o:=fun y hy o e=>x.same y o (fun z=>h.np (z▸hy)) e;refine⟨h.run.go h.ok.row.no v (np _ (by simp[Ad.all])) (np _ (by simp[Ad.all])),h.sim.go h.ok.row.no v (np _ (by simp[Ad.all])) (np _ (by simp[Ad.all])),h.ok,h.sm,h.told.go (bK _) v (np _ (by simp[Ad.all])) fun l us hx e=>⟨x.same _ _ (fun z=>hx (.inr z)) e,hx⟩,h.nd,?_,h.on,x.bL,h.np⟩;exact TabAt.but h.tab b (by rw[cf];exact h.Pp) fun y hy φ=>h.vB y (by rw[cf.mp hy];exact .head _) φ
theorem bQ.same(h:bQ K C T qn H M n A p S)(s:aE H H'):bQ K C T qn H' M n A p S:=⟨h.run.same h.ok.row.no s,h.sim.same h.ok.row.no s,h.ok,h.sm,h.told.go (bK _) s.v (fun o e=>s _ _ e) fun l us hx e=>⟨s _ _ e,hx⟩,h.nd,h.tab.keep (fun ps e=>s _ _ e) (fun b φ e=>s _ _ e),h.on,by obtain⟨c,m,e,k⟩:=h.bL;exact⟨c,m,s _ _ e,k⟩,h.np⟩
theorem bQ.a3k{p':Addr}(h:bQ K C T qn H M n A p S)(s:aE H H')(nw:H p'=none)(bg:gz H' p'):bQ K C T qn H' M n A p' S:=by have h':=h.same s;refine⟨h'.run,h'.sim,h'.ok,h'.sm,h.told.go (bK _) s.v (fun o e=>s _ _ e) fun l us hx e=>⟨s _ _ e,fun z=>z.elim (fun z=>hx (.inl z)) fun z=>?_⟩,h'.nd,h'.tab,h'.on,bg,fun z=>h.here _ (.inl z) nw⟩;rw[z,nw]at e;cases e
theorem bQ.mono{m:Nat}(h:bQ K C T qn H M n A p S)(h1:n<=m)(h2:m<=100):bQ K C T qn H M m A p S:=⟨h.run,h.sim,h.ok.mono (by lia) (by lia),h.sm,h.told.go (by lia) (fun _ _ _ e=>e) (fun _ e=>e) fun l us hx e=>⟨e,hx⟩,h.nd,h.tab,h.on,h.bL,h.np⟩
theorem bQ.upd{S':bj}(h:bQ K C T qn H M n A p S)(q':Addr)(b:aZ (T::p::A.all) H H')(nq:q'=A.q\/H q'=none)(R:cF K C H' A.a q' M S')(adx:dH K H' A.d A.e A.t M S')(ok:cm M (64+10*(n+1)) S')(sm:SM S') (To:m6 K H' A.t (40+(n+1)) (fun l=>l∈A.all\/l=p\/l=q'))(tab:TabAt H' T qn)(on:iM M.rs (cP S'))(bL:gz H' p):bQ K C T qn H' M (n+1) {A with q:=q'} p S':=by
  have TN:∀x,x∈({A with q:=q'}:Ad).all->x∈A.all\/x=q':=fun x m=>by simp only[Ad.all,bN,cI,dB]at m⊢;rcases m with z|z|z|z|z<;>simp[z]
  have Om:q'=A.q\/(q'∉A.all/\q'≠p):=nq.imp id fun z=>⟨fun m=>h.here _ (.inl m) z,fun e=>h.here _ (.inr e) z⟩;refine⟨R,adx,ok,sm,To.go (bK _) (fun _ _ _ e=>e) (fun _ e=>e) fun l us hx e=>⟨e,fun z=>?_⟩,?_,tab,on,bL,fun z=>?_⟩
  · rcases z with z|z
    ·exact hx ((TN _ z).elim .inl fun z=>.inr (.inr z))
    ·exact hx (.inr (.inl z))
  · have nd:=h.nd
    rcases Om with e|⟨e,_⟩
    ·rw[e];exact nd
    · simp only[Ad.all,rM,bN,cI,dB,not_or]at nd e⊢
      obtain⟨⟨t1,t2,t3,t4⟩,⟨t5,t6,t7⟩,t8⟩:=nd;obtain⟨e1,e2,e3,e4,e5⟩:=e;exact⟨⟨fg e1,t2,t3,t4⟩,⟨e3,e4,e5⟩,t8⟩
  · rcases TN _ z with z|z
    ·exact h.np z
    · rcases Om with e|⟨_,e⟩
      ·exact h.np (by rw[z,e];simp[Ad.all])
      ·exact e z.symm
theorem bQ.KS{S':bj}(h:bQ K C T qn H M n A p S)(q':Addr)(b:aZ (T::p::A.all) H H')(et:∀o,H A.t=some o->H' A.t=some o)(nq:q'=A.q\/H q'=none)(R:cF K C H' A.a q' M S')(adx:dH K H' A.d A.e A.t M S')(ok:cm M (64+10*(n+1)) S')(sm:SM S') (tab:TabAt H' T qn)(on:iM M.rs (cP S'))(bL:gz H' p):bQ K C T qn H' M (n+1) {A with q:=q'} p S':=by
  refine h.upd q' b nq R adx ok sm (h.told.go (by lia) (h.v b) et fun l us hx e=>⟨b _ _ e fun m=>?_,fun z=>?_⟩) tab on bL
  · rcases bN.mp m with z|m
    · obtain⟨ps,e',_⟩:=h.tab
      rw[z,e']at e;cases e
    ·exact hx ((bN.mp m).elim .inr .inl)
  · rcases z with z|z|z
    ·exact hx (.inl z)
    ·exact hx (.inr z)
    · rcases nq with g|g
      ·exact hx (.inl (by rw[z,g];simp[Ad.all]))
      ·rw[<-z,e]at g;cases g
end
section
variable {C T:Addr}{qn:Str}{H H' H1 H2:Hp}{M:bM}{n:Nat}{A:Ad}{p:Addr}{S S1:bj}{q':Addr}
theorem bQ.qw(h:bQ K C T qn H M n A p S):A.a∉[A.d,A.e]/\A.q∉[A.d,A.e]/\A.t∉[A.d,A.e]/\A.d∉[A.a,A.q]/\A.e∉[A.a,A.q]/\A.t∉[A.a,A.q]:=by have nd:=h.nd;simp only[Ad.all,rM,bN,cI,dB,not_or]at nd⊢;obtain⟨⟨t1,t2,t3,t4⟩,⟨t5,t6,t7⟩,⟨t8,t9⟩,uR,_⟩:=nd;exact⟨⟨t2,t3⟩,⟨t5,t6⟩,⟨fg t9,fg uR⟩,⟨fg t2,fg t5⟩,⟨fg t3,fg t6⟩,⟨fg t4,fg t7⟩⟩
theorem Ag{A:Ad}:∀x,x∈[A.a,A.q]->x∈T::p::A.all:=fun x hx=>by simp only[Ad.all,bN,cI,dB]at hx⊢;rcases hx with z|z<;>simp[z]
theorem Af{A:Ad}:∀x,x∈[A.d,A.e]->x∈T::p::A.all:=fun x hx=>by simp only[Ad.all,bN,cI,dB]at hx⊢;rcases hx with z|z<;>simp[z]
theorem bQ.mid(h:bQ K C T qn H M n A p S)(b1:aZ [A.a,A.q] H H1):dH K H1 A.d A.e A.t M S:=h.sim.go h.ok.row.no (h.v (b1.mono Ag)) (fun o e=>b1 _ _ e h.qw.2.2.2.1) (fun o e=>b1 _ _ e h.qw.2.2.2.2.1)
theorem bQ.fin(h:bQ K C T qn H M n A p S)(R1:cF K C H1 A.a q' M S1)(b1:aZ [A.a,A.q] H H1)(nq:q'=A.q\/H q'=none)(Z2:dH K H2 A.d A.e A.t M S1)(b2:aZ [A.d,A.e] H1 H2)(ok:cm M (64+10*(n+1)) S1)(sm:SM S1)(on:iM M.rs (cP S1)):bQ K C T qn H2 M (n+1) {A with q:=q'} p S1/\aZ (T::p::A.all) H H2:=by
 have bb:aZ (T::p::A.all) H H2:=(b1.mono Ag).trans (b2.mono Af);obtain⟨n1,n2,n3,n4,n5,n6⟩:=h.qw;have Z1:=h.mid b1;have pT:bS H1 H2:=Z1.v b2;have q2:q'∉[A.d,A.e]:=by
  rcases nq with z|z
  ·rw[z];exact n2
  · intro m
    refine h.here q' (.inl ?_) z;simp only[Ad.all,bN,cI,dB]at m⊢;rcases m with e|e<;>simp[e]
 have pn:∀S':List Addr,(∀x∈S',x∈A.all)->p∉S':=fun S' hs m=>h.np (hs p m);have in1:∀x∈[A.a,A.q],x∈A.all:=fun x hx=>by simp only[Ad.all,bN,cI,dB]at hx⊢;rcases hx with z|z<;>simp[z]
 have Bq:∀x∈[A.d,A.e],x∈A.all:=fun x hx=>by simp only[Ad.all,bN,cI,dB]at hx⊢;rcases hx with z|z<;>simp[z]
 have Dz:=TabAt.but h.tab b1 (fun m=>h.nT (in1 _ m)) fun x hx φ=>h.vB x (.tail _ (in1 x hx)) φ;have Dy:=TabAt.but Dz b2 (fun m=>h.nT (Bq _ m)) fun x hx φ e=>by
  obtain⟨o,eo,_,_⟩:=h.kind x (Bq x hx);have e1:H1 x=some o:=b1 _ _ eo (fun m=>by
   simp only[bN,cI,dB]at hx m;rcases hx with z|z<;>rcases m with g|g
   ·exact n4 (by rw[<-z,g];simp)
   ·exact n4 (by rw[<-z,g];simp)
   ·exact n5 (by rw[<-z,g];simp)
   ·exact n5 (by rw[<-z,g];simp));rw[e]at e1;cases e1;exact h.vB x (.tail _ (Bq x hx)) φ eo
 refine⟨h.KS q' bb (fun o e=>b2 _ _ (b1 _ _ e n6) n3) nq (R1.go ok.row.no pT (fun o e=>b2 _ _ e n1) (fun o e=>b2 _ _ e q2)) Z2 ok sm Dy on ((h.bL.but b1 (pn _ in1)).but b2 (pn _ Bq)),bb⟩
end
section
variable {C T:Addr}{qn:Str}{H H':Hp}{M:bM}{n:Nat}{A:Ad}{p:Addr}{S:bj}
theorem bQ.lam(h:bQ K C T qn H M n A p S)(b:aZ [T] H H')(tab:TabAt H' T qn):bQ K C T qn H' M n A p S:=by
 have bb:aZ (T::p::A.all) H H':=b.mono fun x hx=>by rw[cf.mp hx];exact .head _
 have v:=h.v bb;have nT:∀{x},x∈A.all->x∉[T]:=fun hx m=>h.nT (by rw[<-cf.mp m];exact hx);have k:∀{x},x∈A.all->∀o,H x=some o->H' x=some o:=fun hx o e=>b _ _ e (nT hx);refine⟨h.run.go h.ok.row.no v (k (by simp[Ad.all])) (k (by simp[Ad.all])),h.sim.go h.ok.row.no v (k (by simp[Ad.all])) (k (by simp[Ad.all])),h.ok,h.sm,h.told.go (bK _) v (k (by simp[Ad.all])) fun l us hx e=>⟨b _ _ e fun m=>?_,hx⟩,h.nd,tab,h.on,h.bL.but b fun m=>h.Pp (cf.mp m).symm,h.np⟩;obtain⟨ps,e',_⟩:=h.tab;rw[cf.mp m,e']at e;cases e
theorem ZX{R:lI}{outer:List Env}{s':ae}{f c:Addr}{cl:List (Str×Addr)}{pr:Arguments}{b:Expr}{sc:Scope}{q:Str}{N:List Str}{iv:V}{d:ai}{o:Itm}{Q:VK}{E:XK}(L:wU s'.heap H (dj outer) f pr b sc q c cl)(hc:H c=some (.ext (jG c q)))(CA:rF s'.heap H (dj outer) cl N [.ref A.a,iv])(hN:N.length=2)(Sc:uz N sc)(hb:∀pm cd ct,bindArgs (PySem.W.kla_fn "<lambda>" q pr b sc cl pm cd ct) ⟨[],[]⟩=pure []) (hpe:∀(A:aj)(outer:List Env)(s:ae)(H:Hp)(E:XK),cJ 5 (A.deeper (PySem.W.envX q sc s.heap.objs.size f (.ref c) cl))->PE (qC (kj P w) P w K mg base N q sc f (.ref c) cl A outer s H E) b (DC C "feed" (An K C R) E (uQ 0) (DE (uQ 1) mJ))) (h:bQ K C T qn H M n A p S)(rd:RD K H iv d)(it:nX M.rs.length d o)(aO:M.Ok)(qm:iM M.rs (gU (cP S) o))(kf:S.ds.length=20->∀H2,aE H H2->Q (.str "full") H2)(kd:S.ds.length<20->∀H2,cF K C H2 A.a A.q M (nA S d o)->aZ [A.a,A.q] H H2->Q (.int (S.ds.length+1:Nat)) H2):Am P w K mg base R 5 outer s' [.ref f] H Q E:=by obtain⟨dx,mv,bv,cE,tv,e,_⟩:=h.run.ob;refine⟨f,c,cl,pr,b,sc,q,N,_,fun E=>DC C "feed" (An K C R) E (uQ 0) (DE (uQ 1) mJ),rfl,L,hc,CA,hN.symm,Sc,hb,hpe,?_⟩;exact⟨_,rfl,A.a,dx,_,rfl,e,rfl,_,rfl,A.a,A.q,M,_,S,iv,d,o,rfl,h.run,h.ok,aO,rd,it,qm,fun lF H2 s2=>⟨R.f,_,_,_,2,"full",.f,rfl,fun H3 s3=>kf lF _ (s2.trans s3)⟩,kd⟩
end
section
variable {C T:Addr}{qn:Str}{H H1 H2:Hp}{M:bM}{n:Nat}{A:Ad}{p:Addr}{S S1:bj}
theorem a9D{D:Nat}{es:List ai}(ok:cm M D S)(aO:M.Ok)(r:Run M S es S1)(hl:es.length<=100000):Nx (Nx (Nx (Nx A0))) (.list es):=.inr ⟨_,.inr rfl,hl,fun x hx=>(r.ent ok aO x hx).2⟩
theorem bQ.IH(h:bQ K C T qn H M n A p S)(b:aZ [A.d] H H1):cF K C H1 A.a A.q M S:=by
 have b':aZ [A.d,A.e] H H1:=b.mono fun x hx=>by rw[cf.mp hx];simp
 exact h.run.go h.ok.row.no (h.v (b'.mono Af)) (fun o e=>b' _ _ e h.qw.1) (fun o e=>b' _ _ e h.qw.2.1)
theorem bQ.brk{mv lv gv sv bv cv rv:V}(h:bQ K C T qn H M n A p S)(b:aZ [A.d] H H1)(e1:H1 A.d=some (.dK (bB mv lv gv sv (.int S.ay) (.str S.side) (.str S.mark) (.ref A.e) (.int S.dn) .bo cv rv (.ref A.t)))) (hz:H A.d=some (.dK (bB mv lv gv sv (.int S.ay) (.str S.side) (.str S.mark) (.ref A.e) (.int S.dn) bv cv rv (.ref A.t)))/\RD K H mv M.D/\RD K H lv (fo (fm S))/\RD K H gv (fo (cP S))/\bh K H sv S.pc/\uC K H bv cv S.aR/\zo K H M S rv):dH K H1 A.d A.e A.t M {S with aR:=none}:=by
  have b':aZ [A.d,A.e] H H1:=b.mono fun x hx=>by rw[cf.mp hx];simp
  have v:=h.v (b'.mono Af);obtain⟨_,r1,r2,r3,r4,r5,r6⟩:=hz;obtain⟨ys,eq,rq⟩:=h.sim.qu;have cvI:∃z,cv= .int z:=by cases hs:S.aR with |none=>rw[hs]at r5;exact r5.2 |some z=>obtain⟨sq,st,gn⟩:=z;rw[hs]at r5;obtain⟨_,_,_,_,_,g⟩:=r5;exact⟨_,g⟩
  exact⟨⟨mv,lv,gv,sv,.bo,cv,rv,e1,RD.v v _ (jd _ _ _ _ _) r1,RD.v v _ (hZ _) r2,RD.v v _ (hZ _) r3,r4.v v,⟨rfl,cvI⟩,r6.v v⟩,ys,b _ _ eq (by rw[cf];exact h.sim.ne.symm),aJ.v v _ h.ok.row.no rq⟩
theorem bQ.a8n(h:bQ K C T qn H M n A p S)(b1:aZ [A.d] H H1)(Z1:dH K H1 A.d A.e A.t M S1)(R2:cF K C H2 A.a A.q M S1)(b2:aZ [A.a] H1 H2)(ok:cm M (64+10*(n+1)) S1)(sm:SM S1)(on:iM M.rs (cP S1)):bQ K C T qn H2 M (n+1) A p S1/\aZ (T::p::A.all) H H2:=by
 have TF:aZ [A.d,A.e] H H1:=b1.mono fun x hx=>by rw[cf.mp hx];simp
 have mC:aZ [A.a,A.q] H1 H2:=b2.mono fun x hx=>by rw[cf.mp hx];simp
 have bb:aZ (T::p::A.all) H H2:=(TF.mono Af).trans (mC.mono Ag);obtain⟨n1,n2,n3,n4,n5,n6⟩:=h.qw;have pT:bS H1 H2:=(h.IH b1).v mC;have dA:A.d∈A.all:=by simp[Ad.all]
 have aA:A.a∈A.all:=by simp[Ad.all]
 have s1:∀{x y:Addr},x≠y->x∉[y]:=fun g=>by rw[cf];exact g
 have Dz:=TabAt.but h.tab b1 (s1 fun z=>h.nT (z▸dA)) fun x hx φ=>h.vB x (.tail _ (by rw[cf.mp hx];exact dA)) φ;have Dy:=TabAt.but Dz b2 (s1 fun z=>h.nT (z▸aA)) fun x hx φ e=>by rw[cf.mp hx]at e;obtain⟨dx,mv,bv,cE,tv,er,_⟩:=(h.IH b1).ob;rw[er]at e;cases e
 have st:=h.KS A.q bb (fun o e=>mC _ _ (TF _ _ e n3) n6) (.inl rfl) R2 (Z1.go ok.row.no pT (fun o e=>mC _ _ e n4) (fun o e=>mC _ _ e n5)) ok sm Dy on ((h.bL.but b1 (s1 fun z=>h.np (z▸dA))).but b2 (s1 fun z=>h.np (z▸aA)));exact⟨st,bb⟩
end
theorem JL{T p q' x:Addr}{A:Ad}{H:Hp}{o:HO}(hx:x∉T::p::A.all)(nq:q'=A.q\/H q'=none)(e:H x=some o):x∉T::p::({A with q:=q'}:Ad).all:=fun m=>by
 simp only[Ad.all,bN,cI,dB,not_or]at m hx;obtain⟨h1,h2,h3,h4,h5,h6,h7⟩:=hx;rcases m with z|z|z|z|z|z|z
 ·exact h1 z
 ·exact h2 z
 ·exact h3 z
 · rcases nq with g|g
   ·exact h4 (z.trans g)
   ·rw[z,g]at e;cases e
 ·exact h5 z
 ·exact h6 z
 ·exact h7 z
section
variable {C T:Addr}{qn:Str}{H H' H5 H6 H7 H8:Hp}{M:bM}{n:Nat}{A:Ad}{p l:Addr}{S S':bj}{q':Addr}{us:List V}{es:List ai}
theorem bQ.ents(h:bQ K C T qn H5 M n A p S)(aO:M.Ok)(R6:cF K C H6 A.a q' M S')(lU:Mv A.a A.q H5 q' H6)(nl:H5 l=none)(dl:H6 l=some (.lst us))(lq:l≠q')(rd:aJ K H6 us es)(run:Run M S es S')(Z7:dH K H7 A.d A.e A.t M S')(b7:aZ [A.d,A.e] H6 H7)(s8:aE H7 H8)(hn:n<=100): bQ K C T qn H8 M (n+1) {A with q:=q'} p S'/\aZ (T::p::A.all) H5 H8/\H7 l=some (.lst us)/\aJ K H7 us es/\l∉T::p::({A with q:=q'}:Ad).all/\m6 K H8 A.t (40+(n+1)) (fun y=>(y∈({A with q:=q'}:Ad).all\/y=p)\/y=l):=by
  have GB:=run.ok h.ok aO;obtain⟨L7,b57⟩:=h.fin R6 lU.but lU.nq Z7 b7 (GB.mono (by lia) (by lia)) (run.sm h.ok aO h.sm) (by rw[run.goal h.ok aO];exact h.on);have lA:l∉T::p::A.all:=fun m=>by
   rcases bN.mp m with z|m
   · obtain⟨ps,e,_⟩:=h.tab
     rw[z,e]at nl;cases nl
   ·exact h.here l ((bN.mp m).elim .inr .inl) nl
  have lA':l∉T::p::({A with q:=q'}:Ad).all:=fun m=>by
   simp only[Ad.all,bN,cI,dB,not_or]at m lA;obtain⟨h1,h2,h3,h4,h5,h6,h7⟩:=lA;rcases m with z|z|z|z|z|z|z
   ·exact h1 z
   ·exact h2 z
   ·exact h3 z
   ·exact lq z
   ·exact h5 z
   ·exact h6 z
   ·exact h7 z
  have ze:aZ (T::p::A.all) H5 H8:=fun x o e hx=>s8 _ _ (b57 _ _ e hx);refine⟨L7.same s8,ze,b7 _ _ dl fun m=>?_,aJ.v (dH.v (h.mid lU.but) b7) _ (run.no h.ok aO) rd,lA',h.told.go (by lia) (h.v ze) (fun o e=>s8 _ _ (b7 _ _ (lU.but _ _ e h.qw.2.2.2.2.2) h.qw.2.2.1)) fun y jM hx e=>⟨ze _ _ e fun m=>?_,fun z=>?_⟩⟩
  · refine lA (iz _ (iz _ ?_))
    simp only[Ad.all,bN,cI,dB]at m⊢;rcases m with z|z<;>simp[z]
  · rcases bN.mp m with z|m
    · obtain⟨ps,e',_⟩:=h.tab
      rw[z,e']at e;cases e
    ·exact hx ((bN.mp m).elim .inr .inl)
  · rcases z with(z|z)|z
    · refine JL (T:=T) (p:=p) (A:=A) (fun m=>?_) lU.nq e (iz _ (iz _ z))
      rcases bN.mp m with z|m
      · obtain⟨ps,e',_⟩:=h.tab
        rw[z,e']at e;cases e
      ·exact hx ((bN.mp m).elim .inr .inl)
    ·exact hx (.inr z)
    ·rw[z,nl]at e;cases e
theorem bQ.free(h:bQ K C T qn H M n A p S)(To:m6 K H A.t (40+n) (fun y=>(y∈A.all\/y=p)\/y=l))(hl:l∉T::p::A.all)(el:H l=some (.lst us))(b:aZ [l] H H'):bQ K C T qn H' M n A p S:=by
 have v:bS H H':=b.v fun x hx o eo=>by rw[cf.mp hx,el]at eo;cases eo;trivial
 have k:∀{x},x∈T::p::A.all->x∉[l]:=fun hx m=>hl (by rw[<-cf.mp m];exact hx);have kA:∀{x},x∈A.all->∀o,H x=some o->H' x=some o:=fun hx o e=>b _ _ e (k (iz _ (iz _ hx)));refine⟨h.run.go h.ok.row.no v (kA (by simp[Ad.all])) (kA (by simp[Ad.all])),h.sim.go h.ok.row.no v (kA (by simp[Ad.all])) (kA (by simp[Ad.all])),h.ok,h.sm,To.go (bK _) v (kA (by simp[Ad.all])) fun y jM hx e=>⟨b _ _ e fun m=>hx (.inr (cf.mp m)),fun z=>hx (.inl z)⟩,h.nd,TabAt.but h.tab b (k (.head _)) fun x hx φ e=>?_,h.on,h.bL.but b (k (.tail _ (.head _))),h.np⟩;rw[cf.mp hx,el]at e;cases e
theorem bQ.tell{tt tp:Addr}{ts:List V}{HC:Hp}(h:bQ K C T qn H M n A p S)(hl:l∉T::p::A.all)(el:H l=some (.lst us))(res:aJ K H us es)(wD:zy es)(sC:aE H HC)(htt:aP K HC tt us)(Hz:aP K HC tp [.ref l,.ref tt])(et:HC A.t=some (.lst ts))(hn:n<=99):bQ K C T qn (L2.upd HC A.t (.lst (ts++[.ref tp]))) M (n+1) A p S/\aZ (T::p::A.all) H (L2.upd HC A.t (.lst (ts++[.ref tp]))):=by
 have LC:=(h.same sC).mono (Nat.le_succ n) (by lia);obtain⟨t0,e0,l0,ht⟩:=(h.same sC).told;rw[et]at e0;cases e0;have vD:bS HC (L2.upd HC A.t (.lst (ts++[.ref tp]))):=.upd et trivial;have bD:aZ [A.t] HC (L2.upd HC A.t (.lst (ts++[.ref tp]))):=qW (by simp);have eD:(L2.upd HC A.t (.lst (ts++[.ref tp]))) A.t=some (.lst (ts++[.ref tp])):=ba;have tA:A.t∈A.all:=by simp[Ad.all]
 generalize L2.upd HC A.t (.lst (ts++[.ref tp]))=HD at vD bD eD⊢;have s1:∀{x:Addr},x≠A.t->x∉[A.t]:=fun g=>by rw[cf];exact g
 have nd:=h.nd;simp only[Ad.all,rM,bN,cI,dB,not_or]at nd;obtain⟨⟨t1,t2,t3,t4⟩,⟨t5,t6,t7⟩,⟨t8,t9⟩,uR,_⟩:=nd;have no:=LC.ok.row.no;refine⟨⟨LC.run.go no vD (fun o e=>bD _ _ e (s1 t4)) (fun o e=>bD _ _ e (s1 t7)),LC.sim.go no vD (fun o e=>bD _ _ e (s1 t9)) (fun o e=>bD _ _ e (s1 uR)),LC.ok,LC.sm,⟨ts++[.ref tp],eD,by rw[fD];show ts.length+1<=_;lia,fun y hy=>?_⟩,LC.nd,TabAt.but LC.tab bD (s1 fun z=>LC.nT (by rw[z];exact tA)) fun x hx φ=>LC.vB x (iz _ (by rw[cf.mp hx];exact tA)) φ,LC.on,LC.bL.but bD (s1 fun z=>LC.np (by rw[z];exact tA)),LC.np⟩,fun x o e hx=>bD _ _ (sC _ _ e) (s1 fun z=>hx (by rw[z];exact iz _ (iz _ tA)))⟩;rcases uI.mp hy with hy|hy
 · obtain⟨p0,l0',ta,u0,e0,h1,h2,h3,h4,h5,h6,h7⟩:=ht y hy
   exact⟨p0,l0',ta,u0,e0,h1,aP.v vD h2,bD _ _ h3 (s1 fun z=>h7 (.inl (by rw[z];exact tA))),aP.v vD h4,aJ.v vD _ h6.2.2 h5,h6,h7⟩
 · rw[cf]at hy
   exact⟨tp,l,tt,us,es,hy,aP.v vD Hz,bD _ _ (sC _ _ el) (s1 fun z=>hl (by rw[z];exact iz _ (iz _ tA))),aP.v vD htt,aJ.v vD _ wD.2.2 (aJ.mono sC _ res),wD,fun z=>hl (z.elim (fun z=>iz _ (iz _ z)) fun z=>by rw[z];exact .tail _ (.head _))⟩
end
theorem bQ.nqb{C T:Addr}{qn:Str}{H G:Hp}{M:bM}{n:Nat}{A:Ad}{p q':Addr}{S:bj}(h:bQ K C T qn G M n A p S)(b:bT p H G)(z:q'=A.q\/G q'=none):q'=A.q\/H q'=none:=z.imp id fun z=>by cases e:H q' with |none=>rfl |some o=>
   by_cases hq:q'=p
   ·exact absurd z (h.here q' (.inr hq))
   ·rw[b.same _ _ hq e]at z;cases z
theorem a4Y{M:bM}{ms:List Int}{sp:Int}(GA:eR M.rs.length 100 ms)(gI:1<=sp)(hO:sp<=20):nX M.rs.length (iH ms sp) (some (ms,sp)):=⟨.inl ⟨ms,sp,rfl,rfl⟩,fun n' s' e=>by cases e;exact⟨GA,gI,hO⟩,fun e=>by cases e⟩
theorem a4X{n:Nat}{d:ai}(h:pG d):nX n d none:=⟨h.it,(fun _ _ e=>nomatch e),fun _=>h⟩
abbrev kY:Str:=(("_law_deed":Str)++Str.ofString ".<locals>.")++Str.ofString "<lambda>"
inductive Vq(K:aa)(C:Addr)(T:Addr)(vs:List V)(H:Hp)(Q:VK):Prop |mk (p:_)(A:_)(M:_)(n:_)(S:_)(gk:_)(h0:vs=[.ref p,.ref (Ad.a A),.ref A.d,.int gk])(h1:bQ K C T kY H M n A p S)(h2:M.Ok)(h3:1<=gk)(h4:gk<=100)(h5:n<=90)(h6:∀q' S' H',bQ K C T kY H' M (n+3) {A with q:=q'} p S'->aZ (T::p::A.all) H H'->(q'=A.q\/H q'=none)->Q (.bl true) H'):Vq K C T vs H Q
def Mi(K:aa)(C T:Addr):Sp:=fun vs H Q _=>Vq K C T vs H Q
theorem NC:bp ["_law_bag_here","_law_runner","_law_sim_here","_law_far","_law_kind","_law_item","_law_n","_law_found"] ["_law_bag_here","_law_runner","_law_sim_here","_law_far"] (aV Fz):=bI (by decide+kernel)
theorem a2S{C T:Addr}{R:lI}(F:zx K mg "_law_deed" Fz T)(B:bP mg)(TC:fY K C)(u9:base.BuiltinsAt mg T)(dZ:aD P w K mg base "_law_take" 1 pW)(a7G:aD P w K mg base "_law_line" 2 (DR K))(a7E:aD P w K mg base "_law_other" 2 (Me K))(lC:aD P w K mg base "_law_alike" 5 (xG (Nx (Nx (Nx (Nx A0)))) K))(a7B:zw P w K mg base "_law_refused" 7 (Am P w K mg base R 5))(a7q:CJ P w K mg base C "feed" 5 (An K C R))(a7y:aD P w K mg base "_law_sim_feed" 1 (M0 K))(a7o:cL P w K mg base C "hold" 2 (M7 K C))(a7x:aD P w K mg base "_law_sim_hold" 2 (LZ K))(a7p:cL P w K mg base C "go" 1 (M8 K C))(a7s:cL P w K mg base C "entries" 12 (Ma K C))(a7z:aD P w K mg base "_law_sim_entries" 6 (M1 K)):aD P w K mg base "_law_deed" 13 (Mi K C T):=by
 refine F.has NC (fun vs H Q E h=>?_) (fun _ _ _ _ _ _=>Cv fun _ _ _ _=>rfl) (fun f aL A0 outer s H vs Q E Im hr h=>?_)
 · obtain⟨p,A,M,n,S,gk,rfl,_⟩:=h
   rfl
 · obtain⟨p,A,M,n,S,gk,rfl,L,aO,IV,IU,n90,k⟩:=h
   have nd:=NC.nd;have Ba:=aO.len;refine⟨_,(aB (pS 4 nd (pf dZ hr (O (pv 0) (O az aw)))) (aB (bJ (bZ jQ (pv 4) az (bw _)) (aB (pS 5 nd (pf a7G hr (O (pv 0) (O (cD hr (pv 2) aW) (O (cD hr (pv 2) aW) (O (pv 3) aw)))))) (aB (gJ (bJ (PW.pt (mT (bZ (cQ K rfl hr.units) (pv 4) az (bw _)) (qi (bZ (cQ K rfl hr.units) (pf dZ hr (O (pv 0) (O az aw))) az (bw _))))) (aG (pS 5 nd (pf a7E hr (O (pv 0) aw)))) bO)) (aG (aU (pf lC hr (O (a0P (a4C "_law_runner" "_law_item" 1 5 (by decide+kernel) rfl rfl rfl rfl) a7B (hr.mono (by decide)) rfl (fun _=>rfl) Im u9 rfl rfl) (O (pf a7y hr (O (pv 2) (O (pv 5) aw))) aw))))))) bO) (aB (bJ (bZ (cQ K rfl hr.units) (pv 4) az (bw _)) (aG (aU (pf lC hr (O (gK a7o TC.cl (hr.mono (by decide)) (pv 1)) (O (pf a7x hr (O (pv 2) aw)) aw))))) bO) (aB (bJ (PW.pt (mT (bZ (cQ K rfl hr.units) (pv 4) az (bw _)) (qi (bZ qk (pf dZ hr (O (pv 0) (O az aw))) az (bw _))))) (aB (gB (fA hr.units) (pv 2) aW jo rfl) (aG (aU (pf lC hr (O (gK a7p TC.cl (hr.mono (by decide)) (pv 1)) (O (dU K B (O (cD hr (pv 2) aW) aw)) aw)))))) bO) (aB (pS 6 nd (px K (dv (O az (O az (O az (O (aI cS az (pf dZ hr (O (pv 0) (O az aw)))) (O (pf dZ hr (O (pv 0) (O az aw))) (O az aw))))))) (pf dZ hr (O (pv 0) (O az aw))))) (aB (pS 7 nd (AK a7s TC.cl (hr.mono (by decide)) (pv 1) (O (pv 6) aw))) (aB (bJ (fk (cM (pf lC hr (O (pv 7) (O (pf a7z hr (O (pv 2) (O (pv 6) aw))) aw))))) (aG (aU iD)) bO) (aB (gJ (bJ (bZ (cQ K rfl hr.units) (aI oK (pv 6) az) az (bw _)) (aG (gP (a1d K rfl (pv 7)))) (aG (gP (jq K rfl (cD hr (pv 2) aW) (O (dS (O (pv 7) (O (ib (x:="tuple") (kL K rfl) rfl (B.at "tuple") fL (O (pv 7) aw)) aw))) aw)))))) (aG (aU iD)))))))))),?_⟩;refine⟨_,rfl,p,9,rfl,L.bL,by decide,by decide,fun kd H1 k0 k1 b1=>?_⟩;have L1:=L.kD b1;have BN:aZ (T::p::A.all) H H1:=fun x o e hx=>b1.same x o (fun z=>hx (by rw[z];simp)) e;have yz:∀q' S' H',bQ K C T kY H' M (n+3) {A with q:=q'} p S'->aZ (T::p::A.all) H1 H'->(q'=A.q\/H1 q'=none)->Q (.bl true) H':=fun q' S' H' h1 h2 h3=>k q' S' H' h1 (BN.trans h2) (h3.imp id fun z=>by cases e:H q' with |none=>rfl |some o=>
      by_cases hq:q'=p
      ·exact absurd z (by rw[hq];exact L1.here _ (.inr rfl))
      ·rw[b1.same _ _ hq e]at z;cases z);clear k;refine⟨_,rfl,_,_,rfl,rfl,_,rfl,?_⟩;refine dN (fun h3=>?_) (fun h3=>?_)
   ·--an item is RN
     obtain⟨mv,lv,gv,sv,bv,cv,rv,hz⟩:=L1.sim.ob;have ez:=hz.1;refine⟨_,rfl,_,rfl,A.d,_,rfl,dg ez yR,_,rfl,A.d,_,rfl,dg ez IJ,_,rfl,p,mv,M.rs,M.r,M.f,M.j,M.t,gv,cP S,gk,rfl,L1.bL,hz.2.1,aO,hz.2.2.2.1,L1.on,IV,IU,fun iv ms sp H2 rl GA gI hO onl b2=>?_⟩;have fw:=L1.kD b2;refine⟨fun Z H3=>∃iv d o v6 v7,Z=[some (.ref p),some (.ref A.a),some (.ref A.d),some (.int gk),some (.int kd),some iv,v6,v7]/\bQ K C T kY H3 M n A p S/\bT p H1 H3/\RD K H3 iv d/\nX M.rs.length d o/\iM M.rs (gU (cP S) o),?_,?_⟩
     · have line:∀H3,bQ K C T kY H3 M n A p S->bT p H2 H3->∃Qg d o v6 v7,[some (V.ref p),some (.ref A.a),some (.ref A.d),some (.int gk),some (.int kd),some iv,none,none]=[some (.ref p),some (.ref A.a),some (.ref A.d),some (.int gk),some (.int kd),some Qg,v6,v7]/\bQ K C T kY H3 M n A p S/\bT p H1 H3/\RD K H3 Qg d/\nX M.rs.length d o/\iM M.rs (gU (cP S) o):=fun H3 h b3=>⟨iv,_,some (ms,sp),_,_,rfl,h,b2.trans b3,RD.t (bT.t fw.bL b3) _ (Bg _ _) rl,a4Y GA gI hO,onl⟩
       refine⟨_,rfl,.inl ⟨_,_,rfl,rfl,_,rfl,?_⟩⟩;refine dN (fun h2=>?_) (fun h2=>line _ fw (bT.refl fw.bL));refine⟨_,rfl,p,3,rfl,fw.bL,by decide,by decide,fun z H3 z0 z1 b3=>.inl ⟨_,_,rfl,rfl,_,rfl,?_⟩⟩;refine dN (fun h4=>?_) (fun h4=>line _ (fw.kD b3) b3);refine⟨_,rfl,p,rfl,b3.bL,fun v d H4 cK ie b4=>?_⟩;exact⟨v,d,none,_,_,rfl,(fw.kD b3).kD b4,(b2.trans b3).trans b4,cK,a4X ie,L1.on⟩
     · rintro Z H3 ⟨iv,d,o,v6,v7,rfl,L3,JE,cK,it,qm⟩
       refine⟨[.ref A.a,iv],L3.tab,rfl,fun i j v e1 e2=>?_,fun f' c' cl' H4 s' La iI Ca tb bt=>?_⟩
       ·match i,e1,e2 with |0,e1,e2=>cases e1;cases e2;rfl |1,e1,e2=>cases e1;cases e2;rfl
       have L4:=L3.lam bt tb;have FT:=RD.v (L3.v (bt.mono fun x hx=>by rw[cf.mp hx];exact .head _)) _ it.it.no cK;have TB:aZ (T::p::A.all) H1 H4:=fun x o' e hx=>bt _ _ (JE.same x o' (fun z=>hx (by rw[z];simp)) e) fun m=>hx (by rw[cf.mp m];exact .head _);refine ZX La iI Ca rfl (Q8 (by decide+kernel)).1 (fun _ _ _=>rfl) (fun A outer s H E mh=>a0Q a7q (a1f fun _ _ _ z=>z) TC.cl (mh.mono (by decide)) (pv 0) (O (pv 1) aw)) L4 FT it aO qm (fun lF H5 s5=>?_) fun lF H5 R5 b5=>?_
       · have L5:=L4.same s5
         refine⟨_,rfl,_,rfl,A.d,A.e,A.t,M,_,S,iv,d,o,rfl,L5.sim,L5.ok,aO,RD.mono s5 _ FT,it,fun ho=>?_,fun _ _ H6 s6=>?_,fun _ hl=>?_⟩
         ·rw[(OX (wO (IG L5.ok) fun ns sp eo=>(it.ln ns sp eo).1.len)).mpr qm]at ho;cases ho
         · refine⟨_,_,.str "full",rfl,cV _,cV _,sW (n:=0) (by decide) (mV (by decide+kernel)),fun H7 s7=>?_⟩
           exact yz A.q S H7 (((L5.same s6).same s7).mono (by lia) (by lia)) (fun x o' e hx=>s7 _ _ (s6 _ _ (s5 _ _ (TB _ _ e hx)))) (.inl rfl)
         ·exact absurd hl (by lia)
       · have Z5:=L4.mid b5
         have Zn:=RD.v (L4.v (b5.mono Ag)) _ it.it.no FT;refine⟨_,rfl,_,rfl,A.d,A.e,A.t,M,_,S,iv,d,o,rfl,Z5,L4.ok,aO,Zn,it,fun ho=>?_,fun _ hl=>?_,fun _ _ H6 Z6 b6=>?_⟩
         ·rw[(OX (wO (IG L4.ok) fun ns sp eo=>(it.ln ns sp eo).1.len)).mpr qm]at ho;cases ho
         ·exact absurd hl (by lia)
         · refine⟨_,_,.int _,rfl,dC _,dC _,kQ _,fun H7 s7=>?_⟩
           obtain⟨L6,b46⟩:=L4.fin R5 b5 (.inl rfl) Z6 b6 ((L4.ok.RN it lF).mono (by lia) (by lia)) L4.sm (by rw[Rp];exact qm);exact yz A.q _ H7 ((L6.same s7).mono (by lia) (by lia)) (fun x o' e hx=>s7 _ _ (b46 _ _ (TB _ _ e hx) hx)) (.inl rfl)
   · refine⟨_,rfl,.inl ⟨_,_,rfl,rfl,_,rfl,?_⟩⟩
     refine dN (fun h4=>?_) (fun h4=>?_)
     ·--held
       obtain⟨dx,Pu,Tg,cE,tv,hrr⟩:=L1.run.ob;refine⟨_,rfl,A.a,dx,_,rfl,hrr.1,rfl,A.a,A.q,M,_,S,rfl,L1.run,L1.ok,aO,fun H2 R2 b2=>?_⟩;have mC:aZ [A.a,A.q] H1 H2:=b2.mono fun x hx=>by rw[cf.mp hx];simp
       refine⟨_,rfl,A.d,A.e,A.t,M,_,S,rfl,L1.mid mC,L1.ok,aO,fun H3 Z3 b3=>?_⟩;refine⟨_,_,.int _,rfl,dC _,dC _,kQ _,fun H4 s4=>?_⟩;obtain⟨L3,JE⟩:=L1.fin R2 mC (.inl rfl) Z3 (b3.mono fun x hx=>by rw[cf.mp hx];simp) (L1.ok.hold aO (by lia)) (a5R L1.sm) (by rw[a5S];exact L1.on);exact yz A.q _ H4 ((L3.same s4).mono (by lia) (by lia)) (fun x o e hx=>s4 _ _ (JE _ _ e hx)) (.inl rfl)
     · dsimp only[A8]
       refine Qp (fun H'=>bQ K C T kY H' M n A p S/\bT p H1 H') (fun G1 g=>?_) (fun yF=>?_)
       · obtain⟨LG,bG⟩:=g
         have kG:∀q' S' H',bQ K C T kY H' M (n+3) {A with q:=q'} p S'->aZ (T::p::A.all) G1 H'->(q'=A.q\/G1 q'=none)->Q (.bl true) H':=fun q' S' H' h1 h2 h3=>yz q' S' H' h1 (fun x o e hx=>h2 _ _ (bG.same x o (fun z=>hx (by rw[z];simp)) e) hx) (LG.nqb bG h3);refine⟨_,rfl,p,20,rfl,LG.bL,by decide,by decide,fun z1 H2 z10 z11 b2=>⟨_,_,rfl,rfl,?_⟩⟩;refine⟨_,rfl,p,101,rfl,b2.bL,by decide,by decide,fun z2 H3 z20 z21 b3=>?_⟩;refine⟨bU rfl,fun ln H4 n4=>?_⟩;have L4:=((LG.kD b2).kD b3).same n4.same;refine⟨_,rfl,p,6,rfl,L4.bL,by decide,by decide,fun ix H5 vT Ho b5=>?_⟩;have L5:=L4.kD b5;have ur:∀x o,x≠p->G1 x=some o->H5 x=some o:=fun x o hx e=>b5.same x o hx (n4.same _ _ (b3.same x o hx (b2.same x o hx e)));obtain⟨n',yJ,n0,n1⟩:∃n':Int,fJ [V.int 1,.int 2,.int 5,.int (1+z1),.int z2,.int 0] ix=some (.int n')/\0<=n'/\n'<=100:=by
          rcases(show ix=0\/ix=1\/ix=2\/ix=3\/ix=4\/ix=5 by lia)with rfl|rfl|rfl|rfl|rfl|rfl
          ·exact⟨1,rfl,by decide,by decide⟩
          ·exact⟨2,rfl,by decide,by decide⟩
          ·exact⟨5,rfl,by decide,by decide⟩
          ·exact⟨1+z1,rfl,by lia,by lia⟩
          ·exact⟨z2,rfl,by lia,by lia⟩
          ·exact⟨0,rfl,by decide,by decide⟩
         have ln5:H5 ln=some (.lst [V.int 1,.int 2,.int 5,.int (1+z1),.int z2,.int 0]):=b5.same _ _ (fun z=>((LG.kD b2).kD b3).here _ (.inr rfl) (z▸n4.no)) n4.at';refine .inl ⟨ln,_,ix,_,rfl,rfl,aF.of ln5,yJ,?_⟩;obtain⟨dx5,mv5,bv5,aca,tv5,hr5⟩:=L5.run.ob;refine⟨_,rfl,A.a,dx5,_,rfl,hr5.1,rfl,_,rfl,A.a,A.q,M,_,_,n',rfl,L5.run,L5.ok,aO,n0,by lia,fun l us es S' q' H6 nl dl rd run he p4 R6 lU lq=>?_⟩;refine⟨_,rfl,_,rfl,_,rfl,A.d,A.e,A.t,M,_,_,n',rfl,L5.mid lU.but,L5.ok,aO,n0,by lia,fun l2 us2 es2 S2 H7 Pg Jl qe xR he2 a6x Z7 b7=>?_⟩;obtain⟨e1,e2⟩:=run.aaa he p4 xR he2 a6x;subst e1 e2;obtain⟨_,_,nM,AG,_,_⟩:=L5.ents aO R6 lU nl dl lq rd run Z7 b7 (aE.refl _) (by lia);refine⟨_,_,.list es,rfl,lP (aF.of nM) AG,lP (aF.of Jl) qe,a9D L5.ok aO run (by lia),fun H8 s8=>⟨_,rfl,bF ?_⟩⟩;obtain⟨L8,ze,_,_,lA,To⟩:=L5.ents aO R6 lU nl dl lq rd run Z7 b7 s8 (by lia);have mx:=s8 _ _ nM;have rd8:=aJ.mono s8 _ AG;have Tz:aZ (T::p::A.all) G1 H8:=fun x o e hx=>ze _ _ (ur x o (fun z=>hx (by rw[z];simp)) e) hx;have P1:q'=A.q\/G1 q'=none:=lU.nq.imp id fun z=>by cases e:G1 q' with |none=>rfl |some o=>
            by_cases hq:q'=p
            ·exact absurd z (L5.here q' (.inr hq))
            ·rw[ur q' o hq e]at z;cases z
         refine⟨fun _ HA=>bQ K C T kY HA M (n+2) {A with q:=q'} p S'/\aZ (T::p::A.all) G1 HA,?_,?_⟩
         · refine⟨_,rfl,_,_,rfl,rfl,?_,.inl ⟨_,_,rfl,rfl,_,rfl,?_⟩⟩
           ·exact(by decide:(0:Int)<2)
           refine dN (fun h1=>?_) (fun h1=>?_)
           · refine⟨_,rfl,.inl ⟨rfl,_,aF.of mx⟩,l,us,rfl,rfl,mx,?_⟩
             have bl:aZ [l] H8 (L2.upd H8 l (.lst [])):=qW (by simp);exact⟨(L8.free To lA mx bl).mono (by lia) (by lia),fun x o e hx=>bl _ _ (Tz _ _ e hx) fun m=>by have e5:=ur x o (fun z=>hx (by rw[z];simp)) e;rw[cf.mp m,nl]at e5;cases e5⟩
           · obtain⟨mvA,lvA,gvA,Ye,bvA,cvA,Zm,Hv⟩:=L8.sim.ob
             obtain⟨ts,BP⟩:=L8.told;refine⟨_,rfl,A.d,_,rfl,dg Hv.1 BW,.inl ⟨rfl,_,aF.of BP.1⟩,?_⟩;refine⟨_,rfl,_,rfl,l,us,rfl,.inl ⟨aF.of mx,fun tt HB nB=>?_⟩⟩;refine⟨bU rfl,fun tp HC nC=>?_⟩;have pY:=nB.same.trans nC.same;have lE:sizeLine=16777216:=by decide
             have B7:=BP.2.1;refine⟨A.t,ts,_,rfl,rfl,pY _ _ BP.1,by lia,?_⟩;obtain⟨LD,bD⟩:=L8.tell lA mx rd8 (RZ (fun d hd=>(run.ent L5.ok aO d hd).1) (run.no L5.ok aO)) pY ((aP.of nB.at').go nC.same) (aP.of nC.at') (pY _ _ BP.1) (by lia);exact⟨LD,fun x o e hx=>bD _ _ (Tz _ _ e hx) (JL hx P1 e)⟩
         · rintro Z HA ⟨LA,bA⟩
           exact kG q' S' HA (LA.mono (by lia) (by lia)) bA P1
       · refine⟨_,rfl,.inl ⟨_,_,rfl,rfl,_,rfl,?_⟩⟩
         refine dN (fun h5=>?_) (fun h5=>yF _ ⟨L1,bT.refl L1.bL⟩);refine⟨_,rfl,p,3,rfl,L1.bL,by decide,by decide,fun z H2 z0 z1 b2=>⟨_,_,rfl,rfl,_,rfl,?_⟩⟩;refine dN (fun h6=>?_) (fun h6=>yF _ ⟨L1.kD b2,b2⟩);have fw:=L1.kD b2;have Ct:aZ (T::p::A.all) H1 H2:=fun x o e hx=>b2.same x o (fun z=>hx (by rw[z];simp)) e;obtain⟨mv,lv,gv,sv,bv,cv,rv,hz⟩:=fw.sim.ob;refine⟨_,rfl,A.d,_,rfl,dp hz.1 OH jO,?_⟩;have b9:aZ [A.d] H2 (L2.upd H2 A.d (.dK (bB mv lv gv sv (.int S.ay) (.str S.side) (.str S.mark) (.ref A.e) (.int S.dn) .bo cv rv (.ref A.t)))):=qW (by simp);have e9:(L2.upd H2 A.d (.dK (bB mv lv gv sv (.int S.ay) (.str S.side) (.str S.mark) (.ref A.e) (.int S.dn) .bo cv rv (.ref A.t)))) A.d=some (.dK (bB mv lv gv sv (.int S.ay) (.str S.side) (.str S.mark) (.ref A.e) (.int S.dn) .bo cv rv (.ref A.t))):=ba;generalize L2.upd H2 A.d (.dK (bB mv lv gv sv (.int S.ay) (.str S.side) (.str S.mark) (.ref A.e) (.int S.dn) .bo cv rv (.ref A.t)))=H9 at b9 e9⊢;have Z8:dH K H9 A.d A.e A.t M {S with aR:=none}:=fw.brk b9 e9 hz;have R9:=fw.IH b9;obtain⟨dx9,mv9,bv9,ac9,tv9,hr9⟩:=R9.ob;refine⟨_,rfl,A.a,dx9,_,rfl,hr9.1,rfl,A.a,A.q,M,_,S,rfl,R9,fw.ok,fun HA RA bA=>?_⟩;have okg:cm M (64+10*(n+1)) {S with aR:=none}:=cm.mono (D:=64+10*n) ⟨fw.ok.row,fw.ok.rw,fw.ok.len,fw.ok.cZ,fw.ok.du,fw.ok.dn,fw.ok.pl,fw.ok.pd,fw.ok.pm,trivial,fw.ok.D1,fw.ok.D2⟩ (by lia) (by lia);obtain⟨LA,b8A⟩:=fw.a8n b9 Z8 RA bA okg fw.sm fw.on;obtain⟨WX,Qy⟩:=LA.sim.qu;obtain⟨mvA,lvA,gvA,Ye,bvA,cvA,Zm,Hv⟩:=LA.sim.ob;refine⟨_,rfl,A.d,_,rfl,dg Hv.1 m3,A.e,WX,rfl,.inl (aF.of Qy.1),?_⟩;refine⟨_,_,.int (S.ds.length:Nat),rfl,dC _,by rw[Qy.2.length];exact dC _,kQ _,fun HB sB=>?_⟩;exact yz A.q _ HB ((LA.same sB).mono (by lia) (by lia)) (fun x o e hx=>sB _ _ (b8A _ _ (Ct _ _ e hx) hx)) (.inl rfl)
theorem jc{H:Hp}{x y:Addr}(hx:H x≠none)(hy:H y=none):x≠y:=fun e=>hx (by rw[e];exact hy)
theorem E7{H H':Hp}{x:Addr}(s:aE H H')(hx:H x≠none):H' x≠none:=by cases h:H x with |none=>exact(hx h).elim |some o=>rw[s _ _ h];simp
theorem aE.but{S:List Addr}{H0 H H':Hp}(s:aE H0 H)(b:aZ S H H')(hn:∀x∈S,H0 x=none):aE H0 H':=fun b' o e=>b _ _ (s _ _ e) (fun hm=>by rw[hn _ hm]at e;cases e)
theorem bQ.first{C T:Addr}{qn:Str}{M:bM}{pl:List Int}{H5 H6 H9:Hp}{x q0 d0 e0 t0 p:Addr}(hT:H5 T=some (.fi #[]))(bg:gz H5 p)(nx:H5 x=none)(ye:H5 q0=none)(R6:cF K C H6 x q0 M (mK pl))(s6:aE H5 H6)(Z0:dH K H9 d0 e0 t0 M (mK pl))(T0:H9 t0=some (.lst []))(mW:H6 d0=none)(vJ:H6 e0=none)(vy:H6 t0=none)(g1:d0≠t0)(g2:e0≠t0)(s9:aE H6 H9)(on:iM M.rs pl)(hl:pl.length=M.rs.length):bQ K C T qn H9 M 0 ⟨x,q0,d0,e0,t0⟩ p (mK pl):=by
 have px:H6 x≠none:=by obtain⟨_,_,_,_,_,e,_⟩:=R6.ob;rw[e];simp
 have pq:H6 q0≠none:=by obtain⟨_,e,_⟩:=R6.qu;rw[e];simp
 have pb:H5 p≠none:=by obtain⟨c,m,e,_⟩:=bg;rw[e];simp
 have Gs:=E7 s6 pb;refine⟨R6.same rfl s9,Z0,ZF hl,Yw pl,⟨[],T0,fZ _,nofun⟩,?_,.first (s9 _ _ (s6 _ _ hT)),on,?_,?_⟩
 · simp only[Ad.all,rM,bN,cI,dB,not_or,List.nodup_nil,not_false_eq_true,and_true]
   exact⟨⟨R6.ne,jc px mW,jc px vJ,jc px vy⟩,⟨jc pq mW,jc pq vJ,jc pq vy⟩,⟨Z0.ne,g1⟩,g2⟩
 · obtain⟨c,m,e,k⟩:=bg
   exact⟨c,m,s9 _ _ (s6 _ _ e),k⟩
 · simp only[Ad.all,bN,cI,dB,not_or]
   exact⟨jc pb nx,jc pb ye,jc Gs mW,jc Gs vJ,jc Gs vy⟩
def mD(K:aa)(H:Hp)(a:Addr)(oB:List Int)(L:List Addr):Prop:=(∀H2,aF K H2 a (oB.map V.int))\/(aF K H a (oB.map V.int)/\(∃o,H a=some o)/\a∉L)
theorem mD.E5{H:Hp}{a:Addr}{oB:List Int}{L:List Addr}(h:mD K H a oB L):aF K H a (oB.map V.int):=h.elim (fun h=>h H) fun h=>h.1
theorem mD.but{H H':Hp}{a:Addr}{oB:List Int}{L L':List Addr}(h:mD K H a oB L)(b:aZ L H H')(hn:∀x,x∈L'->x∈L\/H x=none):mD K H' a oB L':=by
 rcases h with h|⟨h1,⟨o,e⟩,h3⟩
 ·exact .inl h
 · refine .inr ⟨?_,⟨o,b _ _ e h3⟩,fun m=>(hn a m).elim h3 fun z=>by rw[z]at e;cases e⟩
   rcases h1 with h1|h1
   ·exact .inl (h1.imp (fun z=>b _ _ z h3) fun⟨o',z⟩=>⟨o',b _ _ z h3⟩)
   ·exact .inr h1
theorem Ni:bp ["_law_script","_law_bag_here","_law_machine_here","_law_place_here","_law_runner","_law_sim_here","_law_far","_law_k","_law_quiet"] ["_law_script"] (aV vb):=bI (by decide+kernel)
theorem a2F{f C T:Addr}{fd:FuncData}(F:kh K "law" "law" vb f fd)(TC:fY K C)(B:bP mg)(QZ:aD P w K mg base "_law_bag" 1 (Ml K))(dZ:aD P w K mg base "_law_take" 1 pW)(a7F:aD P w K mg base "_law_machine" 2 (Mf K))(a7D:aD P w K mg base "_law_place" 2 (Mb K))(a7f:CK P w K mg base C "Runner" 1 (M6 K C))(a7A:aD P w K mg base "_law_sim" 1 (LV K))(a7I:aD P w K mg base "_law_deed" 13 (Mi K C T))(QY:aD P w K mg base "_law_seen" 6 (DJ K C)):j6 P w K mg base jk 14 f fd ["_law_script"] (DS K T):=by
 refine F.ok Ni (fun vs H Q E h=>?_) (fun aL A outer s H vs Q E hr h=>?_)
 · obtain⟨a,ns,rfl,_⟩:=h
   rfl
 · obtain⟨a,ns,rfl,hS,hlen,hT,k⟩:=h
   have nd:=Ni.nd;refine⟨_,(aB (pS 1 nd (pf QZ hr (O (pv 0) (O az aw)))) (aB (pS 2 nd (pf a7F hr (O (pv 1) aw))) (aB (pS 3 nd (pf a7D hr (O (pv 1) (O (pv 2) aw)))) (aB (pS 4 nd (a0R a7f (hr.mono (by decide)) rfl (O (pv 2) (O (pv 3) aw)))) (aB (pS 5 nd (pf a7A hr (O (pv 2) (O (pv 3) aw)))) (aB (pS 6 nd (px K (dv (O az (O az (O az aw)))) (pf dZ hr (O (pv 1) (O az aw))))) (aB (lS gY rfl (xV rfl (B.at "range") (O (dh (x:="max") (Td rfl) rfl (B.at "max") CW (O az (O (dh (x:="min") (Jv rfl) rfl (B.at "min") Wz (O (dU K B (O (pv 0) aw)) (O az aw))) aw))) aw)) (bu 7 nd) (aB (pS 1 nd (pf QZ hr (O (pv 0) (O (aI cS (pv 7) az) aw)))) (aB (pS 8 nd (fq (cQ K rfl hr.units) (pf dZ hr (O (pv 1) (O az aw))) az (bw _))) (aG (bJ (PW.pt (kP (fk (cM (pf a7I hr (O (pv 1) (O (pv 4) (O (pv 5) (O (pv 6) aw))))))) (lR (PW.pt (mT (fk (cM (pv 8))) (qi (fk (cM (pf QY hr (O (pv 4) (O (pv 5) aw))))))))))) (aG (aU iD)) bO))))) (aG (aU (pf QY hr (O (pv 4) (O (pv 5) aw)))))))))))),?_⟩;refine⟨_,rfl,a,ns,_,rfl,hS,hlen,by lia,by lia,fun p H3 np Cp s3=>?_⟩;refine⟨_,rfl,p,rfl,Cp,fun mv rs r f j ti H4 rm aO b4=>?_⟩;have nm:=jd rs r f j ti;refine⟨_,rfl,_,rfl,p,mv,rs,r,f,j,ti,rfl,b4.bL,rm,aO,fun Gp pl H5 AD on b5=>?_⟩;have ZJ:=RD.t (bT.t b4.bL b5) _ nm rm;obtain⟨M,O3,AS,eRs⟩:∃M:bM,RD K H5 mv M.D/\M.Ok/\M.rs=rs:=⟨⟨rs,r,f,j,ti⟩,ZJ,aO,rfl⟩;have OW:iM M.rs pl:=by rw[eRs];exact on
   have s5:aE H H5:=bT.NL (bT.NL s3 np b4) np b5;refine⟨_,rfl,_,rfl,fun x dx nx GO GL=>⟨x,dx,mv,Gp,M,pl,rfl,ba,?_,?_,fun q0 H6 R6 ye b6=>?_⟩⟩
   ·exact RD.mono (aE.new GO|>.trans (aE.new (by rw[aK GL.symm];exact nx))) _ O3
   ·exact RD.mono (aE.new GO|>.trans (aE.new (by rw[aK GL.symm];exact nx))) _ AD
   have Mn:aE H5 (L2.upd (L2.upd H5 dx (.own x)) x (.ins C dx [])):=aE.new GO|>.trans (aE.new (by rw[aK GL.symm];exact nx));have s6:aE H5 H6:=aE.but Mn b6 (by simpa using nx);have P4:H5 q0=none:=same_none Mn ye;refine⟨rfl,?_⟩;refine⟨_,rfl,_,rfl,mv,Gp,M,pl,rfl,RD.mono s6 _ O3,RD.mono s6 _ AD,fun d0 e0 t0 H9 Z0 T0 mW vJ vy g1 g2 s9=>?_⟩;have L9:bQ K C T kY H9 M 0 ⟨x,q0,d0,e0,t0⟩ p (mK pl):=bQ.first (s5 _ _ hT) b5.bL nx P4 R6 s6 Z0 T0 mW vJ vy g1 g2 s9 OW OW.len;have NW:=s5.trans (s6.trans s9);have Sc9:mD K H9 a ns (T::p::[x,q0,d0,e0,t0]):=by
    rcases hS with hS|hS
    · have ha:H a≠none:=by rcases hS with e|⟨o,e⟩<;>(rw[e];simp)
      obtain⟨o,e⟩:=Option.ne_none_iff_exists'.mp ha;refine .inr ⟨NW.seq (.inl hS),⟨o,NW _ _ e⟩,fun m=>?_⟩;have Iu:=E7 s5 ha;have Ir:=E7 s6 Iu;simp only[bN,cI,dB]at m;rcases m with z|z|z|z|z|z|z
      · rw[z]at hS
        rcases hS with g|⟨o',g⟩<;>(rw[hT]at g;cases g)
      ·exact jc ha np z
      ·exact jc Iu nx z
      ·exact jc Iu P4 z
      ·exact jc Ir mW z
      ·exact jc Ir vJ z
      ·exact jc Ir vy z
    ·exact .inl fun H2=>.inr hS
   refine⟨bU rfl,fun lf jF jS=>?_⟩;have Ue:=L9.same jS.same;refine⟨_,rfl,p,3,rfl,Ue.bL,by decide,by decide,fun zf iO z0 z1 zi=>?_⟩;obtain⟨gk,a6v,IV,IU⟩:∃gk:Int,fJ [V.int 3,.int 8,.int 25] zf=some (.int gk)/\1<=gk/\gk<=100:=by
    rcases(show zf=0\/zf=1\/zf=2 by lia)with rfl|rfl|rfl
    ·exact⟨3,rfl,by decide,by decide⟩
    ·exact⟨8,rfl,by decide,by decide⟩
    ·exact⟨25,rfl,by decide,by decide⟩
   have a4r:iO lf=some (.lst [V.int 3,.int 8,.int 25]):=zi.same _ _ (fun z=>L9.here _ (.inr rfl) (z▸jS.no)) jS.at';refine .inl ⟨lf,_,zf,_,rfl,rfl,aF.of a4r,a6v,?_⟩;have L11:=Ue.kD zi;have TY:mD K iO a ns (T::p::Ad.all ⟨x,q0,d0,e0,t0⟩):=Sc9.but (fun y o e hy=>zi.same y o (fun z=>hy (by rw[z];simp)) (jS.same _ _ e)) fun y m=>.inl m;refine⟨_,rfl,a,_,rfl,.inl TY.E5,_,_,rfl,_,_,rfl,_,rfl,?_,?_,?_⟩
   ·split<;>lia
   ·rw[cu];split<;>(try split)<;>lia
   have hN:(if(if(26:Int)<((ns.map V.int).length:Int)then(26:Int)else((ns.map V.int).length:Int))>10 then(if(26:Int)<((ns.map V.int).length:Int)then(26:Int)else((ns.map V.int).length:Int))else(10:Int)).toNat<=26:=by split<;>(try split)<;>lia
   have seen:∀{H2:Hp}{A:Ad}{p':Addr}{S:bj}{n:Nat}(Q':VK),bQ K C T kY H2 M n A p' S->n<=90->(∀H3,bQ K C T kY H3 M n A p' S->aZ (T::p'::A.all) H2 H3->Q' (.bl true) H3)->DJ K C [.ref A.a,.ref A.d] H2 Q' E0:=fun{H2 A p' S n} Q' L hn kq=>by
    have nd:=L.nd;simp only[Ad.all,rM,bN,cI,dB,not_or]at nd;obtain⟨⟨t1,t2,t3,t4⟩,⟨t5,t6,t7⟩,⟨t8,t9⟩,uR,_⟩:=nd;refine⟨A.a,A.q,A.d,A.e,A.t,M,_,S,_,_,rfl,L.run,L.sim,L.ok,AS,L.sm,L.told,by lia,by lia,fun y hy=>L.here y hy,.inl (by simp[Ad.all]),fg t4,fg t7,fg t9,fg uR,fun H3 b3 T3=>?_⟩;have bb:aZ (T::p'::A.all) H2 H3:=b3.mono fun y hy=>by rw[cf.mp hy];simp[Ad.all]
    have v:=L.v bb;have no:=L.ok.row.no;have s1:∀{y:Addr},y≠A.t->y∉[A.t]:=fun g=>by rw[cf];exact g
    refine kq H3 ⟨L.run.go no v (fun o e=>b3 _ _ e (s1 t4)) (fun o e=>b3 _ _ e (s1 t7)),L.sim.go no v (fun o e=>b3 _ _ e (s1 t9)) (fun o e=>b3 _ _ e (s1 uR)),L.ok,L.sm,T3,L.nd,TabAt.but L.tab b3 (s1 fun z=>L.nT (by rw[z];simp[Ad.all])) fun y hy φ=>L.vB y (iz _ (by rw[cf.mp hy];simp[Ad.all])) φ,L.on,L.bL.but b3 (s1 fun z=>L.np (by rw[z];simp[Ad.all])),L.np⟩ bb
   refine C0 (Pv:=fun i Z H2=>∃A p S,bQ K C T kY H2 M (3*i) A p S/\mD K H2 a ns (T::p::A.all)/\∃v1 v7 v8,Z=[some (.ref a),v1,some mv,some Gp,some (.ref A.a),some (.ref A.d),some (.int gk),v7,v8]) ?_ ?_ ?_
   ·exact⟨_,p,_,L11,TY,_,none,none,rfl⟩
   · rintro i Z H2 hi ⟨A,p,S,fw,JQ,v1,v7,v8,rfl⟩
     have hi8:i<26:=g9 hi hN;refine⟨_,rfl,_,rfl,_,_,rfl,rfl,a,ns,_,rfl,JQ.E5,hlen,by lia,by lia,fun p' H3 P5 Cp s3=>?_⟩;have L3:=fw.a3k s3 P5 Cp;have Sc3:mD K H3 a ns (T::p'::A.all):=JQ.but (fun y o e _=>s3 _ _ e) fun y m=>by
      rcases bN.mp m with z|m
      ·exact .inl (by rw[z];exact .head _)
      · rcases bN.mp m with z|m
        ·exact .inr (by rw[z];exact P5)
        ·exact .inl (.tail _ (.tail _ m))
     refine⟨_,rfl,p',3,rfl,Cp,by decide,by decide,fun z H4 z0 z1 b4=>.inl ⟨_,_,rfl,rfl,?_⟩⟩;have L4:=L3.kD b4;have Sc4:mD K H4 a ns (T::p'::A.all):=Sc3.but (fun y o e hy=>b4.same y o (fun g=>hy (by rw[g];simp)) e) fun y m=>.inl m;refine⟨_,rfl,_,rfl,_,rfl,_,rfl,p',A,M,_,S,gk,rfl,L4,AS,IV,IU,by lia,fun q' S' H5 L5 b5 nq=>⟨_,rfl,bF ?_⟩⟩;have TX:mD K H5 a ns (T::p'::({A with q:=q'}:Ad).all):=Sc4.but b5 fun y m=>by
      by_cases hy:y∈T::p'::A.all
      ·exact .inl hy
      ·cases e:H4 y with |none=>exact .inr rfl |some o=>exact absurd m (JL hy nq e)
     refine⟨_,rfl,_,rfl,?_⟩;refine dN (fun hq=>?_) (fun hq=>?_)
     · refine⟨_,rfl,_,rfl,?_⟩
       refine seen (A:={A with q:=q'}) _ L5 (show 3*i+3<=90 by lia) fun H6 L6 b6=>⟨_,rfl,bF ?_⟩;exact⟨_,p',S',L6.mono (by lia) (by lia),TX.but b6 fun y m=>.inl m,_,_,_,rfl⟩
     ·exact⟨_,p',S',L5.mono (by lia) (by lia),TX,_,_,_,rfl⟩
   · rintro Z H2 ⟨A,p,S,fw,JQ,v1,v7,v8,rfl⟩
     refine⟨_,rfl,_,rfl,?_⟩;exact seen _ fw (iy (Nat.mul_le_mul_left 3 hN) (by decide)) fun H3 L3 b3=>k _
end
end Lw
namespace Lw
open PySem PySem.Spec PyProof.Rows L2
theorem nv{K:aa}{mg:Str->Option Value}{h:Heap}{x:Str}{c:Addr}(X:K.In h)(G:h.Ns mainGlobals mg)(a:PySem.W.nsIn K mainGlobals x=some (some (.ref c))):GV mg x (.ref c):=⟨_,xc X G a,rfl⟩
theorem RV{K:aa}{mg:Str->Option Value}{h:Heap}{x:Str}{c:Addr}{bm:List Value}{nw:String}(X:K.In h)(G:h.Ns mainGlobals mg)(a:PySem.W.nsIn K mainGlobals x=some (some (.ref c)))(q:PySem.W.excIn K c bm nw=true):Exc K mg x c bm nw:=⟨xc X G a,q⟩
theorem a4O{K:aa}{n o f m r cG c0 c1 c2 c3 c4 c5 C:Addr}{b0 b1 b2 b3 b4:Bool}(t:takes K C cG)(k:nY K C)(i0:PySem.W.kitOne K (.ref C) (.ref n)=some b0)(i1:PySem.W.kitOne K (.ref C) (.ref o)=some b1)(i2:PySem.W.kitOne K (.ref C) (.ref f)=some b2)(i3:PySem.W.kitOne K (.ref C) (.ref m)=some b3)(i4:PySem.W.kitOne K (.ref C) (.ref r)=some b4)(any:PySem.W.kitAny K (.ref C) [.ref c0,.ref c1,.ref c2,.ref c3,.ref c4,.ref c5]=some false)(ve:PySem.W.kitOne K (.ref C) (.type "ValueError")=some true):KC K ⟨n,o,f,m,r⟩ cG [c0,c1,c2,c3,c4,c5] C b0 b1 b2 b3 b4:=⟨t,k,i0,i1,i2,i3,i4,any,ve⟩
theorem ZY{K:aa}{mg:Str->Option Value}{h:Heap}{n o f m r cG c0 c1 c2 c3 c4 c5:Addr}(X:K.In h)(G:h.Ns mainGlobals mg)(ag:PySem.W.nsIn K mainGlobals "GlideError"=some (some (.ref cG)))(qg:PySem.W.excIn K cG wN yc=true) (h0:PySem.W.nsIn K mainGlobals "NoFraction"=some (some (.ref c0)))(h1:PySem.W.nsIn K mainGlobals "NoLine"=some (some (.ref c1)))(h2:PySem.W.nsIn K mainGlobals "NoMachine"=some (some (.ref c2)))(h3:PySem.W.nsIn K mainGlobals "NoPlace"=some (some (.ref c3)))(h4:PySem.W.nsIn K mainGlobals "NoTape"=some (some (.ref c4)))(h5:PySem.W.nsIn K mainGlobals "NoText"=some (some (.ref c5))) (an:PySem.W.nsIn K mainGlobals "NoItem"=some (some (.ref n)))(ao:PySem.W.nsIn K mainGlobals "OffRails"=some (some (.ref o)))(am:PySem.W.nsIn K mainGlobals "Moving"=some (some (.ref m)))(ar:PySem.W.nsIn K mainGlobals "NoRate"=some (some (.ref r)))(v:PySem.W.nsIn K mainGlobals "ValueError"=some none)(af:PySem.W.nsIn K mainGlobals "Full"=some (some (.ref f)))(qf:PySem.W.excIn K f wN yc=true) (kf:KC K ⟨n,o,f,m,r⟩ cG [c0,c1,c2,c3,c4,c5] f false false true false false) :∃R cG c0 c1 c2 c3 c4 c5,CF K mg R cG c0 c1 c2 c3 c4 c5:=⟨⟨n,o,f,m,r⟩,cG,c0,c1,c2,c3,c4,c5,RV X G ag qg,nv X G h0,nv X G h1,nv X G h2,nv X G h3,nv X G h4,nv X G h5,nv X G an,nv X G ao,nv X G am,nv X G ar,PySem.W.mg_none_of X G v,RV X G af qf,kf⟩
theorem tab_of{T:Addr}{K:aa}{mg:Str->Option Value}(A:All T K mg):∃cd,pD K cd T=true:=by obtain⟨f,fd,_,_,h⟩:=A.RP.ex;exact⟨_,h⟩
theorem abi:zl K P:=by intro T w mg base f fd A u9 F;have tk:aD P w K mg base "_law_take" 1 pW:=a1N A.a95 A.B;have cd:aD P w K mg base "common_divisor" 1 DW:=a2U A.a8Z A.B;have lt:aD P w K mg base "lowest_terms" 2 uV:=a2x A.a8J A.B cd;have iw:aD P w K mg base "is_whole" 1 (uX K):=a2G A.a8O A.B;have ww:aD P w K mg base "is_whole_within" 2 (sj K):=a1F A.a8N A.B iw;have fn:aD P w K mg base "fraction" 3 (uU K):=a2O A.a8X A.B iw lt;have ld:aD P w K mg base "lead_of" 1 (lO K):=a2D A.a8L A.B;have ls:aD P w K mg base "is_less" 1 (uW K):=a2B A.a8U A.B;have cp:aD P w K mg base "corner_square" 6 (DX K):=a2T A.a8Y A.B (a1H A.a8W A.B (a1G A.a8v A.B ld fn) (a2u A.a8I A.B lt) ls) fn;have irt:aD P w K mg base "is_rate" 3 (DN K):=a2H A.a8Q A.B A.a86 A.a88 ww;have tp:aD P w K mg base "top_square" 4 (Ak K):=a1J A.a8w A.B irt fn;have Bp:aD P w K mg base "is_line" 1 (uY K):=a2I A.a8T A.B;have lst:aD P w K mg base "least" 2 (jn K):=a2C A.a8K A.B ls;have Ts:aD P w K mg base "bound_between" 7 (Aq K):=a2W A.a90 A.B A.yT Bp tp cp lst;have own:aD P w K mg base "own_bounds" 8 (Md K):=a2q A.RO A.B A.yT Ts;have pw:aD P w K mg base "plus_whole" 4 (Ao K):=a2m A.a8D A.B;have nr:aD P w K mg base "nearest" 1 DQ:=a2s A.a8G A.B;have LB:aD P w K mg base "stand_at" 2 (Al K):=a1Q A.a8B A.B ld nr;have sr:aD P w K mg base "step_rows" 3 (DL K):=a27 A.a8z A.B ld LB;have ent:aD P w K mg base "step_entry" 3 (DV K):=a2Q A.a8A A.B (a1M A.a8y A.B (a2R A.a92 A.B));have ln:aD P w K mg base "_law_line" 2 (DR K):=a2z A.a9m A.B tk;have itm:aD P w K mg base "is_item" 4 (DT K):=a2M A.a8V A.B A.a87 ww (a2Z A.a91 A.B A.a82 ww) (a2J A.a8P A.B A.a83 A.a80 ww (a2L A.a8S A.B A.a84 A.a85));have isp:aD P w K mg base "is_place" 3 (DU K):=a2K A.a8R A.B ww;have Pt:aD P w K mg base "moved" 1 (Ap K):=a2t A.a8H A.B;have JA:aD P w K mg base "place_behind" 2 (xF K):=a2X A.a8F A.B Bp Pt;have Xy:aD P w K mg base "times" 3 (mM (·*·) K):=a1K A.a8x A.B lt;have rch:aD P w K mg base "reach_behind_first" 9 (DM K):=a2l A.a8C A.B (a2p A.RO A.B A.yT Ts) (a2P A.a8M A.B Bp ld pw lst);obtain⟨C,R⟩:=A.rc;have TC:=R.tc;have AF:=a2e (w:=w) (mg:=mg) (base:=base) R.a40 TC;have O1:=a24 (w:=w) (base:=base) R.a3T TC A.yT;have O6:=a2d R.a41 TC AF O1;have O4:=a2a R.a3Y TC JA;have ZG:=a28 R.a3X TC pw Xy fn lst AF;have ref:=a2k R.a47 TC JA;have Zu:=a23 R.a3S TC A.B ld sr tp rch ent O6 ZG ref;have ZU:=a2h R.a45 TC Bp Zu ref;have ZW:=a2i R.a46 TC A.B O6 ZU;have O0:=a22 (w:=w) (mg:=mg) (base:=base) R.a3R TC;have ZP:=a2c R.a42 TC O0 AF;have ZQ:=a2f (w:=w) (base:=base) R.a43 TC A.B;have AD:=a26 R.a3W TC Pt LB;have Zl:=a1Z (w:=w) (base:=base) R.a3P TC A.B;have Zt:=a21 (w:=w) (mg:=mg) (base:=base) R.a3U TC;have Zx:=a25 (w:=w) (mg:=mg) (base:=base) R.a3V TC;have Zs:=a20 (w:=w) (mg:=mg) (base:=base) R.a3Q TC;have ZH:=a29 (w:=w) (mg:=mg) (base:=base) R.a3Z TC;obtain⟨Rf,cG,c0,c1,c2,c3,c4,c5,EA⟩:=A.rf;have Bh:=a2N (w:=w) (base:=base) A.a9p A.B;have Hd:=a2v A.a9k A.B (a2A (w:=w) (base:=base) A.a9n A.B);have PK:=a1O A.a96 A.B Bh;have PJ:=a1I A.a93 A.B Bh;have Bf:=a2E (w:=w) (base:=base) A.a9o A.B;have LK:=a1R (w:=w) (base:=base) A.a98 A.B;have Yp:=a1S A.a99 A.B Bf (a1T A.a9g A.B (a2V A.a9q A.B Bf Hd PJ Bh) PK Bf Hd) PJ PK Bh (a1P A.a97 A.B Bf) Hd (a1L A.a94 A.B);have Be:=a2y (w:=w) (base:=base) A.a9j A.B;have al:=AR (by decide) A.yW A.B Be (AR (by decide) A.yW A.B Be (AR (by decide) A.yW A.B Be (AR (by decide) A.yW A.B Be (a30 (w:=w) (base:=base) A.yW A.B))));have ZR:=a2g R.a44 TC A.B EA.xf A.a81 itm isp JA O4;have ZS:zw P w K mg base "_law_refused" 7 (Am P w K mg base Rf 5):=a2j A.a9f A.B EA;have YO:=a1X A.a9c A.B Yp;have YL:=a1W (w:=w) (base:=base) A.a9b A.B;have seen:=a1Y A.a9e A.B TC al LK Zl AD O4 Zt Zx Zs ZH AF O1 O0;have aab:=a2S A.RP A.B TC u9 tk ln (a2r A.a9i A.B tk) al ZS ZR YL ZP (a1V A.a9a A.B LK) ZQ ZW YO;exact a2F F TC A.B (a2Y A.a9r A.B) tk (a2w A.a9l A.B tk) (a2o A.a9h A.B tk) (a2b R.init TC A.yT A.a89) (a1U A.a9d A.B) aab seen
theorem abj{P:ah}{w:World}{K:aa}{mg:Str->Option Value}{base:Heap}{f T:Addr}{fd:FuncData}(A:All T K mg)(u9:base.BuiltinsAt mg T)(F:kh K "law" "law" vb f fd):j6 P w K mg base jk 14 f fd ["_law_script"] (DS K T):=XB abi K P T w mg base f fd A u9 F
end Lw
def PySem.W.Fast.tw4481152661827106314:PySem.Program:=PySem.Challenge.pw_glidequeue_k40_held
theorem PySem.W.Fast.te4481152661827106314:PySem.Challenge.pw_glidequeue_k40_held=PySem.W.Fast.tw4481152661827106314:=rfl
local macro_rules|`(command|universe $x:ident)=>return Lean.mkNullNode (<-((x.getId.toString.splitOn "_").drop 1).toArray.mapM fun i=>`(command|theorem $(Lean.mkIdent (`_root_.PySem.W.Fast++Lean.Name.mkSimple s!"tw{(`PySem.Challenge.cw_glidequeue_k40_held_holds++Lean.Name.mkSimple ((match i.front with|'h'=>"heap"|'t'=>"tree"|'v'=>"view"|'s'=>"sts"|'e'=>"env"|_=>"o")++"_"++(i.drop 1).toString)).hash}")):ident:True:=True.intro))
universe t_h928_h39_t904_t647_v39_t733_t821_t477_t435_t370_s822_t927_t241_t226_s478_o905_o822_t211_s737_t189_o737_s905_s371_t292_o436_t167_o371_t152_o878_o876_s436_t137_o904_o598_o902_o293_o842_o920_o913_o840_o918_o911_t115_o478_o589_o642_o591_o596_o927_s242_o925_o811_o866_o809_o864_t100_s293_o873_o242_o349_o854_o852_o570_o482_o816_o568_o227_o871_o456_o814_o421_o347_o885_o386_o454_o883_t85_o399_o397_o861_o449_o859_o423_o391_o493_o799_o212_o500_o442_o384_o491_o389_o797_o190_o447_o830_o168_o752_o828_o440_o153_o750_o463_o584_o138_o582_o435_o116_o344_o433_o575_o430_o849_o342_o101_o416_t70_o363_o418_o428_o847_o308_o651_o301_o86_o339_o461_o292_o361_o370_o278_o299_o71_o337_o276_o804_o759_o49_o612_o498_o802_o619_o368_o757_o899_o470_o290_o676_o773_o771_o329_o332_o617_o306_o745_o468_o605_o610_o897_o505_o587_o334_o327_o821_o477_o594_o743_o603_o209_o766_o764_o819_o807_o892_o475_o322_o285_o315_o270_o794_o356_o626_o263_o890_o725_o313_o413_s168_o283_o354_o268_o792_o184_o320_o379_o182_o411_o780_o261_o732_o641_o624_o837_o542_o640_o377_o923_o778_o730_o382_o521
open PySem PySem.W PyProof.Rows
set_option maxRecDepth 100000 in
set_option maxHeartbeats 0 in
theorem PySem.Challenge.cw_glidequeue_k40_held_holds : PySem.Challenge.rw_glidequeue_k40_held.Holds := by
 w_on; o_law; k_head; (case hw=>w_witness2)
 k_fill
 refine L2.a4y (l:=PySem.Challenge.rw_glidequeue_k40_held) (k:=14) (x:="_law_script") (st:=Lw.vb) rfl rfl ⟨rfl,by decide,by decide⟩ (fun w h Y=>⟨PySem.W.km_in_of Y,PySem.W.km_tabs_of Y _ (.head _)⟩) (Lw.All _) ?F ?K (fun _ _ A=>Lw.tab_of A) (fun _ _ A=>A.law) (fun _ _ _ _ _ _ _=>rfl) (fun _ _ _ _ _ _ _ A hB F=>Lw.abj A hB F)
 case K=>exact fun w=>(by kernel_rfl)
 case F=>
  intro w mg h KX G
  refine⟨L2.aaX KX G ?b,?x1,?x2,?x3,?x4,?x5,?x6,?x7,?x8,?x9,?x10,?x11,?x12,?x13,?x14,?x16,?x17,?x18,?x19,?x20,?x21,?x22,?x23,?x24,?x25,?x26,?x27,?x28,?x29,?x30,?x31,?x32,?x33,?x34,?x35,?x36,?x37,?x38,?x39,?x40,?x41,?x42,?x43,?x44,?x45,?x46,?x47,?x48,?x49,?x50,?x51,?x52,?x53,?x54,?x55,?x56,?x57,?x58,?x59,?x60,?x61,?x62,?x63,?x64,?x65,?x66,?x67,?x68,?x69,?x70,?x71,?x72,?x73,?x74,?x75,?x76⟩
  case b=>(unfold L2.Co; repeat (refine L2.rn.cons ?z ?_; (case z=>k_is))); exact L2.rn.nil
  case x1=>refine' L2.Rm KX G ?a ?l ?z ?r; (case a=>k_is); (case l=>k_is); (case z=>decide); (case r=>exact .cons ⟨_,rfl⟩ (.cons ⟨_,rfl⟩ .nil))
  case x2=>refine' L2.Rm KX G ?a ?l ?z ?r; (case a=>k_is); (case l=>k_is); (case z=>decide); (case r=>exact .cons ⟨_,rfl⟩ (.cons ⟨_,rfl⟩ .nil))
  case x3=>(refine' L2.qM KX G ?z; (case z=>k_is))
  case x4=>(refine' L2.qM KX G ?z; (case z=>k_is))
  case x5=>(refine' L2.qM KX G ?z; (case z=>k_is))
  case x6=>(refine' L2.qM KX G ?z; (case z=>k_is))
  case x7=>(refine' L2.qM KX G ?z; (case z=>k_is))
  case x8=>(refine' L2.qM KX G ?z; (case z=>k_is))
  case x9=>(refine' L2.qM KX G ?z; (case z=>k_is))
  case x10=>(refine' L2.qM KX G ?z; (case z=>k_is))
  case x11=>(refine' L2.a7O KX G ?z; (case z=>k_is))
  case x73=>(refine' L2.a8q KX G ?a ?l ?c ?k ?t; (case a=>k_is); (case l=>k_is); (case c=>k_is); (case k=>k_is); (case t=>kernel_rfl))
  case x75=>
   refine' Exists.intro _ (Lw.U5.mk (Lw.fY.mk (L2.ki.mk ?pg ?hd ?po ?sa) ?n1 ?n2 ?n3 ?n4 ?n5 ?n6 ?n7 ?n8 ?n9) (L2.aaQ KX G ?aC ?mk ?kc ?ia ?ii ?il ?ic ?ik) (L2.iG ?a0 ?i0 ?l0 ?c0 ?k0) (L2.iG ?a1 ?i1 ?l1 ?c1 ?k1) (L2.iG ?a2 ?i2 ?l2 ?c2 ?k2) (L2.iG ?a3 ?i3 ?l3 ?c3 ?k3) (L2.iG ?a4 ?i4 ?l4 ?c4 ?k4) (L2.iG ?a5 ?i5 ?l5 ?c5 ?k5) (L2.iG ?a6 ?i6 ?l6 ?c6 ?k6) (L2.iG ?a7 ?i7 ?l7 ?c7 ?k7) (L2.iG ?a8 ?i8 ?l8 ?c8 ?k8) (L2.iG ?a9 ?i9 ?l9 ?c9 ?k9) (L2.iG ?a10 ?i10 ?l10 ?c10 ?k10) (L2.iG ?a11 ?i11 ?l11 ?c11 ?k11) (L2.iG ?a12 ?i12 ?l12 ?c12 ?k12) (L2.iG ?a13 ?i13 ?l13 ?c13 ?k13) (L2.iG ?a14 ?i14 ?l14 ?c14 ?k14) (L2.iG ?a15 ?i15 ?l15 ?c15 ?k15) (L2.iG ?a16 ?i16 ?l16 ?c16 ?k16) (L2.iG ?a17 ?i17 ?l17 ?c17 ?k17) (L2.iG ?a18 ?i18 ?l18 ?c18 ?k18))
   (case aC=>k_is)
   case n1 | n2 | n3 | n4 | n5 | n6 | n7 | n8 | n9=>(unfold L2.jj; k_is)
   case pg | hd | po | sa | mk | kc | ia | ii | il | ic | ik | a0 | i0 | l0 | c0 | k0 | a1 | i1 | l1 | c1 | k1 | a2 | i2 | l2 | c2 | k2 | a3 | i3 | l3 | c3 | k3 | a4 | i4 | l4 | c4 | k4 | a5 | i5 | l5 | c5 | k5 | a6 | i6 | l6 | c6 | k6 | a7 | i7 | l7 | c7 | k7 | a8 | i8 | l8 | c8 | k8 | a9 | i9 | l9 | c9 | k9 | a10 | i10 | l10 | c10 | k10 | a11 | i11 | l11 | c11 | k11 | a12 | i12 | l12 | c12 | k12 | a13 | i13 | l13 | c13 | k13 | a14 | i14 | l14 | c14 | k14 | a15 | i15 | l15 | c15 | k15 | a16 | i16 | l16 | c16 | k16 | a17 | i17 | l17 | c17 | k17 | a18 | i18 | l18 | c18 | k18=>k_is
  case x76=>
   refine' Lw.ZY KX G ?ag ?qg ?h0 ?h1 ?h2 ?h3 ?h4 ?h5 ?an ?ao ?am ?ar ?v ?af ?qf (Lw.a4O ?ft ⟨?fk1,?fk2,?fk3,?fk4,?fk5,?fk6,?fk7,?fk8⟩ ?fi0 ?fi1 ?fi2 ?fi3 ?fi4 ?fany ?fve)
   case ag | h0 | h1 | h2 | h3 | h4 | h5 | an | ao | am | ar | v | af=>k_is
   case qg | qf=>k_exc
   case ft=>(show PySem.W.mroIn _ _ _=_; k_is)
   case fk1 | fk2 | fk3 | fk4 | fk5 | fk6 | fk7 | fk8=>k_is
   case fi0 | fi1 | fi2 | fi3 | fi4 | fany | fve=>kit_is
  all_goals (refine' L2.a8s KX G ?a ?l ?c ?k; (case a=>k_is); (case l=>k_is); (case c=>k_is); (case k=>k_is))
#print axioms PySem.Challenge.cw_glidequeue_k40_held_holds
