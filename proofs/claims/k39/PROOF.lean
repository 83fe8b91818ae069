import PyProof.Rows.All
import Wide.All
import OpenK.AllK
import Wide.FinOn
import Lean
import PyProof.EqAt
import PyProof.EqKinds
import PyProof.TupleCall
import PySem.Challenge.RW_glidequeue_k39_entries_between_feedings
set_option Elab.async false
set_option linter.all false
set_option maxRecDepth 100000
abbrev aa:=PySem.W.Frag
abbrev ae:=PySem.Shared
abbrev ah:=PySem.Program
abbrev ai:=PySem.PyData
abbrev aj:=PySem.Around
abbrev aO:=@PySem.wpAny_bind
abbrev aY:=@if_pos
abbrev aZ:=@if_neg
abbrev bF:=@Nat.le_refl
abbrev bI:=@List.mem_cons
abbrev bV:=@PySem.intBits_le_64
abbrev bZ:=@List.getElem?_eq_getElem
abbrev cg:=@PySem.wpAny_pure
abbrev cj:=@List.length_map
abbrev cm:=@List.mem_singleton
abbrev cn:=@PySem.Heap.get?_push_of_some
abbrev cu:=@List.getElem?_map
abbrev cw:=@PySem.Heap.lt_size
abbrev cB:=@decide_eq_true
abbrev cC:=@List.not_mem_nil
abbrev dv:=@or_false
abbrev dC:=@List.getElem?_eq_some_iff
abbrev dG:=@Option.some.inj
abbrev dU:=@Rat.le_trans
abbrev dX:=@List.size_toArray
abbrev eh:=@PySem.Heap.get?_push_size
abbrev eQ:=@decide_eq_false
abbrev eR:=@Ne.symm
abbrev eV:=@Bool.and_eq_true
abbrev fm:=@Nat.ne_of_lt
abbrev fo:=@List.length_append
abbrev fD:=@PyProof.Rows.boot_tuple
abbrev fE:=@Int.pow_succ
abbrev fF:=@Int.natAbs_mul
abbrev fM:=@beq_iff_eq
abbrev fT:=@Nat.zero_le
abbrev fU:=@Nat.lt_of_lt_of_le
abbrev gy:=@List.mem_of_getElem?
abbrev gz:=@Int.le_refl
abbrev gL:=@PySem.PassesOwn.never
abbrev ib:=@Nat.le_trans
abbrev ie:=@List.mem_cons_of_mem
abbrev ij:=@PySem.IntMulOk.of_bits
abbrev iE:=@List.all_eq_true
abbrev iG:=@Int.mul_pos
abbrev iS:=@List.lookup_cons
abbrev jb:=@PySem.wpAny_field
abbrev jw:=@PySem.wpAny_mono
abbrev jx:=@of_decide_eq_true
abbrev jy:=@List.mem_map
abbrev jz:=@Int.mul_nonneg
abbrev jU:=@List.length_cons
abbrev jV:=@Bool.true_and
abbrev jW:=@Bool.false_ne_true
abbrev ko:=@PyProof.Rows.boot_list
abbrev kr:=@Int.one_mul
abbrev ku:=@Bool.false_and
abbrev kZ:=@List.mem_append_right
abbrev la:=@List.getElem?_eq_none
abbrev lb:=@Int.pow_zero
abbrev ml:=@Nat.mul_le_mul
abbrev nP:=@List.mem_filterMap
abbrev nQ:=@List.map_cons
abbrev nR:=@List.map_append
abbrev nS:=@List.length_take
abbrev nU:=@Bool.eq_iff_iff
abbrev pj:=@PySem.wpAny_truthy_bool
abbrev pk:=@PySem.wpAny_newObj_type
abbrev pA:=@PyProof.Rows.boot_str
abbrev pC:=@PyProof.Rows.boot_abs
abbrev pD:=@Nat.lt_of_le_of_lt
abbrev pE:=@Nat.lt_irrefl
abbrev pF:=@List.take_succ
abbrev pG:=@List.mem_iff_getElem?
abbrev pH:=@Int.emod_nonneg
abbrev qR:=@decide_eq_true_iff
abbrev qS:=@Rat.num_divInt_den
abbrev qT:=@Rat.le_refl
abbrev qU:=@PyProof.Rows.boot_all
abbrev qV:=@Nat.pow_le_pow_right
abbrev qW:=@List.nodup_cons
abbrev qX:=@List.ext_getElem?
abbrev qZ:=@PySem.Heap.size_push
abbrev ug:=@PySem.wpAny_seqItems
abbrev uh:=@PySem.wpAny_holding
abbrev ui:=@if_true
abbrev uj:=@PySem.mem_of_lookup
abbrev uk:=@PyProof.Rows.boot_isinstance
abbrev uo:=@List.mem_append
abbrev uq:=@List.length_set
abbrev ur:=@List.getElem_range
abbrev uu:=@List.any_cons
abbrev uv:=@Int.mul_assoc
abbrev uw:=@Int.emod_lt_of_pos
abbrev wF:=@PySem.wpAny_passesOwn
abbrev wG:=@PySem.call_meets
abbrev wH:=@Rat.divInt_nonneg_iff_of_pos_right
abbrev wI:=@PySem.W.mg_of
abbrev wJ:=@PyProof.Rows.callWith_type1
abbrev wK:=@List.take_length
abbrev wL:=@List.getElem?_zip_eq_some
abbrev wM:=@List.getElem?_append_left
abbrev wN:=@Bool.eq_false_iff
abbrev zh:=@PySem.wpAny_setField_rec
abbrev zi:=@PySem.wpAny_of_eq
abbrev zj:=@PySem.wpAny_execs_nil
abbrev zk:=@PySem.wpAny_call
abbrev zl:=@PySem.wpAny_Call_Name_kw
abbrev zm:=@PySem.codeAny_mono
abbrev zo:=@PySem.F.plainAttrs_list
abbrev zp:=@List.of_mem_zip
abbrev zq:=@List.map_set
abbrev zr:=@List.getElem?_set_self
abbrev zt:=@List.getElem?_append_right
abbrev zu:=@List.find?_cons
abbrev zv:=@Int.zero_mul
abbrev zw:=@PySem.Heap.get?_update_other
abbrev zx:=@Array.length_toList
abbrev Cm:=@PySem.wpAny_setField
abbrev Co:=@PySem.wpAny_pyIter_list
abbrev Cp:=@PySem.wpAny_onRaise
abbrev Cq:=@PySem.wpAny_call_entry
abbrev Cr:=@PySem.wpAny_callSpecial?_slot
abbrev Ct:=@decide_eq_true_eq
abbrev Cu:=@beq_eq_false_iff_ne
abbrev Cv:=@Rat.le_antisymm
abbrev Cw:=@PyProof.Rows.boot_max
abbrev Cy:=@PySem.Obj.data_mapFields
abbrev Cz:=@Nat.ne_of_gt
abbrev CB:=@List.mem_of_mem_take
abbrev CC:=@List.length_replicate
abbrev CD:=@List.length_eq_zero_iff
abbrev CF:=@List.getElem_mem
abbrev CG:=@List.getElem?_zipWith
abbrev CH:=@List.forIn_cons
abbrev CI:=@List.append_nil
abbrev CJ:=@Int.mul_le_mul
abbrev CK:=@Array.toList_append
abbrev Jz:=@PySem.wpAny_pyIter_rangeiter
abbrev JA:=@PySem.codeAmong.eq_def
abbrev JB:=@beq_self_eq_true
abbrev JC:=@Std.lt_of_le_of_ne
abbrev JD:=@Rat.le_of_lt
abbrev JE:=@PySem.W.hideAll_get
abbrev JF:=@PySem.F.slot_zip_next
abbrev JG:=@PySem.F.slot_tuple_iterator_next
abbrev JH:=@PyProof.Rows.boot_int
abbrev JI:=@Nat.sub_self
abbrev JJ:=@Nat.lt_trans
abbrev JK:=@Nat.lt_succ_of_lt
abbrev JL:=@Nat.lt_succ_iff_lt_or_eq
abbrev JM:=@Nat.le_of_lt
abbrev JN:=@List.take_of_length_le
abbrev JO:=@List.set_set
abbrev JP:=@List.mem_cons_self
abbrev JQ:=@List.length_pos_iff
abbrev JR:=@List.length_nil
abbrev JS:=@List.length_drop
abbrev JT:=@List.getElem?_set_ne
abbrev JU:=@List.all_cons
abbrev JV:=@Int.mul_ne_zero
abbrev JW:=@Int.mul_comm
abbrev JX:=@Int.lt_or_le
abbrev JY:=@Int.le_of_lt
abbrev JZ:=@PySem.Heap.get?_update_self
abbrev K0:=@Bool.and_true
abbrev K1:=@Array.getElem?_eq_some_iff
abbrev Vs:=@PySem.wpAny_updateSeq_pair
abbrev Vt:=@PySem.wpAny_pyNext_range_end
abbrev Vu:=@PySem.wpAny_newFunctionEnv
abbrev Vv:=@PySem.SeqAt.canLay_of_shaped
abbrev Vw:=@Rat.intCast_lt_intCast
abbrev Vx:=@Rat.divInt_sub_divInt
abbrev Vy:=@Rat.divInt_mul_divInt
abbrev Vz:=@PySem.W.plainGet_of
abbrev VA:=@PySem.W.callWith_K
abbrev VB:=@PySem.Str.cps_append
abbrev VC:=@PyProof.Rows.slot_tuple_getitem
abbrev VD:=@PyProof.Rows.boot_min
abbrev VE:=@PyProof.Rows.boot_bool
abbrev VF:=@PyProof.Rows.boot_any
abbrev VG:=@PySem.Obj.isFreed_of_fields
abbrev VH:=@Nat.lt_succ_self
abbrev VI:=@List.mem_iff_getElem
abbrev VJ:=@List.mem_append_left
abbrev VL:=@List.getElem?_replicate
abbrev VM:=@List.filterMap_cons
abbrev VN:=@Int.toNat_natCast
abbrev VO:=@Int.mul_nonneg_of_nonpos_of_nonpos
abbrev VP:=@Int.lt_trichotomy
abbrev VQ:=@Int.fdiv_eq_ediv_of_nonneg
abbrev VR:=@PySem.F.slot_range_reversed
abbrev VS:=@Bool.not_eq_true'
abbrev aaC:=@PySem.F.entry_tuple_iterator_next
abbrev aaD:=@PySem.F.args_tuple_iterator_next_1
abbrev aaE:=@Int.mul_le_mul_of_nonneg_right
abbrev aaF:=@Int.mul_le_mul_of_nonneg_left
abbrev aaG:=@Array.all_eq_true_iff_forall_mem
namespace L2
open PySem PySem.Spec PyProof.Rows
abbrev Key:=Sum Int Str
def vw:Key->Value->Bool | .inl k,v=>Value.isInt k v | .inr x,v=>Value.isStrOf x v
def a3N(w:World):Key->Int | .inl k=>hashInt k | .inr x=>hashStr w x
theorem oF:∀{k:Key}{v:Value},vw k v=true->(∃i t,k=Sum.inl i/\v=Value.int i t)\/(∃x t,k=Sum.inr x/\v=Value.str x t) | .inl i,v,h=>by obtain⟨t,e⟩:=Value.isInt_shape (k:=i) (v:=v) h;exact .inl ⟨i,t,rfl,e⟩ | .inr x,v,h=>by obtain⟨t,e⟩:=Value.isStrOf_shape (x:=x) (v:=v) h;exact .inr ⟨x,t,rfl,e⟩
theorem a3M(i:Int)(t:Tok):vw (.inl i) (.int i t)=true:=by simp[vw,Value.isInt]
theorem a3L(x:Str)(t:Tok):vw (.inr x) (.str x t)=true:=by simp[vw,Value.isStrOf]
theorem a3K(a b:Int):decide ((Sum.inl a:Key)=Sum.inl b)=(a==b):=by
 by_cases e:a=b
 ·subst e;simp
 · have h:¬(Sum.inl a:Key)=Sum.inl b:=fun q=>e (Sum.inl.inj q)
   rw[eQ h];exact(Cu.mpr e).symm
theorem a3H(a b:Str):decide ((Sum.inr a:Key)=Sum.inr b)=decide (a=b):=by
 by_cases e:a=b
 ·subst e;simp
 · have h:¬(Sum.inr a:Key)=Sum.inr b:=fun q=>e (Sum.inr.inj q)
   rw[eQ h,eQ e]
theorem a3J(a:Int)(b:Str):decide ((Sum.inl a:Key)=Sum.inr b)=false:=eQ (fun q=>nomatch q)
theorem a3I(a:Str)(b:Int):decide ((Sum.inr a:Key)=Sum.inl b)=false:=eQ (fun q=>nomatch q)
def jj(prog:ah)(w:World):PySem.KeyKind prog w Key where
 is:=vw
 hash:=a3N w
 inj:=fun v a b ha hb=>by
  rcases oF ha with⟨i,t,rfl,rfl⟩|⟨x,t,rfl,rfl⟩
  · rcases oF hb with⟨j,u,rfl,e⟩|⟨y,u,rfl,e⟩
    ·injection e with e1 _;rw[e1]
    ·exact nomatch e
  · rcases oF hb with⟨j,u,rfl,e⟩|⟨y,u,rfl,e⟩
    ·exact nomatch e
    ·injection e with e1 _;rw[e1]
 byValue:=fun k v h=>by rcases oF h with⟨i,t,rfl,rfl⟩|⟨x,t,rfl,rfl⟩<;>rfl
 pyHash:=fun hv h=>by
  rcases oF hv with⟨i,t,rfl,rfl⟩|⟨x,t,rfl,rfl⟩
  ·exact wpAny_pyHash_int h
  ·exact wpAny_pyHash_str h
 eqBool:=fun hu hv h=>by
  rcases oF hu with⟨i,t,rfl,rfl⟩|⟨x,t,rfl,rfl⟩
  · rcases oF hv with⟨j,u,rfl,rfl⟩|⟨y,u,rfl,rfl⟩
    ·rw[a3K]at h;exact wpAny_eqBool_int h
    ·rw[a3J]at h;exact SeqAt.EqAt.int_str i t y u _ _ _ _ h
  · rcases oF hv with⟨j,u,rfl,rfl⟩|⟨y,u,rfl,rfl⟩
    ·rw[a3I]at h;exact SeqAt.EqAt.str_int x t j u _ _ _ _ h
    ·rw[a3H]at h;exact wpAny_eqBool_str h
 «strs»:=fun k x t v h=>by
  rcases oF h with⟨i,u,rfl,e⟩|⟨y,u,rfl,e⟩
  ·exact nomatch e
  · injection e with e1 _
    subst e1;cases v<;>rfl
theorem a2K(prog:ah)(w:World)(i:Int)(t:Tok):(jj prog w).is (.inl i) (.int i t)=true:=a3M i t
theorem a2J(prog:ah)(w:World)(x:Str)(t:Tok):(jj prog w).is (.inr x) (.str x t)=true:=a3L x t
inductive V where |bp|bl (b:Bool)|int (i:Int)|str (x:Str)|wo (b:Array UInt8)|BE (b:UInt64)|ref (a:Addr)|ty (n:String) deriving DecidableEq
def RelV:V->Value->Prop | .bp,u=>u=Value.none | .bl b,u=>u=Value.bool b | .int i,u=>∃t,u=Value.int i t | .str x,u=>∃t,u=Value.str x t | .wo b,u=>∃t,u=Value.bytes b t | .BE b,u=>∃t,u=Value.float b t | .ref a,u=>u=Value.ref a | .ty n,u=>u=Value.type n
abbrev Vals:List V->List Value->Prop:=Paired RelV
theorem Vals.length{xs:List V}{us:List Value}(r:Vals xs us):xs.length=us.length:=Paired.length r
theorem Vals.get:∀{xs:List V}{us:List Value}{i:Nat}{x:V},Vals xs us->xs[i]? =some x->∃u,us[i]? =some u/\RelV x u |_,_,_,_,.nil,e=>by simp at e |_,_,0,_,.cons r _,e=>by simp at e;subst e;exact⟨_,rfl,r⟩ |_,_,i+1,x,.cons _ t,e=>by obtain⟨u,h1,h2⟩:=Vals.get (i:=i) (x:=x) t (by simpa using e);exact⟨u,by simpa using h1,h2⟩
theorem Vals.set{x:V}{u:Value}(r:RelV x u):∀{xs:List V}{us:List Value}(i:Nat),Vals xs us->Vals (xs.set i x) (us.set i u) |_,_,_,.nil=>.nil |_,_,0,.cons _ t=>.cons r t |_,_,i+1,.cons q t=>.cons q (Vals.set r i t)
theorem Vals.append:∀{xs ys:List V}{us ws:List Value},Vals xs us->Vals ys ws->Vals (xs++ys) (us++ws) |_,_,_,_,.nil,s=>s |_,_,_,_,.cons r t,s=>.cons r (Vals.append t s)
theorem Vals.take:∀{xs:List V}{us:List Value}(n:Nat),Vals xs us->Vals (xs.take n) (us.take n) |_,_,0,_=>.nil |_,_,_+1,.nil=>.nil |_,_,n+1,.cons r t=>.cons r (Vals.take n t)
theorem Vals.drop:∀{xs:List V}{us:List Value}(n:Nat),Vals xs us->Vals (xs.drop n) (us.drop n) |_,_,0,r=>r |_,_,_+1,.nil=>.nil |_,_,n+1,.cons _ t=>Vals.drop n t
def jr:Option V->Option Value->Prop |some v,some u=>RelV v u |none,none=>True |_,_=>False
def KV{κ:Type}:List (κ×V)->List (κ×Value)->Prop:=Paired fun(p:κ×V)(q:κ×Value)=>p.1=q.1/\RelV p.2 q.2
def kV:Key->V | .inl i=>.int i | .inr x=>.str x
inductive HO where /--a list -/ |lst (xs:List V) /--a tuple (never changes) -/ |tup (xs:List V) /--a dict W4 keys are ints and texts; one W4 keys are tuples of ints and texts (uA empty one is both) -/ |dK (aL:List (Key×V))|dT (aL:List (List Key×V)) /--a set of ints: its members,its size -/ |set (S:Int->Bool)(n:Nat) /--an instance of uA class at C,its dict at dx,its attributes -/ |ins (C dx:Addr)(fs:List (Str×V)) /--uA dict of uA instance at x -/ |own (x:Addr) /--uA dict of an exception -/ |xd (fs:List (Str×V)) /--a bound method,f of x -/ |met (f x:Addr) /--a range object lo,lo+1,.. below hi -/ |rQ (lo hi:Int) /--a WI aaU is known to uA object (uA DH; a dict while a loop walks it): read,never written while it is so -/ |m8 (o:Obj)(u:HO) /--a code ab7 table -/ |eZ (ps:Array Value) /--any other WI,by what is true of its one object (a def of ab6 own: acj a S n:=HO.ext fun h=>..) -/ |ext (φ:Heap->Prop)
abbrev Hp:=Addr->Option HO
def upd(H:Hp)(a:Addr)(o:HO):Hp:=fun b=>if b=a then some o else H b
theorem ba{H:Hp}{a:Addr}{o:HO}:upd H a o a=some o:=by unfold upd;rw[aY rfl]
theorem aK{H:Hp}{a b:Addr}{o:HO}(h:b≠a):upd H a o b=H b:=by unfold upd;rw[aZ h]
theorem xV{H:Hp}{a b:Addr}{o u:HO}(h:H a=some o)(h':H b=some u)(d:o≠u):a≠b:=by intro e;subst e;rw[h]at h';exact d (dG h')
theorem fQ{H:Hp}{a b:Addr}{o:HO}(h:H a=some o)(h':H b=none):a≠b:=by intro e;subst e;rw[h]at h';cases h'
section
variable (P:ah) (w:World)
def fC(H:Hp)(h:Heap)(a:Addr):HO->Prop | .lst xs=>xs.length<=sizeLine/\∃(its:List Value)(n:Nat),Vals xs its/\h.get? a=some {cls:=.type "list",data:=.seq its.toArray n} | .tup xs=>xs.length<=sizeLine/\∃its:List Value,Vals xs its/\IsTup h a its.toArray | .dK aL=>aL.length<=sizeLine/\(a==sysModules)=false/\∃vs,KV aL vs/\h.DictOf (jj P w) a vs | .dT aL=>aL.length<=sizeLine/\(a==sysModules)=false/\∃xs:List (List Key×Addr×Value),Paired (fun(p:List Key×V)(q:List Key×Addr×Value)=>p.1=q.1/\H q.2.1=some (.tup (p.1.map kV))/\RelV p.2 q.2.2) aL xs/\∃o es ep,h.get? a=some o/\o.ExactDict/\o.data= .dict es ep/\es.toList=xs.map (entryOfKey (tupleKind (jj P w)))/\(xs.map (·.1)).Nodup | .set S n=>h.SetOf (intKind P w) a S n | .ins C dx fs=>H dx=some (.own a)/\fs.length<=1000/\dx≠a/\h.get? a=some (PySem.W.instObj C dx)/\∃mA,h.Ns1 dx mA/\(∀f,jr (fs.lookup f) (mA f))/\PySem.Within mA (fs.map (·.1)) | .own _=>∃o,h.get? a=some o | .xd fs=>∃mA,h.Ns1 a mA/\∀f,jr (fs.lookup f) (mA f) | .rQ lo hi=>∃t u v,h.get? a=some {cls:=.type "range",data:=.fields #[.int lo t,.int hi u,.int 1 v]} | .m8 o u=>h.get? a=some o/\fC H h a u | .eZ ps=>h.get? a=some {cls:=.none,data:=.fields ps} | .met f x=>h.get? a=some (PySem.W.methodObj (.ref f) (.ref x)) | .ext φ=>φ h/\(∃o,h.get? a=some o)/\∀h1 h2:Heap,φ h1->(∀o,h1.get? a=some o->h2.get? a=some o)->φ h2
def dB(H:Hp)(h:Heap):Prop:=∀a o,H a=some o->fC P w H h a o
end
section
variable {P:ah}{w:World}{H H':Hp}{h h':Heap}{a:Addr}{o:HO}
theorem fC.lt(x:fC P w H h a o):a<h.objs.size:=by cases o with |lst xs=>obtain⟨_,_,_,_,e⟩:=x;exact cw e |tup xs=>obtain⟨_,_,_,p⟩:=x;exact p.lt |dK aL=>obtain⟨_,_,_,_,o,_,_,e,_⟩:=x;exact cw e |dT aL=>obtain⟨_,_,_,_,o,_,_,e,_⟩:=x;exact cw e |set S n=>obtain⟨o,_,_,_,e,_⟩:=x;exact cw e |ins C dx fs=>obtain⟨_,_,_,e,_⟩:=x;exact cw e |own y=>obtain⟨_,e⟩:=x;exact cw e |xd fs=>obtain⟨_,⟨_,_,_,e,_⟩,_⟩:=x;exact cw e |rQ lo hi=>obtain⟨_,_,_,e⟩:=x;exact cw e |m8 ob u=>obtain⟨e,_⟩:=x;exact cw e |eZ ps=>exact cw (show h.get? a=some _ from x) |met f y=>exact cw (show h.get? a=some _ from x) |ext φ=>obtain⟨_,⟨_,e⟩,_⟩:=x;exact cw e
theorem Paired.Gv{α β:Type}{F G:α->β->Prop}:∀{l₁:List α}{l₂:List β},Paired F l₁ l₂->(∀a b,F a b->G a b)->Paired G l₁ l₂ |_,_,.nil,_=>.nil |_,_,.cons r t,f=>.cons (f _ _ r) (Paired.Gv t f)
theorem fC.lQ(x:fC P w H h a o)(k:∀b u,(b=a\/H b=some (.own a))->h.get? b=some u->h'.get? b=some u) (ho:∀b,H b=some (.own a)->H' b=some (.own a))(ht:∀b xs,H b=some (.tup xs)->H' b=some (.tup xs)):fC P w H' h' a o:=by induction o with |lst xs=>obtain⟨z,its,n,r,e⟩:=x;exact⟨z,its,n,r,k _ _ (.inl rfl) e⟩ |tup xs=>obtain⟨z,its,r,ob,e,c⟩:=x;exact⟨z,its,r,ob,k _ _ (.inl rfl) e,c⟩ |dK aL=>obtain⟨z,y,vs,r,ob,es,ep,e,c⟩:=x;exact⟨z,y,vs,r,ob,es,ep,k _ _ (.inl rfl) e,c⟩ |dT aL=>obtain⟨z,y,xs,r,ob,es,ep,e,c⟩:=x;exact⟨z,y,xs,Paired.Gv r fun p q z=>⟨z.1,ht _ _ z.2.1,z.2.2⟩,ob,es,ep,k _ _ (.inl rfl) e,c⟩ |set S n=>obtain⟨ob,es,ep,t,e,c⟩:=x;exact⟨ob,es,ep,t,k _ _ (.inl rfl) e,c⟩ |ins C dx fs=>obtain⟨d,z,ne,e,mA,⟨od,es,ep,e2,c⟩,r⟩:=x;exact⟨ho _ d,z,ne,k _ _ (.inl rfl) e,mA,⟨od,es,ep,k _ _ (.inr d) e2,c⟩,r⟩ |own y=>obtain⟨ob,e⟩:=x;exact⟨ob,k _ _ (.inl rfl) e⟩ |xd fs=>obtain⟨mA,⟨od,es,ep,e,c⟩,r⟩:=x;exact⟨mA,⟨od,es,ep,k _ _ (.inl rfl) e,c⟩,r⟩ |rQ lo hi=>obtain⟨t,u,v,e⟩:=x;exact⟨t,u,v,k _ _ (.inl rfl) e⟩ |m8 ob u ih=>obtain⟨e,q⟩:=x;exact⟨k _ _ (.inl rfl) e,ih q⟩ |eZ ps=>have e:h.get? a=some {cls:=.none,data:=.fields ps}:=x;show h'.get? a=some {cls:=.none,data:=.fields ps};exact k a _ (.inl rfl) e |met f y=>have e:h.get? a=some (PySem.W.methodObj (.ref f) (.ref y)):=x;show h'.get? a=some (PySem.W.methodObj (.ref f) (.ref y));exact k a _ (.inl rfl) e |ext φ=>obtain⟨p,⟨o,e⟩,st⟩:=x;exact⟨st _ _ p fun o q=>k _ _ (.inl rfl) q,⟨o,k _ _ (.inl rfl) e⟩,st⟩
theorem dB.lt(x:dB P w H h)(e:H a=some o):a<h.objs.size:=(x a o e).lt
theorem dB.fresh(x:dB P w H h)(e:h.objs.size<=a):H a=none:=by cases q:H a with |none=>rfl |some u=>exact absurd (fU (x.lt q) e) (pE _)
theorem dB.kept(x:dB P w H h)(k:∀b u,h.get? b=some u->h'.get? b=some u):dB P w H h':=fun a o e=>(x a o e).lQ (fun b u _ q=>k b u q) (fun _ q=>q) fun _ _ q=>q
theorem dB.laid(x:dB P w H h)(k:∀b u,h.get? b=some u->h'.get? b=some u)(hp:h.objs.size<=a)(new:fC P w (upd H a o) h' a o):dB P w (upd H a o) h':=fun b u e=>by
 have hn:=x.fresh hp;by_cases hb:b=a
 ·subst hb;rw[ba]at e;cases e;exact new
 · rw[aK hb]at e
   exact(x b u e).lQ (fun c v _ q=>k c v q) (fun c q=>by rw[aK (fQ q hn)];exact q) fun c xs q=>by rw[aK (fQ q hn)];exact q
end
def Rd(H:Hp)(a:Addr)(u:HO):Prop:=H a=some u\/∃o,H a=some (.m8 o u)
theorem Rd.ok{P:ah}{w:World}{H:Hp}{h:Heap}{a:Addr}{u:HO}(r:Rd H a u)(x:dB P w H h):fC P w H h a u:=by
 rcases r with r|⟨o,r⟩
 ·exact x a u r
 · obtain⟨_,q⟩:=x a _ r
   exact q
def yZ:Option HO->Prop |some (.lst _)=>True |some (.dK _)=>True |some (.dT _)=>True |some (.set _ _)=>True |some (.ins _ _ _)=>True |some (.ext _)=>True |_=>False
section
variable {P:ah}{w:World}{H:Hp}{h h':Heap}{x e:Addr}{o':HO}
theorem dB.write(ok:dB P w H h)(mu:yZ (H x))(he:e=x\/H e=some (.own x))(k:∀b u,b≠e->h.get? b=some u->h'.get? b=some u)(vN:∃u,h'.get? e=some u) (new:fC P w (upd H x o') h' x o'):dB P w (upd H x o') h':=fun b u q=>by
  have Of:∀c y,H c=some (.own y)->c≠x:=fun c y r z=>by subst z;rw[r]at mu;exact mu
  have a2c:∀c xs,H c=some (.tup xs)->c≠x:=fun c xs r z=>by subst z;rw[r]at mu;exact mu
  by_cases hb:b=x
  ·subst hb;rw[ba]at q;cases q;exact new
  · rw[aK hb]at q
    by_cases tI:b=e
    · have q':H b=some (.own x):=by
        rcases he with z|z
        ·exact absurd (tI.trans z) hb
        ·rw[tI];exact z
      rw[q]at q';cases q';obtain⟨v,hv⟩:=vN;exact⟨v,by rw[tI];exact hv⟩
    · refine(ok b u q).lQ (fun c v hc r=>k c v ?_ r) (fun c r=>by rw[aK (Of c b r)];exact r) fun c xs r=>by rw[aK (a2c c xs r)];exact r
      rcases hc with rfl|hc
      ·exact tI
      · rintro rfl
        rcases he with z|z
        ·exact Of c b hc z
        ·rw[hc]at z;cases z;exact hb rfl
end
structure Un(fs ex:List Addr)(H H':Hp)(h h':Heap):Prop where
 keep:∀b o,h.get? b=some o->H b=none->b∉fs->b∉ex->h'.get? b=some o
 slot:∀b o,h.get? b=some o->H b=none->b∈fs->b∉ex->∃sl,h'.get? b=some {o with slots:=sl}
 free:∀b o,h.get? b=some o->H b=none->b∉ex->H' b=none
 there:∀b o,h.get? b=some o->b∉ex->∃o',h'.get? b=some o'
 jX:∀b xs,H b=some (.tup xs)->H' b=some (.tup xs)
 jK:∀b o u,H b=some (.m8 o u)->H' b=some (.m8 o u)
 jC:∀b ps,H b=some (.eZ ps)->∃more,H' b=some (.eZ (ps++more))
section
variable {fs fs' ex oX:List Addr}{H H1 H2:Hp}{h h1 h2 h':Heap}{a x e:Addr}{o:HO}
theorem Un.any(u:Un fs ex H H1 h h1){b:Addr}{ob:Obj}(q:h.get? b=some ob)(n:H b=none)(hx:b∉ex):∃sl,h1.get? b=some {ob with slots:=sl}:=by
 by_cases hb:b∈fs
 ·exact u.slot b ob q n hb hx
 ·exact⟨ob.slots,u.keep b ob q n hb hx⟩
theorem Un.kept(k:∀b u,h.get? b=some u->h'.get? b=some u):Un fs ex H H h h':=⟨fun b ob q _ _ _=>k b ob q,fun b ob q _ _ _=>⟨ob.slots,k b ob q⟩,fun _ _ _ n _=>n,fun b ob q _=>⟨ob,k b ob q⟩,fun _ _ q=>q,fun _ _ _ q=>q,fun _ ps q=>⟨#[],by rw[q];simp⟩⟩
theorem Un.refl:Un fs ex H H h h:=Un.kept fun _ _ q=>q
theorem Un.laid(k:∀b u,h.get? b=some u->h'.get? b=some u)(hp:h.objs.size<=a)(hn:H a=none):Un fs ex H (upd H a o) h h' where
 keep:=fun b u q _ _ _=>k b u q
 slot:=fun b u q _ _ _=>⟨u.slots,k b u q⟩
 free:=fun b u q n _=>by rw[aK (fm (fU (cw q) hp))];exact n
 there:=fun b u q _=>⟨u,k b u q⟩
 jX:=fun b xs q=>by rw[aK (fQ q hn)];exact q
 jK:=fun b u xs q=>by rw[aK (fQ q hn)];exact q
 jC:=fun b ps q=>⟨#[],by rw[aK (fQ q hn),q];simp⟩
theorem Un.write(mu:yZ (H x))(he:e=x\/H e=some (.own x))(k:∀b u,b≠e->h.get? b=some u->h'.get? b=some u)(vN:∃u,h'.get? e=some u):Un fs ex H (upd H x o) h h':=by
 have hx:∀b,H b=none->b≠x:=fun b n z=>by subst z;rw[n]at mu;exact mu
 have hb:∀b,H b=none->b≠e:=fun b n z=>by
  subst z;rcases he with r|r
  ·exact hx b n r
  ·rw[n]at r;cases r
 have hm:∀b u,H b=some u->¬yZ (some u)->b≠x:=fun b u q nm z=>by subst z;rw[q]at mu;exact nm mu
 refine⟨fun b u q n _ _=>k b u (hb b n) q,fun b u q n _ _=>⟨u.slots,k b u (hb b n) q⟩,fun b u q n _=>by rw[aK (hx b n)];exact n,fun b u q _=>?_,fun b xs q=>by rw[aK (hm b _ q fun z=>z)];exact q,fun b u xs q=>by rw[aK (hm b _ q fun z=>z)];exact q,fun b ps q=>⟨#[],by rw[aK (hm b _ q fun z=>z),q];simp⟩⟩;by_cases tI:b=e
 ·subst tI;exact vN
 ·exact⟨u,k b u tI q⟩
end
def zM(h:Heap)(H:Hp):List Addr:=(List.range h.objs.size).filter fun a=>(H a).isSome
def mR(h:Heap)(H:Hp):Heap:=PySem.W.hideAll h (zM h H)
theorem a5m(h:Heap)(H:Hp):(mR h H).objs.size=h.objs.size:=PySem.W.hideAll_size _ _
theorem a5n{h:Heap}{H:Hp}{b:Addr}{o:Obj}(e:h.get? b=some o)(n:H b=none):(mR h H).get? b=some o:=JE _ e fun hm=>by have q:(H b).isSome=true:=(List.mem_filter.mp hm).2;rw[n]at q;simp at q
theorem a28{h:Heap}{H:Hp}{b:Addr}{o:Obj}(e:(mR h H).get? b=some o):h.get? b=some o/\H b=none:=by have e':h.get? b=some o:=PySem.W.of_hideAll (zM h H) e;refine⟨e',?_⟩;cases q:H b with |none=>rfl |some x=>have hm:b∈zM h H:=List.mem_filter.mpr ⟨List.mem_range.mpr (cw e'),by simp[q]⟩;have z:(mR h H).get? b=none:=PySem.W.hideAll_none (zM h H) hm;rw[z]at e;cases e
structure Mod(K:aa)(mg:Str->Option Value)(base:Heap):Prop where
 oE:K.In base
 glob:base.Ns mainGlobals mg
 blt:∃mb,base.Ns builtinsNs mb/\∀x:Str,x≠"__name__"->mb x=bootBuiltins x
 nolimit:base.NoLimit
structure Cx where
 prog:ah
 w:World
 K:aa
 mg:Str->Option Value
 base:Heap
 A:aj
 N:List Str
 s₀:ae
 H₀:Hp
 env:Env
 outer:List Env
 stack:List Env
 ex:List Addr
 fn:Str->Bool
 calm:Bool
 pn:List (Addr×Obj)
 xe:Value->ae->Prop
def da(l:List Env):List Addr:=l.filterMap (·.frame)
abbrev Cx.fs(X:Cx):List Addr:=da X.outer
def C6(sc:Scope)(x:Str):Prop:=sc.names.lookup x=some .local\/sc.names.lookup x=some .cell\/sc.names.lookup x=some .free
def Loc(sc:Scope)(x:Str):Prop:=sc.names.lookup x=some .local\/sc.names.lookup x=some .cell
def Look(env:Env)(h:Heap)(m:Str->Option Value)(x:Str)(u:Value):Prop:=(env.kindOf x=some .local/\m x=some u)\/((env.kindOf x=some .cell\/env.kindOf x=some .free)/\∃c,env.cells.lookup x=some c/\h.IsCell c (some u))
structure Cx.Ok(X:Cx):Prop where
 mod:Mod X.K X.mg X.base
 kind:X.env.scope.kind= .function
 glob:X.env.globals=mainGlobals
 blt:X.env.builtins=builtinsNs
 above:X.s₀.heap.objs.size<=X.env.locals
 inj:∀x y c,X.env.cells.lookup x=some c->X.env.cells.lookup y=some c->x=y
 has:∀x,(X.env.kindOf x=some .cell\/X.env.kindOf x=some .free)->∃c,X.env.cells.lookup x=some c
 qH:∀x c,X.fn x=true->X.env.cells.lookup x=some c->X.s₀.heap.objs.size<=c
 hd:X.calm=true->X.A.handled=none
 frames:X.A.frames=some X.stack
 uE:X.stack=X.outer\/(X.stack=X.env::X.outer/\X.env.frame=some X.env.locals)
 BG:∀b∈X.ex,b≠X.env.locals/\∀x c,X.env.cells.lookup x=some c->c≠b
 bs:∀b o,X.base.get? b=some o->X.s₀.heap.get? b=some o/\X.H₀ b=none
 lN:X.base.objs.size<=X.s₀.heap.objs.size
 sF:∀b o,X.base.get? b=some o->b∉X.ex
 qB:∀b∈X.ex,b∉X.fs
 jo:X.s₀.heap.FunFrames X.base X.outer
 mU:∀b∈X.fs,X.H₀ b=none
structure Inv(X:Cx)(au:List (Addr×Obj))(Z:List (Option V))(H:Hp)(s:ae):Prop where
 ok:X.Ok
 os:s.os=X.s₀.os
 bare:AllBare s.gens
 base:Un X.fs X.ex X.H₀ H X.s₀.heap s.heap
 loc:∃m,s.heap.Ns X.env.locals m/\∀(i:Nat)(x:Str)(v:V),X.N[i]? =some x->Z[i]? =some (some v)->C6 X.env.scope x->∃u,RelV v u/\Look X.env s.heap m x u
 cell:∀x c,X.env.cells.lookup x=some c->∃v,s.heap.IsCell c v
 free:H X.env.locals=none
 jL:∀x c,X.env.cells.lookup x=some c->H c=none
 pin:∀p∈X.pn++au,s.heap.get? p.1=some p.2/\H p.1=none/\p.1≠X.env.locals/\p.1∉X.fs/\∀v,p.2.data≠ .cell v
 aV:dB X.prog X.w H s.heap
 len:Z.length=X.N.length
section
variable {X:Cx}{au:List (Addr×Obj)}{Z:List (Option V)}{H H':Hp}{s:ae}{h':Heap}
theorem Cx.Ok.a2j(ok:X.Ok){b:Addr}{o:Obj}(e:X.base.get? b=some o):b∉X.fs:=fun hb=>by have:=(ok.jo.mem hb).1;rw[e]at this;cases this
theorem Inv.bs(I:Inv X au Z H s):∀b o,X.base.get? b=some o->s.heap.get? b=some o/\H b=none:=fun b o e=>⟨I.base.keep b o (I.ok.bs b o e).1 (I.ok.bs b o e).2 (I.ok.a2j e) (I.ok.sF b o e),I.base.free b o (I.ok.bs b o e).1 (I.ok.bs b o e).2 (I.ok.sF b o e)⟩
theorem Inv.bk(I:Inv X au Z H s):∀b o,X.base.get? b=some o->s.heap.get? b=some o:=fun b o e=>(I.bs b o e).1
theorem Inv.mod(I:Inv X au Z H s):Mod X.K X.mg X.base:=I.ok.mod
theorem Inv.gk(I:Inv X au Z H s):X.K.In s.heap:=I.ok.mod.oE.keeps I.bk
theorem Inv.lt(I:Inv X au Z H s):X.env.locals<s.heap.objs.size:=let⟨_,hn,_⟩:=I.loc;hn.lt
theorem Inv.sz(I:Inv X au Z H s):X.s₀.heap.objs.size<=s.heap.objs.size:=ib I.ok.above (JM I.lt)
theorem Inv.Oi(I:Inv X au Z H s){a:Addr}(h:s.heap.objs.size<=a):a∉X.fs:=fun hb=>by obtain⟨_,o,ho,_⟩:=I.ok.jo.mem hb;exact absurd (fU (cw ho) (ib I.sz h)) (pE _)
theorem Inv.jO(I:Inv X au Z H s):∀x c,X.env.cells.lookup x=some c->c≠X.env.locals:=fun x c e z=>by obtain⟨v,o,ho,hd⟩:=I.cell x c e;obtain⟨m,⟨o',es,ep,lY,vO,_⟩,_⟩:=I.loc;rw[z,lY]at ho;cases ho;rw[vO]at hd;cases hd
theorem Inv.jo(I:Inv X au Z H s):s.heap.FunFrames X.base X.outer:=by
 have all:∀(l:List Env),(∀b∈da l,b∈X.fs)->X.s₀.heap.FunFrames X.base l->s.heap.FunFrames X.base l:=by intro l;induction l with |nil=>intro _ _;trivial |cons env r ih=>intro hs hl;obtain⟨hk,⟨L,o,hf,hn,ho,hd⟩,hr⟩:=hl;have hL:L∈X.fs:=hs L (by unfold da;rw[VM,hf];exact JP);obtain⟨sl,e⟩:=I.base.slot L o ho (I.ok.mU L hL) hL fun z=>I.ok.qB L z hL;exact⟨hk,⟨L,_,hf,hn,e,hd⟩,ih (fun b hb=>hs b (by unfold da;rw[VM,hf];exact ie _ hb)) hr⟩
 exact all X.outer (fun _ hb=>hb) I.ok.jo
theorem Inv.stack(I:Inv X au Z H s):s.heap.FunFrames X.base X.stack:=by
 rcases I.ok.uE with e|⟨e,hf⟩
 ·rw[e];exact I.jo
 · rw[e]
   obtain⟨m,hn,_⟩:=I.loc;refine .cons (by rw[I.ok.kind];decide) hf hn ?_ I.jo;exact Heap.get?_none_of_le (ib I.ok.lN I.ok.above)
theorem Inv.xg(I:Inv X au Z H s):∀b∈da X.stack,b∈X.env.locals::X.fs:=fun b hb=>by
 rcases I.ok.uE with e|⟨e,hf⟩
 ·rw[e]at hb;exact ie _ hb
 · rw[e]at hb
   unfold da at hb;rw[VM,hf]at hb;exact hb
theorem Inv.zT(I:Inv X au Z H s):∀b∈da X.stack,H b=none:=fun b hb=>by
 rcases bI.mp (I.xg b hb)with e|hb
 ·rw[e];exact I.free
 · obtain⟨_,o,ho,_⟩:=I.ok.jo.mem hb
   exact I.base.free b o ho (I.ok.mU b hb) fun z=>I.ok.qB b z hb
theorem Inv.step{g':Array GenState}{t':Nat}{d':Drawn}{ch:List Addr}(I:Inv X au Z H s) (mS:∀b∈ch,(b∈X.ex\/X.s₀.heap.objs.size<=b)/\b≠X.env.locals/\(∀x c,X.env.cells.lookup x=some c->c≠b)/\∀p∈X.pn++au,p.1≠b) (keep:∀b o,b≠X.env.locals->b∉X.fs->b∉ch->s.heap.get? b=some o->H b=none->h'.get? b=some o) (slot:∀b o,b≠X.env.locals->b∈X.fs->b∉ch->s.heap.get? b=some o->H b=none->∃sl,h'.get? b=some {o with slots:=sl})(free:∀b o,b∉ch->s.heap.get? b=some o->H b=none->H' b=none) (there:∀b o,b∉ch->s.heap.get? b=some o->∃o',h'.get? b=some o') (jX:∀b xs,H b=some (.tup xs)->H' b=some (.tup xs))(jK:∀b o u,H b=some (.m8 o u)->H' b=some (.m8 o u))(jC:∀b ps,H b=some (.eZ ps)->∃more,H' b=some (.eZ (ps++more))) (ns:∀m,s.heap.Ns X.env.locals m->h'.Ns X.env.locals m)(aV:dB X.prog X.w H' h')(hg:AllBare g'): Inv X au Z H' {s with heap:=h',gens:=g',drawn:=d',toks:=t'}:=by
  have Ov:∀b o,X.s₀.heap.get? b=some o->b≠X.env.locals:=fun b o e=>fm (fU (cw e) I.ok.above);have Aw:∀b o,X.s₀.heap.get? b=some o->b∉X.ex->b∉ch:=fun b o e hx hb=>by
   rcases(mS b hb).1 with z|z
   ·exact hx z
   ·exact absurd (fU (cw e) z) (pE _)
  have cellK:∀x c,X.env.cells.lookup x=some c->∀v,s.heap.IsCell c v->h'.IsCell c v:=fun x c e v ⟨o,ho,hd⟩=>by
   have xW:c∉ch:=fun z=>(mS c z).2.2.1 x c e rfl;by_cases hc:c∈X.fs
   · obtain⟨sl,q⟩:=slot c o (I.jO x c e) hc xW ho (I.jL x c e)
     exact⟨_,q,hd⟩
   ·exact⟨o,keep c o (I.jO x c e) hc xW ho (I.jL x c e),hd⟩
  refine⟨I.ok,I.os,hg,⟨fun b o e n hb hx=>?_,fun b o e n hb hx=>?_,fun b o e n hx=>?_,fun b o e hx=>?_,fun b xs e=>jX b xs (I.base.jX b xs e),fun b o xs e=>jK b o xs (I.base.jK b o xs e),fun b ps e=>?_⟩,?_,fun x c e=>?_,?_,fun x c e=>?_,fun p hp=>?_,aV,I.len⟩
  ·exact keep b o (Ov b o e) hb (Aw b o e hx) (I.base.keep b o e n hb hx) (I.base.free b o e n hx)
  · obtain⟨sl,e1⟩:=I.base.slot b o e n hb hx
    obtain⟨DD,e2⟩:=slot b _ (Ov b o e) hb (Aw b o e hx) e1 (I.base.free b o e n hx);exact⟨DD,e2⟩
  · obtain⟨o',e1⟩:=I.base.there b o e hx
    exact free b o' (Aw b o e hx) e1 (I.base.free b o e n hx)
  · obtain⟨o',e1⟩:=I.base.there b o e hx
    exact there b o' (Aw b o e hx) e1
  · obtain⟨m1,e1⟩:=I.base.jC b ps e
    obtain⟨m2,e2⟩:=jC b _ e1;exact⟨m1++m2,by rw[e2,Array.append_assoc]⟩
  · obtain⟨m,hn,hl⟩:=I.loc
    refine⟨m,ns m hn,fun i x v e1 e2 e3=>?_⟩;obtain⟨u,r,l⟩:=hl i x v e1 e2 e3;refine⟨u,r,?_⟩;rcases l with l|⟨k,c,e,z⟩
    ·exact .inl l
    ·exact .inr ⟨k,c,e,cellK x c e _ z⟩
  · obtain⟨v,z⟩:=I.cell x c e
    exact⟨v,cellK x c e v z⟩
  · obtain⟨m,⟨o,_,_,ho,_⟩,_⟩:=I.loc
    exact free _ o (fun z=>(mS _ z).2.1 rfl) ho I.free
  · obtain⟨v,o,ho,hd⟩:=I.cell x c e
    exact free c o (fun z=>(mS c z).2.2.1 x c e rfl) ho (I.jL x c e)
  · obtain⟨e,n,ne,nf,d⟩:=I.pin p hp
    have xW:p.1∉ch:=fun z=>(mS p.1 z).2.2.2 p hp rfl;exact⟨keep p.1 p.2 ne nf xW e n,free p.1 p.2 xW e n,ne,nf,d⟩
theorem Inv.un{t':Nat}(I:Inv X au Z H s)(u:Un X.fs [] H H' s.heap h')(aV:dB X.prog X.w H' h'):Inv X au Z H' {s with heap:=h',toks:=t'}:=by obtain⟨m,⟨o,es,ep,ho,r⟩,_⟩:=id I.loc;obtain⟨sl,hL⟩:=u.any ho I.free (by simp);exact I.step (g':=s.gens) (d':=s.drawn) (ch:=[]) (fun _ z=>nomatch z) (fun b o _ hb _ e n=>u.keep b o e n hb (by simp)) (fun b o _ hb _ e n=>u.slot b o e n hb (by simp)) (fun b o _ e n=>u.free b o e n (by simp)) (fun b o _ e=>u.there b o e (by simp)) u.jX u.jK u.jC (fun m' hm=>by obtain⟨o',oY,IE,lY,r'⟩:=hm;rw[ho]at lY;cases lY;exact⟨_,oY,IE,hL,r'⟩) aV I.bare
theorem Inv.call{g':Array GenState}{t':Nat}{d':Drawn}{ch:List Addr}(I:Inv X au Z H s)(u:Un (da X.stack) ch H H' s.heap h')(aV:dB X.prog X.w H' h')(hg:AllBare g') (mS:∀b∈ch,(b∈X.ex\/X.s₀.heap.objs.size<=b)/\b≠X.env.locals/\(∀x c,X.env.cells.lookup x=some c->c≠b)/\∀p∈X.pn++au,p.1≠b): Inv X au Z H' {s with heap:=h',gens:=g',drawn:=d',toks:=t'}:=by obtain⟨m,⟨o,es,ep,ho,r⟩,_⟩:=id I.loc;obtain⟨sl,hL⟩:=u.any ho I.free fun z=>(mS _ z).2.1 rfl;exact I.step (ch:=ch) mS (fun b o hL hb hc e n=>u.keep b o e n (fun z=>(bI.mp (I.xg b z)).elim hL hb) hc) (fun b o _ _ hc e n=>u.any e n hc) (fun b o hc e n=>u.free b o e n hc) (fun b o hc e=>u.there b o e hc) u.jX u.jK u.jC (fun m' hm=>by obtain⟨o',oY,IE,lY,r'⟩:=hm;rw[ho]at lY;cases lY;exact⟨_,oY,IE,hL,r'⟩) aV hg
theorem Inv.turned{t':Nat}{it:Addr}(I:Inv X au Z H s)(k:∀b o,b≠it->s.heap.get? b=some o->h'.get? b=some o)(hn:H it=none)(hL:it≠X.env.locals) (h1:it∈X.ex\/X.s₀.heap.objs.size<=it)(h2:∀x c,X.env.cells.lookup x=some c->c≠it)(h3:∀p∈X.pn++au,p.1≠it):Inv X au Z H {s with heap:=h',toks:=t'}:=by
  have xT:∀b u,H b=some u->b≠it:=fun b u e z=>by rw[z,hn]at e;cases e
  refine I.step (g':=s.gens) (d':=s.drawn) (ch:=[it]) (fun b hb=>?_) (fun b o _ _ hc e _=>k b o (fun z=>hc (by simp[z])) e) (fun b o _ _ hc e _=>⟨o.slots,k b o (fun z=>hc (by simp[z])) e⟩) (fun _ _ _ _ n=>n) (fun b o hc e=>⟨o,k b o (fun z=>hc (by simp[z])) e⟩) (fun _ _ e=>e) (fun _ _ _ e=>e) (fun b ps e=>⟨#[],by rw[e];simp⟩) (fun m hm=>?_) (fun b u e=>?_) I.bare
  · have e:b=it:=by simpa using hb
    subst e;exact⟨h1,hL,h2,h3⟩
  · obtain⟨o,es,ep,ho,r⟩:=hm
    exact⟨o,es,ep,k _ o (eR hL) ho,r⟩
  · refine(I.aV b u e).lQ (fun c v hc q=>k c v ?_ q) (fun _ q=>q) fun _ _ q=>q
    rcases hc with z|z
    ·rw[z];exact xT b u e
    ·exact xT c _ z
theorem Inv.tok(I:Inv X au Z H s)(t:Nat):Inv X au Z H {s with toks:=t}:=I.un (h':=s.heap) (t':=t) Un.refl I.aV
theorem Inv.kept{t':Nat}(I:Inv X au Z H s)(k:∀b u,s.heap.get? b=some u->h'.get? b=some u):Inv X au Z H {s with heap:=h',toks:=t'}:=I.un (Un.kept k) (I.aV.kept k)
theorem Inv.laid{a:Addr}{o:HO}{t':Nat}(I:Inv X au Z H s)(k:∀b u,s.heap.get? b=some u->h'.get? b=some u)(hp:s.heap.objs.size<=a)(new:fC X.prog X.w (upd H a o) h' a o): Inv X au Z (upd H a o) {s with heap:=h',toks:=t'}:=I.un (Un.laid k hp (I.aV.fresh hp)) (I.aV.laid k hp new)
theorem Inv.write{x e:Addr}{o:HO}{t':Nat}(I:Inv X au Z H s)(mu:yZ (H x))(he:e=x\/H e=some (.own x))(k:∀b u,b≠e->s.heap.get? b=some u->h'.get? b=some u)(vN:∃u,h'.get? e=some u) (new:fC X.prog X.w (upd H x o) h' x o):Inv X au Z (upd H x o) {s with heap:=h',toks:=t'}:=I.un (Un.write mu he k vN) (I.aV.write mu he k vN new)
theorem Inv.NL{FY:List (Addr×Obj)}(I:Inv X au Z H s)(h:∀p∈FY,s.heap.get? p.1=some p.2/\H p.1=none/\p.1≠X.env.locals/\p.1∉X.fs/\∀v,p.2.data≠ .cell v):Inv X FY Z H s:=⟨I.ok,I.os,I.bare,I.base,I.loc,I.cell,I.free,I.jL,fun p hp=>(uo.mp hp).elim (fun z=>I.pin p (VJ _ z)) (h p),I.aV,I.len⟩
theorem Gf{N:List Str}(hN:N.Nodup){i j:Nat}{x:Str}(a:N[i]? =some x)(b:N[j]? =some x):i=j:=by obtain⟨h1,e1⟩:=dC.mp a;obtain⟨h2,e2⟩:=dC.mp b;exact(List.getElem_inj hN).mp (e1.trans e2.symm)
theorem KH{M:Model}{A:aj}{E:Value->ae->Prop}{i:Nat}{x:Str}{v:V}{u:Value}{Q:Unit->ae->Prop}(I:Inv X au Z H s)(hN:X.N.Nodup)(hi:X.N[i]? =some x)(hx:Loc X.env.scope x)(r:RelV v u) (h:∀s',Inv X au (Z.set i (some v)) H s'->(∃a,Heap.SameBut a s.heap s'.heap/\(a=X.env.locals\/X.env.cells.lookup x=some a))->Q () s')(hf:X.fn x=true\/X.env.scope.names.lookup x=some .local:=by first|exact .inl rfl|exact .inr rfl|assumption):wpAny M A (storeName X.env x u) Q E s:=by
  obtain⟨m,hn,hl⟩:=id I.loc;have yp:(X.env.scope.kind== .class||(X.env.scope.kind== .module&&X.env.locals !=X.env.globals))=false:=by rw[I.ok.kind];rfl
  have Bh:i<Z.length:=by rw[I.len];exact(dC.mp hi).1
  have jO:=I.jO;have tracked:∀{a:Addr}{h':Heap},(∃o,s.heap.get? a=some o/\H a=none)->Heap.SameBut a s.heap h'->dB X.prog X.w H h':=fun{a h'} ha hs b ob e=>by
   obtain⟨_,_,vM⟩:=ha;refine(I.aV b ob e).lQ (fun c w' hc q=>(hs.2 c ?_).trans q) (fun _ q=>q) fun _ _ q=>q;rintro rfl;rcases hc with rfl|hc
   ·rw[vM]at e;cases e
   ·rw[vM]at hc;cases hc
  rcases hx with hk|hk
  · refine wpAny_storeName_local hk hn (fun h' yo hs=>?_) yp
    obtain⟨oL,_,_,PM,_⟩:=id hn;refine h _ ⟨I.ok,I.os,I.bare,⟨fun b o e n hb hx=>?_,fun b o e n hb hx=>?_,I.base.free,fun b o e hx=>?_,I.base.jX,I.base.jK,I.base.jC⟩,⟨_,yo,fun j y v' e1 e2 e3=>?_⟩,fun y c e=>?_,I.free,I.jL,fun p hp=>?_,tracked ⟨oL,PM,I.free⟩ hs,by simpa using I.len⟩ ⟨_,hs,.inl rfl⟩
    ·exact(hs.2 b (fm (fU (cw e) I.ok.above))).trans (I.base.keep b o e n hb hx)
    · obtain⟨sl,e1⟩:=I.base.slot b o e n hb hx
      exact⟨sl,(hs.2 b (fm (fU (cw e) I.ok.above))).trans e1⟩
    · obtain⟨o',e1⟩:=I.base.there b o e hx
      exact⟨o',(hs.2 b (fm (fU (cw e) I.ok.above))).trans e1⟩
    · by_cases hj:j=i
      · subst hj
        rw[hi]at e1;cases e1;rw[zr Bh]at e2;cases e2;exact⟨u,r,.inl ⟨hk,by simp⟩⟩
      · rw[JT (eR hj)]at e2
        obtain⟨u',r',q⟩:=hl j y v' e1 e2 e3;refine⟨u',r',?_⟩;rcases q with⟨k,e⟩|⟨k,c,e,z⟩
        · refine .inl ⟨k,?_⟩
          have:y≠x:=fun e=>hj (Gf hN e1 (e▸hi));simp[this,e]
        ·exact .inr ⟨k,c,e,z.sameBut hs (jO y c e)⟩
    · obtain⟨w',z⟩:=I.cell y c e
      exact⟨w',z.sameBut hs (jO y c e)⟩
    · obtain⟨e,n,ne,nf,d⟩:=I.pin p hp
      exact⟨(hs.2 p.1 ne).trans e,n,ne,nf,d⟩
  · have qo:X.fn x=true:=by
      rcases hf with z|z
      ·exact z
      ·rw[z]at hk;cases hk
    obtain⟨c,hc⟩:=I.ok.has x (.inl hk);obtain⟨w',z⟩:=I.cell x c hc;refine wpAny_storeName_cell I.ok.kind hk hc z (fun h' iy hs=>?_);obtain⟨oc,PL,a4S⟩:=id z;refine h {s with heap:=h'} ⟨I.ok,I.os,I.bare,⟨fun b o e n hb hx=>?_,fun b o e n hb hx=>?_,I.base.free,fun b o e hx=>?_,I.base.jX,I.base.jK,I.base.jC⟩,⟨m,hn.sameBut hs (eR (jO x c hc)),fun j y v' e1 e2 e3=>?_⟩,fun y c' e=>?_,I.free,I.jL,fun p hp=>?_,tracked ⟨oc,PL,I.jL x c hc⟩ hs,by simpa using I.len⟩ ⟨c,hs,.inr hc⟩
    ·exact(hs.2 b (fm (fU (cw e) (I.ok.qH x c qo hc)))).trans (I.base.keep b o e n hb hx)
    · obtain⟨sl,e1⟩:=I.base.slot b o e n hb hx
      exact⟨sl,(hs.2 b (fm (fU (cw e) (I.ok.qH x c qo hc)))).trans e1⟩
    · obtain⟨o',e1⟩:=I.base.there b o e hx
      exact⟨o',(hs.2 b (fm (fU (cw e) (I.ok.qH x c qo hc)))).trans e1⟩
    · by_cases hj:j=i
      · subst hj
        rw[hi]at e1;cases e1;rw[zr Bh]at e2;cases e2;exact⟨u,r,.inr ⟨.inl hk,c,hc,iy⟩⟩
      · rw[JT (eR hj)]at e2
        obtain⟨u',r',q⟩:=hl j y v' e1 e2 e3;refine⟨u',r',?_⟩;rcases q with q|⟨k,c',e,z'⟩
        ·exact .inl q
        · refine .inr ⟨k,c',e,z'.sameBut hs ?_⟩
          rintro rfl;exact hj (Gf hN e1 (I.ok.inj _ _ _ e hc▸hi))
    · by_cases Q4:c'=c
      ·subst Q4;exact⟨_,iy⟩
      · obtain⟨w2,z2⟩:=I.cell y c' e
        exact⟨w2,z2.sameBut hs Q4⟩
    · obtain⟨e,n,ne,nf,d⟩:=I.pin p hp
      refine⟨(hs.2 p.1 ?_).trans e,n,ne,nf,d⟩;intro q;rw[q,PL]at e;have q':oc=p.2:=dG e;exact d w' (by rw[<-q'];exact a4S)
theorem uD{M:Model}{A:aj}{E:Value->ae->Prop}{i:Nat}{x:Str}{v:V}{u:Value}{Q:Unit->ae->Prop}(I:Inv X au Z H s)(hN:X.N.Nodup)(hi:X.N[i]? =some x)(hx:Loc X.env.scope x)(r:RelV v u) (h:∀s',Inv X au (Z.set i (some v)) H s'->Q () s')(hf:X.fn x=true\/X.env.scope.names.lookup x=some .local:=by first|exact .inl rfl|exact .inr rfl|assumption):wpAny M A (storeName X.env x u) Q E s:=KH I hN hi hx r (fun s' I' _=>h s' I') hf
theorem Inv.BV{s':ae}{ch:List Addr}(I:Inv X au Z H s)(ho:s'.os=s.os)(u:Un (da X.stack) ch H H' s.heap s'.heap)(aV:dB X.prog X.w H' s'.heap)(hg:AllBare s'.gens) (mS:∀b∈ch,(b∈X.ex\/X.s₀.heap.objs.size<=b)/\b≠X.env.locals/\(∀x c,X.env.cells.lookup x=some c->c≠b)/\∀p∈X.pn++au,p.1≠b):Inv X au Z H' s':=by obtain⟨h',g',d',t',o'⟩:=s';have e:o'=s.os:=ho;subst e;exact I.call (g':=g') (t':=t') (d':=d') u aV hg mS
end
abbrev XK:=Value->Option Addr->Hp->Prop
abbrev St:=List (Option V)
abbrev VK:=V->Hp->Prop
abbrev TE:=St->Hp->VK->Prop
abbrev TT:=St->Hp->(Bool->Hp->Prop)->Prop
abbrev TA:=St->Hp->(List V->Hp->Prop)->Prop
structure Ends where
 nx:St->Hp->Prop
 rt:VK
 bk:St->Hp->Prop:=fun _ _=>False
 ct:St->Hp->Prop:=fun _ _=>False
abbrev TS:=Ends->St->Hp->Prop
def EP(X:Cx)(au:List (Addr×Obj))(Z:St)(Q:VK)(u:Value)(s':ae):Prop:=∃v H',Inv X au Z H' s'/\RelV v u/\Q v H'
def TP(X:Cx)(au:List (Addr×Obj))(Z:St)(Q:Bool->Hp->Prop)(b:Bool)(s':ae):Prop:=∃H',Inv X au Z H' s'/\Q b H'
def AP(X:Cx)(au:List (Addr×Obj))(Z:St)(Q:List V->Hp->Prop)(us:List Value)(s':ae):Prop:=∃vs H',Inv X au Z H' s'/\Vals vs us/\Q vs H'
def SP(X:Cx)(au:List (Addr×Obj))(D:Ends)(f:Flow)(s':ae):Prop:=match f with | .next=>∃σ' H',Inv X au σ' H' s'/\D.nx σ' H' | .brk=>∃σ' H',Inv X au σ' H' s'/\D.bk σ' H' | .cont=>∃σ' H',Inv X au σ' H' s'/\D.ct σ' H' | .ret u=>∃v σ' H',Inv X au σ' H' s'/\RelV v u/\D.rt v H'
def PE(X:Cx)(e:Expr)(t:TE):Prop:=∀(au:List (Addr×Obj))(s:ae)(Z:St)(H:Hp)(Q:VK),Inv X au Z H s->t Z H Q->wpAny (model X.prog X.w) X.A (eval e X.env) (EP X au Z Q) X.xe s
def PT(X:Cx)(e:Expr)(t:TT):Prop:=∀(au:List (Addr×Obj))(s:ae)(Z:St)(H:Hp)(Q:Bool->Hp->Prop),Inv X au Z H s->t Z H Q->wpAny (model X.prog X.w) X.A (isTrue e X.env (eval e X.env)) (TP X au Z Q) X.xe s
def PW(X:Cx)(e:Expr)(t:TT):Prop:=∀(whole:Sem Value)(au:List (Addr×Obj))(s:ae)(Z:St)(H:Hp)(Q:Bool->Hp->Prop),Inv X au Z H s->t Z H Q->wpAny (model X.prog X.w) X.A (isTrue e X.env whole) (TP X au Z Q) X.xe s
theorem PW.pt{X:Cx}{e:Expr}{t:TT}(h:PW X e t):PT X e t:=h _
def PA(X:Cx)(es:List Expr)(t:TA):Prop:=∀(pos:Pos)(au:List (Addr×Obj))(s:ae)(Z:St)(H:Hp)(Q:List V->Hp->Prop),Inv X au Z H s->t Z H Q->wpAny (model X.prog X.w) X.A (spliced (backTo pos (starEach es X.env))) (AP X au Z Q) X.xe s
def PS(X:Cx)(st:Stmt)(t:TS):Prop:=∀(au:List (Addr×Obj))(s:ae)(Z:St)(H:Hp)(D:Ends),Inv X au Z H s->t D Z H->wpAny (model X.prog X.w) X.A (exec st X.env) (SP X au D) X.xe s
def gK(X:Cx)(st:List Stmt)(t:TS):Prop:=∀(au:List (Addr×Obj))(s:ae)(Z:St)(H:Hp)(D:Ends),Inv X au Z H s->t D Z H->wpAny (model X.prog X.w) X.A (execs st X.env) (SP X au D) X.xe s
theorem aW{α:Type}{t:Sem α}{Q Q':α->ae->Prop}{M:Model}{A:aj}{E:Value->ae->Prop}{s:ae}(h:wpAny M A t Q E s)(hQ:∀a s,Q a s->Q' a s):wpAny M A t Q' E s:=jw h hQ fun _ _ x=>x
section
variable {X:Cx}
inductive T4(i:Nat)(Z:St)(H:Hp)(Q:VK):Prop |mk (v:_)(h0:Z[i]? =some (some v))(h1:Q v H):T4 i Z H Q
def uB(i:Nat):TE:=fun Z H Q=>T4 i Z H Q
def tC (v:V):TE:=fun _ H Q=>Q v H
theorem NN{i:Nat}{x:Str}{pos:Pos}(hN:X.N[i]? =some x)(hv:C6 X.env.scope x)(hd:(x==("__debug__":Str))=false:=by decide)(gH:(x==("__classdict__":Str))=false:=by decide):PE X (.Name x pos) (uB i):=by
 intro au s Z H Q I h;obtain⟨v,e,h⟩:=h;obtain⟨m,hn,hl⟩:=I.loc;obtain⟨u,r,l⟩:=hl i x v hN e hv;have fin:EP X au Z Q u s:=⟨v,H,I,r,h⟩;rcases l with⟨hk,hm⟩|⟨hk,c,hc,lZ⟩
 ·exact wpAny_Name (wpAny_loadName_local I.ok.kind hk hn hm fin) hd
 · rcases hk with hk|hk
   ·exact wpAny_Name (wpAny_loadName_cell I.ok.kind hk hc lZ fin) hd
   ·exact wpAny_Name (wpAny_loadName_free I.ok.kind hk hc lZ fin gH) hd
theorem az{i j pos}:PE X (.Constant (.int i) j pos) (tC (.int i)):=fun _ _ _ H _ I h=>wpAny_Constant_int ⟨.int i,H,I.tok _,⟨_,rfl⟩,h⟩
theorem iq{b j pos}:PE X (.Constant (.bool b) j pos) (tC (.bl b)):=fun _ _ _ H _ I h=>Constant_bool ⟨.bl b,H,I,rfl,h⟩
theorem kE{j pos}:PE X (.Constant .none j pos) (tC .bp):=fun _ _ _ H _ I h=>Constant_none ⟨.bp,H,I,rfl,h⟩
theorem aX{x j pos}:PE X (.Constant (.str x) j pos) (tC (.str x)):=fun _ _ _ H _ I h=>Calls.Constant_str ⟨.str x,H,I.tok _,⟨_,rfl⟩,h⟩
def Gl(X:Cx)(x:Str):Prop:=X.env.kindOf x=some .globalImplicit
theorem vv{E:Value->ae->Prop}{au:List (Addr×Obj)}{s:ae}{Z:St}{H:Hp}{x:Str}{u:Value}{pos:Pos}{Q:Value->ae->Prop}(I:Inv X au Z H s)(hg:Gl X x)(hm:X.mg x=some u)(h:Q u s) (hd:(x==("__debug__":Str))=false:=by decide):wpAny (model X.prog X.w) X.A (eval (.Name x pos) X.env) Q E s:=Calls.Name_function_global I.ok.kind hg (Calls.loadGlobal_global (by rw[I.ok.glob];exact I.mod.glob.keeps I.bk) hm h) hd
theorem oB{E:Value->ae->Prop}{au:List (Addr×Obj)}{s:ae}{Z:St}{H:Hp}{x:Str}{u:Value}{pos:Pos}{Q:Value->ae->Prop}(I:Inv X au Z H s)(hg:Gl X x)(hm:X.mg x=none)(hv:bootBuiltins x=some u)(h:Q u s) (hn:x≠"__name__":=by decide)(hd:(x==("__debug__":Str))=false:=by decide):wpAny (model X.prog X.w) X.A (eval (.Name x pos) X.env) Q E s:=by obtain⟨mb,h1,h2⟩:=I.mod.blt;exact Calls.Name_function_global I.ok.kind hg (Calls.loadGlobal_builtin (by rw[I.ok.glob];exact I.mod.glob.keeps I.bk) hm (by rw[I.ok.blt];exact h1.keeps I.bk) ((h2 x hn).trans hv) h) hd
theorem a03{x:Str}{v:V}{u:Value}{pos:Pos}(hg:Gl X x)(hm:X.mg x=some u)(r:RelV v u)(hd:(x==("__debug__":Str))=false:=by decide):PE X (.Name x pos) (tC v):=fun _ _ _ H _ I h=>vv I hg hm ⟨v,H,I,r,h⟩ hd
theorem cR{x:Str}{v:V}{u:Value}{pos:Pos}(hg:Gl X x)(hm:X.mg x=none)(hv:bootBuiltins x=some u)(r:RelV v u)(hn:x≠"__name__":=by decide)(hd:(x==("__debug__":Str))=false:=by decide):PE X (.Name x pos) (tC v):=fun _ _ _ H _ I h=>oB I hg hm hv ⟨v,H,I,r,h⟩ hn hd
variable {a b:Expr}{ta tb:TE}{pos:Pos}
inductive Th(Q:Bool->Hp->Prop)(x:V)(H1:Hp):Prop |mk (c:_)(h0:x= .bl c)(h1:Q c H1):Th Q x H1
def tB(t:TE):TT:=fun Z H Q=>t Z H fun x H1=>Th Q x H1
theorem cI{e:Expr}{t:TE}(h:PE X e t)(he:∀whole,isTrue e X.env whole=(do let v<-whole;standAt e.pos;holding [v] (truthy v)):=by intro _;rfl):PT X e (tB t):=by intro au s Z H Q I hw;refine isTrue_plain (aW (h au s Z H _ I hw) fun v s1 ⟨x,H1,I1,r1,q1⟩=>?_) (he _);obtain⟨d,rfl,q⟩:=q1;cases r1;exact pj ⟨H1,I1,q⟩
variable {tA zQ:TT} {rest:List Expr}
def Xc(t u:TT):TT:=fun Z H Q=>t Z H fun c H1=>if c=true then u Z H1 Q else Q false H1
def WX(t u:TT):TT:=fun Z H Q=>t Z H fun c H1=>if c=true then Q true H1 else u Z H1 Q
def WZ(t:TT):TT:=fun Z H Q=>t Z H fun c H1=>Q (!c) H1
theorem rV(ha:PT X a tA):PW X (.BoolOp .And [a] pos) tA:=by intro wh au s Z H Q I h;refine isTrue_and (aW (ha au s Z H Q I h) fun c s1 e=>?_);cases c with |true=>exact isTrue_and_nil e |false=>exact e
theorem lE(ha:PT X a tA):PW X (.BoolOp .Or [a] pos) tA:=by intro wh au s Z H Q I h;refine isTrue_or (aW (ha au s Z H Q I h) fun c s1 e=>?_);cases c with |false=>exact isTrue_or_nil e |true=>exact e
theorem oj(ha:PT X a tA)(hb:PW X (.BoolOp .And (b::rest) pos) zQ):PW X (.BoolOp .And (a::b::rest) pos) (Xc tA zQ):=by intro wh au s Z H Q I h;refine isTrue_and (aW (ha au s Z H _ I h) fun c s1 ⟨H1,I1,q1⟩=>?_);cases c with |true=>exact hb wh au s1 Z H1 Q I1 q1 |false=>exact⟨H1,I1,q1⟩
theorem kD(ha:PT X a tA)(hb:PW X (.BoolOp .Or (b::rest) pos) zQ):PW X (.BoolOp .Or (a::b::rest) pos) (WX tA zQ):=by intro wh au s Z H Q I h;refine isTrue_or (aW (ha au s Z H _ I h) fun c s1 ⟨H1,I1,q1⟩=>?_);cases c with |true=>exact⟨H1,I1,q1⟩ |false=>exact hb wh au s1 Z H1 Q I1 q1
theorem fi(ha:PT X a tA):PT X (.UnaryOp .Not a pos) (WZ tA):=by intro au s Z H Q I h;exact isTrue_not (ha au s Z H (fun c H1=>Q (!c) H1) I h)
inductive Ti(tb:TE)(Z:St)(Q:VK)(x:V)(H1:Hp):Prop |mk (c:_)(h0:x= .bl c)(h1:if c=true then tb Z H1 Q else Q (.bl false) H1):Ti tb Z Q x H1
def Xb(ta tb:TE):TE:=fun Z H Q=>ta Z H fun x H1=>Ti tb Z Q x H1
inductive Td(Q:VK)(x:V)(H1:Hp):Prop |mk (c:_)(h0:x= .bl c)(h1:Q (.bl (!c)) H1):Td Q x H1
def WY(ta:TE):TE:=fun Z H Q=>ta Z H fun x H1=>Td Q x H1
theorem iJ{op}{t:TE}(h:PE X a t):PE X (.BoolOp op [a] pos) t:=fun au s Z H Q I hw=>BoolOp_one (h au s Z H Q I hw)
theorem ir(ha:PE X a ta)(hb:PE X (.BoolOp .And (b::rest) pos) tb):PE X (.BoolOp .And (a::b::rest) pos) (Xb ta tb):=by intro au s Z H Q I h;refine BoolOp_and (aW (ha au s Z H _ I h) fun v s1 ⟨x,H1,I1,r1,q1⟩=>?_);obtain⟨c,rfl,q1⟩:=q1;cases r1;refine pj ?_;cases c with |true=>exact hb au s1 Z H1 Q I1 q1 |false=>exact⟨.bl false,H1,I1,rfl,q1⟩
theorem NO(ha:PE X a ta):PE X (.UnaryOp .Not a pos) (WY ta):=by intro au s Z H Q I h;refine UnaryOp_ (aW (ha au s Z H _ I h) fun v s1 ⟨x,H1,I1,r1,q1⟩=>?_);obtain⟨c,rfl,q1⟩:=q1;cases r1;exact not_of (pj ⟨.bl (!c),H1,I1,rfl,q1⟩)
def X6(t:TT)(ta tb:TE):TE:=fun Z H Q=>t Z H fun c H1=>if c=true then ta Z H1 Q else tb Z H1 Q
theorem NR{c:Expr}(hc:PT X c tA)(ha:PE X a ta)(hb:PE X b tb):PE X (.IfExp c a b pos) (X6 tA ta tb):=by intro au s Z H Q I h;refine wpAny_IfExp (aW (hc au s Z H _ I h) fun d s1 ⟨H1,I1,q1⟩=>?_);cases d with |true=>exact ha au s1 Z H1 Q I1 q1 |false=>exact hb au s1 Z H1 Q I1 q1
end
def aE(K:aa)(H:Hp)(a:Addr)(xs:List V):Prop:=Rd H a (.lst xs)\/ ∃(o:Obj)(its:Array Value)(n:Nat),K.lookup a=some o/\o.cls= .type "list"/\o.dict=none/\o.data= .seq its n/\its.size<=sizeLine/\Vals xs its.toList
def aP(K:aa)(H:Hp)(a:Addr)(xs:List V):Prop:=Rd H a (.tup xs)\/ ∃(o:Obj)(its:Array Value)(n:Nat),K.lookup a=some o/\o.cls= .type "tuple"/\o.data= .seq its n/\its.size<=sizeLine/\Vals xs its.toList
def aae:Value->Option V | .none=>some .bp | .bool b=>some (.bl b) | .int i _=>some (.int i) | .str x _=>some (.str x) | .bytes b _=>some (.wo b) | .float b _=>some (.BE b) | .ref a=>some (.ref a) | .type n=>some (.ty n) |_=>none
theorem RelV.abs{x:V}{u:Value}(r:RelV x u):aae u=some x:=by cases x with |bp=>cases r;rfl |bl _=>cases r;rfl |int _=>obtain⟨t,rfl⟩:=r;rfl |str _=>obtain⟨t,rfl⟩:=r;rfl |wo _=>obtain⟨t,rfl⟩:=r;rfl |BE _=>obtain⟨t,rfl⟩:=r;rfl |ref _=>cases r;rfl |ty _=>cases r;rfl
theorem RelV.inj{x y:V}{u:Value}(r:RelV x u)(q:RelV y u):x=y:=dG (r.abs.symm.trans q.abs)
theorem Vals.inj:∀{xs ys:List V}{us:List Value},Vals xs us->Vals ys us->xs=ys |_,_,_,.nil,.nil=>rfl |_,_,_,.cons r t,.cons r' t'=>by rw[r.inj r',Vals.inj t t']
section
variable {X:Cx}{au:List (Addr×Obj)}{Z:St}{H:Hp}{s:ae}{a:Addr}{xs ys:List V}
theorem aE.of{K:aa}(h:H a=some (.lst xs)):aE K H a xs:=.inl (.inl h)
theorem aP.of{K:aa}(h:H a=some (.tup xs)):aP K H a xs:=.inl (.inl h)
theorem Inv.list(I:Inv X au Z H s)(h:aE X.K H a xs):∃its:List Value,Vals xs its/\PlainL s.heap a its.toArray/\xs.length<=sizeLine:=by
 rcases h with h|⟨o,its,n,hk,hc,hd,hs,hz,r⟩
 · obtain⟨z,its,n,r,e⟩:=h.ok I.aV
   exact⟨its,r,⟨_,n,e,rfl,rfl,rfl⟩,z⟩
 · refine⟨its.toList,r,⟨o,n,I.gk a o hk,hc,hd,by simpa using hs⟩,?_⟩
   have e:=r.length;simp only[zx]at e
   lia
theorem Inv.tuple(I:Inv X au Z H s)(h:aP X.K H a xs):∃its:List Value,Vals xs its/\IsTup s.heap a its.toArray/\xs.length<=sizeLine:=by
 rcases h with h|⟨o,its,n,hk,hc,hs,hz,r⟩
 · obtain⟨z,its,r,p⟩:=h.ok I.aV
   exact⟨its,r,p,z⟩
 · refine⟨its.toList,r,⟨o,I.gk a o hk,hc,n,by simpa using hs⟩,?_⟩
   have e:=r.length;simp only[zx]at e
   lia
theorem Inv.OX(I:Inv X au Z H s)(h:aE X.K H a xs)(h':aE X.K H a ys):xs=ys:=by
 obtain⟨its,r,⟨o,n,e,_,_,d⟩,_⟩:=I.list h;obtain⟨its',r',⟨o',n',e',_,_,d'⟩,_⟩:=I.list h';rw[e]at e';cases e';rw[d]at d';injection d' with d1 _;have:its=its':=by simpa using congrArg Array.toList d1
 subst this;exact r.inj r'
theorem Inv.Kl(I:Inv X au Z H s)(h:aP X.K H a xs)(h':aP X.K H a ys):xs=ys:=by
 obtain⟨its,r,⟨o,e,_,n,d⟩,_⟩:=I.tuple h;obtain⟨its',r',⟨o',e',_,n',d'⟩,_⟩:=I.tuple h';rw[e]at e';cases e';rw[d]at d';injection d' with d1 _;have:its=its':=by simpa using congrArg Array.toList d1
 subst this;exact r.inj r'
end
abbrev Cx.iT(X:Cx)(E:Value->ae->Prop):Cx:={X with xe:=E}
abbrev Cx.oz(X:Cx):Cx:=X.iT fun _ _=>False
theorem Cx.Ok.iT{X:Cx}(ok:X.Ok)(E:Value->ae->Prop):(X.iT E).Ok:=⟨ok.mod,ok.kind,ok.glob,ok.blt,ok.above,ok.inj,ok.has,ok.qH,ok.hd,ok.frames,ok.uE,ok.BG,ok.bs,ok.lN,ok.sF,ok.qB,ok.jo,ok.mU⟩
theorem Cx.Ok.mq{X:Cx}{E:Value->ae->Prop}(ok:(X.iT E).Ok):X.Ok:=⟨ok.mod,ok.kind,ok.glob,ok.blt,ok.above,ok.inj,ok.has,ok.qH,ok.hd,ok.frames,ok.uE,ok.BG,ok.bs,ok.lN,ok.sF,ok.qB,ok.jo,ok.mU⟩
section
variable {X:Cx}{au:List (Addr×Obj)}{Z:St}{H:Hp}{s:ae}{E:Value->ae->Prop}
theorem Inv.iT(I:Inv X au Z H s)(E:Value->ae->Prop):Inv (X.iT E) au Z H s:=⟨I.ok.iT E,I.os,I.bare,I.base,I.loc,I.cell,I.free,I.jL,I.pin,I.aV,I.len⟩
theorem Inv.mq(I:Inv (X.iT E) au Z H s):Inv X au Z H s:=⟨I.ok.mq,I.os,I.bare,I.base,I.loc,I.cell,I.free,I.jL,I.pin,I.aV,I.len⟩
theorem SP.mq{D:Ends}{f:Flow}{s':ae}(h:SP (X.iT E) au D f s'):SP X au D f s':=by cases f with |next=>obtain⟨σ',H',I,q⟩:=h;exact⟨σ',H',I.mq,q⟩ |brk=>obtain⟨σ',H',I,q⟩:=h;exact⟨σ',H',I.mq,q⟩ |cont=>obtain⟨σ',H',I,q⟩:=h;exact⟨σ',H',I.mq,q⟩ |ret u=>obtain⟨v,σ',H',I,r,q⟩:=h;exact⟨v,σ',H',I.mq,r,q⟩
theorem gK.oz{st:List Stmt}{t:TS}(h:gK X.oz st t):gK X st t:=fun au s Z H D I hw=>jw (h au s Z H D (I.iT _) hw) (fun _ _ q=>q.mq) fun _ _ z=>False.elim z
end
section
variable {X:Cx}{st:Stmt}{rest:List Stmt}{t u:TS}{e:Expr}{te:TE}{pos:Pos}
def D8:TS:=fun D Z H=>D.nx Z H
def D6(t u:TS):TS:=fun D Z H=>t {D with nx:=u D} Z H
theorem bM:gK X [] D8:=fun _ _ Z H _ I h=>zj ⟨Z,H,I,h⟩
theorem aA(h1:PS X st t)(h2:gK X rest u):gK X (st::rest) (D6 t u):=by intro au s Z H D I h;refine wpAny_execs_cons (aW (h1 au s Z H {D with nx:=u D} I h) fun f s1 q=>?_);cases f with |next=>obtain⟨σ',H',I',q⟩:=q;exact h2 au s1 σ' H' D I' q |ret v=>exact q |brk=>exact q |cont=>exact q
theorem aH(h1:PS X st t):gK X [st] t:=by intro au s Z H D I h;refine wpAny_execs_cons (aW (h1 au s Z H D I h) fun f s1 q=>?_);cases f with |next=>exact zj q |ret v=>exact q |brk=>exact q |cont=>exact q
theorem Inv.quiet{au:List (Addr×Obj)}{Z:St}{H:Hp}{s:ae}(I:Inv X au Z H s):interactive X.env=false:=by simp[interactive,I.ok.kind]
def X8(te:TE):TS:=fun D Z H=>te Z H fun _ H1=>D.nx Z H1
theorem gF(he:PE X e te)(hs:swapsWith e none pos.line X.env=pure false:=by rfl):PS X (.Expr e pos) (X8 te):=by intro au s Z H D I h;exact wpAny_Expr_any (aW (he au s Z H _ I h) fun v s1 ⟨x,H1,I1,r1,q1⟩=>⟨Z,H1,I1,q1⟩) I.quiet hs
def WT(te:TE):TS:=fun D Z H=>te Z H D.rt
theorem aQ(he:PE X e te):PS X (.Return (some e) pos) (WT te):=by intro au s Z H D I h;exact wpAny_Return_some (aW (he au s Z H _ I h) fun v s1 ⟨x,H1,I1,r1,q1⟩=>⟨x,Z,H1,I1,r1,q1⟩)
def De(c:TT)(t u:TS):TS:=fun D Z H=>c Z H fun b H1=>if b=true then t D Z H1 else u D Z H1
theorem bJ{c:Expr}{a b:List Stmt}{tc:TT}(hc:PT X c tc)(ha:gK X a t)(hb:gK X b u):PS X (.If c a b pos) (De tc t u):=by intro au s Z H D I h;refine wpAny_If (aW (hc au s Z H _ I h) fun d s1 ⟨H1,I1,q1⟩=>?_);cases d with |true=>exact ha au s1 Z H1 D I1 q1 |false=>exact hb au s1 Z H1 D I1 q1
def X1:TS:=fun _ _ _=>False
theorem uS:PS X st X1:=fun _ _ _ _ _ _ h=>h.elim
end
abbrev TG:=V->St->Hp->(St->Hp->Prop)->Prop
abbrev nA:=List V->St->Hp->(St->Hp->Prop)->Prop
def PG(X:Cx)(target:Expr)(t:TG):Prop:=∀(au:List (Addr×Obj))(s:ae)(Z:St)(H:Hp)(v:V)(u:Value)(Q:St->Hp->Prop),Inv X au Z H s->RelV v u->t v Z H Q->wpAny (model X.prog X.w) X.A (assign target X.env u) (fun _ s'=>∃σ' H',Inv X au σ' H' s'/\Q σ' H') X.xe s
def yY(X:Cx)(ts:List Expr)(t:nA):Prop:=∀(au:List (Addr×Obj))(s:ae)(Z:St)(H:Hp)(vs:List V)(us:List Value)(Q:St->Hp->Prop),Inv X au Z H s->Vals vs us->t vs Z H Q->wpAny (model X.prog X.w) X.A (assignInOrder ((assignEach ts X.env).map (·.2)) us) (fun _ s'=>∃σ' H',Inv X au σ' H' s'/\Q σ' H') X.xe s
abbrev Jm:=V->V->V->Hp->(Hp->Prop)->Prop
def SU(X:Cx)(t:Jm):Prop:=∀(au:List (Addr×Obj))(s:ae)(Z:St)(H:Hp)(o i v:V)(ov iv u:Value)(Q:Hp->Prop),Inv X au Z H s->RelV o ov->RelV i iv->RelV v u->t o i v H Q->wpAny (model X.prog X.w) X.A (setItem ov iv u) (fun _ s'=>∃H',Inv X au Z H' s'/\Q H') X.xe s
abbrev SG:=V->V->Hp->VK->Prop
def PIp(X:Cx)(op:Operator)(t:SG):Prop:=∀(au:List (Addr×Obj))(s:ae)(Z:St)(H:Hp)(x y:V)(v u:Value)(Q:VK),Inv X au Z H s->RelV x v->RelV y u->t x y H Q->wpAny (model X.prog X.w) X.A (inplaceOp op v u) (EP X au Z Q) X.xe s
section
variable {X:Cx} {pos:Pos}
def eK(i:Nat):TG:=fun v Z H Q=>Q (Z.set i (some v)) H
theorem ZW{i:Nat}{x:Str}(hN:X.N.Nodup)(hi:X.N[i]? =some x)(hx:Loc X.env.scope x)(hf:X.fn x=true\/X.env.scope.names.lookup x=some .local:=by first|exact .inl rfl|exact .inr rfl|assumption):PG X (.Name x pos) (eK i):=by intro au s Z H v u Q I r h;exact wpAny_assign_Name (uD I hN hi hx r (fun s' I'=>⟨_,H,I',h⟩) hf)
def qz:nA:=fun vs Z H Q=>vs=[]/\Q Z H
inductive Vh(t:TG)(u:nA)(vs:List V)(Z:St)(H:Hp)(Q:St->Hp->Prop):Prop |mk (v:_)(r:_)(h0:vs=v::r)(h1:t v Z H fun σ' H'=>u r σ' H' Q):Vh t u vs Z H Q
def jJ(t:TG)(u:nA):nA:=fun vs Z H Q=>Vh t u vs Z H Q
theorem dH:yY X [] qz:=by intro au s Z H vs us Q I r h;obtain⟨e,h⟩:=h;subst e;cases r;exact assignInOrder_nil ⟨Z,H,I,h⟩
theorem bO{e:Expr}{es:List Expr}{t:TG}{u:nA}(h1:PG X e t)(h2:yY X es u) (hs:(assignEach (e::es) X.env).map (·.2)=assign e X.env::(assignEach es X.env).map (·.2):=by rfl):yY X (e::es) (jJ t u):=by intro au s Z H vs us Q I r h;obtain⟨v,vr,e1,h⟩:=h;subst e1;cases r with |cons r rr=>rw[hs];refine assignInOrder_cons (aW (h1 au s Z H _ _ _ I r h) fun _ s1 ⟨σ1,H1,I1,q1⟩=>?_);exact h2 au s1 σ1 H1 _ _ Q I1 rr q1
inductive Vg(K:aa)(n:Nat)(t:nA)(v:V)(Z:St)(H:Hp)(Q:St->Hp->Prop):Prop |mk (a:_)(xs:_)(h0:v= .ref a)(h1:aP K H a xs)(h2:xs.length=n)(h3:t xs Z H Q):Vg K n t v Z H Q
def oU(K:aa)(n:Nat)(t:nA):TG:=fun v Z H Q=>Vg K n t v Z H Q
theorem ZV{es:List Expr}{k:Nat}{t:nA}{n:Nat}(hc:X.calm=true)(h:yY X es t) (hn:(assignEach es X.env).length=n:=by rfl)(gG:(assignEach es X.env).findIdx? (·.1)=none:=by rfl):PG X (.Tuple es k pos) (oU X.K n t):=by intro au s Z H v u Q I r hw;obtain⟨a,xs,e1,hq,hl,hw⟩:=hw;subst e1;cases r;obtain⟨its,rv,ht,hz⟩:=I.tuple hq;refine assign_Tuple_tuple (I.ok.hd hc) ht (by simp[hn,<-hl,rv.length]) gG fun h' hx=>?_;have I1:Inv X au Z H {s with heap:=h'}:=I.kept (t':=s.toks) fun b o e=>hx b o (fm (cw e)) e;exact h au _ Z H xs _ Q I1 (by simpa using rv) hw
def a75(to ti:TE)(t:Jm):TG:=fun v Z H Q=>to Z H fun o H1=>ti Z H1 fun i H2=>t o i v H2 fun H3=>Q Z H3
theorem rY{o i:Expr}{to ti:TE}{t:Jm}(ho:PE X o to)(hi:PE X i ti)(hs:SU X t) (ha:∀v,assign (.Subscript o i pos) X.env v=(do
     let ov<-holding [v] (eval o X.env)
     let iv<-holding [v,ov] (eval i X.env)
     standAt pos
     holding [v,ov,iv] (setItem ov iv v)
     release [v,ov,iv] []):=by intro _;rfl):PG X (.Subscript o i pos) (a75 to ti t):=by
  intro au s Z H v u Q I r h;rw[ha];refine aO (uh (aW (ho au s Z H _ I h) fun ov s1 ⟨x,H1,I1,r1,q1⟩=>?_));refine aO (uh (aW (hi au s1 Z H1 _ I1 q1) fun iv s2 ⟨y,H2,I2,r2,q2⟩=>?_));refine aO (wpAny_standAt (aO (uh (aW (hs au s2 Z H2 x y v ov iv u _ I2 r1 r2 r q2) fun _ s3 ⟨H3,I3,q3⟩=>?_))));exact wpAny_release ⟨Z,H3,I3,q3⟩
def zR(te:TE)(g:TG):TS:=fun D Z H=>te Z H fun x H1=>g x Z H1 D.nx
theorem fO{tg e:Expr}{te:TE}{g:TG}(he:PE X e te)(hg:PG X tg g)(hs:swapsWithSole [tg] e pos.line X.env=pure false:=by rfl)(hw:swappedStores [tg] e X.env=pure none:=by rfl) (h1:(assignEach [tg] X.env).map (·.2)=[assign tg X.env]:=by rfl):PS X (.Assign [tg] e pos) (zR te g):=by intro au s Z H D I h;refine wpAny_Assign_stores (aW (he au s Z H _ I h) fun v s1 ⟨x,H1,I1,r1,q1⟩=>?_) hs hw;rw[h1];exact aW (hg au s1 Z H1 x v _ I1 r1 q1) fun _ s2 q=>q
theorem ZD{i:Nat}{x:Str}{e:Expr}{te:TE}{pos':Pos}(hN:X.N.Nodup)(hi:X.N[i]? =some x)(hx:Loc X.env.scope x)(he:PE X e te)(hs:swapsWith e (some (.Name x pos')) pos.line X.env=pure false:=by rfl)(hf:X.fn x=true\/X.env.scope.names.lookup x=some .local:=by first|exact .inl rfl|exact .inr rfl|assumption): PS X (.Assign [.Name x pos'] e pos) (zR te (eK i)):=by intro au s Z H D I h;refine wpAny_Assign_Name (aW (he au s Z H _ I h) fun v s1 ⟨y,H1,I1,r1,q1⟩=>?_) hs;exact uD I1 hN hi hx r1 (fun s2 I2=>⟨_,H1,I2,q1⟩) hf
inductive Tb(i:Nat)(j:Nat)(D:Ends)(Z:St)(vs:List V)(H1:Hp):Prop |mk (v:_)(w:_)(h0:vs=[v,w])(h1:D.nx ((Z.set i (some v)).set j (some w)) H1):Tb i j D Z vs H1
def WW(i j:Nat)(ta:TA):TS:=fun D Z H=>ta Z H fun vs H1=>Tb i j D Z vs H1
theorem om{i j:Nat}{x y:Str}{a b:Expr}{ta:TA}{px py pt:Pos} {kt k2 FT}(hc:X.calm=true)(hN:X.N.Nodup)(hi:X.N[i]? =some x)(hj:X.N[j]? =some y)(hij:i≠j) (hx:X.env.scope.names.lookup x=some .local)(hy:X.env.scope.names.lookup y=some .local)(ha:PA X [a,b] ta) (hw:swappedStores [.Tuple [.Name x px,.Name y py] kt pt] (.Tuple [a,b] k2 FT) X.env=pure (some [x,y])) (hs:swapsWithSole [.Tuple [.Name x px,.Name y py] kt pt] (.Tuple [a,b] k2 FT) pos.line X.env=pure false:=by rfl): PS X (.Assign [.Tuple [.Name x px,.Name y py] kt pt] (.Tuple [a,b] k2 FT) pos) (WW i j ta):=by
  intro au s Z H D I h;rw[exec_Assign_arm];refine aO (wpAny_standAt ?_);rw[hs];refine aO (cg ?_);rw[aZ (by decide)];refine aO (Tuple_ (aW (ha _ au s Z H _ I h) fun us s1 ⟨vs,H1,I1,r1,q1⟩=>?_));obtain⟨v,w,e1,q1⟩:=q1;subst e1;obtain⟨u1,u2,rfl,rv,iU⟩:∃u1 u2,us=[u1,u2]/\RelV v u1/\RelV w u2:=by cases r1 with |cons p q=>cases q with |cons p' q'=>cases q';exact⟨_,_,rfl,p,p'⟩
  refine pk ?_ (by show 2<=sizeLine;decide);have I2:Inv X au Z H1 {s1 with heap:=s1.heap.push {cls:=.type "tuple",data:=.seq [u1,u2].toArray}}:=I1.kept (t':=s1.toks) fun b o e=>cn _ e;rw[hw];refine aO (cg ?_);show wpAny (model X.prog X.w) X.A (do rule "assign.swapped-stores";let items<-unpackItems (.ref s1.heap.objs.size) 2 none;assignInOrder [fun v=>bindName X.env y v,fun v=>bindName X.env x v] items.reverse;pure Flow.next) _ _ _;refine aO (wpAny_rule (aO (unpackItems_tuple (items:=#[u1,u2]) (I.ok.hd hc) (IsTup.new s1.heap _) fun h' hx'=>?_)));have I3:=I2.kept (h':=h') (t':=s1.toks) fun b o e=>hx' b o (fm (cw e)) e;show wpAny _ _ (assignInOrder [fun v=>bindName X.env y v,fun v=>bindName X.env x v] [u2,u1]>>=fun _=>pure Flow.next) _ _ _;refine aO (assignInOrder_cons (wpAny_bindName (uD I3 hN hj (.inl hy) iU (fun s2 I4=>?_) (.inr hy))));refine assignInOrder_cons (wpAny_bindName (uD I4 hN hi (.inl hx) rv (fun s3 I5=>assignInOrder_nil (cg ?_)) (.inr hx)));rw[List.set_comm _ _ (eR hij)]at I5;exact⟨_,H1,I5,q1⟩
inductive V6(f:Int->Int->Int)(x:V)(y:V)(H:Hp)(Q:VK):Prop |mk (i:_)(j:_)(h0:x= .int i)(h1:y= .int j)(h2:Q (.int (f i j)) H):V6 f x y H Q
def ipI(f:Int->Int->Int):SG:=fun x y H Q=>V6 f x y H Q
theorem a44:PIp X .Add (ipI fun i j=>i+j):=by intro au s Z H x y v u Q I r1 r2 h;obtain⟨i,j,e1,e2,q⟩:=h;subst e1;subst e2;obtain⟨t,rfl⟩:=r1;obtain⟨t',rfl⟩:=r2;exact iadd_int ⟨.int _,H,I.tok _,⟨_,rfl⟩,q⟩
def Kq(c:TT)(tb:TS):TS:=fun D Z H=>∃W:Nat->St->Hp->Prop,(∃m,W m Z H)/\∀m Z H,W m Z H->c Z H fun b H1=>if b=true then∃N:St->Hp->Prop,(∀σ' H',N σ' H'->∃m',m'<m/\W m' σ' H')/\tb {D with nx:=N,ct:=N,bk:=D.nx} Z H1 else D.nx Z H1
theorem mH{c:Expr}{body:List Stmt}{tc:TT}{tb:TS}(hp:PassesOwn (model X.prog X.w) X.A X.env X.xe)(hc:PT X c tc)(hb:gK X body tb):PS X (.While c body [] pos) (Kq tc tb):=by intro au s Z H D I h;obtain⟨W,⟨m0,w0⟩,turn⟩:=h;refine wpAny_While (codeAny_whileLoop (fun n s'=>∃σ' H',Inv X au σ' H' s'/\W n σ' H') ?_ m0 ⟨Z,H,I,w0⟩);rintro n s1 ⟨σ1,H1,I1,w1⟩;refine wF hp (aW (hc au s1 σ1 H1 _ I1 (turn n σ1 H1 w1)) fun b s2 ⟨H2,I2,q2⟩=>?_);cases b with
 |true=>obtain⟨N,hN,q2⟩:=q2;rw[aY rfl];refine wF hp (aW (hb au s2 σ1 H2 _ I2 q2) fun f s3 q3=>?_);cases f with |next=>obtain⟨σ3,H3,I3,n3⟩:=q3;obtain⟨m',hm,w3⟩:=hN σ3 H3 n3;exact⟨m',hm,σ3,H3,I3,w3⟩ |cont=>obtain⟨σ3,H3,I3,n3⟩:=q3;obtain⟨m',hm,w3⟩:=hN σ3 H3 n3;exact⟨m',hm,σ3,H3,I3,w3⟩ |brk=>exact q3 |ret v=>exact q3
 |false=>rw[aZ jW];exact zj ⟨σ1,H2,I2,q2⟩
end
structure It where
 go:Nat->Hp->Prop
 jA:Nat->Hp->V->Hp->Prop
 stop:Nat->Hp->Prop
def kY(X:Cx)(au:List (Addr×Obj))(H:Hp)(b:Addr):Prop:=H b=none/\b≠X.env.locals/\b∉X.fs/\(b∈X.ex\/X.s₀.heap.objs.size<=b)/\(∀x c,X.env.cells.lookup x=some c->c≠b)/\∀p∈X.pn++au,p.1≠b
theorem Inv.oV{X:Cx}{au:List (Addr×Obj)}{Z:St}{H H':Hp}{s:ae}{b:Addr}(I:Inv X au Z H s)(hb:s.heap.objs.size<=b)(hn:H' b=none):kY X au H' b:=by
 refine⟨hn,Cz (fU I.lt hb),I.Oi hb,.inr (ib I.sz hb),fun x c e z=>?_,fun p hp z=>?_⟩
 · obtain⟨v,q⟩:=I.cell x c e
   exact absurd (fU q.lt (by rw[z];exact hb)) (pE _)
 ·exact absurd (fU (cw (I.pin p hp).1) (by rw[z];exact hb)) (pE _)
structure Turn(P:ah)(w:World)(K:aa)(tg:Expr)(J:It)(fp:List Addr)(it:Addr)(tn:Nat->Heap->Prop):Prop where
 mem:it∈fp
 obj:∀i h,tn i h->∀b∈fp,∃o,h.get? b=some o/\∀v,o.data≠ .cell v
 keep:∀i h h',tn i h->(∀b∈fp,∀o,h.get? b=some o->h'.get? b=some o)->tn i h'
 item:∀(X:Cx),X.prog=P->X.w=w->X.K=K->X.calm=true->∀(i:Nat)(au:List (Addr×Obj))(s:ae)(Z:St)(H:Hp)(E:Value->ae->Prop),Inv X au Z H s->(∀b∈fp,kY X au H b)->tn i s.heap->J.go i H->wpAny (model P w) X.A (pyNext (.ref it)) (fun r s1=>∃u,r=some u/\wpAny (model P w) X.A (letOwnedTupleGo tg (.ref it) u) (fun _ s2=>∃x H',Inv X au Z H' s2/\RelV x u/\J.jA i H x H'/\tn (i+1) s2.heap/\∀b∈fp,H' b=none) E s1) E s
 done:∀(X:Cx),X.prog=P->X.w=w->X.K=K->X.calm=true->∀(i:Nat)(au:List (Addr×Obj))(s:ae)(Z:St)(H:Hp)(E:Value->ae->Prop),Inv X au Z H s->(∀b∈fp,kY X au H b)->tn i s.heap->J.stop i H->wpAny (model P w) X.A (pyNext (.ref it)) (fun r s1=>r=none/\Inv X au Z H s1) E s
 self:∀(A:aj)(i:Nat)(s:ae)(Q:Value->ae->Prop)(E:Value->ae->Prop),tn i s.heap->Q (.ref it) s->wpAny (model P w) A (pyIter (.ref it)) Q E s
abbrev TI:=St->Hp->(It->Hp->Prop)->Prop
def Cf(X:Cx)(au:List (Addr×Obj))(Z:St)(tg:Expr)(R:It->Hp->Prop)(AW:Value)(s2:ae):Prop:=∃(it:Addr)(fp:List Addr)(tn:Nat->Heap->Prop)(J:It)(H':Hp),AW= .ref it/\Inv X au Z H' s2/\Turn X.prog X.w X.K tg J fp it tn/\tn 0 s2.heap/\(∀b∈fp,kY X au H' b)/\R J H'
def PI(X:Cx)(tg iter:Expr)(wi:TI):Prop:=∀(au:List (Addr×Obj))(s:ae)(Z:St)(H:Hp)(R:It->Hp->Prop),Inv X au Z H s->wi Z H R->wpAny (model X.prog X.w) X.A (eval iter X.env) (fun v s1=>wpAny (model X.prog X.w) X.A (pyIter v) (Cf X au Z tg R) X.xe s1) X.xe s
theorem vR{M:Model}{A:aj}{E:Value->ae->Prop}{s:ae}{tg:Expr}{it:Addr}{u:Value}{o:Obj}{n:String}{vs:Array Value}{Q:Unit->ae->Prop}(ho:s.heap.get? it=some o)(hc:o.cls= .type n)(hd:o.data= .fields vs) (hn:["enumerate","zip","dict_itemiterator","dict_reverseitemiterator","odict_iterator","itertools.zip_longest","itertools.pairwise"].contains n=false)(hQ:Q () s):wpAny M A (letOwnedTupleGo tg (.ref it) u) Q E s:=by unfold letOwnedTupleGo;cases tg<;>first |exact cg hQ |(cases u<;>first
        |exact cg hQ
        | (refine aO (wpAny_load ho ?_)
           rw[hc,hd];show wpAny M A (if(["enumerate","zip","dict_itemiterator","dict_reverseitemiterator","odict_iterator","itertools.zip_longest","itertools.pairwise"].contains n&&vs[0]? ==some (rawInt _))=true then _ else _) Q E s;rw[aZ (by intro h;rw[hn,ku]at h;cases h)];exact cg hQ))
def qN(K:aa)(a:Addr):It:=⟨fun i H=>∃xs x,aE K H a xs/\xs[i]? =some x,fun i H x H'=>H'=H/\∀xs,aE K H a xs->xs[i]? =some x,fun i H=>∃xs,aE K H a xs/\xs.length<=i⟩
def qM(K:aa)(a:Addr):It:=⟨fun i H=>∃xs x,aP K H a xs/\xs[i]? =some x,fun i H x H'=>H'=H/\∀xs,aP K H a xs->xs[i]? =some x,fun i H=>∃xs,aP K H a xs/\xs.length<=i⟩
def nK(lo:Int)(n:Nat):It:=⟨fun i _=>i<n,fun i H x H'=>H'=H/\x= .int (lo+i),fun i _=>n<=i⟩
theorem WB{P:ah}{w:World}{K:aa}{tg:Expr}(a it:Addr):Turn P w K tg (qN K a) [it] it (fun i h=>h.IsListIter it a i) where
 mem:=by simp
 obj:=fun i h st b hb=>by
  have e:b=it:=by simpa using hb
  subst e;obtain⟨o,e,c,d⟩:=st;exact⟨o,e,fun v z=>by rw[d]at z;cases z⟩
 keep:=fun i h h' st k=>st.at fun o e=>k it (by simp) o e
 item:=by intro X hP hw hK hc i au s Z H E I hf st hg;subst hP hw hK;obtain⟨xs,x,hq,hx⟩:=hg;obtain⟨its,rv,p,hz⟩:=I.list hq;obtain⟨u,hu,ru⟩:=rv.get hx;obtain⟨f0,f1,f2,f3,f4,f5⟩:=hf it (by simp);refine wpAny_pyNext_list_item st p.isList (x:=u) (by simpa using hu) fun h' gE sb=>?_;have I1:Inv X au Z H {s with heap:=h'}:=I.turned (t':=s.toks) (fun b o hb e=>(sb.2 b hb).trans e) f0 f1 f3 f4 f5;obtain⟨o,e,c,d⟩:=id gE;exact⟨u,rfl,vR (s:={s with heap:=h'}) e c d (by decide) ⟨x,H,I1,ru,⟨rfl,fun ys hy=>by rw[I.OX hy hq];exact hx⟩,gE,fun b hb=>(hf b hb).1⟩⟩
 done:=by intro X hP hw hK hc i au s Z H E I hf st hg;subst hP hw hK;obtain⟨xs,hq,hx⟩:=hg;obtain⟨its,rv,p,hz⟩:=I.list hq;obtain⟨f0,f1,f2,f3,f4,f5⟩:=hf it (by simp);have hl:=rv.length;exact wpAny_pyNext_list_end (I.ok.hd hc) st p.isList (by simp;lia) fun h' eb=>⟨rfl,I.turned (t':=s.toks) (fun b o hb e=>eb b o hb e) f0 f1 f3 f4 f5⟩
 self:=fun _ _ _ _ _ st h=>wpAny_pyIter_listiter st h
theorem Wx{P:ah}{w:World}{K:aa}{tg:Expr}(a it:Addr):Turn P w K tg (qM K a) [it] it (fun i h=>h.IsTupleIter it a i) where
 mem:=by simp
 obj:=fun i h st b hb=>by
  have e:b=it:=by simpa using hb
  subst e;obtain⟨o,e,c,d⟩:=st;exact⟨o,e,fun v z=>by rw[d]at z;cases z⟩
 keep:=fun i h h' st k=>st.at fun o e=>k it (by simp) o e
 item:=by intro X hP hw hK hc i au s Z H E I hf st hg;subst hP hw hK;obtain⟨xs,x,hq,hx⟩:=hg;obtain⟨its,rv,p,hz⟩:=I.tuple hq;obtain⟨u,hu,ru⟩:=rv.get hx;obtain⟨f0,f1,f2,f3,f4,f5⟩:=hf it (by simp);refine wpAny_pyNext_tuple_item st (show s.heap.IsTuple a its.toArray from p) (x:=u) (by simpa using hu) fun h' gE sb=>?_;have I1:Inv X au Z H {s with heap:=h'}:=I.turned (t':=s.toks) (fun b o hb e=>(sb.2 b hb).trans e) f0 f1 f3 f4 f5;obtain⟨o,e,c,d⟩:=id gE;exact⟨u,rfl,vR (s:={s with heap:=h'}) e c d (by decide) ⟨x,H,I1,ru,⟨rfl,fun ys hy=>by rw[I.Kl hy hq];exact hx⟩,gE,fun b hb=>(hf b hb).1⟩⟩
 done:=by intro X hP hw hK hc i au s Z H E I hf st hg;subst hP hw hK;obtain⟨xs,hq,hx⟩:=hg;obtain⟨its,rv,p,hz⟩:=I.tuple hq;obtain⟨f0,f1,f2,f3,f4,f5⟩:=hf it (by simp);have hl:=rv.length;exact wpAny_pyNext_tuple_end (I.ok.hd hc) st (show s.heap.IsTuple a its.toArray from p) (by simp;lia) fun h' eb=>⟨rfl,I.turned (t':=s.toks) (fun b o hb e=>eb b o hb e) f0 f1 f3 f4 f5⟩
 self:=fun _ _ _ _ _ st h=>wpAny_pyIter_tupleiter st h
theorem WA{P:ah}{w:World}{K:aa}{tg:Expr}(it:Addr)(lo:Int)(n:Nat):Turn P w K tg (nK lo n) [it] it (fun i h=>IsRangeIter h it (lo+(i:Nat)*1) ((n:Int)-(i:Nat)) 1) where
 mem:=by simp
 obj:=fun i h st b hb=>by
  have e:b=it:=by simpa using hb
  subst e;exact⟨_,st,fun v z=>by have z':Data.fields _=Data.cell v:=z;cases z'⟩
 keep:=fun i h h' st k=>k it (by simp) _ st
 item:=by intro X hP hw hK hc i au s Z H E I hf st hg;subst hP hw hK;obtain⟨f0,f1,f2,f3,f4,f5⟩:=hf it (by simp);have W:=Walks.range (prog:=X.prog) (w:=X.w) (I.ok.hd hc) it lo 1 n;refine W.item i s _ _ hg st fun v h' tk hv gE kk=>?_;obtain⟨t,rfl⟩:=hv;have I1:Inv X au Z H {s with heap:=h',toks:=tk}:=I.turned (fun b o hb e=>kk b o (by simpa using hb) e) f0 f1 f3 f4 f5;refine⟨_,rfl,vR (s:={s with heap:=h',toks:=tk}) (n:="range_iterator") gE rfl rfl (by decide) ⟨.int (lo+i),H,I1,⟨t,?_⟩,⟨rfl,rfl⟩,gE,fun b hb=>(hf b hb).1⟩⟩;rw[Int.mul_one]
 done:=by intro X hP hw hK hc i au s Z H E I hf st hg;subst hP hw hK;obtain⟨f0,f1,f2,f3,f4,f5⟩:=hf it (by simp);exact Vt (I.ok.hd hc) st (by have:n<=i:=hg;lia) fun h' eb=>⟨rfl,I.turned (t':=s.toks) (fun b o hb e=>eb b o hb e) f0 f1 f3 f4 f5⟩
 self:=fun _ _ _ _ _ st h=>Jz st h
section
variable {X:Cx} {tg:Expr}
inductive Ve(K:aa)(R:It->Hp->Prop)(x:V)(H1:Hp):Prop |mk (a:_)(h0:x= .ref a)(h1:(∃xs,aE K H1 a xs))(h2:R (qN K a) H1):Ve K R x H1
def Pu(K:aa)(tl:TE):TI:=fun Z H R=>tl Z H fun x H1=>Ve K R x H1
inductive V8(K:aa)(R:It->Hp->Prop)(x:V)(H1:Hp):Prop |mk (a:_)(h0:x= .ref a)(h1:(∃xs,aP K H1 a xs))(h2:R (qM K a) H1):V8 K R x H1
def Pt(K:aa)(tl:TE):TI:=fun Z H R=>tl Z H fun x H1=>V8 K R x H1
theorem ZT{l:Expr}{tl:TE}(hl:PE X l tl):PI X tg l (Pu X.K tl):=by
 intro au s Z H R I h;refine aW (hl au s Z H _ I h) fun v s1 ⟨x,H1,I1,r1,q1⟩=>?_;obtain⟨a,e,⟨xs,hq⟩,q⟩:=q1;subst e;cases r1;obtain⟨its,rv,p,hz⟩:=I1.list hq;refine Co p.isList ?_;refine⟨s1.heap.objs.size,[s1.heap.objs.size],_,_,H1,rfl,I1.kept (t':=s1.toks) fun b o e=>cn _ e,WB a _,⟨_,eh _ rfl,rfl,rfl⟩,fun b hb=>?_,q⟩;have e:b=s1.heap.objs.size:=by simpa using hb
 subst e;exact I1.oV (bF _) (I1.aV.fresh (bF _))
theorem ZP{l:Expr}{tl:TE}(hl:PE X l tl):PI X tg l (Pt X.K tl):=by
 intro au s Z H R I h;refine aW (hl au s Z H _ I h) fun v s1 ⟨x,H1,I1,r1,q1⟩=>?_;obtain⟨a,e,⟨xs,hq⟩,q⟩:=q1;subst e;cases r1;obtain⟨its,rv,p,hz⟩:=I1.tuple hq;refine wpAny_pyIter_tuple (show s1.heap.IsTuple a its.toArray from p) ?_;refine⟨s1.heap.objs.size,[s1.heap.objs.size],_,_,H1,rfl,I1.kept (t':=s1.toks) fun b o e=>cn _ e,Wx a _,⟨_,eh _ rfl,rfl,rfl⟩,fun b hb=>?_,q⟩;have e:b=s1.heap.objs.size:=by simpa using hb
 subst e;exact I1.oV (bF _) (I1.aV.fresh (bF _))
theorem NB{au:List (Addr×Obj)}{Z:St}{H:Hp}{s:ae}{R:It->Hp->Prop}{E:Value->ae->Prop}{lo hi:Int}{t u v:Tok}{tk:Nat}(I:Inv X au Z H s)(h1:-(2^62)<=lo)(h2:lo<2^62)(h3:-(2^62)<=hi)(h4:hi<2^62) (q:R (nK lo (hi-lo).toNat) H):wpAny (model X.prog X.w) X.A (pyIter (.ref s.heap.objs.size)) (Cf X au Z tg R) E {s with heap:=s.heap.push {cls:=.type "range",data:=.fields #[.int lo t,.int hi u,.int 1 v]},toks:=tk}:=by
  refine wpAny_pyIter_range (IsRange.new ..) (small_one h1 h2 h3 h4) ?_;have I1:Inv X au Z H {s with heap:=s.heap.push {cls:=.type "range",data:=.fields #[.int lo t,.int hi u,.int 1 v]},toks:=tk}:=I.kept fun b o e=>cn _ e;refine⟨(s.heap.push {cls:=.type "range",data:=.fields #[.int lo t,.int hi u,.int 1 v]}).objs.size,[(s.heap.push {cls:=.type "range",data:=.fields #[.int lo t,.int hi u,.int 1 v]}).objs.size],_,_,H,rfl,I1.kept (t':=tk) fun b o e=>cn _ e,WA _ lo (hi-lo).toNat,?_,fun b hb=>?_,q⟩
  · have e1:lo+((0:Nat):Int)*1=lo:=by simp
    have e2:(((hi-lo).toNat:Nat):Int)-((0:Nat):Int)=Builtin.Range.rangeSize lo hi 1:=by rw[rangeSize_one];split<;>lia
    show IsRangeIter _ _ (lo+((0:Nat):Int)*1) ((((hi-lo).toNat:Nat):Int)-((0:Nat):Int)) 1;rw[e1,e2];exact eh _ rfl
  · have e:b=(s.heap.push {cls:=.type "range",data:=.fields #[.int lo t,.int hi u,.int 1 v]}).objs.size:=by simpa using hb
    subst e;exact I1.oV (bF _) (I1.aV.fresh (bF _))
inductive Vc(R:It->Hp->Prop)(vs:List V)(H1:Hp):Prop |mk (j:Int)(h0:vs=[.int j])(h1:-(2^62)<=j)(h2:j<2^62)(h3:R (nK 0 j.toNat) H1):Vc R vs H1
def a4j(ta:TA):TI:=fun Z H R=>ta Z H fun vs H1=>Vc R vs H1
inductive Vb(R:It->Hp->Prop)(vs:List V)(H1:Hp):Prop |mk (i:Int)(j:Int)(h0:vs=[.int i,.int j])(h1:(-(2^62)<=i/\i<2^62/\-(2^62)<=j/\j<2^62))(h2:R (nK i (j-i).toNat) H1):Vb R vs H1
def a4i(ta:TA):TI:=fun Z H R=>ta Z H fun vs H1=>Vb R vs H1
theorem xE{a:Expr}{ta:TA}{p pos:Pos}(hg:Gl X "range")(hm:X.mg "range"=none)(ha:PA X [a] ta)(hs:starEach [a] X.env=[(false,eval a X.env)]:=by rfl):PI X tg (.Call (.Name "range" p) [a] [] pos) (a4j ta):=by intro au s Z H R I h;refine Call_ (oB I hg hm boot_range (wJ (aW (ha pos au s Z H _ I h) fun us s1 ⟨vs,H1,I1,r1,q1⟩=>?_) hs rfl));obtain⟨j,e,q1,q2,q⟩:=q1;subst e;cases r1 with |cons r rr=>cases rr;obtain⟨t,rfl⟩:=r;exact call_range_1 (NB I1 (by lia) (by lia) q1 q2 (by simpa using q))
theorem NM{a b:Expr}{ta:TA}{p pos:Pos}(hg:Gl X "range")(hm:X.mg "range"=none)(ha:PA X [a,b] ta)(hs:starEach [a,b] X.env=[(false,eval a X.env),(false,eval b X.env)]:=by rfl)(j4:starEach [b] X.env=[(false,eval b X.env)]:=by rfl): PI X tg (.Call (.Name "range" p) [a,b] [] pos) (a4i ta):=by intro au s Z H R I h;refine Call_ (oB I hg hm boot_range (wJ (aW (ha pos au s Z H _ I h) fun us s1 ⟨vs,H1,I1,r1,q1⟩=>?_) (by rw[hs,j4]) (by rw[j4];rfl)));obtain⟨i,j,e,⟨q1,q2,q3,q4⟩,q⟩:=q1;subst e;cases r1 with |cons r rr=>cases rr with |cons r' rr=>cases rr;obtain⟨t,rfl⟩:=r;obtain⟨t',rfl⟩:=r';exact call_range_2 (NB I1 q1 q2 q3 q4 q)
def X7(wi:TI)(g:TG)(tb:TS):TS:=fun D Z H=>wi Z H fun J H1=>∃W:Nat->Nat->St->Hp->Prop,(∃m,W 0 m Z H1)/\∀i m Z H,W i m Z H->(J.stop i H/\D.nx Z H)\/(J.go i H/\∃N:St->Hp->Prop,(∀σ' H',N σ' H'->∃m',m'<m/\W (i+1) m' σ' H')/\∀x H',J.jA i H x H'->g x Z H' fun σ2 H2=>tb {D with nx:=N,ct:=N,bk:=D.nx} σ2 H2)
def uU(fp:List Addr)(h:Heap):List (Addr×Obj):=fp.filterMap fun b=>(h.get? b).map fun o=>(b,o)
theorem vp{fp:List Addr}{h:Heap}{b:Addr}{o:Obj}(hb:b∈fp)(e:h.get? b=some o):(b,o)∈uU fp h:=nP.mpr ⟨b,hb,by rw[e];rfl⟩
theorem a27{fp:List Addr}{h:Heap}{p:Addr×Obj}(hp:p∈uU fp h):p.1∈fp/\h.get? p.1=some p.2:=by obtain⟨b,hb,e⟩:=nP.mp hp;cases q:h.get? b with |none=>rw[q]at e;cases e |some o=>rw[q]at e;have e':(b,o)=p:=dG e;subst e';exact⟨hb,q⟩
theorem Inv.pinned{au:List (Addr×Obj)}{Z:St}{H:Hp}{s:ae}{fp:List Addr}(I:Inv X au Z H s)(hf:∀b∈fp,kY X au H b)(ho:∀b∈fp,∃o,s.heap.get? b=some o/\∀v,o.data≠ .cell v):Inv X (au++uU fp s.heap) Z H s:=I.NL fun p hp=>(uo.mp hp).elim (fun z=>I.pin p (kZ _ z)) fun z=>by obtain⟨hb,e⟩:=a27 z;obtain⟨f0,f1,f2,_⟩:=hf p.1 hb;obtain⟨o,e',d⟩:=ho p.1 hb;rw[e]at e';cases e';exact⟨e,f0,f1,f2,d⟩
theorem Inv.wU{au pl:List (Addr×Obj)}{Z:St}{H:Hp}{s:ae}(I:Inv X (au++pl) Z H s):Inv X au Z H s:=I.NL fun p hp=>I.pin p (kZ _ (VJ _ hp))
theorem lF{iter:Expr}{body:List Stmt}{wi:TI}{g:TG}{tb:TS}{pos:Pos}(hp:PassesOwn (model X.prog X.w) X.A X.env X.xe)(hc:X.calm=true)(hi:PI X tg iter wi)(hg:PG X tg g)(hb:gK X body tb) (hs:∀x,foldedSetIterable iter X.env x=pure x:=by intro _;rfl):PS X (.For tg iter body [] pos) (X7 wi g tb):=by
  intro au s Z H D I h;refine wpAny_For (aW (hi au s Z H _ I h) fun v s1 h1=>aW h1 fun AW s2 h2=>?_) hs;obtain⟨it,fp,tn,J,H2,e,I2,T,rE,f2,W,⟨m0,w0⟩,turn⟩:=h2;subst e;have lR:∀{H':Hp},(∀b∈fp,H' b=none)->∀b∈fp,kY X au H' b:=fun hn b hb=>⟨hn b hb,(f2 b hb).2⟩;refine codeAny_forLoop_any (fun n s'=>∃i σ' H',Inv X au σ' H' s'/\tn i s'.heap/\(∀b∈fp,H' b=none)/\W i n σ' H') ?_ m0 ⟨0,Z,H2,I2,rE,fun b hb=>(f2 b hb).1,w0⟩;rintro n s3 ⟨i,σ3,H3,I3,KN,QB,w3⟩;rcases turn i n σ3 H3 w3 with⟨stop,qn⟩|⟨go,N,hN,step⟩
  · refine wF hp (aW (T.done X rfl rfl rfl hc i au s3 σ3 H3 X.xe I3 (lR QB) KN stop) fun r s4 ⟨hr,I4⟩=>?_)
    subst hr;exact zj ⟨σ3,H3,I4,qn⟩
  · refine wF hp (aW (T.item X rfl rfl rfl hc i au s3 σ3 H3 X.xe I3 (lR QB) KN go) fun r s4 ⟨u,hr,h4⟩=>?_)
    subst hr;refine wF hp (aW h4 fun _ s5 ⟨x,H5,I5,r5,y5,o9,tN⟩=>?_);have I5':=I5.pinned (lR tN) (T.obj _ _ o9);refine wF hp (aW (hg _ s5 σ3 H5 x u _ I5' r5 (step x H5 y5)) fun _ s6 ⟨σ6,H6,I6,q6⟩=>?_);refine wF hp (aW (hb _ s6 σ6 H6 _ I6 q6) fun f s7 q7=>?_);have again:∀{σ7:St}{H7:Hp},Inv X (au++uU fp s5.heap) σ7 H7 s7->N σ7 H7->∃m,m<n/\∃i σ' H',Inv X au σ' H' s7/\tn i s7.heap/\(∀b∈fp,H' b=none)/\W i m σ' H':=fun{σ7 H7} I7 n7=>by obtain⟨m',hm,w7⟩:=hN σ7 H7 n7;refine⟨m',hm,i+1,σ7,H7,I7.wU,T.keep _ _ _ o9 fun b hb o e=>(I7.pin (b,o) (kZ _ (kZ _ (vp hb e)))).1,fun b hb=>?_,w7⟩;obtain⟨o,e,d⟩:=T.obj _ _ o9 b hb;exact(I7.pin (b,o) (kZ _ (kZ _ (vp hb e)))).2.1
    cases f with |next=>obtain⟨σ7,H7,I7,n7⟩:=q7;exact again I7 n7 |cont=>obtain⟨σ7,H7,I7,n7⟩:=q7;exact again I7 n7 |brk=>obtain⟨σ7,H7,I7,q7⟩:=q7;exact⟨σ7,H7,I7.wU,q7⟩ |ret v=>obtain⟨x7,σ7,H7,I7,r7,q7⟩:=q7;exact⟨x7,σ7,H7,I7.wU,r7,q7⟩
end
theorem Ie{K:aa}{a:Addr}{xs:List V}{g:TG}{tb:TS}{D:Ends}{Z:St}{H:Hp}(Pv:Nat->St->Hp->Prop)(h0:Pv 0 Z H)(hl:∀i Z H,i<=xs.length->Pv i Z H->aE K H a xs) (hs:∀i x Z H,xs[i]? =some x->Pv i Z H->g x Z H fun σ2 H2=>tb {D with nx:=Pv (i+1),ct:=Pv (i+1),bk:=D.nx} σ2 H2)(hd:∀Z H,Pv xs.length Z H->D.nx Z H): ∃W:Nat->Nat->St->Hp->Prop,(∃m,W 0 m Z H)/\∀i m Z H,W i m Z H->((qN K a).stop i H/\D.nx Z H)\/((qN K a).go i H/\∃N:St->Hp->Prop,(∀σ' H',N σ' H'->∃m',m'<m/\W (i+1) m' σ' H')/\∀x H',(qN K a).jA i H x H'->g x Z H' fun σ2 H2=>tb {D with nx:=N,ct:=N,bk:=D.nx} σ2 H2):=by
  refine⟨fun i m Z H=>m=xs.length-i/\i<=xs.length/\Pv i Z H,⟨xs.length,by simp,fT _,h0⟩,?_⟩;rintro i m Z H ⟨rfl,hi,p⟩;have q:=hl i Z H hi p;by_cases cy:i<xs.length
  · refine .inr ⟨⟨xs,xs[i],q,by simp[cy]⟩,Pv (i+1),fun σ' H' p'=>⟨xs.length-(i+1),by lia,rfl,cy,p'⟩,fun x H' y=>?_⟩
    obtain⟨e,y⟩:=y;subst e;exact hs i x Z _ (y xs q) p
  · have e:i=xs.length:=by lia
    subst e;exact .inl ⟨⟨xs,q,bF _⟩,hd Z H p⟩
theorem a77{K:aa}{a:Addr}{xs:List V}{g:TG}{tb:TS}{D:Ends}{Z:St}{H:Hp}(Pv:Nat->St->Hp->Prop)(h0:Pv 0 Z H)(hl:∀i Z H,i<=xs.length->Pv i Z H->aP K H a xs) (hs:∀i x Z H,xs[i]? =some x->Pv i Z H->g x Z H fun σ2 H2=>tb {D with nx:=Pv (i+1),ct:=Pv (i+1),bk:=D.nx} σ2 H2)(hd:∀Z H,Pv xs.length Z H->D.nx Z H): ∃W:Nat->Nat->St->Hp->Prop,(∃m,W 0 m Z H)/\∀i m Z H,W i m Z H->((qM K a).stop i H/\D.nx Z H)\/((qM K a).go i H/\∃N:St->Hp->Prop,(∀σ' H',N σ' H'->∃m',m'<m/\W (i+1) m' σ' H')/\∀x H',(qM K a).jA i H x H'->g x Z H' fun σ2 H2=>tb {D with nx:=N,ct:=N,bk:=D.nx} σ2 H2):=by
  refine⟨fun i m Z H=>m=xs.length-i/\i<=xs.length/\Pv i Z H,⟨xs.length,by simp,fT _,h0⟩,?_⟩;rintro i m Z H ⟨rfl,hi,p⟩;have q:=hl i Z H hi p;by_cases cy:i<xs.length
  · refine .inr ⟨⟨xs,xs[i],q,by simp[cy]⟩,Pv (i+1),fun σ' H' p'=>⟨xs.length-(i+1),by omega,rfl,cy,p'⟩,fun x H' y=>?_⟩
    obtain⟨e,y⟩:=y;subst e;exact hs i x Z _ (y xs q) p
  · have e:i=xs.length:=by omega
    subst e;exact .inl ⟨⟨xs,q,bF _⟩,hd Z H p⟩
theorem BD{lo:Int}{n:Nat}{g:TG}{tb:TS}{D:Ends}{Z:St}{H:Hp}(Pv:Nat->St->Hp->Prop)(h0:Pv 0 Z H) (hs:∀i Z H,i<n->Pv i Z H->g (.int (lo+i)) Z H fun σ2 H2=>tb {D with nx:=Pv (i+1),ct:=Pv (i+1),bk:=D.nx} σ2 H2)(hd:∀Z H,Pv n Z H->D.nx Z H): ∃W:Nat->Nat->St->Hp->Prop,(∃m,W 0 m Z H)/\∀i m Z H,W i m Z H->((nK lo n).stop i H/\D.nx Z H)\/((nK lo n).go i H/\∃N:St->Hp->Prop,(∀σ' H',N σ' H'->∃m',m'<m/\W (i+1) m' σ' H')/\∀x H',(nK lo n).jA i H x H'->g x Z H' fun σ2 H2=>tb {D with nx:=N,ct:=N,bk:=D.nx} σ2 H2):=by
  refine⟨fun i m Z H=>m=n-i/\i<=n/\Pv i Z H,⟨n,by simp,fT _,h0⟩,?_⟩;rintro i m Z H ⟨rfl,hi,p⟩;by_cases cy:i<n
  · refine .inr ⟨cy,Pv (i+1),fun σ' H' p'=>⟨n-(i+1),by lia,rfl,cy,p'⟩,fun x H' y=>?_⟩
    obtain⟨e,y⟩:=y;subst e y;exact hs i Z _ cy p
  · have e:i=n:=by lia
    subst e;exact .inl ⟨bF _,hd Z H p⟩
theorem mm{c:TT}{tb:TS}{D:Ends}{Z:St}{H:Hp}(Pv:St->Hp->Prop)(μ:St->Hp->Nat)(h0:Pv Z H) (hs:∀Z H,Pv Z H->c Z H fun b H1=>if b=true then tb {D with nx:=fun σ' H'=>Pv σ' H'/\μ σ' H'<μ Z H,ct:=fun σ' H'=>Pv σ' H'/\μ σ' H'<μ Z H,bk:=D.nx} Z H1 else D.nx Z H1) (mono:∀Z H Q Q',(∀b H1,Q b H1->Q' b H1)->c Z H Q->c Z H Q'):Kq c tb D Z H:=by refine⟨fun m Z H=>m=μ Z H/\Pv Z H,⟨_,rfl,h0⟩,?_⟩;rintro m Z H ⟨rfl,p⟩;refine mono Z H _ _ (fun b H1 q=>?_) (hs Z H p);cases b with |true=>exact⟨_,fun σ' H' ⟨p',l⟩=>⟨_,l,rfl,p'⟩,q⟩ |false=>exact q
abbrev R2:=V->V->Hp->VK->Prop
def dc(X:Cx)(f:Value->Value->Sem Value)(r:R2):Prop:=∀(au:List (Addr×Obj))(s:ae)(Z:St)(H:Hp)(x y:V)(v u:Value)(Q:VK),Inv X au Z H s->RelV x v->RelV y u->r x y H Q->wpAny (model X.prog X.w) X.A (f v u) (EP X au Z Q) X.xe s
def Jk(X:Cx)(f:Value->Sem Value)(r:V->Hp->VK->Prop):Prop:=∀(au:List (Addr×Obj))(s:ae)(Z:St)(H:Hp)(x:V)(v:Value)(Q:VK),Inv X au Z H s->RelV x v->r x H Q->wpAny (model X.prog X.w) X.A (f v) (EP X au Z Q) X.xe s
def fh(X:Cx)(f:Value)(r:List V->Hp->VK->Prop):Prop:=∀(au:List (Addr×Obj))(s:ae)(Z:St)(H:Hp)(xs:List V)(us:List Value)(Q:VK),Inv X au Z H s->Vals xs us->r xs H Q->wpAny (model X.prog X.w) X.A (call f us) (EP X au Z Q) X.xe s
def aan(X:Cx)(r:V->Hp->(Bool->Hp->Prop)->Prop):Prop:=∀(au:List (Addr×Obj))(s:ae)(Z:St)(H:Hp)(x:V)(v:Value)(Q:Bool->Hp->Prop),Inv X au Z H s->RelV x v->r x H Q->wpAny (model X.prog X.w) X.A (truthy v) (TP X au Z Q) X.xe s
def xb(r:R2)(ta tb:TE):TE:=fun Z H Q=>ta Z H fun x H1=>tb Z H1 fun y H2=>r x y H2 Q
def WO(r:V->Hp->VK->Prop)(ta:TE):TE:=fun Z H Q=>ta Z H fun x H1=>r x H1 Q
inductive V0(C:Int->Int->Prop)(g:Int->Int->V)(x:V)(y:V)(H:Hp)(Q:VK):Prop |mk (i:_)(j:_)(h0:x= .int i)(h1:y= .int j)(h2:C i j)(h3:Q (g i j) H):V0 C g x y H Q
def rI(C:Int->Int->Prop)(g:Int->Int->V):R2:=fun x y H Q=>V0 C g x y H Q
inductive UZ(g:Int->Int->V)(x:V)(y:V)(H:Hp)(Q:VK):Prop |mk (i:_)(j:_)(h0:x= .int i)(h1:y= .int j)(h2:Q (g i j) H):UZ g x y H Q
def jZ(g:Int->Int->V):R2:=fun x y H Q=>UZ g x y H Q
inductive UI(g:Int->V)(x:V)(H:Hp)(Q:VK):Prop |mk (i:_)(h0:x= .int i)(h1:Q (g i) H):UI g x H Q
def rU(g:Int->V):V->Hp->VK->Prop:=fun x H Q=>UI g x H Q
section
variable {X:Cx}{a b c:Expr}{ta tb tc:TE}{pos:Pos}
theorem J6(ha:PE X a ta)(hb:PE X b tb){au:List (Addr×Obj)}{s:ae}{Z:St}{H:Hp}{R:V->V->Hp->Prop}(I:Inv X au Z H s) (h:ta Z H fun x H1=>tb Z H1 fun y H2=>R x y H2){Q:Value->ae->Prop}{f:Value->Value->Sem Value} (hf:∀v u s2 x y H2,Inv X au Z H2 s2->RelV x v->RelV y u->R x y H2->wpAny (model X.prog X.w) X.A (f v u) Q X.xe s2): wpAny (model X.prog X.w) X.A (eval a X.env) (fun v s₁=>wpAny (model X.prog X.w) X.A (eval b X.env) (fun u s₂=>wpAny (model X.prog X.w) X.A (f v u) Q X.xe s₂) X.xe s₁) X.xe s:=by refine aW (ha au s Z H _ I h) fun v s1 ⟨x,H1,I1,r1,q1⟩=>?_;refine aW (hb au s1 Z H1 _ I1 q1) fun u s2 ⟨y,H2,I2,r2,q2⟩=>?_;exact hf v u s2 x y H2 I2 r1 r2 q2
theorem aG{op:Operator}{r:R2}(ho:dc X (binaryOp op) r)(ha:PE X a ta)(hb:PE X b tb):PE X (.BinOp a op b pos) (xb r ta tb):=by intro au s Z H Q I h;exact wpAny_BinOp (J6 ha hb I h fun v u s2 x y H2 I2 rx ry q=>ho au s2 Z H2 x y v u Q I2 rx ry q)
theorem xG{op:UnaryOp}{r:V->Hp->VK->Prop}(ho:Jk X (unaryOp op) r)(ha:PE X a ta):PE X (.UnaryOp op a pos) (WO r ta):=by intro au s Z H Q I h;exact UnaryOp_ (aW (ha au s Z H _ I h) fun v s1 ⟨x,H1,I1,r1,q1⟩=>ho au s1 Z H1 x v Q I1 r1 q1)
theorem xJ{f:Value->Value->Sem Value}{C:Int->Int->Prop}{g:Int->Int->Int} (rule:∀(i j:Int)(t u:Tok)(s:ae)(Q:Value->ae->Prop)(E:Value->ae->Prop),C i j->Q (.int (g i j) s.toks) {s with toks:=s.toks+1}->wpAny (model X.prog X.w) X.A (f (.int i t) (.int j u)) Q E s): dc X f (rI C fun i j=>.int (g i j)):=by intro au s Z H x y v u Q I rx ry h;obtain⟨i,j,rfl,rfl,hc,q⟩:=h;obtain⟨t,rfl⟩:=rx;obtain⟨t',rfl⟩:=ry;exact rule i j t t' s _ _ hc ⟨.int (g i j),H,I.tok _,⟨_,rfl⟩,q⟩
theorem O6{f:Value->Value->Sem Value}{g:Int->Int->Int} (rule:∀(i j:Int)(t u:Tok)(s:ae)(Q:Value->ae->Prop)(E:Value->ae->Prop),Q (.int (g i j) s.toks) {s with toks:=s.toks+1}->wpAny (model X.prog X.w) X.A (f (.int i t) (.int j u)) Q E s): dc X f (jZ fun i j=>.int (g i j)):=by intro au s Z H x y v u Q I rx ry h;obtain⟨i,j,rfl,rfl,q⟩:=h;obtain⟨t,rfl⟩:=rx;obtain⟨t',rfl⟩:=ry;exact rule i j t t' s _ _ ⟨.int (g i j),H,I.tok _,⟨_,rfl⟩,q⟩
theorem uZ{f:Value->Value->Sem Value}{g:Int->Int->Bool} (rule:∀(i j:Int)(t u:Tok)(s:ae)(Q:Value->ae->Prop)(E:Value->ae->Prop),Q (.bool (g i j)) s->wpAny (model X.prog X.w) X.A (f (.int i t) (.int j u)) Q E s): dc X f (jZ fun i j=>.bl (g i j)):=by intro au s Z H x y v u Q I rx ry h;obtain⟨i,j,rfl,rfl,q⟩:=h;obtain⟨t,rfl⟩:=rx;obtain⟨t',rfl⟩:=ry;exact rule i j t t' s _ _ ⟨.bl (g i j),H,I,rfl,q⟩
def aaB(i j:Int):Prop:=0<=j/\j<=1000000/\i.natAbs<2^64
theorem cJ:dc X (binaryOp .Add) (jZ fun i j=>.int (i+j)):=O6 fun _ _ _ _ _ _ _ q=>add_int q
theorem fY:dc X (binaryOp .Sub) (jZ fun i j=>.int (i-j)):=O6 fun _ _ _ _ _ _ _ q=>sub_int q
theorem ow:dc X (binaryOp .Mod) (rI (fun _ j=>0<j) fun i j=>.int (i%j)):=xJ fun i j _ _ _ _ _ hc q=>by have h1:(0:Int)<j:=hc;exact mod_int' (by lia) (by rw[Int.fmod_eq_emod_of_nonneg i (by lia)];exact q)
theorem uX:dc X (binaryOp .Pow) (rI aaB fun i j=>.int (i^j.toNat)):=xJ fun _ _ _ _ _ _ _ hc q=>pow_int_small hc.1 hc.2.1 hc.2.2 q
theorem Wr{f:Value->Sem Value}{g:Int->Int} (rule:∀(i:Int)(t:Tok)(s:ae)(Q:Value->ae->Prop)(E:Value->ae->Prop),Q (.int (g i) s.toks) {s with toks:=s.toks+1}->wpAny (model X.prog X.w) X.A (f (.int i t)) Q E s): Jk X f (rU fun i=>.int (g i)):=by intro au s Z H x v Q I rx h;obtain⟨i,rfl,q⟩:=h;obtain⟨t,rfl⟩:=rx;exact rule i t s _ _ ⟨.int (g i),H,I.tok _,⟨_,rfl⟩,q⟩
theorem wV:Jk X (unaryOp .USub) (rU fun i=>.int (-i)):=Wr fun _ _ _ _ _ q=>neg_int q
theorem Ij{au:List (Addr×Obj)}{Z:St}{H:Hp}{s:ae}{Q:VK}{k k':Bool}(I:Inv X au Z H s)(q:Q (.bl k) H)(e:k=k'):EP X au Z Q (.bool k') s:=by subst e;exact⟨.bl k,H,I,rfl,q⟩
theorem jF:dc X (compareOp .Lt) (jZ fun i j=>.bl (decide (i<j))):=uZ fun _ _ _ _ _ _ _ q=>lt_int q
theorem uY:dc X (compareOp .LtE) (jZ fun i j=>.bl (decide (i<=j))):=uZ fun _ _ _ _ _ _ _ q=>le_int q
theorem rZ:dc X (compareOp .Gt) (jZ fun i j=>.bl (decide (j<i))):=uZ fun _ _ _ _ _ _ _ q=>gt_int q
theorem G5:dc X (compareOp .GtE) (jZ fun i j=>.bl (decide (j<=i))):=uZ fun _ _ _ _ _ _ _ q=>ge_int q
theorem a0s:dc X (compareOp .In) (fun x y H Q=>∃i j,x= .str i/\y= .str j/\Q (.bl (!(Builtin.Str.occurrences j i 0 j.length 1).isEmpty)) H):=by intro au s Z H x y v u Q I rx ry h;obtain⟨i,j,rfl,rfl,q⟩:=h;obtain⟨t,rfl⟩:=rx;obtain⟨t',rfl⟩:=ry;exact in_str (Ij I q rfl)
theorem a0r:dc X (compareOp .Is) (fun x y H Q=>y= .bp/\Q (.bl (decide (x= .bp))) H):=by intro au s Z H x y v u Q I rx ry h;obtain⟨rfl,q⟩:=h;cases ry;refine is_none_gen (Ij I q ?_);cases x<;>first |(cases rx;rfl) |(obtain⟨t,rfl⟩:=rx;rfl)
theorem xI:dc X (compareOp .IsNot) (fun x y H Q=>y= .bp/\Q (.bl (!decide (x= .bp))) H):=by intro au s Z H x y v u Q I rx ry h;obtain⟨rfl,q⟩:=h;cases ry;refine isnot_none_gen (Ij I q ?_);cases x<;>first |(cases rx;rfl) |(obtain⟨t,rfl⟩:=rx;rfl)
theorem dc.or{f:Value->Value->Sem Value}{r r':R2}(h:dc X f r)(h':dc X f r'):dc X f (fun x y H Q=>r x y H Q\/r' x y H Q):=by
 intro au s Z H x y v u Q I rx ry q;rcases q with q|q
 ·exact h au s Z H x y v u Q I rx ry q
 ·exact h' au s Z H x y v u Q I rx ry q
theorem bo(b:Expr){op:CmpOp}(h:op≠ .In:=by decide)(h2:op≠ .NotIn:=by decide):behindInMarks op b=false:=by
 have e1:(op==CmpOp.In)=false:=by cases op<;>first|rfl|exact absurd rfl h
 have e2:(op==CmpOp.NotIn)=false:=by cases op<;>first|rfl|exact absurd rfl h2
 cases b<;>simp[behindInMarks,e1,e2]
theorem fb{op:CmpOp}{r:R2}(ho:dc X (compareOp op) r)(ha:PE X a ta)(hb:PE X b tb)(hm:behindInMarks op b=false):PE X (.Compare a [op] [b] pos) (xb r ta tb):=by intro au s Z H Q I h;exact wpAny_Compare1 (J6 ha hb I h fun v u s2 x y H2 I2 rx ry q=>ho au s2 Z H2 x y v u Q I2 rx ry q) hm
inductive T9(Q:Bool->Hp->Prop)(x:V)(H':Hp):Prop |mk (k:_)(h0:x= .bl k)(h1:Q k H'):T9 Q x H'
def Kr(t:TE):TT:=fun Z H Q=>t Z H fun x H'=>T9 Q x H'
theorem bW{op:CmpOp}{r:R2}(ho:dc X (compareOp op) r)(ha:PE X a ta)(hb:PE X b tb)(hm:behindInMarks op b=false):PT X (.Compare a [op] [b] pos) (Kr (xb r ta tb)):=by intro au s Z H Q I h;refine wpAny_isTrue_Compare1 (aW (ha au s Z H _ I h) fun v s1 ⟨x,H1,I1,r1,q1⟩=>aW (hb au s1 Z H1 _ I1 q1) fun u s2 ⟨y,H2,I2,r2,q2⟩=>aW (ho au s2 Z H2 x y v u _ I2 r1 r2 q2) fun c s3 ⟨z,H3,I3,r3,k,e,q3⟩=>?_) hm;subst e;cases r3;exact pj ⟨H3,I3,q3⟩
inductive Tg(r':R2)(tc:TE)(Z:St)(Q:VK)(y:V)(z:V)(H3:Hp):Prop |mk (k:_)(h0:z= .bl k)(h1:(if k=true then tc Z H3 fun w' H4=>r' y w' H4 Q else Q (.bl false) H3)):Tg r' tc Z Q y z H3
def Kx(r r':R2)(ta tb tc:TE):TE:=fun Z H Q=>ta Z H fun x H1=>tb Z H1 fun y H2=>r x y H2 fun z H3=>Tg r' tc Z Q y z H3
theorem NS{op sf:CmpOp}{r r':R2}(ho:dc X (compareOp op) r)(lY:dc X (compareOp sf) r')(ha:PE X a ta)(hb:PE X b tb)(hc:PE X c tc) (hm:lastMarks [op,sf] [b,c]=false:=by with_unfolding_all rfl):PE X (.Compare a [op,sf] [b,c] pos) (Kx r r' ta tb tc):=by intro au s Z H Q I h;refine Compare_chain (aW (ha au s Z H _ I h) fun v s1 ⟨x,H1,I1,r1,q1⟩=>chain_link (aW (hb au s1 Z H1 _ I1 q1) fun u s2 ⟨y,H2,I2,r2,q2⟩=>aW (ho au s2 Z H2 x y v u _ I2 r1 r2 q2) fun d s3 ⟨z,H3,I3,r3,k,e,q3⟩=>?_)) hm;subst e;cases r3;refine pj ?_;cases k with |false=>exact ite_ff ⟨.bl false,H3,I3,rfl,q3⟩ |true=>exact ite_tt (chain_last (aW (hc au s3 Z H3 _ I3 q3) fun w' s4 ⟨z',H4,I4,r4,q4⟩=>lY au s4 Z H4 y z' u w' Q I4 r2 r4 q4))
theorem ZA{op sf:CmpOp}{r r':R2}(ho:dc X (compareOp op) r)(lY:dc X (compareOp sf) r')(ha:PE X a ta)(hb:PE X b tb)(hc:PE X c tc) (hm:lastMarks [op,sf] [b,c]=false:=by with_unfolding_all rfl):PT X (.Compare a [op,sf] [b,c] pos) (Kr (Kx r r' ta tb tc)):=by intro au s Z H Q I h;refine isTrue_chain (aW (ha au s Z H _ I h) fun v s1 ⟨x,H1,I1,r1,q1⟩=>test_link (aW (hb au s1 Z H1 _ I1 q1) fun u s2 ⟨y,H2,I2,r2,q2⟩=>aW (ho au s2 Z H2 x y v u _ I2 r1 r2 q2) fun d s3 ⟨z,H3,I3,r3,k,e,q3⟩=>?_)) hm;subst e;cases r3;refine pj ?_;cases k with |false=>obtain⟨k',e',q'⟩:=q3;cases e';exact ite_ff ⟨H3,I3,q'⟩ |true=>refine ite_tt (test_last (aW (hc au s3 Z H3 _ I3 q3) fun w' s4 ⟨z',H4,I4,r4,q4⟩=>aW (lY au s4 Z H4 y z' u w' _ I4 r2 r4 q4) fun d' s5 ⟨z2,H5,I5,r5,k2,e2,q5⟩=>?_));subst e2;cases r5;exact pj ⟨H5,I5,q5⟩
def Jl(K:aa)(x:V)(H:Hp)(k:Bool):Prop:=match x with | .bp=>k=false | .bl b=>k=b | .int i=>k=(i !=0) | .str y=>y.length<=sizeLine/\k=((y.length:Int) !=0) | .wo y=>y.size<=sizeLine/\k=((y.size:Int) !=0) | .ref p=>(∃xs,aE K H p xs/\k= !xs.isEmpty)\/(∃xs,aP K H p xs/\k= !xs.isEmpty)\/∃aL,H p=some (.dK aL)/\k= !aL.isEmpty |_=>False
theorem a42{κ:Type}{aL:List (κ×V)}{vs:List (κ×Value)}(r:KV aL vs):(!vs.isEmpty)= !aL.isEmpty:=by cases r<;>rfl
theorem Pk{xs:List V}{its:List Value}(r:Vals xs its):(!its.toArray.isEmpty)= !xs.isEmpty:=by cases r<;>simp
theorem sP:(sizeLine:Nat)<2^63:=by rw[sizeLine_eq];decide
theorem WE:aan X (fun x H Q=>∃k,Jl X.K x H k/\Q k H):=by intro au s Z H x v Q I rx h;obtain⟨k,e,q⟩:=h;have hl:=sP;have hs:sizeLine=16777216:=sizeLine_eq;cases x with |bp=>cases rx;have e':k=false:=e;subst e';exact truthy_none ⟨H,I,q⟩ |bl b=>cases rx;have e':k=b:=e;subst e';exact pj ⟨H,I,q⟩ |int i=>obtain⟨t,rfl⟩:=rx;have e':k=(i !=0):=e;subst e';exact PySem.P.truthy_int ⟨H,I,q⟩ |str y=>obtain⟨t,rfl⟩:=rx;obtain⟨hy,e'⟩:y.length<=sizeLine/\k=((y.length:Int) !=0):=e;subst e';exact PySem.P.truthy_str (by lia) ⟨H,I.tok _,q⟩ |wo y=>obtain⟨t,rfl⟩:=rx;obtain⟨hy,e'⟩:y.size<=sizeLine/\k=((y.size:Int) !=0):=e;subst e';exact PySem.W.truthy_bytes (by lia) ⟨H,I.tok _,q⟩ |ref p=>
   cases rx;have e':(∃xs,aE X.K H p xs/\k= !xs.isEmpty)\/(∃xs,aP X.K H p xs/\k= !xs.isEmpty)\/∃aL,H p=some (.dK aL)/\k= !aL.isEmpty:=e;rcases e' with⟨xs,hx,e'⟩|⟨xs,hx,e'⟩|⟨aL,hx,e'⟩
   · subst e'
     obtain⟨its,r,pl,hz⟩:=I.list hx;have hlen:=r.length;exact wpAny_truthy_list pl.isList (by simp only[dX];lia) ⟨H,I.tok _,by rw[Pk r];exact q⟩
   · subst e'
     obtain⟨its,r,pl,hz⟩:=I.tuple hx;have hlen:=r.length;exact truthy_tuple pl (by simp only[dX];lia) ⟨H,I.tok _,by rw[Pk r];exact q⟩
   · subst e'
     obtain⟨hz,hS,vs,r,m⟩:aL.length<=sizeLine/\(p==sysModules)=false/\∃vs,KV aL vs/\s.heap.DictOf (jj X.prog X.w) p vs:=I.aV p _ hx;have hlen:aL.length=vs.length:=Paired.length r;exact wpAny_truthy_dict hS m (by lia) ⟨H,I.tok _,by rw[a42 r];exact q⟩ |_=>exact(show False from e).elim
theorem Zz(ha:PE X a ta)(he:∀whole,isTrue a X.env whole=(do let v<-whole;standAt a.pos;holding [v] (truthy v))): PT X a (fun Z H Q=>ta Z H fun x H'=>∃k,Jl X.K x H' k/\Q k H'):=by intro au s Z H Q I h;exact isTrue_plain (aW (ha au s Z H _ I h) fun v s1 ⟨x,H1,I1,r1,q1⟩=>WE au s1 Z H1 x v Q I1 r1 q1) (he _)
theorem a0x:dc X (binaryOp .Add) (fun x y H Q=>∃i j,x= .str i/\y= .str j/\i.length+j.length<=sizeLine/\Q (.str (i++j)) H):=by intro au s Z H x y v u Q I rx ry h;obtain⟨i,j,rfl,rfl,hz,q⟩:=h;obtain⟨t,rfl⟩:=rx;obtain⟨t',rfl⟩:=ry;exact add_str (fun t' tk=>⟨.str (i++j),H,I.tok _,⟨_,rfl⟩,q⟩) hz
theorem vals1{x:V}{us:List Value}(r:Vals [x] us):∃u,us=[u]/\RelV x u:=by cases r with |cons r1 r2=>cases r2;exact⟨_,rfl,r1⟩
theorem vals2{x y:V}{us:List Value}(r:Vals [x,y] us):∃u w',us=[u,w']/\RelV x u/\RelV y w':=by cases r with |cons r1 r2=>cases r2 with |cons r3 r4=>cases r4;exact⟨_,_,rfl,r1,r3⟩
theorem nv:fh X (.builtin "abs") (fun xs H Q=>∃i,xs=[.int i]/\Q (.int (if i<0 then-i else i)) H):=by intro au s Z H xs us Q I r h;obtain⟨i,rfl,q⟩:=h;obtain⟨u,rfl,t,rfl⟩:=vals1 r;exact call_abs_int fun u tk=>⟨.int (if i<0 then-i else i),H,I.tok _,⟨_,rfl⟩,q⟩
theorem S9(hc:X.calm=true):fh X (.builtin "max") (fun xs H Q=>∃i j,xs=[.int i,.int j]/\Q (.int (if j>i then j else i)) H):=by
 intro au s Z H xs us Q I r h;obtain⟨i,j,rfl,q⟩:=h;obtain⟨u,w',rfl,⟨t,rfl⟩,⟨t',rfl⟩⟩:=vals2 r;refine max_two_ints (I.ok.hd hc) fun h' tk k=>⟨_,H,I.kept k,?_,q⟩;by_cases hj:j>i
 ·rw[aY hj,aY hj];exact⟨_,rfl⟩
 ·rw[aZ hj,aZ hj];exact⟨_,rfl⟩
theorem J2(hc:X.calm=true):fh X (.builtin "min") (fun xs H Q=>∃i j,xs=[.int i,.int j]/\Q (.int (if j<i then j else i)) H):=by
 intro au s Z H xs us Q I r h;obtain⟨i,j,rfl,q⟩:=h;obtain⟨u,w',rfl,⟨t,rfl⟩,⟨t',rfl⟩⟩:=vals2 r;refine min_two_ints (I.ok.hd hc) fun h' tk k=>⟨_,H,I.kept k,?_,q⟩;by_cases hj:j<i
 ·rw[aY hj,aY hj];exact⟨_,rfl⟩
 ·rw[aZ hj,aZ hj];exact⟨_,rfl⟩
theorem Sa:fh X (.type "int") (fun xs H Q=>(∃i,xs=[.int i]/\Q (.int i) H)\/∃k,xs=[.bl k]/\Q (.int (if k then 1 else 0)) H):=by
 intro au s Z H xs us Q I r h;rcases h with⟨i,rfl,q⟩|⟨k,rfl,q⟩
 · obtain⟨u,rfl,t,rfl⟩:=vals1 r
   exact call_int_int ⟨.int i,H,I,⟨_,rfl⟩,q⟩
 · obtain⟨u,rfl,r1⟩:=vals1 r
   cases r1;exact call_int_bool ⟨.int (if k then 1 else 0),H,I.tok _,⟨_,rfl⟩,q⟩
end
structure ub(h:Heap)(x dx C:Addr)(mA:Str->Option Value):Prop where
 obj:h.get? x=some (PySem.W.instObj C dx)
 ns:h.Ns1 dx mA
 ne:dx≠x
theorem a3l{h:Heap}{dx:Addr}{mA:Str->Option Value}(n:h.Ns1 dx mA):∃od,h.get? dx=some od/\∀name,PySem.W.lookIn name od=some (mA name):=by
 obtain⟨o,es,ep,ho,hd,hk,_,hm⟩:=n;refine⟨o,ho,fun name=>?_⟩;have e:=hm name;unfold nsFind findBy at e;rw[<-Array.find?_toList]at e;unfold PySem.W.lookIn;rw[hd];dsimp only;split
 · rename_i y q
   rw[q]at e;exact congrArg some e
 · rename_i q
   rw[q]at e;have a:es.toList.any (·.refKey)=false:=by rw[List.any_eq_false];intro y hy;obtain⟨z,t,a58⟩:=hk y (Array.mem_toList_iff.mp hy);simp[DictEntry.refKey,a58]
   have a':¬es.toList.any (·.refKey)=true:=by rw[a];exact jW
   rw[aZ a'];exact congrArg some e
theorem ub.look{h:Heap}{x dx C:Addr}{mA:Str->Option Value}(I:ub h x dx C mA):∃od,PySem.W.InstAt h x (PySem.W.instObj C dx) C (some od)/\∀name,PySem.W.lookIn name od=some (mA name):=let⟨od,ho,hl⟩:=a3l I.ns
 ⟨od,⟨I.obj,rfl,rfl,ho⟩,hl⟩
section
variable {prog:ah}{w:World}{A:aj}{E:Value->ae->Prop}{s:ae}{K:aa}{x dx C f:Addr}{mA:Str->Option Value}{name:Str}{v:Value}
theorem get_map{expr:Bool}{Q:Value->ae->Prop}(X:K.In s.heap)(I:ub s.heap x dx C mA)(hg:PySem.W.plainGet K C name=true)(hh:PySem.W.hasDictIn K C=true) (ha:PySem.W.findIn K (.ref C) name=some none)(hv:mA name=some v)(hv':PySem.W.handedIn v=true)(h:Q v {s with toks:=s.toks+1}): wpAny (model prog w) A (getAttr (.ref x) name expr) Q E s:=by obtain⟨od,J,hl⟩:=I.look;exact PySem.W.get_value X J (Vz hg).1 (PySem.W.findObj_own hh ha rfl (by rw[hl,hv])) hv' h
theorem a6O{pl:Sem Bool}{Q:Value×List Value->ae->Prop}(X:K.In s.heap)(I:ub s.heap x dx C mA)(hg:PySem.W.plainGet K C name=true) (hf:PySem.W.findIn K (.ref C) name=some (some (.ref f)))(ht:PySem.W.isFn K (.ref f)=true)(hv:mA name=none)(h:Q (.ref f,[.ref x]) s): wpAny (model prog w) A (getMethod (.ref x) name pl) Q E s:=by obtain⟨od,J,hl⟩:=I.look;exact PySem.W.method_fn X J (Vz hg).1 (Vz hg).2 hf (fM.mp ht) (by show(PySem.W.lookIn name od).map (·.isSome)=some false;rw[hl,hv];rfl) h
theorem XY{ns:List Str}{Q:Unit->ae->Prop}(X:K.In s.heap)(I:ub s.heap x dx C mA) (hs:PySem.W.findIn K (.ref C) "__setattr__"=some (some (.builtin "object.__setattr__")))(hp:PySem.W.plainOver K C=true)(ht:PySem.W.takerIn K C name=some none)(hh:PySem.W.hasDictIn K C=true) (hw:PySem.Within mA ns)(hsz:ns.length<=sizeLine) (h:∀h',ub h' x dx C (fun y=>if y=name then some v else mA y)->Heap.SameBut dx s.heap h'->Q () {s with heap:=h',toks:=s.toks+2}): wpAny (model prog w) A (setAttr (.ref x) name v) Q E s:=by obtain⟨od,J,hl⟩:=I.look;refine PySem.W.set_plain X J hs (PySem.W.osa_open (s:={s with toks:=s.toks+1}) (r:=none) X J hp ht fun b=>?_);obtain⟨cd,hc,vO⟩:=PySem.W.any_some hh;have hx:s.heap.get? x=some ⟨.ref C,some dx,.plain,#[]⟩:=I.obj;refine aO (cg (aO (aO (wpAny_loadPart hx (aO (PySem.W.Looks.here (s:={s with toks:=s.toks+1}) (PySem.W.looks_clsIn X hc) ?_))))));rw[vO];refine cg (a:=some dx) (aO (cg (aO ?_)));refine wpAny_nsSet1 (s:={s with toks:=s.toks+1}) I.ns fun h' Be j4=>?_;obtain⟨oD,esD,epD,hoD,hdD,hcD⟩:=Be.count (PySem.Within.cons name v hw);refine aO (wpAny_lookBehind hoD (by rw[hdD];exact pastItsLine_dict (ib hcD (by rw[jU];lia))) ?_);exact cg (h _ ⟨(j4.2 _ (eR I.ne)).trans I.obj,Be,I.ne⟩ j4)
theorem a2P{R:Result->ae->Prop}{vs:List Value}{kw:List (Str×Value)}(X:K.In s.heap)(hm:PySem.W.makesIn K C=true) (hi:PySem.W.findIn K (.ref C) "__init__"=some (some (.ref f)))(hf:PySem.W.typeIn K (.ref f)=some (.type "function")) (h:codeAny (model prog w) (A.under (.builtin "type.__call__" ⟨.ref C::vs,kw⟩)) (.call (.ref f) ⟨.ref (s.heap.objs.size+1)::vs,kw⟩) (PySem.W.InitBack (s.heap.objs.size+1) R) {s with heap:=(s.heap.push PySem.W.emptyDict).push (PySem.W.instObj C s.heap.objs.size)}): codeAny (model prog w) A (.call (.ref C) ⟨vs,kw⟩) R s:=by obtain⟨hh,g,d,t,os⟩:=s;exact PySem.W.make_core (PySem.W.makes_of X hm) (PySem.W.looks_findIn X hi) (fun self=>PySem.W.bind_fn X self hf) (.inl rfl) h
end
def iV(f:Str)(v:V):List (Str×V)->List (Str×V) |[]=>[(f,v)] |(g,x)::r=>if g=f then(g,v)::r else(g,x)::iV f v r
theorem OS(f g:Str)(v:V):∀fs:List (Str×V),(iV f v fs).lookup g=if g=f then some v else fs.lookup g
  |[]=>by
    show List.lookup g [(f,v)]=_;by_cases h:g=f
    · have hb:(g==f)=true:=fM.mpr h
      simp only[List.lookup,hb,aY h]
    · have hb:(g==f)=false:=Cu.mpr h
      simp only[List.lookup,hb,aZ h] |(k,x)::r=>by
    have ih:=OS f g v r;rw[show iV f v ((k,x)::r)=(if k=f then(k,v)::r else(k,x)::iV f v r)from rfl];by_cases hk:k=f
    · rw[aY hk]
      by_cases h:g=k
      · have hb:(g==k)=true:=fM.mpr h
        simp only[List.lookup,hb,aY (h.trans hk)]
      · have hb:(g==k)=false:=Cu.mpr h
        simp only[List.lookup,hb,aZ (fun e:g=f=>h (e.trans hk.symm))]
    · rw[aZ hk]
      by_cases h:g=k
      · have hb:(g==k)=true:=fM.mpr h
        simp only[List.lookup,hb,aZ (fun e:g=f=>hk (h.symm.trans e))]
      · have hb:(g==k)=false:=Cu.mpr h
        simp only[List.lookup,hb];exact ih
theorem GJ(f:Str)(v:V):∀fs:List (Str×V),f∈(iV f v fs).map (·.1)/\∀g,g∈fs.map (·.1)->g∈(iV f v fs).map (·.1)
  |[]=>⟨by simp[iV],fun g h=>by simp at h⟩ |(k,x)::r=>by
    obtain⟨i1,i2⟩:=GJ f v r;rw[show iV f v ((k,x)::r)=(if k=f then(k,v)::r else(k,x)::iV f v r)from rfl];by_cases hk:k=f
    · rw[aY hk]
      subst hk;exact⟨by simp,fun g h=>by simpa using h⟩
    · rw[aZ hk]
      refine⟨?_,fun g h=>?_⟩
      · rw[nQ]
        exact ie _ i1
      · rw[nQ]at h⊢
        rcases bI.mp h with e|e
        ·exact bI.mpr (.inl e)
        ·exact ie _ (i2 g e)
theorem OY(f:Str)(v:V):∀fs:List (Str×V),(iV f v fs).length<=fs.length+1
  |[]=>by simp[iV] |(k,x)::r=>by
    have ih:=OY f v r;rw[show iV f v ((k,x)::r)=(if k=f then(k,v)::r else(k,x)::iV f v r)from rfl];by_cases hk:k=f
    ·rw[aY hk,jU,jU];lia
    ·rw[aZ hk,jU,jU];lia
theorem jr.some_of{v:V}{o:Option Value}(r:jr (some v) o):∃u,o=some u/\RelV v u:=by cases o with |none=>exact(show False from r).elim |some u=>exact⟨u,rfl,r⟩
theorem jr.none_of{o:Option Value}(r:jr none o):o=none:=by cases o with |none=>rfl |some u=>exact(show False from r).elim
theorem a5N{v:V}{u:Value}(r:RelV v u):PySem.W.handedIn u=true:=by cases v with |bp=>cases(show u=Value.none from r);rfl |bl b=>cases(show u=Value.bool b from r);rfl |int i=>obtain⟨t,e⟩:=(show∃t,u=Value.int i t from r);cases e;rfl |str x=>obtain⟨t,e⟩:=(show∃t,u=Value.str x t from r);cases e;rfl |wo b=>obtain⟨t,e⟩:=(show∃t,u=Value.bytes b t from r);cases e;rfl |BE b=>obtain⟨t,e⟩:=(show∃t,u=Value.float b t from r);cases e;rfl |ref a=>cases(show u=Value.ref a from r);rfl |ty n=>cases(show u=Value.type n from r);rfl
section
variable {P:ah}{w:World}{H H':Hp}{h h':Heap}{a C dx:Addr}{fs fs':List (Str×V)}
theorem GS(aV:dB P w H h)(e:H a=some (.ins C dx fs)):∃mA,ub h a dx C mA/\(∀f,jr (fs.lookup f) (mA f))/\PySem.Within mA (fs.map (·.1))/\fs.length<=1000/\H dx=some (.own a):=by obtain⟨d,z,ne,ob,mA,n,r,q⟩:=(show fC P w H h a (.ins C dx fs)from aV a _ e);exact⟨mA,⟨ob,n,ne⟩,r,q,z,d⟩
end
structure jR(K:aa)(C:Addr):Prop where
 pg:PySem.W.plainGet K C Str.empty=true
 hd:PySem.W.hasDictIn K C=true
 po:PySem.W.plainOver K C=true
 sa:PySem.W.findIn K (.ref C) "__setattr__"=some (some (.builtin "object.__setattr__"))
theorem jR.get{K:aa}{C:Addr}(c:jR K C)(f:Str):PySem.W.plainGet K C f=true:=c.pg
def j9(K:aa)(C:Addr)(f:Str):Prop:=PySem.W.findIn K (.ref C) f=some none
theorem j9.WN{K:aa}{C:Addr}{f:Str}(n:j9 K C f):PySem.W.takerIn K C f=some none:=by unfold PySem.W.takerIn;rw[show PySem.W.findIn K (.ref C) f=some none from n];rfl
structure Meth(K:aa)(C:Addr)(m:Str)(f:Addr):Prop where
 at_:PySem.W.findIn K (.ref C) m=some (some (.ref f))
 fn:PySem.W.isFn K (.ref f)=true
 kp:PySem.W.keepIn K (.ref f)=true
section
variable {X:Cx}{au:List (Addr×Obj)}{Z:St}{H:Hp}{s:ae}{a C dx:Addr}{fs:List (Str×V)}{f:Str}{v:V}{A:aj}{E:Value->ae->Prop}
theorem Qr{b:Bool}{Q:Value->ae->Prop}(I:Inv X au Z H s)(e:H a=some (.ins C dx fs))(c:jR X.K C)(n:j9 X.K C f)(l:fs.lookup f=some v) (h:∀u s',Inv X au Z H s'->RelV v u->Q u s'):wpAny (model X.prog X.w) A (getAttr (.ref a) f b) Q E s:=by obtain⟨mA,acq,r,_,_,_⟩:=GS I.aV e;obtain⟨u,hu,ru⟩:=jr.some_of (v:=v) (o:=mA f) (by rw[<-l];exact r f);exact get_map I.gk acq (c.get f) c.hd n hu (a5N ru) (h u _ (I.tok _) ru)
theorem Qq{m:Str}{g:Addr}{pl:Sem Bool}{Q:Value×List Value->ae->Prop}(I:Inv X au Z H s)(e:H a=some (.ins C dx fs))(c:jR X.K C)(k:Meth X.K C m g)(l:fs.lookup m=none) (h:Q (.ref g,[.ref a]) s):wpAny (model X.prog X.w) A (getMethod (.ref a) m pl) Q E s:=by obtain⟨mA,acq,r,_,_,_⟩:=GS I.aV e;have hn:mA m=none:=jr.none_of (by rw[<-l];exact r m);exact a6O I.gk acq (c.get m) k.at_ k.fn hn h
theorem LO{y:V}{u:Value}{Q:Unit->ae->Prop}(I:Inv X au Z H s)(e:H a=some (.ins C dx fs))(c:jR X.K C)(n:j9 X.K C f)(hl:fs.length<1000)(ry:RelV y u) (h:∀s',Inv X au Z (upd H a (.ins C dx (iV f y fs))) s'->Q () s'):wpAny (model X.prog X.w) A (setAttr (.ref a) f u) Q E s:=by
  obtain⟨mA,acq,r,wi,_,ho⟩:=GS I.aV e;have hz:(fs.map (·.1)).length<=sizeLine:=by rw[cj,sizeLine_eq];lia
  refine XY I.gk acq c.sa c.po n.WN c.hd wi hz fun h' O' sb=>h _ ?_;have hd:∃o,h'.get? dx=some o:=let⟨o,_,_,e',_⟩:=O'.ns;⟨o,e'⟩;refine I.write (x:=a) (e:=dx) (by rw[e];exact True.intro) (.inr ho) (fun b q hb z=>(sb.2 b hb).trans z) hd ?_;refine⟨by rw[aK acq.ne];exact ho,?_,acq.ne,O'.obj,_,O'.ns,fun g=>?_,fun g hg=>?_⟩
  ·have:=OY f y fs;lia
  · show jr ((iV f y fs).lookup g) (if g=f then some u else mA g)
    rw[OS];by_cases q:g=f
    ·rw[aY q,aY q];exact ry
    ·rw[aZ q,aZ q];exact r g
  · by_cases q:g=f
    ·rw[q];exact(GJ f y fs).1
    · refine(GJ f y fs).2 g (wi g fun z=>hg ?_)
      show(if g=f then some u else mA g)=none;rw[aZ q];exact z
theorem Inv.made(I:Inv X au Z H s):Inv X au Z (upd (upd H s.heap.objs.size (.own (s.heap.objs.size+1))) (s.heap.objs.size+1) (.ins C s.heap.objs.size [])) {s with heap:=(s.heap.push PySem.W.emptyDict).push (PySem.W.instObj C s.heap.objs.size)}:=by
  have e1:(s.heap.push PySem.W.emptyDict).get? s.heap.objs.size=some PySem.W.emptyDict:=eh s.heap rfl;have e2:((s.heap.push PySem.W.emptyDict).push (PySem.W.instObj C s.heap.objs.size)).get? (s.heap.objs.size+1)=some (PySem.W.instObj C s.heap.objs.size):=by have:=eh (s.heap.push PySem.W.emptyDict) (o:=PySem.W.instObj C s.heap.objs.size) rfl;rwa [qZ]at this
  have e3:(s.heap.push PySem.W.emptyDict).Ns s.heap.objs.size (fun _=>none):=⟨PySem.W.emptyDict,#[],_,e1,rfl,(fun e he=>absurd he (by simp)),fun _=>rfl⟩;have I1:=I.laid (a:=s.heap.objs.size) (o:=.own (s.heap.objs.size+1)) (h':=s.heap.push PySem.W.emptyDict) (t':=s.toks) (fun b u q=>cn _ q) (bF _) ⟨_,e1⟩;refine I1.laid (a:=s.heap.objs.size+1) (o:=.ins C s.heap.objs.size []) (t':=s.toks) (fun b u q=>cn _ q) (Nat.le_of_eq (qZ _ _)) ?_;have ne:s.heap.objs.size≠s.heap.objs.size+1:=fm (VH _);refine⟨by rw[aK ne,ba],fT _,ne,e2,fun _=>none,(Heap.Ns1.of_empty e3).at fun o q=>cn _ q,fun _=>True.intro,fun y hy=>absurd rfl hy⟩
theorem a9Z{prog:ah}{w:World}{env:Env}{e:Expr}{f:Str}{pos:Pos}{s:ae}{Q:Value->ae->Prop}(hb:attributeBase e f env (eval e env)=eval e env) (h:wpAny (model prog w) A (eval e env) (fun o s₁=>wpAny (model prog w) A (getAttr o f true) Q E s₁) E s):wpAny (model prog w) A (eval (.Attribute e f pos) env) Q E s:=Attribute_any_ h (by rw[arm_eval_Attribute,hb])
end
def aay(X:Cx)(op:Operator)(rd:V->V->Hp->VK->Prop):Prop:=∀(au:List (Addr×Obj))(s:ae)(Z:St)(H:Hp)(x y:V)(u v:Value)(Q:VK),Inv X au Z H s->RelV x u->RelV y v->rd x y H Q->wpAny (model X.prog X.w) X.A (inplaceOp op u v) (EP X au Z Q) X.xe s
section
variable {X:Cx}{o e value:Expr}{f:Str}{pos pos' nY:Pos}{ta tv:TE}
end
section
variable {X:Cx}{au:List (Addr×Obj)}{Z:St}{H:Hp}{s:ae}{A:aj}{E:Value->ae->Prop}{Q:Value->ae->Prop}{c:Value}{b:Bool}
end
structure cE(k:Nat)(A:aj):Prop where
 hd:A.handled=none
 dp:A.depth+3*k+5<recursionLimit
 un:A.units+16*k+200<cLine
theorem cE.mono{j k:Nat}{A:aj}(r:cE k A)(h:j<=k):cE j A:=⟨r.hd,by have:=r.dp;lia,by have:=r.un;lia⟩
theorem cE.deeper{k:Nat}{A:aj}(r:cE (k+1) A)(env:Env):cE k (A.deeper env):=⟨r.hd,by have:=r.dp;show A.depth+1+3*k+5<_;lia,by have:=r.un;show A.units+3+16*k+200<_;lia⟩
theorem a2Q{A:aj}{C:Addr}{us:List Value}{kw:List (Str×Value)}:(A.under (.builtin "type.__call__" ⟨.ref C::us,kw⟩)).depth=A.depth+1:=by first|rfl|simp[Around.under,Code.weight,Code.isCreation,Code.isGuard,Code.isCaller,Code.frames,Code.isFrame,guardIds]
theorem a2O{A:aj}{C:Addr}{us:List Value}{kw:List (Str×Value)}:(A.under (.builtin "type.__call__" ⟨.ref C::us,kw⟩)).units=A.units+1:=by first|rfl|simp[Around.under,Code.cUnits,Code.frames,Code.isFrame]
theorem cE.make{k:Nat}{A:aj}(r:cE (k+1) A)(C:Addr)(us:List Value)(kw:List (Str×Value)):cE k (A.under (.builtin "type.__call__" ⟨.ref C::us,kw⟩)):=⟨r.hd,by have:=r.dp;rw[a2Q];omega,by have:=r.un;rw[a2O];omega⟩
theorem cE.depth{k:Nat}{A:aj}(r:cE k A):A.depth<recursionLimit:=by have:=r.dp;lia
theorem cE.units{k:Nat}{A:aj}(r:cE k A):A.units+64<cLine:=by have:=r.un;lia
def mx:TA:=fun _ H Q=>Q [] H
def Df(ta:TE)(tr:TA):TA:=fun Z H Q=>ta Z H fun x H1=>tr Z H1 fun xs H2=>Q (x::xs) H2
section
variable {X:Cx}{e:Expr}{es:List Expr}{te:TE}{t:TA}{pos:Pos}
theorem aw:PA X [] mx:=fun _ _ _ _ H Q I h=>Calls.spliced_nil ⟨[],H,I,.nil,h⟩
theorem O(ha:PE X e te)(hr:PA X es t)(hs:starEach (e::es) X.env=(false,eval e X.env)::starEach es X.env:=by rfl):PA X (e::es) (Df te t):=by intro pos au s Z H Q I h;rw[hs];show wpAny _ _ (spliced ((false,eval e X.env)::backTo pos (starEach es X.env))) _ _ s;refine Calls.spliced_cons (aW (ha au s Z H _ I h) fun u s1 ⟨x,H1,I1,r1,q1⟩=>?_);exact aW (hr pos au s1 Z H1 _ I1 q1) fun us s2 ⟨xs,H2,I2,r2,q2⟩=>⟨x::xs,H2,I2,.cons r1 r2,q2⟩
end
abbrev Sp:=List V->Hp->VK->XK->Prop
abbrev jT:=List Env->Hp->ae->XK->Value->ae->Prop
structure nO(P:ah)(w:World)(K:aa)(mg:Str->Option Value)(base:Heap)(A:aj)(outer:List Env)(s:ae)(H:Hp):Prop where
 frames:A.frames=some outer
 mod:Mod K mg base
 bs:∀b o,base.get? b=some o->s.heap.get? b=some o/\H b=none
 lN:base.objs.size<=s.heap.objs.size
 jo:s.heap.FunFrames base outer
 mU:∀b∈da outer,H b=none
 aV:dB P w H s.heap
 bare:AllBare s.gens
def CE(outer:List Env)(P:ah)(w:World)(H:Hp)(s:ae)(Q:VK)(u:Value)(s':ae):Prop:=∃v H',s'.os=s.os/\AllBare s'.gens/\Un (da outer) [] H H' s.heap s'.heap/\dB P w H' s'.heap/\RelV v u/\Q v H'
def CR(CX:jT)(outer:List Env)(P:ah)(w:World)(H:Hp)(s:ae)(Q:VK)(E:XK)(r:Result)(s':ae):Prop:=match r with | .ok (.ret u)=>CE outer P w H s Q u s' | .ok _=>False | .error e=>CX outer H s E e s'
structure iR(P:ah)(w:World)(K:aa)(mg:Str->Option Value)(base:Heap)(CX:jT)(k:Nat)(f:Addr)(fd:FuncData)(ps:List Str)(sp:Sp):Prop where
 len:∀vs H Q E,sp vs H Q E->vs.length=ps.length
 run:∀(A:aj)(outer:List Env)(s:ae)(H:Hp)(args:Args)(us:List Value)(vs:List V)(Q:VK)(E:XK),cE k A->nO P w K mg base A outer s H->BindsTo s fd args (ps.zip us)->Vals vs us->sp vs H Q E->codeAny (model P w) A (.call (.ref f) args) (CR CX outer P w H s Q E) s
theorem nO.make{P:ah}{w:World}{K:aa}{mg:Str->Option Value}{base:Heap}{A:aj}{outer:List Env}{s:ae}{H:Hp}(e:nO P w K mg base A outer s H)(C:Addr)(us:List Value)(kw:List (Str×Value)): nO P w K mg base (A.under (.builtin "type.__call__" ⟨.ref C::us,kw⟩)) outer s H:=⟨by first|exact e.frames|(simpa[Around.under,Code.envs,Code.isFrame,pushEnvs]using e.frames),e.mod,e.bs,e.lN,e.jo,e.mU,e.aV,e.bare⟩
section
variable {X:Cx}{au:List (Addr×Obj)}{Z:St}{H:Hp}{s s':ae}
theorem Inv.BK(I:Inv X au Z H s):nO X.prog X.w X.K X.mg X.base X.A X.stack s H:=⟨I.ok.frames,I.ok.mod,I.bs,ib I.ok.lN I.sz,I.stack,I.zT,I.aV,I.bare⟩
theorem Inv.after{Q:VK}{u:Value}(I:Inv X au Z H s)(h:CE X.stack X.prog X.w H s Q u s'):EP X au Z Q u s':=by obtain⟨v,H',os,bare,un,aV,r,q⟩:=h;obtain⟨hh,g,d,t,fH⟩:=s';obtain rfl:fH=s.os:=os;exact⟨v,H',I.call (h':=hh) (g':=g) (d':=d) (t':=t) (ch:=[]) un aV bare (fun b z=>absurd z (by simp)),r,q⟩
end
def Xa(sp:Sp)(gb:List V)(E:XK)(t:TA):TE:=fun Z H Q=>t Z H fun vs H1=>sp (vs++gb) H1 Q E
inductive ud(C:Addr)(m:Str)(sp:Sp)(gb:List V)(E:XK)(t:TA)(Z:St)(Q:VK)(x:V)(H1:Hp):Prop |mk (a:_)(dx:_)(fs:_)(h0:x= .ref a)(h1:H1 a=some (.ins C dx fs))(h2:fs.lookup m=none)(h3:t Z H1 fun vs H2=>sp (x::(vs++gb)) H2 Q E):ud C m sp gb E t Z Q x H1
def Kt(C:Addr)(m:Str)(sp:Sp)(gb:List V)(E:XK)(ta:TE)(t:TA):TE:=fun Z H Q=>ta Z H fun x H1=>ud C m sp gb E t Z Q x H1
def X4(C:Addr)(sp:Sp)(gb:List V)(E:XK)(t:TA):TE:=fun Z H Q=>t Z H fun vs H1=>∀x dx,H1 x=none->H1 dx=none->dx≠x->sp (.ref x::(vs++gb)) (upd (upd H1 dx (.own x)) x (.ins C dx [])) (fun v H2=>v= .bp/\Q (.ref x) H2) E
def Binds(K:aa)(fd:FuncData)(ps:List Str)(ds:List Value):Prop:=∀(s:ae)(us:List Value),K.In s.heap->(us++ds).length=ps.length->BindsTo s fd ⟨us,[]⟩ (ps.zip (us++ds))
theorem Binds.all{K:aa}{fd:FuncData}{ps:List Str}(h:∀us:List Value,us.length=ps.length->bindArgs fd ⟨us,[]⟩=pure (ps.zip us)):Binds K fd ps []:=fun s us _ hl=>by rw[CI]at hl⊢;exact .of_eq (h us hl)
def Passes(CX:jT)(X:Cx)(E:XK):Prop:=∀(au:List (Addr×Obj))(Z:St)(H:Hp)(s:ae)(e:Value)(s':ae),Inv X au Z H s->CX X.stack H s E e s'->X.xe e s'
section
variable {X:Cx}{CX:jT}{k:Nat}{f C:Addr}{fd:FuncData}{ps:List Str}{sp:Sp}{gb:List V}{ds:List Value}{E:XK}{x m:Str}{p pos apos:Pos}{e o:Expr}{es:List Expr}{ta:TE}{t:TA}
theorem Fp{au:List (Addr×Obj)}{Z:St}{H:Hp}{s:ae}{Q:VK}{us:List Value}{vs:List V}(F:iR X.prog X.w X.K X.mg X.base CX k f fd ps sp)(hr:cE k X.A)(hb:Binds X.K fd ps ds)(hd:Vals gb ds)(hx:Passes CX X E) (I:Inv X au Z H s)(r:Vals vs us)(h:sp (vs++gb) H Q E):wpAny (model X.prog X.w) X.A (call (.ref f) us) (EP X au Z Q) X.xe s:=by
  have r2:Vals (vs++gb) (us++ds):=r.append hd;have hl:(us++ds).length=ps.length:=by rw[<-r2.length];exact F.len _ _ _ _ h
  refine zk (zm (F.run X.A X.stack s H ⟨us,[]⟩ (us++ds) (vs++gb) Q E hr I.BK (hb s us I.gk hl) r2 h) fun r s' hq=>?_);cases r with |error e=>exact hx au Z H s e s' I hq |ok fl=>cases fl with |ret u=>exact I.after hq |next=>exact False.elim hq |brk=>exact False.elim hq |cont=>exact False.elim hq
theorem a06(F:iR X.prog X.w X.K X.mg X.base CX k f fd ps sp)(hr:cE k X.A)(hg:Gl X x)(hm:X.mg x=some (.ref f))(hk:PySem.W.keepIn X.K (.ref f)=true)(hb:Binds X.K fd ps ds)(hd:Vals gb ds)(hx:Passes CX X E) (ha:PA X (e::es) t)(j7:(x==("__debug__":Str))=false:=by decide)(he:starEach (e::es) X.env=(false,eval e X.env)::starEach es X.env:=by rfl)(fZ:(backTo pos (starEach es X.env)).any (·.1)=false:=by rfl): PE X (.Call (.Name x p) (e::es) [] pos) (Xa sp gb E t):=by intro au s Z H Q I h;refine zl (vv I hg hm ?_ j7);refine VA (h₀:=X.base) I.ok.mod.oE hk (aW (ha pos au s Z H _ I h) fun us s1 ⟨vs,H1,I1,r,q⟩=>⟨I1.gk,?_⟩) he fZ;exact Fp F hr hb hd hx I1 r q
theorem NP{pl:Sem Bool}(he:PE X o ta)(c:jR X.K C)(hm:Meth X.K C m f)(F:iR X.prog X.w X.K X.mg X.base CX k f fd ps sp)(hr:cE k X.A)(hb:Binds X.K fd ps ds)(hd:Vals gb ds)(hx:Passes CX X E)(ha:PA X (e::es) t) (gG:starEach (e::es) X.env=(false,eval e X.env)::starEach es X.env:=by rfl)(fZ:(backTo pos (starEach es X.env)).any (·.1)=false:=by rfl) (ht:eval (.Call (.Attribute o m apos) (e::es) [] pos) X.env=(do
     let ov<-eval o X.env
     standAt apos.atName
     let(f,first)<-holding [ov] (getMethod ov m pl)
     callWith pos f first (backTo pos (starEach (e::es) X.env)) (backToKw pos (keywordEach [] X.env))):=by rfl): PE X (.Call (.Attribute o m apos) (e::es) [] pos) (Kt C m sp gb E ta t):=by
  intro au s Z H Q I h;refine PySem.W.methodCall_KW (pl:=pl) (aW (he au s Z H _ I h) fun u s1 ⟨x,H1,I1,rx,a,dx,fs,ex,ea,l,q⟩=>?_) ht;subst ex;obtain rfl:u=Value.ref a:=rx;refine Qq I1 ea c hm l ?_;refine VA (first:=[.ref a]) (h₀:=X.base) I.ok.mod.oE hm.kp (aW (ha pos au s1 Z H1 _ I1 q) fun us s2 ⟨vs,H2,I2,r,q2⟩=>⟨I2.gk,?_⟩) gG fZ;exact Fp (us:=.ref a::us) (vs:=.ref a::vs) F hr hb hd hx I2 (.cons rfl r) q2
theorem a00{pl:Sem Bool}(he:PE X o ta)(c:jR X.K C)(hm:Meth X.K C m f)(F:iR X.prog X.w X.K X.mg X.base CX k f fd ps sp)(hr:cE k X.A)(hb:Binds X.K fd ps ds)(hd:Vals gb ds)(hx:Passes CX X E) (ht:eval (.Call (.Attribute o m apos) [] [] pos) X.env=(do
     let ov<-eval o X.env
     standAt apos.atName
     let(f,first)<-holding [ov] (getMethod ov m pl)
     callWith pos f first (backTo pos (starEach [] X.env)) (backToKw pos (keywordEach [] X.env))):=by rfl): PE X (.Call (.Attribute o m apos) [] [] pos) (Kt C m sp gb E ta mx):=by
  intro au s Z H Q I h;refine PySem.W.methodCall_KW (pl:=pl) (aW (he au s Z H _ I h) fun u s1 ⟨x,H1,I1,rx,a,dx,fs,ex,ea,l,q⟩=>?_) ht;subst ex;obtain rfl:u=Value.ref a:=rx;refine Qq I1 ea c hm l ?_;exact PySem.W.callWith_K0 (first:=[.ref a]) I1.gk hm.kp (Fp (us:=[.ref a]) (vs:=[.ref a]) F hr hb hd hx I1 (.cons rfl .nil) q)
structure Mk(K:aa)(C f:Addr):Prop where
 makes:PySem.W.makesIn K C=true
 init:PySem.W.findIn K (.ref C) "__init__"=some (some (.ref f))
 fn:PySem.W.isFn K (.ref f)=true
 kp:PySem.W.keepIn K (.ref C)=true
theorem Yp{au:List (Addr×Obj)}{Z:St}{H:Hp}{s:ae}{Q:VK}{us:List Value}{vs:List V}(M:Mk X.K C f)(F:iR X.prog X.w X.K X.mg X.base CX k f fd ps sp)(hr:cE (k+1) X.A)(hb:Binds X.K fd ps ds)(hd:Vals gb ds) (hx:Passes CX X E)(I:Inv X au Z H s)(r:Vals vs us) (h:∀x dx,H x=none->H dx=none->dx≠x->sp (.ref x::(vs++gb)) (upd (upd H dx (.own x)) x (.ins C dx [])) (fun v H2=>v= .bp/\Q (.ref x) H2) E): wpAny (model X.prog X.w) X.A (call (.ref C) us) (EP X au Z Q) X.xe s:=by
  have hq:=h (s.heap.objs.size+1) s.heap.objs.size (I.aV.fresh (Nat.le_succ _)) (I.aV.fresh (bF _)) (fm (VH _));have I2:=Inv.made (C:=C) I;have r2:Vals (V.ref (s.heap.objs.size+1)::(vs++gb)) (Value.ref (s.heap.objs.size+1)::(us++ds)):=.cons rfl (r.append hd);have hl:(Value.ref (s.heap.objs.size+1)::us++ds).length=ps.length:=by have e:=r2.length;rw[F.len _ _ _ _ hq]at e;exact e.symm
  refine zk (a2P (f:=f) I.gk M.makes M.init (fM.mp M.fn) (zm (F.run _ X.stack _ _ ⟨Value.ref (s.heap.objs.size+1)::us,[]⟩ (Value.ref (s.heap.objs.size+1)::(us++ds)) _ _ E (hr.make C us []) (I2.BK.make C us []) (hb _ (Value.ref (s.heap.objs.size+1)::us) I2.gk hl) r2 hq) fun r s' jI=>?_));cases r with |error e=>exact hx au Z _ _ e s' I2 jI |ok fl=>cases fl with |ret u=>obtain⟨v,H',I3,rv,ev,q3⟩:=I2.after jI;subst ev;exact⟨rv,⟨V.ref (s.heap.objs.size+1),H',I3,rfl,q3⟩⟩ |next=>exact False.elim jI |brk=>exact False.elim jI |cont=>exact False.elim jI
theorem a01(M:Mk X.K C f)(F:iR X.prog X.w X.K X.mg X.base CX k f fd ps sp)(hr:cE (k+1) X.A)(hg:Gl X x)(hm:X.mg x=some (.ref C))(hb:Binds X.K fd ps ds)(hd:Vals gb ds)(hx:Passes CX X E) (ha:PA X (e::es) t)(j7:(x==("__debug__":Str))=false:=by decide)(he:starEach (e::es) X.env=(false,eval e X.env)::starEach es X.env:=by rfl)(fZ:(backTo pos (starEach es X.env)).any (·.1)=false:=by rfl): PE X (.Call (.Name x p) (e::es) [] pos) (X4 C sp gb E t):=by intro au s Z H Q I h;refine zl (vv I hg hm ?_ j7);refine VA (h₀:=X.base) I.ok.mod.oE M.kp (aW (ha pos au s Z H _ I h) fun us s1 ⟨vs,H1,I1,r,q⟩=>⟨I1.gk,?_⟩) he fZ;exact Yp M F hr hb hd hx I1 r q
end
section
variable {X:Cx}{CX:jT}{k:Nat}{f C:Addr}{fd:FuncData}{ps ks:List Str}{sp:Sp}{E:XK}{x m:Str}{p pos apos abx:Pos}{e o:Expr}{es:List Expr}{kws:List Keyword}{te ta:TE}{t tk:TA}{nm:Option Str}
variable {g:List Value->List Value->List Value}{gV:List V->List V->List V}
end
structure bh(N P:List Str)(sc:Scope):Prop where
 kind:sc.kind= .function
 co:sc.isCoroutine=false
 gen:sc.isGenerator=false
 nd:N.Nodup
 pre:N.take P.length=P
 par:∀x∈P,sc.names.lookup x=some .local\/sc.names.lookup x=some .cell
 a2i:∀y∈sc.names,y.2≠ .free
theorem Sf{kindOf:Str->Option NameKind}{x:Str}:∀{binds:List (Str×Value)}{m:Str->Option Value},(∀v,(x,v)∉binds)->bindL kindOf binds m x=m x
  |[],_,_=>rfl |(n,v)::r,m,h=>by
    unfold bindL;rw[Sf fun w hw=>h w (ie _ hw)];split
    · have:x≠n:=by rintro rfl;exact h v JP
      simp[this]
    ·rfl
theorem Sh{kindOf:Str->Option NameKind}{x:Str}:∀{binds:List (Str×Value)}{m:Str->Option Value},(∀v,(x,v)∉binds)->bindC kindOf binds m x=m x
  |[],_,_=>rfl |(n,v)::r,m,h=>by
    unfold bindC;rw[Sh fun w hw=>h w (ie _ hw)];split
    ·rfl
    · have:x≠n:=by rintro rfl;exact h v JP
      simp[this]
theorem Sg{kindOf:Str->Option NameKind}{x:Str}{v:Value}:∀{P:List Str}{vs:List Value}{i:Nat}{m:Str->Option Value},P.Nodup->P[i]? =some x->vs[i]? =some v->kindOf x=some .local->bindL kindOf (P.zip vs) m x=some v |[],_,_,_,_,h,_,_=>by simp at h |_::_,[],_,_,_,_,h,_=>by simp at h |p::P,w::vs,0,m,nd,h1,h2,hk=>by simp at h1 h2;subst h1;subst h2;show bindL kindOf ((p,w)::P.zip vs) m p=_;unfold bindL;rw[Sf fun v hv=>(qW.mp nd).1 (zp hv).1,aY hk];simp |p::P,w::vs,i+1,m,nd,h1,h2,hk=>by show bindL kindOf ((p,w)::P.zip vs) m x=_;unfold bindL;exact Sg (i:=i) (qW.mp nd).2 (by simpa using h1) (by simpa using h2) hk
theorem Si{kindOf:Str->Option NameKind}{x:Str}{v:Value}:∀{P:List Str}{vs:List Value}{i:Nat}{m:Str->Option Value},P.Nodup->P[i]? =some x->vs[i]? =some v->kindOf x≠some .local->bindC kindOf (P.zip vs) m x=some v |[],_,_,_,_,h,_,_=>by simp at h |_::_,[],_,_,_,_,h,_=>by simp at h |p::P,w::vs,0,m,nd,h1,h2,hk=>by simp at h1 h2;subst h1;subst h2;show bindC kindOf ((p,w)::P.zip vs) m p=_;unfold bindC;rw[Sh fun v hv=>(qW.mp nd).1 (zp hv).1,aZ hk];simp |p::P,w::vs,i+1,m,nd,h1,h2,hk=>by show bindC kindOf ((p,w)::P.zip vs) m x=_;unfold bindC;exact Si (i:=i) (qW.mp nd).2 (by simpa using h1) (by simpa using h2) hk
def start(N:List Str)(vs:List V):St:=vs.map some++List.replicate (N.length-vs.length) none
def iP(CX:jT)(P:ah)(w:World)(K:aa)(mg:Str->Option Value)(base:Heap)(N:List Str)(qual:Str)(scope:Scope)(f:Addr)(cd:Value)(A:aj)(outer:List Env)(s:ae)(H:Hp)(E:XK):Cx where
 prog:=P
 w:=w
 K:=K
 mg:=mg
 base:=base
 A:=A.deeper (envOfC qual scope s.heap.objs.size f cd)
 N:=N
 s₀:=s
 H₀:=H
 env:=envOfC qual scope s.heap.objs.size f cd
 outer:=outer
 stack:=envOfC qual scope s.heap.objs.size f cd::outer
 ex:=[]
 calm:=true
 fn:=fun _=>true
 pn:=[]
 xe:=fun e s'=>wpAny (model P w) (A.deeper (envOfC qual scope s.heap.objs.size f cd)) (leaving (envOfC qual scope s.heap.objs.size f cd) e) (fun _ rO=>CX outer H s E e rO) (fun e' rO=>CX outer H s E e' rO) s'
theorem S6{sc:Scope}{n:Nat}{x:Str}(h:sc.names.lookup x=some .cell):∃c,(cellsFrom n sc.names []).lookup x=some c:=by have q:=PySem.W.cellsFrom_some sc.names n [] (.inl h);exact Option.isSome_iff_exists.mp q
theorem Pl{CX:jT}{P:ah}{w:World}{K:aa}{mg:Str->Option Value}{base:Heap}{N ps:List Str}{qual:Str}{scope:Scope}{f:Addr}{cd:Value}{A:aj}{outer:List Env}{s s1:ae}{H:Hp}{E:XK}{us:List Value}{vs:List V} (S:bh N ps scope)(hd:A.handled=none)(e0:nO P w K mg base A outer s H)(hl:vs.length=ps.length)(r:Vals vs us) (x:InCallC s s.heap.objs.size (bindL (envOfC qual scope s.heap.objs.size f cd).kindOf (ps.zip us) fun _=>none) (cellsFrom (s.heap.objs.size+1) scope.names []) (bindC (envOfC qual scope s.heap.objs.size f cd).kindOf (ps.zip us) fun _=>none) s1): Inv (iP CX P w K mg base N qual scope f cd A outer s H E) [] (start N vs) H s1:=by
  have fZ:ps.length<=N.length:=by have:=congrArg List.length S.pre;rw[nS]at this;lia
  obtain⟨h1,tk,rfl,hk⟩:=x.done;have sH:∀b:Addr,b∉(iP CX P w K mg base N qual scope f cd A outer s H E).ex:=fun b z=>absurd (show b∈([]:List Addr)from z) (by simp);refine⟨⟨e0.mod,S.kind,rfl,rfl,bF _,fun y z c h1 h2=>?_,fun y hy=>?_,fun y c _ h=>?_,fun _=>hd,Around.frames_deeper e0.frames,.inr ⟨rfl,rfl⟩,fun b z=>absurd z (sH b),e0.bs,e0.lN,fun b _ _=>sH b,fun b z=>absurd z (sH b),e0.jo,e0.mU⟩,rfl,e0.bare,Un.kept hk,⟨_,x.toInCall.ns,fun i y v h1 h2 h3=>?_⟩,fun y c h=>⟨_,x.cell y c h⟩,e0.aV.fresh (bF _),fun y c h=>?_,fun p hp=>absurd (show p∈([]:List (Addr×Obj))from hp) (by simp),e0.aV.kept hk,?_⟩
  ·exact name_of_addr x.apart (uj h1) (uj h2)
  · have hy:scope.names.lookup y=some .cell\/scope.names.lookup y=some .free:=hy
    rcases hy with hy|hy
    ·exact S6 hy
    ·exact absurd rfl (S.a2i _ (uj hy))
  ·exact JM (x.above y c (uj h))
  · have hi:i<vs.length:=by
      unfold start at h2;by_cases hi:i<vs.length
      ·exact hi
      · rw[zt (by simpa using hi)]at h2
        rw[VL]at h2;split at h2<;>cases h2
    have ha:vs[i]? =some v:=by unfold start at h2;rw[wM (by simpa using hi),cu]at h2;cases e:vs[i]? with |none=>rw[e]at h2;cases h2 |some a=>rw[e]at h2;cases h2;rfl
    obtain⟨u,hu,rv⟩:=r.get ha;have hp:ps[i]? =some y:=by rw[<-S.pre,List.getElem?_take_of_lt (by lia)];exact h1
    have Ox:ps.Nodup:=by rw[<-S.pre];exact S.nd.sublist (List.take_sublist _ _)
    refine⟨u,rv,?_⟩;rcases S.par y (gy hp)with k|k
    ·exact .inl ⟨k,Sg Ox hp hu k⟩
    · obtain⟨c,e⟩:=S6 (n:=s.heap.objs.size+1) k
      refine .inr ⟨.inl k,c,e,?_⟩;have q:=x.cell y c e;rw[Si Ox hp hu (by show scope.names.lookup y≠_;rw[k];decide)]at q;exact q
  ·exact e0.aV.fresh (JM (x.above y c (uj h)))
  · unfold start
    show _=N.length;rw[fo,cj,CC]
    lia
theorem Ig{CX:jT}{P:ah}{w:World}{K:aa}{mg:Str->Option Value}{base:Heap}{k:Nat}{f:Addr}{name qual:Str}{params:Arguments}{body:List Stmt}{scope:Scope}{dV kV doc pm aJ ct oc:Value}{an od:Option Addr} {fX:Array (Option Value)}{N ps:List Str}{sp:Sp}(lk:K.lookup f=some ⟨oc,od,.func (PySem.W.fnOf name qual params body scope dV kV doc pm an aJ ct),fX⟩)(gH:PySem.W.codeIn K aJ qual=true)(S:bh N ps scope) (len:∀vs H Q E,sp vs H Q E->vs.length=ps.length) (iz:∀(A:aj)(outer:List Env)(s:ae)(H:Hp)(vs:List V)(Q:VK)(E:XK),cE k (A.deeper (envOfC qual scope s.heap.objs.size f aJ))->sp vs H Q E->∃t,gK (iP CX P w K mg base N qual scope f aJ A outer s H E) body t/\t {nx:=fun _ H'=>Q .bp H',rt:=Q} (start N vs) H): iR P w K mg base CX (k+1) f (PySem.W.fnOf name qual params body scope dV kV doc pm an aJ ct) ps sp:=by
  refine⟨len,fun A outer s H args us vs Q E hr e0 hb r iZ=>?_⟩;have hl:=len _ _ _ _ iZ;have KX:K.In s.heap:=e0.mod.oE.keeps fun b o e=>(e0.bs b o e).1;have lim:s.heap.NoLimit:=e0.mod.nolimit.keeps fun b o e=>(e0.bs b o e).1;have oM:∀y∈ps.zip us,scope.names.lookup y.1=some .local\/(scope.names.lookup y.1=some .cell/\((cellsFrom (s.heap.objs.size+1) scope.names []).lookup y.1).isSome=true):=fun⟨n,v⟩ hy=>by
   rcases S.par n (zp hy).1 with q|q
   ·exact .inl q
   ·exact .inr ⟨q,PySem.W.cellsFrom_some _ _ _ (.inl q)⟩
  refine codeAny_call_function hr.depth (KX _ _ lk) rfl S.co S.gen rfl (PySem.W.codeRec_of KX gH) (hb _ _ _ _ ?_);refine wpAny_newFunctionEnv_cells S.kind oM fun env he s1 x=>?_;subst he;refine⟨lim.keeps x.toInCall.keep,codeAny_func ?_⟩;obtain⟨t,ht,hq⟩:=iz A outer s H vs Q E (hr.deeper _) iZ;have I:Inv (iP CX P w K mg base N qual scope f aJ A outer s H E) [] (start N vs) H s1:=Pl S hr.hd e0 hl r x;refine jw (ht [] s1 (start N vs) H _ I hq) (fun fl s' hs=>?_) fun e s' hs=>hs;have fin:∀{σ':St}{H':Hp}{v:V}{u:Value},Inv (iP CX P w K mg base N qual scope f aJ A outer s H E) [] σ' H' s'->RelV v u->Q v H'->CE outer P w H s Q u s':=fun{σ' H' v u} J rv q=>⟨v,H',J.os,J.bare,J.base,J.aV,rv,q⟩;cases fl with |ret u=>obtain⟨v,σ',H',J,rv,q⟩:=hs;exact fin J rv q |next=>obtain⟨σ',H',J,q⟩:=hs;exact fin (v:=V.bp) (u:=Value.none) J rfl q |brk=>obtain⟨_,_,_,q⟩:=hs;exact False.elim q |cont=>obtain⟨_,_,_,q⟩:=hs;exact False.elim q
section
variable {X:Cx}{x:Str}{p pos:Pos}{e:Expr}{es:List Expr}{t:TA}{id T:String}{r:List V->Hp->VK->Prop}
def zP(r:List V->Hp->VK->Prop)(t:TA):TE:=fun Z H Q=>t Z H fun vs H1=>r vs H1 Q
theorem cZ(hc:fh X (.builtin id) r)(hg:Gl X x)(hm:X.mg x=none)(hv:bootBuiltins x=some (.builtin id))(ha:PA X (e::es) t)(hn:x≠"__name__":=by decide)(j7:(x==("__debug__":Str))=false:=by decide) (he:starEach (e::es) X.env=(false,eval e X.env)::starEach es X.env:=by rfl)(fZ:(backTo pos (starEach es X.env)).any (·.1)=false:=by rfl):PE X (.Call (.Name x p) (e::es) [] pos) (zP r t):=by intro au s Z H Q I h;refine zl (oB I hg hm hv ?_ hn j7);exact PyProof.Rows.callWith_builtin1 (aW (ha pos au s Z H _ I h) fun us s1 ⟨vs,H1,I1,r1,q1⟩=>hc au s1 Z H1 vs us Q I1 r1 q1) he fZ
theorem gX(hc:fh X (.type T) r)(hg:Gl X x)(hm:X.mg x=none)(hv:bootBuiltins x=some (.type T))(ha:PA X (e::es) t)(hn:x≠"__name__":=by decide)(j7:(x==("__debug__":Str))=false:=by decide) (he:starEach (e::es) X.env=(false,eval e X.env)::starEach es X.env:=by rfl)(fZ:(backTo pos (starEach es X.env)).any (·.1)=false:=by rfl):PE X (.Call (.Name x p) (e::es) [] pos) (zP r t):=by intro au s Z H Q I h;refine zl (oB I hg hm hv ?_ hn j7);exact wJ (aW (ha pos au s Z H _ I h) fun us s1 ⟨vs,H1,I1,r1,q1⟩=>hc au s1 Z H1 vs us Q I1 r1 q1) he fZ
end
end L2
namespace HT
open PySem PyProof.Rows
section
open PySem.SeqAt
open PySem.AutoSeq1 (wpAny_loadPart')
open PySem.MeetsSeq PySem.MeetsSeq2 PySem.MeetsSeq3
end
section
variable {prog:ah}{w:World}{A:aj}{E:Value->ae->Prop}{s:ae}
def ck(n d:Nat):Option Int->Nat |none=>d |some v=>if v<0 then(v+(n:Int)).toNat else min v.toNat n
theorem Ye (n d:Nat):ck n d none=d:=rfl
theorem N2(n d k:Nat):ck n d (some (k:Int))=min k n:=by show(if(k:Int)<0 then((k:Int)+(n:Int)).toNat else min (k:Int).toNat n)=min k n;rw[aZ (by lia),VN]
theorem Yf(n d:Nat)(hd:d<=n)(o:Option Int):ck n d o<=n:=by cases o with |none=>exact hd |some v=>
   show(if v<0 then(v+(n:Int)).toNat else min v.toNat n)<=n;by_cases hv:v<0
   ·rw[aY hv];lia
   ·rw[aZ hv];exact Nat.min_le_right _ _
theorem RZ(v:Int)(n d:Nat):(if v<0 then max (v+(n:Int)) 0 else min v (n:Int))=((ck n d (some v):Nat):Int):=by
 show(if v<0 then max (v+(n:Int)) 0 else min v (n:Int))=(((if v<0 then(v+(n:Int)).toNat else min v.toNat n):Nat):Int);by_cases hv:v<0
 ·simp only[aY hv];lia
 ·simp only[aZ hv];lia
theorem aab(lo hi:Option Int)(n:Nat):Builtin.Slice.sliceAdjust lo hi 1 (n:Int)=(((ck n 0 lo:Nat):Int),((ck n n hi:Nat):Int)):=by
 have h1:¬((1:Int)<0):=by lia
 unfold Builtin.Slice.sliceAdjust;simp only[h1,if_false];refine Prod.ext ?_ ?_
 ·cases lo with |none=>rfl |some v=>exact RZ v n 0
 ·cases hi with |none=>rfl |some v=>exact RZ v n n
theorem ZJ(i j:Nat):Builtin.Slice.slicePlaces (i:Int) (j:Int) 1=j-i:=by
 unfold Builtin.Slice.slicePlaces;have h1:(1:Int)>0:=by lia
 simp only[h1,ui,Int.ediv_one];split<;>lia
theorem LJ{v:Value}{o:Option Int}{Q:Option Int->ae->Prop}(p:IsPart v o)(h:Q o s):wpAny (model prog w) A (Builtin.Slice.slicePartIndex v) Q E s:=by cases p with |none=>exact slicePart_none h |int i t=>exact slicePart_int h
theorem XH{sl:Addr}{vl vu:Value}{lo hi:Option Int}{n:Nat}{Q:Int×Int×Nat->ae->Prop}(hs:s.heap.IsSliceOf sl vl vu .none)(pl:IsPart vl lo)(pu:IsPart vu hi) (h:Q (((ck n 0 lo:Nat):Int),1,ck n n hi-ck n 0 lo) s):wpAny (model prog w) A (Builtin.Slice.sliceApplied (.ref sl) (pure (n:Int))) Q E s:=by obtain⟨os,jm,Bn,qv⟩:=id hs;unfold Builtin.Slice.sliceApplied Builtin.Slice.sliceFields;refine aO (aO (jb jm qv (x:=vl) rfl (aO (jb jm qv (x:=vu) rfl (aO (jb jm qv (x:=.none) rfl (cg ?_)))))));refine aO (slicePart_none ?_);show wpAny _ _ (if((1:Int)==0)=true then _ else _) _ _ s;rw[aZ (by decide)];refine aO (LJ pl (aO (LJ pu (aO (cg ?_)))));show wpAny _ _ (match Builtin.Slice.sliceAdjust lo hi 1 (n:Int)with|(lo,hi)=>pure (lo,(1:Int),Builtin.Slice.slicePlaces lo hi 1)) _ _ s;rw[aab lo hi n];show wpAny _ _ (pure (((ck n 0 lo:Nat):Int),(1:Int),Builtin.Slice.slicePlaces ((ck n 0 lo:Nat):Int) ((ck n n hi:Nat):Int) 1)) _ _ s;rw[ZJ];exact cg h
theorem ZO(xs:Array Value)(i k:Nat):((List.range k).filterMap fun(m:Nat)=>xs[((i:Int)+(m:Int)*1).toNat]?).toArray=((xs.toList.drop i).take k).toArray:=by
 have e:(fun(m:Nat)=>xs[((i:Int)+(m:Int)*1).toNat]?)=fun m=>xs[i+m]?:=by
  funext m;have:((i:Int)+(m:Int)*1).toNat=i+m:=by lia
  rw[this]
 rw[e];have:=pick_run xs i k;rw[List.filterMap_map]at this;have e2:((fun x=>xs[x]?)∘fun x=>i+x)=fun m=>xs[i+m]?:=rfl;rw[e2]at this;rw[this]
theorem a6P{t sl:Addr}{items:Array Value}{vl vu:Value}{lo hi:Option Int}{Q:Value->ae->Prop}(ht:IsTup s.heap t items)(hs:s.heap.IsSliceOf sl vl vu .none)(pl:IsPart vl lo)(pu:IsPart vu hi) (hw:¬(ck items.size 0 lo=0/\ck items.size items.size hi=items.size)) (h:Q (.ref s.heap.objs.size) {s with heap:=s.heap.push {cls:=.type "tuple",data:=.seq ((items.toList.drop (ck items.size 0 lo)).take (ck items.size items.size hi-ck items.size 0 lo)).toArray}}) (hsz:items.size<=sizeLine):wpAny (model prog w) A (getItem (.ref t) (.ref sl)) Q E s:=by
  have B0:sizeOk (.seq ((items.toList.drop (ck items.size 0 lo)).take (ck items.size items.size hi-ck items.size 0 lo)).toArray):=by show((items.toList.drop (ck items.size 0 lo)).take (ck items.size items.size hi-ck items.size 0 lo)).toArray.size<=sizeLine;rw[dX,nS,JS,zx];omega
  have hj:ck items.size items.size hi<=items.size:=Yf _ _ (bF _) hi;obtain⟨os,jm,Bn,qv⟩:=id hs;have Bq:s.TypeIs (.ref sl) "slice":=⟨os,jm,Bn⟩;unfold getItem
  try with_reducible refine uh ?_
  first|refine aO (cg ?_)|skip
  refine aO (wpAny_sequenceKey ht.typeIs (by decide) ?_);refine aO (Cr (name:=Str.ofString "__getitem__") ht.typeIs VC (Cq VC ht.typeIs entry_tuple_getitem ?_ (args_tuple_getitem _ _)));show wpAny _ _ (Builtin.Tuple.tupleItemsOf (.ref t)>>=_) _ _ s;refine aO (tupleItemsOf_ ht ?_);refine aO (wpAny_typeOf Bq ?_);rw[aY (by decide)];refine aO (XH hs pl pu ?_);have kM:¬((((ck items.size 0 lo:Nat):Int)==0&&(1:Int)==1&&(ck items.size items.size hi-ck items.size 0 lo)==items.size)=true):=by intro q;rw[eV,eV]at q;have q1:((ck items.size 0 lo:Nat):Int)=0:=eq_of_beq q.1.1;have q2:ck items.size items.size hi-ck items.size 0 lo=items.size:=eq_of_beq q.2;exact hw ⟨by omega,by omega⟩
  show wpAny _ _ (if(((ck items.size 0 lo:Nat):Int)==0&&(1:Int)==1&&(ck items.size items.size hi-ck items.size 0 lo)==items.size)=true then _ else _) _ _ s;rw[aZ kM,ZO]
  first |exact aO (m:=Builtin.Tuple.tupleExact _) (pk (cg ⟨_,rfl,cg h⟩) B0) |exact aO (m:=Builtin.Tuple.tupleExact _) (pk (aO (cg (cg ⟨_,rfl,cg h⟩))) B0) |exact aO (aO (m:=Builtin.Tuple.tupleExact _) (pk (cg (cg ⟨_,rfl,cg h⟩)) B0)) |exact aO (aO (m:=Builtin.Tuple.tupleExact _) (pk (cg ⟨_,rfl,cg h⟩) B0))
end
end HT
namespace L2
open PySem PySem.Spec PyProof.Rows
abbrev TO:=St->Hp->(Option Int->Hp->Prop)->Prop
def PO(X:Cx)(e:Option Expr)(t:TO):Prop:=∀(au:List (Addr×Obj))(s:ae)(Z:St)(H:Hp)(Q:Option Int->Hp->Prop),Inv X au Z H s->t Z H Q->wpAny (model X.prog X.w) X.A (evalPart e X.env) (fun u s'=>∃o H',Inv X au Z H' s'/\IsPart u o/\Q o H') X.xe s
def X0:TO:=fun _ H Q=>Q none H
inductive Ta(Q:Option Int->Hp->Prop)(x:V)(H1:Hp):Prop |mk (i:_)(h0:x= .int i)(h1:Q (some i) H1):Ta Q x H1
def WV(t:TE):TO:=fun Z H Q=>t Z H fun x H1=>Ta Q x H1
section
variable {X:Cx}{e:Expr}{te:TE}{lo hi:Option Expr}{tl th:TO}{pos p2:Pos}
theorem FW:PO X none X0:=by intro au s Z H Q I h;rw[evalPart_none];exact cg ⟨none,H,I,.none,h⟩
theorem FV(h:PE X e te):PO X (some e) (WV te):=by intro au s Z H Q I hw;rw[evalPart_some];refine aW (h au s Z H _ I hw) fun u s1 ⟨x,H1,I1,r1,q1⟩=>?_;obtain⟨i,rfl,q⟩:=q1;obtain⟨t,rfl⟩:=r1;exact⟨some i,H1,I1,.int i t,q⟩
def C9(X:Cx)(r:V->Option Int->Option Int->Hp->VK->Prop):Prop:=∀(au:List (Addr×Obj))(s:ae)(Z:St)(H:Hp)(x:V)(v vl vu:Value)(lo hi:Option Int)(sl:Addr)(Q:VK),Inv X au Z H s->RelV x v->s.heap.IsSliceOf sl vl vu .none->IsPart vl lo->IsPart vu hi->r x lo hi H Q->∃T id,typeLookup (.type T) "__getitem__"=pure (some (.builtin id))/\s.TypeIs v T/\wpAny (model X.prog X.w) X.A (getItem v (.ref sl)) (EP X au Z Q) X.xe s
def WS(r:V->Option Int->Option Int->Hp->VK->Prop)(te:TE)(tl th:TO):TE:=fun Z H Q=>te Z H fun x H1=>tl Z H1 fun l H2=>th Z H2 fun u H3=>r x l u H3 Q
theorem FZ{r:V->Option Int->Option Int->Hp->VK->Prop}(hr:C9 X r)(he:PE X e te)(hl:PO X lo tl)(hu:PO X hi th):PE X (.Subscript e (.Slice lo hi none p2) pos) (WS r te tl th):=by intro au s Z H Q I h;refine Subscript_ (aW (he au s Z H _ I h) fun v s1 ⟨x,H1,I1,r1,q1⟩=>?_);refine wpAny_Slice (aW (hl au s1 Z H1 _ I1 q1) fun vl s2 ⟨l,H2,I2,pl,q2⟩=>aW (hu au s2 Z H2 _ I2 q2) fun vu s3 ⟨u,H3,I3,pu,q3⟩=>?_);rw[evalPart_none];refine cg ?_;have I4:Inv X au Z H3 {s3 with heap:=s3.heap.push {cls:=.type "slice",data:=.fields #[vl,vu,.none]}}:=I3.kept (t':=s3.toks) fun b ob q=>cn _ q;obtain⟨T,id,hT,ht,hg⟩:=hr au {s3 with heap:=s3.heap.push {cls:=.type "slice",data:=.fields #[vl,vu,.none]}} Z H3 x v vl vu l u s3.heap.objs.size Q I4 r1 (Heap.IsSliceOf.new ..) pl pu q3;show wpAny (model X.prog X.w) X.A (subscriptTail e (.Slice lo hi none p2) v (.ref s3.heap.objs.size)) (EP X au Z Q) X.xe {s3 with heap:=s3.heap.push {cls:=.type "slice",data:=.fields #[vl,vu,.none]}};exact tail_any (ops:=[.ref s3.heap.objs.size,v]) ht hT hg (by with_unfolding_all rfl)
def me(xs:List V)(lo hi:Option Int):List V:=(xs.drop (HT.ck xs.length 0 lo)).take (HT.ck xs.length xs.length hi-HT.ck xs.length 0 lo)
theorem RK(xs:List V)(lo hi:Option Int):(me xs lo hi).length<=xs.length:=by
 unfold me;rw[nS,JS]
 lia
inductive UJ(K:aa)(x:V)(lo:Option Int)(hi:Option Int)(H:Hp)(Q:VK):Prop |mk (a:_)(xs:_)(h0:x= .ref a)(h1:aP K H a xs)(h2:¬(HT.ck xs.length 0 lo=0/\HT.ck xs.length xs.length hi=xs.length))(h3:∀p,H p=none->Q (.ref p) (upd H p (.tup (me xs lo hi)))):UJ K x lo hi H Q
def Zg(K:aa):V->Option Int->Option Int->Hp->VK->Prop:=fun x lo hi H Q=>UJ K x lo hi H Q
theorem XI:C9 X (Zg X.K):=by
 intro au s Z H x v vl vu lo hi sl Q I rx hs pl pu h;obtain⟨a,xs,rfl,hx,hw,q⟩:=h;cases rx;obtain⟨its,r,ht,hz⟩:=I.tuple hx;have hlen:its.toArray.size=xs.length:=by rw[dX];exact r.length.symm
 refine⟨"tuple",_,VC.lookup,ht.typeIs,?_⟩;refine HT.a6P ht hs pl pu (by rw[hlen];exact hw) ?_ (by rw[hlen];exact hz);rw[hlen];refine⟨.ref s.heap.objs.size,_,I.laid (t':=s.toks) (o:=.tup (me xs lo hi)) (fun b ob q=>cn _ q) (bF _) ?_,rfl,q _ (I.aV.fresh (bF _))⟩;exact⟨ib (RK xs lo hi) hz,_,(r.drop (HT.ck xs.length 0 lo)).take (HT.ck xs.length xs.length hi-HT.ck xs.length 0 lo),IsTup.new _ _⟩
end
def jk(n:Nat)(i:Int):Option Nat:=if 0<=i then(if i<n then some i.toNat else none)else if-(n:Int)<=i then some (i+n).toNat else none
def fA{α:Type}(xs:List α)(i:Int):Option α:=(jk xs.length i).bind fun j=>xs[j]?
theorem Pf{n:Nat}{i:Int}{j:Nat}(h:jk n i=some j):seqIndex? i n=some j/\j<n/\-(n:Int)<=i/\i<n:=by
 unfold jk at h;by_cases h0:0<=i
 · rw[aY h0]at h
   by_cases h1:i<n
   · rw[aY h1]at h
     have e:i.toNat=j:=dG h;exact⟨by rw[seqIndex_of h0 h1,e],by lia,by lia,h1⟩
   ·rw[aZ h1]at h;cases h
 · rw[aZ h0]at h
   by_cases h1:-(n:Int)<=i
   · rw[aY h1]at h
     have e:(i+n).toNat=j:=dG h;exact⟨by rw[seqIndex_neg (by lia) h1,e],by lia,h1,by lia⟩
   ·rw[aZ h1]at h;cases h
theorem Jd{α:Type}{xs:List α}{i:Int}{v:α}(h:fA xs i=some v):∃j,seqIndex? i xs.length=some j/\xs[j]? =some v/\j<xs.length/\-(xs.length:Int)<=i/\i<xs.length:=by unfold fA at h;cases e:jk xs.length i with |none=>rw[e]at h;cases h |some j=>rw[e]at h;obtain⟨h1,h2,h3,h4⟩:=Pf e;exact⟨j,h1,h,h2,h3,h4⟩
theorem aa3{α:Type}{xs:List α}{j:Nat}{v:α}(h:xs[j]? =some v):fA xs (j:Int)=some v:=by
 have hj:j<xs.length:=(dC.mp h).1;have e:jk xs.length (j:Int)=some j:=by unfold jk;rw[aY (by lia),aY (by lia)];simp
 unfold fA;rw[e];exact h
def SS(b:Expr):Prop:=∀o i,subscripted b false o i=operate [o,i] (getItem o i)
def ph(X:Cx)(r:R2):Prop:=∀(value slice:Expr)(au:List (Addr×Obj))(s:ae)(Z:St)(H:Hp)(x y:V)(v u:Value)(Q:VK),Inv X au Z H s->RelV x v->RelV y u->r x y H Q->subscripted slice false v u=operate [v,u] (getItem v u)->wpAny (model X.prog X.w) X.A (subscriptTail value slice v u) (EP X au Z Q) X.xe s
def z9(X:Cx)(id:String)(r:V->List V->Hp->VK->Prop):Prop:=∀(au:List (Addr×Obj))(s:ae)(Z:St)(H:Hp)(x:V)(xs:List V)(v:Value)(us:List Value)(Q:VK),Inv X au Z H s->RelV x v->Vals xs us->r x xs H Q->wpAny (model X.prog X.w) X.A (call (.builtin id) (v::us)) (EP X au Z Q) X.xe s
section
variable {X:Cx}{a b:Expr}{ta tb:TE}{pos:Pos}
theorem ph.or{r r':R2}(h:ph X r)(h':ph X r'):ph X (fun x y H Q=>r x y H Q\/r' x y H Q):=by
 intro value slice au s Z H x y v u Q I rx ry q hs;rcases q with q|q
 ·exact h value slice au s Z H x y v u Q I rx ry q hs
 ·exact h' value slice au s Z H x y v u Q I rx ry q hs
theorem NQ{r:R2}(hr:ph X r)(ha:PE X a ta)(hb:PE X b tb)(hs:SS b):PE X (.Subscript a b pos) (xb r ta tb):=by intro au s Z H Q I h;exact Subscript_ (J6 ha hb I h fun v u s2 x y H2 I2 rx ry q=>hr a b au s2 Z H2 x y v u Q I2 rx ry q (hs _ _))
inductive US(K:aa)(x:V)(y:V)(H:Hp)(Q:VK):Prop |mk (p:_)(xs:_)(i:_)(v:_)(h0:x= .ref p)(h1:y= .int i)(h2:aE K H p xs)(h3:fA xs i=some v)(h4:Q v H):US K x y H Q
def FK(K:aa):R2:=fun x y H Q=>US K x y H Q
inductive UQ(K:aa)(x:V)(y:V)(H:Hp)(Q:VK):Prop |mk (p:_)(xs:_)(i:_)(v:_)(h0:x= .ref p)(h1:y= .int i)(h2:aP K H p xs)(h3:fA xs i=some v)(h4:Q v H):UQ K x y H Q
def FJ(K:aa):R2:=fun x y H Q=>UQ K x y H Q
inductive UR(x:V)(y:V)(H:Hp)(Q:VK):Prop |mk (z:_)(i:_)(c:_)(h0:x= .str z)(h1:y= .int i)(h2:z.length<=sizeLine)(h3:fA z.cps.toList i=some c)(h4:Q (.str ⟨#[c]⟩) H):UR x y H Q
def Zl:R2:=fun x y H Q=>UR x y H Q
theorem a3T:ph X (FK X.K):=by
 intro value slice au s Z H x y v u Q I rx ry h hs;obtain⟨p,xs,i,z,rfl,rfl,hq,he,q⟩:=h;cases rx;obtain⟨t,rfl⟩:=ry;obtain⟨its,r,pl,hz⟩:=I.list hq;obtain⟨j,h1,h2,h3,h4,h5⟩:=Jd he;obtain⟨w,ew,iU⟩:=r.get h2;have hl:=r.length;have hn:=sP;have fin:EP X au Z Q w s:=⟨z,H,I,iU,q⟩;by_cases h0:0<=i
 · have hj:i.toNat=j:=by rw[seqIndex_of h0 h5]at h1;exact dG h1
   exact item_listR pl.isList h0 (by lia) (by rw[hj];simpa using ew) fin hs
 · have hj:(i+(its.toArray.size:Int)).toNat=j:=by rw[seqIndex_neg (by lia) h4]at h1;rw[dX,<-hl];exact dG h1
   exact subscriptTail_builtinR (x:=w) pl.isList.typeIs slot_list_getitem.lookup (wpAny_getItem_list_neg (Q:=fun r s'=>r=w/\EP X au Z Q r s') pl.isList (by lia) (by rw[dX]<;>lia) (by lia) (by rw[hj];simpa using ew) ⟨rfl,fin⟩) hs
theorem a3R:ph X (FJ X.K):=by intro value slice au s Z H x y v u Q I rx ry h hs;obtain⟨p,xs,i,z,rfl,rfl,hq,he,q⟩:=h;cases rx;obtain⟨t,rfl⟩:=ry;obtain⟨its,r,pl,hz⟩:=I.tuple hq;obtain⟨j,h1,h2,h3,h4,h5⟩:=Jd he;obtain⟨w,ew,iU⟩:=r.get h2;have hl:=r.length;have hn:=sP;have fin:EP X au Z Q w s:=⟨z,H,I,iU,q⟩;exact subscriptTail_builtinR (x:=w) pl.typeIs slot_tuple_getitem.lookup (getItem_tuple (j:=j) (Q:=fun r s'=>r=w/\EP X au Z Q r s') pl (by lia) (by lia) (by rw[dX,<-hl];exact h1) (by simpa using ew) ⟨rfl,fin⟩) hs
theorem a3S:ph X Zl:=by
 intro value slice au s Z H x y v u Q I rx ry h hs;obtain⟨z,i,c,rfl,rfl,hz,he,q⟩:=h;obtain⟨t,rfl⟩:=rx;obtain⟨t',rfl⟩:=ry;obtain⟨j,h1,h2,h3,h4,h5⟩:=Jd he;have hl:z.cps.toList.length=z.length:=by simp[Str.length]
 rw[hl]at h1 h4 h5;have hn:=sP;exact tail_any (typeIs_str s z t) slot_str_getitem.lookup (getItem_str (c:=c) (by have e1:decide (i< -(2^63:Int))=false:=eQ (by lia);have e2:decide (i>=2^63)=false:=eQ (by lia);rw[e1,e2,Bool.or_false]) (by rw[h1];simpa using h2) ⟨.str ⟨#[c]⟩,H,I.tok _,⟨_,rfl⟩,q⟩) hs
theorem a2N(its:List Value)(n j:Nat)(u:Value):Obj.mapSeq (·.setIfInBounds j u) {cls:=.type "list",data:=.seq its.toArray n}={cls:=.type "list",data:=.seq (its.set j u).toArray n}:=by simp[Obj.mapSeq]
theorem Inv.lst{au:List (Addr×Obj)}{Z:St}{H:Hp}{s:ae}{p:Addr}{xs:List V}(I:Inv X au Z H s)(h:H p=some (.lst xs)): ∃(its:List Value)(n:Nat),Vals xs its/\s.heap.get? p=some {cls:=.type "list",data:=.seq its.toArray n}/\xs.length<=sizeLine:=by obtain⟨z,its,n,r,e⟩:=I.aV p _ h;exact⟨its,n,r,e,z⟩
theorem Inv.a3b{au:List (Addr×Obj)}{Z:St}{H:Hp}{s:ae}{p:Addr}{xs ys:List V}{its its':List Value}{n n':Nat}{f:Obj->Obj}(I:Inv X au Z H s)(h:H p=some (.lst xs)) (ho:s.heap.get? p=some {cls:=.type "list",data:=.seq its.toArray n})(hf:f {cls:=.type "list",data:=.seq its.toArray n}={cls:=.type "list",data:=.seq its'.toArray n'})(r:Vals ys its')(hz:ys.length<=sizeLine)(t:Nat): Inv X au Z (upd H p (.lst ys)) {s with heap:=s.heap.update p f,toks:=t}:=by
  have e:(s.heap.update p f).get? p=some {cls:=.type "list",data:=.seq its'.toArray n'}:=by rw[JZ f ho (by rw[hf]<;>rfl),hf]
  refine I.write (x:=p) (e:=p) (by rw[h];trivial) (.inl rfl) (fun b u hb q=>(zw _ _ (eR hb)).trans q) ⟨_,e⟩ ?_;exact⟨hz,its',n',r,e⟩
inductive UM(o:V)(i:V)(v:V)(H:Hp)(Q:Hp->Prop):Prop |mk (p:_)(xs:_)(k:_)(j:_)(h0:o= .ref p)(h1:i= .int k)(h2:H p=some (.lst xs))(h3:jk xs.length k=some j)(h4:Q (upd H p (.lst (xs.set j v)))):UM o i v H Q
def Zj:V->V->V->Hp->(Hp->Prop)->Prop:=fun o i v H Q=>UM o i v H Q
theorem set_list:SU X Zj:=by
 intro au s Z H o i v ov iv u Q I ro ri rv h;obtain⟨p,xs,k,j,rfl,rfl,hp,hj,q⟩:=h;cases ro;obtain⟨t,rfl⟩:=ri;obtain⟨its,n,r,ho,hz⟩:=I.lst hp;obtain⟨h1,h2,h3,h4⟩:=Pf hj;have hl:=r.length;have hn:=sP;have I':Inv X au Z (upd H p (.lst (xs.set j v))) {s with heap:=s.heap.update p (Obj.mapSeq (·.setIfInBounds j u))}:=I.a3b hp ho (a2N its n j u) (r.set rv j) (by rw[uq];exact hz) s.toks;by_cases h0:0<=k
 · have hk:k.toNat=j:=by rw[seqIndex_of h0 h4]at h1;exact dG h1
   exact PySem.W.ki_setAt ho h0 (by lia) (by rw[dX,<-hl];exact h4) (by rw[hk];exact⟨_,I',q⟩)
 · have hk:(k+(its.toArray.size:Int)).toNat=j:=by rw[seqIndex_neg (by lia) h3]at h1;rw[dX,<-hl];exact dG h1
   exact PySem.W.ki_setBack ho (by lia) (by rw[dX,<-hl];exact h3) (by lia) (by rw[hk];exact⟨_,I',q⟩)
theorem XF(lo hi:Option Int)(n:Nat):(sliceBounds lo hi none n).1=((HT.ck n 0 lo:Nat):Int)/\(sliceBounds lo hi none n).2.1=((HT.ck n n hi:Nat):Int)/\(sliceBounds lo hi none n).2.2=1:=by
 refine⟨?_,?_,rfl⟩
 ·cases lo with |none=>simp[sliceBounds,HT.ck] |some i=>
     simp only[sliceBounds,HT.ck,Option.getD_none,show(1:Int)>0 by decide,ui];by_cases h:i<0
     ·simp only[h,ui]<;>lia
     ·simp only[h,if_false]<;>lia
 ·cases hi with |none=>simp[sliceBounds,HT.ck] |some i=>
     simp only[sliceBounds,HT.ck,Option.getD_none,show(1:Int)>0 by decide,ui];by_cases h:i<0
     ·simp only[h,ui]<;>lia
     ·simp only[h,if_false]<;>lia
theorem XG(its:List Value)(lo hi:Option Int):slicePick its.toArray lo hi none=((its.drop (HT.ck its.length 0 lo)).take (HT.ck its.length its.length hi-HT.ck its.length 0 lo)).toArray:=by obtain⟨h1,h2,h3⟩:=XF lo hi its.toArray.size;unfold slicePick;rw[h1,h2,h3];simp only[sliceRange_one,pick_run,dX]<;>rfl
inductive UK(K:aa)(x:V)(lo:Option Int)(hi:Option Int)(H:Hp)(Q:VK):Prop |mk (a:_)(xs:_)(h0:x= .ref a)(h1:aE K H a xs)(h2:∀p,H p=none->Q (.ref p) (upd H p (.lst (me xs lo hi)))):UK K x lo hi H Q
def Zh(K:aa):V->Option Int->Option Int->Hp->VK->Prop:=fun x lo hi H Q=>UK K x lo hi H Q
theorem XJ:C9 X (Zh X.K):=by intro au s Z H x v vl vu lo hi sl Q I rx hs pl pu h;obtain⟨a,xs,rfl,hx,q⟩:=h;cases rx;obtain⟨its,r,ht,hz⟩:=I.list hx;have hlen:=r.length;refine⟨"list",_,slot_list_getitem.lookup,ht.isList.typeIs,?_⟩;refine wpAny_getItem_list_slice ht.isList hs pl pu .none (by simp) ?_ (by rw[dX]<;>lia);rw[XG,<-hlen];refine⟨.ref s.heap.objs.size,_,I.laid (t':=s.toks) (o:=.lst (me xs lo hi)) (fun b ob q=>cn _ q) (bF _) ?_,rfl,q _ (I.aV.fresh (bF _))⟩;exact⟨ib (RK xs lo hi) hz,_,0,(r.drop (HT.ck xs.length 0 lo)).take (HT.ck xs.length xs.length hi-HT.ck xs.length 0 lo),eh _ rfl⟩
theorem a9B:fh X (.builtin "len") (fun xs H Q=>∃p ys,xs=[.ref p]/\(aE X.K H p ys\/aP X.K H p ys)/\Q (.int ys.length) H):=by
 intro au s Z H xs us Q I r h;obtain⟨p,ys,rfl,hq,q⟩:=h;obtain⟨u,rfl,rx⟩:=vals1 r;cases rx;have hn:=sP;rcases hq with hq|hq
 · obtain⟨its,r',pl,hz⟩:=I.list hq
   have hlen:=r'.length;exact Calls.call_len_list pl.isList (by simp only[dX]<;>lia) ⟨.int ys.length,H,I.tok _,⟨s.toks+1,by rw[dX,hlen]⟩,q⟩
 · obtain⟨its,r',pl,hz⟩:=I.tuple hq
   have hlen:=r'.length;exact len_tuple pl (by simp only[dX]<;>lia) ⟨.int ys.length,H,I.tok _,⟨s.toks+1,by rw[dX,hlen]⟩,q⟩
theorem a9A:fh X (.builtin "len") (fun xs H Q=>∃z,xs=[.str z]/\z.length<=sizeLine/\Q (.int z.length) H):=by intro au s Z H xs us Q I r h;obtain⟨z,rfl,hz,q⟩:=h;obtain⟨u,rfl,t,rfl⟩:=vals1 r;have hn:=sP;exact len_str (by lia) ⟨.int z.length,H,I.tok _,⟨_,rfl⟩,q⟩
theorem fh.or{f:Value}{r r':List V->Hp->VK->Prop}(h:fh X f r)(h':fh X f r'):fh X f (fun xs H Q=>r xs H Q\/r' xs H Q):=by
 intro au s Z H xs us Q I rs q;rcases q with q|q
 ·exact h au s Z H xs us Q I rs q
 ·exact h' au s Z H xs us Q I rs q
theorem a9z:fh X (.type "list") (fun xs H Q=>∃p ys,xs=[.ref p]/\(aE X.K H p ys\/aP X.K H p ys)/\∀l,H l=none->Q (.ref l) (upd H l (.lst ys))):=by
 intro au s Z H xs us Q I r h;obtain⟨p,ys,rfl,hq,q⟩:=h;obtain⟨u,rfl,rx⟩:=vals1 r;cases rx;have fin:∀(its:List Value),Vals ys its->ys.length<=sizeLine->∀(h':Heap)(c':Nat),(∀b o',s.heap.get? b=some o'->h'.get? b=some o')->h'.get? s.heap.objs.size=some {cls:=.type "list",dict:=none,data:=.seq its.toArray c',slots:=#[]}->EP X au Z Q (.ref s.heap.objs.size) {s with heap:=h'}:=fun its r' hz h' c' kp e=>⟨.ref s.heap.objs.size,_,I.laid (t':=s.toks) kp (bF _) (show fC X.prog X.w _ h' _ (.lst ys)from⟨hz,its,c',r',e⟩),rfl,q _ (I.aV.fresh (bF _))⟩;rcases hq with hq|hq
 · obtain⟨its,r',pl,hz⟩:=I.list hq
   have hlen:=r'.length;obtain⟨o,ho,hc,n,hd⟩:=pl.isList;exact call_list_seq p (.inl rfl) ho hc hd (fun h' c' kp e=>fin its r' hz h' c' kp e) (by simp only[dX]<;>lia)
 · obtain⟨its,r',pl,hz⟩:=I.tuple hq
   have hlen:=r'.length;obtain⟨o,ho,hc,n,hd⟩:=pl;exact call_list_seq p (.inr rfl) ho hc hd (fun h' c' kp e=>fin its r' hz h' c' kp e) (by simp only[dX]<;>lia)
theorem a9u:fh X (.type "tuple") (fun xs H Q=>∃p ys,xs=[.ref p]/\((aE X.K H p ys/\∀l,H l=none->Q (.ref l) (upd H l (.tup ys)))\/(aP X.K H p ys/\Q (.ref p) H))):=by
 intro au s Z H xs us Q I r h;obtain⟨p,ys,rfl,h⟩:=h;obtain⟨u,rfl,rx⟩:=vals1 r;cases rx;rcases h with⟨hq,q⟩|⟨hq,q⟩
 · obtain⟨its,r',pl,hz⟩:=I.list hq
   have hlen:=r'.length;refine call_tuple_list pl.isList (fun h' kp=>?_) (by simp only[dX]<;>lia);have I1:Inv X au Z H {s with heap:=h'}:=I.kept (t':=s.toks) kp;have I2:Inv X au Z (upd H h'.objs.size (.tup ys)) {s with heap:=h'.push {cls:=.type "tuple",data:=.seq its.toArray}}:=I1.laid (t':=s.toks) (fun b o e=>cn _ e) (bF _) (show fC X.prog X.w _ _ _ (.tup ys)from⟨hz,its,r',IsTup.new _ _⟩);exact⟨.ref h'.objs.size,_,I2,rfl,q _ (I1.aV.fresh (bF _))⟩
 · obtain⟨its,r',pl,hz⟩:=I.tuple hq
   exact call_tuple_same pl ⟨.ref p,H,I,rfl,q⟩
def CV(K:aa)(T:String)(x:V)(H:Hp):Prop:=match x with | .str _=>T="str" | .int _=>T="int" | .ref p=>(T="list"/\∃xs,aE K H p xs)\/(T="tuple"/\∃o,K.lookup p=some o/\o.cls= .type "tuple"/\o.dict=none)\/ (T="dict"/\((∃aL,H p=some (.dK aL))\/∃aL,H p=some (.dT aL)))\/(T="set"/\∃S n,H p=some (.set S n)) |_=>False
theorem Kg{au:List (Addr×Obj)}{Z:St}{H:Hp}{s:ae}{T:String}{x:V}{v:Value}(I:Inv X au Z H s)(r:RelV x v)(ty:CV X.K T x H): s.TypeIs v T/\∀a,v= .ref a->∃ob,s.heap.get? a=some ob/\ob.dict=none:=by cases x with
  |str z=>obtain⟨t,rfl⟩:=r;cases(show T="str" from ty);exact⟨typeIs_str s z t,fun _ e=>nomatch e⟩ |int i=>obtain⟨t,rfl⟩:=r;cases(show T="int" from ty);exact⟨typeIs_int s i t,fun _ e=>nomatch e⟩ |ref p=>
    cases r;rcases ty with⟨rfl,xs,hq⟩|⟨rfl,o,hk,hc,hd⟩|⟨rfl,hk⟩|⟨rfl,S,n,hk⟩
    · obtain⟨its,_,pl,_⟩:=I.list hq
      refine⟨pl.isList.typeIs,fun a e=>?_⟩;cases e;obtain⟨o,n,e,c,hd,_⟩:=pl;exact⟨o,e,hd⟩
    · refine⟨⟨o,I.gk p o hk,hc⟩,fun a e=>?_⟩
      cases e;exact⟨o,I.gk _ o hk,hd⟩
    · have z:∃o,s.heap.get? p=some o/\o.ExactDict:=by
        rcases hk with⟨aL,hk⟩|⟨aL,hk⟩
        · obtain⟨_,_,_,_,o,_,_,e,ex,_⟩:=I.aV p _ hk
          exact⟨o,e,ex⟩
        · obtain⟨_,_,_,_,o,_,_,e,ex,_⟩:=I.aV p _ hk
          exact⟨o,e,ex⟩
      obtain⟨o,e,ex⟩:=z;refine⟨⟨o,e,ex.1⟩,fun a e2=>?_⟩;cases e2;exact⟨o,e,ex.2.1⟩
    · obtain⟨o,_,_,_,e,ex,_⟩:=I.aV p _ hk
      refine⟨⟨o,e,ex.1⟩,fun a e2=>?_⟩;cases e2;exact⟨o,e,ex.2.1⟩ |_=>exact False.elim ty
def Ky(K:aa)(T:String)(r:V->List V->Hp->VK->Prop)(to:TE):TE:=fun Z H Q=>to Z H fun x H1=>CV K T x H1/\r x [] H1 Q
def rC(K:aa)(T:String)(r:V->List V->Hp->VK->Prop)(to:TE)(t:TA):TE:=fun Z H Q=>to Z H fun x H1=>CV K T x H1/\t Z H1 fun xs H2=>r x xs H2 Q
variable {o e:Expr}{es:List Expr}{to:TE}{t:TA}{name:Str}{apos cx:Pos}{T id:String}{r:V->List V->Hp->VK->Prop}
theorem a07(pa:PlainAttrs T)(slot:Slot T name id)(yi:typeOf (.builtin id)=pure (.type "method_descriptor"))(hm:z9 X id r)(ho:PE X o to) (j8:attributeBase o name X.env (eval o X.env)=eval o X.env:=by rfl)(j6:(apos.endLine==cx.line)=true:=by rfl):PE X (.Call (.Attribute o name apos) [] [] cx) (Ky X.K T r to):=by intro au s Z H Q I h;refine wpAny_Call_method0_late j8 j6 (aW (ho au s Z H _ I h) fun v s1 ⟨x,H1,I1,r1,ty,q1⟩=>?_);obtain⟨h1,h2⟩:=Kg I1 r1 ty;exact⟨T,id,pa,slot,yi,h1,h2,Calls.callWith_builtin rfl (PySem.evalArgs_none (hm au s1 Z H1 x [] v [] Q I1 r1 .nil q1))⟩
theorem uV(pa:PlainAttrs T)(slot:Slot T name id)(yi:typeOf (.builtin id)=pure (.type "method_descriptor"))(hm:z9 X id r)(ho:PE X o to)(ha:PA X (e::es) t) (j8:attributeBase o name X.env (eval o X.env)=eval o X.env:=by rfl) (kN:((backTo cx (starEach (e::es) X.env)).all (fun x=>!x.1)&&(backToKw cx (keywordEach [] X.env)).all (fun x=>x.1.isSome) &&decide ((e::es).length+([]:List Keyword).length+(if([]:List Keyword).isEmpty then 0 else 1)<30))=true:=by rfl) (j6:(apos.endLine==cx.line)=true:=by rfl)(hs:starEach (e::es) X.env=(false,eval e X.env)::starEach es X.env:=by rfl)(kK:(backTo cx (starEach es X.env)).any (·.1)=false:=by rfl): PE X (.Call (.Attribute o name apos) (e::es) [] cx) (rC X.K T r to t):=by intro au s Z H Q I h;refine wpAny_Call_method_late j8 kN j6 rfl (aW (ho au s Z H _ I h) fun v s1 ⟨x,H1,I1,r1,ty,q1⟩=>?_);obtain⟨h1,h2⟩:=Kg I1 r1 ty;refine⟨T,id,pa,slot,yi,h1,h2,?_⟩;have hA:=ha cx au s1 Z H1 _ I1 q1;rw[hs]at hA⊢;refine Calls.callWith_builtin (by show(false||(backTo cx (starEach es X.env)).any (·.1))=false;rw[kK]<;>rfl) (Calls.evalArgs_plain ?_);exact aW hA fun us s2 ⟨vs,H2,I2,r2,q2⟩=>hm au s2 Z H2 x vs v us Q I2 r1 r2 q2
end
def Cg(X:Cx)(id:String)(r:V->List V->Hp->VK->Prop):Prop:=∀(au:List (Addr×Obj))(s:ae)(Z:St)(H:Hp)(x:V)(xs:List V)(v:Value)(us:List Value)(Q:VK),Inv X au Z H s->RelV x v->Vals xs us->r x xs H Q->wpAny (model X.prog X.w) X.A (call (.builtin id) (v::us)) (EP X au Z Q) X.xe s
theorem Vals.one:∀{x:V}{us:List Value},Vals [x] us->∃u,us=[u]/\RelV x u |_,_,.cons r .nil=>⟨_,rfl,r⟩
theorem Vals.zero:∀{us:List Value},Vals [] us->us=[] |_,.nil=>rfl
theorem Vals.eraseIdx:∀{xs:List V}{us:List Value}(i:Nat),Vals xs us->Vals (xs.eraseIdx i) (us.eraseIdx i) |_,_,_,.nil=>.nil |_,_,0,.cons _ t=>t |_,_,i+1,.cons r t=>.cons r (Vals.eraseIdx i t)
theorem P0{α:Type}:∀(l:List α)(i:Nat),(l.eraseIdx i).length<=l.length |[],_=>bF _ |_::_,0=>Nat.le_succ _ |_::r,i+1=>Nat.succ_le_succ (P0 r i)
section
variable {X:Cx}{au:List (Addr×Obj)}{Z:St}{H:Hp}{s:ae}{l b:Addr}{xs ys zs:List V}
theorem Inv.AG{its its':List Value}{n:Nat}{f:Array Value->Array Value}{t':Nat}(I:Inv X au Z H s)(hH:H l=some (.lst xs)) (e:s.heap.get? l=some {cls:=.type "list",data:=.seq its.toArray n})(hf:f its.toArray=its'.toArray)(hv:Vals ys its')(hz:ys.length<=sizeLine): Inv X au Z (upd H l (.lst ys)) {s with heap:=s.heap.update l (Obj.mapSeq f),toks:=t'}:=by have q:=PySem.IsL.update e f;rw[hf]at q;refine I.write (x:=l) (e:=l) (by rw[hH];exact trivial) (.inl rfl) (fun b' u hb hu=>(zw s.heap (Obj.mapSeq f) (eR hb)).trans hu) ⟨_,q⟩ ?_;exact⟨hz,its',_,hv,q⟩
theorem Inv.OV{its:List Value}{t':Nat}(I:Inv X au Z H s)(hv:Vals ys its)(hz:ys.length<=sizeLine): Inv X au Z (upd H s.heap.objs.size (.lst ys)) {s with heap:=s.heap.push {cls:=.type "list",data:=.seq its.toArray},toks:=t'}:=I.laid (fun _ _ q=>cn _ q) (bF _) ⟨hz,its,0,hv,eh _ rfl⟩
theorem Inv.y9(I:Inv X au Z H s)(hH:H l=some (.lst xs)):xs.length<=sizeLine/\∃(its:List Value)(n:Nat),Vals xs its/\xs.length=its.length/\s.heap.get? l=some {cls:=.type "list",data:=.seq its.toArray n}:=by obtain⟨z,its,n,r,e⟩:=I.aV l _ hH;exact⟨z,its,n,r,r.length,e⟩
theorem a2g{n:Nat}(h:n<=sizeLine):Builtin.List.listTooLong n=false:=by unfold Builtin.List.listTooLong;exact eQ (by lia)
end
section
variable {X:Cx}
inductive V5(x:V)(vs:List V)(H:Hp)(Q:VK):Prop |mk (l:_)(xs:_)(y:_)(h0:x= .ref l)(h1:vs=[y])(h2:H l=some (.lst xs))(h3:xs.length<sizeLine)(h4:Q .bp (upd H l (.lst (xs++[y])))):V5 x vs H Q
def NG:V->List V->Hp->VK->Prop:=fun x vs H Q=>V5 x vs H Q
theorem Gr:Cg X "list.append" NG:=by
 intro au s Z H x vs v us Q I rx rv h;obtain⟨l,xs,y,rfl,rfl,hH,hz,q⟩:=h;cases rx;obtain⟨u,rfl,ru⟩:=rv.one;obtain⟨z,its,n,r,hl,e⟩:=I.y9 hH;refine wG F.slot_list_append ⟨_,e,rfl⟩ F.entry_list_append (F.args_list_append_2 _ _) (PySem.list_append l its.toArray n u (by rw[dX];lia)) ⟨e,?_⟩;refine⟨.bp,_,I.AG (its':=its++[u]) hH e (by simp) (r.append (.cons ru .nil)) ?_,rfl,q⟩;rw[fo,List.length_singleton]
 lia
inductive V1(x:V)(vs:List V)(H:Hp)(Q:VK):Prop |mk (l:_)(b:_)(xs:_)(zs:_)(h0:x= .ref l)(h1:vs=[.ref b])(h2:H l=some (.lst xs))(h3:H b=some (.lst zs))(h4:xs.length+zs.length<=sizeLine)(h5:Q .bp (upd H l (.lst (xs++zs)))):V1 x vs H Q
def ND:V->List V->Hp->VK->Prop:=fun x vs H Q=>V1 x vs H Q
theorem a2B:Cg X "list.extend" ND:=by
 intro au s Z H x vs v us Q I rx rv h;obtain⟨l,b,xs,zs,rfl,rfl,hH,hB,hz,q⟩:=h;cases rx;obtain⟨u,rfl,ru⟩:=rv.one;cases ru;obtain⟨z,its,n,r,hl,e⟩:=I.y9 hH;obtain⟨z2,lW,n2,r2,qi,e2⟩:=I.y9 hB;have hsz:its.toArray.size+lW.toArray.size<=sizeLine:=by rw[dX,dX];lia
 have a53:¬(!its.toArray.isEmpty&&Builtin.List.listTooLong (its.toArray.size+lW.toArray.size))=true:=by rw[a2g hsz,Bool.and_false];exact jW
 refine wG F.slot_list_extend ⟨_,e,rfl⟩ F.entry_list_extend (F.args_list_extend_2 _ _) (AutoSeq1.list_extend_list_list_0 l its.toArray n b lW.toArray n2 a53 (by rw[dX];lia) (by lia)) ⟨e,e2,?_⟩;refine⟨.bp,_,I.AG (its':=its++lW) hH e (by simp) (r.append r2) ?_,rfl,q⟩;rw[fo]
 lia
inductive UN(x:V)(vs:List V)(H:Hp)(Q:VK):Prop |mk (l:_)(xs:_)(i:_)(k:_)(y:_)(h0:x= .ref l)(h1:vs=[.int i])(h2:H l=some (.lst xs))(h3:-(2^63)<=i)(h4:i<2^63)(h5:seqIndex? i xs.length=some k)(h6:xs[k]? =some y)(h7:Q y (upd H l (.lst (xs.eraseIdx k)))):UN x vs H Q
def NC:V->List V->Hp->VK->Prop:=fun x vs H Q=>UN x vs H Q
theorem a2A:Cg X "list.pop" NC:=by
 intro au s Z H x vs v us Q I rx rv h;obtain⟨l,xs,i,k,y,rfl,rfl,hH,h1,h2,hk,hy,q⟩:=h;cases rx;obtain⟨u,rfl,ru⟩:=rv.one;obtain⟨t,rfl⟩:=ru;obtain⟨z,its,n,r,hl,e⟩:=I.y9 hH;obtain⟨w,hw,iU⟩:=r.get hy;refine wG F.slot_list_pop ⟨_,e,rfl⟩ F.entry_list_pop (F.args_list_pop_2 _ _) (MeetsSeq.list_pop_at l its.toArray n i t k w (fitsIndex_both h1 h2) (by rw[dX,<-hl];exact hk) (by rw[<-Array.getElem?_toList];exact hw) (by rw[dX];lia)) ⟨e,?_⟩;refine⟨y,_,I.AG (its':=its.eraseIdx k) hH e ?_ (r.eraseIdx k) ?_,iU,q⟩
 · show its.toArray.eraseIdxIfInBounds k=(its.eraseIdx k).toArray
   rw[List.eraseIdxIfInBounds_toArray]
 · have:=P0 xs k
   lia
inductive V3(x:V)(vs:List V)(H:Hp)(Q:VK):Prop |mk (l:_)(xs:_)(h0:x= .ref l)(h1:vs=[])(h2:H l=some (.lst xs))(h3:Q .bp (upd H l (.lst []))):V3 x vs H Q
def NF:V->List V->Hp->VK->Prop:=fun x vs H Q=>V3 x vs H Q
theorem a2C:Cg X "list.clear" NF:=by intro au s Z H x vs v us Q I rx rv h;obtain⟨l,xs,rfl,rfl,hH,q⟩:=h;cases rx;have hus:=rv.zero;subst hus;obtain⟨z,its,n,r,hl,e⟩:=I.y9 hH;refine wG F.slot_list_clear ⟨_,e,rfl⟩ F.entry_list_clear (F.args_list_clear_1 _) (AutoSeq1.list_clear_list_0 l its.toArray n (by rw[dX];lia)) ⟨e,?_⟩;exact⟨.bp,_,I.AG (its':=[]) (ys:=[]) hH e rfl .nil (fT _),rfl,q⟩
end
section
variable {prog:ah}{w:World}{A:aj}{E:Value->ae->Prop}{s:ae}
end
section
variable {X:Cx}
end
end L2
namespace Att
open PySem PySem.W PySem.Calls PyProof.Rows
theorem a47{P:Params}{h:Heap}:∀(ns:List Int)(vs:List Value),WellAll P h vs (ns.map WData.int)->IntsAre vs ns:=by intro ns;induction ns with |nil=>intro vs w;rw[List.map_nil]at w;cases w;exact .nil |cons n ns ih=>intro vs w;rw[nQ]at w;cases w with |cons a b=>cases a;exact .cons _ _ (ih _ b)
theorem Y3{l:OpenLaw}{n:Nat}(hn:l.most=some n){P:Params}{h:Heap}{args:List WData}{vals:List Value} (B8:l.row.toRowW.claim.pre args=true)(GY:WellAll P h vals args): ∃a vs ns,vals=[Value.ref a]/\args=[WData.list (ns.map WData.int)]/\h.get? a=some {cls:=.type "list",data:=.seq vs.toArray}/\IntsAre vs ns/\ns.length<=n:=by
  have hsh:WShape.hasAll [] args [.list .int]=true:=(pre_splitW B8).1;have hc:l.pre.holds [] {args:=args}=true:=(pre_splitW B8).2;obtain⟨d,r,rfl,h1,h2⟩:=hasAllW_cons hsh;obtain rfl:=hasAllW_nil h2;obtain⟨xs,rfl,h3⟩:=hasW_list h1;obtain⟨ns,rfl⟩:=items_int h3;have hlen:ns.length<=n:=by
   unfold OpenLaw.pre at hc;have h4:(WTm.not (.lt (.lit (.int (n:Int))) (.len (.arg 0)))).holds [] {args:=[.list (ns.map .int)]}=true:=by have h4:=(holds_andW hc).1;rw[hn]at h4;exact h4
   have h5:=condW_of h4 (w_not (w_lt w_lit (w_len_list (w_arg rfl))));rw[cj]at h5;refine Nat.le_of_not_lt fun q=>?_;have q':(n:Int)<((ns.length:Nat):Int):=by omega
   first |(rw[cB q']at h5;exact absurd h5 (by decide)) |(simp at h5;omega)
  cases GY with |cons w1 w2=>cases w2;cases w1 with |list ho Hz=>exact⟨_,_,ns,rfl,rfl,ho,a47 ns _ Hz,hlen⟩
theorem ZH(l:OpenLaw)(args:List WData):l.row.toRowW.claim.post args (.bool true) args=true:=postW_of (r:=l.row.toRowW) (X:=(true==true)) (show WShape.has [] (.bool true) .bool=true by first|rfl|decide|simp[WShape.has,WShape.arms,WShape.armsAll]) (show(WTm.eq .res (.lit (.bool true))).value [] {args:=args,res:=some (.bool true),after:=args}=some (.bool (true==true))from w_eq_bool (w_res rfl) w_lit) rfl
theorem aa0{l:OpenLaw}{n:Nat}{q:ah}{loose:List Str}{XP:(Str->Option Value)->Heap->Prop}{YP:World->Heap->Prop}{d:DefRec} (hn:l.most=some n)(tH:d.params.defaults=[]) (call:∀(w:World)(s₀ s₁:ae)(mg mb:Str->Option Value)(fa:Addr)(o:Obj)(pm cd doc:Value)(a:Addr)(vs:List Value)(ns:List Int),Ground q loose [] XP w s₀ mg mb s₁.heap->YP w s₁.heap->s₁.heap.get? fa=some o->o.data= .func (docDef d.name d.params d.body d.scope pm cd doc)->s₁.heap.CodeRec cd d.name->mg d.name=some (.ref fa)->s₁.heap.get? a=some {cls:=.type "list",data:=.seq vs.toArray}->IntsAre vs ns->ns.length<=n->s₁.gens=#[]->codeAny (model l.prog w) callerA (.call (.ref fa) ⟨[.ref a],[]⟩) (fun r s'=>r= .ok (.ret (.bool true))/\OldK s₁.heap s'.heap/\s'.os=s₁.os/\AllBare s'.gens) s₁): WalkO q loose XP YP l.row.toRowW d [] (fun f vs=>PySem.call f vs):=by intro w s₀ s₁ mg mb G Y fa o pm cd doc dV kV ho hd gH hD Hn hg args vals as B8 abH hrd GY hlo;obtain rfl:dV= .none:=Dflts.none hD tH;obtain rfl:kV= .none:=Dflts.noKw hD;obtain⟨a,vs,ns,rfl,rfl,Hh,hints,hlen⟩:=Y3 hn B8 GY;refine enter_call (zm (call w s₀ s₁ mg mb fa o pm cd doc a vs ns G Y ho (fd_plain hd) gH Hn Hh hints hlen hg) fun r s' hq=>?_);obtain⟨rfl,h2,h3,h4⟩:=hq;exact⟨.inl ⟨.bool true,.bool true,[],rfl,fun _=>rfl,.bool true,ZH l _,fun _=>⟨List.Pairwise.nil,fun _ hm=>(nomatch hm)⟩⟩,h2,h3,h4⟩
section
variable {prog:ah}{w:World}{A:aj}{E:Value->ae->Prop}{s:ae}{K:Frag}
end
end Att
namespace L2
open PySem PySem.Spec PyProof.Rows
theorem K8:∀{vs:List Value}{ns:List Int},IntsAre vs ns->Vals (ns.map V.int) vs |_,_,.nil=>.nil |_,_,.cons n t h=>.cons ⟨t,rfl⟩ (K8 h)
def inClass(s:Stmt)(j:Nat):Stmt:=match s with | .ClassDef _ _ _ body _ _ _ _ _ _ _=>body.getD j (.Pass ⟨0,0,0,0⟩) |_=>.Pass ⟨0,0,0,0⟩
def jN(s:Stmt):Arguments:=match s with | .FunctionDef _ a _ _ _ _ _ _ _ _=>a |_=>{posonlyargs:=[],args:=[],vararg:=none,kwonlyargs:=[],kw_defaults:=[],kwarg:=none,defaults:=[]}
def gs(s:Stmt):List Stmt:=match s with | .FunctionDef _ _ b _ _ _ _ _ _ _=>b |_=>[]
def aR(s:Stmt):Scope:=match s with | .FunctionDef _ _ _ _ _ _ sc _ _ _=>sc |_=>{kind:=.function,names:=[],isGenerator:=false,isCoroutine:=false}
abbrev ja:jT:=fun _ _ _ _ _ _=>False
abbrev E0:XK:=fun _ _ _=>False
theorem Am{X:Cx}:Passes ja X E0:=fun _ _ _ _ _ _ _ h=>h.elim
structure jQ(K:aa)(x qual:Str)(st:Stmt)(f:Addr)(fd:FuncData):Prop where
 ex:∃(oc:Value)(od:Option Addr)(kV doc pm:Value)(an:Option Addr)(aJ ct:Value)(fX:Array (Option Value)),fd=PySem.W.fnOf x qual (jN st) (gs st) (aR st) .none kV doc pm an aJ ct/\K.lookup f=some ⟨oc,od,.func fd,fX⟩/\PySem.W.codeIn K aJ qual=true
 kp:PySem.W.keepIn K (.ref f)=true
section
variable {P:ah}{w:World}{K:aa}{mg:Str->Option Value}{base:Heap}
theorem jQ.ok{x qual:Str}{st:Stmt}{f:Addr}{fd:FuncData}{N ps:List Str}{k:Nat}{sp:Sp}(F:jQ K x qual st f fd)(S:bh N ps (aR st))(len:∀vs H Q E,sp vs H Q E->vs.length=ps.length) (iz:∀(aJ:Value)(A:aj)(outer:List Env)(s:ae)(H:Hp)(vs:List V)(Q:VK)(E:XK),cE k (A.deeper (envOfC qual (aR st) s.heap.objs.size f aJ))->sp vs H Q E->∃t,gK (iP ja P w K mg base N qual (aR st) f aJ A outer s H E).oz (gs st) t/\t {nx:=fun _ H'=>Q .bp H',rt:=Q} (start N vs) H):iR P w K mg base ja (k+1) f fd ps sp:=by obtain⟨oc,od,kV,doc,pm,an,aJ,ct,fX,rfl,lk,gH⟩:=F.ex;refine Ig lk gH S len fun A outer s H vs Q E hr iZ=>?_;obtain⟨t,h,q⟩:=iz aJ A outer s H vs Q E hr iZ;exact⟨t,h.oz,q⟩
theorem jQ.binds{x qual:Str}{st:Stmt}{f:Addr}{fd:FuncData}{ps:List Str}(F:jQ K x qual st f fd) (h:∀(kV doc pm:Value)(an:Option Addr)(aJ ct:Value)(us:List Value),us.length=ps.length->bindArgs (PySem.W.fnOf x qual (jN st) (gs st) (aR st) .none kV doc pm an aJ ct) ⟨us,[]⟩=pure (ps.zip us)):Binds K fd ps []:=by obtain⟨oc,od,kV,doc,pm,an,aJ,ct,fX,rfl,lk,gH⟩:=F.ex;exact .all (h kV doc pm an aJ ct)
theorem BC{x qual:Str}{st:Stmt}{f:Addr}{oc:Value}{od an:Option Addr}{fX:Array (Option Value)}{kV doc pm aJ ct:Value}(l:K.lookup f=some ⟨oc,od,.func (PySem.W.fnOf x qual (jN st) (gs st) (aR st) .none kV doc pm an aJ ct),fX⟩) (c:PySem.W.codeIn K aJ qual=true)(k:PySem.W.keepIn K (.ref f)=true):jQ K x qual st f (PySem.W.fnOf x qual (jN st) (gs st) (aR st) .none kV doc pm an aJ ct):=⟨⟨oc,od,kV,doc,pm,an,aJ,ct,fX,rfl,l,c⟩,k⟩
end
section
variable {X:Cx}
theorem pv(i:Nat){x:Str}{pos:Pos}(hN:X.N[i]? =some x:=by rfl)(hv:C6 X.env.scope x:=by first|exact Or.inl rfl|exact Or.inr (Or.inl rfl)|exact Or.inr (Or.inr rfl))(hd:(x==("__debug__":Str))=false:=by decide) (gH:(x==("__classdict__":Str))=false:=by decide):PE X (.Name x pos) (uB i):=NN hN hv hd gH
end
theorem bB{A B:Prop}(h:B):if false=true then A else B:=by rw[aZ jW];exact h
theorem bT{A B:Prop}(h:A):if true=true then A else B:=by rw[aY rfl];exact h
theorem dR{c A B:Prop}[Decidable c](h1:c->A)(h2:¬c->B):if c then A else B:=by
 by_cases h:c
 · rw[aY h]
   exact h1 h
 · rw[aZ h]
   exact h2 h
def aB(H H':Hp):Prop:=∀b o,H b=some o->H' b=some o
theorem aB.refl(H:Hp):aB H H:=fun _ _ h=>h
theorem aB.trans{H H1 H2:Hp}(a:aB H H1)(b:aB H1 H2):aB H H2:=fun c o h=>b c o (a c o h)
theorem aB.seq{K:aa}{H H':Hp}{a:Addr}{xs:List V}(e:aB H H')(h:aE K H a xs):aE K H' a xs:=by
 rcases h with(h|⟨o,h⟩)|h
 ·exact .inl (.inl (e _ _ h))
 ·exact .inl (.inr ⟨o,e _ _ h⟩)
 ·exact .inr h
def Wd (i:Int):Prop:=i.natAbs<2^5000
theorem Wd.bits{i:Int}(h:Wd i):Builtin.Int.intBits i<=2^20:=ib (PyProof.Rows.intBits_le h) (by decide)
theorem Wd.log{i:Int}(h:Wd i):i.natAbs.log2<9000:=by
 by_cases e:i.natAbs=0
 ·rw[e];decide
 · have h1:i.natAbs.log2<5000:=(Nat.log2_lt e).mpr h
   lia
section
variable {X:Cx}
theorem lS:dc X (binaryOp .FloorDiv) (rI (fun _ j=>0<j/\Wd j) fun i j=>.int (i/j)):=xJ fun i j _ _ _ _ _ hc q=>by have h1:(0:Int)<j:=hc.1;exact floordiv_int (by lia) (by rw[VQ i (by lia)];exact q) (.inl (PyProof.noPylong_of_log2 hc.2.log))
theorem O5:dc X (binaryOp .FloorDiv) (rI (fun _ j=>j≠0/\Wd j) fun i j=>.int (i.fdiv j)):=xJ fun _ _ _ _ _ _ _ hc q=>floordiv_int hc.1 q (.inl (PyProof.noPylong_of_log2 hc.2.log))
end
def u7(K:aa)(H:Hp)(x:V)(T:String):Prop:=match x with | .bp=>T="NoneType" | .bl _=>T="bool" | .int _=>T="int" | .str _=>T="str" | .ref a=>(T="list"/\∃xs,aE K H a xs)\/(T="tuple"/\∃xs,aP K H a xs) |_=>False
def iH(T n:String):Bool:=T==n||(T=="bool"&&n=="int")
def zK:List String:=["NoneType","bool","int","str","list","tuple"]
def wW:List String:=["bool","int","str","list","tuple"]
theorem Pc{K:aa}{T n:String}(h1:T∈zK)(h2:n∈wW):PySem.W.kitOne K (.type T) (.type n)=some (iH T n):=by
 have all:zK.all (fun T=>wW.all fun n=>PySem.W.kitOne [] (.type T) (.type n)==some (iH T n))=true:=by decide+kernel
 have a1:=iE.mp all T h1;have a2:=iE.mp a1 n h2;have e:PySem.W.kitOne K (.type T) (.type n)=PySem.W.kitOne [] (.type T) (.type n):=by unfold PySem.W.kitOne PySem.W.kitCls PySem.W.subIn;rfl
 rw[e];exact fM.mp a2
section
variable {X:Cx}
theorem u7.mem{K:aa}{H:Hp}{x:V}{T:String}(h:u7 K H x T):T∈zK:=by cases x with |bp=>cases(show T="NoneType" from h);decide |bl b=>cases(show T="bool" from h);decide |int b=>cases(show T="int" from h);decide |str b=>cases(show T="str" from h);decide |ref a=>rcases(show(T="list"/\∃xs,aE K H a xs)\/(T="tuple"/\∃xs,aP K H a xs)from h)with⟨e,_⟩|⟨e,_⟩<;>cases e<;>decide |_=>exact(show False from h).elim
theorem Pe{au:List (Addr×Obj)}{s:ae}{Z:St}{H:Hp}{x:V}{u:Value}{T:String}(I:Inv X au Z H s)(rx:RelV x u)(ty:u7 X.K H x T): ∃P:Heap->Prop,PySem.W.KitX X.K u (.type T) P/\P s.heap/\u≠ .builtin "__main__.__loader__#opaque":=by cases x with
  |bp=>cases(show T="NoneType" from ty);cases(show u=Value.none from rx);exact⟨_,PySem.W.kitx_none,True.intro,fun z=>nomatch z⟩ |bl b=>cases(show T="bool" from ty);cases(show u=Value.bool b from rx);exact⟨_,PySem.W.kitx_bool,True.intro,fun z=>nomatch z⟩ |int b=>cases(show T="int" from ty);obtain⟨t,q⟩:=(show∃t,u=Value.int b t from rx);cases q;exact⟨_,PySem.W.kitx_int,True.intro,fun z=>nomatch z⟩ |str b=>cases(show T="str" from ty);obtain⟨t,q⟩:=(show∃t,u=Value.str b t from rx);cases q;exact⟨_,PySem.W.kitx_str,True.intro,fun z=>nomatch z⟩ |ref a=>
    cases(show u=Value.ref a from rx);rcases(show(T="list"/\∃xs,aE X.K H a xs)\/(T="tuple"/\∃xs,aP X.K H a xs)from ty)with⟨e,xs,hx⟩|⟨e,xs,hx⟩
    · cases e
      obtain⟨its,r,⟨o,n,h1,h2,_⟩,_⟩:=I.list hx;exact⟨_,PySem.W.kitx_list,⟨o,h1,h2⟩,fun z=>nomatch z⟩
    · cases e
      obtain⟨its,r,⟨o,h1,h2,_⟩,_⟩:=I.tuple hx;exact⟨_,PySem.W.kitx_tuple,⟨o,h1,h2⟩,fun z=>nomatch z⟩ |_=>exact(show False from ty).elim
inductive UU(K:aa)(xs:List V)(H:Hp)(Q:VK):Prop |mk (x:_)(T:_)(n:_)(b:_)(h0:xs=[x,.ty n])(h1:u7 K H x T)(h2:n∈wW)(h3:iH T n=b)(h4:Q (.bl b) H):UU K xs H Q
def FO(K:aa):List V->Hp->VK->Prop:=fun xs H Q=>UU K xs H Q
theorem a9D:fh X (.builtin "isinstance") (FO X.K):=by intro au s Z H xs us Q I r h;obtain⟨x,T,n,b,rfl,ty,hn,rfl,q⟩:=h;obtain⟨u,c,rfl,rx,rc⟩:=vals2 r;cases(show c=Value.type n from rc);obtain⟨P,acp,p,hx⟩:=Pe I rx ty;exact PySem.W.kia_one acp I.gk p (Pc ty.mem hn) hx fun tk=>⟨.bl (iH T n),H,I.tok _,rfl,q⟩
inductive UT(K:aa)(xs:List V)(H:Hp)(Q:VK):Prop |mk (x:V)(T:String)(p:Addr)(ns:List String)(b:Bool)(h0:xs=[x,.ref p])(h1:H p=some (.tup (ns.map V.ty)))(h2:u7 K H x T)(h3:(∀n∈ns,n∈wW))(h4:ns.any (iH T)=b)(h5:Q (.bl b) H):UT K xs H Q
def FL(K:aa):List V->Hp->VK->Prop:=fun xs H Q=>UT K xs H Q
theorem Pb{K:aa}{T:String}(h1:T∈zK):∀{ns:List String},(∀n∈ns,n∈wW)->PySem.W.kitAny K (.type T) (ns.map Value.type)=some (ns.any (iH T)) |[],_=>rfl |n::r,h=>by have e:=Pc (K:=K) h1 (h n (JP ..));have ih:=Pb (K:=K) h1 (ns:=r) fun m hm=>h m (ie _ hm);rw[nQ,PySem.W.kitAny,e,uu];cases iH T n with |true=>rfl |false=>simpa using ih
theorem K6:∀{ns:List String}{us:List Value},Vals (ns.map V.ty) us->us=ns.map Value.type |[],_,.nil=>rfl |n::r,_,.cons q t=>by cases(show _=Value.type n from q);rw[K6 t];rfl
theorem a9C:fh X (.builtin "isinstance") (FL X.K):=by intro au s Z H xs us Q I r h;obtain⟨x,T,p,ns,b,rfl,hp,ty,hn,rfl,q⟩:=h;obtain⟨u,c,rfl,rx,rc⟩:=vals2 r;cases(show c=Value.ref p from rc);obtain⟨P,acp,pp,hx⟩:=Pe I rx ty;obtain⟨_,its,rv,⟨cls,dd,dt,sl⟩,h1,h2,n,h3⟩:=(show fC X.prog X.w H s.heap p (.tup (ns.map V.ty))from I.aV p _ hp);simp only at h2 h3;subst h2 h3;have e:=K6 rv;subst e;exact PySem.W.kia_tup acp I.gk pp h1 (Pb ty.mem hn) hx fun tk=>⟨.bl _,H,I.tok _,rfl,q⟩
end
mutual
def RD(K:aa)(H:Hp):V->ai->Prop |x,.none=>x= .bp |x,.bool b=>x= .bl b |x,.int i=>x= .int i |x,.str y=>x= .str y |x,.list ds=>∃a xs,x= .ref a/\aE K H a xs/\aI K H xs ds |x,.tuple ds=>∃a xs,x= .ref a/\aP K H a xs/\aI K H xs ds |_,.dict _=>False
def aI (K:aa)(H:Hp):List V->List ai->Prop |xs,[]=>xs=[] |xs,d::ds=>∃y ys,xs=y::ys/\RD K H y d/\aI K H ys ds
end
section
variable {X:Cx}
mutual
theorem RD.reads{au:List (Addr×Obj)}{s:ae}{Z:St}{H:Hp}(I:Inv X au Z H s):∀{x:V}{u:Value}(d:ai),RelV x u->RD X.K H x d->∃as,Reads s.heap u d as |x,u,.none,r,h=>by cases(show x= .bp from by simpa[RD]using h);cases(show u=Value.none from r);exact⟨_,.none⟩ |x,u,.bool b,r,h=>by cases(show x= .bl b from by simpa[RD]using h);cases(show u=Value.bool b from r);exact⟨_,.bool b⟩ |x,u,.int i,r,h=>by cases(show x= .int i from by simpa[RD]using h);obtain⟨t,q⟩:=(show∃t,u=Value.int i t from r);cases q;exact⟨_,.int i t⟩ |x,u,.str y,r,h=>by cases(show x= .str y from by simpa[RD]using h);obtain⟨t,q⟩:=(show∃t,u=Value.str y t from r);cases q;exact⟨_,.str y t⟩ |x,u,.list ds,r,h=>by rw[RD]at h;obtain⟨a,xs,rfl,hx,hd⟩:=h;cases(show u=Value.ref a from r);obtain⟨its,rv,⟨o,n,h1,h2,h3,h4⟩,_⟩:=I.list hx;obtain⟨as,q⟩:=aI.reads I ds rv hd;exact⟨_,.list h1 h2 h4 (by simpa using q)⟩ |x,u,.tuple ds,r,h=>by rw[RD]at h;obtain⟨a,xs,rfl,hx,hd⟩:=h;cases(show u=Value.ref a from r);obtain⟨its,rv,⟨o,h1,h2,n,h4⟩,_⟩:=I.tuple hx;obtain⟨as,q⟩:=aI.reads I ds rv hd;exact⟨_,.tuple h1 h2 h4 (by simpa using q)⟩ |x,u,.dict _,r,h=>by simp[RD]at h
theorem aI.reads {au:List (Addr×Obj)}{s:ae}{Z:St}{H:Hp}(I:Inv X au Z H s):∀{xs:List V}{us:List Value}(ds:List ai),Vals xs us->aI X.K H xs ds->∃as,ReadsAll s.heap us ds as |xs,us,[],r,h=>by cases(show xs=[]from by simpa[aI]using h);cases r;exact⟨_,.nil⟩ |xs,us,d::ds,r,h=>by rw[aI]at h;obtain⟨y,ys,rfl,h1,h2⟩:=h;cases r with |cons ra rb=>obtain⟨as,q⟩:=RD.reads I d ra h1;obtain⟨bs,q'⟩:=aI.reads I ds rb h2;exact⟨_,.cons q q'⟩
end
inductive V2(K:aa)(x:V)(y:V)(H:Hp)(Q:VK):Prop |mk (d:_)(e:_)(h0:RD K H x d)(h1:RD K H y e)(h2:SeqAt.shaped d=true)(h3:SeqAt.shaped e=true)(h4:Q (.bl (PyData.eqv d e)) H):V2 K x y H Q
def FP(K:aa):R2:=fun x y H Q=>V2 K x y H Q
inductive UO(K:aa)(x:V)(y:V)(H:Hp)(Q:VK):Prop |mk (d:_)(e:_)(h0:RD K H x d)(h1:RD K H y e)(h2:SeqAt.shaped d=true)(h3:SeqAt.shaped e=true)(h4:Q (.bl (!PyData.eqv d e)) H):UO K x y H Q
def FI(K:aa):R2:=fun x y H Q=>UO K x y H Q
theorem a0v(hu:X.A.units+64<cLine):dc X (compareOp .Eq) (FP X.K):=by intro au s Z H x y v u Q I rx ry h;obtain⟨d,e,hd,he,sd,se,q⟩:=h;obtain⟨as,ra⟩:=RD.reads I d rx hd;obtain⟨bs,rb⟩:=RD.reads I e ry he;exact eq_dataH ra rb sd se hu ⟨.bl _,H,I,rfl,q⟩
theorem a0p(hu:X.A.units+64<cLine):dc X (compareOp .NotEq) (FI X.K):=by intro au s Z H x y v u Q I rx ry h;obtain⟨d,e,hd,he,sd,se,q⟩:=h;obtain⟨as,ra⟩:=RD.reads I d rx hd;obtain⟨bs,rb⟩:=RD.reads I e ry he;exact ne_dataH ra rb sd se hu ⟨.bl _,H,I,rfl,q⟩
end
theorem aB.new{H:Hp}{t:Addr}{o:HO}(ht:H t=none):aB H (upd H t o):=fun b o' e=>by rw[aK (fQ e ht)];exact e
structure Nw(H H':Hp)(p:Addr)(o:HO):Prop where
 no:H p=none
 at':H' p=some o
 same:aB H H'
 eq:H'=upd H p o
theorem Nw.of{H:Hp}{p:Addr}{o:HO}(h:H p=none):Nw H (upd H p o) p o:=⟨h,ba,.new h,rfl⟩
def BX:List Str:=["len","abs","min","max","range","isinstance","int","bool","str","tuple","list","any","all","sum","zip","enumerate","sorted","reversed","ord","chr","divmod","repr","dict","set"]
def bL(mg:Str->Option Value):Prop:=∀x∈BX,mg x=none
theorem bL.at{mg:Str->Option Value}(B:bL mg)(x:Str)(h:x∈BX:=by decide):mg x=none:=B x h
theorem fg{α:Type}{C:List α->Prop}(h:∀a,C [a]):∀us:List α,us.length=1->C us |[_],_=>h _
theorem du{α:Type}{C:List α->Prop}(h:∀a b,C [a,b]):∀us:List α,us.length=2->C us |[_,_],_=>h _ _
theorem ny{α:Type}{C:List α->Prop}(h:∀a b c,C [a,b,c]):∀us:List α,us.length=3->C us |[_,_,_],_=>h _ _ _
theorem C4{α:Type}{C:List α->Prop}(h:∀a b c d,C [a,b,c,d]):∀us:List α,us.length=4->C us |[_,_,_,_],_=>h _ _ _ _
def Qz(N P:List Str)(sc:Scope):Bool:=decide (sc.kind= .function)&& !sc.isCoroutine&& !sc.isGenerator&&decide N.Nodup&&decide (N.take P.length=P)&&P.all (fun x=>decide (sc.names.lookup x=some .local\/sc.names.lookup x=some .cell))&&sc.names.all fun y=>decide (y.2≠ .free)
theorem bG{N P:List Str}{sc:Scope}(h:Qz N P sc=true):bh N P sc:=by unfold Qz at h;simp only[eV,Ct,VS,iE]at h;obtain⟨⟨⟨⟨⟨⟨h1,h2⟩,h3⟩,h4⟩,h5⟩,h6⟩,h7⟩:=h;exact⟨h1,h2,h3,h4,h5,h6,h7⟩
structure FA(K:aa)(mg:Str->Option Value)(x:Str)(st:Stmt):Prop where ex:∃f fd,mg x=some (.ref f)/\jQ K x x st f fd
def aD(P:ah)(w:World)(K:aa)(mg:Str->Option Value)(base:Heap)(x:Str)(k:Nat)(sp:Sp):Prop:=∃f fd ps,iR P w K mg base ja k f fd ps sp/\mg x=some (.ref f)/\PySem.W.keepIn K (.ref f)=true/\Binds K fd ps []
section
variable {P:ah}{w:World}{K:aa}{mg:Str->Option Value}{base:Heap}
theorem a7m{h:Heap}{x:Str}{st:Stmt}{f:Addr}{oc:Value}{od an:Option Addr}{fX:Array (Option Value)}{kV doc pm aJ ct:Value}(X:K.In h)(G:h.Ns mainGlobals mg) (a:PySem.W.nsIn K mainGlobals x=some (some (.ref f))) (l:K.lookup f=some ⟨oc,od,.func (PySem.W.fnOf x x (jN st) (gs st) (aR st) .none kV doc pm an aJ ct),fX⟩) (c:PySem.W.codeIn K aJ x=true)(k:PySem.W.keepIn K (.ref f)=true):FA K mg x st:=⟨f,_,wI X G a,BC l c k⟩
theorem FA.has{x:Str}{st:Stmt}{N ps:List Str}{k:Nat}{sp:Sp}(F:FA K mg x st)(S:bh N ps (aR st))(len:∀vs H Q E,sp vs H Q E->vs.length=ps.length) (hb:∀(kV doc pm:Value)(an:Option Addr)(aJ ct:Value)(us:List Value),us.length=ps.length->bindArgs (PySem.W.fnOf x x (jN st) (gs st) (aR st) .none kV doc pm an aJ ct) ⟨us,[]⟩=pure (ps.zip us)) (iz:∀(f:Addr)(aJ:Value)(A:aj)(outer:List Env)(s:ae)(H:Hp)(vs:List V)(Q:VK)(E:XK),cE k (A.deeper (envOfC x (aR st) s.heap.objs.size f aJ))->sp vs H Q E->∃t,gK (iP ja P w K mg base N x (aR st) f aJ A outer s H E).oz (gs st) t/\t {nx:=fun _ H'=>Q .bp H',rt:=Q} (start N vs) H):aD P w K mg base x (k+1) sp:=by obtain⟨f,fd,hm,F⟩:=F.ex;exact⟨f,fd,ps,F.ok S len fun aJ A outer s H vs Q E=>iz f aJ A outer s H vs Q E,hm,F.kp,F.binds hb⟩
end
section
variable {X:Cx}{k:Nat}{x:Str}{p pos:Pos}{e:Expr}{es:List Expr}{t:TA}{sp:Sp}
def Ku(sp:Sp)(t:TA):TE:=fun Z H Q=>t Z H fun vs H1=>sp vs H1 Q E0
theorem oq(F:aD X.prog X.w X.K X.mg X.base x k sp)(hr:cE k X.A)(hg:Gl X x)(ha:PA X (e::es) t)(j7:(x==("__debug__":Str))=false:=by decide) (he:starEach (e::es) X.env=(false,eval e X.env)::starEach es X.env:=by rfl)(fZ:(backTo pos (starEach es X.env)).any (·.1)=false:=by rfl): PE X (.Call (.Name x p) (e::es) [] pos) (Ku sp t):=by
  obtain⟨f,fd,ps,F,hm,hk,hb⟩:=F;have h:=a06 (pos:=pos) (p:=p) F hr hg hm hk hb .nil Am ha j7 he fZ;intro au s Z H Q I hq;refine h au s Z H Q I ?_;have e1:(fun(vs:List V) H1=>sp (vs++[]) H1 Q E0)=fun vs H1=>sp vs H1 Q E0:=by funext vs H1;rw[CI]
  show t Z H fun vs H1=>sp (vs++[]) H1 Q E0;rw[e1];exact hq
theorem pf{j:Nat}(F:aD X.prog X.w X.K X.mg X.base x j sp)(hr:cE k X.A)(ha:PA X (e::es) t)(hjk:j<=k:=by decide)(hg:Gl X x:=by rfl)(j7:(x==("__debug__":Str))=false:=by decide)(he:starEach (e::es) X.env=(false,eval e X.env)::starEach es X.env:=by rfl)(fZ:(backTo pos (starEach es X.env)).any (·.1)=false:=by rfl):PE X (.Call (.Name x p) (e::es) [] pos) (Ku sp t):=oq F (hr.mono hjk) hg ha j7 he fZ
theorem bu:dc X (binaryOp .Mult) (rI (fun i j=>IntMulOk i j) fun i j=>.int (i*j)):=xJ fun _ _ _ _ _ _ _ hc q=>mul_int q hc
theorem a0u:dc X (compareOp .Eq) (jZ fun i j=>.bl (decide (i=j))):=uZ fun _ _ _ _ _ _ _ q=>eq_int (by rw[Bool.beq_eq_decide_eq];exact q)
theorem a0o:dc X (compareOp .NotEq) (jZ fun i j=>.bl (!decide (i=j))):=uZ fun _ _ _ _ _ _ _ q=>ne_int (by rw[bne,Bool.beq_eq_decide_eq];exact q)
theorem a0w(hu:X.A.units+64<cLine):dc X (compareOp .Eq) (fun x y H Q=>jZ (fun i j=>.bl (decide (i=j))) x y H Q\/FP X.K x y H Q):=a0u.or (a0v hu)
theorem a0q(hu:X.A.units+64<cLine):dc X (compareOp .NotEq) (fun x y H Q=>jZ (fun i j=>.bl (!decide (i=j))) x y H Q\/FI X.K x y H Q):=a0o.or (a0p hu)
mutual
theorem eqv_refl:∀d:ai,d.canLay0=true->PyData.eqv d d=true | .none,_=>by simp[PyData.eqv] | .bool b,_=>by simp[PyData.eqv] | .int i,_=>by simp[PyData.eqv] | .str x,_=>by simp[PyData.eqv] | .list ds,h=>by simp only[PyData.eqv];exact eqvAll_refl ds (by simpa[PyData.canLay0]using h) | .tuple ds,h=>by simp only[PyData.eqv];exact eqvAll_refl ds (by simpa[PyData.canLay0]using h) | .dict _,h=>by simp[PyData.canLay0]at h
theorem eqvAll_refl:∀ds:List ai,PyData.canLayAll0 ds=true->PyData.eqvAll ds ds=true |[],_=>by simp[PyData.eqvAll] |d::ds,h=>by simp only[PyData.canLayAll0,eV]at h;simp only[PyData.eqvAll,eV];exact⟨eqv_refl d h.1,eqvAll_refl ds h.2⟩
end
theorem lC{K:aa}{H:Hp}(b:Bool):RD K H (.bl b) (.bool b):=by simp[RD]
theorem dN{K:aa}{H:Hp}(i:Int):RD K H (.int i) (.int i):=by simp[RD]
theorem cM{K:aa}{H:Hp}(x:Str):RD K H (.str x) (.str x):=by simp[RD]
theorem YZ{K:aa}{H:Hp}:RD K H .bp .none:=by simp[RD]
theorem iI{K:aa}{H:Hp}{p:Addr}{xs:List V}{ds:List ai}(h:aP K H p xs)(r:aI K H xs ds):RD K H (.ref p) (.tuple ds):=by rw[RD];exact⟨p,xs,rfl,h,r⟩
theorem lB{K:aa}{H:Hp}{p:Addr}{xs:List V}{ds:List ai}(h:aE K H p xs)(r:aI K H xs ds):RD K H (.ref p) (.list ds):=by rw[RD];exact⟨p,xs,rfl,h,r⟩
theorem cL{K:aa}{H:Hp}:aI K H [] []:=by simp[aI]
theorem bQ{K:aa}{H:Hp}{x:V}{xs:List V}{d:ai}{ds:List ai}(h:RD K H x d)(r:aI K H xs ds):aI K H (x::xs) (d::ds):=by rw[aI];exact⟨x,xs,rfl,h,r⟩
inductive Te(t:TS)(D:Ends)(Z:St)(H:Hp):Prop |mk (Jq:St->Hp->Prop)(h0:t {D with nx:=Jq} Z H)(h1:∀σ' H',Jq σ' H'->D.nx σ' H'):Te t D Z H
def X3 (t:TS):TS:=fun D Z H=>Te t D Z H
theorem gU{st:Stmt}{t:TS}(h:PS X st t):PS X st (X3 t):=by intro au s Z H D I hq;obtain⟨Jq,q,m⟩:=hq;refine aW (h au s Z H _ I q) fun f s1 q1=>?_;cases f with |next=>obtain⟨σ',H',I',q'⟩:=q1;exact⟨σ',H',I',m _ _ q'⟩ |brk=>exact q1 |cont=>exact q1 |ret u=>exact q1
end
def qL(K:aa)(xs:List Str):Prop:=∀x∈xs,PySem.W.nsIn K mainGlobals x=some none
theorem qL.nil{K:aa}:qL K []:=fun _ h=>nomatch h
theorem qL.cons{K:aa}{x:Str}{xs:List Str}(a:PySem.W.nsIn K mainGlobals x=some none)(r:qL K xs):qL K (x::xs):=fun y hy=>by
 rcases bI.mp hy with e|e
 ·rw[e];exact a
 ·exact r y e
theorem a9O{K:aa}{mg:Str->Option Value}{h:Heap}(X:K.In h)(G:h.Ns mainGlobals mg)(a:qL K BX):bL mg:=fun x hx=>PySem.W.mg_none_of X G (a x hx)
theorem J1{env:Env}:∀(ns:List (Str×NameKind))(cs:List (Str×Addr)),(∀x∈ns,x.2= .free->∃c,env.cells.lookup x.1=some c)->(∀x c,cs.lookup x=some c->env.cells.lookup x=some c)->∃cl,(forIn ns cs (fun x r=>if(x.2==NameKind.free)=true then do let a<-cellOf env x.1;pure (ForInStep.yield ((x.1,a)::r))else pure (ForInStep.yield r)):Sem (List (Str×Addr)))=pure cl/\(∀x c,cl.lookup x=some c->env.cells.lookup x=some c)/\(∀x c,cs.lookup x=some c->∃c',cl.lookup x=some c')/\∀x∈ns,x.2= .free->∃c,cl.lookup x.1=some c
  |[],cs,_,h2=>⟨cs,rfl,h2,fun x c e=>⟨c,e⟩,fun _ h=>nomatch h⟩ |(n,k)::r,cs,h1,h2=>by
    by_cases hk:k= .free
    · subst hk
      obtain⟨c,hc⟩:=h1 (n,.free) (.head _) rfl;have e1:cellOf env n=pure c:=by unfold cellOf;rw[show env.cells.lookup n=some c from hc]
      obtain⟨cl,a1,a2,a3,a4⟩:=J1 r ((n,c)::cs) (fun x hx=>h1 x (.tail _ hx)) (fun x d e=>by rw[iS]at e;cases z:x==n with |true=>rw[z]at e;cases e;rw[fM.mp z];exact hc |false=>rw[z]at e;exact h2 x d e);refine⟨cl,?_,a2,fun x d e=>?_,fun x hx hf=>?_⟩
      · rw[CH]
        show(do let r'<-(if(NameKind.free==NameKind.free)=true then do let a<-cellOf env n;pure (ForInStep.yield ((n,a)::cs))else pure (ForInStep.yield cs));_)=_;rw[aY (by rfl),e1];exact a1
      · by_cases z:x==n
        ·exact a3 x c (by rw[iS,z])
        ·exact a3 x d (by rw[iS,wN.mpr z];exact e)
      · rcases bI.mp hx with rfl|hx
        ·exact a3 n c (by rw[iS,JB])
        ·exact a4 x hx hf
    · obtain⟨cl,a1,a2,a3,a4⟩:=J1 r cs (fun x hx=>h1 x (.tail _ hx)) h2
      refine⟨cl,?_,a2,a3,fun x hx hf=>?_⟩
      · rw[CH]
        show(do let r'<-(if(k==NameKind.free)=true then do let a<-cellOf env n;pure (ForInStep.yield ((n,a)::cs))else pure (ForInStep.yield cs));_)=_;rw[aZ (by simpa using hk)];exact a1
      · rcases bI.mp hx with rfl|hx
        ·exact absurd hf hk
        ·exact a4 x hx hf
theorem RX{env:Env}{scope:Scope}(h1:∀x∈scope.names,x.2= .free->∃c,env.cells.lookup x.1=some c): ∃cl,closureFor scope env=pure cl/\(∀x c,cl.lookup x=some c->env.cells.lookup x=some c)/\∀x∈scope.names,x.2= .free->∃c,cl.lookup x.1=some c:=by
  obtain⟨cl,a1,a2,_,a4⟩:=J1 (env:=env) scope.names [] h1 (fun x c e=>nomatch e);refine⟨cl,?_,a2,a4⟩;unfold closureFor;show(forIn scope.names ([]:List (Str×Addr)) (fun(x:Str×NameKind) r=>match x with|(name,kind)=>if(kind==NameKind.free)=true then do let a<-cellOf env name;pure (ForInStep.yield ((name,a)::r))else pure (ForInStep.yield r))>>=fun r=>(pure r:Sem (List (Str×Addr))))=pure cl;have ef:(fun(x:Str×NameKind)(r:List (Str×Addr))=>match x with|(name,kind)=>(if(kind==NameKind.free)=true then do let a<-cellOf env name;pure (ForInStep.yield ((name,a)::r))else pure (ForInStep.yield r):Sem (ForInStep (List (Str×Addr))))) =fun x r=>if(x.2==NameKind.free)=true then do let a<-cellOf env x.1;pure (ForInStep.yield ((x.1,a)::r))else pure (ForInStep.yield r):=by funext x r;obtain⟨n,k⟩:=x;rfl
  rw[ef,a1];rfl
theorem OQ{env:Env}(hk:env.scope.kind= .function){x:Str}(hx:env.kindOf x=some .cell):∀{names:List (Str×NameKind)},names.lookup x=some .free->(names.map fun(n,k)=>if(k==NameKind.free&&env.scope.kind== .function&&env.kindOf n==some .cell)then(n,NameKind.cell)else(n,k)).lookup x=some .cell |[],h=>nomatch h |(n,k)::r,h=>by have ih:=@OQ env hk x hx r;show List.lookup x ((if(k==NameKind.free&&env.scope.kind== .function&&env.kindOf n==some .cell)=true then(n,NameKind.cell)else(n,k))::_)=_;cases z:x==n with |true=>simp only[iS,z]at h;cases h;have e:=fM.mp z;subst e;rw[aY (by rw[hk,hx];rfl),iS,z] |false=>simp only[iS,z]at h;split<;>(simp only[iS,z];exact ih h)
def fK(X:Cx)(N:List Str)(scope:Scope)(cl:List (Str×Addr))(s:ae)(H:Hp)(fp:List Addr)(au:List (Addr×Obj)):Cx:={prog:=X.prog,w:=X.w,K:=X.K,mg:=X.mg,base:=X.base,A:=X.A,N:=N,s₀:=s,H₀:=H,env:=compEnvC scope cl s.heap.objs.size X.env,outer:=X.stack,stack:=X.stack,ex:=fp,fn:=fun _=>false,calm:=X.calm,pn:=X.pn++au,xe:=fun _ _=>False}
def stC(js:List (Option Nat))(Z:St):St:=js.map fun|none=>none|some j=>(Z[j]?).join
def BU(X:Cx)(N:List Str)(js:List (Option Nat))(scope:Scope):Bool:=N.length==js.length&&(N.zip js).all fun p=>match p.2 with|none=>true|some j=>X.N[j]? ==some p.1&&scope.names.lookup p.1==some NameKind.free&&X.env.kindOf p.1==some NameKind.cell
def wk(X:Cx)(scope:Scope):Bool:=scope.kind== .function&&X.env.scope.kind== .function&&scope.names.all fun x=>match x.2 with | .free=>X.env.kindOf x.1==some NameKind.cell | .cell=>false | .local=>scope.names.lookup x.1==some NameKind.local |_=>true
section
variable {X:Cx}{au:List (Addr×Obj)}{Z:St}{H:Hp}{s:ae}
theorem lookup_mem{α β:Type}[BEq α][LawfulBEq α]:∀{l:List (α×β)}{x:α}{b:β},l.lookup x=some b->(x,b)∈l |[],_,_,h=>nomatch h |(n,k)::r,x,b,h=>by rw[iS]at h;cases z:x==n with |true=>rw[z]at h;cases h;rw[fM.mp z];exact .head _ |false=>rw[z]at h;exact .tail _ (lookup_mem h)
theorem Np{env:Env}{x:Str}{k:NameKind}:∀{names:List (Str×NameKind)},(names.map fun(n,k)=>if(k==NameKind.free&&env.scope.kind== .function&&env.kindOf n==some .cell)then(n,NameKind.cell)else(n,k)).lookup x=some k->names.lookup x=some k\/(k= .cell/\names.lookup x=some .free) |[],h=>nomatch h |(n,k')::r,h=>by have ih:=@Np env x k r;have h':List.lookup x ((if(k'==NameKind.free&&env.scope.kind== .function&&env.kindOf n==some .cell)=true then(n,NameKind.cell)else(n,k'))::(r.map fun(n,k)=>if(k==NameKind.free&&env.scope.kind== .function&&env.kindOf n==some .cell)then(n,NameKind.cell)else(n,k)))=some k:=h;cases z:x==n with
    |true=>
      split at h'
      · rename_i hc
        simp only[iS,z]at h';cases h';rw[eV,eV]at hc;have e:k'= .free:=fM.mp hc.1.1;subst e;exact .inr ⟨rfl,by rw[iS,z]⟩
      · simp only[iS,z]at h'
        cases h';exact .inl (by rw[iS,z]) |false=>
      rw[iS,z];refine ih ?_;split at h'
      ·simpa only[iS,z]using h'
      ·simpa only[iS,z]using h'
theorem Inv.comp{N:List Str}{js:List (Option Nat)}{scope:Scope}{cl:List (Str×Addr)}{fp:List Addr}{h':Heap}{tk:Nat}(I:Inv X au Z H s)(hN:BU X N js scope=true)(hS:wk X scope=true) (c1:∀x c,cl.lookup x=some c->X.env.cells.lookup x=some c)(c2:∀x∈scope.names,x.2= .free->∃c,cl.lookup x.1=some c)(hf:∀b∈fp,kY X au H b)(hfl:∀b∈fp,b<s.heap.objs.size) (hn:h'.Ns s.heap.objs.size fun _=>none)(hk:∀b o,s.heap.get? b=some o->h'.get? b=some o):Inv (fK X N scope cl s H fp au) [] (stC js Z) H {s with heap:=h',toks:=tk}:=by
  unfold wk at hS;rw[eV,eV]at hS;obtain⟨⟨s1,s2⟩,s3⟩:=hS;have oM:scope.kind= .function:=fM.mp s1;have a57:X.env.scope.kind= .function:=fM.mp s2;unfold BU at hN;rw[eV]at hN;obtain⟨n1,n2⟩:=hN;have hlen:N.length=js.length:=fM.mp n1;have Pq:∀x k,(relabel scope X.env).names.lookup x=some k->scope.names.lookup x=some k\/(k= .cell/\scope.names.lookup x=some .free):=fun x k e=>Np e;have a2l:∀x,scope.names.lookup x≠some .cell:=fun x e=>by have:=iE.mp s3 _ (lookup_mem e);exact jW this
  have Qy:∀b∈(fK X N scope cl s H fp au).fs,b∈X.env.locals::X.fs:=I.xg;have ok:(fK X N scope cl s H fp au).Ok:={
    mod:=I.ok.mod
    kind:=oM
    glob:=I.ok.glob
    blt:=I.ok.blt
    above:=bF _
    inj:=fun x y c e1 e2=>I.ok.inj x y c (c1 x c e1) (c1 y c e2)
    has:=fun x hx=>by
     have fr:scope.names.lookup x=some .free->∃c,cl.lookup x=some c:=fun e=>c2 (x,.free) (lookup_mem e) rfl;rcases hx with e|e
     · rcases Pq x _ e with e|⟨_,e⟩
       ·exact absurd e (a2l x)
       ·exact fr e
     · rcases Pq x _ e with e|⟨z,_⟩
       ·exact fr e
       ·cases z
    qH:=fun x c e=>nomatch e
    hd:=I.ok.hd
    frames:=I.ok.frames
    uE:=.inl rfl
    BG:=fun b hb=>⟨fm (hfl b hb),fun x c e=>(hf b hb).2.2.2.2.1 x c (c1 x c e)⟩
    bs:=I.bs
    lN:=ib I.ok.lN I.sz
    sF:=fun b o e hb=>by
     rcases(hf b hb).2.2.2.1 with z|z
     ·exact I.ok.sF b o e z
     ·exact absurd (fU (cw e) (ib I.ok.lN z)) (pE _)
    qB:=fun b hb z=>by
     obtain⟨_,q1,q2,_⟩:=hf b hb;rcases bI.mp (Qy b z)with e|e
     ·exact q1 e
     ·exact q2 e
    jo:=I.stack
    mU:=I.zT};refine⟨ok,rfl,I.bare,Un.kept hk,⟨_,hn,fun i x v e1 e2 e3=>?_⟩,fun x c e=>?_,I.aV.fresh (bF _),fun x c e=>I.jL x c (c1 x c e),fun p hp=>?_,I.aV.kept hk,?_⟩
  · have wc:(js.map fun|none=>none|some j=>(Z[j]?).join)[i]? =some (some v):=e2
    rw[cu]at wc;cases hj:js[i]? with |none=>rw[hj]at wc;cases wc |some o=>rw[hj]at wc;cases o with |none=>cases wc |some j=>
        have hz:(N.zip js)[i]? =some (x,some j):=by rw[wL];exact⟨e1,hj⟩
        have S5:=iE.mp n2 _ (gy hz);simp only[eV,fM]at S5;obtain⟨⟨h1,h2⟩,h3⟩:=S5;have BN:(Z[j]?).join=some v:=by simpa using wc
        have hσ:Z[j]? =some (some v):=by cases q:Z[j]? with |none=>rw[q]at BN;cases BN |some o=>
           rw[q]at BN;have:o=some v:=by simpa using BN
           rw[this]
        obtain⟨m,hm,hl⟩:=I.loc;obtain⟨u,r,l⟩:=hl j x v h1 hσ (.inr (.inl h3));refine⟨u,r,?_⟩;rcases l with⟨k,_⟩|⟨_,c,hc,lZ⟩
        ·rw[h3]at k;cases k
        · obtain⟨c',iy⟩:=c2 (x,.free) (lookup_mem h2) rfl
          have:=c1 x c' iy;rw[hc]at this;cases this;refine .inr ⟨.inl (OQ a57 h3 h2),c,iy,?_⟩;obtain⟨ob,ho,hd⟩:=lZ;exact⟨ob,hk _ _ ho,hd⟩
  · obtain⟨v,ob,ho,hd⟩:=I.cell x c (c1 x c e)
    exact⟨v,ob,hk _ _ ho,hd⟩
  · have vG:p∈X.pn++au:=by simpa[fK]using hp
    obtain⟨a1,a2,a3,a4,a5⟩:=I.pin p vG;refine⟨hk _ _ a1,a2,fm (cw a1),fun z=>?_,a5⟩;rcases bI.mp (Qy p.1 z)with e|e
    ·exact a3 e
    ·exact a4 e
  · show(js.map _).length=N.length
    rw[cj,hlen]
end
theorem RS{prog:ah}{w:World}{A:aj}{R:Result->ae->Prop}{s:ae}{elt target iter:Expr}{ifs:List Expr}{scope:Scope}{pos:Pos}{it acc:Value}{env:Env}(I:Nat->ae->Prop) (turn:∀n s,I n s->wpAny (model prog w) A (pyNext it) (fun r s₁=>match r with |none=>R (.ok .next) s₁ |some v=>wpAny (model prog w) A (letOwnedTupleGo target it v) (fun _ s₁=>wpAny (model prog w) A (assign target env v) (fun _ s₂=>wpAny (model prog w) A (forIn ifs true fun c r=>if r=true then do let ok<-isTrue c env (eval c env);pure (ForInStep.yield ok)else pure (ForInStep.yield r)) (fun ok s₃=>if ok=true then wpAny (model prog w) A (eval elt env) (fun x s₄=>wpAny (model prog w) A (call (.builtin "list.append") [acc,x]) (fun _ s₅=>∃m,m<n/\I m s₅) (fun _ _=>False) s₄) (fun _ _=>False) s₃ else∃m,m<n/\I m s₃) (fun _ _=>False) s₂) (fun _ _=>False) s₁) (fun _ _=>False) s₁) (fun _ _=>False) s) (n:Nat)(h:I n s):codeAny (model prog w) A (.compLoop (.ListComp elt [⟨target,iter,ifs,0⟩] scope pos) 0 it acc env) R s:=by refine codeAny_loop rfl I (fun n s hI=>?_) n h;show wpAny _ A ((compTurn (.ListComp elt [⟨target,iter,ifs,0⟩] scope pos) 0 it acc env).onRaise (fun x=>do noteFrame x env;theTreesLotGoes x)) _ _ s;refine wpAny_noted ?_;rw[compTurn_list];refine aO (wpAny_standAt (aO (jw (turn n s hI) (fun r s₁ h₁=>?_) fun _ _ h'=>h'.elim)));cases r with |none=>exact cg h₁ |some v=>refine aO (jw h₁ (fun _ aaW h₁=>?_) fun _ _ h'=>h'.elim);refine aO (jw h₁ (fun _ s₂ h₂=>aO (jw h₂ (fun ok s₃ h₃=>?_) fun _ _ h'=>h'.elim)) fun _ _ h'=>h'.elim);cases ok with |false=>exact cg ⟨rfl,h₃⟩ |true=>exact aO (aO (jw h₃ (fun x s₄ h₄=>aO (jw h₄ (fun _ s₅ h₅=>cg (cg ⟨rfl,h₅⟩)) fun _ _ h'=>h'.elim)) fun _ _ h'=>h'.elim))
def Jo(X:Cx)(ifs:List Expr)(t:TT):Prop:=∀(au:List (Addr×Obj))(s:ae)(Z:St)(H:Hp)(Q:Bool->Hp->Prop),Inv X au Z H s->t Z H Q->wpAny (model X.prog X.w) X.A (forIn ifs true fun c r=>if r=true then do let ok<-isTrue c X.env (eval c X.env);pure (ForInStep.yield ok)else pure (ForInStep.yield r)) (TP X au Z Q) X.xe s
def gO:TT:=fun _ H Q=>Q true H
theorem fw{X:Cx}:Jo X [] gO:=fun _ _ _ H _ I h=>wpAny_tests_nil ⟨H,I,h⟩
def iD(J:It)(g:TG)(tt:TT)(te:TE)(Q:VK)(D:Addr)(Z:St)(H:Hp):Prop:=∃W:Nat->Nat->St->Hp->Prop,(∃m,W 0 m Z H)/\∀i m σ' H',W i m σ' H'->(J.stop i H'/\Q (.ref D) H')\/(J.go i H'/\∀x H2,J.jA i H' x H2->g x σ' H2 fun σ3 H3=>tt σ3 H3 fun ok H4=>if ok=true then te σ3 H4 fun y H5=>∃ys,H5 D=some (.lst ys)/\ys.length<sizeLine/\∃m',m'<m/\W (i+1) m' σ3 (upd H5 D (.lst (ys++[y]))) else∃m',m'<m/\W (i+1) m' σ3 H4)
def Kw(js:List (Option Nat))(wi:TI)(g:TG)(tt:TT)(te:TE):TE:=fun Z H Q=>wi Z H fun J H1=>∀D H2,Nw H1 H2 D (.lst [])->iD J g tt te Q D (stC js Z) H2
theorem dB.but{P:ah}{w:World}{H:Hp}{h h':Heap}{C:Addr}(ok:dB P w H h)(hn:H C=none)(hs:Heap.SameBut C h h'):dB P w H h':=fun b ob e=>by
 refine(ok b ob e).lQ (fun c w' hc q=>(hs.2 c ?_).trans q) (fun _ q=>q) fun _ _ q=>q;rintro rfl;rcases hc with rfl|hc
 ·rw[hn]at e;cases e
 ·rw[hn]at hc;cases hc
set_option maxHeartbeats 1000000 in
theorem fW{X:Cx}{N:List Str}{js:List (Option Nat)}{elt tg iter:Expr}{ifs:List Expr}{scope:Scope}{pos:Pos}{wi:TI}{g:TG}{tt:TT}{te:TE}(hc:X.calm=true)(hN:BU X N js scope=true)(hS:wk X scope=true) (hi:PI X tg iter wi)(hg:∀cl s H fp au,PG (fK X N scope cl s H fp au) tg g)(ht:∀cl s H fp au,Jo (fK X N scope cl s H fp au) ifs tt)(he:∀cl s H fp au,PE (fK X N scope cl s H fp au) elt te) (hs:∀x,foldedSetIterable iter X.env x=pure x:=by intro _;rfl):PE X (.ListComp elt [⟨tg,iter,ifs,0⟩] scope pos) (Kw js wi g tt te):=by
  intro au s Z H Q I h;have tJ:=hS;unfold wk at tJ;rw[eV,eV]at tJ;obtain⟨⟨k1,k2⟩,k3⟩:=tJ;have oM:scope.kind= .function:=fM.mp k1;have vM:∀x∈scope.names,x.2= .free->∃c,X.env.cells.lookup x.1=some c:=fun x hx e=>by have:=iE.mp k3 x hx;rw[e]at this;exact I.ok.has x.1 (.inl (fM.mp this))
  have lZ:∀x∈scope.names,x.2≠ .cell:=fun x hx e=>by have:=iE.mp k3 x hx;rw[e]at this;exact jW this
  have Hk:∀x∈scope.names,x.2= .local->scope.names.lookup x.1=some .local:=fun x hx e=>by have:=iE.mp k3 x hx;rw[e]at this;exact fM.mp this
  obtain⟨cl,Hv,c1,c2⟩:=RX vM;rw[eval_ListComp];refine wpAny_comprehension_free (use:=none) rfl hs Hv oM Hk (aW (hi au s Z H _ I h) fun v s1 h1=>aW h1 fun AW s2 h2=>?_);obtain⟨it,fp,tn,J,H2,e,I2,T,rE,f2,h2⟩:=h2;subst e;have hD:H2 s2.heap.objs.size=none:=I2.aV.fresh (bF _);obtain⟨W,⟨m0,w0⟩,turn⟩:=h2 _ _ (Nw.of hD);refine pk (Vu lZ (by intro y hy;simp at hy) (fun h₁ yn yj=>?_) oM);have tO:∀b∈fp,b<s2.heap.objs.size:=fun b hb=>by obtain⟨o,e,_⟩:=T.obj _ _ rE b hb;exact cw e
  have I3:Inv X au Z (upd H2 s2.heap.objs.size (.lst [])) {s2 with heap:=s2.heap.push {cls:=.type "list",dict:=none,data:=.seq ([]:List Value).toArray}}:=I2.OV (its:=[]) (t':=s2.toks) .nil (fT _);generalize yz:s2.heap.push {cls:=.type "list",dict:=none,data:=.seq ([]:List Value).toArray}=h3 at I3 yn yj;have xc:h3.objs.size=s2.heap.objs.size+1:=by rw[<-yz,qZ]
  have GL:∀b o,s2.heap.get? b=some o->h3.get? b=some o:=fun b o e=>by rw[<-yz];exact cn _ e
  have f3:∀b∈fp,kY X au (upd H2 s2.heap.objs.size (.lst [])) b:=fun b hb=>⟨by rw[aK (fm (tO b hb))];exact(f2 b hb).1,(f2 b hb).2⟩;have ye:∀b o,h3.get? b=some o->h₁.get? b=some o:=fun b o e=>(yj.2 b (fm (cw e))).trans (cn _ e);have I4:Inv (fK X N scope cl {s2 with heap:=h3} (upd H2 s2.heap.objs.size (.lst [])) fp au) [] (stC js Z) (upd H2 s2.heap.objs.size (.lst [])) {s2 with heap:=h₁,toks:=s2.toks+([]:List (Str×Value)).length}:=I3.comp (s:={s2 with heap:=h3}) hN hS c1 c2 f3 (fun b hb=>by show b<h3.objs.size;rw[xc];exact JK (tO b hb)) (by simpa using yn) ye;have xh:tn 0 h₁:=T.keep _ _ _ rE fun b _ o e=>ye b o (GL b o e);have loop:codeAny (model X.prog X.w) X.A (.compLoop (.ListComp elt [⟨tg,iter,ifs,0⟩] scope pos) 0 (.ref it) (.ref s2.heap.objs.size) (compEnvC scope cl h3.objs.size X.env)) (compPost (model X.prog X.w) X.A X.xe none (EP X au Z Q) (.ref s2.heap.objs.size) h3.objs.size) {s2 with heap:=h₁,toks:=s2.toks+([]:List (Str×Value)).length}:=by
    refine RS (fun n s'=>∃i σ' H',Inv (fK X N scope cl {s2 with heap:=h3} (upd H2 s2.heap.objs.size (.lst [])) fp au) [] σ' H' s'/\tn i s'.heap/\(∀b∈fp,H' b=none)/\W i n σ' H') ?_ m0 ⟨0,_,_,I4,xh,fun b hb=>(f3 b hb).1,w0⟩;rintro n s5 ⟨i,σ5,H5,I5,o9,tN,w5⟩;have lR:∀{H':Hp},(∀b∈fp,H' b=none)->∀b∈fp,kY (fK X N scope cl {s2 with heap:=h3} (upd H2 s2.heap.objs.size (.lst [])) fp au) [] H' b:=fun{H'} hn b hb=>by
     obtain⟨_,q1,q2,q3,q4,q5⟩:=f3 b hb;refine⟨hn b hb,fun z=>?_,I4.ok.qB b hb,.inl hb,fun x c e=>q4 x c (c1 x c e),fun p hp=>q5 p (by simpa[fK]using hp)⟩;have cy:b<h3.objs.size:=by rw[xc];exact JK (tO b hb)
     exact fm cy z
    rcases turn i n σ5 H5 w5 with⟨stop,qn⟩|⟨go,step⟩
    · refine aW (T.done (fK X N scope cl {s2 with heap:=h3} (upd H2 s2.heap.objs.size (.lst [])) fp au) rfl rfl rfl hc i [] s5 σ5 H5 _ I5 (lR tN) o9 stop) fun r s6 ⟨hr,I6⟩=>?_
      subst hr;obtain⟨m,hm,_⟩:=I6.loc;refine⟨m,hm,fun h7 B6=>?_⟩;have u0:Un (da X.stack) fp (upd H2 s2.heap.objs.size (.lst [])) H5 h3 s6.heap:=I6.base;have ne:∀b o,h3.get? b=some o->b≠h3.objs.size:=fun b o e=>fm (cw e);have u:Un (da X.stack) fp (upd H2 s2.heap.objs.size (.lst [])) H5 h3 h7:=⟨fun b o e n hb hx=>(B6.2 b (ne b o e)).trans (u0.keep b o e n hb hx),fun b o e n hb hx=>let⟨sl,q⟩:=u0.slot b o e n hb hx;⟨sl,(B6.2 b (ne b o e)).trans q⟩,u0.free,fun b o e hx=>let⟨o',q⟩:=u0.there b o e hx;⟨o',(B6.2 b (ne b o e)).trans q⟩,u0.jX,u0.jK,u0.jC⟩;have I7:Inv X au Z H5 {s6 with heap:=h7}:=I3.BV (s':={s6 with heap:=h7}) (ch:=fp) I6.os u (I6.aV.but I6.free B6) I6.bare fun b hb=>⟨(f3 b hb).2.2.2.1,(f3 b hb).2.1,(f3 b hb).2.2.2.2.1,(f3 b hb).2.2.2.2.2⟩;exact⟨.ref s2.heap.objs.size,H5,I7,rfl,qn⟩
    · refine aW (T.item (fK X N scope cl {s2 with heap:=h3} (upd H2 s2.heap.objs.size (.lst [])) fp au) rfl rfl rfl hc i [] s5 σ5 H5 _ I5 (lR tN) o9 go) fun r s6 ⟨u,hr,h6⟩=>?_
      subst hr;refine aW h6 fun _ s7 ⟨x,H7,I7,r7,y7,o8,Ic⟩=>?_;have Jw:=I7.pinned (lR Ic) (T.obj _ _ o8);refine aW (hg _ _ _ _ _ _ s7 σ5 H7 x u _ Jw r7 (step x H7 y7)) fun _ s8 ⟨σ8,H8,I8,q8⟩=>?_;refine aW (ht _ _ _ _ _ _ s8 σ8 H8 _ I8 q8) fun ok s9 ⟨H9,I9,q9⟩=>?_;have again:∀{s':ae}{σ7:St}{H7:Hp},Inv (fK X N scope cl {s2 with heap:=h3} (upd H2 s2.heap.objs.size (.lst [])) fp au) ([]++uU fp s7.heap) σ7 H7 s'->(∃m',m'<n/\W (i+1) m' σ7 H7)->∃m,m<n/\∃i σ' H',Inv (fK X N scope cl {s2 with heap:=h3} (upd H2 s2.heap.objs.size (.lst [])) fp au) [] σ' H' s'/\tn i s'.heap/\(∀b∈fp,H' b=none)/\W i m σ' H':=fun{s' σ7 H7} J7 n7=>by obtain⟨m',hm,w7⟩:=n7;refine⟨m',hm,i+1,σ7,H7,J7.wU,T.keep _ _ _ o8 fun b hb o e=>(J7.pin (b,o) (kZ _ (kZ _ (vp hb e)))).1,fun b hb=>?_,w7⟩;obtain⟨o,e,d⟩:=T.obj _ _ o8 b hb;exact(J7.pin (b,o) (kZ _ (kZ _ (vp hb e)))).2.1
      cases ok with |false=>rw[aZ jW]at q9⊢;exact again I9 q9 |true=>rw[aY rfl]at q9⊢;refine aW (he _ _ _ _ _ _ s9 σ8 H9 _ I9 q9) fun yv mF ⟨y,jt,wB,FQ,ys,oH,hz,kx⟩=>?_;refine aW (Gr _ mF σ8 jt (.ref s2.heap.objs.size) [y] (.ref s2.heap.objs.size) [yv] (fun _ iC=>∃m',m'<n/\W (i+1) m' σ8 iC) wB rfl (.cons FQ .nil) ⟨_,ys,y,rfl,rfl,oH,hz,kx⟩) fun _ Aa ⟨v11,iC,Jx,Zt,xD⟩=>?_;exact again Jx xD
  exact codeAny_compStart_list loop (T.self _ 0 _ _ _ xh loop)
theorem J3:∀{bs:List Bool}{us:List Value},Vals (bs.map V.bl) us->us=bs.map Value.bool |[],_,.nil=>rfl |b::r,_,.cons q t=>by cases(show _=Value.bool b from q);rw[J3 t];rfl
section
variable {X:Cx}
theorem a9F(hc:X.calm=true):fh X (.builtin "all") (fun xs H Q=>∃(l:Addr)(bs:List Bool),xs=[.ref l]/\aE X.K H l (bs.map V.bl)/\Q (.bl (bs.all id)) H):=by
 intro au s Z H xs us Q I r h;obtain⟨l,bs,rfl,hl,q⟩:=h;obtain⟨u,rfl,ru⟩:=vals1 r;cases(show u=Value.ref l from ru);obtain⟨its,rv,pl,hz⟩:=I.list hl;have e:=J3 rv;subst e;have dM:=pl.isList;have cy:l<s.heap.objs.size:=by obtain⟨_,e,_⟩:=dM;exact cw e
 have hh:=I.ok.hd hc;refine call_all_walk (Co dM ?_);refine⟨s.heap.objs.size,[s.heap.objs.size,l],[s.heap.objs.size],(bs.map Value.bool).toArray.size,_,_,fun i=>(bs[i]?).getD true,rfl,Walks.list (A:=X.A.in1) hh _ l (fm cy) (bs.map Value.bool).toArray,⟨⟨_,eh _ rfl,rfl,rfl⟩,dM.push _⟩,fun i v s' Q' E' hP hQ=>?_,fun h' tk hk=>?_⟩
 · have m5:(bs.map Value.bool)[i]? =some v:=by simpa using hP
   rw[cu]at m5;cases e:bs[i]? with |none=>rw[e]at m5;cases m5 |some b=>rw[e]at m5;cases m5;simp only[e,Option.getD_some]at hQ;exact pj hQ
 · have e:((List.range (bs.map Value.bool).toArray.size).all fun i=>(bs[i]?).getD true)=bs.all id:=by rw[dX,cj];exact LSm.range_all bs
   rw[e];exact⟨.bl _,H,I.kept (LSm.kept_iter hk),rfl,q⟩
theorem a9E(hc:X.calm=true):fh X (.builtin "any") (fun xs H Q=>∃(l:Addr)(bs:List Bool),xs=[.ref l]/\aE X.K H l (bs.map V.bl)/\Q (.bl (bs.any id)) H):=by
 intro au s Z H xs us Q I r h;obtain⟨l,bs,rfl,hl,q⟩:=h;obtain⟨u,rfl,ru⟩:=vals1 r;cases(show u=Value.ref l from ru);obtain⟨its,rv,pl,hz⟩:=I.list hl;have e:=J3 rv;subst e;have dM:=pl.isList;have cy:l<s.heap.objs.size:=by obtain⟨_,e,_⟩:=dM;exact cw e
 have hh:=I.ok.hd hc;refine call_any_walk (Co dM ?_);refine⟨s.heap.objs.size,[s.heap.objs.size,l],[s.heap.objs.size],(bs.map Value.bool).toArray.size,_,_,fun i=>(bs[i]?).getD false,rfl,Walks.list (A:=X.A.in1) hh _ l (fm cy) (bs.map Value.bool).toArray,⟨⟨_,eh _ rfl,rfl,rfl⟩,dM.push _⟩,fun i v s' Q' E' hP hQ=>?_,fun h' tk hk=>?_⟩
 · have m5:(bs.map Value.bool)[i]? =some v:=by simpa using hP
   rw[cu]at m5;cases e:bs[i]? with |none=>rw[e]at m5;cases m5 |some b=>rw[e]at m5;cases m5;simp only[e,Option.getD_some]at hQ;exact pj hQ
 · have e:((List.range (bs.map Value.bool).toArray.size).any fun i=>(bs[i]?).getD false)=bs.any id:=by rw[dX,cj];exact LSm.range_any bs
   rw[e];exact⟨.bl _,H,I.kept (LSm.kept_iter hk),rfl,q⟩
end
theorem qF{J:It}{g:TG}{tt:TT}{te:TE}{Q:VK}{D:Addr}{Z:St}{H:Hp}(n:Nat)(Pv:Nat->St->Hp->Prop)(h0:Pv 0 Z H) (hs:∀i Z H,i<n->Pv i Z H->J.go i H/\∀x H2,J.jA i H x H2->g x Z H2 fun σ3 H3=>tt σ3 H3 fun ok H4=>if ok=true then te σ3 H4 fun y H5=>∃ys,H5 D=some (.lst ys)/\ys.length<sizeLine/\∃m',m'<n-i/\m'=n-(i+1)/\i+1<=n/\Pv (i+1) σ3 (upd H5 D (.lst (ys++[y]))) else∃m',m'<n-i/\m'=n-(i+1)/\i+1<=n/\Pv (i+1) σ3 H4) (hd:∀Z H,Pv n Z H->J.stop n H/\Q (.ref D) H): iD J g tt te Q D Z H:=by
  refine⟨fun i m Z H=>m=n-i/\i<=n/\Pv i Z H,⟨n,by simp,fT _,h0⟩,?_⟩;rintro i m Z H ⟨rfl,hi,p⟩;by_cases cy:i<n
  ·exact .inr (hs i Z H cy p)
  · have e:i=n:=by lia
    subst e;exact .inl (hd Z H p)
section
variable {X:Cx} {tg:Expr}
theorem ixK(K:aa)(h:X.K=K):ph X (fun x y H Q=>FK K x y H Q\/FJ K x y H Q):=by subst h;exact a3T.or a3R
inductive UL(K:aa)(x:V)(lo:Option Int)(hi:Option Int)(H:Hp)(Q:VK):Prop |mk (a:_)(xs:_)(h0:x= .ref a)(h1:((aE K H a xs/\∀p H',Nw H H' p (.lst (me xs lo hi))->Q (.ref p) H')\/ (aP K H a xs/\¬(HT.ck xs.length 0 lo=0/\HT.ck xs.length xs.length hi=xs.length)/\∀p H',Nw H H' p (.tup (me xs lo hi))->Q (.ref p) H'))):UL K x lo hi H Q
def Zi(K:aa):V->Option Int->Option Int->Hp->VK->Prop:=fun x lo hi H Q=>UL K x lo hi H Q
theorem DB(K:aa)(h:X.K=K):C9 X (Zi K):=by
 subst h;intro au s Z H x v vl vu lo hi sl Q I rx hs pl pu hq;obtain⟨a,xs,e,hq⟩:=hq;rcases hq with⟨h1,k⟩|⟨h1,h2,k⟩
 ·exact XJ au s Z H x v vl vu lo hi sl Q I rx hs pl pu ⟨a,xs,e,h1,fun p hp=>k p _ (.of hp)⟩
 ·exact XI au s Z H x v vl vu lo hi sl Q I rx hs pl pu ⟨a,xs,e,h1,h2,fun p hp=>k p _ (.of hp)⟩
theorem a3t(K:aa)(h:X.K=K):fh X (.builtin "len") (fun xs H Q=>∃p ys,xs=[.ref p]/\(aE K H p ys\/aP K H p ys)/\Q (.int ys.length) H):=by subst h;exact a9B
theorem a40(K:aa)(h:X.K=K):fh X (.builtin "isinstance") (fun xs H Q=>FO K xs H Q\/FL K xs H Q):=by subst h;exact a9D.or a9C
theorem cP(K:aa)(h:X.K=K)(hu:X.A.units+64<cLine):dc X (compareOp .Eq) (fun x y H Q=>jZ (fun i j=>.bl (decide (i=j))) x y H Q\/FP K x y H Q):=by subst h;exact a0w hu
theorem jh(K:aa)(h:X.K=K)(hu:X.A.units+64<cLine):dc X (compareOp .NotEq) (fun x y H Q=>jZ (fun i j=>.bl (!decide (i=j))) x y H Q\/FI K x y H Q):=by subst h;exact a0q hu
theorem p8(K:aa)(h:X.K=K)(hc:X.calm=true):fh X (.builtin "all") (fun xs H Q=>∃(l:Addr)(bs:List Bool),xs=[.ref l]/\aE K H l (bs.map V.bl)/\Q (.bl (bs.all id)) H):=by subst h;exact a9F hc
theorem Sx(K:aa)(h:X.K=K)(hc:X.calm=true):fh X (.builtin "any") (fun xs H Q=>∃(l:Addr)(bs:List Bool),xs=[.ref l]/\aE K H l (bs.map V.bl)/\Q (.bl (bs.any id)) H):=by subst h;exact a9E hc
theorem GC(K:aa)(h:X.K=K):fh X (.type "list") (fun xs H Q=>∃p ys,xs=[.ref p]/\(aE K H p ys\/aP K H p ys)/\∀l H',Nw H H' l (.lst ys)->Q (.ref l) H'):=by subst h;intro au s Z H xs us Q I r hq;obtain⟨p,ys,e,h1,k⟩:=hq;exact a9z au s Z H xs us Q I r ⟨p,ys,e,h1,fun l hl=>k l _ (.of hl)⟩
theorem ky(K:aa)(h:X.K=K):fh X (.type "tuple") (fun xs H Q=>∃p ys,xs=[.ref p]/\((aE K H p ys/\∀l H',Nw H H' l (.tup ys)->Q (.ref l) H')\/(aP K H p ys/\Q (.ref p) H))):=by subst h;intro au s Z H xs us Q I r hq;obtain⟨p,ys,e,h1⟩:=hq;exact a9u au s Z H xs us Q I r ⟨p,ys,e,h1.imp (fun⟨a,k⟩=>⟨a,fun l hl=>k l _ (.of hl)⟩) id⟩
def WQ(t:TA):TE:=fun Z H Q=>t Z H fun xs H1=>xs.length<=sizeLine/\∀p H',Nw H1 H' p (.tup xs)->Q (.ref p) H'
def X5(t:TA):TE:=fun Z H Q=>t Z H fun xs H1=>xs.length<=sizeLine/\∀p H',Nw H1 H' p (.lst xs)->Q (.ref p) H'
theorem dP{es:List Expr}{t:TA}{pos:Pos} {x1}(h:PA X es t):PE X (.Tuple es x1 pos) (WQ t):=by intro au s Z H Q I hq;refine wpAny_Tuple_spliced (aW (h pos au s Z H _ I hq) fun us s1 ⟨xs,H1,I1,r,z,q⟩=>⟨by rw[<-r.length];exact z,?_⟩);have hf:H1 s1.heap.objs.size=none:=I1.aV.fresh (bF _);refine⟨.ref s1.heap.objs.size,upd H1 s1.heap.objs.size (.tup xs),I1.laid (t':=s1.toks) (fun b u e=>cn _ e) (bF _) ?_,rfl,q _ _ (.of hf)⟩;exact⟨z,us,r,⟨_,eh _ rfl,rfl,_,rfl⟩⟩
theorem df{es:List Expr}{t:TA}{pos:Pos}(h:PA X es t):PE X (.List es pos) (X5 t):=by intro au s Z H Q I hq;refine wpAny_List_spliced (aW (h pos au s Z H _ I hq) fun us s1 ⟨xs,H1,I1,r,z,q⟩=>⟨by rw[<-r.length];exact z,?_⟩);have hf:H1 s1.heap.objs.size=none:=I1.aV.fresh (bF _);refine⟨.ref s1.heap.objs.size,upd H1 s1.heap.objs.size (.lst xs),I1.laid (t':=s1.toks) (fun b u e=>cn _ e) (bF _) ?_,rfl,q _ _ (.of hf)⟩;exact⟨z,us,0,r,eh _ rfl⟩
theorem xF(K:aa)(h:X.K=K){l:Expr}{tl:TE}(hl:PE X l tl):PI X tg l (Pu K tl):=by subst h;exact ZT hl
theorem pT(K:aa)(h:X.K=K){l:Expr}{tl:TE}(hl:PE X l tl):PI X tg l (Pt K tl):=by subst h;exact ZP hl
theorem dJ(K:aa)(h:X.K=K){es:List Expr}{k:Nat}{t:nA}{n:Nat}{pos:Pos}(hc:X.calm=true)(hg:yY X es t)(hn:(assignEach es X.env).length=n:=by rfl)(gG:(assignEach es X.env).findIdx? (·.1)=none:=by rfl): PG X (.Tuple es k pos) (oU K n t):=by subst h;exact ZV hc hg hn gG
theorem je(K:aa)(h:X.K=K){o e:Expr}{to:TE}{t:TA}{apos cx:Pos}(ho:PE X o to)(ha:PA X [e] t) (j8:attributeBase o "append" X.env (eval o X.env)=eval o X.env:=by rfl) (kN:((backTo cx (starEach [e] X.env)).all (fun x=>!x.1)&&(backToKw cx (keywordEach [] X.env)).all (fun x=>x.1.isSome) &&decide ([e].length+([]:List Keyword).length+(if([]:List Keyword).isEmpty then 0 else 1)<30))=true:=by rfl) (j6:(apos.endLine==cx.line)=true:=by rfl)(hs:starEach [e] X.env=(false,eval e X.env)::starEach [] X.env:=by rfl)(kK:(backTo cx (starEach [] X.env)).any (·.1)=false:=by rfl): PE X (.Call (.Attribute o "append" apos) [e] [] cx) (rC K "list" NG to t):=by subst h;exact uV zo PySem.F.slot_list_append PySem.F.type_list_append Gr ho ha j8 kN j6 hs kK
theorem zD{j:Nat}{x:V}{Z:St}{H:Hp}{A B:St->Hp->Prop}(h:A (Z.set j (some x)) H):eK j x Z H fun σ3 H3=>gO σ3 H3 fun ok H4=>if ok=true then A σ3 H4 else B σ3 H4:=by show if true=true then A (Z.set j (some x)) H else B (Z.set j (some x)) H;rw[aY rfl];exact h
theorem yes{Z:St}{H:Hp}{Q:Bool->Hp->Prop}(h:Q true H):gO Z H Q:=h
end
theorem aE.go{K:aa}{H H':Hp}{a:Addr}{xs:List V}(s:aB H H')(h:aE K H a xs):aE K H' a xs:=h.imp (fun r=>r.imp (s _ _) fun⟨o,e⟩=>⟨o,s _ _ e⟩) id
theorem aP.go{K:aa}{H H':Hp}{a:Addr}{xs:List V}(s:aB H H')(h:aP K H a xs):aP K H' a xs:=h.imp (fun r=>r.imp (s _ _) fun⟨o,e⟩=>⟨o,s _ _ e⟩) id
mutual
theorem RD.mono{K:aa}{H H':Hp}(s:aB H H'):∀{x:V}(d:ai),RD K H x d->RD K H' x d |x,.none,h=>by simpa[RD]using h |x,.bool b,h=>by simpa[RD]using h |x,.int i,h=>by simpa[RD]using h |x,.str y,h=>by simpa[RD]using h |x,.list ds,h=>by rw[RD]at h⊢;obtain⟨a,xs,e,h1,h2⟩:=h;exact⟨a,xs,e,h1.go s,aI.mono s ds h2⟩ |x,.tuple ds,h=>by rw[RD]at h⊢;obtain⟨a,xs,e,h1,h2⟩:=h;exact⟨a,xs,e,h1.go s,aI.mono s ds h2⟩ |x,.dict _,h=>by simp[RD]at h
theorem aI.mono {K:aa}{H H':Hp}(s:aB H H'):∀{xs:List V}(ds:List ai),aI K H xs ds->aI K H' xs ds |xs,[],h=>by simpa[aI]using h |xs,d::ds,h=>by rw[aI]at h⊢;obtain⟨y,ys,e,h1,h2⟩:=h;exact⟨y,ys,e,RD.mono s d h1,aI.mono s ds h2⟩
end
section
variable {K:aa} {H H':Hp}
theorem aI.nil_inv{xs:List V}(h:aI K H xs []):xs=[]:=by simpa[aI]using h
theorem aI.cons_inv{xs:List V}{d:ai}{ds:List ai}(h:aI K H xs (d::ds)):∃y ys,xs=y::ys/\RD K H y d/\aI K H ys ds:=by rw[aI]at h;exact h
theorem RD.dZ{x:V}{ds:List ai}(h:RD K H x (.tuple ds)):∃a xs,x= .ref a/\aP K H a xs/\aI K H xs ds:=by rw[RD]at h;exact h
theorem RD.lst_inv{x:V}{ds:List ai}(h:RD K H x (.list ds)):∃a xs,x= .ref a/\aE K H a xs/\aI K H xs ds:=by rw[RD]at h;exact h
theorem RD.int_inv{x:V}{i:Int}(h:RD K H x (.int i)):x= .int i:=by rw[RD]at h;exact h
theorem RD.a9Q{x:V}{i:Bool}(h:RD K H x (.bool i)):x= .bl i:=by rw[RD]at h;exact h
theorem RD.str_inv{x:V}{i:Str}(h:RD K H x (.str i)):x= .str i:=by rw[RD]at h;exact h
theorem RD.Oh{x:V}(h:RD K H x .none):x= .bp:=by rw[RD]at h;exact h
theorem aI.length:∀{xs:List V}{ds:List ai},aI K H xs ds->xs.length=ds.length |xs,[],h=>by rw[h.nil_inv];rfl |xs,d::ds,h=>by obtain⟨y,ys,rfl,_,h2⟩:=h.cons_inv;rw[jU,jU,aI.length h2]
theorem aI.append:∀{xs ys:List V}{ds es:List ai},aI K H xs ds->aI K H ys es->aI K H (xs++ys) (ds++es) |xs,ys,[],es,h,g=>by rw[h.nil_inv];exact g |xs,ys,d::ds,es,h,g=>by obtain⟨y,zs,rfl,h1,h2⟩:=h.cons_inv;exact bQ h1 (aI.append h2 g)
theorem aI.drop:∀(n:Nat){xs:List V}{ds:List ai},aI K H xs ds->aI K H (xs.drop n) (ds.drop n) |0,xs,ds,h=>h |n+1,xs,[],h=>by rw[h.nil_inv];exact cL |n+1,xs,d::ds,h=>by obtain⟨y,zs,rfl,h1,h2⟩:=h.cons_inv;exact aI.drop n h2
theorem aI.get:∀(n:Nat){xs:List V}{ds:List ai}{d:ai},aI K H xs ds->ds[n]? =some d->∃x,xs[n]? =some x/\RD K H x d
  |n,xs,[],d,h,e=>by simp at e |0,xs,d'::ds,d,h,e=>by
    obtain⟨y,zs,rfl,h1,h2⟩:=h.cons_inv;have e':d'=d:=by simpa using e
    subst e';exact⟨y,rfl,h1⟩ |n+1,xs,d'::ds,d,h,e=>by obtain⟨y,zs,rfl,h1,h2⟩:=h.cons_inv;exact aI.get n h2 (by simpa using e)
theorem aI.get'(n:Nat){xs:List V}{ds:List ai}{x:V}(h:aI K H xs ds)(e:xs[n]? =some x):∃d,ds[n]? =some d/\RD K H x d:=by
 have hl:n<ds.length:=by rw[<-h.length];exact(dC.mp e).1
 obtain⟨y,e1,r⟩:=h.get n (bZ hl);rw[e]at e1;cases e1;exact⟨_,bZ hl,r⟩
def mr:ai->String | .none=>"NoneType" | .bool _=>"bool" | .int _=>"int" | .str _=>"str" | .list _=>"list" | .tuple _=>"tuple" | .dict _=>"dict"
theorem RD.ty{x:V}:∀{d:ai},RD K H x d->u7 K H x (mr d) | .none,h=>by rw[h.Oh];rfl | .bool b,h=>by rw[h.a9Q];rfl | .int b,h=>by rw[h.int_inv];rfl | .str b,h=>by rw[h.str_inv];rfl | .list ds,h=>by obtain⟨a,xs,rfl,h1,_⟩:=h.lst_inv;exact .inl ⟨rfl,xs,h1⟩ | .tuple ds,h=>by obtain⟨a,xs,rfl,h1,_⟩:=h.dZ;exact .inr ⟨rfl,xs,h1⟩ | .dict _,h=>by simp[RD]at h
structure dj(n:Nat)(d:ai):Prop where
 lay:d.canLay0=true
 dep:d.depth<=n
def gf(n:Nat)(ds:List ai):Prop:=∀d∈ds,dj n d
theorem dj.le{n m:Nat}{d:ai}(h:dj n d)(l:n<=m):dj m d:=⟨h.lay,ib h.dep l⟩
theorem vb{n:Nat}:∀{ds:List ai},gf n ds↔(PyData.canLayAll0 ds=true/\PyData.depthAll ds<=n)
  |[]=>⟨fun _=>⟨rfl,fT _⟩,fun _ _ h=>nomatch h⟩ |d::ds=>by
    have ih:=vb (n:=n) (ds:=ds);simp only[PyData.canLayAll0,PyData.depthAll,eV];constructor
    · intro h
      have h1:=h d (.head _);have h2:=ih.mp fun x hx=>h x (.tail _ hx);exact⟨⟨h1.lay,h2.1⟩,Nat.max_le.mpr ⟨h1.dep,h2.2⟩⟩
    · rintro⟨⟨a,b⟩,c⟩ x hx
      have c':=Nat.max_le.mp c;rcases bI.mp hx with rfl|hx
      ·exact⟨a,c'.1⟩
      ·exact ih.mpr ⟨b,c'.2⟩ x hx
theorem gf.tup{n:Nat}{ds:List ai}(h:gf n ds):dj (n+1) (.tuple ds):=⟨by simpa[PyData.canLay0]using(vb.mp h).1,by simpa[PyData.depth]using(vb.mp h).2⟩
theorem gf.lst{n:Nat}{ds:List ai}(h:gf n ds):dj (n+1) (.list ds):=⟨by simpa[PyData.canLay0]using(vb.mp h).1,by simpa[PyData.depth]using(vb.mp h).2⟩
theorem dj.dZ{n:Nat}{ds:List ai}(h:dj (n+1) (.tuple ds)):gf n ds:=vb.mpr ⟨by simpa[PyData.canLay0]using h.lay,by simpa[PyData.depth]using h.dep⟩
theorem dj.int{n:Nat}(i:Int):dj n (.int i):=⟨rfl,fT _⟩
theorem gf.nil{n:Nat}:gf n []:=fun _ h=>nomatch h
theorem gf.cons{n:Nat}{d:ai}{ds:List ai}(h:dj n d)(g:gf n ds):gf n (d::ds):=fun x hx=>by
 rcases bI.mp hx with rfl|hx
 ·exact h
 ·exact g x hx
theorem dj.shaped{n:Nat}{d:ai}(h:dj n d)(l:n<=64):SeqAt.shaped d=true:=by unfold SeqAt.shaped;rw[h.lay,jV];exact cB (ib h.dep l)
theorem dj.refl{n:Nat}{d:ai}(h:dj n d):PyData.eqv d d=true:=eqv_refl d h.lay
variable {p:Addr}{n m:Nat}{v:V}{vs:List V}{d:ai}{ds es:List ai}
end
section
variable {X:Cx}
end
end L2
namespace HT
open PySem PySem.Spec PyProof.Rows
section
variable {prog:ah}{w:World}{A:aj}{E:Value->ae->Prop}{s:ae}
end
end HT
namespace L2
open PySem PySem.Spec PyProof.Rows
section
variable {X:Cx}
end
end L2
namespace L2
theorem cW{α:Type}{xs:List α}{i:Int}{v:α}(h0:0<=i)(h:xs[i.toNat]? =some v):fA xs i=some v:=by have hl:i.toNat<xs.length:=(dC.mp h).1;unfold fA jk;rw[aY h0,aY (by lia)];exact h
end L2
namespace L2
open PySem PySem.Spec PyProof.Rows
theorem xn(n:Nat)(h:n<=1000):n<=sizeLine:=ib h (by decide)
section
variable {X:Cx}{p pos pos':Pos}{a b e:Expr}{es:List Expr}{ta tb te:TE}{t:TA}{x:Str}
theorem px(K:aa)(ha:PE X a ta)(hb:PE X b tb)(hK:X.K=K:=by rfl)(hp:SS b:=by exact fun _ _=>rfl):PE X (.Subscript a b pos) (xb (fun x y H Q=>FK K x y H Q\/FJ K x y H Q) ta tb):=NQ (ixK K hK) ha hb hp
theorem dw(K:aa)(B:bL X.mg)(ha:PA X (e::es) t)(hK:X.K=K:=by rfl)(hg:Gl X "isinstance":=by rfl)(he:starEach (e::es) X.env=(false,eval e X.env)::starEach es X.env:=by rfl)(fZ:(backTo pos (starEach es X.env)).any (·.1)=false:=by rfl):PE X (.Call (.Name "isinstance" p) (e::es) [] pos) (zP (fun xs H Q=>FO K xs H Q\/FL K xs H Q) t):=cZ (a40 K hK) hg (B.at "isinstance") uk ha (by decide) (by decide) he fZ
theorem dQ(K:aa)(B:bL X.mg)(ha:PA X (e::es) t)(hK:X.K=K:=by rfl)(hg:Gl X "len":=by rfl)(he:starEach (e::es) X.env=(false,eval e X.env)::starEach es X.env:=by rfl)(fZ:(backTo pos (starEach es X.env)).any (·.1)=false:=by rfl):PE X (.Call (.Name "len" p) (e::es) [] pos) (zP (fun xs H Q=>∃p ys,xs=[.ref p]/\(aE K H p ys\/aP K H p ys)/\Q (.int ys.length) H) t):=cZ (a3t K hK) hg (B.at "len") PySem.boot_len ha (by decide) (by decide) he fZ
theorem pS(i:Nat)(hN:X.N.Nodup)(he:PE X e te)(hi:X.N[i]? =some x:=by rfl)(hx:Loc X.env.scope x:=by first|exact Or.inl rfl|exact Or.inr rfl)(hs:swapsWith e (some (.Name x pos')) pos.line X.env=pure false:=by rfl)(hf:X.fn x=true\/X.env.scope.names.lookup x=some .local:=by first|exact .inl rfl|exact .inr rfl|assumption):PS X (.Assign [.Name x pos'] e pos) (zR te (eK i)):=ZD hN hi hx he hs hf
theorem bf(i:Nat)(hN:X.N.Nodup)(hi:X.N[i]? =some x:=by rfl)(hx:Loc X.env.scope x:=by first|exact Or.inl rfl|exact Or.inr rfl)(hf:X.fn x=true\/X.env.scope.names.lookup x=some .local:=by first|exact .inl rfl|exact .inr rfl|assumption):PG X (.Name x pos) (eK i):=ZW hN hi hx hf
theorem sJ (a:Str):[a].Nodup:=by simp
theorem fJ{a b:Str}(h:(a==b)=false):[a,b].Nodup:=by
 have:a≠b:=fun z=>by rw[z,JB]at h;cases h
 simp[this]
theorem bP{n:Nat}(h:Nat.ble n 1000=true):n<=sizeLine:=xn n (Nat.le_of_ble_eq_true h)
end
def GV(mg:Str->Option Value)(x:Str)(v:V):Prop:=∃u,mg x=some u/\RelV v u
def GT(K:aa)(mg:Str->Option Value)(x:Str)(vs:List V):Prop:=∃a,GV mg x (.ref a)/\∀H,aP K H a vs
theorem ek{X:Cx}{x:Str}{v:V}{pos:Pos}(hg:Gl X x)(h:GV X.mg x v)(hd:(x==("__debug__":Str))=false:=by decide):PE X (.Name x pos) (tC v):=by obtain⟨u,hm,r⟩:=h;exact a03 hg hm r hd
section
variable {K:aa}{mg:Str->Option Value}{h:Heap}
theorem qy{x:Str}{i:Int}{t:Tok}(X:K.In h)(G:h.Ns mainGlobals mg)(a:PySem.W.nsIn K mainGlobals x=some (some (.int i t))):GV mg x (.int i):=⟨_,wI X G a,t,rfl⟩
theorem Qm{x:Str}{vs:List V}{b:Addr}{its:Array Value}{n:Nat}{od:Option Addr}{fX:Array (Option Value)}(X:K.In h)(G:h.Ns mainGlobals mg)(a:PySem.W.nsIn K mainGlobals x=some (some (.ref b))) (l:K.lookup b=some ⟨.type "tuple",od,.seq its n,fX⟩)(hz:its.size<=sizeLine)(r:Vals vs its.toList):GT K mg x vs:=⟨b,⟨_,wI X G a,rfl⟩,fun H=>.inr ⟨_,its,n,l,rfl,rfl,hz,r⟩⟩
end
section
variable {X:Cx}
end
theorem J0{J:It}{xs:List V}{bs:List Bool}{te:TE}{Q:VK}{D:Addr}{H H0:Hp}(rest:St)(nw:Nw H H0 D (.lst []))(hl:xs.length=bs.length)(hz:xs.length<=1000) (go:∀i x H2,xs[i]? =some x->aB H H2->J.go i H2/\∀y H3,J.jA i H2 y H3->H3=H2/\y=x)(stop:∀H2,aB H H2->J.stop xs.length H2) (hs:∀(i:Nat)(x:V)(b:Bool)(H2:Hp)(Q':VK),xs[i]? =some x->bs[i]? =some b->aB H H2->(∀H3,aB H2 H3->Q' (.bl b) H3)->te (some x::rest) H2 Q') (hq:∀H',aB H H'->H' D=some (.lst (bs.map V.bl))->Q (.ref D) H'):iD J (eK 0) gO te Q D (none::rest) H0:=by
  have hD:=nw.no;refine qF xs.length (fun i Z H2=>aB H H2/\H2 D=some (.lst ((bs.take i).map V.bl))/\∃v,Z=v::rest) ?_ ?_ ?_
  ·exact⟨nw.same,nw.at',none,rfl⟩
  · rintro i Z H2 hi ⟨s2,d2,v,rfl⟩
    have vL:i<bs.length:=by rw[<-hl];exact hi
    have ex:=bZ hi;have eb:=bZ vL;obtain⟨g1,g2⟩:=go i _ H2 ex s2;refine⟨g1,fun y H3 hy=>?_⟩;obtain⟨rfl,rfl⟩:=g2 y H3 hy;refine zD ?_;refine hs i _ _ _ _ ex eb s2 fun H4 s4=>?_;refine⟨_,s4 _ _ d2,?_,xs.length-(i+1),by lia,rfl,by lia,fun b o e=>?_,?_,_,rfl⟩
    · rw[cj,nS]
      have:(1000:Nat)<sizeLine:=by decide
      lia
    ·rw[aK (fQ e hD)];exact s4 b o (s2 b o e)
    ·rw[ba,pF,eb,nR];rfl
  · rintro Z H2 ⟨s2,d2,v,rfl⟩
    refine⟨stop H2 s2,hq H2 s2 ?_⟩;rw[d2,hl,wK]
theorem RQ{K:aa}{a:Addr}{xs:List V}{bs:List Bool}{te:TE}{Q:VK}{D:Addr}{H H0:Hp}(rest:St)(hx:aP K H a xs)(nw:Nw H H0 D (.lst []))(hl:xs.length=bs.length)(hz:xs.length<=1000) (hs:∀(i:Nat)(x:V)(b:Bool)(H2:Hp)(Q':VK),xs[i]? =some x->bs[i]? =some b->aB H H2->(∀H3,aB H2 H3->Q' (.bl b) H3)->te (some x::rest) H2 Q') (hq:∀H',aB H H'->H' D=some (.lst (bs.map V.bl))->Q (.ref D) H'):iD (qM K a) (eK 0) gO te Q D (none::rest) H0:=J0 rest nw hl hz (fun i x H2 e s=>⟨⟨xs,x,hx.go s,e⟩,fun y H3 ⟨e3,y3⟩=>⟨e3,by have:=y3 _ (hx.go s);rw[e]at this;exact(dG this).symm⟩⟩) (fun H2 s=>⟨xs,hx.go s,bF _⟩) hs hq
theorem a9l{K:aa}{a:Addr}{xs:List V}{bs:List Bool}{te:TE}{Q:VK}{D:Addr}{H H0:Hp}(rest:St)(hx:aE K H a xs)(nw:Nw H H0 D (.lst []))(hl:xs.length=bs.length)(hz:xs.length<=1000) (hs:∀(i:Nat)(x:V)(b:Bool)(H2:Hp)(Q':VK),xs[i]? =some x->bs[i]? =some b->aB H H2->(∀H3,aB H2 H3->Q' (.bl b) H3)->te (some x::rest) H2 Q') (hq:∀H',aB H H'->H' D=some (.lst (bs.map V.bl))->Q (.ref D) H'):iD (qN K a) (eK 0) gO te Q D (none::rest) H0:=J0 rest nw hl hz (fun i x H2 e s=>⟨⟨xs,x,hx.go s,e⟩,fun y H3 ⟨e3,y3⟩=>⟨e3,by have:=y3 _ (hx.go s);rw[e]at this;exact(dG this).symm⟩⟩) (fun H2 s=>⟨xs,hx.go s,bF _⟩) hs hq
theorem OL{ds:List ai}{f:ai->Bool}{i:Nat}{b:Bool}(h:(ds.map f)[i]? =some b):∃d,ds[i]? =some d/\f d=b:=by rw[cu]at h;cases e:ds[i]? with |none=>rw[e]at h;cases h |some d=>rw[e]at h;exact⟨d,rfl,dG h⟩
theorem all_map{ds:List ai}{f:ai->Bool}:(ds.map f).all id=ds.all f:=by rw[List.all_map];rfl
section
variable {X:Cx}
inductive V4(K:aa)(x:V)(y:V)(H:Hp)(Q:VK):Prop |mk (a:_)(b:_)(xs:_)(ys:_)(h0:x= .ref a)(h1:y= .ref b)(h2:aE K H a xs)(h3:aE K H b ys)(h4:xs.length+ys.length<=sizeLine)(h5:∀p H',Nw H H' p (.lst (xs++ys))->Q (.ref p) H'):V4 K x y H Q
def Zq(K:aa):R2:=fun x y H Q=>V4 K x y H Q
theorem wm(K:aa)(hK:X.K=K):dc X (binaryOp .Add) (Zq K):=by
 subst hK;intro au s Z H x y v u Q I rx ry h;obtain⟨a,b,xs,ys,rfl,rfl,ha,hb,hz,q⟩:=h;cases rx;cases ry;obtain⟨its,r1,p1,_⟩:=I.list ha;obtain⟨lW,r2,p2,_⟩:=I.list hb;obtain⟨⟨cls,dd,data,sl⟩,n,ho,hc,hdd,hd⟩:=id p1;obtain⟨⟨ac7,dd2,data2,DC⟩,n2,vI,Bo,abN,hd2⟩:=id p2;simp only at hc hd Bo hd2;subst hc hd Bo hd2;have e:its.toArray++lW.toArray=(its++lW).toArray:=by simp
 refine concat_meets ⟨_,ho,rfl⟩ ⟨_,vI,rfl⟩ noFill_list_add seq_list_add PySem.F.slot_list_add PySem.F.entry_list_add (PySem.F.args_list_add_2 _ _) (list_addW a b its.toArray lW.toArray n n2 dd dd2 sl DC (by rw[dX,dX,<-r1.length,<-r2.length];exact hz)) ⟨ho,vI,?_⟩;rw[e];have nw:Nw H (upd H s.heap.objs.size (.lst (xs++ys))) s.heap.objs.size (.lst (xs++ys)):=.of (I.aV.fresh (bF _));refine⟨.ref s.heap.objs.size,_,I.laid (t':=s.toks) (o:=.lst (xs++ys)) (fun b ob q=>cn _ q) (bF _) ?_,rfl,q _ _ nw⟩;exact⟨by rw[fo];exact hz,_,0,r1.append r2,eh _ rfl⟩
open Classical in
noncomputable def tP(h:Heap)(d:ai)(w:Value):Bool:=if q:∃e as,Reads h w e as then PyData.eqv q.choose d else false
theorem a8t{h:Heap}{d e:ai}{w:Value}{as:List Addr}(r:Reads h w e as):tP h d w=PyData.eqv e d:=by have q:∃e as,Reads h w e as:=⟨e,as,r⟩;unfold tP;rw[dif_pos q];obtain⟨as',r'⟩:=q.choose_spec;rw[(Reads.unique r' e as r).1]
theorem QS{au:List (Addr×Obj)}{s:ae}{Z:St}{H:Hp}(I:Inv X au Z H s)(hu:X.A.units+65<cLine){x:V}{u:Value}{d:ai}(rx:RelV x u)(hd:RD X.K H x d)(sd:SeqAt.shaped d=true): ∀{xs:List V}{us:List Value}{ds:List ai},Vals xs us->aI X.K H xs ds->(∀e∈ds,SeqAt.shaped e=true)->(∀w∈us,SeqAt.EqAt X.A.in1 s w u (tP s.heap d w))/\us.any (tP s.heap d)=ds.any fun e=>PyData.eqv e d |xs,us,[],rv,h,_=>by cases h.nil_inv;cases rv;exact⟨fun _ h=>(cC h).elim,rfl⟩ |xs,us,e::ds,rv,h,se=>by obtain⟨y,ys,rfl,h1,h2⟩:=h.cons_inv;cases rv with |cons ra rb=>
      rename_i w ws;obtain⟨as,q1⟩:=RD.reads I e ra h1;obtain⟨bs,q2⟩:=RD.reads I d rx hd;have key:SeqAt.EqAt X.A.in1 s w u (PyData.eqv e d):=SeqAt.eqAt_reads e d X.A.in1 s w u as bs q1 q2 (Vv (se e (.head _))) (Vv sd) (SeqAt.room_of_shaped (se e (.head _)) (by show X.A.units+1+64<cLine;omega));obtain⟨k1,k2⟩:=QS I hu rx hd sd rb h2 (fun e' he=>se e' (.tail _ he));have ew:tP s.heap d w=PyData.eqv e d:=a8t q1;refine⟨fun z hz=>?_,?_⟩
      · rcases bI.mp hz with rfl|hz
        ·rw[ew];exact key
        ·exact k1 z hz
      ·rw[uu,uu,ew,k2]
end
end L2
namespace L2
theorem cE.Wo{k:Nat}{A:PySem.Around}(r:cE k A):A.units+65<PySem.cLine:=by have:=r.un;lia
end L2
namespace L2
open PySem PySem.Spec PyProof.Rows
def jP(b:Bool)(h:Heap)(it l:Addr)(k:Nat):Prop:=match b with|true=>h.IsListIter it l k|false=>h.IsTupleIter it l k
def gJ(b:Bool)(h:Heap)(l:Addr)(xs:Array Value):Prop:=match b with|true=>h.IsList l xs|false=>h.IsTuple l xs
def qG(b:Bool):String:=match b with|true=>"list_iterator"|false=>"tuple_iterator"
theorem jP.to{b:Bool}{h g:Heap}{it l:Addr}{k:Nat}(x:jP b h it l k)(e:∀o,h.get? it=some o->g.get? it=some o):jP b g it l k:=by cases b<;>(obtain⟨o,ho,r⟩:=x;exact⟨o,e o ho,r⟩)
theorem gJ.to{b:Bool}{h g:Heap}{l:Addr}{xs:Array Value}(x:gJ b h l xs)(e:∀o,h.get? l=some o->g.get? l=some o):gJ b g l xs:=by cases b<;>(obtain⟨o,ho,r⟩:=x;exact⟨o,e o ho,r⟩)
theorem jP.ob{b:Bool}{h:Heap}{it l:Addr}{k:Nat}(x:jP b h it l k):∃o,h.get? it=some o/\o.cls= .type (qG b)/\∀v,o.data≠ .cell v:=by cases b<;>(obtain⟨o,ho,c,d⟩:=x;exact⟨o,ho,c,fun v z=>by rw[d]at z;cases z⟩)
section
variable {prog:ah}{w:World}{A:aj}{E:Value->ae->Prop}{s:ae}
theorem vj{b:Bool}{l:Addr}{xs:Array Value}{Q:Value->ae->Prop}(x:gJ b s.heap l xs) (q:Q (.ref s.heap.objs.size) {s with heap:=s.heap.push {cls:=.type (qG b),data:=.fields #[.ref l,.int 0 0]}}):wpAny (model prog w) A (pyIter (.ref l)) Q E s:=by
  cases b
  ·exact wpAny_pyIter_tuple x q
  ·exact Co x q
theorem a2a{it t:Addr}{k:Nat}{ts:Array Value}{x:Value}{Q:Value->ae->Prop}(hi:s.heap.IsTupleIter it t k)(ht:s.heap.IsTuple t ts)(hx:ts[k]? =some x) (q:∀g,g.IsTupleIter it t (k+1)->Heap.SameBut it s.heap g->Q x {s with heap:=g}):wpAny (model prog w) A (Builtin.SmallTypes.nextOf (.ref it)) Q E s:=by obtain⟨oi,kL,ci,di⟩:=id hi;obtain⟨ot,Hg,_,nt,dt⟩:=ht;unfold Builtin.SmallTypes.nextOf;refine aO (Cr (name:=Str.ofString "__next__") hi.typeIs JG (Cq JG hi.typeIs aaC ?_ (aaD _)));show wpAny _ _ (field (.ref it) 0>>=_) _ _ s;refine aO (jb kL di (x:=.ref t) rfl ?_);show wpAny _ _ (if(Value.ref t==Value.none)=true then _ else _) _ _ s;rw[aZ (show¬((Value.ref t==Value.none)=true)from jW)];show wpAny _ _ (field (.ref it) 1>>=_) _ _ s;refine aO (jb kL di (x:=.int k 0) rfl ?_);show wpAny _ _ (seqItems? (.ref t)>>=_) _ _ s;refine aO (ug Hg dt ?_);simp only[VN,hx];refine aO (Cm kL di (by simp) (cg ⟨x,rfl,cg (q _ ?_ (Heap.SameBut.update ..))⟩));exact⟨_,JZ _ kL (VG (Cy di _)),(Obj.cls_mapFields ..).trans ci,by rw[Cy di];simp[rawInt]⟩
theorem a8z{it t:Addr}{k:Nat}{ts:Array Value}{Q:Value->ae->Prop}(hh:A.handled=none)(hi:s.heap.IsTupleIter it t k)(ht:s.heap.IsTuple t ts)(hx:ts[k]? =none) (q:∀g e,Heap.ExtBut it s.heap g->(∃o,g.get? e=some o/\o.cls= .type "StopIteration")->E (.ref e) {s with heap:=g}):wpAny (model prog w) A (Builtin.SmallTypes.nextOf (.ref it)) Q E s:=by
  obtain⟨oi,kL,ci,di⟩:=id hi;obtain⟨ot,Hg,_,nt,dt⟩:=ht;unfold Builtin.SmallTypes.nextOf;refine aO (Cr (name:=Str.ofString "__next__") hi.typeIs JG (Cq JG hi.typeIs aaC ?_ (aaD _)));show wpAny _ _ (field (.ref it) 0>>=_) _ _ s;refine aO (jb kL di (x:=.ref t) rfl ?_);show wpAny _ _ (if(Value.ref t==Value.none)=true then _ else _) _ _ s;rw[aZ (show¬((Value.ref t==Value.none)=true)from jW)];show wpAny _ _ (field (.ref it) 1>>=_) _ _ s;refine aO (jb kL di (x:=.int k 0) rfl ?_);show wpAny _ _ (seqItems? (.ref t)>>=_) _ _ s;refine aO (ug Hg dt ?_);simp only[VN,hx];refine aO (wpAny_rule (aO (Cm kL di (by simp) ?_)));show wpAny _ _ (newExc (.type "StopIteration") []>>=_) _ _ _;refine aO ?_;simp only[newExc,newTuple];refine aO (pk ?_ (by size_fits));refine aO (m:=firstArgMember _ _) (zi (a:=Value.none) (by first|rfl|(simp only[firstArgMember];rfl)) ?_);refine pk ?_ (by size_fits);simp only[raiseNew];refine aO (wpAny_handled ?_)
  first|rw[show A.in1.handled=none from hh]|rw[hh]
  exact aO (cg (wpAny_throw (q _ _ (((Heap.SameBut.update ..).extBut.push _).push _) ⟨_,eh _ rfl,rfl⟩)))
theorem Au{b:Bool}{it l:Addr}{k:Nat}{xs:Array Value}{x:Value}{Q:Value->ae->Prop}(hi:jP b s.heap it l k)(hl:gJ b s.heap l xs)(hx:xs[k]? =some x) (q:∀g,jP b g it l (k+1)->Heap.SameBut it s.heap g->Q x {s with heap:=g}):wpAny (model prog w) A (Builtin.SmallTypes.nextOf (.ref it)) Q E s:=by
  cases b
  ·exact a2a hi hl hx q
  ·exact wpAny_nextOf_list_item hi hl hx q
theorem IH{b:Bool}{it l:Addr}{k:Nat}{xs:Array Value}{Q:Value->ae->Prop}(hh:A.handled=none)(hi:jP b s.heap it l k)(hl:gJ b s.heap l xs)(hx:xs[k]? =none) (q:∀g e,Heap.ExtBut it s.heap g->(∃o,g.get? e=some o/\o.cls= .type "StopIteration")->E (.ref e) {s with heap:=g}):wpAny (model prog w) A (Builtin.SmallTypes.nextOf (.ref it)) Q E s:=by
  cases b
  ·exact a8z hh hi hl hx q
  ·exact wpAny_nextOf_list_end hh hi hl hx q
structure Zp(b1 b2:Bool)(h:Heap)(z TI TO i1 i2 l1 l2:Addr)(f0:Value)(k:Nat):Prop where
 zz:IsZip h z TI TO f0
 ti:IsPair h TI (.ref i1) (.ref i2)
 to:∃a b,IsPair h TO a b
 n1:jP b1 h i1 l1 k
 n2:jP b2 h i2 l2 k
theorem NZ{z TI TO:Addr}{Q:Bool->ae->Prop}(hz:IsZip s.heap z TI TO .none)(q:Q true s):wpAny (model prog w) A (Builtin.SmallTypes.ownedTupleIsFree (.ref z)) Q E s:=by unfold Builtin.SmallTypes.ownedTupleIsFree;exact aO (jb hz rfl (x:=.none) rfl (cg q))
theorem VW{b1 b2:Bool}{z TI TO i1 i2 l1 l2:Addr}{k:Nat}{xs ys:Array Value}{x y:Value}{Q:Value->ae->Prop}(D:ZipApart z TI TO i1 i2 l1 l2)(acp:Zp b1 b2 s.heap z TI TO i1 i2 l1 l2 .none k) (tF:gJ b1 s.heap l1 xs)(qi:gJ b2 s.heap l2 ys)(hx:xs[k]? =some x)(hy:ys[k]? =some y) (q:∀g,Zp b1 b2 g z TI TO i1 i2 l1 l2 (rawInt s.heap.objs.size) (k+1)->IsPair g s.heap.objs.size x y->(∀c o,c≠z->c≠TO->c≠i1->c≠i2->s.heap.get? c=some o->g.get? c=some o)->Q (.ref s.heap.objs.size) {s with heap:=g}): wpAny (model prog w) A (Builtin.«zip.__next__» ⟨[.ref z],[]⟩) (fun r s'=>∃v,r= .done (.ret v)/\Q v s') E s:=by
  obtain⟨hz,lL,⟨a,b,m4⟩,h1,h2⟩:=acp;show wpAny _ _ (field (.ref z) 2>>=_) _ _ _;refine aO (jb hz rfl (x:=.bool false) rfl ?_);show wpAny _ _ (field (.ref z) 3>>=_) _ _ _;refine aO (jb hz rfl (x:=.ref TI) rfl (aO (ug lL rfl ?_)));show wpAny _ _ (Builtin.SmallTypes.ownedTupleIsFree (.ref z)>>=_) _ _ _;refine aO (NZ hz ?_);simp only[ui];refine aO (wpAny_rule (aO (jb hz rfl (x:=.ref TO) rfl (aO (zh hz (by simp) fun g1 z1 e1=>?_)))));replace z1:IsZip g1 z TI TO .ellipsis:=z1;refine aO ?_;simp only[List.zipIdx_cons,List.zipIdx_nil,CH,List.forIn_nil];refine aO (aO (Cp ?_));show wpAny _ _ (Builtin.SmallTypes.nextOf (.ref i1)>>=_) _ _ _;refine aO (Au (h1.to fun o e=>e1.extBut _ _ D.i1z e) (tF.to fun o e=>e1.extBut _ _ D.l1z e) hx fun g2 n1 e2=>cg ?_);have t2:IsPair g2 TO a b:=e2.extBut _ _ D.TOi1 (e1.extBut _ _ D.TOz m4);refine aO (ug t2 rfl (aO (Vs t2 fun g3 t3 e3=>?_)));replace t3:IsPair g3 TO x b:=t3;refine aO (wpAny_letGo (cg ?_));refine aO (aO (Cp ?_));show wpAny _ _ (Builtin.SmallTypes.nextOf (.ref i2)>>=_) _ _ _;refine aO (Au (h2.to fun o e=>e3.extBut _ _ D.TOi2.symm (e2.extBut _ _ D.i12.symm (e1.extBut _ _ D.i2z e))) (qi.to fun o e=>e3.extBut _ _ D.l2TO (e2.extBut _ _ D.l2i1 (e1.extBut _ _ D.l2z e))) hy fun g4 n2 e4=>cg ?_);have t4:IsPair g4 TO x b:=e4.extBut _ _ D.TOi2 t3;refine aO (ug t4 rfl (aO (Vs t4 fun g5 t5 e5=>?_)));replace t5:IsPair g5 TO x y:=t5;refine aO (wpAny_letGo (cg (cg ?_)));refine aO (ug t5 rfl (aO (wpAny_newTuple ?_)));have sz:g5.objs.size=s.heap.objs.size:=by rw[e5.1,e4.1,e3.1,e2.1,e1.1]
  have z5:IsZip g5 z TI TO .ellipsis:=e5.extBut _ _ D.TOz.symm (e4.extBut _ _ D.i2z.symm (e3.extBut _ _ D.TOz.symm (e2.extBut _ _ D.i1z.symm z1)));have kp:∀c o,c≠z->c≠TO->c≠i1->c≠i2->s.heap.get? c=some o->g5.get? c=some o:=fun c o c1 c2 c3 c4 e=>e5.extBut _ _ c2 (e4.extBut _ _ c4 (e3.extBut _ _ c2 (e2.extBut _ _ c3 (e1.extBut _ _ c1 e))));have m1:jP b1 g5 i1 l1 (k+1):=n1.to fun o e=>e5.extBut _ _ D.TOi1.symm (e4.extBut _ _ D.i12 (e3.extBut _ _ D.TOi1.symm e));have m2:jP b2 g5 i2 l2 (k+1):=n2.to fun o e=>e5.extBut _ _ D.TOi2.symm e;have CL:z<g5.objs.size:=cw z5;show wpAny _ _ (Builtin.SmallTypes.ownedTupleHandOut (.ref z) (.ref g5.objs.size)>>=_) _ _ _;refine aO ?_;unfold Builtin.SmallTypes.ownedTupleHandOut;have z6:IsZip (g5.push {cls:=.type "tuple",data:=.seq #[x,y]}) z TI TO .ellipsis:=cn _ z5;refine aO (zh z6 (by simp) fun g7 z7 e7=>?_);replace z7:IsZip g7 z TI TO (rawInt g5.objs.size):=z7;refine zh z7 (by simp) fun g8 z8 e8=>?_;replace z8:IsZip g8 z TI TO (rawInt g5.objs.size):=z8;have up:∀c o,c≠z->g5.get? c=some o->g8.get? c=some o:=fun c o c1 e=>e8.extBut _ _ c1 (e7.extBut _ _ c1 (cn _ e));have t8:IsPair g8 g5.objs.size x y:=e8.extBut _ _ (Cz CL) (e7.extBut _ _ (Cz CL) (eh _ rfl));rw[sz]at z8 t8;refine cg ⟨_,rfl,?_⟩;show Q (.ref g5.objs.size) _;rw[sz];exact q g8 ⟨z8,up _ _ D.TIz (kp _ _ D.TIz D.TITO D.TIi1 D.TIi2 lL),⟨_,_,up _ _ D.TOz t5⟩,m1.to fun o e=>up _ o D.i1z e,m2.to fun o e=>up _ o D.i2z e⟩ t8 fun c o c1 c2 c3 c4 e=>up c o c1 (kp c o c1 c2 c3 c4 e)
theorem VX{b1 b2:Bool}{z TI TO i1 i2 l1 l2:Addr}{k:Nat}{xs ys:Array Value}{Q:Fin->ae->Prop}(hh:A.handled=none)(D:ZipApart z TI TO i1 i2 l1 l2)(acp:Zp b1 b2 s.heap z TI TO i1 i2 l1 l2 .none k) (tF:gJ b1 s.heap l1 xs)(qi:gJ b2 s.heap l2 ys)(oP:xs[k]? =none\/ys[k]? =none) (q:∀g e,(∀c o,c≠z->c≠TO->c≠i1->c≠i2->s.heap.get? c=some o->g.get? c=some o)->(∃o,g.get? e=some o/\o.cls= .type "StopIteration")->E (.ref e) {s with heap:=g}): wpAny (model prog w) A (Builtin.«zip.__next__» ⟨[.ref z],[]⟩) Q E s:=by obtain⟨hz,lL,⟨a,b,m4⟩,h1,h2⟩:=acp;show wpAny _ _ (field (.ref z) 2>>=_) _ _ _;refine aO (jb hz rfl (x:=.bool false) rfl ?_);show wpAny _ _ (field (.ref z) 3>>=_) _ _ _;refine aO (jb hz rfl (x:=.ref TI) rfl (aO (ug lL rfl ?_)));show wpAny _ _ (Builtin.SmallTypes.ownedTupleIsFree (.ref z)>>=_) _ _ _;refine aO (NZ hz ?_);simp only[ui];refine aO (wpAny_rule (aO (jb hz rfl (x:=.ref TO) rfl (aO (zh hz (by simp) fun g1 z1 e1=>?_)))));replace z1:IsZip g1 z TI TO .ellipsis:=z1;refine aO ?_;simp only[List.zipIdx_cons,List.zipIdx_nil,CH,List.forIn_nil];refine aO (aO (Cp ?_));show wpAny _ _ (Builtin.SmallTypes.nextOf (.ref i1)>>=_) _ _ _;have j1:=h1.to fun o e=>e1.extBut _ _ D.i1z e;have k1:=tF.to fun o e=>e1.extBut _ _ D.l1z e;cases hx:xs[k]? with
  |none=>
    refine aO (IH hh j1 k1 hx fun g2 er e2 ⟨oe,tm,yt⟩=>?_);have z2:IsZip g2 z TI TO .ellipsis:=e2 _ _ D.i1z.symm z1;have nz:er≠z:=fun v=>by subst v;rw[z2]at tm;cases tm;simp at yt
    refine zh z2 (by simp) fun g3 _ e3=>q g3 er (fun c o c1 _ c3 _ v=>e3.extBut _ _ c1 (e2 _ _ c3 (e1.extBut _ _ c1 v))) ⟨oe,e3.extBut _ _ nz tm,yt⟩ |some x=>
    have hy:ys[k]? =none:=by rcases oP with h|h;rw[hx]at h;cases h;exact h
    refine aO (Au j1 k1 hx fun g2 n1 e2=>cg ?_);have t2:IsPair g2 TO a b:=e2.extBut _ _ D.TOi1 (e1.extBut _ _ D.TOz m4);refine aO (ug t2 rfl (aO (Vs t2 fun g3 t3 e3=>?_)));refine aO (wpAny_letGo (cg ?_));refine aO (aO (Cp ?_));show wpAny _ _ (Builtin.SmallTypes.nextOf (.ref i2)>>=_) _ _ _;refine aO (IH hh (h2.to fun o e=>e3.extBut _ _ D.TOi2.symm (e2.extBut _ _ D.i12.symm (e1.extBut _ _ D.i2z e))) (qi.to fun o e=>e3.extBut _ _ D.l2TO (e2.extBut _ _ D.l2i1 (e1.extBut _ _ D.l2z e))) hy fun g4 er e4 ⟨oe,tm,yt⟩=>?_);have z4:IsZip g4 z TI TO .ellipsis:=e4 _ _ D.i2z.symm (e3.extBut _ _ D.TOz.symm (e2.extBut _ _ D.i1z.symm z1));have nz:er≠z:=fun v=>by subst v;rw[z4]at tm;cases tm;simp at yt
    refine zh z4 (by simp) fun g5 _ e5=>q g5 er (fun c o c1 c2 c3 c4 v=>e5.extBut _ _ c1 (e4 _ _ c4 (e3.extBut _ _ c2 (e2.extBut _ _ c3 (e1.extBut _ _ c1 v))))) ⟨oe,e5.extBut _ _ nz tm,yt⟩
abbrev zC(b1:Bool)(h:Heap)(l1:Addr):Heap:=h.push {cls:=.type (qG b1),data:=.fields #[.ref l1,.int 0 0]}
abbrev zB(b1 b2:Bool)(h:Heap)(l1 l2:Addr):Heap:=(zC b1 h l1).push {cls:=.type (qG b2),data:=.fields #[.ref l2,.int 0 0]}
abbrev zA(b1 b2:Bool)(h:Heap)(l1 l2:Addr):Heap:=(zB b1 b2 h l1 l2).push {cls:=.type "tuple",data:=.seq #[.ref h.objs.size,.ref (zC b1 h l1).objs.size]}
abbrev zy(b1 b2:Bool)(h:Heap)(l1 l2:Addr):Heap:=(zA b1 b2 h l1 l2).push {cls:=.type "tuple",data:=.seq #[.none,.none]}
abbrev ux(b1 b2:Bool)(h:Heap)(l1 l2:Addr):Heap:=(zy b1 b2 h l1 l2).push {cls:=.type "zip",data:=.fields #[.none,.bool false,.bool false,.ref (zB b1 b2 h l1 l2).objs.size,.ref (zA b1 b2 h l1 l2).objs.size]}
theorem VU(b1 b2:Bool)(l1 l2:Addr)(xs ys:Array Value):Meets (Builtin.«zip.__new__» ⟨[.type "zip",.ref l1,.ref l2],[]⟩) (fun _ R s=>gJ b1 s.heap l1 xs/\gJ b2 s.heap l2 ys/\R (.ok (.ret (.ref (zy b1 b2 s.heap l1 l2).objs.size))) {s with heap:=ux b1 b2 s.heap l1 l2}):=.of_wp fun prog w A R s h=>by
   obtain⟨hp,gg,d,tk,os⟩:=s;obtain⟨tF,qi,h⟩:=h;have Ha:=sub_zip;have hL1:gJ b1 (Shared.heap ⟨hp,gg,d,tk,os⟩) l1 xs:=tF;have yy:gJ b2 (Shared.heap ⟨hp.push {cls:=.type (qG b1),data:=.fields #[.ref l1,.int 0 0]},gg,d,tk,os⟩) l2 ys:=qi.to fun o e=>cn _ e
   wp_walk using vj hL1,vj yy;exact⟨_,rfl,h⟩
theorem VY{b1 b2:Bool}{l1 l2:Addr}{xs ys:Array Value}{Q:Value->ae->Prop}(tF:gJ b1 s.heap l1 xs)(qi:gJ b2 s.heap l2 ys) (q:∀g,Zp b1 b2 g (s.heap.objs.size+4) (s.heap.objs.size+2) (s.heap.objs.size+3) s.heap.objs.size (s.heap.objs.size+1) l1 l2 .none 0->(∀c o,s.heap.get? c=some o->g.get? c=some o)->Q (.ref (s.heap.objs.size+4)) {s with heap:=g}): wpAny (model prog w) A (call (.type "zip") [.ref l1,.ref l2]) Q E s:=by
  refine callType_new PySem.F.called_zip (by decide) (PySem.F.typeCall_zip_2 _ _) (PySem.F.newCall_zip_2 _ _) (fun obj=>PySem.F.args_object_init_3 obj _ _) PySem.F.entry_zip_new (VU b1 b2 l1 l2 xs ys) ⟨tF,qi,?_⟩;have z1:(zC b1 s.heap l1).objs.size=s.heap.objs.size+1:=qZ ..;have z2:(zB b1 b2 s.heap l1 l2).objs.size=s.heap.objs.size+2:=by rw[qZ,z1]
  have z3:(zA b1 b2 s.heap l1 l2).objs.size=s.heap.objs.size+3:=by rw[qZ,z2]
  have z4:(zy b1 b2 s.heap l1 l2).objs.size=s.heap.objs.size+4:=by rw[qZ,z3]
  have g5:(ux b1 b2 s.heap l1 l2).get? (zy b1 b2 s.heap l1 l2).objs.size=some _:=eh _ rfl;have g4:(ux b1 b2 s.heap l1 l2).get? (zA b1 b2 s.heap l1 l2).objs.size=some _:=cn _ (eh _ rfl);have g3:(ux b1 b2 s.heap l1 l2).get? (zB b1 b2 s.heap l1 l2).objs.size=some _:=cn _ (cn _ (eh _ rfl));have g2:(ux b1 b2 s.heap l1 l2).get? (zC b1 s.heap l1).objs.size=some _:=cn _ (cn _ (cn _ (eh _ rfl)));have g1:(ux b1 b2 s.heap l1 l2).get? s.heap.objs.size=some _:=cn _ (cn _ (cn _ (cn _ (eh _ rfl))));show _/\_;rw[z2,z3,z4]at g5;rw[z1,z2]at g3;rw[z3]at g4;rw[z1]at g2;rw[z4];refine⟨⟨_,g5,rfl⟩,q _ ⟨g5,g3,⟨_,_,g4⟩,?_,?_⟩ fun c o e=>cn _ (cn _ (cn _ (cn _ (cn _ e))))⟩
  ·cases b1<;>exact⟨_,g1,rfl,rfl⟩
  ·cases b2<;>exact⟨_,g2,rfl,rfl⟩
end
section
variable {X:Cx}{au:List (Addr×Obj)}{Z:St}{H:Hp}{s:ae}{h':Heap}
theorem Inv.wY{t':Nat}{fp:List Addr}(I:Inv X au Z H s)(k:∀b o,b∉fp->s.heap.get? b=some o->h'.get? b=some o)(hf:∀b∈fp,kY X au H b):Inv X au Z H {s with heap:=h',toks:=t'}:=by
 have xT:∀b u,H b=some u->b∉fp:=fun b u e z=>by rw[(hf b z).1]at e;cases e
 have hL:X.env.locals∉fp:=fun z=>(hf _ z).2.1 rfl;refine I.step (g':=s.gens) (d':=s.drawn) (ch:=fp) (fun b hb=>?_) (fun b o _ _ hc e _=>k b o hc e) (fun b o _ _ hc e _=>⟨o.slots,k b o hc e⟩) (fun _ _ _ _ n=>n) (fun b o hc e=>⟨o,k b o hc e⟩) (fun _ _ e=>e) (fun _ _ _ e=>e) (fun b ps e=>⟨#[],by rw[e];simp⟩) (fun m hm=>?_) (fun b u e=>?_) I.bare
 · obtain⟨f0,f1,f2,f3,f4,f5⟩:=hf b hb
   exact⟨f3,f1,f4,f5⟩
 · obtain⟨o,es,ep,ho,r⟩:=hm
   exact⟨o,es,ep,k _ o hL ho,r⟩
 · refine(I.aV b u e).lQ (fun c v hc q=>k c v ?_ q) (fun _ q=>q) fun _ _ q=>q
   rcases hc with z|z
   ·rw[z];exact xT b u e
   ·exact xT c _ z
end
def eg(b:Bool)(K:aa)(H:Hp)(a:Addr)(xs:List V):Prop:=match b with|true=>aE K H a xs|false=>aP K H a xs
theorem eg.get{X:Cx}{au:List (Addr×Obj)}{Z:St}{H:Hp}{s:ae}{b:Bool}{a:Addr}{xs:List V}(I:Inv X au Z H s)(h:eg b X.K H a xs):∃its:List Value,Vals xs its/\gJ b s.heap a its.toArray:=by
 cases b
 ·obtain⟨its,r,p,_⟩:=I.tuple h;exact⟨its,r,p⟩
 ·obtain⟨its,r,p,_⟩:=I.list h;exact⟨its,r,p.isList⟩
theorem eg.inj{X:Cx}{au:List (Addr×Obj)}{Z:St}{H:Hp}{s:ae}{b:Bool}{a:Addr}{xs ys:List V}(I:Inv X au Z H s)(h:eg b X.K H a xs)(g:eg b X.K H a ys):xs=ys:=by
 cases b
 ·exact I.Kl h g
 ·exact I.OX h g
def mj(K:aa)(b1 b2:Bool)(l1 l2:Addr):It:=⟨fun i H=>∃xs ys x y,eg b1 K H l1 xs/\eg b2 K H l2 ys/\xs[i]? =some x/\ys[i]? =some y,fun i H v H'=>∃T x y,v= .ref T/\(∀xs,eg b1 K H l1 xs->xs[i]? =some x)/\(∀ys,eg b2 K H l2 ys->ys[i]? =some y)/\Nw H H' T (.tup [x,y]),fun i H=>∃xs ys,eg b1 K H l1 xs/\eg b2 K H l2 ys/\(xs.length<=i\/ys.length<=i)⟩
theorem Ww{P:ah}{w:World}{K:aa}{elts:List Expr}{kt:Nat}{pos:Pos}{b1 b2:Bool}{z TI TO i1 i2 l1 l2:Addr}(D:ZipApart z TI TO i1 i2 l1 l2): Turn P w K (.Tuple elts kt pos) (mj K b1 b2 l1 l2) [z,TI,TO,i1,i2] z (fun i h=>Zp b1 b2 h z TI TO i1 i2 l1 l2 .none i) where
  mem:=by simp
  obj:=fun i h st b hb=>by
   obtain⟨hz,lL,⟨a,c,m4⟩,h1,h2⟩:=st;simp only[bI,cC,dv]at hb;rcases hb with rfl|rfl|rfl|rfl|rfl
   ·exact⟨_,hz,fun v e=>by cases e⟩
   ·exact⟨_,lL,fun v e=>by cases e⟩
   ·exact⟨_,m4,fun v e=>by cases e⟩
   ·obtain⟨o,e,_,n⟩:=h1.ob;exact⟨o,e,n⟩
   ·obtain⟨o,e,_,n⟩:=h2.ob;exact⟨o,e,n⟩
  keep:=fun i h h' st k=>by obtain⟨hz,lL,⟨a,c,m4⟩,h1,h2⟩:=st;exact⟨k z (by simp) _ hz,k TI (by simp) _ lL,⟨a,c,k TO (by simp) _ m4⟩,h1.to fun o e=>k i1 (by simp) o e,h2.to fun o e=>k i2 (by simp) o e⟩
  item:=by
   intro X hP hw hK hc i au s Z H E I hf st hg;subst hP hw hK;obtain⟨xs,ys,x,y,q1,q2,e1,e2⟩:=hg;obtain⟨GP,r1,p1⟩:=q1.get I;obtain⟨lW,r2,p2⟩:=q2.get I;obtain⟨u1,fR,kC⟩:=r1.get e1;obtain⟨u2,hu2,rP⟩:=r2.get e2;have hT:s.TypeIs (.ref z) "zip":=⟨_,st.zz,rfl⟩;unfold pyNext;refine aO (wpAny_attempt (Cr (name:=Str.ofString "__next__") hT JF (Cq JF hT PySem.F.entry_zip_next (VW D st p1 p2 (x:=u1) (y:=u2) (by simpa using fR) (by simpa using hu2) fun g zg tg kp=>cg ?_) (PySem.F.args_zip_next_1 _))));refine⟨_,rfl,?_⟩;refine wpAny_letOwnedTupleGo_zip zg.zz fun g' VT sb=>?_;have hs:=sb.extBut;have CL:z<s.heap.objs.size:=cw st.zz;have nw:Nw H (upd H s.heap.objs.size (.tup [x,y])) s.heap.objs.size (.tup [x,y]):=.of (I.aV.fresh (bF _));have I1:Inv X au Z (upd H s.heap.objs.size (.tup [x,y])) {s with heap:=s.heap.push {cls:=.type "tuple",data:=.seq #[u1,u2]}}:=I.laid (t':=s.toks) (fun b ob q=>cn _ q) (bF _) ⟨by show 2<=sizeLine;decide,[u1,u2],.cons kC (.cons rP .nil),⟨_,eh _ rfl,rfl,_,rfl⟩⟩;have AE:∀b∈[z,TI,TO,i1,i2],b<s.heap.objs.size:=fun b hb=>by
    simp only[bI,cC,dv]at hb;obtain⟨hz,lL,⟨a,c,m4⟩,h1,h2⟩:=st;rcases hb with rfl|rfl|rfl|rfl|rfl
    ·exact cw hz
    ·exact cw lL
    ·exact cw m4
    ·obtain⟨o,e,_⟩:=h1.ob;exact cw e
    ·obtain⟨o,e,_⟩:=h2.ob;exact cw e
   have hn:∀b∈[z,TI,TO,i1,i2],upd H s.heap.objs.size (.tup [x,y]) b=none:=fun b hb=>by rw[aK (fm (AE b hb))];exact(hf b hb).1
   have I2:Inv X au Z (upd H s.heap.objs.size (.tup [x,y])) {s with heap:=g'}:=Inv.wY (s:={s with heap:=s.heap.push {cls:=.type "tuple",data:=.seq #[u1,u2]}}) (t':=s.toks) (fp:=[z,TI,TO,i1,i2]) I1 (fun b o hb e=>by
    have e:(s.heap.push {cls:=.type "tuple",data:=.seq #[u1,u2]}).get? b=some o:=e;have nz:b≠z:=fun q=>hb (by simp[q]);rcases Heap.get?_push_cases e with⟨vP,rfl⟩|e'
    · subst vP
      exact hs _ _ nz tg
    ·exact hs _ _ nz (kp b o nz (fun q=>hb (by simp[q])) (fun q=>hb (by simp[q])) (fun q=>hb (by simp[q])) e')) (fun b hb=>by obtain⟨f0,f1,f2,f3,f4,f5⟩:=hf b hb;exact⟨hn b hb,f1,f2,f3,f4,f5⟩);refine⟨.ref s.heap.objs.size,_,I2,rfl,⟨s.heap.objs.size,x,y,rfl,fun zs hz=>?_,fun zs hz=>?_,nw⟩,?_,hn⟩
   ·rw[eg.inj I hz q1];exact e1
   ·rw[eg.inj I hz q2];exact e2
   · obtain⟨_,lL,⟨a,c,m4⟩,h1,h2⟩:=zg
     exact⟨VT,hs _ _ D.TIz lL,⟨a,c,hs _ _ D.TOz m4⟩,h1.to fun o e=>hs _ o D.i1z e,h2.to fun o e=>hs _ o D.i2z e⟩
  done:=by intro X hP hw hK hc i au s Z H E I hf st hg;subst hP hw hK;obtain⟨xs,ys,q1,q2,oP⟩:=hg;obtain⟨GP,r1,p1⟩:=q1.get I;obtain⟨lW,r2,p2⟩:=q2.get I;have hT:s.TypeIs (.ref z) "zip":=⟨_,st.zz,rfl⟩;have l1:=r1.length;have l2:=r2.length;unfold pyNext;refine aO (wpAny_attempt (Cr (name:=Str.ofString "__next__") hT JF (Cq JF hT PySem.F.entry_zip_next (VX (I.ok.hd hc) D st p1 p2 (oP.imp (fun h=>by simp;lia) fun h=>by simp;lia) fun g e kp he=>?_) (PySem.F.args_zip_next_1 _))));obtain⟨o,ho,lK⟩:=he;refine aO (wpAny_isInstance (T:="StopIteration") (b:=true) ⟨o,ho,lK⟩ isSubtype_stop (cg ⟨rfl,?_⟩));exact I.wY (t':=s.toks) (fp:=[z,TI,TO,i1,i2]) (fun b o hb e=>kp b o (fun q=>hb (by simp[q])) (fun q=>hb (by simp[q])) (fun q=>hb (by simp[q])) (fun q=>hb (by simp[q])) e) hf
  self:=fun _ _ _ _ _ st h=>wpAny_pyIter_zip st.zz h
inductive V7(K:aa)(b1:Bool)(b2:Bool)(R:It->Hp->Prop)(vs:List V)(H1:Hp):Prop |mk (l1:_)(l2:_)(h0:vs=[.ref l1,.ref l2])(h1:(∃xs,eg b1 K H1 l1 xs))(h2:(∃ys,eg b2 K H1 l2 ys))(h3:R (mj K b1 b2 l1 l2) H1):V7 K b1 b2 R vs H1
def a4f(K:aa)(b1 b2:Bool)(ta:TA):TI:=fun Z H R=>ta Z H fun vs H1=>V7 K b1 b2 R vs H1
theorem jE(K:aa){X:Cx}(hK:X.K=K)(b1 b2:Bool){elts:List Expr}{kt:Nat}{nY:Pos}{a b:Expr}{ta:TA}{p pos:Pos}(hg:Gl X "zip")(hm:X.mg "zip"=none)(ha:PA X [a,b] ta)(hs:starEach [a,b] X.env=[(false,eval a X.env),(false,eval b X.env)]:=by rfl)(j4:starEach [b] X.env=[(false,eval b X.env)]:=by rfl): PI X (.Tuple elts kt nY) (.Call (.Name "zip" p) [a,b] [] pos) (a4f K b1 b2 ta):=by
  subst hK;intro au s Z H R I h;refine Call_ (oB I hg hm PyProof.Rows.boot_zip (wJ (aW (ha pos au s Z H _ I h) fun us s1 ⟨vs,H1,I1,r1,q1⟩=>?_) (by rw[hs,j4]) (by rw[j4];rfl)));obtain⟨l1,l2,e,⟨xs,h1⟩,⟨ys,h2⟩,q⟩:=q1;subst e;obtain⟨u1,u2,rfl,kC,rP⟩:=vals2 r1;cases(show u1=Value.ref l1 from kC);cases(show u2=Value.ref l2 from rP);obtain⟨GP,v1,p1⟩:=h1.get I1;obtain⟨lW,v2,p2⟩:=h2.get I1;have a1:l1<s1.heap.objs.size:=by cases b1<;>(obtain⟨o,e,_⟩:=p1;exact cw e)
  have a2:l2<s1.heap.objs.size:=by cases b2<;>(obtain⟨o,e,_⟩:=p2;exact cw e)
  refine VY p1 p2 fun g zg kp=>wpAny_pyIter_zip zg.zz ?_;refine⟨_,_,_,_,H1,rfl,I1.kept (t':=s1.toks) kp,Ww (zipApart_new a1 a2),zg,fun c hc=>?_,q⟩;have hle:s1.heap.objs.size<=c:=by simp only[bI,cC,dv]at hc;rcases hc with rfl|rfl|rfl|rfl|rfl<;>first|exact bF _|exact Nat.le_add_right _ _
  exact I1.oV hle (I1.aV.fresh hle)
theorem eg.go{b:Bool}{K:aa}{H H':Hp}{a:Addr}{xs:List V}(s:aB H H')(h:eg b K H a xs):eg b K H' a xs:=by
 cases b
 ·exact aP.go s h
 ·exact aE.go s h
theorem RP{K:aa}{b1 b2:Bool}{l1 l2:Addr}{xs ys:List V}{bs:List Bool}{te:TE}{Q:VK}{D:Addr}{H H0:Hp}{n:Nat}(rest:St)(hn:n=2)(h1:eg b1 K H l1 xs)(h2:eg b2 K H l2 ys)(nw:Nw H H0 D (.lst [])) (hl:min xs.length ys.length=bs.length)(hz:bs.length<=1000) (hs:∀(i:Nat)(x y:V)(b:Bool)(H2:Hp)(Q':VK),xs[i]? =some x->ys[i]? =some y->bs[i]? =some b->aB H H2->(∀H3,aB H2 H3->Q' (.bl b) H3)->te (some x::some y::rest) H2 Q') (hq:∀H',aB H H'->H' D=some (.lst (bs.map V.bl))->Q (.ref D) H'):iD (mj K b1 b2 l1 l2) (oU K n (jJ (eK 0) (jJ (eK 1) qz))) gO te Q D (none::none::rest) H0:=by
  subst hn;have hD:=nw.no;refine qF bs.length (fun i Z H2=>aB H H2/\H2 D=some (.lst ((bs.take i).map V.bl))/\∃v v',Z=v::v'::rest) ?_ ?_ ?_
  ·exact⟨nw.same,nw.at',none,none,rfl⟩
  · rintro i Z H2 hi ⟨s2,d2,v,v',rfl⟩
    have hx:i<xs.length:=by lia
    have hy:i<ys.length:=by lia
    have ex:=bZ hx;have ey:=bZ hy;have eb:=bZ hi;refine⟨⟨xs,ys,_,_,h1.go s2,h2.go s2,ex,ey⟩,fun y' H3 jH=>?_⟩;obtain⟨T,x0,y0,rfl,k1,k2,n3⟩:=jH;have e1:=k1 _ (h1.go s2);have e2:=k2 _ (h2.go s2);rw[ex]at e1;rw[ey]at e2;cases e1;cases e2;refine⟨T,_,rfl,aP.of n3.at',rfl,_,_,rfl,_,_,rfl,rfl,?_⟩;refine yes (bT ?_);refine hs i _ _ _ _ _ ex ey eb (s2.trans n3.same) fun H4 s4=>?_;refine⟨_,s4 _ _ (n3.same _ _ d2),?_,bs.length-(i+1),by lia,rfl,by lia,fun b o e=>?_,?_,_,_,rfl⟩
    · rw[cj,nS]
      have:(1000:Nat)<sizeLine:=by decide
      lia
    ·rw[aK (fQ e hD)];exact s4 b o (n3.same b o (s2 b o e))
    ·rw[ba,pF,eb,nR];rfl
  · rintro Z H2 ⟨s2,d2,v,v',rfl⟩
    refine⟨⟨xs,ys,h1.go s2,h2.go s2,by lia⟩,hq H2 s2 ?_⟩;rw[d2,wK]
theorem fC.there{P:ah}{w:World}{H:Hp}{h:Heap}{a:Addr}{o:HO}(x:fC P w H h a o):∃ob,h.get? a=some ob:=by induction o with |lst xs=>obtain⟨_,_,_,_,e⟩:=x;exact⟨_,e⟩ |tup xs=>obtain⟨_,_,_,ob,e,_⟩:=x;exact⟨ob,e⟩ |dK aL=>obtain⟨_,_,_,_,ob,_,_,e,_⟩:=x;exact⟨ob,e⟩ |dT aL=>obtain⟨_,_,_,_,ob,_,_,e,_⟩:=x;exact⟨ob,e⟩ |set S n=>obtain⟨ob,_,_,_,e,_⟩:=x;exact⟨ob,e⟩ |ins C dx fs=>obtain⟨_,_,_,e,_⟩:=x;exact⟨_,e⟩ |own y=>exact x |xd fs=>obtain⟨_,⟨ob,_,_,e,_⟩,_⟩:=x;exact⟨ob,e⟩ |rQ lo hi=>obtain⟨_,_,_,e⟩:=x;exact⟨_,e⟩ |m8 ob u=>exact⟨_,x.1⟩ |eZ ps=>exact⟨_,x⟩ |met f y=>exact⟨_,x⟩ |ext φ=>exact x.2.1
structure Fl(P:ah)(w:World)(outer:List Env)(H:Hp)(h₁:Heap)(ex:Addr)(H':Hp)(B h:Heap):Prop where
 un:Un (da outer) [] H H' h₁ h
 aV:dB P w H' h
 k1:∀b o,h₁.get? b=some o->H b=none->b∉da outer->B.get? b=some o
 k2:∀b o,H' b=some o->∃ob,B.get? b=some ob
 k3:∀b o,h₁.get? b=some o->b∉da outer->∃ob,B.get? b=some ob
 fr:∀b∈da outer,H' b=none
 nw:h₁.get? ex=none
 ne:H' ex=none
theorem Fl.step{P:ah}{w:World}{outer:List Env}{H H':Hp}{h₁ B h h':Heap}{ex:Addr}{base:Heap}(F:Fl P w outer H h₁ ex H' B h)(st:B.StaysIn h)(gE:B.StaysIn h')(up:h.UpToSlots h')(ff:h.FunFrames base outer):Fl P w outer H h₁ ex H' B h':=by
 have slot:∀b o,h₁.get? b=some o->H b=none->b∈da outer->∃sl,h'.get? b=some {o with slots:=sl}:=fun b o e n hb=>by obtain⟨sl,e1⟩:=F.un.slot b o e n hb (by simp);obtain⟨_,o2,e2,hd⟩:=ff.mem hb;rw[e1]at e2;cases e2;obtain⟨DD,e3⟩:=up b _ e1 (fun vs=>hd vs);exact⟨DD,e3⟩
 refine⟨⟨fun b o e n hb _=>gE b o (F.k1 b o e n hb),fun b o e n hb _=>slot b o e n hb,F.un.free,fun b o e hx=>?_,F.un.jX,F.un.jK,F.un.jC⟩,fun b u e=>?_,F.k1,F.k2,F.k3,F.fr,F.nw,F.ne⟩
 · by_cases hb:b∈da outer
   · obtain⟨_,o2,e2,hd⟩:=ff.mem hb
     obtain⟨sl,e3⟩:=up b o2 e2 hd;exact⟨_,e3⟩
   · obtain⟨ob,e1⟩:=F.k3 b o e hb
     exact⟨ob,gE b ob e1⟩
 · refine(F.aV b u e).lQ (fun c v hc q=>?_) (fun _ q=>q) fun _ _ q=>q
   have inB:∃ob,B.get? c=some ob:=by
    rcases hc with z|z
    ·rw[z];exact F.k2 b u e
    ·exact F.k2 c _ z
   obtain⟨ob,e1⟩:=inB;have e2:=st c ob e1;rw[q]at e2;cases e2;exact gE c _ e1
section
variable {P:ah}{w:World}{K:aa}{mg:Str->Option Value}{base:Heap}{N:List Str}{qual:Str}{scope:Scope}{f:Addr}{cd:Value}{A:aj}{outer:List Env}{s:ae}{H:Hp}{E:XK}{au:List (Addr×Obj)}{Z:St}{H1:Hp}{s1:ae}{h2:Heap}{ex:Addr}{cls:Value}{vs:List Value}
end
structure Exc(K:aa)(mg:Str->Option Value)(x:Str)(C:Addr)(mh:List Value)(newId:String):Prop where
 at':mg x=some (.ref C)
 ok:PySem.W.excIn K C mh newId=true
theorem Exc.own{K:aa}{mg:Str->Option Value}{x:Str}{C:Addr}{mh:List Value}{newId:String}{h:Heap}(e:Exc K mg x C mh newId)(X:K.In h):OwnCls x C mh newId mg h:=by
 refine⟨e.at',?_⟩;have q:=e.ok;unfold PySem.W.excIn at q;split at q
 · rename_i dd cd sl ho
   split at q
   · rename_i D2 bl a0 a1 a2 a3 nn a5 hm hs
     simp only[fM,eV,VS]at q;obtain⟨⟨⟨⟨⟨r1,r2⟩,PZ⟩,ht⟩,aV⟩,Bc⟩:=q;subst r1 r2;obtain⟨c1,c2,c3,c4,c5,c6,c7,c8,c9,c10,c11⟩:=cd;dsimp only at hm PZ aV Bc;subst hm PZ;obtain⟨l⟩:=sl;simp only at hs;subst hs;exact⟨bl,c4,c1,c5,c2,c6,c7,c8,c9,c10,dd,a0,a1,a2,a3,a5,_,X _ _ ho,.of_isNs (PySem.W.isNs_of_in X aV),PySem.W.nsMap_none_of_in X aV Bc,PySem.W.tail_of_in X ht⟩
   ·cases q
 ·cases q
section
variable {X:Cx}{x:Str}{C:Addr}{mh:List Value}{newId GU B:String}{e:Expr}{t:TA}{np cx pos:Pos}
def WU(E:XK)(cls:Value)(t:TA):TS:=fun _ Z H=>t Z H fun vs H1=>vs.length<=sizeLine/\E cls none H1
theorem ZE{E:XK}(hx:∀au Z H s h2 ex vs,Inv X au Z H s->Heap.MadeExcOf s.heap h2 ex (.ref C) vs->E (.ref C) none H->X.xe (.ref ex) {s with heap:=h2})(EC:Exc X.K X.mg x C mh newId)(FB:ExcBaseFacts B newId GU mh)(hh:X.A.handled=none)(hg:Gl X x)(ha:PA X [e] t) (he:starEach [e] X.env=[(false,eval e X.env)]:=by rfl)(hd:(x==("__debug__":Str))=false:=by decide): PS X (.Raise (some (.Call (.Name x np) [e] [] cx)) none pos) (WU E (.ref C) t):=by intro au s Z H D I h;obtain⟨tl,Nn,nm,q,bs,hdct,sn,sub,ab,col,dd,k0,k1,k2,k3,k5,mN,hC,hN,Bc,T⟩:=(EC.own I.ok.mod.oE).obj;refine wpAny_Raise_call_subT (C:=C) (nm:=nm) (q:=q) (N:=Nn) (bs:=bs) (bm:=tl) (hdct:=hdct) (sn:=sn) (sub:=sub) (ab:=ab) (col:=col) (dd:=dd) (k0:=k0) (k1:=k1) (k2:=k2) (k3:=k3) (k5:=k5) FB (mN:=mN) (T.hasType FB.hasBase) hh (by rw[he];rfl) Bc (vv I hg EC.at' ⟨rfl,?_⟩ hd);have hA:=ha cx au s Z H _ I h;rw[he]at hA⊢;refine Calls.evalArgs_plain (aW hA fun us s2 ⟨vs,H1,I1,r1,z,w1⟩=>⟨rfl,by rw[<-r1.length];exact z,I1.bk _ _ hC,hN.keeps I1.bk,T.keeps I1.bk,fun h' ex hm=>hx au Z H1 s2 h' ex us I1 hm w1⟩)
end
section
variable {M:Model}{A:aj}{Ex:Value->ae->Prop}
theorem a8o{h:Heap}{g:Array GenState}{d:Drawn}{tk:Nat}{os:OsState}{e:Addr}{oe:Obj}{Q:Bool->ae->Prop}{C D N N':Addr}{nm Oo q q':Str}{bs Se bm J5:List Value}{hdct Q0:Bool}{sn LG:List Str}{sub KA:List Value}{ab SF:Bool}{col RU:Option Bool}{dd ng:Option Addr}{k0 k1 k2 k3 k5 j0 j1 j2 j3 j5:Option Value}{newId a2o:String} (hC:h.get? C=some (excClassObj nm q C N bs bm hdct sn sub ab col dd k0 k1 k2 k3 k5 newId))(hD:h.get? D=some (excClassObj Oo q' D N' Se J5 Q0 LG KA SF RU ng j0 j1 j2 j3 j5 a2o)) (he:h.get? e=some oe)(yp:oe.cls= .ref C)(hb:J5.contains (.type "BaseException")=true)(hs:(Value.ref C::bm).contains (.ref D)=true) (hq:Q true ⟨h,g,d,tk,os⟩):wpAny M A (excMatches (.ref e) (.ref D)) Q Ex ⟨h,g,d,tk,os⟩:=by
  have hcB:(Value.ref D::J5).contains (.type "BaseException")=true:=by rw[List.contains_cons,hb,Bool.or_true]
  have f:=tc_notTuple;unfold excMatches
  repeat (first|(with_reducible refine wpAny_loadPart_at he ?_;rw[yp])|with_reducible refine wpAny_loadPart_at hD ?_|(with_reducible refine wpAny_isSubtype_exc hD ?_;rw[hcB])|(with_reducible refine wpAny_isSubtype_exc hC ?_;rw[hs])|with_reducible refine wpAny_loadPart_at hC ?_|wp_step)
  exact hq
end
section
variable {X:Cx}{k:Nat}{x:Str}{p pos:Pos}{e:Expr}{es:List Expr}{t:TA}{sp:Sp}
end
abbrev Cx.hand(X:Cx)(ex:Addr):Cx:={X with A:=X.A.mark (some (.ref ex)),calm:=false,xe:=fun _ _=>False}
section
variable {X:Cx}{au:List (Addr×Obj)}{Z:St}{H:Hp}{s:ae}
theorem Inv.hand(I:Inv X au Z H s)(ex:Addr):Inv (X.hand ex) au Z H s:=⟨⟨I.ok.mod,I.ok.kind,I.ok.glob,I.ok.blt,I.ok.above,I.ok.inj,I.ok.has,I.ok.qH,fun h=>(jW h).elim,I.ok.frames,I.ok.uE,I.ok.BG,I.ok.bs,I.ok.lN,I.ok.sF,I.ok.qB,I.ok.jo,I.ok.mU⟩,I.os,I.bare,I.base,I.loc,I.cell,I.free,I.jL,I.pin,I.aV,I.len⟩
theorem Inv.back{ex:Addr}(ok:X.Ok)(I:Inv (X.hand ex) au Z H s):Inv X au Z H s:=⟨ok,I.os,I.bare,I.base,I.loc,I.cell,I.free,I.jL,I.pin,I.aV,I.len⟩
theorem Wq{M:Model}{A:aj}{E:Value->ae->Prop}{i:Nat}{x:Str}{v:V}{pos:Pos}{Q:Unit->ae->Prop}(I:Inv X au Z H s)(hN:X.N.Nodup)(hi:X.N[i]? =some x)(hk:X.env.kindOf x=some .local)(hs:X.env.scope.names.lookup x=some .local) (hv:Z[i]? =some (some v))(h:∀s',Inv X au (Z.set i none) H s'->Q () s'):wpAny M A (unbindBehindTheSuite X.env x pos) Q E s:=by
  obtain⟨m,hn,hl⟩:=id I.loc;have yp:(X.env.scope.kind== .class||(X.env.scope.kind== .module&&X.env.locals !=X.env.globals))=false:=by rw[I.ok.kind];rfl
  have Bh:i<Z.length:=by rw[I.len];exact(dC.mp hi).1
  have jO:=I.jO;obtain⟨u,r,look⟩:=hl i x v hi hv (.inl hs);have hm:m x=some u:=by
   rcases look with⟨_,e⟩|⟨k,_⟩
   ·exact e
   ·rcases k with k|k<;>(rw[hk]at k;cases k)
  unfold unbindBehindTheSuite;refine Cp (wpAny_unbindName_local hk hn hm yp fun h' u' yo sT=>?_);obtain⟨oL,_,_,PM,_⟩:=id hn;have tr:dB X.prog X.w H h':=fun b ob e=>by
   refine(I.aV b ob e).lQ (fun c w' hc q=>(sT.2 c ?_).trans q) (fun _ q=>q) fun _ _ q=>q;rintro rfl;rcases hc with rfl|hc
   ·rw[I.free]at e;cases e
   ·rw[I.free]at hc;cases hc
  have lt:∀b o,X.s₀.heap.get? b=some o->b≠X.env.locals:=fun b o e=>fm (fU (cw e) I.ok.above);refine h _ ⟨I.ok,I.os,I.bare,⟨fun b o e n hb hx=>(sT.2 b (lt b o e)).trans (I.base.keep b o e n hb hx),fun b o e n hb hx=>?_,I.base.free,fun b o e hx=>?_,I.base.jX,I.base.jK,I.base.jC⟩,⟨_,yo,fun j y v' e1 e2 e3=>?_⟩,fun y c e=>?_,I.free,I.jL,fun p hp=>?_,tr,by simpa using I.len⟩
  · obtain⟨sl,e1⟩:=I.base.slot b o e n hb hx
    exact⟨sl,(sT.2 b (lt b o e)).trans e1⟩
  · obtain⟨o',e1⟩:=I.base.there b o e hx
    exact⟨o',(sT.2 b (lt b o e)).trans e1⟩
  · by_cases hj:j=i
    · subst hj
      rw[zr Bh]at e2;cases e2
    · rw[JT (eR hj)]at e2
      obtain⟨u2,r2,q⟩:=hl j y v' e1 e2 e3;refine⟨u2,r2,?_⟩;rcases q with⟨k,e⟩|⟨k,c,e,z⟩
      · have:y≠x:=fun e=>hj (Gf hN e1 (e▸hi))
        exact .inl ⟨k,by simp[this,e]⟩
      ·exact .inr ⟨k,c,e,z.sameBut sT (jO y c e)⟩
  · obtain⟨w',z⟩:=I.cell y c e
    exact⟨w',z.sameBut sT (jO y c e)⟩
  · obtain⟨e,n,ne,nf,d⟩:=I.pin p hp
    exact⟨(sT.2 p.1 ne).trans e,n,ne,nf,d⟩
end
def yX(X:Cx)(st:List Stmt)(t:TS):Prop:=∀(s:ae)(Z:St)(H:Hp)(D:Ends),Inv X [] Z H s->t D Z H->wpAny (model X.prog X.w) X.A (execs st X.env) (SP X [] D) X.xe s
def SV(X:Cx)(st:Stmt)(t:TS):Prop:=∀(s:ae)(Z:St)(H:Hp)(D:Ends),Inv X [] Z H s->t D Z H->wpAny (model X.prog X.w) X.A (exec st X.env) (SP X [] D) X.xe s
theorem yX.one{X:Cx}{st:Stmt}{t:TS}(h:SV X st t):yX X [st] t:=by intro s Z H D I q;refine wpAny_execs_cons (aW (h s Z H D I q) fun f s1 q=>?_);cases f with |next=>exact zj q |ret v=>exact q |brk=>exact q |cont=>exact q
theorem Inv.a9U{X:Cx}{au:List (Addr×Obj)}{Z:St}{H:Hp}{s:ae}(I:Inv X au Z H s):Inv X [] Z H s:=⟨I.ok,I.os,I.bare,I.base,I.loc,I.cell,I.free,I.jL,fun p hp=>I.pin p (VJ _ (by simpa using hp)),I.aV,I.len⟩
def ExcAt(ex:Addr)(cls:Value)(h:Heap):Prop:=∃o,h.get? ex=some o/\o.cls=cls
def takes(K:aa)(C D:Addr):Prop:=PySem.W.mroIn K C (.ref D)=some true
section
variable {X:Cx}{i:Nat}{n y:Str}{Dc:Addr}{J4:List Value}{newD:String}{body zS:List Stmt}{b0:Stmt}{np sX pos:Pos}{tb:XK->TS}{th:TS}{Cs:Addr->Prop}
end
end L2
namespace L2
open PySem PySem.Spec PyProof.Rows PySem.W Builtin.Getset_descriptor
section
variable {prog:ah}{w:World}{A:aj}{E:Value->ae->Prop}{h:Heap}{g:Array GenState}{d:Drawn}{t:Nat}{os:OsState}{K:Frag}{x C:Addr}{o:Obj}
theorem QK{M:Model}(h1:h.get? x=some o)(h2:o.cls= .ref C):Looks M h (typeOf (.ref x)) (.ref C):=h2▸(Looks.ld h1).andThen .now
structure nM(K:Frag)(C:Addr):Prop where
 ga:findIn K (.ref C) "__getattribute__"=some (some (.builtin "BaseException.__getattribute__"))
 gx:findIn K (.ref C) "__getattr__"=some none
 cl:findIn K (.ref C) "__class__"=some (some (.builtin "object.__class__"))
 gt:specialIn K (.builtin "object.__class__") "__get__"=some (some (.builtin "getset_descriptor.__get__"))
 tk:takesIn K (.builtin "object.__class__")=some true
 ob:mroIn K C (.type "object")=some true
 be:mroIn K C (.type "BaseException")=some true
 is:hasDictIn K C=true
theorem a3k{M:Model}(X:K.In h)(k:nM K C):Looks M h (Builtin.ObjectAttr.find (.ref x) (.ref C) "__class__") (.bind (.builtin "getset_descriptor.__get__") (.builtin "object.__class__")):=by have L1:=looks_findIn (M:=M) X k.cl;have L2:Looks M h (Builtin.ObjectAttr.getOf (some (.builtin "object.__class__"))) (some (.builtin "getset_descriptor.__get__")):=looks_specialIn X k.gt;have L3:=looks_takesIn (M:=M) X k.tk;unfold Builtin.ObjectAttr.find;refine L1.andThen (L2.andThen ?_);have L4:Looks M h (Builtin.ObjectAttr.dataDescriptor? (some (.builtin "object.__class__")) (some (.builtin "getset_descriptor.__get__"))) (some (.builtin "getset_descriptor.__get__",.builtin "object.__class__")):=L3.andThen .now;exact L4.andThen (Looks.tag .now)
theorem a6R{M:Model}{OA:Value}{Q:Unit->ae->Prop}(X:K.In h)(k:nM K C)(L0:Looks M h (typeOf (.ref x)) (.ref C))(hq:Q () ⟨h,g,d,t,os⟩): wpAny M A (checkBuiltinCall "BaseException.__getattribute__" ⟨[.ref x,OA],[]⟩) Q E ⟨h,g,d,t,os⟩:=by
  have hk:builtinKind "BaseException.__getattribute__"=some .slot:=by decide+kernel
  have iZ:splitId "BaseException.__getattribute__"=some ("BaseException","__getattribute__"):=by decide+kernel
  have ha:=PySem.F.args_bexc_ga (.ref x) OA;have L1:=looks_mroIn (M:=M) X k.be;simp only[checkBuiltinCall,hk,iZ];refine aO ?_;unfold isInstance;refine aO (L0.at (L1.at ?_))
  repeat (first|assumption|wp_step)
theorem get_cls{R:Result->ae->Prop}{tp:Value}(X:K.In h)(k:nM K C)(L0:Looks (model prog w) h (typeOf (.ref x)) (.ref C))(hq:R (.ok (.ret (.ref C))) ⟨h,g,d,t,os⟩): codeAny (model prog w) A (.call (.builtin "getset_descriptor.__get__") ⟨[.builtin "object.__class__",.ref x,tp],[]⟩) R ⟨h,g,d,t,os⟩:=by
  have L1:=looks_mroIn (M:=model prog w) X k.ob;refine codeAny_call_builtin KF.slot_gs.plain KF.entry_gs (KF.slot_gs.check _ _ _ _ _ _ _ _ KF.type_class (KF.args_gs _ _ _) ?_);unfold Builtin.«getset_descriptor.__get__»descrGet;rw[dga_obj];refine aO (cg ?_);unfold descrGetter descrCheckInstance descrNameAndClass isInstance;simp only[KF.owner_class];repeat lk
  refine⟨Code.quiet_builtin _ (by decide+kernel),codeAny_builtin KF.entry_class ?_⟩;unfold Builtin.«object.__class__»shownTypeOf;repeat lk
  exact hq
theorem a6S{tk:Tok}{Q:Fin->ae->Prop}(X:K.In h)(k:nM K C)(L0:Looks (model prog w) h (typeOf (.ref x)) (.ref C)) (hq:Q (.done (.ret (.ref C))) ⟨h,g,d,t,os⟩):wpAny (model prog w) A (Builtin.«object.__getattribute__» ⟨[.ref x,.str "__class__" tk],[]⟩) Q E ⟨h,g,d,t,os⟩:=by have L1:=a3k (M:=model prog w) (x:=x) X k;refine aO (cg (aO (cg (aO (L0.at (aO (L1.at ?_)))))));show wpAny _ _ (Builtin.ObjectAttr.bindTo _ _ (.ref x) (.ref C)) _ _ _;unfold Builtin.ObjectAttr.bindTo;show wpAny _ _ (holding [_] (call (.builtin "getset_descriptor.__get__") [.builtin "object.__class__",.ref x,.ref C])>>=_) _ _ _;exact aO (uh (zk (get_cls X k L0 (cg hq))))
theorem a9q{Q:Option Value->ae->Prop}(X:K.In h)(k:nM K C)(L0:Looks (model prog w) h (typeOf (.ref x)) (.ref C)) (hq:Q (some (.ref C)) ⟨h,g,d,t+1,os⟩):wpAny (model prog w) A (getAttr? (.ref x) "__class__") Q E ⟨h,g,d,t,os⟩:=by
  have L1:=looks_findIn (M:=model prog w) X k.ga;have L2:=looks_findIn (M:=model prog w) X k.gx;have f3:=PySem.F.excAttr_ValueError.ga.bind (.ref x);have hx2:(Value.builtin "BaseException.__getattribute__"==Value.builtin "object.__getattribute__")=false:=by decide+kernel
  unfold getAttr? getAttrBy? getAttrBy;refine aO (wpAny_mkText (aO (wpAny_attempt (uh (aO (L0.at (aO (L1.at ?_))))))));show wpAny _ _ (if(onTheHeap (Value.ref C)&&Value.builtin "BaseException.__getattribute__"==Value.builtin "object.__getattribute__")=true then _ else _) _ _ _;rw[hx2,Bool.and_false,aZ (by decide)];unfold getAttrByItsOwn hookBefore;refine aO ?_;show wpAny _ _ (typeLookup (.ref C) "__getattr__") _ _ _;refine L2.at (aO (wpAny_attempt (uh ?_)));unfold callGetattribute;show wpAny _ _ (boundAndCalled _ _ _) _ _ _;unfold boundAndCalled;rw[f3];refine aO (cg (zk ?_));refine codeAny_call_builtin PySem.F.excAttr_ValueError.ga.plain PySem.F.entry_bexc_ga (a6R X k L0 (a6S X k L0 ?_));exact handed_on rfl (cg hq)
theorem Pa(k:nM K C):KitX K (.ref x) (.ref C) (ExcAt x (.ref C)) where
 ty:=fun M h _ p=>by obtain⟨o,h1,h2⟩:=p;exact QK h1 h2
 it:=fun _ _ X _=>by
  obtain⟨cd,hc,_⟩:=any_some k.is;unfold clsIn at hc;split at hc
  · rename_i c1 d1 cd1 XM ho
    intro A' Q' E' s' kk q;unfold isType loadHead;exact aO (wpAny_loadPart (kk _ _ (X _ _ ho)) (cg q))
  ·cases hc
 ne:=fun h tp dd its n sl X GZ=>by
  obtain⟨cd,hc,_⟩:=any_some k.is;refine wN.mpr fun q=>?_;have e:C=tp:=Value.ref.inj (fM.mp q);subst e;unfold clsIn at hc;split at hc
  · rename_i c1 d1 cd1 XM ho
    cases(X _ _ ho).symm.trans GZ
  ·cases hc
 ca:=fun{prog w A E Q s} X p q=>by obtain⟨o,h1,h2⟩:=p;obtain⟨h0,g0,d0,t0,os0⟩:=s;exact a9q X k (QK h1 h2) q
end
end L2
namespace L2
open PySem PySem.Spec PyProof.Rows
def a9r:V->Option Value | .ref D=>some (.ref D) | .ty n=>some (.type n) |_=>none
theorem K7:∀{Ds:List Addr}{us:List Value},Vals (Ds.map V.ref) us->us=Ds.map Value.ref |[],_,.nil=>rfl |n::r,_,.cons q t=>by cases(show _=Value.ref n from q);rw[K7 t];rfl
section
variable {X:Cx}
end
theorem a9N:bootBuiltins "ValueError"=some (.type "ValueError"):=by kernel_rfl
abbrev wu:List Value:=[.type "ValueError",.type "Exception",.type "BaseException",.type "object"]
abbrev xO:String:="ValueError.__new__"
end L2
namespace Ar
theorem a6Q(a b:Int):Int.gcd b (a.fmod b)=Int.gcd a b:=by rw[Int.fmod_def,Int.gcd_sub_mul_left_right,Int.gcd_comm]
theorem Qs{a b:Int}(h:0<b):Int.gcd b (a%b)=Int.gcd a b:=by rw[<-Int.fmod_eq_emod_of_nonneg a (JY h)];exact a6Q a b
def sg(p q:Int):Int:=if q<0 then-(Int.gcd p q:Int)else(Int.gcd p q:Int)
def lowP (p q:Int):Int:=p.fdiv (sg p q)
def gB (p q:Int):Int:=q.fdiv (sg p q)
theorem Bx{p q:Int}(h:q≠0):0<(Int.gcd p q:Int):=by
 have:Int.gcd p q≠0:=fun z=>h (Int.gcd_eq_zero_iff.mp z).2
 lia
theorem xp{p q:Int}(h:q≠0):sg p q≠0:=by have:=Bx (p:=p) h;unfold sg;split<;>omega
theorem LM(p q:Int):sg p q∣p:=by
 unfold sg;split
 ·exact Int.neg_dvd.mpr (Int.gcd_dvd_left p q)
 ·exact Int.gcd_dvd_left p q
theorem LL(p q:Int):sg p q∣q:=by
 unfold sg;split
 ·exact Int.neg_dvd.mpr (Int.gcd_dvd_right p q)
 ·exact Int.gcd_dvd_right p q
theorem Gy(p q:Int):sg p q*lowP p q=p:=by unfold lowP;rw[Int.fdiv_eq_ediv_of_dvd (LM p q)];exact Int.mul_ediv_cancel' (LM p q)
theorem AJ(p q:Int):sg p q*gB p q=q:=by unfold gB;rw[Int.fdiv_eq_ediv_of_dvd (LL p q)];exact Int.mul_ediv_cancel' (LL p q)
theorem LN(p q:Int):(sg p q).natAbs=Int.gcd p q:=by unfold sg;split<;>lia
theorem a3h{p q:Int}(h:q≠0):Int.gcd (lowP p q) (gB p q)=1:=by
 have e:Int.gcd (sg p q*lowP p q) (sg p q*gB p q)=(sg p q).natAbs*Int.gcd (lowP p q) (gB p q):=Int.gcd_mul_left _ _ _;rw[Gy,AJ,LN]at e;have g:=Bx (p:=p) h;have g':0<Int.gcd p q:=by lia
 have e':Int.gcd p q*1=Int.gcd p q*Int.gcd (lowP p q) (gB p q):=by lia
 exact(Nat.eq_of_mul_eq_mul_left g' e').symm
theorem a3i{p q:Int}(h:q≠0):0<gB p q:=by
 have e:=AJ p q;have g:=Bx (p:=p) h;by_cases hq:q<0
 · have es:sg p q=-(Int.gcd p q:Int):=by unfold sg;rw[aY hq]
   rw[es]at e;refine Int.not_le.mp fun hl=>?_;have:0<=-(Int.gcd p q:Int)*gB p q:=VO (by lia) hl
   lia
 · have es:sg p q=(Int.gcd p q:Int):=by unfold sg;rw[aZ hq]
   rw[es]at e;refine Int.not_le.mp fun hl=>?_;have:(Int.gcd p q:Int)*gB p q<=0:=Int.mul_nonpos_of_nonneg_of_nonpos (by lia) hl
   lia
theorem SE{s x y:Int}(hs:s≠0)(e:s*x=y):x.natAbs<=y.natAbs:=by rw[<-e,fF];exact Nat.le_mul_of_pos_left _ (by lia)
theorem a3j{p q:Int}(h:q≠0):(lowP p q).natAbs<=p.natAbs:=SE (xp h) (Gy p q)
theorem OP{p q:Int}(h:q≠0):(gB p q).natAbs<=q.natAbs:=SE (xp h) (AJ p q)
theorem LK{p q:Int}(h:q≠0):(sg p q).natAbs<=q.natAbs:=by rw[LN];exact Nat.le_of_dvd (by lia) (Int.gcd_dvd_natAbs_right p q)
end Ar
namespace Rt
open Rat
theorem AI{a b:Int}(hb:b≠0):Ar.lowP a b=(Rat.divInt a b).num/\Ar.gB a b=((Rat.divInt a b).den:Int):=by
 have hp:=Ar.a3i (p:=a) hb;have hc:=Ar.a3h (p:=a) hb;have Hu:(Ar.gB a b).natAbs≠0:=by lia
 have a5C:(Ar.lowP a b).natAbs.Coprime (Ar.gB a b).natAbs:=hc;have e1:Rat.divInt a b=Rat.divInt (Ar.lowP a b) (Ar.gB a b):=by have h:=Rat.divInt_mul_left (a:=Ar.sg a b) (n:=Ar.lowP a b) (d:=Ar.gB a b) (Ar.xp hb);rw[Ar.Gy,Ar.AJ]at h;exact h
 have e2:(⟨Ar.lowP a b,(Ar.gB a b).natAbs,Hu,a5C⟩:Rat)=Rat.divInt (Ar.lowP a b) (((Ar.gB a b).natAbs:Nat):Int):=Rat.mk_eq_divInt;have e3:(((Ar.gB a b).natAbs:Nat):Int)=Ar.gB a b:=by lia
 rw[e3]at e2;rw[e1,<-e2];exact⟨rfl,e3.symm⟩
theorem den_pos(r:Rat):(0:Int)<(r.den:Int):=by have:=r.den_pos;omega
structure Bd(n:Nat)(r:Rat):Prop where
 num:r.num.natAbs<2^n
 den:r.den<2^n
theorem Bd.mono{n m:Nat}{r:Rat}(h:Bd n r)(l:n<=m):Bd m r:=⟨fU h.num (qV (by decide) l),fU h.den (qV (by decide) l)⟩
theorem kG{a b n m:Nat}(h:a<2^n)(g:b<2^m):a*b<2^(n+m):=by rw[Nat.pow_add];exact Nat.mul_lt_mul'' h g
theorem ka{n:Nat}{a b:Int}(hb:b≠0)(h1:a.natAbs<2^n)(h2:b.natAbs<2^n):Bd n (Rat.divInt a b):=by
 obtain⟨e1,e2⟩:=AI (a:=a) hb;have l1:=Ar.a3j (p:=a) hb;have l2:=Ar.OP (p:=a) hb;refine⟨?_,?_⟩
 ·rw[<-e1];lia
 ·lia
theorem p4(r s:Rat):(r.den:Int)*(s.den:Int)≠0:=Int.ne_of_gt (iG (den_pos r) (den_pos s))
theorem add_div(r s:Rat):r+s=Rat.divInt (r.num*s.den+s.num*r.den) (r.den*s.den):=by have h:=Rat.divInt_add_divInt r.num s.num (d₁:=r.den) (d₂:=s.den) (by have:=den_pos r;lia) (by have:=den_pos s;lia);rw[qS,qS]at h;exact h
theorem Xo(r s:Rat):r-s=Rat.divInt (r.num*s.den-s.num*r.den) (r.den*s.den):=by have h:=Vx r.num s.num (d₁:=r.den) (d₂:=s.den) (by have:=den_pos r;lia) (by have:=den_pos s;lia);rw[qS,qS]at h;exact h
theorem mul_div(r s:Rat):r*s=Rat.divInt (r.num*s.num) (r.den*s.den):=by have h:=Vy r.num s.num (d₁:=r.den) (d₂:=s.den);rw[qS,qS]at h;exact h
section
variable {n m:Nat} {r s:Rat}
theorem a9b(h:Bd n r)(g:Bd m s):(r.num*s.den).natAbs<2^(n+m):=by rw[fF];exact kG h.num (by have:=g.den;omega)
theorem a9a(h:Bd n r)(g:Bd m s):(s.num*r.den).natAbs<2^(n+m):=by rw[fF,Nat.mul_comm];exact kG (by have:=h.den;lia) g.num
theorem IV(h:Bd n r)(g:Bd m s):((r.den:Int)*(s.den:Int)).natAbs<2^(n+m):=by rw[fF];exact kG (by have:=h.den;lia) (by have:=g.den;lia)
theorem Bd.add(h:Bd n r)(g:Bd m s):Bd (n+m+1) (r+s):=by
 rw[add_div];have h1:=a9b h g;have h2:=a9a h g;have h3:=IV h g;have e:2^(n+m+1)=2^(n+m)+2^(n+m):=by rw[Nat.pow_succ];omega
 exact ka (p4 r s) (by omega) (by omega)
theorem Bd.mul(h:Bd n r)(g:Bd m s):Bd (n+m) (r*s):=by rw[mul_div];exact ka (p4 r s) (by rw[fF];exact kG h.num g.num) (IV h g)
end
end Rt
namespace L2
open PySem PySem.Spec PyProof.Rows
def iB(H H':Hp):Prop:=∀b o,(∀xs,o≠ .lst xs)->H b=some o->H' b=some o
section
variable {K:aa} {H H' H2:Hp}
theorem iB.trans(a:iB H H')(b:iB H' H2):iB H H2:=fun c o n e=>b c o n (a c o n e)
theorem iB.pJ{D:Addr}{xs ys:List V}(h:H D=some (.lst xs)):iB H (upd H D (.lst ys)):=fun b o n e=>by rw[aK (xV e h (n xs))];exact e
theorem aP.t{a:Addr}{xs:List V}(s:iB H H')(h:aP K H a xs):aP K H' a xs:=h.imp (fun r=>r.imp (s _ _ fun _ z=>nomatch z) fun⟨o,e⟩=>⟨o,s _ _ (fun _ z=>nomatch z) e⟩) id
mutual
def fe:ai->Bool | .list _=>false | .dict _=>false | .tuple ds=>cK ds | .none=>true | .bool _=>true | .int _=>true | .str _=>true
def cK:List ai->Bool |[]=>true |d::ds=>fe d&&cK ds
end
theorem gZ:∀{ds:List ai},cK ds=true↔∀d∈ds,fe d=true
  |[]=>⟨fun _ _ h=>(nomatch h),fun _=>by simp[cK]⟩ |d::ds=>by
    rw[cK,eV,gZ (ds:=ds)];constructor
    · rintro⟨a,b⟩ x hx
      rcases bI.mp hx with rfl|hx
      ·exact a
      ·exact b x hx
    · intro h
      exact⟨h d (.head _),fun x hx=>h x (.tail _ hx)⟩
theorem kF(ns:List Int):cK (ns.map PyData.int)=true:=gZ.mpr fun d hd=>by obtain⟨i,_,rfl⟩:=jy.mp hd;simp[fe]
mutual
theorem RD.t(s:iB H H'):∀{x:V}(d:ai),fe d=true->RD K H x d->RD K H' x d |x,.none,_,h=>by simpa[RD]using h |x,.bool b,_,h=>by simpa[RD]using h |x,.int i,_,h=>by simpa[RD]using h |x,.str y,_,h=>by simpa[RD]using h |x,.list ds,n,h=>by simp[fe]at n |x,.tuple ds,n,h=>by rw[RD]at h⊢;obtain⟨a,xs,e,h1,h2⟩:=h;exact⟨a,xs,e,h1.t s,aI.t s ds (by simpa[fe]using n) h2⟩ |x,.dict _,_,h=>by simp[RD]at h
theorem aI.t (s:iB H H'):∀{xs:List V}(ds:List ai),cK ds=true->aI K H xs ds->aI K H' xs ds |xs,[],_,h=>by simpa[aI]using h |xs,d::ds,n,h=>by rw[aI]at h⊢;rw[cK,eV]at n;obtain⟨y,ys,e,h1,h2⟩:=h;exact⟨y,ys,e,RD.t s d n.1 h1,aI.t s ds n.2 h2⟩
end
theorem aI.iM:∀{xs:List V}{ns:List Int},aI K H xs (ns.map PyData.int)->xs=ns.map V.int |xs,[],h=>h.nil_inv |xs,n::ns,h=>by obtain⟨y,ys,rfl,h1,h2⟩:=h.cons_inv;rw[h1.int_inv,aI.iM h2];rfl
theorem uQ:∀(ns:List Int),aI K H (ns.map V.int) (ns.map PyData.int) |[]=>cL |n::ns=>bQ (dN n) (uQ ns)
theorem RN{J:It}{xs:List V}{ds:List ai}{te:TE}{Q:VK}{D:Addr}{H0:Hp}(rest:St)(nw:Nw H H0 D (.lst []))(hl:xs.length=ds.length)(hz:xs.length<=1000)(hn:cK ds=true) (go:∀i x H2,xs[i]? =some x->aB H H2->J.go i H2/\∀y H3,J.jA i H2 y H3->H3=H2/\y=x)(stop:∀H2,aB H H2->J.stop xs.length H2) (hs:∀(i:Nat)(x:V)(d:ai)(H2:Hp)(Q':VK),xs[i]? =some x->ds[i]? =some d->aB H H2->(∀y H3,aB H2 H3->RD K H3 y d->Q' y H3)->te (some x::rest) H2 Q') (hq:∀H' ys,aB H H'->H' D=some (.lst ys)->aI K H' ys ds->Q (.ref D) H'):iD J (eK 0) gO te Q D (none::rest) H0:=by
  have hD:=nw.no;refine qF xs.length (fun i Z H2=>aB H H2/\(∃ys,H2 D=some (.lst ys)/\aI K H2 ys (ds.take i))/\∃v,Z=v::rest) ?_ ?_ ?_
  ·exact⟨nw.same,⟨[],nw.at',cL⟩,none,rfl⟩
  · rintro i Z H2 hi ⟨s2,⟨ys,d2,r2⟩,v,rfl⟩
    have vL:i<ds.length:=by rw[<-hl];exact hi
    have ex:=bZ hi;have eb:=bZ vL;obtain⟨g1,g2⟩:=go i _ H2 ex s2;refine⟨g1,fun y H3 hy=>?_⟩;obtain⟨rfl,rfl⟩:=g2 y H3 hy;refine zD ?_;refine hs i _ _ _ _ ex eb s2 fun z H4 s4 r4=>?_;have d4:=s4 _ _ d2;have len:=r2.length;rw[nS]at len;refine⟨ys,d4,?_,xs.length-(i+1),by lia,rfl,by lia,fun b o e=>?_,⟨ys++[z],ba,?_⟩,_,rfl⟩
    · have:(1000:Nat)<sizeLine:=by decide
      lia
    ·rw[aK (fQ e hD)];exact s4 b o (s2 b o e)
    · have t:iB H4 (upd H4 D (.lst (ys++[z]))):=.pJ d4
      rw[pF,eb];have n1:cK (ds.take i)=true:=gZ.mpr fun d hd=>gZ.mp hn d (CB hd);exact(aI.t t _ n1 (aI.mono s4 _ r2)).append (bQ (RD.t t _ (gZ.mp hn _ (CF vL)) r4) cL)
  · rintro Z H2 ⟨s2,⟨ys,d2,r2⟩,v,rfl⟩
    refine⟨stop H2 s2,hq H2 ys s2 d2 ?_⟩;rw[hl,wK]at r2;exact r2
theorem BS{a:Addr}{xs:List V}{ds:List ai}{te:TE}{Q:VK}{D:Addr}{H0:Hp}(rest:St)(hx:aP K H a xs)(nw:Nw H H0 D (.lst []))(hl:xs.length=ds.length)(hz:xs.length<=1000)(hn:cK ds=true) (hs:∀(i:Nat)(x:V)(d:ai)(H2:Hp)(Q':VK),xs[i]? =some x->ds[i]? =some d->aB H H2->(∀y H3,aB H2 H3->RD K H3 y d->Q' y H3)->te (some x::rest) H2 Q') (hq:∀H' ys,aB H H'->H' D=some (.lst ys)->aI K H' ys ds->Q (.ref D) H'):iD (qM K a) (eK 0) gO te Q D (none::rest) H0:=RN rest nw hl hz hn (fun i x H2 e s=>⟨⟨xs,x,hx.go s,e⟩,fun y H3 ⟨e3,y3⟩=>⟨e3,by have:=y3 _ (hx.go s);rw[e]at this;exact(dG this).symm⟩⟩) (fun H2 s=>⟨xs,hx.go s,bF _⟩) hs hq
theorem a9h{lo:Int}{n:Nat}{ds:List ai}{te:TE}{Q:VK}{D:Addr}{H0:Hp}(rest:St)(nw:Nw H H0 D (.lst []))(hl:n=ds.length)(hz:n<=1000)(hn:cK ds=true) (hs:∀(i:Nat)(d:ai)(H2:Hp)(Q':VK),ds[i]? =some d->aB H H2->(∀y H3,aB H2 H3->RD K H3 y d->Q' y H3)->te (some (.int (lo+i))::rest) H2 Q') (hq:∀H' ys,aB H H'->H' D=some (.lst ys)->aI K H' ys ds->Q (.ref D) H'):iD (nK lo n) (eK 0) gO te Q D (none::rest) H0:=by
  have hx:∀i x,((List.range n).map fun i:Nat=>V.int (lo+i))[i]? =some x->i<n/\x= .int (lo+i):=fun i x e=>by rw[cu]at e;cases h:(List.range n)[i]? with |none=>rw[h]at e;cases e |some j=>rw[h]at e;obtain⟨h1,h2⟩:=dC.mp h;rw[ur]at h2;subst h2;exact⟨by simpa using h1,(dG e).symm⟩
  refine RN (xs:=(List.range n).map fun i:Nat=>V.int (lo+i)) rest nw (by simpa using hl) (by simpa using hz) hn (fun i x H2 e s=>?_) (fun H2 s=>?_) (fun i x d H2 Q' e1 e2 s k=>?_) hq
  · obtain⟨h1,rfl⟩:=hx i x e
    exact⟨h1,fun y H3 ⟨e3,y3⟩=>⟨e3,y3⟩⟩
  · show n<=_
    simp
  · obtain⟨h1,rfl⟩:=hx i x e1
    exact hs i d H2 Q' e2 s k
theorem tX{b1 b2:Bool}{l1 l2:Addr}{xs ys:List V}{ds:List ai}{te:TE}{Q:VK}{D:Addr}{H0:Hp}{n:Nat}(rest:St)(Be:n=2)(h1:eg b1 K H l1 xs)(h2:eg b2 K H l2 ys)(nw:Nw H H0 D (.lst [])) (hl:min xs.length ys.length=ds.length)(hz:ds.length<=1000)(hn:cK ds=true) (hs:∀(i:Nat)(x y:V)(d:ai)(H2:Hp)(Q':VK),xs[i]? =some x->ys[i]? =some y->ds[i]? =some d->aB H H2->(∀z H3,aB H2 H3->RD K H3 z d->Q' z H3)->te (some x::some y::rest) H2 Q') (hq:∀H' zs,aB H H'->H' D=some (.lst zs)->aI K H' zs ds->Q (.ref D) H'):iD (mj K b1 b2 l1 l2) (oU K n (jJ (eK 0) (jJ (eK 1) qz))) gO te Q D (none::none::rest) H0:=by
  subst Be;have hD:=nw.no;refine qF ds.length (fun i Z H2=>aB H H2/\(∃zs,H2 D=some (.lst zs)/\aI K H2 zs (ds.take i))/\∃v v',Z=v::v'::rest) ?_ ?_ ?_
  ·exact⟨nw.same,⟨[],nw.at',cL⟩,none,none,rfl⟩
  · rintro i Z H2 hi ⟨s2,⟨zs,d2,r2⟩,v,v',rfl⟩
    have hx:i<xs.length:=by lia
    have hy:i<ys.length:=by lia
    have ex:=bZ hx;have ey:=bZ hy;have eb:=bZ hi;refine⟨⟨xs,ys,_,_,h1.go s2,h2.go s2,ex,ey⟩,fun y' H3 jH=>?_⟩;obtain⟨T,x0,y0,rfl,k1,k2,n3⟩:=jH;have e1:=k1 _ (h1.go s2);have e2:=k2 _ (h2.go s2);rw[ex]at e1;rw[ey]at e2;cases e1;cases e2;refine⟨T,_,rfl,aP.of n3.at',rfl,_,_,rfl,_,_,rfl,rfl,?_⟩;refine yes (bT ?_);refine hs i _ _ _ _ _ ex ey eb (s2.trans n3.same) fun z H4 s4 r4=>?_;have og:=n3.same.trans s4;have d4:=og _ _ d2;have len:=r2.length;rw[nS]at len;refine⟨zs,d4,?_,ds.length-(i+1),by lia,rfl,by lia,fun b o e=>?_,⟨zs++[z],ba,?_⟩,_,_,rfl⟩
    · have:(1000:Nat)<sizeLine:=by decide
      lia
    ·rw[aK (fQ e hD)];exact og b o (s2 b o e)
    · have t:iB H4 (upd H4 D (.lst (zs++[z]))):=.pJ d4
      rw[pF,eb];have n1:cK (ds.take i)=true:=gZ.mpr fun d hd=>gZ.mp hn d (CB hd);exact(aI.t t _ n1 (aI.mono og _ r2)).append (bQ (RD.t t _ (gZ.mp hn _ (CF hi)) r4) cL)
  · rintro Z H2 ⟨s2,⟨zs,d2,r2⟩,v,v',rfl⟩
    refine⟨⟨xs,ys,h1.go s2,h2.go s2,by lia⟩,hq H2 zs s2 d2 ?_⟩;rw[wK]at r2;exact r2
end
theorem Pm:∀{ns:List Int}{us:List Value},Vals (ns.map V.int) us->(∀v∈us,∃a t,v=Value.int a t)/\numsOf us=ns
  |[],_,.nil=>⟨fun _ h=>(nomatch h),rfl⟩ |n::ns,_,.cons q r=>by
    obtain⟨t,rfl⟩:=(show∃t,_=Value.int n t from q);obtain⟨h1,h2⟩:=Pm r;refine⟨fun v hv=>?_,?_⟩
    · rcases bI.mp hv with rfl|hv
      ·exact⟨n,t,rfl⟩
      ·exact h1 v hv
    · show n::numsOf _=_
      rw[h2]
section
variable {X:Cx}
theorem Gu(K:aa)(hK:X.K=K)(hc:X.calm=true):fh X (.builtin "max") (fun xs H Q=>∃(l:Addr)(ns:List Int),xs=[.ref l]/\aE K H l (ns.map V.int)/\ns≠[]/\∀M,M∈ns->(∀a∈ns,a<=M)->Q (.int M) H):=by
 subst hK;intro au s Z H xs us Q I r h;obtain⟨l,ns,rfl,hl,dy,q⟩:=h;obtain⟨u,rfl,ru⟩:=vals1 r;cases(show u=Value.ref l from ru);obtain⟨its,rv,pl,hz⟩:=I.list hl;obtain⟨a1,a2⟩:=Pm rv;have all:AllInts its.toArray:=fun v hv=>a1 v (by simpa using hv);obtain⟨ps,PJ⟩:=all.items;have e0:numsOf (intItems ps).toList=ns:=by rw[<-PJ];exact a2
 rw[nums_intItems]at e0;have hlen:ps.size=ns.length:=by rw[<-e0,cj,zx]
 have sX:0<ps.size:=by rw[hlen];exact JQ.mpr dy
 refine max_intList (I.ok.hd hc) (by rw[<-PJ];exact pl.isList) sX fun v h' tk hv hk=>?_;obtain⟨t,rfl⟩:=intItems_at hv;obtain⟨h1,h2⟩:=argBest_gt (numAt ps) (ps.size-1);refine⟨.int _,H,I.kept hk,⟨_,rfl⟩,q _ ?_ fun a ha=>?_⟩
 ·rw[numAt_eq,e0];exact getD_mem (by omega)
 · obtain⟨j,hj,rfl⟩:=mem_getD ha
   rw[<-e0,<-numAt_eq];exact h2 j (by omega)
theorem Po{ns:List Int}{us:List Value}(r:Vals (ns.map V.int) us){i:Nat}{v:Value}(h:us[i]? =some v):∃n t,ns[i]? =some n/\v=Value.int n t:=by
 have hl:=r.length;rw[cj]at hl;have hi:i<ns.length:=by rw[hl];exact(dC.mp h).1
 obtain⟨u,e,ru⟩:=r.get (i:=i) (x:=.int ns[i]) (by rw[cu,bZ hi];rfl);rw[h]at e;cases e;obtain⟨t,rfl⟩:=(show∃t,v=Value.int ns[i] t from ru);exact⟨_,t,bZ hi,rfl⟩
theorem Zd(ns:List Int):((List.range ns.length).any fun i=>((ns.map (· !=0))[i]?).getD false)=ns.any (· !=0):=by have:=LSm.range_any (ns.map (· !=0));rw[cj]at this;rw[this,List.any_map];rfl
theorem aa6(K:aa)(hK:X.K=K)(hc:X.calm=true):fh X (.builtin "any") (fun xs H Q=>∃(l:Addr)(ns:List Int),xs=[.ref l]/\(aE K H l (ns.map V.int)\/aP K H l (ns.map V.int))/\Q (.bl (ns.any (· !=0))) H):=by
 subst hK;intro au s Z H xs us Q I r h;obtain⟨l,ns,rfl,hl,q⟩:=h;obtain⟨u,rfl,ru⟩:=vals1 r;cases(show u=Value.ref l from ru);have hh:=I.ok.hd hc;have fin:∀(its:List Value),Vals (ns.map V.int) its->((List.range its.toArray.size).any fun i=>((ns.map (· !=0))[i]?).getD false)=ns.any (· !=0):=fun its rv=>by rw[dX,<-rv.length,cj];exact Zd ns
 rcases hl with hl|hl
 · obtain⟨its,rv,pl,hz⟩:=I.list hl
   have dM:=pl.isList;have cy:l<s.heap.objs.size:=by obtain⟨_,e,_⟩:=dM;exact cw e
   refine call_any_walk (Co dM ?_);refine⟨s.heap.objs.size,[s.heap.objs.size,l],[s.heap.objs.size],its.toArray.size,_,_,fun i=>((ns.map (· !=0))[i]?).getD false,rfl,Walks.list (A:=X.A.in1) hh _ l (fm cy) its.toArray,⟨⟨_,eh _ rfl,rfl,rfl⟩,dM.push _⟩,fun i v s' Q' E' hP hQ=>?_,fun h' tk hk=>?_⟩
   · obtain⟨n,t,e,rfl⟩:=Po rv (i:=i) (v:=v) (by simpa using hP)
     simp only[cu,e]at hQ;exact truthy_int hQ
   · rw[fin its rv]
     exact⟨.bl _,H,I.kept (LSm.kept_iter hk),rfl,q⟩
 · obtain⟨its,rv,pl,hz⟩:=I.tuple hl
   have dM:s.heap.IsTuple l its.toArray:=by obtain⟨⟨cls,dd,data,sl⟩,ho,iy,n,hd⟩:=pl;exact⟨_,ho,iy,by simpa using⟨n,hd⟩⟩
   have cy:l<s.heap.objs.size:=by obtain⟨_,e,_⟩:=dM;exact cw e
   refine call_any_walk (wpAny_pyIter_tuple dM ?_);refine⟨s.heap.objs.size,[s.heap.objs.size,l],[s.heap.objs.size],its.toArray.size,_,_,fun i=>((ns.map (· !=0))[i]?).getD false,rfl,Walks.tuple (A:=X.A.in1) hh _ l (fm cy) its.toArray,⟨⟨_,eh _ rfl,rfl,rfl⟩,dM.push _⟩,fun i v s' Q' E' hP hQ=>?_,fun h' tk hk=>?_⟩
   · obtain⟨n,t,e,rfl⟩:=Po rv (i:=i) (v:=v) (by simpa using hP)
     simp only[cu,e]at hQ;exact truthy_int hQ
   · rw[fin its rv]
     exact⟨.bl _,H,I.kept (LSm.kept_iter hk),rfl,q⟩
end
end L2
set_option maxHeartbeats 1000000
namespace Lw
open PySem PySem.Spec PyProof.Rows L2
def SW(c m:Int):Prop:=0<=c/\0<=m/\m<2147483648
def gh(H:Hp)(p:Addr):Prop:=∃c m,H p=some (.lst [.int c,.int m])/\SW c m
structure bS(p:Addr)(H H':Hp):Prop where
 bK:gh H' p
 same:∀b o,b≠p->H b=some o->H' b=some o
theorem bS.refl{p:Addr}{H:Hp}(h:gh H p):bS p H H:=⟨h,fun _ _ _ e=>e⟩
theorem bS.trans{p:Addr}{H H1 H2:Hp}(a:bS p H H1)(b:bS p H1 H2):bS p H H2:=⟨b.bK,fun c o n e=>b.same c o n (a.same c o n e)⟩
theorem bS.upd{p:Addr}{H:Hp}{c m:Int}(h:SW c m):bS p H (L2.upd H p (.lst [.int c,.int m])):=⟨⟨c,m,ba,h⟩,fun b o n e=>by rw[aK n];exact e⟩
theorem bS.jg{p:Addr}{H H':Hp}(h:gh H p)(s:aB H H'):bS p H H':=by obtain⟨c,m,e,ok⟩:=h;exact⟨⟨c,m,s _ _ e,ok⟩,fun b o _ e=>s b o e⟩
theorem K5{j:Int}(h0:0<=j)(h:j<=10^40):Wd j:=by
 have:j.natAbs<=10^40:=by lia
 exact pD this (by decide+kernel)
theorem gh.ne{H:Hp}{p:Addr}(h:gh H p):H p≠none:=by obtain⟨c,m,e,_⟩:=h;rw[e];exact fun z=>nomatch z
theorem gh.a2s{H:Hp}{p:Addr}{q:Addr}{o:HO}(h:gh H p)(e:H q=some o)(n:∀xs,o≠ .lst xs):q≠p:=by obtain⟨c,m,e',_⟩:=h;exact xV e e' (n _)
theorem bS.t{p:Addr}{H H':Hp}(bg:gh H p)(b:bS p H H'):iB H H':=fun c o n e=>b.same c o (bg.a2s e n) e
theorem bS.N1{p:Addr}{H0 H H':Hp}(s:aB H0 H)(hp:H0 p=none)(b:bS p H H'):aB H0 H':=fun c o e=>b.same c o (fQ e hp) (s c o e)
section
variable {K:aa}
theorem a9n{J:It}{te:TE}{Q:VK}{D p:Addr}{H H0:Hp}(n:Nat)(rest:L2.St)(nw:Nw H H0 D (.lst []))(bg:gh H p)(hn:n<=1000)(xv:Nat->V) (go:∀i H2,i<n->bS p H H2->J.go i H2/\∀y H3,J.jA i H2 y H3->H3=H2/\y=xv i)(stop:∀H2,bS p H H2->J.stop n H2)(Pz:Int->Prop) (hs:∀i H2 (Q':VK),i<n->bS p H H2->(∀z H3,Pz z->bS p H2 H3->Q' (.int z) H3)->te (some (xv i)::rest) H2 Q') (hq:∀H' (is:List Int),bS p H H'->H' D=some (.lst (is.map V.int))->is.length=n->(∀z∈is,Pz z)->Q (.ref D) H'):iD J (eK 0) gO te Q D (none::rest) H0:=by
  have yA:D≠p:=fun e=>bg.ne (e▸nw.no);refine qF n (fun i Z H3=>bS p H H3/\(∃is:List Int,H3 D=some (.lst (is.map V.int))/\is.length=i/\∀z∈is,Pz z)/\∃v,Z=v::rest) ?_ ?_ ?_
  ·exact⟨.jg bg nw.same,⟨[],nw.at',rfl,fun _ h=>(cC h).elim⟩,none,rfl⟩
  · rintro i Z H3 hi ⟨b3,⟨is,d3,li,pi⟩,v,rfl⟩
    obtain⟨g1,g2⟩:=go i H3 hi b3;refine⟨g1,fun y H4 hy=>?_⟩;obtain⟨rfl,rfl⟩:=g2 y H4 hy;refine zD ?_;refine hs i _ _ hi b3 fun z H5 pz b5=>?_;refine⟨_,b5.same _ _ yA d3,?_,n-(i+1),by lia,rfl,by lia,?_,⟨is++[z],?_,?_,?_⟩,_,rfl⟩
    · rw[cj,li]
      have:(1000:Nat)<sizeLine:=by decide
      lia
    · have yQ:=b3.trans b5
      refine⟨?_,fun b o n e=>?_⟩
      · obtain⟨c,m,e,ok⟩:=yQ.bK
        exact⟨c,m,by rw[aK yA.symm];exact e,ok⟩
      ·rw[aK (fQ e nw.no)];exact yQ.same b o n e
    ·rw[ba,nR];rfl
    ·rw[fo,li];rfl
    · intro y hy
      rcases uo.mp hy with h|h
      ·exact pi y h
      ·rw[cm.mp h];exact pz
  · rintro Z H3 ⟨b3,⟨is,d3,li,pi⟩,v,rfl⟩
    exact⟨stop H3 b3,hq H3 is b3 d3 li pi⟩
theorem a48(ns:List Int){i:Int}(h0:0<=i)(h:i<ns.length):∃z,z∈ns/\fA (ns.map V.int) i=some (.int z):=by
 have hl:i.toNat<ns.length:=by omega
 exact⟨ns[i.toNat],CF hl,cW h0 (by rw[cu,bZ hl];rfl)⟩
theorem RM{J:It}{te:TE}{Q:VK}{D p:Addr}{H H0:Hp}(n:Nat)(rest:L2.St)(nw:Nw H H0 D (.lst []))(bg:gh H p)(hn:n<=1000)(xv:Nat->V) (go:∀i H2,i<n->bS p H H2->J.go i H2/\∀y H3,J.jA i H2 y H3->H3=H2/\y=xv i)(stop:∀H2,bS p H H2->J.stop n H2)(Pd:Nat->ai->Prop) (hs:∀i H2 (Q':VK),i<n->bS p H H2->(∀y d H3,Pd i d->fe d=true->RD K H3 y d->bS p H2 H3->Q' y H3)->te (some (xv i)::rest) H2 Q') (hq:∀H' ys ds,bS p H H'->H' D=some (.lst ys)->aI K H' ys ds->ds.length=n->cK ds=true->(∀i d,ds[i]? =some d->Pd i d)->Q (.ref D) H'):iD J (eK 0) gO te Q D (none::rest) H0:=by
  have yA:D≠p:=fun e=>bg.ne (e▸nw.no);refine qF n (fun i Z H3=>bS p H H3/\(∃ys ds,H3 D=some (.lst ys)/\aI K H3 ys ds/\ds.length=i/\cK ds=true/\∀j d,ds[j]? =some d->Pd j d)/\∃v,Z=v::rest) ?_ ?_ ?_
  ·exact⟨.jg bg nw.same,⟨[],[],nw.at',cL,rfl,rfl,fun j d e=>by simp at e⟩,none,rfl⟩
  · rintro i Z H3 hi ⟨b3,⟨ys,ds,d3,r3,li,ni,pi⟩,v,rfl⟩
    obtain⟨g1,g2⟩:=go i H3 hi b3;refine⟨g1,fun y H4 hy=>?_⟩;obtain⟨rfl,rfl⟩:=g2 y H4 hy;refine zD ?_;refine hs i _ _ hi b3 fun z d H5 pz nz rz b5=>?_;have d5:=b5.same _ _ yA d3;have t:iB H5 (L2.upd H5 D (.lst (ys++[z]))):=.pJ d5;refine⟨ys,d5,?_,n-(i+1),by lia,rfl,by lia,?_,⟨ys++[z],ds++[d],ba,?_,?_,?_,?_⟩,_,rfl⟩
    · rw[r3.length,li]
      have:(1000:Nat)<sizeLine:=by decide
      lia
    · have yQ:=b3.trans b5
      refine⟨?_,fun b o n e=>?_⟩
      · obtain⟨c,m,e,ok⟩:=yQ.bK
        exact⟨c,m,by rw[aK yA.symm];exact e,ok⟩
      ·rw[aK (fQ e nw.no)];exact yQ.same b o n e
    ·exact(aI.t ((bS.t b3.bK b5).trans t) _ ni r3).append (bQ (RD.t t _ nz rz) cL)
    ·rw[fo,li];rfl
    ·exact gZ.mpr fun x hx=>by
        rcases uo.mp hx with h|h
        ·exact gZ.mp ni x h
        ·rw[cm.mp h];exact nz
    · intro j e he
      by_cases hj:j<ds.length
      · rw[wM hj]at he
        exact pi j e he
      · have oN:j=ds.length:=by
          have:=(dC.mp he).1;rw[fo]at this;have:j<ds.length+1:=this
          lia
        subst oN;rw[zt (bF _),JI]at he;cases he;rw[li];exact pz
  · rintro Z H3 ⟨b3,⟨ys,ds,d3,r3,li,ni,pi⟩,v,rfl⟩
    exact⟨stop H3 b3,hq H3 ys ds b3 d3 r3 li ni pi⟩
end
end Lw
namespace Ln
open PySem L2
def iA(i:Int):Int:=if i<0 then-i else i
theorem yT(i:Int):iA i=(i.natAbs:Int):=by unfold iA;split<;>lia
def aF(ns:List Int):Nat:=ns.foldr (fun z m=>max z.natAbs m) 0
theorem GG:∀{ns:List Int}{z:Int},z∈ns->z.natAbs<=aF ns
  |n::ns,z,h=>by
    show z.natAbs<=max n.natAbs (aF ns);rcases bI.mp h with rfl|h
    ·exact Nat.le_max_left _ _
    ·exact ib (GG h) (Nat.le_max_right _ _)
theorem GF:∀{ns:List Int},ns≠[]->∃z∈ns,z.natAbs=aF ns
  |[],h=>absurd rfl h |[n],_=>⟨n,.head _,by show n.natAbs=max n.natAbs 0;lia⟩ |n::m::ns,_=>by
    obtain⟨z,hz,e⟩:=GF (ns:=m::ns) (by simp);by_cases h:n.natAbs<=aF (m::ns)
    ·exact⟨z,.tail _ hz,by show _=max n.natAbs (aF (m::ns));lia⟩
    ·exact⟨n,.head _,by show _=max n.natAbs (aF (m::ns));lia⟩
theorem mO{ns:List Int}{m:Nat}(h:∀z∈ns,z.natAbs<=m):aF ns<=m:=by cases ns with |nil=>exact fT _ |cons a r=>obtain⟨z,hz,e⟩:=GF (ns:=a::r) (by simp);rw[<-e];exact h z hz
theorem a3x{ns:List Int}(h:∃z∈ns,z≠0):0<aF ns:=by
 obtain⟨z,hz,h0⟩:=h;have:=GG hz
 lia
theorem GD{ns:List Int}(dy:ns≠[]){M:Int}(h1:M∈ns.map iA)(h2:∀a∈ns.map iA,a<=M):M=(aF ns:Int):=by
 obtain⟨z,hz,e⟩:=jy.mp h1;obtain⟨y,hy,ey⟩:=GF dy;have a1:=GG hz;have a2:=h2 (iA y) (jy.mpr ⟨y,hy,rfl⟩);rw[yT]at e a2
 lia
def kz(p q:Int):Int:=(2*(p.natAbs:Int)+q)/(2*q)
def hJ(p q:Int):Int:=if p>=0 then kz p q else-kz p q
structure wy(x p q:Int):Prop where
 lo:-q<=2*(x*q-p)
 hi:2*(x*q-p)<=q
 g9:2*(x*q-p)=q\/2*(x*q-p)=-q->p.natAbs<=(x*q).natAbs
theorem XN{p q:Int}(hq:0<q):2*q*kz p q<=2*(p.natAbs:Int)+q/\2*(p.natAbs:Int)+q<2*q*kz p q+2*q:=by have h:=Int.mul_ediv_add_emod (2*(p.natAbs:Int)+q) (2*q);have h0:=pH (2*(p.natAbs:Int)+q) (show 2*q≠0 by omega);have h1:=uw (2*(p.natAbs:Int)+q) (show 0<2*q by omega);unfold kz;constructor<;>omega
theorem XO{p q:Int}(hq:0<q):0<=kz p q:=Int.ediv_nonneg (by lia) (by lia)
theorem near_is{p q:Int}(hq:0<q):wy (hJ p q) p q:=by
 obtain⟨h1,h2⟩:=XN (p:=p) hq;have h0:=XO (p:=p) hq;rw[uv,JW q]at h1 h2;have hs0:0<=kz p q*q:=jz h0 (JY hq);unfold hJ;split
 ·refine⟨?_,?_,fun h=>?_⟩<;>(generalize kz p q*q=s at*;omega)
 ·refine⟨?_,?_,?_⟩<;>rw[Int.neg_mul]<;>(generalize kz p q*q=s at*;omega)
theorem xY{x y q:Int}(hq:0<q)(h:x<y):x*q+q<=y*q:=by have:(x+1)*q<=y*q:=aaE (by lia) (by lia);rw[Int.add_mul,kr]at this;exact this
theorem a2q{x y p q:Int}(hq:0<q)(a:wy x p q)(b:wy y p q):x=y:=by
 have key:∀{x y:Int},wy x p q->wy y p q->¬x<y:=fun{x y} a b h=>by
  have g:=xY hq h;have e1:=a.lo;have e2:=a.hi;have e3:=b.lo;have e4:=b.hi;have f1:=a.g9;have f2:=b.g9;have hx:x*q=0\/q<=x*q\/x*q<=-q:=by
   rcases VP x 0 with h|h|h
   ·have:=xY hq h;lia
   ·left;rw[h,zv]
   ·have:=xY hq h;lia
  have hy:y*q=0\/q<=y*q\/y*q<=-q:=by
   rcases VP y 0 with h|h|h
   ·have:=xY hq h;lia
   ·left;rw[h,zv]
   ·have:=xY hq h;lia
  generalize x*q=u at*;generalize y*q=v at*;have hu:=f1 (by lia);have hv:=f2 (by lia)
  lia
 rcases VP x y with h|h|h
 ·exact absurd h (key a b)
 ·exact h
 ·exact absurd h (key b a)
theorem Ou{x p q:Int}(hq:0<q)(a:wy x p q):x=hJ p q:=a2q hq a (near_is hq)
theorem Gj{q:Int}(hq:0<q):hJ 0 q=0:=(Ou hq ⟨by lia,by lia,fun h=>by lia⟩).symm
theorem a2r{n q:Int}(hq:0<q):hJ (q*n) q=n:=by refine(Ou hq ⟨?_,?_,?_⟩).symm<;>rw[JW n q]<;>lia
end Ln
namespace L2
open PySem PySem.Spec PyProof.Rows
abbrev BL(b:Bool)(h:Heap)(l:Addr):Heap:=h.push {cls:=.type (qG b),data:=.fields #[.ref l,.int 0 0]}
abbrev II(b:Bool)(h:Heap)(l:Addr):Heap:=(BL b h l).push {cls:=.type "enumerate",data:=.fields #[.none,.bool false,.ref h.objs.size,rawInt 0,.none,.none]}
theorem a8A(b:Bool)(l:Addr)(xs:Array Value):Meets (Builtin.«enumerate.__new__» ⟨[.type "enumerate",.ref l],[]⟩) (fun _ R s=>gJ b s.heap l xs/\R (.ok (.ret (.ref (BL b s.heap l).objs.size))) {s with heap:=II b s.heap l}):=.of_wp fun prog w A R s h=>by
   obtain⟨hp,gg,d,tk,os⟩:=s;obtain⟨hl,h⟩:=h;have Ha:=sub_enumerate;have hL:gJ b (Shared.heap ⟨hp,gg,d,tk,os⟩) l xs:=hl
   wp_walk using vj hL;refine wpAny_stack_any fun st=>cg ?_;split
   · rename_i c _ _ _ _ _
     cases(c==Value.type "enumerate")
     · wp_walk using vj hL
       exact⟨_,rfl,h⟩
     · wp_walk using vj hL
       exact⟨_,rfl,h⟩
   · wp_walk using vj hL
     exact⟨_,rfl,h⟩
section
variable {prog:ah}{w:World}{A:aj}{E:Value->ae->Prop}{s:ae}
theorem a8B{b:Bool}{l:Addr}{xs:Array Value}{Q:Value->ae->Prop}(hl:gJ b s.heap l xs) (q:∀g,IsEnum g (s.heap.objs.size+1) s.heap.objs.size 0 .none->jP b g s.heap.objs.size l 0->(∀c o,s.heap.get? c=some o->g.get? c=some o)->Q (.ref (s.heap.objs.size+1)) {s with heap:=g}): wpAny (model prog w) A (call (.type "enumerate") [.ref l]) Q E s:=by refine callType_new PySem.F.called_enumerate (by decide) (PySem.F.typeCall_enumerate_1 _) (PySem.F.newCall_enumerate_1 _) (fun obj=>PySem.F.args_object_init_2 obj _) PySem.F.entry_enumerate_new (a8A b l xs) ⟨hl,?_⟩;have z1:(BL b s.heap l).objs.size=s.heap.objs.size+1:=qZ ..;have g2:(II b s.heap l).get? (BL b s.heap l).objs.size=some _:=eh _ rfl;have g1:(II b s.heap l).get? s.heap.objs.size=some _:=cn _ (eh _ rfl);show _/\_;rw[z1]at g2⊢;refine⟨⟨_,g2,rfl⟩,q _ g2 ?_ fun c o e=>cn _ (cn _ e)⟩;cases b<;>exact⟨_,g1,rfl,rfl⟩
theorem QZ{b:Bool}{it l:Addr}{xs:Array Value}(hh:A.handled=none)(ne:l≠it):Draws prog w A it [it,l] xs.size (fun i x=>xs[i]? =some x) (fun i h=>jP b h it l i/\gJ b h l xs) where
 live:=fun i h st=>by obtain⟨o,e,_⟩:=st.1.ob;exact⟨o,e⟩
 frame:=fun i h h' st k=>⟨st.1.to fun o e=>k it (by simp) o e,st.2.to fun o e=>k l (by simp) o e⟩
 item:=fun i s Q E hi st hQ=>Au st.1 st.2 (x:=xs[i]) (by simp[hi]) fun g gi sb=>hQ _ g s.toks (by simp[hi]) ⟨gi,st.2.to fun o e=>sb.extBut _ _ ne e⟩ sb
 done:=fun s Q E st hE=>IH hh st.1 st.2 (by simp) fun g e a b=>hE g e a b
end
def zb(K:aa)(b:Bool)(l:Addr):It:=⟨fun i H=>∃xs x,eg b K H l xs/\xs[i]? =some x,fun i H v H'=>∃T x,v= .ref T/\(∀xs,eg b K H l xs->xs[i]? =some x)/\Nw H H' T (.tup [.int i,x]),fun i H=>∃xs,eg b K H l xs/\xs.length=i⟩
theorem WC{P:ah}{w:World}{K:aa}{elts:List Expr}{kt:Nat}{pos:Pos}{b:Bool}{e it l:Addr}(D:e≠it): Turn P w K (.Tuple elts kt pos) (zb K b l) [e,it] e (fun i h=>(∃old,IsEnum h e it i old)/\jP b h it l i) where
  mem:=by simp
  obj:=fun i h st c hc=>by
   obtain⟨⟨old,he⟩,h1⟩:=st;simp only[bI,cC,dv]at hc;rcases hc with rfl|rfl
   ·exact⟨_,he,fun v e=>by cases e⟩
   ·obtain⟨o,e,_,n⟩:=h1.ob;exact⟨o,e,n⟩
  keep:=fun i h h' st k=>by obtain⟨⟨old,he⟩,h1⟩:=st;exact⟨⟨old,k e (by simp) _ he⟩,h1.to fun o q=>k it (by simp) o q⟩
  item:=by
   intro X hP hw hK hc i au s Z H E I hf st hg;subst hP hw hK;obtain⟨xs,x,q1,e1⟩:=hg;obtain⟨its,r1,p1⟩:=q1.get I;obtain⟨u1,fR,kC⟩:=r1.get e1;obtain⟨⟨old,he⟩,h1⟩:=st;obtain⟨oi,kL,ci,_⟩:=h1.ob;have GH:∃o,s.heap.get? l=some o/\(o.cls= .type "list"\/o.cls= .type "tuple"):=by cases b<;>(obtain⟨o,ho,cc,_⟩:=p1;first|exact⟨o,ho,.inl cc⟩|exact⟨o,ho,.inr cc⟩)
   obtain⟨ol,tj,cl⟩:=GH;have nel:e≠l:=fun z=>by subst z;rw[he]at tj;cases tj;rcases cl with h|h<;>simp at h
   have nil:l≠it:=fun z=>by subst z;rw[kL]at tj;cases tj;rw[ci]at cl;cases b<;>(rcases cl with h|h<;>simp[qG]at h)
   have cy:i<its.toArray.size:=by rw[dX,<-r1.length];exact(dC.mp e1).1
   refine wpAny_pyNext_enum_itemD (QZ (I.ok.hd hc) nil) he ⟨h1,p1⟩ cy D (by simp[D,nel]) fun y h' tk hPy ho gG hT hsz kp=>⟨_,rfl,?_⟩;have ey:y=u1:=by
    have a1:its.toArray[i]? =some y:=hPy;have a2:its.toArray[i]? =some u1:=by simpa using fR
    rw[a1]at a2;exact dG a2
   subst ey;refine wpAny_letOwnedTupleGo_enum ho fun g' Ht sb=>?_;have hs:=sb.extBut;have elt:e<s.heap.objs.size:=cw he;have ilt:it<s.heap.objs.size:=cw kL;have nw:Nw H (upd H s.heap.objs.size (.tup [.int i,x])) s.heap.objs.size (.tup [.int i,x]):=.of (I.aV.fresh (bF _));have I1:Inv X au Z (upd H s.heap.objs.size (.tup [.int i,x])) {s with heap:=s.heap.push {cls:=.type "tuple",data:=.seq #[.int i tk,y]},toks:=tk+1}:=I.laid (t':=tk+1) (fun b ob q=>cn _ q) (bF _) ⟨by show 2<=sizeLine;decide,[.int i tk,y],.cons ⟨tk,rfl⟩ (.cons kC .nil),⟨_,eh _ rfl,rfl,_,rfl⟩⟩;have AE:∀c∈[e,it],c<s.heap.objs.size:=fun c hc=>by
    simp only[bI,cC,dv]at hc;rcases hc with rfl|rfl
    ·exact elt
    ·exact ilt
   have hn:∀c∈[e,it],upd H s.heap.objs.size (.tup [.int i,x]) c=none:=fun c hc=>by rw[aK (fm (AE c hc))];exact(hf c hc).1
   have I2:Inv X au Z (upd H s.heap.objs.size (.tup [.int i,x])) {s with heap:=g',toks:=tk+1}:=Inv.wY (s:={s with heap:=s.heap.push {cls:=.type "tuple",data:=.seq #[.int i tk,y]},toks:=tk+1}) (t':=tk+1) (fp:=[e,it]) I1 (fun c o hc q=>by
    have q:(s.heap.push {cls:=.type "tuple",data:=.seq #[.int i tk,y]}).get? c=some o:=q;have nz:c≠e:=fun z=>hc (by simp[z]);rcases Heap.get?_push_cases q with⟨vP,rfl⟩|q'
    · subst vP
      exact hs _ _ nz hT
    ·exact hs _ _ nz (kp c o nz (fun z=>hc (by simp[z])) q')) (fun c hc=>by obtain⟨f0,f1,f2,f3,f4,f5⟩:=hf c hc;exact⟨hn c hc,f1,f2,f3,f4,f5⟩);refine⟨.ref s.heap.objs.size,_,I2,rfl,⟨s.heap.objs.size,x,rfl,fun zs hz=>?_,nw⟩,⟨⟨_,by simpa using Ht⟩,gG.1.to fun o q=>hs _ o (eR D) q⟩,hn⟩;rw[eg.inj I hz q1];exact e1
  done:=by
   intro X hP hw hK hc i au s Z H E I hf st hg;subst hP hw hK;obtain⟨xs,q1,oP⟩:=hg;obtain⟨its,r1,p1⟩:=q1.get I;obtain⟨⟨old,he⟩,h1⟩:=st;obtain⟨oi,kL,ci,_⟩:=h1.ob;have GH:∃o,s.heap.get? l=some o/\(o.cls= .type "list"\/o.cls= .type "tuple"):=by cases b<;>(obtain⟨o,ho,cc,_⟩:=p1;first|exact⟨o,ho,.inl cc⟩|exact⟨o,ho,.inr cc⟩)
   obtain⟨ol,tj,cl⟩:=GH;have nil:l≠it:=fun z=>by subst z;rw[kL]at tj;cases tj;rw[ci]at cl;cases b<;>(rcases cl with h|h<;>simp[qG]at h)
   have hi:i=its.toArray.size:=by rw[dX,<-r1.length];exact oP.symm
   subst hi;refine wpAny_pyNext_enum_endD (QZ (I.ok.hd hc) nil) he ⟨h1,p1⟩ fun h' kp=>⟨rfl,?_⟩;exact I.wY (t':=s.toks) (fp:=[e,it]) (fun c o hc q=>kp c o (fun z=>hc (by simp[z])) q) hf
  self:=fun _ _ _ _ _ st h=>by obtain⟨⟨old,he⟩,_⟩:=st;exact wpAny_pyIter_enum he h
inductive Vf(K:aa)(b:Bool)(R:It->Hp->Prop)(vs:List V)(H1:Hp):Prop |mk (l:_)(h0:vs=[.ref l])(h1:(∃xs,eg b K H1 l xs))(h2:R (zb K b l) H1):Vf K b R vs H1
def a4l(K:aa)(b:Bool)(ta:TA):TI:=fun Z H R=>ta Z H fun vs H1=>Vf K b R vs H1
theorem ZU(K:aa){X:Cx}(hK:X.K=K)(b:Bool){elts:List Expr}{kt:Nat}{nY:Pos}{a:Expr}{ta:TA}{p pos:Pos}(hg:Gl X "enumerate")(hm:X.mg "enumerate"=none)(ha:PA X [a] ta)(hs:starEach [a] X.env=[(false,eval a X.env)]:=by rfl)(j4:starEach [] X.env=[]:=by rfl): PI X (.Tuple elts kt nY) (.Call (.Name "enumerate" p) [a] [] pos) (a4l K b ta):=by
  subst hK;intro au s Z H R I h;refine Call_ (oB I hg hm PyProof.Rows.boot_enumerate (wJ (aW (ha pos au s Z H _ I h) fun us s1 ⟨vs,H1,I1,r1,q1⟩=>?_) (by rw[hs,j4]) (by rw[j4];rfl)));obtain⟨l,e,⟨xs,h1⟩,q⟩:=q1;subst e;obtain⟨u1,rfl,kC⟩:=vals1 r1;cases(show u1=Value.ref l from kC);obtain⟨GP,v1,p1⟩:=h1.get I1;refine a8B p1 fun g zg ig kp=>wpAny_pyIter_enum zg ?_;refine⟨_,_,_,_,H1,rfl,I1.kept (t':=s1.toks) kp,WC (Cz (VH _)),⟨⟨_,zg⟩,ig⟩,fun c hc=>?_,q⟩;have hle:s1.heap.objs.size<=c:=by simp only[bI,cC,dv]at hc;rcases hc with rfl|rfl<;>first|exact bF _|exact Nat.le_add_right _ _
  exact I1.oV hle (I1.aV.fresh hle)
theorem a79{K:aa}{b:Bool}{a:Addr}{xs:List V}{g:TG}{tb:TS}{D:Ends}{Z:St}{H:Hp}(Pv:Nat->St->Hp->Prop)(h0:Pv 0 Z H)(hl:∀i Z H,i<=xs.length->Pv i Z H->eg b K H a xs) (hs:∀i x Z H,xs[i]? =some x->Pv i Z H->∀T H',Nw H H' T (.tup [.int i,x])->g (.ref T) Z H' fun σ2 H2=>tb {D with nx:=Pv (i+1),ct:=Pv (i+1),bk:=D.nx} σ2 H2)(hd:∀Z H,Pv xs.length Z H->D.nx Z H): ∃W:Nat->Nat->St->Hp->Prop,(∃m,W 0 m Z H)/\∀i m Z H,W i m Z H->((zb K b a).stop i H/\D.nx Z H)\/((zb K b a).go i H/\∃N:St->Hp->Prop,(∀σ' H',N σ' H'->∃m',m'<m/\W (i+1) m' σ' H')/\∀x H',(zb K b a).jA i H x H'->g x Z H' fun σ2 H2=>tb {D with nx:=N,ct:=N,bk:=D.nx} σ2 H2):=by
  refine⟨fun i m Z H=>m=xs.length-i/\i<=xs.length/\Pv i Z H,⟨xs.length,by simp,fT _,h0⟩,?_⟩;rintro i m Z H ⟨rfl,hi,p⟩;have q:=hl i Z H hi p;by_cases cy:i<xs.length
  · refine .inr ⟨⟨xs,xs[i],q,by simp[cy]⟩,Pv (i+1),fun σ' H' p'=>⟨xs.length-(i+1),by lia,rfl,cy,p'⟩,fun x H' y=>?_⟩
    obtain⟨T,z,rfl,ez,nw⟩:=y;exact hs i z Z H (ez xs q) p T H' nw
  · have e:i=xs.length:=by lia
    subst e;exact .inl ⟨⟨xs,q,rfl⟩,hd Z H p⟩
theorem a76{K:aa}{b1 b2:Bool}{a1 a2:Addr}{xs ys:List V}{g:TG}{tb:TS}{D:Ends}{Z:St}{H:Hp}(n:Nat)(hn:n=min xs.length ys.length)(Pv:Nat->St->Hp->Prop)(h0:Pv 0 Z H)(hl:∀i Z H,i<=n->Pv i Z H->eg b1 K H a1 xs/\eg b2 K H a2 ys) (hs:∀i x y Z H,xs[i]? =some x->ys[i]? =some y->Pv i Z H->∀T H',Nw H H' T (.tup [x,y])->g (.ref T) Z H' fun σ2 H2=>tb {D with nx:=Pv (i+1),ct:=Pv (i+1),bk:=D.nx} σ2 H2)(hd:∀Z H,Pv n Z H->D.nx Z H): ∃W:Nat->Nat->St->Hp->Prop,(∃m,W 0 m Z H)/\∀i m Z H,W i m Z H->((mj K b1 b2 a1 a2).stop i H/\D.nx Z H)\/((mj K b1 b2 a1 a2).go i H/\∃N:St->Hp->Prop,(∀σ' H',N σ' H'->∃m',m'<m/\W (i+1) m' σ' H')/\∀x H',(mj K b1 b2 a1 a2).jA i H x H'->g x Z H' fun σ2 H2=>tb {D with nx:=N,ct:=N,bk:=D.nx} σ2 H2):=by
  refine⟨fun i m Z H=>m=n-i/\i<=n/\Pv i Z H,⟨n,by simp,fT _,h0⟩,?_⟩;rintro i m Z H ⟨rfl,hi,p⟩;obtain⟨q1,q2⟩:=hl i Z H hi p;by_cases cy:i<n
  · have l1:i<xs.length:=by lia
    have l2:i<ys.length:=by lia
    refine .inr ⟨⟨xs,ys,xs[i],ys[i],q1,q2,by simp[l1],by simp[l2]⟩,Pv (i+1),fun σ' H' p'=>⟨n-(i+1),by lia,rfl,cy,p'⟩,fun x H' y=>?_⟩;obtain⟨T,z1,z2,rfl,e1,e2,nw⟩:=y;exact hs i z1 z2 Z H (e1 xs q1) (e2 ys q2) p T H' nw
  · have e:i=n:=by lia
    subst e;exact .inl ⟨⟨xs,ys,q1,q2,by lia⟩,hd Z H p⟩
section
variable {X:Cx}
theorem a0c(K:aa)(h:X.K=K){o:Expr}{to:TE}{apos cx:Pos}(ho:PE X o to)(j8:attributeBase o "clear" X.env (eval o X.env)=eval o X.env:=by rfl)(j6:(apos.endLine==cx.line)=true:=by rfl): PE X (.Call (.Attribute o "clear" apos) [] [] cx) (Ky K "list" NF to):=by subst h;exact a07 zo PySem.F.slot_list_clear PySem.F.type_list_clear a2C ho j8 j6
theorem NT(K:aa)(h:X.K=K){o e:Expr}{to:TE}{t:TA}{apos cx:Pos}(ho:PE X o to)(ha:PA X [e] t) (j8:attributeBase o "pop" X.env (eval o X.env)=eval o X.env:=by rfl) (kN:((backTo cx (starEach [e] X.env)).all (fun x=>!x.1)&&(backToKw cx (keywordEach [] X.env)).all (fun x=>x.1.isSome) &&decide ([e].length+([]:List Keyword).length+(if([]:List Keyword).isEmpty then 0 else 1)<30))=true:=by rfl) (j6:(apos.endLine==cx.line)=true:=by rfl)(hs:starEach [e] X.env=(false,eval e X.env)::starEach [] X.env:=by rfl)(kK:(backTo cx (starEach [] X.env)).any (·.1)=false:=by rfl): PE X (.Call (.Attribute o "pop" apos) [e] [] cx) (rC K "list" NC to t):=by subst h;exact uV zo PySem.F.slot_list_pop PySem.F.type_list_pop a2A ho ha j8 kN j6 hs kK
end
set_option maxHeartbeats 1000000 in
theorem FU{X:Cx}{N:List Str}{js:List (Option Nat)}{elt tg iter:Expr}{ifs:List Expr}{scope:Scope}{pos:Pos}{wi:TI}{g:TG}{tt:TT}{te:TE}{i0:Nat}{x0:Str}{uR KQ:Pos}(hNd:X.N.Nodup)(hix:X.N[i0]? =some x0)(GX:Loc X.env.scope x0)(hc:X.calm=true)(hN:BU X N js scope=true)(hS:wk X scope=true) (hi:PI X tg iter wi)(hg:∀cl s H fp au,PG (fK X N scope cl s H fp au) tg g)(ht:∀cl s H fp au,Jo (fK X N scope cl s H fp au) ifs tt)(he:∀cl s H fp au,PE (fK X N scope cl s H fp au) elt te) (hsw:swapsWith (.ListComp elt [⟨tg,iter,ifs,0⟩] scope pos) (some (.Name x0 uR)) KQ.line X.env=pure true:=by rfl)(hf0:X.fn x0=true\/X.env.scope.names.lookup x0=some .local:=by first|exact .inl rfl|exact .inr rfl) (hs:∀x,foldedSetIterable iter X.env x=pure x:=by intro _;rfl):PS X (.Assign [.Name x0 uR] (.ListComp elt [⟨tg,iter,ifs,0⟩] scope pos) KQ) (zR (Kw js wi g tt te) (eK i0)):=by
  intro au s Z H D0 I h;have tJ:=hS;unfold wk at tJ;rw[eV,eV]at tJ;obtain⟨⟨k1,k2⟩,k3⟩:=tJ;have oM:scope.kind= .function:=fM.mp k1;have vM:∀x∈scope.names,x.2= .free->∃c,X.env.cells.lookup x.1=some c:=fun x hx e=>by have:=iE.mp k3 x hx;rw[e]at this;exact I.ok.has x.1 (.inl (fM.mp this))
  have lZ:∀x∈scope.names,x.2≠ .cell:=fun x hx e=>by have:=iE.mp k3 x hx;rw[e]at this;exact jW this
  have Hk:∀x∈scope.names,x.2= .local->scope.names.lookup x.1=some .local:=fun x hx e=>by have:=iE.mp k3 x hx;rw[e]at this;exact fM.mp this
  obtain⟨cl,Hv,c1,c2⟩:=RX vM;rw[exec_Assign_Name_used _ _ _ _ hsw];refine aO (wpAny_standAt (aO ?_));show wpAny _ X.A (do let _<-comprehension (.ListComp elt [⟨tg,iter,ifs,0⟩] scope pos) scope X.env _ (newList []) false (eval iter X.env) (some (assign (.Name x0 uR) X.env))) _ _ s;refine aO (jw (wpAny_comprehension_free (use:=some (assign (.Name x0 uR) X.env)) (Q:=fun _ s'=>SP X au D0 .next s') rfl hs Hv oM Hk (aW (hi au s Z H _ I h) fun v s1 h1=>aW h1 fun AW s2 h2=>?_)) (fun _ s' hq=>cg (cg hq)) fun _ _ e=>e);obtain⟨it,fp,tn,J,H2,e,I2,T,rE,f2,h2⟩:=h2;subst e;have hD:H2 s2.heap.objs.size=none:=I2.aV.fresh (bF _);obtain⟨W,⟨m0,w0⟩,turn⟩:=h2 _ _ (Nw.of hD);refine pk (Vu lZ (by intro y hy;simp at hy) (fun h₁ yn yj=>?_) oM);have tO:∀b∈fp,b<s2.heap.objs.size:=fun b hb=>by obtain⟨o,e,_⟩:=T.obj _ _ rE b hb;exact cw e
  have I3:Inv X au Z (upd H2 s2.heap.objs.size (.lst [])) {s2 with heap:=s2.heap.push {cls:=.type "list",dict:=none,data:=.seq ([]:List Value).toArray}}:=I2.OV (its:=[]) (t':=s2.toks) .nil (fT _);generalize yz:s2.heap.push {cls:=.type "list",dict:=none,data:=.seq ([]:List Value).toArray}=h3 at I3 yn yj;have xc:h3.objs.size=s2.heap.objs.size+1:=by rw[<-yz,qZ]
  have GL:∀b o,s2.heap.get? b=some o->h3.get? b=some o:=fun b o e=>by rw[<-yz];exact cn _ e
  have f3:∀b∈fp,kY X au (upd H2 s2.heap.objs.size (.lst [])) b:=fun b hb=>⟨by rw[aK (fm (tO b hb))];exact(f2 b hb).1,(f2 b hb).2⟩;have ye:∀b o,h3.get? b=some o->h₁.get? b=some o:=fun b o e=>(yj.2 b (fm (cw e))).trans (cn _ e);have I4:Inv (fK X N scope cl {s2 with heap:=h3} (upd H2 s2.heap.objs.size (.lst [])) fp au) [] (stC js Z) (upd H2 s2.heap.objs.size (.lst [])) {s2 with heap:=h₁,toks:=s2.toks+([]:List (Str×Value)).length}:=I3.comp (s:={s2 with heap:=h3}) hN hS c1 c2 f3 (fun b hb=>by show b<h3.objs.size;rw[xc];exact JK (tO b hb)) (by simpa using yn) ye;have xh:tn 0 h₁:=T.keep _ _ _ rE fun b _ o e=>ye b o (GL b o e);have loop:codeAny (model X.prog X.w) X.A (.compLoop (.ListComp elt [⟨tg,iter,ifs,0⟩] scope pos) 0 (.ref it) (.ref s2.heap.objs.size) (compEnvC scope cl h3.objs.size X.env)) (compPost (model X.prog X.w) X.A X.xe (some (assign (.Name x0 uR) X.env)) (fun _ s'=>SP X au D0 .next s') (.ref s2.heap.objs.size) h3.objs.size) {s2 with heap:=h₁,toks:=s2.toks+([]:List (Str×Value)).length}:=by
    refine RS (fun n s'=>∃i σ' H',Inv (fK X N scope cl {s2 with heap:=h3} (upd H2 s2.heap.objs.size (.lst [])) fp au) [] σ' H' s'/\tn i s'.heap/\(∀b∈fp,H' b=none)/\W i n σ' H') ?_ m0 ⟨0,_,_,I4,xh,fun b hb=>(f3 b hb).1,w0⟩;rintro n s5 ⟨i,σ5,H5,I5,o9,tN,w5⟩;have lR:∀{H':Hp},(∀b∈fp,H' b=none)->∀b∈fp,kY (fK X N scope cl {s2 with heap:=h3} (upd H2 s2.heap.objs.size (.lst [])) fp au) [] H' b:=fun{H'} hn b hb=>by
     obtain⟨_,q1,q2,q3,q4,q5⟩:=f3 b hb;refine⟨hn b hb,fun z=>?_,I4.ok.qB b hb,.inl hb,fun x c e=>q4 x c (c1 x c e),fun p hp=>q5 p (by simpa[fK]using hp)⟩;have cy:b<h3.objs.size:=by rw[xc];exact JK (tO b hb)
     exact fm cy z
    rcases turn i n σ5 H5 w5 with⟨stop,qn⟩|⟨go,step⟩
    · refine aW (T.done (fK X N scope cl {s2 with heap:=h3} (upd H2 s2.heap.objs.size (.lst [])) fp au) rfl rfl rfl hc i [] s5 σ5 H5 _ I5 (lR tN) o9 stop) fun r s6 ⟨hr,I6⟩=>?_
      subst hr;obtain⟨m,hm,_⟩:=I6.loc;have u0:Un (da X.stack) fp (upd H2 s2.heap.objs.size (.lst [])) H5 h3 s6.heap:=I6.base;have I7:Inv X au Z H5 s6:=I3.BV (s':=s6) (ch:=fp) I6.os u0 I6.aV I6.bare fun b hb=>⟨(f3 b hb).2.2.2.1,(f3 b hb).2.1,(f3 b hb).2.2.2.2.1,(f3 b hb).2.2.2.2.2⟩;have hC:kY X au H5 h3.objs.size:=I3.oV (bF _) I6.free;show wpAny _ X.A (assign (.Name x0 uR) X.env (.ref s2.heap.objs.size)) _ _ s6;refine wpAny_assign_Name (KH I7 hNd hix GX (show RelV (.ref s2.heap.objs.size) (.ref s2.heap.objs.size)from rfl) (fun s8 I8 Hc=>?_) hf0);obtain⟨a,sb,ha⟩:=Hc;have hCa:h3.objs.size≠a:=by
       rcases ha with rfl|ha
       ·exact hC.2.1
       ·exact fun z=>hC.2.2.2.2.1 x0 a ha z.symm
      refine⟨m,hm.sameBut sb hCa,fun h9 hs9=>⟨_,H5,?_,qn⟩⟩;exact I8.wY (t':=s8.toks) (fp:=[h3.objs.size]) (fun b o hb e=>hs9.extBut b o (fun z=>hb (by simp[z])) e) fun b hb=>by rw[cm.mp hb];exact hC
    · refine aW (T.item (fK X N scope cl {s2 with heap:=h3} (upd H2 s2.heap.objs.size (.lst [])) fp au) rfl rfl rfl hc i [] s5 σ5 H5 _ I5 (lR tN) o9 go) fun r s6 ⟨u,hr,h6⟩=>?_
      subst hr;refine aW h6 fun _ s7 ⟨x,H7,I7,r7,y7,o8,Ic⟩=>?_;have Jw:=I7.pinned (lR Ic) (T.obj _ _ o8);refine aW (hg _ _ _ _ _ _ s7 σ5 H7 x u _ Jw r7 (step x H7 y7)) fun _ s8 ⟨σ8,H8,I8,q8⟩=>?_;refine aW (ht _ _ _ _ _ _ s8 σ8 H8 _ I8 q8) fun ok s9 ⟨H9,I9,q9⟩=>?_;have again:∀{s':ae}{σ7:St}{H7:Hp},Inv (fK X N scope cl {s2 with heap:=h3} (upd H2 s2.heap.objs.size (.lst [])) fp au) ([]++uU fp s7.heap) σ7 H7 s'->(∃m',m'<n/\W (i+1) m' σ7 H7)->∃m,m<n/\∃i σ' H',Inv (fK X N scope cl {s2 with heap:=h3} (upd H2 s2.heap.objs.size (.lst [])) fp au) [] σ' H' s'/\tn i s'.heap/\(∀b∈fp,H' b=none)/\W i m σ' H':=fun{s' σ7 H7} J7 n7=>by obtain⟨m',hm,w7⟩:=n7;refine⟨m',hm,i+1,σ7,H7,J7.wU,T.keep _ _ _ o8 fun b hb o e=>(J7.pin (b,o) (kZ _ (kZ _ (vp hb e)))).1,fun b hb=>?_,w7⟩;obtain⟨o,e,d⟩:=T.obj _ _ o8 b hb;exact(J7.pin (b,o) (kZ _ (kZ _ (vp hb e)))).2.1
      cases ok with |false=>rw[aZ jW]at q9⊢;exact again I9 q9 |true=>rw[aY rfl]at q9⊢;refine aW (he _ _ _ _ _ _ s9 σ8 H9 _ I9 q9) fun yv mF ⟨y,jt,wB,FQ,ys,oH,hz,kx⟩=>?_;refine aW (Gr _ mF σ8 jt (.ref s2.heap.objs.size) [y] (.ref s2.heap.objs.size) [yv] (fun _ iC=>∃m',m'<n/\W (i+1) m' σ8 iC) wB rfl (.cons FQ .nil) ⟨_,ys,y,rfl,rfl,oH,hz,kx⟩) fun _ Aa ⟨v11,iC,Jx,Zt,xD⟩=>?_;exact again Jx xD
  exact codeAny_compStart_list loop (T.self _ 0 _ _ _ xh loop)
theorem S8:∀{zs:List Str}{us:List Value},Vals (zs.map V.str) us->CarriedAll us (zs.map PyData.str) |[],_,.nil=>.nil |z::zs,_,.cons q r=>by obtain⟨t,rfl⟩:=(show∃t,_=Value.str z t from q);exact .cons (.str z t) (S8 r)
section
variable {X:Cx}
inductive UP(K:aa)(x:V)(vs:List V)(H:Hp)(Q:VK):Prop |mk (sep:Str)(l:Addr)(zs:List Str)(h0:x= .str sep)(h1:vs=[.ref l])(h2:aE K H l (zs.map V.str))(h3:(∀z∈zs,z.length<=8))(h4:sep.length<=8)(h5:zs.length<=1000)(h6:Q (.str (Txt.join sep zs)) H):UP K x vs H Q
def rJoin(K:aa):V->List V->Hp->VK->Prop:=fun x vs H Q=>UP K x vs H Q
theorem a2D(K:aa)(hK:X.K=K):z9 X "str.join" (rJoin K):=by subst hK;intro au s Z H x vs v us Q I rx rv h;obtain⟨sep,l,zs,rfl,rfl,hl,hz,hs,hn,q⟩:=h;obtain⟨t,rfl⟩:=rx;obtain⟨u,rfl,ru⟩:=vals1 rv;cases(show u=Value.ref l from ru);obtain⟨its,r,pl,_⟩:=I.list hl;refine join_madeW (l:=zs) (g:=id) 8 pl.isList (by rw[List.map_id];exact S8 r) (fun a ha=>hz a ha) (by lia) (by lia) fun t' k=>?_;rw[List.map_id];exact⟨.str _,H,I.tok _,⟨_,rfl⟩,q⟩
theorem a08(K:aa)(h:X.K=K){o e:Expr}{to:TE}{t:TA}{apos cx:Pos}(ho:PE X o to)(ha:PA X [e] t) (j8:attributeBase o "join" X.env (eval o X.env)=eval o X.env:=by rfl) (kN:((backTo cx (starEach [e] X.env)).all (fun x=>!x.1)&&(backToKw cx (keywordEach [] X.env)).all (fun x=>x.1.isSome) &&decide ([e].length+([]:List Keyword).length+(if([]:List Keyword).isEmpty then 0 else 1)<30))=true:=by rfl) (j6:(apos.endLine==cx.line)=true:=by rfl)(hs:starEach [e] X.env=(false,eval e X.env)::starEach [] X.env:=by rfl)(kK:(backTo cx (starEach [] X.env)).any (·.1)=false:=by rfl): PE X (.Call (.Attribute o "join" apos) [e] [] cx) (rC K "str" (rJoin K) to t):=by subst h;exact uV PySem.F.plainAttrs_str PySem.F.slot_str_join PySem.F.type_str_join (a2D X.K rfl) ho ha j8 kN j6 hs kK
end
section
variable {X:Cx}{au:List (Addr×Obj)}{Z:St}{H:Hp}{s:ae}
end
section
variable {X:Cx}
theorem a9y:fh X (.type "range") (fun xs H Q=>∃n,xs=[.int n]/\∀p H',Nw H H' p (.rQ 0 n)->Q (.ref p) H'):=by intro au s Z H xs us Q I r h;obtain⟨n,rfl,q⟩:=h;obtain⟨u,rfl,t,rfl⟩:=vals1 r;refine call_range_1 ?_;have hf:H s.heap.objs.size=none:=I.aV.fresh (bF _);refine⟨.ref s.heap.objs.size,upd H s.heap.objs.size (.rQ 0 n),I.laid (t':=s.toks+1+1) (fun b u e=>cn _ e) (bF _) ?_,rfl,q _ _ (.of hf)⟩;exact⟨_,_,_,eh _ rfl⟩
end
theorem Xn:isSubtype (.type "range_iterator") (.type "reversed")=pure false:=by rw[isSubtype_type];kernel_rfl
section
variable {prog:ah}{w:World}{A:aj}{E:Value->ae->Prop}{s:ae}
abbrev xB(n:Nat):Obj:={cls:=.type "range_iterator",data:=.fields #[rawInt (0+((n:Int)-1)*1),rawInt (n:Int),rawInt (-1)]}
abbrev Fm(n:Nat):Bool:=Builtin.Range.rangeFitsLong 0&&Builtin.Range.rangeFitsLong n&&Builtin.Range.rangeFitsLong 1&&Builtin.Range.rangeFitsLong (-1)&&Builtin.Range.rangeFitsLong (0-1)&&Builtin.Range.rangeFitsLong (Builtin.Range.rangeSize 0 n 1)
theorem Ng{n:Nat}(h:n<2^62):Fm n=true:=by unfold Fm;rw[rangeSize_one];simp only[Builtin.Range.rangeFitsLong,eV,Ct];split<;>lia
theorem YS(r:Addr)(a b c:Int)(t u v:Tok)(hc0:¬(!(Builtin.Range.rangeFitsLong a&&Builtin.Range.rangeFitsLong b&&Builtin.Range.rangeFitsLong c&&Builtin.Range.rangeFitsLong (-c)&&Builtin.Range.rangeFitsLong (a-c)&&Builtin.Range.rangeFitsLong (Builtin.Range.rangeSize a b c)))=true):Meets (Builtin.«range.__reversed__» ⟨[.ref r],[]⟩) (fun _ R s=>s.heap.get? r=some {cls:=.type "range",dict:=none,data:=.fields #[.int a t,.int b u,.int c v],slots:=#[]}/\R (.ok (.ret (.ref s.heap.objs.size))) {s with heap:=s.heap.push {cls:=.type (if(Builtin.Range.rangeFitsLong a&&Builtin.Range.rangeFitsLong b&&Builtin.Range.rangeFitsLong c&&Builtin.Range.rangeFitsLong (-c)&&Builtin.Range.rangeFitsLong (a-c)&&Builtin.Range.rangeFitsLong (Builtin.Range.rangeSize a b c))=true then "range_iterator" else "longrange_iterator"),data:=.fields #[rawInt (a+(Builtin.Range.rangeSize a b c-1)*c),rawInt (Builtin.Range.rangeSize a b c),rawInt (-c)]},toks:=s.toks}):=.of_wp fun prog w A R s h=>by
   obtain⟨hp,g,d,tk,os⟩:=s;obtain⟨hl,h⟩:=h
   wp_walk;exact⟨_,rfl,h⟩
theorem a9w{l:Addr}{n:Nat}{t u v:Tok}{Q:Value->ae->Prop}(hn:n<2^62)(hl:s.heap.get? l=some {cls:=.type "range",data:=.fields #[.int 0 t,.int n u,.int 1 v]}) (h:Q (.ref s.heap.objs.size) {s with heap:=s.heap.push (xB n)}):wpAny (model prog w) A (call (.builtin "range.__reversed__") [.ref l]) Q E s:=by
  have hT:s.TypeIs (.ref l) "range":=⟨_,hl,rfl⟩;refine wG VR hT F.entry_range_reversed (F.args_range_reversed_1 _) (YS l 0 n 1 t u v (by have:=Ng hn;unfold Fm at this;rw[this];decide)) ⟨hl,?_⟩;rw[aY (Ng hn)];have e:Builtin.Range.rangeSize 0 n 1=n:=by rw[rangeSize_one];split<;>lia
  rw[e];exact h
theorem a9o{l:Addr}{n:Nat}{t u v:Tok}{Q₁:Value->ae->Prop}(hn:n<2^62)(hl:s.heap.get? l=some {cls:=.type "range",data:=.fields #[.int 0 t,.int n u,.int 1 v]}) (h:Q₁ (.ref s.heap.objs.size) {s with heap:=s.heap.push (xB n)}): codeAny (model prog w) A (.call (.builtin "reversed.__new__") ⟨[.type "reversed",.ref l],[]⟩) (wants Q₁ E) s:=by
  have hT:s.TypeIs (.ref l) "range":=⟨_,hl,rfl⟩;refine codeAny_of_tree ?_;show wpAny _ A.in1 (do checkBuiltinCall "reversed.__new__" ⟨[.type "reversed",.ref l],[]⟩;again (.builtin "reversed.__new__" ⟨[.type "reversed",.ref l],[]⟩)) _ _ s;refine aO (zi (F.newCall_reversed_1 _) (cg ⟨plainId_quiet F.plain_reversed_new _,codeAny_builtin F.entry_reversed_new ?_⟩));rw[Around.under_plainId F.plain_reversed_new _];unfold Builtin.«reversed.__new__»;refine aO (zi (newClass_reversed _) ?_)
  try dsimp only
  refine aO (zi (a:=()) (by first|rfl|kernel_rfl) ?_);refine aO (zi (a:=()) (by first|rfl|kernel_rfl) ?_)
  try dsimp only
  refine aO (wpAny_specialOf hT VR.lookup ?_)
  try dsimp only
  refine aO (zi (VR.bind _) ?_)
  try dsimp only
  first |rw[aZ (show¬((Value.builtin "range.__reversed__"==Value.none)=true)from jW)] |(show wpAny _ _ (if(Value.builtin "range.__reversed__"==Value.none)=true then _ else _) _ _ _;rw[aZ (show¬((Value.builtin "range.__reversed__"==Value.none)=true)from jW)])
  refine aO (wpAny_rule ?_);refine aO (m:=runValue (.call (.builtin "range.__reversed__") ⟨[.ref l],[]⟩)) (show wpAny _ _ (call (.builtin "range.__reversed__") [.ref l]) _ _ _ from a9w hn hl ?_)
  first |exact cg h |exact aO (cg (cg h))
theorem a9x{l:Addr}{n:Nat}{t u v:Tok}{Q:Value->ae->Prop}(hn:n<2^62)(hl:s.heap.get? l=some {cls:=.type "range",data:=.fields #[.int 0 t,.int n u,.int 1 v]}) (h:Q (.ref s.heap.objs.size) {s with heap:=s.heap.push (xB n)}):wpAny (model prog w) A (call (.type "reversed") [.ref l]) Q E s:=by refine callType_other (U:="range_iterator") (Q₁:=fun obj s₁=>obj= .ref s.heap.objs.size/\s₁={s with heap:=s.heap.push (xB n)}) (by decide+kernel) F.create_reversed ⟨_,_,F.mro_reversed⟩ F.made_reversed Xn (F.typeCall_reversed_1 _) (a9o hn hl ⟨rfl,rfl⟩) ?_;rintro obj s₁ ⟨rfl,rfl⟩;exact⟨⟨_,eh _ rfl,rfl⟩,h⟩
end
def za(n:Nat):It:=⟨fun i _=>i<n,fun i H x H'=>H'=H/\x= .int ((n:Int)-1-i),fun i _=>n<=i⟩
theorem Wz{P:ah}{w:World}{K:aa}{tg:Expr}(it:Addr)(n:Nat):Turn P w K tg (za n) [it] it (fun i h=>IsRangeIter h it ((0+((n:Int)-1)*1)+(i:Nat)*(-1)) ((n:Int)-(i:Nat)) (-1)) where
 mem:=by simp
 obj:=fun i h st b hb=>by
  have e:b=it:=by simpa using hb
  subst e;exact⟨_,st,fun v z=>by have z':Data.fields _=Data.cell v:=z;cases z'⟩
 keep:=fun i h h' st k=>k it (by simp) _ st
 item:=by
  intro X hP hw hK hc i au s Z H E I hf st hg;subst hP hw hK;obtain⟨f0,f1,f2,f3,f4,f5⟩:=hf it (by simp);have W:=Walks.range (prog:=X.prog) (w:=X.w) (I.ok.hd hc) it (0+((n:Int)-1)*1) (-1) n;refine W.item i s _ _ hg st fun v h' tk hv gE kk=>?_;obtain⟨t,rfl⟩:=hv;have I1:Inv X au Z H {s with heap:=h',toks:=tk}:=I.turned (fun b o hb e=>kk b o (by simpa using hb) e) f0 f1 f3 f4 f5;refine⟨_,rfl,vR (s:={s with heap:=h',toks:=tk}) (n:="range_iterator") gE rfl rfl (by decide) ⟨.int ((n:Int)-1-i),H,I1,⟨t,?_⟩,⟨rfl,rfl⟩,gE,fun b hb=>(hf b hb).1⟩⟩;have e:(0+((n:Int)-1)*1)+(i:Int)*(-1)=(n:Int)-1-i:=by lia
  rw[e]
 done:=by intro X hP hw hK hc i au s Z H E I hf st hg;subst hP hw hK;obtain⟨f0,f1,f2,f3,f4,f5⟩:=hf it (by simp);exact Vt (I.ok.hd hc) st (by have:n<=i:=hg;lia) fun h' eb=>⟨rfl,I.turned (t':=s.toks) (fun b o hb e=>eb b o hb e) f0 f1 f3 f4 f5⟩
 self:=fun _ _ _ _ _ st h=>Jz st h
inductive Vd(R:It->Hp->Prop)(vs:List V)(H1:Hp):Prop |mk (p:_)(n:_)(h0:vs=[.ref p])(h1:H1 p=some (.rQ 0 n))(h2:0<=n)(h3:n<2^62)(h4:R (za n.toNat) H1):Vd R vs H1
def a4k(ta:TA):TI:=fun Z H R=>ta Z H fun vs H1=>Vd R vs H1
theorem ZR{X:Cx}{tg:Expr}{a:Expr}{ta:TA}{p pos:Pos}(hg:Gl X "reversed")(hm:X.mg "reversed"=none)(ha:PA X [a] ta)(hs:starEach [a] X.env=[(false,eval a X.env)]:=by rfl)(j4:starEach [] X.env=[]:=by rfl): PI X tg (.Call (.Name "reversed" p) [a] [] pos) (a4k ta):=by
  intro au s Z H R I h;refine Call_ (oB I hg hm PyProof.Rows.boot_reversed (wJ (aW (ha pos au s Z H _ I h) fun us s1 ⟨vs,H1,I1,r1,q1⟩=>?_) (by rw[hs,j4]) (by rw[j4];rfl)));obtain⟨l,n,e,hl,n0,n1,q⟩:=q1;subst e;obtain⟨u1,rfl,kC⟩:=vals1 r1;cases(show u1=Value.ref l from kC);obtain⟨t,u,v,e⟩:∃t u v,s1.heap.get? l=some {cls:=.type "range",data:=.fields #[.int 0 t,.int n u,.int 1 v]}:=I1.aV l _ hl;obtain⟨m,rfl⟩:∃m:Nat,n=m:=⟨n.toNat,by lia⟩;refine a9x (by lia) e ?_;have hit:IsRangeIter (s1.heap.push (xB m)) s1.heap.objs.size ((0+((m:Int)-1)*1)+((0:Nat):Int)*(-1)) ((m:Int)-((0:Nat):Int)) (-1):=by
   have e1:(0+((m:Int)-1)*1)+((0:Nat):Int)*(-1)=0+((m:Int)-1)*1:=by lia
   have e2:(m:Int)-((0:Nat):Int)=m:=by lia
   rw[e1,e2];exact eh _ rfl
  refine Jz hit ?_;refine⟨s1.heap.objs.size,[s1.heap.objs.size],_,_,H1,rfl,I1.kept (t':=s1.toks) fun b o e=>cn _ e,Wz _ m,hit,fun b hb=>?_,q⟩;have e:b=s1.heap.objs.size:=by simpa using hb
  subst e;exact I1.oV (bF _) (I1.aV.fresh (bF _))
theorem a78{n:Nat}{g:TG}{tb:TS}{D:Ends}{Z:St}{H:Hp}(Pv:Nat->St->Hp->Prop)(h0:Pv 0 Z H) (hs:∀i Z H,i<n->Pv i Z H->g (.int ((n:Int)-1-i)) Z H fun σ2 H2=>tb {D with nx:=Pv (i+1),ct:=Pv (i+1),bk:=D.nx} σ2 H2)(hd:∀Z H,Pv n Z H->D.nx Z H): ∃W:Nat->Nat->St->Hp->Prop,(∃m,W 0 m Z H)/\∀i m Z H,W i m Z H->((za n).stop i H/\D.nx Z H)\/((za n).go i H/\∃N:St->Hp->Prop,(∀σ' H',N σ' H'->∃m',m'<m/\W (i+1) m' σ' H')/\∀x H',(za n).jA i H x H'->g x Z H' fun σ2 H2=>tb {D with nx:=N,ct:=N,bk:=D.nx} σ2 H2):=by
  refine⟨fun i m Z H=>m=n-i/\i<=n/\Pv i Z H,⟨n,by simp,fT _,h0⟩,?_⟩;rintro i m Z H ⟨rfl,hi,p⟩;by_cases cy:i<n
  · refine .inr ⟨cy,Pv (i+1),fun σ' H' q=>⟨n-(i+1),by lia,rfl,cy,q⟩,fun x H' hy=>?_⟩
    obtain⟨rfl,rfl⟩:=hy;exact hs i Z _ cy p
  · have e:i=n:=by lia
    subst e;exact .inl ⟨bF _,hd Z H p⟩
theorem FR(K:aa){X:Cx}(hK:X.K=K){a:Expr}{ta:TE}(ha:PE X a ta)(he:∀whole,isTrue a X.env whole=(do let v<-whole;standAt a.pos;holding [v] (truthy v)):=by intro _;rfl): PT X a (fun Z H Q=>ta Z H fun x H'=>∃k,Jl K x H' k/\Q k H'):=by subst hK;exact Zz ha he
end L2
namespace Cn
open Ln
def cV(ns ms:List Int):List Int:=(ns.zip ms).map fun p=>p.1*(aF ms:Int)-p.2*(aF ns:Int)
theorem a2M{ns ms:List Int}{z:Int}(h:z∈cV ns ms):∃a b,a∈ns/\b∈ms/\z=a*(aF ms:Int)-b*(aF ns:Int):=by obtain⟨⟨a,b⟩,hp,rfl⟩:=jy.mp h;exact⟨a,b,(zp hp).1,(zp hp).2,rfl⟩
theorem kH{a b:Int}{m n:Nat}(h:a.natAbs<=m)(g:b.natAbs<=n):(a*b).natAbs<=m*n:=by rw[fF];exact ml h g
theorem BR{ns ms:List Int}(h1:∀z∈ns,z.natAbs<=1000)(h2:∀z∈ms,z.natAbs<=1000):∀z∈cV ns ms,z.natAbs<=2000000:=fun z hz=>by obtain⟨a,b,ha,hb,rfl⟩:=a2M hz;have l1:=mO h1;have l2:=mO h2;have e1:=kH (b:=(aF ms:Int)) (n:=1000) (h1 a ha) (by omega);have e2:=kH (b:=(aF ns:Int)) (n:=1000) (h2 b hb) (by omega);omega
def qk(zs:List Int)(i:Nat):Nat:=aF (zs.take i)
theorem P1:∀(xs ys:List Int),aF (xs++ys)=max (aF xs) (aF ys) |[],ys=>by simp[aF] |x::xs,ys=>by show max x.natAbs (aF (xs++ys))=max (max x.natAbs (aF xs)) (aF ys);rw[P1 xs ys];lia
theorem a5o{zs:List Int}{i:Nat}{z:Int}(h:zs[i]? =some z):qk zs (i+1)=max (qk zs i) z.natAbs:=by
 unfold qk;rw[pF,h,P1];show max _ (max z.natAbs 0)=_
 lia
def tZ(r:Rat):Rat:=if r.num<0 then-r else r
theorem aaf(r:Rat):(tZ r).num=iA r.num:=by
 unfold tZ iA;split
 ·rfl
 ·rfl
theorem aah(r:Rat):(tZ r).den=r.den:=by
 unfold tZ;split
 ·rfl
 ·rfl
theorem a8Y{a b:Int}(hb:0<b):0<=(Rat.divInt a b).num↔0<=a:=by rw[Rat.num_nonneg,wH hb]
theorem aag{c L:Int}(hL:0<L):tZ (Rat.divInt c L)=Rat.divInt (iA c) L:=by
 have h:=a8Y (a:=c) hL;unfold tZ iA;by_cases hc:c<0
 ·rw[aY hc,aY (by lia),Rat.neg_divInt]
 ·rw[aZ hc,aZ (by lia)]
theorem RG{a b L:Int}(hL:0<L):Rat.divInt a L<=Rat.divInt b L↔a<=b:=by
 rw[Rat.le_iff_sub_nonneg,Vx _ _ (by lia) (by lia),wH (iG hL hL),<-Int.sub_mul];constructor
 · intro h
   have:=Int.nonneg_of_mul_nonneg_left h hL
   lia
 · intro h
   exact jz (by lia) (by lia)
theorem RF{a b L:Int}(hL:0<L):Rat.divInt a L<Rat.divInt b L↔a<b:=by rw[<-Rat.not_le,RG hL];lia
theorem Xm{a b l1 l2:Int}(h1:0<l1)(h2:0<l2):Rat.divInt b l2-Rat.divInt a l1=Rat.divInt (b*l1-a*l2) (l1*l2):=by rw[Vx _ _ (by lia) (by lia),JW l2 l1]
theorem a9d{j p q h L:Int}(hp:p≠0)(hh:h≠0)(e:p*L=h*q):Rat.divInt (j*j*q*q) (p*p)=Rat.divInt ((j*L)^2) (h^2):=by
 rw[Rat.divInt_eq_divInt_iff (JV hp hp) (by rw[fE,fE,lb,kr];exact JV hh hh)];have e2:(p*L)*(p*L)=(h*q)*(h*q):=by rw[e]
 rw[fE,fE,lb,kr,fE,fE,lb,kr];have a1:j*j*q*q*(h*h)=(j*j)*((h*q)*(h*q)):=by ac_rfl
 have a2:j*L*(j*L)*(p*p)=(j*j)*((p*L)*(p*L)):=by ac_rfl
 rw[a1,a2,e2]
end Cn
namespace Pn
def mn(a b:Rat):Rat:=if b<a then b else a
theorem gj(a b:Rat):mn a b<=a:=by
 unfold mn;split
 ·next h=>exact JD h
 ·exact qT
theorem kh(a b:Rat):mn a b<=b:=by
 unfold mn;split
 ·exact qT
 ·next h=>exact Rat.not_lt.mp h
theorem kJ{a b c:Rat}(h1:c<=a)(h2:c<=b):c<=mn a b:=by unfold mn;split<;>assumption
theorem xZ(a b:Rat):mn a b=a\/mn a b=b:=by
 unfold mn;split
 ·exact .inr rfl
 ·exact .inl rfl
theorem mK{a b c:Rat}(hc:c=a\/c=b)(h1:c<=a)(h2:c<=b):mn a b=c:=by
 rcases hc with rfl|rfl
 ·exact Cv (gj _ _) (kJ h1 h2)
 ·exact Cv (kh _ _) (kJ h1 h2)
theorem P6{a b c:Rat}(h:a<=b)(hc:0<=c):a<=b+c:=dU h (by have:=(Rat.add_le_add_left (c:=b)).mpr hc;rwa [Rat.add_zero]at this)
section
variable (n:Nat)(own:Nat->Rat)(L:Nat->Option Nat)(r f:Int)
def Pz(g:Nat->Rat):Nat->Rat |0=>g n |k+1=>match L (n-(k+1))with |some m=>mn (g (n-(k+1))) (Pz g k+((f*(m:Int):Int):Rat)) |none=>g (n-(k+1))
def fl(g:Nat->Rat)(i:Nat):Rat:=Pz n L f g (n-i)
end
section
variable {n:Nat}{own g:Nat->Rat}{L:Nat->Option Nat}{r f:Int}
theorem vU:fl n L f g n=g n:=by unfold fl;rw[JI];rfl
theorem vV{i m:Nat}(hi:i<n)(h:L i=some m):fl n L f g i=mn (g i) (fl n L f g (i+1)+((f*(m:Int):Int):Rat)):=by
 unfold fl;have e:n-i=(n-(i+1))+1:=by omega
 rw[e];show(match L (n-((n-(i+1))+1))with|some m=>_|none=>_)=_;have e2:n-((n-(i+1))+1)=i:=by omega
 rw[e2,h]
theorem vT{i:Nat}(hi:i<n)(h:L i=none):fl n L f g i=g i:=by
 unfold fl;have e:n-i=(n-(i+1))+1:=by lia
 rw[e];show(match L (n-((n-(i+1))+1))with|some m=>_|none=>_)=_;have e2:n-((n-(i+1))+1)=i:=by lia
 rw[e2,h]
theorem a2z{a:Int}{m:Nat}(h:0<=a):(0:Rat)<=((a*(m:Int):Int):Rat):=by have:((0:Int):Rat)<=((a*(m:Int):Int):Rat):=Rat.intCast_le_intCast.mpr (jz h (by lia));exact this
theorem down{C:Nat->Prop}(hn:C n)(hs:∀i,i<n->C (i+1)->C i):∀i,i<=n->C i:=by
 have key:∀k,k<=n->C (n-k):=fun k=>by induction k with |zero=>intro _;exact hn |succ k ih=>
    intro hk;refine hs _ (by omega) ?_;have e:n-(k+1)+1=n-k:=by omega
    rw[e];exact ih (by omega)
 intro i hi;have:=key (n-i) (by omega);have e:n-(n-i)=i:=by omega
 rwa [e]at this
end
open Rt
theorem y6{n:Nat}{a b:Rat}(h1:Bd n a)(h2:Bd n b):Bd n (mn a b):=by rcases xZ a b with e|e<;>rw[e]<;>assumption
theorem C5{n:Nat}{q:Rat}{z:Int}(h:Bd n q)(hz:z.natAbs<2^24):Bd (n+25) (q+(z:Rat)):=by have b:Bd 24 (z:Rat):=⟨hz,by show 1<2^24;decide⟩;exact(h.add b).mono (by lia)
theorem QC{n b:Nat}{g:Nat->Rat}{L:Nat->Option Nat}{f:Int}(ho:∀i,i<=n->Bd b (g i))(hL:∀i m,L i=some m->(f*(m:Int)).natAbs<2^24):∀i,i<=n->Bd (b+25*(n-i)) (fl n L f g i):=by
 refine down ?_ fun i hi ih=>?_
 ·rw[vU];exact(ho n (bF _)).mono (by lia)
 ·cases h:L i with |none=>rw[vT hi h];exact(ho i (by lia)).mono (by lia) |some m=>rw[vV hi h];exact y6 ((ho i (by lia)).mono (by lia)) ((C5 ih (hL i m h)).mono (by lia))
def lst(n:Nat)(g:Nat->Rat):List Rat:=(List.range (n+1)).map g
theorem qc(n:Nat)(g:Nat->Rat):(lst n g).length=n+1:=by simp[lst]
theorem qe{n:Nat}(g:Nat->Rat){i:Nat}(h:i<=n):(lst n g)[i]? =some (g i):=by unfold lst;rw[cu,bZ (by simp;lia),ur];rfl
theorem a3a{n:Nat}{g g':Nat->Rat}{i:Nat}(h:∀k,k<=n->k≠i->g' k=g k):(lst n g).set i (g' i)=lst n g':=by
 apply qX;intro k;by_cases hk:k<=n
 · rw[qe g' hk,List.getElem?_set]
   by_cases e:i=k
   ·subst e;rw[aY rfl,aY (by rw[qc];lia)]
   ·rw[aZ e,qe g hk,h k hk (fun z=>e z.symm)]
 ·rw[la (by rw[uq,qc];lia),la (by rw[qc];lia)]
theorem Gx{n:Nat}{g g':Nat->Rat}(h:∀k,k<=n->g' k=g k):lst n g=lst n g':=by
 apply qX;intro k;by_cases hk:k<=n
 ·rw[qe g hk,qe g' hk,h k hk]
 ·rw[la (by rw[qc];lia),la (by rw[qc];lia)]
end Pn
namespace Ow
open Pn Cn Ln Rt
abbrev Itm:=Option (List Int × Int)
def topR(ay sp:Int):Rat:=Rat.divInt ((sp*ay)^2) 10000
def cornO(j:Int)(ns ms:List Int):Option Rat:=if aF (cV ns ms)=0 then none else some (Rat.divInt ((j*aF ns*aF ms)^2) ((aF (cV ns ms):Int)^2))
def mnO(a:Rat):Option Rat->Rat |none=>a |some c=>mn a c
def betR(j ay:Int):Itm->Itm->Rat |some (ns,sp),some (ms,sq)=>mnO (mn (topR ay sp) (topR ay sq)) (cornO j ns ms) |_,_=>0
def atO(os:List Itm)(i:Nat):Itm:=(os[i]?).join
def ownF(j ay:Int)(os:List Itm):Nat->Rat |0=>0 |i+1=>betR j ay (atO os i) (atO os (i+1))
def leadF(os:List Itm)(i:Nat):Option Nat:=(atO os i).map fun q=>aF q.1
def ownL(j ay:Int)(os:List Itm):List Rat:=(List.range (os.length+1)).map (ownF j ay os)
theorem p7{os:List Itm}{i:Nat}{o:Itm}(h:os[i]? =some o):atO os i=o:=by unfold atO;rw[h];rfl
theorem aa2{os:List Itm}{i:Nat}(h:os.length<=i):atO os i=none:=by unfold atO;rw[la h];rfl
theorem C0(j ay:Int)(o:Itm):betR j ay o none=0:=by unfold betR;split<;>simp_all
theorem Sj(j ay:Int)(o:Itm):betR j ay none o=0:=by unfold betR;split<;>simp_all
theorem G2(j ay:Int)(os:List Itm):∀n,n=os.length->ownF j ay os n=0 |0,_=>rfl |n+1,h=>by show betR j ay (atO os n) (atO os (n+1))=0;rw[aa2 (i:=n+1) (by lia)];exact C0 _ _ _
theorem NW(j ay:Int)(os:List Itm):(ownL j ay os).length=os.length+1:=by simp[ownL]
theorem NX(j ay:Int)(os:List Itm){i:Nat}(h:i<=os.length):(ownL j ay os)[i]? =some (ownF j ay os i):=by unfold ownL;rw[cu,bZ (by simp;lia),ur];rfl
theorem NY(j ay:Int){os:List Itm}(h:os≠[]):ownL j ay os=[0]++(List.range (os.length-1)).map (fun i=>ownF j ay os (i+1))++[0]:=by
 have h0:0<os.length:=JQ.mpr h;apply qX;intro i;by_cases hi:i<=os.length
 · rw[NX j ay os hi]
   rcases Nat.eq_zero_or_pos i with rfl|hp
   ·rfl
   · by_cases hl:i=os.length
     · rw[zt (by simp;lia),hl,G2 j ay os _ rfl]
       have:os.length-([0]++List.map (fun i=>ownF j ay os (i+1)) (List.range (os.length-1))).length=0:=by simp;lia
       rw[this];rfl
     · rw[wM (by simp;lia),zt (by simp;lia),cu]
       have e:i-[(0:Rat)].length=i-1:=rfl;rw[e,bZ (by simp;lia),ur];show some _=some (ownF j ay os (i-1+1));rw[Nat.sub_add_cancel hp]
 ·rw[la (by rw[NW];lia),la (by simp;lia)]
theorem zO(ay sp:Int):0<=topR ay sp:=by
 unfold topR;rw[wH (by decide),fE,fE,lb,kr];rcases Int.le_total 0 (sp*ay)with h|h
 ·exact jz h h
 ·exact VO h h
theorem Xy(a:Int):0<=a^2:=by
 rw[fE,fE,lb,kr];rcases Int.le_total 0 a with h|h
 ·exact jz h h
 ·exact VO h h
theorem a9e{j:Int}{ns ms:List Int}{c:Rat}(h:cornO j ns ms=some c):0<=c:=by
 unfold cornO at h;split at h
 ·cases h
 ·next h0=>
   cases h;rw[wH]
   ·exact Xy _
   ·rw[fE,fE,lb,kr];exact iG (by lia) (by lia)
theorem a9S(j ay:Int)(o p:Itm):0<=betR j ay o p:=by
 unfold betR;split
 ·next ns sp ms sq=>
   have h:=kJ (zO ay sp) (zO ay sq);unfold mnO;split
   ·exact h
   ·next c e=>exact kJ h (a9e e)
 ·exact qT
theorem O0(j ay:Int)(os:List Itm):∀i,0<=ownF j ay os i |0=>qT |i+1=>a9S _ _ _ _
def OkI(o:Itm):Prop:=∀ns sp,o=some (ns,sp)->(∀z∈ns,(z.natAbs:Int)<=100)/\1<=sp/\sp<=20
theorem Dk{a:Int}{m:Nat}(h:a.natAbs<=m):(a^2).natAbs<=m*m:=by rw[fE,fE,lb,kr];exact kH h h
theorem uz{ay sp:Int}(h1:1<=sp)(h2:sp<=20)(h3:10<=ay)(h4:ay<=200):Bd 64 (topR ay sp):=by
 have kQ:(2:Nat)^64=18446744073709551616:=by decide
 have a:=Dk (kH (a:=sp) (b:=ay) (m:=20) (n:=200) (by lia) (by lia));exact ka (by decide) (by rw[kQ];lia) (by decide)
theorem IZ{j:Int}{ns ms:List Int}{c:Rat}(h1:1<=j)(h2:j<=50)(hn:∀z∈ns,(z.natAbs:Int)<=100)(hm:∀z∈ms,(z.natAbs:Int)<=100)(h:cornO j ns ms=some c):Bd 64 c:=by
 have kQ:(2:Nat)^64=18446744073709551616:=by decide
 have cb:=BR (fun z hz=>by have:=hn z hz;lia) (fun z hz=>by have:=hm z hz;lia) (ns:=ns) (ms:=ms);have hb:=mO cb;have l1:=mO (ns:=ns) (m:=100) fun z hz=>by have:=hn z hz;lia
 have l2:=mO (ns:=ms) (m:=100) fun z hz=>by have:=hm z hz;lia
 unfold cornO at h;split at h
 ·cases h
 ·next h0=>cases h;have a:=Dk (kH (kH (a:=j) (b:=(aF ns:Int)) (m:=50) (n:=100) (by lia) (by lia)) (b:=(aF ms:Int)) (n:=100) (by lia));have b:=Dk (a:=(aF (cV ns ms):Int)) (m:=2000000) (by lia);refine ka ?_ (by rw[kQ];lia) (by rw[kQ];lia);rw[fE,fE,lb,kr];exact JV (by lia) (by lia)
theorem y6{n:Nat}{a b:Rat}(h1:Bd n a)(h2:Bd n b):Bd n (mn a b):=by rcases xZ a b with e|e<;>rw[e]<;>assumption
theorem K3:Bd 64 (0:Rat):=⟨by decide,by decide⟩
theorem a9T{j ay:Int}{o p:Itm}(h1:1<=j)(h2:j<=50)(h3:10<=ay)(h4:ay<=200)(ho:OkI o)(hp:OkI p):Bd 64 (betR j ay o p):=by
 unfold betR;split
 ·next ns sp ms sq=>
   obtain⟨a1,a2,a3⟩:=ho ns sp rfl;obtain⟨b1,b2,b3⟩:=hp ms sq rfl;have h:=y6 (uz a2 a3 h3 h4) (uz b2 b3 h3 h4);unfold mnO;split
   ·exact h
   ·next c e=>exact y6 h (IZ h1 h2 a1 b1 e)
 ·exact K3
def OkIs(os:List Itm):Prop:=∀i,OkI (atO os i)
theorem G3{j ay:Int}{os:List Itm}(h1:1<=j)(h2:j<=50)(h3:10<=ay)(h4:ay<=200)(ho:OkIs os):∀i,Bd 64 (ownF j ay os i) |0=>K3 |i+1=>a9T h1 h2 h3 h4 (ho i) (ho (i+1))
end Ow
namespace Wk
open PySem L2
def fL(pl ns:List Int):List Int:=List.zipWith (fun a b=>a+b) pl ns
theorem qI{pl ns:List Int}(h:ns.length=pl.length):(fL pl ns).length=pl.length:=by unfold fL;rw[List.length_zipWith,h];exact Nat.min_self _
theorem Jj{pl ns:List Int}{i:Nat}{a b:Int}(h1:pl[i]? =some a)(h2:ns[i]? =some b):(fL pl ns)[i]? =some (a+b):=by unfold fL;rw[CG,h1,h2]
def pV(rs pl:List Int):Bool:=(pl.zip rs).all fun p=>decide (0<=p.1)&&decide (p.1<=p.2)
structure iQ(rs pl:List Int):Prop where
 len:pl.length=rs.length
 at':∀(i:Nat)(x r:Int),pl[i]? =some x->rs[i]? =some r->0<=x/\x<=r
theorem O8{rs pl:List Int}(h:pl.length=rs.length):pV rs pl=true↔iQ rs pl:=by
 unfold pV;rw[iE];constructor
 · intro a
   refine⟨h,fun i x r e1 e2=>?_⟩;have:=a (x,r) (gy ((wL (z:=(x,r))).mpr ⟨e1,e2⟩));rw[eV,qR,qR]at this;exact this
 · rintro a ⟨x,r⟩ hp
   obtain⟨i,hi⟩:=pG.mp hp;obtain⟨e1,e2⟩:=(wL (z:=(x,r))).mp hi;have:=a.at' i x r e1 e2;rw[eV,qR,qR];exact this
end Wk
namespace L2
open PySem PySem.Spec PyProof.Rows
section
variable {X:Cx}
theorem a0a(K:aa)(h:X.K=K){o e:Expr}{to:TE}{t:TA}{apos cx:Pos}(ho:PE X o to)(ha:PA X [e] t) (j8:attributeBase o "extend" X.env (eval o X.env)=eval o X.env:=by rfl) (kN:((backTo cx (starEach [e] X.env)).all (fun x=>!x.1)&&(backToKw cx (keywordEach [] X.env)).all (fun x=>x.1.isSome) &&decide ([e].length+([]:List Keyword).length+(if([]:List Keyword).isEmpty then 0 else 1)<30))=true:=by rfl) (j6:(apos.endLine==cx.line)=true:=by rfl)(hs:starEach [e] X.env=(false,eval e X.env)::starEach [] X.env:=by rfl)(kK:(backTo cx (starEach [] X.env)).any (·.1)=false:=by rfl): PE X (.Call (.Attribute o "extend" apos) [e] [] cx) (rC K "list" ND to t):=by subst h;exact uV zo PySem.F.slot_list_extend PySem.F.type_list_extend a2B ho ha j8 kN j6 hs kK
open PyProof
end
end L2
namespace L2
open PySem PySem.Spec PyProof.Rows
section
variable {K:aa} {H H' H2:Hp}
end
def Jr(z:Str):It:=⟨fun i _=>i<z.cps.size,fun i H x H'=>H'=H/\∃c,z.cps.toList[i]? =some c/\x= .str ⟨#[c]⟩,fun i _=>z.cps.size<=i⟩
theorem Wy{P:ah}{w:World}{K:aa}{tg:Expr}(it:Addr)(z:Str)(t:Tok)(ty:String)(yi:["enumerate","zip","dict_itemiterator","dict_reverseitemiterator","odict_iterator","itertools.zip_longest","itertools.pairwise"].contains ty=false) (W:∀A':aj,A'.handled=none->Walks P w A' it [it] [it] z.cps.size (SignAt z) (fun i h=>h.IsStrIter it ty z t i)) (self:∀(A:aj)(i:Nat)(s:ae)(Q:Value->ae->Prop)(E:Value->ae->Prop),s.heap.IsStrIter it ty z t i->Q (.ref it) s->wpAny (model P w) A (pyIter (.ref it)) Q E s): Turn P w K tg (Jr z) [it] it (fun i h=>h.IsStrIter it ty z t i/\i<=z.cps.size) where
  mem:=by simp
  obj:=fun i h st b hb=>by
   have e:b=it:=by simpa using hb
   subst e;obtain⟨⟨o,e,c,d⟩,_⟩:=st;exact⟨o,e,fun v z=>by rw[d]at z;cases z⟩
  keep:=fun i h h' st k=>⟨let⟨o,e,r⟩:=st.1;⟨o,k it (by simp) o e,r⟩,st.2⟩
  item:=by intro X hP hw hK hc i au s Z H E I hf st hg;subst hP hw hK;obtain⟨f0,f1,f2,f3,f4,f5⟩:=hf it (by simp);refine(W X.A (I.ok.hd hc)).item i s _ _ hg st.1 fun v h' tk hv gE kk=>?_;obtain⟨c,u,ec,rfl⟩:=hv;have I1:Inv X au Z H {s with heap:=h',toks:=tk}:=I.turned (fun b o hb e=>kk b o (by simpa using hb) e) f0 f1 f3 f4 f5;obtain⟨o,e,cl,d⟩:=id gE;exact⟨_,rfl,vR (s:={s with heap:=h',toks:=tk}) e cl d yi ⟨.str ⟨#[c]⟩,H,I1,⟨u,rfl⟩,⟨rfl,c,by simpa using ec,rfl⟩,⟨gE,hg⟩,fun b hb=>(hf b hb).1⟩⟩
  done:=by intro X hP hw hK hc i au s Z H E I hf st hg;subst hP hw hK;obtain⟨f0,f1,f2,f3,f4,f5⟩:=hf it (by simp);obtain⟨st,hle⟩:=st;have ei:i=z.cps.size:=Nat.le_antisymm hle hg;subst ei;exact(W X.A (I.ok.hd hc)).done s _ _ st fun h' tk eb=>⟨rfl,I.turned (fun b o hb e=>eb b o (by simpa using hb) e) f0 f1 f3 f4 f5⟩
  self:=fun A i s Q E st h=>self A i s Q E st.1 h
section
variable {X:Cx} {tg:Expr}
inductive V9(R:It->Hp->Prop)(x:V)(H1:Hp):Prop |mk (z:_)(h0:x= .str z)(h1:R (Jr z) H1):V9 R x H1
def a4g(tl:TE):TI:=fun Z H R=>tl Z H fun x H1=>V9 R x H1
theorem ZQ{l:Expr}{tl:TE}(hl:PE X l tl):PI X tg l (a4g tl):=by
 intro au s Z H R I h;refine aW (hl au s Z H _ I h) fun v s1 ⟨x,H1,I1,r1,q1⟩=>?_;obtain⟨z,e,q⟩:=q1;subst e;obtain⟨t,rfl⟩:=r1;have fin:∀ty,["enumerate","zip","dict_itemiterator","dict_reverseitemiterator","odict_iterator","itertools.zip_longest","itertools.pairwise"].contains ty=false->(∀A':aj,A'.handled=none->Walks X.prog X.w A' s1.heap.objs.size [s1.heap.objs.size] [s1.heap.objs.size] z.cps.size (SignAt z) (fun i h=>h.IsStrIter s1.heap.objs.size ty z t i))->(∀(A:aj)(i:Nat)(s:ae)(Q:Value->ae->Prop)(E:Value->ae->Prop),s.heap.IsStrIter s1.heap.objs.size ty z t i->Q (.ref s1.heap.objs.size) s->wpAny (model X.prog X.w) A (pyIter (.ref s1.heap.objs.size)) Q E s)->Cf X au Z tg R (.ref s1.heap.objs.size) {s1 with heap:=s1.heap.push {cls:=.type ty,data:=.fields #[.str z t,.int 0 0]}}:=fun ty h1 h2 h3=>by
   refine⟨s1.heap.objs.size,[s1.heap.objs.size],_,_,H1,rfl,I1.kept (t':=s1.toks) fun b o e=>cn _ e,Wy _ z t ty h1 h2 h3,⟨⟨_,eh _ rfl,rfl,rfl⟩,fT _⟩,fun b hb=>?_,q⟩;have e:b=s1.heap.objs.size:=by simpa using hb
   subst e;exact I1.oV (bF _) (I1.aV.fresh (bF _))
 cases ha:z.cps.all (·<128)
 ·exact wpAny_pyIter_wide ha (fin "str_iterator" (by decide) (fun A' hA=>Walks.strWide hA _ z t) (fun _ _ _ _ _ st h=>wpAny_pyIter_striter_wide st h))
 ·exact wpAny_pyIter_ascii ha (fin "str_ascii_iterator" (by decide) (fun A' hA=>Walks.strAscii hA _ z t) (fun _ _ _ _ _ st h=>wpAny_pyIter_striter_ascii st h))
theorem a9k{z:Str}{f:Nat->Bool}{te:TE}{Q:VK}{D:Addr}{H H0:Hp}(rest:St)(nw:Nw H H0 D (.lst []))(hz:z.length<=1000) (hs:∀(c:Nat)(H2:Hp)(Q':VK),c∈z.cps.toList->aB H H2->(∀H3,aB H2 H3->Q' (.bl (f c)) H3)->te (some (.str ⟨#[c]⟩)::rest) H2 Q') (hq:∀H',aB H H'->H' D=some (.lst ((z.cps.toList.map f).map V.bl))->Q (.ref D) H'):iD (Jr z) (eK 0) gO te Q D (none::rest) H0:=by
  have hl:z.cps.toList.length=z.cps.size:=by simp
  refine J0 (xs:=z.cps.toList.map fun c=>V.str ⟨#[c]⟩) (bs:=z.cps.toList.map f) rest nw (by simp) (by simpa[Str.length]using hz) ?_ ?_ ?_ hq
  · intro i x H2 ex s2
    rw[cu]at ex;cases ec:z.cps.toList[i]? with |none=>rw[ec]at ex;cases ex |some c=>rw[ec]at ex;cases ex;refine⟨by have:=(dC.mp ec).1;show i<z.cps.size;omega,fun y H3 ⟨e3,c',Rj,e⟩=>⟨e3,?_⟩⟩;rw[ec]at Rj;cases Rj;exact e
  · intro H2 s2
    show z.cps.size<=(z.cps.toList.map _).length;rw[cj,hl];exact bF _
  · intro i x b H2 Q' ex eb s2 jI
    rw[cu]at ex eb;cases ec:z.cps.toList[i]? with |none=>rw[ec]at ex;cases ex |some c=>rw[ec]at ex eb;cases ex;cases eb;exact hs c H2 Q' (gy ec) s2 jI
theorem a0t:dc X (compareOp .In) (fun x y H Q=>∃c j,x= .str ⟨#[c]⟩/\y= .str j/\Q (.bl (decide (c∈j.cps.toList))) H):=by intro au s Z H x y v u Q I rx ry h;obtain⟨c,j,rfl,rfl,q⟩:=h;refine a0s au s Z H _ _ v u Q I rx ry ⟨_,_,rfl,rfl,?_⟩;rw[PySem.StrLaws.found_one];exact q
inductive UY(K:aa)(x:V)(y:V)(H:Hp)(Q:VK):Prop |mk (p:_)(xs:_)(d:_)(ds:_)(h0:y= .ref p)(h1:aP K H p xs)(h2:RD K H x d)(h3:aI K H xs ds)(h4:SeqAt.shaped d=true)(h5:(∀e∈ds,SeqAt.shaped e=true))(h6:Q (.bl (ds.any fun e=>PyData.eqv e d)) H):UY K x y H Q
def Zo(K:aa):R2:=fun x y H Q=>UY K x y H Q
theorem a4b(K:aa)(hK:X.K=K)(hu:X.A.units+65<cLine):dc X (compareOp .In) (Zo K):=by
 subst hK;intro au s Z H x y v u Q I rx ry h;obtain⟨p,xs,d,ds,rfl,hx,hd,qv,sd,Y2,q⟩:=h;cases ry;obtain⟨its,r,pl,hz⟩:=I.tuple hx;obtain⟨k1,k2⟩:=QS I hu rx hd sd r qv Y2;refine SeqAt.in_tupleAt (tP s.heap d) (show s.heap.IsTuple p its.toArray from pl) (fun w hw=>k1 w (by simpa using hw)) ⟨.bl _,H,I,rfl,?_⟩;have e:its.toArray.any (tP s.heap d)=ds.any fun e=>PyData.eqv e d:=by rw[<-k2];simp
 rw[e];exact q
end
def wA(lo:Int)(n:Nat):It:=⟨fun i _=>i<n,fun i H x H'=>H'=H/\x= .int (lo-i),fun i _=>n<=i⟩
theorem WD{P:ah}{w:World}{K:aa}{tg:Expr}(it:Addr)(lo:Int)(n:Nat):Turn P w K tg (wA lo n) [it] it (fun i h=>IsRangeIter h it (lo+(i:Nat)*(-1)) ((n:Int)-(i:Nat)) (-1)) where
 mem:=by simp
 obj:=fun i h st b hb=>by
  have e:b=it:=by simpa using hb
  subst e;exact⟨_,st,fun v z=>by have z':Data.fields _=Data.cell v:=z;cases z'⟩
 keep:=fun i h h' st k=>k it (by simp) _ st
 item:=by
  intro X hP hw hK hc i au s Z H E I hf st hg;subst hP hw hK;obtain⟨f0,f1,f2,f3,f4,f5⟩:=hf it (by simp);have W:=Walks.range (prog:=X.prog) (w:=X.w) (I.ok.hd hc) it lo (-1) n;refine W.item i s _ _ hg st fun v h' tk hv gE kk=>?_;obtain⟨t,rfl⟩:=hv;have I1:Inv X au Z H {s with heap:=h',toks:=tk}:=I.turned (fun b o hb e=>kk b o (by simpa using hb) e) f0 f1 f3 f4 f5;refine⟨_,rfl,vR (s:={s with heap:=h',toks:=tk}) (n:="range_iterator") gE rfl rfl (by decide) ⟨.int (lo-i),H,I1,⟨t,?_⟩,⟨rfl,rfl⟩,gE,fun b hb=>(hf b hb).1⟩⟩;have e:lo+(i:Int)*(-1)=lo-i:=by lia
  rw[e]
 done:=by intro X hP hw hK hc i au s Z H E I hf st hg;subst hP hw hK;obtain⟨f0,f1,f2,f3,f4,f5⟩:=hf it (by simp);exact Vt (I.ok.hd hc) st (by have:n<=i:=hg;lia) fun h' eb=>⟨rfl,I.turned (t':=s.toks) (fun b o hb e=>eb b o hb e) f0 f1 f3 f4 f5⟩
 self:=fun _ _ _ _ _ st h=>Jz st h
theorem XC{a b:Int}(ha:-(2^62)<=a)(Qb:a<2^62)(hb:-(2^62)<=b)(oT:b<2^62):Builtin.Range.small a b (-1)=true:=by unfold Builtin.Range.small Builtin.Range.rangeSize;rw[aZ (by decide),show(-(-1):Int)=1 by decide,Int.ediv_one];simp only[Builtin.Range.rangeFitsLong,eV,Bool.or_eq_true,Ct,fM,show¬((-1:Int)>0) by decide,if_false];split<;>lia
theorem XQ(a b:Int):Builtin.Range.rangeSize a b (-1)=(((a-b).toNat:Nat):Int):=by unfold Builtin.Range.rangeSize;rw[aZ (by decide),show(-(-1):Int)=1 by decide,Int.ediv_one];split<;>lia
inductive Va(R:It->Hp->Prop)(vs:List V)(H1:Hp):Prop |mk (i:Int)(j:Int)(h0:vs=[.int i,.int j,.int (-1)])(h1:(-(2^62)<=i/\i<2^62/\-(2^62)<=j/\j<2^62))(h2:R (wA i (i-j).toNat) H1):Va R vs H1
def a4h(ta:TA):TI:=fun Z H R=>ta Z H fun vs H1=>Va R vs H1
section
variable {X:Cx} {tg:Expr}
theorem Zc{au:List (Addr×Obj)}{Z:St}{H:Hp}{s:ae}{R:It->Hp->Prop}{E:Value->ae->Prop}{lo hi:Int}{t u v:Tok}{tk:Nat}(I:Inv X au Z H s)(h1:-(2^62)<=lo)(h2:lo<2^62)(h3:-(2^62)<=hi)(h4:hi<2^62) (q:R (wA lo (lo-hi).toNat) H):wpAny (model X.prog X.w) X.A (pyIter (.ref s.heap.objs.size)) (Cf X au Z tg R) E {s with heap:=s.heap.push {cls:=.type "range",data:=.fields #[.int lo t,.int hi u,.int (-1) v]},toks:=tk}:=by
  refine wpAny_pyIter_range (IsRange.new ..) (XC h1 h2 h3 h4) ?_;have I1:Inv X au Z H {s with heap:=s.heap.push {cls:=.type "range",data:=.fields #[.int lo t,.int hi u,.int (-1) v]},toks:=tk}:=I.kept fun b o e=>cn _ e;refine⟨(s.heap.push {cls:=.type "range",data:=.fields #[.int lo t,.int hi u,.int (-1) v]}).objs.size,[(s.heap.push {cls:=.type "range",data:=.fields #[.int lo t,.int hi u,.int (-1) v]}).objs.size],_,_,H,rfl,I1.kept (t':=tk) fun b o e=>cn _ e,WD _ lo (lo-hi).toNat,?_,fun b hb=>?_,q⟩
  · have e1:lo+((0:Nat):Int)*(-1)=lo:=by simp
    have e2:(((lo-hi).toNat:Nat):Int)-((0:Nat):Int)=Builtin.Range.rangeSize lo hi (-1):=by rw[XQ];lia
    show IsRangeIter _ _ (lo+((0:Nat):Int)*(-1)) ((((lo-hi).toNat:Nat):Int)-((0:Nat):Int)) (-1);rw[e1,e2];exact eh _ rfl
  · have e:b=(s.heap.push {cls:=.type "range",data:=.fields #[.int lo t,.int hi u,.int (-1) v]}).objs.size:=by simpa using hb
    subst e;exact I1.oV (bF _) (I1.aV.fresh (bF _))
theorem ZS{a b c:Expr}{ta:TA}{p pos:Pos}(hg:Gl X "range")(hm:X.mg "range"=none)(ha:PA X [a,b,c] ta)(hs:starEach [a,b,c] X.env=[(false,eval a X.env),(false,eval b X.env),(false,eval c X.env)]:=by rfl)(j4:starEach [b,c] X.env=[(false,eval b X.env),(false,eval c X.env)]:=by rfl): PI X tg (.Call (.Name "range" p) [a,b,c] [] pos) (a4h ta):=by intro au s Z H R I h;refine Call_ (oB I hg hm boot_range (wJ (aW (ha pos au s Z H _ I h) fun us s1 ⟨vs,H1,I1,r1,q1⟩=>?_) (by rw[hs,j4]) (by rw[j4];rfl)));obtain⟨i,j,e,⟨q1,q2,q3,q4⟩,q⟩:=q1;subst e;cases r1 with |cons r rr=>cases rr with |cons r' rr=>cases rr with |cons Zv rr=>cases rr;obtain⟨t,rfl⟩:=r;obtain⟨t',rfl⟩:=r';obtain⟨t'',rfl⟩:=Zv;exact call_range_3 (by decide) (Zc I1 q1 q2 q3 q4 q) (Or.inl (PyProof.noPylong_small (by lia)))
theorem a7a{lo:Int}{n:Nat}{g:TG}{tb:TS}{D:Ends}{Z:St}{H:Hp}(Pv:Nat->St->Hp->Prop)(h0:Pv 0 Z H) (hs:∀i Z H,i<n->Pv i Z H->g (.int (lo-i)) Z H fun σ2 H2=>tb {D with nx:=Pv (i+1),ct:=Pv (i+1),bk:=D.nx} σ2 H2)(hd:∀Z H,Pv n Z H->D.nx Z H): ∃W:Nat->Nat->St->Hp->Prop,(∃m,W 0 m Z H)/\∀i m Z H,W i m Z H->((wA lo n).stop i H/\D.nx Z H)\/((wA lo n).go i H/\∃N:St->Hp->Prop,(∀σ' H',N σ' H'->∃m',m'<m/\W (i+1) m' σ' H')/\∀x H',(wA lo n).jA i H x H'->g x Z H' fun σ2 H2=>tb {D with nx:=N,ct:=N,bk:=D.nx} σ2 H2):=by
  refine⟨fun i m Z H=>m=n-i/\i<=n/\Pv i Z H,⟨n,by simp,fT _,h0⟩,?_⟩;rintro i m Z H ⟨rfl,hi,hp⟩;by_cases h:i<n
  · refine .inr ⟨h,Pv (i+1),fun σ' H' vG=>⟨n-(i+1),by lia,rfl,by lia,vG⟩,?_⟩
    rintro x H' ⟨rfl,rfl⟩;exact hs i Z H' h hp
  · have e:i=n:=by lia
    subst e;exact .inl ⟨bF _,hd Z H hp⟩
end
theorem RO{K:aa}{b1 b2:Bool}{l1 l2:Addr}{xs ys:List V}{bs:List Bool}{te:TE}{Q:VK}{D:Addr}{H H0:Hp}{n:Nat}(rest:St)(hn:n=2)(h1:eg b1 K H l1 xs)(h2:eg b2 K H l2 ys)(nw:Nw H H0 D (.lst [])) (hl:min xs.length ys.length=bs.length)(hz:bs.length<=100000) (hs:∀(i:Nat)(x y:V)(b:Bool)(H2:Hp)(Q':VK),xs[i]? =some x->ys[i]? =some y->bs[i]? =some b->aB H H2->(∀H3,aB H2 H3->Q' (.bl b) H3)->te (some x::some y::rest) H2 Q') (hq:∀H',aB H H'->H' D=some (.lst (bs.map V.bl))->Q (.ref D) H'):iD (mj K b1 b2 l1 l2) (oU K n (jJ (eK 0) (jJ (eK 1) qz))) gO te Q D (none::none::rest) H0:=by
  subst hn;have hD:=nw.no;refine qF bs.length (fun i Z H2=>aB H H2/\H2 D=some (.lst ((bs.take i).map V.bl))/\∃v v',Z=v::v'::rest) ?_ ?_ ?_
  ·exact⟨nw.same,nw.at',none,none,rfl⟩
  · rintro i Z H2 hi ⟨s2,d2,v,v',rfl⟩
    have hx:i<xs.length:=by lia
    have hy:i<ys.length:=by lia
    have ex:=bZ hx;have ey:=bZ hy;have eb:=bZ hi;refine⟨⟨xs,ys,_,_,h1.go s2,h2.go s2,ex,ey⟩,fun y' H3 jH=>?_⟩;obtain⟨T,x0,y0,rfl,k1,k2,n3⟩:=jH;have e1:=k1 _ (h1.go s2);have e2:=k2 _ (h2.go s2);rw[ex]at e1;rw[ey]at e2;cases e1;cases e2;refine⟨T,_,rfl,aP.of n3.at',rfl,_,_,rfl,_,_,rfl,rfl,?_⟩;refine yes (bT ?_);refine hs i _ _ _ _ _ ex ey eb (s2.trans n3.same) fun H4 s4=>?_;refine⟨_,s4 _ _ (n3.same _ _ d2),?_,bs.length-(i+1),by lia,rfl,by lia,fun b o e=>?_,?_,_,_,rfl⟩
    · rw[cj,nS]
      have:(100000:Nat)<sizeLine:=by decide
      lia
    ·rw[aK (fQ e hD)];exact s4 b o (n3.same b o (s2 b o e))
    ·rw[ba,pF,eb,nR];rfl
  · rintro Z H2 ⟨s2,d2,v,v',rfl⟩
    refine⟨⟨xs,ys,h1.go s2,h2.go s2,by lia⟩,hq H2 s2 ?_⟩;rw[d2,wK]
structure MA(K:aa)(C:Addr)(m qual:Str)(st:Stmt):Prop where ex:∃f fd,Meth K C m f/\jQ K m qual st f fd
def cX(P:ah)(w:World)(K:aa)(mg:Str->Option Value)(base:Heap)(C:Addr)(m:Str)(k:Nat)(sp:Sp):Prop:=∃f fd ps,iR P w K mg base ja k f fd ps sp/\Meth K C m f/\Binds K fd ps []
structure CA(K:aa)(mg:Str->Option Value)(C:Addr)(x qual:Str)(st:Stmt):Prop where
 mgC:mg x=some (.ref C)
 ex:∃f fd,Mk K C f/\jQ K "__init__" qual st f fd
def Cj(P:ah)(w:World)(K:aa)(mg:Str->Option Value)(base:Heap)(C:Addr)(x:Str)(k:Nat)(sp:Sp):Prop:=∃f fd ps,iR P w K mg base ja k f fd ps sp/\Mk K C f/\Binds K fd ps []/\mg x=some (.ref C)
section
variable {P:ah}{w:World}{K:aa}{mg:Str->Option Value}{base:Heap}
theorem iY{C:Addr}{m qual:Str}{st:Stmt}{f:Addr}{oc:Value}{od an:Option Addr}{fX:Array (Option Value)}{kV doc pm aJ ct:Value} (a:PySem.W.findIn K (.ref C) m=some (some (.ref f)))(i:PySem.W.isFn K (.ref f)=true) (l:K.lookup f=some ⟨oc,od,.func (PySem.W.fnOf m qual (jN st) (gs st) (aR st) .none kV doc pm an aJ ct),fX⟩) (c:PySem.W.codeIn K aJ qual=true)(k:PySem.W.keepIn K (.ref f)=true):MA K C m qual st:=⟨f,_,⟨a,i,k⟩,BC l c k⟩
theorem a9G{h:Heap}{C:Addr}{x qual:Str}{st:Stmt}{f:Addr}{oc:Value}{od an:Option Addr}{fX:Array (Option Value)}{kV doc pm aJ ct:Value}(X:K.In h)(G:h.Ns mainGlobals mg) (aC:PySem.W.nsIn K mainGlobals x=some (some (.ref C)))(mk:PySem.W.makesIn K C=true)(kc:PySem.W.keepIn K (.ref C)=true) (a:PySem.W.findIn K (.ref C) "__init__"=some (some (.ref f)))(i:PySem.W.isFn K (.ref f)=true) (l:K.lookup f=some ⟨oc,od,.func (PySem.W.fnOf "__init__" qual (jN st) (gs st) (aR st) .none kV doc pm an aJ ct),fX⟩) (c:PySem.W.codeIn K aJ qual=true)(k:PySem.W.keepIn K (.ref f)=true):CA K mg C x qual st:=⟨wI X G aC,f,_,⟨mk,a,i,kc⟩,BC l c k⟩
theorem MA.has{C:Addr}{m qual:Str}{st:Stmt}{N ps:List Str}{k:Nat}{sp:Sp}(F:MA K C m qual st)(S:bh N ps (aR st))(len:∀vs H Q E,sp vs H Q E->vs.length=ps.length) (hb:∀(kV doc pm:Value)(an:Option Addr)(aJ ct:Value)(us:List Value),us.length=ps.length->bindArgs (PySem.W.fnOf m qual (jN st) (gs st) (aR st) .none kV doc pm an aJ ct) ⟨us,[]⟩=pure (ps.zip us)) (iz:∀(f:Addr)(aJ:Value)(A:aj)(outer:List Env)(s:ae)(H:Hp)(vs:List V)(Q:VK)(E:XK),cE k (A.deeper (envOfC qual (aR st) s.heap.objs.size f aJ))->sp vs H Q E->∃t,gK (iP ja P w K mg base N qual (aR st) f aJ A outer s H E).oz (gs st) t/\t {nx:=fun _ H'=>Q .bp H',rt:=Q} (start N vs) H):cX P w K mg base C m (k+1) sp:=by obtain⟨f,fd,hm,F⟩:=F.ex;exact⟨f,fd,ps,F.ok S len fun aJ A outer s H vs Q E=>iz f aJ A outer s H vs Q E,hm,F.binds hb⟩
theorem CA.has{C:Addr}{x qual:Str}{st:Stmt}{N ps:List Str}{k:Nat}{sp:Sp}(F:CA K mg C x qual st)(S:bh N ps (aR st))(len:∀vs H Q E,sp vs H Q E->vs.length=ps.length) (hb:∀(kV doc pm:Value)(an:Option Addr)(aJ ct:Value)(us:List Value),us.length=ps.length->bindArgs (PySem.W.fnOf "__init__" qual (jN st) (gs st) (aR st) .none kV doc pm an aJ ct) ⟨us,[]⟩=pure (ps.zip us)) (iz:∀(f:Addr)(aJ:Value)(A:aj)(outer:List Env)(s:ae)(H:Hp)(vs:List V)(Q:VK)(E:XK),cE k (A.deeper (envOfC qual (aR st) s.heap.objs.size f aJ))->sp vs H Q E->∃t,gK (iP ja P w K mg base N qual (aR st) f aJ A outer s H E).oz (gs st) t/\t {nx:=fun _ H'=>Q .bp H',rt:=Q} (start N vs) H):Cj P w K mg base C x (k+1) sp:=by obtain⟨f,fd,hm,F'⟩:=F.ex;exact⟨f,fd,ps,F'.ok S len fun aJ A outer s H vs Q E=>iz f aJ A outer s H vs Q E,hm,F'.binds hb,F.mgC⟩
end
section
variable {X:Cx}{k:Nat}{x m:Str}{C:Addr}{p pos apos:Pos}{o e:Expr}{es:List Expr}{t:TA}{ta:TE}{sp:Sp}
inductive Jt(C:Addr)(m:Str)(sp:Sp)(t:TA)(Z:St)(Q:VK)(x:V)(H1:Hp):Prop |mk (a:_)(dx:_)(fs:_)(h0:x= .ref a)(h1:H1 a=some (.ins C dx fs))(h2:fs.lookup m=none)(h3:t Z H1 fun vs H2=>sp (x::vs) H2 Q E0):Jt C m sp t Z Q x H1
def Ks(C:Addr)(m:Str)(sp:Sp)(ta:TE)(t:TA):TE:=fun Z H Q=>ta Z H fun x H1=>Jt C m sp t Z Q x H1
theorem OE{Z:St}{Q:VK}{x:V}{H1:Hp}:ud C m sp [] E0 t Z Q x H1=Jt C m sp t Z Q x H1:=by
 have e1:(fun(vs:List V) H1=>sp (x::(vs++[])) H1 Q E0)=fun vs H1=>sp (x::vs) H1 Q E0:=by funext vs H1;rw[CI]
 refine propext ⟨fun⟨a,dx,fs,h0,h1,h2,h3⟩=>⟨a,dx,fs,h0,h1,h2,?_⟩,fun⟨a,dx,fs,h0,h1,h2,h3⟩=>⟨a,dx,fs,h0,h1,h2,?_⟩⟩
 ·rw[<-e1];exact h3
 ·rw[e1];exact h3
theorem Ak{pl:Sem Bool}(F:cX X.prog X.w X.K X.mg X.base C m k sp)(c:jR X.K C)(hr:cE k X.A)(he:PE X o ta)(ha:PA X (e::es) t) (gG:starEach (e::es) X.env=(false,eval e X.env)::starEach es X.env:=by rfl)(fZ:(backTo pos (starEach es X.env)).any (·.1)=false:=by rfl) (ht:eval (.Call (.Attribute o m apos) (e::es) [] pos) X.env=(do
     let ov<-eval o X.env
     standAt apos.atName
     let(f,first)<-holding [ov] (getMethod ov m pl)
     callWith pos f first (backTo pos (starEach (e::es) X.env)) (backToKw pos (keywordEach [] X.env))):=by rfl): PE X (.Call (.Attribute o m apos) (e::es) [] pos) (Ks C m sp ta t):=by
  obtain⟨f,fd,ps,F,hm,hb⟩:=F;have h:=NP (pos:=pos) (apos:=apos) (pl:=pl) he c hm F hr hb .nil Am ha gG fZ ht;intro au s Z H Q I hq;refine h au s Z H Q I ?_;show ta Z H fun x H1=>ud C m sp [] E0 t Z Q x H1;simp only[OE];exact hq
theorem iK{pl:Sem Bool}(F:cX X.prog X.w X.K X.mg X.base C m k sp)(c:jR X.K C)(hr:cE k X.A)(he:PE X o ta) (ht:eval (.Call (.Attribute o m apos) [] [] pos) X.env=(do
     let ov<-eval o X.env
     standAt apos.atName
     let(f,first)<-holding [ov] (getMethod ov m pl)
     callWith pos f first (backTo pos (starEach [] X.env)) (backToKw pos (keywordEach [] X.env))):=by rfl): PE X (.Call (.Attribute o m apos) [] [] pos) (Ks C m sp ta mx):=by
  obtain⟨f,fd,ps,F,hm,hb⟩:=F;have h:=a00 (pos:=pos) (apos:=apos) (pl:=pl) he c hm F hr hb .nil Am ht;intro au s Z H Q I hq;refine h au s Z H Q I ?_;show ta Z H fun x H1=>ud C m sp [] E0 mx Z Q x H1;simp only[OE];exact hq
def X2(C:Addr)(sp:Sp)(t:TA):TE:=fun Z H Q=>t Z H fun vs H1=>∀x dx,H1 x=none->H1 dx=none->dx≠x->sp (.ref x::vs) (upd (upd H1 dx (.own x)) x (.ins C dx [])) (fun v H2=>v= .bp/\Q (.ref x) H2) E0
theorem ZZ(F:Cj X.prog X.w X.K X.mg X.base C x k sp)(hr:cE (k+1) X.A)(hg:Gl X x)(ha:PA X (e::es) t)(j7:(x==("__debug__":Str))=false:=by decide) (he:starEach (e::es) X.env=(false,eval e X.env)::starEach es X.env:=by rfl)(fZ:(backTo pos (starEach es X.env)).any (·.1)=false:=by rfl): PE X (.Call (.Name x p) (e::es) [] pos) (X2 C sp t):=by
  obtain⟨f,fd,ps,F,M,hb,hm⟩:=F;have h:=a01 (pos:=pos) (p:=p) M F hr hg hm hb .nil Am ha j7 he fZ;intro au s Z H Q I hq;refine h au s Z H Q I ?_;have e1:(fun(vs:List V) H1=>∀x dx,H1 x=none->H1 dx=none->dx≠x->sp (.ref x::(vs++[])) (upd (upd H1 dx (.own x)) x (.ins C dx [])) (fun v H2=>v= .bp/\Q (.ref x) H2) E0) =fun vs H1=>∀x dx,H1 x=none->H1 dx=none->dx≠x->sp (.ref x::vs) (upd (upd H1 dx (.own x)) x (.ins C dx [])) (fun v H2=>v= .bp/\Q (.ref x) H2) E0:=by funext vs H1;rw[CI]
  show t Z H fun vs H1=>∀x dx,H1 x=none->H1 dx=none->dx≠x->sp (.ref x::(vs++[])) (upd (upd H1 dx (.own x)) x (.ins C dx [])) (fun v H2=>v= .bp/\Q (.ref x) H2) E0;rw[e1];exact hq
inductive Vn(C:Addr)(x:Str)(Q:VK)(v:V)(H1:Hp):Prop |mk (a dx:Addr)(fs:List (Str×V))(u:V)(h0:v= .ref a)(h1:H1 a=some (.ins C dx fs))(h2:fs.lookup x=some u)(h3:Q u H1):Vn C x Q v H1
theorem cS(T:jR X.K C)(hn:j9 X.K C x)(he:PE X e ta)(hb:attributeBase e x X.env (eval e X.env)=eval e X.env:=by rfl): PE X (.Attribute e x pos) (fun Z H Q=>ta Z H fun v H1=>Vn C x Q v H1):=by intro au s Z H Q I h;refine a9Z hb (aW (he au s Z H _ I h) fun u s1 ⟨v,H1,I1,rx,a,dx,fs,w,ex,ea,l,q⟩=>?_);subst ex;obtain rfl:u=Value.ref a:=rx;exact Qr I1 ea T hn l fun u' s2 I2 ru=>⟨w,H1,I2,ru,q⟩
inductive Vj(C:Addr)(x:Str)(D:Ends)(Z:St)(y v:V)(H2:Hp):Prop |mk (a dx:Addr)(fs:List (Str×V))(h0:v= .ref a)(h1:H2 a=some (.ins C dx fs))(h2:fs.length<1000)(h3:D.nx Z (upd H2 a (.ins C dx (iV x y fs)))):Vj C x D Z y v H2
inductive Vl(C a:Addr)(x:Str)(D:Ends)(Z:St)(z:V)(H3:Hp):Prop |mk (tV:Addr)(fs':List (Str×V))(h0:H3 a=some (.ins C tV fs'))(h1:fs'.length<1000)(h2:D.nx Z (upd H3 a (.ins C tV (iV x z fs')))):Vl C a x D Z z H3
inductive Vm(C:Addr)(x:Str)(tv:TE)(rd:V->V->Hp->VK->Prop)(D:Ends)(Z:St)(v:V)(H1:Hp):Prop |mk (a dx:Addr)(fs:List (Str×V))(u:V)(h0:v= .ref a)(h1:H1 a=some (.ins C dx fs))(h2:fs.lookup x=some u)(h3:tv Z H1 fun y H2=>rd u y H2 fun z H3=>Vl C a x D Z z H3):Vm C x tv rd D Z v H1
theorem jd{value:Expr}{tv:TE}{pos':Pos}(T:jR X.K C)(hn:j9 X.K C x)(ha:PE X o ta)(hv:PE X value tv)(hs:swapsWith value (some (.Attribute o x pos')) pos.line X.env=pure false:=by rfl): PS X (.Assign [.Attribute o x pos'] value pos) (fun D Z H=>tv Z H fun y H1=>ta Z H1 fun v H2=>Vj C x D Z y v H2):=by intro au s Z H D I h;refine plainObj_wpAny_Assign_Attribute (aW (hv au s Z H _ I h) fun u s1 ⟨y,H1,I1,ry,q⟩=>aW (ha au s1 Z H1 _ I1 q) fun ov s2 ⟨v,H2,I2,rx,a,dx,fs,ex,ea,l,q2⟩=>?_) hs;subst ex;obtain rfl:ov=Value.ref a:=rx;exact LO I2 ea T hn l ry fun s3 I3=>⟨Z,_,I3,q2⟩
theorem ZF{op:Operator}{rd:V->V->Hp->VK->Prop}{value:Expr}{tv:TE}{nY:Pos}(T:jR X.K C)(hn:j9 X.K C x)(ha:PE X o ta)(hv:PE X value tv)(hop:aay X op rd): PS X (.AugAssign (.Attribute o x nY) op value pos) (fun D Z H=>ta Z H fun v H1=>Vm C x tv rd D Z v H1):=by intro au s Z H D I h;refine wpAny_AugAssign_AttributeAny (aW (ha au s Z H _ I h) fun ov s1 ⟨v,H1,I1,rx,a,dx,fs,u,ex,ea,l,q⟩=>?_);subst ex;obtain rfl:ov=Value.ref a:=rx;refine Qr I1 ea T hn l fun u s2 I2 ru=>aW (hv au s2 Z H1 _ I2 q) fun w3 s3 ⟨y,H2,I3,ry,q3⟩=>aW (hop au s3 Z H2 _ y u w3 _ I3 ru ry q3) fun w4 s4 ⟨z,H3,I4,rz,tV,fs',mZ,l',q4⟩=>?_;exact LO I4 mZ T hn l' rz fun s5 I5=>⟨Z,_,I5,q4⟩
end
def bw(S:List Addr)(H H':Hp):Prop:=∀b o,H b=some o->b∉S->H' b=some o
theorem bw.refl(S:List Addr)(H:Hp):bw S H H:=fun _ _ e _=>e
theorem bw.of{S:List Addr}{H H':Hp}(s:aB H H'):bw S H H':=fun b o e _=>s b o e
theorem bw.trans{S:List Addr}{H H1 H2:Hp}(a:bw S H H1)(b:bw S H1 H2):bw S H H2:=fun c o e n=>b c o (a c o e n) n
theorem bw.mono{S S':List Addr}{H H1:Hp}(h:∀x,x∈S->x∈S')(a:bw S H H1):bw S' H H1:=fun c o e n=>a c o e fun z=>n (h c z)
theorem wq{S:List Addr}{H:Hp}{a:Addr}{o:HO}(h:a∈S):bw S H (upd H a o):=fun b o' e n=>by have hb:b≠a:=fun z=>n (by rw[z];exact h);rw[aK hb];exact e
def Ck:HO->Prop | .lst _=>True | .ins _ _ _=>True | .dK _=>True | .eZ _=>True |_=>False
def bR(H H':Hp):Prop:=∀b o,¬Ck o->H b=some o->H' b=some o
section
variable {K:aa} {H H' H2:Hp}
theorem bR.refl:bR H H:=fun _ _ _ e=>e
theorem bR.trans(a:bR H H')(b:bR H' H2):bR H H2:=fun c o n e=>b c o n (a c o n e)
theorem iB.v(s:iB H H'):bR H H':=fun b o n e=>s b o (fun xs z=>n (by rw[z];trivial)) e
theorem aB.v(s:aB H H'):bR H H':=fun b o _ e=>s b o e
theorem bw.v{S:List Addr}(s:bw S H H')(h:∀x∈S,∀o,H x=some o->Ck o):bR H H':=fun b o n e=>s b o e fun z=>n (h b z o e)
theorem bR.upd{a:Addr}{o o':HO}(h:H a=some o)(m:Ck o):bR H (upd H a o'):=fun b p n e=>by
 have hb:b≠a:=fun z=>by rw[z,h]at e;cases e;exact n m
 rw[aK hb];exact e
theorem aP.v{a:Addr}{xs:List V}(s:bR H H')(h:aP K H a xs):aP K H' a xs:=h.imp (fun r=>r.imp (s _ _ (fun z=>z)) fun⟨o,e⟩=>⟨o,s _ _ (fun z=>z) e⟩) id
mutual
theorem RD.v(s:bR H H'):∀{x:V}(d:ai),fe d=true->RD K H x d->RD K H' x d |x,.none,_,h=>by simpa[RD]using h |x,.bool b,_,h=>by simpa[RD]using h |x,.int i,_,h=>by simpa[RD]using h |x,.str y,_,h=>by simpa[RD]using h |x,.list ds,n,h=>by simp[fe]at n |x,.tuple ds,n,h=>by rw[RD]at h⊢;obtain⟨a,xs,e,h1,h2⟩:=h;exact⟨a,xs,e,h1.v s,aI.v s ds (by simpa[fe]using n) h2⟩ |x,.dict _,_,h=>by simp[RD]at h
theorem aI.v (s:bR H H'):∀{xs:List V}(ds:List ai),cK ds=true->aI K H xs ds->aI K H' xs ds |xs,[],_,h=>by simpa[aI]using h |xs,d::ds,n,h=>by rw[aI]at h⊢;rw[cK,eV]at n;obtain⟨y,ys,e,h1,h2⟩:=h;exact⟨y,ys,e,RD.v s d n.1 h1,aI.v s ds n.2 h2⟩
end
end
end L2
namespace Pn
section
variable {n:Nat}{own:Nat->Rat}{L:Nat->Option Nat}{r f:Int}
end
end Pn
namespace Ow
open Pn Ln Cn
end Ow
namespace Pn
section
variable {n:Nat}{own G4:Nat->Rat}{L L':Nat->Option Nat}{r f:Int}
end
section
variable {n:Nat}{own G4 q:Nat->Rat}{L:Nat->Option Nat}{r f r' f':Int}
end
end Pn
namespace Ow
open Pn Ln Cn
end Ow
namespace Pn
section
variable {n:Nat}{own G4:Nat->Rat}{L L':Nat->Option Nat}{r f:Int}{c:Nat}
end
end Pn
namespace Ow
open Pn
section
variable (j ay:Int) (os1 os2:List Itm)
end
end Ow
namespace Pn
section
variable {n:Nat}{own:Nat->Rat}{L:Nat->Option Nat}{r f:Int}
theorem a7e{g:Nat->Rat}{i:Nat}(hi:i<=n):fl n L f g i<=g i:=by
 rcases Nat.lt_or_ge i n with h|h
 ·cases e:L i with |none=>rw[vT h e];exact qT |some m=>rw[vV h e];exact gj _ _
 · have:i=n:=by lia
   subst this;rw[vU];exact qT
theorem a7d{g:Nat->Rat}(hf:0<=f)(h0:∀i,i<=n->0<=g i):∀i,i<=n->0<=fl n L f g i:=by
 refine down ?_ ?_
 ·rw[vU];exact h0 n (bF _)
 · intro i hi ih
   cases e:L i with |none=>rw[vT hi e];exact h0 i (by lia) |some m=>rw[vV hi e];exact kJ (h0 i (by lia)) (P6 ih (a2z hf))
end
end Pn
namespace Rn
open Pn Rt Ln
open Ow (topR ownF leadF Itm OkIs)
theorem BP{n:Nat}{a b:Int}(hb:b≠0)(h2:b.natAbs<2^n):(Rat.divInt a b).den<2^n:=by obtain⟨-,e⟩:=AI (a:=a) hb;have l2:=Ar.OP (p:=a) hb;omega
structure Dd(D:Nat)(q:Rat):Prop where
 nn:0<=q
 den:q.den<2^D
theorem Dd.mono{D E:Nat}{q:Rat}(h:Dd D q)(l:D<=E):Dd E q:=⟨h.nn,fU h.den (qV (by decide) l)⟩
theorem Dd.bd{D:Nat}{q:Rat}(h:Dd D q)(hl:q<=2000):Bd (D+11) q:=by
 have h1:=Rat.num_nonneg.mpr h.nn;have Bw:¬((2000:Rat)<q):=Rat.not_lt.mpr hl;rw[Rat.lt_iff]at Bw;have e1:(2000:Rat).num=2000:=rfl;have e2:(2000:Rat).den=1:=rfl;rw[e1,e2]at Bw;have h2:q.num<=2000*(q.den:Int):=by lia
 refine⟨?_,fU h.den (qV (by decide) (by lia))⟩;have h3:=h.den;have h4:q.num.natAbs<=2000*q.den:=by lia
 have h5:(2:Nat)^(D+11)=2^D*2048:=by rw[Nat.pow_add]
 rw[h5];have h6:2000*q.den<2000*2^D:=Nat.mul_lt_mul_of_pos_left h3 (by decide)
 lia
theorem Dd.mn{D:Nat}{a b:Rat}(h1:Dd D a)(h2:Dd D b):Dd D (mn a b):=by rcases xZ a b with e|e<;>rw[e]<;>assumption
theorem Dd.add{D:Nat}{q:Rat}(h:Dd D q){z:Int}(hz:0<=z):Dd D (q+(z:Rat)):=by
 refine⟨P6 h.nn (by have:=Rat.intCast_le_intCast.mpr hz;exact this),?_⟩;rw[add_div,Rat.num_intCast,Rat.den_intCast];have e:(q.den:Int)*((1:Nat):Int)=(q.den:Int):=by lia
 rw[e];have hd:=q.den_pos;exact BP (by lia) (by have:=h.den;lia)
theorem RE{a b:Int}(ha:0<=a)(hb:0<b):0<=Rat.divInt a b:=(wH hb).mpr ha
theorem div_pos{a b:Int}(ha:0<a)(hb:0<b):0<Rat.divInt a b:=by
 have h0:=RE (JY ha) hb;refine JC h0 fun e=>?_;have h2:0<=Rat.divInt (-a) b:=by rw[<-Rat.neg_divInt,<-e];decide
 have:=(wH hb).mp h2
 lia
theorem Dd.mul{D m:Nat}{q:Rat}(h:Dd D q){a s:Int}(ha:0<=a)(hs:0<s)(hm:s.natAbs<2^m):Dd (D+m) (q*Rat.divInt a s):=by refine⟨Rat.mul_nonneg h.nn (RE ha hs),?_⟩;have h1:(Rat.divInt a s).den<2^m:=BP (by lia) hm;rw[mul_div];have hd:=q.den_pos;have hd2:=(Rat.divInt a s).den_pos;refine BP (p4 _ _) ?_;rw[fF];exact kG (by have:=h.den;lia) (by lia)
theorem CZ(ay sp:Int):Dd 14 (topR ay sp):=⟨Ow.zO _ _,BP (by decide) (by decide)⟩
theorem zN{ay sp:Int}(h1:1<=sp)(h2:sp<=20)(h3:10<=ay)(h4:ay<=200):topR ay sp<=1600:=by
 have e:(1600:Rat)=Rat.divInt 16000000 10000:=by decide+kernel
 rw[e];refine(Cn.RG (by decide)).mpr ?_;have hp:sp*ay<=20*200:=CJ h2 h4 (by lia) (by lia);have Ba:0<=sp*ay:=jz (by lia) (by lia);rw[fE,fE,lb,kr];have:=CJ hp hp Ba (by decide)
 lia
theorem a0m{j ay:Int}{os:List Itm}(h1:1<=j)(h2:j<=50)(h3:10<=ay)(h4:ay<=200)(ho:OkIs os)(i:Nat):Dd 64 (ownF j ay os i):=⟨Ow.O0 _ _ _ _,(Ow.G3 h1 h2 h3 h4 ho i).den⟩
theorem a7f{D n:Nat}{g:Nat->Rat}{L:Nat->Option Nat}{f:Int}(hf:0<=f)(h:∀i,i<=n->Dd D (g i)):∀i,i<=n->Dd D (fl n L f g i):=by
 refine down ?_ ?_
 ·rw[vU];exact h n (bF _)
 · intro i hi ih
   cases e:L i with |none=>rw[vT hi e];exact h i (by lia) |some m=>rw[vV hi e];exact(h i (by lia)).mn (ih.add (jz hf (by lia)))
theorem a9R{j ay:Int}{o p:Itm}(h3:10<=ay)(h4:ay<=200)(ho:Ow.OkI o):Ow.betR j ay o p<=1600:=by cases o with |none=>rw[Ow.Sj];decide+kernel |some q=>cases p with |none=>rw[Ow.C0];decide+kernel |some q'=>obtain⟨ns,sp⟩:=q;obtain⟨ms,sq⟩:=q';obtain⟨-,a1,a2⟩:=ho ns sp rfl;have ht:=zN a1 a2 h3 h4;show Ow.mnO (mn (topR ay sp) (topR ay sq)) (Ow.cornO j ns ms)<=1600;cases Ow.cornO j ns ms with |none=>exact dU (gj _ _) ht |some c=>exact dU (gj _ _) (dU (gj _ _) ht)
theorem a0l{j ay:Int}{os:List Itm}(h3:10<=ay)(h4:ay<=200)(ho:OkIs os):∀i,ownF j ay os i<=1600 |0=>by show(0:Rat)<=1600;decide+kernel |i+1=>a9R h3 h4 (ho i)
abbrev gc:=Option (Rat × Int × Int)
def lG(r f:Int)(pc top R:Rat)(left:Int):gc->Rat |none=>mn (mn (pc+(r:Rat)) top) (R+((f*(2*left-1):Int):Rat)) |some (sq,st,gn)=>mn (mn (mn (pc+(r:Rat)) top) (R+((f*(2*left-1):Int):Rat))) (sq*Rat.divInt (2*(st-gn-1)+1) (2*st))
def oy(r f:Int)(pc top R:Rat)(left:Int):gc->Rat |none=>mn (mn (pc+((2*r:Int):Rat)) top) (R+((2*f*(left-1):Int):Rat)) |some (sq,st,gn)=>mn (mn (mn (pc+((2*r:Int):Rat)) top) (R+((2*f*(left-1):Int):Rat))) (sq*Rat.divInt (st-gn-1) st)
def As:gc->gc |none=>none |some (sq,st,gn)=>some (sq,st,gn+1)
def qJ(D:Nat)(pc:Rat):gc->Prop |none=>True |some (sq,st,gn)=>0<=gn/\gn<=st/\st<=1000/\Dd D sq/\sq<=2000/\(st=0->pc=0)/\pc*(st:Rat)<=sq*((st-gn:Int):Rat)
def Halt(pc:Rat)(aU:gc):Prop:=aU≠none/\pc=0
theorem vg{D:Nat}{pc:Rat}{sq:Rat}{st gn:Int}(h:qJ D pc (some (sq,st,gn)))(hp:0<=pc)(hn:¬Halt pc (some (sq,st,gn))):gn<st/\0<sq/\0<pc:=by
 obtain⟨g0,g1,g2,hd,hl,hz,hh⟩:=h;have yl:0<pc:=JC hp fun e=>hn ⟨by simp,e.symm⟩;have gG:gn<st:=by
  rcases JX gn st with h|h
  ·exact h
  · have e:st-gn=0:=by lia
    rw[e]at hh;have e0:sq*((0:Int):Rat)=0:=Rat.mul_zero sq;rw[e0]at hh;exfalso;rcases JX 0 st with h3|h3
    · have h4:(0:Rat)<(st:Rat):=Vw.mpr h3
      have h5:=Rat.mul_pos yl h4;exact absurd (Std.lt_of_lt_of_le h5 hh) (Rat.lt_irrefl)
    ·rw[hz (by lia)]at yl;exact absurd yl (Rat.lt_irrefl)
 refine⟨gG,?_,yl⟩;refine JC hd.nn fun e=>?_;rw[<-e,Rat.zero_mul]at hh;have h4:(0:Rat)<(st:Rat):=Vw.mpr (show(0:Int)<st by lia);exact absurd (Std.lt_of_lt_of_le (Rat.mul_pos yl h4) hh) (Rat.lt_irrefl)
section
variable {D:Nat}{r f:Int}{pc top R:Rat}{left:Int}{aU:gc}
theorem a8x:oy r f pc top R left aU<=top:=by cases aU with |none=>exact dU (gj _ _) (kh _ _) |some q=>obtain⟨sq,st,gn⟩:=q;exact dU (gj _ _) (dU (gj _ _) (kh _ _))
theorem OI:lG r f pc top R left aU<=top:=by cases aU with |none=>exact dU (gj _ _) (kh _ _) |some q=>obtain⟨sq,st,gn⟩:=q;exact dU (gj _ _) (dU (gj _ _) (kh _ _))
theorem a8y(hr:0<=r)(hf:0<=f)(hl:1<=left)(hp:Dd (D+10) pc)(ht:Dd (D+10) top)(hR:Dd (D+10) R)(hs:qJ D pc aU)(hn:¬Halt pc aU):Dd (D+10) (oy r f pc top R left aU):=by have h1:=(hp.add (z:=2*r) (by lia)).mn ht;have h2:=hR.add (z:=2*f*(left-1)) (jz (by lia) (by lia));cases aU with |none=>exact h1.mn h2 |some q=>obtain⟨sq,st,gn⟩:=q;obtain⟨a,b,c⟩:=vg hs hp.nn hn;obtain⟨g0,g1,g2,hd,hl,hz,hh⟩:=hs;exact(h1.mn h2).mn (hd.mul (m:=10) (by lia) (by lia) (by lia))
theorem OK(hr:0<=r)(hf:0<=f)(hl:1<=left)(hp:Dd (D+10) pc)(ht:Dd (D+10) top)(hR:Dd (D+10) R)(hs:qJ D pc aU)(hn:¬Halt pc aU):Dd (D+11) (lG r f pc top R left aU):=by have h1:=((hp.add (z:=r) (by lia)).mn ht).mono (show D+10<=D+11 by lia);have h2:=(hR.add (z:=f*(2*left-1)) (jz (by lia) (by lia))).mono (show D+10<=D+11 by lia);cases aU with |none=>exact h1.mn h2 |some q=>obtain⟨sq,st,gn⟩:=q;obtain⟨a,b,c⟩:=vg hs hp.nn hn;obtain⟨g0,g1,g2,hd,hl,hz,hh⟩:=hs;exact(h1.mn h2).mn (hd.mul (m:=11) (by lia) (by lia) (by lia))
theorem add_pos{x:Rat}{z:Int}(hx:0<=x)(hz:0<z):0<x+(z:Rat):=by have h1:((0:Int):Rat)<(z:Rat):=Vw.mpr hz;have h2:x+((0:Int):Rat)<x+(z:Rat):=Rat.add_lt_add_left.mpr h1;rw[show((0:Int):Rat)=0 from rfl,Rat.add_zero]at h2;exact Std.lt_of_le_of_lt hx h2
theorem Gs{a b:Rat}(ha:0<a)(hb:0<b):0<mn a b:=by rcases xZ a b with e|e<;>rw[e]<;>assumption
theorem OJ(hr:1<=r)(hf:1<=f)(hl:1<=left)(hp:0<=pc)(ht:0<top)(hR:0<=R)(hs:qJ D pc aU)(hn:¬Halt pc aU):0<lG r f pc top R left aU:=by have h1:=Gs (Gs (add_pos hp (show 0<r by lia)) ht) (add_pos hR (show 0<f*(2*left-1)from iG (by lia) (by lia)));cases aU with |none=>exact h1 |some q=>obtain⟨sq,st,gn⟩:=q;obtain⟨a,b,c⟩:=vg hs hp hn;obtain⟨g0,g1,g2,hd,hl,hz,hh⟩:=hs;exact Gs h1 (Rat.mul_pos b (div_pos (by lia) (by lia)))
theorem RC(a:Int):Rat.divInt a 1=(a:Rat):=by
 conv=>rhs;rw[<-qS (a:Rat)]
 rfl
theorem a8Z{a s:Int}(hs:0<s):Rat.divInt a s*(s:Rat)=(a:Rat):=by
 have e:(s:Rat)=Rat.divInt s 1:=by rw[RC]
 rw[e,Vy _ _,Int.mul_one,JW a s];have e2:Rat.divInt (s*a) s=Rat.divInt (s*a) (s*1):=by rw[Int.mul_one]
 rw[e2,Rat.divInt_mul_left (by lia),RC]
theorem Xs(hs:qJ D pc aU)(hp:0<=pc)(hn:¬Halt pc aU):qJ D (oy r f pc top R left aU) (As aU):=by cases aU with |none=>trivial |some q=>
   obtain⟨sq,st,gn⟩:=q;obtain⟨a,b,c⟩:=vg hs hp hn;obtain⟨g0,g1,g2,hd,hl,hz,hh⟩:=hs;refine⟨by lia,by lia,g2,hd,hl,fun e=>by lia,?_⟩;have h1:oy r f pc top R left (some (sq,st,gn))<=sq*Rat.divInt (st-gn-1) st:=kh _ _;have h2:(0:Rat)<=(st:Rat):=Rat.intCast_nonneg.mpr (by lia);have h3:=Rat.mul_le_mul_of_nonneg_right h1 h2;have h4:sq*Rat.divInt (st-gn-1) st*(st:Rat)=sq*((st-(gn+1):Int):Rat):=by
    rw[Rat.mul_assoc,a8Z (by lia)];congr 2
    lia
   rw[h4]at h3;exact h3
end
end Rn
namespace L2
open PySem PySem.Spec PyProof.Rows
section
variable {κ : Type} [DecidableEq κ]
def fN(aL:List (κ×V))(k:κ):Option V:=(aL.find? fun kv=>decide (kv.1=k)).map (·.2)
def putK(aL:List (κ×V))(k:κ)(v:V):List (κ×V):=if(aL.any fun kv=>decide (kv.1=k))=true then aL.map (fun kv=>if kv.1=k then(kv.1,v)else kv)else aL++[(k,v)]
theorem CN{p:κ×V}{r:List (κ×V)}{k:κ}(e:p.1=k):fN (p::r) k=some p.2:=by simp[fN,zu,e]
theorem CO{p:κ×V}{r:List (κ×V)}{k:κ}(e:¬p.1=k):fN (p::r) k=fN r k:=by simp[fN,zu,e]
theorem K9(k:κ):∀aL:List (κ×V),(aL.any fun kv=>decide (kv.1=k))=(fN aL k).isSome
  |[]=>rfl |p::r=>by
    rw[uu];by_cases e:p.1=k
    ·simp only[CN e,cB e,Bool.true_or,Option.isSome_some]
    ·rw[CO e,eQ e,Bool.false_or];exact K9 k r
theorem AO(aL:List (κ×V))(k:κ)(v:V):(putK aL k v).length<=aL.length+1:=by
 unfold putK;split
 ·rw[cj];lia
 ·rw[fo,jU,JR];lia
theorem jr.a41{o:Option V}{u:Option Value}(r:jr o u):o.isSome=u.isSome:=by cases o with
 |none=>cases u with |none=>rfl |some _=>exact(show False from r).elim
 |some _=>cases u with |none=>exact(show False from r).elim |some _=>rfl
theorem KV.val{aL:List (κ×V)}{vs:List (κ×Value)}(r:KV aL vs)(k:κ):jr (fN aL k) (valueAt vs k):=by unfold KV at r;induction r with |nil=>exact True.intro |@cons p q ps qs h t ih=>
   obtain⟨h1,h2⟩:=h;by_cases e:p.1=k
   · have e':q.1=k:=h1.symm.trans e
     have b:valueAt (q::qs) k=some q.2:=by simp[valueAt,zu,e']
     rw[CN e,b];exact h2
   · have e':¬q.1=k:=fun z=>e (h1.trans z)
     have b:valueAt (q::qs) k=valueAt qs k:=by simp[valueAt,zu,e']
     rw[CO e,b];exact ih
theorem KV.any{aL:List (κ×V)}{vs:List (κ×Value)}(r:KV aL vs)(k:κ):(aL.any fun kv=>decide (kv.1=k))=vs.any fun kv=>decide (kv.1=k):=by unfold KV at r;induction r with |nil=>rfl |cons h t ih=>rw[uu,uu,ih,h.1]
theorem KV.FC{aL:List (κ×V)}{vs:List (κ×Value)}(r:KV aL vs)(k:κ){y:V}{u:Value}(ry:RelV y u): KV (aL.map fun kv=>if kv.1=k then(kv.1,y)else kv) (vs.map fun kv=>if kv.1=k then(kv.1,u)else kv):=by unfold KV at r⊢;induction r with |nil=>exact .nil |@cons p q ps qs h t ih=>
    rw[nQ,nQ];refine .cons ?_ ih;obtain⟨h1,h2⟩:=h;by_cases e:p.1=k
    ·rw[aY e,aY (h1.symm.trans e)];exact⟨h1,ry⟩
    ·rw[aZ e,aZ (fun z=>e (h1.trans z))];exact⟨h1,h2⟩
theorem KV.put{aL:List (κ×V)}{vs:List (κ×Value)}(r:KV aL vs)(k:κ){y:V}{u:Value}(ry:RelV y u):KV (putK aL k y) (stored vs k u):=by
 unfold putK stored;rw[r.any k];by_cases e:(vs.any fun kv=>decide (kv.1=k))=true
 ·rw[aY e,aY e];exact r.FC k ry
 ·rw[aZ e,aZ e];exact Paired.snoc r ⟨rfl,ry⟩
theorem KV.length{aL:List (κ×V)}{vs:List (κ×Value)}(r:KV aL vs):aL.length=vs.length:=Paired.length r
end
theorem AV{P:ah}{w:World}{k:Key}{u:Value}(r:RelV (kV k) u):(jj P w).is k u=true:=by cases k with |inl i=>obtain⟨t,e⟩:=(show∃t,u=Value.int i t from r);subst e;exact a2K P w i t |inr x=>obtain⟨t,e⟩:=(show∃t,u=Value.str x t from r);subst e;exact a2J P w x t
theorem Ph{P:ah}{w:World}:∀{ks:List Key}{us:List Value},Vals (ks.map kV) us->ItemsAre (jj P w) ks us |[],_,r=>by rw[List.map_nil]at r;cases r;exact .nil |k::ks,_,r=>by rw[nQ]at r;cases r with |cons h t=>exact .cons (AV h) (Ph t)
abbrev KT(H:Hp):List (List Key×V)->List (List Key×Addr×Value)->Prop:=Paired fun p q=>p.1=q.1/\H q.2.1=some (.tup (p.1.map kV))/\RelV p.2 q.2.2
theorem KT.val{H:Hp}{aL:List (List Key×V)}{xs:List (List Key×Addr×Value)}(r:KT H aL xs)(k:List Key):jr (fN aL k) ((atKey xs k).map (·.2)):=by induction r with |nil=>exact True.intro |@cons p q ps qs h t ih=>
   obtain⟨h1,_,h2⟩:=h;by_cases e:p.1=k
   · have e':q.1=k:=h1.symm.trans e
     have b:atKey (q::qs) k=some q.2:=by simp[atKey,zu,e']
     rw[CN e,b];exact h2
   · have e':¬q.1=k:=fun z=>e (h1.trans z)
     have b:atKey (q::qs) k=atKey qs k:=by simp[atKey,zu,e']
     rw[CO e,b];exact ih
theorem KT.FC{H:Hp}{aL:List (List Key×V)}{xs:List (List Key×Addr×Value)}(r:KT H aL xs)(k:List Key){y:V}{u:Value}(ry:RelV y u): KT H (aL.map fun kv=>if kv.1=k then(kv.1,y)else kv) (xs.map (putAt k u)):=by induction r with |nil=>exact .nil |@cons p q ps qs h t ih=>
    rw[nQ,nQ];refine .cons ?_ ih;obtain⟨h1,h2,h3⟩:=h;unfold putAt;by_cases e:p.1=k
    ·rw[aY e,aY (h1.symm.trans e)];exact⟨h1,h2,ry⟩
    ·rw[aZ e,aZ (fun z=>e (h1.trans z))];exact⟨h1,h2,h3⟩
theorem KT.put{H:Hp}{aL:List (List Key×V)}{xs:List (List Key×Addr×Value)}(r:KT H aL xs)(k:List Key){b:Addr}{y:V}{u:Value}(hb:H b=some (.tup (k.map kV)))(ry:RelV y u): KT H (putK aL k y) (storedH xs k b u):=by
  have e:(aL.any fun kv=>decide (kv.1=k))=(atKey xs k).isSome:=by rw[K9,(r.val k).a41,Option.isSome_map]
  unfold putK storedH;rw[e];by_cases q:(atKey xs k).isSome=true
  ·rw[aY q,aY q];exact r.FC k ry
  ·rw[aZ q,aZ q];exact Paired.snoc r ⟨rfl,hb,ry⟩
theorem KT.keeps{H H':Hp}{aL:List (List Key×V)}{xs:List (List Key×Addr×Value)}(r:KT H aL xs)(ht:∀b ys,H b=some (.tup ys)->H' b=some (.tup ys)):KT H' aL xs:=Paired.Gv r fun _ _ z=>⟨z.1,ht _ _ z.2.1,z.2.2⟩
section
variable {P:ah}{w:World}{H:Hp}{h:Heap}{a:Addr}
theorem Nt{u:HO}(ok:dB P w H h)(e:Rd H a u):fC P w H h a u:=e.ok ok
theorem IU{aL:List (Key×V)}(ok:dB P w H h)(e:Rd H a (.dK aL)):aL.length<=sizeLine/\(a==sysModules)=false/\∃vs,KV aL vs/\h.DictOf (jj P w) a vs:=show fC P w H h a (.dK aL)from Nt ok e
theorem Rz{aL:List (Key×V)}(ok:dB P w H h)(e:H a=some (.dK aL)):aL.length<=sizeLine/\(a==sysModules)=false/\∃vs,KV aL vs/\h.DictOf (jj P w) a vs:=IU ok (.inl e)
theorem GK{ks:List Key}(ok:dB P w H h)(e:H a=some (.tup (ks.map kV))):(tupleKind (jj P w)).is h ks a:=by obtain⟨_,its,r,o,h1,h2,n,h3⟩:=(show fC P w H h a (.tup (ks.map kV))from ok a _ e);exact⟨o,its.toArray,n,h1,h2,h3,by simpa using Ph r⟩
theorem IP{aL:List (List Key×V)}(ok:dB P w H h)(e:Rd H a (.dT aL)):aL.length<=sizeLine/\(a==sysModules)=false/\∃xs,KT H aL xs/\h.DictOfH (tupleKind (jj P w)) a xs:=by
  obtain⟨z,y,xs,r,o,es,ep,h1,h2,h3,h4,h5⟩:=(show fC P w H h a (.dT aL)from Nt ok e);refine⟨z,y,xs,r,o,es,ep,h1,h2,h3,h4,fun x hx=>?_,h5⟩;have all:∀{l:List (List Key×V)}{m:List (List Key×Addr×Value)},KT H l m->∀x∈m,(tupleKind (jj P w)).is h x.1 x.2.1:=by intro l m q;induction q with |nil=>intro x hx;exact nomatch hx |@cons p q ps qs hq t ih=>
     intro x hx;rcases bI.mp hx with e|hx
     · subst e
       exact GK ok (by rw[<-hq.1];exact hq.2.1)
     ·exact ih x hx
  exact all r x hx
theorem a8N{aL:List (List Key×V)}(ok:dB P w H h)(e:H a=some (.dT aL)):aL.length<=sizeLine/\(a==sysModules)=false/\∃xs,KT H aL xs/\h.DictOfH (tupleKind (jj P w)) a xs:=IP ok (.inl e)
end
def uf(H:Hp)(a:Addr)(y:V)(r:Option V):Prop:=(∃aL k,Rd H a (.dK aL)/\y=kV k/\r=fN aL k)\/∃aL k b,Rd H a (.dT aL)/\y= .ref b/\H b=some (.tup (k.map kV))/\r=fN aL k
def qP(H:Hp)(a:Addr)(y v:V)(H':Hp):Prop:=(∃aL k,H a=some (.dK aL)/\y=kV k/\aL.length<sizeLine/\H'=upd H a (.dK (putK aL k v)))\/ ∃aL k b,H a=some (.dT aL)/\y= .ref b/\H b=some (.tup (k.map kV))/\aL.length<sizeLine/\H'=upd H a (.dT (putK aL k v))
theorem uf.k{H:Hp}{a:Addr}{aL:List (Key×V)}{k:Key}(e:H a=some (.dK aL)):uf H a (kV k) (fN aL k):=.inl ⟨aL,k,.inl e,rfl,rfl⟩
theorem qP.k{H:Hp}{a:Addr}{aL:List (Key×V)}{k:Key}{v:V}(e:H a=some (.dK aL))(hl:aL.length<sizeLine):qP H a (kV k) v (upd H a (.dK (putK aL k v))):=.inl ⟨aL,k,e,rfl,hl,rfl⟩
section
variable {X:Cx}{au:List (Addr×Obj)}{Z:St}{H:Hp}{s:ae}{a:Addr}{y v:V}{u r:Value}{o:Option V}{A:aj}{E:Value->ae->Prop}
theorem Inv.big(I:Inv X au Z H s):sysModules<s.heap.objs.size:=by have h:mainGlobals<s.heap.objs.size:=(I.mod.glob.keeps I.bk).lt;exact JJ (by decide) h
theorem a97{Q:Value->ae->Prop}(hu:A.units+1<cLine)(I:Inv X au Z H s)(g:uf H a y (some v))(ry:RelV y u)(h:∀w' s',Inv X au Z H s'->RelV v w'->Q w' s'): wpAny (model X.prog X.w) A (getItem (.ref a) u) Q E s:=by
  rcases g with⟨aL,k,e,ey,l⟩|⟨aL,k,b,e,ey,eb,l⟩
  · subst ey
    obtain⟨z,hd,vs,rel,dd⟩:=IU I.aV e;obtain⟨w',hw,iU⟩:=jr.some_of (v:=v) (o:=valueAt vs k) (by rw[l];exact rel.val k);exact wpAny_getItem_of (AV ry) dd.mapOf hw (h w' _ (I.tok _) iU)
  · subst ey
    cases(show u=Value.ref b from ry);obtain⟨z,hd,xs,rel,dd⟩:=IP I.aV e;obtain⟨w',hw,iU⟩:=jr.some_of (v:=v) (o:=(atKey xs k).map (·.2)) (by rw[l];exact rel.val k);obtain⟨p,hp,B9⟩:=Option.map_eq_some_iff.mp hw;refine wpAny_getItem_heap (tupleKind_room_in1 hu) (GK I.aV eb) dd hp ?_;rw[B9];exact h w' _ (I.tok _) iU
theorem IX{h':Heap}{t':Nat}{ob:HO}(I:Inv X au Z H s)(mu:yZ (H a))(hs:Heap.SameBut a s.heap h')(he:∃q,h'.get? a=some q)(new:fC X.prog X.w (upd H a ob) h' a ob): Inv X au Z (upd H a ob) {s with heap:=h',toks:=t'}:=I.write (x:=a) (e:=a) mu (.inl rfl) (fun b q hb z=>(hs.2 b hb).trans z) he new
theorem RA{P:ah}{w:World}{H':Hp}{h':Heap}{aL:List (Key×V)}{vs:List (Key×Value)}(z:aL.length<=sizeLine)(hd:(a==sysModules)=false)(rel:KV aL vs)(dd:h'.DictOf (jj P w) a vs): fC P w H' h' a (.dK aL):=⟨z,hd,vs,rel,dd⟩
theorem a96{H':Hp}{Q:Unit->ae->Prop}(hu:A.units+1<cLine)(I:Inv X au Z H s)(g:qP H a y v H')(ry:RelV y u)(rv:RelV v r)(h:∀s',Inv X au Z H' s'->Q () s'): wpAny (model X.prog X.w) A (setItem (.ref a) u r) Q E s:=by
  rcases g with⟨aL,k,e,ey,l,eH⟩|⟨aL,k,b,e,ey,eb,l,eH⟩
  · subst ey eH
    obtain⟨z,hd,vs,rel,dd⟩:=Rz I.aV e;have hz:vs.length<=sizeLine:=by rw[<-rel.length];exact z
    have hl:(putK aL k v).length<=sizeLine:=by have:=AO aL k v;lia
    refine wpAny_setItem_pairs (hsz:=hz) (AV ry) dd fun h' ng hs=>h _ ?_;have he:∃q,h'.get? a=some q:=let⟨q,_,_,hq,_⟩:=ng;⟨q,hq⟩;exact IX I (by rw[e];exact True.intro) hs he (RA hl hd (rel.put k rv) ng)
  · subst ey eH
    cases(show u=Value.ref b from ry);obtain⟨z,hd,xs,rel,dd⟩:=a8N I.aV e;have hz:xs.length<=sizeLine:=by rw[<-Paired.length rel];exact z
    have hl:(putK aL k v).length<=sizeLine:=by have:=AO aL k v;lia
    refine wpAny_setItem_heap (hsz:=hz) (tupleKind_room_in1 hu) (GK I.aV eb) dd fun h' ng hs=>h _ ?_;obtain⟨q,es,ep,hq,h2,h3,h4,_,h5⟩:=ng;refine IX I (by rw[e];exact True.intro) hs ⟨q,hq⟩ ⟨hl,hd,_,(rel.put k eb rv).keeps fun c ys ec=>?_,q,es,ep,hq,h2,h3,h4,h5⟩;rw[aK (xV ec e (fun z=>nomatch z))];exact ec
end
section
variable {X:Cx}{au:List (Addr×Obj)}{Z:St}{H:Hp}{s:ae}{a:Addr}{aL:List (Key×V)}{k:Key}{u:Value}{A:aj}{E:Value->ae->Prop}
end
def Jp(i:Expr):Prop:=∀ov iv,subscripted i false ov iv=operate [ov,iv] (getItem ov iv)
theorem Xp{prog:ah}{w:World}{A:aj}{E:Value->ae->Prop}{s:ae}{env:Env}{value slice:Expr}{pos:Pos}{T id:String}{Q:Value->ae->Prop} (hl:typeLookup (.type T) "__getitem__"=pure (some (.builtin id)))(hs:Jp slice) (h:wpAny (model prog w) A (eval value env) (fun o s₁=>wpAny (model prog w) A (eval slice env) (fun i s₂=>s₂.TypeIs o T/\wpAny (model prog w) A (getItem o i) Q E s₂) E s₁) E s): wpAny (model prog w) A (eval (.Subscript value slice pos) env) Q E s:=by
  refine Subscript_ (jw h (fun o s₁ h₁=>jw h₁ (fun i s₂ h₂=>?_) fun _ _ x=>x) fun _ _ x=>x);obtain⟨hT,h₂⟩:=h₂;unfold subscriptTail;refine aO ?_;rw[getitemInPython_of_ne hT.not_modules];refine aO (wpAny_specialOf hT hl ?_);have fin:wpAny (model prog w) A (subscripted slice false o i) (fun r s₃=>wpAny (model prog w) A (letTemporaryGo value o r>>=fun _=>pure r) Q E s₃) E s₂:=by rw[hs o i];exact wpAny_operating (jw h₂ (fun r s₃ h₃=>aO (wpAny_letTemporaryGo (cg h₃))) fun _ _ x=>x)
  first |exact cg (aO fin) |exact aO (cg (aO fin)) |exact aO fin
theorem a90{X:Cx}{au:List (Addr×Obj)}{Z:St}{H:Hp}{s:ae}{a:Addr}{y:V}{o:Option V}(I:Inv X au Z H s)(g:uf H a y o):s.TypeIs (.ref a) "dict":=by
 rcases g with⟨aL,k,e,_,_⟩|⟨aL,k,b,e,_,_,_⟩
 · obtain⟨_,_,vs,_,dd⟩:=IU I.aV e
   exact dd.typeIs
 · obtain⟨_,_,xs,_,dd⟩:=IP I.aV e
   exact dd.typeIs
inductive Tf(Q:VK)(x:V)(y:V)(H2:Hp):Prop |mk (a:_)(v:_)(h0:x= .ref a)(h1:uf H2 a y (some v))(h2:Q v H2):Tf Q x y H2
def Kv(td ty:TE):TE:=fun Z H Q=>td Z H fun x H1=>ty Z H1 fun y H2=>Tf Q x y H2
inductive UH(D:Ends)(Z:St)(v:V)(x:V)(y:V)(H3:Hp):Prop |mk (a:_)(H4:_)(h0:x= .ref a)(h1:qP H3 a y v H4)(h2:D.nx Z H4):UH D Z v x y H3
def Yg(td ty tv:TE):TS:=fun D Z H=>tv Z H fun v H1=>td Z H1 fun x H2=>ty Z H2 fun y H3=>UH D Z v x y H3
section
variable {X:Cx}{o i e value:Expr}{pos pos' nY:Pos}{td ty tv:TE}
theorem a05(hu:X.A.units+1<cLine)(ho:PE X o td)(hi:PE X i ty)(hs:Jp i):PE X (.Subscript o i pos) (Kv td ty):=by intro au s Z H Q I h;refine Xp PySem.F.slot_dict_getitem.lookup hs (aW (ho au s Z H _ I h) fun u s1 ⟨x,H1,I1,rx,q1⟩=>aW (hi au s1 Z H1 _ I1 q1) fun iv s2 ⟨y,H2,I2,ry,a,v,ex,g,q2⟩=>?_);subst ex;obtain rfl:u=Value.ref a:=rx;exact⟨a90 I2 g,a97 hu I2 g ry fun w' s3 I3 iU=>⟨v,H2,I3,iU,q2⟩⟩
theorem gW(hu:X.A.units+1<cLine)(ho:PE X o td)(hi:PE X i ty)(hv:PE X value tv)(hs:swapsWith value (some (.Subscript o i pos')) pos.line X.env=pure false): PS X (.Assign [.Subscript o i pos'] value pos) (Yg td ty tv):=by intro au s Z H D I h;refine wpAny_Assign_Subscript (aW (hv au s Z H _ I h) fun r s1 ⟨v,H1,I1,rv,q1⟩=>aW (ho au s1 Z H1 _ I1 q1) fun u s2 ⟨x,H2,I2,rx,q2⟩=>aW (hi au s2 Z H2 _ I2 q2) fun iv s3 ⟨y,H3,I3,ry,a,H4,ex,g,q3⟩=>?_) hs;subst ex;obtain rfl:u=Value.ref a:=rx;exact a96 hu I3 g ry rv fun s4 I4=>⟨Z,H4,I4,q3⟩
end
theorem a8X{P:ah}{w:World}{H:Hp}(h:Heap)(hb:sysModules<h.objs.size):fC P w H (h.push {cls:=.type "dict",data:=.dict #[]}) h.objs.size (.dK []):=⟨fT _,Cu.mpr (eR (fm hb)),[],.nil,Heap.DictOf.new h⟩
section
variable {X:Cx} {pos:Pos}
end
def D7:List (TE×TE)->St->Hp->(List (V×V)->Hp->Prop)->Prop |[],_,H,Q=>Q [] H |(tk,tv)::r,Z,H,Q=>tk Z H fun x H1=>tv Z H1 fun y H2=>D7 r Z H2 fun ps H3=>Q ((x,y)::ps) H3
abbrev VV:List (V×V)->List (Value×Value)->Prop:=Paired fun p q=>RelV p.1 q.1/\RelV p.2 q.2
def Ce(X:Cx)(pos:Pos)(keys:List (Option Expr))(values:List Expr)(nX:List (TE×TE)):Prop:=∀(au:List (Addr×Obj))(s:ae)(Z:St)(H:Hp)(Q:List (V×V)->Hp->Prop),Inv X au Z H s->D7 nX Z H Q->wpAny (model X.prog X.w) X.A (evalPairs (pairTrees keys values X.env pos)) (fun vs s'=>∃ps H',Inv X au Z H' s'/\VV ps vs/\Q ps H') X.xe s
theorem ZG{X:Cx}{pos:Pos}:Ce X pos [] [] []:=fun au s Z H Q I h=>pairTrees_nil_walk ⟨[],H,I,.nil,h⟩
theorem Aj{X:Cx}{pos:Pos}{k v:Expr}{ks:List (Option Expr)}{vs:List Expr}{tk tv:TE}{nX:List (TE×TE)}(hk:PE X k tk)(hv:PE X v tv)(hr:Ce X pos ks vs nX): Ce X pos (some k::ks) (v::vs) ((tk,tv)::nX):=fun au s Z H Q I h=>pairTrees_cons_walk (aW (hk au s Z H _ I h) fun u s1 ⟨x,H1,I1,rx,q1⟩=>aW (hv au s1 Z H1 _ I1 q1) fun w2 s2 ⟨y,H2,I2,ry,q2⟩=>aW (hr au s2 Z H2 _ I2 q2) fun ws s3 ⟨ps,H3,I3,rel,q3⟩=>⟨(x,y)::ps,H3,I3,.cons ⟨rx,ry⟩ rel,q3⟩)
def pZ(aL more:List (Key×V)):List (Key×V):=more.foldl (fun acc kv=>putK acc kv.1 kv.2) aL
theorem KV.merge:∀{more:List (Key×V)}{rs:List (Key×Value)}{aL:List (Key×V)}{vs:List (Key×Value)},KV more rs->KV aL vs->KV (pZ aL more) (merged vs rs):=by intro more rs aL vs r;unfold KV at r;induction r generalizing aL vs with |nil=>intro q;exact q |@cons p q ps qs h t ih=>
   intro r0;have e:KV (putK aL p.1 p.2) (stored vs q.1 q.2):=by have:=r0.put p.1 h.2;rw[<-h.1];exact this
   exact ih e
theorem OZ:∀(more aL:List (Key×V)),(pZ aL more).length<=aL.length+more.length |[],aL=>by show aL.length<=aL.length+0;lia |p::r,aL=>by have h1:=OZ r (putK aL p.1 p.2);have h2:=AO aL p.1 p.2;show(pZ (putK aL p.1 p.2) r).length<=_;rw[jU];lia
theorem S7{P:ah}{w:World}:∀{aL:List (Key×V)}{ws:List (Value×Value)},VV (aL.map fun kv=>(kV kv.1,kv.2)) ws->∃rs,Carries (jj P w) ws rs/\KV aL rs |[],_,r=>by rw[List.map_nil]at r;cases r;exact⟨[],True.intro,.nil⟩ |p::aL,_,r=>by rw[nQ]at r;cases r with |@cons a b as bs h t=>obtain⟨rs,c,q⟩:=S7 (P:=P) (w:=w) t;obtain⟨b1,b2⟩:=b;exact⟨(p.1,b2)::rs,⟨AV h.1,rfl,c⟩,.cons ⟨rfl,h.2⟩ q⟩
def X9(nX:List (TE×TE)):TE:=fun Z H Q=>∀p,H p=none->D7 nX Z (upd H p (.dK [])) fun ps H2=>H2 p=some (.dK [])/\∃aL:List (Key×V),ps=aL.map (fun kv=>(kV kv.1,kv.2))/\aL.length<=15/\Q (.ref p) (upd H2 p (.dK (pZ [] aL)))
theorem a04{X:Cx}{pos:Pos}{keys:List (Option Expr)}{values:List Expr}{nX:List (TE×TE)}(h:Ce X pos keys values nX)(Hz:keys.all (·.isSome)=true)(hl:keys.length=values.length)(h0:keys≠[]) (Qi:keys.length<=15):PE X (.Dict keys values pos) (X9 nX):=by
  intro au s Z H Q I q;have hn:=I.aV.fresh (bF s.heap.objs.size);have I1:=I.laid (a:=s.heap.objs.size) (o:=.dK []) (h':=s.heap.push {cls:=.type "dict",data:=.dict #[]}) (t':=s.toks) (fun _ _ q=>cn _ q) (bF _) (a8X s.heap I.big);refine wpAny_Dict_walk (knd:=jj X.prog X.w) Hz hl h0 Qi (aW (h au _ Z _ _ I1 (q _ hn)) fun ws s2 ⟨ps,H2,I2,rel,e,aL,ep,lk,q2⟩=>?_);subst ep;obtain⟨rs,c,rk⟩:=S7 (P:=X.prog) (w:=X.w) rel;obtain⟨z,hd,vs0,r0,dd⟩:=Rz I2.aV e;cases r0;refine⟨rs,c,dd,fun h' ng hs=>⟨.ref s.heap.objs.size,_,?_,rfl,q2⟩⟩;have hz:(pZ [] aL).length<=sizeLine:=by have h1:=OZ aL [];rw[JR]at h1;rw[sizeLine_eq];lia
  have he:∃q,h'.get? s.heap.objs.size=some q:=let⟨q,_,_,hq,_⟩:=ng;⟨q,hq⟩;exact IX I2 (by rw[e];exact True.intro) hs he (RA hz hd (rk.merge .nil) ng)
section
variable {X:Cx}{au:List (Addr×Obj)}{Z:St}{H:Hp}{s:ae}{a:Addr}{y d:V}{u r:Value}{o:Option V}{A:aj}{E:Value->ae->Prop}
end
section
variable {X:Cx}{o e f:Expr}{apos cx:Pos}{td ty tx:TE}
end
section
variable {X:Cx}{au:List (Addr×Obj)}{Z:St}{H:Hp}{s:ae}{a:Addr}{aL:List (Key×V)}{A:aj}{E:Value->ae->Prop}
end
section
variable {X:Cx}{au:List (Addr×Obj)}{Z:St}{H:Hp}{s:ae}{a:Addr}{y:V}{u:Value}{A:aj}{E:Value->ae->Prop}
end
section
variable {X:Cx}
end
theorem a6K{K:aa}{mg:Str->Option Value}{x z:Str}{t:Tok}{h:Heap}(X:K.In h)(G:h.Ns mainGlobals mg)(a:PySem.W.nsIn K mainGlobals x=some (some (.str z t))):GV mg x (.str z):=⟨_,wI X G a,t,rfl⟩
end L2
set_option exponentiation.threshold 6000
namespace L2
open PySem PySem.Spec PyProof.Rows
section
variable {X:Cx}
theorem a9v:fh X (.type "str") (fun xs H Q=>(∃i,xs=[.int i]/\i.natAbs.log2<1920/\Q (.str (toString i)) H)\/∃z,xs=[.str z]/\Q (.str z) H):=by
 intro au s Z H xs us Q I r h;rcases h with⟨i,rfl,hz,q⟩|⟨z,rfl,q⟩
 · obtain⟨u,rfl,t,rfl⟩:=vals1 r
   exact PySem.P.str_of_int hz ⟨.str _,H,I.tok _,⟨_,rfl⟩,q⟩
 · obtain⟨u,rfl,t,rfl⟩:=vals1 r
   exact PySem.P.str_of_str ⟨.str _,H,I,⟨_,rfl⟩,q⟩
theorem Wu{i:Int}(h:i.natAbs<10^40):(Str.ofString (toString i)).length<=41:=by rw[PySem.ofString_length];exact int_text_length_le10 (k:=40) (by decide) h
theorem a3m{i:Int}(h:i.natAbs<10^40):i.natAbs.log2<1920:=by
 by_cases h0:i.natAbs=0
 ·rw[h0];decide
 ·exact(Nat.log2_lt h0).mpr (JJ h (by decide))
end
end L2
namespace Tu
open Ln
end Tu
namespace Pn
theorem OF(a b:Rat):mn a b=mn b a:=Cv (kJ (kh _ _) (gj _ _)) (kJ (kh _ _) (gj _ _))
section
variable {n:Nat}{own G4:Nat->Rat}{L L':Nat->Option Nat}{r f:Int}
end
end Pn
namespace Ow
open Pn Ln Cn Tu
end Ow
namespace L2
open PySem PySem.Spec PyProof.Rows
theorem a91(f:Array Value->Array Value)(o:Obj):(o.mapFields f).dict=o.dict:=by obtain⟨c,d,dt,sl⟩:=o;cases dt<;>rfl
def TrD(h B:Heap)(ex:Addr)(cls:Value)(dx:Option Addr)(fl:Value):Prop:=∃ob fs tb ot ts,h.get? ex=some ob/\ob.cls=cls/\ob.dict=dx/\ob.data= .fields fs/\fs[1]? =some (.ref tb)/\B.get? tb=none/\tb≠ex/\h.get? tb=some ot/\ot.data= .fields ts/\ts[3]? =some fl
def kn(B:Heap)(l:List Env)(ex:Addr)(cls:Value)(dx:Option Addr)(fl:Value)(h:Heap):Prop:=B.StaysIn h/\B.get? ex=none/\h.FunFrames B l/\TrD h B ex cls dx fl
theorem kn.there{B h:Heap}{l:List Env}{ex:Addr}{cls fl:Value}{dx:Option Addr}(x:kn B l ex cls dx fl h):∃ob,h.get? ex=some ob/\ob.cls=cls/\ob.dict=dx/\∃fs,ob.data= .fields fs:=by obtain⟨_,_,_,ob,fs,_,_,_,e,c,d,z,_⟩:=x;exact⟨ob,e,c,d,fs,z⟩
section
variable {M:Model}{A:aj}{E:Value->ae->Prop}{s:ae}{B:Heap}{env:Env}{outer:List Env}{L ex:Addr}{ob:Obj}{fs:Array Value}{head:Value}{nx:Bool}{Q:Unit->ae->Prop}{cls fl:Value}{dx:Option Addr}
theorem QV(hA:A.frames=some (env::outer))(ff:s.heap.FunFrames B (env::outer))(hL:env.frame=some L)(ho:s.heap.get? ex=some ob)(st:B.StaysIn s.heap)(hB:B.get? ex=none)(hd:ob.data= .fields fs)(hz:1<fs.size) (q:∀h',kn B (env::outer) ex ob.cls ob.dict (rawInt L) h'->s.heap.UpToSlots h'->Q () {s with heap:=h'}): wpAny M A (do let a<-frameOf env;let pl<-entryPlaceOf L nx;let b<-EntryCells.newEntry head a .none (rawInt L) .none pl;setField (.ref ex) 1 b) Q E s:=by
  have pX:ex∉(env::outer).filterMap (·.frame):=fun hm=>by obtain⟨_,o,e1,nf⟩:=ff.mem hm;rw[ho]at e1;cases e1;exact nf fs hd
  refine aO (wpAny_frameOf_fun hA ff hL fun g1 k1=>aO (wpAny_entryPlaceOf fun pl hp=>?_));unfold EntryCells.newEntry newFields;refine aO (pk ?_ (hp.sizeOk5 _ _ _ _ _));have o1:g1.get? ex=some ob:=(k1.2.1 ex pX).trans ho;have zU:B.StaysIn g1:=fun b o e=>(k1.2.1 b fun hm=>by rw[(ff.mem hm).1]at e;cases e).trans (st b o e);generalize hT:({cls:=.type "traceback",dict:=none,data:=.fields ([head,.ref L,.none,rawInt L,.none]++(if pl.isEmpty then List.replicate 6 Value.none else pl)).toArray}:Obj)=T;have o2:(g1.push T).get? ex=some ob:=cn T o1;refine Cm o2 hd hz (q _ ?_ ?_);all_goals have ne:g1.objs.size≠ex:=Cz (cw o1)
  all_goals have keep:∀b o,b≠ex->g1.get? b=some o->((g1.push T).update ex (Obj.mapFields (·.setIfInBounds 1 (Value.ref g1.objs.size)))).get? b=some o:=fun b o nb e=>by rw[zw _ _ (eR nb)];exact cn _ e
  all_goals have pW:∀b o,s.heap.get? b=some o->(∀vs,o.data≠ .fields vs)->b≠ex:=fun b o e nf z=>by rw[z,ho]at e;cases e;exact nf fs hd
  · have d3:=Cy hd (·.setIfInBounds 1 (Value.ref g1.objs.size))
    have o3:=JZ (Obj.mapFields (·.setIfInBounds 1 (Value.ref g1.objs.size))) o2 (VG d3);refine⟨fun b o e=>keep b o (fun z=>by rw[z,hB]at e;cases e) (zU b o e),hB,ff.of_keeps fun b o e nf=>?_,?_⟩
    · obtain⟨sl,e1⟩:=k1.2.2 b o e
      exact⟨_,keep b _ (pW b o e nf) e1,rfl⟩
    · refine⟨_,_,g1.objs.size,T,_,o3,Obj.cls_mapFields _ _,a91 _ _,d3,by simp[hz],zU.fresh,ne,?_,by rw[<-hT],?_⟩
      ·rw[zw _ _ (eR ne)];exact eh g1 (by rw[<-hT];rfl)
      ·first|(simp;done)|(rcases hp with rfl|⟨_,_,_,_,_,_,_,rfl⟩<;>simp)
  · intro b o e nf
    obtain⟨sl,e1⟩:=k1.2.2 b o e;exact⟨sl,keep b _ (pW b o e nf) e1⟩
theorem a2f(hA:A.frames=some (env::outer))(ff:s.heap.FunFrames B (env::outer))(hL:env.frame=some L)(ho:s.heap.get? ex=some ob)(st:B.StaysIn s.heap)(hB:B.get? ex=none)(hd:ob.data= .fields fs)(h1:fs[1]? =some .none) (q:∀h',kn B (env::outer) ex ob.cls ob.dict (rawInt L) h'->s.heap.UpToSlots h'->Q () {s with heap:=h'}):wpAny M A (noteFrame (.ref ex) env) Q E s:=by unfold noteFrame;simp only[hL];refine aO (jb ho hd h1 ?_);rw[aZ (by decide)];exact QV hA ff hL ho st hB hd (K1.mp h1).1 q
theorem Og(hA:A.frames=some (env::outer))(hL:env.frame=some L)(x:kn B (env::outer) ex cls dx .none s.heap) (q:∀h',kn B (env::outer) ex cls dx (rawInt L) h'->s.heap.UpToSlots h'->Q () {s with heap:=h'}):wpAny M A (noteFrame (.ref ex) env) Q E s:=by
  obtain⟨st,hB,ff,ob,fs,tb,ot,ts,ho,rfl,rfl,hd,h1,Bv,nt,ht,qq,h3⟩:=x;unfold noteFrame;simp only[hL];refine aO (jb ho hd h1 ?_);rw[aY (show(Value.ref tb !=Value.none)=true from by simp)];refine aO (jb ht qq h3 ?_);rw[aZ (show¬((Value.none==rawInt L)=true)from by simp[rawInt])];refine aO (Cm ht qq (K1.mp h3).1 ?_);have other:∀b,b≠tb->(s.heap.update tb (Obj.mapFields (·.setIfInBounds 3 Value.none))).get? b=s.heap.get? b:=fun b nb=>zw _ _ (eR nb);have pW:∀b o,s.heap.get? b=some o->(∀vs,o.data≠ .fields vs)->b≠tb:=fun b o e nf z=>by rw[z,ht]at e;cases e;exact nf ts qq
  refine QV (s:={s with heap:=s.heap.update tb (Obj.mapFields (·.setIfInBounds 3 Value.none))}) hA (ff.of_keeps fun b o e nf=>⟨o,(other b (pW b o e nf)).trans e,rfl⟩) hL ((other ex (eR nt)).trans ho) (fun b o e=>(other b fun z=>by rw[z,Bv]at e;cases e).trans (st b o e)) hB hd (K1.mp h1).1 fun h' y up=>q h' y fun b o e nf=>up b o ((other b (pW b o e nf)).trans e) nf
theorem BF{l:List Env}(x:kn B l ex cls dx fl s.heap)(q:∀h',kn B l ex cls dx .none h'->s.heap.UpToSlots h'->Q () {s with heap:=h'}):wpAny M A (setFlight (.ref ex) none) Q E s:=by
 obtain⟨st,hB,ff,ob,fs,tb,ot,ts,ho,hc,hx,hd,h1,Bv,nt,ht,qq,h3⟩:=x;have z3:3<ts.size:=(K1.mp h3).1;have other:∀b,b≠tb->(s.heap.update tb (Obj.mapFields (·.setIfInBounds 3 ((none:Option Addr).elim Value.none fun f=>rawInt f)))).get? b=s.heap.get? b:=fun b nb=>zw _ _ (eR nb);have pW:∀b o,s.heap.get? b=some o->(∀vs,o.data≠ .fields vs)->b≠tb:=fun b o e nf z=>by rw[z,ht]at e;cases e;exact nf ts qq
 unfold setFlight;refine aO (jb ho hd h1 ?_);rw[aY (show(Value.ref tb !=Value.none)=true from by simp)];refine Cm ht qq z3 (q _ ⟨fun b o e=>(other b fun z=>by rw[z,Bv]at e;cases e).trans (st b o e),hB,ff.of_keeps fun b o e nf=>⟨o,(other b (pW b o e nf)).trans e,rfl⟩,?_⟩ fun b o e nf=>⟨o.slots,(other b (pW b o e nf)).trans e⟩);exact⟨ob,fs,tb,_,_,(other ex (eR nt)).trans ho,hc,hx,hd,h1,Bv,nt,JZ _ ht (VG (Cy qq _)),Cy qq _,by simp[z3]⟩
theorem a3v(hA:A.frames=some (env::outer))(ff:s.heap.FunFrames B (env::outer))(hL:env.frame=some L)(ho:s.heap.get? ex=some ob)(st:B.StaysIn s.heap)(hB:B.get? ex=none)(hd:ob.data= .fields fs)(h1:fs[1]? =some .none) (q:∀h',kn B outer ex ob.cls ob.dict .none h'->s.heap.UpToSlots h'->Q () {s with heap:=h'}):wpAny M A (leaving env (.ref ex)) Q E s:=by unfold leaving;refine aO (a2f hA ff hL ho st hB hd h1 fun h1 x1 u1=>BF x1 fun h2 x2 u2=>q h2 ?_ (u1.trans u2));obtain⟨a,b,⟨_,_,c⟩,d⟩:=x2;exact⟨a,b,c,d⟩
theorem a3u(hA:A.frames=some (env::outer))(hL:env.frame=some L)(x:kn B (env::outer) ex cls dx .none s.heap) (q:∀h',kn B outer ex cls dx .none h'->s.heap.UpToSlots h'->Q () {s with heap:=h'}):wpAny M A (leaving env (.ref ex)) Q E s:=by unfold leaving;refine aO (Og hA hL x fun h1 x1 u1=>BF x1 fun h2 x2 u2=>q h2 ?_ (u1.trans u2));obtain⟨a,b,⟨_,_,c⟩,d⟩:=x2;exact⟨a,b,c,d⟩
end
end L2
namespace L2
open PySem PySem.Spec PyProof.Rows
open Builtin Builtin.ObjectAttr
section
variable {prog:ah}{w:World}{A:aj}{E:Value->ae->Prop}{s:ae}{K:aa}{x C:Addr}{ox:Obj}{fs:Array Value}{name:Str}{v:Value}{Q:Unit->ae->Prop}
end
end L2
namespace L2
open PySem PySem.Spec PyProof.Rows
section
variable {X:Cx}{o e value:Expr}{f:Str}{pos pos' nY:Pos}{ta tv:TE}
end
section
variable {prog:ah}{w:World}{A:aj}{E:Value->ae->Prop}{h:Heap}{g:Array GenState}{d:Drawn}{t:Nat}{os:OsState}
variable {nm q:Str}{C N fI:Addr}{bs bm mh:List Value}{hdct:Bool}{sn:List Str}{sub:List Value}{ab:Bool}{col:Option Bool}{dd:Option Addr}{k0 k1 k2 k3 k5:Option Value}{B newId GU:String}{mN:Str->Option Value}{rest:List Value}{oI:Obj}
end
section
variable {M:Model}{A:aj}{E:Value->ae->Prop}{env:Env}{nm q:Str}{C N:Addr}{bs bm:List Value}{hdct:Bool}{sn:List Str}{sub:List Value}{ab:Bool}{col:Option Bool}{dd:Option Addr}{k0 k1 k2 k3 k5:Option Value}{newId:String}
end
def jS(P:ah)(w:World):jT:=fun outer H s E e s'=>∃(ex:Addr)(cls:Value)(dx:Option Addr)(H':Hp)(B:Heap),e= .ref ex/\s'.os=s.os/\AllBare s'.gens/\kn B outer ex cls dx .none s'.heap/\Fl P w outer H s.heap ex H' B s'.heap/\E cls dx H'
section
variable {P:ah}{w:World}{K:aa}{mg:Str->Option Value}{base:Heap}{N:List Str}{qual:Str}{scope:Scope}{f:Addr}{cd:Value}{A:aj}{outer:List Env}{s:ae}{H:Hp}{E:XK}{au:List (Addr×Obj)}{Z:St}{H1:Hp}{s1:ae}{ex:Addr}{C:Addr}{dx:Addr}
end
section
variable {X:Cx}{x:Str}{C fI:Addr}{mh:List Value}{newId GU B:String}{e:Expr}{t:TA}{np cx pos:Pos}{k:Nat}{fd:FuncData}{ps:List Str}{sp:Sp}
end
def nN(ex:Addr)(cls:Value)(dx:Option Addr)(h:Heap):Prop:=∃o,h.get? ex=some o/\o.cls=cls/\o.dict=dx/\∃fs,o.data= .fields fs
def ClsAt(K:aa)(C:Addr):Prop:=∀h,K.In h->∃nm q N bs tl hdct sn sub ab col dd k0 k1 k2 k3 k5 newId,h.get? C=some (excClassObj nm q C N bs tl hdct sn sub ab col dd k0 k1 k2 k3 k5 newId)
theorem Exc.cls{K:aa}{mg:Str->Option Value}{x:Str}{C:Addr}{mh:List Value}{newId:String}(e:Exc K mg x C mh newId):ClsAt K C:=fun h X=>by obtain⟨tl,N,nm,q,bs,hdct,sn,sub,ab,col,dd,k0,k1,k2,k3,k5,mN,hC,_⟩:=(e.own X).obj;exact⟨nm,q,N,bs,tl,hdct,sn,sub,ab,col,dd,k0,k1,k2,k3,k5,newId,hC⟩
inductive T5(i:Nat)(Cs:Addr->Prop)(tb:XK->TS)(th:TS)(D:Ends)(Z:St)(H:Hp):Prop |mk (E:XK)(h0:tb E D Z H)(h1:(∀cls dx H',E cls dx H'->∃C,cls= .ref C/\Cs C))(h2:∀(C ex:Addr)(dx:Option Addr)(σ':St)(H':Hp),σ'.length=Z.length->E (.ref C) dx H'->H' ex=none->th {nx:=fun σ2 H2=>D.nx (σ2.set i none) H2,rt:=D.rt,bk:=fun σ2 H2=>D.bk (σ2.set i none) H2,ct:=fun σ2 H2=>D.ct (σ2.set i none) H2} (σ'.set i (some (.ref ex))) (upd H' ex (.ext (nN ex (.ref C) dx)))):T5 i Cs tb th D Z H
def WR(i:Nat)(Cs:Addr->Prop)(tb:XK->TS)(th:TS):TS:=fun D Z H=>T5 i Cs tb th D Z H
section
variable {X:Cx}{i:Nat}{n y:Str}{Dc:Addr}{J4:List Value}{newD:String}{body zS:List Stmt}{b0:Stmt}{np sX pos:Pos}{tb:XK->TS}{th:TS}{Cs:Addr->Prop}
theorem ZC(gG:X.stack=X.env::X.outer)(hfr:X.env.frame=some X.env.locals)(hN:X.N.Nodup)(hi:X.N[i]? =some n)(hk:X.env.kindOf n=some .local)(hs:X.env.scope.names.lookup n=some .local) (hb:∀(E:XK)(xe:Value->ae->Prop),Passes (jS X.prog X.w) (X.iT xe) E->gK (X.iT xe) body (tb E)) (hg:Gl X y)(hy:Exc X.K X.mg y Dc J4 newD)(Hy:J4.contains (.type "BaseException")=true)(HR:∀C,Cs C->ClsAt X.K C/\takes X.K C Dc) (hh:∀ex,gK (X.hand ex) (b0::zS) th)(j7:(y==("__debug__":Str))=false:=by decide): SV X (.Try body [.ExceptHandler (some (.Name y np)) (some n) (b0::zS) sX] [] [] pos) (WR i Cs tb th):=by
  intro s Z H D I h;obtain⟨E,hq,lK,hth⟩:=h;refine wpAny_Try_except ?_;have ps:Passes (jS X.prog X.w) (X.iT fun e s₁=>wpAny (model X.prog X.w) X.A (noteFrame e X.env) (fun _ s₂=>wpAny (model X.prog X.w) X.A (setFlight e none) (fun _ s₃=>wpAny (model X.prog X.w) X.A (handleBy e X.env [.ExceptHandler (some (.Name y np)) (some n) (b0::zS) sX]) (SP X [] D) X.xe s₃) X.xe s₂) X.xe s₁) E:=by
   intro FY σ' H1 s1 ev s2 I1 hx;obtain⟨ex,cls,dx,H',B,rfl,ho,PV,oW,F,hE⟩:=hx;obtain⟨C,rfl,hC⟩:=lK cls dx H' hE;have I0:Inv X [] σ' H1 s1:=I1.mq.a9U;obtain⟨B9,g2,d2,t2,o2⟩:=s2;have a7c:kn B (X.env::X.outer) ex (.ref C) dx .none B9:=by rw[<-gG];exact oW
   have hA:X.A.frames=some (X.env::X.outer):=by rw[<-gG];exact I0.ok.frames
   refine Og (s:=⟨B9,g2,d2,t2,o2⟩) hA hfr a7c fun h4 Bm Wn=>?_;refine BF Bm fun h5 yF Wm=>?_;have F4:=F.step oW.1 Bm.1 Wn oW.2.2.1;have ff4:h4.FunFrames B X.stack:=by rw[gG];exact Bm.2.2.1
   have F5:=F4.step Bm.1 yF.1 Wm ff4;have ff5:h5.FunFrames B X.stack:=by rw[gG];exact yF.2.2.1
   have I5:Inv X [] σ' H' ⟨h5,g2,d2,t2,o2⟩:=I0.BV (s':=⟨h5,g2,d2,t2,o2⟩) ho F5.un F5.aV PV (fun b hb=>(cC hb).elim);refine wpAny_handleBy_cons (codeAny_handlers_test (vv (X:=X.hand ex) (I5.hand ex) hg hy.at' ?_ j7)) (by intro q;cases q);obtain⟨eC,tk⟩:=HR C hC;obtain⟨nm,q,Nn,bs,tl,hdct,sn,sub,ab,col,dd,k0,k1,k2,k3,k5,nw,oC⟩:=eC _ I5.gk;obtain⟨tl',Nn',Oo,q',Se,Q0,LG,KA,SF,RU,ng,j0,j1,j2,j3,j5,mN',oD,abT,abD,TL'⟩:=(hy.own I5.gk).obj;obtain⟨ob,hob,a4T,_⟩:=yF.there;have Ha:(Value.ref C::tl).contains (.ref Dc)=true:=by
    obtain⟨cd,ha,oT⟩:=Option.bind_eq_some_iff.mp tk;split at oT
    ·cases oT
    · have hc:=dG oT
      unfold PySem.W.clsIn at ha;split at ha
      · rename_i c1 c2 cd' c4 hl
        cases ha;have e1:=I5.gk _ _ hl;rw[show(Shared.heap ⟨h5,g2,d2,t2,o2⟩).get? C=some _ from oC]at e1;have e2:=dG e1;unfold excClassObj at e2;injection e2 with _ _ e3 _;injection e3 with e4;rw[<-e4]at hc;exact hc
      ·cases ha
   refine a8o oC oD hob a4T (TL'.hasType Hy) Ha ?_;refine codeAny_handlers_suite_as ?_;refine BF (s:=⟨h5,g2,d2,t2,o2⟩) yF fun h6 QD Wl=>?_;have F6:=F5.step yF.1 QD.1 Wl ff5;have Ws:Un (da X.stack) [] H1 (upd H' ex (.ext (nN ex (.ref C) dx))) s1.heap h6:=by
    have nb:∀b u,H' b=some u->b≠ex:=fun b u e z=>by rw[z,F6.ne]at e;cases e
    refine⟨F6.un.keep,F6.un.slot,fun b o e n hx=>?_,F6.un.there,fun b xs e=>?_,fun b o u e=>?_,fun b ps e=>?_⟩
    ·rw[aK (fun z=>by rw[z,F6.nw]at e;cases e)];exact F6.un.free b o e n hx
    ·have:=F6.un.jX b xs e;rw[aK (nb b _ this)];exact this
    ·have:=F6.un.jK b o u e;rw[aK (nb b _ this)];exact this
    ·obtain⟨more,e1⟩:=F6.un.jC b ps e;exact⟨more,by rw[aK (nb b _ e1)];exact e1⟩
   have a4R:dB X.prog X.w (upd H' ex (.ext (nN ex (.ref C) dx))) h6:=fun b u e=>by
    by_cases Q5:b=ex
    · subst Q5
      rw[ba]at e;cases e;obtain⟨o6,e6,c6⟩:=QD.there;exact⟨⟨o6,e6,c6⟩,⟨o6,e6⟩,fun g1 g3 ⟨o7,e7,c7⟩ k=>⟨o7,k o7 e7,c7⟩⟩
    · rw[aK Q5]at e
      refine(F6.aV b u e).lQ (fun c v hc q=>q) (fun c q=>?_) fun c xs q=>?_
      ·rw[aK (fun z=>by rw[z,F6.ne]at q;cases q)];exact q
      ·rw[aK (fun z=>by rw[z,F6.ne]at q;cases q)];exact q
   have I6:Inv X [] σ' (upd H' ex (.ext (nN ex (.ref C) dx))) ⟨h6,g2,d2,t2,o2⟩:=I0.BV (s':=⟨h6,g2,d2,t2,o2⟩) ho Ws a4R PV (fun b hb=>(cC hb).elim);refine uD (X:=X.hand ex) (I6.hand ex) hN hi (.inl hs) (v:=.ref ex) rfl (fun s7 I7=>?_) (.inr hs);refine jw (hh ex [] s7 _ _ _ I7 (hth C ex dx σ' H' (I0.len.trans I.len.symm) hE F.ne)) (fun f s8 q=>?_) fun e s8 q=>False.elim q;have un:∀(σ2:St)(H2:Hp)(Q:Unit->ae->Prop),Inv (X.hand ex) [] σ2 H2 s8->(∀s9,Inv X [] (σ2.set i none) H2 s9->Q () s9)->wpAny (model X.prog X.w) X.A (do bindName X.env n .none;unbindBehindTheSuite X.env n sX) Q X.xe s8:=fun σ2 H2 Q I8 hq=>by
    have Vo:=I8.back I0.ok;have cy:i<σ2.length:=by rw[Vo.len];exact(dC.mp hi).1
    unfold bindName;refine aO (aO (uh (wpAny_point (aO (uD Vo hN hi (.inl hs) (v:=.bp) rfl (fun s9 I9=>wpAny_point ?_) (.inr hs))))));refine Wq I9 hN hi hk hs (v:=.bp) (zr cy) fun mF wB=>hq mF ?_;rw[JO]at wB;exact wB
   cases f with |next=>obtain⟨σ2,H2,I8,dq⟩:=q;exact un σ2 H2 _ I8 fun s9 I9=>⟨_,H2,I9,dq⟩ |brk=>obtain⟨σ2,H2,I8,dq⟩:=q;exact un σ2 H2 _ I8 fun s9 I9=>⟨_,H2,I9,dq⟩ |cont=>obtain⟨σ2,H2,I8,dq⟩:=q;exact un σ2 H2 _ I8 fun s9 I9=>⟨_,H2,I9,dq⟩ |ret u=>obtain⟨v,σ2,H2,I8,r8,dq⟩:=q;exact un σ2 H2 _ I8 fun s9 I9=>⟨v,_,H2,I9,r8,dq⟩
  refine jw (hb E _ ps [] s Z H D (I.iT _) hq) (fun f s1 q=>?_) fun e s1 q=>q;have q':=q.mq;cases f with |next=>exact zj q' |brk=>exact q' |cont=>exact q' |ret u=>exact q'
end
end L2
namespace L2
open PySem PySem.Spec PyProof.Rows PySem.W
section
variable {prog:ah}{w:World}{A:aj}{E:Value->ae->Prop}{h:Heap}{g:Array GenState}{d:Drawn}{t:Nat}{os:OsState}{K:Frag}{x C:Addr}{ox:Obj}{od:Obj}{f:Str}{v:Value}
end
section
variable {X:Cx}{e:Expr}{f:Str}{pos:Pos}{ta:TE}
inductive UX(K:Frag)(xs:List V)(H:Hp)(Q:VK):Prop |mk (ex:Addr)(C:Addr)(dx:Option Addr)(c:V)(cv:Value)(b:Bool)(h0:xs=[.ref ex,c])(h1:H ex=some (.ext (nN ex (.ref C) dx)))(h2:nM K C)(h3:a9r c=some cv)(h4:kitOne K (.ref C) cv=some b)(h5:Q (.bl b) H):UX K xs H Q
def Zn(K:Frag):List V->Hp->VK->Prop:=fun xs H Q=>UX K xs H Q
inductive UW(K:Frag)(xs:List V)(H:Hp)(Q:VK):Prop |mk (ex:Addr)(C:Addr)(p:Addr)(dx:Option Addr)(Ds:List Addr)(b:Bool)(h0:xs=[.ref ex,.ref p])(h1:H ex=some (.ext (nN ex (.ref C) dx)))(h2:nM K C)(h3:H p=some (.tup (Ds.map V.ref)))(h4:kitAny K (.ref C) (Ds.map Value.ref)=some b)(h5:Q (.bl b) H):UW K xs H Q
def Zm(K:Frag):List V->Hp->VK->Prop:=fun xs H Q=>UW K xs H Q
theorem sQ(K:Frag)(hK:X.K=K):fh X (.builtin "isinstance") (fun xs H Q=>Zn K xs H Q\/Zm K xs H Q):=by
 subst hK;intro au s Z H xs us Q I r h;rcases h with⟨ex,C,dx,c,cv,b,rfl,he,k,hc,kb,q⟩|⟨ex,C,p,dx,Ds,b,rfl,he,k,hp,kb,q⟩
 · obtain⟨u,v,rfl,rx,rc⟩:=vals2 r
   cases(show u=Value.ref ex from rx);have hv:v=cv:=by cases c with |ref D=>cases(show v=Value.ref D from rc);exact dG hc |ty n=>cases(show v=Value.type n from rc);exact dG hc |_=>cases hc
   subst hv;obtain⟨o,o1,o2,_⟩:=(I.aV ex _ he).1;exact kia_one (Pa k) I.gk ⟨o,o1,o2⟩ kb (fun z=>nomatch z) fun tk=>⟨.bl b,H,I.tok _,rfl,q⟩
 · obtain⟨u,v,rfl,rx,rc⟩:=vals2 r
   cases(show u=Value.ref ex from rx);cases(show v=Value.ref p from rc);obtain⟨o,o1,o2,_⟩:=(I.aV ex _ he).1;obtain⟨_,its,rv,⟨cls,dd,dt,sl⟩,h1,h2,n,h3⟩:=(show fC X.prog X.w H s.heap p (.tup (Ds.map V.ref))from I.aV p _ hp);simp only at h2 h3;subst h2 h3;have e:=K7 rv;subst e;exact kia_tup (Pa k) I.gk ⟨o,o1,o2⟩ h1 kb (fun z=>nomatch z) fun tk=>⟨.bl b,H,I.tok _,rfl,q⟩
end
end L2
namespace L2
open PySem PySem.Spec PyProof.Rows
section
variable {X:Cx}{k:Nat}{x:Str}{p pos:Pos}{e:Expr}{es:List Expr}{t:TA}{sp:Sp}
end
section
variable {P:ah}{w:World}{K:aa}{mg:Str->Option Value}{base:Heap}{N:List Str}{qual:Str}{scope:Scope}{f:Addr}{cd:Value}{A:aj}{outer:List Env}{s:ae}{H:Hp}{E E0:XK}
end
end L2
namespace L2
open PySem PySem.Spec PyProof.Rows
open Builtin Builtin.ObjectAttr
section
variable {prog:ah}{w:World}{A:aj}{E:Value->ae->Prop}{s:ae}{K:aa}{x C dx:Addr}{ox:Obj}{fs:Array Value}{name:Str}{v:Value}{Q:Unit->ae->Prop}{mA:Str->Option Value}{ks:List Str}
end
section
variable {X:Cx}{o e value:Expr}{f:Str}{pos pos' nY:Pos}{ta tv:TE}
end
end L2
namespace L2
open PySem PySem.Spec PyProof.Rows
def Ci(P:ah)(w:World)(K:aa)(mg:Str->Option Value)(base:Heap)(C:Addr)(m:Str)(k:Nat)(sp:Sp):Prop:=∃f fd ps,iR P w K mg base (jS P w) k f fd ps sp/\Meth K C m f/\Binds K fd ps []
section
variable {P:ah}{w:World}{K:aa}{mg:Str->Option Value}{base:Heap}
theorem jQ.okD{m qual:Str}{st:Stmt}{f:Addr}{fd:FuncData}{N ps:List Str}{k:Nat}{sp:Sp}(F:jQ K m qual st f fd)(S:bh N ps (aR st))(len:∀vs H Q E,sp vs H Q E->vs.length=ps.length) (iz:∀(aJ:Value)(A:aj)(outer:List Env)(s:ae)(H:Hp)(vs:List V)(Q:VK)(E:XK),cE k (A.deeper (envOfC qual (aR st) s.heap.objs.size f aJ))->sp vs H Q E->∃t,gK (iP (jS P w) P w K mg base N qual (aR st) f aJ A outer s H E) (gs st) t/\t {nx:=fun _ H'=>Q .bp H',rt:=Q} (start N vs) H):iR P w K mg base (jS P w) (k+1) f fd ps sp:=by obtain⟨oc,od,kV,doc,pm,an,aJ,ct,fX,rfl,lk,gH⟩:=F.ex;exact Ig lk gH S len fun A outer s H vs Q E hr iZ=>iz aJ A outer s H vs Q E hr iZ
theorem MA.a5K{C:Addr}{m qual:Str}{st:Stmt}{N ps:List Str}{k:Nat}{sp:Sp}(F:MA K C m qual st)(S:bh N ps (aR st))(len:∀vs H Q E,sp vs H Q E->vs.length=ps.length) (hb:∀(kV doc pm:Value)(an:Option Addr)(aJ ct:Value)(us:List Value),us.length=ps.length->bindArgs (PySem.W.fnOf m qual (jN st) (gs st) (aR st) .none kV doc pm an aJ ct) ⟨us,[]⟩=pure (ps.zip us)) (iz:∀(f:Addr)(aJ:Value)(A:aj)(outer:List Env)(s:ae)(H:Hp)(vs:List V)(Q:VK)(E:XK),cE k (A.deeper (envOfC qual (aR st) s.heap.objs.size f aJ))->sp vs H Q E->∃t,gK (iP (jS P w) P w K mg base N qual (aR st) f aJ A outer s H E) (gs st) t/\t {nx:=fun _ H'=>Q .bp H',rt:=Q} (start N vs) H):Ci P w K mg base C m (k+1) sp:=by obtain⟨f,fd,hm,F⟩:=F.ex;exact⟨f,fd,ps,F.okD S len fun aJ A outer s H vs Q E=>iz f aJ A outer s H vs Q E,hm,F.binds hb⟩
end
section
variable {X:Cx}{k:Nat}{x m:Str}{C:Addr}{p pos apos:Pos}{o e:Expr}{es:List Expr}{t:TA}{ta:TE}{sp:Sp}{E:XK}
inductive Js(C:Addr)(m:Str)(sp:Sp)(E:XK)(t:TA)(Z:St)(Q:VK)(x:V)(H1:Hp):Prop |mk (a:Addr)(dx:Addr)(fs:List (Str×V))(h0:x= .ref a)(h1:H1 a=some (.ins C dx fs))(h2:fs.lookup m=none)(h3:t Z H1 fun vs H2=>sp (x::vs) H2 Q E):Js C m sp E t Z Q x H1
def D9(C:Addr)(m:Str)(sp:Sp)(E:XK)(ta:TE)(t:TA):TE:=fun Z H Q=>ta Z H fun x H1=>Js C m sp E t Z Q x H1
theorem a2F{Z:St}{Q:VK}{x:V}{H1:Hp}:ud C m sp [] E t Z Q x H1=Js C m sp E t Z Q x H1:=by
 have e1:(fun(vs:List V) H1=>sp (x::(vs++[])) H1 Q E)=fun vs H1=>sp (x::vs) H1 Q E:=by funext vs H1;rw[CI]
 refine propext ⟨fun⟨a,dx,fs,h0,h1,h2,h3⟩=>⟨a,dx,fs,h0,h1,h2,?_⟩,fun⟨a,dx,fs,h0,h1,h2,h3⟩=>⟨a,dx,fs,h0,h1,h2,?_⟩⟩
 ·rw[<-e1];exact h3
 ·rw[e1];exact h3
theorem ZY{pl:Sem Bool}(F:Ci X.prog X.w X.K X.mg X.base C m k sp)(hp:Passes (jS X.prog X.w) X E)(c:jR X.K C)(hr:cE k X.A)(he:PE X o ta)(ha:PA X (e::es) t) (gG:starEach (e::es) X.env=(false,eval e X.env)::starEach es X.env:=by rfl)(fZ:(backTo pos (starEach es X.env)).any (·.1)=false:=by rfl) (ht:eval (.Call (.Attribute o m apos) (e::es) [] pos) X.env=(do
     let ov<-eval o X.env
     standAt apos.atName
     let(f,first)<-holding [ov] (getMethod ov m pl)
     callWith pos f first (backTo pos (starEach (e::es) X.env)) (backToKw pos (keywordEach [] X.env))):=by rfl): PE X (.Call (.Attribute o m apos) (e::es) [] pos) (D9 C m sp E ta t):=by
  obtain⟨f,fd,ps,F,hm,hb⟩:=F;have h:=NP (pos:=pos) (apos:=apos) (pl:=pl) he c hm F hr hb .nil hp ha gG fZ ht;intro au s Z H Q I hq;refine h au s Z H Q I ?_;show ta Z H fun x H1=>ud C m sp [] E t Z Q x H1;simp only[a2F];exact hq
end
end L2
namespace L2
open PySem PySem.Spec PyProof.Rows SeqAt
section
variable {X:Cx}{k:Nat}{x:Str}{p pos:Pos}{e:Expr}{es:List Expr}{t:TA}{sp:Sp}{E:XK}
end
section
variable {X:Cx}
theorem CM:∀{bs:List Bool}{us:List Value},Vals (bs.map V.bl) us->us=bs.map Value.bool |[],_,.nil=>rfl |b::bs,_,.cons q r=>by cases(show _=Value.bool b from q);rw[CM r];rfl
def sR:Value->Bool | .bool b=>b |_=>false
theorem QT{bs:List Bool}(A:aj)(s:ae):∀y,y∈(bs.map Value.bool).toArray->EqAt A s y (.bool true) (sR y):=fun y hy=>by obtain⟨b,_,rfl⟩:=jy.mp (List.mem_toArray.mp hy);have:=EqAt.bool_bool (A:=A) (s:=s) b true;cases b<;>exact this
theorem a9c(bs:List Bool):(bs.map Value.bool).countP sR=bs.count true:=by induction bs with |nil=>rfl |cons b r ih=>cases b<;>simp[List.countP_cons,sR,ih,List.count_cons]
inductive Jv(K:aa)(x:V)(vs:List V)(H:Hp)(Q:VK):Prop |mk (l:Addr)(bs:List Bool)(h0:x= .ref l)(h1:vs=[.bl true])(h2:aE K H l (bs.map V.bl))(h3:Q (.int (bs.count true:Nat)) H):Jv K x vs H Q
theorem a2G(K:aa)(hK:X.K=K):z9 X "list.count" (fun x vs H Q=>Jv K x vs H Q):=by subst hK;intro au s Z H x vs v us Q I rx rv h;obtain⟨l,bs,rfl,rfl,hl,q⟩:=h;cases rx;obtain⟨u,rfl,ru⟩:=vals1 rv;cases(show u=Value.bool true from ru);obtain⟨its,r,pl,_⟩:=I.list hl;rw[CM r]at pl;obtain⟨⟨cls,dd,data,sl⟩,ho,hc,n,hd⟩:=id pl.isList;simp only at hc hd;subst hc hd;refine wG PySem.F.slot_list_count ⟨_,ho,rfl⟩ PySem.F.entry_list_count (PySem.F.args_list_count_2 _ _) (list_countAt l _ n dd sl (.bool true) sR) ⟨ho,QT _ _,?_⟩;rw[show(bs.map Value.bool).toArray.toList=bs.map Value.bool from rfl,a9c];exact⟨.int _,H,I.tok _,⟨_,rfl⟩,q⟩
inductive Ju(K:aa)(x:V)(vs:List V)(H:Hp)(Q:VK):Prop |mk (l:Addr)(bs:List Bool)(j:Nat)(h0:x= .ref l)(h1:vs=[.bl true])(h2:aE K H l (bs.map V.bl))(h3:bs[j]? =some true)(h4:∀m,m<j->bs[m]? =some false)(h5:j<1000)(h6:Q (.int (j:Nat)) H):Ju K x vs H Q
theorem a2E(K:aa)(hK:X.K=K):z9 X "list.index" (fun x vs H Q=>Ju K x vs H Q):=by
 subst hK;intro au s Z H x vs v us Q I rx rv h;obtain⟨l,bs,j,rfl,rfl,hl,hj,hm,abV,q⟩:=h;cases rx;obtain⟨u,rfl,ru⟩:=vals1 rv;cases(show u=Value.bool true from ru);obtain⟨its,r,pl,_⟩:=I.list hl;rw[CM r]at pl;obtain⟨⟨cls,dd,data,sl⟩,ho,hc,n,hd⟩:=id pl.isList;simp only at hc hd;subst hc hd;have PN:=(dC.mp hj);obtain⟨hj1,oN⟩:=PN;refine wG PySem.F.slot_list_index ⟨_,ho,rfl⟩ PySem.F.entry_list_index (PySem.F.args_list_index_2 _ _) (list_indexAt l _ n dd sl (.bool true) sR j (by simpa using hj1) (by lia) ?_ (fun m hm1 Bg=>?_)) ⟨ho,QT _ _,⟨.int _,H,I.tok _,⟨_,rfl⟩,q⟩⟩
 ·simp[oN,sR]
 · have:=hm m Bg
   obtain⟨h1,h2⟩:=dC.mp this;simp[h2,sR]
theorem a0b(K:aa)(h:X.K=K){o e:Expr}{to:TE}{t:TA}{apos cx:Pos}(ho:PE X o to)(ha:PA X [e] t) (j8:attributeBase o "count" X.env (eval o X.env)=eval o X.env:=by rfl) (kN:((backTo cx (starEach [e] X.env)).all (fun x=>!x.1)&&(backToKw cx (keywordEach [] X.env)).all (fun x=>x.1.isSome) &&decide ([e].length+([]:List Keyword).length+(if([]:List Keyword).isEmpty then 0 else 1)<30))=true:=by rfl) (j6:(apos.endLine==cx.line)=true:=by rfl)(hs:starEach [e] X.env=(false,eval e X.env)::starEach [] X.env:=by rfl)(kK:(backTo cx (starEach [] X.env)).any (·.1)=false:=by rfl): PE X (.Call (.Attribute o "count" apos) [e] [] cx) (rC K "list" (fun x vs H Q=>Jv K x vs H Q) to t):=by subst h;exact uV zo PySem.F.slot_list_count PySem.F.type_list_count (a2G X.K rfl) ho ha j8 kN j6 hs kK
theorem a09(K:aa)(h:X.K=K){o e:Expr}{to:TE}{t:TA}{apos cx:Pos}(ho:PE X o to)(ha:PA X [e] t) (j8:attributeBase o "index" X.env (eval o X.env)=eval o X.env:=by rfl) (kN:((backTo cx (starEach [e] X.env)).all (fun x=>!x.1)&&(backToKw cx (keywordEach [] X.env)).all (fun x=>x.1.isSome) &&decide ([e].length+([]:List Keyword).length+(if([]:List Keyword).isEmpty then 0 else 1)<30))=true:=by rfl) (j6:(apos.endLine==cx.line)=true:=by rfl)(hs:starEach [e] X.env=(false,eval e X.env)::starEach [] X.env:=by rfl)(kK:(backTo cx (starEach [] X.env)).any (·.1)=false:=by rfl): PE X (.Call (.Attribute o "index" apos) [e] [] cx) (rC K "list" (fun x vs H Q=>Ju K x vs H Q) to t):=by subst h;exact uV zo PySem.F.slot_list_index PySem.F.type_list_index (a2E X.K rfl) ho ha j8 kN j6 hs kK
end
end L2
namespace L2
open PySem PySem.Spec PyProof.Rows PySem.W
abbrev u9:=List Env->ae->Sp
structure Vr(P:ah)(w:World)(K:Frag)(mg:Str->Option Value)(base:Heap)(CX:jT)(k:Nat)(f:Addr)(fd:FuncData)(ps:List Str)(sp:u9):Prop where
 len:∀outer s vs H Q E,sp outer s vs H Q E->vs.length=ps.length
 run:∀(A:aj)(outer:List Env)(s:ae)(H:Hp)(args:Args)(us:List Value)(vs:List V)(Q:VK)(E:XK),cE k A->nO P w K mg base A outer s H->BindsTo s fd args (ps.zip us)->Vals vs us->sp outer s vs H Q E->codeAny (model P w) A (.call (.ref f) args) (CR CX outer P w H s Q E) s
theorem a7b{CX:jT}{P:ah}{w:World}{K:Frag}{mg:Str->Option Value}{base:Heap}{k:Nat}{f:Addr}{name qual:Str}{params:Arguments}{body:List Stmt}{scope:Scope}{dV kV doc pm aJ ct oc:Value}{an od:Option Addr}{fX:Array (Option Value)}{N ps:List Str}{sp:u9} (lk:K.lookup f=some ⟨oc,od,.func (fnOf name qual params body scope dV kV doc pm an aJ ct),fX⟩)(gH:codeIn K aJ qual=true)(S:bh N ps scope)(len:∀outer s vs H Q E,sp outer s vs H Q E->vs.length=ps.length) (iz:∀(A:aj)(outer:List Env)(s:ae)(H:Hp)(vs:List V)(Q:VK)(E:XK),cE k (A.deeper (envOfC qual scope s.heap.objs.size f aJ))->sp outer s vs H Q E->∃t,yX (iP CX P w K mg base N qual scope f aJ A outer s H E) body t/\t {nx:=fun _ H'=>Q .bp H',rt:=Q} (start N vs) H): Vr P w K mg base CX (k+1) f (fnOf name qual params body scope dV kV doc pm an aJ ct) ps sp:=by refine⟨len,fun A outer s H args us vs Q E hr e0 hb r iZ=>?_⟩;have hl:=len _ _ _ _ _ _ iZ;have KX:K.In s.heap:=e0.mod.oE.keeps fun b o e=>(e0.bs b o e).1;have lim:s.heap.NoLimit:=e0.mod.nolimit.keeps fun b o e=>(e0.bs b o e).1;refine codeAny_call_function hr.depth (KX _ _ lk) rfl S.co S.gen rfl (codeRec_of KX gH) (hb _ _ _ _ (wpAny_newFunctionEnv_cells S.kind (fun⟨n,v⟩ hy=>(S.par n (zp hy).1).imp id fun q=>⟨q,cellsFrom_some _ _ _ (.inl q)⟩) fun env he s1 x=>?_));subst he;obtain⟨t,ht,hq⟩:=iz A outer s H vs Q E (hr.deeper _) iZ;have I:Inv (iP CX P w K mg base N qual scope f aJ A outer s H E) [] (start N vs) H s1:=Pl S hr.hd e0 hl r x;refine⟨lim.keeps x.toInCall.keep,codeAny_func (jw (ht s1 (start N vs) H _ I hq) (fun fl s' hs=>?_) fun e s' hs=>hs)⟩;have fin:∀{σ':St}{H':Hp}{v:V}{u:Value},Inv (iP CX P w K mg base N qual scope f aJ A outer s H E) [] σ' H' s'->RelV v u->Q v H'->CE outer P w H s Q u s':=fun{σ' H' v u} J rv q=>⟨v,H',J.os,J.bare,J.base,J.aV,rv,q⟩;cases fl with |ret u=>obtain⟨v,σ',H',J,rv,q⟩:=hs;exact fin J rv q |next=>obtain⟨σ',H',J,q⟩:=hs;exact fin (v:=V.bp) (u:=Value.none) J rfl q |brk=>obtain⟨_,_,_,q⟩:=hs;exact False.elim q |cont=>obtain⟨_,_,_,q⟩:=hs;exact False.elim q
def zc(P:ah)(w:World)(K:Frag)(mg:Str->Option Value)(base:Heap)(x:Str)(k:Nat)(sp:u9):Prop:=∃f fd ps,Vr P w K mg base ja k f fd ps sp/\mg x=some (.ref f)/\keepIn K (.ref f)=true/\Binds K fd ps []
def jv(c:Addr)(q:Str)(h:Heap):Prop:=h.CodeRec (.ref c) q
theorem a9p{P:ah}{w:World}{H:Hp}{h:Heap}{c:Addr}{q:Str}(e:h.CodeRec (.ref c) q):fC P w H h c (.ext (jv c q)):=by obtain⟨c',o,vs,t,e1,e2,e3,e4⟩:=id e;cases e1;refine⟨e,⟨o,e2⟩,fun h1 h2 y k=>?_⟩;obtain⟨c2,o2,W7,t2,y1,y2,y3,y4⟩:=y;cases y1;exact⟨c,o2,W7,t2,rfl,k _ y2,y3,y4⟩
structure aap(H:Hp)(q:Str)(ps:Array Value):Prop where
 tr:TriplesOk ps.toList
 at':∀pos v,codeAmong pos ps.toList=some v->∃c,v= .ref c/\H c=some (.ext (jv c q))
def TabAt(H:Hp)(T:Addr)(q:Str):Prop:=∃ps,H T=some (.eZ ps)/\aap H q ps
theorem TabAt.first{H:Hp}{T:Addr}{q:Str}(h:H T=some (.eZ #[])):TabAt H T q:=⟨#[],h,trivial,fun pos v e=>by rw[JA]at e;cases e⟩
theorem TabAt.keep{H H':Hp}{T:Addr}{q:Str}(h:TabAt H T q)(e1:∀ps,H T=some (.eZ ps)->H' T=some (.eZ ps))(e2:∀b φ,H b=some (.ext φ)->H' b=some (.ext φ)):TabAt H' T q:=by obtain⟨ps,e,tr,ha⟩:=h;refine⟨ps,e1 _ e,tr,fun pos v ev=>?_⟩;obtain⟨c,rfl,hc⟩:=ha pos v ev;exact⟨c,rfl,e2 _ _ hc⟩
theorem Sb{p:Pos}{a b:Int}{c v:Value}(l:List Value)(ht:TriplesOk l)(h:codeAmong p (l++[rawInt a,rawInt b,c])=some v):codeAmong p l=some v\/v=c:=by
 rw[TriplesOk.eq_def]at ht;split at ht
 · rw[JA]at h
   simp only[List.nil_append]at h;split at h
   · rename_i e
     cases e;split at h
     ·cases h;exact .inr rfl
     ·rw[JA]at h;cases h
   ·cases h
 · rename_i i t j u x r
   rw[JA]at h⊢;simp only[List.cons_append]at h;dsimp only at h⊢;split at h
   ·exact .inl (by rw[aY (by assumption)];exact h)
   · rename_i hn
     rw[aZ hn];exact Sb r ht h
 ·exact ht.elim
termination_by l.length
def wz(h:Heap)(H:Hp)(fs:List Addr)(f:Addr)(pr:Arguments)(b:Expr)(sc:Scope)(q:Str)(c:Addr)(cl:List (Str×Addr)):Prop:=∃pm ct,h.get? f=some (kla_obj "<lambda>" q pr b sc cl pm c ct)/\H f=none/\f∉fs
structure qQ(h:Heap)(H:Hp)(fs:List Addr)(cl:List (Str×Addr))(N:List Str)(vs:List V):Prop where
 cell:∀x c,cl.lookup x=some c->∃u,h.IsCell c u
 free:∀x c,cl.lookup x=some c->H c=none
 nf:∀x c,cl.lookup x=some c->c∉fs
 inj:∀x y c,cl.lookup x=some c->cl.lookup y=some c->x=y
 val:∀(i:Nat) x v,N[i]? =some x->vs[i]? =some v->∃c u,cl.lookup x=some c/\h.IsCell c (some u)/\RelV v u
structure uc(N:List Str)(sc:Scope):Prop where
 kind:sc.kind= .function
 co:sc.isCoroutine=false
 gen:sc.isGenerator=false
 Oj:∀y∈sc.names,y.2≠ .cell
 fr:∀x∈N,sc.names.lookup x=some .free
 only:∀x,sc.names.lookup x=some .free->x∈N
def qh(CX:jT)(P:ah)(w:World)(K:Frag)(mg:Str->Option Value)(base:Heap)(N:List Str)(qual:Str)(scope:Scope)(f:Addr)(cd:Value)(cl:List (Str×Addr))(A:aj)(outer:List Env)(s:ae)(H:Hp)(E:XK):Cx where
 prog:=P
 w:=w
 K:=K
 mg:=mg
 base:=base
 A:=A.deeper (envX qual scope s.heap.objs.size f cd cl)
 N:=N
 s₀:=s
 H₀:=H
 env:=envX qual scope s.heap.objs.size f cd cl
 outer:=outer
 stack:=envX qual scope s.heap.objs.size f cd cl::outer
 ex:=[]
 calm:=true
 fn:=fun _=>false
 pn:=[]
 xe:=fun e s'=>wpAny (model P w) (A.deeper (envX qual scope s.heap.objs.size f cd cl)) (leaving (envX qual scope s.heap.objs.size f cd cl) e) (fun _ rO=>CX outer H s E e rO) (fun e' rO=>CX outer H s E e' rO) s'
theorem a46{CX:jT}{P:ah}{w:World}{K:Frag}{mg:Str->Option Value}{base:Heap}{N:List Str}{qual:Str}{scope:Scope}{f:Addr}{cd:Value}{cl:List (Str×Addr)}{A:aj}{outer:List Env}{s:ae}{H:Hp}{E:XK}{vs:List V}{h':Heap}{tk:Nat}{m:Str->Option Value}{fs:List Addr} (S:uc N scope)(hd:A.handled=none)(e0:nO P w K mg base A outer s H)(hl:vs.length=N.length)(C:qQ s.heap H fs cl N vs)(vJ:h'.Ns s.heap.objs.size m)(hk:∀b u,s.heap.get? b=some u->h'.get? b=some u): Inv (qh CX P w K mg base N qual scope f cd cl A outer s H E) [] (vs.map some) H ⟨h',s.gens,s.drawn,tk,s.os⟩:=by
  have sH:∀b:Addr,b∉([]:List Addr):=fun b=>by simp
  have Pj:∀{c:Addr}{v:Option Value},s.heap.IsCell c v->h'.IsCell c v:=fun⟨o,e,d⟩=>⟨o,hk _ _ e,d⟩;refine⟨⟨e0.mod,S.kind,rfl,rfl,bF _,C.inj,fun y hy=>?_,fun y c z=>(nomatch z),fun _=>hd,Around.frames_deeper e0.frames,.inr ⟨rfl,rfl⟩,fun b z=>absurd z (sH b),e0.bs,e0.lN,fun b _ _=>sH b,fun b z=>absurd z (sH b),e0.jo,e0.mU⟩,rfl,e0.bare,Un.kept hk,⟨_,vJ,fun i y v h1 h2 h3=>?_⟩,fun y c h=>?_,e0.aV.fresh (bF _),C.free,fun p hp=>absurd hp (by simp[qh]),e0.aV.kept hk,by rw[cj];exact hl⟩
  · have hy:scope.names.lookup y=some .cell\/scope.names.lookup y=some .free:=hy
    rcases hy with hy|hy
    ·exact absurd rfl (S.Oj _ (uj hy))
    · obtain⟨i,hi⟩:=pG.mp (S.only y hy)
      obtain⟨v,hv⟩:∃v,vs[i]? =some v:=⟨_,bZ (by rw[hl];exact(dC.mp hi).1)⟩;obtain⟨c,u,e,_⟩:=C.val i y v hi hv;exact⟨c,e⟩
  · rw[cu]at h2
    cases e:vs[i]? with |none=>rw[e]at h2;cases h2 |some v'=>rw[e]at h2;cases h2;obtain⟨c,u,e1,e2,r⟩:=C.val i y v h1 e;exact⟨u,r,.inr ⟨.inr (S.fr y (gy h1)),c,e1,Pj e2⟩⟩
  · obtain⟨u,e⟩:=C.cell y c h
    exact⟨u,Pj e⟩
theorem a3A{CX:jT}{P:ah}{w:World}{K:Frag}{mg:Str->Option Value}{base:Heap}{k:Nat}{f c:Addr}{qual:Str}{pr:Arguments}{b:Expr}{sc:Scope}{cl:List (Str×Addr)}{N:List Str}{A:aj}{outer:List Env}{s:ae}{H:Hp}{E:XK}{vs:List V}{Q:VK}{t:TE}{fs fs':List Addr} (S:uc N sc)(hb:∀pm cd ct,bindArgs (kla_fn "<lambda>" qual pr b sc cl pm cd ct) ⟨[],[]⟩=pure [])(hr:cE (k+1) A)(e0:nO P w K mg base A outer s H)(L:wz s.heap H fs f pr b sc qual c cl)(hc:H c=some (.ext (jv c qual)))(hl:vs.length=N.length)(C:qQ s.heap H fs' cl N vs) (ht:PE (qh CX P w K mg base N qual sc f (.ref c) cl A outer s H E) b t)(hq:t (vs.map some) H Q):codeAny (model P w) A (.call (.ref f) ⟨[],[]⟩) (CR CX outer P w H s Q E) s:=by
  obtain⟨pm,ct,ho,hf,hn⟩:=L;have lim:s.heap.NoLimit:=e0.mod.nolimit.keeps fun b o e=>(e0.bs b o e).1;have cr:s.heap.CodeRec (.ref c) qual:=(e0.aV c _ hc).1;refine kla_callFunE hr.depth ho rfl S.co S.gen rfl cr ?_;rw[hb];refine cg (Vu (fun x hx=>S.Oj x hx) (fun x hx=>nomatch hx) (fun h' vJ Hc=>?_) S.kind);have hk:∀b u,s.heap.get? b=some u->h'.get? b=some u:=fun b u e=>by
   have dy:b≠s.heap.objs.size:=fun z=>by have:=cw e;rw[z]at this;exact pE _ this
   rw[Hc.2 b dy];exact cn _ e
  refine⟨lim.keeps hk,kla_codeExpr ?_⟩;have I:Inv (qh CX P w K mg base N qual sc f (.ref c) cl A outer s H E) [] (vs.map some) H ⟨h',s.gens,s.drawn,s.toks+([]:List (Str×Value)).length,s.os⟩:=a46 S hr.hd e0 hl C vJ hk;refine jw (ht [] _ (vs.map some) H _ I hq) (fun u s' ⟨v,H',J,rv,q⟩=>?_) fun e s' h=>h;exact⟨v,H',J.os,J.bare,J.base,J.aV,rv,q⟩
section
variable {P:ah}{w:World}{K:Frag}{mg:Str->Option Value}{base:Heap}{N:List Str}{qual:Str}{scope:Scope}{f:Addr}{cd:Value}{cl:List (Str×Addr)}{A:aj}{outer:List Env}{s:ae}{H:Hp}{E E0:XK}
theorem a0e(he:∀cls dx H',E cls dx H'->E0 cls dx H'):Passes (jS P w) (qh (jS P w) P w K mg base N qual scope f cd cl A outer s H E0) E:=by
 intro au Z H1 s1 e s2 I hx;obtain⟨ex,cls,dx,H',B,rfl,ho,hg,oW,F,q⟩:=hx;have oW:kn B (envX qual scope s.heap.objs.size f cd cl::outer) ex cls dx .none s2.heap:=oW;show wpAny (model P w) (A.deeper (envX qual scope s.heap.objs.size f cd cl)) (leaving (envX qual scope s.heap.objs.size f cd cl) (.ref ex)) _ _ _;refine a3u (L:=s.heap.objs.size) I.ok.frames rfl oW fun h' x1 x2=>?_;have F2:=F.step oW.1 x1.1 x2 oW.2.2.1;have sub:∀b,b∈da outer->b∈da (envX qual scope s.heap.objs.size f cd cl::outer):=fun b hb=>by obtain⟨env,h1,h2⟩:=nP.mp hb;exact nP.mpr ⟨env,.tail _ h1,h2⟩
 have pX:∀b o,s.heap.get? b=some o->b∉da outer->b∉da (envX qual scope s.heap.objs.size f cd cl::outer):=fun b o e hb hm=>by
  obtain⟨env,h1,h2⟩:=nP.mp hm;rcases bI.mp h1 with z|h1
  · subst z
    have e1:s.heap.objs.size=b:=dG h2;have e2:=cw e;rw[<-e1]at e2;exact absurd e2 (pE _)
  ·exact hb (nP.mpr ⟨env,h1,h2⟩)
 have nx:∀b:Addr,b∉([]:List Addr):=fun _=>cC;refine⟨ex,cls,dx,H',B,rfl,ho.trans I.os,hg,x1,⟨⟨fun b o e n hb _=>?_,fun b o e n hb _=>?_,fun b o e n _=>?_,fun b o e _=>?_,fun b xs e=>F2.un.jX b xs (I.base.jX b xs e),fun b o u e=>F2.un.jK b o u (I.base.jK b o u e),fun b ps e=>?_⟩,F2.aV,fun b o e n hb=>?_,F2.k2,fun b o e hb=>?_,fun b hb=>F2.fr b (sub b hb),?_,F2.ne⟩,he _ _ _ q⟩
 ·exact F2.un.keep b o (I.base.keep b o e n hb (nx b)) (I.base.free b o e n (nx b)) (pX b o e hb) (nx b)
 · obtain⟨sl,e1⟩:=I.base.slot b o e n hb (nx b)
   obtain⟨DC,e2⟩:=F2.un.slot b _ e1 (I.base.free b o e n (nx b)) (sub b hb) (nx b);exact⟨DC,e2⟩
 · obtain⟨sl,e1⟩:=I.base.any e n (nx b)
   exact F2.un.free b _ e1 (I.base.free b o e n (nx b)) (nx b)
 · obtain⟨o1,e1⟩:=I.base.there b o e (nx b)
   exact F2.un.there b o1 e1 (nx b)
 · obtain⟨m1,e1⟩:=I.base.jC b ps e
   obtain⟨m2,e2⟩:=F2.un.jC b _ e1;exact⟨m1++m2,by rw[<-Array.append_assoc];exact e2⟩
 ·exact F2.k1 b o (I.base.keep b o e n hb (nx b)) (I.base.free b o e n (nx b)) (pX b o e hb)
 · obtain⟨o1,e1⟩:=I.base.there b o e (nx b)
   exact F2.k3 b o1 e1 (pX b o e hb)
 ·cases e:s.heap.get? ex with |none=>rfl |some o=>obtain⟨o1,e1⟩:=I.base.there ex o e (nx ex);rw[F2.nw]at e1;cases e1
end
section
variable {X:Cx}{x:Str}{p pos:Pos}{E:XK}
inductive Vk(X:Cx)(i:Nat)(E:XK)(Z:St)(H:Hp)(Q:VK):Prop |mk (f c:Addr)(cl:List (Str×Addr))(pr:Arguments)(b:Expr)(sc:Scope)(q:Str)(N:List Str)(vs:List V)(t:XK->TE)(k:Nat)(h0:Z[i]? =some (some (.ref f)))(h1:H=X.H₀)(h2:wz X.s₀.heap X.H₀ X.fs f pr b sc q c cl)(h3:H c=some (.ext (jv c q)))(h4:qQ X.s₀.heap X.H₀ X.fs cl N vs)(h5:vs.length=N.length)(h6:uc N sc)(h7:∀pm cd ct,bindArgs (kla_fn "<lambda>" q pr b sc cl pm cd ct) ⟨[],[]⟩=pure [])(h8:cE (k+1) X.A) (h9:∀(A:aj)(outer:List Env)(s:ae)(H:Hp)(E:XK),cE k (A.deeper (envX q sc s.heap.objs.size f (.ref c) cl))->PE (qh (jS X.prog X.w) X.prog X.w X.K X.mg X.base N q sc f (.ref c) cl A outer s H E) b (t E))(yB:t E (vs.map some) H Q):Vk X i E Z H Q
theorem a02{xe:Value->ae->Prop}(i:Nat)(hp:Passes (jS X.prog X.w) (X.iT xe) E)(hex:X.ex=[]:=by rfl)(hN:X.N[i]? =some x:=by rfl)(hv:C6 X.env.scope x:=by first|exact Or.inl rfl|exact Or.inr (Or.inl rfl)|exact Or.inr (Or.inr rfl))(hd:(x==("__debug__":Str))=false:=by decide) (gH:(x==("__classdict__":Str))=false:=by decide):PE (X.iT xe) (.Call (.Name x p) [] [] pos) (fun Z H Q=>Vk X i E Z H Q):=by
  intro au s Z H Q I h;obtain⟨f,c,cl,pr,b,sc,q,N,vs,t,k,h0,h1,⟨pm,ct,L1,L2,L3⟩,h3,C,h5,h6,h7,h8,h9,yB⟩:=h;have nx:∀b:Addr,b∉X.ex:=fun b=>by rw[hex];exact cC
  refine zl (aW (NN (X:=X.iT xe) (pos:=p) hN hv hd gH au s Z H (fun v H'=>v= .ref f/\H'=H) I ⟨_,h0,rfl,rfl⟩) fun u s1 ⟨v,H1,I1,rv,e1,e2⟩=>?_);subst e1 e2;cases(show u=Value.ref f from rv);have hf:=I1.base.keep f _ L1 L2 L3 (nx f);have kc:∀{x c u},cl.lookup x=some c->X.s₀.heap.IsCell c u->s1.heap.IsCell c u:=fun{x c u} e ⟨o,e1,e2⟩=>⟨o,I1.base.keep c o e1 (C.free x c e) (C.nf x c e) (nx c),e2⟩;have C2:qQ s1.heap H1 X.fs cl N vs:=⟨fun x c e=>(C.cell x c e).imp fun u z=>kc e z,fun x c e=>by rw[h1];exact C.free x c e,C.nf,C.inj,fun i x v a b=>by obtain⟨c,u,e,z,r⟩:=C.val i x v a b;exact⟨c,u,e,kc e z,r⟩⟩;refine callWith_F0 ⟨_,_,_,_,hf⟩ (zk (zm (a3A (k:=k) (fs:=X.fs) (fs':=X.fs) h6 h7 h8 I1.BK ⟨pm,ct,hf,by rw[h1];exact L2,L3⟩ h3 h5 C2 (h9 _ _ _ _ E (h8.deeper _)) yB) fun r s' hq=>?_));cases r with |error e=>exact hp au Z H1 s1 e s' I1 hq |ok fl=>cases fl with |ret u=>exact I1.after hq |next=>exact False.elim hq |brk=>exact False.elim hq |cont=>exact False.elim hq
end
def nk(cells:List (Str×Addr)):List (Str×NameKind)->List (Str×Addr)->List (Str×Addr) |[],cs=>cs |(n,k)::r,cs=>nk cells r (if k== .free then(n,(cells.lookup n).getD 0)::cs else cs)
theorem RW{env:Env}:∀(l:List (Str×NameKind))(cs:List (Str×Addr)),(∀y∈l,y.2= .free->∃c,env.cells.lookup y.1=some c)->(forIn l cs (fun(x:Str×NameKind)(cs:List (Str×Addr))=>match x with |(name,kind)=>if(kind==NameKind.free)=true then(do let c<-cellOf env name;pure (ForInStep.yield ((name,c)::cs)))else pure (ForInStep.yield cs)):Sem (List (Str×Addr)))=pure (nk env.cells l cs)
  |[],cs,_=>rfl |(n,k)::r,cs,h=>by
    rw[CH];have ih:=fun cs=>RW r cs fun y hy=>h y (.tail _ hy);unfold nk;by_cases hk:(k==NameKind.free)=true
    · obtain⟨c,e⟩:=h (n,k) (.head _) (by cases k<;>first|rfl|cases hk)
      simp only[hk,ui];unfold cellOf;rw[e];exact ih _
    · simp only[hk]
      exact ih _
theorem S0{cells:List (Str×Addr)}{x:Str}{c:Addr}:∀(l:List (Str×NameKind))(cs:List (Str×Addr)),(∀y∈l,y.2= .free->∃c,cells.lookup y.1=some c)->(nk cells l cs).lookup x=some c->cs.lookup x=some c\/cells.lookup x=some c
  |[],cs,_,h=>.inl h |(n,k)::r,cs,ha,h=>by
    unfold nk at h;rcases S0 r _ (fun y hy=>ha y (.tail _ hy)) h with z|z
    · by_cases hk:(k==NameKind.free)=true
      · rw[aY hk,iS]at z
        split at z
        · rename_i e
          obtain⟨c',e'⟩:=ha (n,k) (.head _) (by cases k<;>first|rfl|cases hk);rw[show cells.lookup n=some c' from e']at z;cases z;rw[fM.mp e];exact .inr e'
        ·exact .inl z
      ·rw[aZ hk]at z;exact .inl z
    ·exact .inr z
theorem S4{cells:List (Str×Addr)}{x:Str}:∀(l:List (Str×NameKind))(cs:List (Str×Addr)),(x,NameKind.free)∈l\/(∃c,cs.lookup x=some c)->∃c,(nk cells l cs).lookup x=some c
  |[],cs,h=>by
    rcases h with h|h
    ·cases h
    ·exact h |(n,k)::r,cs,h=>by
    unfold nk;refine S4 r _ ?_;rcases h with h|⟨c,h⟩
    · rcases bI.mp h with e|e
      · cases e
        exact .inr ⟨(cells.lookup x).getD 0,by simp[iS]⟩
      ·exact .inl e
    · refine .inr ?_
      split
      · rw[iS]
        split
        ·exact⟨_,rfl⟩
        ·exact⟨c,h⟩
      ·exact⟨c,h⟩
theorem a9s{env:Env}{sc:Scope}(h:∀y∈sc.names,y.2= .free->∃c,env.cells.lookup y.1=some c):closureFor sc env=pure (nk env.cells sc.names []):=by unfold closureFor;have:=RW sc.names [] h;simp only[this];rfl
theorem a9P{h h':Heap}{mg:Str->Option Value}{T:Addr}(b:h.BuiltinsAt mg T)(k:∀b o,h.get? b=some o->h'.get? b=some o):h'.BuiltinsAt mg T:=by obtain⟨bm,o,b1,b2,b3,b4,b5,b6⟩:=b;exact⟨bm,o,b1,b2,b3,b4,k _ _ b5,b6⟩
section
variable {X:Cx}{au:List (Addr×Obj)}{Z:St}{H:Hp}{s:ae}{pr:Arguments}{bd:Expr}{sc:Scope}{fk:Pos}{cl:List (Str×Addr)}{T c:Addr}{q:Str}
theorem Inv.O9(I:Inv X au Z H s){f:Addr}(h:s.heap.objs.size<=f):f∉da X.stack:=fun hb=>by
 rcases bI.mp (I.xg f hb)with e|e
 ·rw[e]at h;exact absurd I.lt (Nat.not_lt.mpr h)
 ·exact I.Oi h e
theorem a3B{SR:Value->ae->Prop}(I:Inv X au Z H s)(hc:X.env.code= .ref c)(hd:CodeHd X.base c T)(hB:X.base.BuiltinsAt X.mg T)(lK:closureFor sc X.env=pure cl)(tH:defaultsOf pr X.env=([],[]))(Hf:X.env.qual++Str.ofString "<lambda>"=q)(ht:TabAt H T q) (hq:∀f c' H' s',Inv X au Z H' s'->wz s'.heap H' (da X.stack) f pr bd sc q c' cl->H' c'=some (.ext (jv c' q))->TabAt H' T q->bw [T] H H'->(∀b,b≠T->H b=none->(∃o,s.heap.get? b=some o)->H' b=none/\∀o,s.heap.get? b=some o->s'.heap.get? b=some o)->SR (.ref f) s'): wpAny (model X.prog X.w) X.A (eval (.Lambda pr bd sc fk) X.env) SR X.xe s:=by
  refine kla_eval tH ?_;rw[Hf];obtain⟨ps,hT,tr,yu⟩:=ht;have kb:=I.bk;have PX:=I.ok.mod.glob.keeps kb;have Q3:CodeHd s.heap c T:=CodeHd.keeps hd kb;have Bq:s.heap.get? T=some (tabObj ps):=I.aV T _ hT;have Qh:=a9P hB kb;have gT:mainGlobals≠T:=fun z=>by obtain⟨o,es,ep,e,_⟩:=I.ok.mod.glob;have:=(I.bs _ _ e).2;rw[z,hT]at this;cases this
  cases ha:codeAmong fk ps.toList with |some v=>obtain⟨c',rfl,iy⟩:=yu fk v ha;refine kla_makeFunctionHit lK I.ok.glob PX hc Q3 Bq tr ha Qh fun nj h' tk hk hsz=>?_;have mQ:∀b o,s.heap.get? b=some o->(h'.push {cls:=Value.type "function",data:=Data.func (kla_fn (Str.ofString "<lambda>") q pr bd sc cl ((X.mg (Str.ofString "__name__")).getD Value.none) (Value.ref c') nj)}).get? b=some o:=fun b o e=>cn _ (hk b o e);refine hq h'.objs.size c' H _ (I.kept mQ) ⟨_,nj,eh _ rfl,I.aV.fresh hsz,I.O9 hsz⟩ iy ⟨ps,hT,tr,yu⟩ (fun b o e _=>e) fun b _ hb _=>⟨hb,fun o e=>mQ b o e⟩ |none=>
    refine kla_makeFunction lK I.ok.glob PX hc Q3 Bq tr ha gT Qh fun c' nj h' tk hx Bl cy a4G htb=>?_;have fc:H c'=none:=I.aV.fresh Bl;have cT:c'≠T:=fun z=>by rw[z,hT]at fc;cases fc
    have mQ:∀b o,b≠T->s.heap.get? b=some o->(h'.push (kla_obj (Str.ofString "<lambda>") q pr bd sc cl ((X.mg (Str.ofString "__name__")).getD Value.none) c' nj)).get? b=some o:=fun b o hb e=>cn _ (hx b o hb e);have RL:(h'.push (kla_obj (Str.ofString "<lambda>") q pr bd sc cl ((X.mg (Str.ofString "__name__")).getD Value.none) c' nj)).CodeRec (.ref c') q:=by obtain⟨c2,o,vs,t,e1,e2,e3⟩:=a4G;exact⟨c2,o,vs,t,e1,cn _ e2,e3⟩
    have HL:(h'.push (kla_obj (Str.ofString "<lambda>") q pr bd sc cl ((X.mg (Str.ofString "__name__")).getD Value.none) c' nj)).get? T=some (tabObj (ps++#[rawInt ↑fk.line,rawInt ↑fk.col,Value.ref c'])):=cn _ htb;have Qx:s.heap.objs.size<=h'.objs.size:=JM (pD Bl cy);have hf:(h'.push (kla_obj (Str.ofString "<lambda>") q pr bd sc cl ((X.mg (Str.ofString "__name__")).getD Value.none) c' nj)).get? h'.objs.size=some (kla_obj (Str.ofString "<lambda>") q pr bd sc cl ((X.mg (Str.ofString "__name__")).getD Value.none) c' nj):=eh _ rfl;have eU:∀b o,b≠T->H b=some o->upd (upd H T (.eZ (ps++#[rawInt ↑fk.line,rawInt ↑fk.col,Value.ref c']))) c' (.ext (jv c' q)) b=some o:=fun b o hb e=>by rw[aK (fQ e fc),aK hb];exact e
    have eN:∀b,b≠T->b≠c'->H b=none->upd (upd H T (.eZ (ps++#[rawInt ↑fk.line,rawInt ↑fk.col,Value.ref c']))) c' (.ext (jv c' q)) b=none:=fun b hb m3 e=>by rw[aK m3,aK hb];exact e
    have eT:upd (upd H T (.eZ (ps++#[rawInt ↑fk.line,rawInt ↑fk.col,Value.ref c']))) c' (.ext (jv c' q)) T=some (.eZ (ps++#[rawInt ↑fk.line,rawInt ↑fk.col,Value.ref c'])):=by rw[aK cT.symm];exact ba
    have eC:upd (upd H T (.eZ (ps++#[rawInt ↑fk.line,rawInt ↑fk.col,Value.ref c']))) c' (.ext (jv c' q)) c'=some (.ext (jv c' q)):=ba;have eX:∀b o,upd (upd H T (.eZ (ps++#[rawInt ↑fk.line,rawInt ↑fk.col,Value.ref c']))) c' (.ext (jv c' q)) b=some o->(b=c'/\o= .ext (jv c' q))\/(b=T/\o= .eZ (ps++#[rawInt ↑fk.line,rawInt ↑fk.col,Value.ref c']))\/(b≠T/\H b=some o):=fun b o e=>by
     by_cases h1:b=c'
     ·subst h1;rw[ba]at e;cases e;exact .inl ⟨rfl,rfl⟩
     · rw[aK h1]at e
       by_cases h2:b=T
       ·subst h2;rw[ba]at e;cases e;exact .inr (.inl ⟨rfl,rfl⟩)
       ·rw[aK h2]at e;exact .inr (.inr ⟨h2,e⟩)
    generalize upd (upd H T (.eZ (ps++#[rawInt ↑fk.line,rawInt ↑fk.col,Value.ref c']))) c' (.ext (jv c' q))=H' at eU eN eT eC eX;generalize hhn:h'.push (kla_obj (Str.ofString "<lambda>") q pr bd sc cl ((X.mg (Str.ofString "__name__")).getD Value.none) c' nj)=hn at mQ RL HL hf⊢;have AF:∀{b o},s.heap.get? b=some o->b≠c':=fun{b o} e z=>by have:=cw e;rw[z]at this;exact absurd this (Nat.not_lt.mpr Bl)
    have nT:∀{b},H b=none->b≠T:=fun{b} e z=>by rw[z,hT]at e;cases e
    have un:Un (da X.stack) [] H H' s.heap hn:=by
     refine⟨fun b o e n _ _=>mQ b o (nT n) e,fun b o e n _ _=>⟨o.slots,mQ b o (nT n) e⟩,fun b o e n _=>eN b (nT n) (AF e) n,fun b o e _=>?_,fun b xs e=>eU b _ (fun z=>by rw[z,hT]at e;cases e) e,fun b o u e=>eU b _ (fun z=>by rw[z,hT]at e;cases e) e,fun b ps' e=>?_⟩
     · by_cases hb:b=T
       ·rw[hb];exact⟨_,HL⟩
       ·exact⟨o,mQ b o hb e⟩
     · by_cases hb:b=T
       · rw[hb,hT]at e
         cases e;rw[hb];exact⟨_,eT⟩
       ·exact⟨#[],by rw[Array.append_empty];exact eU b _ hb e⟩
    have ho:dB X.prog X.w H' hn:=fun a o e=>by
     rcases eX a o e with⟨rfl,rfl⟩|⟨rfl,rfl⟩|⟨dy,e⟩
     ·exact a9p RL
     ·exact HL
     · refine(I.aV a o e).lQ (fun b' u hb e'=>mQ b' u (fun z=>?_) e') (fun b' e'=>eU b' _ (fun z=>by rw[z,hT]at e';cases e') e') fun b' xs e'=>eU b' _ (fun z=>by rw[z,hT]at e';cases e') e'
       rcases hb with z2|z2
       ·exact dy (z2▸z)
       ·rw[z,hT]at z2;cases z2
    have I':Inv X au Z H' ⟨hn,s.gens,s.drawn,tk,s.os⟩:=I.call (ch:=[]) un ho I.bare fun b hb=>(cC hb).elim;refine hq h'.objs.size c' H' _ I' ⟨_,nj,hf,?_,I.O9 Qx⟩ eC ⟨_,eT,?_,fun p v e=>?_⟩ (fun b o e hb=>eU b o (fun z=>hb (by rw[z];exact .head _)) e) fun b hb hn0 he=>?_
    · have qo:H h'.objs.size=none:=I.aV.fresh Qx
      exact eN _ (nT qo) (fun z=>absurd cy (by rw[<-z];exact pE _)) qo
    ·rw[CK];exact TriplesOk_snoc _ _ _ _ tr
    · rw[CK]at e
      rcases Sb _ tr e with z|z
      · obtain⟨c2,r1,r2⟩:=yu p v z
        exact⟨c2,r1,eU c2 _ (fun z=>by rw[z,hT]at r2;cases r2) r2⟩
      ·exact⟨c',z,eC⟩
    · obtain⟨o,e⟩:=he
      exact⟨eN b hb (AF e) hn0,fun o e=>mQ b o hb e⟩
end
def p5(K:Frag)(cd:Value)(T:Addr):Bool:=match cd with
 | .ref c=>match K.lookup c with |some ⟨.type n,_,.fields vs,_⟩=>n=="code"&&(match(vs[11]? :Option Value),(vs.getD 11 .none:Value),(vs.getD 18 .none:Value),(vs.getD 7 .none:Value),(vs.getD 9 .none:Value),(vs.getD 10 .none:Value)with |some (.ref P),.ref P2,.str _ _,.int _ _,.bool _,.int _ _=>P==T&&P2==T&&c !=T |_,_,_,_,_,_=>false) |_=>false
 |_=>false
theorem RV{K:Frag}{cd:Value}{T:Addr}{h:Heap}(e:p5 K cd T=true)(X:K.In h):∃c,cd= .ref c/\CodeHd h c T:=by
 unfold p5 at e;split at e
 · rename_i c
   split at e
   · rename_i n d vs sl hl
     rw[eV]at e;obtain⟨e1,e2⟩:=e;split at e2
     · rename_i P P2 f tf fl tg b t tt h1 h2 h3 h4 h5 h6
       simp only[eV,fM,bne_iff_ne]at e1 e2;obtain⟨⟨e3,e4⟩,e5⟩:=e2;subst e1 e3;rw[e4]at h2;exact⟨c,rfl,_,vs,f,tf,fl,tg,b,t,tt,X _ _ hl,rfl,rfl,h1,h2,h3,h4,h5,h6,e5⟩
     ·cases e2
   ·cases e
 ·cases e
section
variable {X:Cx}{k:Nat}{x:Str}{p pos fk:Pos}{pr:Arguments}{bd:Expr}{sc:Scope}{sp:u9}{T c:Addr}{q:Str}{N:List Str}
inductive Vi(X:Cx)(T:Addr)(q:Str)(pr:Arguments)(bd:Expr)(sc:Scope)(N:List Str)(js:List Nat)(sp:u9)(Z:St)(H:Hp)(Q:VK):Prop |mk (vs:List V)(h0:TabAt H T q)(h1:vs.length=N.length)(h2:∀(i j:Nat) v,js[i]? =some j->vs[i]? =some v->Z[j]? =some (some v)) (h3:∀f c cl H' s',wz s'.heap H' (da X.stack) f pr bd sc q c cl->H' c=some (.ext (jv c q))->qQ s'.heap H' (da X.stack) cl N vs->TabAt H' T q->bw [T] H H'->sp X.stack s' [.ref f] H' Q E0):Vi X T q pr bd sc N js sp Z H Q
structure SX(X:Cx)(N:List Str)(js:List Nat)(sc:Scope):Prop where
 S:uc N sc
 cell:∀y∈sc.names,y.2= .free->X.env.kindOf y.1=some .cell
 ix:∀(i:Nat) y,N[i]? =some y->∃j,js[i]? =some j/\X.N[j]? =some y
theorem ZX{js:List Nat}(LI:SX X N js sc)(F:zc X.prog X.w X.K X.mg X.base x k sp)(hr:cE k X.A)(hg:Gl X x)(qo:∀y,X.fn y=true)(hct:p5 X.K X.env.code T=true)(hB:X.base.BuiltinsAt X.mg T)(Hf:X.env.qual++Str.ofString "<lambda>"=q)(tH:defaultsOf pr X.env=([],[])) (j7:(x==("__debug__":Str))=false:=by decide): PE X (.Call (.Name x p) [.Lambda pr bd sc fk] [] pos) (fun Z H Q=>Vi X T q pr bd sc N js sp Z H Q):=by
  intro au s Z H Q I h;obtain⟨f0,fd,ps,F,hm,hk,hb⟩:=F;obtain⟨vs,h0,h1,h2,h3⟩:=h;obtain⟨S,lZ,hj⟩:=LI;obtain⟨c,hc,hd⟩:=RV hct I.ok.mod.oE;have Qa:∀y∈sc.names,y.2= .free->∃c,X.env.cells.lookup y.1=some c:=fun y hy e=>I.ok.has y.1 (.inl (lZ y hy e));refine zl (vv I hg hm ?_ j7);refine callWith_K (h₀:=X.base) I.ok.mod.oE hk ?_ rfl rfl;show wpAny _ _ (spliced ((false,eval (.Lambda pr bd sc fk) X.env)::backTo pos (starEach [] X.env))) _ _ s;refine Calls.spliced_cons (a3B I hc hd hB (a9s Qa) tH Hf h0 fun f c' H' s' I' L iy tb bt _=>?_);refine Calls.spliced_nil ⟨I'.gk,?_⟩;have sub:∀{y c},(nk X.env.cells sc.names []).lookup y=some c->X.env.cells.lookup y=some c:=fun{y c} e=>by
   rcases S0 sc.names [] Qa e with z|z
   ·cases z
   ·exact z
  have C:qQ s'.heap H' (da X.stack) (nk X.env.cells sc.names []) N vs:=by
   refine⟨fun y c e=>I'.cell y c (sub e),fun y c e=>I'.jL y c (sub e),fun y c e hf=>?_,fun y z c e1 e2=>I'.ok.inj y z c (sub e1) (sub e2),fun i y v e1 e2=>?_⟩
   · rcases bI.mp (I'.xg c hf)with z|z
     ·exact I'.jO y c (sub e) z
     · obtain⟨_,o,ho,_⟩:=I'.ok.jo.mem z
       exact absurd (cw ho) (Nat.not_lt.mpr (I'.ok.qH y c (qo y) (sub e)))
   · obtain⟨j,ej,eN⟩:=hj i y e1
     have mem:=uj (S.fr y (gy e1));have kd:X.env.kindOf y=some .cell:=lZ _ mem rfl;obtain⟨m,_,a54⟩:=I'.loc;obtain⟨u,ru,lk⟩:=a54 j y v eN (h2 i j v ej e2) (.inr (.inl kd));obtain⟨c1,e3⟩:=S4 (cells:=X.env.cells) sc.names [] (.inl mem);rcases lk with⟨z,_⟩|⟨_,c2,e4,ic⟩
     ·rw[kd]at z;cases z
     · have:=sub e3
       rw[e4]at this;cases this;exact⟨_,u,e3,ic,ru⟩
  have hs:=h3 f c' _ H' s' L iy C tb bt;have hl:([Value.ref f]++([]:List Value)).length=ps.length:=by rw[<-F.len _ _ _ _ _ _ hs];rfl
  have bt2:=hb s' [.ref f] I'.gk hl;refine zk (zm (F.run X.A X.stack s' H' ⟨[.ref f],[]⟩ [.ref f] [.ref f] Q E0 hr I'.BK bt2 (.cons rfl .nil) hs) fun r s2 hq=>?_);cases r with |error e=>exact False.elim hq |ok fl=>cases fl with |ret u=>exact I'.after hq |next=>exact False.elim hq |brk=>exact False.elim hq |cont=>exact False.elim hq
end
structure zd(K:Frag)(mg:Str->Option Value)(x:Str)(st:Stmt)(T:Addr):Prop where ex:∃f fd,mg x=some (.ref f)/\jQ K x x st f fd/\p5 K fd.code T=true
section
variable {P:ah}{w:World}{K:Frag}{mg:Str->Option Value}{base:Heap}
theorem a7k{h:Heap}{x:Str}{st:Stmt}{f T:Addr}{oc:Value}{od an:Option Addr}{fX:Array (Option Value)}{kV doc pm aJ ct:Value}(X:K.In h)(G:h.Ns mainGlobals mg)(a:nsIn K mainGlobals x=some (some (.ref f))) (l:K.lookup f=some ⟨oc,od,.func (fnOf x x (jN st) (gs st) (aR st) .none kV doc pm an aJ ct),fX⟩)(c:codeIn K aJ x=true)(k:keepIn K (.ref f)=true)(t:p5 K aJ T=true):zd K mg x st T:=⟨f,_,mg_of X G a,BC l c k,t⟩
theorem zd.has{x:Str}{st:Stmt}{N ps:List Str}{k:Nat}{sp:Sp}{T:Addr}(F:zd K mg x st T)(S:bh N ps (aR st))(len:∀vs H Q E,sp vs H Q E->vs.length=ps.length) (hb:∀(kV doc pm:Value)(an:Option Addr)(aJ ct:Value)(us:List Value),us.length=ps.length->bindArgs (fnOf x x (jN st) (gs st) (aR st) .none kV doc pm an aJ ct) ⟨us,[]⟩=pure (ps.zip us)) (iz:∀(f:Addr)(aJ:Value)(A:aj)(outer:List Env)(s:ae)(H:Hp)(vs:List V)(Q:VK)(E:XK),p5 K aJ T=true->cE k (A.deeper (envOfC x (aR st) s.heap.objs.size f aJ))->sp vs H Q E->∃t,gK (iP ja P w K mg base N x (aR st) f aJ A outer s H E).oz (gs st) t/\t {nx:=fun _ H'=>Q .bp H',rt:=Q} (start N vs) H):aD P w K mg base x (k+1) sp:=by obtain⟨f,fd,hm,F,ct⟩:=F.ex;have oS:=F.binds hb;have kp:=F.kp;obtain⟨oc,od,kV,doc,pm,an,aJ,ctt,fX,rfl,lk,gH⟩:=F.ex;exact⟨f,_,ps,Ig lk gH S len fun A outer s H vs Q E hr iZ=>(iz f aJ A outer s H vs Q E ct hr iZ).imp fun t h=>⟨h.1.oz,h.2⟩,hm,kp,oS⟩
theorem FA.a5J{x:Str}{st:Stmt}{N ps:List Str}{k:Nat}{sp:u9}(F:FA K mg x st)(S:bh N ps (aR st))(len:∀outer s vs H Q E,sp outer s vs H Q E->vs.length=ps.length) (hb:∀(kV doc pm:Value)(an:Option Addr)(aJ ct:Value)(us:List Value),us.length=ps.length->bindArgs (fnOf x x (jN st) (gs st) (aR st) .none kV doc pm an aJ ct) ⟨us,[]⟩=pure (ps.zip us)) (iz:∀(f:Addr)(aJ:Value)(A:aj)(outer:List Env)(s:ae)(H:Hp)(vs:List V)(Q:VK)(E:XK),cE k (A.deeper (envOfC x (aR st) s.heap.objs.size f aJ))->sp outer s vs H Q E->∃t,yX (iP ja P w K mg base N x (aR st) f aJ A outer s H E) (gs st) t/\t {nx:=fun _ H'=>Q .bp H',rt:=Q} (start N vs) H):zc P w K mg base x (k+1) sp:=by obtain⟨f,fd,hm,F⟩:=F.ex;have oS:=F.binds hb;have kp:=F.kp;obtain⟨oc,od,kV,doc,pm,an,aJ,ctt,fX,rfl,lk,gH⟩:=F.ex;exact⟨f,_,ps,a7b lk gH S len fun A outer s H vs Q E hr iZ=>iz f aJ A outer s H vs Q E hr iZ,hm,kp,oS⟩
end
theorem a3z{P:ah}{w:World}{K:Frag}{mg mb:Str->Option Value}{k:Nat}{fa a T:Addr}{fd:FuncData}{x:Str}{sp:Sp}{s₁:ae}{vs:List Value}{ns:List Int}{cd:Value} (KX:K.In s₁.heap)(vJ:s₁.heap.Ns mainGlobals mg)(oS:s₁.heap.Ns builtinsNs mb)(hbb:∀x:Str,x≠"__name__"->mb x=bootBuiltins x)(a55:s₁.heap.NoLimit)(hg:s₁.gens=#[])(hbm:∃bm ob,mg (Str.ofString "__builtins__")=some (.ref bm)/\bm≠builtinsNs/\s₁.heap.get? bm=some ob/\ob.cls= .type "module"/\ob.dict=some builtinsNs/\ob.data= .plain) (hT:s₁.heap.get? T=some (tabObj #[]))(kT:K.lookup T=none)(cT:p5 K cd T=true)(ha:s₁.heap.get? a=some {cls:=.type "list",data:=.seq vs.toArray})(hi:IntsAre vs ns)(hl:ns.length<=sizeLine)(hr:cE k callerA) (F:∀base:Heap,K.In base->base.BuiltinsAt mg T->iR P w K mg base ja k fa fd [x] sp)(a5H:∀(s:ae)(u:Value),BindsTo s fd ⟨[u],[]⟩ [(x,u)]) (iZ:∀H:Hp,H T=some (.eZ #[])->aE K H a (ns.map V.int)->sp [.ref a] H (fun v _=>v= .bl true) fun _ _ _=>False): codeAny (model P w) callerA (.call (.ref fa) ⟨[.ref a],[]⟩) (fun r s'=>r= .ok (.ret (.bool true))/\OldK s₁.heap s'.heap/\s'.os=s₁.os/\AllBare s'.gens) s₁:=by
  have rv:=K8 hi;have a3s:=hi.length;have aT:a≠T:=fun z=>by rw[z,hT]at ha;cases ha
  have core:∀H:Hp,H T=some (.eZ #[])->aE K H a (ns.map V.int)->dB P w H s₁.heap->(∀b,H b≠none->b=a\/b=T)->(H a=none\/∃ob xs,H a=some (.m8 ob (.lst xs)))->(H a≠none->K.lookup a=none)->codeAny (model P w) callerA (.call (.ref fa) ⟨[.ref a],[]⟩) (fun r s'=>r= .ok (.ret (.bool true))/\OldK s₁.heap s'.heap/\s'.os=s₁.os/\AllBare s'.gens) s₁:=by
    intro H Bu hS aV hA hF hK;have J9:∀{b:Addr}{o:Obj},s₁.heap.get? b=some o->H b=none->(mR s₁.heap H).get? b=some o:=fun e n=>a5n e n;have Om:∀{b:Addr}{o:Obj},s₁.heap.get? b=some o->(∀its n,o.data≠ .seq its n)->(∀its,o.data≠ .fields its)->H b=none:=fun{b o} e d1 d2=>by cases q:H b with |none=>rfl |some u=>
       rcases hA b (by rw[q];simp)with z|z
       ·subst z;rw[ha]at e;cases e;exact(d1 _ _ rfl).elim
       ·subst z;rw[hT]at e;cases e;exact(d2 _ rfl).elim
    have Ge:∀{b:Addr}{m:Str->Option Value},s₁.heap.Ns b m->(mR s₁.heap H).Ns b m:=fun{b m} ⟨o,es,ep,e,d,r⟩=>⟨o,es,ep,J9 e (Om e (fun _ _ z=>by rw[d]at z;cases z) fun _ z=>by rw[d]at z;cases z),d,r⟩;have Qg:K.In (mR s₁.heap H):=fun b o e=>J9 (KX b o e) (by cases q:H b with |none=>rfl |some u=>
       rcases hA b (by rw[q];simp)with z|z
       ·subst z;rw[hK (by rw[q];simp)]at e;cases e
       ·subst z;rw[kT]at e;cases e);have hM:Mod K mg (mR s₁.heap H):=⟨Qg,Ge vJ,⟨mb,Ge oS,hbb⟩,let⟨mc,h1,h2⟩:=a55;⟨mc,Ge h1,h2⟩⟩;have e0:nO P w K mg (mR s₁.heap H) callerA [] s₁ H:=⟨rfl,hM,fun b o e=>a28 e,Nat.le_of_eq (a5m _ _),trivial,fun b hb=>absurd (show b∈([]:List Addr)from hb) (by simp),aV,.of_eq hg⟩;have tL:(mR s₁.heap H).BuiltinsAt mg T:=by
     obtain⟨bm,ob,b1,b2,b3,b4,b5,b6⟩:=hbm;refine⟨bm,ob,b1,b2,fun z=>?_,fun z=>?_,J9 b3 (Om b3 (fun _ _ z=>by rw[b6]at z;cases z) fun _ z=>by rw[b6]at z;cases z),b4,b5,b6⟩
     · obtain⟨o,es,ep,e,d,_⟩:=vJ
       rw[z,e]at b3;cases b3;rw[b6]at d;cases d
     ·rw[z,hT]at b3;cases b3;cases b4
    refine zm ((F _ Qg tL).run callerA [] s₁ H ⟨[.ref a],[]⟩ [.ref a] [.ref a] _ _ hr e0 (a5H s₁ (.ref a)) (.cons rfl .nil) (iZ H Bu hS)) fun r s' h=>?_;cases r with |error e=>exact False.elim h |ok fl=>cases fl with |next=>exact False.elim h |brk=>exact False.elim h |cont=>exact False.elim h |ret u=>
        obtain⟨v,H',os,bare,un,PK,r',q⟩:=h;have q':v= .bl true:=q;subst q';obtain rfl:u=Value.bool true:=r';refine⟨rfl,⟨fun b o e=>?_,fun b o e=>un.there b o e (by simp)⟩,os,bare⟩;by_cases vP:b=T
        · subst vP
          rw[hT]at e;cases e;obtain⟨more,e2⟩:=un.jC b _ Bu;have e3:s'.heap.get? b=some {cls:=.none,data:=.fields (#[]++more)}:=PK b _ e2;obtain⟨c,rfl,o,W8,file,tf,flags,tg,inF,text,tt,c1,c2,c3,c4,_⟩:=RV cT KX;exact .inr (.inl ⟨⟨c,o,W8,c1,c2,c3,c4⟩,rfl,#[],more,rfl,e3⟩)
        · refine .inl ?_
          cases q:H b with |none=>exact un.keep b o e q (by intro z;exact absurd (show b∈([]:List Addr)from z) (by simp)) (by simp) |some u=>
            rcases hA b (by rw[q];simp)with z|z
            · subst z
              rcases hF with z|⟨ob,xs,z⟩
              ·rw[q]at z;cases z
              · have z2:=un.jK b ob _ z
                obtain⟨e1,_⟩:=aV b _ z;obtain⟨e2,_⟩:=PK b _ z2;rw[e]at e1;cases e1;exact e2
            ·exact(vP z).elim
  cases hk:K.lookup a with |some o=>
    have e:=KX a o hk;rw[ha]at e;cases e;refine core (fun b=>if b=T then some (.eZ #[])else none) (aY rfl) (.inr ⟨_,vs.toArray,_,hk,rfl,rfl,rfl,by rw[dX,a3s];exact hl,by simpa using rv⟩) (fun b u z=>?_) (fun b z=>?_) (.inl (aZ aT)) fun z=>absurd (aZ aT) z
    · by_cases hb:b=T
      · have z':=(aY hb).symm.trans z
        cases z';subst hb;exact hT
      · have z':=(aZ hb).symm.trans z
        cases z'
    · by_cases hb:b=T
      ·exact .inr hb
      ·exact absurd (aZ hb) z |none=>
    refine core (fun b=>if b=T then some (.eZ #[])else if b=a then some (.m8 {cls:=.type "list",data:=.seq vs.toArray} (.lst (ns.map V.int)))else none) (aY rfl) (.inl (.inr ⟨{cls:=.type "list",data:=.seq vs.toArray},(aZ aT).trans (aY rfl)⟩)) (fun b u z=>?_) (fun b z=>?_) (.inr ⟨_,_,(aZ aT).trans (aY rfl)⟩) fun _=>hk
    · by_cases hb:b=T
      · have z':=(aY hb).symm.trans z
        cases z';subst hb;exact hT
      · have z':=(aZ hb).symm.trans z
        by_cases m3:b=a
        · have z2:=(aY m3).symm.trans z'
          cases z2;subst m3;exact⟨ha,by rw[cj];exact hl,vs,_,rv,ha⟩
        · have z2:=(aZ m3).symm.trans z'
          cases z2
    · by_cases hb:b=T
      ·exact .inr hb
      · by_cases m3:b=a
        ·exact .inl m3
        ·exact absurd ((aZ hb).trans (aZ m3)) z
theorem a3y{l:OpenLaw}{q:ah}{loose:List Str}{XP:(Str->Option Value)->Heap->Prop}{YP:World->Heap->Prop}{d:DefRec}{K:Params->Frag}{k:Nat}{x:Str}{st:Stmt}{T:Addr}(hn:l.most=some 63)(tH:d.params.defaults=[]) (hr:cE k callerA)(hY:∀(w:World)(h:Heap),YP w h->(K w.params).In h/\h.get? T=some (tabObj #[]))(All:Frag->(Str->Option Value)->Prop) (F:∀(w:World)(mg:Str->Option Value)(h:Heap),(K w.params).In h->h.Ns mainGlobals mg->All (K w.params) mg)(kT:∀w:World,(K w.params).lookup T=none) (cT:∀(K:Frag)(mg:Str->Option Value),All K mg->∃cd,p5 K cd T=true) (L:∀(K:Frag)(mg:Str->Option Value),All K mg->FA K mg d.name st) (hb:∀(kV doc pm:Value)(an:Option Addr)(aJ ct u:Value),bindArgs (fnOf d.name d.name (jN st) (gs st) (aR st) .none kV doc pm an aJ ct) ⟨[u],[]⟩=pure [(x,u)]) (ok:∀(P:ah)(w:World)(K:Frag)(mg:Str->Option Value)(base:Heap)(f:Addr)(fd:FuncData),All K mg->base.BuiltinsAt mg T->jQ K d.name d.name st f fd->iR P w K mg base ja k f fd [x] (fun vs H Q _=>∃(a:Addr)(ns:List Int),vs=[.ref a]/\aE K H a (ns.map V.int)/\ns.length<=63/\H T=some (.eZ #[])/\∀H',Q (.bl true) H')): WalkO q loose XP YP l.row.toRowW d [] (fun f vs=>PySem.call f vs):=by
  refine Att.aa0 hn tH fun w s₀ s₁ mg mb fa o pm cd doc a vs ns G Y ho hd gH Hn Hh hints hlen hg=>?_;obtain⟨KX,hT⟩:=hY w _ Y;have A:=F w mg _ KX G.T.g;obtain⟨f,fd,hm,Fn⟩:=(L _ _ A).ex;have e:fa=f:=by rw[Hn]at hm;injection (dG hm)
  subst e;obtain⟨cdT,Hw⟩:=cT _ _ A;refine a3z KX G.T.g G.T.b G.T.builtins G.T.nolimit hg G.T.bmain hT (kT w) Hw Hh hints (ib hlen (by decide)) hr (fun base _ hB=>ok l.prog w _ mg base fa fd A hB Fn) (fun s u=>?_) fun H Bu hS=>⟨a,ns,rfl,hS,hlen,Bu,fun _=>rfl⟩;obtain⟨oc,od,kV,a8P,ZI,an,aJ,ct,fX,rfl,lk,abQ⟩:=Fn.ex;exact .of_eq (hb kV a8P ZI an aJ ct u)
end L2
namespace L2
open PySem PySem.Spec PyProof.Rows
section
variable {P:ah}{w:World}{K:aa}{mg:Str->Option Value}{base:Heap}{N:List Str}{qual:Str}{scope:Scope}{f:Addr}{cd:Value}{A:aj}{outer:List Env}{s:ae}{H:Hp}{E:XK}{au:List (Addr×Obj)}{Z:St}{H1:Hp}{s1:ae}{ex:Addr}{C:Addr}{dx:Addr}{φ:Heap->Prop}{cls:Value}{dxo:Option Addr}{h2:Heap}{vs:List Value}
theorem W3(I:Inv (iP (jS P w) P w K mg base N qual scope f cd A outer s H E) au Z H1 s1)(hx:Heap.MadeExcOf s1.heap h2 ex cls vs)(q:E cls none H1):(iP (jS P w) P w K mg base N qual scope f cd A outer s H E).xe (.ref ex) {s1 with heap:=h2}:=by
 obtain⟨t,e1,_⟩:=hx.there;have hf:H1 ex=none:=by cases e:H1 ex with |none=>rfl |some o=>obtain⟨ob,e2⟩:=(I.aV ex o e).there;rw[hx.new]at e2;cases e2
 have nw:s.heap.get? ex=none:=by cases e:s.heap.get? ex with |none=>rfl |some o=>obtain⟨ob,e2⟩:=I.base.there ex o e (cC);rw[hx.new]at e2;cases e2
 have I2:=I.kept (t':=s1.toks) hx.keeps;have gG:h2.FunFrames base (envOfC qual scope s.heap.objs.size f cd::outer):=I2.stack;have Bj:∀env∈(envOfC qual scope s.heap.objs.size f cd::outer),∀b,env.frame=some b->b∈ex::da (envOfC qual scope s.heap.objs.size f cd::outer):=fun env he b hb=>.tail _ (nP.mpr ⟨env,he,hb⟩);have hB:(PySem.W.hideAll h2 (ex::da (envOfC qual scope s.heap.objs.size f cd::outer))).StaysIn h2:=fun b o e=>PySem.W.of_hideAll _ e;have pX:∀b o,s.heap.get? b=some o->b∉da outer->b∉ex::da (envOfC qual scope s.heap.objs.size f cd::outer):=fun b o e hb hm=>by
  rcases bI.mp hm with rfl|hm
  ·rw[nw]at e;cases e
  obtain⟨env,he,hf⟩:=nP.mp hm;rcases bI.mp he with rfl|he
  · have e1:s.heap.objs.size=b:=dG hf
    have h1:=cw e;rw[<-e1]at h1;exact absurd h1 (pE _)
  ·exact hb (nP.mpr ⟨env,he,hf⟩)
 have F0:Fl P w outer H s.heap ex H1 (PySem.W.hideAll h2 (ex::da (envOfC qual scope s.heap.objs.size f cd::outer))) h2:=by
  refine⟨I2.base,I2.aV,fun b o e n hb=>JE _ (I2.base.keep b o e n hb (cC)) (pX b o e hb),fun b o e=>?_,fun b o e hb=>?_,fun b hb=>?_,nw,hf⟩
  · obtain⟨Ga,e1⟩:=(I2.aV b o e).there
    refine⟨Ga,JE _ e1 fun hm=>?_⟩;rcases bI.mp hm with z|hm
    ·rw[z,hf]at e;cases e
    · rw[I2.zT b hm]at e
      cases e
  · obtain⟨Ga,e1⟩:=I2.base.there b o e (cC)
    exact⟨Ga,JE _ e1 (pX b o e hb)⟩
  · obtain⟨env,he,hf⟩:=nP.mp hb
    exact I2.zT b (nP.mpr ⟨env,.tail _ he,hf⟩)
 show wpAny (model P w) (A.deeper (envOfC qual scope s.heap.objs.size f cd)) (leaving (envOfC qual scope s.heap.objs.size f cd) (.ref ex)) _ _ _;refine a3v (L:=s.heap.objs.size) I.ok.frames (PySem.W.funFrames_hide gG Bj) rfl e1 hB (PySem.W.hideAll_none _ (.head _)) rfl rfl fun h' x1 x2=>?_;exact⟨ex,cls,none,H1,_,rfl,I.os,I.bare,x1,F0.step hB x1.1 x2 gG.2.2,q⟩
end
def GI(N:List Str)(sc:Scope):Bool:=decide (sc.kind= .function)&& !sc.isCoroutine&& !sc.isGenerator&&sc.names.all (fun y=>decide (y.2≠ .cell)&&(decide (y.2≠ .free)||N.contains y.1))&&N.all fun x=>decide (sc.names.lookup x=some .free)
theorem P7{N:List Str}{sc:Scope}(h:GI N sc=true):uc N sc/\∀y∈sc.names,y.2= .free->y.1∈N:=by unfold GI at h;simp only[eV,Ct,VS,iE,Bool.or_eq_true,List.contains_iff_mem]at h;obtain⟨⟨⟨⟨h1,h2⟩,h3⟩,h4⟩,h5⟩:=h;have m:∀y∈sc.names,y.2= .free->y.1∈N:=fun y hy e=>(h4 y hy).2.elim (fun z=>(z e).elim) id;exact⟨⟨h1,h2,h3,fun y hy=>(h4 y hy).1,h5,fun x hx=>m _ (uj hx) rfl⟩,m⟩
section
variable {X:Cx} {sc:Scope}
theorem a3C(x0 x1:Str)(j0 j1:Nat)(h:GI [x0,x1] sc=true)(k0:X.env.kindOf x0=some .cell)(k1:X.env.kindOf x1=some .cell)(n0:X.N[j0]? =some x0)(n1:X.N[j1]? =some x1):SX X [x0,x1] [j0,j1] sc:=by
 obtain⟨S,m⟩:=P7 h;refine⟨S,fun y hy e=>?_,fun i y e=>?_⟩
 · rcases bI.mp (m y hy e)with z|z
   ·rw[z];exact k0
   ·rw[cm.mp z];exact k1
 ·match i,e with |0,e=>cases e;exact⟨_,rfl,n0⟩ |1,e=>cases e;exact⟨_,rfl,n1⟩
end
end L2
namespace Lw
open PySem PySem.Spec PyProof.Rows L2 Ln Rt Cn Pn Wk Rn
open Ow (topR cornO mnO betR atO ownF leadF ownL OkI OkIs)
open Ow (Itm)
def top(i:Nat):Stmt:=PySem.Challenge.pw_glidequeue_k39_entries_between_feedings.main.body.getD i (.Pass ⟨0,0,0,0⟩)
abbrev DT:Stmt:=top 71
abbrev Fc:Stmt:=top 70
abbrev F7:Stmt:=top 26
abbrev EO:Stmt:=top 15
abbrev EJ:Stmt:=top 81
abbrev EI:Stmt:=top 28
abbrev EK:Stmt:=top 25
abbrev Ez:Stmt:=top 21
abbrev DQ:Stmt:=top 22
abbrev EG:Stmt:=top 23
abbrev EH:Stmt:=top 24
abbrev EW:Stmt:=top 19
abbrev ED:Stmt:=top 77
abbrev EV:Stmt:=top 73
abbrev EL:Stmt:=top 72
abbrev EN:Stmt:=top 50
def jq:Str:="abcdefghijklmnopqrstuvwxyz"
abbrev Eu:Stmt:=top 80
abbrev DK:Stmt:=top 29
abbrev DL:Stmt:=top 16
abbrev DM:Stmt:=top 39
abbrev F3:Stmt:=top 36
abbrev EM:Stmt:=top 38
abbrev DP:Stmt:=top 37
abbrev DN:Stmt:=top 83
abbrev F9:Stmt:=top 58
abbrev A5:Stmt:=top 57
abbrev Et:Stmt:=top 20
abbrev EX:Stmt:=top 59
abbrev DU:Stmt:=top 74
abbrev EF:Stmt:=top 75
abbrev EB:Stmt:=top 76
abbrev Es:Stmt:=top 78
abbrev EE:Stmt:=top 79
abbrev Ew:Stmt:=top 32
abbrev DW:Stmt:=top 30
abbrev E5:Stmt:=top 31
abbrev EZ:Stmt:=top 62
abbrev DS:Stmt:=top 61
abbrev EY:Stmt:=top 63
abbrev E7:Stmt:=top 68
abbrev ET:Stmt:=top 55
abbrev ER:Stmt:=top 54
abbrev Fd:Stmt:=top 53
abbrev EU:Stmt:=top 49
abbrev ES:Stmt:=top 41
abbrev Ey:Stmt:=top 52
abbrev Fb:Stmt:=top 51
structure gu(K:aa)(C:Addr):Prop where
 cl:jR K C
 pY:j9 K C "machine"
 vm:j9 K C "begun_at"
 oA:j9 K C "done"
 kg:j9 K C "queue"
 sL:j9 K C "pace"
 Ay:j9 K C "rate_now"
 Gm:j9 K C "side"
 Gn:j9 K C "mark"
 Ax:j9 K C "stopping"
abbrev Ea:Stmt:=inClass (top 67) 3
abbrev Ee:Stmt:=inClass (top 67) 4
abbrev E9:Stmt:=inClass (top 67) 5
abbrev Eh:Stmt:=inClass (top 67) 6
abbrev E8:Stmt:=inClass (top 67) 7
abbrev El:Stmt:=inClass (top 67) 8
abbrev Ed:Stmt:=inClass (top 67) 9
abbrev Ek:Stmt:=inClass (top 67) 10
abbrev Ef:Stmt:=inClass (top 67) 1
abbrev Ei:Stmt:=inClass (top 67) 2
abbrev Ej:Stmt:=inClass (top 67) 0
abbrev Em:Stmt:=inClass (top 67) 11
abbrev Ep:Stmt:=inClass (top 67) 16
abbrev Eg:Stmt:=inClass (top 67) 15
abbrev Ec:Stmt:=inClass (top 67) 14
abbrev En:Stmt:=inClass (top 67) 13
abbrev Eo:Stmt:=inClass (top 67) 12
abbrev Eb:Stmt:=inClass (top 67) 17
abbrev F8:Stmt:=top 84
abbrev DR:Stmt:=top 85
abbrev DV:Stmt:=top 82
abbrev DZ:Stmt:=top 92
abbrev DX:Stmt:=top 87
abbrev E3:Stmt:=top 88
abbrev E2:Stmt:=top 89
abbrev E1:Stmt:=top 90
abbrev E4:Stmt:=top 91
abbrev A7:Stmt:=top 86
abbrev DY:Stmt:=top 93
structure kW where
 n:Addr
 o:Addr
 f:Addr
 m:Addr
 r:Addr
structure KC(K:aa)(R:kW)(cG:Addr)(cs:List Addr)(C:Addr)(b0 b1 b2 b3 b4:Bool):Prop where
 tk:takes K C cG
 k:nM K C
 i0:PySem.W.kitOne K (.ref C) (.ref R.n)=some b0
 i1:PySem.W.kitOne K (.ref C) (.ref R.o)=some b1
 i2:PySem.W.kitOne K (.ref C) (.ref R.f)=some b2
 i3:PySem.W.kitOne K (.ref C) (.ref R.m)=some b3
 i4:PySem.W.kitOne K (.ref C) (.ref R.r)=some b4
 any:PySem.W.kitAny K (.ref C) (cs.map Value.ref)=some false
 ve:PySem.W.kitOne K (.ref C) (.type "ValueError")=some true
structure Cc(K:aa)(mg:Str->Option Value)(R:kW)(cG c0 c1 c2 c3 c4 c5:Addr):Prop where
 g:Exc K mg "GlideError" cG wu xO
 h0:GV mg "NoFraction" (.ref c0)
 h1:GV mg "NoLine" (.ref c1)
 h2:GV mg "NoMachine" (.ref c2)
 h3:GV mg "NoPlace" (.ref c3)
 h4:GV mg "NoTape" (.ref c4)
 h5:GV mg "NoText" (.ref c5)
 gn:GV mg "NoItem" (.ref R.n)
 go:GV mg "OffRails" (.ref R.o)
 gm:GV mg "Moving" (.ref R.m)
 gr:GV mg "NoRate" (.ref R.r)
 v:mg "ValueError"=none
 xf:Exc K mg "Full" R.f wu xO
 f:KC K R cG [c0,c1,c2,c3,c4,c5] R.f false false true false false
abbrev E6:Stmt:=top 94
abbrev F1:Stmt:=top 95
def Dv(K:aa)(T:Addr):Sp:=fun vs H Q _=>∃(a:Addr)(ns:List Int),vs=[.ref a]/\aE K H a (ns.map V.int)/\ns.length<=63/\H T=some (.eZ #[])/\∀H',Q (.bl true) H'
abbrev uM:Stmt:=top 96
structure SN(K:aa)(mg:Str->Option Value)(C:Addr):Prop where
 tc:gu K C
 init:CA K mg C "Runner" "Runner.__init__" Ej
 a2Z:MA K C "place" "Runner.place" Ef
 a31:MA K C "leads_to" "Runner.leads_to" Ei
 a2X:MA K C "square" "Runner.square" Ea
 a2Y:MA K C "rate" "Runner.rate" Ee
 a2T:MA K C "tool" "Runner.tool" E9
 a32:MA K C "last_mark" "Runner.last_mark" Eh
 a2S:MA K C "waiting" "Runner.waiting" E8
 a33:MA K C "is_held" "Runner.is_held" El
 a2W:MA K C "stands" "Runner.stands" Ed
 a34:MA K C "is_halted" "Runner.is_halted" Ek
 a35:MA K C "feed" "Runner.feed" Em
 a37:MA K C "entries" "Runner.entries" Eo
 a36:MA K C "entries_of_first" "Runner.entries_of_first" En
 a2V:MA K C "steps_of_first" "Runner.steps_of_first" Ec
 a30:MA K C "next_square" "Runner.next_square" Eg
 a38:MA K C "end_first" "Runner.end_first" Ep
 a2U:MA K C "stops_in" "Runner.stops_in" Eb
structure All(T:Addr)(K:aa)(mg:Str->Option Value):Prop where
 B:bL mg
 yD:GT K mg "NOUGHT" [.int 0,.int 1]
 a6V:GT K mg "SIDES" [.str "up",.str "down"]
 a71:GV mg "LEAST_RATE" (.int 10)
 a73:GV mg "GREATEST_RATE" (.int 200)
 a74:GV mg "FIRST_RATE" (.int 100)
 a6W:GV mg "MOST_WAITING" (.int 20)
 a6X:GV mg "MOST_STEPS" (.int 100)
 a72:GV mg "GREATEST_SPEED" (.int 20)
 a6Y:GV mg "LONGEST_WAIT" (.int 1000)
 a6Z:GV mg "LONGEST_NAME" (.int 8)
 a70:GV mg "LETTERS" (.str jq)
 a7I:FA K mg "is_whole" EO
 a7H:FA K mg "is_whole_within" DL
 a7R:FA K mg "fraction" EW
 a7x:FA K mg "plus_whole" Et
 a7C:FA K mg "minus" Ez
 a7r:FA K mg "times" DQ
 a7O:FA K mg "is_less" EG
 a7E:FA K mg "least" EH
 a7D:FA K mg "lowest_terms" EK
 a7T:FA K mg "common_divisor" F7
 a7F:FA K mg "lead_of" EI
 a7p:FA K mg "ways_of" DK
 a7v:FA K mg "stand_at" DW
 a7t:FA K mg "step_rows" E5
 a7A:FA K mg "nearest" Ew
 a7S:FA K mg "corner_square" F3
 a7q:FA K mg "top_square" DP
 a7K:FA K mg "is_rate" EM
 a7Q:FA K mg "greatest_turn" DM
 a7L:FA K mg "is_place" ES
 a7P:FA K mg "is_item" EU
 a7N:FA K mg "is_line" EN
 a7z:FA K mg "place_behind" Fb
 a7B:FA K mg "moved" Ey
 a7V:FA K mg "are_steps" Fd
 a7J:FA K mg "is_short_item" ER
 a7M:FA K mg "is_name" ET
 QF:FA K mg "own_bounds" A5
 a7U:FA K mg "bound_between" F9
 a7G:FA K mg "kept_by_fall" EX
 a7s:FA K mg "ticks_of" DS
 a7W:FA K mg "are_enough" EZ
 a7u:FA K mg "step_entry" EY
 a7w:FA K mg "reach_behind_first" E7
 a8k:FA K mg "_law_bag" Fc
 a7Z:FA K mg "_law_take" DT
 a8c:FA K mg "_law_number" EL
 a8i:FA K mg "_law_frac" EV
 a80:FA K mg "_law_sum" DU
 a8g:FA K mg "_law_less" EF
 a8d:FA K mg "_law_min" EB
 a8e:FA K mg "_law_machine" ED
 a8a:FA K mg "_law_place" Es
 a8f:FA K mg "_law_line" EE
 a8b:FA K mg "_law_other" Eu
 a8h:FA K mg "_law_lead" EJ
 a81:FA K mg "_law_stand" DV
 a7X:FA K mg "_law_top" DN
 a8j:FA K mg "_law_bounds" F8
 a7Y:FA K mg "_law_ticks" DR
 yG:FA K mg "_law_alike" A7
 a86:FA K mg "_law_sim" DX
 a84:FA K mg "_law_sim_feed" E3
 a89:FA K mg "_law_reach" E2
 a83:FA K mg "_law_sim_step" E1
 a85:FA K mg "_law_sim_entries" E4
 a82:FA K mg "_law_sim_stops" DZ
 a87:FA K mg "_law_seen" DY
 a88:FA K mg "_law_refused" E6
 QG:zd K mg "_law_deed" F1 T
 law:FA K mg "law" uM
 rc:∃C,SN K mg C
 rf:∃R cG c0 c1 c2 c3 c4 c5,Cc K mg R cG c0 c1 c2 c3 c4 c5
def yU(K:aa)(P:ah):Prop:=∀(T:Addr)(w:World)(mg:Str->Option Value)(base:Heap)(f:Addr)(fd:FuncData),All T K mg->base.BuiltinsAt mg T->jQ K "law" "law" uM f fd->iR P w K mg base ja 14 f fd ["_law_script"] (Dv K T)
@[irreducible] noncomputable def KP:aa×ah:=Classical.epsilon fun x=>¬yU x.1 x.2
@[irreducible] noncomputable def K:aa:=KP.1
@[irreducible] noncomputable def P:ah:=KP.2
theorem WJ(h:yU K P)(K':aa)(P':ah):yU K' P':=Classical.byContradiction fun n=>by have e:=Classical.epsilon_spec (p:=fun x:aa×ah=>¬yU x.1 x.2) ⟨(K',P'),n⟩;unfold K P KP at h;exact e h
end Lw
namespace Lw
open PySem PySem.Spec PyProof.Rows L2
section
variable {w:World}{mg:Str->Option Value}{base:Heap}
inductive Tx(vs:List V)(H:Hp)(Q:VK):Prop |mk (p:_)(many:_)(h0:vs=[.ref p,.int many])(h1:gh H p)(h2:1<=many)(h3:many<=10^40)(h4:∀d H',0<=d->d<many->bS p H H'->Q (.int d) H'):Tx vs H Q
def pL:Sp:=fun vs H Q _=>Tx vs H Q
theorem LY:bh ["_law_bag_here","_law_many","_law_digit","_law_number_here","_law_room"] ["_law_bag_here","_law_many"] (aR DT):=bG (by decide+kernel)
theorem a0N(F:FA K mg "_law_take" DT)(B:bL mg):aD P w K mg base "_law_take" 1 pL:=by
 refine F.has LY (fun vs H Q E h=>?_) (fun _ _ _ _ _ _=>du fun _ _=>rfl) (fun f aJ A outer s H vs Q E hr h=>?_)
 · obtain⟨p,many,rfl,_⟩:=h
   rfl
 · obtain⟨p,many,rfl,⟨c,m,hp,ok⟩,h1,h2,k⟩:=h
   obtain⟨c0,m0,m1⟩:=id ok;have nd:=LY.nd;refine⟨_,(aA (bJ (bW rZ (px K (pv 0) az) az (bo _)) (aA (pS 2 nd (aG ow (px K (pv 0) az) (pv 1))) (aA (fO (aG lS (px K (pv 0) az) (pv 1)) (rY (pv 0) az set_list)) (aH (aQ (pv 2))))) bM) (aA (pS 3 nd az) (aA (pS 4 nd az) (aA (mH gL (bW jF (pv 4) (pv 1) (bo _)) (aA (fO (aG ow (aG uX (aG cJ (aG bu (px K (pv 0) az) az) az) az) az) (rY (pv 0) az set_list)) (aA (pS 3 nd (aG cJ (aG bu (pv 3) az) (aG ow (aG bu (aG lS (px K (pv 0) az) az) az) az))) (aH (pS 4 nd (aG bu (pv 4) az)))))) (aH (aQ (aG ow (pv 3) (pv 1)))))))),?_⟩;refine⟨_,rfl,.inl ⟨p,_,0,.int c,rfl,rfl,aE.of hp,rfl,_,_,rfl,rfl,_,rfl,?_⟩⟩;refine dR (fun hc=>?_) (fun _=>?_)
   · refine⟨_,rfl,.inl ⟨p,_,0,.int c,rfl,rfl,aE.of hp,rfl,_,rfl,_,_,rfl,rfl,h1,?_⟩⟩
     refine⟨_,rfl,.inl ⟨p,_,0,.int c,rfl,rfl,aE.of hp,rfl,_,rfl,_,_,rfl,rfl,⟨h1,K5 (by lia) h2⟩,?_⟩⟩;refine⟨_,rfl,p,_,0,0,rfl,rfl,hp,rfl,?_⟩;refine⟨_,rfl,?_⟩;exact k _ _ (pH _ (by lia)) (uw _ (by lia)) (bS.upd ⟨Int.ediv_nonneg c0 (by lia),m0,m1⟩)
   · refine mm (fun Z H2=>∃(v:Option V)(n r:Int),Z=[some (.ref p),some (.int many),v,some (.int n),some (.int r)]/\bS p H H2/\1<=r) (fun Z _=>match Z with|[_,_,_,_,some (.int r)]=>(many-r).toNat|_=>0) ?_ ?_ ?_
     ·exact⟨none,0,1,rfl,.refl ⟨c,m,hp,ok⟩,gz _⟩
     · rintro Z H2 ⟨v,n,r,rfl,bx,B7⟩
       obtain⟨c',m',vG,c0',m0',m1'⟩:=id bx.bK;refine⟨_,rfl,_,rfl,_,_,rfl,rfl,_,rfl,?_⟩;refine dR (fun hc=>?_) (fun hc=>?_)
       · have cy:r<many:=jx hc
         refine⟨_,rfl,.inl ⟨p,_,1,.int m',rfl,rfl,aE.of vG,rfl,_,_,rfl,rfl,.of_right (bV (by decide) (by decide)),_,_,rfl,rfl,_,_,rfl,rfl,⟨by decide,by decide,?_⟩,_,_,rfl,rfl,(by show(0:Int)<2147483629;decide),?_⟩⟩
         · have kQ:(2:Nat)^64=18446744073709551616:=by decide
           rw[kQ];lia
         refine⟨_,rfl,p,_,1,1,rfl,rfl,vG,rfl,?_⟩;have g0:0<=((m'*48271+7919)^(5:Int).toNat)%2147483629:=pH _ (by decide);have g1:((m'*48271+7919)^(5:Int).toNat)%2147483629<2147483629:=uw _ (by decide);have bx2:bS p H (L2.upd H2 p (.lst [.int c',.int (((m'*48271+7919)^(5:Int).toNat)%2147483629)])):=bx.trans (.upd ⟨c0',g0,Int.lt_trans g1 (by decide)⟩);refine⟨_,rfl,_,_,rfl,rfl,.of_right (bV (by decide) (by decide)),_,rfl,.inl ⟨p,_,1,.int _,rfl,rfl,aE.of ba,rfl,_,_,rfl,rfl,⟨by decide,K5 (by decide) (by decide)⟩,_,_,rfl,rfl,.of_right (bV (by decide) (by decide)),_,_,rfl,rfl,(by show(0:Int)<1073741789;decide),_,_,rfl,rfl,?_⟩⟩;refine⟨_,rfl,_,_,rfl,rfl,.of_right (bV (by decide) (by decide)),?_⟩;refine⟨⟨v,_,_,rfl,bx2,?_⟩,?_⟩
         ·lia
         · show(many-r*1073741789).toNat<(many-r).toNat
           lia
       · refine⟨_,rfl,_,rfl,_,_,rfl,rfl,h1,?_⟩
         exact k _ _ (pH _ (by lia)) (uw _ (by lia)) bx
     · rintro Z H2 Q1 Q2 hq ⟨v1,e1,v2,e2,i,j,e3,e4,kk,e5,q⟩
       exact⟨v1,e1,v2,e2,i,j,e3,e4,kk,e5,hq _ _ q⟩
inductive UE(K:aa)(vs:List V)(H:Hp)(Q:VK):Prop |mk (a:Addr)(ns:List Int)(at':Int)(h0:vs=[.ref a,.int at'])(h1:aE K H a (ns.map V.int))(h2:ns.length<=63)(h3:0<=at')(h4:at'<=100)(h5:∀p H',H p=none->gh H' p->aB H H'->Q (.ref p) H'):UE K vs H Q
def LF(K:aa):Sp:=fun vs H Q _=>UE K vs H Q
theorem MZ:bh ["_law_script","_law_at","_law_cell","_law_mix","_law_k"] ["_law_script","_law_at"] (aR Fc):=bG (by decide+kernel)
theorem Pp{ns:List Int}{j:Nat}(h:j<ns.length):∃z,fA (ns.map V.int) (j:Int)=some (.int z):=⟨ns[j],aa3 (by simp[h])⟩
theorem a22(F:FA K mg "_law_bag" Fc)(B:bL mg):aD P w K mg base "_law_bag" 1 (LF K):=by
 refine F.has MZ (fun vs H Q E h=>?_) (fun _ _ _ _ _ _=>du fun _ _=>rfl) (fun f aJ A outer s H vs Q E hr h=>?_)
 · obtain⟨a,ns,at',rfl,_⟩:=h
   rfl
 · obtain⟨a,ns,at',rfl,hS,hlen,h0,h1,k⟩:=h
   obtain⟨j,rfl⟩:∃j:Nat,at'=(j:Int):=⟨at'.toNat,by lia⟩;have nd:=MZ.nd;refine⟨_,(aA (pS 2 nd az) (aA (gU (bJ (bW jF (pv 1) (dQ K B (O (pv 0) aw)) (bo _)) (aH (pS 2 nd (cZ (x:="abs") nv rfl (B.at "abs") pC (O (px K (pv 0) (pv 1)) aw)))) bM)) (aA (pS 3 nd (aG cJ (aG cJ (aG bu (aG bu az (pv 1)) (pv 1)) (aG bu az (pv 1))) az)) (aA (lF gL rfl (xE rfl (B.at "range") (O (cZ (x:="min") (J2 rfl) rfl (B.at "min") VD (O (dQ K B (O (pv 0) aw)) (O az aw))) aw)) (bf 4 nd) (aH (pS 3 nd (aG ow (aG uX (aG cJ (aG cJ (aG bu (pv 3) az) (aG ow (px K (pv 0) (pv 4)) az)) (aG bu (pv 4) (pv 4))) az) az)))) (aA (gU (bJ (bW jF (pv 2) (aG uX az az) (bo _)) (aH (pS 2 nd az)) bM)) (aH (aQ (df (O (pv 2) (O (pv 3) aw)))))))))),?_⟩;refine⟨fun Z H'=>H'=H/\∃c:Int,Z=[some (.ref a),some (.int (j:Int)),some (.int c),none,none]/\0<=c,?_,?_⟩
   · refine⟨_,rfl,_,rfl,a,_,rfl,.inl hS,_,_,rfl,rfl,_,rfl,?_⟩
     refine dR (fun hc=>?_) (fun _=>?_)
     · have hj:(j:Int)<((ns.map V.int).length:Int):=jx hc
       rw[cj]at hj;obtain⟨z,hz⟩:=Pp (ns:=ns) (j:=j) (by lia);refine⟨_,rfl,_,rfl,.inl ⟨a,_,_,_,rfl,rfl,hS,hz,z,rfl,?_⟩⟩;exact⟨rfl,_,rfl,by split<;>lia⟩
     ·exact⟨rfl,0,rfl,gz _⟩
   rintro Z H' ⟨rfl,c,rfl,c0⟩;refine⟨_,rfl,_,_,rfl,rfl,.of_left (bV (by decide) (by decide)),_,rfl,_,_,rfl,rfl,.of_right (bV (by lia) (by lia)),_,rfl,_,_,rfl,rfl,.of_left (bV (by decide) (by decide)),_,_,rfl,rfl,_,_,rfl,rfl,?_⟩;refine⟨_,rfl,a,_,rfl,.inl hS,_,_,rfl,_,rfl,?_,?_,?_⟩
   ·split<;>lia
   ·split<;>(try rw[cj])<;>lia
   refine BD (Pv:=fun i Z H2=>H2=H'/\∃(m:Int)(v:Option V),Z=[some (.ref a),some (.int (j:Int)),some (.int c),some (.int m),v]/\0<=m/\m<2147483648) ?_ ?_ ?_
   · refine⟨rfl,_,none,rfl,?_,?_⟩
     · have:(0:Int)<=(j:Int)*(j:Int):=jz (by lia) (by lia)
       rw[uv];lia
     · have:(j:Int)*(j:Int)<=100*100:=CJ (by lia) (by lia) (by lia) (by lia)
       rw[uv];lia
   · rintro i Z H2 hi ⟨rfl,m,v,rfl,m0,m1⟩
     have Hr:i<ns.length:=by rw[cj]at hi;split at hi<;>lia
     obtain⟨z,hz⟩:=Pp (ns:=ns) (j:=i) Hr;rw[<-Int.zero_add (i:Int)]at hz;have hz0:0<=z%2147483647:=pH _ (by decide);have hz1:z%2147483647<2147483647:=uw _ (by decide);have a5k:(0:Int)<=(0+(i:Int))*(0+(i:Int)):=jz (by lia) (by lia);have hii:(0+(i:Int))*(0+(i:Int))<=100*100:=CJ (by lia) (by lia) (by lia) (by lia);refine⟨_,rfl,_,_,rfl,rfl,.of_right (bV (by decide) (by decide)),_,rfl,_,rfl,.inl ⟨a,_,_,_,rfl,rfl,hS,hz,_,_,rfl,rfl,(by show(0:Int)<2147483647;decide),_,_,rfl,rfl,_,rfl,_,rfl,_,_,rfl,rfl,.of_right (bV (by lia) (by lia)),_,_,rfl,rfl,_,_,rfl,rfl,⟨by decide,by decide,?_⟩,_,_,rfl,rfl,(by show(0:Int)<2147483629;decide),?_⟩⟩
     · have kQ:(2:Nat)^64=18446744073709551616:=by decide
       rw[kQ];generalize(0+(i:Int))*(0+(i:Int))=ii at a5k hii⊢;generalize z%2147483647=zz at hz0 hz1⊢
       lia
     ·exact⟨rfl,_,_,rfl,pH _ (by decide),Int.lt_trans (uw _ (by decide)) (by decide)⟩
   · rintro Z H2 ⟨rfl,m,v,rfl,m0,m1⟩
     refine⟨fun Z H3=>H3=H2/\∃c:Int,Z=[some (.ref a),some (.int (j:Int)),some (.int c),some (.int m),v]/\0<=c,?_,?_⟩
     · refine⟨_,rfl,_,_,rfl,rfl,⟨by decide,by decide,by decide⟩,_,_,rfl,rfl,_,rfl,?_⟩
       refine dR (fun hc=>?_) (fun _=>?_)
       ·exact⟨rfl,0,rfl,gz _⟩
       ·exact⟨rfl,c,rfl,c0⟩
     rintro Z H3 ⟨rfl,c,rfl,c0⟩;refine⟨_,rfl,_,rfl,(by show 2<=sizeLine;decide),fun p H4 nw=>?_⟩;exact k p H4 nw.no ⟨c,m,nw.at',c0,m0,m1⟩ nw.same
inductive Uy(vs:List V)(H:Hp)(Q:VK):Prop |mk (a:Int)(b:Int)(h0:vs=[.int a,.int b])(h1:Q (.int (Int.gcd a b)) H):Uy vs H Q
def Dz:Sp:=fun vs H Q _=>Uy vs H Q
inductive Uk(vs:List V)(H:Hp)(Q:VK):Prop |mk (a:Int)(b:Int)(h0:vs=[.int a,.int b])(h1:b≠0)(h2:Wd b)(h3:∀t H',Nw H H' t (.tup [.int (Ar.lowP a b),.int (Ar.gB a b)])->Q (.ref t) H'):Uk vs H Q
def uG:Sp:=fun vs H Q _=>Uk vs H Q
def vz(T:String):Bool:=iH T "int"&& !iH T "bool"
inductive Ur(K:aa)(vs:List V)(H:Hp)(Q:VK):Prop |mk (v:_)(T:_)(h0:vs=[v])(h1:u7 K H v T)(h2:Q (.bl (vz T)) H):Ur K vs H Q
def uI(K:aa):Sp:=fun vs H Q _=>Ur K vs H Q
theorem MV:bh ["p","q","high","low"] ["p","q"] (aR F7):=bG (by decide+kernel)
theorem a1Y(F:FA K mg "common_divisor" F7)(B:bL mg):aD P w K mg base "common_divisor" 1 Dz:=by
 refine F.has MV (fun vs H Q E h=>?_) (fun _ _ _ _ _ _=>du fun _ _=>rfl) (fun f aJ A outer s H vs Q E hr h=>?_)
 · obtain⟨a,b,rfl,_⟩:=h
   rfl
 · obtain⟨a,b,rfl,k⟩:=h
   have nd:=MV.nd;refine⟨_,(aA (om (i:=2) (j:=3) rfl nd rfl rfl (by decide) rfl rfl (O (cZ (x:="abs") nv rfl (B.at "abs") pC (O (pv 0) aw)) (O (cZ (x:="abs") nv rfl (B.at "abs") pC (O (pv 1) aw)) aw)) rfl) (aA (mH gL (bW (jh K rfl hr.units) (pv 3) az (bo _)) (aH (om (i:=2) (j:=3) rfl nd rfl rfl (by decide) rfl rfl (O (pv 3) (O (aG ow (pv 2) (pv 3)) aw)) rfl))) (aH (aQ (pv 2))))),?_⟩;refine⟨_,rfl,_,rfl,_,rfl,_,rfl,_,_,rfl,?_⟩;refine mm (fun Z H2=>H2=H/\∃(x y:Int),Z=[some (.int a),some (.int b),some (.int x),some (.int y)]/\0<=x/\0<=y/\Int.gcd x y=Int.gcd a b) (fun Z _=>match Z with|[_,_,_,some (.int y)]=>y.natAbs|_=>0) ?_ ?_ ?_
   · refine⟨rfl,_,_,rfl,by split<;>lia,by split<;>lia,?_⟩
     have h1:(if a<0 then-a else a).natAbs=a.natAbs:=by split<;>lia
     have h2:(if b<0 then-b else b).natAbs=b.natAbs:=by split<;>lia
     unfold Int.gcd;rw[h1,h2]
   · rintro Z H2 ⟨rfl,x,y,rfl,x0,y0,e⟩
     refine⟨_,rfl,.inl ⟨_,_,rfl,rfl,_,rfl,?_⟩⟩;refine dR (fun hc=>?_) (fun hc=>?_)
     · have hy:y≠0:=by simpa using hc
       have jH:0<y:=by lia
       refine⟨_,rfl,_,rfl,_,rfl,_,_,rfl,rfl,jH,_,_,rfl,?_⟩;refine⟨⟨rfl,_,_,rfl,y0,pH _ hy,(Ar.Qs jH).trans e⟩,?_⟩;show(x%y).natAbs<y.natAbs;have:=pH x hy;have:=uw x jH
       lia
     · have hy:y=0:=by simpa using hc
       subst hy;refine⟨_,rfl,?_⟩;rw[Int.gcd_zero_right]at e;have e2:x=((Int.gcd a b:Nat):Int):=by lia
       rw[e2];exact k
   · rintro Z H2 Q1 Q2 hq ⟨v1,e1,h⟩
     refine⟨v1,e1,?_⟩;rcases h with⟨i,j,e3,e4,kk,e5,q⟩|⟨d,e,r1,r2,s1,s2,kk,e5,q⟩
     ·exact .inl ⟨i,j,e3,e4,kk,e5,hq _ _ q⟩
     ·exact .inr ⟨d,e,r1,r2,s1,s2,kk,e5,hq _ _ q⟩
theorem MJ:bh ["thing"] ["thing"] (aR EO):=bG (by decide+kernel)
theorem a1K(F:FA K mg "is_whole" EO)(B:bL mg):aD P w K mg base "is_whole" 1 (uI K):=by
 refine F.has MJ (fun vs H Q E h=>?_) (fun _ _ _ _ _ _=>fg fun _=>rfl) (fun f aJ A outer s H vs Q E hr h=>?_)
 · obtain⟨v,T,rfl,_⟩:=h
   rfl
 · obtain⟨v,T,rfl,ty,k⟩:=h
   have nd:=MJ.nd;refine⟨_,(aH (aQ (ir (dw K B (O (pv 0) (O (cR (x:="int") (v:=.ty "int") rfl (B.at "int") JH rfl) aw))) (iJ (NO (dw K B (O (pv 0) (O (cR (x:="bool") (v:=.ty "bool") rfl (B.at "bool") VE rfl) aw)))))))),?_⟩;refine⟨_,rfl,.inl ⟨_,T,"int",_,rfl,ty,by decide,rfl,_,rfl,?_⟩⟩;unfold vz at k;refine dR (fun hc=>?_) (fun hc=>?_)
   · refine⟨_,rfl,.inl ⟨_,T,"bool",_,rfl,ty,by decide,rfl,_,rfl,?_⟩⟩
     rw[hc,jV]at k;exact k
   · rw[wN.mpr hc,ku]at k
     exact k
open Ln
def iu(ns:List Int)(sp:Int):ai:=.tuple [.str "line",.tuple (ns.map PyData.int),.int sp]
theorem AM(ns:List Int)(sp:Int):fe (iu ns sp)=true:=by simp[iu,fe,cK,kF]
structure eu(ax:Nat)(m:Int)(ns:List Int):Prop where
 len:ns.length=ax
 bd:∀z∈ns,(z.natAbs:Int)<=m
 nz:∃z∈ns,z≠0
theorem eu.lead{ax:Nat}{m:Int}{ns:List Int}(h:eu ax m ns):0<aF ns/\(aF ns:Int)<=m:=by
 refine⟨a3x h.nz,?_⟩;have hm:0<=m:=by obtain⟨z,hz,_⟩:=h.nz;have:=h.bd z hz;lia
 have:=mO (ns:=ns) (m:=m.toNat) fun z hz=>by have:=h.bd z hz;lia
 lia
theorem eu.ne{ax:Nat}{m:Int}{ns:List Int}(h:eu ax m ns):ns≠[]:=by obtain⟨z,hz,_⟩:=h.nz;intro e;subst e;cases hz
theorem lI{H:Hp}{v:V}{ns:List Int}{sp:Int}(h:RD K H v (iu ns sp)):∃a b,v= .ref a/\aP K H a [.str "line",.ref b,.int sp]/\aP K H b (ns.map V.int):=by obtain⟨a,xs,rfl,h1,h2⟩:=h.dZ;obtain⟨x1,r1,rfl,e1,h2⟩:=h2.cons_inv;obtain⟨x2,r2,rfl,e2,h2⟩:=h2.cons_inv;obtain⟨x3,r3,rfl,e3,h2⟩:=h2.cons_inv;cases h2.nil_inv;cases e1.str_inv;cases e3.int_inv;obtain⟨b,ys,rfl,h3,h4⟩:=e2.dZ;rw[h4.iM]at h3;exact⟨a,b,rfl,h1,h3⟩
inductive Up(K:aa)(vs:List V)(H:Hp)(Q:VK):Prop |mk (v:_)(ns:_)(sp:_)(h0:vs=[v])(h1:RD K H v (iu ns sp))(h2:ns≠[])(h3:ns.length<=1000)(h4:∀H',aB H H'->Q (.int (aF ns)) H'):Up K vs H Q
def lg(K:aa):Sp:=fun vs H Q _=>Up K vs H Q
theorem lU{ns:List Int}{f:Int->ai}{i:Nat}{d:ai}(h:(ns.map f)[i]? =some d):∃n,ns[i]? =some n/\f n=d:=by rw[cu]at h;cases e:ns[i]? with |none=>rw[e]at h;cases h |some n=>rw[e]at h;exact⟨n,rfl,dG h⟩
theorem y8{ns:List Int}{i:Nat}{x:V}{n:Int}(h:(ns.map V.int)[i]? =some x)(e:ns[i]? =some n):x= .int n:=by rw[cu,e]at h;exact(dG h).symm
theorem MD:bh ["_law_line_here"] ["_law_line_here"] (aR EJ):=bG (by decide+kernel)
theorem a1I(F:FA K mg "_law_lead" EJ)(B:bL mg):aD P w K mg base "_law_lead" 1 (lg K):=by
 refine F.has MD (fun vs H Q E h=>?_) (fun _ _ _ _ _ _=>fg fun _=>rfl) (fun f aJ A outer s H vs Q E hr h=>?_)
 · obtain⟨v,ns,sp,rfl,_⟩:=h
   rfl
 · obtain⟨v,ns,sp,rfl,rd,dy,hz,k⟩:=h
   have nd:=MD.nd;obtain⟨a,b,rfl,ha,hb⟩:=lI rd;refine⟨_,(aH (aQ (cZ (x:="max") (Gu K rfl rfl) rfl (B.at "max") Cw (O (fW (N:=["_law_step"]) (js:=[none]) rfl rfl rfl (pT K rfl (px K (pv 0) az)) (fun _ _ _ _ _=>(bf 0 (sJ _))) (fun _ _ _ _ _=>fw) (fun _ _ _ _ _=>(cZ (x:="abs") nv rfl (B.at "abs") pC (O (pv 0) aw)))) aw)))),?_⟩;refine⟨_,rfl,.inr ⟨a,_,1,.ref b,rfl,rfl,ha,rfl,b,rfl,⟨_,hb⟩,fun D H0 nw=>?_⟩⟩;refine BS (K:=K) (xs:=ns.map V.int) (ds:=(ns.map iA).map PyData.int) [] hb nw (by simp) (by simpa using hz) (kF _) ?_ ?_
   · intro i x d H2 Q' ex ed s2 hq
     obtain⟨m,em,rfl⟩:=lU ed;rw[cu]at em;cases en:ns[i]? with |none=>rw[en]at em;cases em |some n=>rw[en]at em;cases em;cases y8 ex en;exact⟨_,rfl,n,rfl,hq _ _ (aB.refl _) (dN _)⟩
   · intro H' ys s2 d2 r2
     rw[r2.iM]at d2;refine⟨D,_,rfl,aE.of d2,by simpa using dy,fun M h1 h2=>?_⟩;rw[GD dy h1 h2];exact k H' s2
theorem MC:bh ["line"] ["line"] (aR EI):=bG (by decide+kernel)
theorem a1H(F:FA K mg "lead_of" EI)(B:bL mg):aD P w K mg base "lead_of" 1 (lg K):=by
 refine F.has MC (fun vs H Q E h=>?_) (fun _ _ _ _ _ _=>fg fun _=>rfl) (fun f aJ A outer s H vs Q E hr h=>?_)
 · obtain⟨v,ns,sp,rfl,_⟩:=h
   rfl
 · obtain⟨v,ns,sp,rfl,rd,dy,hz,k⟩:=h
   have nd:=MC.nd;obtain⟨a,b,rfl,ha,hb⟩:=lI rd;refine⟨_,(aH (aQ (cZ (x:="max") (Gu K rfl rfl) rfl (B.at "max") Cw (O (fW (N:=["step"]) (js:=[none]) rfl rfl rfl (pT K rfl (px K (pv 0) az)) (fun _ _ _ _ _=>(bf 0 (sJ _))) (fun _ _ _ _ _=>fw) (fun _ _ _ _ _=>(cZ (x:="abs") nv rfl (B.at "abs") pC (O (pv 0) aw)))) aw)))),?_⟩;refine⟨_,rfl,.inr ⟨a,_,1,.ref b,rfl,rfl,ha,rfl,b,rfl,⟨_,hb⟩,fun D H0 nw=>?_⟩⟩;refine BS (K:=K) (xs:=ns.map V.int) (ds:=(ns.map iA).map PyData.int) [] hb nw (by simp) (by simpa using hz) (kF _) ?_ ?_
   · intro i x d H2 Q' ex ed s2 hq
     obtain⟨m,em,rfl⟩:=lU ed;rw[cu]at em;cases en:ns[i]? with |none=>rw[en]at em;cases em |some n=>rw[en]at em;cases em;cases y8 ex en;exact⟨_,rfl,n,rfl,hq _ _ (aB.refl _) (dN _)⟩
   · intro H' ys s2 d2 r2
     rw[r2.iM]at d2;refine⟨D,_,rfl,aE.of d2,by simpa using dy,fun M h1 h2=>?_⟩;rw[GD dy h1 h2];exact k H' s2
open Rt
theorem MF:bh ["p","q","divisor"] ["p","q"] (aR EK):=bG (by decide+kernel)
theorem a1B(F:FA K mg "lowest_terms" EK)(B:bL mg)(a5D:aD P w K mg base "common_divisor" 1 Dz):aD P w K mg base "lowest_terms" 2 uG:=by
 refine F.has MF (fun vs H Q E h=>?_) (fun _ _ _ _ _ _=>du fun _ _=>rfl) (fun f aJ A outer s H vs Q E hr h=>?_)
 · obtain⟨a,b,rfl,_⟩:=h
   rfl
 · obtain⟨a,b,rfl,hb,wb,k⟩:=h
   have nd:=MF.nd;have sw:Wd (Ar.sg a b):=pD (Ar.LK hb) wb;refine⟨_,(aA (pS 2 nd (pf a5D hr (O (pv 0) (O (pv 1) aw)))) (aA (gU (bJ (bW jF (pv 1) az (bo _)) (aH (pS 2 nd (xG wV (pv 2)))) bM)) (aH (aQ (dP (O (aG O5 (pv 0) (pv 2)) (O (aG O5 (pv 1) (pv 2)) aw))))))),?_⟩;refine⟨_,rfl,_,rfl,a,b,rfl,?_⟩;refine⟨fun Z H'=>H'=H/\Z=[some (.int a),some (.int b),some (.int (Ar.sg a b))],?_,?_⟩
   · refine⟨_,rfl,_,_,rfl,rfl,_,rfl,?_⟩
     refine dR (fun hc=>?_) (fun hc=>?_)
     · have hd:b<0:=jx hc
       refine⟨_,rfl,_,rfl,?_⟩;refine⟨rfl,?_⟩;unfold Ar.sg;rw[aY hd];rfl
     · have hd:¬b<0:=fun z=>hc (cB z)
       refine⟨rfl,?_⟩;unfold Ar.sg;rw[aZ hd];rfl
   rintro Z H' ⟨rfl,rfl⟩;refine⟨_,rfl,_,rfl,_,_,rfl,rfl,⟨Ar.xp hb,sw⟩,_,rfl,_,rfl,_,_,rfl,rfl,⟨Ar.xp hb,sw⟩,(by show 2<=sizeLine;decide),fun t H4 nw=>?_⟩;exact k t H4 nw
def bc(K:aa)(H:Hp)(v:V)(r:Rat):Prop:=∃p,v= .ref p/\aP K H p [.int r.num,.int r.den]
theorem bc.go{H H':Hp}{v:V}{r:Rat}(h:bc K H v r)(s:aB H H'):bc K H' v r:=by obtain⟨p,e,q⟩:=h;exact⟨p,e,q.go s⟩
def cH(r:Rat):ai:=.tuple [.int r.num,.int r.den]
theorem bc.rd{H:Hp}{v:V}{r:Rat}(h:bc K H v r):RD K H v (cH r):=by obtain⟨p,rfl,q⟩:=h;exact iI q (bQ (dN _) (bQ (dN _) cL))
theorem NA(r:Rat):dj 1 (cH r):=gf.tup (.cons (.int _) (.cons (.int _) .nil))
theorem Zb(r:Rat):SeqAt.shaped (cH r)=true:=(NA r).shaped (by decide)
theorem eqR{r s:Rat}(h:r=s):PyData.eqv (cH r) (cH s)=true:=by rw[h];exact(NA s).refl
theorem gM{n:Nat}{i:Int}(h:i.natAbs<2^n)(l:n<=5000):Wd i:=fU h (qV (by decide) l)
theorem _root_.Rt.Bd.wn{r:Rat}(h:Bd 2000 r):Wd r.num:=gM h.num (by decide)
theorem _root_.Rt.Bd.wd{r:Rat}(h:Bd 2000 r):Wd (r.den:Int):=gM (n:=2000) (by have:=h.den;omega) (by decide)
theorem zF{r s:Rat}(h:Bd 2000 r)(g:Bd 2000 s):Wd ((r.den:Int)*(s.den:Int)):=gM (n:=4000) (IV h g) (by decide)
theorem Ah{H':Hp}{t:Addr}{a b:Int}{r:Rat}(hb:b≠0)(e:r=Rat.divInt a b)(h:H' t=some (.tup [.int (Ar.lowP a b),.int (Ar.gB a b)])):bc K H' (.ref t) r:=by obtain⟨e1,e2⟩:=AI (a:=a) hb;rw[e1,e2,<-e]at h;exact⟨t,rfl,aP.of h⟩
inductive U9(op:Rat->Rat->Rat)(K:aa)(vs:List V)(H:Hp)(Q:VK):Prop |mk (v1:_)(v2:_)(r:_)(s:_)(h0:vs=[v1,v2])(h1:bc K H v1 r)(h2:bc K H v2 s)(h3:Bd 2000 r)(h4:Bd 2000 s)(h5:∀v H',bc K H' v (op r s)->aB H H'->Q v H'):U9 op K vs H Q
def mC(op:Rat->Rat->Rat)(K:aa):Sp:=fun vs H Q _=>U9 op K vs H Q
theorem Mt:bh ["one","other","p","q","r","s"] ["one","other"] (aR Ez):=bG (by decide+kernel)
theorem a1y(F:FA K mg "minus" Ez)(B:bL mg)(tE:aD P w K mg base "lowest_terms" 2 uG):aD P w K mg base "minus" 3 (mC (·-·) K):=by
 refine F.has Mt (fun vs H Q E h=>?_) (fun _ _ _ _ _ _=>du fun _ _=>rfl) (fun f aJ A outer s H vs Q E hr h=>?_)
 · obtain⟨v1,v2,r,s,rfl,_⟩:=h
   rfl
 · obtain⟨v1,v2,r,s,rfl,⟨p,rfl,hp⟩,⟨q,rfl,hq⟩,br,bs,k⟩:=h
   have nd:=Mt.nd;refine⟨_,(aA (fO (pv 0) (dJ K rfl (n:=2) rfl (bO (bf 2 nd) (bO (bf 3 nd) dH)))) (aA (fO (pv 1) (dJ K rfl (n:=2) rfl (bO (bf 4 nd) (bO (bf 5 nd) dH)))) (aH (aQ (pf tE hr (O (aG fY (aG bu (pv 2) (pv 5)) (aG bu (pv 4) (pv 3))) (O (aG bu (pv 3) (pv 5)) aw))))))),?_⟩;refine⟨_,rfl,_,_,rfl,hp,rfl,_,_,rfl,_,_,rfl,rfl,?_⟩;refine⟨_,rfl,_,_,rfl,hq,rfl,_,_,rfl,_,_,rfl,rfl,?_⟩;refine⟨_,rfl,_,rfl,_,_,rfl,rfl,ij br.wn.bits bs.wd.bits,_,rfl,_,rfl,_,_,rfl,rfl,ij bs.wn.bits br.wd.bits,_,_,rfl,rfl,_,rfl,_,rfl,_,_,rfl,rfl,ij br.wd.bits bs.wd.bits,?_⟩;exact⟨_,_,rfl,p4 r s,zF br bs,fun t H' nw=>k _ _ (Ah (p4 r s) (Xo r s) nw.at') nw.same⟩
theorem xr_dvd {a : Int} {b : Nat} {x : Rat} (hb : b ≠ 0) (hx : Rat.divInt a b = x) : ∃ g, a = x.num * g ∧ (b : Int) = x.den * g := by
  obtain ⟨g, _, p⟩ := Rat.divInt_num_den (z' := x.den_nz) (c := x.reduced) (by omega) hx
  exact ⟨g, p⟩
theorem xr_mul {r s x y : Rat} (hx : Rat.divInt r.num s.den = x) (hy : Rat.divInt s.num r.den = y) (m : r * s = Rat.divInt (r.num * s.num) (r.den * s.den)) : x.num * y.num = (r * s).num ∧ (y.den : Int) * x.den = (r * s).den := by
  obtain ⟨g, h1, h2⟩ := xr_dvd s.den_nz hx
  obtain ⟨h, h3, h4⟩ := xr_dvd r.den_nz hy
  have w : ∀ {q : Rat} {a b g h : Int}, q.num = a * g → q.den = b * h → a.natAbs.Coprime b.natAbs := fun {q a b g h} p z => by
    have c : Int.gcd q.num q.den = 1 := q.reduced
    rw [p, z, Int.gcd_eq_natAbs_gcd_natAbs, Int.natAbs_mul, Int.natAbs_mul] at c
    exact Nat.Coprime.coprime_mul_right_right (Nat.Coprime.coprime_mul_right c)
  have c : (x.num * y.num).natAbs.gcd (x.den * y.den) = 1 := by
    rw [Int.natAbs_mul]; exact Nat.Coprime.mul_left (Nat.Coprime.mul_right x.reduced (w h1 h4)) (Nat.Coprime.mul_right (w h3 h2) y.reduced)
  have e : r * s = x * y := by rw [m, ← hx, ← hy, Rat.divInt_mul_divInt, Int.mul_comm (s.den : Int)]
  rw [e, Rat.num_mul, Rat.den_mul, c, Nat.div_one, Nat.mul_comm x.den]
  exact ⟨(Int.ediv_one _).symm, rfl⟩
theorem LV:bh ["one","other","p","s","r","q"] ["one","other"] (aR DQ):=bG (by decide+kernel)
theorem a0K(F:FA K mg "times" DQ)(B:bL mg)(tE:aD P w K mg base "lowest_terms" 2 uG):aD P w K mg base "times" 3 (mC (·*·) K):=by
 refine F.has LV (fun vs H Q E h=>?_) (fun _ _ _ _ _ _=>du fun _ _=>rfl) (fun f aJ A outer s H vs Q E hr h=>?_)
 · obtain⟨v1,v2,r,s,rfl,_⟩:=h
   rfl
 · obtain⟨v1,v2,r,s,rfl,⟨p,rfl,hp⟩,⟨q,rfl,hq⟩,br,bs,k⟩:=h
   have nd:=LV.nd;have nr:=Int.ne_of_gt (den_pos r);have ns:=Int.ne_of_gt (den_pos s)
   refine ⟨_,(aA (fO (pf tE hr (O (px K (pv 0) az) (O (px K (pv 1) az) aw))) (dJ K rfl (n:=2) rfl (bO (bf 2 nd) (bO (bf 3 nd) dH)))) (aA (fO (pf tE hr (O (px K (pv 1) az) (O (px K (pv 0) az) aw))) (dJ K rfl (n:=2) rfl (bO (bf 4 nd) (bO (bf 5 nd) dH)))) (aH (aQ (dP (O (aG bu (pv 2) (pv 4)) (O (aG bu (pv 5) (pv 3)) aw))))))),?_⟩
   refine ⟨_,rfl,Or.inr ⟨_,_,_,_,rfl,rfl,hp,rfl,_,rfl,Or.inr ⟨_,_,_,_,rfl,rfl,hq,rfl,_,_,rfl,ns,bs.wd,fun t1 H1 n1=>?_⟩⟩⟩
   obtain ⟨_,e,g1⟩:=Ah ns rfl n1.at';cases e
   refine ⟨_,_,rfl,g1,rfl,_,_,rfl,_,_,rfl,rfl,?_⟩
   refine ⟨_,rfl,Or.inr ⟨_,_,_,_,rfl,rfl,hq.go n1.same,rfl,_,rfl,Or.inr ⟨_,_,_,_,rfl,rfl,hp.go n1.same,rfl,_,_,rfl,nr,br.wd,fun t2 H2 n2=>?_⟩⟩⟩
   obtain ⟨_,e,g2⟩:=Ah nr rfl n2.at';cases e
   refine ⟨_,_,rfl,g2,rfl,_,_,rfl,_,_,rfl,rfl,?_⟩
   have b1:Bd 2000 _:=ka ns br.num (by have:=bs.den;omega)
   have b2:Bd 2000 _:=ka nr bs.num (by have:=br.den;omega)
   refine ⟨_,rfl,_,rfl,_,_,rfl,rfl,ij b1.wn.bits b2.wn.bits,_,rfl,_,rfl,_,_,rfl,rfl,ij b2.wd.bits b1.wd.bits,bP rfl,fun t H' n=>k _ _ ⟨t,rfl,aP.of ?_⟩ (n1.same.trans (n2.same.trans n.same))⟩
   obtain ⟨e1,e2⟩:=xr_mul rfl rfl (mul_div r s)
   rw [← e1,← e2]; exact n.at'
inductive Um(K:aa)(vs:List V)(H:Hp)(Q:VK):Prop |mk (v1:_)(v2:_)(r:_)(s:_)(h0:vs=[v1,v2])(h1:bc K H v1 r)(h2:bc K H v2 s)(h3:Bd 2000 r)(h4:Bd 2000 s)(h5:Q (.bl (decide (r<s))) H):Um K vs H Q
def uH(K:aa):Sp:=fun vs H Q _=>Um K vs H Q
theorem Mz:bh ["one","other","p","q","r","s"] ["one","other"] (aR EG):=bG (by decide+kernel)
theorem a1F(F:FA K mg "is_less" EG)(B:bL mg):aD P w K mg base "is_less" 1 (uH K):=by
 refine F.has Mz (fun vs H Q E h=>?_) (fun _ _ _ _ _ _=>du fun _ _=>rfl) (fun f aJ A outer s H vs Q E hr h=>?_)
 · obtain⟨v1,v2,r,s,rfl,_⟩:=h
   rfl
 · obtain⟨v1,v2,r,s,rfl,⟨p,rfl,hp⟩,⟨q,rfl,hq⟩,br,bs,k⟩:=h
   have nd:=Mz.nd;refine⟨_,(aA (fO (pv 0) (dJ K rfl (n:=2) rfl (bO (bf 2 nd) (bO (bf 3 nd) dH)))) (aA (fO (pv 1) (dJ K rfl (n:=2) rfl (bO (bf 4 nd) (bO (bf 5 nd) dH)))) (aH (aQ (fb jF (aG bu (pv 2) (pv 5)) (aG bu (pv 4) (pv 3)) (bo _)))))),?_⟩;refine⟨_,rfl,_,_,rfl,hp,rfl,_,_,rfl,_,_,rfl,rfl,?_⟩;refine⟨_,rfl,_,_,rfl,hq,rfl,_,_,rfl,_,_,rfl,rfl,?_⟩;refine⟨_,rfl,_,rfl,_,_,rfl,rfl,ij br.wn.bits bs.wd.bits,_,rfl,_,rfl,_,_,rfl,rfl,ij bs.wn.bits br.wd.bits,_,_,rfl,rfl,?_⟩;have e:decide (r.num*(s.den:Int)<s.num*(r.den:Int))=decide (r<s):=by rw[nU,qR,qR,Rat.lt_iff]
   show Q (.bl (decide (r.num*(s.den:Int)<s.num*(r.den:Int)))) H;rw[e];exact k
def qK(K:aa)(H:Hp):List V->List Rat->Prop |[],[]=>True |v::vs,r::rs=>bc K H v r/\Bd 2000 r/\qK K H vs rs |_,_=>False
theorem qK.length{H:Hp}:∀{vs:List V}{rs:List Rat},qK K H vs rs->vs.length=rs.length |[],[],_=>rfl |v::vs,r::rs,h=>by rw[jU,jU,qK.length h.2.2] |[],_::_,h=>h.elim |_::_,[],h=>h.elim
theorem qK.get{H:Hp}:∀{vs:List V}{rs:List Rat}{i:Nat}{v:V},qK K H vs rs->vs[i]? =some v->∃r,rs[i]? =some r/\bc K H v r/\Bd 2000 r
  |[],[],i,v,_,e=>by simp at e |v::vs,r::rs,0,v',h,e=>by
    have e':v=v':=by simpa using e
    subst e';exact⟨r,rfl,h.1,h.2.1⟩ |v::vs,r::rs,i+1,v',h,e=>by obtain⟨r',e1,q⟩:=qK.get h.2.2 (show vs[i]? =some v' by simpa using e);exact⟨r',by simpa using e1,q⟩ |[],_::_,_,_,h,_=>h.elim |_::_,[],_,_,h,_=>h.elim
inductive Uo(K:aa)(vs:List V)(H:Hp)(Q:VK):Prop |mk (l:_)(xs:_)(rs:_)(h0:vs=[.ref l])(h1:aE K H l xs)(h2:qK K H xs rs)(h3:xs≠[])(h4:∀(i:Nat)(v:V)(r:Rat),xs[i]? =some v->rs[i]? =some r->(∀s∈rs,r<=s)->Q v H):Uo K vs H Q
def jc(K:aa):Sp:=fun vs H Q _=>Uo K vs H Q
theorem MB:bh ["some","best","one"] ["some"] (aR EH):=bG (by decide+kernel)
theorem a1G(F:FA K mg "least" EH)(B:bL mg)(Hq:aD P w K mg base "is_less" 1 (uH K)):aD P w K mg base "least" 2 (jc K):=by
 refine F.has MB (fun vs H Q E h=>?_) (fun _ _ _ _ _ _=>fg fun _=>rfl) (fun f aJ A outer s H vs Q E hr h=>?_)
 · obtain⟨l,xs,rs,rfl,_⟩:=h
   rfl
 · obtain⟨l,xs,rs,rfl,hl,lX,dy,k⟩:=h
   have nd:=MB.nd;refine⟨_,(aA (pS 1 nd (px K (pv 0) az)) (aA (lF gL rfl (xF K rfl (pv 0)) (bf 2 nd) (aH (bJ (cI (pf Hq hr (O (pv 2) (O (pv 1) aw)))) (aH (pS 1 nd (pv 2))) bM))) (aH (aQ (pv 1))))),?_⟩;have hlen:=lX.length;have h0:0<xs.length:=JQ.mpr dy;have e0:=bZ h0;refine⟨_,rfl,.inl ⟨l,xs,0,xs[0],rfl,rfl,hl,cW (by decide) e0,?_⟩⟩;refine⟨_,rfl,l,rfl,⟨_,hl⟩,Ie (K:=K) (a:=l) (xs:=xs) (fun i Z H2=>H2=H/\∃(j:Nat)(b:V)(r:Rat)(v:Option V),xs[j]? =some b/\rs[j]? =some r/\(∀(m:Nat)(s:Rat),m<i->rs[m]? =some s->r<=s)/\Z=[some (.ref l),some b,v]) ?_ (fun i Z H2 _ h=>by rw[h.1];exact hl) ?_ ?_⟩
   · obtain⟨r,e1,_⟩:=lX.get e0
     exact⟨rfl,0,_,r,none,e0,e1,fun m s hm=>absurd hm (Nat.not_lt_zero _),rfl⟩
   · rintro i x Z H2 hx ⟨rfl,j,b,r,v,eb,er,hm,rfl⟩
     obtain⟨t,et,rt,bt⟩:=lX.get hx;obtain⟨r2,mW,rb,bb⟩:=lX.get eb;rw[er]at mW;cases mW;refine⟨_,rfl,_,rfl,x,b,t,r,rfl,rt,rb,bt,bb,_,rfl,?_⟩;refine dR (fun hc=>?_) (fun hc=>?_)
     · have cy:t<r:=jx hc
       refine⟨_,rfl,?_⟩;refine⟨rfl,i,x,t,_,hx,et,fun m s tD es=>?_,rfl⟩;rcases JL.mp tD with h|h
       ·exact dU (JD cy) (hm m s h es)
       · subst h
         rw[et]at es;cases es;exact qT
     · have Hj:¬t<r:=fun z=>hc (cB z)
       refine⟨rfl,j,b,r,_,eb,er,fun m s tD es=>?_,rfl⟩;rcases JL.mp tD with h|h
       ·exact hm m s h es
       · subst h
         rw[et]at es;cases es;exact Rat.not_lt.mp Hj
   · rintro Z H2 ⟨rfl,j,b,r,v,eb,er,hm,rfl⟩
     refine⟨_,rfl,k j b r eb er fun s hs=>?_⟩;obtain⟨m,Hm,em⟩:=VI.mp hs;exact hm m s (by lia) (by rw[bZ Hm,em])
inductive Ui(K:aa)(vs:List V)(H:Hp)(Q:VK):Prop |mk (a:_)(b:_)(h0:vs=[.int a,.int b])(h1:b≠0)(h2:Wd b)(h3:∀v H',bc K H' v (Rat.divInt a b)->aB H H'->Q v H'):Ui K vs H Q
def uF(K:aa):Sp:=fun vs H Q _=>Ui K vs H Q
theorem MP:bh ["p","q"] ["p","q"] (aR EW):=bG (by decide+kernel)
theorem a1S(F:FA K mg "fraction" EW)(B:bL mg)(Bi:aD P w K mg base "is_whole" 1 (uI K))(tE:aD P w K mg base "lowest_terms" 2 uG):aD P w K mg base "fraction" 3 (uF K):=by
 refine F.has MP (fun vs H Q E h=>?_) (fun _ _ _ _ _ _=>du fun _ _=>rfl) (fun f aJ A outer s H vs Q E hr h=>?_)
 · obtain⟨a,b,rfl,_⟩:=h
   rfl
 · obtain⟨a,b,rfl,hb,wb,k⟩:=h
   have nd:=MP.nd;refine⟨_,(aA (bJ (PW.pt (kD (fi (cI (pf Bi hr (O (pv 0) aw)))) (lE (fi (cI (pf Bi hr (O (pv 1) aw))))))) (aH uS) bM) (aA (bJ (bW (cP K rfl hr.units) (pv 1) az (bo _)) (aH uS) bM) (aH (aQ (pf tE hr (O (pv 0) (O (pv 1) aw))))))),?_⟩;have iw:vz "int"=true:=by decide
   refine⟨_,rfl,_,"int",rfl,rfl,_,rfl,?_⟩;rw[iw];refine bB ?_;refine⟨_,rfl,_,"int",rfl,rfl,_,rfl,?_⟩;rw[iw];refine bB ?_;refine⟨_,rfl,.inl ⟨_,_,rfl,rfl,_,rfl,?_⟩⟩;rw[eQ hb];refine bB ?_;exact⟨_,rfl,_,rfl,_,_,rfl,hb,wb,fun t H' nw=>k _ _ (Ah hb rfl nw.at') nw.same⟩
def iL(rs:List Int)(r f j t:Int):ai:=.tuple [.tuple (rs.map PyData.int),.int r,.int f,.int j,.int t]
theorem ki(rs:List Int)(r f j t:Int):fe (iL rs r f j t)=true:=by simp[iL,fe,cK,kF]
theorem kI{H:Hp}{v:V}{rs:List Int}{r f j t:Int}(h:RD K H v (iL rs r f j t)):∃a b,v= .ref a/\aP K H a [.ref b,.int r,.int f,.int j,.int t]/\aP K H b (rs.map V.int):=by obtain⟨a,xs,rfl,h1,h2⟩:=h.dZ;obtain⟨x1,r1,rfl,e1,h2⟩:=h2.cons_inv;obtain⟨x2,r2,rfl,e2,h2⟩:=h2.cons_inv;obtain⟨x3,r3,rfl,e3,h2⟩:=h2.cons_inv;obtain⟨x4,r4,rfl,e4,h2⟩:=h2.cons_inv;obtain⟨x5,r5,rfl,e5,h2⟩:=h2.cons_inv;cases h2.nil_inv;cases e2.int_inv;cases e3.int_inv;cases e4.int_inv;cases e5.int_inv;obtain⟨b,ys,rfl,h3,h4⟩:=e1.dZ;rw[h4.iM]at h3;exact⟨a,b,rfl,h1,h3⟩
structure nH(rs:List Int)(r f j t:Int):Prop where
 len:rs.length=2\/rs.length=3
 rl:∀z∈rs,1<=z/\z<=100
 r1:1<=r/\r<=50
 f1:1<=f/\f<=50
 j1:1<=j/\j<=50
 t1:1<=t/\t<=100
inductive Uj(K:aa)(vs:List V)(H:Hp)(Q:VK):Prop |mk (p:_)(h0:vs=[.ref p])(h1:gh H p)(h2:∀v rs r f j t H',RD K H' v (iL rs r f j t)->nH rs r f j t->bS p H H'->Q v H'):Uj K vs H Q
def Lv(K:aa):Sp:=fun vs H Q _=>Uj K vs H Q
theorem Mw:bh ["_law_bag_here","_law_kind","_law_most","_law_rails"] ["_law_bag_here"] (aR ED):=bG (by decide+kernel)
theorem a1A(F:FA K mg "_law_machine" ED)(B:bL mg)(dS:aD P w K mg base "_law_take" 1 pL):aD P w K mg base "_law_machine" 2 (Lv K):=by
 refine F.has Mw (fun vs H Q E h=>?_) (fun _ _ _ _ _ _=>fg fun _=>rfl) (fun f aJ A outer s H vs Q E hr h=>?_)
 · obtain⟨p,rfl,_⟩:=h
   rfl
 · obtain⟨p,rfl,bg,k⟩:=h
   have nd:=Mw.nd;refine⟨_,(aA (pS 1 nd (pf dS hr (O (pv 0) (O az aw)))) (aA (pS 2 nd (px K (df (O az (O az (O az (O az (O az (O az (O az (O az aw))))))))) (pv 1))) (aA (pS 3 nd (gX (x:="tuple") (ky K rfl) rfl (B.at "tuple") fD (O (fW (N:=["_law_axis","_law_bag_here","_law_most"]) (js:=[none,some 0,some 2]) rfl rfl rfl (xE rfl (B.at "range") (O (aG cJ az (pf dS hr (O (pv 0) (O az aw)))) aw)) (fun _ _ _ _ _=>(bf 0 (show List.Nodup (["_law_axis","_law_bag_here","_law_most"]:List Str) by decide+kernel))) (fun _ _ _ _ _=>fw) (fun _ _ _ _ _=>(aG cJ az (pf dS hr (O (pv 1) (O (pv 2) aw)))))) aw))) (aA (bJ (bW (cP K rfl hr.units) (pv 1) az (bo _)) (aH (aQ (dP (O (pv 3) (O (aG cJ az (aG bu az (pf dS hr (O (pv 0) (O az aw))))) (O (aG cJ az (aG bu az (pf dS hr (O (pv 0) (O az aw))))) (O (aG cJ az (aG bu az (pf dS hr (O (pv 0) (O az aw))))) (O az aw)))))))) bM) (aH (aQ (dP (O (pv 3) (O (aG cJ az (pf dS hr (O (pv 0) (O az aw)))) (O (aG cJ az (pf dS hr (O (pv 0) (O az aw)))) (O (aG cJ az (pf dS hr (O (pv 0) (O az aw)))) (O (aG cJ az (pf dS hr (O (pv 0) (O az aw)))) aw)))))))))))),?_⟩;refine⟨_,rfl,p,8,rfl,bg,by decide,by decide,fun kd H1 k0 k1 b1=>?_⟩;refine⟨bP rfl,fun l H2 nw=>?_⟩;have b2:bS p H1 H2:=.jg b1.bK nw.same;obtain⟨g9,mf,ef⟩:=a48 [100,100,100,60,60,20,5,100] k0 k1;have f1:1<=g9/\g9<=100:=by
    have h:∀z∈([100,100,100,60,60,20,5,100]:List Int),1<=z/\z<=100:=by decide
    exact h g9 mf
   refine⟨_,rfl,.inl ⟨l,_,_,_,rfl,rfl,aE.of nw.at',ef,?_⟩⟩;refine⟨_,rfl,p,2,rfl,b2.bK,by decide,by decide,fun ax H3 a0 a1 b3=>?_⟩;refine⟨_,_,rfl,rfl,_,rfl,by lia,by lia,fun D H4 n4=>?_⟩;refine a9n (J:=nK 0 (2+ax).toNat) (p:=p) (H:=H3) (2+ax).toNat _ n4 b3.bK (by lia) (fun i=>.int (0+(i:Int))) (fun i H5 hi _=>⟨hi,fun y H6 ⟨e,q⟩=>⟨e,q⟩⟩) (fun H5 _=>bF _) (fun z=>1<=z/\z<=100) ?_ ?_
   · intro i H5 Q' hi b5 hq
     refine⟨_,rfl,_,rfl,p,g9,rfl,b5.bK,f1.1,by lia,fun d H6 d0 d1 b6=>?_⟩;exact⟨_,_,rfl,rfl,hq _ _ (by lia) b6⟩
   intro H5 is b5 d5 l5 Sl;have tY:=b1.trans (b2.trans (b3.trans b5));refine⟨D,_,rfl,.inl ⟨aE.of d5,fun q H6 n6=>?_⟩⟩;have b6:bS p H5 H6:=.jg tY.bK n6.same;have q6:aP K H6 q (is.map V.int):=aP.of n6.at';refine⟨_,rfl,.inl ⟨_,_,rfl,rfl,_,rfl,?_⟩⟩;refine dR (fun hc=>?_) (fun hc=>?_)
   · refine⟨_,rfl,_,rfl,p,2,rfl,b6.bK,by decide,by decide,fun ri H7 YO YN b7=>?_⟩
     refine⟨_,_,rfl,rfl,.of_left (bV (by decide) (by decide)),_,_,rfl,rfl,?_⟩;refine⟨_,rfl,p,2,rfl,b7.bK,by decide,by decide,fun fa H8 fa0 fa1 b8=>?_⟩;refine⟨_,_,rfl,rfl,.of_left (bV (by decide) (by decide)),_,_,rfl,rfl,?_⟩;refine⟨_,rfl,p,2,rfl,b8.bK,by decide,by decide,fun ju H9 ju0 ju1 b9=>?_⟩;refine⟨_,_,rfl,rfl,.of_left (bV (by decide) (by decide)),_,_,rfl,rfl,?_⟩;refine⟨bP rfl,fun t jt jG=>?_⟩;have C3:bS p H9 jt:=.jg b9.bK jG.same;have Sn:=b7.trans (b8.trans (b9.trans C3));have Zx:aP K jt q (is.map V.int):=aP.t (bS.t b6.bK Sn) q6;exact k (.ref t) is (1+49*ri) (1+49*fa) (1+49*ju) 100 jt (iI (aP.of jG.at') (bQ (iI Zx (uQ is)) (bQ (dN _) (bQ (dN _) (bQ (dN _) (bQ (dN _) cL)))))) ⟨by lia,Sl,by lia,by lia,by lia,by lia⟩ (tY.trans (b6.trans Sn))
   · refine⟨_,rfl,_,rfl,p,50,rfl,b6.bK,by decide,by decide,fun ri H7 YO YN b7=>?_⟩
     refine⟨_,_,rfl,rfl,?_⟩;refine⟨_,rfl,p,50,rfl,b7.bK,by decide,by decide,fun fa H8 fa0 fa1 b8=>?_⟩;refine⟨_,_,rfl,rfl,?_⟩;refine⟨_,rfl,p,50,rfl,b8.bK,by decide,by decide,fun ju H9 ju0 ju1 b9=>?_⟩;refine⟨_,_,rfl,rfl,?_⟩;refine⟨_,rfl,p,100,rfl,b9.bK,by decide,by decide,fun ti jt ti0 ti1 C3=>?_⟩;refine⟨_,_,rfl,rfl,bP rfl,fun t iC ji=>?_⟩;have yR:bS p jt iC:=.jg C3.bK ji.same;have Sm:=b7.trans (b8.trans (b9.trans (C3.trans yR)));have xD:aP K iC q (is.map V.int):=aP.t (bS.t b6.bK Sm) q6;exact k (.ref t) is (1+ri) (1+fa) (1+ju) (1+ti) iC (iI (aP.of ji.at') (bQ (iI xD (uQ is)) (bQ (dN _) (bQ (dN _) (bQ (dN _) (bQ (dN _) cL)))))) ⟨by lia,Sl,by lia,by lia,by lia,by lia⟩ (tY.trans (b6.trans Sm))
inductive Uu(K:aa)(vs:List V)(H:Hp)(Q:VK):Prop |mk (a:_)(b:_)(h0:vs=[.int a,.int b])(h1:0<b)(h2:Wd b)(h3:∀v H',bc K H' v (Rat.divInt a b)->aB H H'->Q v H'):Uu K vs H Q
def xi(K:aa):Sp:=fun vs H Q _=>Uu K vs H Q
theorem MO:bh ["_law_p","_law_q","_law_one","_law_other_here"] ["_law_p","_law_q"] (aR EV):=bG (by decide+kernel)
theorem a1R(F:FA K mg "_law_frac" EV)(B:bL mg):aD P w K mg base "_law_frac" 1 (xi K):=by
 refine F.has MO (fun vs H Q E h=>?_) (fun _ _ _ _ _ _=>du fun _ _=>rfl) (fun f aJ A outer s H vs Q E hr h=>?_)
 · obtain⟨a,b,rfl,_⟩:=h
   rfl
 · obtain⟨a,b,rfl,hb,wb,k⟩:=h
   have nd:=MO.nd;refine⟨_,(aA (om (i:=2) (j:=3) rfl nd rfl rfl (by decide) rfl rfl (O (cZ (x:="abs") nv rfl (B.at "abs") pC (O (pv 0) aw)) (O (pv 1) aw)) rfl) (aA (mH gL (bW rZ (pv 3) az (bo _)) (aH (om (i:=2) (j:=3) rfl nd rfl rfl (by decide) rfl rfl (O (pv 3) (O (aG ow (pv 2) (pv 3)) aw)) rfl))) (aH (aQ (dP (O (aG lS (pv 0) (pv 2)) (O (aG lS (pv 1) (pv 2)) aw))))))),?_⟩;refine⟨_,rfl,_,rfl,_,rfl,_,_,rfl,?_⟩;refine mm (fun Z H2=>H2=H/\∃(x y:Int),Z=[some (.int a),some (.int b),some (.int x),some (.int y)]/\0<=x/\0<=y/\Int.gcd x y=Int.gcd a b) (fun Z _=>match Z with|[_,_,_,some (.int y)]=>y.natAbs|_=>0) ?_ ?_ ?_
   · refine⟨rfl,_,_,rfl,by split<;>lia,by lia,?_⟩
     have h1:(if a<0 then-a else a).natAbs=a.natAbs:=by split<;>lia
     unfold Int.gcd;rw[h1]
   · rintro Z H2 ⟨rfl,x,y,rfl,x0,y0,e⟩
     refine⟨_,rfl,_,_,rfl,rfl,_,rfl,?_⟩;refine dR (fun hc=>?_) (fun hc=>?_)
     · have jH:0<y:=jx hc
       have hy:y≠0:=by lia
       refine⟨_,rfl,_,rfl,_,rfl,_,_,rfl,rfl,jH,_,_,rfl,?_⟩;refine⟨⟨rfl,_,_,rfl,y0,pH _ hy,(Ar.Qs jH).trans e⟩,?_⟩;show(x%y).natAbs<y.natAbs;have:=pH x hy;have:=uw x jH
       lia
     · have hy:y=0:=by
         have:¬y>0:=fun z=>hc (cB z)
         lia
       subst hy;rw[Int.gcd_zero_right]at e;have ex:x=((Int.gcd a b:Nat):Int):=by lia
       have oS:b≠0:=by lia
       have gp:=Ar.Bx (p:=a) oS;have es:Ar.sg a b=(Int.gcd a b:Int):=by unfold Ar.sg;rw[aZ (by lia)]
       have gw:Wd (Int.gcd a b:Int):=by rw[<-es];exact pD (Ar.LK oS) wb
       obtain⟨e1,e2⟩:=AI (a:=a) oS;have f1:a/(Int.gcd a b:Int)=(Rat.divInt a b).num:=by rw[<-e1];unfold Ar.lowP;rw[es,VQ _ (by lia)]
       have f2:b/(Int.gcd a b:Int)=((Rat.divInt a b).den:Int):=by rw[<-e2];unfold Ar.gB;rw[es,VQ _ (by lia)]
       subst ex;refine⟨_,rfl,_,rfl,_,_,rfl,rfl,⟨gp,gw⟩,_,rfl,_,rfl,_,_,rfl,rfl,⟨gp,gw⟩,bP rfl,fun t H6 n6=>?_⟩;have Sw:=n6.at';simp only[f1,f2]at Sw;exact k _ _ ⟨t,rfl,aP.of Sw⟩ n6.same
   · rintro Z H2 Q1 Q2 hq ⟨v1,e1,i,j,e3,e4,kk,e5,q⟩
     exact⟨v1,e1,i,j,e3,e4,kk,e5,hq _ _ q⟩
theorem MG:bh ["_law_thing"] ["_law_thing"] (aR EL):=bG (by decide+kernel)
theorem a1C(F:FA K mg "_law_number" EL)(B:bL mg):aD P w K mg base "_law_number" 1 (uI K):=by
 refine F.has MG (fun vs H Q E h=>?_) (fun _ _ _ _ _ _=>fg fun _=>rfl) (fun f aJ A outer s H vs Q E hr h=>?_)
 · obtain⟨v,T,rfl,_⟩:=h
   rfl
 · obtain⟨v,T,rfl,ty,k⟩:=h
   have nd:=MG.nd;refine⟨_,(aH (aQ (ir (dw K B (O (pv 0) (O (cR (x:="int") (v:=.ty "int") rfl (B.at "int") JH rfl) aw))) (iJ (NO (dw K B (O (pv 0) (O (cR (x:="bool") (v:=.ty "bool") rfl (B.at "bool") VE rfl) aw)))))))),?_⟩;refine⟨_,rfl,.inl ⟨_,T,"int",_,rfl,ty,by decide,rfl,_,rfl,?_⟩⟩;unfold vz at k;refine dR (fun hc=>?_) (fun hc=>?_)
   · refine⟨_,rfl,.inl ⟨_,T,"bool",_,rfl,ty,by decide,rfl,_,rfl,?_⟩⟩
     rw[hc,jV]at k;exact k
   · rw[wN.mpr hc,ku]at k
     exact k
theorem Kh:iH "tuple" "tuple"=true:=by decide
theorem Kk:iH "list" "list"=true:=by decide
abbrev Itm:=Option (List Int × Int)
def itR(d:ai)(o:Itm):Prop:=(∃ns sp,d=iu ns sp/\o=some (ns,sp))\/∃w x,d= .tuple [.str w,x]/\(w="wait"\/w="tool"\/w="mark")/\fe x=true/\o=none
theorem itR.no{d:ai}{o:Itm}(h:itR d o):fe d=true:=by
 rcases h with⟨ns,sp,rfl,_⟩|⟨w,x,rfl,_,h,_⟩
 ·exact AM _ _
 ·simp[fe,cK,h]
theorem vy{H:Hp}{v:V}{d:ai}{o:Itm}(h:RD K H v d)(i:itR d o):∃a w ys,v= .ref a/\aP K H a (.str w::ys)/\(PyData.eqv (.str w) (.str "line")=o.isSome)/\SeqAt.shaped (.str w)=true:=by
 rcases i with⟨ns,sp,rfl,rfl⟩|⟨w,x,rfl,hw,_,rfl⟩
 · obtain⟨a,b,rfl,h1,_⟩:=lI h
   exact⟨a,_,_,rfl,h1,(by show PyData.eqv (.str "line") (.str "line")=true;decide+kernel),by decide+kernel⟩
 · obtain⟨a,xs,rfl,h1,h2⟩:=h.dZ
   obtain⟨x1,r1,rfl,e1,h2⟩:=h2.cons_inv;cases e1.str_inv;refine⟨a,w,r1,rfl,h1,?_,?_⟩
   · show PyData.eqv (.str w) (.str "line")=false
     rcases hw with rfl|rfl|rfl<;>decide+kernel
   ·rcases hw with rfl|rfl|rfl<;>decide+kernel
theorem sO:SeqAt.shaped (.str "line")=true:=by decide+kernel
theorem kj{d:ai}{ns:List Int}{sp:Int}(h:itR d (some (ns,sp))):d=iu ns sp:=by
 rcases h with⟨xP,xl,e1,e2⟩|⟨_,_,_,_,_,e2⟩
 ·cases e2;exact e1
 ·cases e2
structure gD(ax:Nat)(ds:List ai)(os:List Itm):Prop where
 len:ds.length=os.length
 it:∀(i:Nat)(d:ai)(o:Itm),ds[i]? =some d->os[i]? =some o->itR d o
 ok:∀(i:Nat)(ns:List Int)(sp:Int),os[i]? =some (some (ns,sp))->eu ax 100 ns/\1<=sp/\sp<=20
theorem gD.nil{ax:Nat}:gD ax [] []:=⟨rfl,fun i d o e=>by simp at e,fun i ns sp e=>by simp at e⟩
theorem rK{α:Type}{xs:List α}{x y:α}{j:Nat}(e:(xs++[x])[j]? =some y):xs[j]? =some y\/(j=xs.length/\y=x):=by
 by_cases hj:j<xs.length
 ·rw[wM hj]at e;exact .inl e
 · have oN:j=xs.length:=by
     have:=(dC.mp e).1;rw[fo]at this;have:j<xs.length+1:=this
     lia
   rw[oN,zt (bF _),JI]at e;exact .inr ⟨oN,(dG e).symm⟩
theorem gD.snoc{ax:Nat}{ds:List ai}{os:List Itm}{d:ai}{o:Itm}(h:gD ax ds os)(i:itR d o)(g:∀ns sp,o=some (ns,sp)->eu ax 100 ns/\1<=sp/\sp<=20):gD ax (ds++[d]) (os++[o]):=by
 have hl:=h.len;refine⟨by rw[fo,fo,h.len];rfl,fun j d' o' e1 e2=>?_,fun j ns sp e=>?_⟩
 · rcases rK e1 with e1|⟨j1,rfl⟩
   · rcases rK e2 with e2|⟨j2,rfl⟩
     ·exact h.it j d' o' e1 e2
     ·have:=(dC.mp e1).1;lia
   · rcases rK e2 with e2|⟨j2,rfl⟩
     ·have:=(dC.mp e2).1;lia
     ·exact i
 · rcases rK e with e|⟨_,e⟩
   ·exact h.ok j ns sp e
   ·exact g ns sp e.symm
theorem gD.no{ax:Nat}{ds:List ai}{os:List Itm}(h:gD ax ds os):cK ds=true:=gZ.mpr fun d hd=>by obtain⟨i,hi⟩:=pG.mp hd;have hl:=(dC.mp hi).1;exact(h.it i d _ hi (bZ (by rw[<-h.len];exact hl))).no
theorem gD.get{ax:Nat}{ds:List ai}{os:List Itm}(h:gD ax ds os){i:Nat}{d:ai}(e:ds[i]? =some d):∃o,os[i]? =some o/\itR d o:=by have hl:=(dC.mp e).1;have e2:=bZ (show i<os.length by rw[<-h.len];exact hl);exact⟨_,e2,h.it i d _ e e2⟩
inductive Ut(K:aa)(vs:List V)(H:Hp)(Q:VK):Prop |mk (v:_)(d:_)(o:_)(h0:vs=[v])(h1:RD K H v d)(h2:itR d o)(h3:Q (.bl o.isSome) H):Ut K vs H Q
def uJ(K:aa):Sp:=fun vs H Q _=>Ut K vs H Q
theorem MI:bh ["item"] ["item"] (aR EN):=bG (by decide+kernel)
theorem a1M(F:FA K mg "is_line" EN)(B:bL mg):aD P w K mg base "is_line" 1 (uJ K):=by
 refine F.has MI (fun vs H Q E h=>?_) (fun _ _ _ _ _ _=>fg fun _=>rfl) (fun f aJ A outer s H vs Q E hr h=>?_)
 · obtain⟨v,d,o,rfl,_⟩:=h
   rfl
 · obtain⟨v,d,o,rfl,ri,it,k⟩:=h
   have nd:=MI.nd;refine⟨_,(aH (aQ (fb (cP K rfl hr.units) (px K (pv 0) az) aX (bo _)))),?_⟩;obtain⟨a,wd,ys,rfl,h1,ew,sw⟩:=vy ri it;refine⟨_,rfl,.inr ⟨a,_,0,.str wd,rfl,rfl,h1,cW (gz 0) rfl,.inr ⟨_,_,cM _,cM _,sw,sO,?_⟩⟩⟩;rw[ew];exact k
theorem KD{H:Hp}:∀{xs:List V}{zs:List Str},aI K H xs (zs.map PyData.str)->xs=zs.map V.str |xs,[],h=>h.nil_inv |xs,n::ns,h=>by obtain⟨y,ys,rfl,h1,h2⟩:=h.cons_inv;rw[h1.str_inv,KD h2];rfl
theorem aak:jq.cps.toList.length=26:=by decide+kernel
theorem Mq:bh ["_law_bag_here","_law_kind","_law_letters"] ["_law_bag_here"] (aR Eu):=bG (by decide+kernel)
def W6(ns:List Int):ai:=.tuple (ns.map fun z=>cH (Rat.divInt z (Ln.aF ns)))
theorem pR(r:Rat):fe (cH r)=true:=by simp[cH,fe,cK]
theorem Ol{α:Type}{f:α->ai}(h:∀a,fe (f a)=true)(l:List α):cK (l.map f)=true:=gZ.mpr fun d hd=>by obtain⟨a,_,rfl⟩:=jy.mp hd;exact h a
inductive Tj(K:aa)(vs:List V)(H:Hp)(Q:VK):Prop |mk (v:_)(ns:_)(sp:_)(h0:vs=[v])(h1:RD K H v (iu ns sp))(h2:eu ns.length 1000 ns)(h3:ns.length<=1000)(h4:∀v' H',RD K H' v' (W6 ns)->aB H H'->Q v' H'):Tj K vs H Q
def KR(K:aa):Sp:=fun vs H Q _=>Tj K vs H Q
theorem LP:bh ["line","lead"] ["line"] (aR DK):=bG (by decide+kernel)
theorem a0G(F:FA K mg "ways_of" DK)(B:bL mg)(oJ:aD P w K mg base "lead_of" 1 (lg K))(qm:aD P w K mg base "fraction" 3 (uF K)):aD P w K mg base "ways_of" 4 (KR K):=by
 refine F.has LP (fun vs H Q E h=>?_) (fun _ _ _ _ _ _=>fg fun _=>rfl) (fun f aJ A outer s H vs Q E hr h=>?_)
 · obtain⟨v,ns,sp,rfl,_⟩:=h
   rfl
 · obtain⟨v,ns,sp,rfl,rd,ok,hz,k⟩:=h
   have nd:=LP.nd;refine⟨_,(aA (pS 1 nd (pf oJ hr (O (pv 0) aw))) (aH (aQ (gX (x:="tuple") (ky K rfl) rfl (B.at "tuple") fD (O (fW (N:=["step","lead"]) (js:=[none,some 1]) rfl rfl rfl (pT K rfl (px K (pv 0) az)) (fun _ _ _ _ _=>(bf 0 (fJ (by decide)))) (fun _ _ _ _ _=>fw) (fun _ _ _ _ _=>(pf qm hr (O (pv 0) (O (pv 1) aw))))) aw))))),?_⟩;refine⟨_,rfl,v,ns,sp,rfl,rd,ok.ne,hz,fun H1 s1=>?_⟩;obtain⟨a,b,rfl,ha,hb⟩:=lI (RD.mono s1 _ rd);obtain⟨lp,lm⟩:=ok.lead;refine⟨_,rfl,.inr ⟨a,_,1,.ref b,rfl,rfl,ha,rfl,b,rfl,⟨_,hb⟩,fun D H0 nw=>?_⟩⟩;refine BS (K:=K) (xs:=ns.map V.int) (ds:=ns.map fun z=>cH (Rat.divInt z (Ln.aF ns))) _ hb nw (by simp) (by simpa using hz) (Ol (fun _=>pR _) _) ?_ ?_
   · intro i x d H2 Q' ex ed s2 hq
     obtain⟨n,en,rfl⟩:=lU ed;cases y8 ex en;refine⟨_,rfl,_,rfl,n,_,rfl,by omega,gM (n:=20) (by omega) (by decide),fun v3 H3 r3 s3=>?_⟩;exact hq _ _ s3 r3.rd
   · intro H' ys s2 d2 r2
     refine⟨D,_,rfl,.inl ⟨aE.of d2,fun t H4 n4=>?_⟩⟩;exact k _ _ (iI (aP.of n4.at') (aI.mono n4.same _ r2)) (s1.trans (s2.trans n4.same))
theorem wX:iH "tuple" "tuple"=true:=by decide
theorem W5(d:ai):(∃i,d= .int i/\vz (mr d)=true)\/(vz (mr d)=false/\∀i,d≠ .int i):=by cases d with |int i=>exact .inl ⟨i,rfl,by simp[mr];decide⟩ |_=>exact .inr ⟨by simp[mr];decide,fun _ z=>nomatch z⟩
theorem CW(d:ai):(∃ds,d= .tuple ds)\/(iH (mr d) "tuple"=false/\∀ds,d≠ .tuple ds):=by cases d with |tuple ds=>exact .inl ⟨ds,rfl⟩ |_=>exact .inr ⟨by simp[mr];decide,fun _ z=>nomatch z⟩
def gq(lo hi:Int):ai->Bool | .int i=>decide (lo<=i)&&decide (i<=hi) |_=>false
theorem a49{lo hi:Int}{d:ai}(h:∀i,d≠ .int i):gq lo hi d=false:=by cases d<;>first|rfl|exact absurd rfl (h _)
inductive Tn(K:aa)(vs:List V)(H:Hp)(Q:VK):Prop |mk (v:_)(d:_)(lo:_)(hi:_)(h0:vs=[v,.int lo,.int hi])(h1:RD K H v d)(h2:Q (.bl (gq lo hi d)) H):Tn K vs H Q
def rJ(K:aa):Sp:=fun vs H Q _=>Tn K vs H Q
theorem LQ:bh ["thing","low","high"] ["thing","low","high"] (aR DL):=bG (by decide+kernel)
theorem a0F(F:FA K mg "is_whole_within" DL)(B:bL mg)(Bi:aD P w K mg base "is_whole" 1 (uI K)):aD P w K mg base "is_whole_within" 2 (rJ K):=by
 refine F.has LQ (fun vs H Q E h=>?_) (fun _ _ _ _ _ _=>ny fun _ _ _=>rfl) (fun f aJ A outer s H vs Q E hr h=>?_)
 · obtain⟨v,d,lo,hi,rfl,_⟩:=h
   rfl
 · obtain⟨v,d,lo,hi,rfl,rd,k⟩:=h
   have nd:=LQ.nd;refine⟨_,(aH (aQ (ir (pf Bi hr (O (pv 0) aw)) (iJ (NS uY uY (pv 1) (pv 0) (pv 2)))))),?_⟩;refine⟨_,rfl,_,_,rfl,rd.ty,_,rfl,?_⟩;rcases W5 d with⟨i,rfl,e⟩|⟨e,hn⟩
   · cases rd.int_inv
     rw[e];refine bT ?_;have k:Q (.bl (decide (lo<=i)&&decide (i<=hi))) H:=k;refine⟨_,rfl,_,rfl,_,_,rfl,rfl,_,rfl,?_⟩;refine dR (fun hc=>?_) (fun hc=>?_)
     · have iy:decide (lo<=i)=true:=hc
       rw[iy,jV]at k;exact⟨_,rfl,_,_,rfl,rfl,k⟩
     · have iy:decide (lo<=i)=false:=wN.mpr hc
       rw[iy,ku]at k;exact k
   · rw[e]
     refine bB ?_;rw[a49 hn]at k;exact k
open Cn
theorem K2{ns ms:List Int}{i:Nat}{a b:Int}(h1:ns[i]? =some a)(h2:ms[i]? =some b):(cV ns ms)[i]? =some (a*(aF ms:Int)-b*(aF ns:Int)):=by unfold cV;rw[cu,(wL (z:=(a,b))).mpr ⟨h1,h2⟩];rfl
def yO(j:Int)(ns ms:List Int):ai:=if aF (cV ns ms)=0 then .none else cH (Rat.divInt ((j*aF ns*aF ms)^2) ((aF (cV ns ms):Int)^2))
inductive UA(K:aa)(vs:List V)(H:Hp)(Q:VK):Prop |mk (v:_)(v1:_)(v2:_)(rs:_)(r:_)(f:_)(j:_)(t:_)(ns:_)(ms:_)(gA:_)(gP:_)(h0:vs=[v,v1,v2])(h1:RD K H v (iL rs r f j t))(h2:RD K H v1 (iu ns gA))(h3:RD K H v2 (iu ms gP))(h4:eu ns.length 1000 ns)(h5:eu ns.length 1000 ms)(h6:ns.length<=1000)(h7:1<=j)(h8:j<=50)(h9:∀v' H',RD K H' v' (yO j ns ms)->aB H H'->Q v' H'):UA K vs H Q
def DA(K:aa):Sp:=fun vs H Q _=>UA K vs H Q
theorem zip2{ns ms:List Int}(h:ms.length=ns.length){i:Nat}{x y:V}(ex:(ns.map V.int)[i]? =some x)(ey:(ms.map V.int)[i]? =some y):∃a b,ns[i]? =some a/\ms[i]? =some b/\x= .int a/\y= .int b:=by rw[cu]at ex ey;cases e1:ns[i]? with |none=>rw[e1]at ex;cases ex |some a=>cases e2:ms[i]? with |none=>rw[e2]at ey;cases ey |some b=>rw[e1]at ex;rw[e2]at ey;exact⟨a,b,rfl,rfl,(dG ex).symm,(dG ey).symm⟩
inductive Tq(K:aa)(vs:List V)(H:Hp)(Q:VK):Prop |mk (v1:_)(v2:_)(ns:_)(ms:_)(gA:_)(gP:_)(h0:vs=[v1,v2])(h1:RD K H v1 (iu ns gA))(h2:RD K H v2 (iu ms gP))(h3:eu ns.length 1000 ns)(h4:eu ns.length 1000 ms)(h5:ns.length<=1000)(h6:∀v' H',bc K H' v' (Rat.divInt (aF (cV ns ms)) ((aF ns:Int)*aF ms))->aB H H'->Q v' H'):Tq K vs H Q
def KU(K:aa):Sp:=fun vs H Q _=>Tq K vs H Q
theorem LR:bh ["one","other","greatest","way","new_way","p","q","difference"] ["one","other"] (aR DM):=bG (by decide+kernel)
theorem a0H(F:FA K mg "greatest_turn" DM)(B:bL mg)(Py:aD P w K mg base "ways_of" 4 (KR K))(a52:aD P w K mg base "minus" 3 (mC (·-·) K))(Hq:aD P w K mg base "is_less" 1 (uH K)):aD P w K mg base "greatest_turn" 5 (KU K):=by
 refine F.has LR (fun vs H Q E h=>?_) (fun _ _ _ _ _ _=>du fun _ _=>rfl) (fun f aJ A outer s H vs Q E hr h=>?_)
 · obtain⟨v1,v2,ns,ms,gA,gP,rfl,_⟩:=h
   rfl
 · obtain⟨v1,v2,ns,ms,gA,gP,rfl,FF,pQ,fP,e9,hz,k⟩:=h
   have nd:=LR.nd;obtain⟨lp1,lm1⟩:=fP.lead;obtain⟨lp2,GB⟩:=e9.lead;have Pw:ms.length<=1000:=by rw[e9.len];exact hz
   have a26:eu ms.length 1000 ms:=⟨rfl,e9.bd,e9.nz⟩;have cb:=BR (fun z hz=>by have:=fP.bd z hz;lia) (fun z hz=>by have:=e9.bd z hz;lia) (ns:=ns) (ms:=ms);have L0:(0:Int)<(aF ns:Int)*aF ms:=iG (by lia) (by lia);have Lb:((aF ns:Int)*aF ms).natAbs<=1000*1000:=kH (by lia) (by lia);have ac8:(cV ns ms).length=ns.length:=by simp[cV,e9.len]
   have Q6:∀c:Int,c.natAbs<=2000000->Bd 2000 (Rat.divInt c ((aF ns:Int)*aF ms)):=fun c hc=>(ka (n:=30) (by lia) (by lia) (by lia)).mono (by decide);refine⟨_,(aA (pS 2 nd (dP (O az (O az aw)))) (aA (lF gL rfl (jE K rfl false false rfl (B.at "zip") (O (pf Py hr (O (pv 0) aw)) (O (pf Py hr (O (pv 1) aw)) aw))) (dJ K rfl (n:=2) rfl (bO (bf 3 nd) (bO (bf 4 nd) dH))) (aA (fO (pf a52 hr (O (pv 4) (O (pv 3) aw))) (dJ K rfl (n:=2) rfl (bO (bf 5 nd) (bO (bf 6 nd) dH)))) (aA (pS 7 nd (dP (O (cZ (x:="abs") nv rfl (B.at "abs") pC (O (pv 5) aw)) (O (pv 6) aw)))) (aH (bJ (cI (pf Hq hr (O (pv 2) (O (pv 7) aw)))) (aH (pS 2 nd (pv 7))) bM))))) (aH (aQ (pv 2))))),?_⟩;refine⟨bP rfl,fun g0 H1 n1=>?_⟩;refine⟨_,rfl,v1,ns,gA,rfl,RD.mono n1.same _ FF,fP,hz,fun w1 H2 r2 s2=>?_⟩;have t2:=n1.same.trans s2;refine⟨_,rfl,v2,ms,gP,rfl,RD.mono t2 _ pQ,a26,Pw,fun w2 H3 r3 s3=>?_⟩;have t3:=t2.trans s3;obtain⟨c1,xs1,rfl,h1,q1⟩:=(RD.mono s3 _ r2).dZ;obtain⟨c2,xs2,rfl,h2,q2⟩:=r3.dZ;have l1:=q1.length;have l2:=q2.length;rw[cj]at l1 l2;refine⟨c1,c2,rfl,⟨_,h1⟩,⟨_,h2⟩,?_⟩;refine a76 (K:=K) (b1:=false) (b2:=false) (xs:=xs1) (ys:=xs2) ns.length (by rw[l1,l2,e9.len];lia) (fun i Z H4=>aB H3 H4/\∃g u1 u2 u3 u4 u5,bc K H4 g (Rat.divInt (qk (cV ns ms) i) ((aF ns:Int)*aF ms))/\Z=[some v1,some v2,some g,u1,u2,u3,u4,u5]) ?_ (fun i Z H4 _ h=>⟨h1.go h.1,h2.go h.1⟩) ?_ ?_
   · refine⟨aB.refl _,.ref g0,none,none,none,none,none,⟨g0,rfl,?_⟩,rfl⟩
     have e0:Rat.divInt ((qk (cV ns ms) 0:Nat):Int) ((aF ns:Int)*aF ms)=0:=by show Rat.divInt 0 _=0;exact Rat.zero_divInt _
     rw[e0];exact aP.of (s3 _ _ (s2 _ _ n1.at'))
   · rintro i x y Z H4 ex ey ⟨s4,g,u1,u2,u3,u4,u5,rg,rfl⟩ T H5 n5
     obtain⟨d1,e1,rx⟩:=q1.get' i ex;obtain⟨d2,e2,ry⟩:=q2.get' i ey;obtain⟨a,ea,rfl⟩:=lU e1;obtain⟨b,eb,rfl⟩:=lU e2;have qa:=fP.bd a (gy ea);have qb:=e9.bd b (gy eb);have cz:=K2 ea eb;have czb:=cb _ (gy cz);have t5:=s4.trans n5.same;refine⟨T,_,rfl,aP.of n5.at',rfl,_,_,rfl,_,_,rfl,rfl,?_⟩;have mG:∀{H':Hp}{v:V}{r:Rat},RD K H' v (cH r)->bc K H' v r:=fun{H' v r} h=>by obtain⟨p,xs,rfl,h1,h2⟩:=h.dZ;have:=h2.iM (ns:=[r.num,r.den]);subst this;exact⟨p,rfl,h1⟩
     refine⟨_,rfl,_,rfl,y,x,_,_,rfl,mG (RD.mono t5 _ ry),mG (RD.mono t5 _ rx),(ka (n:=30) (by lia) (by lia) (by lia)).mono (by decide),(ka (n:=30) (by lia) (by lia) (by lia)).mono (by decide),fun v6 H6 r6 s6=>?_⟩;have ed:Rat.divInt b (aF ms)-Rat.divInt a (aF ns)=Rat.divInt (b*aF ns-a*aF ms) ((aF ns:Int)*aF ms):=Xm (by lia) (by lia);have r6:bc K H6 v6 (Rat.divInt b (aF ms)-Rat.divInt a (aF ns)):=r6;rw[ed]at r6;obtain⟨p6,rfl,h6⟩:=r6;refine⟨p6,_,rfl,h6,rfl,_,_,rfl,_,_,rfl,rfl,?_⟩;refine⟨_,rfl,_,rfl,_,rfl,bP rfl,fun dd H7 n7=>?_⟩;have mE:=s6.trans n7.same;have rD:bc K H7 (.ref dd) (Rat.divInt (((a*(aF ms:Int)-b*(aF ns:Int)).natAbs:Nat):Int) ((aF ns:Int)*aF ms)):=by
      have e:Rat.divInt (((a*(aF ms:Int)-b*(aF ns:Int)).natAbs:Nat):Int) ((aF ns:Int)*aF ms)=tZ (Rat.divInt (b*aF ns-a*aF ms) ((aF ns:Int)*aF ms)):=by rw[aag L0,yT];congr 1;lia
      rw[e];refine⟨dd,rfl,?_⟩;rw[aaf,aah];exact aP.of n7.at'
     have rG:bc K H7 g _:=(rg.go n5.same).go mE;have hG:qk (cV ns ms) i<=2000000:=mO fun z hz=>cb z (CB hz);refine⟨_,rfl,_,rfl,g,.ref dd,_,_,rfl,rG,rD,Q6 _ (by lia),Q6 _ (by lia),_,rfl,?_⟩;have hs:=a5o cz;refine dR (fun hc=>?_) (fun hc=>?_)
     · have cy:=(RF L0).mp (jx hc)
       refine⟨_,rfl,?_⟩;refine⟨t5.trans mE,_,_,_,_,_,_,?_,rfl⟩;rw[hs,Nat.max_eq_right (by lia)];exact rD
     · have Bl:¬_:=fun z=>hc (cB ((RF L0).mpr z))
       refine⟨t5.trans mE,_,_,_,_,_,_,?_,rfl⟩;rw[hs,Nat.max_eq_left (by lia)];exact rG
   · rintro Z H4 ⟨s4,g,u1,u2,u3,u4,u5,rg,rfl⟩
     refine⟨_,rfl,k _ _ ?_ (t3.trans s4)⟩;have:qk (cV ns ms) ns.length=aF (cV ns ms):=by unfold qk;rw[JN (by lia)]
     rw[this]at rg;exact rg
theorem MU:bh ["machine","one","other","jump","p","q"] ["machine","one","other"] (aR F3):=bG (by decide+kernel)
theorem a1X(F:FA K mg "corner_square" F3)(B:bL mg)(a5q:aD P w K mg base "greatest_turn" 5 (KU K))(qm:aD P w K mg base "fraction" 3 (uF K)):aD P w K mg base "corner_square" 6 (DA K):=by
 refine F.has MU (fun vs H Q E h=>?_) (fun _ _ _ _ _ _=>ny fun _ _ _=>rfl) (fun f aJ A outer s H vs Q E hr h=>?_)
 · obtain⟨v,v1,v2,rs,r,f',j,t,ns,ms,gA,gP,rfl,_⟩:=h
   rfl
 · obtain⟨v,v1,v2,rs,r,f',j,t,ns,ms,gA,gP,rfl,rd,FF,pQ,fP,e9,hz,j1,j2,k⟩:=h
   have nd:=MU.nd;obtain⟨lp1,lm1⟩:=fP.lead;obtain⟨lp2,GB⟩:=e9.lead;have L0:(0:Int)<(aF ns:Int)*aF ms:=iG (by lia) (by lia);have Lb:((aF ns:Int)*aF ms).natAbs<=1000*1000:=kH (by lia) (by lia);have cb:=BR (fun z hz=>by have:=fP.bd z hz;lia) (fun z hz=>by have:=e9.bd z hz;lia) (ns:=ns) (ms:=ms);have hH:=mO cb;refine⟨_,(aA (pS 3 nd (px K (pv 0) az)) (aA (fO (pf a5q hr (O (pv 1) (O (pv 2) aw))) (dJ K rfl (n:=2) rfl (bO (bf 4 nd) (bO (bf 5 nd) dH)))) (aA (bJ (bW (cP K rfl hr.units) (pv 4) az (bo _)) (aH (aQ kE)) bM) (aH (aQ (pf qm hr (O (aG bu (aG bu (aG bu (pv 3) (pv 3)) (pv 5)) (pv 5)) (O (aG bu (pv 4) (pv 4)) aw)))))))),?_⟩;obtain⟨am,bm,rfl,gC,jn⟩:=kI rd;refine⟨_,rfl,.inr ⟨am,_,3,.int j,rfl,rfl,gC,rfl,?_⟩⟩;refine⟨_,rfl,_,rfl,v1,v2,ns,ms,gA,gP,rfl,FF,pQ,fP,e9,hz,fun v3 H3 r3 s3=>?_⟩;obtain⟨Ja⟩:Nonempty (Bd 30 (Rat.divInt (aF (cV ns ms)) ((aF ns:Int)*aF ms))):=⟨ka (n:=30) (by lia) (by lia) (by lia)⟩;have en:=qS (Rat.divInt (aF (cV ns ms)) ((aF ns:Int)*aF ms));obtain⟨R,hR⟩:∃R,Rat.divInt (aF (cV ns ms)) ((aF ns:Int)*aF ms)=R:=⟨_,rfl⟩;rw[hR]at r3 Ja en;have dp:=den_pos R;have yN:R.num*((aF ns:Int)*aF ms)=aF (cV ns ms)*R.den:=by rw[<-hR]at en;have:=(Rat.divInt_eq_divInt_iff (by rw[hR];lia) (by lia)).mp en;rw[hR]at this;exact this
   have nb:=Ja.num;have db:=Ja.den;obtain⟨p3,rfl,h3⟩:=r3;refine⟨p3,_,rfl,h3,rfl,_,_,rfl,_,_,rfl,rfl,?_⟩;refine⟨_,rfl,.inl ⟨_,_,rfl,rfl,_,rfl,?_⟩⟩;refine dR (fun hc=>?_) (fun hc=>?_)
   · have h0:R.num=0:=by simpa using hc
     have hl:aF (cV ns ms)=0:=by
      rw[h0,zv]at yN;rcases Int.mul_eq_zero.mp yN.symm with h|h
      ·lia
      ·lia
     refine k .bp H3 ?_ s3;unfold yO;rw[aY hl];exact YZ
   · have h0:R.num≠0:=by simpa using hc
     have hl:aF (cV ns ms)≠0:=by
      intro z;rw[z]at yN;have:R.num*((aF ns:Int)*aF ms)=0:=by rw[yN];exact zv _
      rcases Int.mul_eq_zero.mp this with h|h
      ·exact h0 h
      ·lia
     have m1:(j*j).natAbs<=50*50:=kH (by lia) (by lia);have kQ:(2:Nat)^64=18446744073709551616:=by decide
     refine⟨_,rfl,_,rfl,_,_,rfl,rfl,.of_left (bV (by lia) (by lia)),_,rfl,_,_,rfl,rfl,.of_left (bV (by lia) (by lia)),_,rfl,_,_,rfl,rfl,.of_right (bV (by lia) (by lia)),?_⟩;refine⟨_,rfl,_,rfl,_,_,rfl,rfl,.of_left (bV (by lia) (by lia)),?_⟩;refine⟨_,_,rfl,JV h0 h0,?_,fun v4 H4 r4 s4=>?_⟩
     · refine gM (n:=60) ?_ (by decide)
       rw[fF];exact kG (n:=30) (m:=30) nb nb
     · refine k _ _ ?_ (s3.trans s4)
       unfold yO;rw[aZ hl];have e:=a9d (j:=j) (p:=R.num) (q:=R.den) (h:=aF (cV ns ms)) (L:=(aF ns:Int)*aF ms) h0 (by lia) yN;rw[e,<-uv]at r4;exact r4.rd
def Ny (d:ai):Bool:=gq 10 200 d
inductive TX(K:aa)(vs:List V)(H:Hp)(Q:VK):Prop |mk (v:_)(d:_)(h0:vs=[v])(h1:RD K H v d)(h2:Q (.bl (Ny d)) H):TX K vs H Q
def Dq(K:aa):Sp:=fun vs H Q _=>TX K vs H Q
theorem MH:bh ["thing"] ["thing"] (aR EM):=bG (by decide+kernel)
theorem a1L(F:FA K mg "is_rate" EM)(B:bL mg)(a66:GV mg "LEAST_RATE" (.int 10))(a68:GV mg "GREATEST_RATE" (.int 200))(oO:aD P w K mg base "is_whole_within" 2 (rJ K)):aD P w K mg base "is_rate" 3 (Dq K):=by
 refine F.has MH (fun vs H Q E h=>?_) (fun _ _ _ _ _ _=>fg fun _=>rfl) (fun f aJ A outer s H vs Q E hr h=>?_)
 · obtain⟨v,d,rfl,_⟩:=h
   rfl
 · obtain⟨v,d,rfl,rd,k⟩:=h
   have nd:=MH.nd;refine⟨_,(aH (aQ (pf oO hr (O (pv 0) (O (ek (x:="LEAST_RATE") rfl a66) (O (ek (x:="GREATEST_RATE") rfl a68) aw)))))),?_⟩;exact⟨_,rfl,v,d,10,200,rfl,rd,k⟩
inductive Ts(K:aa)(vs:List V)(H:Hp)(Q:VK):Prop |mk (v:_)(ns:_)(sp:_)(r:_)(h0:vs=[v,.int r])(h1:RD K H v (iu ns sp))(h2:1<=sp)(h3:sp<=20)(h4:10<=r)(h5:r<=200)(h6:∀v' H',bc K H' v' (Rat.divInt ((sp*r)^2) 10000)->aB H H'->Q v' H'):Ts K vs H Q
def zW(K:aa):Sp:=fun vs H Q _=>Ts K vs H Q
theorem KO(a b:Int):a*a*b*b=(a*b)^2:=by rw[fE,fE,lb,kr];ac_rfl
theorem Z9{r:Int}(h1:10<=r)(h2:r<=200):Ny (.int r)=true:=by show(decide (10<=r)&&decide (r<=200))=true;rw[cB h1,cB h2];rfl
theorem LU:bh ["line","rate","speed"] ["line","rate"] (aR DP):=bG (by decide+kernel)
theorem a0J(F:FA K mg "top_square" DP)(B:bL mg)(a5e:aD P w K mg base "is_rate" 3 (Dq K))(qm:aD P w K mg base "fraction" 3 (uF K)):aD P w K mg base "top_square" 4 (zW K):=by
 refine F.has LU (fun vs H Q E h=>?_) (fun _ _ _ _ _ _=>du fun _ _=>rfl) (fun f aJ A outer s H vs Q E hr h=>?_)
 · obtain⟨v,ns,sp,r,rfl,_⟩:=h
   rfl
 · obtain⟨v,ns,sp,r,rfl,rd,s1,s2,r1,r2,k⟩:=h
   have nd:=LU.nd;refine⟨_,(aA (bJ (fi (cI (pf a5e hr (O (pv 1) aw)))) (aH uS) bM) (aA (pS 2 nd (px K (pv 0) az)) (aH (aQ (pf qm hr (O (aG bu (aG bu (aG bu (pv 2) (pv 2)) (pv 1)) (pv 1)) (O (aG bu az az) aw))))))),?_⟩;refine⟨_,rfl,_,.int r,rfl,dN r,_,rfl,?_⟩;rw[Z9 r1 r2];refine bB ?_;obtain⟨a,b,rfl,ha,hb⟩:=lI rd;refine⟨_,rfl,.inr ⟨a,_,2,.int sp,rfl,rfl,ha,rfl,?_⟩⟩;have m1:(sp*sp).natAbs<=20*20:=by rw[fF];exact ml (by lia) (by lia)
   refine⟨_,rfl,_,rfl,_,_,rfl,rfl,.of_left (bV (by lia) (by lia)),_,rfl,_,_,rfl,rfl,.of_left (bV (by lia) (by lia)),_,rfl,_,_,rfl,rfl,.of_right (bV (by lia) (by lia)),?_⟩;refine⟨_,_,rfl,rfl,.of_left (bV (by decide) (by decide)),?_⟩;refine⟨_,_,rfl,by decide,gM (n:=20) (by decide) (by decide),fun v' H' r' s'=>k v' H' ?_ s'⟩;rw[KO]at r';exact r'
inductive Tr(K:aa)(vs:List V)(H:Hp)(Q:VK):Prop |mk (v:_)(ns:_)(sp:_)(r:_)(h0:vs=[v,.int r])(h1:RD K H v (iu ns sp))(h2:1<=sp)(h3:sp<=20)(h4:10<=r)(h5:r<=200)(h6:∀v' H',bc K H' v' (Rat.divInt ((sp*r)^2) 10000)->aB H H'->Q v' H'):Tr K vs H Q
def Dl(K:aa):Sp:=fun vs H Q _=>Tr K vs H Q
theorem LS:bh ["_law_line_here","_law_rate"] ["_law_line_here","_law_rate"] (aR DN):=bG (by decide+kernel)
open Pn
open Ow (topR cornO mnO betR atO ownF leadF ownL OkI OkIs)
theorem XD(n:Nat)(h:n<=1000):n<sizeLine:=pD h (by decide)
theorem mG{H:Hp}{v:V}{r:Rat}(h:RD K H v (cH r)):bc K H v r:=by obtain⟨p,xs,rfl,h1,h2⟩:=h.dZ;have:=h2.iM (ns:=[r.num,r.den]);subst this;exact⟨p,rfl,h1⟩
theorem eu.up{ax:Nat}{ns:List Int}(h:eu ax 100 ns):eu ns.length 1000 ns:=⟨rfl,fun z hz=>by have:=h.bd z hz;lia,h.nz⟩
theorem gD.vc{ax:Nat}{ds:List ai}{os:List Itm}(h:gD ax ds os):OkIs os:=fun i ns sp e=>by unfold atO at e;cases ho:os[i]? with |none=>rw[ho]at e;cases e |some o=>rw[ho]at e;have e':o=some (ns,sp):=e;subst e';obtain⟨a,b,c⟩:=h.ok i ns sp ho;exact⟨a.bd,b,c⟩
theorem sy{H:Hp}{a:Addr}(h:aP K H a [.int 0,.int 1]):bc K H (.ref a) 0:=⟨a,rfl,h⟩
theorem a9f(j:Int)(ns ms:List Int):yO j ns ms=match cornO j ns ms with|none=>.none|some c=>cH c:=by unfold yO cornO;split<;>rfl
inductive UC(K:aa)(vs:List V)(H:Hp)(Q:VK):Prop |mk (m:_)(v1:_)(v2:_)(ay:_)(rs:_)(r:_)(f:_)(j:_)(t:_)(d1:_)(d2:_)(o1:_)(o2:_)(ax:_)(h0:vs=[m,v1,v2,.int ay])(h1:RD K H m (iL rs r f j t))(h2:1<=j)(h3:j<=50)(h4:RD K H v1 d1)(h5:RD K H v2 d2)(h6:itR d1 o1)(h7:itR d2 o2)(h8:(∀ns sp,o1=some (ns,sp)->eu ax 100 ns/\1<=sp/\sp<=20))(h9:(∀ns sp,o2=some (ns,sp)->eu ax 100 ns/\1<=sp/\sp<=20))(yB:ax<=100)(Ql:10<=ay)(Qk:ay<=200)(Qj:∀v H',bc K H' v (betR j ay o1 o2)->aB H H'->Q v H'):UC K vs H Q
def A3(K:aa):Sp:=fun vs H Q _=>UC K vs H Q
theorem MX:bh ["machine","one","other","rate","squares","corner"] ["machine","one","other","rate"] (aR F9):=bG (by decide+kernel)
theorem a20(F:FA K mg "bound_between" F9)(B:bL mg)(gN:GT K mg "NOUGHT" [.int 0,.int 1])(qj:aD P w K mg base "is_line" 1 (uJ K))(AZ:aD P w K mg base "top_square" 4 (zW K))(a5B:aD P w K mg base "corner_square" 6 (DA K))(vK:aD P w K mg base "least" 2 (jc K)):aD P w K mg base "bound_between" 7 (A3 K):=by
 obtain⟨aN,kP,mz⟩:=gN;refine F.has MX (fun vs H Q E h=>?_) (fun _ _ _ _ _ _=>C4 fun _ _ _ _=>rfl) (fun f aJ A outer s H vs Q E hr h=>?_)
 · obtain⟨m,v1,v2,ay,rs,r,f,j,t,d1,d2,o1,o2,ax,rfl,_⟩:=h
   rfl
 · obtain⟨m,v1,v2,ay,rs,r,f,j,t,d1,d2,o1,o2,ax,rfl,rm,j1,j2,r1,r2,i1,i2,k1,k2,Q8,dk,dF,k⟩:=h
   have nd:=MX.nd;refine⟨_,(aA (bJ (PW.pt (kD (fi (cI (pf qj hr (O (pv 1) aw)))) (lE (fi (cI (pf qj hr (O (pv 2) aw))))))) (aH (aQ (ek (x:="NOUGHT") rfl kP))) bM) (aA (pS 4 nd (df (O (pf AZ hr (O (pv 1) (O (pv 3) aw))) (O (pf AZ hr (O (pv 2) (O (pv 3) aw))) aw)))) (aA (pS 5 nd (pf a5B hr (O (pv 0) (O (pv 1) (O (pv 2) aw))))) (aA (gU (bJ (bW xI (pv 5) kE (bo _)) (aH (gF (je K rfl (pv 4) (O (pv 5) aw)))) bM)) (aH (aQ (pf vK hr (O (pv 4) aw)))))))),?_⟩;refine⟨_,rfl,v1,d1,o1,rfl,r1,i1,_,rfl,?_⟩;cases o1 with |none=>refine bT (bT ?_);have:=k _ H (sy (mz H)) (aB.refl _);exact this |some q1=>obtain⟨ns,sp⟩:=q1;refine bB ?_;refine⟨_,rfl,v2,d2,o2,rfl,r2,i2,_,rfl,?_⟩;cases o2 with |none=>refine bT ?_;exact k _ H (sy (mz H)) (aB.refl _) |some q2=>obtain⟨ms,sq⟩:=q2;refine bB ?_;have e1:=kj i1;have e2:=kj i2;subst e1 e2;obtain⟨fP,a1,a2⟩:=k1 ns sp rfl;obtain⟨e9,b1,b2⟩:=k2 ms sq rfl;refine⟨_,rfl,_,rfl,v1,ns,sp,ay,rfl,r1,a1,a2,dk,dF,fun t1 H1 Fu s1=>?_⟩;refine⟨_,rfl,_,rfl,v2,ms,sq,ay,rfl,RD.mono s1 _ r2,b1,b2,dk,dF,fun t2 H2 Ft s2=>?_⟩;refine⟨bP rfl,fun l H3 n3=>?_⟩;have t3:=s1.trans (s2.trans n3.same);have Aq:eu ns.length 1000 ms:=⟨by rw[fP.len,e9.len],e9.up.bd,e9.nz⟩;refine⟨_,rfl,_,rfl,_,rfl,m,v1,v2,rs,r,f,j,t,ns,ms,sp,sq,rfl,RD.mono t3 _ rm,RD.mono t3 _ r1,RD.mono t3 _ r2,fP.up,Aq,by rw[fP.len];lia,j1,j2,fun c H4 rc s4=>?_⟩;have T1:Bd 2000 (topR ay sp):=(Ow.uz a1 a2 dk dF).mono (by decide);have T2:Bd 2000 (topR ay sq):=(Ow.uz b1 b2 dk dF).mono (by decide);have R1:bc K H4 t1 (topR ay sp):=((Fu.go s2).go n3.same).go s4;have R2:bc K H4 t2 (topR ay sq):=(Ft.go n3.same).go s4;have t4:=t3.trans s4;rw[a9f]at rc;cases hc:cornO j ns ms with
       |none=>
         rw[hc]at rc;cases rc.Oh;refine⟨fun Z H5=>H5=H4/\Z=[some m,some v1,some v2,some (.int ay),some (.ref l),some .bp],?_,?_⟩
         · refine⟨_,rfl,rfl,_,rfl,bB ?_⟩
           exact⟨rfl,rfl⟩
         rintro Z H5 ⟨rfl,rfl⟩;refine⟨_,rfl,l,[t1,t2],[topR ay sp,topR ay sq],rfl,aE.of (s4 _ _ n3.at'),⟨R1,T1,R2,T2,trivial⟩,by simp,fun i v q e1 e2 hq=>?_⟩;have sW:betR j ay (some (ns,sp)) (some (ms,sq))=q:=by
          show mnO (mn _ _) (cornO j ns ms)=q;rw[hc];refine mK ?_ (hq _ (by simp)) (hq _ (by simp))
          match i,e2 with |0,e2=>cases e2;exact .inl rfl |1,e2=>cases e2;exact .inr rfl
         refine k v _ ?_ t4;rw[sW]
         match i,e1,e2 with |0,e1,e2=>cases e1;cases e2;exact R1 |1,e1,e2=>cases e1;cases e2;exact R2
       |some cq=>
         rw[hc]at rc;have Rc:bc K H4 c cq:=mG rc;have Tc:Bd 2000 cq:=(Ow.IZ j1 j2 fP.bd e9.bd hc).mono (by decide);have jM:=s4 _ _ n3.at';have tU:iB H4 (L2.upd H4 l (.lst ([t1,t2]++[c]))):=.pJ jM;refine⟨fun Z H5=>H5=L2.upd H4 l (.lst ([t1,t2]++[c]))/\Z=[some m,some v1,some v2,some (.int ay),some (.ref l),some c],?_,?_⟩
         · obtain⟨pc,rfl,_⟩:=id Rc
           refine⟨_,rfl,rfl,_,rfl,bT ?_⟩;refine⟨_,rfl,.inl ⟨rfl,_,aE.of jM⟩,_,rfl,l,[t1,t2],_,rfl,rfl,jM,XD _ (Nat.le_of_ble_eq_true rfl),?_⟩;exact⟨rfl,rfl⟩
         rintro Z H5 ⟨rfl,rfl⟩;have up:∀{v:V}{q:Rat},bc K H4 v q->bc K (L2.upd H4 l (.lst ([t1,t2]++[c]))) v q:=fun{v q} h=>mG (RD.t tU _ (pR q) h.rd);refine⟨_,rfl,l,[t1,t2,c],[topR ay sp,topR ay sq,cq],rfl,aE.of ba,⟨up R1,T1,up R2,T2,up Rc,Tc,trivial⟩,by simp,fun i v q e1 e2 hq=>?_⟩;have sW:betR j ay (some (ns,sp)) (some (ms,sq))=q:=by
          show mnO (mn _ _) (cornO j ns ms)=q;rw[hc];show mn (mn _ _) cq=q;have h1:=hq _ (show topR ay sp∈[topR ay sp,topR ay sq,cq] by simp);have h2:=hq _ (show topR ay sq∈[topR ay sp,topR ay sq,cq] by simp);have h3:=hq _ (show cq∈[topR ay sp,topR ay sq,cq] by simp);refine mK ?_ (kJ h1 h2) h3
          match i,e2 with |0,e2=>cases e2;exact .inl (mK (.inl rfl) h1 h2).symm |1,e2=>cases e2;exact .inl (mK (.inr rfl) h1 h2).symm |2,e2=>cases e2;exact .inr rfl
         have sU:aB H (L2.upd H4 l (.lst ([t1,t2]++[c]))):=fun b o e=>by have h0:H2 l=none:=n3.no;have e2:=s2 b o (s1 b o e);rw[aK (fQ e2 h0)];exact t4 b o e
         refine k v _ ?_ sU;rw[sW]
         match i,e1,e2 with |0,e1,e2=>cases e1;cases e2;exact up R1 |1,e1,e2=>cases e1;cases e2;exact up R2 |2,e1,e2=>cases e1;cases e2;exact up Rc
theorem vh(qs:List Rat):cK (qs.map cH)=true:=Ol pR qs
theorem aI.DF{H:Hp}{l:Addr}{ys:List V}{y:V}{ds:List ai}{d:ai}{i:Nat}(dl:H l=some (.lst ys))(r:aI K H ys ds)(rd:RD K H y d)(n1:cK ds=true)(n2:fe d=true):aI K (L2.upd H l (.lst (ys.set i y))) (ys.set i y) (ds.set i d):=by have t:iB H (L2.upd H l (.lst (ys.set i y))):=.pJ dl;have r':=aI.t t _ n1 r;have Nu:=RD.t t _ n2 rd;clear r rd dl t;generalize L2.upd H l (.lst (ys.set i y))=H' at r' Nu;induction ds generalizing ys i with |nil=>cases r'.nil_inv;exact cL |cons d0 ds ih=>
   obtain⟨y0,yr,rfl,h1,h2⟩:=r'.cons_inv;have n1':cK ds=true:=by rw[cK,eV]at n1;exact n1.2
   cases i with |zero=>exact bQ Nu h2 |succ i=>exact bQ h1 (ih n1' h2)
theorem IY(xs:List V):me xs (some 1) none=xs.drop 1:=by unfold me;have e:HT.ck xs.length 0 (some 1)=min 1 xs.length:=HT.N2 _ _ 1;rw[e,HT.Ye];cases xs with |nil=>rfl |cons x xs=>
   have e2:min 1 (x::xs).length=1:=by simp
   rw[e2,JN (by simp)]
inductive Ud(K:aa)(vs:List V)(H:Hp)(Q:VK):Prop |mk (m:_)(iv:_)(ay:_)(rs:_)(r:_)(f:_)(j:_)(t:_)(ds:_)(os:_)(h0:vs=[m,iv,.int ay])(h1:RD K H m (iL rs r f j t))(h2:nH rs r f j t)(h3:RD K H iv (.tuple ds))(h4:gD rs.length ds os)(h5:ds.length<=100)(h6:10<=ay)(h7:ay<=200)(h8:∀l ys H',H l=none->H' l=some (.lst ys)->aI K H' ys ((ownL j ay os).map cH)->aB H H'->Q (.ref l) H'):Ud K vs H Q
def Ls(K:aa):Sp:=fun vs H Q _=>Ud K vs H Q
theorem A4:bh ["machine","items","rate","between"] ["machine","items","rate"] (aR A5):=bG (by decide+kernel)
theorem a1u(F:FA K mg "own_bounds" A5)(B:bL mg)(gN:GT K mg "NOUGHT" [.int 0,.int 1])(Hx:aD P w K mg base "bound_between" 7 (A3 K)):aD P w K mg base "own_bounds" 8 (Ls K):=by
 obtain⟨aN,kP,mz⟩:=gN;refine F.has A4 (fun vs H Q E h=>?_) (fun _ _ _ _ _ _=>ny fun _ _ _=>rfl) (fun f aJ A outer s H vs Q E hr h=>?_)
 · obtain⟨m,iv,ay,rs,r,f,j,t,ds,os,rfl,_⟩:=h
   rfl
 · obtain⟨m,iv,ay,rs,r,f,j,t,ds,os,rfl,rm,aM,ri,row,hz,dk,dF,k⟩:=h
   have nd:=A4.nd;have rN:∀H',RD K H' (.ref aN) (cH 0):=fun H'=>(sy (mz H')).rd;refine⟨_,(aA (bJ (fi (FR K rfl (pv 1))) (aH (aQ (df (O (ek (x:="NOUGHT") rfl kP) aw)))) bM) (aA (FU (i0:=3) nd rfl (Or.inl rfl) (N:=["one","other","machine","rate"]) (js:=[none,none,some 0,some 2]) rfl rfl rfl (jE K rfl false false rfl (B.at "zip") (O (pv 1) (O (FZ (DB K rfl) (pv 1) (FV az) FW) aw))) (fun _ _ _ _ _=>(dJ K rfl (n:=2) rfl (bO (bf 0 (show List.Nodup (["one","other","machine","rate"]:List Str) by decide+kernel)) (bO (bf 1 (show List.Nodup (["one","other","machine","rate"]:List Str) by decide+kernel)) dH)))) (fun _ _ _ _ _=>fw) (fun _ _ _ _ _=>(pf Hx hr (O (pv 2) (O (pv 0) (O (pv 1) (O (pv 3) aw))))))) (aH (aQ (aG (wm K rfl) (aG (wm K rfl) (df (O (ek (x:="NOUGHT") rfl kP) aw)) (pv 3)) (df (O (ek (x:="NOUGHT") rfl kP) aw))))))),?_⟩;obtain⟨ia,xs,rfl,hi,hW⟩:=ri.dZ;have lx:=hW.length;have ll:=row.len;refine⟨_,rfl,_,.inr (.inl ⟨_,hi,rfl⟩),?_⟩;cases hd:xs with
   |nil=>
     subst hd;refine bT ?_;refine⟨bP rfl,fun l H1 n1=>?_⟩;refine k l [.ref aN] H1 n1.no n1.at' ?_ n1.same;have e:os=[]:=by
      have:os.length=0:=by rw[<-ll,<-lx];rfl
      exact CD.mp this
     rw[e];exact bQ (rN H1) cL |cons x0 xr=>
     refine bB ?_;have dy:os≠[]:=by intro e;rw[e]at ll;rw[hd]at lx;simp at ll lx;rw[ll]at lx;cases lx
     have GX:0<xs.length:=by rw[hd];simp
     refine⟨_,rfl,_,rfl,1,rfl,ia,xs,rfl,.inr ⟨hi,?_,fun tl H1 n1=>?_⟩⟩
     · rintro⟨h1,_⟩
       have e:HT.ck xs.length 0 (some 1)=min 1 xs.length:=HT.N2 _ _ 1;rw[e]at h1
       lia
     refine⟨ia,tl,rfl,⟨_,hi.go n1.same⟩,⟨_,aP.of n1.at'⟩,fun D H2 n2=>?_⟩;have et:=n1.at';rw[IY]at et;have xK:∀(i:Nat)(o:Itm),os[i]? =some o->∀(ns:List Int)(sp:Int),o=some (ns,sp)->eu rs.length 100 ns/\1<=sp/\sp<=20:=fun i o e ns sp e'=>row.ok i ns sp (by rw[e,e']);have lr:=aM.len;refine tX (K:=K) (b1:=false) (b2:=false) (xs:=xs) (ys:=xs.drop 1) (ds:=((List.range (os.length-1)).map (fun i=>ownF j ay os (i+1))).map cH) _ rfl (hi.go n1.same) (aP.of et) n2 (by rw[JS];simp;lia) (by simp;lia) (vh _) ?_ ?_
     · intro i x y d H3 Q' ex ey ed s3 hq
       have cY:=n1.same.trans s3;rw[List.getElem?_drop]at ey;obtain⟨d1,e1,r1⟩:=hW.get' i ex;obtain⟨d2,e2,r2⟩:=hW.get' (1+i) ey;obtain⟨o1,mY,i1⟩:=row.get e1;obtain⟨o2,lM,i2⟩:=row.get e2;have PU:1+i<os.length:=(dC.mp lM).1;have kU:d=cH (betR j ay o1 o2):=by rw[cu,cu,bZ (by simp;lia),ur]at ed;have:=(dG ed).symm;rw[this];show cH (betR j ay (atO os i) (atO os (i+1)))=_;rw[Ow.p7 mY,Ow.p7 (show os[i+1]? =some o2 by rw[Nat.add_comm];exact lM)]
       subst kU;refine⟨_,rfl,_,rfl,_,rfl,_,rfl,m,x,y,ay,rs,r,f,j,t,d1,d2,o1,o2,rs.length,rfl,RD.mono cY _ rm,aM.j1.1,aM.j1.2,RD.mono cY _ r1,RD.mono cY _ r2,i1,i2,xK _ _ mY,xK _ _ lM,by lia,dk,dF,fun v H4 rv s4=>?_⟩;exact hq _ _ s4 rv.rd
     · intro H3 zs s3 d3 r3
       have lz:=r3.length;simp at lz;refine⟨bP rfl,fun l1 H4 n4=>?_⟩;refine⟨_,rfl,l1,D,_,zs,rfl,rfl,aE.of n4.at',aE.of (n4.same _ _ d3),xn _ (by simp;lia),fun l2 H5 n5=>?_⟩;refine⟨bP rfl,fun l3 H6 n6=>?_⟩;refine⟨l2,l3,_,_,rfl,rfl,aE.of (n6.same _ _ n5.at'),aE.of n6.at',xn _ (by simp;lia),fun l H7 n7=>?_⟩;have xu:aB H H6:=n1.same.trans (s3.trans (n4.same.trans (n5.same.trans n6.same)));have nl:H l=none:=by cases e:H l with |none=>rfl |some o=>have:=xu _ _ e;rw[n7.no]at this;cases this
       refine k l _ H7 nl n7.at' ?_ (xu.trans n7.same);rw[Ow.NY j ay dy,nR,nR];exact((bQ (rN H7) cL).append (aI.mono (n4.same.trans (n5.same.trans (n6.same.trans n7.same))) _ r3)).append (bQ (rN H7) cL)
inductive Ub(K:aa)(vs:List V)(H:Hp)(Q:VK):Prop |mk (v:_)(r:_)(z:_)(h0:vs=[v,.int z])(h1:bc K H v r)(h2:Bd 2000 r)(h3:z.natAbs<2^24)(h4:∀v H',bc K H' v (r+(z:Rat))->aB H H'->Q v H'):Ub K vs H Q
def A1(K:aa):Sp:=fun vs H Q _=>Ub K vs H Q
theorem xr_addz {r : Rat} {z : Int} (m : r + (z : Rat) = Rat.divInt (r.num * (1:Nat) + z * r.den) (r.den * (1:Nat))) : r.num + z * r.den = (r + (z : Rat)).num ∧ (r.den : Int) = (r + (z : Rat)).den := by
  have c : (r.num + z * r.den).natAbs.Coprime r.den := (Int.gcd_add_mul_right_left (r.den : Int) r.num z).trans r.reduced
  have e : r + (z : Rat) = ⟨r.num + z * r.den, r.den, r.den_nz, c⟩ := by
    rw [m, Rat.mk_eq_divInt, Int.natCast_one, Int.mul_one, Int.mul_one]
  rw [e]
  exact ⟨rfl, rfl⟩
theorem Mp:bh ["one","more","p","q"] ["one","more"] (aR Et):=bG (by decide+kernel)
theorem a1q(F:FA K mg "plus_whole" Et)(B:bL mg):aD P w K mg base "plus_whole" 4 (A1 K):=by
 refine F.has Mp (fun vs H Q E h=>?_) (fun _ _ _ _ _ _=>du fun _ _=>rfl) (fun f aJ A outer s H vs Q E hr h=>?_)
 · obtain⟨v,r,z,rfl,_⟩:=h
   rfl
 · obtain⟨v,r,z,rfl,rv,br,hz,k⟩:=h
   have nd:=Mp.nd
   obtain ⟨p,rfl,hp⟩:=rv
   refine ⟨_,(aA (fO (pv 0) (dJ K rfl (n:=2) rfl (bO (bf 2 nd) (bO (bf 3 nd) dH)))) (aH (aQ (dP (O (aG cJ (pv 2) (aG bu (pv 1) (pv 3))) (O (pv 3) aw)))))),?_⟩
   refine ⟨_,rfl,_,_,rfl,hp,rfl,_,_,rfl,_,_,rfl,rfl,?_⟩
   have bz:Bd 24 (z:Rat):=⟨hz,by show 1<2^24;decide⟩
   obtain ⟨e1,e2⟩:=xr_addz (add_div r z)
   refine ⟨_,rfl,_,rfl,_,rfl,_,_,rfl,rfl,ij (bz.mono (by decide)).wn.bits br.wd.bits,_,_,rfl,rfl,_,rfl,bP rfl,fun t H' n=>k _ _ ⟨t,rfl,aP.of ?_⟩ n.same⟩
   rw [← e1,← e2]; exact n.at'
theorem AS{os:List Itm}{i:Nat}{ns:List Int}{sp:Int}(h:os[i]? =some (some (ns,sp))):leadF os i=some (aF ns):=by unfold leadF;rw[Ow.p7 h];rfl
theorem P4{os:List Itm}{i:Nat}(h:os[i]? =some none):leadF os i=none:=by unfold leadF;rw[Ow.p7 h];rfl
theorem P5{os:List Itm}(h:OkIs os){i m:Nat}(e:leadF os i=some m):m<=100:=by unfold leadF at e;cases ho:atO os i with |none=>rw[ho]at e;cases e |some q=>rw[ho]at e;cases e;obtain⟨a,_,_⟩:=h i q.1 q.2 ho;exact mO fun z hz=>by have:=a z hz;lia
theorem Kf{r:Int}{m:Nat}(h1:1<=r)(h2:r<=50)(h3:m<=100):(2*r*(m:Int)).natAbs<2^24:=by
 have kR:(2:Nat)^24=16777216:=by decide
 have:=kH (a:=2*r) (b:=(m:Int)) (m:=100) (n:=100) (by lia) (by lia);rw[kR];lia
theorem MQ:bh ["machine","items","squares","fall","kept","i"] ["machine","items","squares"] (aR EX):=bG (by decide+kernel)
theorem LZ:bh ["_law_one","_law_other_here"] ["_law_one","_law_other_here"] (aR DU):=bG (by decide+kernel)
theorem a0O(F:FA K mg "_law_sum" DU)(B:bL mg)(qx:aD P w K mg base "_law_frac" 1 (xi K)):aD P w K mg base "_law_sum" 2 (mC (·+·) K):=by
 refine F.has LZ (fun vs H Q E h=>?_) (fun _ _ _ _ _ _=>du fun _ _=>rfl) (fun f aJ A outer s H vs Q E hr h=>?_)
 · obtain⟨v1,v2,r,s,rfl,_⟩:=h
   rfl
 · obtain⟨v1,v2,r,s,rfl,⟨p,rfl,hp⟩,⟨q,rfl,hq⟩,br,bs,k⟩:=h
   have nd:=LZ.nd;refine⟨_,(aH (aQ (pf qx hr (O (aG cJ (aG bu (px K (pv 0) az) (px K (pv 1) az)) (aG bu (px K (pv 1) az) (px K (pv 0) az))) (O (aG bu (px K (pv 0) az) (px K (pv 1) az)) aw))))),?_⟩;refine⟨_,rfl,.inr ⟨p,_,0,.int r.num,rfl,rfl,hp,rfl,_,rfl,.inr ⟨q,_,1,.int s.den,rfl,rfl,hq,rfl,_,_,rfl,rfl,ij br.wn.bits bs.wd.bits,?_⟩⟩⟩;refine⟨_,rfl,.inr ⟨q,_,0,.int s.num,rfl,rfl,hq,rfl,_,rfl,.inr ⟨p,_,1,.int r.den,rfl,rfl,hp,rfl,_,_,rfl,rfl,ij bs.wn.bits br.wd.bits,?_⟩⟩⟩;refine⟨_,_,rfl,rfl,?_⟩;refine⟨_,rfl,.inr ⟨p,_,1,.int r.den,rfl,rfl,hp,rfl,_,rfl,.inr ⟨q,_,1,.int s.den,rfl,rfl,hq,rfl,_,_,rfl,rfl,ij br.wd.bits bs.wd.bits,?_⟩⟩⟩;refine⟨_,_,rfl,iG (den_pos r) (den_pos s),zF br bs,fun v H' r' s'=>k v H' ?_ s'⟩;show bc K H' v (r+s);rw[add_div];exact r'
theorem My:bh ["_law_one","_law_other_here"] ["_law_one","_law_other_here"] (aR EF):=bG (by decide+kernel)
theorem a1E(F:FA K mg "_law_less" EF)(B:bL mg):aD P w K mg base "_law_less" 1 (uH K):=by
 refine F.has My (fun vs H Q E h=>?_) (fun _ _ _ _ _ _=>du fun _ _=>rfl) (fun f aJ A outer s H vs Q E hr h=>?_)
 · obtain⟨v1,v2,r,s,rfl,_⟩:=h
   rfl
 · obtain⟨v1,v2,r,s,rfl,⟨p,rfl,hp⟩,⟨q,rfl,hq⟩,br,bs,k⟩:=h
   have nd:=My.nd;refine⟨_,(aH (aQ (fb jF (aG bu (px K (pv 0) az) (px K (pv 1) az)) (aG bu (px K (pv 1) az) (px K (pv 0) az)) (bo _)))),?_⟩;refine⟨_,rfl,.inr ⟨p,_,0,.int r.num,rfl,rfl,hp,rfl,_,rfl,.inr ⟨q,_,1,.int s.den,rfl,rfl,hq,rfl,_,_,rfl,rfl,ij br.wn.bits bs.wd.bits,?_⟩⟩⟩;refine⟨_,rfl,.inr ⟨q,_,0,.int s.num,rfl,rfl,hq,rfl,_,rfl,.inr ⟨p,_,1,.int r.den,rfl,rfl,hp,rfl,_,_,rfl,rfl,ij bs.wn.bits br.wd.bits,?_⟩⟩⟩;refine⟨_,_,rfl,rfl,?_⟩;have e:decide (r.num*(s.den:Int)<s.num*(r.den:Int))=decide (r<s):=by rw[nU,qR,qR,Rat.lt_iff]
   show Q (.bl (decide (r.num*(s.den:Int)<s.num*(r.den:Int)))) H;rw[e];exact k
theorem Mu:bh ["_law_some","_law_best","_law_one"] ["_law_some"] (aR EB):=bG (by decide+kernel)
theorem a1z(F:FA K mg "_law_min" EB)(B:bL mg)(a6D:aD P w K mg base "_law_less" 1 (uH K)):aD P w K mg base "_law_min" 2 (jc K):=by
 refine F.has Mu (fun vs H Q E h=>?_) (fun _ _ _ _ _ _=>fg fun _=>rfl) (fun f aJ A outer s H vs Q E hr h=>?_)
 · obtain⟨l,xs,rs,rfl,_⟩:=h
   rfl
 · obtain⟨l,xs,rs,rfl,hl,lX,dy,k⟩:=h
   have nd:=Mu.nd;refine⟨_,(aA (pS 1 nd (px K (pv 0) az)) (aA (lF gL rfl (xF K rfl (pv 0)) (bf 2 nd) (aH (bJ (cI (pf a6D hr (O (pv 2) (O (pv 1) aw)))) (aH (pS 1 nd (pv 2))) bM))) (aH (aQ (pv 1))))),?_⟩;have hlen:=lX.length;have h0:0<xs.length:=JQ.mpr dy;have e0:=bZ h0;refine⟨_,rfl,.inl ⟨l,xs,0,xs[0],rfl,rfl,hl,cW (by decide) e0,?_⟩⟩;refine⟨_,rfl,l,rfl,⟨_,hl⟩,Ie (K:=K) (a:=l) (xs:=xs) (fun i Z H2=>H2=H/\∃(j:Nat)(b:V)(r:Rat)(v:Option V),xs[j]? =some b/\rs[j]? =some r/\(∀(m:Nat)(s:Rat),m<i->rs[m]? =some s->r<=s)/\Z=[some (.ref l),some b,v]) ?_ (fun i Z H2 _ h=>by rw[h.1];exact hl) ?_ ?_⟩
   · obtain⟨r,e1,_⟩:=lX.get e0
     exact⟨rfl,0,_,r,none,e0,e1,fun m s hm=>absurd hm (Nat.not_lt_zero _),rfl⟩
   · rintro i x Z H2 hx ⟨rfl,j,b,r,v,eb,er,hm,rfl⟩
     obtain⟨t,et,rt,bt⟩:=lX.get hx;obtain⟨r2,mW,rb,bb⟩:=lX.get eb;rw[er]at mW;cases mW;refine⟨_,rfl,_,rfl,x,b,t,r,rfl,rt,rb,bt,bb,_,rfl,?_⟩;refine dR (fun hc=>?_) (fun hc=>?_)
     · have cy:t<r:=jx hc
       refine⟨_,rfl,?_⟩;refine⟨rfl,i,x,t,_,hx,et,fun m s tD es=>?_,rfl⟩;rcases JL.mp tD with h|h
       ·exact dU (JD cy) (hm m s h es)
       · subst h
         rw[et]at es;cases es;exact qT
     · have Hj:¬t<r:=fun z=>hc (cB z)
       refine⟨rfl,j,b,r,_,eb,er,fun m s tD es=>?_,rfl⟩;rcases JL.mp tD with h|h
       ·exact hm m s h es
       · subst h
         rw[et]at es;cases es;exact Rat.not_lt.mp Hj
   · rintro Z H2 ⟨rfl,j,b,r,v,eb,er,hm,rfl⟩
     refine⟨_,rfl,k j b r eb er fun s hs=>?_⟩;obtain⟨m,Hm,em⟩:=VI.mp hs;exact hm m s (by lia) (by rw[bZ Hm,em])
theorem a0I(F:FA K mg "_law_top" DN)(B:bL mg)(qx:aD P w K mg base "_law_frac" 1 (xi K)):aD P w K mg base "_law_top" 2 (Dl K):=by
 refine F.has LS (fun vs H Q E h=>?_) (fun _ _ _ _ _ _=>du fun _ _=>rfl) (fun f aJ A outer s H vs Q E hr h=>?_)
 · obtain⟨v,ns,sp,r,rfl,_⟩:=h
   rfl
 · obtain⟨v,ns,sp,r,rfl,rd,s1,s2,r1,r2,k⟩:=h
   have nd:=LS.nd;refine⟨_,(aH (aQ (pf qx hr (O (aG bu (aG bu (aG bu (px K (pv 0) az) (px K (pv 0) az)) (pv 1)) (pv 1)) (O az aw))))),?_⟩;obtain⟨a,b,rfl,ha,hb⟩:=lI rd;have m1:(sp*sp).natAbs<=20*20:=by rw[fF];exact ml (by omega) (by omega)
   have m2:(sp*sp*r).natAbs<=400*200:=by rw[fF];exact ml (by omega) (by omega)
   refine⟨_,rfl,.inr ⟨a,_,2,.int sp,rfl,rfl,ha,rfl,_,rfl,.inr ⟨a,_,2,.int sp,rfl,rfl,ha,rfl,_,_,rfl,rfl,.of_left (bV (by omega) (by omega)),?_⟩⟩⟩;refine⟨_,rfl,_,_,rfl,rfl,.of_left (bV (by omega) (by omega)),_,rfl,_,_,rfl,rfl,.of_left (bV (by omega) (by omega)),?_⟩;refine⟨_,_,rfl,by decide,gM (n:=20) (by decide) (by decide),fun v' H' r' s'=>k v' H' ?_ s'⟩;rw[KO]at r';exact r'
theorem mn3{x y z q:Rat}(h:q=x\/q=y\/q=z)(h1:q<=x)(h2:q<=y)(h3:q<=z):mn (mn x y) z=q:=by
 refine Cv ?_ (kJ (kJ h1 h2) h3);rcases h with h|h|h
 ·rw[h];exact dU (gj _ _) (gj _ _)
 ·rw[h];exact dU (gj _ _) (kh _ _)
 ·rw[h];exact kh _ _
theorem yd{n:Nat}{ns:List Int}(h:eu n 100 ns):aF ns<=100:=by have:=h.lead;lia
open Wk
def fG(pl:List Int):ai:=.tuple (pl.map PyData.int)
theorem jD(pl:List Int):fe (fG pl)=true:=by rw[fG,fe];exact kF pl
theorem rX{H:Hp}{v:V}{pl:List Int}(h:RD K H v (fG pl)):∃a,v= .ref a/\aP K H a (pl.map V.int):=by obtain⟨a,xs,rfl,h1,h2⟩:=h.dZ;rw[h2.iM]at h1;exact⟨a,rfl,h1⟩
theorem uT{H:Hp}{a:Addr}{pl:List Int}(h:aP K H a (pl.map V.int)):RD K H (.ref a) (fG pl):=iI h (uQ pl)
def gI(pl:List Int):Itm->List Int |none=>pl |some (ns,_)=>fL pl ns
theorem bS.putL{p l:Addr}{H H1:Hp}{xs:List V}(b:bS p H H1)(hp:l≠p)(nl:H l=none):bS p H (L2.upd H1 l (.lst xs)):=by
 refine⟨?_,fun c o n e=>?_⟩
 · obtain⟨c',m',e,ok⟩:=b.bK
   exact⟨c',m',by rw[aK hp.symm];exact e,ok⟩
 ·rw[aK (fQ e nl)];exact b.same c o n e
inductive Ua(K:aa)(vs:List V)(H:Hp)(Q:VK):Prop |mk (p:_)(m:_)(rs:_)(r:_)(f:_)(j:_)(t:_)(h0:vs=[.ref p,m])(h1:gh H p)(h2:RD K H m (iL rs r f j t))(h3:nH rs r f j t)(h4:∀v pl H',RD K H' v (fG pl)->iQ rs pl->bS p H H'->Q v H'):Ua K vs H Q
def Lq(K:aa):Sp:=fun vs H Q _=>Ua K vs H Q
theorem Mo:bh ["_law_bag_here","_law_machine_here"] ["_law_bag_here","_law_machine_here"] (aR Es):=bG (by decide+kernel)
theorem a1s(F:FA K mg "_law_place" Es)(B:bL mg)(dS:aD P w K mg base "_law_take" 1 pL):aD P w K mg base "_law_place" 2 (Lq K):=by
 refine F.has Mo (fun vs H Q E h=>?_) (fun _ _ _ _ _ _=>du fun _ _=>rfl) (fun f aJ A outer s H vs Q E hr h=>?_)
 · obtain⟨p,m,rs,r,f,j,t,rfl,_⟩:=h
   rfl
 · obtain⟨p,m,rs,r,f,j,t,rfl,bg,rm,v9,k⟩:=h
   have nd:=Mo.nd;refine⟨_,(aH (aQ (gX (x:="tuple") (ky K rfl) rfl (B.at "tuple") fD (O (fW (N:=["_law_rail","_law_bag_here"]) (js:=[none,some 0]) rfl rfl rfl (pT K rfl (px K (pv 1) az)) (fun _ _ _ _ _=>(bf 0 (fJ (by decide)))) (fun _ _ _ _ _=>fw) (fun _ _ _ _ _=>(pf dS hr (O (pv 1) (O (aG cJ (pv 0) az) aw))))) aw)))),?_⟩;obtain⟨ma,mb,rfl,gC,jn⟩:=kI rm;have lr:=v9.len;refine⟨_,rfl,.inr ⟨ma,_,0,.ref mb,rfl,rfl,gC,cW (gz 0) rfl,mb,rfl,⟨_,jn⟩,fun D H1 n1=>?_⟩⟩;refine RM (K:=K) (J:=qM K mb) (p:=p) (H:=H) rs.length _ n1 bg (by lia) (fun i=>.int (rs.getD i 0)) (fun i H2 hi b2=>?_) (fun H2 b2=>?_) (fun i d=>∃z r,d= .int z/\rs[i]? =some r/\0<=z/\z<=r) ?_ ?_
   · have Bg:=jn.t (bS.t bg b2)
     have e:(rs.map V.int)[i]? =some (.int (rs.getD i 0)):=by rw[cu,List.getD_eq_getElem?_getD,bZ hi];rfl
     exact⟨⟨_,_,Bg,e⟩,fun y H3 ⟨e3,y3⟩=>⟨e3,by have:=y3 _ Bg;rw[e]at this;exact(dG this).symm⟩⟩
   ·exact⟨_,jn.t (bS.t bg b2),by rw[cj];exact bF _⟩
   · intro i H2 Q' hi b2 hq
     have er:rs[i]? =some (rs.getD i 0):=by rw[List.getD_eq_getElem?_getD,bZ hi];rfl
     obtain⟨r0,r1⟩:=v9.rl _ (gy er);refine⟨_,rfl,_,rfl,_,_,rfl,rfl,p,_,rfl,b2.bK,by lia,by lia,fun z H3 z0 z1 b3=>?_⟩;exact hq _ _ _ ⟨z,_,rfl,er,z0,by lia⟩ rfl (dN z) b3
   · intro H2 ys ds b2 d2 r2 l2 nl pd
     have qv:∃pl:List Int,ds=pl.map PyData.int/\iQ rs pl:=by
      have key:∀(ds:List ai),(∀d∈ds,∃z:Int,d= .int z)->∃pl:List Int,ds=pl.map PyData.int:=by intro ds;induction ds with |nil=>exact fun _=>⟨[],rfl⟩ |cons d ds ih=>intro h;obtain⟨z,rfl⟩:=h d (.head _);obtain⟨pl,rfl⟩:=ih fun x hx=>h x (.tail _ hx);exact⟨z::pl,rfl⟩
      obtain⟨pl,rfl⟩:=key ds fun d hd=>by obtain⟨i,hi⟩:=pG.mp hd;obtain⟨z,_,e,_⟩:=pd i d hi;exact⟨z,e⟩
      refine⟨pl,rfl,by simpa using l2,fun i x r e1 e2=>?_⟩;obtain⟨z,r',e,er,h0,h1⟩:=pd i (.int x) (by rw[cu,e1];rfl);cases e;rw[e2]at er;cases er;exact⟨h0,h1⟩
     obtain⟨pl,rfl,on⟩:=qv;refine⟨D,_,rfl,.inl ⟨aE.of d2,fun t H3 n3=>?_⟩⟩;have et:=n3.at';rw[r2.iM]at et;exact k (.ref t) pl H3 (uT (aP.of et)) on (b2.trans (.jg b2.bK n3.same))
inductive Ul(K:aa)(vs:List V)(H:Hp)(Q:VK):Prop |mk (p:_)(m:_)(rs:_)(r:_)(f:_)(j:_)(t:_)(x:_)(pl:_)(mo:_)(h0:vs=[.ref p,m,x,.int mo])(h1:gh H p)(h2:RD K H m (iL rs r f j t))(h3:nH rs r f j t)(h4:RD K H x (fG pl))(h5:iQ rs pl)(h6:1<=mo)(h7:mo<=100)(h8:∀v ns sp H',RD K H' v (iu ns sp)->eu rs.length 100 ns->1<=sp->sp<=20->iQ rs (fL pl ns)->bS p H H'->Q v H'):Ul K vs H Q
def Du(K:aa):Sp:=fun vs H Q _=>Ul K vs H Q
def gc(rs pl is:List Int)(mo:Int):Prop:=∀(j:Nat)(z a r:Int),is[j]? =some z->pl[j]? =some a->rs[j]? =some r->0<=a+z/\a+z<=r/\(z.natAbs:Int)<=mo
theorem gc.on{rs pl is:List Int}{mo:Int}(h:gc rs pl is mo)(lp:pl.length=rs.length)(ls:is.length=pl.length):iQ rs (fL pl is):=by
 refine⟨by rw[qI ls];exact lp,?_⟩;intro j x r ej mX;have hj:j<pl.length:=by have:=(dC.mp ej).1;rw[qI ls]at this;exact this
 have Rb:=Jj (bZ hj) (bZ (show j<is.length by lia));rw[ej]at Rb;have ej3:=dG Rb;have:=h j _ _ r (bZ (show j<is.length by lia)) (bZ hj) mX
 lia
theorem gc.bd{rs pl is:List Int}{mo:Int}(h:gc rs pl is mo)(lp:pl.length=rs.length)(ls:is.length=pl.length):∀z∈is,(z.natAbs:Int)<=mo:=fun z lJ=>by obtain⟨j,hj⟩:=pG.mp lJ;have PN:=(dC.mp hj).1;exact(h j z _ _ hj (bZ (show j<pl.length by lia)) (bZ (show j<rs.length by lia))).2.2
theorem gc.snoc{rs pl is:List Int}{mo z a r:Int}(h:gc rs pl is mo)(ea:pl[is.length]? =some a)(er:rs[is.length]? =some r)(hz:0<=a+z/\a+z<=r/\(z.natAbs:Int)<=mo):gc rs pl (is++[z]) mo:=by
 intro j z' a' r' ej mZ mX;by_cases hj:j<is.length
 · rw[wM hj]at ej
   exact h j z' a' r' ej mZ mX
 · have oN:j=is.length:=by
     have:=(dC.mp ej).1;rw[fo]at this;have:j<is.length+1:=this
     lia
   rw[oN,zt (bF _),JI]at ej;cases ej;rw[oN]at mZ mX;rw[ea]at mZ;rw[er]at mX;cases mZ;cases mX;exact hz
theorem gc.set{rs pl is:List Int}{mo z a r:Int}{i:Nat}(h:gc rs pl is mo)(ea:pl[i]? =some a)(er:rs[i]? =some r)(hz:0<=a+z/\a+z<=r/\(z.natAbs:Int)<=mo):gc rs pl (is.set i z) mo:=by
 intro j z' a' r' ej mZ mX;by_cases hj:j=i
 · subst hj
   rw[ea]at mZ;rw[er]at mX;cases mZ;cases mX;have hl:j<is.length:=by have:=(dC.mp ej).1;rwa [uq]at this
   rw[zr hl]at ej;cases ej;exact hz
 · rw[JT (eR hj)]at ej
   exact h j z' a' r' ej mZ mX
theorem Mx:bh ["_law_bag_here","_law_machine_here","_law_place_here","_law_most","_law_steps","_law_flat","_law_axis","_law_stand_here","_law_low","_law_high"] ["_law_bag_here","_law_machine_here","_law_place_here","_law_most"] (aR EE):=bG (by decide+kernel)
theorem a1D(F:FA K mg "_law_line" EE)(B:bL mg)(dS:aD P w K mg base "_law_take" 1 pL):aD P w K mg base "_law_line" 2 (Du K):=by
 refine F.has Mx (fun vs H Q E h=>?_) (fun _ _ _ _ _ _=>C4 fun _ _ _ _=>rfl) (fun fa aJ A outer s H vs Q E hr h=>?_)
 · obtain⟨p,m,rs,r,f,j,t,x,pl,mo,rfl,_⟩:=h
   rfl
 · obtain⟨p,m,rs,r,f,j,t,x,pl,mo,rfl,bg,rm,v9,rx,on,mo1,mo2,k⟩:=h
   have nd:=Mx.nd;refine⟨_,(aA (pS 4 nd (df aw)) (aA (pS 5 nd (pf dS hr (O (pv 0) (O az aw)))) (aA (lF gL rfl (ZU K rfl false rfl (B.at "enumerate") (O (pv 2) aw)) (dJ K rfl (n:=2) rfl (bO (bf 6 nd) (bO (bf 7 nd) dH))) (aA (pS 8 nd (cZ (x:="max") (S9 rfl) rfl (B.at "max") Cw (O az (O (aG fY (pv 7) (pv 3)) aw)))) (aA (pS 9 nd (cZ (x:="min") (J2 rfl) rfl (B.at "min") VD (O (px K (px K (pv 1) az) (pv 6)) (O (aG cJ (pv 7) (pv 3)) aw)))) (aA (gF (je K rfl (pv 4) (O (aG fY (aG cJ (pv 8) (pf dS hr (O (pv 0) (O (aG cJ (aG fY (pv 9) (pv 8)) az) aw)))) (pv 7)) aw))) (aH (bJ (bW (cP K rfl hr.units) (pv 5) (pv 6) (bo _)) (aH (fO az (rY (pv 4) (pv 6) set_list))) bM)))))) (aA (gU (bJ (fi (cI (cZ (x:="any") (aa6 K rfl rfl) rfl (B.at "any") VF (O (pv 4) aw)))) (aA (pS 6 nd (pf dS hr (O (pv 0) (O (dQ K B (O (pv 4) aw)) aw)))) (aH (fO (aG fY az (aG bu az (gX (x:="int") Sa rfl (B.at "int") JH (O (fb rZ (px K (pv 2) (pv 6)) az (bo _)) aw)))) (rY (pv 4) (pv 6) set_list)))) bM)) (aH (aQ (dP (O aX (O (gX (x:="tuple") (ky K rfl) rfl (B.at "tuple") fD (O (pv 4) aw)) (O (aG cJ az (pf dS hr (O (pv 0) (O az aw)))) aw)))))))))),?_⟩;have lr:=v9.len;have lp:=on.len;obtain⟨ma,mb,rfl,gC,jn⟩:=kI rm;obtain⟨xa,rfl,GW⟩:=rX rx;refine⟨bP rfl,fun l H1 n1=>?_⟩;have b1:bS p H H1:=.jg bg n1.same;have vt:l≠p:=fun z=>bg.ne (z▸n1.no);refine⟨_,rfl,p,4,rfl,b1.bK,by decide,by decide,fun fl H2 f0 f1 b2=>?_⟩;have Su:=b1.trans b2;have Xh:=bS.t bg Su;refine⟨_,rfl,xa,rfl,⟨_,GW.t Xh⟩,a79 (K:=K) (b:=false) (a:=xa) (xs:=pl.map V.int) (fun i Z H3=>bS p H H3/\∃(is:List Int)(v1 v2 v3 v4:Option V),H3 l=some (.lst (is.map V.int))/\is.length=i/\gc rs pl is mo/\Z=[some (.ref p),some (.ref ma),some (.ref xa),some (.int mo),some (.ref l),some (.int fl),v1,v2,v3,v4]) ?_ (fun i Z H3 _ h=>GW.t (bS.t bg h.1)) ?_ ?_⟩
   ·exact⟨Su,[],none,none,none,none,b2.same _ _ vt n1.at',rfl,fun j z a r e=>by simp at e,rfl⟩
   · rintro i y Z H3 hy ⟨b3,is,v1,v2,v3,v4,dl,li,hz,rfl⟩ T H4 n4
     rw[cu]at hy;obtain⟨a,ea,rfl⟩:=Option.map_eq_some_iff.mp hy;have PQ:i<pl.length:=(dC.mp ea).1;obtain⟨rl,er⟩:∃rl,rs[i]? =some rl:=⟨_,bZ (show i<rs.length by lia)⟩;obtain⟨a0,a1⟩:=on.at' i a rl ea er;obtain⟨r0,r1⟩:=v9.rl rl (gy er);have b4:bS p H H4:=b3.trans (.jg b3.bK n4.same);have t4:=bS.t bg b4;have jM:=n4.same _ _ dl;have atr:fA (rs.map V.int) (i:Int)=some (.int rl):=cW (by lia) (by rw[cu];simp[er]);refine⟨T,_,rfl,aP.of n4.at',rfl,_,_,rfl,_,_,rfl,rfl,?_⟩;refine⟨_,rfl,_,rfl,_,_,rfl,rfl,_,_,rfl,?_⟩;obtain⟨low,a8C,lo0,lo1,lo2⟩:∃low:Int,(if a-mo>0 then a-mo else 0)=low/\0<=low/\a-mo<=low/\low<=a:=⟨_,rfl,by split<;>lia,by split<;>lia,by split<;>lia⟩;rw[a8C];refine⟨_,rfl,.inr ⟨ma,_,0,.ref mb,rfl,rfl,gC.t t4,rfl,_,rfl,.inr ⟨mb,_,_,.int rl,rfl,rfl,jn.t t4,atr,_,rfl,_,rfl,_,_,rfl,rfl,_,_,rfl,?_⟩⟩⟩;obtain⟨hi,tQ,hi0,hi1,PU⟩:∃hi:Int,(if a+mo<rl then a+mo else rl)=hi/\a<=hi/\hi<=rl/\hi<=a+mo:=⟨_,rfl,by split<;>lia,by split<;>lia,by split<;>lia⟩;rw[tQ];refine⟨_,rfl,.inl ⟨rfl,_,aE.of jM⟩,?_⟩;refine⟨_,rfl,_,rfl,_,rfl,_,rfl,_,_,rfl,rfl,_,_,rfl,rfl,p,hi-low+1,rfl,b4.bK,by lia,by lia,fun d H5 d0 d1 b5=>?_⟩;refine⟨_,_,rfl,rfl,_,rfl,_,_,rfl,rfl,l,_,_,rfl,rfl,b5.same _ _ vt jM,?_,?_⟩
     · rw[cj,li]
       have:(1000:Nat)<sizeLine:=by decide
       lia
     have b6:bS p H (L2.upd H5 l (.lst (is.map V.int++[.int (low+d-a)]))):=(b4.trans b5).putL vt n1.no;have e6:(L2.upd H5 l (.lst (is.map V.int++[.int (low+d-a)]))) l=some (.lst ((is++[low+d-a]).map V.int)):=by rw[ba,nR];rfl
     generalize L2.upd H5 l (.lst (is.map V.int++[.int (low+d-a)]))=H6 at b6 e6⊢;rw[<-li]at ea er;have KL:=hz.snoc ea er (z:=low+d-a) (by lia);refine⟨_,rfl,_,rfl,.inl ⟨_,_,rfl,rfl,_,rfl,?_⟩⟩;refine dR (fun hc=>?_) (fun hc=>?_)
     · have ix:jk ((is++[low+d-a]).map V.int).length (i:Int)=some i:=by unfold jk;rw[aY (by lia),aY (by rw[cj,fo];show(i:Int)<((is.length+1:Nat):Int);lia)];simp
       refine⟨_,rfl,_,rfl,l,_,_,_,rfl,rfl,e6,ix,?_⟩;refine⟨b6.putL vt n1.no,(is++[low+d-a]).set i 0,_,_,_,_,by rw[ba,zq],by rw[uq,fo,li];rfl,?_,rfl⟩;rw[li]at ea er;exact KL.set ea er (by lia)
     ·exact⟨b6,is++[low+d-a],_,_,_,_,e6,by rw[fo,li];rfl,KL,rfl⟩
   · rintro Z H3 ⟨b3,is,v1,v2,v3,v4,dl,li,hz,rfl⟩
     rw[cj]at li;have t3:=bS.t bg b3;refine⟨fun Z H4=>bS p H H4/\∃(is:List Int)(v1:Option V),H4 l=some (.lst (is.map V.int))/\eu rs.length 100 is/\iQ rs (fL pl is)/\Z=[some (.ref p),some (.ref ma),some (.ref xa),some (.int mo),some (.ref l),some (.int fl),v1,v2,v3,v4],?_,?_⟩
     · refine⟨_,rfl,l,is,rfl,.inl (aE.of dl),_,rfl,?_⟩
       cases ha:is.any (· !=0)with |false=>
         refine bT ?_;refine⟨_,rfl,_,rfl,l,_,rfl,.inl (aE.of dl),p,_,rfl,b3.bK,(by rw[cj];lia),(by rw[cj];lia),fun ax H4 a0 a1 b4=>?_⟩;rw[cj]at a1;have So:=b3.trans b4;have Q8:ax.toNat<pl.length:=by lia
         have ea:=bZ Q8;have er:=bZ (show ax.toNat<rs.length by lia);obtain⟨q0,q1⟩:=on.at' _ _ _ ea er;obtain⟨r0,r1⟩:=v9.rl _ (gy er);have Sv:fA (pl.map V.int) ax=some (.int pl[ax.toNat]):=cW a0 (by rw[cu,ea];rfl);generalize pl[ax.toNat]=qa at ea q0 q1 Sv;generalize rs[ax.toNat]=qr at er q1 r0 r1;refine⟨_,rfl,_,rfl,.inr ⟨xa,_,_,_,rfl,rfl,GW.t (bS.t bg So),Sv,?_⟩⟩;refine⟨_,_,rfl,rfl,.inr ⟨_,rfl,?_⟩⟩;refine⟨_,_,rfl,rfl,.of_left (bV (by decide) (by decide)),_,_,rfl,rfl,?_⟩;obtain⟨y,ey,y1,y2,y3⟩:∃y:Int,(1-2*(if decide (qa>0)=true then 1 else 0):Int)=y/\y.natAbs=1/\0<=qa+y/\qa+y<=qr:=by
          by_cases h:qa>0
          ·rw[cB h];exact⟨-1,rfl,rfl,by lia,by lia⟩
          ·rw[eQ h];exact⟨1,rfl,rfl,by lia,by lia⟩
         have jM:=b4.same _ _ vt dl;have ix:jk (is.map V.int).length ax=some ax.toNat:=by unfold jk;rw[aY a0,aY (by rw[cj];lia)]
         refine⟨_,rfl,_,rfl,l,_,_,_,rfl,rfl,jM,ix,?_⟩;have st:=hz.set (i:=ax.toNat) ea er (z:=y) (by lia);have ls:(is.set ax.toNat y).length=pl.length:=by rw[uq];lia
         refine⟨So.putL vt n1.no,is.set ax.toNat y,_,?_,⟨by lia,fun z lJ=>?_,?_⟩,st.on lp ls,rfl⟩
         · rw[ba,<-zq]
           simp only[ey]
         ·have:=st.bd lp ls z lJ;lia
         ·exact⟨y,VI.mpr ⟨ax.toNat,by rw[uq];lia,by rw[List.getElem_set_self]⟩,by lia⟩ |true=>
         refine bB ?_;have ls:is.length=pl.length:=by lia
         refine⟨b3,is,_,dl,⟨by lia,fun z lJ=>?_,?_⟩,hz.on lp ls,rfl⟩
         ·have:=hz.bd lp ls z lJ;lia
         · obtain⟨z,lJ,h0⟩:=List.any_eq_true.mp ha
           exact⟨z,lJ,by simpa using h0⟩
     rintro Z H4 ⟨b4,is,v1,dl,ok,on2,rfl⟩;refine⟨_,rfl,l,_,rfl,.inl ⟨aE.of dl,fun q H5 n5=>?_⟩⟩;have b5:bS p H H5:=b4.trans (.jg b4.bK n5.same);have qp:q≠p:=fun e=>b4.bK.ne (e▸n5.no);refine⟨_,rfl,p,20,rfl,b5.bK,by decide,by decide,fun sp H6 p0 p1 b6=>?_⟩;refine⟨_,_,rfl,rfl,bP rfl,fun t H7 n7=>?_⟩;have b7:=b5.trans (b6.trans (.jg b6.bK n7.same));exact k (.ref t) is (1+sp) H7 (iI (aP.of n7.at') (bQ (cM _) (bQ (iI (aP.of (n7.same _ _ (b6.same _ _ qp n5.at'))) (uQ is)) (bQ (dN _) cL)))) ok (by lia) (by lia) on2 b7
def gd(z:Str):Prop:=∀c∈z.cps.toList,c<0x110000
theorem gd.app{a b:Str}(ha:gd a)(hb:gd b):gd (a++b):=fun c hc=>by rw[VB,CK,uo]at hc;exact hc.elim (ha c) (hb c)
theorem gd.joined{sep:Str}(hs:gd sep):∀l:List Str,(∀a∈l,gd a)->gd (PySem.Str.join sep l) |[],_=>fun c hc=>by simp[PySem.Str.join,PySem.Str.empty]at hc |[x],h=>h x (.head _) |x::y::r,h=>((h x (.head _)).app hs).app (gd.joined hs (y::r) fun a ha=>h a (.tail _ ha))
theorem gd.join{sep:Str}{l:List Str}(hs:gd sep)(h:∀a∈l,gd a):gd (Txt.join sep l):=by show gd (Builtin.Str.glued sep l);rw[StrLaws.glued_eq_join];exact gd.joined hs l h
theorem a0E{n:Nat}{z:Str}(h:gd z):dj n (.str z):=⟨by show PyData.strOk z=true;unfold PyData.strOk;rw[aaG];exact fun c hc=>cB (h c (by simpa using hc)),fT _⟩
theorem a0D{n:Nat}{z:Str}(h:dj n (.str z)):gd z:=fun c hc=>by have q:PyData.strOk z=true:=h.lay;unfold PyData.strOk at q;rw[aaG]at q;exact jx (q c (by simpa using hc))
theorem Oa{z:Str}(h:z.cps.all (·<0x110000)=true):gd z:=a0D (n:=0) ⟨h,fT _⟩
theorem KG:∀(ds:List ai),(∀d∈ds,∃z:Str,d= .str z/\z.length=1/\gd z/\z.cps.toList.all (fun c=>decide (97<=c)&&decide (c<=122))=true)->∃zs:List Str,ds=zs.map PyData.str/\∀z∈zs,z.length=1/\gd z/\z.cps.toList.all (fun c=>decide (97<=c)&&decide (c<=122))=true |[],_=>⟨[],rfl,fun _ h=>nomatch h⟩ |d::ds,h=>by obtain⟨z,rfl,e⟩:=h d (.head _);obtain⟨zs,rfl,q⟩:=KG ds fun x hx=>h x (.tail _ hx);exact⟨z::zs,rfl,fun y hy=>by
     rcases bI.mp hy with rfl|hy
     ·exact e
     ·exact q y hy⟩
theorem aai:gd jq:=Oa (by decide+kernel)
def Gw(c:Nat):Bool:=decide (97<=c)&&decide (c<=122)
def xX(s:Str):Bool:=(decide (1<=s.length)&&decide (s.length<=8))&&s.cps.toList.all Gw
def O4(w s:Str):Prop:=(w="tool"/\(s="up"\/s="down"))\/(w="mark"/\xX s=true)
def p9(d:ai):Prop:=(∃n,d= .tuple [.str "wait",.int n]/\1<=n/\n<=1000)\/∃w s,d= .tuple [.str w,.str s]/\(w="tool"\/w="mark")/\dj 0 (.str s)/\O4 w s
theorem Qp:∀l:List Str,(PySem.Str.join ("":Str) l).cps.toList=(l.map fun z=>z.cps.toList).flatten
  |[]=>by simp[PySem.Str.join,PySem.Str.empty] |[x]=>by simp[PySem.Str.join] |x::y::r=>by
    show((x++("":Str))++PySem.Str.join ("":Str) (y::r)).cps.toList=_;rw[VB,VB,CK,CK,Qp (y::r)];have:(("":Str)).cps.toList=[]:=by decide+kernel
    rw[this];simp
theorem a2v{l:List Str}(h1:1<=l.length)(h8:l.length<=8)(h:∀z∈l,z.length=1/\z.cps.toList.all Gw=true):xX (Txt.join ("":Str) l)=true:=by
 have e:(Txt.join ("":Str) l).cps.toList=(l.map fun z=>z.cps.toList).flatten:=by show(Builtin.Str.glued ("":Str) l).cps.toList=_;rw[StrLaws.glued_eq_join];exact Qp l
 have el:(Txt.join ("":Str) l).length=l.length:=by
  show(Txt.join ("":Str) l).cps.size=_;rw[<-zx,e,List.length_flatten,List.map_map];have:∀(l:List Str),(∀z∈l,z.length=1/\z.cps.toList.all Gw=true)->(l.map (List.length∘fun z=>z.cps.toList)).sum=l.length:=by intro l;induction l with |nil=>intro _;rfl |cons a r ih=>
     intro h;rw[nQ,List.sum_cons,ih fun z hz=>h z (.tail _ hz),jU];have:=(h a (.head _)).1;have e2:(List.length∘fun z:Str=>z.cps.toList) a=1:=by show a.cps.toList.length=1;rw[zx];exact this
     rw[e2,Nat.add_comm]
  exact this l h
 unfold xX;rw[el,e,cB h1,cB h8,jV,jV,iE];intro c hc;obtain⟨cs,Bn,Bo⟩:=List.mem_flatten.mp hc;obtain⟨z,hz,rfl⟩:=jy.mp Bn;exact iE.mp (h z hz).2 c Bo
theorem p9.it{d:ai}(h:p9 d):itR d none:=by
 rcases h with⟨n,rfl,_⟩|⟨w,s,rfl,hw|hw,_⟩
 ·exact .inr ⟨_,_,rfl,.inl rfl,rfl,rfl⟩
 ·exact .inr ⟨_,_,rfl,.inr (.inl hw),rfl,rfl⟩
 ·exact .inr ⟨_,_,rfl,.inr (.inr hw),rfl,rfl⟩
inductive Ue(K:aa)(vs:List V)(H:Hp)(Q:VK):Prop |mk (p:Addr)(h0:vs=[.ref p])(h1:gh H p)(h2:∀v d H',RD K H' v d->p9 d->bS p H H'->Q v H'):Ue K vs H Q
def Lu(K:aa):Sp:=fun vs H Q _=>Ue K vs H Q
theorem a1v(F:FA K mg "_law_other" Eu)(B:bL mg)(dS:aD P w K mg base "_law_take" 1 pL):aD P w K mg base "_law_other" 2 (Lu K):=by
 refine F.has Mq (fun vs H Q E h=>?_) (fun _ _ _ _ _ _=>fg fun _=>rfl) (fun f aJ A outer s H vs Q E hr h=>?_)
 · obtain⟨p,rfl,_⟩:=h
   rfl
 · obtain⟨p,rfl,bg,k⟩:=h
   have nd:=Mq.nd;refine⟨_,(aA (pS 1 nd (pf dS hr (O (pv 0) (O az aw)))) (aA (bJ (bW (cP K rfl hr.units) (pv 1) az (bo _)) (aH (aQ (dP (O aX (O (aG cJ az (pf dS hr (O (pv 0) (O (px K (df (O az (O az aw))) (pf dS hr (O (pv 0) (O az aw)))) aw)))) aw))))) bM) (aA (bJ (bW (cP K rfl hr.units) (pv 1) az (bo _)) (aH (aQ (dP (O aX (O (px K (df (O aX (O aX aw))) (pf dS hr (O (pv 0) (O az aw)))) aw))))) bM) (aA (pS 2 nd aX) (aH (aQ (dP (O aX (O (a08 K rfl aX (O (fW (N:=["_law_turn","_law_letters","_law_bag_here"]) (js:=[none,some 2,some 0]) rfl rfl rfl (xE rfl (B.at "range") (O (aG cJ az (pf dS hr (O (pv 0) (O az aw)))) aw)) (fun _ _ _ _ _=>(bf 0 (show List.Nodup (["_law_turn","_law_letters","_law_bag_here"]:List Str) by decide+kernel))) (fun _ _ _ _ _=>fw) (fun _ _ _ _ _=>(NQ a3S (pv 1) (pf dS hr (O (pv 2) (O az aw))) (fun _ _=>rfl)))) aw)) aw))))))))),?_⟩;refine⟨_,rfl,p,3,rfl,bg,by decide,by decide,fun so H1 s0 s1 b1=>?_⟩;refine⟨_,rfl,.inl ⟨_,_,rfl,rfl,_,rfl,?_⟩⟩;refine dR (fun hc=>?_) (fun hc=>?_)
   · refine⟨_,rfl,bP rfl,fun c H2' Gq=>?_⟩
     have Sq:bS p H1 H2':=.jg b1.bK Gq.same;have cp:c≠p:=fun z=>b1.bK.ne (z▸Gq.no);refine⟨_,rfl,p,2,rfl,Sq.bK,by decide,by decide,fun i H3' i0 i1 Jb=>?_⟩;have hi:∃z:Int,fA ([.int 1000,.int 2]:List V) i=some (.int z)/\2<=z/\z<=1000:=by
      rcases(show i=0\/i=1 by lia)with rfl|rfl
      ·exact⟨1000,rfl,by decide,by decide⟩
      ·exact⟨2,rfl,by decide,by decide⟩
     obtain⟨z,ez,z2,aaK⟩:=hi;refine .inl ⟨c,_,_,_,rfl,rfl,aE.of (Jb.same _ _ cp Gq.at'),ez,?_⟩;refine⟨p,z,rfl,Jb.bK,by lia,by lia,fun n H2 n0 n1 a9X=>?_⟩;have b2:=Sq.trans (Jb.trans a9X);refine⟨_,_,rfl,rfl,bP rfl,fun t H3 n3=>?_⟩;exact k (.ref t) _ H3 (iI (aP.of n3.at') (bQ (cM _) (bQ (dN _) cL))) (.inl ⟨_,rfl,by lia,by lia⟩) (b1.trans (b2.trans (.jg b2.bK n3.same)))
   refine⟨_,rfl,.inl ⟨_,_,rfl,rfl,_,rfl,?_⟩⟩;refine dR (fun hc=>?_) (fun hc=>?_)
   · refine⟨bP rfl,fun c H2 n2=>?_⟩
     have b2:bS p H1 H2:=.jg b1.bK n2.same;have cp:c≠p:=fun z=>b1.bK.ne (z▸n2.no);refine⟨_,rfl,p,2,rfl,b2.bK,by decide,by decide,fun i H3 i0 i1 b3=>?_⟩;have hi:∃z:Str,fA ([.str "up",.str "down"]:List V) i=some (.str z)/\dj 0 (.str z)/\O4 "tool" z:=by
      rcases(show i=0\/i=1 by lia)with rfl|rfl
      ·exact⟨"up",rfl,⟨by decide+kernel,by decide+kernel⟩,.inl ⟨rfl,.inl rfl⟩⟩
      ·exact⟨"down",rfl,⟨by decide+kernel,by decide+kernel⟩,.inl ⟨rfl,.inr rfl⟩⟩
     obtain⟨z,ez,okz,onz⟩:=hi;refine .inl ⟨c,_,_,_,rfl,rfl,aE.of (b3.same _ _ cp n2.at'),ez,bP rfl,fun t H4 n4=>?_⟩;exact k (.ref t) _ H4 (iI (aP.of n4.at') (bQ (cM _) (bQ (cM _) cL))) (.inr ⟨_,_,rfl,.inl rfl,okz,onz⟩) (b1.trans (b2.trans (b3.trans (.jg b3.bK n4.same))))
   refine⟨rfl,?_⟩;refine⟨_,rfl,p,8,rfl,b1.bK,by decide,by decide,fun n H2 n0 n1 b2=>?_⟩;refine⟨_,_,rfl,rfl,_,rfl,by lia,by lia,fun D H3 nD=>?_⟩;refine RM (K:=K) (J:=nK 0 (1+n).toNat) (p:=p) (H:=H2) (1+n).toNat _ nD b2.bK (by lia) (fun i=>.int (0+(i:Int))) (fun i H3 hi _=>⟨hi,fun y H4 ⟨e,q⟩=>⟨e,q⟩⟩) (fun H3 _=>bF _) (fun _ d=>∃z:Str,d= .str z/\z.length=1/\gd z/\z.cps.toList.all (fun c=>decide (97<=c)&&decide (c<=122))=true) ?_ ?_
   · intro i H3 Q' hi b3 hq
     refine⟨_,rfl,_,rfl,p,26,rfl,b3.bK,by decide,by decide,fun d H4 d0 d1 b4=>?_⟩;have hd:d.toNat<jq.cps.toList.length:=by rw[aak];lia
     refine⟨jq,d,jq.cps.toList[d.toNat],rfl,rfl,by decide+kernel,cW d0 (bZ hd),?_⟩;have fP:gd ⟨#[jq.cps.toList[d.toNat]]⟩:=fun c hc=>by have iy:c=jq.cps.toList[d.toNat]:=cm.mp hc;rw[iy];exact aai _ (CF hd)
     have e9:(⟨#[jq.cps.toList[d.toNat]]⟩:Str).cps.toList.all (fun c=>decide (97<=c)&&decide (c<=122))=true:=by have:=iE.mp (show jq.cps.toList.all (fun c=>decide (97<=c)&&decide (c<=122))=true by decide+kernel) _ (CF hd);show([jq.cps.toList[d.toNat]]:List Nat).all _=true;rw[JU,List.all_nil,K0];exact this
     exact hq _ _ _ ⟨_,rfl,rfl,fP,e9⟩ rfl (cM _) b4
   · intro H3 ys ds b3 d3 r3 l3 nl pd
     obtain⟨zs,rfl,hz⟩:=KG ds fun d hd=>by obtain⟨i,hi⟩:=pG.mp hd;exact pd i d hi
     rw[KD r3]at d3;rw[cj]at l3;refine⟨"",D,zs,rfl,rfl,aE.of d3,fun z lJ=>by rw[(hz z lJ).1];decide,by decide,by lia,bP rfl,fun t H4 n4=>?_⟩;exact k (.ref t) _ H4 (iI (aP.of n4.at') (bQ (cM _) (bQ (cM _) cL))) (.inr ⟨_,_,rfl,.inr rfl,a0E (gd.join (Oa (by decide+kernel)) fun a ha=>(hz a ha).2.1),.inr ⟨rfl,a2v (by lia) (by lia) fun z lJ=>⟨(hz z lJ).1,(hz z lJ).2.2⟩⟩⟩) (b1.trans (b2.trans (b3.trans (.jg b3.bK n4.same))))
def RowW(ds:List ai)(os:List Itm):Prop:=∀(i:Nat)(d:ai),os[i]? =some none->ds[i]? =some d->p9 d
theorem RowW.snoc{ds:List ai}{os:List Itm}{d:ai}{o:Itm}(h:RowW ds os)(hl:ds.length=os.length)(hd:o=none->p9 d):RowW (ds++[d]) (os++[o]):=by
 intro i x e1 e2;rcases rK e1 with h1|⟨h1,h1'⟩
 · rcases rK e2 with h2|⟨h2,_⟩
   ·exact h i x h1 h2
   ·have:=(dC.mp h1).1;lia
 · rcases rK e2 with h2|⟨_,Bw⟩
   ·have:=(dC.mp h2).1;lia
   ·subst Bw;exact hd h1'.symm
theorem K4{j:Int}(h:j.natAbs<2^64):Wd j:=JJ h (by decide+kernel)
inductive Ug(vs:List V)(H:Hp)(Q:VK):Prop |mk (p:Int)(q:Int)(h0:vs=[.int p,.int q])(h1:0<q)(h2:q<=10^6)(h3:p.natAbs<=10^9)(h4:Q (.int (hJ p q)) H):Ug vs H Q
def Dt:Sp:=fun vs H Q _=>Ug vs H Q
theorem Mr:bh ["p","q","size"] ["p","q"] (aR Ew):=bG (by decide+kernel)
theorem a1w(F:FA K mg "nearest" Ew)(B:bL mg):aD P w K mg base "nearest" 1 Dt:=by
 refine F.has Mr (fun vs H Q E h=>?_) (fun _ _ _ _ _ _=>du fun _ _=>rfl) (fun f aJ A outer s H vs Q E hr h=>?_)
 · obtain⟨p,q,rfl,_⟩:=h
   rfl
 · obtain⟨p,q,rfl,q0,q1,p1,k⟩:=h
   have nd:=Mr.nd;refine⟨_,(aA (pS 2 nd (aG lS (aG cJ (aG bu az (cZ (x:="abs") nv rfl (B.at "abs") pC (O (pv 0) aw))) (pv 1)) (aG bu az (pv 1)))) (aH (aQ (NR (bW G5 (pv 0) az (bo _)) (pv 2) (xG wV (pv 2)))))),?_⟩;refine⟨_,rfl,p,rfl,_,_,rfl,rfl,.of_left (bV (by decide) (by decide)),_,rfl,_,_,rfl,rfl,_,rfl,_,_,rfl,rfl,.of_left (bV (by decide) (by decide)),_,_,rfl,rfl,⟨by lia,K4 (by lia)⟩,?_⟩;have e:(2*(if p<0 then-p else p)+q)/(2*q)=kz p q:=by unfold kz;rw[<-yT];rfl
   refine⟨_,rfl,_,_,rfl,rfl,_,rfl,?_⟩;unfold hJ at k;rw[<-e]at k;refine dR (fun hc=>?_) (fun hc=>?_)
   · have hp:p>=0:=jx hc
     rw[aY hp]at k;exact⟨_,rfl,k⟩
   · have hp:¬p>=0:=fun z=>hc (cB z)
     rw[aZ hp]at k;exact⟨_,rfl,_,rfl,k⟩
def Dj(ns:List Int)(k:Int):ai:=.tuple ((ns.map fun z=>hJ (k*z) (aF ns)).map PyData.int)
theorem NI{k z:Int}(h:k.natAbs<=10^6)(g:(z.natAbs:Int)<=1000):(k*z).natAbs<=10^9:=by rw[fF];exact ib (ml h (show z.natAbs<=1000 by lia)) (by decide)
inductive TB(K:aa)(vs:List V)(H:Hp)(Q:VK):Prop |mk (v:_)(ns:_)(sp:_)(k:_)(h0:vs=[v,.int k])(h1:RD K H v (iu ns sp))(h2:eu ns.length 1000 ns)(h3:ns.length<=1000)(h4:k.natAbs<=10^6)(h5:∀v' H',RD K H' v' (Dj ns k)->aB H H'->Q v' H'):TB K vs H Q
def zX(K:aa):Sp:=fun vs H Q _=>TB K vs H Q
theorem M1:bh ["line","k","lead"] ["line","k"] (aR DW):=bG (by decide+kernel)
theorem a0Q(F:FA K mg "stand_at" DW)(B:bL mg)(oJ:aD P w K mg base "lead_of" 1 (lg K))(a4Y:aD P w K mg base "nearest" 1 Dt):aD P w K mg base "stand_at" 2 (zX K):=by
 refine F.has M1 (fun vs H Q E h=>?_) (fun _ _ _ _ _ _=>du fun _ _=>rfl) (fun f aJ A outer s H vs Q E hr h=>?_)
 · obtain⟨v,ns,sp,k,rfl,_⟩:=h
   rfl
 · obtain⟨v,ns,sp,kk,rfl,rd,ok,hz,hk,k⟩:=h
   have nd:=M1.nd;refine⟨_,(aA (pS 2 nd (pf oJ hr (O (pv 0) aw))) (aH (aQ (gX (x:="tuple") (ky K rfl) rfl (B.at "tuple") fD (O (fW (N:=["step","lead","k"]) (js:=[none,some 2,some 1]) rfl rfl rfl (pT K rfl (px K (pv 0) az)) (fun _ _ _ _ _=>(bf 0 (show List.Nodup (["step","lead","k"]:List Str) by decide+kernel))) (fun _ _ _ _ _=>fw) (fun _ _ _ _ _=>(pf a4Y hr (O (aG bu (pv 2) (pv 0)) (O (pv 1) aw))))) aw))))),?_⟩;refine⟨_,rfl,v,ns,sp,rfl,rd,ok.ne,hz,fun H1 s1=>?_⟩;obtain⟨a,b,rfl,ha,hb⟩:=lI (RD.mono s1 _ rd);obtain⟨lp,lm⟩:=ok.lead;refine⟨_,rfl,.inr ⟨a,_,1,.ref b,rfl,rfl,ha,rfl,b,rfl,⟨_,hb⟩,fun D H0 nw=>?_⟩⟩;refine BS (K:=K) (xs:=ns.map V.int) (ds:=(ns.map fun z=>hJ (kk*z) (aF ns)).map PyData.int) _ hb nw (by simp) (by simpa using hz) (kF _) ?_ ?_
   · intro i x d H2 Q' ex ed s2 hq
     rw[List.map_map]at ed;obtain⟨n,en,rfl⟩:=lU ed;cases y8 ex en;refine⟨_,rfl,_,rfl,_,_,rfl,rfl,.of_left (bV (by lia) (by lia)),_,rfl,_,_,rfl,by lia,by lia,NI hk (ok.bd n (gy en)),?_⟩;exact hq _ _ (aB.refl _) (dN _)
   · intro H' ys s2 d2 r2
     refine⟨D,_,rfl,.inl ⟨aE.of d2,fun t H4 n4=>?_⟩⟩;exact k _ _ (iI (aP.of n4.at') (aI.mono n4.same _ r2)) (s1.trans (s2.trans n4.same))
def gQ(ns:List Int)(j:Nat):List Int:=ns.map fun z=>hJ (((j:Int)+1)*z) (aF ns)-hJ ((j:Int)*z) (aF ns)
def oh(ns:List Int):List ai:=(List.range (aF ns)).map fun j=>.tuple ((gQ ns j).map PyData.int)
theorem Fx(zs:List Int):fe (.tuple (zs.map PyData.int))=true:=by rw[fe];exact kF zs
theorem Fv(ns:List Int):cK (oh ns)=true:=gZ.mpr fun d hd=>by obtain⟨j,_,rfl⟩:=jy.mp hd;exact Fx _
theorem Ni{ns:List Int}{i:Nat}(h:i<aF ns):(oh ns)[i]? =some (.tuple ((gQ ns i).map PyData.int)):=by unfold oh;rw[cu,bZ (by simpa using h),ur];rfl
theorem Fw(ns:List Int):(oh ns).length=aF ns:=by simp[oh]
inductive TU(K:aa)(vs:List V)(H:Hp)(Q:VK):Prop |mk (v:_)(ns:_)(sp:_)(h0:vs=[v])(h1:RD K H v (iu ns sp))(h2:eu ns.length 1000 ns)(h3:ns.length<=1000)(h4:∀l ys H',H l=none->H' l=some (.lst ys)->aI K H' ys (oh ns)->aB H H'->Q (.ref l) H'):TU K vs H Q
def Dn(K:aa):Sp:=fun vs H Q _=>TU K vs H Q
theorem Mb:bh ["line","rows","before","k","behind"] ["line"] (aR E5):=bG (by decide+kernel)
theorem a1d(F:FA K mg "step_rows" E5)(B:bL mg)(oJ:aD P w K mg base "lead_of" 1 (lg K))(B5:aD P w K mg base "stand_at" 2 (zX K)):aD P w K mg base "step_rows" 3 (Dn K):=by
 refine F.has Mb (fun vs H Q E h=>?_) (fun _ _ _ _ _ _=>fg fun _=>rfl) (fun f aJ A outer s H vs Q E hr h=>?_)
 · obtain⟨v,ns,sp,rfl,_⟩:=h
   rfl
 · obtain⟨v,ns,sp,rfl,rd,ok,hz,k⟩:=h
   have nd:=Mb.nd;obtain⟨lp,lm⟩:=ok.lead;refine⟨_,(aA (pS 1 nd (df aw)) (aA (pS 2 nd (pf B5 hr (O (pv 0) (O az aw)))) (aA (lF gL rfl (NM rfl (B.at "range") (O az (O (aG cJ (pf oJ hr (O (pv 0) aw)) az) aw))) (bf 3 nd) (aA (pS 4 nd (pf B5 hr (O (pv 0) (O (pv 3) aw)))) (aA (gF (je K rfl (pv 1) (O (gX (x:="tuple") (ky K rfl) rfl (B.at "tuple") fD (O (fW (N:=["new","old"]) (js:=[none,none]) rfl rfl rfl (jE K rfl false false rfl (B.at "zip") (O (pv 4) (O (pv 2) aw))) (fun _ _ _ _ _=>(dJ K rfl (n:=2) rfl (bO (bf 0 (fJ (by decide))) (bO (bf 1 (fJ (by decide))) dH)))) (fun _ _ _ _ _=>fw) (fun _ _ _ _ _=>(aG fY (pv 0) (pv 1)))) aw)) aw))) (aH (pS 2 nd (pv 4)))))) (aH (aQ (pv 1)))))),?_⟩;refine⟨bP rfl,fun l H1 n1=>?_⟩;refine⟨_,rfl,v,ns,sp,0,rfl,RD.mono n1.same _ rd,ok,hz,by decide,fun u H2 ru s2=>?_⟩;have t2:=n1.same.trans s2;refine⟨_,rfl,v,ns,sp,rfl,RD.mono t2 _ rd,ok.ne,hz,fun H3 s3=>?_⟩;refine⟨_,_,rfl,rfl,_,_,rfl,⟨by lia,by lia,by lia,by lia⟩,?_⟩;have t3:=t2.trans s3;have e3:((aF ns:Int)+1-1).toNat=aF ns:=by lia
   refine BD (Pv:=fun i Z H4=>aB H H4/\(∃ys,H4 l=some (.lst ys)/\aI K H4 ys ((oh ns).take i))/\∃b v1 v2,RD K H4 b (Dj ns i)/\Z=[some v,some (.ref l),some b,v1,v2]) ?_ ?_ ?_
   ·exact⟨t3,⟨[],s3 _ _ (s2 _ _ n1.at'),cL⟩,u,none,none,RD.mono s3 _ ru,rfl⟩
   · rintro i Z H4 hi ⟨t4,⟨ys,dl,ry⟩,b,v1,v2,rb,rfl⟩
     have Hr:i<aF ns:=by lia
     refine⟨_,rfl,_,rfl,v,ns,sp,_,rfl,RD.mono t4 _ rd,ok,hz,by lia,fun b2 H5 FH s5=>?_⟩;refine⟨_,rfl,.inl ⟨rfl,_,aE.of (s5 _ _ dl)⟩,?_⟩;obtain⟨a1,xs1,rfl,h1,q1⟩:=FH.dZ;have e1:=q1.iM;subst e1;obtain⟨a0,xs0,rfl,h0,q0⟩:=(RD.mono s5 _ rb).dZ;have e0:=q0.iM;subst e0;refine⟨_,rfl,_,rfl,a1,a0,rfl,⟨_,h1⟩,⟨_,h0⟩,fun D H6 nw=>?_⟩;refine tX (K:=K) (b1:=false) (b2:=false) (ds:=(gQ ns i).map PyData.int) [] rfl h1 h0 nw (by simp[gQ]) (by simpa[gQ]using hz) (kF _) ?_ ?_
     · intro j x y d H7 Q' ex ey ed s7 hq
       obtain⟨m,em,rfl⟩:=lU ed;unfold gQ at em;rw[cu]at em ex ey;rw[cu]at ex ey;cases en:ns[j]? with |none=>rw[en]at em;cases em |some n=>
         rw[en]at em ex ey;cases em;cases ex;cases ey;refine⟨_,rfl,_,rfl,_,_,rfl,rfl,?_⟩;have ee:(1:Int)+(i:Int)=(i:Int)+1:=by lia
         rw[ee];exact hq _ _ (aB.refl _) (dN _)
     · intro H7 zs s7 d7 r7
       refine⟨D,_,rfl,.inl ⟨aE.of d7,fun t H8 n8=>?_⟩⟩;have Fh:=s5.trans (s7.trans n8.same);have md:=Fh _ _ dl;have len:=ry.length;rw[nS,Fw]at len;refine⟨l,ys,_,rfl,rfl,md,?_,?_⟩
       · have:(1000:Nat)<sizeLine:=by decide
         lia
       refine⟨_,rfl,?_⟩;have tt:iB H8 (L2.upd H8 l (.lst (ys++[.ref t]))):=.pJ md;refine⟨fun b o e=>?_,⟨_,ba,?_⟩,_,_,_,?_,rfl⟩
       ·rw[aK (fQ e n1.no)];exact Fh b o (t4 b o e)
       · rw[pF,Ni Hr]
         have nt:cK ((oh ns).take i)=true:=gZ.mpr fun d hd=>gZ.mp (Fv ns) d (CB hd);exact(aI.t tt _ nt (aI.mono Fh _ ry)).append (bQ (RD.t tt _ (Fx _) (iI (aP.of n8.at') (aI.mono n8.same _ r7))) cL)
       · have ee:(1:Int)+(i:Int)=((i+1:Nat):Int):=by lia
         rw[ee]at FH;exact RD.t tt _ (Fx _) (RD.mono (s7.trans n8.same) _ FH)
   · rintro Z H4 ⟨t4,⟨ys,dl,ry⟩,b,v1,v2,rb,rfl⟩
     rw[e3,JN (by rw[Fw];exact bF _)]at ry;exact⟨_,rfl,k l ys H4 n1.no dl ry t4⟩
def fS(ti:Int)(q:Rat)(t:Int):Bool:=decide (ti*ti*(q.den:Int)<=t*t*q.num)
inductive Ux(K:aa)(vs:List V)(H:Hp)(Q:VK):Prop |mk (m:_)(sq:_)(t:_)(rs:_)(r:_)(f:_)(j:_)(ti:_)(q:_)(h0:vs=[m,sq,.int t])(h1:RD K H m (iL rs r f j ti))(h2:bc K H sq q)(h3:Bd 2000 q)(h4:1<=ti)(h5:ti<=100)(h6:0<=t)(h7:t.natAbs<2^2400)(h8:Q (.bl (fS ti q t)) H):Ux K vs H Q
def Ly(K:aa):Sp:=fun vs H Q _=>Ux K vs H Q
theorem MS:bh ["machine","square","t","p","q","ticks"] ["machine","square","t"] (aR EZ):=bG (by decide+kernel)
theorem a1V(F:FA K mg "are_enough" EZ)(B:bL mg):aD P w K mg base "are_enough" 1 (Ly K):=by
 refine F.has MS (fun vs H Q E h=>?_) (fun _ _ _ _ _ _=>ny fun _ _ _=>rfl) (fun f aJ A outer s H vs Q E hr h=>?_)
 · obtain⟨m,sq,t,rs,r,f,j,ti,q,rfl,_⟩:=h
   rfl
 · obtain⟨m,sq,t,rs,r,f,j,ti,q,rfl,rm,⟨p,rfl,hp⟩,bq,t1,t2,t0,tw,k⟩:=h
   have nd:=MS.nd;refine⟨_,(aA (fO (pv 1) (dJ K rfl (n:=2) rfl (bO (bf 3 nd) (bO (bf 4 nd) dH)))) (aA (pS 5 nd (px K (pv 0) az)) (aH (aQ (fb G5 (aG bu (aG bu (pv 2) (pv 2)) (pv 3)) (aG bu (aG bu (pv 5) (pv 5)) (pv 4)) (bo _)))))),?_⟩;obtain⟨a,b,rfl,ha,hb⟩:=kI rm;have wt:Wd t:=gM tw (by decide);have zE:Wd (t*t):=gM (n:=4800) (by rw[fF];exact kG (n:=2400) (m:=2400) tw tw) (by decide);have m1:(ti*ti).natAbs<=100*100:=by rw[fF];exact ml (by omega) (by omega)
   refine⟨_,rfl,_,_,rfl,hp,rfl,_,_,rfl,_,_,rfl,rfl,?_⟩;refine⟨_,rfl,.inr ⟨a,_,4,.int ti,rfl,rfl,ha,rfl,?_⟩⟩;refine⟨_,rfl,_,rfl,_,_,rfl,rfl,ij wt.bits wt.bits,_,rfl,_,_,rfl,rfl,ij zE.bits bq.wn.bits,?_⟩;refine⟨_,rfl,_,rfl,_,_,rfl,rfl,.of_left (bV (by omega) (by omega)),_,rfl,_,_,rfl,rfl,.of_left (bV (by omega) (by omega)),?_⟩;exact⟨_,_,rfl,rfl,k⟩
theorem QY{ti t:Int}{q:Rat}(hq:0<q.num)(h0:0<=t)(h:ti*ti*(q.den:Int)<=t):fS ti q t=true:=by
 refine cB (Int.le_trans h ?_);by_cases ht:t=0
 ·subst ht;simp
 · have e1:t*1<=t*t:=aaF (by lia) h0
   have e2:t*t*1<=t*t*q.num:=aaF (by lia) (jz h0 h0)
   lia
theorem QW{ti:Int}{q:Rat}(h1:1<=ti):fS ti q 0=false:=by
 refine eQ fun h=>?_;have:=iG (iG (show 0<ti by lia) (show 0<ti by lia)) (den_pos q);simp only[zv]at h
 lia
inductive Tv(K:aa)(vs:List V)(H:Hp)(Q:VK):Prop |mk (m:_)(sq:_)(rs:_)(r:_)(f:_)(j:_)(ti:_)(q:_)(h0:vs=[m,sq])(h1:RD K H m (iL rs r f j ti))(h2:bc K H sq q)(h3:Bd 2000 q)(h4:1<=ti)(h5:ti<=100)(h6:0<q.num)(h7:∀T,1<=T->T.natAbs<2^2400->fS ti q T=true->fS ti q (T-1)=false->Q (.int T) H):Tv K vs H Q
def KY(K:aa):Sp:=fun vs H Q _=>Tv K vs H Q
theorem LX:bh ["machine","square","enough","too_few","between"] ["machine","square"] (aR DS):=bG (by decide+kernel)
theorem a0M(F:FA K mg "ticks_of" DS)(B:bL mg)(Q9:aD P w K mg base "are_enough" 1 (Ly K)):aD P w K mg base "ticks_of" 2 (KY K):=by
 refine F.has LX (fun vs H Q E h=>?_) (fun _ _ _ _ _ _=>du fun _ _=>rfl) (fun f aJ A outer s H vs Q E hr h=>?_)
 · obtain⟨m,sq,rs,r,f,j,ti,q,rfl,_⟩:=h
   rfl
 · obtain⟨m,sq,rs,r,f,j,ti,q,rfl,rm,rq,bq,t1,t2,hq,k⟩:=h
   have nd:=LX.nd;refine⟨_,(aA (pS 2 nd az) (aA (mH gL (fi (cI (pf Q9 hr (O (pv 0) (O (pv 1) (O (pv 2) aw)))))) (aH (pS 2 nd (aG bu az (pv 2))))) (aA (pS 3 nd (aG lS (pv 2) az)) (aA (mH gL (bW rZ (aG fY (pv 2) (pv 3)) az (bo _)) (aA (pS 4 nd (aG lS (aG cJ (pv 3) (pv 2)) az)) (aH (bJ (cI (pf Q9 hr (O (pv 0) (O (pv 1) (O (pv 4) aw))))) (aH (pS 2 nd (pv 4))) (aH (pS 3 nd (pv 4))))))) (aH (aQ (pv 2))))))),?_⟩;have lim:(ti*ti*(q.den:Int)).natAbs<2^2399:=by
    have m1:(ti*ti).natAbs<=100*100:=by rw[fF];exact ml (by lia) (by lia)
    have hd:=bq.den;rw[fF];have:(q.den:Int).natAbs=q.den:=rfl;rw[this];have:=kG (n:=14) (m:=2000) (a:=(ti*ti).natAbs) (b:=q.den) (pD m1 (by decide)) hd;exact fU this (qV (by decide) (by decide))
   have p0:0<ti*ti*(q.den:Int):=iG (iG (by lia) (by lia)) (den_pos q);have e2:(2:Nat)^2400=2^2399*2:=Nat.pow_succ 2 2399;generalize hL:ti*ti*(q.den:Int)=L at lim p0;refine mm (fun Z H2=>H2=H/\∃(x:Int),Z=[some m,some sq,some (.int x),none,none]/\1<=x/\x<=2*L/\fS ti q (x/2)=false) (fun Z _=>match Z with|[_,_,some (.int x),_,_]=>(L-x).toNat|_=>0) ?_ ?_ ?_
   ·exact⟨rfl,1,rfl,by lia,by lia,QW t1⟩
   · rintro Z H2 ⟨rfl,x,rfl,x1,xL,hx⟩
     have xw:x.natAbs<2^2400:=by lia
     refine⟨_,rfl,_,rfl,_,rfl,m,sq,x,rs,r,f,j,ti,q,rfl,rm,rq,bq,t1,t2,by lia,xw,_,rfl,?_⟩;cases oQ:fS ti q x with
     |false=>
       have cy:x<L:=by
        by_cases cy:x<L
        ·exact cy
        ·rw[QY hq (by lia) (by lia)]at oQ;cases oQ
       refine dR (fun hc=>?_) (fun hc=>(hc rfl).elim);refine⟨_,rfl,_,_,rfl,rfl,.of_left (bV (by decide) (by decide)),?_⟩;refine⟨⟨rfl,_,rfl,by lia,by lia,?_⟩,?_⟩
       · have:2*x/2=x:=by lia
         rw[this];exact oQ
       · show(L-2*x).toNat<(L-x).toNat
         lia |true=>
       refine dR (fun hc=>nomatch hc) (fun hc=>?_);refine⟨_,rfl,_,_,rfl,rfl,⟨by decide,gM (n:=2) (by decide) (by decide)⟩,?_⟩;refine mm (fun Z H3=>H3=H2/\∃(lo hi:Int)(v:Option V),Z=[some m,some sq,some (.int hi),some (.int lo),v]/\0<=lo/\lo<hi/\hi<=2*L/\fS ti q lo=false/\fS ti q hi=true) (fun Z _=>match Z with|[_,_,some (.int x),some (.int y),_]=>(x-y).toNat|_=>0) ?_ ?_ ?_
       ·exact⟨rfl,x/2,x,none,rfl,by lia,by lia,xL,hx,oQ⟩
       · rintro Z H3 ⟨rfl,lo,hi,v,rfl,l0,lh,yy,yL,tQ⟩
         refine⟨_,rfl,_,rfl,_,_,rfl,rfl,_,_,rfl,rfl,_,rfl,?_⟩;refine dR (fun hc=>?_) (fun hc=>?_)
         · have hgt:hi-lo>1:=jx hc
           refine⟨_,rfl,_,rfl,_,_,rfl,rfl,_,_,rfl,rfl,⟨by decide,gM (n:=2) (by decide) (by decide)⟩,?_⟩;have mw:((lo+hi)/2).natAbs<2^2400:=by lia
           refine⟨_,rfl,_,rfl,_,rfl,m,sq,(lo+hi)/2,rs,r,f,j,ti,q,rfl,rm,rq,bq,t1,t2,by lia,mw,_,rfl,?_⟩;cases hm:fS ti q ((lo+hi)/2)with
           |true=>
             refine bT ?_;refine⟨_,rfl,⟨rfl,lo,_,_,rfl,l0,by lia,by lia,yL,hm⟩,?_⟩;show((lo+hi)/2-lo).toNat<(hi-lo).toNat
             lia |false=>
             refine bB ?_;refine⟨_,rfl,⟨rfl,_,hi,_,rfl,by lia,by lia,yy,hm,tQ⟩,?_⟩;show(hi-(lo+hi)/2).toNat<(hi-lo).toNat
             lia
         · have hle:¬hi-lo>1:=fun z=>hc (cB z)
           have e:lo=hi-1:=by lia
           subst e;exact⟨_,rfl,k hi (by lia) (by lia) tQ yL⟩
       · rintro Z H2 Q1 Q2 hq ⟨v1,e1,v2,e2,i,j,e3,e4,i2,j2,e5,e6,kk,e7,q⟩
         exact⟨v1,e1,v2,e2,i,j,e3,e4,i2,j2,e5,e6,kk,e7,hq _ _ q⟩
   · rintro Z H2 Q1 Q2 hq ⟨v1,e1,v2,e2,v3,e3,m',XB,x',Yx,r',f',j',WH,q',e4,h1,h2,h3,h4,h5,h6,h7,b,eb,q⟩
     exact⟨v1,e1,v2,e2,v3,e3,m',XB,x',Yx,r',f',j',WH,q',e4,h1,h2,h3,h4,h5,h6,h7,b,eb,hq _ _ q⟩
def yV(ti:Int)(q:Rat)(T:Int):Prop:=1<=T/\fS ti q T=true/\fS ti q (T-1)=false
open Classical in
noncomputable def D5(ti:Int)(q:Rat):Int:=if h:∃T,yV ti q T then h.choose else 0
theorem QX{ti:Int}{q:Rat}{s t:Int}(hq:0<=q.num)(h0:0<=s)(h:s<=t)(e:fS ti q s=true):fS ti q t=true:=by refine cB (Int.le_trans (jx e) ?_);exact aaE (CJ h h h0 (by lia)) hq
theorem WK{ti:Int}{q:Rat}{S T:Int}(hq:0<=q.num)(h1:yV ti q S)(h2:yV ti q T):S=T:=by
 obtain⟨a1,a2,a3⟩:=h1;obtain⟨b1,b2,b3⟩:=h2;by_cases h:S<=T-1
 · have:=QX hq (by lia) h a2
   rw[b3]at this;cases this
 · by_cases h':T<=S-1
   · have:=QX hq (by lia) h' b2
     rw[a3]at this;cases this
   ·lia
theorem Kn{ti:Int}{q:Rat}{T:Int}(hq:0<=q.num)(h:yV ti q T):D5 ti q=T:=by have hx:∃T,yV ti q T:=⟨T,h⟩;unfold D5;rw[dif_pos hx];exact WK hq hx.choose_spec h
theorem Gd{q:Rat}(h:0<q):0<q.num:=by
 have h1:=Rat.num_nonneg.mpr (JD h);have h2:q.num≠0:=fun e=>by rw[Rat.num_eq_zero.mp e]at h;exact absurd h (by decide)
 lia
noncomputable def nZ(ti:Int)(zs:List Int)(q:Rat):ai:=.tuple [.str "step",.tuple (zs.map PyData.int),.int (D5 ti q),cH q]
theorem Di(ti:Int)(zs:List Int)(q:Rat):fe (nZ ti zs q)=true:=by simp[nZ,fe,cK,kF,pR]
inductive Uw(K:aa)(vs:List V)(H:Hp)(Q:VK):Prop |mk (m:_)(rv:_)(sq:_)(rs:_)(r:_)(f:_)(j:_)(ti:_)(zs:_)(q:_)(h0:vs=[m,rv,sq])(h1:RD K H m (iL rs r f j ti))(h2:nH rs r f j ti)(h3:RD K H rv (.tuple (zs.map PyData.int)))(h4:bc K H sq q)(h5:Bd 2000 q)(h6:0<q)(h7:∀v H',RD K H' v (nZ ti zs q)->aB H H'->Q v H'):Uw K vs H Q
def Dy(K:aa):Sp:=fun vs H Q _=>Uw K vs H Q
theorem MR:bh ["machine","row","square"] ["machine","row","square"] (aR EY):=bG (by decide+kernel)
theorem a1U(F:FA K mg "step_entry" EY)(B:bL mg)(a4v:aD P w K mg base "ticks_of" 2 (KY K)):aD P w K mg base "step_entry" 3 (Dy K):=by
 refine F.has MR (fun vs H Q E h=>?_) (fun _ _ _ _ _ _=>ny fun _ _ _=>rfl) (fun f aJ A outer s H vs Q E hr h=>?_)
 · obtain⟨m,rv,sq,rs,r,f,j,ti,zs,q,rfl,_⟩:=h
   rfl
 · obtain⟨m,rv,sq,rs,r,f,j,ti,zs,q,rfl,rm,aM,rr,Rq,bq,q0,k⟩:=h
   have nd:=MR.nd;refine⟨_,(aH (aQ (dP (O aX (O (pv 1) (O (pf a4v hr (O (pv 0) (O (pv 2) aw))) (O (pv 2) aw))))))),?_⟩;have t1:=aM.t1;have qn:0<q.num:=Gd q0;refine⟨_,rfl,_,rfl,_,rfl,m,sq,rs,r,f,j,ti,q,rfl,rm,Rq,bq,t1.1,t1.2,qn,fun T T1 _ T2 T3=>?_⟩;refine⟨_,rfl,bP rfl,fun t H1 n1=>k (.ref t) H1 ?_ n1.same⟩;have e:=Kn (by lia) ⟨T1,T2,T3⟩;unfold nZ;rw[e];exact iI (aP.of n1.at') (bQ (cM _) (bQ (RD.mono n1.same _ rr) (bQ (dN _) (bQ (Rq.go n1.same).rd cL))))
theorem Km{ay sp:Int}(h1:1<=sp)(h2:10<=ay):0<topR ay sp:=by
 have h0:=Ow.zO ay sp;refine JC h0 fun e=>?_;have hp:0<(sp*ay)^2:=by rw[fE,fE,lb,kr];exact iG (iG (by lia) (by lia)) (iG (by lia) (by lia))
 have h2:0<=Rat.divInt (-((sp*ay)^2)) 10000:=by rw[<-Rat.neg_divInt];show 0<=-(topR ay sp);rw[<-e];decide
 have:=(wH (by decide)).mp h2
 lia
inductive Uc(K:aa)(vs:List V)(H:Hp)(Q:VK):Prop |mk (m:_)(iv:_)(ay:_)(rs:_)(r:_)(f:_)(j:_)(t:_)(ds:_)(os:_)(h0:vs=[m,iv,.int ay])(h1:RD K H m (iL rs r f j t))(h2:nH rs r f j t)(h3:RD K H iv (.list ds))(h4:gD rs.length ds os)(h5:ds.length<=100)(h6:10<=ay)(h7:ay<=200)(h8:∀l ys H',H l=none->H' l=some (.lst ys)->aI K H' ys ((ownL j ay os).map cH)->aB H H'->Q (.ref l) H'):Uc K vs H Q
def Lr(K:aa):Sp:=fun vs H Q _=>Uc K vs H Q
theorem a1t(F:FA K mg "own_bounds" A5)(B:bL mg)(gN:GT K mg "NOUGHT" [.int 0,.int 1])(Hx:aD P w K mg base "bound_between" 7 (A3 K)):aD P w K mg base "own_bounds" 8 (Lr K):=by
 obtain⟨aN,kP,mz⟩:=gN;refine F.has A4 (fun vs H Q E h=>?_) (fun _ _ _ _ _ _=>ny fun _ _ _=>rfl) (fun f aJ A outer s H vs Q E hr h=>?_)
 · obtain⟨m,iv,ay,rs,r,f,j,t,ds,os,rfl,_⟩:=h
   rfl
 · obtain⟨m,iv,ay,rs,r,f,j,t,ds,os,rfl,rm,aM,ri,row,hz,dk,dF,k⟩:=h
   have nd:=A4.nd;have rN:∀H',RD K H' (.ref aN) (cH 0):=fun H'=>(sy (mz H')).rd;refine⟨_,(aA (bJ (fi (FR K rfl (pv 1))) (aH (aQ (df (O (ek (x:="NOUGHT") rfl kP) aw)))) bM) (aA (FU (i0:=3) nd rfl (Or.inl rfl) (N:=["one","other","machine","rate"]) (js:=[none,none,some 0,some 2]) rfl rfl rfl (jE K rfl true true rfl (B.at "zip") (O (pv 1) (O (FZ (DB K rfl) (pv 1) (FV az) FW) aw))) (fun _ _ _ _ _=>(dJ K rfl (n:=2) rfl (bO (bf 0 (show List.Nodup (["one","other","machine","rate"]:List Str) by decide+kernel)) (bO (bf 1 (show List.Nodup (["one","other","machine","rate"]:List Str) by decide+kernel)) dH)))) (fun _ _ _ _ _=>fw) (fun _ _ _ _ _=>(pf Hx hr (O (pv 2) (O (pv 0) (O (pv 1) (O (pv 3) aw))))))) (aH (aQ (aG (wm K rfl) (aG (wm K rfl) (df (O (ek (x:="NOUGHT") rfl kP) aw)) (pv 3)) (df (O (ek (x:="NOUGHT") rfl kP) aw))))))),?_⟩;obtain⟨ia,xs,rfl,hi,hW⟩:=ri.lst_inv;have lx:=hW.length;have ll:=row.len;refine⟨_,rfl,_,.inl ⟨_,hi,rfl⟩,?_⟩;cases hd:xs with
   |nil=>
     subst hd;refine bT ?_;refine⟨bP rfl,fun l H1 n1=>?_⟩;refine k l [.ref aN] H1 n1.no n1.at' ?_ n1.same;have e:os=[]:=by
      have:os.length=0:=by rw[<-ll,<-lx];rfl
      exact CD.mp this
     rw[e];exact bQ (rN H1) cL |cons x0 xr=>
     refine bB ?_;have dy:os≠[]:=by intro e;rw[e]at ll;rw[hd]at lx;simp at ll lx;rw[ll]at lx;cases lx
     have GX:0<xs.length:=by rw[hd];simp
     refine⟨_,rfl,_,rfl,1,rfl,ia,xs,rfl,.inl ⟨hi,fun tl H1 n1=>?_⟩⟩;refine⟨ia,tl,rfl,⟨_,hi.go n1.same⟩,⟨_,aE.of n1.at'⟩,fun D H2 n2=>?_⟩;have et:=n1.at';rw[IY]at et;have xK:∀(i:Nat)(o:Itm),os[i]? =some o->∀(ns:List Int)(sp:Int),o=some (ns,sp)->eu rs.length 100 ns/\1<=sp/\sp<=20:=fun i o e ns sp e'=>row.ok i ns sp (by rw[e,e']);have lr:=aM.len;refine tX (K:=K) (b1:=true) (b2:=true) (xs:=xs) (ys:=xs.drop 1) (ds:=((List.range (os.length-1)).map (fun i=>ownF j ay os (i+1))).map cH) _ rfl (hi.go n1.same) (aE.of et) n2 (by rw[JS];simp;lia) (by simp;lia) (vh _) ?_ ?_
     · intro i x y d H3 Q' ex ey ed s3 hq
       have cY:=n1.same.trans s3;rw[List.getElem?_drop]at ey;obtain⟨d1,e1,r1⟩:=hW.get' i ex;obtain⟨d2,e2,r2⟩:=hW.get' (1+i) ey;obtain⟨o1,mY,i1⟩:=row.get e1;obtain⟨o2,lM,i2⟩:=row.get e2;have PU:1+i<os.length:=(dC.mp lM).1;have kU:d=cH (betR j ay o1 o2):=by rw[cu,cu,bZ (by simp;lia),ur]at ed;have:=(dG ed).symm;rw[this];show cH (betR j ay (atO os i) (atO os (i+1)))=_;rw[Ow.p7 mY,Ow.p7 (show os[i+1]? =some o2 by rw[Nat.add_comm];exact lM)]
       subst kU;refine⟨_,rfl,_,rfl,_,rfl,_,rfl,m,x,y,ay,rs,r,f,j,t,d1,d2,o1,o2,rs.length,rfl,RD.mono cY _ rm,aM.j1.1,aM.j1.2,RD.mono cY _ r1,RD.mono cY _ r2,i1,i2,xK _ _ mY,xK _ _ lM,by lia,dk,dF,fun v H4 rv s4=>?_⟩;exact hq _ _ s4 rv.rd
     · intro H3 zs s3 d3 r3
       have lz:=r3.length;simp at lz;refine⟨bP rfl,fun l1 H4 n4=>?_⟩;refine⟨_,rfl,l1,D,_,zs,rfl,rfl,aE.of n4.at',aE.of (n4.same _ _ d3),xn _ (by simp;lia),fun l2 H5 n5=>?_⟩;refine⟨bP rfl,fun l3 H6 n6=>?_⟩;refine⟨l2,l3,_,_,rfl,rfl,aE.of (n6.same _ _ n5.at'),aE.of n6.at',xn _ (by simp;lia),fun l H7 n7=>?_⟩;have xu:aB H H6:=n1.same.trans (s3.trans (n4.same.trans (n5.same.trans n6.same)));have nl:H l=none:=by cases e:H l with |none=>rfl |some o=>have:=xu _ _ e;rw[n7.no]at this;cases this
       refine k l _ H7 nl n7.at' ?_ (xu.trans n7.same);rw[Ow.NY j ay dy,nR,nR];exact((bQ (rN H7) cL).append (aI.mono (n4.same.trans (n5.same.trans (n6.same.trans n7.same))) _ r3)).append (bQ (rN H7) cL)
inductive Uv(K:aa)(vs:List V)(H:Hp)(Q:VK):Prop |mk (m:_)(iv:_)(l:_)(ys:_)(rs:_)(r:_)(f:_)(j:_)(t:_)(ds:_)(os:_)(g:_)(h0:vs=[m,iv,.ref l])(h1:RD K H m (iL rs r f j t))(h2:nH rs r f j t)(h3:RD K H iv (.list ds))(h4:gD rs.length ds os)(h5:ds.length<=30)(h6:H l=some (.lst ys))(h7:aI K H ys ((lst os.length g).map cH))(h8:(∀i,i<=os.length->Bd 900 (g i)))(h9:∀l ys H',H l=none->H' l=some (.lst ys)->aI K H' ys ((lst os.length (fl os.length (leadF os) (2*f) g)).map cH)->aB H H'->Q (.ref l) H'):Uv K vs H Q
def Lx(K:aa):Sp:=fun vs H Q _=>Uv K vs H Q
theorem a1T(F:FA K mg "kept_by_fall" EX)(B:bL mg)(qj:aD P w K mg base "is_line" 1 (uJ K))(oJ:aD P w K mg base "lead_of" 1 (lg K))(vF:aD P w K mg base "plus_whole" 4 (A1 K))(vK:aD P w K mg base "least" 2 (jc K)):aD P w K mg base "kept_by_fall" 5 (Lx K):=by
 refine F.has MQ (fun vs H Q E h=>?_) (fun _ _ _ _ _ _=>ny fun _ _ _=>rfl) (fun fa aJ A outer s H vs Q E hr h=>?_)
 · obtain⟨m,iv,l,ys,rs,r,f,j,t,ds,os,g,rfl,_⟩:=h
   rfl
 · obtain⟨m,iv,l,ys,rs,r,f,j,t,ds,os,g,rfl,rm,aM,ri,row,hz,dl,pP,bg,k⟩:=h
   have nd:=MQ.nd;refine⟨_,(aA (pS 3 nd (px K (pv 0) az)) (aA (pS 4 nd (gX (x:="list") (GC K rfl) rfl (B.at "list") ko (O (pv 2) aw))) (aA (lF gL rfl (ZR rfl (B.at "reversed") (O (gX (x:="range") a9y rfl (B.at "range") PyProof.Rows.boot_range (O (dQ K B (O (pv 1) aw)) aw)) aw)) (bf 5 nd) (aH (bJ (cI (pf qj hr (O (px K (pv 1) (pv 5)) aw))) (aH (fO (pf vK hr (O (df (O (px K (pv 4) (pv 5)) (O (pf vF hr (O (px K (pv 4) (aG cJ (pv 5) az)) (O (aG bu (aG bu az (pv 3)) (pf oJ hr (O (px K (pv 1) (pv 5)) aw))) aw))) aw))) aw)) (rY (pv 4) (pv 5) set_list))) bM))) (aH (aQ (pv 4)))))),?_⟩;obtain⟨ma,mb,rfl,gC,jn⟩:=kI rm;obtain⟨ia,xs,rfl,hi,hW⟩:=ri.lst_inv;have lx:=hW.length;have ll:=row.len;have lr:=aM.len;have hL:∀i m,leadF os i=some m->(2*f*(m:Int)).natAbs<2^24:=fun i m e=>Kf aM.f1.1 aM.f1.2 (P5 row.vc e);have FB:∀i,i<=os.length->Bd 1700 (fl os.length (leadF os) (2*f) g i):=fun i hi=>(QC bg hL i hi).mono (by lia);refine⟨_,rfl,.inr ⟨ma,_,2,.int f,rfl,rfl,gC,rfl,?_⟩⟩;refine⟨_,rfl,l,ys,rfl,.inl (aE.of dl),fun D H1 n1=>?_⟩;refine⟨_,rfl,ia,_,rfl,.inl (hi.go n1.same),_,rfl,fun pr H2 n2=>?_⟩;refine⟨pr,_,rfl,n2.at',by lia,by lia,?_⟩;have eN:((xs.length:Int)).toNat=os.length:=by lia
   rw[eN];refine a78 (Pv:=fun i Z H5=>aB H H5/\∃zs v1,H5 D=some (.lst zs)/\aI K H5 zs ((lst os.length fun k=>if os.length<=k+i then fl os.length (leadF os) (2*f) g k else g k).map cH)/\Z=[some (.ref ma),some (.ref ia),some (.ref l),some (.int f),some (.ref D),v1]) ?_ ?_ ?_
   · refine⟨n1.same.trans n2.same,ys,none,n2.same _ _ n1.at',?_,rfl⟩
     rw[Gx (g:=fun k=>if os.length<=k+0 then fl os.length (leadF os) (2*f) g k else g k) (g':=g)]
     ·exact aI.mono (n1.same.trans n2.same) _ pP
     · intro k hk
       show g k=if os.length<=k+0 then _ else g k;split
       · next h => have:k=os.length:=by lia
                   subst this;exact vU.symm
       ·rfl
   · rintro i Z H3 Bj ⟨s3,zs,v1,dz,rz,rfl⟩
     obtain⟨x,hx⟩:∃x,xs[os.length-1-i]? =some x:=⟨_,bZ (show os.length-1-i<xs.length by lia)⟩;generalize hc:os.length-1-i=c at hx;have lK:c<os.length:=by lia
     have eI:((os.length:Int)-1-(i:Int))=(c:Int):=by lia
     rw[eI];obtain⟨d,ed,rd⟩:=hW.get' c hx;obtain⟨o,eo,it⟩:=row.get ed;have lz:=rz.length;rw[cj,qc]at lz;have yS:fA xs (c:Int)=some x:=cW (by lia) (by simpa using hx);refine⟨_,rfl,_,rfl,.inl ⟨ia,_,_,_,rfl,rfl,hi.go s3,yS,?_⟩⟩;refine⟨x,d,o,rfl,RD.mono s3 _ rd,it,_,rfl,?_⟩;cases o with
     |none=>
       refine bB ?_;refine⟨s3,zs,_,dz,?_,rfl⟩;rw[Gx (g:=fun k=>if os.length<=k+(i+1)then fl os.length (leadF os) (2*f) g k else g k) (g':=fun k=>if os.length<=k+i then fl os.length (leadF os) (2*f) g k else g k)]
       ·exact rz
       · intro k _
         show(if os.length<=k+i then _ else g k)=if os.length<=k+(i+1)then _ else g k;by_cases h1:os.length<=k+i
         ·rw[aY h1,aY (by lia)]
         · rw[aZ h1]
           by_cases h2:k=c
           ·subst h2;rw[aY (by lia),vT lK (P4 eo)]
           ·rw[aZ (by lia)] |some q=>
       obtain⟨ns,sp⟩:=q;refine bT ?_;have kU:=kj it;subst kU;obtain⟨eG,_,_⟩:=row.ok c ns sp eo;obtain⟨z1,QJ⟩:∃z,zs[c+1]? =some z:=⟨_,bZ (show c+1<zs.length by lia)⟩;obtain⟨z0,yK⟩:∃z,zs[c]? =some z:=⟨_,bZ (show c<zs.length by lia)⟩;have R1:bc K H3 z1 (fl os.length (leadF os) (2*f) g (c+1)):=by
        obtain⟨d1,e1,r1⟩:=rz.get' (c+1) QJ;rw[cu,qe _ (show c+1<=os.length by lia)]at e1;cases e1;have:os.length<=c+1+i:=by lia
        simp only[aY this]at r1;exact mG r1
       have R0:bc K H3 z0 (g c):=by
        obtain⟨d1,e1,r1⟩:=rz.get' c yK;rw[cu,qe _ (show c<=os.length by lia)]at e1;cases e1;have:¬os.length<=c+i:=by lia
        simp only[aZ this]at r1;exact mG r1
       have IM:((c:Int)+1).toNat=c+1:=by lia
       have Je:fA zs ((c:Int)+1)=some z1:=cW (by lia) (by rw[IM];exact QJ);have Jf:fA zs (c:Int)=some z0:=cW (by lia) (by simpa using yK);refine⟨_,rfl,_,rfl,.inl ⟨D,_,_,_,rfl,rfl,aE.of dz,Jf,?_⟩⟩;refine⟨_,rfl,_,rfl,_,_,rfl,rfl,.inl ⟨D,_,_,_,rfl,rfl,aE.of dz,Je,?_⟩⟩;refine⟨_,rfl,_,_,rfl,rfl,.of_left (bV (by decide) (by decide)),?_⟩;refine⟨_,rfl,_,rfl,.inl ⟨ia,_,_,_,rfl,rfl,hi.go s3,yS,?_⟩⟩;refine⟨x,ns,sp,rfl,RD.mono s3 _ rd,eG.ne,by rw[eG.len];lia,fun H4 s4=>?_⟩;have qA:=aM.f1;refine⟨_,_,rfl,rfl,.of_left (bV (by lia) (by lia)),?_⟩;have us:=hL c _ (AS eo);refine⟨z1,_,_,rfl,R1.go s4,(FB (c+1) (by lia)).mono (by decide),us,fun u H5 ru s5=>?_⟩;refine⟨bP rfl,fun l2 H6 n6=>?_⟩;have pO:=s4.trans (s5.trans n6.same);have SJ:=R0.go pO;have Ru:=ru.go n6.same;have B1:Bd 2000 (g c):=(bg _ (by lia)).mono (by decide);have B2:Bd 2000 (fl os.length (leadF os) (2*f) g (c+1)+((2*f*(aF ns:Int):Int):Rat)):=(C5 (FB (c+1) (by lia)) us).mono (by decide);refine⟨l2,[z0,u],[_,_],rfl,aE.of n6.at',⟨SJ,B1,Ru,B2,trivial⟩,by simp,fun c' v q e1 e2 hq=>?_⟩;have sW:mn (g c) (fl os.length (leadF os) (2*f) g (c+1)+((2*f*(aF ns:Int):Int):Rat))=q:=by
        refine mK ?_ (hq _ (by simp)) (hq _ (by simp))
        match c',e2 with |0,e2=>cases e2;exact .inl rfl |1,e2=>cases e2;exact .inr rfl
       have Rv:bc K H6 v q:=by match c',e1,e2 with |0,e1,e2=>cases e1;cases e2;exact SJ |1,e1,e2=>cases e1;cases e2;exact Ru
       have Rm:=pO _ _ dz;have vx:jk zs.length (c:Int)=some c:=by unfold jk;rw[aY (by lia),aY (by lia)];simp
       refine⟨_,rfl,_,rfl,D,zs,_,_,rfl,rfl,Rm,vx,?_⟩;refine⟨fun b o e=>?_,_,_,ba,?_,rfl⟩
       ·rw[aK (fQ e n1.no)];exact pO b o (s3 b o e)
       · have h:=aI.DF (i:=c) Rm (aI.mono pO _ rz) Rv.rd (vh _) (pR _)
         rw[<-zq]at h;have e:(lst os.length fun k=>if os.length<=k+i then fl os.length (leadF os) (2*f) g k else g k).set c q=lst os.length fun k=>if os.length<=k+(i+1)then fl os.length (leadF os) (2*f) g k else g k:=by
          rw[<-a3a (g:=fun k=>if os.length<=k+i then fl os.length (leadF os) (2*f) g k else g k) (g':=fun k=>if os.length<=k+(i+1)then fl os.length (leadF os) (2*f) g k else g k) (i:=c)]
          · have:os.length<=c+(i+1):=by lia
            simp only[aY this];rw[vV lK (AS eo),sW]
          · intro k _ hk
            show(if os.length<=k+(i+1)then _ else g k)=if os.length<=k+i then _ else g k;by_cases h1:os.length<=k+i
            ·rw[aY h1,aY (by lia)]
            ·rw[aZ h1,aZ (by lia)]
         rw[e]at h;exact h
   · rintro Z H3 ⟨s3,zs,v1,dz,rz,rfl⟩
     rw[Gx (g:=fun k=>if os.length<=k+os.length then fl os.length (leadF os) (2*f) g k else g k) (g':=fl os.length (leadF os) (2*f) g) (fun k hk=>by show _=if os.length<=k+os.length then _ else _;rw[aY (by lia)])]at rz;exact⟨_,rfl,k D zs H3 n1.no dz rz s3⟩
def Nq(f j ay:Int)(os:List Itm):Rat:=fl os.length (leadF os) (2*f) (ownF j ay os) 1
inductive TV(K:aa)(vs:List V)(H:Hp)(Q:VK):Prop |mk (m:_)(iv:_)(ay:_)(rs:_)(r:_)(f:_)(j:_)(t:_)(ds:_)(os:_)(h0:vs=[m,iv,.int ay])(h1:RD K H m (iL rs r f j t))(h2:nH rs r f j t)(h3:RD K H iv (.list ds))(h4:gD rs.length ds os)(h5:ds.length<=30)(h6:1<=ds.length)(h7:10<=ay)(h8:ay<=200)(h9:∀v H',bc K H' v (Nq f j ay os)->aB H H'->Q v H'):TV K vs H Q
def Dp(K:aa):Sp:=fun vs H Q _=>TV K vs H Q
theorem Md:bh ["machine","items","rate"] ["machine","items","rate"] (aR E7):=bG (by decide+kernel)
theorem a1p(F:FA K mg "reach_behind_first" E7)(B:bL mg)(a4O:aD P w K mg base "own_bounds" 8 (Lr K))(a59:aD P w K mg base "kept_by_fall" 5 (Lx K)):aD P w K mg base "reach_behind_first" 9 (Dp K):=by
 refine F.has Md (fun vs H Q E h=>?_) (fun _ _ _ _ _ _=>ny fun _ _ _=>rfl) (fun fa aJ A outer s H vs Q E hr h=>?_)
 · obtain⟨m,iv,ay,rs,r,f,j,t,ds,os,rfl,_⟩:=h
   rfl
 · obtain⟨m,iv,ay,rs,r,f,j,t,ds,os,rfl,rm,aM,ri,row,hz,h1,dk,dF,k⟩:=h
   have nd:=Md.nd;refine⟨_,(aH (aQ (px K (pf a59 hr (O (pv 0) (O (pv 1) (O (pf a4O hr (O (pv 0) (O (pv 1) (O (pv 2) aw)))) aw)))) az))),?_⟩;have ll:=row.len;have hB:=Ow.G3 aM.j1.1 aM.j1.2 dk dF row.vc;refine⟨_,rfl,_,rfl,_,rfl,_,rfl,_,rfl,m,iv,ay,rs,r,f,j,t,ds,os,rfl,rm,aM,ri,row,by lia,dk,dF,fun l1 y1 H1 nl1 d1 r1 s1=>?_⟩;refine⟨m,iv,l1,y1,rs,r,f,j,t,ds,os,ownF j ay os,rfl,RD.mono s1 _ rm,aM,RD.mono s1 _ ri,row,hz,d1,r1,fun i _=>(hB i).mono (by decide),fun l2 y2 H2 Ot d2 r2 s2=>?_⟩;have ly:=r2.length;rw[cj,qc]at ly;obtain⟨z,ez⟩:∃z,y2[1]? =some z:=⟨_,bZ (show 1<y2.length by lia)⟩;refine .inl ⟨l2,_,1,z,rfl,rfl,aE.of d2,cW (by decide) ez,?_⟩;obtain⟨d,ed,rd⟩:=r2.get' 1 ez;rw[cu,qe _ (show 1<=os.length by lia)]at ed;cases ed;exact k z H2 (mG rd) (s1.trans s2)
open Ow (Itm)
theorem a2R{H:Hp}{v:V}{rs:List Int}{es:List ai}(h:RD K H v (.tuple (.tuple (rs.map PyData.int)::es))):∃a b ys,v= .ref a/\aP K H a (.ref b::ys)/\aP K H b (rs.map V.int):=by obtain⟨a,xs,rfl,h1,h2⟩:=h.dZ;obtain⟨x1,r1,rfl,e1,h2⟩:=h2.cons_inv;obtain⟨b,ys,rfl,h3,h4⟩:=e1.dZ;rw[h4.iM]at h3;exact⟨a,b,r1,rfl,h1,h3⟩
def hO(z:Str):ai->Bool | .str x=>x==z |_=>false
theorem BI(z:Str)(d:ai):PyData.eqv d (.str z)=hO z d:=by cases d<;>simp[PyData.eqv,hO]
theorem QR(z:Str)(d:ai):PyData.eqv (.str z) d=hO z d:=by cases d<;>simp[PyData.eqv,hO];rw[nU];simp;exact eq_comm
theorem Xr(d:ai):(∃z,d= .str z)\/(iH (mr d) "str"=false/\∀z,d≠ .str z):=by cases d with |str z=>exact .inl ⟨z,rfl⟩ |_=>exact .inr ⟨by simp[mr];decide,fun _ z=>nomatch z⟩
theorem Wt:iH "str" "str"=true:=by decide
def GQ(d:ai):Bool:=hO "up" d||hO "down" d
def vd(c:Nat):Bool:=decide (97<=c)&&decide (c<=122)
def isNm:ai->Bool | .str x=>(decide (1<=x.length)&&decide (x.length<=8))&&x.cps.toList.all vd |_=>false
def oG(wd v:ai):Bool:=if hO "wait" wd then gq 1 1000 v else if hO "tool" wd then GQ v else hO "mark" wd&&isNm v
def xN:ai->Bool | .int i=>i !=0 |_=>true
def sj(n:Nat):ai->Bool | .tuple ds=>(ds.length==n&&ds.all (gq (-100) 100))&&ds.any xN |_=>false
def sS(n:Nat):ai->Bool | .tuple [wd,a,b]=>hO "line" wd&&(sj n a&&gq 1 20 b) | .tuple [wd,v]=>oG wd v |_=>false
def pM:ai->Bool | .str x=>decide (x.length<=900) |_=>true
def DE:ai->Bool | .tuple ds=>ds.all pM |_=>true
inductive Tp(f:ai->Bool)(K:aa)(vs:List V)(H:Hp)(Q:VK):Prop |mk (v:_)(d:_)(h0:vs=[v])(h1:RD K H v d)(h2:pM d=true)(h3:∀H',aB H H'->Q (.bl (f d)) H'):Tp f K vs H Q
def KS(f:ai->Bool)(K:aa):Sp:=fun vs H Q _=>Tp f K vs H Q
theorem XT{z:Str}(h:pM (.str z)=true):z.length<=900:=jx h
theorem Oz(n:Nat):decide ((1:Int)<=(n:Int))=decide (1<=n):=by rw[nU];simp;omega
theorem a2t(n:Nat):decide ((n:Int)<=8)=decide (n<=8):=by rw[nU];simp;omega
theorem aa7{l:List Nat}{f:Nat->Bool}:(l.map f).all id=l.all f:=by rw[List.all_map];rfl
theorem aaj:∀c<128,decide (c∈jq.cps.toList)=vd c:=by decide+kernel
theorem aam:∀c∈jq.cps.toList,c<128:=by decide+kernel
theorem aal(c:Nat):decide (c∈jq.cps.toList)=vd c:=by
 by_cases h:c<128
 ·exact aaj c h
 ·rw[eQ (fun hc=>h (aam c hc)),vd,eQ (show¬c<=122 by omega),Bool.and_false]
theorem MM:bh ["thing"] ["thing"] (aR ET):=bG (by decide+kernel)
theorem a1P(F:FA K mg "is_name" ET)(B:bL mg)(a64:GV mg "LONGEST_NAME" (.int 8))(a65:GV mg "LETTERS" (.str jq)):aD P w K mg base "is_name" 1 (KS isNm K):=by
 refine F.has MM (fun vs H Q E h=>?_) (fun _ _ _ _ _ _=>fg fun _=>rfl) (fun f aJ A outer s H vs Q E hr h=>?_)
 · obtain⟨v,d,rfl,_⟩:=h
   rfl
 · obtain⟨v,d,rfl,rd,sh,k⟩:=h
   have nd:=MM.nd;refine⟨_,(aA (bJ (PW.pt (kD (fi (cI (dw K B (O (pv 0) (O (cR (x:="str") (v:=.ty "str") rfl (B.at "str") pA rfl) aw))))) (lE (fi (ZA uY uY az (cZ (x:="len") a9A rfl (B.at "len") PySem.boot_len (O (pv 0) aw)) (ek (x:="LONGEST_NAME") rfl a64)))))) (aH (aQ iq)) bM) (aH (aQ (cZ (x:="all") (p8 K rfl rfl) rfl (B.at "all") qU (O (fW (N:=["letter"]) (js:=[none]) rfl rfl rfl (ZQ (pv 0)) (fun _ _ _ _ _=>(bf 0 (sJ _))) (fun _ _ _ _ _=>fw) (fun _ _ _ _ _=>(fb a0t (pv 0) (ek (x:="LETTERS") rfl a65) (by with_unfolding_all rfl)))) aw))))),?_⟩;rcases Xr d with⟨z,rfl⟩|⟨ht,hn⟩
   · refine⟨_,rfl,.inl ⟨_,_,"str",true,rfl,rd.ty,by decide,Wt,_,rfl,bB ?_⟩⟩
     cases rd.str_inv;have hl:=XT sh;have k:∀H',aB H H'->Q (.bl ((decide (1<=z.length)&&decide (z.length<=8))&&z.cps.toList.all vd)) H':=k;refine⟨_,rfl,z,rfl,ib hl (by decide),_,_,rfl,rfl,_,rfl,?_⟩;refine dR (fun h1=>?_) (fun h1=>?_)
     · rw[<-Oz,show decide ((1:Int)<=(z.length:Int))=true from h1,jV]at k
       refine⟨_,_,rfl,rfl,_,rfl,?_⟩;rw[a2t];cases e8:decide (z.length<=8)with |false=>rw[e8,ku]at k;exact bT (k H (aB.refl _)) |true=>
         rw[e8,jV]at k;refine bB ⟨_,rfl,z,rfl,fun D H0 nw=>?_⟩;refine a9k (f:=vd) [] nw (by lia) (fun c H2 Q' hc s2 hq=>?_) (fun H2 s2 d2=>?_)
         · refine⟨_,rfl,c,jq,rfl,rfl,?_⟩
           rw[aal];exact hq _ (aB.refl _)
         · refine⟨D,_,rfl,aE.of d2,?_⟩
           rw[aa7];exact k H2 s2
     · rw[<-Oz,show decide ((1:Int)<=(z.length:Int))=false from wN.mpr h1,ku,ku]at k
       exact⟨_,rfl,bT (k H (aB.refl _))⟩
   · have e:isNm d=false:=by cases d<;>first|rfl|exact absurd rfl (hn _)
     rw[e]at k;refine⟨_,rfl,.inl ⟨_,_,"str",false,rfl,rd.ty,by decide,ht,_,rfl,bT ?_⟩⟩;exact k H (aB.refl _)
inductive TJ(K:aa)(vs:List V)(H:Hp)(Q:VK):Prop |mk (x:_)(v:_)(wd:_)(d:_)(h0:vs=[x,v])(h1:RD K H x wd)(h2:RD K H v d)(h3:dj 8 wd)(h4:dj 8 d)(h5:pM d=true)(h6:∀H',aB H H'->Q (.bl (oG wd d)) H'):TJ K vs H Q
def Le(K:aa):Sp:=fun vs H Q _=>TJ K vs H Q
theorem xo{d:ai}(h:dj 8 d):SeqAt.shaped d=true:=h.shaped (by decide)
theorem MK:bh ["word","value"] ["word","value"] (aR ER):=bG (by decide+kernel)
theorem a1N(F:FA K mg "is_short_item" ER)(B:bL mg)(a63:GV mg "LONGEST_WAIT" (.int 1000))(gS:GT K mg "SIDES" [.str "up",.str "down"])(oO:aD P w K mg base "is_whole_within" 2 (rJ K))(a5g:aD P w K mg base "is_name" 1 (KS isNm K)):aD P w K mg base "is_short_item" 3 (Le K):=by
 refine F.has MK (fun vs H Q E h=>?_) (fun _ _ _ _ _ _=>du fun _ _=>rfl) (fun f aJ A outer s H vs Q E hr h=>?_)
 · obtain⟨x,v,wd,d,rfl,_⟩:=h
   rfl
 · obtain⟨x,v,wd,d,rfl,Fj,rd,G6,xM,sh,k⟩:=h
   have nd:=MK.nd;obtain⟨aS,a5R,Xz⟩:=gS;refine⟨_,(aA (bJ (bW (cP K rfl hr.units) (pv 0) aX (bo _)) (aH (aQ (pf oO hr (O (pv 1) (O az (O (ek (x:="LONGEST_WAIT") rfl a63) aw)))))) bM) (aA (bJ (bW (cP K rfl hr.units) (pv 0) aX (bo _)) (aH (aQ (fb (a4b K rfl (hr.Wo)) (pv 1) (ek (x:="SIDES") rfl a5R) (by with_unfolding_all rfl)))) bM) (aH (aQ (ir (fb (cP K rfl hr.units) (pv 0) aX (bo _)) (iJ (pf a5g hr (O (pv 1) aw)))))))),?_⟩;have k:∀H',aB H H'->Q (.bl (if hO "wait" wd then gq 1 1000 d else if hO "tool" wd then GQ d else hO "mark" wd&&isNm d)) H':=k;refine⟨_,rfl,.inr ⟨_,_,Fj,cM _,xo G6,by decide+kernel,_,rfl,?_⟩⟩;rw[BI];cases e1:hO "wait" wd with |true=>rw[e1,aY rfl]at k;exact bT ⟨_,rfl,_,d,1,1000,rfl,rd,k H (aB.refl _)⟩ |false=>rw[e1,aZ jW]at k;refine bB ⟨_,rfl,.inr ⟨_,_,Fj,cM _,xo G6,by decide+kernel,_,rfl,?_⟩⟩;rw[BI];cases e2:hO "tool" wd with
     |true=>
       rw[e2,aY rfl]at k;refine bT ⟨_,rfl,aS,_,d,[.str "up",.str "down"],rfl,Xz H,rd,bQ (cM _) (bQ (cM _) cL),xo xM,?_,?_⟩
       · intro e he
         rcases bI.mp he with rfl|he
         ·decide+kernel
         rcases bI.mp he with rfl|he
         ·decide+kernel
         ·exact(cC he).elim
       · have e:([.str "up",.str "down"]:List ai).any (fun e=>PyData.eqv e d)=GQ d:=by rw[uu,uu,List.any_nil,QR,QR,Bool.or_false];rfl
         rw[e];exact k H (aB.refl _) |false=>rw[e2,aZ jW]at k;refine bB ⟨_,rfl,.inr ⟨_,_,Fj,cM _,xo G6,by decide+kernel,_,rfl,?_⟩⟩;rw[BI];cases e3:hO "mark" wd with |true=>rw[e3,jV]at k;exact bT ⟨_,rfl,_,d,rfl,rd,sh,k⟩ |false=>rw[e3,ku]at k;exact bB (k H (aB.refl _))
theorem a29(i:Int):(!decide (i=0))=(i !=0):=by rw[nU];simp
theorem a4a{lo hi:Int}{d:ai}(h:gq lo hi d=true):∃i,d= .int i:=by cases d<;>simp[gq]at h;exact⟨_,rfl⟩
theorem any_map'{ds:List ai}{f:ai->Bool}:(ds.map f).any id=ds.any f:=by rw[List.any_map];rfl
inductive TF(K:aa)(vs:List V)(H:Hp)(Q:VK):Prop |mk (m:V)(v:V)(rs:List Int)(es:List ai)(d:ai)(h0:vs=[m,v])(h1:RD K H m ((.tuple (.tuple (rs.map PyData.int)::es))))(h2:RD K H v d)(h3:rs.length<=3)(h4:∀H',aB H H'->Q (.bl (sj rs.length d)) H'):TF K vs H Q
def Lc(K:aa):Sp:=fun vs H Q _=>TF K vs H Q
theorem N0:bh ["machine","thing","rails"] ["machine","thing"] (aR Fd):=bG (by decide+kernel)
theorem a23(F:FA K mg "are_steps" Fd)(B:bL mg)(Qc:GV mg "MOST_STEPS" (.int 100))(oO:aD P w K mg base "is_whole_within" 2 (rJ K)):aD P w K mg base "are_steps" 3 (Lc K):=by
 refine F.has N0 (fun vs H Q E h=>?_) (fun _ _ _ _ _ _=>du fun _ _=>rfl) (fun f aJ A outer s H vs Q E hr h=>?_)
 · obtain⟨m,v,rs,es,d,rfl,_⟩:=h
   rfl
 · obtain⟨m,v,rs,es,d,rfl,rm,rd,l3,k⟩:=h
   have nd:=N0.nd;refine⟨_,(aA (pS 2 nd (px K (pv 0) az)) (aA (bJ (PW.pt (kD (fi (cI (dw K B (O (pv 1) (O (cR (x:="tuple") (v:=.ty "tuple") rfl (B.at "tuple") fD rfl) aw))))) (lE (bW (jh K rfl hr.units) (dQ K B (O (pv 1) aw)) (dQ K B (O (pv 2) aw)) (bo _))))) (aH (aQ iq)) bM) (aA (bJ (fi (cI (cZ (x:="all") (p8 K rfl rfl) rfl (B.at "all") qU (O (fW (N:=["step"]) (js:=[none]) rfl rfl rfl (pT K rfl (pv 1)) (fun _ _ _ _ _=>(bf 0 (sJ _))) (fun _ _ _ _ _=>fw) (fun _ _ _ _ _=>(pf oO hr (O (pv 0) (O (xG wV (ek (x:="MOST_STEPS") rfl Qc)) (O (ek (x:="MOST_STEPS") rfl Qc) aw)))))) aw)))) (aH (aQ iq)) bM) (aH (aQ (cZ (x:="any") (Sx K rfl rfl) rfl (B.at "any") VF (O (fW (N:=["step"]) (js:=[none]) rfl rfl rfl (pT K rfl (pv 1)) (fun _ _ _ _ _=>(bf 0 (sJ _))) (fun _ _ _ _ _=>fw) (fun _ _ _ _ _=>(fb (jh K rfl hr.units) (pv 0) az (bo _)))) aw))))))),?_⟩;obtain⟨am,ar,ym,rfl,hm,har⟩:=a2R rm;refine⟨_,rfl,.inr ⟨am,_,0,_,rfl,rfl,hm,cW (gz 0) rfl,?_⟩⟩;rcases CW d with⟨ds,rfl⟩|⟨ht,hn⟩
   · refine⟨_,rfl,.inl ⟨_,_,"tuple",true,rfl,rd.ty,by decide,wX,_,rfl,bB ?_⟩⟩
     obtain⟨av,xs,rfl,hx,hd⟩:=rd.dZ;have hl:=hd.length;refine⟨_,rfl,av,_,rfl,.inr hx,_,rfl,ar,_,rfl,.inr har,.inl ⟨_,_,rfl,rfl,_,rfl,?_⟩⟩;have k:∀H',aB H H'->Q (.bl ((ds.length==rs.length&&ds.all (gq (-100) 100))&&ds.any xN)) H':=k;have e0:(!decide ((xs.length:Int)=((rs.map V.int).length:Int)))= !(ds.length==rs.length):=by rw[hl,cj];congr 1;rw[nU];simp;lia
     rw[e0];cases e:(ds.length==rs.length)with |false=>rw[e,ku,ku]at k;exact bT (k H (aB.refl _)) |true=>
       rw[e,jV]at k;refine bB ?_;have el:ds.length=rs.length:=fM.mp e;refine⟨_,rfl,av,rfl,⟨_,hx⟩,fun D H0 nw=>?_⟩;refine RQ (xs:=xs) (bs:=ds.map (gq (-100) 100)) [] hx nw (by rw[cj,hl]) (by lia) ?_ ?_
       · intro i x b H2 Q' ex eb s2 hq
         obtain⟨d,ed,rfl⟩:=OL eb;obtain⟨x',oX,rx⟩:=hd.get i ed;rw[ex]at oX;cases oX;exact⟨_,rfl,_,rfl,_,d,-100,100,rfl,RD.mono s2 _ rx,hq _ (aB.refl _)⟩
       · intro H2 s2 d2
         refine⟨D,_,rfl,aE.of d2,_,rfl,?_⟩;rw[all_map];cases e1:ds.all (gq (-100) 100)with |false=>rw[e1,ku]at k;exact bT (k H2 s2) |true=>
           rw[e1,jV]at k;refine bB ⟨_,rfl,av,rfl,⟨_,hx.go s2⟩,fun D2 H3 n3=>?_⟩;refine RQ (xs:=xs) (bs:=ds.map xN) [] (hx.go s2) n3 (by rw[cj,hl]) (by lia) ?_ ?_
           · intro i x b H4 Q' ex eb s4 hq
             obtain⟨d,ed,rfl⟩:=OL eb;obtain⟨x',oX,rx⟩:=hd.get i ed;rw[ex]at oX;cases oX;obtain⟨z,rfl⟩:=a4a (iE.mp e1 d (gy ed));cases rx.int_inv;refine⟨_,rfl,.inl ⟨_,_,rfl,rfl,?_⟩⟩;show Q' (.bl (!decide (z=0))) H4;rw[a29];exact hq _ (aB.refl _)
           · intro H4 s4 d4
             refine⟨D2,_,rfl,aE.of d4,?_⟩;rw[any_map'];exact k H4 (s2.trans s4)
   · have e:sj rs.length d=false:=by cases d<;>first|rfl|exact absurd rfl (hn _)
     rw[e]at k;refine⟨_,rfl,.inl ⟨_,_,"tuple",false,rfl,rd.ty,by decide,ht,_,rfl,bT ?_⟩⟩;exact k H (aB.refl _)
theorem item_cases(n:Nat)(d:ai):(∃wd a b,d= .tuple [wd,a,b])\/(∃wd v,d= .tuple [wd,v])\/(∃ds,d= .tuple ds/\ds.length≠3/\ds.length≠2/\sS n d=false)\/(iH (mr d) "tuple"=false/\sS n d=false):=by
 rcases CW d with⟨ds,rfl⟩|⟨ht,hn⟩
 ·match ds with |[r,a,b]=>exact .inl ⟨r,a,b,rfl⟩ |[r,a]=>exact .inr (.inl ⟨r,a,rfl⟩) |[]=>exact .inr (.inr (.inl ⟨_,rfl,by simp,by simp,by simp[sS]⟩)) |[_]=>exact .inr (.inr (.inl ⟨_,rfl,by simp,by simp,by simp[sS]⟩)) |_::_::_::_::_=>exact .inr (.inr (.inl ⟨_,rfl,by simp,by simp,by simp[sS]⟩))
 ·exact .inr (.inr (.inr ⟨ht,by cases d<;>first|rfl|exact absurd rfl (hn _)⟩))
inductive Uq(K:aa)(vs:List V)(H:Hp)(Q:VK):Prop |mk (m:V)(v:V)(rs:List Int)(es:List ai)(d:ai)(h0:vs=[m,v])(h1:RD K H m ((.tuple (.tuple (rs.map PyData.int)::es))))(h2:RD K H v d)(h3:rs.length<=3)(h4:dj 8 d)(h5:DE d=true)(h6:∀H',aB H H'->Q (.bl (sS rs.length d)) H'):Uq K vs H Q
def Dw(K:aa):Sp:=fun vs H Q _=>Uq K vs H Q
theorem G9{ds:List ai}(h:dj 8 (.tuple ds)){d:ai}(hd:d∈ds):dj 8 d:=((dj.dZ (n:=7) h) d hd).le (by decide)
theorem XU{ds:List ai}(h:DE (.tuple ds)=true){d:ai}(hd:d∈ds):pM d=true:=iE.mp (show ds.all pM=true from h) d hd
theorem MN:bh ["machine","thing","word","steps","speed","value"] ["machine","thing"] (aR EU):=bG (by decide+kernel)
theorem a1Q(F:FA K mg "is_item" EU)(B:bL mg)(a67:GV mg "GREATEST_SPEED" (.int 20))(oO:aD P w K mg base "is_whole_within" 2 (rJ K))(a5L:aD P w K mg base "are_steps" 3 (Lc K))(a5d:aD P w K mg base "is_short_item" 3 (Le K)):aD P w K mg base "is_item" 4 (Dw K):=by
 refine F.has MN (fun vs H Q E h=>?_) (fun _ _ _ _ _ _=>du fun _ _=>rfl) (fun f aJ A outer s H vs Q E hr h=>?_)
 · obtain⟨m,v,rs,es,d,rfl,_⟩:=h
   rfl
 · obtain⟨m,v,rs,es,d,rfl,rm,rd,l3,xM,sh,k⟩:=h
   have nd:=MN.nd;refine⟨_,(aA (bJ (fi (cI (dw K B (O (pv 1) (O (cR (x:="tuple") (v:=.ty "tuple") rfl (B.at "tuple") fD rfl) aw))))) (aH (aQ iq)) bM) (aA (bJ (bW (cP K rfl hr.units) (dQ K B (O (pv 1) aw)) az (bo _)) (aA (fO (pv 1) (dJ K rfl (n:=3) rfl (bO (bf 2 nd) (bO (bf 3 nd) (bO (bf 4 nd) dH))))) (aH (aQ (ir (fb (cP K rfl hr.units) (pv 2) aX (bo _)) (ir (pf a5L hr (O (pv 0) (O (pv 3) aw))) (iJ (pf oO hr (O (pv 4) (O az (O (ek (x:="GREATEST_SPEED") rfl a67) aw)))))))))) bM) (aA (bJ (bW (cP K rfl hr.units) (dQ K B (O (pv 1) aw)) az (bo _)) (aA (fO (pv 1) (dJ K rfl (n:=2) rfl (bO (bf 2 nd) (bO (bf 5 nd) dH)))) (aH (aQ (pf a5d hr (O (pv 2) (O (pv 5) aw)))))) bM) (aH (aQ iq))))),?_⟩;rcases item_cases rs.length d with⟨wd,a,b,rfl⟩|⟨wd,a,rfl⟩|⟨ds,rfl,h3,h2,hf⟩|⟨ht,hf⟩
   · refine⟨_,rfl,.inl ⟨_,_,"tuple",true,rfl,rd.ty,by decide,wX,_,rfl,bB ?_⟩⟩
     obtain⟨p,xs,rfl,hx,hd⟩:=rd.dZ;obtain⟨u1,ys,rfl,r1,hd⟩:=hd.cons_inv;obtain⟨u2,ys,rfl,r2,hd⟩:=hd.cons_inv;obtain⟨u3,ys,rfl,r3,hd⟩:=hd.cons_inv;cases hd.nil_inv;have k:∀H',aB H H'->Q (.bl (hO "line" wd&&(sj rs.length a&&gq 1 20 b))) H':=k;refine⟨_,rfl,p,_,rfl,.inr hx,.inl ⟨_,_,rfl,rfl,_,rfl,bT ?_⟩⟩;refine⟨_,rfl,p,_,rfl,hx,rfl,_,_,rfl,_,_,rfl,_,_,rfl,rfl,?_⟩;refine⟨_,rfl,.inr ⟨_,_,r1,cM _,xo (G9 xM (by simp)),by decide+kernel,_,rfl,?_⟩⟩;rw[BI];cases e1:hO "line" wd with |false=>rw[e1,ku]at k;exact bB (k H (aB.refl _)) |true=>rw[e1,jV]at k;refine bT ⟨_,rfl,_,rfl,_,_,rs,es,a,rfl,rm,r2,l3,fun H1 s1=>⟨_,rfl,?_⟩⟩;cases e2:sj rs.length a with |false=>rw[e2,ku]at k;exact bB (k H1 s1) |true=>rw[e2,jV]at k;exact bT ⟨_,rfl,_,b,1,20,rfl,RD.mono s1 _ r3,k H1 s1⟩
   · refine⟨_,rfl,.inl ⟨_,_,"tuple",true,rfl,rd.ty,by decide,wX,_,rfl,bB ?_⟩⟩
     obtain⟨p,xs,rfl,hx,hd⟩:=rd.dZ;obtain⟨u1,ys,rfl,r1,hd⟩:=hd.cons_inv;obtain⟨u2,ys,rfl,r2,hd⟩:=hd.cons_inv;cases hd.nil_inv;have k:∀H',aB H H'->Q (.bl (oG wd a)) H':=k;refine⟨_,rfl,p,_,rfl,.inr hx,.inl ⟨_,_,rfl,rfl,_,rfl,bB ?_⟩⟩;refine⟨_,rfl,p,_,rfl,.inr hx,.inl ⟨_,_,rfl,rfl,_,rfl,bT ?_⟩⟩;refine⟨_,rfl,p,_,rfl,hx,rfl,_,_,rfl,_,_,rfl,rfl,?_⟩;exact⟨_,rfl,_,rfl,_,_,wd,a,rfl,r1,r2,G9 xM (by simp),G9 xM (by simp),XU sh (by simp),k⟩
   · rw[hf]at k
     refine⟨_,rfl,.inl ⟨_,_,"tuple",true,rfl,rd.ty,by decide,wX,_,rfl,bB ?_⟩⟩;obtain⟨p,xs,rfl,hx,hd⟩:=rd.dZ;have hl:=hd.length;refine⟨_,rfl,p,_,rfl,.inr hx,.inl ⟨_,_,rfl,rfl,_,rfl,?_⟩⟩;rw[show decide ((xs.length:Int)=3)=false from eQ (by lia)];refine bB ⟨_,rfl,p,_,rfl,.inr hx,.inl ⟨_,_,rfl,rfl,_,rfl,?_⟩⟩;rw[show decide ((xs.length:Int)=2)=false from eQ (by lia)];exact bB (k H (aB.refl _))
   · rw[hf]at k
     refine⟨_,rfl,.inl ⟨_,_,"tuple",false,rfl,rd.ty,by decide,ht,_,rfl,bT ?_⟩⟩;exact k H (aB.refl _)
def GR(rs:List Int):ai->Bool | .tuple es=>es.length==rs.length&&((es.zip rs).map fun p=>gq 0 p.2 p.1).all id |_=>false
inductive Us(K:aa)(vs:List V)(H:Hp)(Q:VK):Prop |mk (m:V)(v:V)(rs:List Int)(ds:List ai)(d:ai)(h0:vs=[m,v])(h1:RD K H m (.tuple (.tuple (rs.map PyData.int)::ds)))(h2:RD K H v d)(h3:rs.length<=3)(h4:∀H',aB H H'->Q (.bl (GR rs d)) H'):Us K vs H Q
def Dx(K:aa):Sp:=fun vs H Q _=>Us K vs H Q
theorem zip_get{es:List ai}{rs:List Int}{i:Nat}{b:Bool}(h:((es.zip rs).map fun p=>gq 0 p.2 p.1)[i]? =some b):∃e r,es[i]? =some e/\rs[i]? =some r/\gq 0 r e=b:=by rw[cu]at h;cases q:(es.zip rs)[i]? with |none=>rw[q]at h;cases h |some p=>rw[q]at h;obtain⟨e1,e2⟩:=wL.mp q;exact⟨p.1,p.2,e1,e2,dG h⟩
theorem ints_get{rs:List Int}{i:Nat}{r:Int}(h:rs[i]? =some r):(rs.map V.int)[i]? =some (.int r):=by rw[cu,h];rfl
theorem ML:bh ["machine","thing","rails"] ["machine","thing"] (aR ES):=bG (by decide+kernel)
theorem a1O(F:FA K mg "is_place" ES)(B:bL mg)(oO:aD P w K mg base "is_whole_within" 2 (rJ K)):aD P w K mg base "is_place" 3 (Dx K):=by
 refine F.has ML (fun vs H Q E h=>?_) (fun _ _ _ _ _ _=>du fun _ _=>rfl) (fun f aJ A outer s H vs Q E hr h=>?_)
 · obtain⟨m,v,rs,ds,d,rfl,_⟩:=h
   rfl
 · obtain⟨m,v,rs,ds,d,rfl,rm,rd,l3,k⟩:=h
   have nd:=ML.nd;refine⟨_,(aA (pS 2 nd (px K (pv 0) az)) (aA (bJ (PW.pt (kD (fi (cI (dw K B (O (pv 1) (O (cR (x:="tuple") (v:=.ty "tuple") rfl (B.at "tuple") fD rfl) aw))))) (lE (bW (jh K rfl hr.units) (dQ K B (O (pv 1) aw)) (dQ K B (O (pv 2) aw)) (bo _))))) (aH (aQ iq)) bM) (aH (aQ (cZ (x:="all") (p8 K rfl rfl) rfl (B.at "all") qU (O (fW (N:=["number","rail"]) (js:=[none,none]) rfl rfl rfl (jE K rfl false false rfl (B.at "zip") (O (pv 1) (O (pv 2) aw))) (fun _ _ _ _ _=>(dJ K rfl (n:=2) rfl (bO (bf 0 (fJ (by decide))) (bO (bf 1 (fJ (by decide))) dH)))) (fun _ _ _ _ _=>fw) (fun _ _ _ _ _=>(pf oO hr (O (pv 0) (O az (O (pv 1) aw)))))) aw)))))),?_⟩;obtain⟨am,xm,rfl,hm,hdm⟩:=rm.dZ;obtain⟨yr,ym,rfl,r1,abM⟩:=hdm.cons_inv;obtain⟨ar,xr,rfl,B7,hdr⟩:=r1.dZ;cases hdr.iM;refine⟨_,rfl,.inr ⟨am,_,0,_,rfl,rfl,hm,cW (gz 0) rfl,?_⟩⟩;rcases CW d with⟨es,rfl⟩|⟨ht,hn⟩
   · refine⟨_,rfl,.inl ⟨_,_,"tuple",true,rfl,rd.ty,by decide,wX,_,rfl,bB ?_⟩⟩
     obtain⟨av,xs,rfl,hx,hd⟩:=rd.dZ;have hl:=hd.length;refine⟨_,rfl,av,_,rfl,.inr hx,_,rfl,ar,_,rfl,.inr B7,.inl ⟨_,_,rfl,rfl,_,rfl,?_⟩⟩;have k:∀H',aB H H'->Q (.bl (es.length==rs.length&&((es.zip rs).map fun p=>gq 0 p.2 p.1).all id)) H':=k;have e0:(decide ((xs.length:Int)=((rs.map V.int).length:Int)))=(es.length==rs.length):=by rw[hl,cj,nU];simp;lia
     rw[e0];cases e:(es.length==rs.length)with |false=>rw[e,ku]at k;exact bT (k H (aB.refl _)) |true=>
       rw[e,jV]at k;refine bB ?_;have el:es.length=rs.length:=fM.mp e;refine⟨_,rfl,_,rfl,av,ar,rfl,⟨_,hx⟩,⟨_,B7⟩,fun D H0 nw=>?_⟩;refine RP (b1:=false) (b2:=false) (xs:=xs) (ys:=rs.map V.int) (bs:=(es.zip rs).map fun p=>gq 0 p.2 p.1) [] rfl hx B7 nw (by rw[cj,cj,List.length_zip,hl]) (by rw[cj,List.length_zip];lia) ?_ ?_
       · intro i x y b H2 Q' ex ey eb s2 hq
         obtain⟨e',r,ee,er,rfl⟩:=zip_get eb;obtain⟨x',oX,rx⟩:=hd.get i ee;rw[ex]at oX;cases oX;rw[ints_get er]at ey;cases ey;exact⟨_,rfl,_,rfl,_,e',0,r,rfl,RD.mono s2 _ rx,hq _ (aB.refl _)⟩
       · intro H2 s2 d2
         exact⟨D,_,rfl,aE.of d2,k H2 s2⟩
   · have e:GR rs d=false:=by cases d<;>first|rfl|exact absurd rfl (hn _)
     rw[e]at k;refine⟨_,rfl,.inl ⟨_,_,"tuple",false,rfl,rd.ty,by decide,ht,_,rfl,bT ?_⟩⟩;exact k H (aB.refl _)
inductive Uh(K:aa)(vs:List V)(H:Hp)(Q:VK):Prop |mk (pw:_)(b:_)(pl:_)(ns:_)(h0:vs=[pw,.ref b])(h1:RD K H pw (fG pl))(h2:aP K H b (ns.map V.int))(h3:ns.length=pl.length)(h4:pl.length<=1000)(h5:∀v' H',RD K H' v' (fG (fL pl ns))->aB H H'->Q v' H'):Uh K vs H Q
def A2(K:aa):Sp:=fun vs H Q _=>Uh K vs H Q
theorem Ms:bh ["place","steps"] ["place","steps"] (aR Ey):=bG (by decide+kernel)
theorem a1x(F:FA K mg "moved" Ey)(B:bL mg):aD P w K mg base "moved" 1 (A2 K):=by
 refine F.has Ms (fun vs H Q E h=>?_) (fun _ _ _ _ _ _=>du fun _ _=>rfl) (fun f aJ A outer s H vs Q E hr h=>?_)
 · obtain⟨pw,b,pl,ns,rfl,_⟩:=h
   rfl
 · obtain⟨pw,b,pl,ns,rfl,rp,hb,ln,hz,k⟩:=h
   have nd:=Ms.nd;refine⟨_,(aH (aQ (gX (x:="tuple") (ky K rfl) rfl (B.at "tuple") fD (O (fW (N:=["number","step"]) (js:=[none,none]) rfl rfl rfl (jE K rfl false false rfl (B.at "zip") (O (pv 0) (O (pv 1) aw))) (fun _ _ _ _ _=>(dJ K rfl (n:=2) rfl (bO (bf 0 (fJ (by decide))) (bO (bf 1 (fJ (by decide))) dH)))) (fun _ _ _ _ _=>fw) (fun _ _ _ _ _=>(aG cJ (pv 0) (pv 1)))) aw)))),?_⟩;obtain⟨pa,rfl,hp⟩:=rX rp;refine⟨_,rfl,_,rfl,pa,b,rfl,⟨_,hp⟩,⟨_,hb⟩,fun D H1 n1=>?_⟩;refine tX (K:=K) (b1:=false) (b2:=false) (xs:=pl.map V.int) (ys:=ns.map V.int) (ds:=(fL pl ns).map PyData.int) [] rfl hp hb n1 (by simp[qI ln,ln]) (by rw[cj,qI ln];exact hz) (kF _) ?_ ?_
   · intro i x y d H2 Q' ex ey ed s2 hq
     obtain⟨m,em,rfl⟩:=lU ed;rw[cu]at ex ey;cases e1:pl[i]? with |none=>rw[e1]at ex;cases ex |some u=>cases e2:ns[i]? with |none=>rw[e2]at ey;cases ey |some v=>rw[e1]at ex;rw[e2]at ey;cases ex;cases ey;rw[Jj e1 e2]at em;cases em;exact⟨_,rfl,_,rfl,_,_,rfl,rfl,hq _ _ (aB.refl _) (dN _)⟩
   · intro H2 zs s2 d2 r2
     refine⟨D,_,rfl,.inl ⟨aE.of d2,fun t H3 n3=>?_⟩⟩;have et:=n3.at';rw[r2.iM]at et;exact k (.ref t) H3 (uT (aP.of et)) (s2.trans n3.same)
inductive UD(K:aa)(vs:List V)(H:Hp)(Q:VK):Prop |mk (pw:_)(iv:_)(pl:_)(d:_)(o:_)(h0:vs=[pw,iv])(h1:RD K H pw (fG pl))(h2:RD K H iv d)(h3:itR d o)(h4:(∀ns sp,o=some (ns,sp)->ns.length=pl.length))(h5:pl.length<=1000)(h6:∀v' H',RD K H' v' (fG (gI pl o))->aB H H'->Q v' H'):UD K vs H Q
def xj(K:aa):Sp:=fun vs H Q _=>UD K vs H Q
theorem MY:bh ["place","item"] ["place","item"] (aR Fb):=bG (by decide+kernel)
theorem a21(F:FA K mg "place_behind" Fb)(B:bL mg)(qj:aD P w K mg base "is_line" 1 (uJ K))(Hl:aD P w K mg base "moved" 1 (A2 K)):aD P w K mg base "place_behind" 2 (xj K):=by
 refine F.has MY (fun vs H Q E h=>?_) (fun _ _ _ _ _ _=>du fun _ _=>rfl) (fun f aJ A outer s H vs Q E hr h=>?_)
 · obtain⟨pw,iv,pl,d,o,rfl,_⟩:=h
   rfl
 · obtain⟨pw,iv,pl,d,o,rfl,rp,ri,it,hl,hz,k⟩:=h
   have nd:=MY.nd;refine⟨_,(aH (aQ (NR (cI (pf qj hr (O (pv 1) aw))) (pf Hl hr (O (pv 0) (O (px K (pv 1) az) aw))) (pv 0)))),?_⟩;refine⟨_,rfl,iv,d,o,rfl,ri,it,_,rfl,?_⟩;cases o with |some q=>obtain⟨ns,sp⟩:=q;refine bT ?_;have ed:=kj it;subst ed;obtain⟨a,b,rfl,ha,hb⟩:=lI ri;exact⟨_,rfl,_,rfl,.inr ⟨a,_,1,.ref b,rfl,rfl,ha,rfl,pw,b,pl,ns,rfl,rp,hb,hl ns sp rfl,hz,fun v' H' r s=>k v' H' r s⟩⟩ |none=>refine bB ?_;exact⟨_,rfl,k pw H rp (aB.refl _)⟩
open Rn
def gR(m b d q p r s k t:V):List (Str×V):=[("machine",m),("begun_at",b),("done",d),("queue",q),("pace",p),("rate_now",r),("side",s),("mark",k),("stopping",t)]
structure bN where
 rs:List Int
 r:Int
 f:Int
 j:Int
 t:Int
abbrev bN.D(M:bN):ai:=iL M.rs M.r M.f M.j M.t
abbrev bN.Ok(M:bN):Prop:=nH M.rs M.r M.f M.j M.t
structure bj where
 pl:List Int
 dn:Nat
 ds:List ai
 os:List Itm
 pc:Rat
 ay:Int
 side:Str
 mark:Str
 aU:Rn.gc
def yW(K:aa)(H:Hp)(v:V):Rn.gc->Prop |none=>v= .bp |some (sq,st,gn)=>∃a u,v= .ref a/\aP K H a [u,.int st,.int gn]/\bc K H u sq
structure cA(M:bN)(D:Nat)(S:bj):Prop where
 row:gD M.rs.length S.ds S.os
 rw:RowW S.ds S.os
 len:S.ds.length<=20
 dk:10<=S.ay
 dF:S.ay<=200
 dn:S.dn=0\/∃ns sp,S.os[0]? =some (some (ns,sp))/\S.dn<aF ns
 pl:S.pl.length=M.rs.length
 pd:Dd (D+10) S.pc
 pm:S.pc<=1600
 aU:qJ D S.pc S.aU
 D1:64<=D
 D2:D<=1500
structure dh(K:aa)(C:Addr)(H:Hp)(a q:Addr)(M:bN)(S:bj):Prop where
 ob:∃dx mv bv cN tv,H a=some (.ins C dx (gR mv bv (.int S.dn) (.ref q) cN (.int S.ay) (.str S.side) (.str S.mark) tv))/\RD K H mv M.D/\RD K H bv (fG S.pl)/\bc K H cN S.pc/\yW K H tv S.aU
 qu:∃ys,H q=some (.lst ys)/\aI K H ys S.ds
theorem bc.v{H H':Hp}{v:V}{q:Rat}(s:bR H H')(h:bc K H v q):bc K H' v q:=by obtain⟨p,rfl,hp⟩:=h;exact⟨p,rfl,aP.v s hp⟩
theorem yW.v{H H':Hp}{v:V}{t:Rn.gc}(s:bR H H')(h:yW K H v t):yW K H' v t:=by cases t with |none=>exact h |some q=>obtain⟨sq,st,gn⟩:=q;obtain⟨a,u,rfl,h1,h2⟩:=h;exact⟨a,u,rfl,aP.v s h1,bc.v s h2⟩
theorem dh.go{C:Addr}{H H':Hp}{a q:Addr}{M:bN}{S:bj}(h:dh K C H a q M S)(hn:cK S.ds=true)(s:bR H H')(ea:∀o,H a=some o->H' a=some o)(eq:∀o,H q=some o->H' q=some o):dh K C H' a q M S:=by obtain⟨⟨dx,mv,bv,cN,tv,e,r1,r2,r3,r4⟩,ys,m9,rq⟩:=h;exact⟨⟨dx,mv,bv,cN,tv,ea _ e,RD.v s _ (ki _ _ _ _ _) r1,RD.v s _ (jD _) r2,r3.v s,r4.v s⟩,ys,eq _ m9,aI.v s _ hn rq⟩
theorem dh.same{C:Addr}{H H':Hp}{a q:Addr}{M:bN}{S:bj}(h:dh K C H a q M S)(hn:cK S.ds=true)(s:aB H H'):dh K C H' a q M S:=h.go hn s.v (fun o e=>s _ _ e) (fun o e=>s _ _ e)
theorem dh.ne{C:Addr}{H:Hp}{a q:Addr}{M:bN}{S:bj}(h:dh K C H a q M S):a≠q:=by obtain⟨⟨dx,mv,bv,cN,tv,e,_⟩,ys,m9,_⟩:=h;exact xV e m9 (by intro z;cases z)
theorem dh.v{C:Addr}{H H':Hp}{a q:Addr}{M:bN}{S:bj}(h:dh K C H a q M S)(b:bw [a,q] H H'):bR H H':=by
 obtain⟨⟨dx,mv,bv,cN,tv,e,_⟩,ys,m9,_⟩:=h;refine b.v fun x hx o eo=>?_;simp only[bI,cC,dv]at hx;rcases hx with rfl|rfl
 ·rw[e]at eo;cases eo;trivial
 ·rw[m9]at eo;cases eo;trivial
inductive Tw(K:aa)(C:Addr)(G:bN->bj->Hp->VK->Prop)(vs:List V)(H:Hp)(Q:VK):Prop |mk (a:_)(q:_)(M:_)(D:_)(S:_)(h0:vs=[.ref a])(h1:dh K C H a q M S)(h2:cA M D S)(h3:M.Ok)(h4:G M S H Q):Tw K C G vs H Q
def fq(K:aa)(C:Addr)(G:bN->bj->Hp->VK->Prop):Sp:=fun vs H Q _=>Tw K C G vs H Q
theorem Y6:bh ["self"] ["self"] (aR Ea):=bG (by decide+kernel)
def Qw(K:aa):bN->bj->Hp->VK->Prop:=fun _ S H Q=>∀v,bc K H v S.pc->Q v H
theorem a17{C:Addr}(F:MA K C "square" "Runner.square" Ea)(TC:gu K C):cX P w K mg base C "square" 1 (fq K C (Qw K)):=by
 refine F.has Y6 (fun vs H Q E h=>?_) (fun _ _ _ _ _ _=>fg fun _=>rfl) (fun f aJ A outer s H vs Q E hr h=>?_)
 · obtain⟨a,q,M,D,S,rfl,_⟩:=h
   rfl
 · obtain⟨a,q,M,D,S,rfl,R,ok,aM,k⟩:=h
   obtain⟨dx,mv,bv,cN,tv,e,r1,r2,r3,r4⟩:=R.ob;exact⟨_,(aH (aQ (cS TC.cl TC.sL (pv 0)))),_,rfl,a,dx,_,_,rfl,e,rfl,k cN r3⟩
theorem Y8:bh ["self"] ["self"] (aR Ee):=bG (by decide+kernel)
theorem a1b{C:Addr}(F:MA K C "rate" "Runner.rate" Ee)(TC:gu K C):cX P w K mg base C "rate" 1 (fq K C fun _ S H Q=>Q (.int S.ay) H):=by
 refine F.has Y8 (fun vs H Q E h=>?_) (fun _ _ _ _ _ _=>fg fun _=>rfl) (fun f aJ A outer s H vs Q E hr h=>?_)
 · obtain⟨a,q,M,D,S,rfl,_⟩:=h
   rfl
 · obtain⟨a,q,M,D,S,rfl,R,ok,aM,k⟩:=h
   obtain⟨dx,mv,bv,cN,tv,e,r1,r2,r3,r4⟩:=R.ob;exact⟨_,(aH (aQ (cS TC.cl TC.Ay (pv 0)))),_,rfl,a,dx,_,_,rfl,e,rfl,k⟩
theorem Y5:bh ["self"] ["self"] (aR E9):=bG (by decide+kernel)
theorem a0Z{C:Addr}(F:MA K C "tool" "Runner.tool" E9)(TC:gu K C):cX P w K mg base C "tool" 1 (fq K C fun _ S H Q=>Q (.str S.side) H):=by
 refine F.has Y5 (fun vs H Q E h=>?_) (fun _ _ _ _ _ _=>fg fun _=>rfl) (fun f aJ A outer s H vs Q E hr h=>?_)
 · obtain⟨a,q,M,D,S,rfl,_⟩:=h
   rfl
 · obtain⟨a,q,M,D,S,rfl,R,ok,aM,k⟩:=h
   obtain⟨dx,mv,bv,cN,tv,e,r1,r2,r3,r4⟩:=R.ob;exact⟨_,(aH (aQ (cS TC.cl TC.Gm (pv 0)))),_,rfl,a,dx,_,_,rfl,e,rfl,k⟩
theorem Ya:bh ["self"] ["self"] (aR Eh):=bG (by decide+kernel)
theorem a1f{C:Addr}(F:MA K C "last_mark" "Runner.last_mark" Eh)(TC:gu K C):cX P w K mg base C "last_mark" 1 (fq K C fun _ S H Q=>Q (.str S.mark) H):=by
 refine F.has Ya (fun vs H Q E h=>?_) (fun _ _ _ _ _ _=>fg fun _=>rfl) (fun f aJ A outer s H vs Q E hr h=>?_)
 · obtain⟨a,q,M,D,S,rfl,_⟩:=h
   rfl
 · obtain⟨a,q,M,D,S,rfl,R,ok,aM,k⟩:=h
   obtain⟨dx,mv,bv,cN,tv,e,r1,r2,r3,r4⟩:=R.ob;exact⟨_,(aH (aQ (cS TC.cl TC.Gn (pv 0)))),_,rfl,a,dx,_,_,rfl,e,rfl,k⟩
theorem Y4:bh ["self"] ["self"] (aR E8):=bG (by decide+kernel)
theorem a0Y{C:Addr}(F:MA K C "waiting" "Runner.waiting" E8)(TC:gu K C)(B:bL mg):cX P w K mg base C "waiting" 1 (fq K C fun _ S H Q=>∀l ys H',H l=none->H' l=some (.lst ys)->aI K H' ys S.ds->aB H H'->Q (.ref l) H'):=by
 refine F.has Y4 (fun vs H Q E h=>?_) (fun _ _ _ _ _ _=>fg fun _=>rfl) (fun f aJ A outer s H vs Q E hr h=>?_)
 · obtain⟨a,q,M,D,S,rfl,_⟩:=h
   rfl
 · obtain⟨a,q,M,D,S,rfl,R,ok,aM,k⟩:=h
   obtain⟨dx,mv,bv,cN,tv,e,r1,r2,r3,r4⟩:=R.ob;obtain⟨ys,eq,rq⟩:=R.qu;refine⟨_,(aH (aQ (gX (x:="list") (GC K rfl) rfl (B.at "list") ko (O (cS TC.cl TC.kg (pv 0)) aw)))),_,rfl,a,dx,_,_,rfl,e,rfl,q,ys,rfl,.inl (aE.of eq),fun l H1 n1=>?_⟩;exact k l ys H1 n1.no n1.at' (aI.mono n1.same _ rq) n1.same
theorem Yd:bh ["self"] ["self"] (aR El):=bG (by decide+kernel)
theorem a1j{C:Addr}(F:MA K C "is_held" "Runner.is_held" El)(TC:gu K C):cX P w K mg base C "is_held" 1 (fq K C fun _ S H Q=>Q (.bl S.aU.isSome) H):=by
 refine F.has Yd (fun vs H Q E h=>?_) (fun _ _ _ _ _ _=>fg fun _=>rfl) (fun f aJ A outer s H vs Q E hr h=>?_)
 · obtain⟨a,q,M,D,S,rfl,_⟩:=h
   rfl
 · obtain⟨a,q,M,D,S,rfl,R,ok,aM,k⟩:=h
   obtain⟨dx,mv,bv,cN,tv,e,r1,r2,r3,r4⟩:=R.ob;refine⟨_,(aH (aQ (fb xI (cS TC.cl TC.Ax (pv 0)) kE (bo _)))),_,rfl,a,dx,_,_,rfl,e,rfl,?_⟩;cases hs:S.aU with |none=>rw[hs]at r4 k;cases(show tv= .bp from r4);exact⟨rfl,k⟩ |some z=>rw[hs]at r4 k;obtain⟨sq,st,gn⟩:=z;obtain⟨b,u,rfl,_⟩:=r4;exact⟨rfl,k⟩
theorem Nz(q:Rat):PyData.eqv (cH q) (cH 0)=decide (q=0):=by
 by_cases h:q=0
 ·rw[cB h];exact eqR h
 · rw[eQ h]
   cases e:PyData.eqv (cH q) (cH 0)with |false=>rfl |true=>
     exfalso;apply h;have e':(PyData.eqv (.int q.num) (.int (0:Rat).num)&&(PyData.eqv (.int (q.den:Int)) (.int ((0:Rat).den:Int))&&true))=true:=e;rw[K0,eV]at e';obtain⟨a,b⟩:=e';have h1:q.num=(0:Rat).num:=by simpa[PyData.eqv]using a
     have h2:(q.den:Int)=((0:Rat).den:Int):=by simpa[PyData.eqv]using b
     exact Rat.ext h1 (by lia)
theorem Y7:bh ["self"] ["self"] (aR Ed):=bG (by decide+kernel)
theorem a1a{C:Addr}(F:MA K C "stands" "Runner.stands" Ed)(TC:gu K C)(gN:GT K mg "NOUGHT" [.int 0,.int 1]):cX P w K mg base C "stands" 1 (fq K C fun _ S H Q=>Q (.bl (decide (S.pc=0))) H):=by
 obtain⟨aN,kP,mz⟩:=gN;refine F.has Y7 (fun vs H Q E h=>?_) (fun _ _ _ _ _ _=>fg fun _=>rfl) (fun f aJ A outer s H vs Q E hr h=>?_)
 · obtain⟨a,q,M,D,S,rfl,_⟩:=h
   rfl
 · obtain⟨a,q,M,D,S,rfl,R,ok,aM,k⟩:=h
   obtain⟨dx,mv,bv,cN,tv,e,r1,r2,r3,r4⟩:=R.ob;refine⟨_,(aH (aQ (fb (cP K rfl hr.units) (cS TC.cl TC.sL (pv 0)) (ek (x:="NOUGHT") rfl kP) (bo _)))),_,rfl,a,dx,_,_,rfl,e,rfl,.inr ⟨_,_,r3.rd,(sy (mz H)).rd,rfl,rfl,?_⟩⟩;rw[Nz];exact k
theorem Yc:bh ["self"] ["self"] (aR Ek):=bG (by decide+kernel)
theorem a1i{C:Addr}(F:MA K C "is_halted" "Runner.is_halted" Ek)(TC:gu K C)(yx:cX P w K mg base C "is_held" 1 (fq K C fun _ S H Q=>Q (.bl S.aU.isSome) H))(HM:cX P w K mg base C "stands" 1 (fq K C fun _ S H Q=>Q (.bl (decide (S.pc=0))) H)):cX P w K mg base C "is_halted" 2 (fq K C fun _ S H Q=>Q (.bl (S.aU.isSome&&decide (S.pc=0))) H):=by
 refine F.has Yc (fun vs H Q E h=>?_) (fun _ _ _ _ _ _=>fg fun _=>rfl) (fun f aJ A outer s H vs Q E hr h=>?_)
 · obtain⟨a,q,M,D,S,rfl,_⟩:=h
   rfl
 · obtain⟨a,q,M,D,S,rfl,R,ok,aM,k⟩:=h
   obtain⟨dx,mv,bv,cN,tv,e,r1,r2,r3,r4⟩:=R.ob;refine⟨_,(aH (aQ (ir (iK yx TC.cl (hr.mono (by decide)) (pv 0)) (iJ (iK HM TC.cl (hr.mono (by decide)) (pv 0)))))),_,rfl,a,dx,_,rfl,e,rfl,a,q,M,D,S,rfl,R,ok,aM,_,rfl,?_⟩;cases hs:S.aU.isSome with |false=>rw[hs]at k;exact bB k |true=>rw[hs]at k;refine bT ⟨_,rfl,a,dx,_,rfl,e,rfl,a,q,M,D,S,rfl,R,ok,aM,?_⟩;exact k
structure nL(n:Nat)(d:ai)(o:Itm):Prop where
 it:itR d o
 ln:∀ns sp,o=some (ns,sp)->eu n 100 ns/\1<=sp/\sp<=20
 ot:o=none->p9 d
theorem a2u{z:Str}(h:xX z=true):isNm (.str z)=true:=h
theorem aa5:∀{ns:List Int},(∃z∈ns,z≠0)->(ns.map PyData.int).any xN=true:=fun{ns} ⟨z,hz,h⟩=>List.any_eq_true.mpr ⟨.int z,jy.mpr ⟨z,hz,rfl⟩,by show(z !=0)=true;simpa using h⟩
theorem aaa{ns:List Int}(h:∀z∈ns,(z.natAbs:Int)<=100):(ns.map PyData.int).all (gq (-100) 100)=true:=by rw[iE];intro d hd;obtain⟨z,hz,rfl⟩:=jy.mp hd;have:=h z hz;show(decide (-100<=z)&&decide (z<=100))=true;rw[cB (by omega),cB (by omega)];rfl
theorem nL.is{n:Nat}{d:ai}{o:Itm}(h:nL n d o):sS n d=true/\dj 8 d/\DE d=true:=by cases o with
 |some q=>
   obtain⟨ns,sp⟩:=q;have ed:=kj h.it;subst ed;obtain⟨eG,s1,s2⟩:=h.ln ns sp rfl;refine⟨?_,?_,rfl⟩
   · show(hO "line" (.str "line")&&(sj n (.tuple (ns.map PyData.int))&&gq 1 20 (.int sp)))=true
     have e1:hO "line" (.str "line")=true:=by decide+kernel
     have e2:sj n (.tuple (ns.map PyData.int))=true:=by show(((ns.map PyData.int).length==n&&(ns.map PyData.int).all (gq (-100) 100))&&(ns.map PyData.int).any xN)=true;rw[aaa eG.bd,aa5 eG.nz,cj,eG.len,JB];rfl
     have e3:gq 1 20 (.int sp)=true:=by show(decide (1<=sp)&&decide (sp<=20))=true;rw[cB s1,cB s2];rfl
     rw[e1,e2,e3];rfl
   · refine(gf.tup (n:=1) (.cons ⟨by decide+kernel,fT _⟩ (.cons (gf.tup (n:=0) fun d hd=>?_) (.cons (.int _) .nil)))).le (by decide)
     obtain⟨a,_,rfl⟩:=jy.mp hd;exact .int _ |none=>
   rcases h.ot rfl with⟨z,rfl,z1,z2⟩|⟨w,s,rfl,hw,si,on⟩
   · refine⟨?_,(gf.tup (n:=0) (.cons ⟨by decide+kernel,fT _⟩ (.cons (.int _) .nil))).le (by decide),rfl⟩
     show oG (.str "wait") (.int z)=true;unfold oG;rw[aY (by decide+kernel)];show(decide (1<=z)&&decide (z<=1000))=true;rw[cB z1,cB z2];rfl
   · have a3E:pM (.str s)=true:=by
       refine cB ?_;rcases on with⟨_,rfl|rfl⟩|⟨_,hn⟩
       ·decide+kernel
       ·decide+kernel
       · unfold xX at hn
         simp only[eV,Ct]at hn
         lia
     refine⟨?_,(gf.tup (n:=0) (.cons ?_ (.cons si .nil))).le (by decide),?_⟩
     · rcases on with⟨rfl,hs⟩|⟨rfl,hn⟩
       · show oG (.str "tool") (.str s)=true
         unfold oG;rw[aZ (by decide+kernel),aY (by decide+kernel)];rcases hs with rfl|rfl<;>decide+kernel
       · show oG (.str "mark") (.str s)=true
         unfold oG;rw[aZ (by decide+kernel),aZ (by decide+kernel)];rw[a2u hn];decide+kernel
     ·rcases hw with rfl|rfl<;>exact⟨by decide+kernel,fT _⟩
     · show([.str w,.str s]:List ai).all pM=true
       rw[JU,JU,List.all_nil,a3E];rcases hw with rfl|rfl<;>decide+kernel
def ip(ns:List Int)(k:Int):List Int:=ns.map fun z=>hJ (k*z) (aF ns)
def fj(S:bj):List Int:=if S.dn=0 then S.pl else match S.os[0]? with |some (some (ns,_))=>fL S.pl (ip ns S.dn) |_=>S.pl
def cU(S:bj):List Int:=S.os.foldl gI S.pl
theorem wx{n:Nat}{pl:List Int}{o:Itm}(h:pl.length=n)(ho:∀ns sp,o=some (ns,sp)->ns.length=n):(gI pl o).length=n:=by cases o with |none=>exact h |some q=>obtain⟨ns,sp⟩:=q;show(fL pl ns).length=n;rw[qI (by rw[ho ns sp rfl,h])];exact h
theorem yE{n:Nat}:∀(os:List Itm)(pl:List Int),pl.length=n->(∀o∈os,∀ns sp,o=some (ns,sp)->ns.length=n)->(os.foldl gI pl).length=n |[],pl,h,_=>h |o::os,pl,h,ho=>yE os (gI pl o) (wx h (ho o (.head _))) fun x hx=>ho x (.tail _ hx)
theorem cA.si{M:bN}{D:Nat}{S:bj}(h:cA M D S):∀o∈S.os,∀ns sp,o=some (ns,sp)->ns.length=M.rs.length:=fun o ho ns sp e=>by obtain⟨i,hi⟩:=pG.mp ho;rw[e]at hi;exact(h.row.ok i ns sp hi).1.len
theorem cA.first{M:bN}{D:Nat}{S:bj}(h:cA M D S)(hn:S.dn≠0):∃ns sp,S.os[0]? =some (some (ns,sp))/\S.dn<aF ns:=by
 rcases h.dn with e|e
 ·exact(hn e).elim
 ·exact e
theorem Y9:bh ["self"] ["self"] (aR Ef):=bG (by decide+kernel)
theorem a1c{C:Addr}(F:MA K C "place" "Runner.place" Ef)(TC:gu K C)(Hl:aD P w K mg base "moved" 1 (A2 K))(B5:aD P w K mg base "stand_at" 2 (zX K)):cX P w K mg base C "place" 3 (fq K C fun _ S H Q=>∀v H',RD K H' v (fG (fj S))->aB H H'->Q v H'):=by
 refine F.has Y9 (fun vs H Q E h=>?_) (fun _ _ _ _ _ _=>fg fun _=>rfl) (fun f aJ A outer s H vs Q E hr h=>?_)
 · obtain⟨a,q,M,D,S,rfl,_⟩:=h
   rfl
 · obtain⟨a,q,M,D,S,rfl,R,ok,aM,k⟩:=h
   obtain⟨dx,mv,bv,cN,tv,e,r1,r2,r3,r4⟩:=R.ob;obtain⟨ys,eq,rq⟩:=R.qu;refine⟨_,(aA (bJ (bW (cP K rfl hr.units) (cS TC.cl TC.oA (pv 0)) az (bo _)) (aH (aQ (cS TC.cl TC.vm (pv 0)))) bM) (aH (aQ (pf Hl hr (O (cS TC.cl TC.vm (pv 0)) (O (pf B5 hr (O (px K (cS TC.cl TC.kg (pv 0)) az) (O (cS TC.cl TC.oA (pv 0)) aw))) aw)))))),_,rfl,a,dx,_,_,rfl,e,rfl,.inl ⟨_,_,rfl,rfl,_,rfl,?_⟩⟩;by_cases h0:S.dn=0
   · rw[cB (by lia)]
     have ep:fj S=S.pl:=by unfold fj;rw[aY h0]
     rw[ep]at k;exact bT ⟨_,rfl,a,dx,_,_,rfl,e,rfl,k bv H r2 (aB.refl _)⟩
   · rw[eQ (by lia)]
     refine bB ?_;obtain⟨ns,sp,eo,hd⟩:=ok.first h0;obtain⟨eG,gA,gP⟩:=ok.row.ok 0 ns sp eo;have ep:fj S=fL S.pl (ip ns S.dn):=by unfold fj;rw[aZ h0,eo]
     rw[ep]at k;have ll:=ok.row.len;have oK:0<S.os.length:=(dC.mp eo).1;obtain⟨d,ed⟩:∃d,S.ds[0]? =some d:=⟨_,bZ (show 0<S.ds.length by lia)⟩;obtain⟨y,ey,ry⟩:=rq.get 0 ed;have it:=ok.row.it 0 d _ ed eo;have kU:=kj it;subst kU;have P8:=yd eG;have lr:=aM.len;refine⟨_,rfl,a,dx,_,_,rfl,e,rfl,?_⟩;refine⟨_,rfl,a,dx,_,_,rfl,e,rfl,.inl ⟨q,_,0,y,rfl,rfl,aE.of eq,cW (gz 0) ey,?_⟩⟩;refine⟨_,rfl,a,dx,_,_,rfl,e,rfl,y,ns,sp,_,rfl,ry,⟨rfl,fun z hz=>by have:=eG.bd z hz;lia,eG.nz⟩,by rw[eG.len];lia,by lia,fun u H1 ru s1=>?_⟩;obtain⟨b,xs,rfl,hb,hx⟩:=ru.dZ;rw[hx.iM]at hb;exact⟨bv,b,S.pl,_,rfl,RD.mono s1 _ r2,hb,by rw[cj,eG.len,ok.pl],by rw[ok.pl];lia,fun v H2 rv s2=>k v H2 rv (s1.trans s2)⟩
theorem Mh:bh ["self","here","item"] ["self"] (aR Ei):=bG (by decide+kernel)
theorem a1g{C:Addr}(F:MA K C "leads_to" "Runner.leads_to" Ei)(TC:gu K C)(yk:aD P w K mg base "place_behind" 2 (xj K)):cX P w K mg base C "leads_to" 3 (fq K C fun _ S H Q=>∀v H',RD K H' v (fG (cU S))->aB H H'->Q v H'):=by
 refine F.has Mh (fun vs H Q E h=>?_) (fun _ _ _ _ _ _=>fg fun _=>rfl) (fun f aJ A outer s H vs Q E hr h=>?_)
 · obtain⟨a,q,M,D,S,rfl,_⟩:=h
   rfl
 · obtain⟨a,q,M,D,S,rfl,R,ok,aM,k⟩:=h
   obtain⟨dx,mv,bv,cN,tv,e,r1,r2,r3,r4⟩:=R.ob;obtain⟨ys,eq,rq⟩:=R.qu;have nd:=Mh.nd;have ll:=ok.row.len;have ly:=rq.length;have lr:=aM.len;refine⟨_,(aA (pS 1 nd (cS TC.cl TC.vm (pv 0))) (aA (lF gL rfl (xF K rfl (cS TC.cl TC.kg (pv 0))) (bf 2 nd) (aH (pS 1 nd (pf yk hr (O (pv 1) (O (pv 2) aw)))))) (aH (aQ (pv 1))))),_,rfl,a,dx,_,_,rfl,e,rfl,_,rfl,a,dx,_,_,rfl,e,rfl,q,rfl,⟨_,aE.of eq⟩,?_⟩;refine Ie (K:=K) (a:=q) (xs:=ys) (fun i Z H1=>aB H H1/\∃hv v2,RD K H1 hv (fG ((S.os.take i).foldl gI S.pl))/\Z=[some (.ref a),some hv,v2]) ⟨aB.refl _,bv,none,r2,rfl⟩ (fun i Z H1 _ h=>aE.of (h.1 _ _ eq)) ?_ ?_
   · rintro i x Z H1 hx ⟨s1,hv,v2,rh,rfl⟩
     obtain⟨d,ed,rd⟩:=rq.get' i hx;obtain⟨o,eo,it⟩:=ok.row.get ed;have lp:((S.os.take i).foldl gI S.pl).length=M.rs.length:=yE _ _ ok.pl fun o ho=>ok.si o (CB ho);refine⟨_,rfl,_,rfl,hv,x,_,d,o,rfl,rh,RD.mono s1 _ rd,it,fun ns sp e'=>by rw[lp];exact ok.si o (gy eo) ns sp e',by lia,fun v H2 rv s2=>?_⟩;refine⟨s1.trans s2,v,_,?_,rfl⟩;rw[pF,eo,List.foldl_append];exact rv
   · rintro Z H1 ⟨s1,hv,v2,rh,rfl⟩
     rw[ly,ll,wK]at rh;exact⟨_,rfl,k hv H1 rh s1⟩
structure Mv(a q:Addr)(H:Hp)(q':Addr)(H':Hp):Prop where
 but:bw [a,q] H H'
 nq:q'=q\/H q'=none
theorem Yb:bh ["self","machine","place"] ["self","machine","place"] (aR Ej):=bG (by decide+kernel)
def my(pl:List Int):bj:=⟨pl,0,[],[],0,100,"up","",none⟩
inductive U0(K:aa)(C:Addr)(vs:List V)(H:Hp)(Q:VK):Prop |mk (a:_)(dx:_)(mv:_)(rW:_)(M:_)(pl:_)(h0:vs=[.ref a,mv,rW])(h1:H a=some (.ins C dx []))(h2:RD K H mv (bN.D M))(h3:RD K H rW (fG pl))(h4:∀q H',dh K C H' a q M (my pl)->H q=none->bw [a] H H'->Q .bp H'):U0 K C vs H Q
def Lm(K:aa)(C:Addr):Sp:=fun vs H Q _=>U0 K C vs H Q
theorem a1h{C:Addr}(F:CA K mg C "Runner" "Runner.__init__" Ej)(TC:gu K C)(gN:GT K mg "NOUGHT" [.int 0,.int 1])(a6a:GV mg "FIRST_RATE" (.int 100)):Cj P w K mg base C "Runner" 1 (Lm K C):=by
 obtain⟨aN,kP,mz⟩:=gN;refine F.has Yb (fun vs H Q E h=>?_) (fun _ _ _ _ _ _=>ny fun _ _ _=>rfl) (fun f aJ A outer s H vs Q E hr h=>?_)
 · obtain⟨a,dx,mv,rW,M,pl,rfl,_⟩:=h
   rfl
 · obtain⟨a,dx,mv,rW,M,pl,rfl,e,rm,rp,k⟩:=h
   refine⟨_,(aA (jd TC.cl TC.pY (pv 0) (pv 1)) (aA (jd TC.cl TC.vm (pv 0) (pv 2)) (aA (jd TC.cl TC.oA (pv 0) az) (aA (jd TC.cl TC.kg (pv 0) (df aw)) (aA (jd TC.cl TC.sL (pv 0) (ek (x:="NOUGHT") rfl kP)) (aA (jd TC.cl TC.Ay (pv 0) (ek (x:="FIRST_RATE") rfl a6a)) (aA (jd TC.cl TC.Gm (pv 0) aX) (aA (jd TC.cl TC.Gn (pv 0) aX) (aH (jd TC.cl TC.Ax (pv 0) kE)))))))))),?_⟩;refine⟨_,rfl,_,rfl,a,dx,_,rfl,e,by decide,?_⟩;refine⟨_,rfl,_,rfl,a,dx,_,rfl,ba,by show 1<1000;decide,?_⟩;refine⟨_,rfl,a,dx,_,rfl,ba,by show 2<1000;decide,?_⟩;refine⟨bP rfl,fun q H1 n1=>?_⟩;have aq:a≠q:=fun z=>by have:=n1.no;rw[<-z,ba]at this;cases this
   have e1:=n1.same _ _ (ba (a:=a));refine⟨_,rfl,a,dx,_,rfl,e1,by show 3<1000;decide,?_⟩;refine⟨_,rfl,a,dx,_,rfl,ba,by show 4<1000;decide,?_⟩;refine⟨_,rfl,a,dx,_,rfl,ba,by show 5<1000;decide,?_⟩;refine⟨_,rfl,a,dx,_,rfl,ba,by show 6<1000;decide,?_⟩;refine⟨_,rfl,a,dx,_,rfl,ba,by show 7<1000;decide,?_⟩;refine⟨_,rfl,a,dx,_,rfl,ba,by show 8<1000;decide,?_⟩;have key:∀X:Hp,(∀b,b≠a->X b=H1 b)->Q .bp (L2.upd X a (.ins C dx (gR mv rW (.int 0) (.ref q) (.ref aN) (.int 100) (.str "up") (.str "") .bp))):=by
    intro X hX;have bt:bw [a] H (L2.upd X a (.ins C dx (gR mv rW (.int 0) (.ref q) (.ref aN) (.int 100) (.str "up") (.str "") .bp))):=fun b o eb hb=>by have ha:b≠a:=fun z=>hb (by rw[z];exact .head _);rw[aK ha,hX b ha];exact n1.same _ _ (by rw[aK ha,aK ha,aK ha];exact eb)
    have sv:=bt.v fun x hx o eo=>by rw[cm]at hx;rw[hx,e]at eo;cases eo;trivial
    refine k q _ ⟨⟨dx,mv,rW,.ref aN,.bp,ba,RD.v sv _ (ki _ _ _ _ _) rm,RD.v sv _ (jD _) rp,sy (mz _),rfl⟩,[],?_,cL⟩ ?_ bt
    ·rw[aK aq.symm,hX q aq.symm];exact n1.at'
    · have:=n1.no
      rw[aK aq.symm,aK aq.symm,aK aq.symm]at this;exact this
   exact key _ (fun b hb=>by rw[aK hb,aK hb,aK hb,aK hb,aK hb])
theorem YF{M:bN}{pl:List Int}(hp:pl.length=M.rs.length):cA M 64 (my pl):=⟨.nil,fun i d e=>by simp[my]at e,by simp[my],(show(10:Int)<=100 by decide),(show(100:Int)<=200 by decide),.inl rfl,hp,⟨(show(0:Rat)<=0 by decide),(show(0:Rat).den<2^74 by decide+kernel)⟩,(show(0:Rat)<=1600 by decide+kernel),trivial,by decide,by decide⟩
theorem a0A{rs pl:List Int}(h:iQ rs pl):GR rs (fG pl)=true:=by show((pl.map PyData.int).length==rs.length&&(((pl.map PyData.int).zip rs).map fun p=>gq 0 p.2 p.1).all id)=true;rw[cj,h.len,JB,jV,iE];intro b hb;obtain⟨⟨d,r⟩,hm,rfl⟩:=jy.mp hb;obtain⟨i,hi⟩:=pG.mp hm;obtain⟨e1,e2⟩:=(wL (z:=(d,r))).mp hi;rw[cu]at e1;cases e:pl[i]? with |none=>rw[e]at e1;cases e1 |some x=>rw[e]at e1;cases e1;obtain⟨a1,a2⟩:=h.at' i x r e e2;show(decide (0<=x)&&decide (x<=r))=true;rw[cB a1,cB a2];rfl
def mV(S:bj)(d:ai)(o:Itm):bj:={S with ds:=S.ds++[d],os:=S.os++[o]}
theorem cA.QE{M:bN}{D:Nat}{S:bj}{d:ai}{o:Itm}(h:cA M D S)(it:nL M.rs.length d o)(hl:S.ds.length<20):cA M D (mV S d o):=by
 have ll:=h.row.len;refine⟨h.row.snoc it.it it.ln,RowW.snoc h.rw ll it.ot,by show(S.ds++[d]).length<=20;rw[fo];show _+1<=20;lia,h.dk,h.dF,?_,h.pl,h.pd,h.pm,h.aU,h.D1,h.D2⟩;rcases h.dn with e|⟨ns,sp,e,e2⟩
 ·exact .inl e
 · refine .inr ⟨ns,sp,?_,e2⟩
   show(S.os++[o])[0]? =_;rw[wM (dC.mp e).1];exact e
theorem Mi:bh ["self","item"] ["self","item"] (aR Em):=bG (by decide+kernel)
def iO(S:bj):bj:=match S.os with |o::os=>{S with pl:=gI S.pl o,ds:=S.ds.tail,os:=os,dn:=0} |[]=>S
theorem gD.tail{n:Nat}{d:ai}{ds:List ai}{o:Itm}{os:List Itm}(h:gD n (d::ds) (o::os)):gD n ds os:=⟨by have:=h.len;simpa using this,fun i d' o' e1 e2=>h.it (i+1) d' o' (by simpa using e1) (by simpa using e2),fun i ns sp e=>h.ok (i+1) ns sp (by simpa using e)⟩
theorem RowW.tail{d:ai}{ds:List ai}{o:Itm}{os:List Itm}(h:RowW (d::ds) (o::os)):RowW ds os:=fun i d' e1 e2=>h (i+1) d' (by simpa using e1) (by simpa using e2)
structure kl(M:bN)(D:Nat)(S:bj):Prop where
 row:gD M.rs.length S.ds S.os
 rw:RowW S.ds S.os
 len:S.ds.length<=20
 dk:10<=S.ay
 dF:S.ay<=200
 pl:S.pl.length=M.rs.length
 pd:Dd (D+10) S.pc
 pm:S.pc<=1600
 aU:qJ D S.pc S.aU
 D1:64<=D
 D2:D<=1500
theorem cA.raw{M:bN}{D:Nat}{S:bj}(h:cA M D S):kl M D S:=⟨h.row,h.rw,h.len,h.dk,h.dF,h.pl,h.pd,h.pm,h.aU,h.D1,h.D2⟩
theorem kl.ok{M:bN}{D:Nat}{S:bj}(h:kl M D S)(hd:S.dn=0\/∃ns sp,S.os[0]? =some (some (ns,sp))/\S.dn<aF ns):cA M D S:=⟨h.row,h.rw,h.len,h.dk,h.dF,hd,h.pl,h.pd,h.pm,h.aU,h.D1,h.D2⟩
theorem kl.end{M:bN}{D:Nat}{S:bj}(h:kl M D S)(hn:S.os≠[]):cA M D (iO S):=by obtain⟨pl,dn,ds,os,pc,ay,side,mark,aU⟩:=S;cases os with |nil=>exact(hn rfl).elim |cons o os=>have ll:=h.row.len;cases ds with |nil=>simp at ll |cons d ds=>
     refine⟨h.row.tail,h.rw.tail,?_,h.dk,h.dF,.inl rfl,?_,h.pd,h.pm,h.aU,h.D1,h.D2⟩
     · have:=h.len
       simp only[jU]at this;show ds.length<=20
       lia
     ·exact wx h.pl fun ns sp e=>(h.row.ok 0 ns sp (by rw[<-e];rfl)).1.len
theorem a98(xs:List V):me xs (some 1) none=xs.drop 1:=IY xs
theorem Mm:bh ["self"] ["self"] (aR Ep):=bG (by decide+kernel)
inductive U8(K:aa)(C:Addr)(vs:List V)(H:Hp)(Q:VK):Prop |mk (a:_)(q:_)(M:_)(D:_)(S:_)(h0:vs=[.ref a])(h1:dh K C H a q M S)(h2:kl M D S)(h3:M.Ok)(h4:S.os≠[])(h5:∀q' H',dh K C H' a q' M (iO S)->H q'=none->bw [a] H H'->Q .bp H'):U8 K C vs H Q
def Dr(K:aa)(C:Addr):Sp:=fun vs H Q _=>U8 K C vs H Q
theorem a1o{C:Addr}(F:MA K C "end_first" "Runner.end_first" Ep)(TC:gu K C)(yk:aD P w K mg base "place_behind" 2 (xj K)):cX P w K mg base C "end_first" 3 (Dr K C):=by
 refine F.has Mm (fun vs H Q E h=>?_) (fun _ _ _ _ _ _=>fg fun _=>rfl) (fun f aJ A outer s H vs Q E hr h=>?_)
 · obtain⟨a,q,M,D,S,rfl,_⟩:=h
   rfl
 · obtain⟨a,q,M,D,S,rfl,R,ok,aM,hn,k⟩:=h
   obtain⟨dx,mv,bv,cN,tv,e,r1,r2,r3,r4⟩:=R.ob;obtain⟨ys,eq,rq⟩:=R.qu;have aq:=R.ne;have nd:=Mm.nd;have lr:=aM.len;have ll:=ok.row.len;refine⟨_,(aA (jd TC.cl TC.vm (pv 0) (pf yk hr (O (cS TC.cl TC.vm (pv 0)) (O (px K (cS TC.cl TC.kg (pv 0)) az) aw)))) (aA (jd TC.cl TC.kg (pv 0) (FZ (DB K rfl) (cS TC.cl TC.kg (pv 0)) (FV az) FW)) (aH (jd TC.cl TC.oA (pv 0) az)))),?_⟩;obtain⟨pl,dn,ds,os,pc,ay,side,mark,aU⟩:=S;cases os with |nil=>exact(hn rfl).elim |cons o os=>cases ds with |nil=>simp at ll |cons d ds=>
       obtain⟨y,yr,rfl,ry,rr⟩:=rq.cons_inv;have it:itR d o:=ok.row.it 0 d o rfl rfl;have lp:pl.length=M.rs.length:=ok.pl;refine⟨_,rfl,a,dx,_,_,rfl,e,rfl,?_⟩;refine⟨_,rfl,a,dx,_,_,rfl,e,rfl,.inl ⟨q,_,0,y,rfl,rfl,aE.of eq,cW (gz 0) rfl,?_⟩⟩;refine⟨bv,y,pl,d,o,rfl,r2,ry,it,fun ns sp e'=>by rw[lp];exact(ok.row.ok 0 ns sp (by rw[<-e'];rfl)).1.len,by lia,fun u H1 ru s1=>?_⟩;have e1:=s1 _ _ e;refine⟨_,rfl,a,dx,_,rfl,e1,by show 9<1000;decide,?_⟩;have eq1:(L2.upd H1 a (.ins C dx (gR mv u (.int dn) (.ref q) cN (.int ay) (.str side) (.str mark) tv))) q=some (.lst (y::yr)):=by rw[aK aq.symm];exact s1 _ _ eq
       refine⟨_,rfl,a,dx,_,_,rfl,ba,rfl,_,rfl,q,_,rfl,.inl ⟨aE.of eq1,fun q' H2 n2=>?_⟩⟩;have e2:=n2.same _ _ (ba (a:=a));refine⟨_,rfl,a,dx,_,rfl,e2,by show 9<1000;decide,?_⟩;refine⟨_,rfl,a,dx,_,rfl,ba,by show 9<1000;decide,?_⟩;have Jg:a≠q':=fun z=>by have:=n2.no;rw[<-z,ba]at this;cases this
       have key:∀X:Hp,(∀b,b≠a->X b=H2 b)->Q .bp (L2.upd X a (.ins C dx (gR mv u (.int 0) (.ref q') cN (.int ay) (.str side) (.str mark) tv))):=by
        intro X hX;have bt:bw [a] H (L2.upd X a (.ins C dx (gR mv u (.int 0) (.ref q') cN (.int ay) (.str side) (.str mark) tv))):=fun b o' eb hb=>by have ha:b≠a:=fun z=>hb (by rw[z];exact .head _);rw[aK ha,hX b ha];exact n2.same _ _ (by rw[aK ha];exact s1 _ _ eb)
        have sv:=bt.v fun x hx o' eo=>by rw[cm]at hx;rw[hx,e]at eo;cases eo;trivial
        have Xl:bR H1 (L2.upd X a (.ins C dx (gR mv u (.int 0) (.ref q') cN (.int ay) (.str side) (.str mark) tv))):=fun b o' nb eb=>by
         have ha:b≠a:=fun z=>by rw[z,e1]at eb;cases eb;exact nb trivial
         rw[aK ha,hX b ha];exact n2.same _ _ (by rw[aK ha];exact eb)
        have jI:=n2.at';rw[a98]at jI;refine k q' _ ⟨⟨dx,mv,u,cN,tv,ba,RD.v sv _ (ki _ _ _ _ _) r1,RD.v Xl _ (jD _) ru,r3.v sv,r4.v sv⟩,yr,?_,?_⟩ ?_ bt
        ·rw[aK Jg.symm,hX q' Jg.symm];exact jI
        ·exact aI.v sv _ ok.row.tail.no rr
        ·cases e':H q' with |none=>rfl |some o'=>have h1:=s1 _ _ e';have h2:=n2.no;rw[aK Jg.symm,h1]at h2;cases h2
       exact key _ (fun b hb=>by rw[aK hb])
theorem mn4{x y z u q:Rat}(h:q=x\/q=y\/q=z\/q=u)(h1:q<=x)(h2:q<=y)(h3:q<=z)(h4:q<=u):mn (mn (mn x y) z) u=q:=by
 refine Cv ?_ (kJ (kJ (kJ h1 h2) h3) h4);rcases h with h|h|h|h
 ·rw[h];exact dU (gj _ _) (dU (gj _ _) (gj _ _))
 ·rw[h];exact dU (gj _ _) (dU (gj _ _) (kh _ _))
 ·rw[h];exact dU (gj _ _) (kh _ _)
 ·rw[h];exact kh _ _
theorem AR{H:Hp}{Q:VK}{l:Addr}{u1 u2 u3:V}{x y z:Rat}(dl:H l=some (.lst [u1,u2,u3]))(R1:bc K H u1 x)(R2:bc K H u2 y)(R3:bc K H u3 z)(b1:Bd 2000 x)(b2:Bd 2000 y)(b3:Bd 2000 z)(k:∀v,bc K H v (mn (mn x y) z)->Q v H):jc K [.ref l] H Q E0:=by
 refine⟨l,[u1,u2,u3],[x,y,z],rfl,aE.of dl,⟨R1,b1,R2,b2,R3,b3,trivial⟩,by simp,fun c v q e1 e2 hq=>k v ?_⟩;have e:mn (mn x y) z=q:=by
  refine mn3 ?_ (hq _ (by simp)) (hq _ (by simp)) (hq _ (by simp))
  match c,e2 with |0,e2=>cases e2;exact .inl rfl |1,e2=>cases e2;exact .inr (.inl rfl) |2,e2=>cases e2;exact .inr (.inr rfl)
 rw[e]
 match c,e1,e2 with |0,e1,e2=>cases e1;cases e2;exact R1 |1,e1,e2=>cases e1;cases e2;exact R2 |2,e1,e2=>cases e1;cases e2;exact R3
theorem AQ{H:Hp}{Q:VK}{l:Addr}{u1 u2 u3 u4:V}{x y z t:Rat}(dl:H l=some (.lst [u1,u2,u3,u4]))(R1:bc K H u1 x)(R2:bc K H u2 y)(R3:bc K H u3 z)(R4:bc K H u4 t)(b1:Bd 2000 x)(b2:Bd 2000 y)(b3:Bd 2000 z)(b4:Bd 2000 t)(k:∀v,bc K H v (mn (mn (mn x y) z) t)->Q v H):jc K [.ref l] H Q E0:=by
 refine⟨l,[u1,u2,u3,u4],[x,y,z,t],rfl,aE.of dl,⟨R1,b1,R2,b2,R3,b3,R4,b4,trivial⟩,by simp,fun c v q e1 e2 hq=>k v ?_⟩;have e:mn (mn (mn x y) z) t=q:=by
  refine mn4 ?_ (hq _ (by simp)) (hq _ (by simp)) (hq _ (by simp)) (hq _ (by simp))
  match c,e2 with |0,e2=>cases e2;exact .inl rfl |1,e2=>cases e2;exact .inr (.inl rfl) |2,e2=>cases e2;exact .inr (.inr (.inl rfl)) |3,e2=>cases e2;exact .inr (.inr (.inr rfl))
 rw[e]
 match c,e1,e2 with |0,e1,e2=>cases e1;cases e2;exact R1 |1,e1,e2=>cases e1;cases e2;exact R2 |2,e1,e2=>cases e1;cases e2;exact R3 |3,e1,e2=>cases e1;cases e2;exact R4
theorem qE{D:Nat}{q:Rat}{z:Int}(h:Dd D q)(hl:q<=1600)(hz:0<=z)(Pw:z<2^24)(hD:D<=1700):Bd 2000 (q+(z:Rat)):=by have b:Bd (D+11) q:=h.bd (dU hl (by decide+kernel));exact(C5 b (by lia)).mono (by lia)
theorem Mg:bh ["self","top","reach","left","rise","fall","middles","ends","square","steps","gone","still"] ["self","top","reach","left"] (aR Eg):=bG (by decide+kernel)
def Gb(M:bN)(S:bj)(top R:Rat)(left:Int):bj:={S with pc:=oy M.r M.f S.pc top R left S.aU,aU:=As S.aU}
inductive TZ(K:aa)(C:Addr)(vs:List V)(H:Hp)(Q:VK):Prop |mk (a:_)(q:_)(M:_)(D:_)(S:_)(tv:_)(Rv:_)(top:_)(R:_)(left:_)(h0:vs=[.ref a,tv,Rv,.int left])(h1:dh K C H a q M S)(h2:cA M D S)(h3:M.Ok)(h4:bc K H tv top)(h5:Dd 14 top)(h6:top<=1600)(h7:bc K H Rv R)(h8:Dd 64 R)(h9:R<=1600)(yB:1<=left)(Ql:left<=100)(Qk:¬Halt S.pc S.aU)(Qj:∀v H',bc K H' v (lG M.r M.f S.pc top R left S.aU)->dh K C H' a q M (Gb M S top R left)->bw [a] H H'->Q v H'):TZ K C vs H Q
def Ll(K:aa)(C:Addr):Sp:=fun vs H Q _=>TZ K C vs H Q
theorem a1e{C:Addr}(F:MA K C "next_square" "Runner.next_square" Eg)(TC:gu K C)(vF:aD P w K mg base "plus_whole" 4 (A1 K))(PB:aD P w K mg base "times" 3 (mC (·*·) K))(qm:aD P w K mg base "fraction" 3 (uF K))(vK:aD P w K mg base "least" 2 (jc K))(yx:cX P w K mg base C "is_held" 1 (fq K C fun _ S H Q=>Q (.bl S.aU.isSome) H)):cX P w K mg base C "next_square" 5 (Ll K C):=by
 refine F.has Mg (fun vs H Q E h=>?_) (fun _ _ _ _ _ _=>C4 fun _ _ _ _=>rfl) (fun f aJ A outer s H vs Q E hr h=>?_)
 · obtain⟨a,q,M,D,S,tv,Rv,top,R,left,rfl,_⟩:=h
   rfl
 · obtain⟨a,q,M,D,S,tv,Rv,top,R,left,rfl,R0,ok,aM,rt,td,tl,rR,Rd,Rl,l1,l2,nh,k⟩:=h
   obtain⟨dx,mv,bv,cN,sv,e,r1,r2,r3,r4⟩:=R0.ob;obtain⟨ys,eq,rq⟩:=R0.qu;have aq:=R0.ne;have nd:=Mg.nd;have Ai:=aM.r1;have qA:=aM.f1;have D1:=ok.D1;have D2:=ok.D2;have kR:(2:Int)^24=16777216:=by decide
   obtain⟨ma,mb,rfl,gC,jn⟩:=kI r1;refine⟨_,(aA (om (i:=4) (j:=5) rfl nd rfl rfl (by decide) rfl rfl (O (px K (cS TC.cl TC.pY (pv 0)) az) (O (px K (cS TC.cl TC.pY (pv 0)) az) aw)) rfl) (aA (pS 6 nd (df (O (pf vF hr (O (cS TC.cl TC.sL (pv 0)) (O (pv 4) aw))) (O (pv 1) (O (pf vF hr (O (pv 2) (O (aG bu (pv 5) (aG fY (aG bu az (pv 3)) az)) aw))) aw))))) (aA (pS 7 nd (df (O (pf vF hr (O (cS TC.cl TC.sL (pv 0)) (O (aG bu az (pv 4)) aw))) (O (pv 1) (O (pf vF hr (O (pv 2) (O (aG bu (aG bu az (pv 5)) (aG fY (pv 3) az)) aw))) aw))))) (aA (gU (bJ (cI (iK yx TC.cl (hr.mono (by decide)) (pv 0))) (aA (fO (cS TC.cl TC.Ax (pv 0)) (dJ K rfl (n:=3) rfl (bO (bf 8 nd) (bO (bf 9 nd) (bO (bf 10 nd) dH))))) (aA (pS 11 nd (aG fY (aG fY (pv 9) (pv 10)) az)) (aA (gF (je K rfl (pv 6) (O (pf PB hr (O (pv 8) (O (pf qm hr (O (aG cJ (aG bu az (pv 11)) az) (O (aG bu az (pv 9)) aw))) aw))) aw))) (aA (gF (je K rfl (pv 7) (O (pf PB hr (O (pv 8) (O (pf qm hr (O (pv 11) (O (pv 9) aw))) aw))) aw))) (aH (jd TC.cl TC.Ax (pv 0) (dP (O (pv 8) (O (pv 9) (O (aG cJ (pv 10) az) aw)))))))))) bM)) (aA (jd TC.cl TC.sL (pv 0) (pf vK hr (O (pv 7) aw))) (aH (aQ (pf vK hr (O (pv 6) aw))))))))),?_⟩;refine⟨_,rfl,a,dx,_,_,rfl,e,rfl,.inr ⟨ma,_,1,.int M.r,rfl,rfl,gC,rfl,?_⟩⟩;refine⟨_,rfl,a,dx,_,_,rfl,e,rfl,.inr ⟨ma,_,2,.int M.f,rfl,rfl,gC,rfl,_,_,rfl,?_⟩⟩;have fl1:(M.f*(2*left-1)).natAbs<=50*200:=by rw[fF];exact ml (by lia) (by lia)
   have Ii:0<=M.f*(2*left-1):=jz (by lia) (by lia);have fl2:(2*M.f*(left-1)).natAbs<=100*100:=by rw[fF];exact ml (by lia) (by lia)
   have Ih:0<=2*M.f*(left-1):=jz (by lia) (by lia);have xH:Bd 2000 S.pc:=(ok.pd.bd (dU ok.pm (by decide+kernel))).mono (by lia);have RB:Bd 2000 R:=(Rd.bd (dU Rl (by decide+kernel))).mono (by decide);have tB:Bd 2000 top:=(td.bd (dU tl (by decide+kernel))).mono (by decide);have B1:Bd 2000 (S.pc+(M.r:Rat)):=qE ok.pd ok.pm (by lia) (by lia) (by lia);have B2:Bd 2000 (R+((M.f*(2*left-1):Int):Rat)):=qE Rd Rl Ii (by lia) (by lia);have B3:Bd 2000 (S.pc+((2*M.r:Int):Rat)):=qE ok.pd ok.pm (by lia) (by lia) (by lia);have B4:Bd 2000 (R+((2*M.f*(left-1):Int):Rat)):=qE Rd Rl Ih (by lia) (by lia);refine⟨_,rfl,a,dx,_,_,rfl,e,rfl,_,rfl,cN,_,_,rfl,r3,xH,by lia,fun u1 H1 kC s1=>?_⟩;refine⟨_,rfl,_,rfl,_,rfl,_,rfl,_,_,rfl,rfl,.of_left (bV (by decide) (by decide)),_,_,rfl,rfl,_,_,rfl,rfl,.of_left (bV (by lia) (by lia)),Rv,_,_,rfl,rR.go s1,RB,by lia,fun u2 H2 rP s2=>?_⟩;refine⟨bP rfl,fun lm H3 n3=>?_⟩;have cY:=s1.trans (s2.trans n3.same);refine⟨_,rfl,a,dx,_,_,rfl,cY _ _ e,rfl,_,rfl,_,_,rfl,rfl,.of_left (bV (by decide) (by decide)),cN,_,_,rfl,r3.go cY,xH,by lia,fun u3 H4 Fs s4=>?_⟩;have fV:=cY.trans s4;refine⟨_,rfl,_,rfl,_,rfl,_,_,rfl,rfl,.of_left (bV (by decide) (by decide)),_,rfl,_,_,rfl,rfl,_,_,rfl,rfl,.of_left (bV (by lia) (by lia)),Rv,_,_,rfl,rR.go fV,RB,by lia,fun u4 H5 Fq s5=>?_⟩;refine⟨bP rfl,fun le H6 n6=>?_⟩;have jY:=fV.trans (s5.trans n6.same);have pO:=s4.trans (s5.trans n6.same);have e6:=jY _ _ e;have R6:=R0.same ok.row.no jY;have U1:=kC.go (s2.trans (n3.same.trans pO));have U2:=rP.go (n3.same.trans pO);have U3:=Fs.go (s5.trans n6.same);have U4:=Fq.go n6.same;have T6:=rt.go jY;have dm:=pO _ _ n3.at';have de:=n6.at';have Jh:a≠lm:=fun z=>by have:=n3.no;rw[<-z,(s1.trans s2) _ _ e]at this;cases this
   have SD:a≠le:=fun z=>by have:=n6.no;rw[<-z,(fV.trans s5) _ _ e]at this;cases this
   have yb:lm≠le:=fun z=>by have:=n6.no;rw[<-z,(s4.trans s5) _ _ n3.at']at this;cases this
   have Av:H lm=none:=by cases e':H lm with |none=>rfl |some o=>have:=(s1.trans s2) _ _ e';rw[n3.no]at this;cases this
   have xS:H le=none:=by cases e':H le with |none=>rfl |some o=>have:=(fV.trans s5) _ _ e';rw[n6.no]at this;cases this
   refine⟨fun Z H7=>∃pK w8 w9 kx nV um ue,Z=[some (.ref a),some tv,some Rv,some (.int left),some (.int M.r),some (.int M.f),some (.ref lm),some (.ref le),w8,w9,kx,nV]/\bw [a,lm,le] H6 H7/\H7 a=some (.ins C dx (gR (.ref ma) bv (.int S.dn) (.ref q) cN (.int S.ay) (.str S.side) (.str S.mark) pK))/\yW K H7 pK (As S.aU)/\H7 lm=some (.lst um)/\H7 le=some (.lst ue)/\(∀H8 Q',bR H7 H8->H8 lm=some (.lst um)->(∀v,bc K H8 v (lG M.r M.f S.pc top R left S.aU)->Q' v H8)->jc K [.ref lm] H8 Q' E0)/\(∀H8 Q',bR H7 H8->H8 le=some (.lst ue)->(∀v,bc K H8 v (oy M.r M.f S.pc top R left S.aU)->Q' v H8)->jc K [.ref le] H8 Q' E0),?_,?_⟩
   · refine⟨_,rfl,a,dx,_,rfl,e6,rfl,a,q,M,D,S,rfl,R6,ok,aM,_,rfl,?_⟩
     cases hs:S.aU with |none=>rw[hs]at r4;refine bB ⟨sv,_,_,_,_,_,_,rfl,bw.refl _ _,e6,r4,dm,de,fun H8 Q' sV d8 kq=>AR d8 (U1.v sV) (T6.v sV) (U2.v sV) B1 tB B2 kq,fun H8 Q' sV d8 kq=>AR d8 (U3.v sV) (T6.v sV) (U4.v sV) B3 tB B4 kq⟩ |some z=>
       obtain⟨sq,st,gn⟩:=z;rw[hs]at r4;have sk:=ok.aU;rw[hs]at sk nh;obtain⟨g1,g2,g3⟩:=vg sk ok.pd.nn nh;obtain⟨gn0,gn1,zU,rH,rF,_,_⟩:=sk;obtain⟨ta,su,rfl,vB,hsu⟩:=r4;refine bT ?_;have a4y:=vB.go jY;have Hb:=hsu.go jY;have zV:Bd 2000 sq:=(rH.bd rF).mono (by lia);refine⟨_,rfl,a,dx,_,_,rfl,e6,rfl,ta,_,rfl,a4y,rfl,_,_,rfl,_,_,rfl,_,_,rfl,rfl,?_⟩;refine⟨_,rfl,_,rfl,_,_,rfl,rfl,_,_,rfl,rfl,?_⟩;have kR:sizeLine=16777216:=by decide
       refine⟨_,rfl,.inl ⟨rfl,_,aE.of dm⟩,_,rfl,_,rfl,_,_,rfl,rfl,.of_left (bV (by decide) (by decide)),_,_,rfl,rfl,_,rfl,_,_,rfl,rfl,.of_left (bV (by decide) (by decide)),_,_,rfl,by lia,gM (n:=64) (by lia) (by decide),fun fv H7 rf s7=>?_⟩;have fB:Bd 2000 (Rat.divInt (2*(st-gn-1)+1) (2*st)):=(ka (n:=12) (by lia) (by lia) (by lia)).mono (by decide);have fB2:Bd 2000 (Rat.divInt (st-gn-1) st):=(ka (n:=12) (by lia) (by lia) (by lia)).mono (by decide);have pB:Bd 2000 (sq*Rat.divInt (2*(st-gn-1)+1) (2*st)):=((rH.bd rF).mul (ka (n:=12) (by lia) (by lia) (by lia))).mono (by lia);have G1:Bd 2000 (sq*Rat.divInt (st-gn-1) st):=((rH.bd rF).mul (ka (n:=12) (by lia) (by lia) (by lia))).mono (by lia);refine⟨su,fv,sq,_,rfl,Hb.go s7,rf,zV,fB,fun x1 H8 xy s8=>?_⟩;have uO:=s7.trans s8;have Rr:=uO _ _ dm;refine⟨lm,_,_,rfl,rfl,Rr,by show 3<sizeLine;lia,?_⟩;have v8:bR H8 (L2.upd H8 lm (.lst ([u1,tv,u2]++[x1]))):=.upd Rr trivial;have RI:(L2.upd H8 lm (.lst ([u1,tv,u2]++[x1]))) le=some (.lst [u3,tv,u4]):=by rw[aK yb.symm];exact uO _ _ de
       refine⟨_,rfl,.inl ⟨rfl,_,aE.of RI⟩,_,rfl,_,rfl,_,rfl,_,_,rfl,by lia,gM (n:=64) (by lia) (by decide),fun gv H9 rg s9=>?_⟩;refine⟨su,gv,sq,_,rfl,((Hb.go uO).v v8).go s9,rg,zV,fB2,fun x2 jt xx mF=>?_⟩;have uN:=s9.trans mF;have RJ:=uN _ _ RI;refine⟨le,_,_,rfl,rfl,RJ,by show 3<sizeLine;lia,?_⟩;have v10:bR jt (L2.upd jt le (.lst ([u3,tv,u4]++[x2]))):=.upd RJ trivial;refine⟨_,rfl,_,rfl,_,rfl,_,_,rfl,rfl,bP rfl,fun tn iC ji=>?_⟩;have Wc:bR H6 jt:=(uO.v.trans v8).trans uN.v;have Wb:bR H6 iC:=(Wc.trans v10).trans ji.same.v;have e8:(L2.upd H8 lm (.lst ([u1,tv,u2]++[x1]))) a=some (.ins C dx (gR (.ref ma) bv (.int S.dn) (.ref q) cN (.int S.ay) (.str S.side) (.str S.mark) (.ref ta))):=by rw[aK Jh];exact uO _ _ e6
       have Rk:iC a=some (.ins C dx (gR (.ref ma) bv (.int S.dn) (.ref q) cN (.int S.ay) (.str S.side) (.str S.mark) (.ref ta))):=ji.same _ _ (by rw[aK SD];exact uN _ _ e8);refine⟨_,rfl,a,dx,_,rfl,Rk,by show 9<1000;decide,?_⟩;have uy:bR iC (L2.upd iC a (.ins C dx (gR (.ref ma) bv (.int S.dn) (.ref q) cN (.int S.ay) (.str S.side) (.str S.mark) (.ref tn)))):=.upd Rk trivial;have rn:=Wb.trans uy;have Wa:=(((v8.trans uN.v).trans v10).trans ji.same.v).trans uy;have Wg:=(v10.trans ji.same.v).trans uy;refine⟨.ref tn,_,_,_,_,[u1,tv,u2,x1],[u3,tv,u4,x2],rfl,fun b o' eb hb=>?_,ba,⟨tn,su,rfl,aP.v uy (aP.of ji.at'),Hb.v rn⟩,?_,?_,fun H' Q' sV d' kq=>?_,fun H' Q' sV d' kq=>?_⟩
       · have ha:b≠a:=fun z=>hb (by rw[z];simp)
         have Ho:b≠lm:=fun z=>hb (by rw[z];simp);have hle:b≠le:=fun z=>hb (by rw[z];simp);rw[aK ha];exact ji.same _ _ (by rw[aK hle];exact uN _ _ (by rw[aK Ho];exact uO _ _ eb))
       · rw[aK Jh.symm]
         exact ji.same _ _ (by rw[aK yb];exact uN _ _ ba)
       · rw[aK SD.symm]
         exact ji.same _ _ ba
       ·exact AQ d' ((U1.v rn).v sV) ((T6.v rn).v sV) ((U2.v rn).v sV) ((xy.v Wa).v sV) B1 tB B2 pB kq
       ·exact AQ d' ((U3.v rn).v sV) ((T6.v rn).v sV) ((U4.v rn).v sV) ((xx.v Wg).v sV) B3 tB B4 G1 kq
   · rintro Z H7 ⟨pK,w8,w9,kx,nV,um,ue,rfl,bt,e7,o8,dm7,de7,km,ke⟩
     refine⟨_,rfl,?_⟩;dsimp only[mx];refine ke H7 _ .refl de7 fun pe Af=>?_;refine⟨_,rfl,a,dx,_,rfl,e7,by show 9<1000;decide,?_⟩;have v8:bR H7 (L2.upd H7 a (.ins C dx (gR (.ref ma) bv (.int S.dn) (.ref q) pe (.int S.ay) (.str S.side) (.str S.mark) pK))):=.upd e7 trivial;refine⟨_,rfl,?_⟩;dsimp only[mx];refine km _ _ v8 (by rw[aK Jh.symm];exact dm7) fun v rv=>?_;have bH:bw [a] H (L2.upd H7 a (.ins C dx (gR (.ref ma) bv (.int S.dn) (.ref q) pe (.int S.ay) (.str S.side) (.str S.mark) pK))):=fun b o' eb hb=>by
      have ha:b≠a:=fun z=>hb (by rw[z];simp);rw[aK ha];refine bt b o' (jY _ _ eb) fun hm=>?_;simp only[bI,cC,dv]at hm;rcases hm with h|h|h
      ·exact ha h
      ·rw[h,Av]at eb;cases eb
      ·rw[h,xS]at eb;cases eb
     have vH:bR H (L2.upd H7 a (.ins C dx (gR (.ref ma) bv (.int S.dn) (.ref q) pe (.int S.ay) (.str S.side) (.str S.mark) pK))):=bH.v fun x hx o' eo=>by rw[cm]at hx;rw[hx,e]at eo;cases eo;trivial
     refine k v _ rv ⟨⟨dx,.ref ma,bv,pe,pK,ba,RD.v vH _ (ki _ _ _ _ _) r1,RD.v vH _ (jD _) r2,Af.v v8,o8.v v8⟩,ys,bH _ _ eq (by rw[cm];exact aq.symm),aI.v vH _ ok.row.no rq⟩ bH
end
end Lw
set_option maxHeartbeats 2000000
namespace Lw
open PySem PySem.Spec PyProof.Rows L2 Rt Ln Cn Pn Wk Rn
open Ow (topR cornO mnO betR atO ownF leadF ownL OkI OkIs)
section
variable {w:World}{mg:Str->Option Value}{base:Heap}
noncomputable def fu(M:bN)(S:bj):Rat:=Nq M.f M.j S.ay S.os
noncomputable def Gz(M:bN)(S:bj)(ns:List Int)(sp:Int):Rat:=lG M.r M.f S.pc (topR S.ay sp) (fu M S) ((aF ns:Int)-S.dn) S.aU
noncomputable def mM(M:bN)(S:bj)(ns:List Int)(sp:Int):ai:=nZ M.t (gQ ns S.dn) (Gz M S ns sp)
noncomputable def fz(M:bN)(S:bj)(ns:List Int)(sp:Int):bj:={Gb M S (topR S.ay sp) (fu M S) ((aF ns:Int)-S.dn)with dn:=S.dn+1}
def fy(ns:List Int)(S:bj):bj:=if S.dn=aF ns then iO S else S
def cf(d:ai)(S:bj):bj:=match d with | .tuple [.str w,.str s]=>if w="tool" then{S with side:=s}else if w="mark" then{S with mark:=s}else S |_=>S
inductive One(M:bN):bj->ai->bj->Prop |line {S:bj}{ns:List Int}{sp:Int}:S.os[0]? =some (some (ns,sp))->¬Halt S.pc S.aU->One M S (mM M S ns sp) (fy ns (fz M S ns sp)) |gY {S:bj}{d:ai}:S.os[0]? =some none->S.ds[0]? =some d->¬Halt S.pc S.aU->One M S d (iO (cf d S))
inductive Run(M:bN):bj->List ai->bj->Prop |nil (S:bj):Run M S [] S |cons {S S1 S2:bj}{e:ai}{es:List ai}:One M S e S1->Run M S1 es S2->Run M S (e::es) S2
theorem Run.trans{M:bN}{S S1 S2:bj}{es fs:List ai}(h:Run M S es S1)(g:Run M S1 fs S2):Run M S (es++fs) S2:=by induction h with |nil=>exact g |cons o _ ih=>exact .cons o (ih g)
theorem Run.snoc{M:bN}{S S1 S2:bj}{es:List ai}{e:ai}(h:Run M S es S1)(g:One M S1 e S2):Run M S (es++[e]) S2:=h.trans (.cons g (.nil _))
theorem DG{M:bN}{D:Nat}{S:bj}(h:kl M D S)(d:ai):kl M D (cf d S)/\(cf d S).os=S.os/\(cf d S).ds=S.ds/\(cf d S).dn=S.dn/\(cf d S).pl=S.pl:=by
 unfold cf;split
 · split
   ·exact⟨⟨h.row,h.rw,h.len,h.dk,h.dF,h.pl,h.pd,h.pm,h.aU,h.D1,h.D2⟩,rfl,rfl,rfl,rfl⟩
   · split
     ·exact⟨⟨h.row,h.rw,h.len,h.dk,h.dF,h.pl,h.pd,h.pm,h.aU,h.D1,h.D2⟩,rfl,rfl,rfl,rfl⟩
     ·exact⟨h,rfl,rfl,rfl,rfl⟩
 ·exact⟨h,rfl,rfl,rfl,rfl⟩
theorem FG{M:bN}{D:Nat}{S:bj}(h:kl M D S)(aM:M.Ok)(hn:S.os≠[]):Dd 64 (fu M S)/\fu M S<=1600:=by
 have h1:1<=S.os.length:=by cases e:S.os with|nil=>exact(hn e).elim|cons _ _=>simp
 refine⟨a7f (by have:=aM.f1;lia) (fun i _=>a0m aM.j1.1 aM.j1.2 h.dk h.dF h.row.vc i) 1 h1,?_⟩;exact dU (a7e h1) (a0l h.dk h.dF h.row.vc 1)
theorem OW{M:bN}{D:Nat}{S:bj}{ns:List Int}{sp:Int}(h:kl M D S)(aM:M.Ok)(eo:S.os[0]? =some (some (ns,sp)))(hd:S.dn<aF ns)(nh:¬Halt S.pc S.aU):kl M D (fz M S ns sp):=by
 have hn:S.os≠[]:=fun e=>by rw[e]at eo;simp at eo
 obtain⟨R1,R2⟩:=FG h aM hn;obtain⟨eG,s1,s2⟩:=h.row.ok 0 ns sp eo;have D1:=h.D1;have Ai:=aM.r1;have qA:=aM.f1;refine⟨h.row,h.rw,h.len,h.dk,h.dF,h.pl,?_,?_,?_,h.D1,h.D2⟩
 ·exact a8y (by lia) (by lia) (by lia) h.pd ((CZ _ _).mono (by lia)) (R1.mono (by lia)) h.aU nh
 ·exact dU a8x (zN s1 s2 h.dk h.dF)
 ·exact Xs h.aU h.pd.nn nh
theorem One.ok{M:bN}{D:Nat}{S S1:bj}{e:ai}(h:cA M D S)(aM:M.Ok)(o:One M S e S1):cA M D S1:=by cases o with
 |@line ns sp eo nh=>
   have hd:S.dn<aF ns:=by
    rcases h.dn with e|⟨xP,xl,e1,e2⟩
    ·rw[e];exact(h.row.ok 0 ns sp eo).1.lead.1
    ·rw[eo]at e1;cases e1;exact e2
   have raw:=OW h.raw aM eo hd nh;have hn:S.os≠[]:=fun e=>by rw[e]at eo;simp at eo
   unfold fy;split
   ·exact raw.end hn
   ·next dy=>
     refine raw.ok (.inr ⟨ns,sp,eo,?_⟩);have:(fz M S ns sp).dn=S.dn+1:=rfl
     lia |gY eo ed nh=>obtain⟨h1,h2,_⟩:=DG h.raw e;refine h1.end ?_;rw[h2];intro z;rw[z]at eo;simp at eo
theorem Run.ok{M:bN}{D:Nat}{S S1:bj}{es:List ai}(h:cA M D S)(aM:M.Ok)(r:Run M S es S1):cA M D S1:=by induction r with |nil=>exact h |cons o _ ih=>exact ih (o.ok h aM)
theorem One.no{M:bN}{D:Nat}{S S1:bj}{e:ai}(h:cA M D S)(o:One M S e S1):fe e=true:=by cases o with |line _ _=>exact Di _ _ _ |gY eo ed _=>exact gZ.mp h.row.no _ (gy ed)
theorem Run.no{M:bN}{D:Nat}{S S1:bj}{es:List ai}(h:cA M D S)(aM:M.Ok)(r:Run M S es S1):cK es=true:=by induction r with |nil=>rfl |cons o _ ih=>rw[cK,eV];exact⟨o.no h,ih (o.ok h aM)⟩
theorem yf{b:Bool}{A B A' B':Prop}(h1:A->A')(h2:B->B'):(if b=true then A else B)->(if b=true then A' else B'):=by
 cases b
 ·exact h2
 ·exact h1
theorem Mf:bh ["self","most","line","lead","rows","top","reach","told","middle"] ["self","most"] (aR Ec):=bG (by decide+kernel)
inductive TY(K:aa)(C:Addr)(vs:List V)(H:Hp)(Q:VK):Prop |mk (a:_)(q:_)(M:_)(D:_)(S:_)(ns:_)(sp:_)(most:_)(h0:vs=[.ref a,.int most])(h1:dh K C H a q M S)(h2:cA M D S)(h3:M.Ok)(h4:S.os[0]? =some (some (ns,sp)))(h5:¬Halt S.pc S.aU)(h6:1<=most)(h7:most<=1000)(h8:∀l ys es S' q' H',H l=none->H' l=some (.lst ys)->aI K H' ys es->Run M S es S'->1<=es.length->(es.length:Int)<=most->dh K C H' a q' M S'->Mv a q H q' H'->l≠q'->Q (.ref l) H'):TY K C vs H Q
def Lk(K:aa)(C:Addr):Sp:=fun vs H Q _=>TY K C vs H Q
theorem a19{C:Addr}(F:MA K C "steps_of_first" "Runner.steps_of_first" Ec)(TC:gu K C)(B:bL mg)(oJ:aD P w K mg base "lead_of" 1 (lg K))(a4C:aD P w K mg base "step_rows" 3 (Dn K))(AZ:aD P w K mg base "top_square" 4 (zW K))(a4H:aD P w K mg base "reach_behind_first" 9 (Dp K))(a4D:aD P w K mg base "step_entry" 3 (Dy K))(HP:cX P w K mg base C "is_halted" 2 (fq K C fun _ S H Q=>Q (.bl (S.aU.isSome&&decide (S.pc=0))) H))(a6k:cX P w K mg base C "next_square" 5 (Ll K C))(HQ:cX P w K mg base C "end_first" 3 (Dr K C)):cX P w K mg base C "steps_of_first" 10 (Lk K C):=by
 refine F.has Mf (fun vs H Q E h=>?_) (fun _ _ _ _ _ _=>du fun _ _=>rfl) (fun f aJ A outer s H vs Q E hr h=>?_)
 · obtain⟨a,q,M,D,S,ns,sp,most,rfl,_⟩:=h
   rfl
 · obtain⟨a,q,M,D,S,ns,sp,most,rfl,R0,ok,aM,eo,nh,m1,m2,k⟩:=h
   obtain⟨dx,mv,bv,cN,tv,e,r1,r2,r3,r4⟩:=R0.ob;obtain⟨ys,eq,rq⟩:=R0.qu;have aq:=R0.ne;have nd:=Mf.nd;have lr:=aM.len;have Ai:=aM.r1;have qA:=aM.f1;have ll:=ok.row.len;have kS:=ok.len;have oK:0<S.os.length:=(dC.mp eo).1;have dy:S.os≠[]:=fun z=>by rw[z]at oK;exact absurd oK (by decide)
   obtain⟨d,ed⟩:∃d,S.ds[0]? =some d:=⟨_,bZ (show 0<S.ds.length by lia)⟩;obtain⟨y,ey,ry⟩:=rq.get 0 ed;have kU:=kj (ok.row.it 0 d _ ed eo);subst kU;obtain⟨eG,gA,gP⟩:=ok.row.ok 0 ns sp eo;have Ao:eu ns.length 1000 ns:=⟨rfl,fun z hz=>by have:=eG.bd z hz;lia,eG.nz⟩;have fk:=eG.lead.1;have P8:=yd eG;have nl3:ns.length<=3:=by rw[eG.len];lia
   have hd0:S.dn<aF ns:=by
    rcases ok.dn with e'|⟨xP,xl,e1,e2⟩
    ·lia
    ·rw[eo]at e1;cases e1;exact e2
   obtain⟨Rd,Rl⟩:=FG ok.raw aM dy;refine⟨_,(aA (pS 2 nd (px K (cS TC.cl TC.kg (pv 0)) az)) (aA (pS 3 nd (pf oJ hr (O (pv 2) aw))) (aA (pS 4 nd (pf a4C hr (O (pv 2) aw))) (aA (pS 5 nd (pf AZ hr (O (pv 2) (O (cS TC.cl TC.Ay (pv 0)) aw)))) (aA (pS 6 nd (pf a4H hr (O (cS TC.cl TC.pY (pv 0)) (O (cS TC.cl TC.kg (pv 0)) (O (cS TC.cl TC.Ay (pv 0)) aw))))) (aA (pS 7 nd (df aw)) (aA (gU (mH gL (PW.pt (oj (bW jF (dQ K B (O (pv 7) aw)) (pv 1) (bo _)) (oj (bW jF (cS TC.cl TC.oA (pv 0)) (pv 3) (bo _)) (rV (fi (cI (iK HP TC.cl (hr.mono (by decide)) (pv 0)))))))) (aA (pS 8 nd (Ak a6k TC.cl (hr.mono (by decide)) (pv 0) (O (pv 5) (O (pv 6) (O (aG fY (pv 3) (cS TC.cl TC.oA (pv 0))) aw))))) (aA (gF (je K rfl (pv 7) (O (pf a4D hr (O (cS TC.cl TC.pY (pv 0)) (O (px K (pv 4) (cS TC.cl TC.oA (pv 0))) (O (pv 8) aw)))) aw))) (aH (ZF TC.cl TC.oA (pv 0) az a44)))))) (aA (gU (bJ (bW (cP K rfl hr.units) (cS TC.cl TC.oA (pv 0)) (pv 3) (bo _)) (aH (gF (iK HQ TC.cl (hr.mono (by decide)) (pv 0)))) bM)) (aH (aQ (pv 7))))))))))),?_⟩;refine⟨_,rfl,a,dx,_,_,rfl,e,rfl,.inl ⟨q,_,0,y,rfl,rfl,aE.of eq,cW (gz 0) ey,?_⟩⟩;refine⟨_,rfl,y,ns,sp,rfl,ry,eG.ne,by lia,fun H1 s1=>?_⟩;refine⟨_,rfl,y,ns,sp,rfl,RD.mono s1 _ ry,Ao,by lia,fun mL yr H2 nlr Rw Nl s2=>?_⟩;have kB:=s1.trans s2;refine⟨_,rfl,_,rfl,a,dx,_,_,rfl,kB _ _ e,rfl,y,ns,sp,S.ay,rfl,RD.mono kB _ ry,gA,gP,ok.dk,ok.dF,fun rB H3 Yr s3=>?_⟩;have cY:=kB.trans s3;have e3:=cY _ _ e;refine⟨_,rfl,a,dx,_,_,rfl,e3,rfl,_,rfl,a,dx,_,_,rfl,e3,rfl,_,rfl,a,dx,_,_,rfl,e3,rfl,mv,.ref q,S.ay,M.rs,M.r,M.f,M.j,M.t,S.ds,S.os,rfl,RD.mono cY _ r1,aM,lB (aE.of (cY _ _ eq)) (aI.mono cY _ rq),ok.row,by lia,by lia,ok.dk,ok.dF,fun rS H4 YA s4=>?_⟩;have fV:=cY.trans s4;refine⟨bP rfl,fun l H5 n5=>?_⟩;have uP:=fV.trans n5.same;have rL:aB H2 H5:=s3.trans (s4.trans n5.same);have nl:H l=none:=by cases e':H l with |none=>rfl |some o=>have:=fV _ _ e';rw[n5.no]at this;cases this
   have Oq:H mL=none:=by cases e':H mL with |none=>rfl |some o=>have:=s1 _ _ e';rw[nlr]at this;cases this
   have al:a≠l:=fun z=>by rw[<-z,e]at nl;cases nl
   have ql:q≠l:=fun z=>by rw[<-z,eq]at nl;cases nl
   have Sy:a≠mL:=fun z=>by rw[<-z,e]at Oq;cases Oq
   have llr:l≠mL:=fun z=>by have:=n5.no;rw[z,(s3.trans s4) _ _ Rw]at this;cases this
   have VZ:=Nl.length;rw[Fw]at VZ;have td:=CZ S.ay sp;have tl:=zN gA gP ok.dk ok.dF;have tp:=Km gA ok.dk;have a2e:fy ns S=S:=by unfold fy;rw[aZ (by lia)]
   have kR:sizeLine=16777216:=by decide
   refine⟨fun Z H6=>∃T es us w8,Z=[some (.ref a),some (.int most),some y,some (.int (aF ns)),some (.ref mL),some rB,some rS,some (.ref l),w8]/\bw [a,l] H5 H6/\dh K C H6 a q M T/\kl M D T/\T.os=S.os/\T.ds=S.ds/\T.ay=S.ay/\T.dn<=aF ns/\1<=es.length/\(es.length:Int)<=most/\H6 l=some (.lst us)/\aI K H6 us es/\cK es=true/\Run M S es (fy ns T),?_,?_⟩
   · refine mm (fun Z H6=>∃T es us w8,Z=[some (.ref a),some (.int most),some y,some (.int (aF ns)),some (.ref mL),some rB,some rS,some (.ref l),w8]/\bw [a,l] H5 H6/\dh K C H6 a q M T/\kl M D T/\T.os=S.os/\T.ds=S.ds/\T.ay=S.ay/\T.dn=S.dn+es.length/\T.dn<=aF ns/\(es.length:Int)<=most/\H6 l=some (.lst us)/\aI K H6 us es/\cK es=true/\Run M S es (fy ns T)/\(es=[]->¬Halt T.pc T.aU)) (fun _ H6=>match H6 l with|some (.lst us)=>2000-us.length|_=>0) ?_ ?_ ?_
     ·exact⟨S,[],[],none,rfl,bw.refl _ _,R0.same ok.row.no uP,ok.raw,rfl,rfl,rfl,rfl,by lia,by simp;lia,n5.at',cL,rfl,by rw[a2e];exact .nil _,fun _=>nh⟩
     · rintro Z H6 ⟨T,es,us,w8,rfl,bt,RT,raw,hZ,BM,vZ,edn,PY,kO,dl,rd,kM,run,hnh⟩
       have lu:=rd.length;obtain⟨tS,lH,bv6,a0d,Wv,e6,t1,t2,t3,t4⟩:=RT.ob;have CS:bR H5 H6:=bt.v fun x hx o' cQ=>by
        simp only[bI,cC,dv]at hx;rcases hx with rfl|rfl
        ·rw[uP _ _ e]at cQ;cases cQ;trivial
        ·rw[n5.at']at cQ;cases cQ;trivial
       have nos:cK T.ds=true:=by rw[BM];exact ok.row.no
       have qC:1<=es.length->∃T' oY jB zG,[some (.ref a),some (.int most),some y,some (.int (aF ns)),some (.ref mL),some rB,some rS,some (.ref l),w8]=[some (.ref a),some (.int most),some y,some (.int (aF ns)),some (.ref mL),some rB,some rS,some (.ref l),zG]/\bw [a,l] H5 H6/\dh K C H6 a q M T'/\kl M D T'/\T'.os=S.os/\T'.ds=S.ds/\T'.ay=S.ay/\T'.dn<=aF ns/\1<=oY.length/\(oY.length:Int)<=most/\H6 l=some (.lst jB)/\aI K H6 jB oY/\cK oY=true/\Run M S oY (fy ns T'):=fun h1=>⟨T,es,us,w8,rfl,bt,RT,raw,hZ,BM,vZ,PY,h1,kO,dl,rd,kM,run⟩;refine⟨_,rfl,l,us,rfl,.inl (aE.of dl),_,rfl,_,_,rfl,rfl,_,rfl,?_⟩;show if decide ((us.length:Int)<most)=true then _ else _;by_cases c1:(us.length:Int)<most
       · rw[cB c1]
         refine bT ?_;refine⟨_,rfl,a,tS,_,_,rfl,e6,rfl,_,rfl,_,_,rfl,rfl,_,rfl,?_⟩;show if decide ((T.dn:Int)<(aF ns:Int))=true then _ else _;by_cases c2:T.dn<aF ns
         · rw[cB (by lia)]
           refine bT ?_;have Ob:cA M D T:=raw.ok (.inr ⟨ns,sp,by rw[hZ];exact eo,c2⟩);have a2d:fy ns T=T:=by unfold fy;rw[aZ (by lia)]
           refine⟨_,rfl,a,tS,_,rfl,e6,rfl,a,q,M,D,T,rfl,RT,Ob,aM,_,rfl,?_⟩;by_cases c3:Halt T.pc T.aU
           · have hb:(T.aU.isSome&&decide (T.pc=0))=true:=by obtain⟨h1,h2⟩:=c3;rw[cB h2,K0];cases hs:T.aU with |none=>exact(h1 hs).elim |some _=>rfl
             rw[hb];refine bB ?_;refine qC ?_;cases es with |nil=>exact(hnh rfl c3).elim |cons _ _=>simp
           · have hb:(T.aU.isSome&&decide (T.pc=0))=false:=by cases hs:T.aU with |none=>rfl |some _=>show decide (T.pc=0)=false;exact eQ fun h2=>c3 ⟨by rw[hs];simp,h2⟩
             rw[hb];refine bT ?_;have rT:fu M T=fu M S:=by unfold fu;rw[hZ,vZ]
             refine⟨_,rfl,a,tS,_,rfl,e6,rfl,?_⟩;refine⟨_,rfl,_,rfl,_,rfl,_,rfl,a,tS,_,_,rfl,e6,rfl,_,_,rfl,rfl,?_⟩;have Yq:bc K H6 rB (topR S.ay sp):=((Yr.go s4).go n5.same).v CS;have Yz:bc K H6 rS (fu M S):=(YA.go n5.same).v CS;refine⟨a,q,M,D,T,rB,rS,topR S.ay sp,fu M S,_,rfl,RT,Ob,aM,Yq,td,tl,Yz,Rd,Rl,by lia,by lia,c3,fun mid H7 YI R7 b7=>?_⟩;obtain⟨qD,sN,BW,Al,zL,e7',Kz,Xf,Xe,Xd⟩:=R7.ob;have e7:H7 a=some (.ins C qD (gR sN BW (.int T.dn) (.ref q) Al (.int T.ay) (.str T.side) (.str T.mark) zL)):=e7';have zJ:bR H6 H7:=b7.v fun x hx o' cQ=>by rw[cm]at hx;rw[hx,e6]at cQ;cases cQ;trivial
             have nc:=b7 _ _ dl (by rw[cm];exact al.symm);have a8U:=rL _ _ Rw;have a8T:=bt _ _ a8U (by simp;exact⟨Sy.symm,llr.symm⟩);have a8S:=b7 _ _ a8T (by rw[cm];exact Sy.symm);have YK:aI K H7 yr (oh ns):=aI.v zJ _ (Fv ns) (aI.v CS _ (Fv ns) (aI.mono rL _ Nl));obtain⟨rv,QP⟩:∃rv,yr[T.dn]? =some rv:=⟨_,bZ (show T.dn<yr.length by lia)⟩;obtain⟨dr,Rg,YY⟩:=YK.get' T.dn QP;rw[Ni c2]at Rg;cases Rg;have mB:Bd 2000 (lG M.r M.f T.pc (topR S.ay sp) (fu M S) ((aF ns:Int)-T.dn) T.aU):=by have D1:=raw.D1;have D2:=raw.D2;exact((OK (by lia) (by lia) (by lia) raw.pd (td.mono (by lia)) (Rd.mono (by lia)) raw.aU c3).bd (dU OI (dU tl (by decide+kernel)))).mono (by lia)
             have mP:0<lG M.r M.f T.pc (topR S.ay sp) (fu M S) ((aF ns:Int)-T.dn) T.aU:=OJ Ai.1 qA.1 (by lia) raw.pd.nn tp Rd.nn raw.aU c3;refine⟨_,rfl,.inl ⟨rfl,_,aE.of nc⟩,?_⟩;refine⟨_,rfl,a,qD,_,_,rfl,e7,rfl,?_⟩;refine⟨_,rfl,_,rfl,a,qD,_,_,rfl,e7,rfl,.inl ⟨mL,_,_,_,rfl,rfl,aE.of a8S,cW (show(0:Int)<=(T.dn:Int) by lia) (by simpa using QP),?_⟩⟩;refine⟨_,rfl,sN,rv,mid,M.rs,M.r,M.f,M.j,M.t,gQ ns T.dn,_,rfl,Kz,aM,YY,YI,mB,mP,fun ent H8 YU s8=>?_⟩;have md:=s8 _ _ nc;refine⟨l,us,_,rfl,rfl,md,by lia,?_⟩;have e8:(L2.upd H8 l (.lst (us++[ent]))) a=some (.ins C qD (gR sN BW (.int T.dn) (.ref q) Al (.int T.ay) (.str T.side) (.str T.mark) zL)):=by rw[aK al];exact s8 _ _ e7
             refine⟨_,rfl,a,qD,_,_,rfl,e8,rfl,_,_,rfl,rfl,qD,_,e8,by show 9<1000;decide,?_⟩;have vl:bR H8 (L2.upd H8 l (.lst (us++[ent]))):=.upd md trivial;have va:bR (L2.upd H8 l (.lst (us++[ent]))) (L2.upd (L2.upd H8 l (.lst (us++[ent]))) a (.ins C qD (gR sN BW (.int ((T.dn:Int)+1)) (.ref q) Al (.int T.ay) (.str T.side) (.str T.mark) zL))):=.upd e8 trivial;have v7:=(s8.v.trans vl).trans va;have eS:fz M T ns sp={Gb M T (topR S.ay sp) (fu M S) ((aF ns:Int)-T.dn)with dn:=T.dn+1}:=by unfold fz;rw[rT,vZ]
             have eE:mM M T ns sp=nZ M.t (gQ ns T.dn) (lG M.r M.f T.pc (topR S.ay sp) (fu M S) ((aF ns:Int)-T.dn) T.aU):=by unfold mM Gz;rw[rT,vZ]
             have a4Q:One M T (mM M T ns sp) (fy ns (fz M T ns sp)):=.line (by rw[hZ];exact eo) c3;obtain⟨yq,eq7,YB⟩:=R7.qu;have Gg:cK (es++[mM M T ns sp])=true:=gZ.mpr fun d hd=>by
              rcases uo.mp hd with h|h
              ·exact gZ.mp kM d h
              ·rw[cm]at h;rw[h];exact Di _ _ _
             have q7l:q≠l:=ql;refine⟨⟨fz M T ns sp,es++[mM M T ns sp],us++[ent],_,rfl,fun b o' eb hb=>?_,?_,OW raw aM (by rw[hZ];exact eo) c2 c3,hZ,BM,vZ,?_,?_,?_,?_,?_,?_,?_,fun z=>by simp at z⟩,?_⟩
             · have ha:b≠a:=fun z=>hb (by rw[z];simp)
               have dM:b≠l:=fun z=>hb (by rw[z];simp);rw[aK ha,aK dM];exact s8 _ _ (b7 _ _ (bt _ _ eb hb) (by rw[cm];exact ha))
             · rw[eS]
               refine⟨⟨qD,sN,BW,Al,zL,?_,RD.v v7 _ (ki _ _ _ _ _) Kz,RD.v v7 _ (jD _) Xf,Xe.v v7,Xd.v v7⟩,yq,?_,aI.v v7 _ nos YB⟩
               ·exact ba
               ·rw[aK aq.symm,aK ql];exact s8 _ _ eq7
             · show T.dn+1=_
               rw[fo];show _=_+(_+1);lia
             · show T.dn+1<=_
               lia
             ·rw[fo];show((es.length+1:Nat):Int)<=most;lia
             ·rw[aK al.symm,ba]
             · refine aI.v va _ Gg (aI.v vl _ Gg ?_)
               have r7:aI K H8 us es:=aI.mono s8 _ (aI.v zJ _ kM rd);refine r7.append (bQ ?_ cL);rw[eE];exact YU
             ·exact Gg
             · rw[a2d]at run
               exact run.snoc a4Q
             · show(match(L2.upd (L2.upd H8 l (.lst (us++[ent]))) a _) l with|some (.lst us)=>2000-us.length|_=>0)<(match H6 l with|some (.lst us)=>2000-us.length|_=>0)
               rw[aK al.symm,ba,dl];show 2000-(us++[ent]).length<2000-us.length;rw[fo];show 2000-(us.length+1)<_
               lia
         · rw[eQ (by lia)]
           refine bB ?_;exact qC (by lia)
       · rw[eQ c1]
         refine bB ?_;exact qC (by lia)
     · rintro Z H6 Q1 Q2 hq ⟨v1,f1,l',jB,f2,f3,v2,f4,i1,i2,f5,f6,b1,f7,h⟩
       refine⟨v1,f1,l',jB,f2,f3,v2,f4,i1,i2,f5,f6,b1,f7,yf ?_ (hq _ _) h⟩;rintro⟨v3,f8,a',tV,fs',u',f9,yJ,yI,v4,IB,i3,i4,IA,Iz,b2,yH,h⟩;refine⟨v3,f8,a',tV,fs',u',f9,yJ,yI,v4,IB,i3,i4,IA,Iz,b2,yH,yf ?_ (hq _ _) h⟩;rintro⟨v5,Iy,a2,tT,Ib,Iw,Iv,Iu,a3,q3,M3,D3,S3,Ir,Iq,Ip,Io,b3,Im,h⟩;exact⟨v5,Iy,a2,tT,Ib,Iw,Iv,Iu,a3,q3,M3,D3,S3,Ir,Iq,Ip,Io,b3,Im,hq _ _ h⟩
   · rintro Z H6 ⟨T,es,us,w8,rfl,bt,RT,raw,hZ,BM,vZ,PY,h1,kO,dl,rd,kM,run⟩
     obtain⟨tS,lH,bv6,a0d,Wv,e6,t1,t2,t3,t4⟩:=RT.ob;have a4Z:T.os≠[]:=by rw[hZ];exact dy
     have bH:∀{H7:Hp},bw [a] H6 H7->bw [a,q] H H7:=fun{H7} b7 b o' eb hb=>by
      have ha:b≠a:=fun z=>hb (by rw[z];simp);refine b7 _ _ (bt _ _ (uP _ _ eb) fun hm=>?_) (by rw[cm];exact ha);simp only[bI,cC,dv]at hm;rcases hm with h|h
      ·exact ha h
      ·rw[h,nl]at eb;cases eb
     refine⟨fun Z H7=>∃q' zG,Z=[some (.ref a),some (.int most),some y,some (.int (aF ns)),some (.ref mL),some rB,some rS,some (.ref l),zG]/\dh K C H7 a q' M (fy ns T)/\Mv a q H q' H7/\l≠q'/\∃jB,H7 l=some (.lst jB)/\aI K H7 jB es,?_,?_⟩
     · refine⟨_,rfl,a,tS,_,_,rfl,e6,rfl,_,rfl,.inl ⟨_,_,rfl,rfl,_,rfl,?_⟩⟩
       show if decide ((T.dn:Int)=(aF ns:Int))=true then _ else _;by_cases c:T.dn=aF ns
       · rw[cB (by lia)]
         refine bT ?_;refine⟨_,rfl,a,tS,_,rfl,e6,rfl,a,q,M,D,T,rfl,RT,raw,aM,a4Z,fun q' H7 R7 nq b7=>?_⟩;have zJ:bR H6 H7:=b7.v fun x hx o' cQ=>by rw[cm]at hx;rw[hx,e6]at cQ;cases cQ;trivial
         refine⟨q',_,rfl,by unfold fy;rw[aY c];exact R7,⟨bH b7,.inr ?_⟩,fun z=>?_,us,b7 _ _ dl (by rw[cm];exact al.symm),aI.v zJ _ kM rd⟩
         ·cases e':H q' with |none=>rfl |some o'=>
             have h5:=uP _ _ e';by_cases ha:q'=a
             ·rw[ha,e6]at nq;cases nq
             · by_cases dM:q'=l
               ·rw[dM,nl]at e';cases e'
               · have:=bt _ _ h5 (by simp;exact⟨ha,dM⟩)
                 rw[nq]at this;cases this
         ·rw[<-z,dl]at nq;cases nq
       · rw[eQ (by lia)]
         refine bB ?_;exact⟨q,_,rfl,by unfold fy;rw[aZ c];exact RT,⟨bH (bw.refl _ _),.inl rfl⟩,ql.symm,us,dl,rd⟩
     · rintro Z H7 ⟨q',zG,rfl,R7,sN,lq,jB,nc,Ag⟩
       exact⟨_,rfl,k l jB es (fy ns T) q' H7 nl nc Ag run h1 kO R7 sN lq⟩
theorem Mv.trans{a q q1 q2:Addr}{H H1 H2:Hp}(m1:Mv a q H q1 H1)(m2:Mv a q1 H1 q2 H2)(ha:H1 a≠none):Mv a q H q2 H2:=by
 refine⟨fun b o e hb=>?_,?_⟩
 · refine m2.but _ _ (m1.but _ _ e hb) fun hm=>?_
   simp only[bI,cC,dv]at hm hb;rcases hm with h|h
   ·exact hb (.inl h)
   · rcases m1.nq with h1|h1
     ·exact hb (.inr (h.trans h1))
     ·rw[<-h]at h1;rw[h1]at e;cases e
 · rcases m2.nq with h|h
   ·rw[h];exact m1.nq
   ·cases e:H q2 with |none=>exact .inr rfl |some o=>
       by_cases h1:q2=q
       ·exact .inl h1
       · by_cases h2:q2=a
         ·rw[h2]at h;exact(ha h).elim
         · have:=m1.but _ _ e (by simp;exact⟨h2,h1⟩)
           rw[h]at this;cases this
inductive U6(K:aa)(C:Addr)(vs:List V)(H:Hp)(Q:VK):Prop |mk (a:_)(q:_)(M:_)(D:_)(S:_)(most:_)(h0:vs=[.ref a,.int most])(h1:dh K C H a q M S)(h2:cA M D S)(h3:M.Ok)(h4:S.os≠[])(h5:¬Halt S.pc S.aU)(h6:1<=most)(h7:most<=1000)(h8:∀l ys es S' q' H',H l=none->H' l=some (.lst ys)->aI K H' ys es->Run M S es S'->1<=es.length->(es.length:Int)<=most->dh K C H' a q' M S'->Mv a q H q' H'->l≠q'->Q (.ref l) H'):U6 K C vs H Q
def Lo(K:aa)(C:Addr):Sp:=fun vs H Q _=>U6 K C vs H Q
theorem Mj:bh ["self","most","item"] ["self","most"] (aR En):=bG (by decide+kernel)
theorem a1l{C:Addr}(F:MA K C "entries_of_first" "Runner.entries_of_first" En)(TC:gu K C)(qj:aD P w K mg base "is_line" 1 (uJ K))(a6g:cX P w K mg base C "steps_of_first" 10 (Lk K C))(HQ:cX P w K mg base C "end_first" 3 (Dr K C)):cX P w K mg base C "entries_of_first" 11 (Lo K C):=by
 refine F.has Mj (fun vs H Q E h=>?_) (fun _ _ _ _ _ _=>du fun _ _=>rfl) (fun f aJ A outer s H vs Q E hr h=>?_)
 · obtain⟨a,q,M,D,S,most,rfl,_⟩:=h
   rfl
 · obtain⟨a,q,M,D,S,most,rfl,R0,ok,aM,dy,nh,m1,m2,k⟩:=h
   obtain⟨dx,mv,bv,cN,tv,e,r1,r2,r3,r4⟩:=R0.ob;obtain⟨ys,eq,rq⟩:=R0.qu;have aq:=R0.ne;have nd:=Mj.nd;have ll:=ok.row.len;have oK:0<S.os.length:=by cases h:S.os with|nil=>exact(dy h).elim|cons _ _=>simp
   obtain⟨d,ed⟩:∃d,S.ds[0]? =some d:=⟨_,bZ (show 0<S.ds.length by lia)⟩;obtain⟨y,ey,ry⟩:=rq.get 0 ed;obtain⟨o,eo,it⟩:=ok.row.get ed;refine⟨_,(aA (pS 2 nd (px K (cS TC.cl TC.kg (pv 0)) az)) (aA (bJ (cI (pf qj hr (O (pv 2) aw))) (aH (aQ (Ak a6g TC.cl (hr.mono (by decide)) (pv 0) (O (pv 1) aw)))) bM) (aA (gU (bJ (bW (cP K rfl hr.units) (px K (pv 2) az) aX (bo _)) (aH (jd TC.cl TC.Gm (pv 0) (px K (pv 2) az))) bM)) (aA (gU (bJ (bW (cP K rfl hr.units) (px K (pv 2) az) aX (bo _)) (aH (jd TC.cl TC.Gn (pv 0) (px K (pv 2) az))) bM)) (aA (gF (iK HQ TC.cl (hr.mono (by decide)) (pv 0))) (aH (aQ (df (O (pv 2) aw))))))))),?_⟩;refine⟨_,rfl,a,dx,_,_,rfl,e,rfl,.inl ⟨q,_,0,y,rfl,rfl,aE.of eq,cW (gz 0) ey,?_⟩⟩;refine⟨_,rfl,y,d,o,rfl,ry,it,_,rfl,?_⟩;cases o with |some z=>obtain⟨ns,sp⟩:=z;refine bT ?_;exact⟨_,rfl,a,dx,_,rfl,e,rfl,_,rfl,a,q,M,D,S,ns,sp,most,rfl,R0,ok,aM,eo,nh,m1,m2,k⟩ |none=>
     refine bB ?_;have gY:=ok.rw 0 d eo ed;have wd:∃z u ya yr,d= .tuple [.str z,u]/\y= .ref ya/\aP K H ya (.str z::[yr])/\RD K H yr u/\SeqAt.shaped (.str z)=true:=by
      rcases gY with⟨n,rfl,_⟩|⟨w',s',rfl,hw,_⟩
      · obtain⟨ya,xs,rfl,h1,h2⟩:=ry.dZ
        obtain⟨x1,rr,rfl,e1,h2⟩:=h2.cons_inv;obtain⟨x2,rr,rfl,e2,h2⟩:=h2.cons_inv;cases h2.nil_inv;cases e1.str_inv;exact⟨_,_,ya,x2,rfl,rfl,h1,e2,by decide+kernel⟩
      · obtain⟨ya,xs,rfl,h1,h2⟩:=ry.dZ
        obtain⟨x1,rr,rfl,e1,h2⟩:=h2.cons_inv;obtain⟨x2,rr,rfl,e2,h2⟩:=h2.cons_inv;cases h2.nil_inv;cases e1.str_inv;exact⟨_,_,ya,x2,rfl,rfl,h1,e2,by rcases hw with rfl|rfl<;>decide+kernel⟩
     obtain⟨z,u,ya,yr,rfl,rfl,yh,Nd,sz⟩:=wd;have tU:SeqAt.shaped (.str "tool")=true:=by decide+kernel
     have tM:SeqAt.shaped (.str "mark")=true:=by decide+kernel
     have eqT:∀(x y:Str),PyData.eqv (.str x) (.str y)=decide (x=y):=fun x y=>by show(x==y)=decide (x=y);rw[nU];simp
     refine⟨fun Z H1=>Z=[some (.ref a),some (.int most),some (.ref ya)]/\bw [a] H H1/\H1 a=some (.ins C dx (gR mv bv (.int S.dn) (.ref q) cN (.int S.ay) (.str (if z="tool" then(cf (.tuple [.str z,u]) S).side else S.side)) (.str S.mark) tv)),?_,?_⟩
     · refine⟨_,rfl,.inr ⟨ya,_,0,.str z,rfl,rfl,yh,cW (gz 0) rfl,.inr ⟨_,_,cM _,cM _,sz,tU,_,rfl,?_⟩⟩⟩
       rw[eqT];by_cases c:z="tool"
       · rw[cB c]
         refine bT ?_;have hu:∃s',u= .str s':=by
          rcases gY with⟨n,h,_⟩|⟨w',s',h,hw,_⟩
          ·cases h;exact absurd c (by decide+kernel)
          ·cases h;exact⟨_,rfl⟩
         obtain⟨s',rfl⟩:=hu;cases Nd.str_inv;refine⟨_,rfl,.inr ⟨ya,_,1,.str s',rfl,rfl,yh,cW (by decide) rfl,_,rfl,a,dx,_,rfl,e,by show 9<1000;decide,?_⟩⟩;refine⟨rfl,wq (by simp),?_⟩;rw[aY c];have es:(cf (.tuple [.str z,.str s']) S).side=s':=by unfold cf;simp only[aY c]
         rw[es];exact ba
       · rw[eQ c]
         refine bB ⟨rfl,bw.refl _ _,?_⟩;rw[aZ c];exact e
     rintro Z H1 ⟨rfl,b1,e1⟩;have Wi:bR H H1:=b1.v fun x hx o' cQ=>by rw[cm]at hx;rw[hx,e]at cQ;cases cQ;trivial
     have Px:=aP.v Wi yh;refine⟨fun Z H2=>Z=[some (.ref a),some (.int most),some (.ref ya)]/\bw [a] H H2/\H2 a=some (.ins C dx (gR mv bv (.int S.dn) (.ref q) cN (.int S.ay) (.str (cf (.tuple [.str z,u]) S).side) (.str (cf (.tuple [.str z,u]) S).mark) tv)),?_,?_⟩
     · refine⟨_,rfl,.inr ⟨ya,_,0,.str z,rfl,rfl,Px,cW (gz 0) rfl,.inr ⟨_,_,cM _,cM _,sz,tM,_,rfl,?_⟩⟩⟩
       rw[eqT];by_cases c:z="mark"
       · rw[cB c]
         refine bT ?_;have nt:¬z="tool":=by rw[c];decide+kernel
         rw[aZ nt]at e1;have hu:∃s',u= .str s':=by
          rcases gY with⟨n,h,_⟩|⟨w',s',h,hw,_⟩
          ·cases h;exact absurd c (by decide+kernel)
          ·cases h;exact⟨_,rfl⟩
         obtain⟨s',rfl⟩:=hu;cases Nd.str_inv;refine⟨_,rfl,.inr ⟨ya,_,1,.str s',rfl,rfl,Px,cW (by decide) rfl,_,rfl,a,dx,_,rfl,e1,by show 9<1000;decide,?_⟩⟩;refine⟨rfl,b1.trans (wq (by simp)),?_⟩;have es:(cf (.tuple [.str z,.str s']) S).side=S.side/\(cf (.tuple [.str z,.str s']) S).mark=s':=by constructor<;>(unfold cf;simp only[aZ nt,aY c])
         rw[es.1,es.2];exact ba
       · rw[eQ c]
         refine bB ⟨rfl,b1,?_⟩;have em:(cf (.tuple [.str z,u]) S).mark=S.mark:=by
          unfold cf;split
          · next h => cases h;split
                      ·rfl
                      ·first|rfl|rw[aZ c]
          ·rfl
         have es:(if z="tool" then(cf (.tuple [.str z,u]) S).side else S.side)=(cf (.tuple [.str z,u]) S).side:=by
          by_cases c2:z="tool"
          ·rw[aY c2]
          · rw[aZ c2]
            unfold cf;split
            ·next h=>cases h;first|rfl|rw[aZ c2,aZ c]
            ·rfl
         rw[es]at e1;rw[em];exact e1
     rintro Z H2 ⟨rfl,b2,e2⟩;have wR:bR H H2:=b2.v fun x hx o' cQ=>by rw[cm]at hx;rw[hx,e]at cQ;cases cQ;trivial
     obtain⟨Nv,fH,ds',dn',ZN⟩:=DG ok.raw (.tuple [.str z,u]);have fx:(cf (.tuple [.str z,u]) S).pc=S.pc/\(cf (.tuple [.str z,u]) S).ay=S.ay/\(cf (.tuple [.str z,u]) S).aU=S.aU:=by
      unfold cf;split
      · split
        ·exact⟨rfl,rfl,rfl⟩
        ·split<;>exact⟨rfl,rfl,rfl⟩
      ·exact⟨rfl,rfl,rfl⟩
     have R2:dh K C H2 a q M (cf (.tuple [.str z,u]) S):=by
      refine⟨⟨dx,mv,bv,cN,tv,?_,RD.v wR _ (ki _ _ _ _ _) r1,?_,?_,?_⟩,ys,b2 _ _ eq (by rw[cm];exact aq.symm),?_⟩
      ·rw[dn',fx.2.1];exact e2
      ·rw[ZN];exact RD.v wR _ (jD _) r2
      ·rw[fx.1];exact r3.v wR
      ·rw[fx.2.2];exact r4.v wR
      ·rw[ds'];exact aI.v wR _ ok.row.no rq
     refine⟨_,rfl,a,dx,_,rfl,e2,rfl,a,q,M,D,_,rfl,R2,Nv,aM,by rw[fH];exact dy,fun q' H3 R3 nq b3=>?_⟩;have Jc:=b2.trans b3;have Wh:bR H H3:=Jc.v fun x hx o' cQ=>by rw[cm]at hx;rw[hx,e]at cQ;cases cQ;trivial
     have xQ:H q'=none:=by cases e':H q' with |none=>rfl |some o'=>
        by_cases ha:q'=a
        ·rw[ha,e2]at nq;cases nq
        · have:=b2 _ _ e' (by rw[cm];exact ha)
          rw[nq]at this;cases this
     refine⟨_,rfl,bP rfl,fun l H4 n4=>?_⟩;have nl:H l=none:=by cases e':H l with |none=>rfl |some o'=>
        by_cases ha:l=a
        · obtain⟨dx3,_,_,_,_,e3,_⟩:=R3.ob
          have:=n4.no;rw[ha,e3]at this;cases this
        · have:=Jc _ _ e' (by rw[cm];exact ha)
          rw[n4.no]at this;cases this
     have G8:cA M D (iO (cf (.tuple [.str z,u]) S)):=Nv.end (by rw[fH];exact dy);refine k l [.ref ya] [.tuple [.str z,u]] _ q' H4 nl n4.at' (bQ (RD.v (Wh.trans n4.same.v) _ (gZ.mp ok.row.no _ (gy ed)) ry) cL) (.cons (.gY eo ed nh) (.nil _)) (by simp) (by simpa using m1) (R3.same G8.row.no n4.same) ⟨fun b o' eb hb=>n4.same _ _ (Jc _ _ eb (by rw[cm];intro h;exact hb (by rw[h];simp))),.inr xQ⟩ ?_;intro h;have:=n4.no;obtain⟨yq,eq3,_⟩:=R3.qu;rw[h,eq3]at this;cases this
inductive U7(K:aa)(C:Addr)(vs:List V)(H:Hp)(Q:VK):Prop |mk (a:_)(q:_)(M:_)(D:_)(S:_)(n:_)(h0:vs=[.ref a,.int n])(h1:dh K C H a q M S)(h2:cA M D S)(h3:M.Ok)(h4:0<=n)(h5:n<=1000)(h6:∀l ys es S' q' H',H l=none->H' l=some (.lst ys)->aI K H' ys es->Run M S es S'->(es.length:Int)<=n->((es.length:Int)=n\/S'.os=[]\/Halt S'.pc S'.aU)->dh K C H' a q' M S'->Mv a q H q' H'->l≠q'->Q (.ref l) H'):U7 K C vs H Q
def Lp(K:aa)(C:Addr):Sp:=fun vs H Q _=>U7 K C vs H Q
theorem Ml:bh ["self","n","told"] ["self","n"] (aR Eo):=bG (by decide+kernel)
theorem a1m{C:Addr}(F:MA K C "entries" "Runner.entries" Eo)(TC:gu K C)(B:bL mg)(HP:cX P w K mg base C "is_halted" 2 (fq K C fun _ S H Q=>Q (.bl (S.aU.isSome&&decide (S.pc=0))) H))(a6n:cX P w K mg base C "entries_of_first" 11 (Lo K C)):cX P w K mg base C "entries" 12 (Lp K C):=by
 refine F.has Ml (fun vs H Q E h=>?_) (fun _ _ _ _ _ _=>du fun _ _=>rfl) (fun f aJ A outer s H vs Q E hr h=>?_)
 · obtain⟨a,q,M,D,S,n,rfl,_⟩:=h
   rfl
 · obtain⟨a,q,M,D,S,n,rfl,R0,ok,aM,n0,n1,k⟩:=h
   have nd:=Ml.nd;refine⟨_,(aA (pS 2 nd (df aw)) (aA (gU (mH gL (PW.pt (oj (bW jF (dQ K B (O (pv 2) aw)) (pv 1) (bo _)) (oj (FR K rfl (cS TC.cl TC.kg (pv 0))) (rV (fi (cI (iK HP TC.cl (hr.mono (by decide)) (pv 0)))))))) (aH (gF (a0a K rfl (pv 2) (O (Ak a6n TC.cl (hr.mono (by decide)) (pv 0) (O (aG fY (pv 1) (dQ K B (O (pv 2) aw))) aw)) aw)))))) (aH (aQ (pv 2))))),?_⟩;refine⟨bP rfl,fun l H1 nw=>?_⟩;obtain⟨dx,mv,bv,cN,tv,e,r1,r2,r3,r4⟩:=R0.ob;obtain⟨ys,eq,rq⟩:=R0.qu;have al:a≠l:=fun z=>by have:=nw.no;rw[<-z,e]at this;cases this
   have ql:q≠l:=fun z=>by have:=nw.no;rw[<-z,eq]at this;cases this
   have hq0:H q≠none:=by rw[eq];simp
   have ha0:H a≠none:=by rw[e];simp
   refine⟨fun Z H2=>∃es S' q' us,Z=[some (.ref a),some (.int n),some (.ref l)]/\dh K C H2 a q' M S'/\H2 l=some (.lst us)/\aI K H2 us es/\Run M S es S'/\(es.length:Int)<=n/\((es.length:Int)=n\/S'.os=[]\/Halt S'.pc S'.aU)/\Mv a q H q' H2/\l≠q',?_,?_⟩
   · refine mm (fun Z H2=>∃es S' q' us,Z=[some (.ref a),some (.int n),some (.ref l)]/\dh K C H2 a q' M S'/\H2 l=some (.lst us)/\aI K H2 us es/\Run M S es S'/\(es.length:Int)<=n/\Mv a q H q' H2/\l≠q') (fun _ H2=>match H2 l with|some (.lst us)=>2000-us.length|_=>0) ?_ ?_ ?_
     ·exact⟨[],S,q,[],rfl,R0.same ok.row.no nw.same,nw.at',cL,.nil _,by simpa using n0,⟨.of nw.same,.inl rfl⟩,ql.symm⟩
     · rintro Z H2 ⟨es,S',q',us,rfl,R2,dl,rd,run,kO,vo,lq⟩
       have iW:=run.ok ok aM;have kM:=run.no ok aM;have lu:=rd.length;obtain⟨tT,mv2,bv2,ab2,tv2,e2,t1,t2,t3,t4⟩:=R2.ob;obtain⟨yq,eq2,YC⟩:=R2.qu;have vq:=YC.length;have yc:=iW.row.len;refine⟨_,rfl,l,us,rfl,.inl (aE.of dl),_,rfl,_,_,rfl,rfl,_,rfl,?_⟩;show if decide ((us.length:Int)<n)=true then _ else _;by_cases c1:(us.length:Int)<n
       · rw[cB c1]
         refine bT ?_;refine⟨_,rfl,a,tT,_,_,rfl,e2,rfl,_,.inl ⟨_,aE.of eq2,rfl⟩,?_⟩;cases jm:S'.os with |nil=>have:yq=[]:=CD.mp (by rw[vq,yc,jm];rfl);subst this;refine bB ?_;exact⟨es,S',q',us,rfl,R2,dl,rd,run,kO,.inr (.inl jm),vo,lq⟩ |cons o os=>
           have dy:S'.os≠[]:=by rw[jm];simp
           have:∃y yr,yq=y::yr:=by cases yq with |nil=>rw[yc,jm]at vq;simp at vq |cons y yr=>exact⟨y,yr,rfl⟩
           obtain⟨y,yr,rfl⟩:=this;refine bT ?_;refine⟨_,rfl,a,tT,_,rfl,e2,rfl,a,q',M,D,S',rfl,R2,iW,aM,_,rfl,?_⟩;by_cases c3:Halt S'.pc S'.aU
           · have hb:(S'.aU.isSome&&decide (S'.pc=0))=true:=by obtain⟨h1,h2⟩:=c3;rw[cB h2,K0];cases hs:S'.aU with |none=>exact(h1 hs).elim |some _=>rfl
             rw[hb];exact bB ⟨es,S',q',us,rfl,R2,dl,rd,run,kO,.inr (.inr c3),vo,lq⟩
           · have hb:(S'.aU.isSome&&decide (S'.pc=0))=false:=by cases hs:S'.aU with |none=>rfl |some _=>show decide (S'.pc=0)=false;exact eQ fun h2=>c3 ⟨by rw[hs];simp,h2⟩
             rw[hb];refine bT ?_;refine⟨_,rfl,.inl ⟨rfl,_,aE.of dl⟩,?_⟩;refine⟨_,rfl,a,tT,_,rfl,e2,rfl,_,rfl,_,rfl,l,us,rfl,.inl (aE.of dl),_,_,rfl,rfl,?_⟩;refine⟨a,q',M,D,S',_,rfl,R2,iW,aM,dy,c3,by lia,by lia,fun l2 y2 fs S2 q2 H3 Ot IS pQ xA f1 f2 R3 AD lq2=>?_⟩;have We:=R2.v AD.but;have wj:=AD.but _ _ dl (by simp;exact⟨al.symm,lq⟩);have FE:=aI.v We _ kM rd;have ly2:=pQ.length;have kR:sizeLine=16777216:=by decide
             refine⟨l,l2,us,y2,rfl,rfl,wj,IS,by lia,?_⟩;have vu:bR H3 (L2.upd H3 l (.lst (us++y2))):=.upd wj trivial;have a4W:=xA.no iW aM;have e9:=xA.ok iW aM;have OO:l≠q2:=fun z=>by
              rcases AD.nq with h|h
              ·exact lq (z.trans h)
              ·rw[<-z,dl]at h;cases h
             refine⟨⟨es++fs,S2,q2,us++y2,rfl,R3.go e9.row.no vu (fun o' cQ=>by rw[aK al];exact cQ) (fun o' cQ=>by rw[aK OO.symm];exact cQ),ba,(aI.v vu _ kM FE).append (aI.v vu _ a4W pQ),run.trans xA,by rw[fo];lia,?_,OO⟩,?_⟩
             · have m:=vo.trans AD (by rw[e2];simp)
               exact⟨fun b o' eb hb=>by
                have dM:b≠l:=fun z=>by have:=nw.no;rw[<-z,eb]at this;cases this
                rw[aK dM];exact m.but _ _ eb hb,m.nq⟩
             · show(match(L2.upd H3 l (.lst (us++y2))) l with|some (.lst us)=>2000-us.length|_=>0)<(match H2 l with|some (.lst us)=>2000-us.length|_=>0)
               rw[ba,dl];show 2000-(us++y2).length<2000-us.length;rw[fo]
               lia
       · rw[eQ c1]
         refine bB ?_;exact⟨es,S',q',us,rfl,R2,dl,rd,run,kO,.inl (by lia),vo,lq⟩
     · rintro Z H6 Q1 Q2 hq ⟨v1,f1,l',jB,f2,f3,v2,f4,i1,i2,f5,f6,b1,f7,h⟩
       refine⟨v1,f1,l',jB,f2,f3,v2,f4,i1,i2,f5,f6,b1,f7,yf ?_ (hq _ _) h⟩;rintro⟨v3,f8,a',tV,fs',u',f9,yJ,yI,b2,yH,h⟩;refine⟨v3,f8,a',tV,fs',u',f9,yJ,yI,b2,yH,yf ?_ (hq _ _) h⟩;rintro⟨v5,Iy,a2,tT,Ib,Iw,Iv,Iu,a3,q3,M3,D3,S3,Ir,Iq,Ip,Io,b3,Im,h⟩;exact⟨v5,Iy,a2,tT,Ib,Iw,Iv,Iu,a3,q3,M3,D3,S3,Ir,Iq,Ip,Io,b3,Im,hq _ _ h⟩
   · rintro Z H2 ⟨es,S',q',us,rfl,R2,dl,rd,run,kO,oP,vo,lq⟩
     exact⟨_,rfl,k l us es S' q' H2 nw.no dl rd run kO oP R2 vo lq⟩
def Dh(f:Int)(pc:Rat):Int:=(pc.num+2*f*(pc.den:Int)-1)/(2*f*(pc.den:Int))
theorem Me:bh ["self","p","q","in_one"] ["self"] (aR Eb):=bG (by decide+kernel)
theorem a18{C:Addr}(F:MA K C "stops_in" "Runner.stops_in" Eb)(TC:gu K C):cX P w K mg base C "stops_in" 1 (fq K C fun M S H Q=>Q (.int (Dh M.f S.pc)) H):=by
 refine F.has Me (fun vs H Q E h=>?_) (fun _ _ _ _ _ _=>fg fun _=>rfl) (fun f aJ A outer s H vs Q E hr h=>?_)
 · obtain⟨a,q,M,D,S,rfl,_⟩:=h
   rfl
 · obtain⟨a,q,M,D,S,rfl,R,ok,aM,k⟩:=h
   obtain⟨dx,mv,bv,cN,tv,e,r1,r2,⟨pa,rfl,sY⟩,r4⟩:=R.ob;have nd:=Me.nd;have qA:=aM.f1;obtain⟨ma,mb,rfl,gC,jn⟩:=kI r1;have bd:Bd 1600 S.pc:=(ok.pd.bd (dU ok.pm (by decide+kernel))).mono (by have:=ok.D2;lia);have hd:0<2*M.f*(S.pc.den:Int):=iG (by lia) (den_pos S.pc);have wd:Wd (2*M.f*(S.pc.den:Int)):=by
    refine gM (n:=1700) ?_ (by decide);rw[fF];have h1:(2*M.f).natAbs<2^7:=by lia
    have:=kG h1 bd.den;exact fU this (qV (by decide) (by decide))
   refine⟨_,(aA (fO (cS TC.cl TC.sL (pv 0)) (dJ K rfl (n:=2) rfl (bO (bf 1 nd) (bO (bf 2 nd) dH)))) (aA (pS 3 nd (aG bu (aG bu az (px K (cS TC.cl TC.pY (pv 0)) az)) (pv 2))) (aH (aQ (aG lS (aG fY (aG cJ (pv 1) (pv 3)) az) (pv 3)))))),?_⟩;refine⟨_,rfl,a,dx,_,_,rfl,e,rfl,pa,_,rfl,sY,rfl,_,_,rfl,_,_,rfl,rfl,?_⟩;refine⟨_,rfl,a,dx,_,_,rfl,e,rfl,.inr ⟨ma,_,2,.int M.f,rfl,rfl,gC,rfl,_,_,rfl,rfl,.of_left (bV (by decide) (by decide)),?_⟩⟩;refine⟨_,rfl,_,_,rfl,rfl,.of_left (bV (by lia) (by lia)),?_⟩;refine⟨_,rfl,_,rfl,_,_,rfl,rfl,_,_,rfl,rfl,_,rfl,_,_,rfl,rfl,⟨hd,wd⟩,?_⟩;exact k
end
end Lw
set_option maxHeartbeats 1000000
namespace Lw
open PySem PySem.Spec PyProof.Rows L2 Rt Ln Cn Pn
open Ow (topR cornO mnO betR atO ownF leadF ownL OkI OkIs)
section
variable {w:World}{mg:Str->Option Value}{base:Heap}
inductive UB(K:aa)(vs:List V)(H:Hp)(Q:VK):Prop |mk (m:_)(iv:_)(ay:_)(rs:_)(r:_)(f:_)(j:_)(t:_)(ds:_)(os:_)(h0:vs=[m,iv,.int ay])(h1:RD K H m (iL rs r f j t))(h2:nH rs r f j t)(h3:RD K H iv (.list ds))(h4:gD rs.length ds os)(h5:ds.length<=100)(h6:10<=ay)(h7:ay<=200)(h8:∀l ys H',H l=none->H' l=some (.lst ys)->aI K H' ys ((ownL j ay os).map cH)->aB H H'->Q (.ref l) H'):UB K vs H Q
def LB(K:aa):Sp:=fun vs H Q _=>UB K vs H Q
def jf(j ay:Int)(os:List Itm)(i:Nat):List Rat:=(List.range (os.length+1)).map fun k=>if k<=i then ownF j ay os k else 0
theorem uW(j ay:Int)(os:List Itm)(i:Nat){k:Nat}(h:k<=os.length):(jf j ay os i)[k]? =some (if k<=i then ownF j ay os k else 0):=by unfold jf;rw[cu,bZ (by simp;lia),ur];rfl
theorem ou(j ay:Int)(os:List Itm)(i:Nat):(jf j ay os i).length=os.length+1:=by simp[jf]
theorem NV(j ay:Int)(os:List Itm)(i:Nat)(h:i+1<=os.length):(jf j ay os i).set (i+1) (ownF j ay os (i+1))=jf j ay os (i+1):=by
 apply qX;intro k;by_cases hk:k<=os.length
 · rw[uW j ay os (i+1) hk,List.getElem?_set]
   by_cases e:i+1=k
   · subst e
     rw[aY rfl,aY (by rw[ou];lia),aY (bF _)]
   · rw[aZ e,uW j ay os i hk]
     congr 1;by_cases h1:k<=i
     ·rw[aY h1,aY (by lia)]
     ·rw[aZ h1,aZ (by lia)]
 ·rw[la (by rw[uq,ou];lia),la (by rw[ou];lia)]
theorem a0n(j ay:Int)(os:List Itm)(i:Nat)(h:i+1<=os.length)(e:ownF j ay os (i+1)=0):jf j ay os (i+1)=jf j ay os i:=by
 apply qX;intro k;by_cases hk:k<=os.length
 · rw[uW j ay os (i+1) hk,uW j ay os i hk]
   congr 1;by_cases h1:k<=i
   ·rw[aY h1,aY (by lia)]
   · rw[aZ h1]
     by_cases h2:k=i+1
     ·subst h2;rw[aY (bF _),e]
     ·rw[aZ (by lia)]
 ·rw[la (by rw[ou];lia),la (by rw[ou];lia)]
theorem MW:bh ["_law_machine_here","_law_items","_law_rate","_law_found","_law_border","_law_one","_law_other_here","_law_a","_law_b","_law_gap","_law_corner"] ["_law_machine_here","_law_items","_law_rate"] (aR F8):=bG (by decide+kernel)
theorem a1Z(F:FA K mg "_law_bounds" F8)(B:bL mg)(qw:aD P w K mg base "_law_lead" 1 (lg K))(tK:aD P w K mg base "_law_min" 2 (jc K))(Bs:aD P w K mg base "_law_top" 2 (Dl K))(qx:aD P w K mg base "_law_frac" 1 (xi K)):aD P w K mg base "_law_bounds" 3 (LB K):=by
 refine F.has MW (fun vs H Q E h=>?_) (fun _ _ _ _ _ _=>ny fun _ _ _=>rfl) (fun f aJ A outer s H vs Q E hr h=>?_)
 · obtain⟨m,iv,ay,rs,r,f,j,t,ds,os,rfl,_⟩:=h
   rfl
 · obtain⟨m,iv,ay,rs,r,f,j,t,ds,os,rfl,rm,aM,ri,row,hz,dk,dF,k⟩:=h
   have nd:=MW.nd;refine⟨_,(aA (FU (i0:=3) nd rfl (Or.inl rfl) (N:=["_law_border"]) (js:=[none]) rfl rfl rfl (xE rfl (B.at "range") (O (aG cJ (dQ K B (O (pv 1) aw)) az) aw)) (fun _ _ _ _ _=>(bf 0 (sJ _))) (fun _ _ _ _ _=>fw) (fun _ _ _ _ _=>(dP (O az (O az aw))))) (aA (lF gL rfl (NM rfl (B.at "range") (O az (O (dQ K B (O (pv 1) aw)) aw))) (bf 4 nd) (aA (om (i:=5) (j:=6) rfl nd rfl rfl (by decide) rfl rfl (O (px K (pv 1) (aG fY (pv 4) az)) (O (px K (pv 1) (pv 4)) aw)) rfl) (aH (bJ (PW.pt (oj (bW (cP K rfl hr.units) (px K (pv 5) az) aX (bo _)) (rV (bW (cP K rfl hr.units) (px K (pv 6) az) aX (bo _))))) (aA (fO (dP (O (pf qw hr (O (pv 5) aw)) (O (pf qw hr (O (pv 6) aw)) aw))) (dJ K rfl (n:=2) rfl (bO (bf 7 nd) (bO (bf 8 nd) dH)))) (aA (pS 9 nd (cZ (x:="max") (Gu K rfl rfl) rfl (B.at "max") Cw (O (fW (N:=["_law_x","_law_y","_law_b","_law_a"]) (js:=[none,none,some 8,some 7]) rfl rfl rfl (jE K rfl false false rfl (B.at "zip") (O (px K (pv 5) az) (O (px K (pv 6) az) aw))) (fun _ _ _ _ _=>(dJ K rfl (n:=2) rfl (bO (bf 0 (show List.Nodup (["_law_x","_law_y","_law_b","_law_a"]:List Str) by decide+kernel)) (bO (bf 1 (show List.Nodup (["_law_x","_law_y","_law_b","_law_a"]:List Str) by decide+kernel)) dH)))) (fun _ _ _ _ _=>fw) (fun _ _ _ _ _=>(cZ (x:="abs") nv rfl (B.at "abs") pC (O (aG fY (aG bu (pv 0) (pv 2)) (aG bu (pv 1) (pv 3))) aw)))) aw))) (aA (fO (pf tK hr (O (df (O (pf Bs hr (O (pv 5) (O (pv 2) aw))) (O (pf Bs hr (O (pv 6) (O (pv 2) aw))) aw))) aw)) (rY (pv 3) (pv 4) set_list)) (aH (bJ (bW rZ (pv 9) az (bo _)) (aA (pS 10 nd (pf qx hr (O (aG uX (aG bu (aG bu (px K (pv 0) az) (pv 7)) (pv 8)) az) (O (aG uX (pv 9) az) aw)))) (aH (fO (pf tK hr (O (df (O (px K (pv 3) (pv 4)) (O (pv 10) aw))) aw)) (rY (pv 3) (pv 4) set_list)))) bM))))) bM)))) (aH (aQ (pv 3))))),?_⟩;obtain⟨ia,xs,rfl,hi,hW⟩:=ri.lst_inv;obtain⟨ma,mb,rfl,gC,jn⟩:=kI rm;have lx:=hW.length;have ll:=row.len;have lr:=aM.len;refine⟨_,rfl,ia,_,rfl,.inl hi,_,_,rfl,rfl,_,rfl,by lia,by lia,fun D H1 n1=>?_⟩;have eN:((xs.length:Int)+1).toNat=os.length+1:=by lia
   rw[eN];refine a9h (K:=K) (lo:=0) (n:=os.length+1) (ds:=(jf j ay os 0).map cH) _ n1 (by rw[cj,ou]) (by lia) (vh _) ?_ ?_
   · intro i d H2 Q' ed s2 hq
     have PQ:i<=os.length:=by have:=(dC.mp ed).1;rw[cj,ou]at this;lia
     have e0:d=cH 0:=by
      rw[cu,uW j ay os 0 PQ]at ed;have:=(dG ed).symm;rw[this];congr 1;split
      · next h => have:i=0:=by lia
                  subst this;rfl
      ·rfl
     subst e0;refine⟨bP rfl,fun z H3 n3=>?_⟩;exact hq _ _ n3.same (bc.rd ⟨z,rfl,aP.of n3.at'⟩)
   intro H2 ys s2 d2 r2;refine⟨_,rfl,ia,_,rfl,.inl (hi.go s2),_,_,rfl,⟨by decide,by decide,by lia,by lia⟩,?_⟩;refine BD (Pv:=fun i Z H5=>aB H H5/\∃(ys:List V)(v1 v2 v3 v4 v5 v6 v7:Option V),H5 D=some (.lst ys)/\aI K H5 ys ((jf j ay os i).map cH)/\Z=[some (.ref ma),some (.ref ia),some (.int ay),some (.ref D),v1,v2,v3,v4,v5,v6,v7]) ?_ ?_ ?_
   ·exact⟨s2,ys,none,none,none,none,none,none,none,d2,r2,rfl⟩
   · rintro i Z H5 Bj ⟨s5,ys,v1,v2,v3,v4,v5,v6,v7,dl,pP,rfl⟩
     have hio:i+1<os.length:=by lia
     have mY:=bZ (show i<os.length by lia);have lM:=bZ hio;obtain⟨x1,qC⟩:∃x,xs[i]? =some x:=⟨_,bZ (show i<xs.length by lia)⟩;obtain⟨x2,BH⟩:∃x,xs[i+1]? =some x:=⟨_,bZ (show i+1<xs.length by lia)⟩;obtain⟨d1,e1,r1⟩:=hW.get' i qC;obtain⟨d2,e2,r2⟩:=hW.get' (i+1) BH;have i1:=row.it i d1 _ e1 mY;have i2:=row.it (i+1) d2 _ e2 lM;have Bb:ownF j ay os (i+1)=betR j ay os[i] os[i+1]:=by show betR j ay (atO os i) (atO os (i+1))=_;rw[Ow.p7 mY,Ow.p7 lM]
     have IM:((1:Int)+(i:Int)-1).toNat=i:=by lia
     have IL:((1:Int)+(i:Int)).toNat=i+1:=by lia
     have Je:fA xs ((1:Int)+(i:Int)-1)=some x1:=cW (by lia) (by rw[IM];exact qC);have at2:fA xs ((1:Int)+(i:Int))=some x2:=cW (by lia) (by rw[IL];exact BH);have PR:=hi.go s5;obtain⟨a1,w1,y1,rfl,h1,ew1,Xk⟩:=vy (RD.mono s5 _ r1) i1;obtain⟨a2,w2,y2,rfl,h2,ew2,Xj⟩:=vy (RD.mono s5 _ r2) i2;have same:os[i]=none\/os[i+1]=none->aI K H5 ys ((jf j ay os (i+1)).map cH):=fun hn=>by
      rw[a0n j ay os i (by lia)]
      ·exact pP
      · rw[Bb]
        rcases hn with e|e
        ·rw[e];exact Ow.Sj _ _ _
        ·rw[e];exact Ow.C0 _ _ _
     refine⟨_,rfl,_,rfl,_,_,rfl,rfl,.inl ⟨ia,_,_,_,rfl,rfl,PR,Je,_,rfl,_,rfl,.inl ⟨ia,_,_,_,rfl,rfl,PR,at2,_,_,rfl,?_⟩⟩⟩;refine⟨_,rfl,.inr ⟨a1,_,0,.str w1,rfl,rfl,h1,cW (gz 0) rfl,.inr ⟨_,_,cM _,cM _,Xk,sO,_,rfl,?_⟩⟩⟩;rw[ew1];cases Hi:os[i]with |none=>exact bB ⟨s5,ys,_,_,_,_,_,_,_,dl,same (.inl Hi),rfl⟩ |some q1=>refine bT ?_;refine⟨_,rfl,.inr ⟨a2,_,0,.str w2,rfl,rfl,h2,cW (gz 0) rfl,.inr ⟨_,_,cM _,cM _,Xj,sO,_,rfl,?_⟩⟩⟩;rw[ew2];cases vI:os[i+1]with |none=>exact bB ⟨s5,ys,_,_,_,_,_,_,_,dl,same (.inr vI),rfl⟩ |some q2=>
         refine bT ?_;obtain⟨ns,sp⟩:=q1;obtain⟨ms,sq⟩:=q2;rw[Hi]at i1 mY;rw[vI]at i2 lM;have ed1:=kj i1;have ed2:=kj i2;subst ed1 ed2;obtain⟨fP,p1,p2⟩:=row.ok i ns sp mY;obtain⟨e9,q1,q2⟩:=row.ok (i+1) ms sq lM;have T1:Bd 2000 (topR ay sp):=(Ow.uz p1 p2 dk dF).mono (by decide);have T2:Bd 2000 (topR ay sq):=(Ow.uz q1 q2 dk dF).mono (by decide);have l1:=yd fP;have l2:=yd e9;have lq1:=fP.lead.1;have lq2:=e9.lead.1;have ln1:ns.length<=3:=by rw[fP.len];lia
         have ln2:ms.length<=3:=by rw[e9.len];lia
         have OU:ms.length=ns.length:=by rw[fP.len,e9.len]
         refine⟨_,rfl,_,ns,sp,rfl,RD.mono s5 _ r1,fP.ne,by lia,fun H6 s6=>?_⟩;have N6:=s5.trans s6;refine⟨_,rfl,_,ms,sq,rfl,RD.mono N6 _ r2,e9.ne,by lia,fun H7 s7=>?_⟩;refine⟨bP rfl,fun tq H7' Gp=>?_⟩;refine⟨tq,_,rfl,aP.of Gp.at',rfl,_,_,rfl,_,_,rfl,rfl,?_⟩;have mE:=N6.trans (s7.trans Gp.same);have Yl:=s6.trans (s7.trans Gp.same);obtain⟨a1',b1,ea1,ha1,Bp⟩:=lI (RD.mono mE _ r1);obtain⟨a2',b2,ea2,ha2,m3⟩:=lI (RD.mono mE _ r2);cases ea1;cases ea2;refine⟨_,rfl,.inr ⟨a1,_,1,.ref b1,rfl,rfl,ha1,rfl,_,rfl,.inr ⟨a2,_,1,.ref b2,rfl,rfl,ha2,rfl,b1,b2,rfl,⟨_,Bp⟩,⟨_,m3⟩,fun D4 H8 n8=>?_⟩⟩⟩;refine tX (K:=K) (b1:=false) (b2:=false) (xs:=ns.map V.int) (ys:=ms.map V.int) (ds:=((cV ns ms).map iA).map PyData.int) _ rfl Bp m3 n8 (by simp[cV]) (by simp[cV];lia) (kF _) ?_ ?_
         · intro i x y d H9 Q' ex ey ed s9 hq
           obtain⟨a,b,e1,e2,rfl,rfl⟩:=zip2 OU ex ey;obtain⟨m,em,rfl⟩:=lU ed;rw[cu,K2 e1 e2]at em;cases em;have q1:=fP.bd a (gy e1);have q2:=e9.bd b (gy e2);refine⟨_,rfl,_,rfl,_,_,rfl,rfl,.of_left (bV (by lia) (by lia)),?_⟩;refine⟨_,rfl,_,rfl,_,_,rfl,rfl,.of_left (bV (by lia) (by lia)),?_⟩;exact⟨_,_,rfl,rfl,_,rfl,hq _ _ (aB.refl _) (dN _)⟩
         intro H9 zs s9 d9 r9;rw[r9.iM]at d9;have jO:cV ns ms≠[]:=by
          have hl:(cV ns ms).length=ns.length:=by simp[cV,OU]
          intro e;rw[e]at hl;exact fP.ne (CD.mp hl.symm)
         refine⟨D4,_,rfl,aE.of d9,by simpa using jO,fun M h1 h2=>?_⟩;have eM:=GD jO h1 h2;subst eM;have N5:=mE.trans s9;have Yk:=Yl.trans s9;refine⟨_,rfl,_,rfl,_,ns,sp,ay,rfl,RD.mono N5 _ r1,p1,p2,dk,dF,fun t1 jt Fu mF=>?_⟩;refine⟨_,rfl,_,rfl,_,ms,sq,ay,rfl,RD.mono (N5.trans mF) _ r2,q1,q2,dk,dF,fun t2 iC Ft Aa=>?_⟩;refine⟨bP rfl,fun lm qO AB=>?_⟩;have R1:bc K qO t1 (topR ay sp):=(Fu.go Aa).go AB.same;have R2:bc K qO t2 (topR ay sq):=Ft.go AB.same;refine⟨lm,[t1,t2],[topR ay sp,topR ay sq],rfl,aE.of AB.at',⟨R1,T1,R2,T2,trivial⟩,by simp,fun c lv q IJ Ri hq=>?_⟩;have sW:mn (topR ay sp) (topR ay sq)=q:=by
          refine mK ?_ (hq _ (by simp)) (hq _ (by simp))
          match c,Ri with |0,e2=>cases e2;exact .inl rfl |1,e2=>cases e2;exact .inr rfl
         have rl:bc K qO lv (mn (topR ay sp) (topR ay sq)):=by
          rw[sW]
          match c,IJ,Ri with |0,e1,e2=>cases e1;cases e2;exact R1 |1,e1,e2=>cases e1;cases e2;exact R2
         have Yj:=mF.trans (Aa.trans AB.same);have Ff:=Yk.trans Yj;have IT:=Ff _ _ dl;have ly:=pP.length;rw[cj,ou]at ly;have GO:jk ys.length ((1:Int)+(i:Int))=some (i+1):=by unfold jk;rw[aY (by lia),aY (by lia),IL]
         refine⟨_,rfl,_,rfl,D,ys,_,_,rfl,rfl,IT,GO,?_⟩;have FD:=aI.DF (i:=i+1) IT (aI.mono Ff _ pP) rl.rd (vh _) (pR _);have sD:∀{o:HO},aB H (L2.upd qO D o):=fun{o} b o' e=>by rw[aK (fQ e n1.no)];exact Ff b o' (s5 b o' e)
         have tU:iB qO (L2.upd qO D (.lst (ys.set (i+1) lv))):=.pJ IT;refine⟨_,rfl,_,_,rfl,rfl,_,rfl,?_⟩;rw[Hi,vI]at Bb;have cO:cornO j ns ms=if aF (cV ns ms)=0 then none else some (Rat.divInt ((j*aF ns*aF ms)^2) ((aF (cV ns ms):Int)^2)):=rfl;show if decide ((aF (cV ns ms):Int)>0)=true then _ else _;by_cases h0:aF (cV ns ms)=0
         · rw[eQ (by lia)]
           refine bB ?_;rw[aY h0]at cO;refine⟨sD,ys.set (i+1) lv,_,_,_,_,_,_,_,ba,?_,rfl⟩;rw[<-zq]at FD;have e:(jf j ay os i).set (i+1) (mn (topR ay sp) (topR ay sq))=jf j ay os (i+1):=by rw[<-NV j ay os i (by lia),Bb];show _=List.set _ _ (mnO _ (cornO j ns ms));rw[cO];rfl
           rw[<-e];exact FD
         · rw[cB (by lia)]
           refine bT ?_;rw[aZ h0]at cO;have jl:(j*aF ns).natAbs<=50*100:=kH (by have:=aM.j1;lia) (by lia);have jl2:(j*aF ns*aF ms).natAbs<=50*100*100:=kH jl (by lia);have cb:=BR (fun z hz=>by have:=fP.bd z hz;lia) (fun z hz=>by have:=e9.bd z hz;lia) (ns:=ns) (ms:=ms);have oT:=mO cb;have kQ:(2:Nat)^64=18446744073709551616:=by decide
           refine⟨_,rfl,.inr ⟨ma,_,3,.int j,rfl,rfl,gC.go sD,rfl,?_⟩⟩;refine⟨_,rfl,_,_,rfl,rfl,.of_left (bV (by have:=aM.j1;lia) (by have:=aM.j1;lia)),_,rfl,_,_,rfl,rfl,.of_right (bV (by lia) (by lia)),?_⟩;refine⟨_,_,rfl,rfl,⟨by decide,by decide,by rw[kQ];lia⟩,_,rfl,_,_,rfl,rfl,⟨by decide,by decide,by rw[kQ];lia⟩,_,_,rfl,?_,?_,fun v6 Jy r6 cY=>?_⟩
           · show 0<(aF (cV ns ms):Int)^2
             rw[fE,fE,lb,kr];exact iG (by lia) (by lia)
           · refine gM (n:=64) ?_ (by decide)
             show((aF (cV ns ms):Int)^2).natAbs<_;rw[fE,fE,lb,kr,kQ];have:=kH (a:=(aF (cV ns ms):Int)) (b:=(aF (cV ns ms):Int)) (m:=2000000) (n:=2000000) (by lia) (by lia)
             lia
           have Rc:bc K Jy v6 (Rat.divInt ((j*aF ns*aF ms)^2) ((aF (cV ns ms):Int)^2)):=r6;have Tc:Bd 2000 (Rat.divInt ((j*aF ns*aF ms)^2) ((aF (cV ns ms):Int)^2)):=(Ow.IZ aM.j1.1 aM.j1.2 fP.bd e9.bd cO).mono (by decide);generalize Rat.divInt ((j*aF ns*aF ms)^2) ((aF (cV ns ms):Int)^2)=cq at Rc Tc cO;have Ry:=cY _ _ (ba (H:=qO) (a:=D) (o:=.lst (ys.set (i+1) lv)));have at3:fA (ys.set (i+1) lv) ((1:Int)+(i:Int))=some lv:=cW (by lia) (by rw[IL,zr (by lia)]);have aau:bc K Jy lv (mn (topR ay sp) (topR ay sq)):=mG (RD.mono cY _ (RD.t tU _ (pR _) rl.rd));refine⟨_,rfl,_,rfl,.inl ⟨D,_,_,_,rfl,rfl,aE.of Ry,at3,_,rfl,?_⟩⟩;refine⟨bP rfl,fun GB Vp vn=>?_⟩;have SQ:=aau.go vn.same;have SO:=Rc.go vn.same;refine⟨GB,[lv,v6],[mn (topR ay sp) (topR ay sq),cq],rfl,aE.of vn.at',⟨SQ,Ow.y6 T1 T2,SO,Tc,trivial⟩,by simp,fun c' lv2 q' a8F Rh jI=>?_⟩;have a4K:mn (mn (topR ay sp) (topR ay sq)) cq=q':=by
            refine mK ?_ (jI _ (by simp)) (jI _ (by simp))
            match c',Rh with |0,e2=>cases e2;exact .inl rfl |1,e2=>cases e2;exact .inr rfl
           have Fy:bc K Vp lv2 (mn (mn (topR ay sp) (topR ay sq)) cq):=by
            rw[a4K]
            match c',a8F,Rh with |0,e1,e2=>cases e1;cases e2;exact SQ |1,e1,e2=>cases e1;cases e2;exact SO
           have Rx:=vn.same _ _ Ry;refine⟨_,rfl,_,rfl,D,_,_,_,rfl,rfl,Rx,(by rw[uq];exact GO),?_⟩;have Nr:=aI.DF (i:=i+1) Rx (aI.mono (cY.trans vn.same) _ FD) Fy.rd (by rw[<-zq];exact vh _) (pR _);refine⟨fun b o' e=>by rw[aK (fQ e n1.no)];exact vn.same b o' (cY b o' (sD b o' e)),_,_,_,_,_,_,_,_,ba,?_,rfl⟩;rw[JO,JO,<-zq]at Nr;have e:(jf j ay os i).set (i+1) (mn (mn (topR ay sp) (topR ay sq)) cq)=jf j ay os (i+1):=by rw[<-NV j ay os i (by lia),Bb];show _=List.set _ _ (mnO _ (cornO j ns ms));rw[cO];rfl
           rw[<-e,JO];exact Nr
   · rintro Z H5 ⟨s5,ys,v1,v2,v3,v4,v5,v6,v7,dl,pP,rfl⟩
     have e:jf j ay os ((xs.length:Int)-1).toNat=ownL j ay os:=by
      apply qX;intro k;by_cases hk:k<=os.length
      · rw[uW j ay os _ hk,Ow.NX j ay os hk]
        congr 1;split
        ·rfl
        · have:k=os.length:=by lia
          exact(Ow.G2 j ay os k this).symm
      ·rw[la (by rw[ou];lia),la (by rw[Ow.NW];lia)]
     rw[e]at pP;exact⟨_,rfl,k D ys H5 n1.no dl pP s5⟩
inductive Tt(K:aa)(vs:List V)(H:Hp)(Q:VK):Prop |mk (m:_)(sq:_)(rs:_)(r:_)(f:_)(j:_)(ti:_)(q:_)(h0:vs=[m,sq])(h1:RD K H m (iL rs r f j ti))(h2:bc K H sq q)(h3:Bd 2000 q)(h4:1<=ti)(h5:ti<=100)(h6:0<q.num)(h7:∀T,1<=T->T.natAbs<2^2400->fS ti q T=true->fS ti q (T-1)=false->∀H',aB H H'->Q (.int T) H'):Tt K vs H Q
def KW(K:aa):Sp:=fun vs H Q _=>Tt K vs H Q
theorem LW:bh ["_law_machine_here","_law_square","_law_wanted","_law_low","_law_high","_law_half"] ["_law_machine_here","_law_square"] (aR DR):=bG (by decide+kernel)
theorem a0L(F:FA K mg "_law_ticks" DR)(B:bL mg):aD P w K mg base "_law_ticks" 1 (KW K):=by
 refine F.has LW (fun vs H Q E h=>?_) (fun _ _ _ _ _ _=>du fun _ _=>rfl) (fun f aJ A outer s H vs Q E hr h=>?_)
 · obtain⟨m,sq,rs,r,f,j,ti,q,rfl,_⟩:=h
   rfl
 · obtain⟨m,sq,rs,r,f,j,ti,q,rfl,rm,⟨p,rfl,hp⟩,bq,t1,t2,hq,k⟩:=h
   have nd:=LW.nd;refine⟨_,(aA (pS 2 nd (aG bu (aG uX (px K (pv 0) az) az) (px K (pv 1) az))) (aA (fO (dP (O az (O az aw))) (dJ K rfl (n:=2) rfl (bO (bf 3 nd) (bO (bf 4 nd) dH)))) (aA (mH gL (bW jF (aG bu (aG bu (pv 4) (pv 4)) (px K (pv 1) az)) (pv 2) (bo _)) (aH (om (i:=3) (j:=4) rfl nd rfl rfl (by decide) rfl rfl (O (pv 4) (O (aG bu az (pv 4)) aw)) rfl))) (aA (mH gL (bW rZ (aG fY (pv 4) (pv 3)) az (bo _)) (aA (pS 5 nd (aG lS (aG cJ (pv 3) (pv 4)) az)) (aH (bJ (bW jF (aG bu (aG bu (pv 5) (pv 5)) (px K (pv 1) az)) (pv 2) (bo _)) (aH (pS 3 nd (pv 5))) (aH (pS 4 nd (pv 5))))))) (aH (aQ (pv 4))))))),?_⟩;obtain⟨a,b,rfl,ha,hb⟩:=kI rm;have m1:(ti*ti).natAbs<=100*100:=by rw[fF];exact ml (by lia) (by lia)
   have eP:ti^(2:Int).toNat=ti*ti:=by show ti^2=ti*ti;rw[fE,fE,lb,kr]
   have lim:(ti*ti*(q.den:Int)).natAbs<2^2399:=by have hd:=bq.den;rw[fF];have:(q.den:Int).natAbs=q.den:=rfl;rw[this];have:=kG (n:=14) (m:=2000) (a:=(ti*ti).natAbs) (b:=q.den) (pD m1 (by decide)) hd;exact fU this (qV (by decide) (by decide))
   have p0:0<ti*ti*(q.den:Int):=iG (iG (by lia) (by lia)) (den_pos q);have e2:(2:Nat)^2400=2^2399*2:=Nat.pow_succ 2 2399;have zE:∀{t:Int},t.natAbs<2^2400->Wd (t*t):=fun{t} tw=>gM (n:=4800) (by rw[fF];exact kG (n:=2400) (m:=2400) tw tw) (by decide);have wt:∀{t:Int},t.natAbs<2^2400->Wd t:=fun{t} tw=>gM tw (by decide);refine⟨_,rfl,.inr ⟨a,_,4,.int ti,rfl,rfl,ha,rfl,?_⟩⟩
   refine ⟨_, _, rfl, rfl, ⟨by decide, by decide, by have:(2:Nat)^64=18446744073709551616:=by decide
                                                     lia⟩,?_⟩;refine⟨_,rfl,.inr ⟨p,_,1,.int q.den,rfl,rfl,hp,rfl,?_⟩⟩;refine⟨_,_,rfl,rfl,by rw[eP];exact .of_left (bV (by lia) (by lia)),?_⟩;have eW:ti^(2:Int).toNat*(q.den:Int)=ti*ti*(q.den:Int):=by rw[eP]
   have R9:∀t:Int,decide (t*t*q.num<ti^(2:Int).toNat*(q.den:Int))= !fS ti q t:=fun t=>by unfold fS;rw[eW,<-decide_not];exact decide_eq_decide.mpr (by lia)
   refine⟨bP rfl,fun c0 H0 n0=>?_⟩;refine⟨c0,_,rfl,aP.of n0.at',rfl,_,_,rfl,_,_,rfl,rfl,?_⟩;have Ba:=hp.go n0.same;have k':∀T:Int,1<=T->T.natAbs<2^2400->fS ti q T=true->fS ti q (T-1)=false->Q (.int T) H0:=fun T a1 a2 a3 a4=>(k T a1 a2 a3 a4) H0 n0.same;generalize hL:ti*ti*(q.den:Int)=L at lim p0;refine mm (fun Z H2=>H2=H0/\∃(lo x:Int),Z=[some (.ref a),some (.ref p),some (.int (ti^(2:Int).toNat*(q.den:Int))),some (.int lo),some (.int x),none]/\0<=lo/\lo<x/\x<=2*L/\fS ti q lo=false) (fun Z _=>match Z with|[_,_,_,_,some (.int x),_]=>(L-x).toNat|_=>0) ?_ ?_ ?_
   ·exact⟨rfl,0,1,rfl,by lia,by lia,by lia,QW t1⟩
   · rintro Z H2 ⟨rfl,lo,x,rfl,l0,lx,xL,hx⟩
     have xw:x.natAbs<2^2400:=by lia
     refine⟨_,rfl,_,rfl,_,_,rfl,rfl,ij (wt xw).bits (wt xw).bits,_,rfl,.inr ⟨p,_,0,.int q.num,rfl,rfl,Ba,rfl,_,_,rfl,rfl,ij (zE xw).bits bq.wn.bits,?_⟩⟩;refine⟨_,rfl,_,_,rfl,rfl,_,rfl,?_⟩;show if decide (x*x*q.num<ti^(2:Int).toNat*(q.den:Int))=true then _ else _;rw[R9];cases oQ:fS ti q x with
     |false=>
       have cy:x<L:=by
        by_cases cy:x<L
        ·exact cy
        ·rw[QY hq (by lia) (by lia)]at oQ;cases oQ
       refine bT ?_;refine⟨_,rfl,_,rfl,_,_,rfl,rfl,.of_left (bV (by decide) (by decide)),_,_,rfl,?_⟩;refine⟨⟨rfl,x,2*x,rfl,by lia,by lia,by lia,oQ⟩,?_⟩;show(L-2*x).toNat<(L-x).toNat
       lia |true=>
       refine bB ?_;refine mm (fun Z H3=>H3=H2/\∃(lo hi:Int)(v:Option V),Z=[some (.ref a),some (.ref p),some (.int (ti^(2:Int).toNat*(q.den:Int))),some (.int lo),some (.int hi),v]/\0<=lo/\lo<hi/\hi<=2*L/\fS ti q lo=false/\fS ti q hi=true) (fun Z _=>match Z with|[_,_,_,some (.int y),some (.int x),_]=>(x-y).toNat|_=>0) ?_ ?_ ?_
       ·exact⟨rfl,lo,x,none,rfl,by lia,by lia,xL,hx,oQ⟩
       · rintro Z H3 ⟨rfl,lo,hi,v,rfl,l0,lh,yy,yL,tQ⟩
         refine⟨_,rfl,_,rfl,_,_,rfl,rfl,_,_,rfl,rfl,_,rfl,?_⟩;refine dR (fun hc=>?_) (fun hc=>?_)
         · have hgt:hi-lo>1:=jx hc
           refine⟨_,rfl,_,rfl,_,_,rfl,rfl,_,_,rfl,rfl,⟨by decide,gM (n:=2) (by decide) (by decide)⟩,?_⟩;have mw:((lo+hi)/2).natAbs<2^2400:=by lia
           refine⟨_,rfl,_,rfl,_,_,rfl,rfl,ij (wt mw).bits (wt mw).bits,_,rfl,.inr ⟨p,_,0,.int q.num,rfl,rfl,Ba,rfl,_,_,rfl,rfl,ij (zE mw).bits bq.wn.bits,?_⟩⟩;refine⟨_,rfl,_,_,rfl,rfl,_,rfl,?_⟩;show if decide ((lo+hi)/2*((lo+hi)/2)*q.num<ti^(2:Int).toNat*(q.den:Int))=true then _ else _;rw[R9];cases hm:fS ti q ((lo+hi)/2)with
           |true=>
             refine bB ?_;refine⟨_,rfl,⟨rfl,lo,_,_,rfl,l0,by lia,by lia,yL,hm⟩,?_⟩;show((lo+hi)/2-lo).toNat<(hi-lo).toNat
             lia |false=>
             refine bT ?_;refine⟨_,rfl,⟨rfl,_,hi,_,rfl,by lia,by lia,yy,hm,tQ⟩,?_⟩;show(hi-(lo+hi)/2).toNat<(hi-lo).toNat
             lia
         · have hle:¬hi-lo>1:=fun z=>hc (cB z)
           have e:lo=hi-1:=by lia
           subst e;exact⟨_,rfl,k' hi (by lia) (by lia) tQ yL⟩
       · rintro Z H2 Q1 Q2 hq ⟨v1,e1,v2,e2,i,j,e3,e4,i2,j2,e5,e6,kk,e7,q⟩
         exact⟨v1,e1,v2,e2,i,j,e3,e4,i2,j2,e5,e6,kk,e7,hq _ _ q⟩
   · rintro Z H2 Q1 Q2 hq ⟨v1,e1,v2,e2,i,j,e3,e4,mo,v3,e5,h⟩
     refine⟨v1,e1,v2,e2,i,j,e3,e4,mo,v3,e5,?_⟩;rcases h with⟨a,xs,ii,x,f1,f2,f3,f4,i2,j2,g1,g2,g3,v4,g4,i3,j3,g5,g6,kk,g7,q⟩|⟨a,xs,ii,x,f1,f2,f3,f4,i2,j2,g1,g2,g3,v4,g4,i3,j3,g5,g6,kk,g7,q⟩
     ·exact .inl ⟨a,xs,ii,x,f1,f2,f3,f4,i2,j2,g1,g2,g3,v4,g4,i3,j3,g5,g6,kk,g7,hq _ _ q⟩
     ·exact .inr ⟨a,xs,ii,x,f1,f2,f3,f4,i2,j2,g1,g2,g3,v4,g4,i3,j3,g5,g6,kk,g7,hq _ _ q⟩
inductive Tz(K:aa)(vs:List V)(H:Hp)(Q:VK):Prop |mk (v:_)(ns:_)(sp:_)(k:_)(h0:vs=[v,.int k])(h1:RD K H v (iu ns sp))(h2:eu ns.length 1000 ns)(h3:ns.length<=1000)(h4:0<=k)(h5:k<=10^6)(h6:∀v' H',RD K H' v' (Dj ns k)->aB H H'->Q v' H'):Tz K vs H Q
def KZ(K:aa):Sp:=fun vs H Q _=>Tz K vs H Q
theorem a7l{k n q:Int}(hk:0<=k)(hq:0<q):(if n<0 then-((2*k*iA n+q)/(2*q))else(2*k*iA n+q)/(2*q))=hJ (k*n) q:=by
 have e:2*k*iA n=2*((k*n).natAbs:Int):=by rw[yT,fF,Int.natCast_mul,uv,Int.natAbs_of_nonneg hk]
 rw[e];show(if n<0 then-(kz (k*n) q)else kz (k*n) q)=hJ (k*n) q;rcases JX n 0 with hn|hn
 · rw[aY hn]
   rcases JX 0 k with h0|h0
   · have:k*n<0:=Int.mul_neg_of_pos_of_neg h0 hn
     unfold hJ;rw[aZ (by lia)]
   · have e0:k=0:=by lia
     rw[e0,zv,Gj hq];have:=Gj hq;unfold hJ at this;rw[aY (by lia)]at this
     lia
 · rw[aZ (by lia)]
   have:0<=k*n:=jz hk hn;unfold hJ;rw[aY this]
theorem M0:bh ["_law_line_here","_law_k","_law_lead_here","_law_found","_law_step","_law_far"] ["_law_line_here","_law_k"] (aR DV):=bG (by decide+kernel)
theorem a0P(F:FA K mg "_law_stand" DV)(B:bL mg)(qw:aD P w K mg base "_law_lead" 1 (lg K)):aD P w K mg base "_law_stand" 2 (KZ K):=by
 refine F.has M0 (fun vs H Q E h=>?_) (fun _ _ _ _ _ _=>du fun _ _=>rfl) (fun f aJ A outer s H vs Q E hr h=>?_)
 · obtain⟨v,ns,sp,k,rfl,_⟩:=h
   rfl
 · obtain⟨v,ns,sp,kk,rfl,rd,ok,hz,hk,mQ,k⟩:=h
   have nd:=M0.nd;refine⟨_,(aA (pS 2 nd (pf qw hr (O (pv 0) aw))) (aA (pS 3 nd (df aw)) (aA (lF gL rfl (pT K rfl (px K (pv 0) az)) (bf 4 nd) (aA (pS 5 nd (aG lS (aG cJ (aG bu (aG bu az (pv 1)) (cZ (x:="abs") nv rfl (B.at "abs") pC (O (pv 4) aw))) (pv 2)) (aG bu az (pv 2)))) (aH (gF (je K rfl (pv 3) (O (px K (df (O (pv 5) (O (xG wV (pv 5)) aw))) (gX (x:="int") Sa rfl (B.at "int") JH (O (fb jF (pv 4) az (bo _)) aw))) aw)))))) (aH (aQ (gX (x:="tuple") (ky K rfl) rfl (B.at "tuple") fD (O (pv 3) aw))))))),?_⟩;refine⟨_,rfl,v,ns,sp,rfl,rd,ok.ne,hz,fun H1 s1=>?_⟩;obtain⟨lp,lm⟩:=ok.lead;refine⟨bP rfl,fun l H2 n2=>?_⟩;obtain⟨a,b,rfl,ha,hb⟩:=lI (RD.mono (s1.trans n2.same) _ rd);refine⟨_,rfl,.inr ⟨a,_,1,.ref b,rfl,rfl,ha,rfl,b,rfl,⟨_,hb⟩,a77 (K:=K) (a:=b) (xs:=ns.map V.int) (fun i Z H3=>aB H1 H3/\aP K H3 b (ns.map V.int)/\H3 l=some (.lst (((ns.map fun z=>hJ (kk*z) (aF ns)).take i).map V.int))/\∃v1 v2,Z=[some (.ref a),some (.int kk),some (.int (aF ns)),some (.ref l),v1,v2]) ⟨n2.same,hb,n2.at',none,none,rfl⟩ (fun i Z H3 _ h=>h.2.1) ?_ ?_⟩⟩
   · rintro i x Z H3 hx ⟨s3,Q7,dl,v1,v2,rfl⟩
     obtain⟨n,en⟩:∃n,ns[i]? =some n:=by rw[cu]at hx;cases e:ns[i]? with |none=>rw[e]at hx;cases hx |some n=>exact⟨n,rfl⟩
     cases y8 hx en;have nb:=ok.bd n (gy en);have hi:i<ns.length:=(dC.mp en).1;have ab:iA n=(n.natAbs:Int):=yT n;have pb:=NI (k:=kk) (z:=n) (by lia) nb;have eA:2*kk*iA n=2*((kk*n).natAbs:Int):=by rw[ab,fF,Int.natCast_mul,uv,Int.natAbs_of_nonneg hk]
     refine⟨_,rfl,_,_,rfl,rfl,.of_left (bV (by decide) (by decide)),_,rfl,_,rfl,_,_,rfl,rfl,.of_left (bV (by lia) (by lia)),_,rfl,_,_,rfl,rfl,_,rfl,_,_,rfl,rfl,.of_left (bV (by decide) (by decide)),_,_,rfl,rfl,⟨by lia,K4 (by lia)⟩,?_⟩;have fn:=a7l (n:=n) hk (show(0:Int)<aF ns by lia);refine⟨_,rfl,.inl ⟨rfl,_,aE.of dl⟩,_,rfl,_,rfl,_,rfl,bP rfl,fun c H4 n4=>?_⟩;refine⟨_,rfl,_,_,rfl,rfl,.inr ⟨_,rfl,?_⟩⟩;have Oy:=n4.same _ _ dl;have yu:fA ([.int ((2*kk*iA n+(aF ns:Int))/(2*(aF ns:Int))),.int (-((2*kk*iA n+(aF ns:Int))/(2*(aF ns:Int))))]:List V) (if decide (n<0)=true then 1 else 0)=some (.int (hJ (kk*n) (aF ns))):=by
      rw[<-fn];by_cases hn:n<0
      ·rw[aY (cB hn),aY hn];rfl
      ·rw[aZ (fun z=>hn (jx z)),aZ hn];rfl
     refine .inl ⟨c,_,_,_,rfl,rfl,aE.of n4.at',yu,?_⟩;refine⟨l,_,_,rfl,rfl,Oy,?_,?_⟩
     · have:(1000:Nat)<sizeLine:=by decide
       rw[cj,nS,cj];lia
     refine⟨fun b o e=>?_,aP.t (.pJ Oy) (Q7.go n4.same),?_,_,_,rfl⟩
     ·rw[aK (fQ e n2.no)];exact n4.same b o (s3 b o e)
     ·rw[ba,pF,cu,en,nR];rfl
   · rintro Z H3 ⟨s3,Q7,dl,v1,v2,rfl⟩
     rw[JN (by simp)]at dl;refine⟨_,rfl,l,_,rfl,.inl ⟨aE.of dl,fun t H4 n4=>?_⟩⟩;exact k _ _ (iI (aP.of n4.at') (uQ _)) (s1.trans (s3.trans n4.same))
end
end Lw
set_option maxHeartbeats 2000000
namespace Lw
open PySem PySem.Spec PyProof.Rows L2 Rt Ln Cn Pn Wk Rn
open Ow (topR cornO mnO betR atO ownF leadF ownL OkI OkIs)
section
variable {w:World}{mg:Str->Option Value}{base:Heap}
theorem fR{n:Nat}(h:n+64<cLine):n+1<cLine:=pD (Nat.add_le_add_left (by decide) n) h
theorem cD{X:Cx}{k:Nat}{o i:Expr}{td ty:TE}{pos:Pos}(hr:cE k X.A)(ho:PE X o td)(hi:PE X i ty)(hs:Jp i:=by exact fun _ _=>rfl):PE X (.Subscript o i pos) (Kv td ty):=a05 (fR hr.units) ho hi hs
def bE(m p g s r t k q n b c re td:V):List (Key×V):=[(.inr "machine",m),(.inr "place",p),(.inr "goal",g),(.inr "square",s),(.inr "rate",r),(.inr "tool",t),(.inr "mark",k),(.inr "queue",q),(.inr "gone",n),(.inr "brake",b),(.inr "braked",c),(.inr "reach",re),(.inr "told",td)]
section
variable {H:Hp}{a:Addr}{m p g s r t k q n b c re td x:V}
theorem dg{aL:List (Key×V)}{z:Str}{v:V}(h:H a=some (.dK aL))(e:fN aL (.inr z)=some v):uf H a (.str z) (some v):=by rw[<-e];exact uf.k (k:=Sum.inr z) h
theorem dp{aL P9:List (Key×V)}{z:Str}{v:V}(h:H a=some (.dK aL))(e:putK aL (.inr z) v=P9)(hl:aL.length<=13):qP H a (.str z) v (L2.upd H a (.dK P9)):=by rw[<-e];exact qP.k (k:=Sum.inr z) h (pD hl (by decide))
theorem yC:fN (bE m p g s r t k q n b c re td) (.inr "machine")=some m:=by kernel_rfl
theorem Qu:fN (bE m p g s r t k q n b c re td) (.inr "place")=some p:=by kernel_rfl
theorem Ia:fN (bE m p g s r t k q n b c re td) (.inr "goal")=some g:=by kernel_rfl
theorem vS:fN (bE m p g s r t k q n b c re td) (.inr "square")=some s:=by kernel_rfl
theorem HV:fN (bE m p g s r t k q n b c re td) (.inr "rate")=some r:=by kernel_rfl
theorem a6T:fN (bE m p g s r t k q n b c re td) (.inr "tool")=some t:=by kernel_rfl
theorem a6U:fN (bE m p g s r t k q n b c re td) (.inr "mark")=some k:=by kernel_rfl
theorem m7:fN (bE m p g s r t k q n b c re td) (.inr "queue")=some q:=by kernel_rfl
theorem BA:fN (bE m p g s r t k q n b c re td) (.inr "gone")=some n:=by kernel_rfl
theorem BB:fN (bE m p g s r t k q n b c re td) (.inr "brake")=some b:=by kernel_rfl
theorem Qv:fN (bE m p g s r t k q n b c re td) (.inr "braked")=some c:=by kernel_rfl
theorem Qt:fN (bE m p g s r t k q n b c re td) (.inr "reach")=some re:=by kernel_rfl
theorem Bz:fN (bE m p g s r t k q n b c re td) (.inr "told")=some td:=by kernel_rfl
theorem a0h:putK (bE m p g s r t k q n b c re td) (.inr "place") x=bE m x g s r t k q n b c re td:=by kernel_rfl
theorem a0j:putK (bE m p g s r t k q n b c re td) (.inr "goal") x=bE m p x s r t k q n b c re td:=by kernel_rfl
theorem a0g:putK (bE m p g s r t k q n b c re td) (.inr "square") x=bE m p g x r t k q n b c re td:=by kernel_rfl
theorem a0f:putK (bE m p g s r t k q n b c re td) (.inr "tool") x=bE m p g s r x k q n b c re td:=by kernel_rfl
theorem a0i:putK (bE m p g s r t k q n b c re td) (.inr "mark") x=bE m p g s r t x q n b c re td:=by kernel_rfl
theorem NU:putK (bE m p g s r t k q n b c re td) (.inr "gone") x=bE m p g s r t k q x b c re td:=by kernel_rfl
theorem a0k:putK (bE m p g s r t k q n b c re td) (.inr "braked") x=bE m p g s r t k q n b x re td:=by kernel_rfl
theorem An:putK (bE m p g s r t k q n b c re td) (.inr "reach") x=bE m p g s r t k q n b c x td:=by kernel_rfl
theorem lj:(bE m p g s r t k q n b c re td).length<=13:=bF _
end
def wD(K:aa)(H:Hp)(bv cv:V):Rn.gc->Prop |none=>bv= .bp/\∃c,cv= .int c |some (sq,st,gn)=>∃a u,bv= .ref a/\aP K H a [u,.int st]/\bc K H u sq/\cv= .int gn
theorem wD.v{H H':Hp}{bv cv:V}{t:Rn.gc}(s:bR H H')(h:wD K H bv cv t):wD K H' bv cv t:=by cases t with |none=>exact h |some q=>obtain⟨sq,st,gn⟩:=q;obtain⟨a,u,rfl,h1,h2,h3⟩:=h;exact⟨a,u,rfl,aP.v s h1,bc.v s h2,h3⟩
def Cd(K:aa)(H:Hp)(M:bN)(S:bj)(rv:V):Prop:=rv= .bp\/bc K H rv (fu M S)
theorem Cd.v{H H':Hp}{M:bN}{S:bj}{rv:V}(s:bR H H')(h:Cd K H M S rv):Cd K H' M S rv:=h.imp id (bc.v s)
structure eO(K:aa)(H:Hp)(d q td:Addr)(M:bN)(S:bj):Prop where
 ob:∃mv lv gv sv bv cv rv,H d=some (.dK (bE mv lv gv sv (.int S.ay) (.str S.side) (.str S.mark) (.ref q) (.int S.dn) bv cv rv (.ref td)))/\RD K H mv M.D/\RD K H lv (fG (fj S))/\RD K H gv (fG (cU S))/\bc K H sv S.pc/\wD K H bv cv S.aU/\Cd K H M S rv
 qu:∃ys,H q=some (.lst ys)/\aI K H ys S.ds
theorem eO.go{H H':Hp}{d q td:Addr}{M:bN}{S:bj}(h:eO K H d q td M S)(hn:cK S.ds=true)(s:bR H H')(ea:∀o,H d=some o->H' d=some o)(eq:∀o,H q=some o->H' q=some o):eO K H' d q td M S:=by obtain⟨⟨mv,lv,gv,sv,bv,cv,rv,e,r1,r2,r3,r4,r5,r6⟩,ys,m9,rq⟩:=h;exact⟨⟨mv,lv,gv,sv,bv,cv,rv,ea _ e,RD.v s _ (ki _ _ _ _ _) r1,RD.v s _ (jD _) r2,RD.v s _ (jD _) r3,r4.v s,r5.v s,r6.v s⟩,ys,eq _ m9,aI.v s _ hn rq⟩
theorem eO.same{H H':Hp}{d q td:Addr}{M:bN}{S:bj}(h:eO K H d q td M S)(hn:cK S.ds=true)(s:aB H H'):eO K H' d q td M S:=h.go hn s.v (fun o e=>s _ _ e) (fun o e=>s _ _ e)
theorem eO.ne{H:Hp}{d q td:Addr}{M:bN}{S:bj}(h:eO K H d q td M S):d≠q:=by obtain⟨⟨mv,lv,gv,sv,bv,cv,rv,e,_⟩,ys,m9,_⟩:=h;exact xV e m9 (by intro z;cases z)
theorem eO.v{H H':Hp}{d q td:Addr}{M:bN}{S:bj}(h:eO K H d q td M S)(b:bw [d,q] H H'):bR H H':=by
 obtain⟨⟨mv,lv,gv,sv,bv,cv,rv,e,_⟩,ys,m9,_⟩:=h;refine b.v fun x hx o eo=>?_;simp only[bI,cC,dv]at hx;rcases hx with rfl|rfl
 ·rw[e]at eo;cases eo;trivial
 ·rw[m9]at eo;cases eo;trivial
inductive TL(K:aa)(vs:List V)(H:Hp)(Q:VK):Prop |mk (d:_)(q:_)(td:_)(M:_)(D:_)(S:_)(h0:vs=[.ref d])(h1:eO K H d q td M S)(h2:cA M D S)(h3:M.Ok)(h4:Q (.int (Dh M.f S.pc)) H):TL K vs H Q
def Lf(K:aa):Sp:=fun vs H Q _=>TL K vs H Q
theorem M6:bh ["_law_sim_here","_law_each"] ["_law_sim_here"] (aR DZ):=bG (by decide+kernel)
theorem a0R(F:FA K mg "_law_sim_stops" DZ)(B:bL mg):aD P w K mg base "_law_sim_stops" 1 (Lf K):=by
 refine F.has M6 (fun vs H Q E h=>?_) (fun _ _ _ _ _ _=>fg fun _=>rfl) (fun f aJ A outer s H vs Q E hr h=>?_)
 · obtain⟨d,q,td,M,D,S,rfl,_⟩:=h
   rfl
 · obtain⟨d,q,td,M,D,S,rfl,R,ok,aM,k⟩:=h
   obtain⟨mv,lv,gv,sv,bv,cv,rv,e,r1,r2,r3,⟨pa,rfl,sY⟩,r5,r6⟩:=R.ob;have nd:=M6.nd;have qA:=aM.f1;obtain⟨ma,mb,rfl,gC,jn⟩:=kI r1;have bd:Bd 1600 S.pc:=(ok.pd.bd (dU ok.pm (by decide+kernel))).mono (by have:=ok.D2;lia);have hd:0<2*M.f*(S.pc.den:Int):=iG (by lia) (den_pos S.pc);have wd:Wd (2*M.f*(S.pc.den:Int)):=by
    refine gM (n:=1700) ?_ (by decide);rw[fF];have h1:(2*M.f).natAbs<2^7:=by lia
    have:=kG h1 bd.den;exact fU this (qV (by decide) (by decide))
   refine⟨_,(aA (pS 1 nd (aG bu (aG bu az (px K (cD hr (pv 0) aX) az)) (px K (cD hr (pv 0) aX) az))) (aH (aQ (aG lS (aG fY (aG cJ (px K (cD hr (pv 0) aX) az) (pv 1)) az) (pv 1))))),?_⟩;refine⟨_,rfl,d,_,rfl,dg e yC,.inr ⟨ma,_,2,.int M.f,rfl,rfl,gC,rfl,_,_,rfl,rfl,.of_left (bV (by decide) (by decide)),?_⟩⟩;refine⟨_,rfl,d,_,rfl,dg e vS,.inr ⟨pa,_,1,_,rfl,rfl,sY,rfl,_,_,rfl,rfl,.of_left (bV (by lia) (by lia)),?_⟩⟩;refine⟨_,rfl,d,_,rfl,dg e vS,.inr ⟨pa,_,0,_,rfl,rfl,sY,rfl,_,rfl,_,_,rfl,rfl,_,_,rfl,rfl,_,rfl,_,_,rfl,rfl,⟨hd,wd⟩,?_⟩⟩;exact k
theorem oZ{H:Hp}{a:Addr}{aL:List (Key×V)}{z:Str}{v:V}{n:Nat}(h:H a=some (.dK aL))(hl:aL.length<=n)(hn:n<=13):qP H a (.str z) v (L2.upd H a (.dK (putK aL (.inr z) v)))/\(putK aL (.inr z) v).length<=n+1:=⟨qP.k (k:=Sum.inr z) h (pD (ib hl hn) (by decide)),ib (AO _ _ _) (Nat.succ_le_succ hl)⟩
theorem XR{mv lv s q' t':V}:putK (putK (putK (putK (putK (putK (putK (putK (putK (pZ [] [(Sum.inr "machine",mv),(.inr "place",lv),(.inr "goal",lv),(.inr "square",s)]) (.inr "rate") (.int 100)) (.inr "tool") (.str "up")) (.inr "mark") (.str "")) (.inr "queue") q') (.inr "gone") (.int 0)) (.inr "brake") .bp) (.inr "braked") (.int 0)) (.inr "reach") .bp) (.inr "told") t'=bE mv lv lv s (.int 100) (.str "up") (.str "") q' (.int 0) .bp (.int 0) .bp t':=by kernel_rfl
theorem XS{mv lv s:V}:(pZ [] [(Sum.inr "machine",mv),(.inr "place",lv),(.inr "goal",lv),(.inr "square",s)]).length<=4:=by rw[show pZ [] [(Sum.inr "machine",mv),(.inr "place",lv),(.inr "goal",lv),(.inr "square",s)]=([(.inr "machine",mv),(.inr "place",lv),(.inr "goal",lv),(.inr "square",s)]:List (Key×V)) by kernel_rfl];exact bF _
inductive TH(K:aa)(vs:List V)(H:Hp)(Q:VK):Prop |mk (mv:_)(lv:_)(M:_)(pl:_)(h0:vs=[mv,lv])(h1:RD K H mv (bN.D M))(h2:RD K H lv (fG pl))(h3:∀d q td H',eO K H' d q td M (my pl)->H' td=some (.lst [])->H d=none->H q=none->H td=none->d≠td->q≠td->aB H H'->Q (.ref d) H'):TH K vs H Q
def Ld(K:aa):Sp:=fun vs H Q _=>TH K vs H Q
theorem M4:bh ["_law_machine_here","_law_place_here","_law_sim_here"] ["_law_machine_here","_law_place_here"] (aR DX):=bG (by decide+kernel)
theorem a0U(F:FA K mg "_law_sim" DX)(B:bL mg):aD P w K mg base "_law_sim" 1 (Ld K):=by
 refine F.has M4 (fun vs H Q E h=>?_) (fun _ _ _ _ _ _=>du fun _ _=>rfl) (fun f aJ A outer s H vs Q E hr h=>?_)
 · obtain⟨mv,lv,M,pl,rfl,_⟩:=h
   rfl
 · obtain⟨mv,lv,M,pl,rfl,rm,rl,k⟩:=h
   have nd:=M4.nd;refine⟨_,(aA (pS 2 nd (a04 (Aj aX (pv 0) (Aj aX (pv 1) (Aj aX (pv 1) (Aj aX (dP (O az (O az aw))) ZG)))) rfl rfl (by simp) (by decide))) (aA (gW (fR hr.units) (pv 2) aX az rfl) (aA (gW (fR hr.units) (pv 2) aX aX rfl) (aA (gW (fR hr.units) (pv 2) aX aX rfl) (aA (gW (fR hr.units) (pv 2) aX (df aw) rfl) (aA (gW (fR hr.units) (pv 2) aX az rfl) (aA (gW (fR hr.units) (pv 2) aX kE rfl) (aA (gW (fR hr.units) (pv 2) aX az rfl) (aA (gW (fR hr.units) (pv 2) aX kE rfl) (aA (gW (fR hr.units) (pv 2) aX (df aw) rfl) (aH (aQ (pv 2))))))))))))),fun d mJ=>?_⟩;refine⟨_,rfl,_,rfl,_,rfl,bP rfl,fun t H1 n1=>?_⟩;have td:t≠d:=fun z=>by have:=n1.no;rw[z,ba]at this;cases this
   have e1:=n1.same _ _ (ba (a:=d) (o:=HO.dK []));refine⟨e1,[(.inr "machine",mv),(.inr "place",lv),(.inr "goal",lv),(.inr "square",.ref t)],rfl,(by show 4<=15;decide),?_⟩;obtain⟨d1,l1⟩:=oZ (z:="rate") (v:=.int 100) (H:=L2.upd H1 d _) (a:=d) ba XS (by decide);refine⟨_,rfl,d,_,rfl,d1,?_⟩;obtain⟨d2,l2⟩:=oZ (z:="tool") (v:=.str "up") (a:=d) ba l1 (by decide);refine⟨_,rfl,d,_,rfl,d2,?_⟩;obtain⟨d3,l3⟩:=oZ (z:="mark") (v:=.str "") (a:=d) ba l2 (by decide);refine⟨_,rfl,d,_,rfl,d3,?_⟩;refine⟨fT _,fun q H2 n2=>?_⟩;obtain⟨d4,l4⟩:=oZ (z:="queue") (v:=.ref q) (a:=d) (n2.same _ _ ba) l3 (by decide);refine⟨_,rfl,d,_,rfl,d4,?_⟩;obtain⟨d5,l5⟩:=oZ (z:="gone") (v:=.int 0) (a:=d) ba l4 (by decide);refine⟨_,rfl,d,_,rfl,d5,?_⟩;obtain⟨d6,l6⟩:=oZ (z:="brake") (v:=.bp) (a:=d) ba l5 (by decide);refine⟨_,rfl,d,_,rfl,d6,?_⟩;obtain⟨d7,l7⟩:=oZ (z:="braked") (v:=.int 0) (a:=d) ba l6 (by decide);refine⟨_,rfl,d,_,rfl,d7,?_⟩;obtain⟨d8,l8⟩:=oZ (z:="reach") (v:=.bp) (a:=d) ba l7 (by decide);refine⟨_,rfl,d,_,rfl,d8,?_⟩;refine⟨fT _,fun tl H3 n3=>?_⟩;obtain⟨d9,l9⟩:=oZ (z:="told") (v:=.ref tl) (a:=d) (n3.same _ _ ba) l8 (by decide);refine⟨_,rfl,d,_,rfl,d9,_,rfl,?_⟩;rw[XR];have s1:∀b o,H b=some o->H1 b=some o:=fun b o eb=>n1.same _ _ (by rw[aK (fQ eb mJ)];exact eb);have sU:∀{X:Hp}{o':HO},(∀b o,H b=some o->X b=some o)->∀b o,H b=some o->(L2.upd X d o') b=some o:=fun h b o eb=>by rw[aK (fQ eb mJ)];exact h b o eb
   have s2:∀b o,H b=some o->H2 b=some o:=fun b o eb=>n2.same _ _ (sU (sU (sU (sU s1))) b o eb);have s3:∀b o,H b=some o->H3 b=some o:=fun b o eb=>n3.same _ _ (sU (sU (sU (sU (sU s2)))) b o eb);have s4:aB H (L2.upd H3 d (.dK (bE mv lv lv (.ref t) (.int 100) (.str "up") (.str "") (.ref q) (.int 0) .bp (.int 0) .bp (.ref tl)))):=fun b o eb=>sU s3 b o eb;have nu:∀{X:Hp}{o':HO}{y:Addr},(L2.upd X d o') y=none->y≠d/\X y=none:=fun{X o' y} h=>by
    have hy:y≠d:=fun z=>by rw[z,ba]at h;cases h
    exact⟨hy,by rw[aK hy]at h;exact h⟩
   have no:∀{X:Hp}{y:Addr},(∀b o,H b=some o->X b=some o)->X y=none->H y=none:=fun{X y} h hy=>by cases e:H y with |none=>rfl |some o=>rw[h y o e]at hy;cases hy
   obtain⟨qd,q0⟩:=nu n2.no;have q1:=(nu (nu (nu q0).2).2).2;obtain⟨Kp,t0⟩:=nu n3.no;have t1:=(nu (nu (nu (nu t0).2).2).2).2;have qt:q≠tl:=fun z=>by rw[<-z,n2.at']at t1;cases t1
   have ht:∀{X:Hp},X t=some (.tup [.int 0,.int 1])->(L2.upd X d (.dK (bE mv lv lv (.ref t) (.int 100) (.str "up") (.str "") (.ref q) (.int 0) .bp (.int 0) .bp (.ref tl)))) t=some (.tup [.int 0,.int 1]):=fun h=>by rw[aK td];exact h
   refine k d q tl _ ⟨⟨mv,lv,lv,.ref t,.bp,.int 0,.bp,ba,RD.mono s4 _ rm,?_,?_,⟨t,rfl,?_⟩,⟨rfl,_,rfl⟩,.inl rfl⟩,[],?_,cL⟩ ?_ mJ (no s1 q1) (no s2 t1) Kp.symm qt s4
   ·exact RD.mono s4 _ rl
   ·exact RD.mono s4 _ rl
   · refine aP.of (ht (n3.same _ _ ?_))
     rw[aK td,aK td,aK td,aK td,aK td];refine n2.same _ _ ?_;rw[aK td,aK td,aK td,aK td];exact n1.at'
   · rw[aK qd]
     refine n3.same _ _ ?_;rw[aK qd,aK qd,aK qd,aK qd,aK qd];exact n2.at'
   ·rw[aK Kp];exact n3.at'
theorem RR{pa b:Addr}{pl ns:List Int}{te:TE}{Q:VK}{D:Addr}{H H1:Hp}(hp:aP K H pa (pl.map V.int))(hb:aP K H b (ns.map V.int))(ln:ns.length=pl.length)(hz:pl.length<=1000)(n1:Nw H H1 D (.lst [])) (ht:∀(x y:Int)(H:Hp)(Q:VK),Q (.int (x+y)) H->te [some (.int x),some (.int y)] H Q)(k:∀H2,aB H H2->H2 D=some (.lst ((fL pl ns).map V.int))->Q (.ref D) H2):iD (mj K false false pa b) (oU K 2 (jJ (eK 0) (jJ (eK 1) qz))) gO te Q D [none,none] H1:=by
  refine tX (K:=K) (b1:=false) (b2:=false) (xs:=pl.map V.int) (ys:=ns.map V.int) (ds:=(fL pl ns).map PyData.int) [] rfl hp hb n1 (by simp[qI ln,ln]) (by rw[cj,qI ln];exact hz) (kF _) ?_ ?_
  · intro i x y d H2 Q' ex ey ed s2 hq
    obtain⟨m,em,rfl⟩:=lU ed;rw[cu]at ex ey;cases e1:pl[i]? with |none=>rw[e1]at ex;cases ex |some u=>cases e2:ns[i]? with |none=>rw[e2]at ey;cases ey |some v=>rw[e1]at ex;rw[e2]at ey;cases ex;cases ey;rw[Jj e1 e2]at em;cases em;exact ht _ _ _ _ (hq _ _ (aB.refl _) (dN _))
  · intro H2 zs s2 d2 r2
    rw[r2.iM]at d2;exact k H2 s2 d2
theorem a9i{pa b:Addr}{pl rs:List Int}{te:TE}{Q:VK}{D:Addr}{H H1:Hp}(hp:aP K H pa (pl.map V.int))(hb:aP K H b (rs.map V.int))(ln:pl.length=rs.length)(hz:pl.length<=1000)(n1:Nw H H1 D (.lst [])) (ht:∀(x y:Int)(H:Hp)(Q:VK),Q (.bl (decide (0<=x)&&decide (x<=y))) H->te [some (.int x),some (.int y)] H Q)(k:∀(H2:Hp)(bs:List Bool),aB H H2->H2 D=some (.lst (bs.map V.bl))->bs.all id=pV rs pl->Q (.ref D) H2):iD (mj K false false pa b) (oU K 2 (jJ (eK 0) (jJ (eK 1) qz))) gO te Q D [none,none] H1:=by
  refine RP (K:=K) (b1:=false) (b2:=false) (xs:=pl.map V.int) (ys:=rs.map V.int) (bs:=(pl.zip rs).map fun p=>decide (0<=p.1)&&decide (p.1<=p.2)) [] rfl hp hb n1 (by simp) (by simp;lia) (fun i x y b' H2 Q' ex ey eb s2 hq=>?_) (fun H2 s2 d2=>?_)
  · rw[cu]at ex ey
    cases e1:pl[i]? with |none=>rw[e1]at ex;cases ex |some u=>cases e2:rs[i]? with |none=>rw[e2]at ey;cases ey |some v=>rw[e1]at ex;rw[e2]at ey;cases ex;cases ey;rw[cu,wL.mpr (show pl[i]? =some (u,v).1/\rs[i]? =some (u,v).2 from⟨e1,e2⟩)]at eb;cases eb;exact ht _ _ _ _ (hq _ (aB.refl _))
  ·exact k H2 _ s2 d2 (by unfold pV;rw[List.all_map];rfl)
theorem Qo(S:bj)(d:ai)(o:Itm):cU (mV S d o)=gI (cU S) o:=by unfold cU mV;rw[List.foldl_append];rfl
theorem ZL{M:bN}{D:Nat}{S:bj}(h:cA M D S)(d:ai)(o:Itm):fj (mV S d o)=fj S:=by
 unfold fj;by_cases h0:S.dn=0
 ·rw[aY h0,aY (show(mV S d o).dn=0 from h0)];rfl
 · obtain⟨ns,sp,eo,_⟩:=h.first h0
   rw[aZ h0,aZ (show¬(mV S d o).dn=0 from h0),eo];have e2:(mV S d o).os[0]? =some (some (ns,sp)):=by show(S.os++[o])[0]? =_;rw[wM (dC.mp eo).1];exact eo
   rw[e2];rfl
inductive TQ(K:aa)(vs:List V)(H:Hp)(Q:VK):Prop |mk (d:_)(q:_)(td:_)(M:_)(D:_)(S:_)(v:_)(it:_)(o:_)(h0:vs=[.ref d,v])(h1:eO K H d q td M S)(h2:cA M D S)(h3:M.Ok)(h4:RD K H v it)(h5:nL M.rs.length it o)(h6:(pV M.rs (gI (cU S) o)=false->∀H',aB H H'->Q (.str ("rails "++Str.ofString (toString (S.ds.length:Int)))) H'))(h7:(pV M.rs (gI (cU S) o)=true->S.ds.length=20->∀H',aB H H'->Q (.str "full") H'))(h8:(pV M.rs (gI (cU S) o)=true->S.ds.length<20->∀H',eO K H' d q td M (mV S it o)->bw [d,q] H H'->Q (.int (S.ds.length+1:Nat)) H')):TQ K vs H Q
def Li(K:aa):Sp:=fun vs H Q _=>TQ K vs H Q
theorem M9:bh ["_law_sim_here","_law_item","_law_goal"] ["_law_sim_here","_law_item"] (aR E3):=bG (by decide+kernel)
theorem a0V(F:FA K mg "_law_sim_feed" E3)(B:bL mg):aD P w K mg base "_law_sim_feed" 1 (Li K):=by
 refine F.has M9 (fun vs H Q E h=>?_) (fun _ _ _ _ _ _=>du fun _ _=>rfl) (fun f aJ A outer s H vs Q E hr h=>?_)
 · obtain⟨d,q,td,M,D,S,v,it,o,rfl,_⟩:=h
   rfl
 · obtain⟨d,q,td,M,D,S,v,it,o,rfl,R,ok,aM,rv,yg,k1,k2,k3⟩:=h
   obtain⟨mv,lv,gv,sv,bv,cv,re,e,r1,r2,r3,r4,r5,r6⟩:=R.ob;obtain⟨ys,eq,rq⟩:=R.qu;have dq:=R.ne;have nd:=M9.nd;have ly:=rq.length;have AU:=ok.len;have AH:=aM.len;have gl:(cU S).length=M.rs.length:=yE _ _ ok.pl ok.si;have bl:(gI (cU S) o).length=M.rs.length:=wx gl fun ns sp eo=>(yg.ln ns sp eo).1.len;obtain⟨ma,mb,rfl,gC,jn⟩:=kI r1;refine⟨_,(aA (pS 2 nd (cD hr (pv 0) aX)) (aA (gU (bJ (bW (cP K rfl hr.units) (px K (pv 1) az) aX (bo _)) (aH (pS 2 nd (gX (x:="tuple") (ky K rfl) rfl (B.at "tuple") fD (O (fW (N:=["_law_stand_here","_law_step"]) (js:=[none,none]) rfl rfl rfl (jE K rfl false false rfl (B.at "zip") (O (pv 2) (O (px K (pv 1) az) aw))) (fun _ _ _ _ _=>(dJ K rfl (n:=2) rfl (bO (bf 0 (fJ (by decide))) (bO (bf 1 (fJ (by decide))) dH)))) (fun _ _ _ _ _=>fw) (fun _ _ _ _ _=>(aG cJ (pv 0) (pv 1)))) aw)))) bM)) (aA (bJ (fi (cI (cZ (x:="all") (p8 K rfl rfl) rfl (B.at "all") qU (O (fW (N:=["_law_stand_here","_law_rail"]) (js:=[none,none]) rfl rfl rfl (jE K rfl false false rfl (B.at "zip") (O (pv 2) (O (px K (cD hr (pv 0) aX) az) aw))) (fun _ _ _ _ _=>(dJ K rfl (n:=2) rfl (bO (bf 0 (fJ (by decide))) (bO (bf 1 (fJ (by decide))) dH)))) (fun _ _ _ _ _=>fw) (fun _ _ _ _ _=>(NS uY uY az (pv 0) (pv 1)))) aw)))) (aH (aQ (aG a0x aX (gX (x:="str") a9v rfl (B.at "str") pA (O (dQ K B (O (cD hr (pv 0) aX) aw)) aw))))) bM) (aA (bJ (bW (cP K rfl hr.units) (dQ K B (O (cD hr (pv 0) aX) aw)) az (bo _)) (aH (aQ aX)) bM) (aA (gW (fR hr.units) (pv 0) aX (pv 2) rfl) (aA (gW (fR hr.units) (pv 0) aX kE rfl) (aA (gF (je K rfl (cD hr (pv 0) aX) (O (pv 1) aw))) (aH (aQ (dQ K B (O (cD hr (pv 0) aX) aw))))))))))),?_⟩;refine⟨_,rfl,d,_,rfl,dg e Ia,?_⟩;refine⟨fun Z H1=>∃ga,Z=[some (.ref d),some v,some (.ref ga)]/\aP K H1 ga ((gI (cU S) o).map V.int)/\aB H H1,?_,?_⟩
   · obtain⟨a,wd,zs,rfl,ha,ew,sw⟩:=vy rv yg.it
     refine⟨_,rfl,.inr ⟨a,_,0,.str wd,rfl,rfl,ha,cW (gz 0) rfl,.inr ⟨_,_,cM _,cM _,sw,by decide+kernel,?_⟩⟩⟩;rw[ew];refine⟨_,rfl,?_⟩;cases o with |none=>obtain⟨ga,rfl,hg⟩:=rX r3;exact bB ⟨ga,rfl,hg,aB.refl _⟩ |some z=>
       obtain⟨ns,sp⟩:=z;refine bT ?_;have ed:=kj yg.it;subst ed;obtain⟨a',b,ea,Qb,hb⟩:=lI rv;cases ea;obtain⟨ga,rfl,hg⟩:=rX r3;have ln:ns.length=(cU S).length:=by rw[gl];exact(yg.ln ns sp rfl).1.len
       refine⟨_,rfl,_,rfl,.inr ⟨a,_,1,.ref b,rfl,rfl,Qb,rfl,ga,b,rfl,⟨_,hg⟩,⟨_,hb⟩,fun D1 H1 n1=>?_⟩⟩;refine RR hg hb ln (by lia) n1 (fun x y H Q h=>⟨_,rfl,_,rfl,_,_,rfl,rfl,h⟩) fun H2 s2 d2=>?_;refine⟨D1,_,rfl,.inl ⟨aE.of d2,fun t H3 n3=>?_⟩⟩;exact⟨t,rfl,aP.of n3.at',s2.trans n3.same⟩
   · rintro Z H1 ⟨ga,rfl,hg,s1⟩
     have e1:=s1 _ _ e;refine⟨_,rfl,_,rfl,d,_,rfl,dg e1 yC,.inr ⟨ma,_,0,.ref mb,rfl,rfl,gC.go s1,rfl,ga,mb,rfl,⟨_,hg⟩,⟨_,jn.go s1⟩,fun D1 H2 n2=>?_⟩⟩;refine a9i hg (jn.go s1) bl (by lia) n2 (fun x y H Q h=>?_) fun H3 bs s3 d3 eb=>?_
     · refine⟨_,rfl,_,_,rfl,rfl,_,rfl,?_⟩
       refine dR (fun h0=>?_) (fun h0=>?_)
       · rw[h0,jV]at h
         exact⟨_,rfl,_,_,rfl,rfl,h⟩
       · rw[wN.mpr h0,ku]at h
         exact h
     refine⟨D1,_,rfl,aE.of d3,?_⟩;rw[eb];refine⟨_,rfl,?_⟩;have cY:=s1.trans s3;have e3:=cY _ _ e;have eq3:=cY _ _ eq;have kR:sizeLine=16777216:=by decide
     cases ho:pV M.rs (gI (cU S) o)with
     |false=>
       refine bT ?_;refine⟨_,rfl,d,_,rfl,dg e3 m7,q,_,rfl,.inl (aE.of eq3),.inl ⟨_,rfl,?_,?_⟩⟩
       · have:ys.length<=20:=by lia
         exact a3m (by show(ys.length:Int).natAbs<10^40;lia)
       · have el:((ys.length:Nat):Int)=(S.ds.length:Int):=by rw[ly]
         refine⟨_,_,rfl,rfl,?_,?_⟩
         · rw[el]
           have e6:Str.length "rails "=6:=by decide+kernel
           have:(Str.ofString (toString (S.ds.length:Int))).length<=41:=Wu (by lia)
           lia
         ·rw[el];exact k1 ho H3 cY |true=>
       refine bB ?_;refine⟨_,rfl,d,_,rfl,dg e3 m7,q,_,rfl,.inl (aE.of eq3),.inl ⟨_,_,rfl,rfl,_,rfl,?_⟩⟩;refine dR (fun kS=>?_) (fun kS=>?_)
       · have kS:((ys.length:Nat):Int)=20:=jx kS
         exact k2 ho (by lia) H3 cY
       · have kS:¬((ys.length:Nat):Int)=20:=fun z=>kS (cB z)
         refine⟨_,rfl,_,rfl,d,_,rfl,dp e3 a0j lj,?_⟩;refine⟨_,rfl,d,_,rfl,dp ba An lj,?_⟩;have QU:∀{X:Hp}{o':HO},X q=some (.lst ys)->(L2.upd X d o') q=some (.lst ys):=fun h=>by rw[aK dq.symm];exact h
         have eq5:=QU (o':=.dK (bE (.ref ma) lv (.ref ga) sv (.int S.ay) (.str S.side) (.str S.mark) (.ref q) (.int S.dn) bv cv .bp (.ref td))) (QU (o':=.dK (bE (.ref ma) lv (.ref ga) sv (.int S.ay) (.str S.side) (.str S.mark) (.ref q) (.int S.dn) bv cv re (.ref td))) eq3);refine⟨_,rfl,d,_,rfl,dg ba m7,.inl ⟨rfl,_,aE.of eq5⟩,_,rfl,q,ys,_,rfl,rfl,eq5,by lia,?_⟩;have key:∀X:Hp,(∀b,b≠d->X b=H3 b)->X d=some (.dK (bE (.ref ma) lv (.ref ga) sv (.int S.ay) (.str S.side) (.str S.mark) (.ref q) (.int S.dn) bv cv .bp (.ref td)))->Q (.int (S.ds.length+1:Nat)) (L2.upd X q (.lst (ys++[v]))):=by
          intro X hX eX;have b3:bw [d,q] H (L2.upd X q (.lst (ys++[v]))):=fun b o' eb hb=>by have hd:b≠d:=fun z=>hb (by rw[z];simp);have hq:b≠q:=fun z=>hb (by rw[z];simp);rw[aK hq,hX b hd];exact cY _ _ eb
          have v0:=R.v b3;have v3:bR H1 (L2.upd X q (.lst (ys++[v]))):=fun b o' nb eb=>by
           have hd:b≠d:=fun z=>by rw[z,e1]at eb;cases eb;exact nb trivial
           have hq:b≠q:=fun z=>by rw[z,s1 _ _ eq]at eb;cases eb;exact nb trivial
           rw[aK hq,hX b hd];exact s3 _ _ eb
          have iv:=yg.it.no;refine k3 ho (by lia) _ ⟨⟨.ref ma,lv,.ref ga,sv,bv,cv,.bp,by rw[aK dq];exact eX,RD.v v0 _ (ki _ _ _ _ _) r1,?_,?_,r4.v v0,r5.v v0,.inl rfl⟩,ys++[v],ba,?_⟩ b3
          ·rw[ZL ok];exact RD.v v0 _ (jD _) r2
          ·rw[Qo];exact uT (aP.v v3 hg)
          ·exact(aI.v v0 _ ok.row.no rq).append (bQ (RD.v v0 _ iv rv) cL)
         refine⟨_,rfl,d,_,rfl,dg (by rw[aK dq];exact ba) m7,q,_,rfl,.inl (aE.of ba),?_⟩;rw[fo,List.length_singleton,ly];exact key _ (fun b hb=>by rw[aK hb,aK hb]) ba
theorem wO{z:Int}(h:z.natAbs<2^24):Bd 100 (z:Rat):=⟨by rw[Rat.num_intCast];exact JJ h (by decide),by rw[Rat.den_intCast];decide⟩
theorem xC{H:Hp}{a:Addr}{z:Int}(h:aP K H a [.int z,.int 1]):bc K H (.ref a) (z:Rat):=by refine⟨a,rfl,?_⟩;rw[Rat.num_intCast,Rat.den_intCast];exact h
theorem a3w{H:Hp}{Q:VK}{l:Addr}{u1 u2:V}{x y:Rat}(dl:H l=some (.lst [u1,u2]))(R1:bc K H u1 x)(R2:bc K H u2 y)(b1:Bd 2000 x)(b2:Bd 2000 y)(k:∀v,bc K H v (mn x y)->Q v H):jc K [.ref l] H Q E0:=by
 refine⟨l,[u1,u2],[x,y],rfl,aE.of dl,⟨R1,b1,R2,b2,trivial⟩,by simp,fun c v q e1 e2 hq=>k v ?_⟩;have e:mn x y=q:=by
  refine mK ?_ (hq _ (by simp)) (hq _ (by simp))
  match c,e2 with |0,e2=>cases e2;exact .inl rfl |1,e2=>cases e2;exact .inr rfl
 rw[e]
 match c,e1,e2 with |0,e1,e2=>cases e1;cases e2;exact R1 |1,e1,e2=>cases e1;cases e2;exact R2
inductive TN(K:aa)(vs:List V)(H:Hp)(Q:VK):Prop |mk (d:_)(q:_)(td:_)(M:_)(D:_)(S:_)(h0:vs=[.ref d])(h1:eO K H d q td M S)(h2:cA M D S)(h3:M.Ok)(h4:S.os≠[])(h5:∀v H',bc K H' v (fu M S)->aB H H'->Q v H'):TN K vs H Q
def Lh(K:aa):Sp:=fun vs H Q _=>TN K vs H Q
theorem M8:bh ["_law_sim_here","_law_machine_here","_law_items","_law_bounds_here","_law_reach_here","_law_border"] ["_law_sim_here"] (aR E2):=bG (by decide+kernel)
theorem a0T(F:FA K mg "_law_reach" E2)(B:bL mg)(a6F:aD P w K mg base "_law_bounds" 3 (LB K))(vQ:aD P w K mg base "_law_sum" 2 (mC (·+·) K))(qw:aD P w K mg base "_law_lead" 1 (lg K))(tK:aD P w K mg base "_law_min" 2 (jc K)):aD P w K mg base "_law_reach" 4 (Lh K):=by
 refine F.has M8 (fun vs H Q E h=>?_) (fun _ _ _ _ _ _=>fg fun _=>rfl) (fun fa aJ A outer s H vs Q E hr h=>?_)
 · obtain⟨d,q,td,M,D,S,rfl,_⟩:=h
   rfl
 · obtain⟨d,q,td,M,D,S,rfl,R,ok,aM,dy,k⟩:=h
   obtain⟨mv,lv,gv,sv,bv,cv,re,e,r1,r2,r3,r4,r5,r6⟩:=R.ob;obtain⟨ys,eq,rq⟩:=R.qu;have nd:=M8.nd;have ly:=rq.length;have AU:=ok.len;have ll:=ok.row.len;have sX:1<=S.os.length:=by cases e:S.os with|nil=>exact(dy e).elim|cons _ _=>simp
   have qA:=aM.f1;have AH:=aM.len;have hB:=Ow.G3 aM.j1.1 aM.j1.2 ok.dk ok.dF ok.row.vc;have hN:=Ow.O0 M.j S.ay S.os;have h0:=Ow.G2 M.j S.ay S.os S.os.length rfl;have hL:∀i m,leadF S.os i=some m->(2*M.f*(m:Int)).natAbs<2^24:=fun i m e=>Kf aM.f1.1 aM.f1.2 (P5 ok.row.vc e);have FB:∀i,i<=S.os.length->Bd 1700 (fl S.os.length (leadF S.os) (2*M.f) (ownF M.j S.ay S.os) i):=fun i hi=>(QC (fun i _=>hB i) hL i hi).mono (by lia);have FN:=a7d (n:=S.os.length) (L:=leadF S.os) (f:=2*M.f) (g:=ownF M.j S.ay S.os) (by lia) (fun i _=>hN i);obtain⟨ma,mb,rfl,gC,jn⟩:=kI r1;refine⟨_,(aA (om (i:=1) (j:=2) rfl nd rfl rfl (by decide) rfl rfl (O (cD hr (pv 0) aX) (O (cD hr (pv 0) aX) aw)) rfl) (aA (pS 3 nd (pf a6F hr (O (pv 1) (O (pv 2) (O (cD hr (pv 0) aX) aw))))) (aA (pS 4 nd (dP (O az (O az aw)))) (aA (lF gL rfl (ZS rfl (B.at "range") (O (aG fY (dQ K B (O (pv 2) aw)) az) (O az (O (xG wV az) aw)))) (bf 5 nd) (aA (gU (bJ (bW (cP K rfl hr.units) (px K (px K (pv 2) (pv 5)) az) aX (bo _)) (aH (pS 4 nd (pf vQ hr (O (pv 4) (O (dP (O (aG bu (aG bu az (px K (pv 1) az)) (pf qw hr (O (px K (pv 2) (pv 5)) aw))) (O az aw))) aw))))) bM)) (aH (pS 4 nd (pf tK hr (O (df (O (pv 4) (O (px K (pv 3) (pv 5)) aw))) aw)))))) (aH (aQ (pv 4))))))),?_⟩;refine⟨_,rfl,d,_,rfl,dg e yC,_,rfl,d,_,rfl,dg e m7,_,_,rfl,?_⟩;refine⟨_,rfl,_,rfl,_,rfl,d,_,rfl,dg e HV,?_⟩;refine⟨.ref ma,.ref q,S.ay,M.rs,M.r,M.f,M.j,M.t,S.ds,S.os,rfl,r1,aM,lB (aE.of eq) rq,ok.row,by lia,ok.dk,ok.dF,fun l zs H1 nl dl rz s1=>?_⟩;refine⟨bP rfl,fun t H2 n2=>?_⟩;have s2:=s1.trans n2.same;refine⟨_,rfl,q,_,rfl,.inl (aE.of (s2 _ _ eq)),_,_,rfl,rfl,_,rfl,_,_,rfl,⟨by lia,by lia,by decide,by decide⟩,?_⟩;have eN:((ys.length:Int)-1-0).toNat=S.os.length-1:=by lia
   rw[eN];have rz:aI K H1 zs ((lst S.os.length (ownF M.j S.ay S.os)).map cH):=rz;have lz:=rz.length;rw[cj,qc]at lz;refine a7a (Pv:=fun i Z H5=>aB H2 H5/\∃v w5,bc K H5 v (fl S.os.length (leadF S.os) (2*M.f) (ownF M.j S.ay S.os) (S.os.length-i))/\Z=[some (.ref d),some (.ref ma),some (.ref q),some (.ref l),some v,w5]) ?_ ?_ ?_
   · refine⟨aB.refl _,.ref t,none,?_,rfl⟩
     rw[Nat.sub_zero,vU,h0];exact⟨t,rfl,aP.of n2.at'⟩
   · rintro i Z H5 Bj ⟨s5,v,w5,rv,rfl⟩
     obtain⟨c,hc⟩:∃c,S.os.length-1-i=c:=⟨_,rfl⟩;have lK:c<S.os.length:=by lia
     have eI:((ys.length:Int)-1-(i:Int))=(c:Int):=by lia
     rw[eI];have rL:=s2.trans s5;have IJ:S.os.length-i=c+1:=by lia
     rw[IJ]at rv;obtain⟨x,hx⟩:∃x,ys[c]? =some x:=⟨_,bZ (show c<ys.length by lia)⟩;obtain⟨dd,ed,rd⟩:=rq.get' c hx;obtain⟨o,eo,it⟩:=ok.row.get ed;have yS:fA ys (c:Int)=some x:=cW (by lia) (by simpa using hx);obtain⟨z0,yK⟩:∃z,zs[c]? =some z:=⟨_,bZ (show c<zs.length by lia)⟩;have R0:bc K H1 z0 (ownF M.j S.ay S.os c):=by obtain⟨d1,e1,Zu⟩:=rz.get' c yK;rw[cu,qe _ (show c<=S.os.length by lia)]at e1;cases e1;exact mG Zu
     have Jf:fA zs (c:Int)=some z0:=cW (by lia) (by simpa using yK);have eq5:=rL _ _ eq;obtain⟨a,wd,yw,rfl,h1,ew,sw⟩:=vy (RD.mono rL _ rd) it;have ei:S.os.length-(i+1)=c:=by lia
     refine⟨fun Z H6=>aB H5 H6/\∃v' x',bc K H6 v' x'/\Bd 2000 x'/\mn x' (ownF M.j S.ay S.os c)=fl S.os.length (leadF S.os) (2*M.f) (ownF M.j S.ay S.os) c/\Z=[some (.ref d),some (.ref ma),some (.ref q),some (.ref l),some v',some (.int c)],?_,?_⟩
     · refine⟨_,rfl,_,rfl,.inl ⟨q,_,_,_,rfl,rfl,aE.of eq5,yS,.inr ⟨a,_,0,.str wd,rfl,rfl,h1,cW (gz 0) rfl,.inr ⟨_,_,cM _,cM _,sw,sO,_,rfl,?_⟩⟩⟩⟩
       rw[ew];cases o with |none=>
         refine bB ⟨aB.refl _,v,_,rv,(FB (c+1) (by lia)).mono (by decide),?_,rfl⟩;have hz:ownF M.j S.ay S.os c=0:=by cases c with |zero=>rfl |succ c'=>show betR M.j S.ay (atO S.os c') (atO S.os (c'+1))=0;rw[Ow.p7 eo,Ow.C0]
         rw[vT lK (P4 eo),hz];exact mK (.inr rfl) (FN (c+1) (by lia)) (qT) |some z=>obtain⟨ns,sp⟩:=z;refine bT ?_;have kU:=kj it;subst kU;obtain⟨eG,_,_⟩:=ok.row.ok c ns sp eo;have us:=hL c _ (AS eo);refine⟨_,rfl,_,rfl,.inr ⟨ma,_,2,.int M.f,rfl,rfl,gC.go rL,rfl,_,_,rfl,rfl,.of_left (bV (by decide) (by decide)),?_⟩⟩;refine⟨_,rfl,_,rfl,.inl ⟨q,_,_,_,rfl,rfl,aE.of eq5,yS,?_⟩⟩;refine⟨_,ns,sp,rfl,RD.mono rL _ rd,eG.ne,by rw[eG.len];lia,fun H6 s6=>?_⟩;refine⟨_,_,rfl,rfl,.of_left (bV (by lia) (by lia)),?_⟩;refine⟨bP rfl,fun tq H7 n7=>?_⟩;refine⟨v,.ref tq,_,_,rfl,(rv.go s6).go n7.same,xC (aP.of n7.at'),(FB (c+1) (by lia)).mono (by decide),(wO us).mono (by decide),fun u H8 ru s8=>?_⟩;refine⟨s6.trans (n7.same.trans s8),u,_,ru,(C5 (FB (c+1) (by lia)) us).mono (by decide),?_,rfl⟩;rw[vV lK (AS eo)];exact mK ((xZ _ _).symm.imp id id) (kh _ _) (gj _ _)
     · rintro Z H6 ⟨s6,v',x',cF,bx,ex,rfl⟩
       have jY:=n2.same.trans (s5.trans s6);refine⟨_,rfl,_,rfl,_,rfl,.inl ⟨l,_,_,_,rfl,rfl,aE.of (jY _ _ dl),Jf,?_⟩⟩;refine⟨bP rfl,fun l2 H7 n7=>?_⟩;refine a3w n7.at' (cF.go n7.same) (R0.go (jY.trans n7.same)) bx ((hB c).mono (by decide)) fun u ru=>?_;refine⟨s5.trans (s6.trans n7.same),u,_,?_,rfl⟩;rw[ei,<-ex];exact ru
   · rintro Z H5 ⟨s5,v,w5,rv,rfl⟩
     have e1:S.os.length-(S.os.length-1)=1:=by lia
     rw[e1]at rv;exact⟨_,rfl,k v H5 rv (s2.trans s5)⟩
theorem aad{pl ns:List Int}(h:ns.length=pl.length)(k:Nat):fL (fL pl (ip ns k)) (gQ ns k)=fL pl (ip ns (k+1)):=by
 apply qX;intro i;unfold fL ip gQ;simp only[CG,cu];cases pl[i]? <;>cases ns[i]? <;>simp
 lia
theorem aac{pl ns:List Int}(h:ns.length=pl.length)(hq:0<aF ns):fL pl (ip ns 0)=pl:=by
 apply qX;intro i;unfold fL ip;simp only[CG,cu];by_cases hi:i<pl.length
 · rw[bZ hi,bZ (show i<ns.length by lia)]
   simp[Gj (show(0:Int)<(aF ns:Int) by lia)]
 ·rw[la (by lia)]
theorem Xv{ns:List Int}(hq:0<aF ns):ip ns (aF ns)=ns:=by
 unfold ip;have:(fun z=>hJ ((aF ns:Int)*z) (aF ns:Int))=fun z=>z:=by funext z;exact a2r (by lia)
 rw[this,List.map_id']
theorem ZM{S:bj}{ns:List Int}{sp:Int}(eo:S.os[0]? =some (some (ns,sp)))(h:ns.length=S.pl.length)(hq:0<aF ns):fj S=fL S.pl (ip ns S.dn):=by
 unfold fj;by_cases h0:S.dn=0
 ·rw[aY h0,h0];exact(aac h hq).symm
 ·rw[aZ h0,eo]
theorem ZK{M:bN}{S:bj}{ns:List Int}{sp:Int}(eo:S.os[0]? =some (some (ns,sp)))(h:ns.length=S.pl.length)(hq:0<aF ns)(hd:S.dn<aF ns):fL (fj S) (gQ ns S.dn)=fj (fy ns (fz M S ns sp)):=by
 rw[ZM eo h hq,aad h];unfold fy;by_cases he:S.dn+1=aF ns
 · rw[aY (show(fz M S ns sp).dn=aF ns from he)]
   obtain⟨fH,hZ⟩:∃fH,S.os=some (ns,sp)::fH:=by cases e:S.os with |nil=>rw[e]at eo;simp at eo |cons a r=>rw[e]at eo;cases eo;exact⟨r,rfl⟩
   have e1:((S.dn:Int)+1)=(aF ns:Int):=by lia
   rw[e1,Xv hq];unfold fj iO;have:(fz M S ns sp).os=some (ns,sp)::fH:=hZ;rw[this];rfl
 · rw[aZ (show¬(fz M S ns sp).dn=aF ns from he)]
   unfold fj;rw[aZ (show¬(fz M S ns sp).dn=0 from Nat.succ_ne_zero _)];have:(fz M S ns sp).os[0]? =some (some (ns,sp)):=eo;rw[this];show _=fL S.pl (ip ns ((S.dn+1:Nat):Int));rfl
theorem Qn{M:bN}{S:bj}{ns:List Int}{sp:Int}(eo:S.os[0]? =some (some (ns,sp))):cU (fy ns (fz M S ns sp))=cU S:=by
 unfold fy;split
 · obtain⟨fH,hZ⟩:∃fH,S.os=some (ns,sp)::fH:=by cases e:S.os with |nil=>rw[e]at eo;simp at eo |cons a r=>rw[e]at eo;cases eo;exact⟨r,rfl⟩
   unfold cU iO;have:(fz M S ns sp).os=some (ns,sp)::fH:=hZ;rw[this,hZ];rfl
 ·rfl
theorem OH(a b c:Rat):mn (mn b a) c=mn (mn a b) c:=by rw[OF b a]
theorem OG(a b c d:Rat):mn (mn (mn b a) c) d=mn (mn (mn a b) c) d:=by rw[OF b a]
theorem QA{sq:Rat}{a b:Int}(hb:b≠0):Rat.divInt (sq.num*a) ((sq.den:Int)*b)=sq*Rat.divInt a b:=by
 conv=>rhs;rw[<-qS sq]
 rw[Vy]
end
end Lw
set_option maxHeartbeats 4000000
namespace Lw
open PySem PySem.Spec PyProof.Rows L2 Rt Ln Cn Pn Wk Rn
open Ow (topR cornO mnO betR atO ownF leadF ownL OkI OkIs)
section
variable {w:World}{mg:Str->Option Value}{base:Heap}
theorem a9g{pa b:Addr}{xs ys:List Int}{te:TE}{Q:VK}{D:Addr}{H H1:Hp}(hp:aP K H pa (xs.map V.int))(hb:aP K H b (ys.map V.int))(ln:ys.length=xs.length)(hz:xs.length<=1000)(n1:Nw H H1 D (.lst [])) (ht:∀(x y:Int)(H:Hp)(Q:VK),Q (.int (y-x)) H->te [some (.int x),some (.int y)] H Q)(k:∀H2,aB H H2->H2 D=some (.lst ((List.zipWith (fun x y=>y-x) xs ys).map V.int))->Q (.ref D) H2):iD (mj K false false pa b) (oU K 2 (jJ (eK 0) (jJ (eK 1) qz))) gO te Q D [none,none] H1:=by
  refine tX (K:=K) (b1:=false) (b2:=false) (xs:=xs.map V.int) (ys:=ys.map V.int) (ds:=(List.zipWith (fun x y=>y-x) xs ys).map PyData.int) [] rfl hp hb n1 (by simp[ln]) (by rw[cj,List.length_zipWith];lia) (kF _) ?_ ?_
  · intro i x y d H2 Q' ex ey ed s2 hq
    obtain⟨m,em,rfl⟩:=lU ed;rw[cu]at ex ey;cases e1:xs[i]? with |none=>rw[e1]at ex;cases ex |some u=>cases e2:ys[i]? with |none=>rw[e2]at ey;cases ey |some v=>rw[e1]at ex;rw[e2]at ey;cases ex;cases ey;rw[CG,e1,e2]at em;cases em;exact ht _ _ _ _ (hq _ _ (aB.refl _) (dN _))
  · intro H2 zs s2 d2 r2
    rw[r2.iM]at d2;exact k H2 s2 d2
theorem YD(ns:List Int)(k:Nat):List.zipWith (fun x y=>y-x) (ip ns (k:Int)) (ip ns ((k:Int)+1))=gQ ns k:=by apply qX;intro i;unfold ip gQ;simp only[CG,cu];cases ns[i]? <;>simp
theorem QQ{H:Hp}{ys:List V}{ds:List ai}(h:aI K H ys ds):aI K H (ys.eraseIdx 0) ds.tail:=by have:=h.drop 1;rw[List.drop_one,List.drop_one]at this;rw[List.eraseIdx_zero];exact this
theorem NK{M:bN}{D:Nat}{S:bj}(ok:cA M D S):(fj S).length=M.rs.length:=by
 unfold fj;split
 ·exact ok.pl
 · split
   ·next ns sp eo=>rw[qI (by rw[ok.pl];simp[ip];exact(ok.row.ok 0 ns sp eo).1.len)];exact ok.pl
   ·exact ok.pl
inductive TM(K:aa)(vs:List V)(H:Hp)(Q:VK):Prop |mk (d:_)(q:_)(td:_)(M:_)(D:_)(S:_)(ns:_)(sp:_)(h0:vs=[.ref d])(h1:eO K H d q td M S)(h2:cA M D S)(h3:M.Ok)(h4:S.os[0]? =some (some (ns,sp)))(h5:¬Halt S.pc S.aU)(h6:∀v H',RD K H' v (mM M S ns sp)->eO K H' d q td M (fy ns (fz M S ns sp))->bw [d,q] H H'->Q v H'):TM K vs H Q
def Lg(K:aa):Sp:=fun vs H Q _=>TM K vs H Q
theorem M7:bh ["_law_sim_here","_law_machine_here","_law_line_here","_law_w","_law_rest","_law_reach_here","_law_tops","_law_square","_law_behind","_law_start","_law_many","_law_more","_law_row"] ["_law_sim_here"] (aR E1):=bG (by decide+kernel)
theorem a0S(F:FA K mg "_law_sim_step" E1)(B:bL mg)(qw:aD P w K mg base "_law_lead" 1 (lg K))(a6y:aD P w K mg base "_law_reach" 4 (Lh K))(Bs:aD P w K mg base "_law_top" 2 (Dl K))(vQ:aD P w K mg base "_law_sum" 2 (mC (·+·) K))(qx:aD P w K mg base "_law_frac" 1 (xi K))(Qd:aD P w K mg base "_law_stand" 2 (KZ K))(tK:aD P w K mg base "_law_min" 2 (jc K))(a6r:aD P w K mg base "_law_ticks" 1 (KW K)):aD P w K mg base "_law_sim_step" 5 (Lg K):=by
 refine F.has M7 (fun vs H Q E h=>?_) (fun _ _ _ _ _ _=>fg fun _=>rfl) (fun fa aJ A outer s H vs Q E hr h=>?_)
 · obtain⟨d,q,td,M,D,S,ns,sp,rfl,_⟩:=h
   rfl
 · obtain⟨d,q,td,M,D,S,ns,sp,rfl,R,ok,aM,eo,nh,k⟩:=h
   obtain⟨mv,lv,gv,sv,bv,cv,rv,e,r1,r2,r3,r4,r5,r6⟩:=R.ob;obtain⟨ys,eq,rq⟩:=R.qu;have dq:=R.ne;have nd:=M7.nd;have ll:=ok.row.len;have AU:=ok.len;have AH:=aM.len;have D1:=ok.D1;have D2:=ok.D2;have Ai:=aM.r1;have qA:=aM.f1;have oK:0<S.os.length:=(dC.mp eo).1;have dy:S.os≠[]:=fun z=>by rw[z]at oK;simp at oK
   obtain⟨dd,ed⟩:∃dd,S.ds[0]? =some dd:=⟨_,bZ (show 0<S.ds.length by lia)⟩;obtain⟨y,ey,ry⟩:=rq.get 0 ed;have kU:=kj (ok.row.it 0 dd _ ed eo);subst kU;obtain⟨eG,gA,gP⟩:=ok.row.ok 0 ns sp eo;have P8:=yd eG;have fk:=eG.lead.1;have hd:S.dn<aF ns:=by
    rcases ok.dn with z|⟨xP,xl,e1,e2⟩
    ·rw[z];exact fk
    ·rw[eo]at e1;cases e1;exact e2
   obtain⟨Rd,Rl⟩:=FG ok.raw aM dy;have Ko:=CZ S.ay sp;have tl:=zN gA gP ok.dk ok.dF;obtain⟨ma,mb,rfl,gC,jn⟩:=kI r1;refine⟨_,(aA (om (i:=1) (j:=2) rfl nd rfl rfl (by decide) rfl rfl (O (cD hr (pv 0) aX) (O (px K (cD hr (pv 0) aX) az) aw)) rfl) (aA (pS 3 nd (cD hr (pv 0) aX)) (aA (pS 4 nd (aG fY (pf qw hr (O (pv 2) aw)) (cD hr (pv 0) aX))) (aA (gU (bJ (bW a0r (cD hr (pv 0) aX) kE (bo _)) (aH (gW (fR hr.units) (pv 0) aX (pf a6y hr (O (pv 0) aw)) rfl)) bM)) (aA (pS 5 nd (cD hr (pv 0) aX)) (aA (pS 6 nd (df (O (pf Bs hr (O (pv 2) (O (cD hr (pv 0) aX) aw))) aw))) (aA (pS 7 nd (aG (wm K rfl) (pv 6) (df (O (pf vQ hr (O (pv 3) (O (dP (O (px K (pv 1) az) (O az aw))) aw))) (O (pf vQ hr (O (pv 5) (O (dP (O (aG bu (px K (pv 1) az) (aG fY (aG bu az (pv 4)) az)) (O az aw))) aw))) aw))))) (aA (pS 8 nd (aG (wm K rfl) (pv 6) (df (O (pf vQ hr (O (pv 3) (O (dP (O (aG bu az (px K (pv 1) az)) (O az aw))) aw))) (O (pf vQ hr (O (pv 5) (O (dP (O (aG bu (aG bu az (px K (pv 1) az)) (aG fY (pv 4) az)) (O az aw))) aw))) aw))))) (aA (gU (bJ (bW xI (cD hr (pv 0) aX) kE (bo _)) (aA (fO (cD hr (pv 0) aX) (dJ K rfl (n:=2) rfl (bO (bf 9 nd) (bO (bf 10 nd) dH)))) (aA (gW (fR hr.units) (pv 0) aX (aG cJ (cD hr (pv 0) aX) az) rfl) (aA (pS 11 nd (aG fY (pv 10) (cD hr (pv 0) aX))) (aA (gF (je K rfl (pv 7) (O (pf qx hr (O (aG bu (px K (pv 9) az) (aG cJ (aG bu az (pv 11)) az)) (O (aG bu (aG bu (px K (pv 9) az) az) (pv 10)) aw))) aw))) (aH (gF (je K rfl (pv 8) (O (pf qx hr (O (aG bu (px K (pv 9) az) (pv 11)) (O (aG bu (px K (pv 9) az) (pv 10)) aw))) aw)))))))) bM)) (aA (pS 12 nd (gX (x:="tuple") (ky K rfl) rfl (B.at "tuple") fD (O (fW (N:=["_law_a","_law_b"]) (js:=[none,none]) rfl rfl rfl (jE K rfl false false rfl (B.at "zip") (O (pf Qd hr (O (pv 2) (O (cD hr (pv 0) aX) aw))) (O (pf Qd hr (O (pv 2) (O (aG cJ (cD hr (pv 0) aX) az) aw))) aw))) (fun _ _ _ _ _=>(dJ K rfl (n:=2) rfl (bO (bf 0 (fJ (by decide))) (bO (bf 1 (fJ (by decide))) dH)))) (fun _ _ _ _ _=>fw) (fun _ _ _ _ _=>(aG fY (pv 1) (pv 0)))) aw))) (aA (gW (fR hr.units) (pv 0) aX (gX (x:="tuple") (ky K rfl) rfl (B.at "tuple") fD (O (fW (N:=["_law_stand_here","_law_step"]) (js:=[none,none]) rfl rfl rfl (jE K rfl false false rfl (B.at "zip") (O (cD hr (pv 0) aX) (O (pv 12) aw))) (fun _ _ _ _ _=>(dJ K rfl (n:=2) rfl (bO (bf 0 (fJ (by decide))) (bO (bf 1 (fJ (by decide))) dH)))) (fun _ _ _ _ _=>fw) (fun _ _ _ _ _=>(aG cJ (pv 0) (pv 1)))) aw)) rfl) (aA (gW (fR hr.units) (pv 0) aX (pf tK hr (O (pv 8) aw)) rfl) (aA (gW (fR hr.units) (pv 0) aX (aG cJ (cD hr (pv 0) aX) az) rfl) (aA (gU (bJ (bW (cP K rfl hr.units) (pv 4) az (bo _)) (aA (gF (NT K rfl (cD hr (pv 0) aX) (O az aw))) (aA (gW (fR hr.units) (pv 0) aX az rfl) (aH (gW (fR hr.units) (pv 0) aX kE rfl)))) bM)) (aA (pS 7 nd (pf tK hr (O (pv 7) aw))) (aH (aQ (dP (O aX (O (pv 12) (O (pf a6r hr (O (pv 1) (O (pv 7) aw))) (O (pv 7) aw)))))))))))))))))))))),?_⟩;refine⟨_,rfl,d,_,rfl,dg e yC,_,rfl,d,_,rfl,dg e m7,.inl ⟨q,_,0,y,rfl,rfl,aE.of eq,cW (gz 0) ey,_,_,rfl,?_⟩⟩;refine⟨_,rfl,d,_,rfl,dg e vS,?_⟩;refine⟨_,rfl,y,ns,sp,rfl,ry,eG.ne,by rw[eG.len];lia,fun H1 s1=>?_⟩;refine⟨_,rfl,d,_,rfl,dg (s1 _ _ e) BA,_,_,rfl,rfl,?_⟩;refine⟨fun Z H2=>∃cF w5 w6 w7 w8 w9 kx nV zH,Z=[some (.ref d),some (.ref ma),some y,some sv,some (.int ((aF ns:Int)-S.dn)),w5,w6,w7,w8,w9,kx,nV,zH]/\bw [d] H H2/\H2 d=some (.dK (bE (.ref ma) lv gv sv (.int S.ay) (.str S.side) (.str S.mark) (.ref q) (.int S.dn) bv cv cF (.ref td)))/\bc K H2 cF (fu M S),?_,?_⟩
   · refine⟨_,rfl,d,_,rfl,dg (s1 _ _ e) Qt,rfl,_,rfl,?_⟩
     rcases r6 with rfl|r6
     · refine bT ?_
       refine⟨_,rfl,d,q,td,M,D,S,rfl,R.same ok.row.no s1,ok,aM,dy,fun v H2 Zs s2=>?_⟩;have e2:=s2 _ _ (s1 _ _ e);refine⟨_,rfl,d,_,rfl,dp e2 An lj,?_⟩;have v2:bR H2 (L2.upd H2 d (.dK (bE (.ref ma) lv gv sv (.int S.ay) (.str S.side) (.str S.mark) (.ref q) (.int S.dn) bv cv v (.ref td)))):=.upd e2 trivial;refine⟨v,_,_,_,_,_,_,_,_,rfl,fun b o eb hb=>?_,ba,Zs.v v2⟩;have oT:b≠d:=fun z=>hb (by rw[z];exact .head _);rw[aK oT];exact s2 _ _ (s1 _ _ eb)
     · obtain⟨ra,rfl,hra⟩:=r6
       refine bB ⟨_,_,_,_,_,_,_,_,_,rfl,.of s1,s1 _ _ e,ra,rfl,hra.go s1⟩
   · rintro Z H2 ⟨cF,w5,w6,w7,w8,w9,kx,nV,zH,rfl,Hs⟩
     have b2:=Hs.1;have e2:=Hs.2.1;have rR:=Hs.2.2;have v2:bR H H2:=b2.v fun x hx o' cQ=>by rw[cm]at hx;rw[hx,e]at cQ;cases cQ;trivial
     have R0:=r4.v v2;have Ym:=RD.v v2 _ (AM ns sp) ry;have Bf:=aP.v v2 gC;have l1:1<=(aF ns:Int)-S.dn:=by lia
     obtain⟨left,el⟩:∃left,(aF ns:Int)-S.dn=left:=⟨_,rfl⟩;have l2:left<=100:=by lia
     rw[el]at l1⊢;have kR:(2:Int)^24=16777216:=by decide
     have fl1:(M.f*(2*left-1)).natAbs<=50*200:=by rw[fF];exact ml (by lia) (by lia)
     have Ii:0<=M.f*(2*left-1):=jz (by lia) (by lia);have fl2:(2*M.f*(left-1)).natAbs<=100*100:=by rw[fF];exact ml (by lia) (by lia)
     have Ih:0<=2*M.f*(left-1):=jz (by lia) (by lia);have xH:Bd 2000 S.pc:=(ok.pd.bd (dU ok.pm (by decide+kernel))).mono (by lia);have RB:Bd 2000 (fu M S):=(Rd.bd (dU Rl (by decide+kernel))).mono (by decide);have tB:Bd 2000 (topR S.ay sp):=(Ko.bd (dU tl (by decide+kernel))).mono (by decide);have B1:Bd 2000 (S.pc+(M.r:Rat)):=qE ok.pd ok.pm (by lia) (by lia) (by lia);have B2:Bd 2000 (fu M S+((M.f*(2*left-1):Int):Rat)):=qE Rd Rl Ii (by lia) (by lia);have B3:Bd 2000 (S.pc+((2*M.r:Int):Rat)):=qE ok.pd ok.pm (by lia) (by lia) (by lia);have B4:Bd 2000 (fu M S+((2*M.f*(left-1):Int):Rat)):=qE Rd Rl Ih (by lia) (by lia);refine⟨_,rfl,d,_,rfl,dg e2 Qt,?_⟩;refine⟨_,rfl,_,rfl,d,_,rfl,dg e2 HV,y,ns,sp,S.ay,rfl,Ym,gA,gP,ok.dk,ok.dF,fun tv H3 rt s3=>?_⟩;have rt:bc K H3 tv (topR S.ay sp):=rt;refine⟨bP rfl,fun lt H4 n4=>?_⟩;have og:=s3.trans n4.same;refine⟨_,rfl,_,rfl,_,rfl,.inr ⟨ma,_,1,.int M.r,rfl,rfl,Bf.go og,rfl,bP rfl,fun t5 H5 n5=>?_⟩⟩;refine⟨sv,.ref t5,_,_,rfl,(R0.go og).go n5.same,xC (aP.of n5.at'),xH,(wO (by lia)).mono (by decide),fun u1 H6 kC s6=>?_⟩;have N9:=og.trans (n5.same.trans s6);refine⟨_,rfl,_,rfl,.inr ⟨ma,_,2,.int M.f,rfl,rfl,Bf.go N9,rfl,_,rfl,_,_,rfl,rfl,.of_left (bV (by decide) (by decide)),_,_,rfl,rfl,_,_,rfl,rfl,.of_left (bV (by lia) (by lia)),bP rfl,fun t7 H7 n7=>?_⟩⟩;refine⟨cF,.ref t7,_,_,rfl,(rR.go N9).go n7.same,xC (aP.of n7.at'),RB,(wO (by lia)).mono (by decide),fun u2 H8 rP s8=>?_⟩;refine⟨bP rfl,fun l9 H9 n9=>?_⟩;have Fg:=(n5.same.trans s6).trans ((n7.same.trans s8).trans n9.same);refine⟨lt,l9,_,_,rfl,rfl,aE.of (Fg _ _ n4.at'),aE.of n9.at',by show 3<=sizeLine;decide,fun lm jt jG=>?_⟩;have Fi:=Fg.trans jG.same;have xq:=og.trans Fi;refine⟨_,rfl,_,rfl,_,rfl,.inr ⟨ma,_,1,.int M.r,rfl,rfl,Bf.go xq,rfl,_,_,rfl,rfl,.of_left (bV (by decide) (by decide)),bP rfl,fun Xi iC ji=>?_⟩⟩;refine⟨sv,.ref Xi,_,_,rfl,(R0.go xq).go ji.same,xC (aP.of ji.at'),xH,(wO (by lia)).mono (by decide),fun u3 qO Fs kB=>?_⟩;have Nb:=xq.trans (ji.same.trans kB);refine⟨_,rfl,_,rfl,.inr ⟨ma,_,2,.int M.f,rfl,rfl,Bf.go Nb,rfl,_,_,rfl,rfl,.of_left (bV (by decide) (by decide)),_,rfl,_,_,rfl,rfl,_,_,rfl,rfl,.of_left (bV (by lia) (by lia)),bP rfl,fun Xg Jy AA=>?_⟩⟩;refine⟨cF,.ref Xg,_,_,rfl,(rR.go Nb).go AA.same,xC (aP.of AA.at'),RB,(wO (by lia)).mono (by decide),fun u4 Vp Fq fV=>?_⟩;refine⟨bP rfl,fun l15 H15 Az=>?_⟩;have Ab:=(ji.same.trans kB).trans ((AA.same.trans fV).trans Az.same);refine⟨lt,l15,_,_,rfl,rfl,aE.of ((Fi.trans Ab) _ _ n4.at'),aE.of Az.at',by show 3<=sizeLine;decide,fun le kX sM=>?_⟩;have xt:=Ab.trans sM.same;have A9:=xq.trans xt;have tR:=A9 _ _ e2;have C7:=rt.go (n4.same.trans (Fi.trans xt));have U1:=kC.go ((n7.same.trans s8).trans (n9.same.trans (jG.same.trans xt)));have U2:=rP.go (n9.same.trans (jG.same.trans xt));have U3:=Fs.go ((AA.same.trans fV).trans (Az.same.trans sM.same));have U4:=Fq.go (Az.same.trans sM.same);have dm:kX lm=some (.lst [tv,u1,u2]):=xt _ _ jG.at';have de:kX le=some (.lst [tv,u3,u4]):=sM.at';have N8:=og.trans Fg;have Na:=xq.trans Ab;have wg:d≠lm:=fun z=>by have:=jG.no;rw[<-z,N8 _ _ e2]at this;cases this
     have BO:d≠le:=fun z=>by have:=sM.no;rw[<-z,Na _ _ e2]at this;cases this
     have yb:lm≠le:=fun z=>by have:=sM.no;rw[<-z,Ab _ _ jG.at']at this;cases this
     have Av:H lm=none:=by cases e':H lm with |none=>rfl |some o=>have:=N8 _ _ (b2 _ _ e' (by rw[cm];exact wg.symm));rw[jG.no]at this;cases this
     have xS:H le=none:=by cases e':H le with |none=>rfl |some o=>have:=Na _ _ (b2 _ _ e' (by rw[cm];exact BO.symm));rw[sM.no]at this;cases this
     have Ka:bR H kX:=v2.trans A9.v;refine⟨fun Z HA=>∃eL w9 kx nV zH um ue,Z=[some (.ref d),some (.ref ma),some y,some sv,some (.int left),some cF,some (.ref lt),some (.ref lm),some (.ref le),w9,kx,nV,zH]/\bw [d,lm,le] kX HA/\HA d=some (.dK (bE (.ref ma) lv gv sv (.int S.ay) (.str S.side) (.str S.mark) (.ref q) (.int S.dn) bv eL cF (.ref td)))/\wD K HA bv eL (As S.aU)/\HA lm=some (.lst um)/\HA le=some (.lst ue)/\(∀H8 Q',bR HA H8->H8 lm=some (.lst um)->(∀v,bc K H8 v (lG M.r M.f S.pc (topR S.ay sp) (fu M S) left S.aU)->Q' v H8)->jc K [.ref lm] H8 Q' E0)/\(∀H8 Q',bR HA H8->H8 le=some (.lst ue)->(∀v,bc K H8 v (oy M.r M.f S.pc (topR S.ay sp) (fu M S) left S.aU)->Q' v H8)->jc K [.ref le] H8 Q' E0),?_,?_⟩
     · refine⟨_,rfl,d,_,rfl,dg tR BB,rfl,_,rfl,?_⟩
       cases hs:S.aU with |none=>
         have lD:=r5.v Ka;rw[hs]at lD;have Zr:=lD;obtain⟨rfl,_⟩:=lD;refine bB ⟨cv,_,_,_,_,_,_,rfl,bw.refl _ _,tR,Zr,dm,de,fun H8 Q' sV d8 kq=>AR d8 (C7.v sV) (U1.v sV) (U2.v sV) tB B1 B2 fun v rv=>kq v ?_,fun H8 Q' sV d8 kq=>AR d8 (C7.v sV) (U3.v sV) (U4.v sV) tB B3 B4 fun v rv=>kq v ?_⟩
         ·rw[OH]at rv;exact rv
         ·rw[OH]at rv;exact rv |some z=>
         obtain⟨sq,st,gn⟩:=z;have lD:=r5.v Ka;rw[hs]at lD;have sk:=ok.aU;rw[hs]at sk nh;obtain⟨g1,g2,g3⟩:=vg sk ok.pd.nn nh;obtain⟨gn0,gn1,zU,rH,rF,_,_⟩:=sk;obtain⟨ta,su,rfl,vB,⟨sa,rfl,PC⟩,rfl⟩:=lD;refine bT ?_;have zV:Bd 2000 sq:=(rH.bd rF).mono (by lia);refine⟨_,rfl,d,_,rfl,dg tR BB,ta,_,rfl,vB,rfl,_,_,rfl,_,_,rfl,rfl,?_⟩;refine⟨_,rfl,d,_,rfl,dg tR Qv,_,_,rfl,rfl,_,rfl,d,_,rfl,dp tR a0k lj,?_⟩;refine⟨_,rfl,_,rfl,d,_,rfl,dg ba Qv,_,_,rfl,rfl,?_⟩;have vA:bR kX (L2.upd kX d (.dK (bE (.ref ma) lv gv sv (.int S.ay) (.str S.side) (.str S.mark) (.ref q) (.int S.dn) (.ref ta) (.int (gn+1)) cF (.ref td)))):=.upd tR trivial;have we:(L2.upd kX d (.dK (bE (.ref ma) lv gv sv (.int S.ay) (.str S.side) (.str S.mark) (.ref q) (.int S.dn) (.ref ta) (.int (gn+1)) cF (.ref td)))) lm=some (.lst [tv,u1,u2]):=by rw[aK wg.symm];exact dm
         have BQ:(L2.upd kX d (.dK (bE (.ref ma) lv gv sv (.int S.ay) (.str S.side) (.str S.mark) (.ref q) (.int S.dn) (.ref ta) (.int (gn+1)) cF (.ref td)))) le=some (.lst [tv,u3,u4]):=by rw[aK BO.symm];exact de
         have eA:(L2.upd kX d (.dK (bE (.ref ma) lv gv sv (.int S.ay) (.str S.side) (.str S.mark) (.ref q) (.int S.dn) (.ref ta) (.int (gn+1)) cF (.ref td)))) d=some (.dK (bE (.ref ma) lv gv sv (.int S.ay) (.str S.side) (.str S.mark) (.ref q) (.int S.dn) (.ref ta) (.int (gn+1)) cF (.ref td))):=ba;have bA:∀b o,b≠d->kX b=some o->(L2.upd kX d (.dK (bE (.ref ma) lv gv sv (.int S.ay) (.str S.side) (.str S.mark) (.ref q) (.int S.dn) (.ref ta) (.int (gn+1)) cF (.ref td)))) b=some o:=fun b o hb eb=>by rw[aK hb];exact eb
         generalize L2.upd kX d (.dK (bE (.ref ma) lv gv sv (.int S.ay) (.str S.side) (.str S.mark) (.ref q) (.int S.dn) (.ref ta) (.int (gn+1)) cF (.ref td)))=HA at vA we BQ eA bA⊢;have Hd:=aP.v vA PC;have Hu:=den_pos sq;have dW:∀z:Int,0<z->z<=2000->0<(sq.den:Int)*z/\Wd ((sq.den:Int)*z):=fun z h1 h2=>by refine⟨iG Hu h1,gM (n:=2011) ?_ (by decide)⟩;rw[fF];exact kG zV.den (show z.natAbs<2^11 by lia)
         have kR:sizeLine=16777216:=by decide
         refine⟨_,rfl,.inl ⟨rfl,_,aE.of we⟩,_,rfl,.inr ⟨sa,_,0,_,rfl,rfl,Hd,rfl,_,rfl,_,_,rfl,rfl,.of_left (bV (by decide) (by decide)),_,_,rfl,rfl,_,_,rfl,rfl,.of_right (bV (by lia) (by lia)),?_⟩⟩;refine⟨_,rfl,.inr ⟨sa,_,1,_,rfl,rfl,Hd,rfl,_,_,rfl,rfl,.of_right (bV (by decide) (by decide)),_,rfl,_,_,rfl,rfl,.of_right (bV (by lia) (by lia)),?_⟩⟩;have W1:=dW (2*st) (by lia) (by lia);rw[<-uv]at W1;refine⟨_,_,rfl,W1.1,W1.2,fun x1 HB xy sB=>?_⟩;have qC:Rat.divInt (sq.num*(2*(st-(gn+1))+1)) ((sq.den:Int)*2*st)=sq*Rat.divInt (2*(st-gn-1)+1) (2*st):=by rw[uv,QA (show(2*st:Int)≠0 by lia),show st-(gn+1)=st-gn-1 by lia]
         have BH:Rat.divInt (sq.num*(st-(gn+1))) ((sq.den:Int)*st)=sq*Rat.divInt (st-gn-1) st:=by rw[QA (show(st:Int)≠0 by lia),show st-(gn+1)=st-gn-1 by lia]
         have xy:bc K HB x1 (sq*Rat.divInt (2*(st-gn-1)+1) (2*st)):=by rw[<-qC];exact xy
         have pB:Bd 2000 (sq*Rat.divInt (2*(st-gn-1)+1) (2*st)):=((rH.bd rF).mul (ka (n:=12) (by lia) (by lia) (by lia))).mono (by lia);have G1:Bd 2000 (sq*Rat.divInt (st-gn-1) st):=((rH.bd rF).mul (ka (n:=12) (by lia) (by lia) (by lia))).mono (by lia);have Rp:=sB _ _ we;refine⟨lm,_,_,rfl,rfl,Rp,by show 3<sizeLine;lia,?_⟩;have vC:bR HB (L2.upd HB lm (.lst ([tv,u1,u2]++[x1]))):=.upd Rp trivial;have IW:(L2.upd HB lm (.lst ([tv,u1,u2]++[x1]))) le=some (.lst [tv,u3,u4]):=by rw[aK yb.symm];exact sB _ _ BQ
         have Ro:(L2.upd HB lm (.lst ([tv,u1,u2]++[x1]))) lm=some (.lst [tv,u1,u2,x1]):=ba;have eC:(L2.upd HB lm (.lst ([tv,u1,u2]++[x1]))) d=some (.dK (bE (.ref ma) lv gv sv (.int S.ay) (.str S.side) (.str S.mark) (.ref q) (.int S.dn) (.ref ta) (.int (gn+1)) cF (.ref td))):=by rw[aK wg];exact sB _ _ eA
         have bC:∀b o,b≠lm->HB b=some o->(L2.upd HB lm (.lst ([tv,u1,u2]++[x1]))) b=some o:=fun b o hb eb=>by rw[aK hb];exact eb
         generalize L2.upd HB lm (.lst ([tv,u1,u2]++[x1]))=HC at vC IW Ro eC bC⊢;have PD:=aP.v vC (Hd.go sB);refine⟨_,rfl,.inl ⟨rfl,_,aE.of IW⟩,_,rfl,.inr ⟨sa,_,0,_,rfl,rfl,PD,rfl,_,rfl,_,_,rfl,rfl,.of_right (bV (by lia) (by lia)),?_⟩⟩;refine⟨_,rfl,.inr ⟨sa,_,1,_,rfl,rfl,PD,rfl,_,rfl,_,_,rfl,rfl,.of_right (bV (by lia) (by lia)),?_⟩⟩;have W2:=dW st (by lia) (by lia);refine⟨_,_,rfl,W2.1,W2.2,fun x2 HD xx sD=>?_⟩;have xx:bc K HD x2 (sq*Rat.divInt (st-gn-1) st):=by rw[<-BH];exact xx
         have RH:=sD _ _ IW;refine⟨le,_,_,rfl,rfl,RH,by show 3<sizeLine;lia,?_⟩;have vE:bR HD (L2.upd HD le (.lst ([tv,u3,u4]++[x2]))):=.upd RH trivial;have W9:=sB.v.trans vC;have Kb:=sD.v.trans vE;have pI:=vA.trans (W9.trans Kb);refine⟨.int (gn+1),_,_,_,_,[tv,u1,u2,x1],[tv,u3,u4,x2],rfl,fun b o' eb hb=>?_,?_,⟨ta,.ref sa,rfl,aP.v pI vB,⟨sa,rfl,aP.v pI PC⟩,rfl⟩,?_,ba,fun H' Q' sV d' kq=>?_,fun H' Q' sV d' kq=>?_⟩
         · have ha:b≠d:=fun z=>hb (by rw[z];simp)
           have Ho:b≠lm:=fun z=>hb (by rw[z];simp);have hle:b≠le:=fun z=>hb (by rw[z];simp);rw[aK hle];exact sD _ _ (bC _ _ Ho (sB _ _ (bA _ _ ha eb)))
         ·rw[aK BO];exact sD _ _ eC
         ·rw[aK yb];exact sD _ _ Ro
         · refine AQ d' ((C7.v pI).v sV) ((U1.v pI).v sV) ((U2.v pI).v sV) (((xy.v vC).v Kb).v sV) tB B1 B2 pB fun v rv=>kq v ?_
           rw[OG]at rv;exact rv
         · refine AQ d' ((C7.v pI).v sV) ((U3.v pI).v sV) ((U4.v pI).v sV) ((xx.v vE).v sV) tB B3 B4 G1 fun v rv=>kq v ?_
           rw[OG]at rv;exact rv
     · rintro Z HA ⟨eL,w9,kx,nV,aaM,um,ue,rfl,tG⟩
       have bt:=tG.1;have eA:=tG.2.1;have KJ:=tG.2.2.1;have we:=tG.2.2.2.1;have BQ:=tG.2.2.2.2.1;have km:=tG.2.2.2.2.2.1;have ke:=tG.2.2.2.2.2.2;have C1:bw [d] H HA:=fun b o' eb hb=>by
        have ha:b≠d:=fun z=>hb (by rw[z];simp);refine bt b o' (A9 _ _ (b2 _ _ eb hb)) fun hm=>?_;simp only[bI,cC,dv]at hm;rcases hm with h|h|h
        ·exact ha h
        ·rw[h,Av]at eb;cases eb
        ·rw[h,xS]at eb;cases eb
       have CQ:bR H HA:=C1.v fun x hx o' cQ=>by rw[cm]at hx;rw[hx,e]at cQ;cases cQ;trivial
       have Wf:bR kX HA:=bt.v fun x hx o' cQ=>by
        simp only[bI,cC,dv]at hx;rcases hx with h|h|h
        ·rw[h,tR]at cQ;cases cQ;trivial
        ·rw[h,dm]at cQ;cases cQ;trivial
        ·rw[h,de]at cQ;cases cQ;trivial
       have Zk:bc K HA cF (fu M S):=(rR.go A9).v Wf;have Nf:=RD.v CQ _ (AM ns sp) ry;have Ao:eu ns.length 1000 ns:=eG.up;have OT:ns.length=M.rs.length:=eG.len;refine⟨_,rfl,_,rfl,d,_,rfl,dg eA BA,y,ns,sp,_,rfl,Nf,Ao,by lia,by lia,by lia,fun a1 HB Zf sB=>?_⟩;refine⟨_,rfl,_,rfl,d,_,rfl,dg (sB _ _ eA) BA,_,_,rfl,rfl,y,ns,sp,_,rfl,RD.mono sB _ Nf,Ao,by lia,by lia,by lia,fun a2 HC Ze sC=>?_⟩;obtain⟨p1,rfl,h1⟩:=rX (pl:=ip ns (S.dn:Int)) Zf;obtain⟨p2,rfl,h2⟩:=rX (pl:=ip ns ((S.dn:Int)+1)) Ze;refine⟨p1,p2,rfl,⟨_,h1.go sC⟩,⟨_,h2⟩,fun D1 HD nD=>?_⟩;refine a9g (h1.go sC) h2 (by simp[ip]) (by simp[ip];lia) nD (fun x y H Q h=>⟨_,rfl,_,rfl,_,_,rfl,rfl,h⟩) fun HE sE dE=>?_;refine⟨D1,_,rfl,.inl ⟨aE.of dE,fun iU HF nF=>?_⟩⟩;have He:aP K HF iU ((gQ ns S.dn).map V.int):=by rw[<-YD];exact aP.of nF.at'
       have mD:=sB.trans (sC.trans (sE.trans nF.same));have eF:=mD _ _ eA;have hlv:=(r2:RD K H lv (fG (fj S)));obtain⟨pa,rfl,sY⟩:=rX (RD.v CQ _ (jD _) r2);have lpl:(fj S).length=M.rs.length:=NK ok;have a3c:(gQ ns S.dn).length=(fj S).length:=by rw[lpl];simp[gQ,OT]
       refine⟨_,rfl,d,_,rfl,dg eF Qu,_,rfl,pa,iU,rfl,⟨_,sY.go mD⟩,⟨_,He⟩,fun D2 HG nG=>?_⟩;refine RR (sY.go mD) He a3c (by lia) nG (fun x y H Q h=>⟨_,rfl,_,rfl,_,_,rfl,rfl,h⟩) fun HI sI dI=>?_;refine⟨D2,_,rfl,.inl ⟨aE.of dI,fun pt HJ nJ=>?_⟩⟩;have A6:=sI.trans nJ.same;have eJ:=A6 _ _ eF;have PH:aP K HJ pt ((fL (fj S) (gQ ns S.dn)).map V.int):=aP.of nJ.at';refine⟨_,rfl,d,_,rfl,dp eJ a0h lj,?_⟩;have Kc:bR HA HJ:=(mD.trans A6).v;have CP:bR HJ (L2.upd HJ d (.dK (bE (.ref ma) (.ref pt) gv sv (.int S.ay) (.str S.side) (.str S.mark) (.ref q) (.int S.dn) bv eL cF (.ref td)))):=.upd eJ trivial;have e1:(L2.upd HJ d (.dK (bE (.ref ma) (.ref pt) gv sv (.int S.ay) (.str S.side) (.str S.mark) (.ref q) (.int S.dn) bv eL cF (.ref td)))) d=some (.dK (bE (.ref ma) (.ref pt) gv sv (.int S.ay) (.str S.side) (.str S.mark) (.ref q) (.int S.dn) bv eL cF (.ref td))):=ba;have b1:∀b o,b≠d->HA b=some o->(L2.upd HJ d (.dK (bE (.ref ma) (.ref pt) gv sv (.int S.ay) (.str S.side) (.str S.mark) (.ref q) (.int S.dn) bv eL cF (.ref td)))) b=some o:=fun b o hb eb=>by rw[aK hb];exact A6 _ _ (mD _ _ eb)
       generalize L2.upd HJ d (.dK (bE (.ref ma) (.ref pt) gv sv (.int S.ay) (.str S.side) (.str S.mark) (.ref q) (.int S.dn) bv eL cF (.ref td)))=wC at CP e1 b1⊢;refine⟨_,rfl,?_⟩;dsimp only[mx];refine ke wC _ (Kc.trans CP) (b1 _ _ BO.symm BQ) fun pe Af=>?_;refine⟨_,rfl,d,_,rfl,dp e1 a0g lj,?_⟩;refine⟨_,rfl,d,_,rfl,dg ba BA,_,_,rfl,rfl,_,rfl,d,_,rfl,dp ba NU lj,?_⟩;have vX:bR wC (L2.upd (L2.upd wC d (.dK (bE (.ref ma) (.ref pt) gv pe (.int S.ay) (.str S.side) (.str S.mark) (.ref q) (.int S.dn) bv eL cF (.ref td)))) d (.dK (bE (.ref ma) (.ref pt) gv pe (.int S.ay) (.str S.side) (.str S.mark) (.ref q) (.int ((S.dn:Int)+1)) bv eL cF (.ref td)))):=fun b o nb eb=>by
        have hb:b≠d:=fun z=>by rw[z,e1]at eb;cases eb;exact nb trivial
        rw[aK hb,aK hb];exact eb
       have eX:(L2.upd (L2.upd wC d (.dK (bE (.ref ma) (.ref pt) gv pe (.int S.ay) (.str S.side) (.str S.mark) (.ref q) (.int S.dn) bv eL cF (.ref td)))) d (.dK (bE (.ref ma) (.ref pt) gv pe (.int S.ay) (.str S.side) (.str S.mark) (.ref q) (.int ((S.dn:Int)+1)) bv eL cF (.ref td)))) d=some (.dK (bE (.ref ma) (.ref pt) gv pe (.int S.ay) (.str S.side) (.str S.mark) (.ref q) (.int ((S.dn:Int)+1)) bv eL cF (.ref td))):=ba;have bX:∀b o,b≠d->HA b=some o->(L2.upd (L2.upd wC d (.dK (bE (.ref ma) (.ref pt) gv pe (.int S.ay) (.str S.side) (.str S.mark) (.ref q) (.int S.dn) bv eL cF (.ref td)))) d (.dK (bE (.ref ma) (.ref pt) gv pe (.int S.ay) (.str S.side) (.str S.mark) (.ref q) (.int ((S.dn:Int)+1)) bv eL cF (.ref td)))) b=some o:=fun b o hb eb=>by rw[aK hb,aK hb];exact b1 _ _ hb eb
       generalize(L2.upd (L2.upd wC d (.dK (bE (.ref ma) (.ref pt) gv pe (.int S.ay) (.str S.side) (.str S.mark) (.ref q) (.int S.dn) bv eL cF (.ref td)))) d (.dK (bE (.ref ma) (.ref pt) gv pe (.int S.ay) (.str S.side) (.str S.mark) (.ref q) (.int ((S.dn:Int)+1)) bv eL cF (.ref td))))=HX at vX eX bX⊢;have zI:=CP.trans vX;have wQ:=Kc.trans zI;have rj:=CQ.trans wQ;have BJ:HX q=some (.lst ys):=bX _ _ dq.symm (C1 _ _ eq (by rw[cm];exact dq.symm));have Zw:q≠lm:=fun z=>by rw[z,Av]at eq;cases eq
       have OC:0<lG M.r M.f S.pc (topR S.ay sp) (fu M S) left S.aU:=OJ (by lia) (by lia) l1 ok.pd.nn (Km gA ok.dk) Rd.nn ok.aU nh;have C8:fj (fy ns (fz M S ns sp))=fL (fj S) (gQ ns S.dn):=(ZK eo (by rw[OT,ok.pl]) fk hd).symm;have Cb:cU (fy ns (fz M S ns sp))=cU S:=Qn eo;refine⟨fun Z HY=>Z=[some (.ref d),some (.ref ma),some y,some sv,some (.int left),some cF,some (.ref lt),some (.ref lm),some (.ref le),w9,kx,nV,some (.ref iU)]/\eO K HY d q td M (fy ns (fz M S ns sp))/\bw [d,q] H HY/\bR HX HY/\HY lm=some (.lst um),?_,?_⟩
       · refine⟨_,rfl,.inl ⟨_,_,rfl,rfl,_,rfl,?_⟩⟩
         refine dR (fun h0=>?_) (fun h0=>?_)
         · have hl:left=1:=jx h0
           have Ht:(fz M S ns sp).dn=aF ns:=by show S.dn+1=aF ns;lia
           obtain⟨fH,hZ⟩:∃fH,S.os=some (ns,sp)::fH:=by cases e:S.os with |nil=>rw[e]at eo;simp at eo |cons a r=>rw[e]at eo;cases eo;exact⟨r,rfl⟩
           have eN:fy ns (fz M S ns sp)={fz M S ns sp with pl:=gI S.pl (some (ns,sp)),ds:=S.ds.tail,os:=fH,dn:=0}:=by unfold fy;rw[aY Ht];unfold iO;rw[show(fz M S ns sp).os=some (ns,sp)::fH from hZ];rfl
           rw[eN]at C8 Cb⊢;have vx:seqIndex? 0 ys.length=some 0:=by have:0<ys.length:=(dC.mp ey).1;unfold seqIndex?;simp[this]
           refine⟨_,rfl,d,_,rfl,dg eX m7,.inl ⟨rfl,_,aE.of BJ⟩,q,ys,0,0,y,rfl,rfl,BJ,by decide,by decide,vx,ey,?_⟩;have e3:(L2.upd HX q (.lst (ys.eraseIdx 0))) d=some (.dK (bE (.ref ma) (.ref pt) gv pe (.int S.ay) (.str S.side) (.str S.mark) (.ref q) (.int ((S.dn:Int)+1)) bv eL cF (.ref td))):=by rw[aK dq];exact eX
           refine⟨_,rfl,d,_,rfl,dp e3 NU lj,?_⟩;refine⟨_,rfl,d,_,rfl,dp ba An lj,?_⟩;have vY:bR HX (L2.upd (L2.upd (L2.upd HX q (.lst (ys.eraseIdx 0))) d (.dK (bE (.ref ma) (.ref pt) gv pe (.int S.ay) (.str S.side) (.str S.mark) (.ref q) (.int 0) bv eL cF (.ref td)))) d (.dK (bE (.ref ma) (.ref pt) gv pe (.int S.ay) (.str S.side) (.str S.mark) (.ref q) (.int 0) bv eL .bp (.ref td)))):=fun b o nb eb=>by
            have hb:b≠d:=fun z=>by rw[z,eX]at eb;cases eb;exact nb trivial
            have hq:b≠q:=fun z=>by rw[z,BJ]at eb;cases eb;exact nb trivial
            rw[aK hb,aK hb,aK hq];exact eb
           have bY:∀b o,b≠d->b≠q->HX b=some o->(L2.upd (L2.upd (L2.upd HX q (.lst (ys.eraseIdx 0))) d (.dK (bE (.ref ma) (.ref pt) gv pe (.int S.ay) (.str S.side) (.str S.mark) (.ref q) (.int 0) bv eL cF (.ref td)))) d (.dK (bE (.ref ma) (.ref pt) gv pe (.int S.ay) (.str S.side) (.str S.mark) (.ref q) (.int 0) bv eL .bp (.ref td)))) b=some o:=fun b o hb hq eb=>by rw[aK hb,aK hb,aK hq];exact eb
           have eY:(L2.upd (L2.upd (L2.upd HX q (.lst (ys.eraseIdx 0))) d (.dK (bE (.ref ma) (.ref pt) gv pe (.int S.ay) (.str S.side) (.str S.mark) (.ref q) (.int 0) bv eL cF (.ref td)))) d (.dK (bE (.ref ma) (.ref pt) gv pe (.int S.ay) (.str S.side) (.str S.mark) (.ref q) (.int 0) bv eL .bp (.ref td)))) d=some (.dK (bE (.ref ma) (.ref pt) gv pe (.int S.ay) (.str S.side) (.str S.mark) (.ref q) (.int 0) bv eL .bp (.ref td))):=ba;have qY:(L2.upd (L2.upd (L2.upd HX q (.lst (ys.eraseIdx 0))) d (.dK (bE (.ref ma) (.ref pt) gv pe (.int S.ay) (.str S.side) (.str S.mark) (.ref q) (.int 0) bv eL cF (.ref td)))) d (.dK (bE (.ref ma) (.ref pt) gv pe (.int S.ay) (.str S.side) (.str S.mark) (.ref q) (.int 0) bv eL .bp (.ref td)))) q=some (.lst (ys.eraseIdx 0)):=by rw[aK dq.symm,aK dq.symm];exact ba
           refine⟨rfl,⟨⟨.ref ma,.ref pt,gv,pe,bv,eL,.bp,eY,RD.v (rj.trans vY) _ (ki _ _ _ _ _) r1,?_,?_,?_,KJ.v (wQ.trans vY),.inl rfl⟩,ys.eraseIdx 0,qY,?_⟩,fun b o eb hb=>?_,vY,bY _ _ wg.symm Zw.symm (bX _ _ wg.symm we)⟩
           ·rw[C8];exact uT (aP.v vY (aP.v zI PH))
           ·rw[Cb];exact RD.v (rj.trans vY) _ (jD _) r3
           · show bc K _ pe (oy M.r M.f S.pc (topR S.ay sp) (fu M S) ((aF ns:Int)-S.dn) S.aU)
             rw[el];exact(Af.v vX).v vY
           ·exact QQ (aI.v (rj.trans vY) _ ok.row.no rq)
           · have ha:b≠d:=fun z=>hb (by rw[z];simp)
             have hq:b≠q:=fun z=>hb (by rw[z];simp);exact bY _ _ ha hq (bX _ _ ha (C1 _ _ eb (by rw[cm];exact ha)))
         · have hl:left≠1:=fun z=>h0 (cB z)
           have a50:¬(fz M S ns sp).dn=aF ns:=fun z=>hl (by have:S.dn+1=aF ns:=z;lia);have eN:fy ns (fz M S ns sp)=fz M S ns sp:=aZ a50;rw[eN]at C8 Cb⊢;refine⟨rfl,⟨⟨.ref ma,.ref pt,gv,pe,bv,eL,cF,eX,RD.v rj _ (ki _ _ _ _ _) r1,?_,?_,?_,KJ.v wQ,.inr (show bc K HX cF (fu M S)from Zk.v wQ)⟩,ys,BJ,aI.v rj _ ok.row.no rq⟩,fun b o eb hb=>?_,.refl,bX _ _ wg.symm we⟩
           ·rw[C8];exact uT (aP.v zI PH)
           ·rw[Cb];exact RD.v rj _ (jD _) r3
           · show bc K HX pe (oy M.r M.f S.pc (topR S.ay sp) (fu M S) ((aF ns:Int)-S.dn) S.aU)
             rw[el];exact Af.v vX
           · have ha:b≠d:=fun z=>hb (by rw[z];simp)
             exact bX _ _ ha (C1 _ _ eb (by rw[cm];exact ha))
       · rintro Z HY ⟨rfl,Bk⟩
         have RY:=Bk.1;have bY:=Bk.2.1;have vY:=Bk.2.2.1;have dY:=Bk.2.2.2;refine⟨_,rfl,?_⟩;dsimp only[mx];refine km HY _ (wQ.trans vY) dY fun v rv=>?_;have t1:=aM.t1;have nB:Bd 2000 (lG M.r M.f S.pc (topR S.ay sp) (fu M S) left S.aU):=((OK (D:=D) (by lia) (by lia) l1 ok.pd (Ko.mono (by lia)) (Rd.mono (by lia)) ok.aU nh).bd (dU OI (dU tl (by decide+kernel)))).mono (by lia);refine⟨_,rfl,_,rfl,_,rfl,.ref ma,v,M.rs,M.r,M.f,M.j,M.t,_,rfl,RD.v (rj.trans vY) _ (ki _ _ _ _ _) r1,rv,nB,t1.1,t1.2,Gd OC,fun T T1 _ T2 T3 HZ sZ=>?_⟩;refine⟨_,rfl,bP rfl,fun tt HW nW=>k (.ref tt) HW ?_ (RY.same (One.ok ok aM (.line eo nh)).row.no (sZ.trans nW.same)) (fun b o eb hb=>(sZ.trans nW.same) _ _ (bY b o eb hb))⟩;have etk:=Kn (JY (Gd OC)) ⟨T1,T2,T3⟩;unfold mM Gz nZ;rw[el,etk];exact iI (aP.of nW.at') (bQ (cM _) (bQ (RD.mono (sZ.trans nW.same) _ (uT (aP.v (A6.v.trans (zI.trans vY)) He))) (bQ (dN _) (bQ (rv.go (sZ.trans nW.same)).rd cL))))
theorem a8v(q:Rat):PyData.eqv (cH q) (.tuple [.int 0,.int 1])=decide (q=0):=by have h:(q.num=0/\(q.den:Int)=1)↔q=0:=⟨fun h=>Rat.num_eq_zero.mp h.1,fun h=>by rw[h];exact⟨rfl,rfl⟩⟩;rw[nU,qR,<-h];simp[cH,PyData.eqv,PyData.eqvAll]
theorem XZ(d:ai)(S:bj):(cf d S).pc=S.pc/\(cf d S).ay=S.ay/\(cf d S).aU=S.aU:=by
 unfold cf;split
 · split
   ·exact⟨rfl,rfl,rfl⟩
   ·split<;>exact⟨rfl,rfl,rfl⟩
 ·exact⟨rfl,rfl,rfl⟩
theorem O1{M:bN}{D:Nat}{S:bj}{d:ai}(ok:cA M D S)(eo:S.os[0]? =some none):∃fH,S.os=none::fH/\iO (cf d S)={cf d S with pl:=S.pl,ds:=S.ds.tail,os:=fH,dn:=0}/\fj (iO (cf d S))=fj S/\cU (iO (cf d S))=cU S:=by
 obtain⟨fH,hZ⟩:∃fH,S.os=none::fH:=by cases e:S.os with |nil=>rw[e]at eo;simp at eo |cons a r=>rw[e]at eo;cases eo;exact⟨r,rfl⟩
 obtain⟨_,e1,e2,e3,e4⟩:=DG ok.raw d;have IQ:S.dn=0:=by
  rcases ok.dn with z|⟨xP,xl,e1,e2⟩
  ·exact z
  ·rw[eo]at e1;cases e1
 have eE:iO (cf d S)={cf d S with pl:=S.pl,ds:=S.ds.tail,os:=fH,dn:=0}:=by unfold iO;rw[e1,hZ,e2,e4];rfl
 refine⟨fH,hZ,eE,?_,?_⟩
 · rw[eE]
   unfold fj;rw[aY rfl,aY IQ]
 · rw[eE]
   unfold cU;rw[hZ];rfl
theorem a4e{c:TT}{ts rest:TS}{D:Ends}{Z:L2.St}{H:Hp}(G:Hp->Prop)(hr:∀H',G H'->rest D Z H')(h:(∀H',G H'->rest D Z H')->D6 (De c ts D8) rest D Z H):D6 (De c ts D8) rest D Z H:=h hr
inductive TR(K:aa)(vs:List V)(H:Hp)(Q:VK):Prop |mk (d:_)(q:_)(td:_)(M:_)(D:_)(S:_)(n:_)(h0:vs=[.ref d,.int n])(h1:eO K H d q td M S)(h2:cA M D S)(h3:M.Ok)(h4:0<=n)(h5:n<=1000)(h6:∀l ys es S' H',H l=none->H' l=some (.lst ys)->aI K H' ys es->Run M S es S'->(es.length:Int)<=n->((es.length:Int)=n\/S'.os=[]\/Halt S'.pc S'.aU)->eO K H' d q td M S'->bw [d,q] H H'->Q (.ref l) H'):TR K vs H Q
def Lj(K:aa):Sp:=fun vs H Q _=>TR K vs H Q
theorem Ma:bh ["_law_sim_here","_law_n","_law_found","_law_item"] ["_law_sim_here","_law_n"] (aR E4):=bG (by decide+kernel)
theorem a0W(F:FA K mg "_law_sim_entries" E4)(B:bL mg)(a6t:aD P w K mg base "_law_sim_step" 5 (Lg K)):aD P w K mg base "_law_sim_entries" 6 (Lj K):=by
 refine F.has Ma (fun vs H Q E h=>?_) (fun _ _ _ _ _ _=>du fun _ _=>rfl) (fun fa aJ A outer s H vs Q E hr h=>?_)
 · obtain⟨d,q,td,M,D,S,n,rfl,_⟩:=h
   rfl
 · obtain⟨d,q,td,M,D,S,n,rfl,R,ok,aM,n0,n1,k⟩:=h
   have dq:=R.ne;have nd:=Ma.nd;refine⟨_,(aA (pS 2 nd (df aw)) (aA (mH gL (PW.pt (oj (bW jF (dQ K B (O (pv 2) aw)) (pv 1) (bo _)) (rV (bW rZ (dQ K B (O (cD hr (pv 0) aX) aw)) az (bo _))))) (aA (bJ (PW.pt (oj (bW xI (cD hr (pv 0) aX) kE (bo _)) (rV (bW (cP K rfl hr.units) (cD hr (pv 0) aX) (dP (O az (O az aw))) (bo _))))) (aH (aQ (pv 2))) bM) (aA (pS 3 nd (px K (cD hr (pv 0) aX) az)) (aH (bJ (bW (cP K rfl hr.units) (px K (pv 3) az) aX (bo _)) (aH (gF (je K rfl (pv 2) (O (pf a6t hr (O (pv 0) aw)) aw)))) (aA (gU (bJ (bW (jh K rfl hr.units) (px K (pv 3) az) aX (bo _)) (aH (gW (fR hr.units) (pv 0) (px K (pv 3) az) (px K (pv 3) az) rfl)) bM)) (aA (gF (je K rfl (pv 2) (O (NT K rfl (cD hr (pv 0) aX) (O az aw)) aw))) (aH (gW (fR hr.units) (pv 0) aX kE rfl))))))))) (aH (aQ (pv 2))))),?_⟩;refine⟨bP rfl,fun l H1 nw=>?_⟩;obtain⟨mv,lv,gv,sv,bv,cv,rv,e,r1,r2,r3,r4,r5,r6⟩:=R.ob;obtain⟨ys,eq,rq⟩:=R.qu;have yM:d≠l:=fun z=>by have:=nw.no;rw[<-z,e]at this;cases this
   have ql:q≠l:=fun z=>by have:=nw.no;rw[<-z,eq]at this;cases this
   refine mm (fun Z H2=>∃es S' us w3,Z=[some (.ref d),some (.int n),some (.ref l),w3]/\eO K H2 d q td M S'/\H2 l=some (.lst us)/\aI K H2 us es/\Run M S es S'/\(es.length:Int)<=n/\bw [d,q] H H2) (fun _ H2=>match H2 l with|some (.lst us)=>2000-us.length|_=>0) ?_ ?_ ?_
   ·exact⟨[],S,[],none,rfl,R.same ok.row.no nw.same,nw.at',cL,.nil _,by simpa using n0,.of nw.same⟩
   · rintro Z H2 ⟨es,S',us,w3,rfl,R2,dl,rd,run,kO,bt⟩
     have iW:=run.ok ok aM;have kM:=run.no ok aM;have lu:=rd.length;obtain⟨mv,lv,gv,sv,bv,cv,rv,e,r1,r2,r3,r4,r5,r6⟩:=R2.ob;obtain⟨yq,eq2,rq⟩:=R2.qu;have vq:=rq.length;have yc:=iW.row.len;have kR:sizeLine=16777216:=by decide
     refine⟨_,rfl,l,us,rfl,.inl (aE.of dl),_,rfl,_,_,rfl,rfl,_,rfl,?_⟩;show if decide ((us.length:Int)<n)=true then _ else _;by_cases c1:(us.length:Int)<n
     · rw[cB c1]
       refine bT ?_;refine⟨_,rfl,d,_,rfl,dg e m7,q,yq,rfl,.inl (aE.of eq2),_,_,rfl,rfl,_,rfl,?_⟩;cases jm:S'.os with |nil=>have:yq=[]:=CD.mp (by rw[vq,yc,jm];rfl);subst this;refine bB ?_;exact⟨_,rfl,k l us es S' H2 nw.no dl rd run kO (.inr (.inl jm)) R2 bt⟩ |cons o os=>
         have dy:S'.os≠[]:=by rw[jm];simp
         have oK:0<yq.length:=by rw[vq,yc,jm];simp
         rw[cB (show(0:Int)<(yq.length:Int) by lia)];refine bT ?_;have eo:S'.os[0]? =some o:=by rw[jm];rfl
         refine a4e (fun H3=>¬Halt S'.pc S'.aU/\aB H2 H3) (fun H3 g=>?_) (fun PF=>?_)
         · obtain⟨nh,s3⟩:=g
           have R3:=R2.same iW.row.no s3;have e3:=s3 _ _ e;have eq3:=s3 _ _ eq2;have wj:=s3 _ _ dl;have FE:=aI.mono s3 _ rd;have Sd:bw [d,q] H H3:=fun b o' eb hb=>s3 _ _ (bt b o' eb hb);have dlq:l∉[d,q]:=by simp;exact⟨yM.symm,ql.symm⟩
           obtain⟨dd,ed⟩:∃dd,S'.ds[0]? =some dd:=⟨_,bZ (show 0<S'.ds.length by lia)⟩;obtain⟨y,ey,ry⟩:=rq.get 0 ed;have it:=iW.row.it 0 dd _ ed eo;have Ac:=RD.mono s3 _ ry;refine⟨_,rfl,d,_,rfl,dg e3 m7,.inl ⟨q,_,0,y,rfl,rfl,aE.of eq3,cW (gz 0) ey,?_⟩⟩;obtain⟨ya,wd,zs,rfl,yh,ew,sw⟩:=vy Ac it;refine⟨_,rfl,.inr ⟨ya,_,0,.str wd,rfl,rfl,yh,cW (gz 0) rfl,.inr ⟨_,_,cM _,cM _,sw,sO,_,rfl,?_⟩⟩⟩;rw[ew];cases o with
           |some z=>
             obtain⟨ns,sp⟩:=z;refine bT ?_;refine⟨_,rfl,.inl ⟨rfl,_,aE.of wj⟩,_,rfl,d,q,td,M,D,S',ns,sp,rfl,R3,iW,aM,eo,nh,fun v H4 cF R4 b4=>?_⟩;have CT:=R3.v b4;have jM:=b4 _ _ wj dlq;refine⟨l,us,_,rfl,rfl,jM,by lia,?_⟩;have vu:bR H4 (L2.upd H4 l (.lst (us++[v]))):=.upd jM trivial;have one:One M S' (mM M S' ns sp) (fy ns (fz M S' ns sp)):=.line eo nh;have e9:=One.ok iW aM one;refine⟨⟨es++[mM M S' ns sp],_,us++[v],_,rfl,R4.go e9.row.no vu (fun o' cQ=>by rw[aK yM];exact cQ) (fun o' cQ=>by rw[aK ql];exact cQ),ba,(aI.v (CT.trans vu) _ kM FE).append (bQ (RD.v vu _ (Di _ _ _) cF) cL),run.snoc one,by rw[fo];show((es.length+1:Nat):Int)<=n;lia,fun b o' eb hb=>?_⟩,?_⟩
             · have dM:b≠l:=fun z=>by have:=nw.no;rw[<-z,eb]at this;cases this
               rw[aK dM];exact b4 _ _ (Sd _ _ eb hb) hb
             · show(match(L2.upd H4 l (.lst (us++[v]))) l with|some (.lst us)=>2000-us.length|_=>0)<(match H2 l with|some (.lst us)=>2000-us.length|_=>0)
               rw[ba,dl];show 2000-(us++[v]).length<2000-us.length;rw[fo];show 2000-(us.length+1)<2000-us.length
               lia |none=>
             refine bB ?_;have gY:=iW.rw 0 dd eo ed;have tW:SeqAt.shaped (.str "wait")=true:=by decide+kernel
             have eqT:∀(x y:Str),PyData.eqv (.str x) (.str y)=decide (x=y):=fun x y=>by show(x==y)=decide (x=y);rw[nU];simp
             refine⟨fun Z H4=>Z=[some (.ref d),some (.int n),some (.ref l),some (.ref ya)]/\bw [d] H3 H4/\H4 d=some (.dK (bE mv lv gv sv (.int S'.ay) (.str (cf dd S').side) (.str (cf dd S').mark) (.ref q) (.int S'.dn) bv cv rv (.ref td))),?_,?_⟩
             · rcases gY with⟨m,rfl,_⟩|⟨w',s',rfl,hw,_⟩
               · obtain⟨W0,xs,ea,h1,h2⟩:=Ac.dZ
                 cases ea;obtain⟨x1,rr,rfl,e1,h2⟩:=h2.cons_inv;cases e1.str_inv;refine⟨_,rfl,.inr ⟨ya,_,0,.str "wait",rfl,rfl,h1,cW (gz 0) rfl,.inr ⟨_,_,cM _,cM _,tW,tW,_,rfl,?_⟩⟩⟩;rw[eqT,cB rfl];exact bB ⟨rfl,bw.refl _ _,e3⟩
               · obtain⟨W0,xs,ea,h1,h2⟩:=Ac.dZ
                 cases ea;obtain⟨x1,rr,rfl,e1,h2⟩:=h2.cons_inv;obtain⟨x2,rr,rfl,e2,h2⟩:=h2.cons_inv;cases h2.nil_inv;cases e1.str_inv;cases e2.str_inv;have sz:SeqAt.shaped (.str w')=true:=by rcases hw with rfl|rfl<;>decide+kernel
                 have nw':¬w'="wait":=by rcases hw with rfl|rfl<;>decide+kernel
                 refine⟨_,rfl,.inr ⟨ya,_,0,.str w',rfl,rfl,h1,cW (gz 0) rfl,.inr ⟨_,_,cM _,cM _,sz,tW,_,rfl,?_⟩⟩⟩;rw[eqT,eQ nw'];refine bT ?_;rcases hw with rfl|rfl
                 · refine⟨_,rfl,.inr ⟨ya,_,1,.str s',rfl,rfl,h1,cW (by decide) rfl,_,rfl,_,rfl,.inr ⟨ya,_,0,.str "tool",rfl,rfl,h1,cW (gz 0) rfl,d,_,rfl,dp e3 a0f lj,?_⟩⟩⟩
                   exact⟨rfl,wq (by simp),ba⟩
                 · refine⟨_,rfl,.inr ⟨ya,_,1,.str s',rfl,rfl,h1,cW (by decide) rfl,_,rfl,_,rfl,.inr ⟨ya,_,0,.str "mark",rfl,rfl,h1,cW (gz 0) rfl,d,_,rfl,dp e3 a0i lj,?_⟩⟩⟩
                   exact⟨rfl,wq (by simp),ba⟩
             rintro Z H4 ⟨rfl,b4,e4⟩;have CT:bR H3 H4:=b4.v fun x hx o' cQ=>by rw[cm]at hx;rw[hx,e3]at cQ;cases cQ;trivial
             have eq4:=b4 _ _ eq3 (by rw[cm];exact dq.symm);have jM:=b4 _ _ wj (by rw[cm];exact yM.symm);have vx:seqIndex? 0 yq.length=some 0:=by unfold seqIndex?;simp[oK]
             have dl5:(L2.upd H4 q (.lst (yq.eraseIdx 0))) l=some (.lst us):=by rw[aK ql.symm];exact jM
             refine⟨_,rfl,.inl ⟨rfl,_,aE.of jM⟩,_,rfl,d,_,rfl,dg e4 m7,.inl ⟨rfl,_,aE.of eq4⟩,q,yq,0,0,.ref ya,rfl,rfl,eq4,by decide,by decide,vx,ey,?_⟩;refine⟨l,us,_,rfl,rfl,dl5,by lia,?_⟩;have e6:(L2.upd (L2.upd H4 q (.lst (yq.eraseIdx 0))) l (.lst (us++[.ref ya]))) d=some (.dK (bE mv lv gv sv (.int S'.ay) (.str (cf dd S').side) (.str (cf dd S').mark) (.ref q) (.int S'.dn) bv cv rv (.ref td))):=by rw[aK yM,aK dq];exact e4
             refine⟨_,rfl,d,_,rfl,dp e6 An lj,?_⟩;have Kd:bR H4 (L2.upd (L2.upd (L2.upd H4 q (.lst (yq.eraseIdx 0))) l (.lst (us++[.ref ya]))) d (.dK (bE mv lv gv sv (.int S'.ay) (.str (cf dd S').side) (.str (cf dd S').mark) (.ref q) (.int S'.dn) bv cv .bp (.ref td)))):=fun b o nb eb=>by
              have hb:b≠d:=fun z=>by rw[z,e4]at eb;cases eb;exact nb trivial
              have hq:b≠q:=fun z=>by rw[z,eq4]at eb;cases eb;exact nb trivial
              have dM:b≠l:=fun z=>by rw[z,jM]at eb;cases eb;exact nb trivial
              rw[aK hb,aK dM,aK hq];exact eb
             have b7:∀b o,b≠d->b≠q->b≠l->H4 b=some o->(L2.upd (L2.upd (L2.upd H4 q (.lst (yq.eraseIdx 0))) l (.lst (us++[.ref ya]))) d (.dK (bE mv lv gv sv (.int S'.ay) (.str (cf dd S').side) (.str (cf dd S').mark) (.ref q) (.int S'.dn) bv cv .bp (.ref td)))) b=some o:=fun b o hb hq dM eb=>by rw[aK hb,aK dM,aK hq];exact eb
             have e7:(L2.upd (L2.upd (L2.upd H4 q (.lst (yq.eraseIdx 0))) l (.lst (us++[.ref ya]))) d (.dK (bE mv lv gv sv (.int S'.ay) (.str (cf dd S').side) (.str (cf dd S').mark) (.ref q) (.int S'.dn) bv cv .bp (.ref td)))) d=some (.dK (bE mv lv gv sv (.int S'.ay) (.str (cf dd S').side) (.str (cf dd S').mark) (.ref q) (.int S'.dn) bv cv .bp (.ref td))):=ba;have q7:(L2.upd (L2.upd (L2.upd H4 q (.lst (yq.eraseIdx 0))) l (.lst (us++[.ref ya]))) d (.dK (bE mv lv gv sv (.int S'.ay) (.str (cf dd S').side) (.str (cf dd S').mark) (.ref q) (.int S'.dn) bv cv .bp (.ref td)))) q=some (.lst (yq.eraseIdx 0)):=by rw[aK dq.symm,aK ql];exact ba
             have l7:(L2.upd (L2.upd (L2.upd H4 q (.lst (yq.eraseIdx 0))) l (.lst (us++[.ref ya]))) d (.dK (bE mv lv gv sv (.int S'.ay) (.str (cf dd S').side) (.str (cf dd S').mark) (.ref q) (.int S'.dn) bv cv .bp (.ref td)))) l=some (.lst (us++[.ref ya])):=by rw[aK yM.symm];exact ba
             generalize(L2.upd (L2.upd (L2.upd H4 q (.lst (yq.eraseIdx 0))) l (.lst (us++[.ref ya]))) d (.dK (bE mv lv gv sv (.int S'.ay) (.str (cf dd S').side) (.str (cf dd S').mark) (.ref q) (.int S'.dn) bv cv .bp (.ref td))))=H7 at Kd b7 e7 q7 l7⊢;have Ke:=CT.trans Kd;have rA:=s3.v.trans Ke;obtain⟨fH,hZ,eE,ePl,eGo⟩:=O1 (d:=dd) iW eo;have fx:=XZ dd S';have one:One M S' dd (iO (cf dd S')):=.gY eo ed nh;have IQ:S'.dn=0:=by
              rcases iW.dn with z|⟨xP,xl,e1,e2⟩
              ·exact z
              ·rw[eo]at e1;cases e1
             have nod:fe dd=true:=gZ.mp iW.row.no _ (gy ed);refine⟨⟨es++[dd],iO (cf dd S'),us++[.ref ya],_,rfl,?_,l7,(aI.v rA _ kM rd).append (bQ (RD.v Ke _ nod Ac) cL),run.snoc one,by rw[fo];show((es.length+1:Nat):Int)<=n;lia,fun b o' eb hb=>?_⟩,?_⟩
             · refine⟨⟨mv,lv,gv,sv,bv,cv,.bp,?_,RD.v rA _ (ki _ _ _ _ _) r1,?_,?_,?_,?_,.inl rfl⟩,yq.eraseIdx 0,q7,?_⟩
               · rw[eE]
                 show H7 d=some (.dK (bE mv lv gv sv (.int (cf dd S').ay) (.str (cf dd S').side) (.str (cf dd S').mark) (.ref q) (.int 0) bv cv .bp (.ref td)));rw[fx.2.1,e7,IQ];rfl
               ·rw[ePl];exact RD.v rA _ (jD _) r2
               ·rw[eGo];exact RD.v rA _ (jD _) r3
               · rw[eE]
                 show bc K H7 sv (cf dd S').pc;rw[fx.1];exact r4.v rA
               · rw[eE]
                 show wD K H7 bv cv (cf dd S').aU;rw[fx.2.2];exact r5.v rA
               · rw[eE]
                 exact QQ (aI.v rA _ iW.row.no rq)
             · have dM:b≠l:=fun z=>by have:=nw.no;rw[<-z,eb]at this;cases this
               have vO:b≠d:=fun z=>hb (by rw[z];simp);have jI:b≠q:=fun z=>hb (by rw[z];simp);exact b7 _ _ vO jI dM (b4 _ _ (Sd _ _ eb hb) (by rw[cm];exact vO))
             · show(match H7 l with|some (.lst us)=>2000-us.length|_=>0)<(match H2 l with|some (.lst us)=>2000-us.length|_=>0)
               rw[l7,dl];show 2000-(us++[V.ref ya]).length<2000-us.length;rw[fo];show 2000-(us.length+1)<2000-us.length
               lia
         · refine⟨_,rfl,d,_,rfl,dg e BB,rfl,_,rfl,?_⟩
           cases hs:S'.aU with |none=>have lD:=r5;rw[hs]at lD;obtain⟨rfl,_⟩:=lD;refine bB ?_;exact PF H2 ⟨fun h=>h.1 hs,aB.refl _⟩ |some z=>
             obtain⟨sq,st,gn⟩:=z;have lD:=r5;rw[hs]at lD;obtain⟨ta,su,rfl,_⟩:=lD;refine bT ?_;refine⟨_,rfl,d,_,rfl,dg e vS,bP rfl,fun t H3 n3=>?_⟩;have XW:SeqAt.shaped (.tuple [.int 0,.int 1])=true:=by decide+kernel
             refine .inr ⟨_,_,(r4.go n3.same).rd,iI (aP.of n3.at') (bQ (dN _) (bQ (dN _) cL)),Zb _,XW,_,rfl,?_⟩;rw[a8v];by_cases c3:S'.pc=0
             · rw[cB c3]
               refine bT ?_;have R3:=R2.same iW.row.no n3.same;exact⟨_,rfl,k l us es S' H3 nw.no (n3.same _ _ dl) (aI.mono n3.same _ rd) run kO (.inr (.inr ⟨by rw[hs];simp,c3⟩)) R3 fun b o' eb hb=>n3.same _ _ (bt b o' eb hb)⟩
             · rw[eQ c3]
               refine bB ?_;exact PF H3 ⟨fun h=>c3 h.2,n3.same⟩
     · rw[eQ c1]
       refine bB ?_;exact⟨_,rfl,k l us es S' H2 nw.no dl rd run kO (.inl (by lia)) R2 bt⟩
   · rintro Z H6 Q1 Q2 hq ⟨v1,f1,l',jB,f2,f3,v2,f4,i1,i2,f5,f6,b1,f7,h⟩
     refine⟨v1,f1,l',jB,f2,f3,v2,f4,i1,i2,f5,f6,b1,f7,yf ?_ (hq _ _) h⟩;rintro⟨v3,f8,a',k',f9,yJ,p',y',yI,IB,i3,i4,IA,Iz,b2,yH,h⟩;exact⟨v3,f8,a',k',f9,yJ,p',y',yI,IB,i3,i4,IA,Iz,b2,yH,hq _ _ h⟩
end
end Lw
set_option maxHeartbeats 1000000
namespace Lw
open PySem PySem.Spec PyProof.Rows L2 Rt Ln
section
variable {w:World}{mg:Str->Option Value}{base:Heap}
theorem Ki:iH "tuple" "list"=false:=by decide
theorem Kj:iH "list" "tuple"=false:=by decide
theorem Sz(n:Nat):(List.replicate n true).all id=true:=by induction n with |zero=>rfl |succ n ih=>rw[List.replicate_succ,JU,ih];rfl
def aaw(D:ai):Prop:=(∃z,D= .int z)\/∃s,D= .str s/\SeqAt.shaped (.str s)=true/\PyData.eqv (.str s) (.str s)=true
def Nx(A:ai->Prop)(D:ai):Prop:=aaw D\/∃ds,(D= .tuple ds\/D= .list ds)/\ds.length<=100000/\∀x∈ds,A x
inductive UG(A:ai->Prop)(K:aa)(vs:List V)(H:Hp)(Q:VK):Prop |mk (v:_)(u:_)(D:_)(h0:vs=[v,u])(h1:RD K H v D)(h2:RD K H u D)(h3:A D)(h4:∀H',aB H H'->Q (.bl true) H'):UG A K vs H Q
def xk(A:ai->Prop)(K:aa):Sp:=fun vs H Q _=>UG A K vs H Q
theorem DI:bh ["_law_found","_law_due"] ["_law_found","_law_due"] (aR A7):=bG (by decide+kernel)
theorem a24(F:FA K mg "_law_alike" A7)(B:bL mg):aD P w K mg base "_law_alike" 1 (xk (fun _=>False) K):=by
 refine F.has DI (fun vs H Q E h=>?_) (fun _ _ _ _ _ _=>du fun _ _=>rfl) (fun f aJ A outer s H vs Q E hr h=>?_)
 · obtain⟨v,u,D,rfl,_,_,h,_⟩:=h
   exact h.elim
 · obtain⟨v,u,D,rfl,_,_,h,_⟩:=h
   exact h.elim
theorem Ap{A:ai->Prop}{n:Nat}(hn:1<=n)(F:FA K mg "_law_alike" A7)(B:bL mg)(Bt:aD P w K mg base "_law_number" 1 (uI K))(m6:aD P w K mg base "_law_alike" n (xk A K)):aD P w K mg base "_law_alike" (n+1) (xk (Nx A) K):=by
 refine F.has DI (fun vs H Q E h=>?_) (fun _ _ _ _ _ _=>du fun _ _=>rfl) (fun f aJ A' outer s H vs Q E hr h=>?_)
 · obtain⟨v,u,D,rfl,_⟩:=h
   rfl
 · obtain⟨v,u,D,rfl,rv,ru,hD,k⟩:=h
   have nd:=DI.nd;rcases hD with(⟨z,rfl⟩|⟨z,rfl,sh,eq⟩)|⟨ds,rfl|rfl,hz,hA⟩
   · refine⟨_,(aA (bJ (cI (dw K B (O (pv 1) (O (dP (O (cR (x:="list") (v:=.ty "list") rfl (B.at "list") ko rfl) (O (cR (x:="tuple") (v:=.ty "tuple") rfl (B.at "tuple") fD rfl) aw))) aw)))) (aA (bJ (PW.pt (kD (bW (jh K rfl hr.units) (dw K B (O (pv 1) (O (cR (x:="list") (v:=.ty "list") rfl (B.at "list") ko rfl) aw))) (dw K B (O (pv 0) (O (cR (x:="list") (v:=.ty "list") rfl (B.at "list") ko rfl) aw))) (bo _)) (lE (bW (jh K rfl hr.units) (dw K B (O (pv 1) (O (cR (x:="tuple") (v:=.ty "tuple") rfl (B.at "tuple") fD rfl) aw))) (dw K B (O (pv 0) (O (cR (x:="tuple") (v:=.ty "tuple") rfl (B.at "tuple") fD rfl) aw))) (bo _))))) (aH (aQ iq)) bM) (aH (aQ (ir (fb (cP K rfl hr.units) (dQ K B (O (pv 0) aw)) (dQ K B (O (pv 1) aw)) (bo _)) (iJ (cZ (x:="all") (p8 K rfl rfl) rfl (B.at "all") qU (O (fW (N:=["_law_one","_law_two"]) (js:=[none,none]) rfl rfl rfl (jE K rfl false false rfl (B.at "zip") (O (pv 0) (O (pv 1) aw))) (fun _ _ _ _ _=>(dJ K rfl (n:=2) rfl (bO (bf 0 (fJ (by decide))) (bO (bf 1 (fJ (by decide))) dH)))) (fun _ _ _ _ _=>fw) (fun _ _ _ _ _=>(oq m6 (hr.mono (by lia)) rfl (O (pv 0) (O (pv 1) aw))))) aw))))))) bM) (aA (bJ (cI (dw K B (O (pv 1) (O (cR (x:="str") (v:=.ty "str") rfl (B.at "str") pA rfl) aw)))) (aH (aQ (ir (dw K B (O (pv 0) (O (cR (x:="str") (v:=.ty "str") rfl (B.at "str") pA rfl) aw))) (iJ (fb (cP K rfl hr.units) (pv 0) (pv 1) (bo _)))))) bM) (aH (aQ (ir (oq Bt (hr.mono (by lia)) rfl (O (pv 0) aw)) (iJ (fb (cP K rfl hr.units) (pv 0) (pv 1) (bo _)))))))),?_⟩
     cases rv.int_inv;cases ru.int_inv;refine⟨_,rfl,bP rfl,fun tt H1 n1=>.inr ⟨_,"int",tt,["list","tuple"],_,rfl,n1.at',rfl,by decide,rfl,_,rfl,bB ?_⟩⟩;refine⟨_,rfl,.inl ⟨_,"int","str",_,rfl,rfl,by decide,rfl,_,rfl,bB ?_⟩⟩;refine⟨_,rfl,_,"int",rfl,rfl,_,rfl,bT ?_⟩;refine⟨_,rfl,_,rfl,.inl ⟨_,_,rfl,rfl,?_⟩⟩;show Q (.bl (decide (z=z))) H1;rw[cB rfl];exact k H1 n1.same
   · refine⟨_,(aA (bJ (cI (dw K B (O (pv 1) (O (dP (O (cR (x:="list") (v:=.ty "list") rfl (B.at "list") ko rfl) (O (cR (x:="tuple") (v:=.ty "tuple") rfl (B.at "tuple") fD rfl) aw))) aw)))) (aA (bJ (PW.pt (kD (bW (jh K rfl hr.units) (dw K B (O (pv 1) (O (cR (x:="list") (v:=.ty "list") rfl (B.at "list") ko rfl) aw))) (dw K B (O (pv 0) (O (cR (x:="list") (v:=.ty "list") rfl (B.at "list") ko rfl) aw))) (bo _)) (lE (bW (jh K rfl hr.units) (dw K B (O (pv 1) (O (cR (x:="tuple") (v:=.ty "tuple") rfl (B.at "tuple") fD rfl) aw))) (dw K B (O (pv 0) (O (cR (x:="tuple") (v:=.ty "tuple") rfl (B.at "tuple") fD rfl) aw))) (bo _))))) (aH (aQ iq)) bM) (aH (aQ (ir (fb (cP K rfl hr.units) (dQ K B (O (pv 0) aw)) (dQ K B (O (pv 1) aw)) (bo _)) (iJ (cZ (x:="all") (p8 K rfl rfl) rfl (B.at "all") qU (O (fW (N:=["_law_one","_law_two"]) (js:=[none,none]) rfl rfl rfl (jE K rfl false false rfl (B.at "zip") (O (pv 0) (O (pv 1) aw))) (fun _ _ _ _ _=>(dJ K rfl (n:=2) rfl (bO (bf 0 (fJ (by decide))) (bO (bf 1 (fJ (by decide))) dH)))) (fun _ _ _ _ _=>fw) (fun _ _ _ _ _=>(oq m6 (hr.mono (by lia)) rfl (O (pv 0) (O (pv 1) aw))))) aw))))))) bM) (aA (bJ (cI (dw K B (O (pv 1) (O (cR (x:="str") (v:=.ty "str") rfl (B.at "str") pA rfl) aw)))) (aH (aQ (ir (dw K B (O (pv 0) (O (cR (x:="str") (v:=.ty "str") rfl (B.at "str") pA rfl) aw))) (iJ (fb (cP K rfl hr.units) (pv 0) (pv 1) (bo _)))))) bM) (aH (aQ (ir (oq Bt (hr.mono (by lia)) rfl (O (pv 0) aw)) (iJ (fb (cP K rfl hr.units) (pv 0) (pv 1) (bo _)))))))),?_⟩
     cases rv.str_inv;cases ru.str_inv;refine⟨_,rfl,bP rfl,fun tt H1 n1=>.inr ⟨_,"str",tt,["list","tuple"],_,rfl,n1.at',rfl,by decide,rfl,_,rfl,bB ?_⟩⟩;refine⟨_,rfl,.inl ⟨_,"str","str",_,rfl,rfl,by decide,rfl,_,rfl,bT ?_⟩⟩;refine⟨_,rfl,.inl ⟨_,"str","str",_,rfl,rfl,by decide,rfl,_,rfl,bT ?_⟩⟩;refine⟨_,rfl,_,rfl,.inr ⟨_,_,cM _,cM _,sh,sh,?_⟩⟩;rw[eq];exact k H1 n1.same
   · refine⟨_,(aA (bJ (cI (dw K B (O (pv 1) (O (dP (O (cR (x:="list") (v:=.ty "list") rfl (B.at "list") ko rfl) (O (cR (x:="tuple") (v:=.ty "tuple") rfl (B.at "tuple") fD rfl) aw))) aw)))) (aA (bJ (PW.pt (kD (bW (jh K rfl hr.units) (dw K B (O (pv 1) (O (cR (x:="list") (v:=.ty "list") rfl (B.at "list") ko rfl) aw))) (dw K B (O (pv 0) (O (cR (x:="list") (v:=.ty "list") rfl (B.at "list") ko rfl) aw))) (bo _)) (lE (bW (jh K rfl hr.units) (dw K B (O (pv 1) (O (cR (x:="tuple") (v:=.ty "tuple") rfl (B.at "tuple") fD rfl) aw))) (dw K B (O (pv 0) (O (cR (x:="tuple") (v:=.ty "tuple") rfl (B.at "tuple") fD rfl) aw))) (bo _))))) (aH (aQ iq)) bM) (aH (aQ (ir (fb (cP K rfl hr.units) (dQ K B (O (pv 0) aw)) (dQ K B (O (pv 1) aw)) (bo _)) (iJ (cZ (x:="all") (p8 K rfl rfl) rfl (B.at "all") qU (O (fW (N:=["_law_one","_law_two"]) (js:=[none,none]) rfl rfl rfl (jE K rfl false false rfl (B.at "zip") (O (pv 0) (O (pv 1) aw))) (fun _ _ _ _ _=>(dJ K rfl (n:=2) rfl (bO (bf 0 (fJ (by decide))) (bO (bf 1 (fJ (by decide))) dH)))) (fun _ _ _ _ _=>fw) (fun _ _ _ _ _=>(oq m6 (hr.mono (by lia)) rfl (O (pv 0) (O (pv 1) aw))))) aw))))))) bM) (aA (bJ (cI (dw K B (O (pv 1) (O (cR (x:="str") (v:=.ty "str") rfl (B.at "str") pA rfl) aw)))) (aH (aQ (ir (dw K B (O (pv 0) (O (cR (x:="str") (v:=.ty "str") rfl (B.at "str") pA rfl) aw))) (iJ (fb (cP K rfl hr.units) (pv 0) (pv 1) (bo _)))))) bM) (aH (aQ (ir (oq Bt (hr.mono (by lia)) rfl (O (pv 0) aw)) (iJ (fb (cP K rfl hr.units) (pv 0) (pv 1) (bo _)))))))),?_⟩
     obtain⟨va,xs,rfl,hV,hW⟩:=rv.dZ;obtain⟨ua,ys,rfl,hU,oH⟩:=ru.dZ;have lx:=hW.length;have ly:=oH.length;refine⟨_,rfl,bP rfl,fun tt H1 n1=>.inr ⟨_,"tuple",tt,["list","tuple"],_,rfl,n1.at',.inr ⟨rfl,_,hU.go n1.same⟩,by decide,rfl,_,rfl,bT ?_⟩⟩;have s1:=n1.same;refine⟨_,rfl,.inl ⟨_,"tuple","list",_,rfl,.inr ⟨rfl,_,hU.go s1⟩,by decide,Ki,_,rfl,.inl ⟨_,"tuple","list",_,rfl,.inr ⟨rfl,_,hV.go s1⟩,by decide,Ki,.inr ⟨.bool false,.bool false,lC _,lC _,rfl,rfl,_,rfl,bB ?_⟩⟩⟩⟩;refine⟨_,rfl,.inl ⟨_,"tuple","tuple",_,rfl,.inr ⟨rfl,_,hU.go s1⟩,by decide,Kh,_,rfl,.inl ⟨_,"tuple","tuple",_,rfl,.inr ⟨rfl,_,hV.go s1⟩,by decide,Kh,.inr ⟨.bool true,.bool true,lC _,lC _,rfl,rfl,_,rfl,bB ?_⟩⟩⟩⟩;refine⟨_,rfl,va,_,rfl,.inr (hV.go s1),_,rfl,ua,_,rfl,.inr (hU.go s1),.inl ⟨_,_,rfl,rfl,_,rfl,?_⟩⟩;rw[cB (show(xs.length:Int)=(ys.length:Int) by lia)];refine bT ?_;refine⟨_,rfl,_,rfl,va,ua,rfl,⟨_,hV.go s1⟩,⟨_,hU.go s1⟩,fun D2 H2 n2=>?_⟩;refine RO (K:=K) (b1:=false) (b2:=false) (xs:=xs) (ys:=ys) (bs:=List.replicate ds.length true) _ rfl (hV.go s1) (hU.go s1) n2 (by rw[CC];lia) (by rw[CC];lia) ?_ ?_
     · intro q x y b H3 Q' ex ey eb s3 hq
       have IK:b=true:=by
        rw[VL]at eb;split at eb
        ·exact(dG eb).symm
        ·cases eb
       subst IK;have cY:=s1.trans s3;obtain⟨d1,e1,r1⟩:=hW.get' q ex;obtain⟨d2,e2,r2⟩:=oH.get' q ey;rw[e1]at e2;cases e2;exact⟨_,rfl,_,rfl,x,y,d1,rfl,RD.mono cY _ r1,RD.mono cY _ r2,hA d1 (gy e1),fun H4 s4=>hq H4 s4⟩
     · intro H3 s3 d3
       refine⟨D2,_,rfl,aE.of d3,?_⟩;rw[Sz];exact k H3 (s1.trans s3)
   · refine⟨_,(aA (bJ (cI (dw K B (O (pv 1) (O (dP (O (cR (x:="list") (v:=.ty "list") rfl (B.at "list") ko rfl) (O (cR (x:="tuple") (v:=.ty "tuple") rfl (B.at "tuple") fD rfl) aw))) aw)))) (aA (bJ (PW.pt (kD (bW (jh K rfl hr.units) (dw K B (O (pv 1) (O (cR (x:="list") (v:=.ty "list") rfl (B.at "list") ko rfl) aw))) (dw K B (O (pv 0) (O (cR (x:="list") (v:=.ty "list") rfl (B.at "list") ko rfl) aw))) (bo _)) (lE (bW (jh K rfl hr.units) (dw K B (O (pv 1) (O (cR (x:="tuple") (v:=.ty "tuple") rfl (B.at "tuple") fD rfl) aw))) (dw K B (O (pv 0) (O (cR (x:="tuple") (v:=.ty "tuple") rfl (B.at "tuple") fD rfl) aw))) (bo _))))) (aH (aQ iq)) bM) (aH (aQ (ir (fb (cP K rfl hr.units) (dQ K B (O (pv 0) aw)) (dQ K B (O (pv 1) aw)) (bo _)) (iJ (cZ (x:="all") (p8 K rfl rfl) rfl (B.at "all") qU (O (fW (N:=["_law_one","_law_two"]) (js:=[none,none]) rfl rfl rfl (jE K rfl true true rfl (B.at "zip") (O (pv 0) (O (pv 1) aw))) (fun _ _ _ _ _=>(dJ K rfl (n:=2) rfl (bO (bf 0 (fJ (by decide))) (bO (bf 1 (fJ (by decide))) dH)))) (fun _ _ _ _ _=>fw) (fun _ _ _ _ _=>(oq m6 (hr.mono (by lia)) rfl (O (pv 0) (O (pv 1) aw))))) aw))))))) bM) (aA (bJ (cI (dw K B (O (pv 1) (O (cR (x:="str") (v:=.ty "str") rfl (B.at "str") pA rfl) aw)))) (aH (aQ (ir (dw K B (O (pv 0) (O (cR (x:="str") (v:=.ty "str") rfl (B.at "str") pA rfl) aw))) (iJ (fb (cP K rfl hr.units) (pv 0) (pv 1) (bo _)))))) bM) (aH (aQ (ir (oq Bt (hr.mono (by lia)) rfl (O (pv 0) aw)) (iJ (fb (cP K rfl hr.units) (pv 0) (pv 1) (bo _)))))))),?_⟩
     obtain⟨va,xs,rfl,hV,hW⟩:=rv.lst_inv;obtain⟨ua,ys,rfl,hU,oH⟩:=ru.lst_inv;have lx:=hW.length;have ly:=oH.length;refine⟨_,rfl,bP rfl,fun tt H1 n1=>.inr ⟨_,"list",tt,["list","tuple"],_,rfl,n1.at',.inl ⟨rfl,_,hU.go n1.same⟩,by decide,rfl,_,rfl,bT ?_⟩⟩;have s1:=n1.same;refine⟨_,rfl,.inl ⟨_,"list","list",_,rfl,.inl ⟨rfl,_,hU.go s1⟩,by decide,Kk,_,rfl,.inl ⟨_,"list","list",_,rfl,.inl ⟨rfl,_,hV.go s1⟩,by decide,Kk,.inr ⟨.bool true,.bool true,lC _,lC _,rfl,rfl,_,rfl,bB ?_⟩⟩⟩⟩;refine⟨_,rfl,.inl ⟨_,"list","tuple",_,rfl,.inl ⟨rfl,_,hU.go s1⟩,by decide,Kj,_,rfl,.inl ⟨_,"list","tuple",_,rfl,.inl ⟨rfl,_,hV.go s1⟩,by decide,Kj,.inr ⟨.bool false,.bool false,lC _,lC _,rfl,rfl,_,rfl,bB ?_⟩⟩⟩⟩;refine⟨_,rfl,va,_,rfl,.inl (hV.go s1),_,rfl,ua,_,rfl,.inl (hU.go s1),.inl ⟨_,_,rfl,rfl,_,rfl,?_⟩⟩;rw[cB (show(xs.length:Int)=(ys.length:Int) by lia)];refine bT ?_;refine⟨_,rfl,_,rfl,va,ua,rfl,⟨_,hV.go s1⟩,⟨_,hU.go s1⟩,fun D2 H2 n2=>?_⟩;refine RO (K:=K) (b1:=true) (b2:=true) (xs:=xs) (ys:=ys) (bs:=List.replicate ds.length true) _ rfl (hV.go s1) (hU.go s1) n2 (by rw[CC];lia) (by rw[CC];lia) ?_ ?_
     · intro q x y b H3 Q' ex ey eb s3 hq
       have IK:b=true:=by
        rw[VL]at eb;split at eb
        ·exact(dG eb).symm
        ·cases eb
       subst IK;have cY:=s1.trans s3;obtain⟨d1,e1,r1⟩:=hW.get' q ex;obtain⟨d2,e2,r2⟩:=oH.get' q ey;rw[e1]at e2;cases e2;exact⟨_,rfl,_,rfl,x,y,d1,rfl,RD.mono cY _ r1,RD.mono cY _ r2,hA d1 (gy e1),fun H4 s4=>hq H4 s4⟩
     · intro H3 s3 d3
       refine⟨D2,_,rfl,aE.of d3,?_⟩;rw[Sz];exact k H3 (s1.trans s3)
end
end Lw
set_option maxHeartbeats 4000000
namespace Lw
open PySem PySem.Spec PyProof.Rows L2 Rt Ln Cn Pn Wk Rn
open Ow (topR cornO mnO betR atO ownF leadF ownL OkI OkIs)
section
variable {w:World}{mg:Str->Option Value}{base:Heap}
theorem mI{z:Str}{n:Nat}(h:SeqAt.shaped (.str z)=true):dj n (.str z):=⟨Vv h,fT _⟩
theorem uK{z:Str}(h:z="step"\/z="wait"\/z="tool"\/z="mark"):SeqAt.shaped (.str z)=true:=by rcases h with rfl|rfl|rfl|rfl<;>decide+kernel
abbrev A0:ai->Prop:=fun _=>False
theorem lT{A:ai->Prop}(z:Int):Nx A (.int z):=.inl (.inl ⟨z,rfl⟩)
theorem sx{A:ai->Prop}{s:Str}{n:Nat}(hn:n<=8)(h:dj n (.str s)):Nx A (.str s):=.inl (.inr ⟨s,rfl,h.shaped (by lia),h.refl⟩)
theorem Xu(ti:Int)(zs:List Int)(q:Rat)(hz:zs.length<=1000):Nx (Nx (Nx A0)) (nZ ti zs q):=by
 refine .inr ⟨_,.inl rfl,(by simp),fun x hx=>?_⟩;simp only[bI,cC,dv]at hx;rcases hx with rfl|rfl|rfl|rfl
 ·exact sx (n:=0) (by decide) (mI (uK (.inl rfl)))
 · refine .inr ⟨_,.inl rfl,by rw[cj];lia,fun y hy=>?_⟩
   obtain⟨z,_,rfl⟩:=jy.mp hy;exact lT z
 ·exact lT _
 · refine .inr ⟨_,.inl rfl,(by simp),fun y hy=>?_⟩
   simp only[bI,cC,dv]at hy;rcases hy with rfl|rfl<;>exact lT _
theorem O3{d:ai}(h:p9 d):Nx (Nx (Nx A0)) d:=by
 rcases h with⟨n,rfl,_⟩|⟨w,s,rfl,hw,h,_⟩
 · refine .inr ⟨_,.inl rfl,(by simp),fun x hx=>?_⟩
   simp only[bI,cC,dv]at hx;rcases hx with rfl|rfl
   ·exact sx (n:=0) (by decide) (mI (uK (.inr (.inl rfl))))
   ·exact lT _
 · refine .inr ⟨_,.inl rfl,(by simp),fun x hx=>?_⟩
   simp only[bI,cC,dv]at hx;rcases hx with rfl|rfl
   ·exact sx (n:=0) (by decide) (mI (uK (.inr (.inr hw))))
   ·exact sx (by decide) h
theorem a3q{n:Nat}{ns:List Int}{sp:Int}(h:eu n 100 ns)(hn:n<=1000):Nx (Nx (Nx A0)) (iu ns sp):=by
 refine .inr ⟨_,.inl rfl,(by simp),fun x hx=>?_⟩;simp only[bI,cC,dv]at hx;rcases hx with rfl|rfl|rfl
 ·exact .inl (.inr ⟨_,rfl,sO,by decide+kernel⟩)
 · refine .inr ⟨_,.inl rfl,by rw[cj,h.len];lia,fun y hy=>?_⟩
   obtain⟨z,_,rfl⟩:=jy.mp hy;exact lT z
 ·exact lT _
theorem YE{n:Nat}{ds:List ai}{os:List Itm}(h:gD n ds os)(hw:RowW ds os)(hn:n<=1000)(hl:ds.length<=1000):Nx (Nx (Nx (Nx A0))) (.list ds):=by refine .inr ⟨_,.inr rfl,by lia,fun x hx=>?_⟩;obtain⟨i,hi⟩:=pG.mp hx;obtain⟨o,eo,it⟩:=h.get hi;cases o with |none=>exact O3 (hw i x eo hi) |some z=>obtain⟨ns,sp⟩:=z;rw[kj it];exact a3q (h.ok i ns sp eo).1 hn
theorem a9m{a:Addr}{xs:List V}{bs:List Bool}{te:TE}{Q:VK}{D:Addr}{H H0:Hp}{n:Nat}(Pr:V->V->Prop)(rest:L2.St)(hn:n=2)(hx:aE K H a xs)(nw:Nw H H0 D (.lst []))(hl:xs.length=bs.length)(hz:xs.length<=1000) (hp:∀(i:Nat)(x:V),xs[i]? =some x->∃p y z,x= .ref p/\aP K H p [y,z]/\Pr y z) (hs:∀(i:Nat)(y z:V)(b:Bool)(H2:Hp)(Q':VK),Pr y z->bs[i]? =some b->aB H H2->(∀H3,aB H2 H3->Q' (.bl b) H3)->te (some y::some z::rest) H2 Q') (hq:∀H',aB H H'->H' D=some (.lst (bs.map V.bl))->Q (.ref D) H'):iD (qN K a) (oU K n (jJ (eK 0) (jJ (eK 1) qz))) gO te Q D (none::none::rest) H0:=by
  subst hn;have hD:=nw.no;refine qF xs.length (fun i Z H2=>aB H H2/\H2 D=some (.lst ((bs.take i).map V.bl))/\∃v v',Z=v::v'::rest) ?_ ?_ ?_
  ·exact⟨nw.same,nw.at',none,none,rfl⟩
  · rintro i Z H2 hi ⟨s2,d2,v,v',rfl⟩
    have vL:i<bs.length:=by rw[<-hl];exact hi
    have ex:=bZ hi;have eb:=bZ vL;refine⟨⟨xs,_,hx.go s2,ex⟩,fun y' H3 jH=>?_⟩;obtain⟨rfl,k1⟩:=jH;have e1:=k1 _ (hx.go s2);rw[ex]at e1;cases e1;obtain⟨p,y,z,ep,hpp,pr⟩:=hp i _ ex;rw[ep]at ex⊢;refine⟨p,_,rfl,hpp.go s2,rfl,_,_,rfl,_,_,rfl,rfl,?_⟩;refine yes (bT ?_);refine hs i y z _ _ _ pr eb s2 fun H4 s4=>?_;refine⟨_,s4 _ _ d2,?_,xs.length-(i+1),by lia,rfl,by lia,fun b o e=>?_,?_,_,_,rfl⟩
    · rw[cj,nS]
      have:(1000:Nat)<sizeLine:=by decide
      lia
    ·rw[aK (fQ e hD)];exact s4 b o (s2 b o e)
    ·rw[ba,pF,eb,nR];rfl
  · rintro Z H2 ⟨s2,d2,v,v',rfl⟩
    refine⟨⟨xs,hx.go s2,bF _⟩,hq H2 s2 ?_⟩;rw[d2,hl,wK]
def ze(es:List ai):Prop:=SeqAt.shaped (.list es)=true/\PyData.eqv (.list es) (.list es)=true/\cK es=true
structure Ad where
 a:Addr
 q:Addr
 d:Addr
 e:Addr
 t:Addr
def Ad.all(x:Ad):List Addr:=[x.a,x.q,x.d,x.e,x.t]
def lP(K:aa)(H:Hp)(td:Addr)(n:Nat)(X:Addr->Prop):Prop:=∃ts,H td=some (.lst ts)/\ts.length<=n/\∀t∈ts,∃p l ta us es,t=V.ref p/\aP K H p [.ref l,.ref ta]/\H l=some (.lst us)/\aP K H ta us/\aI K H us es/\ze es/\¬X l
theorem lP.go{H H':Hp}{td:Addr}{n m:Nat}{X X':Addr->Prop}(h:lP K H td n X)(hm:n<=m)(s:bR H H')(et:∀o,H td=some o->H' td=some o)(hl:∀l us,¬X l->H l=some (.lst us)->H' l=some (.lst us)/\¬X' l):lP K H' td m X':=by obtain⟨ts,e,l,ht⟩:=h;refine⟨ts,et _ e,by lia,fun t m=>?_⟩;obtain⟨p,l,ta,us,es,h1,h2,h3,h4,h5,h6,h7⟩:=ht t m;obtain⟨g1,g2⟩:=hl l us h7 h3;exact⟨p,l,ta,us,es,h1,aP.v s h2,g1,aP.v s h4,aI.v s _ h6.2.2 h5,h6,g2⟩
theorem cA.mono{M:bN}{D D':Nat}{S:bj}(h:cA M D S)(h1:D<=D')(h2:D'<=1500):cA M D' S:=by refine⟨h.row,h.rw,h.len,h.dk,h.dF,h.dn,h.pl,h.pd.mono (by lia),h.pm,?_,by have:=h.D1;lia,h2⟩;have:=h.aU;cases hs:S.aU with |none=>trivial |some z=>obtain⟨sq,st,gn⟩:=z;rw[hs]at this;obtain⟨g0,g1,g2,hd,hl,hz,hh⟩:=this;exact⟨g0,g1,g2,hd.mono h1,hl,hz,hh⟩
theorem One.goal{M:bN}{D:Nat}{S S1:bj}{e:ai}(ok:cA M D S)(o:One M S e S1):cU S1=cU S:=by cases o with |line eo nh=>exact Qn eo |gY eo ed nh=>obtain⟨_,_,_,_,h⟩:=O1 (d:=e) ok eo;exact h
theorem Run.goal{M:bN}{D:Nat}{S S1:bj}{es:List ai}(ok:cA M D S)(aM:M.Ok)(r:Run M S es S1):cU S1=cU S:=by induction r with |nil=>rfl |cons o _ ih=>rw[ih (One.ok ok aM o),o.goal ok]
theorem One.det{M:bN}{S S1 S2:bj}{e f:ai}(h:One M S e S1)(g:One M S f S2):e=f/\S1=S2:=by cases h with
 |line h1 _=>cases g with |line g1 _=>rw[h1]at g1;cases g1;exact⟨rfl,rfl⟩ |gY g1 _ _=>rw[h1]at g1;cases g1
 |gY h1 h2 _=>cases g with |line g1 _=>rw[h1]at g1;cases g1 |gY g1 g2 _=>rw[h2]at g2;cases g2;exact⟨rfl,rfl⟩
theorem One.go{M:bN}{S S1:bj}{e:ai}(h:One M S e S1):¬(S.os=[]\/Halt S.pc S.aU):=by
 rintro(z|z)
 ·cases h with |line h1 _=>rw[z]at h1;simp at h1 |gY h1 _ _=>rw[z]at h1;simp at h1
 ·cases h with |line _ nh=>exact nh z |gY _ _ nh=>exact nh z
theorem Run.a92{M:bN}{S S1 S2:bj}{es fs:List ai}(h:Run M S es S1){n:Int}(l1:(es.length:Int)<=n)(c1:(es.length:Int)=n\/S1.os=[]\/Halt S1.pc S1.aU)(g:Run M S fs S2)(l2:(fs.length:Int)<=n)(c2:(fs.length:Int)=n\/S2.os=[]\/Halt S2.pc S2.aU):es=fs/\S1=S2:=by induction h generalizing fs n with
 |nil=>cases g with |nil=>exact⟨rfl,rfl⟩ |cons o r=>
     rcases c1 with z|z
     ·simp only[jU,JR]at z l2;lia
     ·exact(o.go z).elim
 |cons o r ih=>cases g with
   |nil=>
     rcases c2 with z|z
     ·simp only[jU,JR]at z l1;lia
     ·exact(o.go z).elim |cons o2 r2=>obtain⟨e,z⟩:=o.det o2;subst e z;simp only[jU]at l1 c1 l2 c2;obtain⟨e1,e2⟩:=ih (n:=n-1) (by lia) (c1.imp (fun h=>by lia) id) r2 (by lia) (c2.imp (fun h=>by lia) id);exact⟨by rw[e1],e2⟩
theorem Xt(ti:Int)(zs:List Int)(q:Rat):dj 2 (nZ ti zs q):=by refine gf.tup (.cons (mI (uK (.inl rfl))) (.cons (gf.tup fun d hd=>?_) (.cons (.int _) (.cons (gf.tup (.cons (.int _) (.cons (.int _) .nil))) .nil))));obtain⟨a,_,rfl⟩:=jy.mp hd;exact .int _
theorem O2{d:ai}(h:p9 d):dj 2 d:=by
 rcases h with⟨n,rfl,_⟩|⟨w,s,rfl,hw,h,_⟩
 ·exact gf.tup (.cons (mI (uK (.inr (.inl rfl)))) (.cons (.int _) .nil))
 ·exact gf.tup (.cons (mI (uK (.inr (.inr hw)))) (.cons (h.le (by decide)) .nil))
theorem Run.ent{M:bN}{D:Nat}{S S1:bj}{es:List ai}(ok:cA M D S)(aM:M.Ok)(r:Run M S es S1):∀d∈es,dj 2 d/\Nx (Nx (Nx A0)) d:=by induction r with |nil=>exact nofun |@cons S S1 S2 e es o r ih=>
   intro d hd;rcases bI.mp hd with rfl|hd
   ·cases o with
     |@line ns sp eo nh=>
       refine⟨Xt _ _ _,Xu _ _ _ ?_⟩;have h1:=(ok.row.ok 0 ns sp eo).1.len;have h2:=aM.len;simp only[gQ,cj]
       lia |gY eo ed nh=>have:=ok.rw 0 d eo ed;exact⟨O2 this,O3 this⟩
   ·exact ih (One.ok ok aM o) d hd
theorem QO{es:List ai}(h:∀d∈es,dj 2 d)(hn:cK es=true):ze es:=by have:dj 3 (.list es):=gf.lst h;exact⟨this.shaped (by decide),this.refl,hn⟩
section
variable {C a lr ls:Addr}{mv:V}{oa:List Int}{M:bN}{H H':Hp}{n:Nat}{A:Nat->Ad}{S:Nat->bj}
end
def SM(S:bj):Prop:=dj 0 (.str S.side)/\dj 0 (.str S.mark)
theorem XE(pl:List Int):SM (my pl):=⟨(mI (by decide+kernel):dj 0 (.str "up")),(mI (by decide+kernel):dj 0 (.str ""))⟩
theorem same_none{H0 H:Hp}{x:Addr}(s:aB H0 H)(h:H x=none):H0 x=none:=by cases e:H0 x with |none=>rfl |some o=>have:=s _ _ e;rw[h]at this;cases this
theorem IG{S:bj}(h:SM S):SM (iO S):=by unfold iO;split<;>exact h
theorem One.sm{M:bN}{D:Nat}{S S1:bj}{e:ai}(ok:cA M D S)(o:One M S e S1)(h:SM S):SM S1:=by cases o with
 |line eo nh=>
   unfold fy;split
   ·exact IG h
   ·exact h |gY eo ed nh=>
   have oo:=ok.rw 0 e eo ed;rcases oo with⟨n,rfl,_⟩|⟨w,s,rfl,hw,hs,_⟩
   ·exact IG h
   · show SM (iO (if w="tool" then{S with side:=s}else if w="mark" then{S with mark:=s}else S))
     refine IG ?_;split
     ·exact⟨hs,h.2⟩
     · split
       ·exact⟨h.1,hs⟩
       ·exact h
theorem Run.sm{M:bN}{D:Nat}{S S1:bj}{es:List ai}(ok:cA M D S)(aM:M.Ok)(r:Run M S es S1)(h:SM S):SM S1:=by induction r with |nil=>exact h |cons o _ ih=>exact ih (One.ok ok aM o) (o.sm ok h)
theorem NJ{A:ai->Prop}{pl:List Int}(h:pl.length<=1000):Nx (Nx A) (fG pl):=by refine .inr ⟨_,.inl rfl,by rw[cj];lia,fun y hy=>?_⟩;obtain⟨z,_,rfl⟩:=jy.mp hy;exact lT z
theorem Za{A:ai->Prop}(q:Rat):Nx (Nx A) (cH q):=by refine .inr ⟨_,.inl rfl,(by simp),fun y hy=>?_⟩;simp only[bI,cC,dv]at hy;rcases hy with rfl|rfl<;>exact lT _
theorem HU{M:bN}{D:Nat}{S:bj}(ok:cA M D S):(cU S).length=M.rs.length:=yE _ _ ok.pl ok.si
def uL(S:bj):List ai:=[fG (fj S),fG (cU S),cH S.pc,.int S.ay,.str S.side,.str S.mark]
theorem Y1{M:bN}{D:Nat}{S:bj}(ok:cA M D S)(aM:M.Ok)(sm:SM S):Nx (Nx (Nx (Nx A0))) (.list (uL S)):=by
 have lr:=aM.len;refine .inr ⟨_,.inr rfl,(by simp[uL]),fun x hx=>?_⟩;simp only[uL,bI,cC,dv]at hx;rcases hx with rfl|rfl|rfl|rfl|rfl|rfl
 ·exact NJ (by rw[NK ok];lia)
 ·exact NJ (by rw[HU ok];lia)
 ·exact Za _
 ·exact lT _
 ·exact sx (n:=0) (by decide) sm.1
 ·exact sx (n:=0) (by decide) sm.2
theorem a3W{M:bN}{D:Nat}{S:bj}(ok:cA M D S):ze S.ds:=by refine QO (fun d hd=>?_) ok.row.no;obtain⟨i,hi⟩:=pG.mp hd;obtain⟨o,eo,it⟩:=ok.row.get hi;cases o with |none=>exact O2 (ok.rw i d eo hi) |some z=>obtain⟨ns,sp⟩:=z;rw[kj it];refine gf.tup (.cons (mI sO) (.cons (gf.tup fun d hd=>?_) (.cons (.int _) .nil)));obtain⟨a,_,rfl⟩:=jy.mp hd;exact .int _
theorem a9j{a:Addr}{b0 b1:Bool}{te:TE}{Q:VK}{D:Addr}{H H0:Hp}(hx:aE K H a [V.bl b0,.bl b1])(nw:Nw H H0 D (.lst []))(hs:∀(b:Bool)(H2:Hp)(Q':VK),Q' (.bl true) H2->te [some (V.bl b)] H2 Q')(hq:∀H',aB H H'->H' D=some (.lst ([true,true].map V.bl))->Q (.ref D) H'):iD (qN K a) (eK 0) gO te Q D [none] H0:=by
 refine a9l (bs:=[true,true]) [] hx nw rfl (by simp) (fun i x b H2 Q' ex eb s2 kq=>?_) hq;have hb:b=true:=by match i,eb with |0,eb=>cases eb;rfl |1,eb=>cases eb;rfl
 subst hb
 match i,ex with |0,ex=>cases ex;exact hs _ _ _ (kq _ (aB.refl _)) |1,ex=>cases ex;exact hs _ _ _ (kq _ (aB.refl _))
inductive TK(K:aa)(C:Addr)(vs:List V)(H:Hp)(Q:VK):Prop |mk (a:_)(q:_)(d:_)(e:_)(t:_)(M:_)(D:_)(S:_)(n:_)(X:_)(h0:vs=[.ref a,.ref d])(h1:dh K C H a q M S)(h2:eO K H d e t M S)(h3:cA M D S)(h4:M.Ok)(h5:SM S)(h6:lP K H t n X)(h7:40<=n)(h8:n<=900)(h9:(∀x,X x->H x≠none))(yB:X t)(Ql:t≠a)(Qk:t≠q)(Qj:t≠d)(h14:t≠e)(Qi:∀H',bw [t] H H'->lP K H' t n X->Q (.bl true) H'):TK K C vs H Q
def Dm(K:aa)(C:Addr):Sp:=fun vs H Q _=>TK K C vs H Q
theorem M5:bh ["_law_runner","_law_sim_here","_law_found","_law_due","_law_waits"] ["_law_runner","_law_sim_here"] (aR DY):=bG (by decide+kernel)
theorem a0X{C:Addr}(F:FA K mg "_law_seen" DY)(B:bL mg)(TC:gu K C)(m6:aD P w K mg base "_law_alike" 5 (xk (Nx (Nx (Nx (Nx A0)))) K))(a6s:aD P w K mg base "_law_sim_stops" 1 (Lf K))(a6d:cX P w K mg base C "waiting" 1 (fq K C fun _ S H Q=>∀l ys H',H l=none->H' l=some (.lst ys)->aI K H' ys S.ds->aB H H'->Q (.ref l) H'))(a6j:cX P w K mg base C "place" 3 (fq K C fun _ S H Q=>∀v H',RD K H' v (fG (fj S))->aB H H'->Q v H'))(HN:cX P w K mg base C "leads_to" 3 (fq K C fun _ S H Q=>∀v H',RD K H' v (fG (cU S))->aB H H'->Q v H'))(a6h:cX P w K mg base C "square" 1 (fq K C (Qw K)))(a6i:cX P w K mg base C "rate" 1 (fq K C fun _ S H Q=>Q (.int S.ay) H))(a6e:cX P w K mg base C "tool" 1 (fq K C fun _ S H Q=>Q (.str S.side) H))(a6l:cX P w K mg base C "last_mark" 1 (fq K C fun _ S H Q=>Q (.str S.mark) H))(yx:cX P w K mg base C "is_held" 1 (fq K C fun _ S H Q=>Q (.bl S.aU.isSome) H))(HM:cX P w K mg base C "stands" 1 (fq K C fun _ S H Q=>Q (.bl (decide (S.pc=0))) H))(a6f:cX P w K mg base C "stops_in" 1 (fq K C fun M S H Q=>Q (.int (Dh M.f S.pc)) H)):aD P w K mg base "_law_seen" 6 (Dm K C):=by
 refine F.has M5 (fun vs H Q E h=>?_) (fun _ _ _ _ _ _=>du fun _ _=>rfl) (fun f aJ A outer s H vs Q E hr h=>?_)
 · obtain⟨a,q,d,e,t,M,D,S,n,X,rfl,_⟩:=h
   rfl
 · obtain⟨a,q,d,e,t,M,D,S,n,X,rfl,R,acp,ok,aM,sm,T,n40,abd,hX,hXt,ta,tq,td,te,k⟩:=h
   obtain⟨dx,mv0,bv0,cN,tv,er,_⟩:=R.ob;obtain⟨mv,lv,gv,sv,bv,cv,rv,ez,r1,r2,r3,r4,r5,r6⟩:=acp.ob;obtain⟨ys,eq,rq⟩:=acp.qu;obtain⟨ts,et,lt,ht⟩:=T;have nd:=M5.nd;have no:=ok.row.no;have AH:=aM.len;have AU:=ok.len;have kR:sizeLine=16777216:=by decide
   refine⟨_,(aA (pS 2 nd (df (O (iK a6j TC.cl (hr.mono (by decide)) (pv 0)) (O (iK HN TC.cl (hr.mono (by decide)) (pv 0)) (O (iK a6h TC.cl (hr.mono (by decide)) (pv 0)) (O (iK a6i TC.cl (hr.mono (by decide)) (pv 0)) (O (iK a6e TC.cl (hr.mono (by decide)) (pv 0)) (O (iK a6l TC.cl (hr.mono (by decide)) (pv 0)) aw)))))))) (aA (pS 3 nd (df (O (cD hr (pv 1) aX) (O (cD hr (pv 1) aX) (O (cD hr (pv 1) aX) (O (cD hr (pv 1) aX) (O (cD hr (pv 1) aX) (O (cD hr (pv 1) aX) aw)))))))) (aA (pS 4 nd (iK a6d TC.cl (hr.mono (by decide)) (pv 0))) (aA (bJ (PW.pt (kD (fi (cI (pf m6 hr (O (pv 2) (O (pv 3) aw))))) (lE (fi (cI (pf m6 hr (O (pv 4) (O (cD hr (pv 1) aX) aw)))))))) (aH (aQ iq)) bM) (aA (gU (bJ (bW jF (dQ K B (O (cD hr (pv 1) aX) aw)) az (bo _)) (aH (gF (je K rfl (cD hr (pv 1) aX) (O (dP (O (pv 4) (O (gX (x:="tuple") (ky K rfl) rfl (B.at "tuple") fD (O (pv 4) aw)) aw))) aw)))) bM)) (aA (bJ (cI (cZ (x:="any") (Sx K rfl rfl) rfl (B.at "any") VF (O (fW (N:=["_law_one","_law_kept"]) (js:=[none,none]) rfl rfl rfl (xF K rfl (cD hr (pv 1) aX)) (fun _ _ _ _ _=>(dJ K rfl (n:=2) rfl (bO (bf 0 (fJ (by decide))) (bO (bf 1 (fJ (by decide))) dH)))) (fun _ _ _ _ _=>fw) (fun _ _ _ _ _=>(fb (jh K rfl hr.units) (pv 0) (gX (x:="list") (GC K rfl) rfl (B.at "list") ko (O (pv 1) aw)) (bo _)))) aw))) (aH (aQ iq)) bM) (aA (pS 2 nd (df (O (iK yx TC.cl (hr.mono (by decide)) (pv 0)) (O (iK HM TC.cl (hr.mono (by decide)) (pv 0)) aw)))) (aA (bJ (fi (cI (cZ (x:="all") (p8 K rfl rfl) rfl (B.at "all") qU (O (fW (N:=["_law_one"]) (js:=[none]) rfl rfl rfl (xF K rfl (pv 2)) (fun _ _ _ _ _=>(bf 0 (sJ _))) (fun _ _ _ _ _=>fw) (fun _ _ _ _ _=>(dw K B (O (pv 0) (O (cR (x:="bool") (v:=.ty "bool") rfl (B.at "bool") VE rfl) aw))))) aw)))) (aH (aQ iq)) bM) (aA (bJ (bW (jh K rfl hr.units) (pv 2) (df (O (fb xI (cD hr (pv 1) aX) kE (bo _)) (O (fb (cP K rfl hr.units) (cD hr (pv 1) aX) (dP (O az (O az aw))) (bo _)) aw))) (bo _)) (aH (aQ iq)) bM) (aH (aQ (pf m6 hr (O (iK a6f TC.cl (hr.mono (by decide)) (pv 0)) (O (pf a6s hr (O (pv 1) aw)) aw)))))))))))))),?_⟩;refine⟨_,rfl,a,dx,_,rfl,er,rfl,a,q,M,D,S,rfl,R,ok,aM,fun Zy H1 rp s1=>?_⟩;refine⟨_,rfl,a,dx,_,rfl,s1 _ _ er,rfl,a,q,M,D,S,rfl,R.same no s1,ok,aM,fun gv1 H2 rg s2=>?_⟩;have kB:=s1.trans s2;have R2:=R.same no kB;have mW:=kB _ _ er;refine⟨_,rfl,a,dx,_,rfl,mW,rfl,a,q,M,D,S,rfl,R2,ok,aM,fun XA Yw=>?_⟩;refine⟨_,rfl,a,dx,_,rfl,mW,rfl,a,q,M,D,S,rfl,R2,ok,aM,?_⟩;refine⟨_,rfl,a,dx,_,rfl,mW,rfl,a,q,M,D,S,rfl,R2,ok,aM,?_⟩;refine⟨_,rfl,a,dx,_,rfl,mW,rfl,a,q,M,D,S,rfl,R2,ok,aM,?_⟩;refine⟨bP rfl,fun l1 H3 n3=>?_⟩;have cY:=kB.trans n3.same;have YM:aI K H3 [Zy,gv1,XA,.int S.ay,.str S.side,.str S.mark] (uL S):=bQ (RD.mono (s2.trans n3.same) _ rp) (bQ (RD.mono n3.same _ rg) (bQ (Yw.go n3.same).rd (bQ (dN _) (bQ (cM _) (bQ (cM _) cL)))));have vW:=cY _ _ ez;refine⟨_,rfl,d,_,rfl,dg vW Qu,?_⟩;refine⟨_,rfl,d,_,rfl,dg vW Ia,?_⟩;refine⟨_,rfl,d,_,rfl,dg vW vS,?_⟩;refine⟨_,rfl,d,_,rfl,dg vW HV,?_⟩;refine⟨_,rfl,d,_,rfl,dg vW a6T,?_⟩;refine⟨_,rfl,d,_,rfl,dg vW a6U,?_⟩;refine⟨bP rfl,fun l2 H4 n4=>?_⟩;have fV:=cY.trans n4.same;have Fy:aI K H4 [lv,gv,sv,.int S.ay,.str S.side,.str S.mark] (uL S):=bQ (RD.mono fV _ r2) (bQ (RD.mono fV _ r3) (bQ (r4.go fV).rd (bQ (dN _) (bQ (cM _) (bQ (cM _) cL)))));refine⟨_,rfl,a,dx,_,rfl,fV _ _ er,rfl,a,q,M,D,S,rfl,R.same no fV,ok,aM,fun l zs H5 nl dl rl s5=>?_⟩;have uP:=fV.trans s5;have N7:=n4.same.trans s5;refine⟨_,rfl,_,rfl,.ref l1,.ref l2,.list (uL S),rfl,lB (aE.of (N7 _ _ n3.at')) (aI.mono N7 _ YM),lB (aE.of (s5 _ _ n4.at')) (aI.mono s5 _ Fy),Y1 ok aM sm,fun H6 s6=>?_⟩;have jY:=uP.trans s6;refine⟨_,rfl,bB ?_⟩;refine⟨_,rfl,_,rfl,d,_,rfl,dg (jY _ _ ez) m7,.ref l,.ref e,.list S.ds,rfl,lB (aE.of (s6 _ _ dl)) (aI.mono s6 _ rl),lB (aE.of (jY _ _ eq)) (aI.mono jY _ rq),YE ok.row ok.rw (by lia) (by lia),fun H7 s7=>?_⟩;have rM:=jY.trans s7;have mE:=s6.trans s7;refine⟨_,rfl,bB ?_⟩;have Gh:H l=none:=same_none fV nl;have AF:l≠t:=fun z=>by rw[z,et]at Gh;cases Gh
   have nc:=mE _ _ dl;have YL:=aI.mono mE _ rl;have IC:=rM _ _ et;have QI:=rM _ _ ez;have nXl:¬X l:=fun z=>hX l z Gh;have T7:lP K H7 t n X:=lP.go (H:=H) ⟨ts,et,lt,ht⟩ (bF _) rM.v (fun o e=>rM _ _ e) fun l us hx e=>⟨rM _ _ e,hx⟩;refine⟨fun Z H8=>∃v2 v3,Z=[some (.ref a),some (.ref d),v2,v3,some (.ref l)]/\bw [t] H H8/\lP K H8 t n X,?_,?_⟩
   · refine⟨_,rfl,d,_,rfl,dg QI Bz,t,ts,rfl,.inl (aE.of IC),_,_,rfl,rfl,_,rfl,?_⟩
     refine dR (fun HS=>?_) (fun HS=>?_)
     · have HS:((ts.length:Nat):Int)<40:=jx HS
       refine⟨_,rfl,d,_,rfl,dg QI Bz,.inl ⟨rfl,_,aE.of IC⟩,?_⟩;refine⟨_,rfl,_,rfl,l,zs,rfl,.inl ⟨aE.of nc,fun tt HB nB=>?_⟩⟩;refine⟨bP rfl,fun tp HC nC=>?_⟩;have pN:=nB.same.trans nC.same;have QM:=pN _ _ IC;refine⟨t,ts,_,rfl,rfl,QM,by lia,?_⟩;have vD:bR HC (L2.upd HC t (.lst (ts++[.ref tp]))):=.upd QM trivial;have bD:∀x o,x≠t->HC x=some o->(L2.upd HC t (.lst (ts++[.ref tp]))) x=some o:=fun x o hx e=>by rw[aK hx];exact e
       have eD:(L2.upd HC t (.lst (ts++[.ref tp]))) t=some (.lst (ts++[.ref tp])):=ba;generalize L2.upd HC t (.lst (ts++[.ref tp]))=HD at vD bD eD⊢;have Fe:=rM.trans pN;refine⟨_,_,rfl,fun x o eb hb=>bD x o (fun z=>hb (by rw[z];simp)) (Fe _ _ eb),ts++[.ref tp],eD,by rw[fo];show ts.length+1<=_;lia,fun y hy=>?_⟩;rcases uo.mp hy with hy|hy
       · obtain⟨p0,l0,wZ,u0,e0,h1,h2,h3,h4,h5,h6,h7⟩:=ht y hy
         have CU:=Fe.v.trans vD;have l0t:l0≠t:=fun z=>h7 (z▸hXt);exact⟨p0,l0,wZ,u0,e0,h1,aP.v CU h2,bD _ _ l0t (Fe _ _ h3),aP.v CU h4,aI.v CU _ h6.2.2 h5,h6,h7⟩
       · rw[cm]at hy
         exact⟨tp,l,tt,zs,S.ds,hy,aP.v vD (aP.of nC.at'),bD _ _ AF (pN _ _ nc),aP.v vD ((aP.of nB.at').go nC.same),aI.v (pN.v.trans vD) _ no YL,a3W ok,nXl⟩
     ·exact⟨_,_,rfl,bw.of rM,T7⟩
   · rintro Z H8 ⟨v2,v3,rfl,b8,T8⟩
     have v8:bR H H8:=b8.v fun x hx o eo=>by rw[cm]at hx;rw[hx,et]at eo;cases eo;trivial
     have vi:∀{x},x≠t->x∉[t]:=fun h=>by rw[cm];exact h
     have R8:=R.go no v8 (fun o e=>b8 _ _ e (vi ta.symm)) (fun o e=>b8 _ _ e (vi tq.symm));have Z8:=acp.go no v8 (fun o e=>b8 _ _ e (vi td.symm)) (fun o e=>b8 _ _ e (vi te.symm));have ez8:=b8 _ _ ez (vi td.symm);have ID:=b8 _ _ er (vi ta.symm);obtain⟨CY,QN,lt8,ht8⟩:=id T8;refine⟨_,rfl,d,_,rfl,dg ez8 Bz,t,rfl,⟨_,aE.of QN⟩,fun D1 H9 n9=>?_⟩;refine a9m (bs:=CY.map fun _=>false) (fun y z=>∃l ta us es,y= .ref l/\z= .ref ta/\H8 l=some (.lst us)/\aP K H8 ta us/\aI K H8 us es/\ze es) [] rfl (aE.of QN) n9 (by rw[cj]) (by lia) (fun i x ex=>?_) (fun i y z b HA Q' pr eb sA kq=>?_) fun HA sA dA=>?_
     · obtain⟨p,l',wZ,us,es,rfl,hp,h1,h2,h3,h4,_⟩:=ht8 x (gy ex)
       exact⟨p,_,_,rfl,hp,l',wZ,us,es,rfl,rfl,h1,h2,h3,h4⟩
     · obtain⟨l',wZ,us,es,rfl,rfl,dM,vB,res,wa⟩:=pr
       have eb:b=false:=by rw[cu]at eb;cases h:CY[i]? with |none=>rw[h]at eb;cases eb |some c=>rw[h]at eb;cases eb;rfl
       subst eb;refine⟨_,rfl,_,rfl,wZ,us,rfl,.inr (vB.go sA),fun l2 HB nB=>?_⟩;refine .inr ⟨.list es,.list es,lB (aE.of (nB.same _ _ (sA _ _ dM))) (aI.mono (sA.trans nB.same) _ res),lB (aE.of nB.at') (aI.mono (sA.trans nB.same) _ res),wa.1,wa.1,?_⟩;rw[wa.2.1];exact kq _ nB.same
     · refine⟨D1,_,rfl,aE.of dA,_,rfl,?_⟩
       have ef:(CY.map fun _=>false).any id=false:=by rw[List.any_map,List.any_eq_false];simp
       rw[ef];refine bB ?_;refine⟨_,rfl,a,dx,_,rfl,sA _ _ ID,rfl,a,q,M,D,S,rfl,R8.same no sA,ok,aM,?_⟩;refine⟨_,rfl,a,dx,_,rfl,sA _ _ ID,rfl,a,q,M,D,S,rfl,R8.same no sA,ok,aM,?_⟩;refine⟨bP rfl,fun l3 HB nB=>?_⟩;have Yi:=sA.trans nB.same;refine⟨_,rfl,l3,rfl,⟨_,aE.of nB.at'⟩,fun D2 HC nC=>?_⟩;refine a9j (aE.of nB.at') nC (fun b H2 Q' hq=>?_) fun HD sD dD=>?_
       ·exact⟨_,rfl,.inl ⟨_,"bool","bool",true,rfl,rfl,by decide,by decide,hq⟩⟩
       refine⟨D2,_,rfl,aE.of dD,_,rfl,bB ?_⟩;have N4:=Yi.trans sD;obtain⟨mv',lv',gv',pK,bv',eL,cF,ez',q1,q2,q3,q4,q5,q6⟩:=Z8.ob;have QH:=N4 _ _ ez';refine⟨_,rfl,_,rfl,d,_,rfl,dg QH BB,rfl,?_⟩;refine⟨_,rfl,d,_,rfl,dg QH vS,bP rfl,fun tz HE nE=>?_⟩;have N3:=N4.trans nE.same;refine .inr ⟨cH S.pc,cH 0,(q4.go N3).rd,(sy (aP.of nE.at')).rd,rfl,rfl,?_⟩;rw[Nz];refine⟨bP rfl,fun l4 HF nF=>?_⟩;have mD:=N3.trans nF.same;have eB:(!decide (bv'= .bp))=S.aU.isSome:=by cases hs:S.aU with |none=>rw[hs]at q5;rw[q5.1];rfl |some z=>obtain⟨sq,st,gn⟩:=z;rw[hs]at q5;obtain⟨ta,su,rfl,_⟩:=q5;rfl
       rw[eB]at nF;have Yh:=sD.trans (nE.same.trans nF.same);refine .inr ⟨.list [.bool S.aU.isSome,.bool (decide (S.pc=0))],.list [.bool S.aU.isSome,.bool (decide (S.pc=0))],lB (aE.of (Yh _ _ nB.at')) (bQ (lC _) (bQ (lC _) cL)),lB (aE.of nF.at') (bQ (lC _) (bQ (lC _) cL)),rfl,rfl,?_⟩;rw[show PyData.eqv (.list [.bool S.aU.isSome,.bool (decide (S.pc=0))]) (.list [.bool S.aU.isSome,.bool (decide (S.pc=0))])=true by cases S.aU.isSome<;>cases decide (S.pc=0)<;>rfl];refine⟨_,rfl,bB ?_⟩;refine⟨_,rfl,a,dx,_,rfl,mD _ _ ID,rfl,a,q,M,D,S,rfl,R8.same no mD,ok,aM,?_⟩;refine⟨_,rfl,d,e,t,M,D,S,rfl,Z8.same no mD,ok,aM,?_⟩;refine⟨_,_,.int _,rfl,dN _,dN _,lT _,fun HG sG=>?_⟩;have A8:=mD.trans sG;refine k HG (fun x o eb hb=>A8 _ _ (b8 _ _ eb hb)) (T8.go (bF _) A8.v (fun o e=>A8 _ _ e) fun l us hx e=>⟨A8 _ _ e,hx⟩)
end
end Lw
set_option maxHeartbeats 1000000
namespace Lw
open PySem PySem.Spec PyProof.Rows L2 Rt Ln Cn Pn Wk Rn
open Ow (topR cornO mnO betR atO ownF leadF ownL OkI OkIs)
section
variable {w:World}{mg:Str->Option Value}{base:Heap}
inductive U5(K:aa)(C:Addr)(R:kW)(vs:List V)(H:Hp)(Q:VK)(E:XK):Prop |mk (a:_)(q:_)(M:_)(D:_)(S:_)(v:_)(d:_)(o:_)(h0:vs=[.ref a,v])(h1:dh K C H a q M S)(h2:cA M D S)(h3:M.Ok)(h4:RD K H v d)(h5:nL M.rs.length d o)(h6:iQ M.rs (gI (cU S) o))(h7:(S.ds.length=20->∀H',aB H H'->E (.ref R.f) none H'))(h8:(S.ds.length<20->∀H',dh K C H' a q M (mV S d o)->bw [a,q] H H'->Q (.int (S.ds.length+1:Nat)) H')):U5 K C R vs H Q E
def zZ(K:aa)(C:Addr)(R:kW):Sp:=fun vs H Q E=>U5 K C R vs H Q E
theorem a1k{C:Addr}{R:kW}(F:MA K C "feed" "Runner.feed" Em)(TC:gu K C)(B:bL mg)(a6H:Exc K mg "Full" R.f wu xO)(a62:GV mg "MOST_WAITING" (.int 20))(a5h:aD P w K mg base "is_item" 4 (Dw K))(a5f:aD P w K mg base "is_place" 3 (Dx K))(yk:aD P w K mg base "place_behind" 2 (xj K))(HN:cX P w K mg base C "leads_to" 3 (fq K C fun _ S H Q=>∀v H',RD K H' v (fG (cU S))->aB H H'->Q v H')):Ci P w K mg base C "feed" 5 (zZ K C R):=by
 refine F.a5K Mi (fun vs H Q E h=>?_) (fun _ _ _ _ _ _=>du fun _ _=>rfl) (fun f aJ A outer s H vs Q E hr h=>?_)
 · obtain⟨a,q,M,D,S,v,d,o,rfl,_⟩:=h
   rfl
 · obtain⟨a,q,M,D,S,v,d,o,rfl,Ra,ok,aM,rd,it,pU,kf,kd⟩:=h
   obtain⟨i1,i2,i3⟩:=it.is;obtain⟨dx,mv,bv,cN,tv,e,r1,r2,r3,r4⟩:=Ra.ob;obtain⟨ys,eq,rq⟩:=Ra.qu;have nd:=Mi.nd;have lr:=aM.len;have ly:=rq.length;refine⟨_,(aA (bJ (fi (cI (pf a5h hr (O (cS TC.cl TC.pY (pv 0)) (O (pv 1) aw))))) (aH uS) bM) (aA (bJ (fi (cI (pf a5f hr (O (cS TC.cl TC.pY (pv 0)) (O (pf yk hr (O (iK HN TC.cl (hr.mono (by decide)) (pv 0)) (O (pv 1) aw))) aw))))) (aH uS) bM) (aA (bJ (bW G5 (dQ K B (O (cS TC.cl TC.kg (pv 0)) aw)) (ek (x:="MOST_WAITING") rfl a62) (bo _)) (aH (ZE (fun _ _ _ _ _ _ _ I m q=>W3 I m q) a6H PySem.F.excBase_ValueError hr.hd rfl (O aX aw))) bM) (aA (gF (je K rfl (cS TC.cl TC.kg (pv 0)) (O (pv 1) aw))) (aH (aQ (dQ K B (O (cS TC.cl TC.kg (pv 0)) aw)))))))),?_⟩;refine⟨_,rfl,a,dx,_,_,rfl,e,rfl,_,rfl,mv,v,M.rs,_,d,rfl,r1,rd,by lia,i2,i3,fun H1 s1=>⟨_,rfl,?_⟩⟩;rw[i1];refine bB ?_;have e1:=s1 _ _ e;have R1:=Ra.same ok.row.no s1;refine⟨_,rfl,a,dx,_,_,rfl,e1,rfl,?_⟩;refine⟨_,rfl,a,dx,_,rfl,e1,rfl,a,q,M,D,S,rfl,R1,ok,aM,fun g H2 rg s2=>?_⟩;have kB:=s1.trans s2;have gl:(cU S).length=M.rs.length:=yE _ _ ok.pl ok.si;have bl:(gI (cU S) o).length=M.rs.length:=wx gl fun ns sp eo=>(it.ln ns sp eo).1.len;refine⟨_,rfl,g,v,cU S,d,o,rfl,rg,RD.mono kB _ rd,it.it,fun ns sp e'=>by rw[gl];exact(it.ln ns sp e').1.len,by lia,fun u H3 ru s3=>?_⟩;have cY:=kB.trans s3;refine⟨mv,u,M.rs,_,_,rfl,RD.mono cY _ r1,ru,by lia,fun H4 s4=>⟨_,rfl,?_⟩⟩;rw[a0A pU];refine bB ?_;have fV:=cY.trans s4;have e4:=fV _ _ e;have eq4:=fV _ _ eq;refine⟨_,rfl,a,dx,_,_,rfl,e4,rfl,q,_,rfl,.inl (aE.of eq4),_,_,rfl,rfl,_,rfl,?_⟩;by_cases kS:S.ds.length=20
   · rw[show decide ((ys.length:Int)>=20)=true from cB (by lia)]
     exact bT ⟨bP rfl,kf kS _ fV⟩
   have AU:=ok.len;rw[show decide ((ys.length:Int)>=20)=false from eQ (by lia)];refine bB ?_;have kR:sizeLine=16777216:=by decide
   refine⟨_,rfl,a,dx,_,_,rfl,e4,rfl,.inl ⟨rfl,_,aE.of eq4⟩,_,rfl,q,ys,_,rfl,rfl,eq4,by lia,?_⟩;have aq:=Ra.ne;have tu:bR H4 (L2.upd H4 q (.lst (ys++[v]))):=.upd eq4 trivial;have e5:(L2.upd H4 q (.lst (ys++[v]))) a=some (.ins C dx (gR mv bv (.int S.dn) (.ref q) cN (.int S.ay) (.str S.side) (.str S.mark) tv)):=by rw[aK aq];exact e4
   refine⟨_,rfl,a,dx,_,_,rfl,e5,rfl,q,_,rfl,.inl (aE.of ba),?_⟩;have sv:bR H (L2.upd H4 q (.lst (ys++[v]))):=fV.v.trans tu;have el:((ys++[v]).length:Int)=((S.ds.length+1:Nat):Int):=by rw[fo,ly];rfl
   rw[el];refine kd (by lia) _ ⟨⟨dx,mv,bv,cN,tv,e5,RD.v sv _ (ki _ _ _ _ _) r1,RD.v sv _ (jD _) r2,r3.v sv,r4.v sv⟩,_,ba,?_⟩ fun b o' eb hb=>?_
   ·exact(aI.v sv _ ok.row.no rq).append (bQ (RD.v sv _ it.it.no rd) cL)
   · have oT:b≠q:=fun z=>hb (by rw[z];simp)
     rw[aK oT];exact fV _ _ eb
inductive u6(R:kW):Addr->Bool->Bool->Bool->Nat->Str->Prop |f:u6 R R.f true false false 2 "full"
def SK(R:kW)(Q:VK):XK:=fun cls dx H'=>∃C b2 b3 b4 j w,u6 R C b2 b3 b4 j w/\cls= .ref C/\∀Vq,aB H' Vq->Q (.str w) Vq
theorem u6.kc{R:kW}{cG c0 c1 c2 c3 c4 c5 C:Addr}{b2 b3 b4:Bool}{j:Nat}{z:Str}(A:Cc K mg R cG c0 c1 c2 c3 c4 c5)(h:u6 R C b2 b3 b4 j z):KC K R cG [c0,c1,c2,c3,c4,c5] C false false b2 b3 b4/\ClsAt K C:=by
 cases h
 ·exact⟨A.f,A.xf.cls⟩
theorem u6.one{R:kW}{C:Addr}{b2 b3 b4:Bool}{j:Nat}{z:Str}(h:u6 R C b2 b3 b4 j z):[false,false,b2,b3,b4].count true=1/\[false,false,b2,b3,b4][j]? =some true/\(∀m,m<j->[false,false,b2,b3,b4][m]? =some false)/\j<1000/\fA [V.str "item",.str "",.str "full",.str "moving",.str "rate"] (j:Nat)=some (.str z):=by
 cases h<;>refine⟨by decide,rfl,fun m hm=>?_,by decide,rfl⟩
 ·match m,hm with|0,_=>rfl|1,_=>rfl
def zY(P:ah)(w:World)(K:aa)(mg:Str->Option Value)(base:Heap)(R:kW)(k:Nat):u9:=fun outer s vs H Q _=>∃(f c:Addr)(cl:List (Str×Addr))(pr:Arguments)(b:Expr)(sc:Scope)(q:Str)(N:List Str)(xs:List V)(t:XK->TE),vs=[.ref f]/\wz s.heap H (da outer) f pr b sc q c cl/\H c=some (.ext (jv c q))/\qQ s.heap H (da outer) cl N xs/\xs.length=N.length/\uc N sc/\(∀pm cd ct,bindArgs (PySem.W.kla_fn "<lambda>" q pr b sc cl pm cd ct) ⟨[],[]⟩=pure [])/\(∀(A:aj)(outer:List Env)(s:ae)(H:Hp)(E:XK),cE k (A.deeper (PySem.W.envX q sc s.heap.objs.size f (.ref c) cl))->PE (qh (jS P w) P w K mg base N q sc f (.ref c) cl A outer s H E) b (t E))/\t (SK R Q) (xs.map some) H Q
theorem Mc:bh ["_law_deed_here","e","_law_kinds","_law_others"] ["_law_deed_here"] (aR E6):=bG (by decide+kernel)
theorem a1n{R:kW}{cG c0 c1 c2 c3 c4 c5:Addr}{k:Nat}(F:FA K mg "_law_refused" E6)(B:bL mg)(EA:Cc K mg R cG c0 c1 c2 c3 c4 c5):zc P w K mg base "_law_refused" (k+2) (zY P w K mg base R k):=by
 refine F.a5J Mc (fun outer s vs H Q E h=>?_) (fun _ _ _ _ _ _=>fg fun _=>rfl) (fun f0 aJ A outer s H vs Q E hr h=>?_)
 · obtain⟨f,c,cl,pr,b,sc,q,N,xs,t,rfl,_⟩:=h
   rfl
 · obtain⟨f,c,cl,pr,b,sc,q,N,xs,t,rfl,L,hc,C,hl,S,hb,ht,hq⟩:=h
   have nd:=Mc.nd;have hy:=EA.g;have Hy:(wu).contains (.type "BaseException")=true:=by decide
   have HR:∀C',(∃b2 b3 b4 j w,u6 R C' b2 b3 b4 j w)->ClsAt K C'/\takes K C' cG:=fun C' ⟨b2,b3,b4,j,w,h⟩=>⟨(h.kc EA).2,(h.kc EA).1.tk⟩;have a5Z:=EA.gn;have a5S:=EA.go;have a69:GV mg "Full" (.ref R.f):=⟨_,EA.xf.at',rfl⟩;have a61:=EA.gm;have a5V:=EA.gr;have a60:=EA.h0;have a5Y:=EA.h1;have a5X:=EA.h2;have a5W:=EA.h3;have a5U:=EA.h4;have a5T:=EA.h5;have a5Q:=EA.v;refine⟨_,(yX.one (ZC (i:=1) rfl rfl nd rfl rfl rfl (fun E xe hp=>(aH (aQ (a02 0 hp)))) rfl hy Hy HR (fun ex=>(aA (pS 2 nd (df (O (cZ (x:="isinstance") (sQ K rfl) rfl (B.at "isinstance") uk (O (pv 1) (O (ek (x:="NoItem") rfl a5Z) aw))) (O (cZ (x:="isinstance") (sQ K rfl) rfl (B.at "isinstance") uk (O (pv 1) (O (ek (x:="OffRails") rfl a5S) aw))) (O (cZ (x:="isinstance") (sQ K rfl) rfl (B.at "isinstance") uk (O (pv 1) (O (ek (x:="Full") rfl a69) aw))) (O (cZ (x:="isinstance") (sQ K rfl) rfl (B.at "isinstance") uk (O (pv 1) (O (ek (x:="Moving") rfl a61) aw))) aw)))))) (aA (gF (je K rfl (pv 2) (O (cZ (x:="isinstance") (sQ K rfl) rfl (B.at "isinstance") uk (O (pv 1) (O (ek (x:="NoRate") rfl a5V) aw))) aw))) (aA (pS 3 nd (cZ (x:="isinstance") (sQ K rfl) rfl (B.at "isinstance") uk (O (pv 1) (O (dP (O (ek (x:="NoFraction") rfl a60) (O (ek (x:="NoLine") rfl a5Y) (O (ek (x:="NoMachine") rfl a5X) (O (ek (x:="NoPlace") rfl a5W) (O (ek (x:="NoTape") rfl a5U) (O (ek (x:="NoText") rfl a5T) aw))))))) aw)))) (aA (bJ (PW.pt (kD (bW (jh K rfl hr.units) (a0b K rfl (pv 2) (O iq aw)) az (bo _)) (kD (cI (pv 3)) (lE (fi (cI (cZ (x:="isinstance") (sQ K rfl) rfl (B.at "isinstance") uk (O (pv 1) (O (cR (x:="ValueError") (v:=.ty "ValueError") rfl a5Q a9N rfl) aw))))))))) (aH (aQ aX)) bM) (aA (bJ (cI (px K (pv 2) az)) (aH uS) bM) (aH (aQ (px K (df (O aX (O aX (O aX (O aX (O aX aw)))))) (a09 K rfl (pv 2) (O iq aw))))))))))))),?_⟩;refine⟨SK R Q,?_,fun cls dx H' h=>?_,?_⟩
   ·exact⟨f,c,cl,pr,b,sc,q,N,xs,t,k,rfl,rfl,L,hc,C,hl,S,hb,hr,ht,hq⟩
   · obtain⟨C,b2,b3,b4,j,w,h,e,_⟩:=h
     exact⟨C,e,b2,b3,b4,j,w,h⟩
   · intro C' ex dx σ' H' dM hE hex
     have hl4:σ'.length=4:=dM;have e1:(L2.upd H' ex (.ext (nN ex (.ref C') dx))) ex=some (.ext (nN ex (.ref C') dx)):=ba;have sm:=aB.new (o:=.ext (nN ex (.ref C') dx)) hex;have kR:sizeLine=16777216:=by decide
     match σ',hl4 with
     |[u0,u1,u2,u3],_=>
       obtain⟨C,b2,b3,b4,j,z,hw,e,kq⟩:=hE;cases e;obtain⟨cnt,o2,o3,o4,o5⟩:=hw.one;have kc:=(hw.kc EA).1;refine⟨_,rfl,.inl ⟨ex,C',dx,.ref R.n,.ref R.n,false,rfl,e1,kc.k,rfl,kc.i0,?_⟩⟩;refine⟨_,rfl,.inl ⟨ex,C',dx,.ref R.o,.ref R.o,false,rfl,e1,kc.k,rfl,kc.i1,?_⟩⟩;refine⟨_,rfl,.inl ⟨ex,C',dx,.ref R.f,.ref R.f,b2,rfl,e1,kc.k,rfl,kc.i2,?_⟩⟩;refine⟨_,rfl,.inl ⟨ex,C',dx,.ref R.m,.ref R.m,b3,rfl,e1,kc.k,rfl,kc.i3,?_⟩⟩;refine⟨bP rfl,fun l H2 n2=>?_⟩;have e2:=n2.same _ _ e1;refine⟨_,rfl,.inl ⟨rfl,_,aE.of n2.at'⟩,_,rfl,.inl ⟨ex,C',dx,.ref R.r,.ref R.r,b4,rfl,e2,kc.k,rfl,kc.i4,l,_,_,rfl,rfl,n2.at',by show 4<_;lia,?_⟩⟩;have xS:ex≠l:=fun z=>by have:=n2.no;rw[<-z,e1]at this;cases this
       have e3:(L2.upd H2 l (.lst ([V.bl false,.bl false,.bl b2,.bl b3]++[.bl b4]))) ex=some (.ext (nN ex (.ref C') dx)):=by rw[aK xS];exact e2
       have e4:(L2.upd H2 l (.lst ([V.bl false,.bl false,.bl b2,.bl b3]++[.bl b4]))) l=some (.lst ([false,false,b2,b3,b4].map V.bl)):=ba;have s3:aB H' (L2.upd H2 l (.lst ([V.bl false,.bl false,.bl b2,.bl b3]++[.bl b4]))):=fun b' o' eb=>by
        have nb:b'≠l:=fun z=>by have:=n2.no;rw[<-z,sm _ _ eb]at this;cases this
        rw[aK nb];exact n2.same _ _ (sm _ _ eb)
       generalize L2.upd H2 l (.lst ([V.bl false,.bl false,.bl b2,.bl b3]++[.bl b4]))=H3 at e3 e4 s3⊢;refine⟨_,rfl,bP rfl,fun tp H4 n4=>?_⟩;have e5:=n4.same _ _ e3;have e6:=n4.same _ _ e4;have s4:=s3.trans n4.same;refine .inr ⟨ex,C',tp,dx,[c0,c1,c2,c3,c4,c5],false,rfl,e5,kc.k,n4.at',kc.any,?_⟩;refine⟨_,rfl,.inl ⟨rfl,_,aE.of e6⟩,l,_,rfl,rfl,aE.of e6,.inl ⟨_,_,rfl,rfl,_,rfl,?_⟩⟩;rw[show(!decide (((([false,false,b2,b3,b4].count true:Nat)):Int)=1))=false by rw[cnt];rfl];refine bB ⟨_,rfl,_,rfl,bB ?_⟩;refine⟨_,rfl,.inl ⟨ex,C',dx,.ty "ValueError",.type "ValueError",true,rfl,e5,kc.k,rfl,kc.ve,_,rfl,bB ?_⟩⟩;refine⟨_,rfl,.inl ⟨l,_,1,.bl false,rfl,rfl,aE.of e6,rfl,_,rfl,?_⟩⟩;refine bB ?_;refine⟨bP rfl,fun lw H5 n5=>?_⟩;refine⟨_,rfl,.inl ⟨rfl,_,aE.of (n5.same _ _ e6)⟩,l,_,j,rfl,rfl,aE.of (n5.same _ _ e6),o2,o3,o4,?_⟩;exact .inl ⟨lw,_,_,_,rfl,rfl,aE.of n5.at',o5,kq _ (s4.trans n5.same)⟩
end
end Lw
set_option maxHeartbeats 4000000
namespace Lw
open PySem PySem.Spec PyProof.Rows L2 Rt Ln Cn Pn Wk Rn
open Ow (topR cornO mnO betR atO ownF leadF ownL OkI OkIs)
section
variable {w:World}{mg:Str->Option Value}{base:Heap}
structure bU(K:aa)(C T:Addr)(qn:Str)(H:Hp)(M:bN)(n:Nat)(A:Ad)(p:Addr)(S:bj):Prop where
 run:dh K C H A.a A.q M S
 sim:eO K H A.d A.e A.t M S
 ok:cA M (64+10*n) S
 sm:SM S
 told:lP K H A.t (40+n) (fun l=>l∈A.all\/l=p)
 nd:A.all.Nodup
 tab:TabAt H T qn
 on:iQ M.rs (cU S)
 bK:gh H p
 np:p∉A.all
section
variable {C T:Addr}{qn:Str}{H H':Hp}{M:bN}{n:Nat}{A:Ad}{p:Addr}{S:bj}
theorem bU.kind(h:bU K C T qn H M n A p S):∀x∈A.all,∃o,H x=some o/\Ck o/\∀ps,o≠ .eZ ps:=by
 intro x hx;obtain⟨dx,mv0,bv0,cN,tv,e,_⟩:=h.run.ob;obtain⟨zs,eq,_⟩:=h.run.qu;obtain⟨mv,lv,gv,sv,bv,cv,rv,ez,_⟩:=h.sim.ob;obtain⟨ys,ee,_⟩:=h.sim.qu;obtain⟨ts,et,_⟩:=h.told;simp only[Ad.all,bI,cC,dv]at hx;rcases hx with rfl|rfl|rfl|rfl|rfl
 ·exact⟨_,e,trivial,fun _ z=>nomatch z⟩
 ·exact⟨_,eq,trivial,fun _ z=>nomatch z⟩
 ·exact⟨_,ez,trivial,fun _ z=>nomatch z⟩
 ·exact⟨_,ee,trivial,fun _ z=>nomatch z⟩
 ·exact⟨_,et,trivial,fun _ z=>nomatch z⟩
theorem bU.here(h:bU K C T qn H M n A p S):∀x,(x∈A.all\/x=p)->H x≠none:=by
 intro x hx;rcases hx with hx|rfl
 · obtain⟨o,e,_⟩:=h.kind x hx
   rw[e];simp
 · obtain⟨c,m,e,_⟩:=h.bK
   rw[e];simp
theorem bU.nT(h:bU K C T qn H M n A p S):T∉A.all:=fun hx=>by obtain⟨o,e,_,hn⟩:=h.kind T hx;obtain⟨ps,et,_⟩:=h.tab;rw[e]at et;exact hn _ (dG et)
theorem bU.OB(h:bU K C T qn H M n A p S):T≠p:=fun hx=>by obtain⟨c,m,e,_⟩:=h.bK;obtain⟨ps,et,_⟩:=h.tab;rw[<-hx,et]at e;cases e
theorem bU.v(h:bU K C T qn H M n A p S)(b:bw (T::p::A.all) H H'):bR H H':=by
 refine b.v fun x hx o eo=>?_;rcases bI.mp hx with z|hx
 · obtain⟨ps,et,_⟩:=h.tab
   rw[z,et]at eo;cases eo;trivial
 · rcases bI.mp hx with z|hx
   · obtain⟨c,m,e,_⟩:=h.bK
     rw[z,e]at eo;cases eo;trivial
   · obtain⟨o',e,c,_⟩:=h.kind x hx
     rw[eo]at e;cases e;exact c
theorem TabAt.but{q:Str}{S':List Addr}(h:TabAt H T q)(b:bw S' H H')(hT:T∉S')(hS:∀x∈S',∀φ,H x≠some (.ext φ)):TabAt H' T q:=h.keep (fun ps e=>b _ _ e hT) fun x φ e=>b _ _ e fun hx=>hS x hx φ e
theorem gh.but{S':List Addr}(h:gh H p)(b:bw S' H H')(hp:p∉S'):gh H' p:=by obtain⟨c,m,e,k⟩:=h;exact⟨c,m,b _ _ e hp,k⟩
theorem bU.xR(h:bU K C T qn H M n A p S):∀x∈p::A.all,∀φ,H x≠some (.ext φ):=fun x hx φ e=>by
 rcases bI.mp hx with z|hx
 · obtain⟨c,m,e',_⟩:=h.bK
   rw[z,e']at e;cases e
 · obtain⟨o',e',c,_⟩:=h.kind x hx
   rw[e]at e';cases e';exact c
theorem bU.lO(h:bU K C T qn H M n A p S)(x:bS p H H'):bU K C T qn H' M n A p S:=by have b:bw [p] H H':=fun b o e hb=>x.same b o (fun z=>hb (by rw[z];exact .head _)) e;have v:=(bS.t h.bK x).v;have np:∀y∈A.all,∀o,H y=some o->H' y=some o:=fun y hy o e=>x.same y o (fun z=>h.np (z▸hy)) e;refine⟨h.run.go h.ok.row.no v (np _ (by simp[Ad.all])) (np _ (by simp[Ad.all])),h.sim.go h.ok.row.no v (np _ (by simp[Ad.all])) (np _ (by simp[Ad.all])),h.ok,h.sm,h.told.go (bF _) v (np _ (by simp[Ad.all])) fun l us hx e=>⟨x.same _ _ (fun z=>hx (.inr z)) e,hx⟩,h.nd,?_,h.on,x.bK,h.np⟩;exact TabAt.but h.tab b (by rw[cm];exact h.OB) fun y hy φ=>h.xR y (by rw[cm.mp hy];exact .head _) φ
theorem bU.same(h:bU K C T qn H M n A p S)(s:aB H H'):bU K C T qn H' M n A p S:=⟨h.run.same h.ok.row.no s,h.sim.same h.ok.row.no s,h.ok,h.sm,h.told.go (bF _) s.v (fun o e=>s _ _ e) fun l us hx e=>⟨s _ _ e,hx⟩,h.nd,h.tab.keep (fun ps e=>s _ _ e) (fun b φ e=>s _ _ e),h.on,by obtain⟨c,m,e,k⟩:=h.bK;exact⟨c,m,s _ _ e,k⟩,h.np⟩
theorem bU.a2n{p':Addr}(h:bU K C T qn H M n A p S)(s:aB H H')(nw:H p'=none)(bg:gh H' p'):bU K C T qn H' M n A p' S:=by have h':=h.same s;refine⟨h'.run,h'.sim,h'.ok,h'.sm,h.told.go (bF _) s.v (fun o e=>s _ _ e) fun l us hx e=>⟨s _ _ e,fun z=>z.elim (fun z=>hx (.inl z)) fun z=>?_⟩,h'.nd,h'.tab,h'.on,bg,fun z=>h.here _ (.inl z) nw⟩;rw[z,nw]at e;cases e
theorem bU.mono{m:Nat}(h:bU K C T qn H M n A p S)(h1:n<=m)(h2:m<=100):bU K C T qn H M m A p S:=⟨h.run,h.sim,h.ok.mono (by lia) (by lia),h.sm,h.told.go (by lia) (fun _ _ _ e=>e) (fun _ e=>e) fun l us hx e=>⟨e,hx⟩,h.nd,h.tab,h.on,h.bK,h.np⟩
theorem bU.upd{S':bj}(h:bU K C T qn H M n A p S)(q':Addr)(b:bw (T::p::A.all) H H')(nq:q'=A.q\/H q'=none)(R:dh K C H' A.a q' M S')(acp:eO K H' A.d A.e A.t M S')(ok:cA M (64+10*(n+1)) S')(sm:SM S') (To:lP K H' A.t (40+(n+1)) (fun l=>l∈A.all\/l=p\/l=q'))(tab:TabAt H' T qn)(on:iQ M.rs (cU S'))(bK:gh H' p):bU K C T qn H' M (n+1) {A with q:=q'} p S':=by
  have SA:∀x,x∈({A with q:=q'}:Ad).all->x∈A.all\/x=q':=fun x m=>by simp only[Ad.all,bI,cC,dv]at m⊢;rcases m with z|z|z|z|z<;>simp[z]
  have NH:q'=A.q\/(q'∉A.all/\q'≠p):=nq.imp id fun z=>⟨fun m=>h.here _ (.inl m) z,fun e=>h.here _ (.inr e) z⟩;refine⟨R,acp,ok,sm,To.go (bF _) (fun _ _ _ e=>e) (fun _ e=>e) fun l us hx e=>⟨e,fun z=>?_⟩,?_,tab,on,bK,fun z=>?_⟩
  · rcases z with z|z
    ·exact hx ((SA _ z).elim .inl fun z=>.inr (.inr z))
    ·exact hx (.inr (.inl z))
  · have nd:=h.nd
    rcases NH with e|⟨e,_⟩
    ·rw[e];exact nd
    · simp only[Ad.all,qW,bI,cC,dv,not_or]at nd e⊢
      obtain⟨⟨t1,t2,t3,t4⟩,⟨t5,t6,t7⟩,t8⟩:=nd;obtain⟨e1,e2,e3,e4,e5⟩:=e;exact⟨⟨eR e1,t2,t3,t4⟩,⟨e3,e4,e5⟩,t8⟩
  · rcases SA _ z with z|z
    ·exact h.np z
    · rcases NH with e|⟨_,e⟩
      ·exact h.np (by rw[z,e];simp[Ad.all])
      ·exact e z.symm
theorem bU.Wj{S':bj}(h:bU K C T qn H M n A p S)(q':Addr)(b:bw (T::p::A.all) H H')(et:∀o,H A.t=some o->H' A.t=some o)(nq:q'=A.q\/H q'=none)(R:dh K C H' A.a q' M S')(acp:eO K H' A.d A.e A.t M S')(ok:cA M (64+10*(n+1)) S')(sm:SM S') (tab:TabAt H' T qn)(on:iQ M.rs (cU S'))(bK:gh H' p):bU K C T qn H' M (n+1) {A with q:=q'} p S':=by
  refine h.upd q' b nq R acp ok sm (h.told.go (by lia) (h.v b) et fun l us hx e=>⟨b _ _ e fun m=>?_,fun z=>?_⟩) tab on bK
  · rcases bI.mp m with z|m
    · obtain⟨ps,e',_⟩:=h.tab
      rw[z,e']at e;cases e
    ·exact hx ((bI.mp m).elim .inr .inl)
  · rcases z with z|z|z
    ·exact hx (.inl z)
    ·exact hx (.inr z)
    · rcases nq with g|g
      ·exact hx (.inl (by rw[z,g];simp[Ad.all]))
      ·rw[<-z,e]at g;cases g
end
section
variable {C T:Addr}{qn:Str}{H H' H1 H2:Hp}{M:bN}{n:Nat}{A:Ad}{p:Addr}{S S1:bj}{q':Addr}
theorem bU.xU(h:bU K C T qn H M n A p S):A.a∉[A.d,A.e]/\A.q∉[A.d,A.e]/\A.t∉[A.d,A.e]/\A.d∉[A.a,A.q]/\A.e∉[A.a,A.q]/\A.t∉[A.a,A.q]:=by have nd:=h.nd;simp only[Ad.all,qW,bI,cC,dv,not_or]at nd⊢;obtain⟨⟨t1,t2,t3,t4⟩,⟨t5,t6,t7⟩,⟨t8,t9⟩,uC,_⟩:=nd;exact⟨⟨t2,t3⟩,⟨t5,t6⟩,⟨eR t9,eR uC⟩,⟨eR t2,eR t5⟩,⟨eR t3,eR t6⟩,⟨eR t4,eR t7⟩⟩
theorem Dg{A:Ad}:∀x,x∈[A.a,A.q]->x∈T::p::A.all:=fun x hx=>by simp only[Ad.all,bI,cC,dv]at hx⊢;rcases hx with z|z<;>simp[z]
theorem Xq{A:Ad}:∀x,x∈[A.d,A.e]->x∈T::p::A.all:=fun x hx=>by simp only[Ad.all,bI,cC,dv]at hx⊢;rcases hx with z|z<;>simp[z]
theorem bU.mid(h:bU K C T qn H M n A p S)(b1:bw [A.a,A.q] H H1):eO K H1 A.d A.e A.t M S:=h.sim.go h.ok.row.no (h.v (b1.mono Dg)) (fun o e=>b1 _ _ e h.xU.2.2.2.1) (fun o e=>b1 _ _ e h.xU.2.2.2.2.1)
theorem bU.fin(h:bU K C T qn H M n A p S)(R1:dh K C H1 A.a q' M S1)(b1:bw [A.a,A.q] H H1)(nq:q'=A.q\/H q'=none)(Z2:eO K H2 A.d A.e A.t M S1)(b2:bw [A.d,A.e] H1 H2)(ok:cA M (64+10*(n+1)) S1)(sm:SM S1)(on:iQ M.rs (cU S1)):bU K C T qn H2 M (n+1) {A with q:=q'} p S1/\bw (T::p::A.all) H H2:=by
 have bb:bw (T::p::A.all) H H2:=(b1.mono Dg).trans (b2.mono Xq);obtain⟨n1,n2,n3,n4,n5,n6⟩:=h.xU;have Z1:=h.mid b1;have uy:bR H1 H2:=Z1.v b2;have q2:q'∉[A.d,A.e]:=by
  rcases nq with z|z
  ·rw[z];exact n2
  · intro m
    refine h.here q' (.inl ?_) z;simp only[Ad.all,bI,cC,dv]at m⊢;rcases m with e|e<;>simp[e]
 have pn:∀S':List Addr,(∀x∈S',x∈A.all)->p∉S':=fun S' hs m=>h.np (hs p m);have in1:∀x∈[A.a,A.q],x∈A.all:=fun x hx=>by simp only[Ad.all,bI,cC,dv]at hx⊢;rcases hx with z|z<;>simp[z]
 have AY:∀x∈[A.d,A.e],x∈A.all:=fun x hx=>by simp only[Ad.all,bI,cC,dv]at hx⊢;rcases hx with z|z<;>simp[z]
 have WM:=TabAt.but h.tab b1 (fun m=>h.nT (in1 _ m)) fun x hx φ=>h.xR x (.tail _ (in1 x hx)) φ;have WL:=TabAt.but WM b2 (fun m=>h.nT (AY _ m)) fun x hx φ e=>by
  obtain⟨o,eo,_,_⟩:=h.kind x (AY x hx);have e1:H1 x=some o:=b1 _ _ eo (fun m=>by
   simp only[bI,cC,dv]at hx m;rcases hx with z|z<;>rcases m with g|g
   ·exact n4 (by rw[<-z,g];simp)
   ·exact n4 (by rw[<-z,g];simp)
   ·exact n5 (by rw[<-z,g];simp)
   ·exact n5 (by rw[<-z,g];simp));rw[e]at e1;cases e1;exact h.xR x (.tail _ (AY x hx)) φ eo
 refine⟨h.Wj q' bb (fun o e=>b2 _ _ (b1 _ _ e n6) n3) nq (R1.go ok.row.no uy (fun o e=>b2 _ _ e n1) (fun o e=>b2 _ _ e q2)) Z2 ok sm WL on ((h.bK.but b1 (pn _ in1)).but b2 (pn _ AY)),bb⟩
end
section
variable {C T:Addr}{qn:Str}{H H':Hp}{M:bN}{n:Nat}{A:Ad}{p:Addr}{S:bj}
theorem bU.lam(h:bU K C T qn H M n A p S)(b:bw [T] H H')(tab:TabAt H' T qn):bU K C T qn H' M n A p S:=by
 have bb:bw (T::p::A.all) H H':=b.mono fun x hx=>by rw[cm.mp hx];exact .head _
 have v:=h.v bb;have nT:∀{x},x∈A.all->x∉[T]:=fun hx m=>h.nT (by rw[<-cm.mp m];exact hx);have k:∀{x},x∈A.all->∀o,H x=some o->H' x=some o:=fun hx o e=>b _ _ e (nT hx);refine⟨h.run.go h.ok.row.no v (k (by simp[Ad.all])) (k (by simp[Ad.all])),h.sim.go h.ok.row.no v (k (by simp[Ad.all])) (k (by simp[Ad.all])),h.ok,h.sm,h.told.go (bF _) v (k (by simp[Ad.all])) fun l us hx e=>⟨b _ _ e fun m=>?_,hx⟩,h.nd,tab,h.on,h.bK.but b fun m=>h.OB (cm.mp m).symm,h.np⟩;obtain⟨ps,e',_⟩:=h.tab;rw[cm.mp m,e']at e;cases e
theorem YW{R:kW}{outer:List Env}{s':ae}{f c:Addr}{cl:List (Str×Addr)}{pr:Arguments}{b:Expr}{sc:Scope}{q:Str}{N:List Str}{iv:V}{d:ai}{o:Itm}{Q:VK}{E:XK}(L:wz s'.heap H (da outer) f pr b sc q c cl)(hc:H c=some (.ext (jv c q)))(CA:qQ s'.heap H (da outer) cl N [.ref A.a,iv])(hN:N.length=2)(Sc:uc N sc)(hb:∀pm cd ct,bindArgs (PySem.W.kla_fn "<lambda>" q pr b sc cl pm cd ct) ⟨[],[]⟩=pure []) (hpe:∀(A:aj)(outer:List Env)(s:ae)(H:Hp)(E:XK),cE 5 (A.deeper (PySem.W.envX q sc s.heap.objs.size f (.ref c) cl))->PE (qh (jS P w) P w K mg base N q sc f (.ref c) cl A outer s H E) b (D9 C "feed" (zZ K C R) E (uB 0) (Df (uB 1) mx))) (h:bU K C T qn H M n A p S)(rd:RD K H iv d)(it:nL M.rs.length d o)(aM:M.Ok)(pU:iQ M.rs (gI (cU S) o))(kf:S.ds.length=20->∀H2,aB H H2->Q (.str "full") H2)(kd:S.ds.length<20->∀H2,dh K C H2 A.a A.q M (mV S d o)->bw [A.a,A.q] H H2->Q (.int (S.ds.length+1:Nat)) H2):zY P w K mg base R 5 outer s' [.ref f] H Q E:=by obtain⟨dx,mv,bv,cN,tv,e,_⟩:=h.run.ob;refine⟨f,c,cl,pr,b,sc,q,N,_,fun E=>D9 C "feed" (zZ K C R) E (uB 0) (Df (uB 1) mx),rfl,L,hc,CA,hN.symm,Sc,hb,hpe,?_⟩;exact⟨_,rfl,A.a,dx,_,rfl,e,rfl,_,rfl,A.a,A.q,M,_,S,iv,d,o,rfl,h.run,h.ok,aM,rd,it,pU,fun kS H2 s2=>⟨R.f,_,_,_,2,"full",.f,rfl,fun H3 s3=>kf kS _ (s2.trans s3)⟩,kd⟩
end
section
variable {C T:Addr}{qn:Str}{H H1 H2:Hp}{M:bN}{n:Nat}{A:Ad}{p:Addr}{S S1:bj}
theorem a8w{D:Nat}{es:List ai}(ok:cA M D S)(aM:M.Ok)(r:Run M S es S1)(hl:es.length<=100000):Nx (Nx (Nx (Nx A0))) (.list es):=.inr ⟨_,.inr rfl,hl,fun x hx=>(r.ent ok aM x hx).2⟩
end
theorem Ji{T p q' x:Addr}{A:Ad}{H:Hp}{o:HO}(hx:x∉T::p::A.all)(nq:q'=A.q\/H q'=none)(e:H x=some o):x∉T::p::({A with q:=q'}:Ad).all:=fun m=>by
 simp only[Ad.all,bI,cC,dv,not_or]at m hx;obtain⟨h1,h2,h3,h4,h5,h6,h7⟩:=hx;rcases m with z|z|z|z|z|z|z
 ·exact h1 z
 ·exact h2 z
 ·exact h3 z
 · rcases nq with g|g
   ·exact h4 (z.trans g)
   ·rw[z,g]at e;cases e
 ·exact h5 z
 ·exact h6 z
 ·exact h7 z
section
variable {C T:Addr}{qn:Str}{H H' H5 H6 H7 H8:Hp}{M:bN}{n:Nat}{A:Ad}{p l:Addr}{S S':bj}{q':Addr}{us:List V}{es:List ai}
theorem bU.ents(h:bU K C T qn H5 M n A p S)(aM:M.Ok)(R6:dh K C H6 A.a q' M S')(lH:Mv A.a A.q H5 q' H6)(nl:H5 l=none)(dl:H6 l=some (.lst us))(lq:l≠q')(rd:aI K H6 us es)(run:Run M S es S')(Z7:eO K H7 A.d A.e A.t M S')(b7:bw [A.d,A.e] H6 H7)(s8:aB H7 H8)(hn:n<=100): bU K C T qn H8 M (n+1) {A with q:=q'} p S'/\bw (T::p::A.all) H5 H8/\H7 l=some (.lst us)/\aI K H7 us es/\l∉T::p::({A with q:=q'}:Ad).all/\lP K H8 A.t (40+(n+1)) (fun y=>(y∈({A with q:=q'}:Ad).all\/y=p)\/y=l):=by
  have G8:=run.ok h.ok aM;obtain⟨L7,b57⟩:=h.fin R6 lH.but lH.nq Z7 b7 (G8.mono (by lia) (by lia)) (run.sm h.ok aM h.sm) (by rw[run.goal h.ok aM];exact h.on);have lA:l∉T::p::A.all:=fun m=>by
   rcases bI.mp m with z|m
   · obtain⟨ps,e,_⟩:=h.tab
     rw[z,e]at nl;cases nl
   ·exact h.here l ((bI.mp m).elim .inr .inl) nl
  have lA':l∉T::p::({A with q:=q'}:Ad).all:=fun m=>by
   simp only[Ad.all,bI,cC,dv,not_or]at m lA;obtain⟨h1,h2,h3,h4,h5,h6,h7⟩:=lA;rcases m with z|z|z|z|z|z|z
   ·exact h1 z
   ·exact h2 z
   ·exact h3 z
   ·exact lq z
   ·exact h5 z
   ·exact h6 z
   ·exact h7 z
  have yP:bw (T::p::A.all) H5 H8:=fun x o e hx=>s8 _ _ (b57 _ _ e hx);refine⟨L7.same s8,yP,b7 _ _ dl fun m=>?_,aI.v (eO.v (h.mid lH.but) b7) _ (run.no h.ok aM) rd,lA',h.told.go (by lia) (h.v yP) (fun o e=>s8 _ _ (b7 _ _ (lH.but _ _ e h.xU.2.2.2.2.2) h.xU.2.2.1)) fun y jB hx e=>⟨yP _ _ e fun m=>?_,fun z=>?_⟩⟩
  · refine lA (ie _ (ie _ ?_))
    simp only[Ad.all,bI,cC,dv]at m⊢;rcases m with z|z<;>simp[z]
  · rcases bI.mp m with z|m
    · obtain⟨ps,e',_⟩:=h.tab
      rw[z,e']at e;cases e
    ·exact hx ((bI.mp m).elim .inr .inl)
  · rcases z with(z|z)|z
    · refine Ji (T:=T) (p:=p) (A:=A) (fun m=>?_) lH.nq e (ie _ (ie _ z))
      rcases bI.mp m with z|m
      · obtain⟨ps,e',_⟩:=h.tab
        rw[z,e']at e;cases e
      ·exact hx ((bI.mp m).elim .inr .inl)
    ·exact hx (.inr z)
    ·rw[z,nl]at e;cases e
theorem bU.free(h:bU K C T qn H M n A p S)(To:lP K H A.t (40+n) (fun y=>(y∈A.all\/y=p)\/y=l))(hl:l∉T::p::A.all)(el:H l=some (.lst us))(b:bw [l] H H'):bU K C T qn H' M n A p S:=by
 have v:bR H H':=b.v fun x hx o eo=>by rw[cm.mp hx,el]at eo;cases eo;trivial
 have k:∀{x},x∈T::p::A.all->x∉[l]:=fun hx m=>hl (by rw[<-cm.mp m];exact hx);have kA:∀{x},x∈A.all->∀o,H x=some o->H' x=some o:=fun hx o e=>b _ _ e (k (ie _ (ie _ hx)));refine⟨h.run.go h.ok.row.no v (kA (by simp[Ad.all])) (kA (by simp[Ad.all])),h.sim.go h.ok.row.no v (kA (by simp[Ad.all])) (kA (by simp[Ad.all])),h.ok,h.sm,To.go (bF _) v (kA (by simp[Ad.all])) fun y jB hx e=>⟨b _ _ e fun m=>hx (.inr (cm.mp m)),fun z=>hx (.inl z)⟩,h.nd,TabAt.but h.tab b (k (.head _)) fun x hx φ e=>?_,h.on,h.bK.but b (k (.tail _ (.head _))),h.np⟩;rw[cm.mp hx,el]at e;cases e
theorem bU.tell{tt tp:Addr}{ts:List V}{HC:Hp}(h:bU K C T qn H M n A p S)(hl:l∉T::p::A.all)(el:H l=some (.lst us))(res:aI K H us es)(wa:ze es)(sC:aB H HC)(htt:aP K HC tt us)(GZ:aP K HC tp [.ref l,.ref tt])(et:HC A.t=some (.lst ts))(hn:n<=99):bU K C T qn (L2.upd HC A.t (.lst (ts++[.ref tp]))) M (n+1) A p S/\bw (T::p::A.all) H (L2.upd HC A.t (.lst (ts++[.ref tp]))):=by
 have LC:=(h.same sC).mono (Nat.le_succ n) (by lia);obtain⟨t0,e0,l0,ht⟩:=(h.same sC).told;rw[et]at e0;cases e0;have vD:bR HC (L2.upd HC A.t (.lst (ts++[.ref tp]))):=.upd et trivial;have bD:bw [A.t] HC (L2.upd HC A.t (.lst (ts++[.ref tp]))):=wq (by simp);have eD:(L2.upd HC A.t (.lst (ts++[.ref tp]))) A.t=some (.lst (ts++[.ref tp])):=ba;have tA:A.t∈A.all:=by simp[Ad.all]
 generalize L2.upd HC A.t (.lst (ts++[.ref tp]))=HD at vD bD eD⊢;have s1:∀{x:Addr},x≠A.t->x∉[A.t]:=fun g=>by rw[cm];exact g
 have nd:=h.nd;simp only[Ad.all,qW,bI,cC,dv,not_or]at nd;obtain⟨⟨t1,t2,t3,t4⟩,⟨t5,t6,t7⟩,⟨t8,t9⟩,uC,_⟩:=nd;have no:=LC.ok.row.no;refine⟨⟨LC.run.go no vD (fun o e=>bD _ _ e (s1 t4)) (fun o e=>bD _ _ e (s1 t7)),LC.sim.go no vD (fun o e=>bD _ _ e (s1 t9)) (fun o e=>bD _ _ e (s1 uC)),LC.ok,LC.sm,⟨ts++[.ref tp],eD,by rw[fo];show ts.length+1<=_;lia,fun y hy=>?_⟩,LC.nd,TabAt.but LC.tab bD (s1 fun z=>LC.nT (by rw[z];exact tA)) fun x hx φ=>LC.xR x (ie _ (by rw[cm.mp hx];exact tA)) φ,LC.on,LC.bK.but bD (s1 fun z=>LC.np (by rw[z];exact tA)),LC.np⟩,fun x o e hx=>bD _ _ (sC _ _ e) (s1 fun z=>hx (by rw[z];exact ie _ (ie _ tA)))⟩;rcases uo.mp hy with hy|hy
 · obtain⟨p0,l0',ta,u0,e0,h1,h2,h3,h4,h5,h6,h7⟩:=ht y hy
   exact⟨p0,l0',ta,u0,e0,h1,aP.v vD h2,bD _ _ h3 (s1 fun z=>h7 (.inl (by rw[z];exact tA))),aP.v vD h4,aI.v vD _ h6.2.2 h5,h6,h7⟩
 · rw[cm]at hy
   exact⟨tp,l,tt,us,es,hy,aP.v vD GZ,bD _ _ (sC _ _ el) (s1 fun z=>hl (by rw[z];exact ie _ (ie _ tA))),aP.v vD htt,aI.v vD _ wa.2.2 (aI.mono sC _ res),wa,fun z=>hl (z.elim (fun z=>ie _ (ie _ z)) fun z=>by rw[z];exact .tail _ (.head _))⟩
end
theorem a3Y{M:bN}{ms:List Int}{sp:Int}(G7:eu M.rs.length 100 ms)(gA:1<=sp)(gP:sp<=20):nL M.rs.length (iu ms sp) (some (ms,sp)):=⟨.inl ⟨ms,sp,rfl,rfl⟩,fun n' s' e=>by cases e;exact⟨G7,gA,gP⟩,fun e=>by cases e⟩
theorem a3X{n:Nat}{d:ai}(h:p9 d):nL n d none:=⟨h.it,(fun _ _ e=>nomatch e),fun _=>h⟩
abbrev lV:Str:=(("_law_deed":Str)++Str.ofString ".<locals>.")++Str.ofString "<lambda>"
inductive Uz(K:aa)(C:Addr)(T:Addr)(vs:List V)(H:Hp)(Q:VK):Prop |mk (p:_)(A:_)(M:_)(n:_)(S:_)(g9:_)(h0:vs=[.ref p,.ref (Ad.a A),.ref A.d,.int g9])(h1:bU K C T lV H M n A p S)(h2:M.Ok)(h3:1<=g9)(h4:g9<=100)(h5:n<=90)(h6:∀q' S' H',bU K C T lV H' M (n+3) {A with q:=q'} p S'->bw (T::p::A.all) H H'->(q'=A.q\/H q'=none)->Q (.bl true) H'):Uz K C T vs H Q
def Lz(K:aa)(C T:Addr):Sp:=fun vs H Q _=>Uz K C T vs H Q
theorem MT:bh ["_law_bag_here","_law_runner","_law_sim_here","_law_far","_law_kind","_law_item","_law_n","_law_found"] ["_law_bag_here","_law_runner","_law_sim_here","_law_far"] (aR F1):=bG (by decide+kernel)
theorem a1W{C T:Addr}{R:kW}(F:zd K mg "_law_deed" F1 T)(B:bL mg)(TC:gu K C)(tL:base.BuiltinsAt mg T)(dS:aD P w K mg base "_law_take" 1 pL)(a6C:aD P w K mg base "_law_line" 2 (Du K))(a6A:aD P w K mg base "_law_other" 2 (Lu K))(m6:aD P w K mg base "_law_alike" 5 (xk (Nx (Nx (Nx (Nx A0)))) K))(a6x:zc P w K mg base "_law_refused" 7 (zY P w K mg base R 5))(a6m:Ci P w K mg base C "feed" 5 (zZ K C R))(a6u:aD P w K mg base "_law_sim_feed" 1 (Li K))(a6o:cX P w K mg base C "entries" 12 (Lp K C))(a6v:aD P w K mg base "_law_sim_entries" 6 (Lj K)):aD P w K mg base "_law_deed" 13 (Lz K C T):=by
 refine F.has MT (fun vs H Q E h=>?_) (fun _ _ _ _ _ _=>C4 fun _ _ _ _=>rfl) (fun f aJ A0 outer s H vs Q E Hw hr h=>?_)
 · obtain⟨p,A,M,n,S,g9,rfl,_⟩:=h
   rfl
 · obtain⟨p,A,M,n,S,g9,rfl,L,aM,Il,Ik,n90,k⟩:=h
   have nd:=MT.nd;have AH:=aM.len;refine⟨_,(aA (pS 4 nd (pf dS hr (O (pv 0) (O az aw)))) (aA (bJ (bW jF (pv 4) az (bo _)) (aA (pS 5 nd (pf a6C hr (O (pv 0) (O (cD hr (pv 2) aX) (O (cD hr (pv 2) aX) (O (pv 3) aw)))))) (aA (gU (bJ (PW.pt (oj (bW (cP K rfl hr.units) (pv 4) az (bo _)) (rV (bW (cP K rfl hr.units) (pf dS hr (O (pv 0) (O az aw))) az (bo _))))) (aH (pS 5 nd (pf a6A hr (O (pv 0) aw)))) bM)) (aH (aQ (pf m6 hr (O (ZX (a3C "_law_runner" "_law_item" 1 5 (by decide+kernel) rfl rfl rfl rfl) a6x (hr.mono (by decide)) rfl (fun _=>rfl) Hw tL rfl rfl) (O (pf a6u hr (O (pv 2) (O (pv 5) aw))) aw))))))) bM) (aA (pS 6 nd (px K (df (O az (O az (O az (O (aG cJ az (pf dS hr (O (pv 0) (O az aw)))) (O (pf dS hr (O (pv 0) (O az aw))) (O az aw))))))) (pf dS hr (O (pv 0) (O az aw))))) (aA (pS 7 nd (Ak a6o TC.cl (hr.mono (by decide)) (pv 1) (O (pv 6) aw))) (aA (bJ (fi (cI (pf m6 hr (O (pv 7) (O (pf a6v hr (O (pv 2) (O (pv 6) aw))) aw))))) (aH (aQ iq)) bM) (aA (gU (bJ (bW (cP K rfl hr.units) (aG ow (pv 6) az) az (bo _)) (aH (gF (a0c K rfl (pv 7)))) (aH (gF (je K rfl (cD hr (pv 2) aX) (O (dP (O (pv 7) (O (gX (x:="tuple") (ky K rfl) rfl (B.at "tuple") fD (O (pv 7) aw)) aw))) aw)))))) (aH (aQ iq)))))))),?_⟩;refine⟨_,rfl,p,5,rfl,L.bK,by decide,by decide,fun kd H1 k0 k1 b1=>?_⟩;have L1:=L.lO b1;have Bp:bw (T::p::A.all) H H1:=fun x o e hx=>b1.same x o (fun z=>hx (by rw[z];simp)) e;have GN:∀q' S' H',bU K C T lV H' M (n+3) {A with q:=q'} p S'->bw (T::p::A.all) H1 H'->(q'=A.q\/H1 q'=none)->Q (.bl true) H':=fun q' S' H' h1 h2 h3=>k q' S' H' h1 (Bp.trans h2) (h3.imp id fun z=>by cases e:H q' with |none=>rfl |some o=>
      by_cases hq:q'=p
      ·exact absurd z (by rw[hq];exact L1.here _ (.inr rfl))
      ·rw[b1.same _ _ hq e]at z;cases z);clear k;refine⟨_,rfl,_,_,rfl,rfl,_,rfl,?_⟩;refine dR (fun h3=>?_) (fun h3=>?_)
   ·--an item is QE
     obtain⟨mv,lv,gv,sv,bv,cv,rv,hz⟩:=L1.sim.ob;have ez:=hz.1;refine⟨_,rfl,_,rfl,A.d,_,rfl,dg ez yC,_,rfl,A.d,_,rfl,dg ez Ia,_,rfl,p,mv,M.rs,M.r,M.f,M.j,M.t,gv,cU S,g9,rfl,L1.bK,hz.2.1,aM,hz.2.2.2.1,L1.on,Il,Ik,fun iv ms sp H2 rl G7 gA gP onl b2=>?_⟩;have nI:=L1.lO b2;refine⟨fun Z H3=>∃iv d o v6 v7,Z=[some (.ref p),some (.ref A.a),some (.ref A.d),some (.int g9),some (.int kd),some iv,v6,v7]/\bU K C T lV H3 M n A p S/\bS p H1 H3/\RD K H3 iv d/\nL M.rs.length d o/\iQ M.rs (gI (cU S) o),?_,?_⟩
     · have line:∀H3,bU K C T lV H3 M n A p S->bS p H2 H3->∃Pg d o v6 v7,[some (V.ref p),some (.ref A.a),some (.ref A.d),some (.int g9),some (.int kd),some iv,none,none]=[some (.ref p),some (.ref A.a),some (.ref A.d),some (.int g9),some (.int kd),some Pg,v6,v7]/\bU K C T lV H3 M n A p S/\bS p H1 H3/\RD K H3 Pg d/\nL M.rs.length d o/\iQ M.rs (gI (cU S) o):=fun H3 h b3=>⟨iv,_,some (ms,sp),_,_,rfl,h,b2.trans b3,RD.t (bS.t nI.bK b3) _ (AM _ _) rl,a3Y G7 gA gP,onl⟩
       refine⟨_,rfl,.inl ⟨_,_,rfl,rfl,_,rfl,?_⟩⟩;refine dR (fun h2=>?_) (fun h2=>line _ nI (bS.refl nI.bK));refine⟨_,rfl,p,3,rfl,nI.bK,by decide,by decide,fun z H3 z0 z1 b3=>.inl ⟨_,_,rfl,rfl,_,rfl,?_⟩⟩;refine dR (fun h4=>?_) (fun h4=>line _ (nI.lO b3) b3);refine⟨_,rfl,p,rfl,b3.bK,fun v d H4 cF gY b4=>?_⟩;exact⟨v,d,none,_,_,rfl,(nI.lO b3).lO b4,(b2.trans b3).trans b4,cF,a3X gY,L1.on⟩
     · rintro Z H3 ⟨iv,d,o,v6,v7,rfl,L3,b13,cF,it,pU⟩
       refine⟨[.ref A.a,iv],L3.tab,rfl,fun i j v e1 e2=>?_,fun f' c' cl' H4 s' La iy Ca tb bt=>?_⟩
       ·match i,e1,e2 with |0,e1,e2=>cases e1;cases e2;rfl |1,e1,e2=>cases e1;cases e2;rfl
       have L4:=L3.lam bt tb;have Fo:=RD.v (L3.v (bt.mono fun x hx=>by rw[cm.mp hx];exact .head _)) _ it.it.no cF;have Ss:bw (T::p::A.all) H1 H4:=fun x o' e hx=>bt _ _ (b13.same x o' (fun z=>hx (by rw[z];simp)) e) fun m=>hx (by rw[cm.mp m];exact .head _);refine YW La iy Ca rfl (P7 (by decide+kernel)).1 (fun _ _ _=>rfl) (fun A outer s H E lX=>ZY a6m (a0e fun _ _ _ z=>z) TC.cl (lX.mono (by decide)) (pv 0) (O (pv 1) aw)) L4 Fo it aM pU (fun kS H5 s5=>?_) fun kS H5 R5 b5=>?_
       · have L5:=L4.same s5
         refine⟨_,rfl,_,rfl,A.d,A.e,A.t,M,_,S,iv,d,o,rfl,L5.sim,L5.ok,aM,RD.mono s5 _ Fo,it,fun ho=>?_,fun _ _ H6 s6=>?_,fun _ hl=>?_⟩
         ·rw[(O8 (wx (HU L5.ok) fun ns sp eo=>(it.ln ns sp eo).1.len)).mpr pU]at ho;cases ho
         · refine⟨_,_,.str "full",rfl,cM _,cM _,sx (n:=0) (by decide) (mI (by decide+kernel)),fun H7 s7=>?_⟩
           exact GN A.q S H7 (((L5.same s6).same s7).mono (by lia) (by lia)) (fun x o' e hx=>s7 _ _ (s6 _ _ (s5 _ _ (Ss _ _ e hx)))) (.inl rfl)
         ·exact absurd hl (by lia)
       · have Z5:=L4.mid b5
         have Yo:=RD.v (L4.v (b5.mono Dg)) _ it.it.no Fo;refine⟨_,rfl,_,rfl,A.d,A.e,A.t,M,_,S,iv,d,o,rfl,Z5,L4.ok,aM,Yo,it,fun ho=>?_,fun _ hl=>?_,fun _ _ H6 Z6 b6=>?_⟩
         ·rw[(O8 (wx (HU L4.ok) fun ns sp eo=>(it.ln ns sp eo).1.len)).mpr pU]at ho;cases ho
         ·exact absurd hl (by lia)
         · refine⟨_,_,.int _,rfl,dN _,dN _,lT _,fun H7 s7=>?_⟩
           obtain⟨L6,b46⟩:=L4.fin R5 b5 (.inl rfl) Z6 b6 ((L4.ok.QE it kS).mono (by lia) (by lia)) L4.sm (by rw[Qo];exact pU);exact GN A.q _ H7 ((L6.same s7).mono (by lia) (by lia)) (fun x o' e hx=>s7 _ _ (b46 _ _ (Ss _ _ e hx) hx)) (.inl rfl)
   ·--entries
     refine⟨_,rfl,p,20,rfl,L1.bK,by decide,by decide,fun z1 H2 z10 z11 b2=>⟨_,_,rfl,rfl,?_⟩⟩;refine⟨_,rfl,p,101,rfl,b2.bK,by decide,by decide,fun z2 H3 z20 z21 b3=>?_⟩;refine⟨bP rfl,fun ln H4 n4=>?_⟩;have L4:=((L1.lO b2).lO b3).same n4.same;refine⟨_,rfl,p,6,rfl,L4.bK,by decide,by decide,fun ix H5 vx GO b5=>?_⟩;have L5:=L4.lO b5;have tY:∀x o,x≠p->H1 x=some o->H5 x=some o:=fun x o hx e=>b5.same x o hx (n4.same _ _ (b3.same x o hx (b2.same x o hx e)));obtain⟨n',yo,n0,n1⟩:∃n':Int,fA [V.int 1,.int 2,.int 5,.int (1+z1),.int z2,.int 0] ix=some (.int n')/\0<=n'/\n'<=100:=by
      rcases(show ix=0\/ix=1\/ix=2\/ix=3\/ix=4\/ix=5 by lia)with rfl|rfl|rfl|rfl|rfl|rfl
      ·exact⟨1,rfl,by decide,by decide⟩
      ·exact⟨2,rfl,by decide,by decide⟩
      ·exact⟨5,rfl,by decide,by decide⟩
      ·exact⟨1+z1,rfl,by lia,by lia⟩
      ·exact⟨z2,rfl,by lia,by lia⟩
      ·exact⟨0,rfl,by decide,by decide⟩
     have ln5:H5 ln=some (.lst [V.int 1,.int 2,.int 5,.int (1+z1),.int z2,.int 0]):=b5.same _ _ (fun z=>((L1.lO b2).lO b3).here _ (.inr rfl) (z▸n4.no)) n4.at';refine .inl ⟨ln,_,ix,_,rfl,rfl,aE.of ln5,yo,?_⟩;obtain⟨dx5,mv5,bv5,ab1,tv5,hr5⟩:=L5.run.ob;refine⟨_,rfl,A.a,dx5,_,rfl,hr5.1,rfl,_,rfl,A.a,A.q,M,_,_,n',rfl,L5.run,L5.ok,aM,n0,by lia,fun l us es S' q' H6 nl dl rd run he oP R6 lH lq=>?_⟩;refine⟨_,rfl,_,rfl,_,rfl,A.d,A.e,A.t,M,_,_,n',rfl,L5.mid lH.but,L5.ok,aM,n0,by lia,fun l2 us2 es2 S2 H7 Ot IS pQ xA he2 a5v Z7 b7=>?_⟩;obtain⟨e1,e2⟩:=run.a92 he oP xA he2 a5v;subst e1 e2;obtain⟨_,_,nc,Ag,_,_⟩:=L5.ents aM R6 lH nl dl lq rd run Z7 b7 (aB.refl _) (by lia);refine⟨_,_,.list es,rfl,lB (aE.of nc) Ag,lB (aE.of IS) pQ,a8w L5.ok aM run (by lia),fun H8 s8=>⟨_,rfl,bB ?_⟩⟩;obtain⟨L8,yP,_,_,lA,To⟩:=L5.ents aM R6 lH nl dl lq rd run Z7 b7 s8 (by lia);have md:=s8 _ _ nc;have Z3:=aI.mono s8 _ Ag;have Sr:bw (T::p::A.all) H1 H8:=fun x o e hx=>yP _ _ (tY x o (fun z=>hx (by rw[z];simp)) e) hx;have Oc:q'=A.q\/H1 q'=none:=lH.nq.imp id fun z=>by cases e:H1 q' with |none=>rfl |some o=>
        by_cases hq:q'=p
        ·exact absurd z (L5.here q' (.inr hq))
        ·rw[tY q' o hq e]at z;cases z
     refine⟨fun _ HA=>bU K C T lV HA M (n+2) {A with q:=q'} p S'/\bw (T::p::A.all) H1 HA,?_,?_⟩
     · refine⟨_,rfl,_,_,rfl,rfl,?_,.inl ⟨_,_,rfl,rfl,_,rfl,?_⟩⟩
       ·exact(by decide:(0:Int)<2)
       refine dR (fun h1=>?_) (fun h1=>?_)
       · refine⟨_,rfl,.inl ⟨rfl,_,aE.of md⟩,l,us,rfl,rfl,md,?_⟩
         have bl:bw [l] H8 (L2.upd H8 l (.lst [])):=wq (by simp);exact⟨(L8.free To lA md bl).mono (by lia) (by lia),fun x o e hx=>bl _ _ (Sr _ _ e hx) fun m=>by have e5:=tY x o (fun z=>hx (by rw[z];simp)) e;rw[cm.mp m,nl]at e5;cases e5⟩
       · obtain⟨mvA,lvA,gvA,svA,bvA,cvA,rvA,hzA⟩:=L8.sim.ob
         obtain⟨ts,Br⟩:=L8.told;refine⟨_,rfl,A.d,_,rfl,dg hzA.1 Bz,.inl ⟨rfl,_,aE.of Br.1⟩,?_⟩;refine⟨_,rfl,_,rfl,l,us,rfl,.inl ⟨aE.of md,fun tt HB nB=>?_⟩⟩;refine⟨bP rfl,fun tp HC nC=>?_⟩;have pN:=nB.same.trans nC.same;have kR:sizeLine=16777216:=by decide
         have AE:=Br.2.1;refine⟨A.t,ts,_,rfl,rfl,pN _ _ Br.1,by lia,?_⟩;obtain⟨LD,bD⟩:=L8.tell lA md Z3 (QO (fun d hd=>(run.ent L5.ok aM d hd).1) (run.no L5.ok aM)) pN ((aP.of nB.at').go nC.same) (aP.of nC.at') (pN _ _ Br.1) (by lia);exact⟨LD,fun x o e hx=>bD _ _ (Sr _ _ e hx) (Ji hx Oc e)⟩
     · rintro Z HA ⟨LA,bA⟩
       exact GN q' S' HA (LA.mono (by lia) (by lia)) bA Oc
theorem iX{H:Hp}{x y:Addr}(hx:H x≠none)(hy:H y=none):x≠y:=fun e=>hx (by rw[e];exact hy)
theorem DJ{H H':Hp}{x:Addr}(s:aB H H')(hx:H x≠none):H' x≠none:=by cases h:H x with |none=>exact(hx h).elim |some o=>rw[s _ _ h];simp
theorem aB.but{S:List Addr}{H0 H H':Hp}(s:aB H0 H)(b:bw S H H')(hn:∀x∈S,H0 x=none):aB H0 H':=fun b' o e=>b _ _ (s _ _ e) (fun hm=>by rw[hn _ hm]at e;cases e)
theorem bU.first{C T:Addr}{qn:Str}{M:bN}{pl:List Int}{H5 H6 H9:Hp}{x q0 d0 e0 t0 p:Addr}(hT:H5 T=some (.eZ #[]))(bg:gh H5 p)(nx:H5 x=none)(xQ:H5 q0=none)(R6:dh K C H6 x q0 M (my pl))(s6:aB H5 H6)(Z0:eO K H9 d0 e0 t0 M (my pl))(T0:H9 t0=some (.lst []))(mJ:H6 d0=none)(vk:H6 e0=none)(vf:H6 t0=none)(g1:d0≠t0)(g2:e0≠t0)(s9:aB H6 H9)(on:iQ M.rs pl)(hl:pl.length=M.rs.length):bU K C T qn H9 M 0 ⟨x,q0,d0,e0,t0⟩ p (my pl):=by
 have px:H6 x≠none:=by obtain⟨_,_,_,_,_,e,_⟩:=R6.ob;rw[e];simp
 have pq:H6 q0≠none:=by obtain⟨_,e,_⟩:=R6.qu;rw[e];simp
 have pb:H5 p≠none:=by obtain⟨c,m,e,_⟩:=bg;rw[e];simp
 have G0:=DJ s6 pb;refine⟨R6.same rfl s9,Z0,YF hl,XE pl,⟨[],T0,fT _,nofun⟩,?_,.first (s9 _ _ (s6 _ _ hT)),on,?_,?_⟩
 · simp only[Ad.all,qW,bI,cC,dv,not_or,List.nodup_nil,not_false_eq_true,and_true]
   exact⟨⟨R6.ne,iX px mJ,iX px vk,iX px vf⟩,⟨iX pq mJ,iX pq vk,iX pq vf⟩,⟨Z0.ne,g1⟩,g2⟩
 · obtain⟨c,m,e,k⟩:=bg
   exact⟨c,m,s9 _ _ (s6 _ _ e),k⟩
 · simp only[Ad.all,bI,cC,dv,not_or]
   exact⟨iX pb nx,iX pb xQ,iX G0 mJ,iX G0 vk,iX G0 vf⟩
def mi(K:aa)(H:Hp)(a:Addr)(oa:List Int)(L:List Addr):Prop:=(∀H2,aE K H2 a (oa.map V.int))\/(aE K H a (oa.map V.int)/\(∃o,H a=some o)/\a∉L)
theorem mi.DH{H:Hp}{a:Addr}{oa:List Int}{L:List Addr}(h:mi K H a oa L):aE K H a (oa.map V.int):=h.elim (fun h=>h H) fun h=>h.1
theorem mi.but{H H':Hp}{a:Addr}{oa:List Int}{L L':List Addr}(h:mi K H a oa L)(b:bw L H H')(hn:∀x,x∈L'->x∈L\/H x=none):mi K H' a oa L':=by
 rcases h with h|⟨h1,⟨o,e⟩,h3⟩
 ·exact .inl h
 · refine .inr ⟨?_,⟨o,b _ _ e h3⟩,fun m=>(hn a m).elim h3 fun z=>by rw[z]at e;cases e⟩
   rcases h1 with h1|h1
   ·exact .inl (h1.imp (fun z=>b _ _ z h3) fun⟨o',z⟩=>⟨o',b _ _ z h3⟩)
   ·exact .inr h1
theorem ME:bh ["_law_script","_law_bag_here","_law_machine_here","_law_place_here","_law_runner","_law_sim_here","_law_far","_law_k","_law_quiet"] ["_law_script"] (aR uM):=bG (by decide+kernel)
theorem a1J{f C T:Addr}{fd:FuncData}(F:jQ K "law" "law" uM f fd)(TC:gu K C)(B:bL mg)(Qf:aD P w K mg base "_law_bag" 1 (LF K))(dS:aD P w K mg base "_law_take" 1 pL)(a6B:aD P w K mg base "_law_machine" 2 (Lv K))(a6z:aD P w K mg base "_law_place" 2 (Lq K))(a6c:Cj P w K mg base C "Runner" 1 (Lm K C))(a6w:aD P w K mg base "_law_sim" 1 (Ld K))(a6E:aD P w K mg base "_law_deed" 13 (Lz K C T))(Qe:aD P w K mg base "_law_seen" 6 (Dm K C)):iR P w K mg base ja 14 f fd ["_law_script"] (Dv K T):=by
 refine F.ok ME (fun vs H Q E h=>?_) (fun aJ A outer s H vs Q E hr h=>?_)
 · obtain⟨a,ns,rfl,_⟩:=h
   rfl
 · obtain⟨a,ns,rfl,hS,hlen,hT,k⟩:=h
   have nd:=ME.nd;refine⟨_,(aA (pS 1 nd (pf Qf hr (O (pv 0) (O az aw)))) (aA (pS 2 nd (pf a6B hr (O (pv 1) aw))) (aA (pS 3 nd (pf a6z hr (O (pv 1) (O (pv 2) aw)))) (aA (pS 4 nd (ZZ a6c (hr.mono (by decide)) rfl (O (pv 2) (O (pv 3) aw)))) (aA (pS 5 nd (pf a6w hr (O (pv 2) (O (pv 3) aw)))) (aA (pS 6 nd (px K (df (O az (O az (O az aw)))) (pf dS hr (O (pv 1) (O az aw))))) (aA (lF gL rfl (xE rfl (B.at "range") (O (cZ (x:="max") (S9 rfl) rfl (B.at "max") Cw (O az (O (cZ (x:="min") (J2 rfl) rfl (B.at "min") VD (O (dQ K B (O (pv 0) aw)) (O az aw))) aw))) aw)) (bf 7 nd) (aA (pS 1 nd (pf Qf hr (O (pv 0) (O (aG cJ (pv 7) az) aw)))) (aA (pS 8 nd (fb (cP K rfl hr.units) (pf dS hr (O (pv 1) (O az aw))) az (bo _))) (aH (bJ (PW.pt (kD (fi (cI (pf a6E hr (O (pv 1) (O (pv 4) (O (pv 5) (O (pv 6) aw))))))) (lE (PW.pt (oj (fi (cI (pv 8))) (rV (fi (cI (pf Qe hr (O (pv 4) (O (pv 5) aw))))))))))) (aH (aQ iq)) bM))))) (aH (aQ (pf Qe hr (O (pv 4) (O (pv 5) aw)))))))))))),?_⟩;refine⟨_,rfl,a,ns,_,rfl,hS,hlen,by lia,by lia,fun p H3 np BZ s3=>?_⟩;refine⟨_,rfl,p,rfl,BZ,fun mv rs r f j ti H4 rm aM b4=>?_⟩;have nm:=ki rs r f j ti;refine⟨_,rfl,_,rfl,p,mv,rs,r,f,j,ti,rfl,b4.bK,rm,aM,fun FX pl H5 Ae on b5=>?_⟩;have YJ:=RD.t (bS.t b4.bK b5) _ nm rm;obtain⟨M,Nj,Aq,eRs⟩:∃M:bN,RD K H5 mv M.D/\M.Ok/\M.rs=rs:=⟨⟨rs,r,f,j,ti⟩,YJ,aM,rfl⟩;have O7:iQ M.rs pl:=by rw[eRs];exact on
   have s5:aB H H5:=bS.N1 (bS.N1 s3 np b4) np b5;refine⟨_,rfl,_,rfl,fun x dx nx Gk Gi=>⟨x,dx,mv,FX,M,pl,rfl,ba,?_,?_,fun q0 H6 R6 xQ b6=>?_⟩⟩
   ·exact RD.mono (aB.new Gk|>.trans (aB.new (by rw[aK Gi.symm];exact nx))) _ Nj
   ·exact RD.mono (aB.new Gk|>.trans (aB.new (by rw[aK Gi.symm];exact nx))) _ Ae
   have LH:aB H5 (L2.upd (L2.upd H5 dx (.own x)) x (.ins C dx [])):=aB.new Gk|>.trans (aB.new (by rw[aK Gi.symm];exact nx));have s6:aB H5 H6:=aB.but LH b6 (by simpa using nx);have Od:H5 q0=none:=same_none LH xQ;refine⟨rfl,?_⟩;refine⟨_,rfl,_,rfl,mv,FX,M,pl,rfl,RD.mono s6 _ Nj,RD.mono s6 _ Ae,fun d0 e0 t0 H9 Z0 T0 mJ vk vf g1 g2 s9=>?_⟩;have L9:bU K C T lV H9 M 0 ⟨x,q0,d0,e0,t0⟩ p (my pl):=bU.first (s5 _ _ hT) b5.bK nx Od R6 s6 Z0 T0 mJ vk vf g1 g2 s9 O7 O7.len;have Nc:=s5.trans (s6.trans s9);have Sc9:mi K H9 a ns (T::p::[x,q0,d0,e0,t0]):=by
    rcases hS with hS|hS
    · have ha:H a≠none:=by rcases hS with e|⟨o,e⟩<;>(rw[e];simp)
      obtain⟨o,e⟩:=Option.ne_none_iff_exists'.mp ha;refine .inr ⟨Nc.seq (.inl hS),⟨o,Nc _ _ e⟩,fun m=>?_⟩;have HK:=DJ s5 ha;have HH:=DJ s6 HK;simp only[bI,cC,dv]at m;rcases m with z|z|z|z|z|z|z
      · rw[z]at hS
        rcases hS with g|⟨o',g⟩<;>(rw[hT]at g;cases g)
      ·exact iX ha np z
      ·exact iX HK nx z
      ·exact iX HK Od z
      ·exact iX HH mJ z
      ·exact iX HH vk z
      ·exact iX HH vf z
    ·exact .inl fun H2=>.inr hS
   refine⟨bP rfl,fun lf jt jG=>?_⟩;have SY:=L9.same jG.same;refine⟨_,rfl,p,3,rfl,SY.bK,by decide,by decide,fun zf iC z0 z1 yR=>?_⟩;obtain⟨g9,a5t,Il,Ik⟩:∃g9:Int,fA [V.int 3,.int 8,.int 25] zf=some (.int g9)/\1<=g9/\g9<=100:=by
    rcases(show zf=0\/zf=1\/zf=2 by lia)with rfl|rfl|rfl
    ·exact⟨3,rfl,by decide,by decide⟩
    ·exact⟨8,rfl,by decide,by decide⟩
    ·exact⟨25,rfl,by decide,by decide⟩
   have a3r:iC lf=some (.lst [V.int 3,.int 8,.int 25]):=yR.same _ _ (fun z=>L9.here _ (.inr rfl) (z▸jG.no)) jG.at';refine .inl ⟨lf,_,zf,_,rfl,rfl,aE.of a3r,a5t,?_⟩;have L11:=SY.lO yR;have SI:mi K iC a ns (T::p::Ad.all ⟨x,q0,d0,e0,t0⟩):=Sc9.but (fun y o e hy=>yR.same y o (fun z=>hy (by rw[z];simp)) (jG.same _ _ e)) fun y m=>.inl m;refine⟨_,rfl,a,_,rfl,.inl SI.DH,_,_,rfl,_,_,rfl,_,rfl,?_,?_,?_⟩
   ·split<;>lia
   ·rw[cj];split<;>(try split)<;>lia
   have hN:(if(if(24:Int)<((ns.map V.int).length:Int)then(24:Int)else((ns.map V.int).length:Int))>8 then(if(24:Int)<((ns.map V.int).length:Int)then(24:Int)else((ns.map V.int).length:Int))else(8:Int)).toNat<=26:=by split<;>(try split)<;>lia
   have seen:∀{H2:Hp}{A:Ad}{p':Addr}{S:bj}{n:Nat}(Q':VK),bU K C T lV H2 M n A p' S->n<=90->(∀H3,bU K C T lV H3 M n A p' S->bw (T::p'::A.all) H2 H3->Q' (.bl true) H3)->Dm K C [.ref A.a,.ref A.d] H2 Q' E0:=fun{H2 A p' S n} Q' L hn kq=>by
    have nd:=L.nd;simp only[Ad.all,qW,bI,cC,dv,not_or]at nd;obtain⟨⟨t1,t2,t3,t4⟩,⟨t5,t6,t7⟩,⟨t8,t9⟩,uC,_⟩:=nd;refine⟨A.a,A.q,A.d,A.e,A.t,M,_,S,_,_,rfl,L.run,L.sim,L.ok,Aq,L.sm,L.told,by lia,by lia,fun y hy=>L.here y hy,.inl (by simp[Ad.all]),eR t4,eR t7,eR t9,eR uC,fun H3 b3 T3=>?_⟩;have bb:bw (T::p'::A.all) H2 H3:=b3.mono fun y hy=>by rw[cm.mp hy];simp[Ad.all]
    have v:=L.v bb;have no:=L.ok.row.no;have s1:∀{y:Addr},y≠A.t->y∉[A.t]:=fun g=>by rw[cm];exact g
    refine kq H3 ⟨L.run.go no v (fun o e=>b3 _ _ e (s1 t4)) (fun o e=>b3 _ _ e (s1 t7)),L.sim.go no v (fun o e=>b3 _ _ e (s1 t9)) (fun o e=>b3 _ _ e (s1 uC)),L.ok,L.sm,T3,L.nd,TabAt.but L.tab b3 (s1 fun z=>L.nT (by rw[z];simp[Ad.all])) fun y hy φ=>L.xR y (ie _ (by rw[cm.mp hy];simp[Ad.all])) φ,L.on,L.bK.but b3 (s1 fun z=>L.np (by rw[z];simp[Ad.all])),L.np⟩ bb
   refine BD (Pv:=fun i Z H2=>∃A p S,bU K C T lV H2 M (3*i) A p S/\mi K H2 a ns (T::p::A.all)/\∃v1 v7 v8,Z=[some (.ref a),v1,some mv,some FX,some (.ref A.a),some (.ref A.d),some (.int g9),v7,v8]) ?_ ?_ ?_
   ·exact⟨_,p,_,L11,SI,_,none,none,rfl⟩
   · rintro i Z H2 hi ⟨A,p,S,nI,Jn,v1,v7,v8,rfl⟩
     have hi8:i<26:=fU hi hN;refine⟨_,rfl,_,rfl,_,_,rfl,rfl,a,ns,_,rfl,Jn.DH,hlen,by lia,by lia,fun p' H3 Oe BZ s3=>?_⟩;have L3:=nI.a2n s3 Oe BZ;have Sc3:mi K H3 a ns (T::p'::A.all):=Jn.but (fun y o e _=>s3 _ _ e) fun y m=>by
      rcases bI.mp m with z|m
      ·exact .inl (by rw[z];exact .head _)
      · rcases bI.mp m with z|m
        ·exact .inr (by rw[z];exact Oe)
        ·exact .inl (.tail _ (.tail _ m))
     refine⟨_,rfl,p',3,rfl,BZ,by decide,by decide,fun z H4 z0 z1 b4=>.inl ⟨_,_,rfl,rfl,?_⟩⟩;have L4:=L3.lO b4;have Sc4:mi K H4 a ns (T::p'::A.all):=Sc3.but (fun y o e hy=>b4.same y o (fun g=>hy (by rw[g];simp)) e) fun y m=>.inl m;refine⟨_,rfl,_,rfl,_,rfl,_,rfl,p',A,M,_,S,g9,rfl,L4,Aq,Il,Ik,by lia,fun q' S' H5 L5 b5 nq=>⟨_,rfl,bB ?_⟩⟩;have SH:mi K H5 a ns (T::p'::({A with q:=q'}:Ad).all):=Sc4.but b5 fun y m=>by
      by_cases hy:y∈T::p'::A.all
      ·exact .inl hy
      ·cases e:H4 y with |none=>exact .inr rfl |some o=>exact absurd m (Ji hy nq e)
     refine⟨_,rfl,_,rfl,?_⟩;refine dR (fun hq=>?_) (fun hq=>?_)
     · refine⟨_,rfl,_,rfl,?_⟩
       refine seen (A:={A with q:=q'}) _ L5 (show 3*i+3<=90 by lia) fun H6 L6 b6=>⟨_,rfl,bB ?_⟩;exact⟨_,p',S',L6.mono (by lia) (by lia),SH.but b6 fun y m=>.inl m,_,_,_,rfl⟩
     ·exact⟨_,p',S',L5.mono (by lia) (by lia),SH,_,_,_,rfl⟩
   · rintro Z H2 ⟨A,p,S,nI,Jn,v1,v7,v8,rfl⟩
     refine⟨_,rfl,_,rfl,?_⟩;exact seen _ nI (ib (Nat.mul_le_mul_left 3 hN) (by decide)) fun H3 L3 b3=>k _
end
end Lw
namespace Lw
open PySem PySem.Spec PyProof.Rows L2
theorem mT{K:aa}{mg:Str->Option Value}{h:Heap}{x:Str}{c:Addr}(X:K.In h)(G:h.Ns mainGlobals mg)(a:PySem.W.nsIn K mainGlobals x=some (some (.ref c))):GV mg x (.ref c):=⟨_,wI X G a,rfl⟩
theorem QL{K:aa}{mg:Str->Option Value}{h:Heap}{x:Str}{c:Addr}{bm:List Value}{nw:String}(X:K.In h)(G:h.Ns mainGlobals mg)(a:PySem.W.nsIn K mainGlobals x=some (some (.ref c)))(q:PySem.W.excIn K c bm nw=true):Exc K mg x c bm nw:=⟨wI X G a,q⟩
theorem a3O{K:aa}{n o f m r cG c0 c1 c2 c3 c4 c5 C:Addr}{b0 b1 b2 b3 b4:Bool}(t:takes K C cG)(k:nM K C)(i0:PySem.W.kitOne K (.ref C) (.ref n)=some b0)(i1:PySem.W.kitOne K (.ref C) (.ref o)=some b1)(i2:PySem.W.kitOne K (.ref C) (.ref f)=some b2)(i3:PySem.W.kitOne K (.ref C) (.ref m)=some b3)(i4:PySem.W.kitOne K (.ref C) (.ref r)=some b4)(any:PySem.W.kitAny K (.ref C) [.ref c0,.ref c1,.ref c2,.ref c3,.ref c4,.ref c5]=some false)(ve:PySem.W.kitOne K (.ref C) (.type "ValueError")=some true):KC K ⟨n,o,f,m,r⟩ cG [c0,c1,c2,c3,c4,c5] C b0 b1 b2 b3 b4:=⟨t,k,i0,i1,i2,i3,i4,any,ve⟩
theorem YX{K:aa}{mg:Str->Option Value}{h:Heap}{n o f m r cG c0 c1 c2 c3 c4 c5:Addr}(X:K.In h)(G:h.Ns mainGlobals mg)(ag:PySem.W.nsIn K mainGlobals "GlideError"=some (some (.ref cG)))(qg:PySem.W.excIn K cG wu xO=true) (h0:PySem.W.nsIn K mainGlobals "NoFraction"=some (some (.ref c0)))(h1:PySem.W.nsIn K mainGlobals "NoLine"=some (some (.ref c1)))(h2:PySem.W.nsIn K mainGlobals "NoMachine"=some (some (.ref c2)))(h3:PySem.W.nsIn K mainGlobals "NoPlace"=some (some (.ref c3)))(h4:PySem.W.nsIn K mainGlobals "NoTape"=some (some (.ref c4)))(h5:PySem.W.nsIn K mainGlobals "NoText"=some (some (.ref c5))) (an:PySem.W.nsIn K mainGlobals "NoItem"=some (some (.ref n)))(ao:PySem.W.nsIn K mainGlobals "OffRails"=some (some (.ref o)))(am:PySem.W.nsIn K mainGlobals "Moving"=some (some (.ref m)))(ar:PySem.W.nsIn K mainGlobals "NoRate"=some (some (.ref r)))(v:PySem.W.nsIn K mainGlobals "ValueError"=some none)(af:PySem.W.nsIn K mainGlobals "Full"=some (some (.ref f)))(qf:PySem.W.excIn K f wu xO=true) (kf:KC K ⟨n,o,f,m,r⟩ cG [c0,c1,c2,c3,c4,c5] f false false true false false) :∃R cG c0 c1 c2 c3 c4 c5,Cc K mg R cG c0 c1 c2 c3 c4 c5:=⟨⟨n,o,f,m,r⟩,cG,c0,c1,c2,c3,c4,c5,QL X G ag qg,mT X G h0,mT X G h1,mT X G h2,mT X G h3,mT X G h4,mT X G h5,mT X G an,mT X G ao,mT X G am,mT X G ar,PySem.W.mg_none_of X G v,QL X G af qf,kf⟩
theorem tab_of{T:Addr}{K:aa}{mg:Str->Option Value}(A:All T K mg):∃cd,p5 K cd T=true:=by obtain⟨f,fd,_,_,h⟩:=A.QG.ex;exact⟨_,h⟩
theorem aa8:yU K P:=by intro T w mg base f fd A tL F;have tk:aD P w K mg base "_law_take" 1 pL:=a0N A.a7Z A.B;have cd:aD P w K mg base "common_divisor" 1 Dz:=a1Y A.a7T A.B;have lt:aD P w K mg base "lowest_terms" 2 uG:=a1B A.a7D A.B cd;have iw:aD P w K mg base "is_whole" 1 (uI K):=a1K A.a7I A.B;have ww:aD P w K mg base "is_whole_within" 2 (rJ K):=a0F A.a7H A.B iw;have fn:aD P w K mg base "fraction" 3 (uF K):=a1S A.a7R A.B iw lt;have ld:aD P w K mg base "lead_of" 1 (lg K):=a1H A.a7F A.B;have ls:aD P w K mg base "is_less" 1 (uH K):=a1F A.a7O A.B;have cp:aD P w K mg base "corner_square" 6 (DA K):=a1X A.a7S A.B (a0H A.a7Q A.B (a0G A.a7p A.B ld fn) (a1y A.a7C A.B lt) ls) fn;have irt:aD P w K mg base "is_rate" 3 (Dq K):=a1L A.a7K A.B A.a71 A.a73 ww;have tp:aD P w K mg base "top_square" 4 (zW K):=a0J A.a7q A.B irt fn;have AX:aD P w K mg base "is_line" 1 (uJ K):=a1M A.a7N A.B;have lst:aD P w K mg base "least" 2 (jc K):=a1G A.a7E A.B ls;have Sk:aD P w K mg base "bound_between" 7 (A3 K):=a20 A.a7U A.B A.yD AX tp cp lst;have own:aD P w K mg base "own_bounds" 8 (Ls K):=a1u A.QF A.B A.yD Sk;have pw:aD P w K mg base "plus_whole" 4 (A1 K):=a1q A.a7x A.B;have nr:aD P w K mg base "nearest" 1 Dt:=a1w A.a7A A.B;have KI:aD P w K mg base "stand_at" 2 (zX K):=a0Q A.a7v A.B ld nr;have sr:aD P w K mg base "step_rows" 3 (Dn K):=a1d A.a7t A.B ld KI;have ent:aD P w K mg base "step_entry" 3 (Dy K):=a1U A.a7u A.B (a0M A.a7s A.B (a1V A.a7W A.B));have ln:aD P w K mg base "_law_line" 2 (Du K):=a1D A.a8f A.B tk;have itm:aD P w K mg base "is_item" 4 (Dw K):=a1Q A.a7P A.B A.a72 ww (a23 A.a7V A.B A.a6X ww) (a1N A.a7J A.B A.a6Y A.a6V ww (a1P A.a7M A.B A.a6Z A.a70));have isp:aD P w K mg base "is_place" 3 (Dx K):=a1O A.a7L A.B ww;have OD:aD P w K mg base "moved" 1 (A2 K):=a1x A.a7B A.B;have J8:aD P w K mg base "place_behind" 2 (xj K):=a21 A.a7z A.B AX OD;have WG:aD P w K mg base "times" 3 (mC (·*·) K):=a0K A.a7r A.B lt;have Z4:aD P w K mg base "reach_behind_first" 9 (Dp K):=a1p A.a7w A.B (a1t A.QF A.B A.yD Sk) (a1T A.a7G A.B AX ld pw lst);obtain⟨C,R⟩:=A.rc;have TC:=R.tc;have Fz:=a1j (w:=w) (mg:=mg) (base:=base) R.a33 TC;have Nh:=a1a (w:=w) (base:=base) R.a2W TC A.yD;have Nm:=a1i R.a34 TC Fz Nh;have Nk:=a1g R.a31 TC J8;have YG:=a1e R.a30 TC pw WG fn lst Fz;have ref:=a1o R.a38 TC J8;have Yv:=a19 R.a2V TC A.B ld sr tp Z4 ent Nm YG ref;have YT:=a1l R.a36 TC AX Yv ref;have YV:=a1m R.a37 TC A.B Nm YT;have Yu:=a18 (w:=w) (mg:=mg) (base:=base) R.a2U TC;have Ae:=a1c R.a2Z TC OD KI;have Yn:=a0Y (w:=w) (base:=base) R.a2S TC A.B;have Yt:=a17 (w:=w) (mg:=mg) (base:=base) R.a2X TC;have Yy:=a1b (w:=w) (mg:=mg) (base:=base) R.a2Y TC;have Ys:=a0Z (w:=w) (mg:=mg) (base:=base) R.a2T TC;have YH:=a1f (w:=w) (mg:=mg) (base:=base) R.a32 TC;obtain⟨Rf,cG,c0,c1,c2,c3,c4,c5,EA⟩:=A.rf;have AN:=a1R (w:=w) (base:=base) A.a8i A.B;have GA:=a1z A.a8d A.B (a1E (w:=w) (base:=base) A.a8g A.B);have ON:=a0O A.a80 A.B AN;have OM:=a0I A.a7X A.B AN;have AL:=a1I (w:=w) (base:=base) A.a8h A.B;have Xw:=a0R (w:=w) (base:=base) A.a82 A.B;have Xx:=a0S A.a83 A.B AL (a0T A.a89 A.B (a1Z A.a8j A.B AL GA OM AN) ON AL GA) OM ON AN (a0P A.a81 A.B AL) GA (a0L A.a7Y A.B);have AK:=a1C (w:=w) (base:=base) A.a8c A.B;have al:=Ap (by decide) A.yG A.B AK (Ap (by decide) A.yG A.B AK (Ap (by decide) A.yG A.B AK (Ap (by decide) A.yG A.B AK (a24 (w:=w) (base:=base) A.yG A.B))));have YQ:=a1k R.a35 TC A.B EA.xf A.a6W itm isp J8 Nk;have YR:zc P w K mg base "_law_refused" 7 (zY P w K mg base Rf 5):=a1n A.a88 A.B EA;have Y0:=a0W A.a85 A.B Xx;have XX:=a0V (w:=w) (base:=base) A.a84 A.B;have seen:=a0X A.a87 A.B TC al Xw Yn Ae Nk Yt Yy Ys YH Fz Nh Yu;have a93:=a1W A.QG A.B TC tL tk ln (a1v A.a8b A.B tk) al YR YQ XX YV Y0;exact a1J F TC A.B (a22 A.a8k A.B) tk (a1A A.a8e A.B tk) (a1s A.a8a A.B tk) (a1h R.init TC A.yD A.a74) (a0U A.a86 A.B) a93 seen
theorem aa9{P:ah}{w:World}{K:aa}{mg:Str->Option Value}{base:Heap}{f T:Addr}{fd:FuncData}(A:All T K mg)(tL:base.BuiltinsAt mg T)(F:jQ K "law" "law" uM f fd):iR P w K mg base ja 14 f fd ["_law_script"] (Dv K T):=WJ aa8 K P T w mg base f fd A tL F
end Lw
def PySem.W.Fast.tw8030835381067590120:PySem.Program:=PySem.Challenge.pw_glidequeue_k39_entries_between_feedings
theorem PySem.W.Fast.te8030835381067590120:PySem.Challenge.pw_glidequeue_k39_entries_between_feedings=PySem.W.Fast.tw8030835381067590120:=rfl
local macro_rules|`(command|universe $x:ident)=>return Lean.mkNullNode (<-((x.getId.toString.splitOn "_").drop 1).toArray.mapM fun i=>`(command|theorem $(Lean.mkIdent (`_root_.PySem.W.Fast++Lean.Name.mkSimple s!"tw{(`PySem.Challenge.cw_glidequeue_k39_entries_between_feedings_holds++Lean.Name.mkSimple ((match i.front with|'h'=>"heap"|'t'=>"tree"|'v'=>"view"|'s'=>"sts"|'e'=>"env"|_=>"o")++"_"++(i.drop 1).toString)).hash}")):ident:True:=True.intro))
universe t_h921_t904_t821_t647_v39_h39_t733_t920_t435_t370_t477_s822_t292_t241_s478_o905_o822_t211_s737_o737_t189_s371_t167_o478_o436_s293_t152_o371_o878_o876_s436_t137_o840_s905_o897_o895_o293_o842_o904_t115_o902_o911_o598_o913_o591_o596_o589_o920_o811_o918_s242_t226_o866_o809_t100_o864_o885_o799_o242_o386_o454_o568_o854_o642_o852_o570_o482_o873_o816_o871_o349_o814_o456_o347_o493_o399_o883_t85_o861_o397_o828_o859_o440_o423_o227_o391_o384_o421_o212_o449_o491_o190_o389_o797_o830_o447_o442_o461_o168_o752_o153_o750_o361_o584_o138_o582_o435_o344_o116_o433_o849_o745_o575_o71_o101_o342_o430_o363_o505_o308_o463_t70_o428_o847_o301_o500_o86_o651_o418_o292_o339_o416_o821_o299_o315_o804_o337_o370_o278_o276_o759_o49_o320_o470_o612_o773_o368_o802_o498_o290_o757_o507_o610_o771_o329_o468_o306_o605_o334_o594_o327_o477_o743_o332_o263_o603_o819_o173_o892_o475_o322_o356_o285_o807_o270_o794_o766_o413_o890_s168_o209_o283_o377_o268_o313_o792_o184_o826_o411_o764_o354_o379_o261_o732_o780_o916_o641_o587_o556_o837_o182_o542_o835_o626_o382_o640_o205_o561_o778_o709_o695
open PySem PySem.W PyProof.Rows
set_option maxRecDepth 100000 in
set_option maxHeartbeats 0 in
theorem PySem.Challenge.cw_glidequeue_k39_entries_between_feedings_holds : PySem.Challenge.rw_glidequeue_k39_entries_between_feedings.Holds := by
 w_on; o_law; k_head; (case hw=>w_witness2)
 k_fill
 refine L2.a3y (l:=PySem.Challenge.rw_glidequeue_k39_entries_between_feedings) (k:=14) (x:="_law_script") (st:=Lw.uM) rfl rfl ⟨rfl,by decide,by decide⟩ (fun w h Y=>⟨PySem.W.km_in_of Y,PySem.W.km_tabs_of Y _ (.head _)⟩) (Lw.All _) ?F ?K (fun _ _ A=>Lw.tab_of A) (fun _ _ A=>A.law) (fun _ _ _ _ _ _ _=>rfl) (fun _ _ _ _ _ _ _ A hB F=>Lw.aa9 A hB F)
 case K=>exact fun w=>(by kernel_rfl)
 case F=>
  intro w mg h KX G
  refine⟨L2.a9O KX G ?b,?x1,?x2,?x3,?x4,?x5,?x6,?x7,?x8,?x9,?x10,?x11,?x12,?x13,?x14,?x16,?x17,?x18,?x19,?x20,?x21,?x22,?x23,?x24,?x25,?x26,?x27,?x28,?x29,?x30,?x31,?x32,?x33,?x34,?x35,?x36,?x37,?x38,?x39,?x40,?x41,?x42,?x43,?x44,?x45,?x46,?x47,?x48,?x49,?x50,?x51,?x52,?x53,?x54,?x55,?x56,?x57,?x58,?x59,?x60,?x61,?x62,?x63,?x64,?x65,?x66,?x67,?x68,?x69,?x70,?x71,?x72,?x73,?x74,?x75⟩
  case b=>(unfold L2.BX; repeat (refine L2.qL.cons ?z ?_; (case z=>k_is))); exact L2.qL.nil
  case x1=>refine' L2.Qm KX G ?a ?l ?z ?r; (case a=>k_is); (case l=>k_is); (case z=>decide); (case r=>exact .cons ⟨_,rfl⟩ (.cons ⟨_,rfl⟩ .nil))
  case x2=>refine' L2.Qm KX G ?a ?l ?z ?r; (case a=>k_is); (case l=>k_is); (case z=>decide); (case r=>exact .cons ⟨_,rfl⟩ (.cons ⟨_,rfl⟩ .nil))
  case x3=>(refine' L2.qy KX G ?z; (case z=>k_is))
  case x4=>(refine' L2.qy KX G ?z; (case z=>k_is))
  case x5=>(refine' L2.qy KX G ?z; (case z=>k_is))
  case x6=>(refine' L2.qy KX G ?z; (case z=>k_is))
  case x7=>(refine' L2.qy KX G ?z; (case z=>k_is))
  case x8=>(refine' L2.qy KX G ?z; (case z=>k_is))
  case x9=>(refine' L2.qy KX G ?z; (case z=>k_is))
  case x10=>(refine' L2.qy KX G ?z; (case z=>k_is))
  case x11=>(refine' L2.a6K KX G ?z; (case z=>k_is))
  case x72=>(refine' L2.a7k KX G ?a ?l ?c ?k ?t; (case a=>k_is); (case l=>k_is); (case c=>k_is); (case k=>k_is); (case t=>kernel_rfl))
  case x74=>
   refine' Exists.intro _ (Lw.SN.mk (Lw.gu.mk (L2.jR.mk ?pg ?hd ?po ?sa) ?n1 ?n2 ?n3 ?n4 ?n5 ?n6 ?n7 ?n8 ?n9) (L2.a9G KX G ?aC ?mk ?kc ?ia ?ii ?il ?ic ?ik) (L2.iY ?a0 ?i0 ?l0 ?c0 ?k0) (L2.iY ?a1 ?i1 ?l1 ?c1 ?k1) (L2.iY ?a2 ?i2 ?l2 ?c2 ?k2) (L2.iY ?a3 ?i3 ?l3 ?c3 ?k3) (L2.iY ?a4 ?i4 ?l4 ?c4 ?k4) (L2.iY ?a5 ?i5 ?l5 ?c5 ?k5) (L2.iY ?a6 ?i6 ?l6 ?c6 ?k6) (L2.iY ?a7 ?i7 ?l7 ?c7 ?k7) (L2.iY ?a8 ?i8 ?l8 ?c8 ?k8) (L2.iY ?a9 ?i9 ?l9 ?c9 ?k9) (L2.iY ?a10 ?i10 ?l10 ?c10 ?k10) (L2.iY ?a11 ?i11 ?l11 ?c11 ?k11) (L2.iY ?a12 ?i12 ?l12 ?c12 ?k12) (L2.iY ?a13 ?i13 ?l13 ?c13 ?k13) (L2.iY ?a14 ?i14 ?l14 ?c14 ?k14) (L2.iY ?a15 ?i15 ?l15 ?c15 ?k15) (L2.iY ?a16 ?i16 ?l16 ?c16 ?k16))
   (case aC=>k_is)
   case n1 | n2 | n3 | n4 | n5 | n6 | n7 | n8 | n9=>(unfold L2.j9; k_is)
   case pg | hd | po | sa | mk | kc | ia | ii | il | ic | ik | a0 | i0 | l0 | c0 | k0 | a1 | i1 | l1 | c1 | k1 | a2 | i2 | l2 | c2 | k2 | a3 | i3 | l3 | c3 | k3 | a4 | i4 | l4 | c4 | k4 | a5 | i5 | l5 | c5 | k5 | a6 | i6 | l6 | c6 | k6 | a7 | i7 | l7 | c7 | k7 | a8 | i8 | l8 | c8 | k8 | a9 | i9 | l9 | c9 | k9 | a10 | i10 | l10 | c10 | k10 | a11 | i11 | l11 | c11 | k11 | a12 | i12 | l12 | c12 | k12 | a13 | i13 | l13 | c13 | k13 | a14 | i14 | l14 | c14 | k14 | a15 | i15 | l15 | c15 | k15 | a16 | i16 | l16 | c16 | k16=>k_is
  case x75=>
   refine' Lw.YX KX G ?ag ?qg ?h0 ?h1 ?h2 ?h3 ?h4 ?h5 ?an ?ao ?am ?ar ?v ?af ?qf (Lw.a3O ?ft ⟨?fk1,?fk2,?fk3,?fk4,?fk5,?fk6,?fk7,?fk8⟩ ?fi0 ?fi1 ?fi2 ?fi3 ?fi4 ?fany ?fve)
   case ag | h0 | h1 | h2 | h3 | h4 | h5 | an | ao | am | ar | v | af=>k_is
   case qg | qf=>k_exc
   case ft=>(show PySem.W.mroIn _ _ _=_; k_is)
   case fk1 | fk2 | fk3 | fk4 | fk5 | fk6 | fk7 | fk8=>k_is
   case fi0 | fi1 | fi2 | fi3 | fi4 | fany | fve=>kit_is
  all_goals (refine' L2.a7m KX G ?a ?l ?c ?k; (case a=>k_is); (case l=>k_is); (case c=>k_is); (case k=>k_is))
#print axioms PySem.Challenge.cw_glidequeue_k39_entries_between_feedings_holds
