import PyProof.Rows.All
import Wide.All
import OpenK.AllK
import Wide.FinOn
import Lean
import PyProof.EqAt
import PyProof.EqKinds
import PyProof.TupleCall
import PySem.Challenge.RW_glidequeue_k41_let_go_on
set_option Elab.async false
set_option linter.all false
set_option maxRecDepth 100000
abbrev aH:=@PySem.wpAny_bind
abbrev aO:=@if_pos
abbrev aP:=@if_neg
abbrev bo:=@Nat.le_refl
abbrev bB:=@List.mem_cons
abbrev bM:=@PySem.intBits_le_64
abbrev bN:=@List.getElem?_eq_getElem
abbrev bR:=@PySem.wpAny_pure
abbrev bS:=@List.mem_singleton
abbrev bT:=@List.length_map
abbrev bW:=@PySem.Heap.get?_push_of_some
abbrev bZ:=@List.getElem?_map
abbrev cf:=@PySem.Heap.lt_size
abbrev ck:=@decide_eq_true
abbrev cw:=@List.not_mem_nil
abbrev df:=@or_false
abbrev dh:=@List.getElem?_eq_some_iff
abbrev dj:=@Option.some.inj
abbrev dB:=@Rat.le_trans
abbrev dN:=@List.size_toArray
abbrev dP:=@PySem.Heap.get?_push_size
abbrev eg:=@decide_eq_false
abbrev ek:=@Ne.symm
abbrev eu:=@Bool.and_eq_true
abbrev fe:=@Nat.ne_of_lt
abbrev fm:=@List.length_append
abbrev fo:=@Int.pow_succ
abbrev fq:=@Int.natAbs_mul
abbrev fC:=@beq_iff_eq
abbrev fD:=@PyProof.Rows.boot_tuple
abbrev fL:=@Nat.lt_of_lt_of_le
abbrev fX:=@Nat.zero_le
abbrev fY:=@Int.le_refl
abbrev gf:=@List.mem_of_getElem?
abbrev gE:=@PySem.PassesOwn.never
abbrev gR:=@Nat.le_trans
abbrev gU:=@PySem.IntMulOk.of_bits
abbrev gW:=@Int.mul_pos
abbrev iy:=@List.all_eq_true
abbrev iL:=@List.lookup_cons
abbrev iY:=@PySem.wpAny_field
abbrev jk:=@PySem.wpAny_mono
abbrev jm:=@of_decide_eq_true
abbrev jn:=@List.mem_map
abbrev jo:=@Int.mul_nonneg
abbrev jI:=@List.length_cons
abbrev jJ:=@Bool.true_and
abbrev jK:=@Bool.false_ne_true
abbrev jU:=@PyProof.Rows.boot_list
abbrev jV:=@Int.one_mul
abbrev jW:=@Bool.false_and
abbrev kM:=@List.mem_append_right
abbrev kN:=@List.getElem?_eq_none
abbrev kO:=@Int.pow_zero
abbrev lU:=@Nat.mul_le_mul
abbrev mX:=@List.mem_filterMap
abbrev mY:=@List.map_cons
abbrev mZ:=@List.map_append
abbrev nc:=@List.length_take
abbrev ng:=@Int.emod_nonneg
abbrev nj:=@Bool.eq_iff_iff
abbrev oK:=@PySem.wpAny_truthy_bool
abbrev oM:=@PySem.wpAny_newObj_type
abbrev oN:=@Rat.le_refl
abbrev oO:=@PyProof.Rows.boot_str
abbrev oP:=@PyProof.Rows.boot_abs
abbrev oQ:=@Nat.lt_of_le_of_lt
abbrev oS:=@Nat.lt_irrefl
abbrev oT:=@List.take_succ
abbrev oU:=@List.mem_iff_getElem?
abbrev qq:=@decide_eq_true_iff
abbrev qv:=@Rat.num_divInt_den
abbrev qw:=@PyProof.Rows.boot_all
abbrev qx:=@Nat.pow_le_pow_right
abbrev qy:=@List.ext_getElem?
abbrev qz:=@Int.emod_lt_of_pos
abbrev qA:=@PySem.Heap.size_push
abbrev tJ:=@PySem.wpAny_seqItems
abbrev tK:=@PySem.wpAny_holding
abbrev tL:=@if_true
abbrev tN:=@PySem.mem_of_lookup
abbrev tO:=@PyProof.Rows.boot_isinstance
abbrev tP:=@List.nodup_cons
abbrev tQ:=@List.mem_cons_of_mem
abbrev tR:=@List.length_set
abbrev tS:=@List.getElem_range
abbrev tT:=@List.any_cons
abbrev tV:=@Int.mul_assoc
abbrev vP:=@PySem.wpAny_passesOwn
abbrev vQ:=@Rat.divInt_nonneg_iff_of_pos_right
abbrev vR:=@PySem.W.mg_of
abbrev vS:=@PyProof.Rows.callWith_type1
abbrev vT:=@List.take_length
abbrev vU:=@List.mem_append
abbrev vV:=@List.getElem?_zip_eq_some
abbrev vW:=@List.getElem?_append_left
abbrev vZ:=@Bool.eq_false_iff
abbrev yD:=@PySem.wpAny_setField_rec
abbrev yE:=@PySem.wpAny_of_eq
abbrev yF:=@PySem.wpAny_execs_nil
abbrev yG:=@PySem.wpAny_call
abbrev yH:=@PySem.wpAny_Call_Name_kw
abbrev yI:=@PySem.codeAny_mono
abbrev yJ:=@PySem.call_meets
abbrev yK:=@Rat.not_lt
abbrev yL:=@List.of_mem_zip
abbrev yM:=@List.map_set
abbrev yN:=@List.getElem?_set_self
abbrev yO:=@List.getElem?_append_right
abbrev yP:=@List.find?_cons
abbrev yQ:=@Int.zero_mul
abbrev yR:=@PySem.Heap.get?_update_other
abbrev yS:=@Array.length_toList
abbrev BN:=@PySem.wpAny_setField
abbrev BO:=@PySem.wpAny_pyIter_list
abbrev BP:=@PySem.wpAny_onRaise
abbrev BQ:=@PySem.wpAny_call_entry
abbrev BR:=@PySem.wpAny_callSpecial?_slot
abbrev BS:=@decide_eq_true_eq
abbrev BU:=@beq_eq_false_iff_ne
abbrev BV:=@Rat.lt_iff
abbrev BW:=@Rat.le_antisymm
abbrev BX:=@PySem.F.plainAttrs_list
abbrev BZ:=@PyProof.Rows.boot_max
abbrev C0:=@PySem.Obj.data_mapFields
abbrev C1:=@Nat.ne_of_gt
abbrev C3:=@List.mem_of_mem_take
abbrev C4:=@List.length_replicate
abbrev C5:=@List.length_eq_zero_iff
abbrev C6:=@List.getElem_mem
abbrev C7:=@List.getElem?_zipWith
abbrev C8:=@List.forIn_cons
abbrev C9:=@List.append_nil
abbrev Cb:=@Int.mul_le_mul
abbrev Cc:=@Array.toList_append
abbrev Jl:=@PySem.wpAny_pyIter_rangeiter
abbrev Jm:=@PySem.codeAmong.eq_def
abbrev Jn:=@beq_self_eq_true
abbrev Jo:=@Std.lt_of_le_of_ne
abbrev Jp:=@Rat.num_nonneg
abbrev Jq:=@Rat.num_intCast
abbrev Jr:=@Rat.le_of_lt
abbrev Js:=@Rat.den_intCast
abbrev Jt:=@PySem.W.hideAll_get
abbrev Ju:=@PySem.F.slot_zip_next
abbrev Jv:=@PySem.F.slot_tuple_iterator_next
abbrev Jw:=@PyProof.Rows.boot_int
abbrev Jx:=@Nat.sub_self
abbrev Jy:=@Nat.lt_trans
abbrev Jz:=@Nat.lt_succ_of_lt
abbrev JA:=@Nat.lt_succ_iff_lt_or_eq
abbrev JB:=@Nat.le_of_lt
abbrev JC:=@List.take_of_length_le
abbrev JD:=@List.set_set
abbrev JE:=@List.mem_cons_self
abbrev JF:=@List.length_pos_iff
abbrev JG:=@List.length_nil
abbrev JH:=@List.length_drop
abbrev JI:=@List.getElem?_set_ne
abbrev JJ:=@List.all_cons
abbrev JK:=@Int.mul_ne_zero
abbrev JL:=@Int.mul_comm
abbrev JM:=@Int.lt_or_le
abbrev JN:=@Int.le_of_lt
abbrev JO:=@PySem.Heap.get?_update_self
abbrev JP:=@Bool.and_true
abbrev JQ:=@Array.getElem?_eq_some_iff
abbrev Vu:=@PySem.wpAny_updateSeq_pair
abbrev Vv:=@PySem.wpAny_pyNext_range_end
abbrev Vw:=@PySem.wpAny_newFunctionEnv
abbrev Vx:=@PySem.SeqAt.canLay_of_shaped
abbrev Vy:=@Rat.intCast_lt_intCast
abbrev Vz:=@Rat.divInt_sub_divInt
abbrev VA:=@Rat.divInt_mul_divInt
abbrev VB:=@PySem.W.plainGet_of
abbrev VC:=@PySem.W.callWith_K
abbrev VD:=@PySem.Str.cps_append
abbrev VE:=@PyProof.Rows.slot_tuple_getitem
abbrev VF:=@PyProof.Rows.boot_min
abbrev VG:=@PyProof.Rows.boot_bool
abbrev VH:=@PyProof.Rows.boot_any
abbrev VI:=@PySem.Obj.isFreed_of_fields
abbrev VJ:=@Nat.lt_succ_self
abbrev VL:=@List.mem_iff_getElem
abbrev VM:=@List.mem_append_left
abbrev VN:=@List.getElem?_replicate
abbrev VO:=@List.filterMap_cons
abbrev VP:=@Int.toNat_natCast
abbrev VQ:=@Int.mul_nonneg_of_nonpos_of_nonpos
abbrev VR:=@Int.mul_le_mul_of_nonneg_right
abbrev VS:=@Int.mul_le_mul_of_nonneg_left
abbrev VT:=@Int.lt_trichotomy
abbrev VU:=@Int.fdiv_eq_ediv_of_nonneg
abbrev VW:=@PySem.F.slot_range_reversed
abbrev VX:=@Bool.not_eq_true'
abbrev a9i:=@PySem.F.entry_tuple_iterator_next
abbrev a9j:=@PySem.F.args_tuple_iterator_next_1
abbrev a9k:=@Array.all_eq_true_iff_forall_mem
abbrev aaU:=PySem.W.Frag
abbrev aaV:=PySem.Shared
abbrev aaW:=PySem.Program
abbrev aaX:=PySem.PyData
abbrev aaY:=PySem.Around
namespace L2
open PySem PySem.Spec PyProof.Rows
abbrev Key:=Sum Int Str
def uT:Key->Value->Bool | .inl k,v=>Value.isInt k v | .inr x,v=>Value.isStrOf x v
def a3y(w:World):Key->Int | .inl k=>hashInt k | .inr x=>hashStr w x
theorem nV:∀{k:Key}{v:Value},uT k v=true->(∃i t,k=Sum.inl i/\v=Value.int i t)\/(∃x t,k=Sum.inr x/\v=Value.str x t) | .inl i,v,h=>by obtain⟨t,e⟩:=Value.isInt_shape (k:=i) (v:=v) h;exact .inl ⟨i,t,rfl,e⟩ | .inr x,v,h=>by obtain⟨t,e⟩:=Value.isStrOf_shape (x:=x) (v:=v) h;exact .inr ⟨x,t,rfl,e⟩
theorem a3x(i:Int)(t:Tok):uT (.inl i) (.int i t)=true:=by simp[uT,Value.isInt]
theorem a3w(x:Str)(t:Tok):uT (.inr x) (.str x t)=true:=by simp[uT,Value.isStrOf]
theorem a3v(a b:Int):decide ((Sum.inl a:Key)=Sum.inl b)=(a==b):=by
 by_cases e:a=b
 ·subst e;simp
 · have h:¬(Sum.inl a:Key)=Sum.inl b:=fun q=>e (Sum.inl.inj q)
   rw[eg h];exact(BU.mpr e).symm
theorem a3s(a b:Str):decide ((Sum.inr a:Key)=Sum.inr b)=decide (a=b):=by
 by_cases e:a=b
 ·subst e;simp
 · have h:¬(Sum.inr a:Key)=Sum.inr b:=fun q=>e (Sum.inr.inj q)
   rw[eg h,eg e]
theorem a3u(a:Int)(b:Str):decide ((Sum.inl a:Key)=Sum.inr b)=false:=eg (fun q=>nomatch q)
theorem a3t(a:Str)(b:Int):decide ((Sum.inr a:Key)=Sum.inl b)=false:=eg (fun q=>nomatch q)
def ja(prog:aaW)(w:World):PySem.KeyKind prog w Key where
 is:=uT
 hash:=a3y w
 inj:=fun v a b ha hb=>by
  rcases nV ha with⟨i,t,rfl,rfl⟩|⟨x,t,rfl,rfl⟩
  · rcases nV hb with⟨j,u,rfl,e⟩|⟨y,u,rfl,e⟩
    ·injection e with e1 _;rw[e1]
    ·exact nomatch e
  · rcases nV hb with⟨j,u,rfl,e⟩|⟨y,u,rfl,e⟩
    ·exact nomatch e
    ·injection e with e1 _;rw[e1]
 byValue:=fun k v h=>by rcases nV h with⟨i,t,rfl,rfl⟩|⟨x,t,rfl,rfl⟩<;>rfl
 pyHash:=fun hv h=>by
  rcases nV hv with⟨i,t,rfl,rfl⟩|⟨x,t,rfl,rfl⟩
  ·exact wpAny_pyHash_int h
  ·exact wpAny_pyHash_str h
 eqBool:=fun hu hv h=>by
  rcases nV hu with⟨i,t,rfl,rfl⟩|⟨x,t,rfl,rfl⟩
  · rcases nV hv with⟨j,u,rfl,rfl⟩|⟨y,u,rfl,rfl⟩
    ·rw[a3v]at h;exact wpAny_eqBool_int h
    ·rw[a3u]at h;exact SeqAt.EqAt.int_str i t y u _ _ _ _ h
  · rcases nV hv with⟨j,u,rfl,rfl⟩|⟨y,u,rfl,rfl⟩
    ·rw[a3t]at h;exact SeqAt.EqAt.str_int x t j u _ _ _ _ h
    ·rw[a3s]at h;exact wpAny_eqBool_str h
 «strs»:=fun k x t v h=>by
  rcases nV h with⟨i,u,rfl,e⟩|⟨y,u,rfl,e⟩
  ·exact nomatch e
  · injection e with e1 _
    subst e1;cases v<;>rfl
theorem a2Q(prog:aaW)(w:World)(i:Int)(t:Tok):(ja prog w).is (.inl i) (.int i t)=true:=a3x i t
theorem a2P(prog:aaW)(w:World)(x:Str)(t:Tok):(ja prog w).is (.inr x) (.str x t)=true:=a3w x t
inductive V where |aY|bl (b:Bool)|int (i:Int)|str (x:Str)|vz (b:Array UInt8)|Ba (b:UInt64)|ref (a:Addr)|ty (n:String) deriving DecidableEq
def RelV:V->Value->Prop | .aY,u=>u=Value.none | .bl b,u=>u=Value.bool b | .int i,u=>∃t,u=Value.int i t | .str x,u=>∃t,u=Value.str x t | .vz b,u=>∃t,u=Value.bytes b t | .Ba b,u=>∃t,u=Value.float b t | .ref a,u=>u=Value.ref a | .ty n,u=>u=Value.type n
abbrev Vals:List V->List Value->Prop:=Paired RelV
theorem Vals.length{xs:List V}{us:List Value}(r:Vals xs us):xs.length=us.length:=Paired.length r
theorem Vals.get:∀{xs:List V}{us:List Value}{i:Nat}{x:V},Vals xs us->xs[i]? =some x->∃u,us[i]? =some u/\RelV x u |_,_,_,_,.nil,e=>by simp at e |_,_,0,_,.cons r _,e=>by simp at e;subst e;exact⟨_,rfl,r⟩ |_,_,i+1,x,.cons _ t,e=>by obtain⟨u,h1,h2⟩:=Vals.get (i:=i) (x:=x) t (by simpa using e);exact⟨u,by simpa using h1,h2⟩
theorem Vals.set{x:V}{u:Value}(r:RelV x u):∀{xs:List V}{us:List Value}(i:Nat),Vals xs us->Vals (xs.set i x) (us.set i u) |_,_,_,.nil=>.nil |_,_,0,.cons _ t=>.cons r t |_,_,i+1,.cons q t=>.cons q (Vals.set r i t)
theorem Vals.append:∀{xs ys:List V}{us ws:List Value},Vals xs us->Vals ys ws->Vals (xs++ys) (us++ws) |_,_,_,_,.nil,s=>s |_,_,_,_,.cons r t,s=>.cons r (Vals.append t s)
theorem Vals.take:∀{xs:List V}{us:List Value}(n:Nat),Vals xs us->Vals (xs.take n) (us.take n) |_,_,0,_=>.nil |_,_,_+1,.nil=>.nil |_,_,n+1,.cons r t=>.cons r (Vals.take n t)
theorem Vals.drop:∀{xs:List V}{us:List Value}(n:Nat),Vals xs us->Vals (xs.drop n) (us.drop n) |_,_,0,r=>r |_,_,_+1,.nil=>.nil |_,_,n+1,.cons _ t=>Vals.drop n t
def jh:Option V->Option Value->Prop |some v,some u=>RelV v u |none,none=>True |_,_=>False
def KV{κ:Type}:List (κ×V)->List (κ×Value)->Prop:=Paired fun(p:κ×V)(q:κ×Value)=>p.1=q.1/\RelV p.2 q.2
def kV:Key->V | .inl i=>.int i | .inr x=>.str x
inductive HO where /--a list -/ |lst (xs:List V) /--a tuple (never changes) -/ |tup (xs:List V) /--a dict W9 keys are ints and texts; one W9 keys are tuples of ints and texts (tZ empty one is both) -/ |dK (aG:List (Key×V))|dT (aG:List (List Key×V)) /--a set of ints: its members,its size -/ |set (S:Int->Bool)(n:Nat) /--an instance of tZ class at C,its dict at dx,its attributes -/ |ins (C dx:Addr)(fs:List (Str×V)) /--tZ dict of tZ instance at x -/ |own (x:Addr) /--tZ dict of an exception -/ |xd (fs:List (Str×V)) /--a bound method,f of x -/ |met (f x:Addr) /--a range object lo,lo+1,.. below hi -/ |qR (lo hi:Int) /--a WQ a9t is known to tZ object (tZ De; a dict while a loop walks it): read,never written while it is so -/ |lN (o:Obj)(u:HO) /--a code a9G table -/ |eG (ps:Array Value) /--any other WQ,by what is true of its one object (a def of a9F own: aaP a S n:=HO.ext fun h=>..) -/ |ext (φ:Heap->Prop)
abbrev Hp:=Addr->Option HO
def upd(H:Hp)(a:Addr)(o:HO):Hp:=fun b=>if b=a then some o else H b
theorem aQ{H:Hp}{a:Addr}{o:HO}:upd H a o a=some o:=by unfold upd;rw[aO rfl]
theorem aB{H:Hp}{a b:Addr}{o:HO}(h:b≠a):upd H a o b=H b:=by unfold upd;rw[aP h]
theorem xq{H:Hp}{a b:Addr}{o u:HO}(h:H a=some o)(h':H b=some u)(d:o≠u):a≠b:=by intro e;subst e;rw[h]at h';exact d (dj h')
theorem fH{H:Hp}{a b:Addr}{o:HO}(h:H a=some o)(h':H b=none):a≠b:=by intro e;subst e;rw[h]at h';cases h'
section
variable (P:aaW) (w:World)
def fk(H:Hp)(h:Heap)(a:Addr):HO->Prop | .lst xs=>xs.length<=sizeLine/\∃(its:List Value)(n:Nat),Vals xs its/\h.get? a=some {cls:=.type "list",data:=.seq its.toArray n} | .tup xs=>xs.length<=sizeLine/\∃its:List Value,Vals xs its/\IsTup h a its.toArray | .dK aG=>aG.length<=sizeLine/\(a==sysModules)=false/\∃vs,KV aG vs/\h.DictOf (ja P w) a vs | .dT aG=>aG.length<=sizeLine/\(a==sysModules)=false/\∃xs:List (List Key×Addr×Value),Paired (fun(p:List Key×V)(q:List Key×Addr×Value)=>p.1=q.1/\H q.2.1=some (.tup (p.1.map kV))/\RelV p.2 q.2.2) aG xs/\∃o es ep,h.get? a=some o/\o.ExactDict/\o.data= .dict es ep/\es.toList=xs.map (entryOfKey (tupleKind (ja P w)))/\(xs.map (·.1)).Nodup | .set S n=>h.SetOf (intKind P w) a S n | .ins C dx fs=>H dx=some (.own a)/\fs.length<=1000/\dx≠a/\h.get? a=some (PySem.W.instObj C dx)/\∃mA,h.Ns1 dx mA/\(∀f,jh (fs.lookup f) (mA f))/\PySem.Within mA (fs.map (·.1)) | .own _=>∃o,h.get? a=some o | .xd fs=>∃mA,h.Ns1 a mA/\∀f,jh (fs.lookup f) (mA f) | .qR lo hi=>∃t u v,h.get? a=some {cls:=.type "range",data:=.fields #[.int lo t,.int hi u,.int 1 v]} | .lN o u=>h.get? a=some o/\fk H h a u | .eG ps=>h.get? a=some {cls:=.none,data:=.fields ps} | .met f x=>h.get? a=some (PySem.W.methodObj (.ref f) (.ref x)) | .ext φ=>φ h/\(∃o,h.get? a=some o)/\∀h1 h2:Heap,φ h1->(∀o,h1.get? a=some o->h2.get? a=some o)->φ h2
def dc(H:Hp)(h:Heap):Prop:=∀a o,H a=some o->fk P w H h a o
end
section
variable {P:aaW}{w:World}{H H':Hp}{h h':Heap}{a:Addr}{o:HO}
theorem fk.lt(x:fk P w H h a o):a<h.objs.size:=by cases o with |lst xs=>obtain⟨_,_,_,_,e⟩:=x;exact cf e |tup xs=>obtain⟨_,_,_,p⟩:=x;exact p.lt |dK aG=>obtain⟨_,_,_,_,o,_,_,e,_⟩:=x;exact cf e |dT aG=>obtain⟨_,_,_,_,o,_,_,e,_⟩:=x;exact cf e |set S n=>obtain⟨o,_,_,_,e,_⟩:=x;exact cf e |ins C dx fs=>obtain⟨_,_,_,e,_⟩:=x;exact cf e |own y=>obtain⟨_,e⟩:=x;exact cf e |xd fs=>obtain⟨_,⟨_,_,_,e,_⟩,_⟩:=x;exact cf e |qR lo hi=>obtain⟨_,_,_,e⟩:=x;exact cf e |lN ob u=>obtain⟨e,_⟩:=x;exact cf e |eG ps=>exact cf (show h.get? a=some _ from x) |met f y=>exact cf (show h.get? a=some _ from x) |ext φ=>obtain⟨_,⟨_,e⟩,_⟩:=x;exact cf e
theorem Paired.G0{α β:Type}{F G:α->β->Prop}:∀{l₁:List α}{l₂:List β},Paired F l₁ l₂->(∀a b,F a b->G a b)->Paired G l₁ l₂ |_,_,.nil,_=>.nil |_,_,.cons r t,f=>.cons (f _ _ r) (Paired.G0 t f)
theorem fk.lB(x:fk P w H h a o)(k:∀b u,(b=a\/H b=some (.own a))->h.get? b=some u->h'.get? b=some u) (ho:∀b,H b=some (.own a)->H' b=some (.own a))(ht:∀b xs,H b=some (.tup xs)->H' b=some (.tup xs)):fk P w H' h' a o:=by induction o with |lst xs=>obtain⟨z,its,n,r,e⟩:=x;exact⟨z,its,n,r,k _ _ (.inl rfl) e⟩ |tup xs=>obtain⟨z,its,r,ob,e,c⟩:=x;exact⟨z,its,r,ob,k _ _ (.inl rfl) e,c⟩ |dK aG=>obtain⟨z,y,vs,r,ob,es,ep,e,c⟩:=x;exact⟨z,y,vs,r,ob,es,ep,k _ _ (.inl rfl) e,c⟩ |dT aG=>obtain⟨z,y,xs,r,ob,es,ep,e,c⟩:=x;exact⟨z,y,xs,Paired.G0 r fun p q z=>⟨z.1,ht _ _ z.2.1,z.2.2⟩,ob,es,ep,k _ _ (.inl rfl) e,c⟩ |set S n=>obtain⟨ob,es,ep,t,e,c⟩:=x;exact⟨ob,es,ep,t,k _ _ (.inl rfl) e,c⟩ |ins C dx fs=>obtain⟨d,z,ne,e,mA,⟨od,es,ep,e2,c⟩,r⟩:=x;exact⟨ho _ d,z,ne,k _ _ (.inl rfl) e,mA,⟨od,es,ep,k _ _ (.inr d) e2,c⟩,r⟩ |own y=>obtain⟨ob,e⟩:=x;exact⟨ob,k _ _ (.inl rfl) e⟩ |xd fs=>obtain⟨mA,⟨od,es,ep,e,c⟩,r⟩:=x;exact⟨mA,⟨od,es,ep,k _ _ (.inl rfl) e,c⟩,r⟩ |qR lo hi=>obtain⟨t,u,v,e⟩:=x;exact⟨t,u,v,k _ _ (.inl rfl) e⟩ |lN ob u ih=>obtain⟨e,q⟩:=x;exact⟨k _ _ (.inl rfl) e,ih q⟩ |eG ps=>have e:h.get? a=some {cls:=.none,data:=.fields ps}:=x;show h'.get? a=some {cls:=.none,data:=.fields ps};exact k a _ (.inl rfl) e |met f y=>have e:h.get? a=some (PySem.W.methodObj (.ref f) (.ref y)):=x;show h'.get? a=some (PySem.W.methodObj (.ref f) (.ref y));exact k a _ (.inl rfl) e |ext φ=>obtain⟨p,⟨o,e⟩,st⟩:=x;exact⟨st _ _ p fun o q=>k _ _ (.inl rfl) q,⟨o,k _ _ (.inl rfl) e⟩,st⟩
theorem dc.lt(x:dc P w H h)(e:H a=some o):a<h.objs.size:=(x a o e).lt
theorem dc.fresh(x:dc P w H h)(e:h.objs.size<=a):H a=none:=by cases q:H a with |none=>rfl |some u=>exact absurd (fL (x.lt q) e) (oS _)
theorem dc.kept(x:dc P w H h)(k:∀b u,h.get? b=some u->h'.get? b=some u):dc P w H h':=fun a o e=>(x a o e).lB (fun b u _ q=>k b u q) (fun _ q=>q) fun _ _ q=>q
theorem dc.laid(x:dc P w H h)(k:∀b u,h.get? b=some u->h'.get? b=some u)(hp:h.objs.size<=a)(new:fk P w (upd H a o) h' a o):dc P w (upd H a o) h':=fun b u e=>by
 have hn:=x.fresh hp;by_cases hb:b=a
 ·subst hb;rw[aQ]at e;cases e;exact new
 · rw[aB hb]at e
   exact(x b u e).lB (fun c v _ q=>k c v q) (fun c q=>by rw[aB (fH q hn)];exact q) fun c xs q=>by rw[aB (fH q hn)];exact q
end
def Rd(H:Hp)(a:Addr)(u:HO):Prop:=H a=some u\/∃o,H a=some (.lN o u)
theorem Rd.ok{P:aaW}{w:World}{H:Hp}{h:Heap}{a:Addr}{u:HO}(r:Rd H a u)(x:dc P w H h):fk P w H h a u:=by
 rcases r with r|⟨o,r⟩
 ·exact x a u r
 · obtain⟨_,q⟩:=x a _ r
   exact q
def yy:Option HO->Prop |some (.lst _)=>True |some (.dK _)=>True |some (.dT _)=>True |some (.set _ _)=>True |some (.ins _ _ _)=>True |some (.ext _)=>True |_=>False
section
variable {P:aaW}{w:World}{H:Hp}{h h':Heap}{x e:Addr}{o':HO}
theorem dc.write(ok:dc P w H h)(mu:yy (H x))(he:e=x\/H e=some (.own x))(k:∀b u,b≠e->h.get? b=some u->h'.get? b=some u)(vf:∃u,h'.get? e=some u) (new:fk P w (upd H x o') h' x o'):dc P w (upd H x o') h':=fun b u q=>by
  have Ob:∀c y,H c=some (.own y)->c≠x:=fun c y r z=>by subst z;rw[r]at mu;exact mu
  have a2k:∀c xs,H c=some (.tup xs)->c≠x:=fun c xs r z=>by subst z;rw[r]at mu;exact mu
  by_cases hb:b=x
  ·subst hb;rw[aQ]at q;cases q;exact new
  · rw[aB hb]at q
    by_cases sx:b=e
    · have q':H b=some (.own x):=by
        rcases he with z|z
        ·exact absurd (sx.trans z) hb
        ·rw[sx];exact z
      rw[q]at q';cases q';obtain⟨v,hv⟩:=vf;exact⟨v,by rw[sx];exact hv⟩
    · refine(ok b u q).lB (fun c v hc r=>k c v ?_ r) (fun c r=>by rw[aB (Ob c b r)];exact r) fun c xs r=>by rw[aB (a2k c xs r)];exact r
      rcases hc with rfl|hc
      ·exact sx
      · rintro rfl
        rcases he with z|z
        ·exact Ob c b hc z
        ·rw[hc]at z;cases z;exact hb rfl
end
structure Un(fs ex:List Addr)(H H':Hp)(h h':Heap):Prop where
 keep:∀b o,h.get? b=some o->H b=none->b∉fs->b∉ex->h'.get? b=some o
 slot:∀b o,h.get? b=some o->H b=none->b∈fs->b∉ex->∃sl,h'.get? b=some {o with slots:=sl}
 free:∀b o,h.get? b=some o->H b=none->b∉ex->H' b=none
 there:∀b o,h.get? b=some o->b∉ex->∃o',h'.get? b=some o'
 tups:∀b xs,H b=some (.tup xs)->H' b=some (.tup xs)
 frzs:∀b o u,H b=some (.lN o u)->H' b=some (.lN o u)
 tbls:∀b ps,H b=some (.eG ps)->∃more,H' b=some (.eG (ps++more))
section
variable {fs fs' ex ow:List Addr}{H H1 H2:Hp}{h h1 h2 h':Heap}{a x e:Addr}{o:HO}
theorem Un.any(u:Un fs ex H H1 h h1){b:Addr}{ob:Obj}(q:h.get? b=some ob)(n:H b=none)(hx:b∉ex):∃sl,h1.get? b=some {ob with slots:=sl}:=by
 by_cases hb:b∈fs
 ·exact u.slot b ob q n hb hx
 ·exact⟨ob.slots,u.keep b ob q n hb hx⟩
theorem Un.kept(k:∀b u,h.get? b=some u->h'.get? b=some u):Un fs ex H H h h':=⟨fun b ob q _ _ _=>k b ob q,fun b ob q _ _ _=>⟨ob.slots,k b ob q⟩,fun _ _ _ n _=>n,fun b ob q _=>⟨ob,k b ob q⟩,fun _ _ q=>q,fun _ _ _ q=>q,fun _ ps q=>⟨#[],by rw[q];simp⟩⟩
theorem Un.refl:Un fs ex H H h h:=Un.kept fun _ _ q=>q
theorem Un.laid(k:∀b u,h.get? b=some u->h'.get? b=some u)(hp:h.objs.size<=a)(hn:H a=none):Un fs ex H (upd H a o) h h' where
 keep:=fun b u q _ _ _=>k b u q
 slot:=fun b u q _ _ _=>⟨u.slots,k b u q⟩
 free:=fun b u q n _=>by rw[aB (fe (fL (cf q) hp))];exact n
 there:=fun b u q _=>⟨u,k b u q⟩
 tups:=fun b xs q=>by rw[aB (fH q hn)];exact q
 frzs:=fun b u xs q=>by rw[aB (fH q hn)];exact q
 tbls:=fun b ps q=>⟨#[],by rw[aB (fH q hn),q];simp⟩
theorem Un.write(mu:yy (H x))(he:e=x\/H e=some (.own x))(k:∀b u,b≠e->h.get? b=some u->h'.get? b=some u)(vf:∃u,h'.get? e=some u):Un fs ex H (upd H x o) h h':=by
 have hx:∀b,H b=none->b≠x:=fun b n z=>by subst z;rw[n]at mu;exact mu
 have hb:∀b,H b=none->b≠e:=fun b n z=>by
  subst z;rcases he with r|r
  ·exact hx b n r
  ·rw[n]at r;cases r
 have hm:∀b u,H b=some u->¬yy (some u)->b≠x:=fun b u q nm z=>by subst z;rw[q]at mu;exact nm mu
 refine⟨fun b u q n _ _=>k b u (hb b n) q,fun b u q n _ _=>⟨u.slots,k b u (hb b n) q⟩,fun b u q n _=>by rw[aB (hx b n)];exact n,fun b u q _=>?_,fun b xs q=>by rw[aB (hm b _ q fun z=>z)];exact q,fun b u xs q=>by rw[aB (hm b _ q fun z=>z)];exact q,fun b ps q=>⟨#[],by rw[aB (hm b _ q fun z=>z),q];simp⟩⟩;by_cases sx:b=e
 ·subst sx;exact vf
 ·exact⟨u,k b u sx q⟩
end
def zi(h:Heap)(H:Hp):List Addr:=(List.range h.objs.size).filter fun a=>(H a).isSome
def mx(h:Heap)(H:Hp):Heap:=PySem.W.hideAll h (zi h H)
theorem a59(h:Heap)(H:Hp):(mx h H).objs.size=h.objs.size:=PySem.W.hideAll_size _ _
theorem a5a{h:Heap}{H:Hp}{b:Addr}{o:Obj}(e:h.get? b=some o)(n:H b=none):(mx h H).get? b=some o:=Jt _ e fun hm=>by have q:(H b).isSome=true:=(List.mem_filter.mp hm).2;rw[n]at q;simp at q
theorem a2g{h:Heap}{H:Hp}{b:Addr}{o:Obj}(e:(mx h H).get? b=some o):h.get? b=some o/\H b=none:=by have e':h.get? b=some o:=PySem.W.of_hideAll (zi h H) e;refine⟨e',?_⟩;cases q:H b with |none=>rfl |some x=>have hm:b∈zi h H:=List.mem_filter.mpr ⟨List.mem_range.mpr (cf e'),by simp[q]⟩;have z:(mx h H).get? b=none:=PySem.W.hideAll_none (zi h H) hm;rw[z]at e;cases e
structure Mod(K:aaU)(mg:Str->Option Value)(base:Heap):Prop where
 kin:K.In base
 glob:base.Ns mainGlobals mg
 blt:∃mb,base.Ns builtinsNs mb/\∀x:Str,x≠"__name__"->mb x=bootBuiltins x
 nolimit:base.NoLimit
structure Cx where
 prog:aaW
 w:World
 K:aaU
 mg:Str->Option Value
 base:Heap
 A:aaY
 N:List Str
 s₀:aaV
 H₀:Hp
 env:Env
 outer:List Env
 stack:List Env
 ex:List Addr
 fn:Str->Bool
 calm:Bool
 pn:List (Addr×Obj)
 xe:Value->aaV->Prop
def cR(l:List Env):List Addr:=l.filterMap (·.frame)
abbrev Cx.fs(X:Cx):List Addr:=cR X.outer
def BA(sc:Scope)(x:Str):Prop:=sc.names.lookup x=some .local\/sc.names.lookup x=some .cell\/sc.names.lookup x=some .free
def Loc(sc:Scope)(x:Str):Prop:=sc.names.lookup x=some .local\/sc.names.lookup x=some .cell
def Look(env:Env)(h:Heap)(m:Str->Option Value)(x:Str)(u:Value):Prop:=(env.kindOf x=some .local/\m x=some u)\/((env.kindOf x=some .cell\/env.kindOf x=some .free)/\∃c,env.cells.lookup x=some c/\h.IsCell c (some u))
structure Cx.Ok(X:Cx):Prop where
 mod:Mod X.K X.mg X.base
 kind:X.env.scope.kind= .function
 glob:X.env.globals=mainGlobals
 blt:X.env.builtins=builtinsNs
 above:X.s₀.heap.objs.size<=X.env.locals
 inj:∀x y c,X.env.cells.lookup x=some c->X.env.cells.lookup y=some c->x=y
 has:∀x,(X.env.kindOf x=some .cell\/X.env.kindOf x=some .free)->∃c,X.env.cells.lookup x=some c
 cab:∀x c,X.fn x=true->X.env.cells.lookup x=some c->X.s₀.heap.objs.size<=c
 hd:X.calm=true->X.A.handled=none
 frames:X.A.frames=some X.stack
 stk:X.stack=X.outer\/(X.stack=X.env::X.outer/\X.env.frame=some X.env.locals)
 exf:∀b∈X.ex,b≠X.env.locals/\∀x c,X.env.cells.lookup x=some c->c≠b
 bs:∀b o,X.base.get? b=some o->X.s₀.heap.get? b=some o/\X.H₀ b=none
 bsz:X.base.objs.size<=X.s₀.heap.objs.size
 noex:∀b o,X.base.get? b=some o->b∉X.ex
 exfs:∀b∈X.ex,b∉X.fs
 jf:X.s₀.heap.FunFrames X.base X.outer
 frf:∀b∈X.fs,X.H₀ b=none
structure Inv(X:Cx)(pins:List (Addr×Obj))(σ:List (Option V))(H:Hp)(s:aaV):Prop where
 ok:X.Ok
 os:s.os=X.s₀.os
 bare:AllBare s.gens
 base:Un X.fs X.ex X.H₀ H X.s₀.heap s.heap
 loc:∃m,s.heap.Ns X.env.locals m/\∀(i:Nat)(x:Str)(v:V),X.N[i]? =some x->σ[i]? =some (some v)->BA X.env.scope x->∃u,RelV v u/\Look X.env s.heap m x u
 cell:∀x c,X.env.cells.lookup x=some c->∃v,s.heap.IsCell c v
 free:H X.env.locals=none
 freeC:∀x c,X.env.cells.lookup x=some c->H c=none
 pin:∀p∈X.pn++pins,s.heap.get? p.1=some p.2/\H p.1=none/\p.1≠X.env.locals/\p.1∉X.fs/\∀v,p.2.data≠ .cell v
 hok:dc X.prog X.w H s.heap
 len:σ.length=X.N.length
section
variable {X:Cx}{pins:List (Addr×Obj)}{σ:List (Option V)}{H H':Hp}{s:aaV}{h':Heap}
theorem Cx.Ok.a2q(ok:X.Ok){b:Addr}{o:Obj}(e:X.base.get? b=some o):b∉X.fs:=fun hb=>by have:=(ok.jf.mem hb).1;rw[e]at this;cases this
theorem Inv.bs(I:Inv X pins σ H s):∀b o,X.base.get? b=some o->s.heap.get? b=some o/\H b=none:=fun b o e=>⟨I.base.keep b o (I.ok.bs b o e).1 (I.ok.bs b o e).2 (I.ok.a2q e) (I.ok.noex b o e),I.base.free b o (I.ok.bs b o e).1 (I.ok.bs b o e).2 (I.ok.noex b o e)⟩
theorem Inv.bk(I:Inv X pins σ H s):∀b o,X.base.get? b=some o->s.heap.get? b=some o:=fun b o e=>(I.bs b o e).1
theorem Inv.mod(I:Inv X pins σ H s):Mod X.K X.mg X.base:=I.ok.mod
theorem Inv.gb(I:Inv X pins σ H s):X.K.In s.heap:=I.ok.mod.kin.keeps I.bk
theorem Inv.lt(I:Inv X pins σ H s):X.env.locals<s.heap.objs.size:=let⟨_,hn,_⟩:=I.loc;hn.lt
theorem Inv.sz(I:Inv X pins σ H s):X.s₀.heap.objs.size<=s.heap.objs.size:=gR I.ok.above (JB I.lt)
theorem Inv.Oe(I:Inv X pins σ H s){a:Addr}(h:s.heap.objs.size<=a):a∉X.fs:=fun hb=>by obtain⟨_,o,ho,_⟩:=I.ok.jf.mem hb;exact absurd (fL (cf ho) (gR I.sz h)) (oS _)
theorem Inv.jC(I:Inv X pins σ H s):∀x c,X.env.cells.lookup x=some c->c≠X.env.locals:=fun x c e z=>by obtain⟨v,o,ho,hd⟩:=I.cell x c e;obtain⟨m,⟨o',es,ep,lH,vg,_⟩,_⟩:=I.loc;rw[z,lH]at ho;cases ho;rw[vg]at hd;cases hd
theorem Inv.jf(I:Inv X pins σ H s):s.heap.FunFrames X.base X.outer:=by
 have all:∀(l:List Env),(∀b∈cR l,b∈X.fs)->X.s₀.heap.FunFrames X.base l->s.heap.FunFrames X.base l:=by intro l;induction l with |nil=>intro _ _;trivial |cons env r ih=>intro hs hl;obtain⟨hk,⟨L,o,hf,hn,ho,hd⟩,hr⟩:=hl;have hL:L∈X.fs:=hs L (by unfold cR;rw[VO,hf];exact JE);obtain⟨sl,e⟩:=I.base.slot L o ho (I.ok.frf L hL) hL fun z=>I.ok.exfs L z hL;exact⟨hk,⟨L,_,hf,hn,e,hd⟩,ih (fun b hb=>hs b (by unfold cR;rw[VO,hf];exact tQ _ hb)) hr⟩
 exact all X.outer (fun _ hb=>hb) I.ok.jf
theorem Inv.stack(I:Inv X pins σ H s):s.heap.FunFrames X.base X.stack:=by
 rcases I.ok.stk with e|⟨e,hf⟩
 ·rw[e];exact I.jf
 · rw[e]
   obtain⟨m,hn,_⟩:=I.loc;refine .cons (by rw[I.ok.kind];decide) hf hn ?_ I.jf;exact Heap.get?_none_of_le (gR I.ok.bsz I.ok.above)
theorem Inv.wy(I:Inv X pins σ H s):∀b∈cR X.stack,b∈X.env.locals::X.fs:=fun b hb=>by
 rcases I.ok.stk with e|⟨e,hf⟩
 ·rw[e]at hb;exact tQ _ hb
 · rw[e]at hb
   unfold cR at hb;rw[VO,hf]at hb;exact hb
theorem Inv.zv(I:Inv X pins σ H s):∀b∈cR X.stack,H b=none:=fun b hb=>by
 rcases bB.mp (I.wy b hb)with e|hb
 ·rw[e];exact I.free
 · obtain⟨_,o,ho,_⟩:=I.ok.jf.mem hb
   exact I.base.free b o ho (I.ok.frf b hb) fun z=>I.ok.exfs b z hb
theorem Inv.step{g':Array GenState}{t':Nat}{d':Drawn}{ch:List Addr}(I:Inv X pins σ H s) (my:∀b∈ch,(b∈X.ex\/X.s₀.heap.objs.size<=b)/\b≠X.env.locals/\(∀x c,X.env.cells.lookup x=some c->c≠b)/\∀p∈X.pn++pins,p.1≠b) (keep:∀b o,b≠X.env.locals->b∉X.fs->b∉ch->s.heap.get? b=some o->H b=none->h'.get? b=some o) (slot:∀b o,b≠X.env.locals->b∈X.fs->b∉ch->s.heap.get? b=some o->H b=none->∃sl,h'.get? b=some {o with slots:=sl})(free:∀b o,b∉ch->s.heap.get? b=some o->H b=none->H' b=none) (there:∀b o,b∉ch->s.heap.get? b=some o->∃o',h'.get? b=some o') (tups:∀b xs,H b=some (.tup xs)->H' b=some (.tup xs))(frzs:∀b o u,H b=some (.lN o u)->H' b=some (.lN o u))(tbls:∀b ps,H b=some (.eG ps)->∃more,H' b=some (.eG (ps++more))) (ns:∀m,s.heap.Ns X.env.locals m->h'.Ns X.env.locals m)(hok:dc X.prog X.w H' h')(hg:AllBare g'): Inv X pins σ H' {s with heap:=h',gens:=g',drawn:=d',toks:=t'}:=by
  have Ol:∀b o,X.s₀.heap.get? b=some o->b≠X.env.locals:=fun b o e=>fe (fL (cf e) I.ok.above);have A7:∀b o,X.s₀.heap.get? b=some o->b∉X.ex->b∉ch:=fun b o e hx hb=>by
   rcases(my b hb).1 with z|z
   ·exact hx z
   ·exact absurd (fL (cf e) z) (oS _)
  have cellK:∀x c,X.env.cells.lookup x=some c->∀v,s.heap.IsCell c v->h'.IsCell c v:=fun x c e v ⟨o,ho,hd⟩=>by
   have xt:c∉ch:=fun z=>(my c z).2.2.1 x c e rfl;by_cases hc:c∈X.fs
   · obtain⟨sl,q⟩:=slot c o (I.jC x c e) hc xt ho (I.freeC x c e)
     exact⟨_,q,hd⟩
   ·exact⟨o,keep c o (I.jC x c e) hc xt ho (I.freeC x c e),hd⟩
  refine⟨I.ok,I.os,hg,⟨fun b o e n hb hx=>?_,fun b o e n hb hx=>?_,fun b o e n hx=>?_,fun b o e hx=>?_,fun b xs e=>tups b xs (I.base.tups b xs e),fun b o xs e=>frzs b o xs (I.base.frzs b o xs e),fun b ps e=>?_⟩,?_,fun x c e=>?_,?_,fun x c e=>?_,fun p hp=>?_,hok,I.len⟩
  ·exact keep b o (Ol b o e) hb (A7 b o e hx) (I.base.keep b o e n hb hx) (I.base.free b o e n hx)
  · obtain⟨sl,e1⟩:=I.base.slot b o e n hb hx
    obtain⟨D6,e2⟩:=slot b _ (Ol b o e) hb (A7 b o e hx) e1 (I.base.free b o e n hx);exact⟨D6,e2⟩
  · obtain⟨o',e1⟩:=I.base.there b o e hx
    exact free b o' (A7 b o e hx) e1 (I.base.free b o e n hx)
  · obtain⟨o',e1⟩:=I.base.there b o e hx
    exact there b o' (A7 b o e hx) e1
  · obtain⟨m1,e1⟩:=I.base.tbls b ps e
    obtain⟨m2,e2⟩:=tbls b _ e1;exact⟨m1++m2,by rw[e2,Array.append_assoc]⟩
  · obtain⟨m,hn,hl⟩:=I.loc
    refine⟨m,ns m hn,fun i x v e1 e2 e3=>?_⟩;obtain⟨u,r,l⟩:=hl i x v e1 e2 e3;refine⟨u,r,?_⟩;rcases l with l|⟨k,c,e,z⟩
    ·exact .inl l
    ·exact .inr ⟨k,c,e,cellK x c e _ z⟩
  · obtain⟨v,z⟩:=I.cell x c e
    exact⟨v,cellK x c e v z⟩
  · obtain⟨m,⟨o,_,_,ho,_⟩,_⟩:=I.loc
    exact free _ o (fun z=>(my _ z).2.1 rfl) ho I.free
  · obtain⟨v,o,ho,hd⟩:=I.cell x c e
    exact free c o (fun z=>(my c z).2.2.1 x c e rfl) ho (I.freeC x c e)
  · obtain⟨e,n,ne,nf,d⟩:=I.pin p hp
    have xt:p.1∉ch:=fun z=>(my p.1 z).2.2.2 p hp rfl;exact⟨keep p.1 p.2 ne nf xt e n,free p.1 p.2 xt e n,ne,nf,d⟩
theorem Inv.un{t':Nat}(I:Inv X pins σ H s)(u:Un X.fs [] H H' s.heap h')(hok:dc X.prog X.w H' h'):Inv X pins σ H' {s with heap:=h',toks:=t'}:=by obtain⟨m,⟨o,es,ep,ho,r⟩,_⟩:=id I.loc;obtain⟨sl,hL⟩:=u.any ho I.free (by simp);exact I.step (g':=s.gens) (d':=s.drawn) (ch:=[]) (fun _ z=>nomatch z) (fun b o _ hb _ e n=>u.keep b o e n hb (by simp)) (fun b o _ hb _ e n=>u.slot b o e n hb (by simp)) (fun b o _ e n=>u.free b o e n (by simp)) (fun b o _ e=>u.there b o e (by simp)) u.tups u.frzs u.tbls (fun m' hm=>by obtain⟨o',oy,Ii,lH,r'⟩:=hm;rw[ho]at lH;cases lH;exact⟨_,oy,Ii,hL,r'⟩) hok I.bare
theorem Inv.call{g':Array GenState}{t':Nat}{d':Drawn}{ch:List Addr}(I:Inv X pins σ H s)(u:Un (cR X.stack) ch H H' s.heap h')(hok:dc X.prog X.w H' h')(hg:AllBare g') (my:∀b∈ch,(b∈X.ex\/X.s₀.heap.objs.size<=b)/\b≠X.env.locals/\(∀x c,X.env.cells.lookup x=some c->c≠b)/\∀p∈X.pn++pins,p.1≠b): Inv X pins σ H' {s with heap:=h',gens:=g',drawn:=d',toks:=t'}:=by obtain⟨m,⟨o,es,ep,ho,r⟩,_⟩:=id I.loc;obtain⟨sl,hL⟩:=u.any ho I.free fun z=>(my _ z).2.1 rfl;exact I.step (ch:=ch) my (fun b o hL hb hc e n=>u.keep b o e n (fun z=>(bB.mp (I.wy b z)).elim hL hb) hc) (fun b o _ _ hc e n=>u.any e n hc) (fun b o hc e n=>u.free b o e n hc) (fun b o hc e=>u.there b o e hc) u.tups u.frzs u.tbls (fun m' hm=>by obtain⟨o',oy,Ii,lH,r'⟩:=hm;rw[ho]at lH;cases lH;exact⟨_,oy,Ii,hL,r'⟩) hok hg
theorem Inv.turned{t':Nat}{it:Addr}(I:Inv X pins σ H s)(k:∀b o,b≠it->s.heap.get? b=some o->h'.get? b=some o)(hn:H it=none)(hL:it≠X.env.locals) (h1:it∈X.ex\/X.s₀.heap.objs.size<=it)(h2:∀x c,X.env.cells.lookup x=some c->c≠it)(h3:∀p∈X.pn++pins,p.1≠it):Inv X pins σ H {s with heap:=h',toks:=t'}:=by
  have xp:∀b u,H b=some u->b≠it:=fun b u e z=>by rw[z,hn]at e;cases e
  refine I.step (g':=s.gens) (d':=s.drawn) (ch:=[it]) (fun b hb=>?_) (fun b o _ _ hc e _=>k b o (fun z=>hc (by simp[z])) e) (fun b o _ _ hc e _=>⟨o.slots,k b o (fun z=>hc (by simp[z])) e⟩) (fun _ _ _ _ n=>n) (fun b o hc e=>⟨o,k b o (fun z=>hc (by simp[z])) e⟩) (fun _ _ e=>e) (fun _ _ _ e=>e) (fun b ps e=>⟨#[],by rw[e];simp⟩) (fun m hm=>?_) (fun b u e=>?_) I.bare
  · have e:b=it:=by simpa using hb
    subst e;exact⟨h1,hL,h2,h3⟩
  · obtain⟨o,es,ep,ho,r⟩:=hm
    exact⟨o,es,ep,k _ o (ek hL) ho,r⟩
  · refine(I.hok b u e).lB (fun c v hc q=>k c v ?_ q) (fun _ q=>q) fun _ _ q=>q
    rcases hc with z|z
    ·rw[z];exact xp b u e
    ·exact xp c _ z
theorem Inv.tok(I:Inv X pins σ H s)(t:Nat):Inv X pins σ H {s with toks:=t}:=I.un (h':=s.heap) (t':=t) Un.refl I.hok
theorem Inv.kept{t':Nat}(I:Inv X pins σ H s)(k:∀b u,s.heap.get? b=some u->h'.get? b=some u):Inv X pins σ H {s with heap:=h',toks:=t'}:=I.un (Un.kept k) (I.hok.kept k)
theorem Inv.laid{a:Addr}{o:HO}{t':Nat}(I:Inv X pins σ H s)(k:∀b u,s.heap.get? b=some u->h'.get? b=some u)(hp:s.heap.objs.size<=a)(new:fk X.prog X.w (upd H a o) h' a o): Inv X pins σ (upd H a o) {s with heap:=h',toks:=t'}:=I.un (Un.laid k hp (I.hok.fresh hp)) (I.hok.laid k hp new)
theorem Inv.write{x e:Addr}{o:HO}{t':Nat}(I:Inv X pins σ H s)(mu:yy (H x))(he:e=x\/H e=some (.own x))(k:∀b u,b≠e->s.heap.get? b=some u->h'.get? b=some u)(vf:∃u,h'.get? e=some u) (new:fk X.prog X.w (upd H x o) h' x o):Inv X pins σ (upd H x o) {s with heap:=h',toks:=t'}:=I.un (Un.write mu he k vf) (I.hok.write mu he k vf new)
theorem Inv.ND{Fu:List (Addr×Obj)}(I:Inv X pins σ H s)(h:∀p∈Fu,s.heap.get? p.1=some p.2/\H p.1=none/\p.1≠X.env.locals/\p.1∉X.fs/\∀v,p.2.data≠ .cell v):Inv X Fu σ H s:=⟨I.ok,I.os,I.bare,I.base,I.loc,I.cell,I.free,I.freeC,fun p hp=>(vU.mp hp).elim (fun z=>I.pin p (VM _ z)) (h p),I.hok,I.len⟩
theorem FL{N:List Str}(hN:N.Nodup){i j:Nat}{x:Str}(a:N[i]? =some x)(b:N[j]? =some x):i=j:=by obtain⟨h1,e1⟩:=dh.mp a;obtain⟨h2,e2⟩:=dh.mp b;exact(List.getElem_inj hN).mp (e1.trans e2.symm)
theorem Ks{M:Model}{A:aaY}{E:Value->aaV->Prop}{i:Nat}{x:Str}{v:V}{u:Value}{Q:Unit->aaV->Prop}(I:Inv X pins σ H s)(hN:X.N.Nodup)(hi:X.N[i]? =some x)(hx:Loc X.env.scope x)(r:RelV v u) (h:∀s',Inv X pins (σ.set i (some v)) H s'->(∃a,Heap.SameBut a s.heap s'.heap/\(a=X.env.locals\/X.env.cells.lookup x=some a))->Q () s')(hf:X.fn x=true\/X.env.scope.names.lookup x=some .local:=by first|exact .inl rfl|exact .inr rfl|assumption):wpAny M A (storeName X.env x u) Q E s:=by
  obtain⟨m,hn,hl⟩:=id I.loc;have xP:(X.env.scope.kind== .class||(X.env.scope.kind== .module&&X.env.locals !=X.env.globals))=false:=by rw[I.ok.kind];rfl
  have AM:i<σ.length:=by rw[I.len];exact(dh.mp hi).1
  have jC:=I.jC;have tracked:∀{a:Addr}{h':Heap},(∃o,s.heap.get? a=some o/\H a=none)->Heap.SameBut a s.heap h'->dc X.prog X.w H h':=fun{a h'} ha hs b ob e=>by
   obtain⟨_,_,vd⟩:=ha;refine(I.hok b ob e).lB (fun c w' hc q=>(hs.2 c ?_).trans q) (fun _ q=>q) fun _ _ q=>q;rintro rfl;rcases hc with rfl|hc
   ·rw[vd]at e;cases e
   ·rw[vd]at hc;cases hc
  rcases hx with hk|hk
  · refine wpAny_storeName_local hk hn (fun h' GI hs=>?_) xP
    obtain⟨oL,_,_,PJ,_⟩:=id hn;refine h _ ⟨I.ok,I.os,I.bare,⟨fun b o e n hb hx=>?_,fun b o e n hb hx=>?_,I.base.free,fun b o e hx=>?_,I.base.tups,I.base.frzs,I.base.tbls⟩,⟨_,GI,fun j y v' e1 e2 e3=>?_⟩,fun y c e=>?_,I.free,I.freeC,fun p hp=>?_,tracked ⟨oL,PJ,I.free⟩ hs,by simpa using I.len⟩ ⟨_,hs,.inl rfl⟩
    ·exact(hs.2 b (fe (fL (cf e) I.ok.above))).trans (I.base.keep b o e n hb hx)
    · obtain⟨sl,e1⟩:=I.base.slot b o e n hb hx
      exact⟨sl,(hs.2 b (fe (fL (cf e) I.ok.above))).trans e1⟩
    · obtain⟨o',e1⟩:=I.base.there b o e hx
      exact⟨o',(hs.2 b (fe (fL (cf e) I.ok.above))).trans e1⟩
    · by_cases hj:j=i
      · subst hj
        rw[hi]at e1;cases e1;rw[yN AM]at e2;cases e2;exact⟨u,r,.inl ⟨hk,by simp⟩⟩
      · rw[JI (ek hj)]at e2
        obtain⟨u',r',q⟩:=hl j y v' e1 e2 e3;refine⟨u',r',?_⟩;rcases q with⟨k,e⟩|⟨k,c,e,z⟩
        · refine .inl ⟨k,?_⟩
          have:y≠x:=fun e=>hj (FL hN e1 (e▸hi));simp[this,e]
        ·exact .inr ⟨k,c,e,z.sameBut hs (jC y c e)⟩
    · obtain⟨w',z⟩:=I.cell y c e
      exact⟨w',z.sameBut hs (jC y c e)⟩
    · obtain⟨e,n,ne,nf,d⟩:=I.pin p hp
      exact⟨(hs.2 p.1 ne).trans e,n,ne,nf,d⟩
  · have pL:X.fn x=true:=by
      rcases hf with z|z
      ·exact z
      ·rw[z]at hk;cases hk
    obtain⟨c,hc⟩:=I.ok.has x (.inl hk);obtain⟨w',z⟩:=I.cell x c hc;refine wpAny_storeName_cell I.ok.kind hk hc z (fun h' ib hs=>?_);obtain⟨oc,PH,a4F⟩:=id z;refine h {s with heap:=h'} ⟨I.ok,I.os,I.bare,⟨fun b o e n hb hx=>?_,fun b o e n hb hx=>?_,I.base.free,fun b o e hx=>?_,I.base.tups,I.base.frzs,I.base.tbls⟩,⟨m,hn.sameBut hs (ek (jC x c hc)),fun j y v' e1 e2 e3=>?_⟩,fun y c' e=>?_,I.free,I.freeC,fun p hp=>?_,tracked ⟨oc,PH,I.freeC x c hc⟩ hs,by simpa using I.len⟩ ⟨c,hs,.inr hc⟩
    ·exact(hs.2 b (fe (fL (cf e) (I.ok.cab x c pL hc)))).trans (I.base.keep b o e n hb hx)
    · obtain⟨sl,e1⟩:=I.base.slot b o e n hb hx
      exact⟨sl,(hs.2 b (fe (fL (cf e) (I.ok.cab x c pL hc)))).trans e1⟩
    · obtain⟨o',e1⟩:=I.base.there b o e hx
      exact⟨o',(hs.2 b (fe (fL (cf e) (I.ok.cab x c pL hc)))).trans e1⟩
    · by_cases hj:j=i
      · subst hj
        rw[hi]at e1;cases e1;rw[yN AM]at e2;cases e2;exact⟨u,r,.inr ⟨.inl hk,c,hc,ib⟩⟩
      · rw[JI (ek hj)]at e2
        obtain⟨u',r',q⟩:=hl j y v' e1 e2 e3;refine⟨u',r',?_⟩;rcases q with q|⟨k,c',e,z'⟩
        ·exact .inl q
        · refine .inr ⟨k,c',e,z'.sameBut hs ?_⟩
          rintro rfl;exact hj (FL hN e1 (I.ok.inj _ _ _ e hc▸hi))
    · by_cases PZ:c'=c
      ·subst PZ;exact⟨_,ib⟩
      · obtain⟨w2,z2⟩:=I.cell y c' e
        exact⟨w2,z2.sameBut hs PZ⟩
    · obtain⟨e,n,ne,nf,d⟩:=I.pin p hp
      refine⟨(hs.2 p.1 ?_).trans e,n,ne,nf,d⟩;intro q;rw[q,PH]at e;have q':oc=p.2:=dj e;exact d w' (by rw[<-q'];exact a4F)
theorem u7{M:Model}{A:aaY}{E:Value->aaV->Prop}{i:Nat}{x:Str}{v:V}{u:Value}{Q:Unit->aaV->Prop}(I:Inv X pins σ H s)(hN:X.N.Nodup)(hi:X.N[i]? =some x)(hx:Loc X.env.scope x)(r:RelV v u) (h:∀s',Inv X pins (σ.set i (some v)) H s'->Q () s')(hf:X.fn x=true\/X.env.scope.names.lookup x=some .local:=by first|exact .inl rfl|exact .inr rfl|assumption):wpAny M A (storeName X.env x u) Q E s:=Ks I hN hi hx r (fun s' I' _=>h s' I') hf
theorem Inv.Bq{s':aaV}{ch:List Addr}(I:Inv X pins σ H s)(ho:s'.os=s.os)(u:Un (cR X.stack) ch H H' s.heap s'.heap)(hok:dc X.prog X.w H' s'.heap)(hg:AllBare s'.gens) (my:∀b∈ch,(b∈X.ex\/X.s₀.heap.objs.size<=b)/\b≠X.env.locals/\(∀x c,X.env.cells.lookup x=some c->c≠b)/\∀p∈X.pn++pins,p.1≠b):Inv X pins σ H' s':=by obtain⟨h',g',d',t',o'⟩:=s';have e:o'=s.os:=ho;subst e;exact I.call (g':=g') (t':=t') (d':=d') u hok hg my
end
abbrev XK:=Value->Option Addr->Hp->Prop
abbrev St:=List (Option V)
abbrev VK:=V->Hp->Prop
abbrev TE:=St->Hp->VK->Prop
abbrev TT:=St->Hp->(Bool->Hp->Prop)->Prop
abbrev TA:=St->Hp->(List V->Hp->Prop)->Prop
structure Ends where
 nx:St->Hp->Prop
 rt:VK
 bk:St->Hp->Prop:=fun _ _=>False
 ct:St->Hp->Prop:=fun _ _=>False
abbrev TS:=Ends->St->Hp->Prop
def EP(X:Cx)(pins:List (Addr×Obj))(σ:St)(Q:VK)(u:Value)(s':aaV):Prop:=∃v H',Inv X pins σ H' s'/\RelV v u/\Q v H'
def TP(X:Cx)(pins:List (Addr×Obj))(σ:St)(Q:Bool->Hp->Prop)(b:Bool)(s':aaV):Prop:=∃H',Inv X pins σ H' s'/\Q b H'
def AP(X:Cx)(pins:List (Addr×Obj))(σ:St)(Q:List V->Hp->Prop)(us:List Value)(s':aaV):Prop:=∃vs H',Inv X pins σ H' s'/\Vals vs us/\Q vs H'
def SP(X:Cx)(pins:List (Addr×Obj))(D:Ends)(f:Flow)(s':aaV):Prop:=match f with | .next=>∃σ' H',Inv X pins σ' H' s'/\D.nx σ' H' | .brk=>∃σ' H',Inv X pins σ' H' s'/\D.bk σ' H' | .cont=>∃σ' H',Inv X pins σ' H' s'/\D.ct σ' H' | .ret u=>∃v σ' H',Inv X pins σ' H' s'/\RelV v u/\D.rt v H'
def PE(X:Cx)(e:Expr)(t:TE):Prop:=∀(pins:List (Addr×Obj))(s:aaV)(σ:St)(H:Hp)(Q:VK),Inv X pins σ H s->t σ H Q->wpAny (model X.prog X.w) X.A (eval e X.env) (EP X pins σ Q) X.xe s
def PT(X:Cx)(e:Expr)(t:TT):Prop:=∀(pins:List (Addr×Obj))(s:aaV)(σ:St)(H:Hp)(Q:Bool->Hp->Prop),Inv X pins σ H s->t σ H Q->wpAny (model X.prog X.w) X.A (isTrue e X.env (eval e X.env)) (TP X pins σ Q) X.xe s
def PW(X:Cx)(e:Expr)(t:TT):Prop:=∀(whole:Sem Value)(pins:List (Addr×Obj))(s:aaV)(σ:St)(H:Hp)(Q:Bool->Hp->Prop),Inv X pins σ H s->t σ H Q->wpAny (model X.prog X.w) X.A (isTrue e X.env whole) (TP X pins σ Q) X.xe s
theorem PW.pt{X:Cx}{e:Expr}{t:TT}(h:PW X e t):PT X e t:=h _
def PA(X:Cx)(es:List Expr)(t:TA):Prop:=∀(pos:Pos)(pins:List (Addr×Obj))(s:aaV)(σ:St)(H:Hp)(Q:List V->Hp->Prop),Inv X pins σ H s->t σ H Q->wpAny (model X.prog X.w) X.A (spliced (backTo pos (starEach es X.env))) (AP X pins σ Q) X.xe s
def PS(X:Cx)(st:Stmt)(t:TS):Prop:=∀(pins:List (Addr×Obj))(s:aaV)(σ:St)(H:Hp)(D:Ends),Inv X pins σ H s->t D σ H->wpAny (model X.prog X.w) X.A (exec st X.env) (SP X pins D) X.xe s
def gD(X:Cx)(st:List Stmt)(t:TS):Prop:=∀(pins:List (Addr×Obj))(s:aaV)(σ:St)(H:Hp)(D:Ends),Inv X pins σ H s->t D σ H->wpAny (model X.prog X.w) X.A (execs st X.env) (SP X pins D) X.xe s
theorem aM{α:Type}{t:Sem α}{Q Q':α->aaV->Prop}{M:Model}{A:aaY}{E:Value->aaV->Prop}{s:aaV}(h:wpAny M A t Q E s)(hQ:∀a s,Q a s->Q' a s):wpAny M A t Q' E s:=jk h hQ fun _ _ x=>x
section
variable {X:Cx}
inductive T4(i:Nat)(σ:St)(H:Hp)(Q:VK):Prop |mk (v:_)(h0:σ[i]? =some (some v))(h1:Q v H):T4 i σ H Q
def u6(i:Nat):TE:=fun σ H Q=>T4 i σ H Q
def tC (v:V):TE:=fun _ H Q=>Q v H
theorem NG{i:Nat}{x:Str}{pos:Pos}(hN:X.N[i]? =some x)(hv:BA X.env.scope x)(hd:(x==("__debug__":Str))=false:=by decide)(gA:(x==("__classdict__":Str))=false:=by decide):PE X (.Name x pos) (u6 i):=by
 intro pins s σ H Q I h;obtain⟨v,e,h⟩:=h;obtain⟨m,hn,hl⟩:=I.loc;obtain⟨u,r,l⟩:=hl i x v hN e hv;have fin:EP X pins σ Q u s:=⟨v,H,I,r,h⟩;rcases l with⟨hk,hm⟩|⟨hk,c,hc,lJ⟩
 ·exact wpAny_Name (wpAny_loadName_local I.ok.kind hk hn hm fin) hd
 · rcases hk with hk|hk
   ·exact wpAny_Name (wpAny_loadName_cell I.ok.kind hk hc lJ fin) hd
   ·exact wpAny_Name (wpAny_loadName_free I.ok.kind hk hc lJ fin gA) hd
theorem ah{i j pos}:PE X (.Constant (.int i) j pos) (tC (.int i)):=fun _ _ _ H _ I h=>wpAny_Constant_int ⟨.int i,H,I.tok _,⟨_,rfl⟩,h⟩
theorem hJ{b j pos}:PE X (.Constant (.bool b) j pos) (tC (.bl b)):=fun _ _ _ H _ I h=>Constant_bool ⟨.bl b,H,I,rfl,h⟩
theorem j4{j pos}:PE X (.Constant .none j pos) (tC .aY):=fun _ _ _ H _ I h=>Constant_none ⟨.aY,H,I,rfl,h⟩
theorem aL{x j pos}:PE X (.Constant (.str x) j pos) (tC (.str x)):=fun _ _ _ H _ I h=>Calls.Constant_str ⟨.str x,H,I.tok _,⟨_,rfl⟩,h⟩
def Gl(X:Cx)(x:Str):Prop:=X.env.kindOf x=some .globalImplicit
theorem uS{E:Value->aaV->Prop}{pins:List (Addr×Obj)}{s:aaV}{σ:St}{H:Hp}{x:Str}{u:Value}{pos:Pos}{Q:Value->aaV->Prop}(I:Inv X pins σ H s)(hg:Gl X x)(hm:X.mg x=some u)(h:Q u s) (hd:(x==("__debug__":Str))=false:=by decide):wpAny (model X.prog X.w) X.A (eval (.Name x pos) X.env) Q E s:=Calls.Name_function_global I.ok.kind hg (Calls.loadGlobal_global (by rw[I.ok.glob];exact I.mod.glob.keeps I.bk) hm h) hd
theorem nU{E:Value->aaV->Prop}{pins:List (Addr×Obj)}{s:aaV}{σ:St}{H:Hp}{x:Str}{u:Value}{pos:Pos}{Q:Value->aaV->Prop}(I:Inv X pins σ H s)(hg:Gl X x)(hm:X.mg x=none)(hv:bootBuiltins x=some u)(h:Q u s) (hn:x≠"__name__":=by decide)(hd:(x==("__debug__":Str))=false:=by decide):wpAny (model X.prog X.w) X.A (eval (.Name x pos) X.env) Q E s:=by obtain⟨mb,h1,h2⟩:=I.mod.blt;exact Calls.Name_function_global I.ok.kind hg (Calls.loadGlobal_builtin (by rw[I.ok.glob];exact I.mod.glob.keeps I.bk) hm (by rw[I.ok.blt];exact h1.keeps I.bk) ((h2 x hn).trans hv) h) hd
theorem a08{x:Str}{v:V}{u:Value}{pos:Pos}(hg:Gl X x)(hm:X.mg x=some u)(r:RelV v u)(hd:(x==("__debug__":Str))=false:=by decide):PE X (.Name x pos) (tC v):=fun _ _ _ H _ I h=>uS I hg hm ⟨v,H,I,r,h⟩ hd
theorem cL{x:Str}{v:V}{u:Value}{pos:Pos}(hg:Gl X x)(hm:X.mg x=none)(hv:bootBuiltins x=some u)(r:RelV v u)(hn:x≠"__name__":=by decide)(hd:(x==("__debug__":Str))=false:=by decide):PE X (.Name x pos) (tC v):=fun _ _ _ H _ I h=>nU I hg hm hv ⟨v,H,I,r,h⟩ hn hd
variable {a b:Expr}{ta tb:TE}{pos:Pos}
inductive Th(Q:Bool->Hp->Prop)(x:V)(H1:Hp):Prop |mk (c:_)(h0:x= .bl c)(h1:Q c H1):Th Q x H1
def tB(t:TE):TT:=fun σ H Q=>t σ H fun x H1=>Th Q x H1
theorem cA{e:Expr}{t:TE}(h:PE X e t)(he:∀whole,isTrue e X.env whole=(do let v<-whole;standAt e.pos;holding [v] (truthy v)):=by intro _;rfl):PT X e (tB t):=by intro pins s σ H Q I hw;refine isTrue_plain (aM (h pins s σ H _ I hw) fun v s1 ⟨x,H1,I1,r1,q1⟩=>?_) (he _);obtain⟨d,rfl,q⟩:=q1;cases r1;exact oK ⟨H1,I1,q⟩
variable {tA zm:TT} {rest:List Expr}
def Xh(t u:TT):TT:=fun σ H Q=>t σ H fun c H1=>if c=true then u σ H1 Q else Q false H1
def X2(t u:TT):TT:=fun σ H Q=>t σ H fun c H1=>if c=true then Q true H1 else u σ H1 Q
def X4(t:TT):TT:=fun σ H Q=>t σ H fun c H1=>Q (!c) H1
theorem qT(ha:PT X a tA):PW X (.BoolOp .And [a] pos) tA:=by intro wh pins s σ H Q I h;refine isTrue_and (aM (ha pins s σ H Q I h) fun c s1 e=>?_);cases c with |true=>exact isTrue_and_nil e |false=>exact e
theorem kS(ha:PT X a tA):PW X (.BoolOp .Or [a] pos) tA:=by intro wh pins s σ H Q I h;refine isTrue_or (aM (ha pins s σ H Q I h) fun c s1 e=>?_);cases c with |false=>exact isTrue_or_nil e |true=>exact e
theorem nN(ha:PT X a tA)(hb:PW X (.BoolOp .And (b::rest) pos) zm):PW X (.BoolOp .And (a::b::rest) pos) (Xh tA zm):=by intro wh pins s σ H Q I h;refine isTrue_and (aM (ha pins s σ H _ I h) fun c s1 ⟨H1,I1,q1⟩=>?_);cases c with |true=>exact hb wh pins s1 σ H1 Q I1 q1 |false=>exact⟨H1,I1,q1⟩
theorem kh(ha:PT X a tA)(hb:PW X (.BoolOp .Or (b::rest) pos) zm):PW X (.BoolOp .Or (a::b::rest) pos) (X2 tA zm):=by intro wh pins s σ H Q I h;refine isTrue_or (aM (ha pins s σ H _ I h) fun c s1 ⟨H1,I1,q1⟩=>?_);cases c with |true=>exact⟨H1,I1,q1⟩ |false=>exact hb wh pins s1 σ H1 Q I1 q1
theorem dS(ha:PT X a tA):PT X (.UnaryOp .Not a pos) (X4 tA):=by intro pins s σ H Q I h;exact isTrue_not (ha pins s σ H (fun c H1=>Q (!c) H1) I h)
inductive Ti(tb:TE)(σ:St)(Q:VK)(x:V)(H1:Hp):Prop |mk (c:_)(h0:x= .bl c)(h1:if c=true then tb σ H1 Q else Q (.bl false) H1):Ti tb σ Q x H1
def Xg(ta tb:TE):TE:=fun σ H Q=>ta σ H fun x H1=>Ti tb σ Q x H1
inductive Td(Q:VK)(x:V)(H1:Hp):Prop |mk (c:_)(h0:x= .bl c)(h1:Q (.bl (!c)) H1):Td Q x H1
def X3(ta:TE):TE:=fun σ H Q=>ta σ H fun x H1=>Td Q x H1
theorem iE{op}{t:TE}(h:PE X a t):PE X (.BoolOp op [a] pos) t:=fun pins s σ H Q I hw=>BoolOp_one (h pins s σ H Q I hw)
theorem hO(ha:PE X a ta)(hb:PE X (.BoolOp .And (b::rest) pos) tb):PE X (.BoolOp .And (a::b::rest) pos) (Xg ta tb):=by intro pins s σ H Q I h;refine BoolOp_and (aM (ha pins s σ H _ I h) fun v s1 ⟨x,H1,I1,r1,q1⟩=>?_);obtain⟨c,rfl,q1⟩:=q1;cases r1;refine oK ?_;cases c with |true=>exact hb pins s1 σ H1 Q I1 q1 |false=>exact⟨.bl false,H1,I1,rfl,q1⟩
theorem NH(ha:PE X a ta):PE X (.UnaryOp .Not a pos) (X3 ta):=by intro pins s σ H Q I h;refine UnaryOp_ (aM (ha pins s σ H _ I h) fun v s1 ⟨x,H1,I1,r1,q1⟩=>?_);obtain⟨c,rfl,q1⟩:=q1;cases r1;exact not_of (oK ⟨.bl (!c),H1,I1,rfl,q1⟩)
def Xb(t:TT)(ta tb:TE):TE:=fun σ H Q=>t σ H fun c H1=>if c=true then ta σ H1 Q else tb σ H1 Q
theorem NK{c:Expr}(hc:PT X c tA)(ha:PE X a ta)(hb:PE X b tb):PE X (.IfExp c a b pos) (Xb tA ta tb):=by intro pins s σ H Q I h;refine wpAny_IfExp (aM (hc pins s σ H _ I h) fun d s1 ⟨H1,I1,q1⟩=>?_);cases d with |true=>exact ha pins s1 σ H1 Q I1 q1 |false=>exact hb pins s1 σ H1 Q I1 q1
end
end L2
namespace L2
open PySem PySem.Spec PyProof.Rows
def au(K:aaU)(H:Hp)(a:Addr)(xs:List V):Prop:=Rd H a (.lst xs)\/ ∃(o:Obj)(its:Array Value)(n:Nat),K.lookup a=some o/\o.cls= .type "list"/\o.dict=none/\o.data= .seq its n/\its.size<=sizeLine/\Vals xs its.toList
def aI(K:aaU)(H:Hp)(a:Addr)(xs:List V):Prop:=Rd H a (.tup xs)\/ ∃(o:Obj)(its:Array Value)(n:Nat),K.lookup a=some o/\o.cls= .type "tuple"/\o.data= .seq its n/\its.size<=sizeLine/\Vals xs its.toList
def a8U:Value->Option V | .none=>some .aY | .bool b=>some (.bl b) | .int i _=>some (.int i) | .str x _=>some (.str x) | .bytes b _=>some (.vz b) | .float b _=>some (.Ba b) | .ref a=>some (.ref a) | .type n=>some (.ty n) |_=>none
theorem RelV.abs{x:V}{u:Value}(r:RelV x u):a8U u=some x:=by cases x with |aY=>cases r;rfl |bl _=>cases r;rfl |int _=>obtain⟨t,rfl⟩:=r;rfl |str _=>obtain⟨t,rfl⟩:=r;rfl |vz _=>obtain⟨t,rfl⟩:=r;rfl |Ba _=>obtain⟨t,rfl⟩:=r;rfl |ref _=>cases r;rfl |ty _=>cases r;rfl
theorem RelV.inj{x y:V}{u:Value}(r:RelV x u)(q:RelV y u):x=y:=dj (r.abs.symm.trans q.abs)
theorem Vals.inj:∀{xs ys:List V}{us:List Value},Vals xs us->Vals ys us->xs=ys |_,_,_,.nil,.nil=>rfl |_,_,_,.cons r t,.cons r' t'=>by rw[r.inj r',Vals.inj t t']
section
variable {X:Cx}{pins:List (Addr×Obj)}{σ:St}{H:Hp}{s:aaV}{a:Addr}{xs ys:List V}
theorem au.of{K:aaU}(h:H a=some (.lst xs)):au K H a xs:=.inl (.inl h)
theorem aI.of{K:aaU}(h:H a=some (.tup xs)):aI K H a xs:=.inl (.inl h)
theorem Inv.list(I:Inv X pins σ H s)(h:au X.K H a xs):∃its:List Value,Vals xs its/\PlainL s.heap a its.toArray/\xs.length<=sizeLine:=by
 rcases h with h|⟨o,its,n,hk,hc,hd,hs,hz,r⟩
 · obtain⟨z,its,n,r,e⟩:=h.ok I.hok
   exact⟨its,r,⟨_,n,e,rfl,rfl,rfl⟩,z⟩
 · refine⟨its.toList,r,⟨o,n,I.gb a o hk,hc,hd,by simpa using hs⟩,?_⟩
   have e:=r.length;simp only[yS]at e
   lia
theorem Inv.tuple(I:Inv X pins σ H s)(h:aI X.K H a xs):∃its:List Value,Vals xs its/\IsTup s.heap a its.toArray/\xs.length<=sizeLine:=by
 rcases h with h|⟨o,its,n,hk,hc,hs,hz,r⟩
 · obtain⟨z,its,r,p⟩:=h.ok I.hok
   exact⟨its,r,p,z⟩
 · refine⟨its.toList,r,⟨o,I.gb a o hk,hc,n,by simpa using hs⟩,?_⟩
   have e:=r.length;simp only[yS]at e
   lia
theorem Inv.OS(I:Inv X pins σ H s)(h:au X.K H a xs)(h':au X.K H a ys):xs=ys:=by
 obtain⟨its,r,⟨o,n,e,_,_,d⟩,_⟩:=I.list h;obtain⟨its',r',⟨o',n',e',_,_,d'⟩,_⟩:=I.list h';rw[e]at e';cases e';rw[d]at d';injection d' with d1 _;have:its=its':=by simpa using congrArg Array.toList d1
 subst this;exact r.inj r'
theorem Inv.Kb(I:Inv X pins σ H s)(h:aI X.K H a xs)(h':aI X.K H a ys):xs=ys:=by
 obtain⟨its,r,⟨o,e,_,n,d⟩,_⟩:=I.tuple h;obtain⟨its',r',⟨o',e',_,n',d'⟩,_⟩:=I.tuple h';rw[e]at e';cases e';rw[d]at d';injection d' with d1 _;have:its=its':=by simpa using congrArg Array.toList d1
 subst this;exact r.inj r'
end
abbrev Cx.iM(X:Cx)(E:Value->aaV->Prop):Cx:={X with xe:=E}
abbrev Cx.nS(X:Cx):Cx:=X.iM fun _ _=>False
theorem Cx.Ok.iM{X:Cx}(ok:X.Ok)(E:Value->aaV->Prop):(X.iM E).Ok:=⟨ok.mod,ok.kind,ok.glob,ok.blt,ok.above,ok.inj,ok.has,ok.cab,ok.hd,ok.frames,ok.stk,ok.exf,ok.bs,ok.bsz,ok.noex,ok.exfs,ok.jf,ok.frf⟩
theorem Cx.Ok.lW{X:Cx}{E:Value->aaV->Prop}(ok:(X.iM E).Ok):X.Ok:=⟨ok.mod,ok.kind,ok.glob,ok.blt,ok.above,ok.inj,ok.has,ok.cab,ok.hd,ok.frames,ok.stk,ok.exf,ok.bs,ok.bsz,ok.noex,ok.exfs,ok.jf,ok.frf⟩
section
variable {X:Cx}{pins:List (Addr×Obj)}{σ:St}{H:Hp}{s:aaV}{E:Value->aaV->Prop}
theorem Inv.iM(I:Inv X pins σ H s)(E:Value->aaV->Prop):Inv (X.iM E) pins σ H s:=⟨I.ok.iM E,I.os,I.bare,I.base,I.loc,I.cell,I.free,I.freeC,I.pin,I.hok,I.len⟩
theorem Inv.lW(I:Inv (X.iM E) pins σ H s):Inv X pins σ H s:=⟨I.ok.lW,I.os,I.bare,I.base,I.loc,I.cell,I.free,I.freeC,I.pin,I.hok,I.len⟩
theorem SP.lW{D:Ends}{f:Flow}{s':aaV}(h:SP (X.iM E) pins D f s'):SP X pins D f s':=by cases f with |next=>obtain⟨σ',H',I,q⟩:=h;exact⟨σ',H',I.lW,q⟩ |brk=>obtain⟨σ',H',I,q⟩:=h;exact⟨σ',H',I.lW,q⟩ |cont=>obtain⟨σ',H',I,q⟩:=h;exact⟨σ',H',I.lW,q⟩ |ret u=>obtain⟨v,σ',H',I,r,q⟩:=h;exact⟨v,σ',H',I.lW,r,q⟩
theorem gD.nS{st:List Stmt}{t:TS}(h:gD X.nS st t):gD X st t:=fun pins s σ H D I hw=>jk (h pins s σ H D (I.iM _) hw) (fun _ _ q=>q.lW) fun _ _ z=>False.elim z
end
section
variable {X:Cx}{st:Stmt}{rest:List Stmt}{t u:TS}{e:Expr}{te:TE}{pos:Pos}
def Cz:TS:=fun D σ H=>D.nx σ H
def Cw(t u:TS):TS:=fun D σ H=>t {D with nx:=u D} σ H
theorem bu:gD X [] Cz:=fun _ _ σ H _ I h=>yF ⟨σ,H,I,h⟩
theorem ai(h1:PS X st t)(h2:gD X rest u):gD X (st::rest) (Cw t u):=by intro pins s σ H D I h;refine wpAny_execs_cons (aM (h1 pins s σ H {D with nx:=u D} I h) fun f s1 q=>?_);cases f with |next=>obtain⟨σ',H',I',q⟩:=q;exact h2 pins s1 σ' H' D I' q |ret v=>exact q |brk=>exact q |cont=>exact q
theorem aw(h1:PS X st t):gD X [st] t:=by intro pins s σ H D I h;refine wpAny_execs_cons (aM (h1 pins s σ H D I h) fun f s1 q=>?_);cases f with |next=>exact yF q |ret v=>exact q |brk=>exact q |cont=>exact q
theorem Inv.quiet{pins:List (Addr×Obj)}{σ:St}{H:Hp}{s:aaV}(I:Inv X pins σ H s):interactive X.env=false:=by simp[interactive,I.ok.kind]
def Xd(te:TE):TS:=fun D σ H=>te σ H fun _ H1=>D.nx σ H1
theorem gY(he:PE X e te)(hs:swapsWith e none pos.line X.env=pure false:=by rfl):PS X (.Expr e pos) (Xd te):=by intro pins s σ H D I h;exact wpAny_Expr_any (aM (he pins s σ H _ I h) fun v s1 ⟨x,H1,I1,r1,q1⟩=>⟨σ,H1,I1,q1⟩) I.quiet hs
def WY(te:TE):TS:=fun D σ H=>te σ H D.rt
theorem aJ(he:PE X e te):PS X (.Return (some e) pos) (WY te):=by intro pins s σ H D I h;exact wpAny_Return_some (aM (he pins s σ H _ I h) fun v s1 ⟨x,H1,I1,r1,q1⟩=>⟨x,σ,H1,I1,r1,q1⟩)
def CC(c:TT)(t u:TS):TS:=fun D σ H=>c σ H fun b H1=>if b=true then t D σ H1 else u D σ H1
theorem bj{c:Expr}{a b:List Stmt}{tc:TT}(hc:PT X c tc)(ha:gD X a t)(hb:gD X b u):PS X (.If c a b pos) (CC tc t u):=by intro pins s σ H D I h;refine wpAny_If (aM (hc pins s σ H _ I h) fun d s1 ⟨H1,I1,q1⟩=>?_);cases d with |true=>exact ha pins s1 σ H1 D I1 q1 |false=>exact hb pins s1 σ H1 D I1 q1
def X6:TS:=fun _ _ _=>False
theorem uu:PS X st X6:=fun _ _ _ _ _ _ h=>h.elim
end
abbrev TG:=V->St->Hp->(St->Hp->Prop)->Prop
abbrev mO:=List V->St->Hp->(St->Hp->Prop)->Prop
def PG(X:Cx)(target:Expr)(t:TG):Prop:=∀(pins:List (Addr×Obj))(s:aaV)(σ:St)(H:Hp)(v:V)(u:Value)(Q:St->Hp->Prop),Inv X pins σ H s->RelV v u->t v σ H Q->wpAny (model X.prog X.w) X.A (assign target X.env u) (fun _ s'=>∃σ' H',Inv X pins σ' H' s'/\Q σ' H') X.xe s
def yx(X:Cx)(ts:List Expr)(t:mO):Prop:=∀(pins:List (Addr×Obj))(s:aaV)(σ:St)(H:Hp)(vs:List V)(us:List Value)(Q:St->Hp->Prop),Inv X pins σ H s->Vals vs us->t vs σ H Q->wpAny (model X.prog X.w) X.A (assignInOrder ((assignEach ts X.env).map (·.2)) us) (fun _ s'=>∃σ' H',Inv X pins σ' H' s'/\Q σ' H') X.xe s
abbrev J6:=V->V->V->Hp->(Hp->Prop)->Prop
def SU(X:Cx)(t:J6):Prop:=∀(pins:List (Addr×Obj))(s:aaV)(σ:St)(H:Hp)(o i v:V)(ov iv u:Value)(Q:Hp->Prop),Inv X pins σ H s->RelV o ov->RelV i iv->RelV v u->t o i v H Q->wpAny (model X.prog X.w) X.A (setItem ov iv u) (fun _ s'=>∃H',Inv X pins σ H' s'/\Q H') X.xe s
abbrev SG:=V->V->Hp->VK->Prop
def PIp(X:Cx)(op:Operator)(t:SG):Prop:=∀(pins:List (Addr×Obj))(s:aaV)(σ:St)(H:Hp)(x y:V)(v u:Value)(Q:VK),Inv X pins σ H s->RelV x v->RelV y u->t x y H Q->wpAny (model X.prog X.w) X.A (inplaceOp op v u) (EP X pins σ Q) X.xe s
section
variable {X:Cx} {pos:Pos}
def dX(i:Nat):TG:=fun v σ H Q=>Q (σ.set i (some v)) H
theorem a01{i:Nat}{x:Str}(hN:X.N.Nodup)(hi:X.N[i]? =some x)(hx:Loc X.env.scope x)(hf:X.fn x=true\/X.env.scope.names.lookup x=some .local:=by first|exact .inl rfl|exact .inr rfl|assumption):PG X (.Name x pos) (dX i):=by intro pins s σ H v u Q I r h;exact wpAny_assign_Name (u7 I hN hi hx r (fun s' I'=>⟨_,H,I',h⟩) hf)
def pR:mO:=fun vs σ H Q=>vs=[]/\Q σ H
inductive Vj(t:TG)(u:mO)(vs:List V)(σ:St)(H:Hp)(Q:St->Hp->Prop):Prop |mk (v:_)(r:_)(h0:vs=v::r)(h1:t v σ H fun σ' H'=>u r σ' H' Q):Vj t u vs σ H Q
def jz(t:TG)(u:mO):mO:=fun vs σ H Q=>Vj t u vs σ H Q
theorem dk:yx X [] pR:=by intro pins s σ H vs us Q I r h;obtain⟨e,h⟩:=h;subst e;cases r;exact assignInOrder_nil ⟨σ,H,I,h⟩
theorem bE{e:Expr}{es:List Expr}{t:TG}{u:mO}(h1:PG X e t)(h2:yx X es u) (hs:(assignEach (e::es) X.env).map (·.2)=assign e X.env::(assignEach es X.env).map (·.2):=by rfl):yx X (e::es) (jz t u):=by intro pins s σ H vs us Q I r h;obtain⟨v,vr,e1,h⟩:=h;subst e1;cases r with |cons r rr=>rw[hs];refine assignInOrder_cons (aM (h1 pins s σ H _ _ _ I r h) fun _ s1 ⟨σ1,H1,I1,q1⟩=>?_);exact h2 pins s1 σ1 H1 _ _ Q I1 rr q1
inductive Vi(K:aaU)(n:Nat)(t:mO)(v:V)(σ:St)(H:Hp)(Q:St->Hp->Prop):Prop |mk (a:_)(xs:_)(h0:v= .ref a)(h1:aI K H a xs)(h2:xs.length=n)(h3:t xs σ H Q):Vi K n t v σ H Q
def om(K:aaU)(n:Nat)(t:mO):TG:=fun v σ H Q=>Vi K n t v σ H Q
theorem a00{es:List Expr}{k:Nat}{t:mO}{n:Nat}(hc:X.calm=true)(h:yx X es t) (hn:(assignEach es X.env).length=n:=by rfl)(gz:(assignEach es X.env).findIdx? (·.1)=none:=by rfl):PG X (.Tuple es k pos) (om X.K n t):=by intro pins s σ H v u Q I r hw;obtain⟨a,xs,e1,hq,hl,hw⟩:=hw;subst e1;cases r;obtain⟨its,rv,ht,hz⟩:=I.tuple hq;refine assign_Tuple_tuple (I.ok.hd hc) ht (by simp[hn,<-hl,rv.length]) gz fun h' hx=>?_;have I1:Inv X pins σ H {s with heap:=h'}:=I.kept (t':=s.toks) fun b o e=>hx b o (fe (cf e)) e;exact h pins _ σ H xs _ Q I1 (by simpa using rv) hw
def a6G(to ti:TE)(t:J6):TG:=fun v σ H Q=>to σ H fun o H1=>ti σ H1 fun i H2=>t o i v H2 fun H3=>Q σ H3
theorem qW{o i:Expr}{to ti:TE}{t:J6}(ho:PE X o to)(hi:PE X i ti)(hs:SU X t) (ha:∀v,assign (.Subscript o i pos) X.env v=(do
     let ov<-holding [v] (eval o X.env)
     let iv<-holding [v,ov] (eval i X.env)
     standAt pos
     holding [v,ov,iv] (setItem ov iv v)
     release [v,ov,iv] []):=by intro _;rfl):PG X (.Subscript o i pos) (a6G to ti t):=by
  intro pins s σ H v u Q I r h;rw[ha];refine aH (tK (aM (ho pins s σ H _ I h) fun ov s1 ⟨x,H1,I1,r1,q1⟩=>?_));refine aH (tK (aM (hi pins s1 σ H1 _ I1 q1) fun iv s2 ⟨y,H2,I2,r2,q2⟩=>?_));refine aH (wpAny_standAt (aH (tK (aM (hs pins s2 σ H2 x y v ov iv u _ I2 r1 r2 r q2) fun _ s3 ⟨H3,I3,q3⟩=>?_))));exact wpAny_release ⟨σ,H3,I3,q3⟩
def zo(te:TE)(g:TG):TS:=fun D σ H=>te σ H fun x H1=>g x σ H1 D.nx
theorem fF{tg e:Expr}{te:TE}{g:TG}(he:PE X e te)(hg:PG X tg g)(hs:swapsWithSole [tg] e pos.line X.env=pure false:=by rfl)(hw:swappedStores [tg] e X.env=pure none:=by rfl) (h1:(assignEach [tg] X.env).map (·.2)=[assign tg X.env]:=by rfl):PS X (.Assign [tg] e pos) (zo te g):=by intro pins s σ H D I h;refine wpAny_Assign_stores (aM (he pins s σ H _ I h) fun v s1 ⟨x,H1,I1,r1,q1⟩=>?_) hs hw;rw[h1];exact aM (hg pins s1 σ H1 x v _ I1 r1 q1) fun _ s2 q=>q
theorem ZI{i:Nat}{x:Str}{e:Expr}{te:TE}{pos':Pos}(hN:X.N.Nodup)(hi:X.N[i]? =some x)(hx:Loc X.env.scope x)(he:PE X e te)(hs:swapsWith e (some (.Name x pos')) pos.line X.env=pure false:=by rfl)(hf:X.fn x=true\/X.env.scope.names.lookup x=some .local:=by first|exact .inl rfl|exact .inr rfl|assumption): PS X (.Assign [.Name x pos'] e pos) (zo te (dX i)):=by intro pins s σ H D I h;refine wpAny_Assign_Name (aM (he pins s σ H _ I h) fun v s1 ⟨y,H1,I1,r1,q1⟩=>?_) hs;exact u7 I1 hN hi hx r1 (fun s2 I2=>⟨_,H1,I2,q1⟩) hf
inductive Tb(i:Nat)(j:Nat)(D:Ends)(σ:St)(vs:List V)(H1:Hp):Prop |mk (v:_)(w:_)(h0:vs=[v,w])(h1:D.nx ((σ.set i (some v)).set j (some w)) H1):Tb i j D σ vs H1
def X1(i j:Nat)(ta:TA):TS:=fun D σ H=>ta σ H fun vs H1=>Tb i j D σ vs H1
theorem nO{i j:Nat}{x y:Str}{a b:Expr}{ta:TA}{px py pt:Pos} {kt k2 Fo}(hc:X.calm=true)(hN:X.N.Nodup)(hi:X.N[i]? =some x)(hj:X.N[j]? =some y)(hij:i≠j) (hx:X.env.scope.names.lookup x=some .local)(hy:X.env.scope.names.lookup y=some .local)(ha:PA X [a,b] ta) (hw:swappedStores [.Tuple [.Name x px,.Name y py] kt pt] (.Tuple [a,b] k2 Fo) X.env=pure (some [x,y])) (hs:swapsWithSole [.Tuple [.Name x px,.Name y py] kt pt] (.Tuple [a,b] k2 Fo) pos.line X.env=pure false:=by rfl): PS X (.Assign [.Tuple [.Name x px,.Name y py] kt pt] (.Tuple [a,b] k2 Fo) pos) (X1 i j ta):=by
  intro pins s σ H D I h;rw[exec_Assign_arm];refine aH (wpAny_standAt ?_);rw[hs];refine aH (bR ?_);rw[aP (by decide)];refine aH (Tuple_ (aM (ha _ pins s σ H _ I h) fun us s1 ⟨vs,H1,I1,r1,q1⟩=>?_));obtain⟨v,w,e1,q1⟩:=q1;subst e1;obtain⟨u1,u2,rfl,rv,iO⟩:∃u1 u2,us=[u1,u2]/\RelV v u1/\RelV w u2:=by cases r1 with |cons p q=>cases q with |cons p' q'=>cases q';exact⟨_,_,rfl,p,p'⟩
  refine oM ?_ (by show 2<=sizeLine;decide);have I2:Inv X pins σ H1 {s1 with heap:=s1.heap.push {cls:=.type "tuple",data:=.seq [u1,u2].toArray}}:=I1.kept (t':=s1.toks) fun b o e=>bW _ e;rw[hw];refine aH (bR ?_);show wpAny (model X.prog X.w) X.A (do rule "assign.swapped-stores";let items<-unpackItems (.ref s1.heap.objs.size) 2 none;assignInOrder [fun v=>bindName X.env y v,fun v=>bindName X.env x v] items.reverse;pure Flow.next) _ _ _;refine aH (wpAny_rule (aH (unpackItems_tuple (items:=#[u1,u2]) (I.ok.hd hc) (IsTup.new s1.heap _) fun h' hx'=>?_)));have I3:=I2.kept (h':=h') (t':=s1.toks) fun b o e=>hx' b o (fe (cf e)) e;show wpAny _ _ (assignInOrder [fun v=>bindName X.env y v,fun v=>bindName X.env x v] [u2,u1]>>=fun _=>pure Flow.next) _ _ _;refine aH (assignInOrder_cons (wpAny_bindName (u7 I3 hN hj (.inl hy) iO (fun s2 I4=>?_) (.inr hy))));refine assignInOrder_cons (wpAny_bindName (u7 I4 hN hi (.inl hx) rv (fun s3 I5=>assignInOrder_nil (bR ?_)) (.inr hx)));rw[List.set_comm _ _ (ek hij)]at I5;exact⟨_,H1,I5,q1⟩
inductive V8(f:Int->Int->Int)(x:V)(y:V)(H:Hp)(Q:VK):Prop |mk (i:_)(j:_)(h0:x= .int i)(h1:y= .int j)(h2:Q (.int (f i j)) H):V8 f x y H Q
def ipI(f:Int->Int->Int):SG:=fun x y H Q=>V8 f x y H Q
theorem a3P:PIp X .Add (ipI fun i j=>i+j):=by intro pins s σ H x y v u Q I r1 r2 h;obtain⟨i,j,e1,e2,q⟩:=h;subst e1;subst e2;obtain⟨t,rfl⟩:=r1;obtain⟨t',rfl⟩:=r2;exact iadd_int ⟨.int _,H,I.tok _,⟨_,rfl⟩,q⟩
end
section
variable {X:Cx} {pos:Pos}
def Kg(c:TT)(tb:TS):TS:=fun D σ H=>∃W:Nat->St->Hp->Prop,(∃m,W m σ H)/\∀m σ H,W m σ H->c σ H fun b H1=>if b=true then∃N:St->Hp->Prop,(∀σ' H',N σ' H'->∃m',m'<m/\W m' σ' H')/\tb {D with nx:=N,ct:=N,bk:=D.nx} σ H1 else D.nx σ H1
theorem md{c:Expr}{body:List Stmt}{tc:TT}{tb:TS}(hp:PassesOwn (model X.prog X.w) X.A X.env X.xe)(hc:PT X c tc)(hb:gD X body tb):PS X (.While c body [] pos) (Kg tc tb):=by intro pins s σ H D I h;obtain⟨W,⟨m0,w0⟩,turn⟩:=h;refine wpAny_While (codeAny_whileLoop (fun n s'=>∃σ' H',Inv X pins σ' H' s'/\W n σ' H') ?_ m0 ⟨σ,H,I,w0⟩);rintro n s1 ⟨σ1,H1,I1,w1⟩;refine vP hp (aM (hc pins s1 σ1 H1 _ I1 (turn n σ1 H1 w1)) fun b s2 ⟨H2,I2,q2⟩=>?_);cases b with
 |true=>obtain⟨N,hN,q2⟩:=q2;rw[aO rfl];refine vP hp (aM (hb pins s2 σ1 H2 _ I2 q2) fun f s3 q3=>?_);cases f with |next=>obtain⟨σ3,H3,I3,n3⟩:=q3;obtain⟨m',hm,w3⟩:=hN σ3 H3 n3;exact⟨m',hm,σ3,H3,I3,w3⟩ |cont=>obtain⟨σ3,H3,I3,n3⟩:=q3;obtain⟨m',hm,w3⟩:=hN σ3 H3 n3;exact⟨m',hm,σ3,H3,I3,w3⟩ |brk=>exact q3 |ret v=>exact q3
 |false=>rw[aP jK];exact yF ⟨σ1,H2,I2,q2⟩
end
structure It where
 go:Nat->Hp->Prop
 yld:Nat->Hp->V->Hp->Prop
 stop:Nat->Hp->Prop
def kL(X:Cx)(pins:List (Addr×Obj))(H:Hp)(b:Addr):Prop:=H b=none/\b≠X.env.locals/\b∉X.fs/\(b∈X.ex\/X.s₀.heap.objs.size<=b)/\(∀x c,X.env.cells.lookup x=some c->c≠b)/\∀p∈X.pn++pins,p.1≠b
theorem Inv.oq{X:Cx}{pins:List (Addr×Obj)}{σ:St}{H H':Hp}{s:aaV}{b:Addr}(I:Inv X pins σ H s)(hb:s.heap.objs.size<=b)(hn:H' b=none):kL X pins H' b:=by
 refine⟨hn,C1 (fL I.lt hb),I.Oe hb,.inr (gR I.sz hb),fun x c e z=>?_,fun p hp z=>?_⟩
 · obtain⟨v,q⟩:=I.cell x c e
   exact absurd (fL q.lt (by rw[z];exact hb)) (oS _)
 ·exact absurd (fL (cf (I.pin p hp).1) (by rw[z];exact hb)) (oS _)
structure Turn(P:aaW)(w:World)(K:aaU)(tg:Expr)(J:It)(fp:List Addr)(it:Addr)(tn:Nat->Heap->Prop):Prop where
 mem:it∈fp
 obj:∀i h,tn i h->∀b∈fp,∃o,h.get? b=some o/\∀v,o.data≠ .cell v
 keep:∀i h h',tn i h->(∀b∈fp,∀o,h.get? b=some o->h'.get? b=some o)->tn i h'
 item:∀(X:Cx),X.prog=P->X.w=w->X.K=K->X.calm=true->∀(i:Nat)(pins:List (Addr×Obj))(s:aaV)(σ:St)(H:Hp)(E:Value->aaV->Prop),Inv X pins σ H s->(∀b∈fp,kL X pins H b)->tn i s.heap->J.go i H->wpAny (model P w) X.A (pyNext (.ref it)) (fun r s1=>∃u,r=some u/\wpAny (model P w) X.A (letOwnedTupleGo tg (.ref it) u) (fun _ s2=>∃x H',Inv X pins σ H' s2/\RelV x u/\J.yld i H x H'/\tn (i+1) s2.heap/\∀b∈fp,H' b=none) E s1) E s
 done:∀(X:Cx),X.prog=P->X.w=w->X.K=K->X.calm=true->∀(i:Nat)(pins:List (Addr×Obj))(s:aaV)(σ:St)(H:Hp)(E:Value->aaV->Prop),Inv X pins σ H s->(∀b∈fp,kL X pins H b)->tn i s.heap->J.stop i H->wpAny (model P w) X.A (pyNext (.ref it)) (fun r s1=>r=none/\Inv X pins σ H s1) E s
 self:∀(A:aaY)(i:Nat)(s:aaV)(Q:Value->aaV->Prop)(E:Value->aaV->Prop),tn i s.heap->Q (.ref it) s->wpAny (model P w) A (pyIter (.ref it)) Q E s
abbrev TI:=St->Hp->(It->Hp->Prop)->Prop
def BH(X:Cx)(pins:List (Addr×Obj))(σ:St)(tg:Expr)(R:It->Hp->Prop)(Av:Value)(s2:aaV):Prop:=∃(it:Addr)(fp:List Addr)(tn:Nat->Heap->Prop)(J:It)(H':Hp),Av= .ref it/\Inv X pins σ H' s2/\Turn X.prog X.w X.K tg J fp it tn/\tn 0 s2.heap/\(∀b∈fp,kL X pins H' b)/\R J H'
def PI(X:Cx)(tg iter:Expr)(wi:TI):Prop:=∀(pins:List (Addr×Obj))(s:aaV)(σ:St)(H:Hp)(R:It->Hp->Prop),Inv X pins σ H s->wi σ H R->wpAny (model X.prog X.w) X.A (eval iter X.env) (fun v s1=>wpAny (model X.prog X.w) X.A (pyIter v) (BH X pins σ tg R) X.xe s1) X.xe s
theorem vj{M:Model}{A:aaY}{E:Value->aaV->Prop}{s:aaV}{tg:Expr}{it:Addr}{u:Value}{o:Obj}{n:String}{vs:Array Value}{Q:Unit->aaV->Prop}(ho:s.heap.get? it=some o)(hc:o.cls= .type n)(hd:o.data= .fields vs) (hn:["enumerate","zip","dict_itemiterator","dict_reverseitemiterator","odict_iterator","itertools.zip_longest","itertools.pairwise"].contains n=false)(hQ:Q () s):wpAny M A (letOwnedTupleGo tg (.ref it) u) Q E s:=by unfold letOwnedTupleGo;cases tg<;>first |exact bR hQ |(cases u<;>first
        |exact bR hQ
        | (refine aH (wpAny_load ho ?_)
           rw[hc,hd];show wpAny M A (if(["enumerate","zip","dict_itemiterator","dict_reverseitemiterator","odict_iterator","itertools.zip_longest","itertools.pairwise"].contains n&&vs[0]? ==some (rawInt _))=true then _ else _) Q E s;rw[aP (by intro h;rw[hn,jW]at h;cases h)];exact bR hQ))
def qj(K:aaU)(a:Addr):It:=⟨fun i H=>∃xs x,au K H a xs/\xs[i]? =some x,fun i H x H'=>H'=H/\∀xs,au K H a xs->xs[i]? =some x,fun i H=>∃xs,au K H a xs/\xs.length<=i⟩
def qi(K:aaU)(a:Addr):It:=⟨fun i H=>∃xs x,aI K H a xs/\xs[i]? =some x,fun i H x H'=>H'=H/\∀xs,aI K H a xs->xs[i]? =some x,fun i H=>∃xs,aI K H a xs/\xs.length<=i⟩
def mS(lo:Int)(n:Nat):It:=⟨fun i _=>i<n,fun i H x H'=>H'=H/\x= .int (lo+i),fun i _=>n<=i⟩
theorem WJ{P:aaW}{w:World}{K:aaU}{tg:Expr}(a it:Addr):Turn P w K tg (qj K a) [it] it (fun i h=>h.IsListIter it a i) where
 mem:=by simp
 obj:=fun i h st b hb=>by
  have e:b=it:=by simpa using hb
  subst e;obtain⟨o,e,c,d⟩:=st;exact⟨o,e,fun v z=>by rw[d]at z;cases z⟩
 keep:=fun i h h' st k=>st.at fun o e=>k it (by simp) o e
 item:=by intro X hP hw hK hc i pins s σ H E I hf st hg;subst hP hw hK;obtain⟨xs,x,hq,hx⟩:=hg;obtain⟨its,rv,p,hz⟩:=I.list hq;obtain⟨u,hu,ru⟩:=rv.get hx;obtain⟨f0,f1,f2,f3,f4,f5⟩:=hf it (by simp);refine wpAny_pyNext_list_item st p.isList (x:=u) (by simpa using hu) fun h' gh sb=>?_;have I1:Inv X pins σ H {s with heap:=h'}:=I.turned (t':=s.toks) (fun b o hb e=>(sb.2 b hb).trans e) f0 f1 f3 f4 f5;obtain⟨o,e,c,d⟩:=id gh;exact⟨u,rfl,vj (s:={s with heap:=h'}) e c d (by decide) ⟨x,H,I1,ru,⟨rfl,fun ys hy=>by rw[I.OS hy hq];exact hx⟩,gh,fun b hb=>(hf b hb).1⟩⟩
 done:=by intro X hP hw hK hc i pins s σ H E I hf st hg;subst hP hw hK;obtain⟨xs,hq,hx⟩:=hg;obtain⟨its,rv,p,hz⟩:=I.list hq;obtain⟨f0,f1,f2,f3,f4,f5⟩:=hf it (by simp);have hl:=rv.length;exact wpAny_pyNext_list_end (I.ok.hd hc) st p.isList (by simp;lia) fun h' eb=>⟨rfl,I.turned (t':=s.toks) (fun b o hb e=>eb b o hb e) f0 f1 f3 f4 f5⟩
 self:=fun _ _ _ _ _ st h=>wpAny_pyIter_listiter st h
theorem WE{P:aaW}{w:World}{K:aaU}{tg:Expr}(a it:Addr):Turn P w K tg (qi K a) [it] it (fun i h=>h.IsTupleIter it a i) where
 mem:=by simp
 obj:=fun i h st b hb=>by
  have e:b=it:=by simpa using hb
  subst e;obtain⟨o,e,c,d⟩:=st;exact⟨o,e,fun v z=>by rw[d]at z;cases z⟩
 keep:=fun i h h' st k=>st.at fun o e=>k it (by simp) o e
 item:=by intro X hP hw hK hc i pins s σ H E I hf st hg;subst hP hw hK;obtain⟨xs,x,hq,hx⟩:=hg;obtain⟨its,rv,p,hz⟩:=I.tuple hq;obtain⟨u,hu,ru⟩:=rv.get hx;obtain⟨f0,f1,f2,f3,f4,f5⟩:=hf it (by simp);refine wpAny_pyNext_tuple_item st (show s.heap.IsTuple a its.toArray from p) (x:=u) (by simpa using hu) fun h' gh sb=>?_;have I1:Inv X pins σ H {s with heap:=h'}:=I.turned (t':=s.toks) (fun b o hb e=>(sb.2 b hb).trans e) f0 f1 f3 f4 f5;obtain⟨o,e,c,d⟩:=id gh;exact⟨u,rfl,vj (s:={s with heap:=h'}) e c d (by decide) ⟨x,H,I1,ru,⟨rfl,fun ys hy=>by rw[I.Kb hy hq];exact hx⟩,gh,fun b hb=>(hf b hb).1⟩⟩
 done:=by intro X hP hw hK hc i pins s σ H E I hf st hg;subst hP hw hK;obtain⟨xs,hq,hx⟩:=hg;obtain⟨its,rv,p,hz⟩:=I.tuple hq;obtain⟨f0,f1,f2,f3,f4,f5⟩:=hf it (by simp);have hl:=rv.length;exact wpAny_pyNext_tuple_end (I.ok.hd hc) st (show s.heap.IsTuple a its.toArray from p) (by simp;lia) fun h' eb=>⟨rfl,I.turned (t':=s.toks) (fun b o hb e=>eb b o hb e) f0 f1 f3 f4 f5⟩
 self:=fun _ _ _ _ _ st h=>wpAny_pyIter_tupleiter st h
theorem WI{P:aaW}{w:World}{K:aaU}{tg:Expr}(it:Addr)(lo:Int)(n:Nat):Turn P w K tg (mS lo n) [it] it (fun i h=>IsRangeIter h it (lo+(i:Nat)*1) ((n:Int)-(i:Nat)) 1) where
 mem:=by simp
 obj:=fun i h st b hb=>by
  have e:b=it:=by simpa using hb
  subst e;exact⟨_,st,fun v z=>by have z':Data.fields _=Data.cell v:=z;cases z'⟩
 keep:=fun i h h' st k=>k it (by simp) _ st
 item:=by intro X hP hw hK hc i pins s σ H E I hf st hg;subst hP hw hK;obtain⟨f0,f1,f2,f3,f4,f5⟩:=hf it (by simp);have W:=Walks.range (prog:=X.prog) (w:=X.w) (I.ok.hd hc) it lo 1 n;refine W.item i s _ _ hg st fun v h' tk hv gh kk=>?_;obtain⟨t,rfl⟩:=hv;have I1:Inv X pins σ H {s with heap:=h',toks:=tk}:=I.turned (fun b o hb e=>kk b o (by simpa using hb) e) f0 f1 f3 f4 f5;refine⟨_,rfl,vj (s:={s with heap:=h',toks:=tk}) (n:="range_iterator") gh rfl rfl (by decide) ⟨.int (lo+i),H,I1,⟨t,?_⟩,⟨rfl,rfl⟩,gh,fun b hb=>(hf b hb).1⟩⟩;rw[Int.mul_one]
 done:=by intro X hP hw hK hc i pins s σ H E I hf st hg;subst hP hw hK;obtain⟨f0,f1,f2,f3,f4,f5⟩:=hf it (by simp);exact Vv (I.ok.hd hc) st (by have:n<=i:=hg;lia) fun h' eb=>⟨rfl,I.turned (t':=s.toks) (fun b o hb e=>eb b o hb e) f0 f1 f3 f4 f5⟩
 self:=fun _ _ _ _ _ st h=>Jl st h
section
variable {X:Cx} {tg:Expr}
inductive Vg(K:aaU)(R:It->Hp->Prop)(x:V)(H1:Hp):Prop |mk (a:_)(h0:x= .ref a)(h1:(∃xs,au K H1 a xs))(h2:R (qj K a) H1):Vg K R x H1
def Po(K:aaU)(tl:TE):TI:=fun σ H R=>tl σ H fun x H1=>Vg K R x H1
inductive Va(K:aaU)(R:It->Hp->Prop)(x:V)(H1:Hp):Prop |mk (a:_)(h0:x= .ref a)(h1:(∃xs,aI K H1 a xs))(h2:R (qi K a) H1):Va K R x H1
def Pm(K:aaU)(tl:TE):TI:=fun σ H R=>tl σ H fun x H1=>Va K R x H1
theorem ZY{l:Expr}{tl:TE}(hl:PE X l tl):PI X tg l (Po X.K tl):=by
 intro pins s σ H R I h;refine aM (hl pins s σ H _ I h) fun v s1 ⟨x,H1,I1,r1,q1⟩=>?_;obtain⟨a,e,⟨xs,hq⟩,q⟩:=q1;subst e;cases r1;obtain⟨its,rv,p,hz⟩:=I1.list hq;refine BO p.isList ?_;refine⟨s1.heap.objs.size,[s1.heap.objs.size],_,_,H1,rfl,I1.kept (t':=s1.toks) fun b o e=>bW _ e,WJ a _,⟨_,dP _ rfl,rfl,rfl⟩,fun b hb=>?_,q⟩;have e:b=s1.heap.objs.size:=by simpa using hb
 subst e;exact I1.oq (bo _) (I1.hok.fresh (bo _))
theorem ZU{l:Expr}{tl:TE}(hl:PE X l tl):PI X tg l (Pm X.K tl):=by
 intro pins s σ H R I h;refine aM (hl pins s σ H _ I h) fun v s1 ⟨x,H1,I1,r1,q1⟩=>?_;obtain⟨a,e,⟨xs,hq⟩,q⟩:=q1;subst e;cases r1;obtain⟨its,rv,p,hz⟩:=I1.tuple hq;refine wpAny_pyIter_tuple (show s1.heap.IsTuple a its.toArray from p) ?_;refine⟨s1.heap.objs.size,[s1.heap.objs.size],_,_,H1,rfl,I1.kept (t':=s1.toks) fun b o e=>bW _ e,WE a _,⟨_,dP _ rfl,rfl,rfl⟩,fun b hb=>?_,q⟩;have e:b=s1.heap.objs.size:=by simpa using hb
 subst e;exact I1.oq (bo _) (I1.hok.fresh (bo _))
theorem Nr{pins:List (Addr×Obj)}{σ:St}{H:Hp}{s:aaV}{R:It->Hp->Prop}{E:Value->aaV->Prop}{lo hi:Int}{t u v:Tok}{tk:Nat}(I:Inv X pins σ H s)(h1:-(2^62)<=lo)(h2:lo<2^62)(h3:-(2^62)<=hi)(h4:hi<2^62) (q:R (mS lo (hi-lo).toNat) H):wpAny (model X.prog X.w) X.A (pyIter (.ref s.heap.objs.size)) (BH X pins σ tg R) E {s with heap:=s.heap.push {cls:=.type "range",data:=.fields #[.int lo t,.int hi u,.int 1 v]},toks:=tk}:=by
  refine wpAny_pyIter_range (IsRange.new ..) (small_one h1 h2 h3 h4) ?_;have I1:Inv X pins σ H {s with heap:=s.heap.push {cls:=.type "range",data:=.fields #[.int lo t,.int hi u,.int 1 v]},toks:=tk}:=I.kept fun b o e=>bW _ e;refine⟨(s.heap.push {cls:=.type "range",data:=.fields #[.int lo t,.int hi u,.int 1 v]}).objs.size,[(s.heap.push {cls:=.type "range",data:=.fields #[.int lo t,.int hi u,.int 1 v]}).objs.size],_,_,H,rfl,I1.kept (t':=tk) fun b o e=>bW _ e,WI _ lo (hi-lo).toNat,?_,fun b hb=>?_,q⟩
  · have e1:lo+((0:Nat):Int)*1=lo:=by simp
    have e2:(((hi-lo).toNat:Nat):Int)-((0:Nat):Int)=Builtin.Range.rangeSize lo hi 1:=by rw[rangeSize_one];split<;>lia
    show IsRangeIter _ _ (lo+((0:Nat):Int)*1) ((((hi-lo).toNat:Nat):Int)-((0:Nat):Int)) 1;rw[e1,e2];exact dP _ rfl
  · have e:b=(s.heap.push {cls:=.type "range",data:=.fields #[.int lo t,.int hi u,.int 1 v]}).objs.size:=by simpa using hb
    subst e;exact I1.oq (bo _) (I1.hok.fresh (bo _))
inductive Ve(R:It->Hp->Prop)(vs:List V)(H1:Hp):Prop |mk (j:Int)(h0:vs=[.int j])(h1:-(2^62)<=j)(h2:j<2^62)(h3:R (mS 0 j.toNat) H1):Ve R vs H1
def a44(ta:TA):TI:=fun σ H R=>ta σ H fun vs H1=>Ve R vs H1
inductive Vd(R:It->Hp->Prop)(vs:List V)(H1:Hp):Prop |mk (i:Int)(j:Int)(h0:vs=[.int i,.int j])(h1:(-(2^62)<=i/\i<2^62/\-(2^62)<=j/\j<2^62))(h2:R (mS i (j-i).toNat) H1):Vd R vs H1
def a43(ta:TA):TI:=fun σ H R=>ta σ H fun vs H1=>Vd R vs H1
theorem wU{a:Expr}{ta:TA}{p pos:Pos}(hg:Gl X "range")(hm:X.mg "range"=none)(ha:PA X [a] ta)(hs:starEach [a] X.env=[(false,eval a X.env)]:=by rfl):PI X tg (.Call (.Name "range" p) [a] [] pos) (a44 ta):=by intro pins s σ H R I h;refine Call_ (nU I hg hm boot_range (vS (aM (ha pos pins s σ H _ I h) fun us s1 ⟨vs,H1,I1,r1,q1⟩=>?_) hs rfl));obtain⟨j,e,q1,q2,q⟩:=q1;subst e;cases r1 with |cons r rr=>cases rr;obtain⟨t,rfl⟩:=r;exact call_range_1 (Nr I1 (by lia) (by lia) q1 q2 (by simpa using q))
theorem NF{a b:Expr}{ta:TA}{p pos:Pos}(hg:Gl X "range")(hm:X.mg "range"=none)(ha:PA X [a,b] ta)(hs:starEach [a,b] X.env=[(false,eval a X.env),(false,eval b X.env)]:=by rfl)(iU:starEach [b] X.env=[(false,eval b X.env)]:=by rfl): PI X tg (.Call (.Name "range" p) [a,b] [] pos) (a43 ta):=by intro pins s σ H R I h;refine Call_ (nU I hg hm boot_range (vS (aM (ha pos pins s σ H _ I h) fun us s1 ⟨vs,H1,I1,r1,q1⟩=>?_) (by rw[hs,iU]) (by rw[iU];rfl)));obtain⟨i,j,e,⟨q1,q2,q3,q4⟩,q⟩:=q1;subst e;cases r1 with |cons r rr=>cases rr with |cons r' rr=>cases rr;obtain⟨t,rfl⟩:=r;obtain⟨t',rfl⟩:=r';exact call_range_2 (Nr I1 q1 q2 q3 q4 q)
def Xc(wi:TI)(g:TG)(tb:TS):TS:=fun D σ H=>wi σ H fun J H1=>∃W:Nat->Nat->St->Hp->Prop,(∃m,W 0 m σ H1)/\∀i m σ H,W i m σ H->(J.stop i H/\D.nx σ H)\/(J.go i H/\∃N:St->Hp->Prop,(∀σ' H',N σ' H'->∃m',m'<m/\W (i+1) m' σ' H')/\∀x H',J.yld i H x H'->g x σ H' fun σ2 H2=>tb {D with nx:=N,ct:=N,bk:=D.nx} σ2 H2)
def uw(fp:List Addr)(h:Heap):List (Addr×Obj):=fp.filterMap fun b=>(h.get? b).map fun o=>(b,o)
theorem uP{fp:List Addr}{h:Heap}{b:Addr}{o:Obj}(hb:b∈fp)(e:h.get? b=some o):(b,o)∈uw fp h:=mX.mpr ⟨b,hb,by rw[e];rfl⟩
theorem a2f{fp:List Addr}{h:Heap}{p:Addr×Obj}(hp:p∈uw fp h):p.1∈fp/\h.get? p.1=some p.2:=by obtain⟨b,hb,e⟩:=mX.mp hp;cases q:h.get? b with |none=>rw[q]at e;cases e |some o=>rw[q]at e;have e':(b,o)=p:=dj e;subst e';exact⟨hb,q⟩
theorem Inv.pinned{pins:List (Addr×Obj)}{σ:St}{H:Hp}{s:aaV}{fp:List Addr}(I:Inv X pins σ H s)(hf:∀b∈fp,kL X pins H b)(ho:∀b∈fp,∃o,s.heap.get? b=some o/\∀v,o.data≠ .cell v):Inv X (pins++uw fp s.heap) σ H s:=I.ND fun p hp=>(vU.mp hp).elim (fun z=>I.pin p (kM _ z)) fun z=>by obtain⟨hb,e⟩:=a2f z;obtain⟨f0,f1,f2,_⟩:=hf p.1 hb;obtain⟨o,e',d⟩:=ho p.1 hb;rw[e]at e';cases e';exact⟨e,f0,f1,f2,d⟩
theorem Inv.wg{pins pl:List (Addr×Obj)}{σ:St}{H:Hp}{s:aaV}(I:Inv X (pins++pl) σ H s):Inv X pins σ H s:=I.ND fun p hp=>I.pin p (kM _ (VM _ hp))
theorem kU{iter:Expr}{body:List Stmt}{wi:TI}{g:TG}{tb:TS}{pos:Pos}(hp:PassesOwn (model X.prog X.w) X.A X.env X.xe)(hc:X.calm=true)(hi:PI X tg iter wi)(hg:PG X tg g)(hb:gD X body tb) (hs:∀x,foldedSetIterable iter X.env x=pure x:=by intro _;rfl):PS X (.For tg iter body [] pos) (Xc wi g tb):=by
  intro pins s σ H D I h;refine wpAny_For (aM (hi pins s σ H _ I h) fun v s1 h1=>aM h1 fun Av s2 h2=>?_) hs;obtain⟨it,fp,tn,J,H2,e,I2,T,qG,f2,W,⟨m0,w0⟩,turn⟩:=h2;subst e;have lC:∀{H':Hp},(∀b∈fp,H' b=none)->∀b∈fp,kL X pins H' b:=fun hn b hb=>⟨hn b hb,(f2 b hb).2⟩;refine codeAny_forLoop_any (fun n s'=>∃i σ' H',Inv X pins σ' H' s'/\tn i s'.heap/\(∀b∈fp,H' b=none)/\W i n σ' H') ?_ m0 ⟨0,σ,H2,I2,qG,fun b hb=>(f2 b hb).1,w0⟩;rintro n s3 ⟨i,σ3,H3,I3,Kw,QA,w3⟩;rcases turn i n σ3 H3 w3 with⟨stop,qn⟩|⟨go,N,hN,step⟩
  · refine vP hp (aM (T.done X rfl rfl rfl hc i pins s3 σ3 H3 X.xe I3 (lC QA) Kw stop) fun r s4 ⟨hr,I4⟩=>?_)
    subst hr;exact yF ⟨σ3,H3,I4,qn⟩
  · refine vP hp (aM (T.item X rfl rfl rfl hc i pins s3 σ3 H3 X.xe I3 (lC QA) Kw go) fun r s4 ⟨u,hr,h4⟩=>?_)
    subst hr;refine vP hp (aM h4 fun _ s5 ⟨x,H5,I5,r5,y5,nI,sN⟩=>?_);have I5':=I5.pinned (lC sN) (T.obj _ _ nI);refine vP hp (aM (hg _ s5 σ3 H5 x u _ I5' r5 (step x H5 y5)) fun _ s6 ⟨σ6,H6,I6,q6⟩=>?_);refine vP hp (aM (hb _ s6 σ6 H6 _ I6 q6) fun f s7 q7=>?_);have again:∀{σ7:St}{H7:Hp},Inv X (pins++uw fp s5.heap) σ7 H7 s7->N σ7 H7->∃m,m<n/\∃i σ' H',Inv X pins σ' H' s7/\tn i s7.heap/\(∀b∈fp,H' b=none)/\W i m σ' H':=fun{σ7 H7} I7 n7=>by obtain⟨m',hm,w7⟩:=hN σ7 H7 n7;refine⟨m',hm,i+1,σ7,H7,I7.wg,T.keep _ _ _ nI fun b hb o e=>(I7.pin (b,o) (kM _ (kM _ (uP hb e)))).1,fun b hb=>?_,w7⟩;obtain⟨o,e,d⟩:=T.obj _ _ nI b hb;exact(I7.pin (b,o) (kM _ (kM _ (uP hb e)))).2.1
    cases f with |next=>obtain⟨σ7,H7,I7,n7⟩:=q7;exact again I7 n7 |cont=>obtain⟨σ7,H7,I7,n7⟩:=q7;exact again I7 n7 |brk=>obtain⟨σ7,H7,I7,q7⟩:=q7;exact⟨σ7,H7,I7.wg,q7⟩ |ret v=>obtain⟨x7,σ7,H7,I7,r7,q7⟩:=q7;exact⟨x7,σ7,H7,I7.wg,r7,q7⟩
end
theorem Hw{K:aaU}{a:Addr}{xs:List V}{g:TG}{tb:TS}{D:Ends}{σ:St}{H:Hp}(Pv:Nat->St->Hp->Prop)(h0:Pv 0 σ H)(hl:∀i σ H,i<=xs.length->Pv i σ H->au K H a xs) (hs:∀i x σ H,xs[i]? =some x->Pv i σ H->g x σ H fun σ2 H2=>tb {D with nx:=Pv (i+1),ct:=Pv (i+1),bk:=D.nx} σ2 H2)(hd:∀σ H,Pv xs.length σ H->D.nx σ H): ∃W:Nat->Nat->St->Hp->Prop,(∃m,W 0 m σ H)/\∀i m σ H,W i m σ H->((qj K a).stop i H/\D.nx σ H)\/((qj K a).go i H/\∃N:St->Hp->Prop,(∀σ' H',N σ' H'->∃m',m'<m/\W (i+1) m' σ' H')/\∀x H',(qj K a).yld i H x H'->g x σ H' fun σ2 H2=>tb {D with nx:=N,ct:=N,bk:=D.nx} σ2 H2):=by
  refine⟨fun i m σ H=>m=xs.length-i/\i<=xs.length/\Pv i σ H,⟨xs.length,by simp,fX _,h0⟩,?_⟩;rintro i m σ H ⟨rfl,hi,p⟩;have q:=hl i σ H hi p;by_cases bV:i<xs.length
  · refine .inr ⟨⟨xs,xs[i],q,by simp[bV]⟩,Pv (i+1),fun σ' H' p'=>⟨xs.length-(i+1),by lia,rfl,bV,p'⟩,fun x H' y=>?_⟩
    obtain⟨e,y⟩:=y;subst e;exact hs i x σ _ (y xs q) p
  · have e:i=xs.length:=by lia
    subst e;exact .inl ⟨⟨xs,q,bo _⟩,hd σ H p⟩
theorem a6I{K:aaU}{a:Addr}{xs:List V}{g:TG}{tb:TS}{D:Ends}{σ:St}{H:Hp}(Pv:Nat->St->Hp->Prop)(h0:Pv 0 σ H)(hl:∀i σ H,i<=xs.length->Pv i σ H->aI K H a xs) (hs:∀i x σ H,xs[i]? =some x->Pv i σ H->g x σ H fun σ2 H2=>tb {D with nx:=Pv (i+1),ct:=Pv (i+1),bk:=D.nx} σ2 H2)(hd:∀σ H,Pv xs.length σ H->D.nx σ H): ∃W:Nat->Nat->St->Hp->Prop,(∃m,W 0 m σ H)/\∀i m σ H,W i m σ H->((qi K a).stop i H/\D.nx σ H)\/((qi K a).go i H/\∃N:St->Hp->Prop,(∀σ' H',N σ' H'->∃m',m'<m/\W (i+1) m' σ' H')/\∀x H',(qi K a).yld i H x H'->g x σ H' fun σ2 H2=>tb {D with nx:=N,ct:=N,bk:=D.nx} σ2 H2):=by
  refine⟨fun i m σ H=>m=xs.length-i/\i<=xs.length/\Pv i σ H,⟨xs.length,by simp,fX _,h0⟩,?_⟩;rintro i m σ H ⟨rfl,hi,p⟩;have q:=hl i σ H hi p;by_cases bV:i<xs.length
  · refine .inr ⟨⟨xs,xs[i],q,by simp[bV]⟩,Pv (i+1),fun σ' H' p'=>⟨xs.length-(i+1),by omega,rfl,bV,p'⟩,fun x H' y=>?_⟩
    obtain⟨e,y⟩:=y;subst e;exact hs i x σ _ (y xs q) p
  · have e:i=xs.length:=by omega
    subst e;exact .inl ⟨⟨xs,q,bo _⟩,hd σ H p⟩
theorem B9{lo:Int}{n:Nat}{g:TG}{tb:TS}{D:Ends}{σ:St}{H:Hp}(Pv:Nat->St->Hp->Prop)(h0:Pv 0 σ H) (hs:∀i σ H,i<n->Pv i σ H->g (.int (lo+i)) σ H fun σ2 H2=>tb {D with nx:=Pv (i+1),ct:=Pv (i+1),bk:=D.nx} σ2 H2)(hd:∀σ H,Pv n σ H->D.nx σ H): ∃W:Nat->Nat->St->Hp->Prop,(∃m,W 0 m σ H)/\∀i m σ H,W i m σ H->((mS lo n).stop i H/\D.nx σ H)\/((mS lo n).go i H/\∃N:St->Hp->Prop,(∀σ' H',N σ' H'->∃m',m'<m/\W (i+1) m' σ' H')/\∀x H',(mS lo n).yld i H x H'->g x σ H' fun σ2 H2=>tb {D with nx:=N,ct:=N,bk:=D.nx} σ2 H2):=by
  refine⟨fun i m σ H=>m=n-i/\i<=n/\Pv i σ H,⟨n,by simp,fX _,h0⟩,?_⟩;rintro i m σ H ⟨rfl,hi,p⟩;by_cases bV:i<n
  · refine .inr ⟨bV,Pv (i+1),fun σ' H' p'=>⟨n-(i+1),by lia,rfl,bV,p'⟩,fun x H' y=>?_⟩
    obtain⟨e,y⟩:=y;subst e y;exact hs i σ _ bV p
  · have e:i=n:=by lia
    subst e;exact .inl ⟨bo _,hd σ H p⟩
theorem lV{c:TT}{tb:TS}{D:Ends}{σ:St}{H:Hp}(Pv:St->Hp->Prop)(μ:St->Hp->Nat)(h0:Pv σ H) (hs:∀σ H,Pv σ H->c σ H fun b H1=>if b=true then tb {D with nx:=fun σ' H'=>Pv σ' H'/\μ σ' H'<μ σ H,ct:=fun σ' H'=>Pv σ' H'/\μ σ' H'<μ σ H,bk:=D.nx} σ H1 else D.nx σ H1) (mono:∀σ H Q Q',(∀b H1,Q b H1->Q' b H1)->c σ H Q->c σ H Q'):Kg c tb D σ H:=by refine⟨fun m σ H=>m=μ σ H/\Pv σ H,⟨_,rfl,h0⟩,?_⟩;rintro m σ H ⟨rfl,p⟩;refine mono σ H _ _ (fun b H1 q=>?_) (hs σ H p);cases b with |true=>exact⟨_,fun σ' H' ⟨p',l⟩=>⟨_,l,rfl,p'⟩,q⟩ |false=>exact q
abbrev R2:=V->V->Hp->VK->Prop
def cS(X:Cx)(f:Value->Value->Sem Value)(r:R2):Prop:=∀(pins:List (Addr×Obj))(s:aaV)(σ:St)(H:Hp)(x y:V)(v u:Value)(Q:VK),Inv X pins σ H s->RelV x v->RelV y u->r x y H Q->wpAny (model X.prog X.w) X.A (f v u) (EP X pins σ Q) X.xe s
def J4(X:Cx)(f:Value->Sem Value)(r:V->Hp->VK->Prop):Prop:=∀(pins:List (Addr×Obj))(s:aaV)(σ:St)(H:Hp)(x:V)(v:Value)(Q:VK),Inv X pins σ H s->RelV x v->r x H Q->wpAny (model X.prog X.w) X.A (f v) (EP X pins σ Q) X.xe s
def eV(X:Cx)(f:Value)(r:List V->Hp->VK->Prop):Prop:=∀(pins:List (Addr×Obj))(s:aaV)(σ:St)(H:Hp)(xs:List V)(us:List Value)(Q:VK),Inv X pins σ H s->Vals xs us->r xs H Q->wpAny (model X.prog X.w) X.A (call f us) (EP X pins σ Q) X.xe s
def a93(X:Cx)(r:V->Hp->(Bool->Hp->Prop)->Prop):Prop:=∀(pins:List (Addr×Obj))(s:aaV)(σ:St)(H:Hp)(x:V)(v:Value)(Q:Bool->Hp->Prop),Inv X pins σ H s->RelV x v->r x H Q->wpAny (model X.prog X.w) X.A (truthy v) (TP X pins σ Q) X.xe s
def wu(r:R2)(ta tb:TE):TE:=fun σ H Q=>ta σ H fun x H1=>tb σ H1 fun y H2=>r x y H2 Q
def WU(r:V->Hp->VK->Prop)(ta:TE):TE:=fun σ H Q=>ta σ H fun x H1=>r x H1 Q
inductive V3(C:Int->Int->Prop)(g:Int->Int->V)(x:V)(y:V)(H:Hp)(Q:VK):Prop |mk (i:_)(j:_)(h0:x= .int i)(h1:y= .int j)(h2:C i j)(h3:Q (g i j) H):V3 C g x y H Q
def rI(C:Int->Int->Prop)(g:Int->Int->V):R2:=fun x y H Q=>V3 C g x y H Q
inductive V2(g:Int->Int->V)(x:V)(y:V)(H:Hp)(Q:VK):Prop |mk (i:_)(j:_)(h0:x= .int i)(h1:y= .int j)(h2:Q (g i j) H):V2 g x y H Q
def jN(g:Int->Int->V):R2:=fun x y H Q=>V2 g x y H Q
inductive UL(g:Int->V)(x:V)(H:Hp)(Q:VK):Prop |mk (i:_)(h0:x= .int i)(h1:Q (g i) H):UL g x H Q
def rU(g:Int->V):V->Hp->VK->Prop:=fun x H Q=>UL g x H Q
section
variable {X:Cx}{a b c:Expr}{ta tb tc:TE}{pos:Pos}
theorem IM(ha:PE X a ta)(hb:PE X b tb){pins:List (Addr×Obj)}{s:aaV}{σ:St}{H:Hp}{R:V->V->Hp->Prop}(I:Inv X pins σ H s) (h:ta σ H fun x H1=>tb σ H1 fun y H2=>R x y H2){Q:Value->aaV->Prop}{f:Value->Value->Sem Value} (hf:∀v u s2 x y H2,Inv X pins σ H2 s2->RelV x v->RelV y u->R x y H2->wpAny (model X.prog X.w) X.A (f v u) Q X.xe s2): wpAny (model X.prog X.w) X.A (eval a X.env) (fun v s₁=>wpAny (model X.prog X.w) X.A (eval b X.env) (fun u s₂=>wpAny (model X.prog X.w) X.A (f v u) Q X.xe s₂) X.xe s₁) X.xe s:=by refine aM (ha pins s σ H _ I h) fun v s1 ⟨x,H1,I1,r1,q1⟩=>?_;refine aM (hb pins s1 σ H1 _ I1 q1) fun u s2 ⟨y,H2,I2,r2,q2⟩=>?_;exact hf v u s2 x y H2 I2 r1 r2 q2
theorem az{op:Operator}{r:R2}(ho:cS X (binaryOp op) r)(ha:PE X a ta)(hb:PE X b tb):PE X (.BinOp a op b pos) (wu r ta tb):=by intro pins s σ H Q I h;exact wpAny_BinOp (IM ha hb I h fun v u s2 x y H2 I2 rx ry q=>ho pins s2 σ H2 x y v u Q I2 rx ry q)
theorem wW{op:UnaryOp}{r:V->Hp->VK->Prop}(ho:J4 X (unaryOp op) r)(ha:PE X a ta):PE X (.UnaryOp op a pos) (WU r ta):=by intro pins s σ H Q I h;exact UnaryOp_ (aM (ha pins s σ H _ I h) fun v s1 ⟨x,H1,I1,r1,q1⟩=>ho pins s1 σ H1 x v Q I1 r1 q1)
theorem xb{f:Value->Value->Sem Value}{C:Int->Int->Prop}{g:Int->Int->Int} (rule:∀(i j:Int)(t u:Tok)(s:aaV)(Q:Value->aaV->Prop)(E:Value->aaV->Prop),C i j->Q (.int (g i j) s.toks) {s with toks:=s.toks+1}->wpAny (model X.prog X.w) X.A (f (.int i t) (.int j u)) Q E s): cS X f (rI C fun i j=>.int (g i j)):=by intro pins s σ H x y v u Q I rx ry h;obtain⟨i,j,rfl,rfl,hc,q⟩:=h;obtain⟨t,rfl⟩:=rx;obtain⟨t',rfl⟩:=ry;exact rule i j t t' s _ _ hc ⟨.int (g i j),H,I.tok _,⟨_,rfl⟩,q⟩
theorem O2{f:Value->Value->Sem Value}{g:Int->Int->Int} (rule:∀(i j:Int)(t u:Tok)(s:aaV)(Q:Value->aaV->Prop)(E:Value->aaV->Prop),Q (.int (g i j) s.toks) {s with toks:=s.toks+1}->wpAny (model X.prog X.w) X.A (f (.int i t) (.int j u)) Q E s): cS X f (jN fun i j=>.int (g i j)):=by intro pins s σ H x y v u Q I rx ry h;obtain⟨i,j,rfl,rfl,q⟩:=h;obtain⟨t,rfl⟩:=rx;obtain⟨t',rfl⟩:=ry;exact rule i j t t' s _ _ ⟨.int (g i j),H,I.tok _,⟨_,rfl⟩,q⟩
theorem uB{f:Value->Value->Sem Value}{g:Int->Int->Bool} (rule:∀(i j:Int)(t u:Tok)(s:aaV)(Q:Value->aaV->Prop)(E:Value->aaV->Prop),Q (.bool (g i j)) s->wpAny (model X.prog X.w) X.A (f (.int i t) (.int j u)) Q E s): cS X f (jN fun i j=>.bl (g i j)):=by intro pins s σ H x y v u Q I rx ry h;obtain⟨i,j,rfl,rfl,q⟩:=h;obtain⟨t,rfl⟩:=rx;obtain⟨t',rfl⟩:=ry;exact rule i j t t' s _ _ ⟨.bl (g i j),H,I,rfl,q⟩
def a9h(i j:Int):Prop:=0<=j/\j<=1000000/\i.natAbs<2^64
theorem cE:cS X (binaryOp .Add) (jN fun i j=>.int (i+j)):=O2 fun _ _ _ _ _ _ _ q=>add_int q
theorem fQ:cS X (binaryOp .Sub) (jN fun i j=>.int (i-j)):=O2 fun _ _ _ _ _ _ _ q=>sub_int q
theorem ph:cS X (binaryOp .Mod) (rI (fun _ j=>0<j) fun i j=>.int (i%j)):=xb fun i j _ _ _ _ _ hc q=>by have h1:(0:Int)<j:=hc;exact mod_int' (by lia) (by rw[Int.fmod_eq_emod_of_nonneg i (by lia)];exact q)
theorem uz:cS X (binaryOp .Pow) (rI a9h fun i j=>.int (i^j.toNat)):=xb fun _ _ _ _ _ _ _ hc q=>pow_int_small hc.1 hc.2.1 hc.2.2 q
theorem Ww{f:Value->Sem Value}{g:Int->Int} (rule:∀(i:Int)(t:Tok)(s:aaV)(Q:Value->aaV->Prop)(E:Value->aaV->Prop),Q (.int (g i) s.toks) {s with toks:=s.toks+1}->wpAny (model X.prog X.w) X.A (f (.int i t)) Q E s): J4 X f (rU fun i=>.int (g i)):=by intro pins s σ H x v Q I rx h;obtain⟨i,rfl,q⟩:=h;obtain⟨t,rfl⟩:=rx;exact rule i t s _ _ ⟨.int (g i),H,I.tok _,⟨_,rfl⟩,q⟩
theorem wj:J4 X (unaryOp .USub) (rU fun i=>.int (-i)):=Ww fun _ _ _ _ _ q=>neg_int q
end
section
variable {X:Cx}{a b c:Expr}{ta tb tc:TE}{pos:Pos}
theorem HH{pins:List (Addr×Obj)}{σ:St}{H:Hp}{s:aaV}{Q:VK}{k k':Bool}(I:Inv X pins σ H s)(q:Q (.bl k) H)(e:k=k'):EP X pins σ Q (.bool k') s:=by subst e;exact⟨.bl k,H,I,rfl,q⟩
theorem jv:cS X (compareOp .Lt) (jN fun i j=>.bl (decide (i<j))):=uB fun _ _ _ _ _ _ _ q=>lt_int q
theorem uA:cS X (compareOp .LtE) (jN fun i j=>.bl (decide (i<=j))):=uB fun _ _ _ _ _ _ _ q=>le_int q
theorem qX:cS X (compareOp .Gt) (jN fun i j=>.bl (decide (j<i))):=uB fun _ _ _ _ _ _ _ q=>gt_int q
theorem FD:cS X (compareOp .GtE) (jN fun i j=>.bl (decide (j<=i))):=uB fun _ _ _ _ _ _ _ q=>ge_int q
theorem a0u:cS X (compareOp .In) (fun x y H Q=>∃i j,x= .str i/\y= .str j/\Q (.bl (!(Builtin.Str.occurrences j i 0 j.length 1).isEmpty)) H):=by intro pins s σ H x y v u Q I rx ry h;obtain⟨i,j,rfl,rfl,q⟩:=h;obtain⟨t,rfl⟩:=rx;obtain⟨t',rfl⟩:=ry;exact in_str (HH I q rfl)
theorem O0:cS X (compareOp .Is) (fun x y H Q=>y= .aY/\Q (.bl (decide (x= .aY))) H):=by intro pins s σ H x y v u Q I rx ry h;obtain⟨rfl,q⟩:=h;cases ry;refine is_none_gen (HH I q ?_);cases x<;>first |(cases rx;rfl) |(obtain⟨t,rfl⟩:=rx;rfl)
theorem wZ:cS X (compareOp .IsNot) (fun x y H Q=>y= .aY/\Q (.bl (!decide (x= .aY))) H):=by intro pins s σ H x y v u Q I rx ry h;obtain⟨rfl,q⟩:=h;cases ry;refine isnot_none_gen (HH I q ?_);cases x<;>first |(cases rx;rfl) |(obtain⟨t,rfl⟩:=rx;rfl)
theorem cS.or{f:Value->Value->Sem Value}{r r':R2}(h:cS X f r)(h':cS X f r'):cS X f (fun x y H Q=>r x y H Q\/r' x y H Q):=by
 intro pins s σ H x y v u Q I rx ry q;rcases q with q|q
 ·exact h pins s σ H x y v u Q I rx ry q
 ·exact h' pins s σ H x y v u Q I rx ry q
theorem ba(b:Expr){op:CmpOp}(h:op≠ .In:=by decide)(h2:op≠ .NotIn:=by decide):behindInMarks op b=false:=by
 have e1:(op==CmpOp.In)=false:=by cases op<;>first|rfl|exact absurd rfl h
 have e2:(op==CmpOp.NotIn)=false:=by cases op<;>first|rfl|exact absurd rfl h2
 cases b<;>simp[behindInMarks,e1,e2]
theorem eQ{op:CmpOp}{r:R2}(ho:cS X (compareOp op) r)(ha:PE X a ta)(hb:PE X b tb)(hm:behindInMarks op b=false):PE X (.Compare a [op] [b] pos) (wu r ta tb):=by intro pins s σ H Q I h;exact wpAny_Compare1 (IM ha hb I h fun v u s2 x y H2 I2 rx ry q=>ho pins s2 σ H2 x y v u Q I2 rx ry q) hm
inductive T9(Q:Bool->Hp->Prop)(x:V)(H':Hp):Prop |mk (k:_)(h0:x= .bl k)(h1:Q k H'):T9 Q x H'
def Kh(t:TE):TT:=fun σ H Q=>t σ H fun x H'=>T9 Q x H'
theorem bL{op:CmpOp}{r:R2}(ho:cS X (compareOp op) r)(ha:PE X a ta)(hb:PE X b tb)(hm:behindInMarks op b=false):PT X (.Compare a [op] [b] pos) (Kh (wu r ta tb)):=by intro pins s σ H Q I h;refine wpAny_isTrue_Compare1 (aM (ha pins s σ H _ I h) fun v s1 ⟨x,H1,I1,r1,q1⟩=>aM (hb pins s1 σ H1 _ I1 q1) fun u s2 ⟨y,H2,I2,r2,q2⟩=>aM (ho pins s2 σ H2 x y v u _ I2 r1 r2 q2) fun c s3 ⟨z,H3,I3,r3,k,e,q3⟩=>?_) hm;subst e;cases r3;exact oK ⟨H3,I3,q3⟩
inductive Tg(r':R2)(tc:TE)(σ:St)(Q:VK)(y:V)(z:V)(H3:Hp):Prop |mk (k:_)(h0:z= .bl k)(h1:(if k=true then tc σ H3 fun w' H4=>r' y w' H4 Q else Q (.bl false) H3)):Tg r' tc σ Q y z H3
def Kn(r r':R2)(ta tb tc:TE):TE:=fun σ H Q=>ta σ H fun x H1=>tb σ H1 fun y H2=>r x y H2 fun z H3=>Tg r' tc σ Q y z H3
theorem NL{op qZ:CmpOp}{r r':R2}(ho:cS X (compareOp op) r)(lH:cS X (compareOp qZ) r')(ha:PE X a ta)(hb:PE X b tb)(hc:PE X c tc) (hm:lastMarks [op,qZ] [b,c]=false:=by with_unfolding_all rfl):PE X (.Compare a [op,qZ] [b,c] pos) (Kn r r' ta tb tc):=by intro pins s σ H Q I h;refine Compare_chain (aM (ha pins s σ H _ I h) fun v s1 ⟨x,H1,I1,r1,q1⟩=>chain_link (aM (hb pins s1 σ H1 _ I1 q1) fun u s2 ⟨y,H2,I2,r2,q2⟩=>aM (ho pins s2 σ H2 x y v u _ I2 r1 r2 q2) fun d s3 ⟨z,H3,I3,r3,k,e,q3⟩=>?_)) hm;subst e;cases r3;refine oK ?_;cases k with |false=>exact ite_ff ⟨.bl false,H3,I3,rfl,q3⟩ |true=>exact ite_tt (chain_last (aM (hc pins s3 σ H3 _ I3 q3) fun w' s4 ⟨z',H4,I4,r4,q4⟩=>lH pins s4 σ H4 y z' u w' Q I4 r2 r4 q4))
theorem ZG{op qZ:CmpOp}{r r':R2}(ho:cS X (compareOp op) r)(lH:cS X (compareOp qZ) r')(ha:PE X a ta)(hb:PE X b tb)(hc:PE X c tc) (hm:lastMarks [op,qZ] [b,c]=false:=by with_unfolding_all rfl):PT X (.Compare a [op,qZ] [b,c] pos) (Kh (Kn r r' ta tb tc)):=by intro pins s σ H Q I h;refine isTrue_chain (aM (ha pins s σ H _ I h) fun v s1 ⟨x,H1,I1,r1,q1⟩=>test_link (aM (hb pins s1 σ H1 _ I1 q1) fun u s2 ⟨y,H2,I2,r2,q2⟩=>aM (ho pins s2 σ H2 x y v u _ I2 r1 r2 q2) fun d s3 ⟨z,H3,I3,r3,k,e,q3⟩=>?_)) hm;subst e;cases r3;refine oK ?_;cases k with |false=>obtain⟨k',e',q'⟩:=q3;cases e';exact ite_ff ⟨H3,I3,q'⟩ |true=>refine ite_tt (test_last (aM (hc pins s3 σ H3 _ I3 q3) fun w' s4 ⟨z',H4,I4,r4,q4⟩=>aM (lH pins s4 σ H4 y z' u w' _ I4 r2 r4 q4) fun d' s5 ⟨z2,H5,I5,r5,k2,e2,q5⟩=>?_));subst e2;cases r5;exact oK ⟨H5,I5,q5⟩
def J5(K:aaU)(x:V)(H:Hp)(k:Bool):Prop:=match x with | .aY=>k=false | .bl b=>k=b | .int i=>k=(i !=0) | .str y=>y.length<=sizeLine/\k=((y.length:Int) !=0) | .vz y=>y.size<=sizeLine/\k=((y.size:Int) !=0) | .ref p=>(∃xs,au K H p xs/\k= !xs.isEmpty)\/(∃xs,aI K H p xs/\k= !xs.isEmpty)\/∃aG,H p=some (.dK aG)/\k= !aG.isEmpty |_=>False
theorem a3N{κ:Type}{aG:List (κ×V)}{vs:List (κ×Value)}(r:KV aG vs):(!vs.isEmpty)= !aG.isEmpty:=by cases r<;>rfl
theorem Pf{xs:List V}{its:List Value}(r:Vals xs its):(!its.toArray.isEmpty)= !xs.isEmpty:=by cases r<;>simp
theorem rK:(sizeLine:Nat)<2^63:=by rw[sizeLine_eq];decide
theorem WM:a93 X (fun x H Q=>∃k,J5 X.K x H k/\Q k H):=by intro pins s σ H x v Q I rx h;obtain⟨k,e,q⟩:=h;have hl:=rK;have hs:sizeLine=16777216:=sizeLine_eq;cases x with |aY=>cases rx;have e':k=false:=e;subst e';exact truthy_none ⟨H,I,q⟩ |bl b=>cases rx;have e':k=b:=e;subst e';exact oK ⟨H,I,q⟩ |int i=>obtain⟨t,rfl⟩:=rx;have e':k=(i !=0):=e;subst e';exact PySem.P.truthy_int ⟨H,I,q⟩ |str y=>obtain⟨t,rfl⟩:=rx;obtain⟨hy,e'⟩:y.length<=sizeLine/\k=((y.length:Int) !=0):=e;subst e';exact PySem.P.truthy_str (by lia) ⟨H,I.tok _,q⟩ |vz y=>obtain⟨t,rfl⟩:=rx;obtain⟨hy,e'⟩:y.size<=sizeLine/\k=((y.size:Int) !=0):=e;subst e';exact PySem.W.truthy_bytes (by lia) ⟨H,I.tok _,q⟩ |ref p=>
   cases rx;have e':(∃xs,au X.K H p xs/\k= !xs.isEmpty)\/(∃xs,aI X.K H p xs/\k= !xs.isEmpty)\/∃aG,H p=some (.dK aG)/\k= !aG.isEmpty:=e;rcases e' with⟨xs,hx,e'⟩|⟨xs,hx,e'⟩|⟨aG,hx,e'⟩
   · subst e'
     obtain⟨its,r,pl,hz⟩:=I.list hx;have hlen:=r.length;exact wpAny_truthy_list pl.isList (by simp only[dN];lia) ⟨H,I.tok _,by rw[Pf r];exact q⟩
   · subst e'
     obtain⟨its,r,pl,hz⟩:=I.tuple hx;have hlen:=r.length;exact truthy_tuple pl (by simp only[dN];lia) ⟨H,I.tok _,by rw[Pf r];exact q⟩
   · subst e'
     obtain⟨hz,hS,vs,r,m⟩:aG.length<=sizeLine/\(p==sysModules)=false/\∃vs,KV aG vs/\s.heap.DictOf (ja X.prog X.w) p vs:=I.hok p _ hx;have hlen:aG.length=vs.length:=Paired.length r;exact wpAny_truthy_dict hS m (by lia) ⟨H,I.tok _,by rw[a3N r];exact q⟩ |_=>exact(show False from e).elim
theorem ZF(ha:PE X a ta)(he:∀whole,isTrue a X.env whole=(do let v<-whole;standAt a.pos;holding [v] (truthy v))): PT X a (fun σ H Q=>ta σ H fun x H'=>∃k,J5 X.K x H' k/\Q k H'):=by intro pins s σ H Q I h;exact isTrue_plain (aM (ha pins s σ H _ I h) fun v s1 ⟨x,H1,I1,r1,q1⟩=>WM pins s1 σ H1 x v Q I1 r1 q1) (he _)
theorem a0z:cS X (binaryOp .Add) (fun x y H Q=>∃i j,x= .str i/\y= .str j/\i.length+j.length<=sizeLine/\Q (.str (i++j)) H):=by intro pins s σ H x y v u Q I rx ry h;obtain⟨i,j,rfl,rfl,hz,q⟩:=h;obtain⟨t,rfl⟩:=rx;obtain⟨t',rfl⟩:=ry;exact add_str (fun t' tk=>⟨.str (i++j),H,I.tok _,⟨_,rfl⟩,q⟩) hz
theorem vals1{x:V}{us:List Value}(r:Vals [x] us):∃u,us=[u]/\RelV x u:=by cases r with |cons r1 r2=>cases r2;exact⟨_,rfl,r1⟩
theorem vals2{x y:V}{us:List Value}(r:Vals [x,y] us):∃u w',us=[u,w']/\RelV x u/\RelV y w':=by cases r with |cons r1 r2=>cases r2 with |cons r3 r4=>cases r4;exact⟨_,_,rfl,r1,r3⟩
theorem mK:eV X (.builtin "abs") (fun xs H Q=>∃i,xs=[.int i]/\Q (.int (if i<0 then-i else i)) H):=by intro pins s σ H xs us Q I r h;obtain⟨i,rfl,q⟩:=h;obtain⟨u,rfl,t,rfl⟩:=vals1 r;exact call_abs_int fun u tk=>⟨.int (if i<0 then-i else i),H,I.tok _,⟨_,rfl⟩,q⟩
theorem S9(hc:X.calm=true):eV X (.builtin "max") (fun xs H Q=>∃i j,xs=[.int i,.int j]/\Q (.int (if j>i then j else i)) H):=by
 intro pins s σ H xs us Q I r h;obtain⟨i,j,rfl,q⟩:=h;obtain⟨u,w',rfl,⟨t,rfl⟩,⟨t',rfl⟩⟩:=vals2 r;refine max_two_ints (I.ok.hd hc) fun h' tk k=>⟨_,H,I.kept k,?_,q⟩;by_cases hj:j>i
 ·rw[aO hj,aO hj];exact⟨_,rfl⟩
 ·rw[aP hj,aP hj];exact⟨_,rfl⟩
theorem II(hc:X.calm=true):eV X (.builtin "min") (fun xs H Q=>∃i j,xs=[.int i,.int j]/\Q (.int (if j<i then j else i)) H):=by
 intro pins s σ H xs us Q I r h;obtain⟨i,j,rfl,q⟩:=h;obtain⟨u,w',rfl,⟨t,rfl⟩,⟨t',rfl⟩⟩:=vals2 r;refine min_two_ints (I.ok.hd hc) fun h' tk k=>⟨_,H,I.kept k,?_,q⟩;by_cases hj:j<i
 ·rw[aO hj,aO hj];exact⟨_,rfl⟩
 ·rw[aP hj,aP hj];exact⟨_,rfl⟩
theorem Sa:eV X (.type "int") (fun xs H Q=>(∃i,xs=[.int i]/\Q (.int i) H)\/∃k,xs=[.bl k]/\Q (.int (if k then 1 else 0)) H):=by
 intro pins s σ H xs us Q I r h;rcases h with⟨i,rfl,q⟩|⟨k,rfl,q⟩
 · obtain⟨u,rfl,t,rfl⟩:=vals1 r
   exact call_int_int ⟨.int i,H,I,⟨_,rfl⟩,q⟩
 · obtain⟨u,rfl,r1⟩:=vals1 r
   cases r1;exact call_int_bool ⟨.int (if k then 1 else 0),H,I.tok _,⟨_,rfl⟩,q⟩
end
end L2
namespace L2
open PySem PySem.Spec PyProof.Rows
structure tE(h:Heap)(x dx C:Addr)(mA:Str->Option Value):Prop where
 obj:h.get? x=some (PySem.W.instObj C dx)
 ns:h.Ns1 dx mA
 ne:dx≠x
theorem a39{h:Heap}{dx:Addr}{mA:Str->Option Value}(n:h.Ns1 dx mA):∃od,h.get? dx=some od/\∀name,PySem.W.lookIn name od=some (mA name):=by
 obtain⟨o,es,ep,ho,hd,hk,_,hm⟩:=n;refine⟨o,ho,fun name=>?_⟩;have e:=hm name;unfold nsFind findBy at e;rw[<-Array.find?_toList]at e;unfold PySem.W.lookIn;rw[hd];dsimp only;split
 · rename_i y q
   rw[q]at e;exact congrArg some e
 · rename_i q
   rw[q]at e;have a:es.toList.any (·.refKey)=false:=by rw[List.any_eq_false];intro y hy;obtain⟨z,t,a4V⟩:=hk y (Array.mem_toList_iff.mp hy);simp[DictEntry.refKey,a4V]
   have a':¬es.toList.any (·.refKey)=true:=by rw[a];exact jK
   rw[aP a'];exact congrArg some e
theorem tE.look{h:Heap}{x dx C:Addr}{mA:Str->Option Value}(I:tE h x dx C mA):∃od,PySem.W.InstAt h x (PySem.W.instObj C dx) C (some od)/\∀name,PySem.W.lookIn name od=some (mA name):=let⟨od,ho,hl⟩:=a39 I.ns
 ⟨od,⟨I.obj,rfl,rfl,ho⟩,hl⟩
section
variable {prog:aaW}{w:World}{A:aaY}{E:Value->aaV->Prop}{s:aaV}{K:aaU}{x dx C f:Addr}{mA:Str->Option Value}{name:Str}{v:Value}
theorem get_map{expr:Bool}{Q:Value->aaV->Prop}(X:K.In s.heap)(I:tE s.heap x dx C mA)(hg:PySem.W.plainGet K C name=true)(hh:PySem.W.hasDictIn K C=true) (ha:PySem.W.findIn K (.ref C) name=some none)(hv:mA name=some v)(hv':PySem.W.handedIn v=true)(h:Q v {s with toks:=s.toks+1}): wpAny (model prog w) A (getAttr (.ref x) name expr) Q E s:=by obtain⟨od,J,hl⟩:=I.look;exact PySem.W.get_value X J (VB hg).1 (PySem.W.findObj_own hh ha rfl (by rw[hl,hv])) hv' h
theorem a6z{pl:Sem Bool}{Q:Value×List Value->aaV->Prop}(X:K.In s.heap)(I:tE s.heap x dx C mA)(hg:PySem.W.plainGet K C name=true) (hf:PySem.W.findIn K (.ref C) name=some (some (.ref f)))(ht:PySem.W.isFn K (.ref f)=true)(hv:mA name=none)(h:Q (.ref f,[.ref x]) s): wpAny (model prog w) A (getMethod (.ref x) name pl) Q E s:=by obtain⟨od,J,hl⟩:=I.look;exact PySem.W.method_fn X J (VB hg).1 (VB hg).2 hf (fC.mp ht) (by show(PySem.W.lookIn name od).map (·.isSome)=some false;rw[hl,hv];rfl) h
theorem Y1{ns:List Str}{Q:Unit->aaV->Prop}(X:K.In s.heap)(I:tE s.heap x dx C mA) (hs:PySem.W.findIn K (.ref C) "__setattr__"=some (some (.builtin "object.__setattr__")))(hp:PySem.W.plainOver K C=true)(ht:PySem.W.takerIn K C name=some none)(hh:PySem.W.hasDictIn K C=true) (hw:PySem.Within mA ns)(hsz:ns.length<=sizeLine) (h:∀h',tE h' x dx C (fun y=>if y=name then some v else mA y)->Heap.SameBut dx s.heap h'->Q () {s with heap:=h',toks:=s.toks+2}): wpAny (model prog w) A (setAttr (.ref x) name v) Q E s:=by obtain⟨od,J,hl⟩:=I.look;refine PySem.W.set_plain X J hs (PySem.W.osa_open (s:={s with toks:=s.toks+1}) (r:=none) X J hp ht fun b=>?_);obtain⟨cd,hc,vg⟩:=PySem.W.any_some hh;have hx:s.heap.get? x=some ⟨.ref C,some dx,.plain,#[]⟩:=I.obj;refine aH (bR (aH (aH (wpAny_loadPart hx (aH (PySem.W.Looks.here (s:={s with toks:=s.toks+1}) (PySem.W.looks_clsIn X hc) ?_))))));rw[vg];refine bR (a:=some dx) (aH (bR (aH ?_)));refine wpAny_nsSet1 (s:={s with toks:=s.toks+1}) I.ns fun h' AJ iU=>?_;obtain⟨oD,esD,epD,hoD,hdD,hcD⟩:=AJ.count (PySem.Within.cons name v hw);refine aH (wpAny_lookBehind hoD (by rw[hdD];exact pastItsLine_dict (gR hcD (by rw[jI];lia))) ?_);exact bR (h _ ⟨(iU.2 _ (ek I.ne)).trans I.obj,AJ,I.ne⟩ iU)
theorem a2U{R:Result->aaV->Prop}{vs:List Value}{kw:List (Str×Value)}(X:K.In s.heap)(hm:PySem.W.makesIn K C=true) (hi:PySem.W.findIn K (.ref C) "__init__"=some (some (.ref f)))(hf:PySem.W.typeIn K (.ref f)=some (.type "function")) (h:codeAny (model prog w) (A.under (.builtin "type.__call__" ⟨.ref C::vs,kw⟩)) (.call (.ref f) ⟨.ref (s.heap.objs.size+1)::vs,kw⟩) (PySem.W.InitBack (s.heap.objs.size+1) R) {s with heap:=(s.heap.push PySem.W.emptyDict).push (PySem.W.instObj C s.heap.objs.size)}): codeAny (model prog w) A (.call (.ref C) ⟨vs,kw⟩) R s:=by obtain⟨hh,g,d,t,os⟩:=s;exact PySem.W.make_core (PySem.W.makes_of X hm) (PySem.W.looks_findIn X hi) (fun self=>PySem.W.bind_fn X self hf) (.inl rfl) h
end
def iP(f:Str)(v:V):List (Str×V)->List (Str×V) |[]=>[(f,v)] |(g,x)::r=>if g=f then(g,v)::r else(g,x)::iP f v r
theorem OM(f g:Str)(v:V):∀fs:List (Str×V),(iP f v fs).lookup g=if g=f then some v else fs.lookup g
  |[]=>by
    show List.lookup g [(f,v)]=_;by_cases h:g=f
    · have hb:(g==f)=true:=fC.mpr h
      simp only[List.lookup,hb,aO h]
    · have hb:(g==f)=false:=BU.mpr h
      simp only[List.lookup,hb,aP h] |(k,x)::r=>by
    have ih:=OM f g v r;rw[show iP f v ((k,x)::r)=(if k=f then(k,v)::r else(k,x)::iP f v r)from rfl];by_cases hk:k=f
    · rw[aO hk]
      by_cases h:g=k
      · have hb:(g==k)=true:=fC.mpr h
        simp only[List.lookup,hb,aO (h.trans hk)]
      · have hb:(g==k)=false:=BU.mpr h
        simp only[List.lookup,hb,aP (fun e:g=f=>h (e.trans hk.symm))]
    · rw[aP hk]
      by_cases h:g=k
      · have hb:(g==k)=true:=fC.mpr h
        simp only[List.lookup,hb,aP (fun e:g=f=>hk (h.symm.trans e))]
      · have hb:(g==k)=false:=BU.mpr h
        simp only[List.lookup,hb];exact ih
theorem Gg(f:Str)(v:V):∀fs:List (Str×V),f∈(iP f v fs).map (·.1)/\∀g,g∈fs.map (·.1)->g∈(iP f v fs).map (·.1)
  |[]=>⟨by simp[iP],fun g h=>by simp at h⟩ |(k,x)::r=>by
    obtain⟨i1,i2⟩:=Gg f v r;rw[show iP f v ((k,x)::r)=(if k=f then(k,v)::r else(k,x)::iP f v r)from rfl];by_cases hk:k=f
    · rw[aO hk]
      subst hk;exact⟨by simp,fun g h=>by simpa using h⟩
    · rw[aP hk]
      refine⟨?_,fun g h=>?_⟩
      · rw[mY]
        exact tQ _ i1
      · rw[mY]at h⊢
        rcases bB.mp h with e|e
        ·exact bB.mpr (.inl e)
        ·exact tQ _ (i2 g e)
theorem OT(f:Str)(v:V):∀fs:List (Str×V),(iP f v fs).length<=fs.length+1
  |[]=>by simp[iP] |(k,x)::r=>by
    have ih:=OT f v r;rw[show iP f v ((k,x)::r)=(if k=f then(k,v)::r else(k,x)::iP f v r)from rfl];by_cases hk:k=f
    ·rw[aO hk,jI,jI];lia
    ·rw[aP hk,jI,jI];lia
theorem jh.some_of{v:V}{o:Option Value}(r:jh (some v) o):∃u,o=some u/\RelV v u:=by cases o with |none=>exact(show False from r).elim |some u=>exact⟨u,rfl,r⟩
theorem jh.none_of{o:Option Value}(r:jh none o):o=none:=by cases o with |none=>rfl |some u=>exact(show False from r).elim
theorem a5z{v:V}{u:Value}(r:RelV v u):PySem.W.handedIn u=true:=by cases v with |aY=>cases(show u=Value.none from r);rfl |bl b=>cases(show u=Value.bool b from r);rfl |int i=>obtain⟨t,e⟩:=(show∃t,u=Value.int i t from r);cases e;rfl |str x=>obtain⟨t,e⟩:=(show∃t,u=Value.str x t from r);cases e;rfl |vz b=>obtain⟨t,e⟩:=(show∃t,u=Value.bytes b t from r);cases e;rfl |Ba b=>obtain⟨t,e⟩:=(show∃t,u=Value.float b t from r);cases e;rfl |ref a=>cases(show u=Value.ref a from r);rfl |ty n=>cases(show u=Value.type n from r);rfl
section
variable {P:aaW}{w:World}{H H':Hp}{h h':Heap}{a C dx:Addr}{fs fs':List (Str×V)}
theorem Gn(hok:dc P w H h)(e:H a=some (.ins C dx fs)):∃mA,tE h a dx C mA/\(∀f,jh (fs.lookup f) (mA f))/\PySem.Within mA (fs.map (·.1))/\fs.length<=1000/\H dx=some (.own a):=by obtain⟨d,z,ne,ob,mA,n,r,q⟩:=(show fk P w H h a (.ins C dx fs)from hok a _ e);exact⟨mA,⟨ob,n,ne⟩,r,q,z,d⟩
end
structure jF(K:aaU)(C:Addr):Prop where
 pg:PySem.W.plainGet K C Str.empty=true
 hd:PySem.W.hasDictIn K C=true
 po:PySem.W.plainOver K C=true
 sa:PySem.W.findIn K (.ref C) "__setattr__"=some (some (.builtin "object.__setattr__"))
theorem jF.get{K:aaU}{C:Addr}(c:jF K C)(f:Str):PySem.W.plainGet K C f=true:=c.pg
def iW(K:aaU)(C:Addr)(f:Str):Prop:=PySem.W.findIn K (.ref C) f=some none
theorem iW.WT{K:aaU}{C:Addr}{f:Str}(n:iW K C f):PySem.W.takerIn K C f=some none:=by unfold PySem.W.takerIn;rw[show PySem.W.findIn K (.ref C) f=some none from n];rfl
structure Meth(K:aaU)(C:Addr)(m:Str)(f:Addr):Prop where
 at_:PySem.W.findIn K (.ref C) m=some (some (.ref f))
 fn:PySem.W.isFn K (.ref f)=true
 kp:PySem.W.keepIn K (.ref f)=true
section
variable {X:Cx}{pins:List (Addr×Obj)}{σ:St}{H:Hp}{s:aaV}{a C dx:Addr}{fs:List (Str×V)}{f:Str}{v:V}{A:aaY}{E:Value->aaV->Prop}
theorem Qq{b:Bool}{Q:Value->aaV->Prop}(I:Inv X pins σ H s)(e:H a=some (.ins C dx fs))(c:jF X.K C)(n:iW X.K C f)(l:fs.lookup f=some v) (h:∀u s',Inv X pins σ H s'->RelV v u->Q u s'):wpAny (model X.prog X.w) A (getAttr (.ref a) f b) Q E s:=by obtain⟨mA,O,r,_,_,_⟩:=Gn I.hok e;obtain⟨u,hu,ru⟩:=jh.some_of (v:=v) (o:=mA f) (by rw[<-l];exact r f);exact get_map I.gb O (c.get f) c.hd n hu (a5z ru) (h u _ (I.tok _) ru)
theorem Qp{m:Str}{g:Addr}{pl:Sem Bool}{Q:Value×List Value->aaV->Prop}(I:Inv X pins σ H s)(e:H a=some (.ins C dx fs))(c:jF X.K C)(k:Meth X.K C m g)(l:fs.lookup m=none) (h:Q (.ref g,[.ref a]) s):wpAny (model X.prog X.w) A (getMethod (.ref a) m pl) Q E s:=by obtain⟨mA,O,r,_,_,_⟩:=Gn I.hok e;have hn:mA m=none:=jh.none_of (by rw[<-l];exact r m);exact a6z I.gb O (c.get m) k.at_ k.fn hn h
theorem LC{y:V}{u:Value}{Q:Unit->aaV->Prop}(I:Inv X pins σ H s)(e:H a=some (.ins C dx fs))(c:jF X.K C)(n:iW X.K C f)(hl:fs.length<1000)(ry:RelV y u) (h:∀s',Inv X pins σ (upd H a (.ins C dx (iP f y fs))) s'->Q () s'):wpAny (model X.prog X.w) A (setAttr (.ref a) f u) Q E s:=by
  obtain⟨mA,O,r,wi,_,ho⟩:=Gn I.hok e;have hz:(fs.map (·.1)).length<=sizeLine:=by rw[bT,sizeLine_eq];lia
  refine Y1 I.gb O c.sa c.po n.WT c.hd wi hz fun h' O' sb=>h _ ?_;have hd:∃o,h'.get? dx=some o:=let⟨o,_,_,e',_⟩:=O'.ns;⟨o,e'⟩;refine I.write (x:=a) (e:=dx) (by rw[e];exact True.intro) (.inr ho) (fun b q hb z=>(sb.2 b hb).trans z) hd ?_;refine⟨by rw[aB O.ne];exact ho,?_,O.ne,O'.obj,_,O'.ns,fun g=>?_,fun g hg=>?_⟩
  ·have:=OT f y fs;lia
  · show jh ((iP f y fs).lookup g) (if g=f then some u else mA g)
    rw[OM];by_cases q:g=f
    ·rw[aO q,aO q];exact ry
    ·rw[aP q,aP q];exact r g
  · by_cases q:g=f
    ·rw[q];exact(Gg f y fs).1
    · refine(Gg f y fs).2 g (wi g fun z=>hg ?_)
      show(if g=f then some u else mA g)=none;rw[aP q];exact z
theorem Inv.made(I:Inv X pins σ H s):Inv X pins σ (upd (upd H s.heap.objs.size (.own (s.heap.objs.size+1))) (s.heap.objs.size+1) (.ins C s.heap.objs.size [])) {s with heap:=(s.heap.push PySem.W.emptyDict).push (PySem.W.instObj C s.heap.objs.size)}:=by
  have e1:(s.heap.push PySem.W.emptyDict).get? s.heap.objs.size=some PySem.W.emptyDict:=dP s.heap rfl;have e2:((s.heap.push PySem.W.emptyDict).push (PySem.W.instObj C s.heap.objs.size)).get? (s.heap.objs.size+1)=some (PySem.W.instObj C s.heap.objs.size):=by have:=dP (s.heap.push PySem.W.emptyDict) (o:=PySem.W.instObj C s.heap.objs.size) rfl;rwa [qA]at this
  have e3:(s.heap.push PySem.W.emptyDict).Ns s.heap.objs.size (fun _=>none):=⟨PySem.W.emptyDict,#[],_,e1,rfl,(fun e he=>absurd he (by simp)),fun _=>rfl⟩;have I1:=I.laid (a:=s.heap.objs.size) (o:=.own (s.heap.objs.size+1)) (h':=s.heap.push PySem.W.emptyDict) (t':=s.toks) (fun b u q=>bW _ q) (bo _) ⟨_,e1⟩;refine I1.laid (a:=s.heap.objs.size+1) (o:=.ins C s.heap.objs.size []) (t':=s.toks) (fun b u q=>bW _ q) (Nat.le_of_eq (qA _ _)) ?_;have ne:s.heap.objs.size≠s.heap.objs.size+1:=fe (VJ _);refine⟨by rw[aB ne,aQ],fX _,ne,e2,fun _=>none,(Heap.Ns1.of_empty e3).at fun o q=>bW _ q,fun _=>True.intro,fun y hy=>absurd rfl hy⟩
theorem a8F{prog:aaW}{w:World}{env:Env}{e:Expr}{f:Str}{pos:Pos}{s:aaV}{Q:Value->aaV->Prop}(hb:attributeBase e f env (eval e env)=eval e env) (h:wpAny (model prog w) A (eval e env) (fun o s₁=>wpAny (model prog w) A (getAttr o f true) Q E s₁) E s):wpAny (model prog w) A (eval (.Attribute e f pos) env) Q E s:=Attribute_any_ h (by rw[arm_eval_Attribute,hb])
end
def a9e(X:Cx)(op:Operator)(rd:V->V->Hp->VK->Prop):Prop:=∀(pins:List (Addr×Obj))(s:aaV)(σ:St)(H:Hp)(x y:V)(u v:Value)(Q:VK),Inv X pins σ H s->RelV x u->RelV y v->rd x y H Q->wpAny (model X.prog X.w) X.A (inplaceOp op u v) (EP X pins σ Q) X.xe s
section
variable {X:Cx}{o e value:Expr}{f:Str}{pos pos' ny:Pos}{ta tv:TE}
end
section
variable {X:Cx}{pins:List (Addr×Obj)}{σ:St}{H:Hp}{s:aaV}{A:aaY}{E:Value->aaV->Prop}{Q:Value->aaV->Prop}{c:Value}{b:Bool}
end
end L2
namespace L2
open PySem PySem.Spec PyProof.Rows
structure cu(k:Nat)(A:aaY):Prop where
 hd:A.handled=none
 dp:A.depth+3*k+5<recursionLimit
 un:A.units+16*k+200<cLine
theorem cu.mono{j k:Nat}{A:aaY}(r:cu k A)(h:j<=k):cu j A:=⟨r.hd,by have:=r.dp;lia,by have:=r.un;lia⟩
theorem cu.deeper{k:Nat}{A:aaY}(r:cu (k+1) A)(env:Env):cu k (A.deeper env):=⟨r.hd,by have:=r.dp;show A.depth+1+3*k+5<_;lia,by have:=r.un;show A.units+3+16*k+200<_;lia⟩
theorem a2V{A:aaY}{C:Addr}{us:List Value}{kw:List (Str×Value)}:(A.under (.builtin "type.__call__" ⟨.ref C::us,kw⟩)).depth=A.depth+1:=by first|rfl|simp[Around.under,Code.weight,Code.isCreation,Code.isGuard,Code.isCaller,Code.frames,Code.isFrame,guardIds]
theorem a2T{A:aaY}{C:Addr}{us:List Value}{kw:List (Str×Value)}:(A.under (.builtin "type.__call__" ⟨.ref C::us,kw⟩)).units=A.units+1:=by first|rfl|simp[Around.under,Code.cUnits,Code.frames,Code.isFrame]
theorem cu.make{k:Nat}{A:aaY}(r:cu (k+1) A)(C:Addr)(us:List Value)(kw:List (Str×Value)):cu k (A.under (.builtin "type.__call__" ⟨.ref C::us,kw⟩)):=⟨r.hd,by have:=r.dp;rw[a2V];omega,by have:=r.un;rw[a2T];omega⟩
theorem cu.depth{k:Nat}{A:aaY}(r:cu k A):A.depth<recursionLimit:=by have:=r.dp;lia
theorem cu.units{k:Nat}{A:aaY}(r:cu k A):A.units+64<cLine:=by have:=r.un;lia
def lY:TA:=fun _ H Q=>Q [] H
def CD(ta:TE)(tr:TA):TA:=fun σ H Q=>ta σ H fun x H1=>tr σ H1 fun xs H2=>Q (x::xs) H2
section
variable {X:Cx}{e:Expr}{es:List Expr}{te:TE}{t:TA}{pos:Pos}
theorem ae:PA X [] lY:=fun _ _ _ _ H Q I h=>Calls.spliced_nil ⟨[],H,I,.nil,h⟩
theorem aa(ha:PE X e te)(hr:PA X es t)(hs:starEach (e::es) X.env=(false,eval e X.env)::starEach es X.env:=by rfl):PA X (e::es) (CD te t):=by intro pos pins s σ H Q I h;rw[hs];show wpAny _ _ (spliced ((false,eval e X.env)::backTo pos (starEach es X.env))) _ _ s;refine Calls.spliced_cons (aM (ha pins s σ H _ I h) fun u s1 ⟨x,H1,I1,r1,q1⟩=>?_);exact aM (hr pos pins s1 σ H1 _ I1 q1) fun us s2 ⟨xs,H2,I2,r2,q2⟩=>⟨x::xs,H2,I2,.cons r1 r2,q2⟩
end
abbrev Sp:=List V->Hp->VK->XK->Prop
abbrev jH:=List Env->Hp->aaV->XK->Value->aaV->Prop
structure mW(P:aaW)(w:World)(K:aaU)(mg:Str->Option Value)(base:Heap)(A:aaY)(outer:List Env)(s:aaV)(H:Hp):Prop where
 frames:A.frames=some outer
 mod:Mod K mg base
 bs:∀b o,base.get? b=some o->s.heap.get? b=some o/\H b=none
 bsz:base.objs.size<=s.heap.objs.size
 jf:s.heap.FunFrames base outer
 frf:∀b∈cR outer,H b=none
 hok:dc P w H s.heap
 bare:AllBare s.gens
def CE(outer:List Env)(P:aaW)(w:World)(H:Hp)(s:aaV)(Q:VK)(u:Value)(s':aaV):Prop:=∃v H',s'.os=s.os/\AllBare s'.gens/\Un (cR outer) [] H H' s.heap s'.heap/\dc P w H' s'.heap/\RelV v u/\Q v H'
def CR(CX:jH)(outer:List Env)(P:aaW)(w:World)(H:Hp)(s:aaV)(Q:VK)(E:XK)(r:Result)(s':aaV):Prop:=match r with | .ok (.ret u)=>CE outer P w H s Q u s' | .ok _=>False | .error e=>CX outer H s E e s'
structure iK(P:aaW)(w:World)(K:aaU)(mg:Str->Option Value)(base:Heap)(CX:jH)(k:Nat)(f:Addr)(fd:FuncData)(ps:List Str)(sp:Sp):Prop where
 len:∀vs H Q E,sp vs H Q E->vs.length=ps.length
 run:∀(A:aaY)(outer:List Env)(s:aaV)(H:Hp)(args:Args)(us:List Value)(vs:List V)(Q:VK)(E:XK),cu k A->mW P w K mg base A outer s H->BindsTo s fd args (ps.zip us)->Vals vs us->sp vs H Q E->codeAny (model P w) A (.call (.ref f) args) (CR CX outer P w H s Q E) s
theorem mW.make{P:aaW}{w:World}{K:aaU}{mg:Str->Option Value}{base:Heap}{A:aaY}{outer:List Env}{s:aaV}{H:Hp}(e:mW P w K mg base A outer s H)(C:Addr)(us:List Value)(kw:List (Str×Value)): mW P w K mg base (A.under (.builtin "type.__call__" ⟨.ref C::us,kw⟩)) outer s H:=⟨by first|exact e.frames|(simpa[Around.under,Code.envs,Code.isFrame,pushEnvs]using e.frames),e.mod,e.bs,e.bsz,e.jf,e.frf,e.hok,e.bare⟩
section
variable {X:Cx}{pins:List (Addr×Obj)}{σ:St}{H:Hp}{s s':aaV}
theorem Inv.Bg(I:Inv X pins σ H s):mW X.prog X.w X.K X.mg X.base X.A X.stack s H:=⟨I.ok.frames,I.ok.mod,I.bs,gR I.ok.bsz I.sz,I.stack,I.zv,I.hok,I.bare⟩
theorem Inv.after{Q:VK}{u:Value}(I:Inv X pins σ H s)(h:CE X.stack X.prog X.w H s Q u s'):EP X pins σ Q u s':=by obtain⟨v,H',os,bare,un,hok,r,q⟩:=h;obtain⟨hh,g,d,t,fu⟩:=s';obtain rfl:fu=s.os:=os;exact⟨v,H',I.call (h':=hh) (g':=g) (d':=d) (t':=t) (ch:=[]) un hok bare (fun b z=>absurd z (by simp)),r,q⟩
end
def Xf(sp:Sp)(fS:List V)(E:XK)(t:TA):TE:=fun σ H Q=>t σ H fun vs H1=>sp (vs++fS) H1 Q E
inductive tG(C:Addr)(m:Str)(sp:Sp)(fS:List V)(E:XK)(t:TA)(σ:St)(Q:VK)(x:V)(H1:Hp):Prop |mk (a:_)(dx:_)(fs:_)(h0:x= .ref a)(h1:H1 a=some (.ins C dx fs))(h2:fs.lookup m=none)(h3:t σ H1 fun vs H2=>sp (x::(vs++fS)) H2 Q E):tG C m sp fS E t σ Q x H1
def Kj(C:Addr)(m:Str)(sp:Sp)(fS:List V)(E:XK)(ta:TE)(t:TA):TE:=fun σ H Q=>ta σ H fun x H1=>tG C m sp fS E t σ Q x H1
def X9(C:Addr)(sp:Sp)(fS:List V)(E:XK)(t:TA):TE:=fun σ H Q=>t σ H fun vs H1=>∀x dx,H1 x=none->H1 dx=none->dx≠x->sp (.ref x::(vs++fS)) (upd (upd H1 dx (.own x)) x (.ins C dx [])) (fun v H2=>v= .aY/\Q (.ref x) H2) E
def Binds(K:aaU)(fd:FuncData)(ps:List Str)(ds:List Value):Prop:=∀(s:aaV)(us:List Value),K.In s.heap->(us++ds).length=ps.length->BindsTo s fd ⟨us,[]⟩ (ps.zip (us++ds))
theorem Binds.all{K:aaU}{fd:FuncData}{ps:List Str}(h:∀us:List Value,us.length=ps.length->bindArgs fd ⟨us,[]⟩=pure (ps.zip us)):Binds K fd ps []:=fun s us _ hl=>by rw[C9]at hl⊢;exact .of_eq (h us hl)
def Passes(CX:jH)(X:Cx)(E:XK):Prop:=∀(pins:List (Addr×Obj))(σ:St)(H:Hp)(s:aaV)(e:Value)(s':aaV),Inv X pins σ H s->CX X.stack H s E e s'->X.xe e s'
section
variable {X:Cx}{CX:jH}{k:Nat}{f C:Addr}{fd:FuncData}{ps:List Str}{sp:Sp}{fS:List V}{ds:List Value}{E:XK}{x m:Str}{p pos apos:Pos}{e o:Expr}{es:List Expr}{ta:TE}{t:TA}
theorem ES{pins:List (Addr×Obj)}{σ:St}{H:Hp}{s:aaV}{Q:VK}{us:List Value}{vs:List V}(F:iK X.prog X.w X.K X.mg X.base CX k f fd ps sp)(hr:cu k X.A)(hb:Binds X.K fd ps ds)(hd:Vals fS ds)(hx:Passes CX X E) (I:Inv X pins σ H s)(r:Vals vs us)(h:sp (vs++fS) H Q E):wpAny (model X.prog X.w) X.A (call (.ref f) us) (EP X pins σ Q) X.xe s:=by
  have r2:Vals (vs++fS) (us++ds):=r.append hd;have hl:(us++ds).length=ps.length:=by rw[<-r2.length];exact F.len _ _ _ _ h
  refine yG (yI (F.run X.A X.stack s H ⟨us,[]⟩ (us++ds) (vs++fS) Q E hr I.Bg (hb s us I.gb hl) r2 h) fun r s' hq=>?_);cases r with |error e=>exact hx pins σ H s e s' I hq |ok fl=>cases fl with |ret u=>exact I.after hq |next=>exact False.elim hq |brk=>exact False.elim hq |cont=>exact False.elim hq
theorem a0b(F:iK X.prog X.w X.K X.mg X.base CX k f fd ps sp)(hr:cu k X.A)(hg:Gl X x)(hm:X.mg x=some (.ref f))(hk:PySem.W.keepIn X.K (.ref f)=true)(hb:Binds X.K fd ps ds)(hd:Vals fS ds)(hx:Passes CX X E) (ha:PA X (e::es) t)(iV:(x==("__debug__":Str))=false:=by decide)(he:starEach (e::es) X.env=(false,eval e X.env)::starEach es X.env:=by rfl)(fR:(backTo pos (starEach es X.env)).any (·.1)=false:=by rfl): PE X (.Call (.Name x p) (e::es) [] pos) (Xf sp fS E t):=by intro pins s σ H Q I h;refine yH (uS I hg hm ?_ iV);refine VC (h₀:=X.base) I.ok.mod.kin hk (aM (ha pos pins s σ H _ I h) fun us s1 ⟨vs,H1,I1,r,q⟩=>⟨I1.gb,?_⟩) he fR;exact ES F hr hb hd hx I1 r q
theorem NI{pl:Sem Bool}(he:PE X o ta)(c:jF X.K C)(hm:Meth X.K C m f)(F:iK X.prog X.w X.K X.mg X.base CX k f fd ps sp)(hr:cu k X.A)(hb:Binds X.K fd ps ds)(hd:Vals fS ds)(hx:Passes CX X E)(ha:PA X (e::es) t) (gz:starEach (e::es) X.env=(false,eval e X.env)::starEach es X.env:=by rfl)(fR:(backTo pos (starEach es X.env)).any (·.1)=false:=by rfl) (ht:eval (.Call (.Attribute o m apos) (e::es) [] pos) X.env=(do
     let ov<-eval o X.env
     standAt apos.atName
     let(f,first)<-holding [ov] (getMethod ov m pl)
     callWith pos f first (backTo pos (starEach (e::es) X.env)) (backToKw pos (keywordEach [] X.env))):=by rfl): PE X (.Call (.Attribute o m apos) (e::es) [] pos) (Kj C m sp fS E ta t):=by
  intro pins s σ H Q I h;refine PySem.W.methodCall_KW (pl:=pl) (aM (he pins s σ H _ I h) fun u s1 ⟨x,H1,I1,rx,a,dx,fs,ex,ea,l,q⟩=>?_) ht;subst ex;obtain rfl:u=Value.ref a:=rx;refine Qp I1 ea c hm l ?_;refine VC (first:=[.ref a]) (h₀:=X.base) I.ok.mod.kin hm.kp (aM (ha pos pins s1 σ H1 _ I1 q) fun us s2 ⟨vs,H2,I2,r,q2⟩=>⟨I2.gb,?_⟩) gz fR;exact ES (us:=.ref a::us) (vs:=.ref a::vs) F hr hb hd hx I2 (.cons rfl r) q2
theorem a05{pl:Sem Bool}(he:PE X o ta)(c:jF X.K C)(hm:Meth X.K C m f)(F:iK X.prog X.w X.K X.mg X.base CX k f fd ps sp)(hr:cu k X.A)(hb:Binds X.K fd ps ds)(hd:Vals fS ds)(hx:Passes CX X E) (ht:eval (.Call (.Attribute o m apos) [] [] pos) X.env=(do
     let ov<-eval o X.env
     standAt apos.atName
     let(f,first)<-holding [ov] (getMethod ov m pl)
     callWith pos f first (backTo pos (starEach [] X.env)) (backToKw pos (keywordEach [] X.env))):=by rfl): PE X (.Call (.Attribute o m apos) [] [] pos) (Kj C m sp fS E ta lY):=by
  intro pins s σ H Q I h;refine PySem.W.methodCall_KW (pl:=pl) (aM (he pins s σ H _ I h) fun u s1 ⟨x,H1,I1,rx,a,dx,fs,ex,ea,l,q⟩=>?_) ht;subst ex;obtain rfl:u=Value.ref a:=rx;refine Qp I1 ea c hm l ?_;exact PySem.W.callWith_K0 (first:=[.ref a]) I1.gb hm.kp (ES (us:=[.ref a]) (vs:=[.ref a]) F hr hb hd hx I1 (.cons rfl .nil) q)
structure Mk(K:aaU)(C f:Addr):Prop where
 makes:PySem.W.makesIn K C=true
 init:PySem.W.findIn K (.ref C) "__init__"=some (some (.ref f))
 fn:PySem.W.isFn K (.ref f)=true
 kp:PySem.W.keepIn K (.ref C)=true
theorem Yt{pins:List (Addr×Obj)}{σ:St}{H:Hp}{s:aaV}{Q:VK}{us:List Value}{vs:List V}(M:Mk X.K C f)(F:iK X.prog X.w X.K X.mg X.base CX k f fd ps sp)(hr:cu (k+1) X.A)(hb:Binds X.K fd ps ds)(hd:Vals fS ds) (hx:Passes CX X E)(I:Inv X pins σ H s)(r:Vals vs us) (h:∀x dx,H x=none->H dx=none->dx≠x->sp (.ref x::(vs++fS)) (upd (upd H dx (.own x)) x (.ins C dx [])) (fun v H2=>v= .aY/\Q (.ref x) H2) E): wpAny (model X.prog X.w) X.A (call (.ref C) us) (EP X pins σ Q) X.xe s:=by
  have hq:=h (s.heap.objs.size+1) s.heap.objs.size (I.hok.fresh (Nat.le_succ _)) (I.hok.fresh (bo _)) (fe (VJ _));have I2:=Inv.made (C:=C) I;have r2:Vals (V.ref (s.heap.objs.size+1)::(vs++fS)) (Value.ref (s.heap.objs.size+1)::(us++ds)):=.cons rfl (r.append hd);have hl:(Value.ref (s.heap.objs.size+1)::us++ds).length=ps.length:=by have e:=r2.length;rw[F.len _ _ _ _ hq]at e;exact e.symm
  refine yG (a2U (f:=f) I.gb M.makes M.init (fC.mp M.fn) (yI (F.run _ X.stack _ _ ⟨Value.ref (s.heap.objs.size+1)::us,[]⟩ (Value.ref (s.heap.objs.size+1)::(us++ds)) _ _ E (hr.make C us []) (I2.Bg.make C us []) (hb _ (Value.ref (s.heap.objs.size+1)::us) I2.gb hl) r2 hq) fun r s' jy=>?_));cases r with |error e=>exact hx pins σ _ _ e s' I2 jy |ok fl=>cases fl with |ret u=>obtain⟨v,H',I3,rv,ev,q3⟩:=I2.after jy;subst ev;exact⟨rv,⟨V.ref (s.heap.objs.size+1),H',I3,rfl,q3⟩⟩ |next=>exact False.elim jy |brk=>exact False.elim jy |cont=>exact False.elim jy
theorem a06(M:Mk X.K C f)(F:iK X.prog X.w X.K X.mg X.base CX k f fd ps sp)(hr:cu (k+1) X.A)(hg:Gl X x)(hm:X.mg x=some (.ref C))(hb:Binds X.K fd ps ds)(hd:Vals fS ds)(hx:Passes CX X E) (ha:PA X (e::es) t)(iV:(x==("__debug__":Str))=false:=by decide)(he:starEach (e::es) X.env=(false,eval e X.env)::starEach es X.env:=by rfl)(fR:(backTo pos (starEach es X.env)).any (·.1)=false:=by rfl): PE X (.Call (.Name x p) (e::es) [] pos) (X9 C sp fS E t):=by intro pins s σ H Q I h;refine yH (uS I hg hm ?_ iV);refine VC (h₀:=X.base) I.ok.mod.kin M.kp (aM (ha pos pins s σ H _ I h) fun us s1 ⟨vs,H1,I1,r,q⟩=>⟨I1.gb,?_⟩) he fR;exact Yt M F hr hb hd hx I1 r q
end
section
variable {X:Cx}{CX:jH}{k:Nat}{f C:Addr}{fd:FuncData}{ps ks:List Str}{sp:Sp}{E:XK}{x m:Str}{p pos apos aa4:Pos}{e o:Expr}{es:List Expr}{kws:List Keyword}{te ta:TE}{t tk:TA}{nm:Option Str}
variable {g:List Value->List Value->List Value}{gV:List V->List V->List V}
end
structure aW(N P:List Str)(sc:Scope):Prop where
 kind:sc.kind= .function
 co:sc.isCoroutine=false
 gen:sc.isGenerator=false
 nd:N.Nodup
 pre:N.take P.length=P
 par:∀x∈P,sc.names.lookup x=some .local\/sc.names.lookup x=some .cell
 nofree:∀y∈sc.names,y.2≠ .free
theorem Sg{kindOf:Str->Option NameKind}{x:Str}:∀{binds:List (Str×Value)}{m:Str->Option Value},(∀v,(x,v)∉binds)->bindL kindOf binds m x=m x
  |[],_,_=>rfl |(n,v)::r,m,h=>by
    unfold bindL;rw[Sg fun w hw=>h w (tQ _ hw)];split
    · have:x≠n:=by rintro rfl;exact h v JE
      simp[this]
    ·rfl
theorem Si{kindOf:Str->Option NameKind}{x:Str}:∀{binds:List (Str×Value)}{m:Str->Option Value},(∀v,(x,v)∉binds)->bindC kindOf binds m x=m x
  |[],_,_=>rfl |(n,v)::r,m,h=>by
    unfold bindC;rw[Si fun w hw=>h w (tQ _ hw)];split
    ·rfl
    · have:x≠n:=by rintro rfl;exact h v JE
      simp[this]
theorem Sh{kindOf:Str->Option NameKind}{x:Str}{v:Value}:∀{P:List Str}{vs:List Value}{i:Nat}{m:Str->Option Value},P.Nodup->P[i]? =some x->vs[i]? =some v->kindOf x=some .local->bindL kindOf (P.zip vs) m x=some v |[],_,_,_,_,h,_,_=>by simp at h |_::_,[],_,_,_,_,h,_=>by simp at h |p::P,w::vs,0,m,nd,h1,h2,hk=>by simp at h1 h2;subst h1;subst h2;show bindL kindOf ((p,w)::P.zip vs) m p=_;unfold bindL;rw[Sg fun v hv=>(tP.mp nd).1 (yL hv).1,aO hk];simp |p::P,w::vs,i+1,m,nd,h1,h2,hk=>by show bindL kindOf ((p,w)::P.zip vs) m x=_;unfold bindL;exact Sh (i:=i) (tP.mp nd).2 (by simpa using h1) (by simpa using h2) hk
theorem Sj{kindOf:Str->Option NameKind}{x:Str}{v:Value}:∀{P:List Str}{vs:List Value}{i:Nat}{m:Str->Option Value},P.Nodup->P[i]? =some x->vs[i]? =some v->kindOf x≠some .local->bindC kindOf (P.zip vs) m x=some v |[],_,_,_,_,h,_,_=>by simp at h |_::_,[],_,_,_,_,h,_=>by simp at h |p::P,w::vs,0,m,nd,h1,h2,hk=>by simp at h1 h2;subst h1;subst h2;show bindC kindOf ((p,w)::P.zip vs) m p=_;unfold bindC;rw[Si fun v hv=>(tP.mp nd).1 (yL hv).1,aP hk];simp |p::P,w::vs,i+1,m,nd,h1,h2,hk=>by show bindC kindOf ((p,w)::P.zip vs) m x=_;unfold bindC;exact Sj (i:=i) (tP.mp nd).2 (by simpa using h1) (by simpa using h2) hk
def start(N:List Str)(vs:List V):St:=vs.map some++List.replicate (N.length-vs.length) none
def iJ(CX:jH)(P:aaW)(w:World)(K:aaU)(mg:Str->Option Value)(base:Heap)(N:List Str)(qual:Str)(scope:Scope)(f:Addr)(cd:Value)(A:aaY)(outer:List Env)(s:aaV)(H:Hp)(E:XK):Cx where
 prog:=P
 w:=w
 K:=K
 mg:=mg
 base:=base
 A:=A.deeper (envOfC qual scope s.heap.objs.size f cd)
 N:=N
 s₀:=s
 H₀:=H
 env:=envOfC qual scope s.heap.objs.size f cd
 outer:=outer
 stack:=envOfC qual scope s.heap.objs.size f cd::outer
 ex:=[]
 calm:=true
 fn:=fun _=>true
 pn:=[]
 xe:=fun e s'=>wpAny (model P w) (A.deeper (envOfC qual scope s.heap.objs.size f cd)) (leaving (envOfC qual scope s.heap.objs.size f cd) e) (fun _ qO=>CX outer H s E e qO) (fun e' qO=>CX outer H s E e' qO) s'
theorem S6{sc:Scope}{n:Nat}{x:Str}(h:sc.names.lookup x=some .cell):∃c,(cellsFrom n sc.names []).lookup x=some c:=by have q:=PySem.W.cellsFrom_some sc.names n [] (.inl h);exact Option.isSome_iff_exists.mp q
theorem Pg{CX:jH}{P:aaW}{w:World}{K:aaU}{mg:Str->Option Value}{base:Heap}{N ps:List Str}{qual:Str}{scope:Scope}{f:Addr}{cd:Value}{A:aaY}{outer:List Env}{s s1:aaV}{H:Hp}{E:XK}{us:List Value}{vs:List V} (S:aW N ps scope)(hd:A.handled=none)(e0:mW P w K mg base A outer s H)(hl:vs.length=ps.length)(r:Vals vs us) (x:InCallC s s.heap.objs.size (bindL (envOfC qual scope s.heap.objs.size f cd).kindOf (ps.zip us) fun _=>none) (cellsFrom (s.heap.objs.size+1) scope.names []) (bindC (envOfC qual scope s.heap.objs.size f cd).kindOf (ps.zip us) fun _=>none) s1): Inv (iJ CX P w K mg base N qual scope f cd A outer s H E) [] (start N vs) H s1:=by
  have fR:ps.length<=N.length:=by have:=congrArg List.length S.pre;rw[nc]at this;lia
  obtain⟨h1,tk,rfl,hk⟩:=x.done;have rC:∀b:Addr,b∉(iJ CX P w K mg base N qual scope f cd A outer s H E).ex:=fun b z=>absurd (show b∈([]:List Addr)from z) (by simp);refine⟨⟨e0.mod,S.kind,rfl,rfl,bo _,fun y z c h1 h2=>?_,fun y hy=>?_,fun y c _ h=>?_,fun _=>hd,Around.frames_deeper e0.frames,.inr ⟨rfl,rfl⟩,fun b z=>absurd z (rC b),e0.bs,e0.bsz,fun b _ _=>rC b,fun b z=>absurd z (rC b),e0.jf,e0.frf⟩,rfl,e0.bare,Un.kept hk,⟨_,x.toInCall.ns,fun i y v h1 h2 h3=>?_⟩,fun y c h=>⟨_,x.cell y c h⟩,e0.hok.fresh (bo _),fun y c h=>?_,fun p hp=>absurd (show p∈([]:List (Addr×Obj))from hp) (by simp),e0.hok.kept hk,?_⟩
  ·exact name_of_addr x.apart (tN h1) (tN h2)
  · have hy:scope.names.lookup y=some .cell\/scope.names.lookup y=some .free:=hy
    rcases hy with hy|hy
    ·exact S6 hy
    ·exact absurd rfl (S.nofree _ (tN hy))
  ·exact JB (x.above y c (tN h))
  · have hi:i<vs.length:=by
      unfold start at h2;by_cases hi:i<vs.length
      ·exact hi
      · rw[yO (by simpa using hi)]at h2
        rw[VN]at h2;split at h2<;>cases h2
    have ha:vs[i]? =some v:=by unfold start at h2;rw[vW (by simpa using hi),bZ]at h2;cases e:vs[i]? with |none=>rw[e]at h2;cases h2 |some a=>rw[e]at h2;cases h2;rfl
    obtain⟨u,hu,rv⟩:=r.get ha;have hp:ps[i]? =some y:=by rw[<-S.pre,List.getElem?_take_of_lt (by lia)];exact h1
    have Om:ps.Nodup:=by rw[<-S.pre];exact S.nd.sublist (List.take_sublist _ _)
    refine⟨u,rv,?_⟩;rcases S.par y (gf hp)with k|k
    ·exact .inl ⟨k,Sh Om hp hu k⟩
    · obtain⟨c,e⟩:=S6 (n:=s.heap.objs.size+1) k
      refine .inr ⟨.inl k,c,e,?_⟩;have q:=x.cell y c e;rw[Sj Om hp hu (by show scope.names.lookup y≠_;rw[k];decide)]at q;exact q
  ·exact e0.hok.fresh (JB (x.above y c (tN h)))
  · unfold start
    show _=N.length;rw[fm,bT,C4]
    lia
theorem Hx{CX:jH}{P:aaW}{w:World}{K:aaU}{mg:Str->Option Value}{base:Heap}{k:Nat}{f:Addr}{name qual:Str}{params:Arguments}{body:List Stmt}{scope:Scope}{dV kV doc pm aD ct oc:Value}{an od:Option Addr} {fP:Array (Option Value)}{N ps:List Str}{sp:Sp}(lk:K.lookup f=some ⟨oc,od,.func (PySem.W.fnOf name qual params body scope dV kV doc pm an aD ct),fP⟩)(gA:PySem.W.codeIn K aD qual=true)(S:aW N ps scope) (len:∀vs H Q E,sp vs H Q E->vs.length=ps.length) (ie:∀(A:aaY)(outer:List Env)(s:aaV)(H:Hp)(vs:List V)(Q:VK)(E:XK),cu k (A.deeper (envOfC qual scope s.heap.objs.size f aD))->sp vs H Q E->∃t,gD (iJ CX P w K mg base N qual scope f aD A outer s H E) body t/\t {nx:=fun _ H'=>Q .aY H',rt:=Q} (start N vs) H): iK P w K mg base CX (k+1) f (PySem.W.fnOf name qual params body scope dV kV doc pm an aD ct) ps sp:=by
  refine⟨len,fun A outer s H args us vs Q E hr e0 hb r iT=>?_⟩;have hl:=len _ _ _ _ iT;have KX:K.In s.heap:=e0.mod.kin.keeps fun b o e=>(e0.bs b o e).1;have lim:s.heap.NoLimit:=e0.mod.nolimit.keeps fun b o e=>(e0.bs b o e).1;have o9:∀y∈ps.zip us,scope.names.lookup y.1=some .local\/(scope.names.lookup y.1=some .cell/\((cellsFrom (s.heap.objs.size+1) scope.names []).lookup y.1).isSome=true):=fun⟨n,v⟩ hy=>by
   rcases S.par n (yL hy).1 with q|q
   ·exact .inl q
   ·exact .inr ⟨q,PySem.W.cellsFrom_some _ _ _ (.inl q)⟩
  refine codeAny_call_function hr.depth (KX _ _ lk) rfl S.co S.gen rfl (PySem.W.codeRec_of KX gA) (hb _ _ _ _ ?_);refine wpAny_newFunctionEnv_cells S.kind o9 fun env he s1 x=>?_;subst he;refine⟨lim.keeps x.toInCall.keep,codeAny_func ?_⟩;obtain⟨t,ht,hq⟩:=ie A outer s H vs Q E (hr.deeper _) iT;have I:Inv (iJ CX P w K mg base N qual scope f aD A outer s H E) [] (start N vs) H s1:=Pg S hr.hd e0 hl r x;refine jk (ht [] s1 (start N vs) H _ I hq) (fun fl s' hs=>?_) fun e s' hs=>hs;have fin:∀{σ':St}{H':Hp}{v:V}{u:Value},Inv (iJ CX P w K mg base N qual scope f aD A outer s H E) [] σ' H' s'->RelV v u->Q v H'->CE outer P w H s Q u s':=fun{σ' H' v u} J rv q=>⟨v,H',J.os,J.bare,J.base,J.hok,rv,q⟩;cases fl with |ret u=>obtain⟨v,σ',H',J,rv,q⟩:=hs;exact fin J rv q |next=>obtain⟨σ',H',J,q⟩:=hs;exact fin (v:=V.aY) (u:=Value.none) J rfl q |brk=>obtain⟨_,_,_,q⟩:=hs;exact False.elim q |cont=>obtain⟨_,_,_,q⟩:=hs;exact False.elim q
section
variable {X:Cx}{x:Str}{p pos:Pos}{e:Expr}{es:List Expr}{t:TA}{id T:String}{r:List V->Hp->VK->Prop}
def zl(r:List V->Hp->VK->Prop)(t:TA):TE:=fun σ H Q=>t σ H fun vs H1=>r vs H1 Q
theorem cQ(hc:eV X (.builtin id) r)(hg:Gl X x)(hm:X.mg x=none)(hv:bootBuiltins x=some (.builtin id))(ha:PA X (e::es) t)(hn:x≠"__name__":=by decide)(iV:(x==("__debug__":Str))=false:=by decide) (he:starEach (e::es) X.env=(false,eval e X.env)::starEach es X.env:=by rfl)(fR:(backTo pos (starEach es X.env)).any (·.1)=false:=by rfl):PE X (.Call (.Name x p) (e::es) [] pos) (zl r t):=by intro pins s σ H Q I h;refine yH (nU I hg hm hv ?_ hn iV);exact PyProof.Rows.callWith_builtin1 (aM (ha pos pins s σ H _ I h) fun us s1 ⟨vs,H1,I1,r1,q1⟩=>hc pins s1 σ H1 vs us Q I1 r1 q1) he fR
theorem gZ(hc:eV X (.type T) r)(hg:Gl X x)(hm:X.mg x=none)(hv:bootBuiltins x=some (.type T))(ha:PA X (e::es) t)(hn:x≠"__name__":=by decide)(iV:(x==("__debug__":Str))=false:=by decide) (he:starEach (e::es) X.env=(false,eval e X.env)::starEach es X.env:=by rfl)(fR:(backTo pos (starEach es X.env)).any (·.1)=false:=by rfl):PE X (.Call (.Name x p) (e::es) [] pos) (zl r t):=by intro pins s σ H Q I h;refine yH (nU I hg hm hv ?_ hn iV);exact vS (aM (ha pos pins s σ H _ I h) fun us s1 ⟨vs,H1,I1,r1,q1⟩=>hc pins s1 σ H1 vs us Q I1 r1 q1) he fR
end
end L2
namespace HT
open PySem PyProof.Rows
section
open PySem.SeqAt
open PySem.AutoSeq1 (wpAny_loadPart')
open PySem.MeetsSeq PySem.MeetsSeq2 PySem.MeetsSeq3
end
section
variable {prog:aaW}{w:World}{A:aaY}{E:Value->aaV->Prop}{s:aaV}
def bU(n d:Nat):Option Int->Nat |none=>d |some v=>if v<0 then(v+(n:Int)).toNat else min v.toNat n
theorem Yi (n d:Nat):bU n d none=d:=rfl
theorem MU(n d k:Nat):bU n d (some (k:Int))=min k n:=by show(if(k:Int)<0 then((k:Int)+(n:Int)).toNat else min (k:Int).toNat n)=min k n;rw[aP (by lia),VP]
theorem Yj(n d:Nat)(hd:d<=n)(o:Option Int):bU n d o<=n:=by cases o with |none=>exact hd |some v=>
   show(if v<0 then(v+(n:Int)).toNat else min v.toNat n)<=n;by_cases hv:v<0
   ·rw[aO hv];lia
   ·rw[aP hv];exact Nat.min_le_right _ _
theorem RZ(v:Int)(n d:Nat):(if v<0 then max (v+(n:Int)) 0 else min v (n:Int))=((bU n d (some v):Nat):Int):=by
 show(if v<0 then max (v+(n:Int)) 0 else min v (n:Int))=(((if v<0 then(v+(n:Int)).toNat else min v.toNat n):Nat):Int);by_cases hv:v<0
 ·simp only[aO hv];lia
 ·simp only[aP hv];lia
theorem a8R(lo hi:Option Int)(n:Nat):Builtin.Slice.sliceAdjust lo hi 1 (n:Int)=(((bU n 0 lo:Nat):Int),((bU n n hi:Nat):Int)):=by
 have h1:¬((1:Int)<0):=by lia
 unfold Builtin.Slice.sliceAdjust;simp only[h1,if_false];refine Prod.ext ?_ ?_
 ·cases lo with |none=>rfl |some v=>exact RZ v n 0
 ·cases hi with |none=>rfl |some v=>exact RZ v n n
theorem ZO(i j:Nat):Builtin.Slice.slicePlaces (i:Int) (j:Int) 1=j-i:=by
 unfold Builtin.Slice.slicePlaces;have h1:(1:Int)>0:=by lia
 simp only[h1,tL,Int.ediv_one];split<;>lia
theorem Lv{v:Value}{o:Option Int}{Q:Option Int->aaV->Prop}(p:IsPart v o)(h:Q o s):wpAny (model prog w) A (Builtin.Slice.slicePartIndex v) Q E s:=by cases p with |none=>exact slicePart_none h |int i t=>exact slicePart_int h
theorem XM{sl:Addr}{vl vu:Value}{lo hi:Option Int}{n:Nat}{Q:Int×Int×Nat->aaV->Prop}(hs:s.heap.IsSliceOf sl vl vu .none)(pl:IsPart vl lo)(pu:IsPart vu hi) (h:Q (((bU n 0 lo:Nat):Int),1,bU n n hi-bU n 0 lo) s):wpAny (model prog w) A (Builtin.Slice.sliceApplied (.ref sl) (pure (n:Int))) Q E s:=by obtain⟨os,jc,AU,pN⟩:=id hs;unfold Builtin.Slice.sliceApplied Builtin.Slice.sliceFields;refine aH (aH (iY jc pN (x:=vl) rfl (aH (iY jc pN (x:=vu) rfl (aH (iY jc pN (x:=.none) rfl (bR ?_)))))));refine aH (slicePart_none ?_);show wpAny _ _ (if((1:Int)==0)=true then _ else _) _ _ s;rw[aP (by decide)];refine aH (Lv pl (aH (Lv pu (aH (bR ?_)))));show wpAny _ _ (match Builtin.Slice.sliceAdjust lo hi 1 (n:Int)with|(lo,hi)=>pure (lo,(1:Int),Builtin.Slice.slicePlaces lo hi 1)) _ _ s;rw[a8R lo hi n];show wpAny _ _ (pure (((bU n 0 lo:Nat):Int),(1:Int),Builtin.Slice.slicePlaces ((bU n 0 lo:Nat):Int) ((bU n n hi:Nat):Int) 1)) _ _ s;rw[ZO];exact bR h
theorem ZT(xs:Array Value)(i k:Nat):((List.range k).filterMap fun(m:Nat)=>xs[((i:Int)+(m:Int)*1).toNat]?).toArray=((xs.toList.drop i).take k).toArray:=by
 have e:(fun(m:Nat)=>xs[((i:Int)+(m:Int)*1).toNat]?)=fun m=>xs[i+m]?:=by
  funext m;have:((i:Int)+(m:Int)*1).toNat=i+m:=by lia
  rw[this]
 rw[e];have:=pick_run xs i k;rw[List.filterMap_map]at this;have e2:((fun x=>xs[x]?)∘fun x=>i+x)=fun m=>xs[i+m]?:=rfl;rw[e2]at this;rw[this]
theorem a6A{t sl:Addr}{items:Array Value}{vl vu:Value}{lo hi:Option Int}{Q:Value->aaV->Prop}(ht:IsTup s.heap t items)(hs:s.heap.IsSliceOf sl vl vu .none)(pl:IsPart vl lo)(pu:IsPart vu hi) (hw:¬(bU items.size 0 lo=0/\bU items.size items.size hi=items.size)) (h:Q (.ref s.heap.objs.size) {s with heap:=s.heap.push {cls:=.type "tuple",data:=.seq ((items.toList.drop (bU items.size 0 lo)).take (bU items.size items.size hi-bU items.size 0 lo)).toArray}}) (hsz:items.size<=sizeLine):wpAny (model prog w) A (getItem (.ref t) (.ref sl)) Q E s:=by
  have Az:sizeOk (.seq ((items.toList.drop (bU items.size 0 lo)).take (bU items.size items.size hi-bU items.size 0 lo)).toArray):=by show((items.toList.drop (bU items.size 0 lo)).take (bU items.size items.size hi-bU items.size 0 lo)).toArray.size<=sizeLine;rw[dN,nc,JH,yS];omega
  have hj:bU items.size items.size hi<=items.size:=Yj _ _ (bo _) hi;obtain⟨os,jc,AU,pN⟩:=id hs;have AX:s.TypeIs (.ref sl) "slice":=⟨os,jc,AU⟩;unfold getItem
  try with_reducible refine tK ?_
  first|refine aH (bR ?_)|skip
  refine aH (wpAny_sequenceKey ht.typeIs (by decide) ?_);refine aH (BR (name:=Str.ofString "__getitem__") ht.typeIs VE (BQ VE ht.typeIs entry_tuple_getitem ?_ (args_tuple_getitem _ _)));show wpAny _ _ (Builtin.Tuple.tupleItemsOf (.ref t)>>=_) _ _ s;refine aH (tupleItemsOf_ ht ?_);refine aH (wpAny_typeOf AX ?_);rw[aO (by decide)];refine aH (XM hs pl pu ?_);have kz:¬((((bU items.size 0 lo:Nat):Int)==0&&(1:Int)==1&&(bU items.size items.size hi-bU items.size 0 lo)==items.size)=true):=by intro q;rw[eu,eu]at q;have q1:((bU items.size 0 lo:Nat):Int)=0:=eq_of_beq q.1.1;have q2:bU items.size items.size hi-bU items.size 0 lo=items.size:=eq_of_beq q.2;exact hw ⟨by omega,by omega⟩
  show wpAny _ _ (if(((bU items.size 0 lo:Nat):Int)==0&&(1:Int)==1&&(bU items.size items.size hi-bU items.size 0 lo)==items.size)=true then _ else _) _ _ s;rw[aP kz,ZT]
  first |exact aH (m:=Builtin.Tuple.tupleExact _) (oM (bR ⟨_,rfl,bR h⟩) Az) |exact aH (m:=Builtin.Tuple.tupleExact _) (oM (aH (bR (bR ⟨_,rfl,bR h⟩))) Az) |exact aH (aH (m:=Builtin.Tuple.tupleExact _) (oM (bR (bR ⟨_,rfl,bR h⟩)) Az)) |exact aH (aH (m:=Builtin.Tuple.tupleExact _) (oM (bR ⟨_,rfl,bR h⟩) Az))
end
end HT
namespace L2
open PySem PySem.Spec PyProof.Rows
abbrev TO:=St->Hp->(Option Int->Hp->Prop)->Prop
def PO(X:Cx)(e:Option Expr)(t:TO):Prop:=∀(pins:List (Addr×Obj))(s:aaV)(σ:St)(H:Hp)(Q:Option Int->Hp->Prop),Inv X pins σ H s->t σ H Q->wpAny (model X.prog X.w) X.A (evalPart e X.env) (fun u s'=>∃o H',Inv X pins σ H' s'/\IsPart u o/\Q o H') X.xe s
def X5:TO:=fun _ H Q=>Q none H
inductive Ta(Q:Option Int->Hp->Prop)(x:V)(H1:Hp):Prop |mk (i:_)(h0:x= .int i)(h1:Q (some i) H1):Ta Q x H1
def X0(t:TE):TO:=fun σ H Q=>t σ H fun x H1=>Ta Q x H1
section
variable {X:Cx}{e:Expr}{te:TE}{lo hi:Option Expr}{tl th:TO}{pos p2:Pos}
theorem Fs:PO X none X5:=by intro pins s σ H Q I h;rw[evalPart_none];exact bR ⟨none,H,I,.none,h⟩
theorem Fq(h:PE X e te):PO X (some e) (X0 te):=by intro pins s σ H Q I hw;rw[evalPart_some];refine aM (h pins s σ H _ I hw) fun u s1 ⟨x,H1,I1,r1,q1⟩=>?_;obtain⟨i,rfl,q⟩:=q1;obtain⟨t,rfl⟩:=r1;exact⟨some i,H1,I1,.int i t,q⟩
def BD(X:Cx)(r:V->Option Int->Option Int->Hp->VK->Prop):Prop:=∀(pins:List (Addr×Obj))(s:aaV)(σ:St)(H:Hp)(x:V)(v vl vu:Value)(lo hi:Option Int)(sl:Addr)(Q:VK),Inv X pins σ H s->RelV x v->s.heap.IsSliceOf sl vl vu .none->IsPart vl lo->IsPart vu hi->r x lo hi H Q->∃T id,typeLookup (.type T) "__getitem__"=pure (some (.builtin id))/\s.TypeIs v T/\wpAny (model X.prog X.w) X.A (getItem v (.ref sl)) (EP X pins σ Q) X.xe s
def WX(r:V->Option Int->Option Int->Hp->VK->Prop)(te:TE)(tl th:TO):TE:=fun σ H Q=>te σ H fun x H1=>tl σ H1 fun l H2=>th σ H2 fun u H3=>r x l u H3 Q
theorem Fv{r:V->Option Int->Option Int->Hp->VK->Prop}(hr:BD X r)(he:PE X e te)(hl:PO X lo tl)(hu:PO X hi th):PE X (.Subscript e (.Slice lo hi none p2) pos) (WX r te tl th):=by intro pins s σ H Q I h;refine Subscript_ (aM (he pins s σ H _ I h) fun v s1 ⟨x,H1,I1,r1,q1⟩=>?_);refine wpAny_Slice (aM (hl pins s1 σ H1 _ I1 q1) fun vl s2 ⟨l,H2,I2,pl,q2⟩=>aM (hu pins s2 σ H2 _ I2 q2) fun vu s3 ⟨u,H3,I3,pu,q3⟩=>?_);rw[evalPart_none];refine bR ?_;have I4:Inv X pins σ H3 {s3 with heap:=s3.heap.push {cls:=.type "slice",data:=.fields #[vl,vu,.none]}}:=I3.kept (t':=s3.toks) fun b ob q=>bW _ q;obtain⟨T,id,hT,ht,hg⟩:=hr pins {s3 with heap:=s3.heap.push {cls:=.type "slice",data:=.fields #[vl,vu,.none]}} σ H3 x v vl vu l u s3.heap.objs.size Q I4 r1 (Heap.IsSliceOf.new ..) pl pu q3;show wpAny (model X.prog X.w) X.A (subscriptTail e (.Slice lo hi none p2) v (.ref s3.heap.objs.size)) (EP X pins σ Q) X.xe {s3 with heap:=s3.heap.push {cls:=.type "slice",data:=.fields #[vl,vu,.none]}};exact tail_any (ops:=[.ref s3.heap.objs.size,v]) ht hT hg (by with_unfolding_all rfl)
def lP(xs:List V)(lo hi:Option Int):List V:=(xs.drop (HT.bU xs.length 0 lo)).take (HT.bU xs.length xs.length hi-HT.bU xs.length 0 lo)
theorem RK(xs:List V)(lo hi:Option Int):(lP xs lo hi).length<=xs.length:=by
 unfold lP;rw[nc,JH]
 lia
inductive UM(K:aaU)(x:V)(lo:Option Int)(hi:Option Int)(H:Hp)(Q:VK):Prop |mk (a:_)(xs:_)(h0:x= .ref a)(h1:aI K H a xs)(h2:¬(HT.bU xs.length 0 lo=0/\HT.bU xs.length xs.length hi=xs.length))(h3:∀p,H p=none->Q (.ref p) (upd H p (.tup (lP xs lo hi)))):UM K x lo hi H Q
def Zl(K:aaU):V->Option Int->Option Int->Hp->VK->Prop:=fun x lo hi H Q=>UM K x lo hi H Q
theorem XN:BD X (Zl X.K):=by
 intro pins s σ H x v vl vu lo hi sl Q I rx hs pl pu h;obtain⟨a,xs,rfl,hx,hw,q⟩:=h;cases rx;obtain⟨its,r,ht,hz⟩:=I.tuple hx;have hlen:its.toArray.size=xs.length:=by rw[dN];exact r.length.symm
 refine⟨"tuple",_,VE.lookup,ht.typeIs,?_⟩;refine HT.a6A ht hs pl pu (by rw[hlen];exact hw) ?_ (by rw[hlen];exact hz);rw[hlen];refine⟨.ref s.heap.objs.size,_,I.laid (t':=s.toks) (o:=.tup (lP xs lo hi)) (fun b ob q=>bW _ q) (bo _) ?_,rfl,q _ (I.hok.fresh (bo _))⟩;exact⟨gR (RK xs lo hi) hz,_,(r.drop (HT.bU xs.length 0 lo)).take (HT.bU xs.length xs.length hi-HT.bU xs.length 0 lo),IsTup.new _ _⟩
end
end L2
namespace L2
open PySem PySem.Spec PyProof.Rows
def jb(n:Nat)(i:Int):Option Nat:=if 0<=i then(if i<n then some i.toNat else none)else if-(n:Int)<=i then some (i+n).toNat else none
def fz{α:Type}(xs:List α)(i:Int):Option α:=(jb xs.length i).bind fun j=>xs[j]?
theorem P9{n:Nat}{i:Int}{j:Nat}(h:jb n i=some j):seqIndex? i n=some j/\j<n/\-(n:Int)<=i/\i<n:=by
 unfold jb at h;by_cases h0:0<=i
 · rw[aO h0]at h
   by_cases h1:i<n
   · rw[aO h1]at h
     have e:i.toNat=j:=dj h;exact⟨by rw[seqIndex_of h0 h1,e],by lia,by lia,h1⟩
   ·rw[aP h1]at h;cases h
 · rw[aP h0]at h
   by_cases h1:-(n:Int)<=i
   · rw[aO h1]at h
     have e:(i+n).toNat=j:=dj h;exact⟨by rw[seqIndex_neg (by lia) h1,e],by lia,h1,by lia⟩
   ·rw[aP h1]at h;cases h
theorem IY{α:Type}{xs:List α}{i:Int}{v:α}(h:fz xs i=some v):∃j,seqIndex? i xs.length=some j/\xs[j]? =some v/\j<xs.length/\-(xs.length:Int)<=i/\i<xs.length:=by unfold fz at h;cases e:jb xs.length i with |none=>rw[e]at h;cases h |some j=>rw[e]at h;obtain⟨h1,h2,h3,h4⟩:=P9 e;exact⟨j,h1,h,h2,h3,h4⟩
theorem a8J{α:Type}{xs:List α}{j:Nat}{v:α}(h:xs[j]? =some v):fz xs (j:Int)=some v:=by
 have hj:j<xs.length:=(dh.mp h).1;have e:jb xs.length (j:Int)=some j:=by unfold jb;rw[aO (by lia),aO (by lia)];simp
 unfold fz;rw[e];exact h
def SS(b:Expr):Prop:=∀o i,subscripted b false o i=operate [o,i] (getItem o i)
def oJ(X:Cx)(r:R2):Prop:=∀(value slice:Expr)(pins:List (Addr×Obj))(s:aaV)(σ:St)(H:Hp)(x y:V)(v u:Value)(Q:VK),Inv X pins σ H s->RelV x v->RelV y u->r x y H Q->subscripted slice false v u=operate [v,u] (getItem v u)->wpAny (model X.prog X.w) X.A (subscriptTail value slice v u) (EP X pins σ Q) X.xe s
def BI(X:Cx)(id:String)(r:V->List V->Hp->VK->Prop):Prop:=∀(pins:List (Addr×Obj))(s:aaV)(σ:St)(H:Hp)(x:V)(xs:List V)(v:Value)(us:List Value)(Q:VK),Inv X pins σ H s->RelV x v->Vals xs us->r x xs H Q->wpAny (model X.prog X.w) X.A (call (.builtin id) (v::us)) (EP X pins σ Q) X.xe s
section
variable {X:Cx}{a b:Expr}{ta tb:TE}{pos:Pos}
theorem oJ.or{r r':R2}(h:oJ X r)(h':oJ X r'):oJ X (fun x y H Q=>r x y H Q\/r' x y H Q):=by
 intro value slice pins s σ H x y v u Q I rx ry q hs;rcases q with q|q
 ·exact h value slice pins s σ H x y v u Q I rx ry q hs
 ·exact h' value slice pins s σ H x y v u Q I rx ry q hs
theorem NJ{r:R2}(hr:oJ X r)(ha:PE X a ta)(hb:PE X b tb)(hs:SS b):PE X (.Subscript a b pos) (wu r ta tb):=by intro pins s σ H Q I h;exact Subscript_ (IM ha hb I h fun v u s2 x y H2 I2 rx ry q=>hr a b pins s2 σ H2 x y v u Q I2 rx ry q (hs _ _))
inductive UW(K:aaU)(x:V)(y:V)(H:Hp)(Q:VK):Prop |mk (p:_)(xs:_)(i:_)(v:_)(h0:x= .ref p)(h1:y= .int i)(h2:au K H p xs)(h3:fz xs i=some v)(h4:Q v H):UW K x y H Q
def Ff(K:aaU):R2:=fun x y H Q=>UW K x y H Q
inductive UT(K:aaU)(x:V)(y:V)(H:Hp)(Q:VK):Prop |mk (p:_)(xs:_)(i:_)(v:_)(h0:x= .ref p)(h1:y= .int i)(h2:aI K H p xs)(h3:fz xs i=some v)(h4:Q v H):UT K x y H Q
def Fe(K:aaU):R2:=fun x y H Q=>UT K x y H Q
inductive UU(x:V)(y:V)(H:Hp)(Q:VK):Prop |mk (z:_)(i:_)(c:_)(h0:x= .str z)(h1:y= .int i)(h2:z.length<=sizeLine)(h3:fz z.cps.toList i=some c)(h4:Q (.str ⟨#[c]⟩) H):UU x y H Q
def Zr:R2:=fun x y H Q=>UU x y H Q
theorem a3E:oJ X (Ff X.K):=by
 intro value slice pins s σ H x y v u Q I rx ry h hs;obtain⟨p,xs,i,z,rfl,rfl,hq,he,q⟩:=h;cases rx;obtain⟨t,rfl⟩:=ry;obtain⟨its,r,pl,hz⟩:=I.list hq;obtain⟨j,h1,h2,h3,h4,h5⟩:=IY he;obtain⟨w,ew,iO⟩:=r.get h2;have hl:=r.length;have hn:=rK;have fin:EP X pins σ Q w s:=⟨z,H,I,iO,q⟩;by_cases h0:0<=i
 · have hj:i.toNat=j:=by rw[seqIndex_of h0 h5]at h1;exact dj h1
   exact item_listR pl.isList h0 (by lia) (by rw[hj];simpa using ew) fin hs
 · have hj:(i+(its.toArray.size:Int)).toNat=j:=by rw[seqIndex_neg (by lia) h4]at h1;rw[dN,<-hl];exact dj h1
   exact subscriptTail_builtinR (x:=w) pl.isList.typeIs slot_list_getitem.lookup (wpAny_getItem_list_neg (Q:=fun r s'=>r=w/\EP X pins σ Q r s') pl.isList (by lia) (by rw[dN]<;>lia) (by lia) (by rw[hj];simpa using ew) ⟨rfl,fin⟩) hs
theorem a3C:oJ X (Fe X.K):=by intro value slice pins s σ H x y v u Q I rx ry h hs;obtain⟨p,xs,i,z,rfl,rfl,hq,he,q⟩:=h;cases rx;obtain⟨t,rfl⟩:=ry;obtain⟨its,r,pl,hz⟩:=I.tuple hq;obtain⟨j,h1,h2,h3,h4,h5⟩:=IY he;obtain⟨w,ew,iO⟩:=r.get h2;have hl:=r.length;have hn:=rK;have fin:EP X pins σ Q w s:=⟨z,H,I,iO,q⟩;exact subscriptTail_builtinR (x:=w) pl.typeIs slot_tuple_getitem.lookup (getItem_tuple (j:=j) (Q:=fun r s'=>r=w/\EP X pins σ Q r s') pl (by lia) (by lia) (by rw[dN,<-hl];exact h1) (by simpa using ew) ⟨rfl,fin⟩) hs
theorem a3D:oJ X Zr:=by
 intro value slice pins s σ H x y v u Q I rx ry h hs;obtain⟨z,i,c,rfl,rfl,hz,he,q⟩:=h;obtain⟨t,rfl⟩:=rx;obtain⟨t',rfl⟩:=ry;obtain⟨j,h1,h2,h3,h4,h5⟩:=IY he;have hl:z.cps.toList.length=z.length:=by simp[Str.length]
 rw[hl]at h1 h4 h5;have hn:=rK;exact tail_any (typeIs_str s z t) slot_str_getitem.lookup (getItem_str (c:=c) (by have e1:decide (i< -(2^63:Int))=false:=eg (by lia);have e2:decide (i>=2^63)=false:=eg (by lia);rw[e1,e2,Bool.or_false]) (by rw[h1];simpa using h2) ⟨.str ⟨#[c]⟩,H,I.tok _,⟨_,rfl⟩,q⟩) hs
theorem a2S(its:List Value)(n j:Nat)(u:Value):Obj.mapSeq (·.setIfInBounds j u) {cls:=.type "list",data:=.seq its.toArray n}={cls:=.type "list",data:=.seq (its.set j u).toArray n}:=by simp[Obj.mapSeq]
theorem Inv.lst{pins:List (Addr×Obj)}{σ:St}{H:Hp}{s:aaV}{p:Addr}{xs:List V}(I:Inv X pins σ H s)(h:H p=some (.lst xs)): ∃(its:List Value)(n:Nat),Vals xs its/\s.heap.get? p=some {cls:=.type "list",data:=.seq its.toArray n}/\xs.length<=sizeLine:=by obtain⟨z,its,n,r,e⟩:=I.hok p _ h;exact⟨its,n,r,e,z⟩
theorem Inv.a2Z{pins:List (Addr×Obj)}{σ:St}{H:Hp}{s:aaV}{p:Addr}{xs ys:List V}{its its':List Value}{n n':Nat}{f:Obj->Obj}(I:Inv X pins σ H s)(h:H p=some (.lst xs)) (ho:s.heap.get? p=some {cls:=.type "list",data:=.seq its.toArray n})(hf:f {cls:=.type "list",data:=.seq its.toArray n}={cls:=.type "list",data:=.seq its'.toArray n'})(r:Vals ys its')(hz:ys.length<=sizeLine)(t:Nat): Inv X pins σ (upd H p (.lst ys)) {s with heap:=s.heap.update p f,toks:=t}:=by
  have e:(s.heap.update p f).get? p=some {cls:=.type "list",data:=.seq its'.toArray n'}:=by rw[JO f ho (by rw[hf]<;>rfl),hf]
  refine I.write (x:=p) (e:=p) (by rw[h];trivial) (.inl rfl) (fun b u hb q=>(yR _ _ (ek hb)).trans q) ⟨_,e⟩ ?_;exact⟨hz,its',n',r,e⟩
inductive UP(o:V)(i:V)(v:V)(H:Hp)(Q:Hp->Prop):Prop |mk (p:_)(xs:_)(k:_)(j:_)(h0:o= .ref p)(h1:i= .int k)(h2:H p=some (.lst xs))(h3:jb xs.length k=some j)(h4:Q (upd H p (.lst (xs.set j v)))):UP o i v H Q
def Zo:V->V->V->Hp->(Hp->Prop)->Prop:=fun o i v H Q=>UP o i v H Q
theorem set_list:SU X Zo:=by
 intro pins s σ H o i v ov iv u Q I ro ri rv h;obtain⟨p,xs,k,j,rfl,rfl,hp,hj,q⟩:=h;cases ro;obtain⟨t,rfl⟩:=ri;obtain⟨its,n,r,ho,hz⟩:=I.lst hp;obtain⟨h1,h2,h3,h4⟩:=P9 hj;have hl:=r.length;have hn:=rK;have I':Inv X pins σ (upd H p (.lst (xs.set j v))) {s with heap:=s.heap.update p (Obj.mapSeq (·.setIfInBounds j u))}:=I.a2Z hp ho (a2S its n j u) (r.set rv j) (by rw[tR];exact hz) s.toks;by_cases h0:0<=k
 · have hk:k.toNat=j:=by rw[seqIndex_of h0 h4]at h1;exact dj h1
   exact PySem.W.ki_setAt ho h0 (by lia) (by rw[dN,<-hl];exact h4) (by rw[hk];exact⟨_,I',q⟩)
 · have hk:(k+(its.toArray.size:Int)).toNat=j:=by rw[seqIndex_neg (by lia) h3]at h1;rw[dN,<-hl];exact dj h1
   exact PySem.W.ki_setBack ho (by lia) (by rw[dN,<-hl];exact h3) (by lia) (by rw[hk];exact⟨_,I',q⟩)
theorem XI(lo hi:Option Int)(n:Nat):(sliceBounds lo hi none n).1=((HT.bU n 0 lo:Nat):Int)/\(sliceBounds lo hi none n).2.1=((HT.bU n n hi:Nat):Int)/\(sliceBounds lo hi none n).2.2=1:=by
 refine⟨?_,?_,rfl⟩
 ·cases lo with |none=>simp[sliceBounds,HT.bU] |some i=>
     simp only[sliceBounds,HT.bU,Option.getD_none,show(1:Int)>0 by decide,tL];by_cases h:i<0
     ·simp only[h,tL]<;>lia
     ·simp only[h,if_false]<;>lia
 ·cases hi with |none=>simp[sliceBounds,HT.bU] |some i=>
     simp only[sliceBounds,HT.bU,Option.getD_none,show(1:Int)>0 by decide,tL];by_cases h:i<0
     ·simp only[h,tL]<;>lia
     ·simp only[h,if_false]<;>lia
theorem XJ(its:List Value)(lo hi:Option Int):slicePick its.toArray lo hi none=((its.drop (HT.bU its.length 0 lo)).take (HT.bU its.length its.length hi-HT.bU its.length 0 lo)).toArray:=by obtain⟨h1,h2,h3⟩:=XI lo hi its.toArray.size;unfold slicePick;rw[h1,h2,h3];simp only[sliceRange_one,pick_run,dN]<;>rfl
inductive UN(K:aaU)(x:V)(lo:Option Int)(hi:Option Int)(H:Hp)(Q:VK):Prop |mk (a:_)(xs:_)(h0:x= .ref a)(h1:au K H a xs)(h2:∀p,H p=none->Q (.ref p) (upd H p (.lst (lP xs lo hi)))):UN K x lo hi H Q
def Zm(K:aaU):V->Option Int->Option Int->Hp->VK->Prop:=fun x lo hi H Q=>UN K x lo hi H Q
theorem XO:BD X (Zm X.K):=by intro pins s σ H x v vl vu lo hi sl Q I rx hs pl pu h;obtain⟨a,xs,rfl,hx,q⟩:=h;cases rx;obtain⟨its,r,ht,hz⟩:=I.list hx;have hlen:=r.length;refine⟨"list",_,slot_list_getitem.lookup,ht.isList.typeIs,?_⟩;refine wpAny_getItem_list_slice ht.isList hs pl pu .none (by simp) ?_ (by rw[dN]<;>lia);rw[XJ,<-hlen];refine⟨.ref s.heap.objs.size,_,I.laid (t':=s.toks) (o:=.lst (lP xs lo hi)) (fun b ob q=>bW _ q) (bo _) ?_,rfl,q _ (I.hok.fresh (bo _))⟩;exact⟨gR (RK xs lo hi) hz,_,0,(r.drop (HT.bU xs.length 0 lo)).take (HT.bU xs.length xs.length hi-HT.bU xs.length 0 lo),dP _ rfl⟩
theorem a8i:eV X (.builtin "len") (fun xs H Q=>∃p ys,xs=[.ref p]/\(au X.K H p ys\/aI X.K H p ys)/\Q (.int ys.length) H):=by
 intro pins s σ H xs us Q I r h;obtain⟨p,ys,rfl,hq,q⟩:=h;obtain⟨u,rfl,rx⟩:=vals1 r;cases rx;have hn:=rK;rcases hq with hq|hq
 · obtain⟨its,r',pl,hz⟩:=I.list hq
   have hlen:=r'.length;exact Calls.call_len_list pl.isList (by simp only[dN]<;>lia) ⟨.int ys.length,H,I.tok _,⟨s.toks+1,by rw[dN,hlen]⟩,q⟩
 · obtain⟨its,r',pl,hz⟩:=I.tuple hq
   have hlen:=r'.length;exact len_tuple pl (by simp only[dN]<;>lia) ⟨.int ys.length,H,I.tok _,⟨s.toks+1,by rw[dN,hlen]⟩,q⟩
theorem a8h:eV X (.builtin "len") (fun xs H Q=>∃z,xs=[.str z]/\z.length<=sizeLine/\Q (.int z.length) H):=by intro pins s σ H xs us Q I r h;obtain⟨z,rfl,hz,q⟩:=h;obtain⟨u,rfl,t,rfl⟩:=vals1 r;have hn:=rK;exact len_str (by lia) ⟨.int z.length,H,I.tok _,⟨_,rfl⟩,q⟩
theorem eV.or{f:Value}{r r':List V->Hp->VK->Prop}(h:eV X f r)(h':eV X f r'):eV X f (fun xs H Q=>r xs H Q\/r' xs H Q):=by
 intro pins s σ H xs us Q I rs q;rcases q with q|q
 ·exact h pins s σ H xs us Q I rs q
 ·exact h' pins s σ H xs us Q I rs q
theorem a8g:eV X (.type "list") (fun xs H Q=>∃p ys,xs=[.ref p]/\(au X.K H p ys\/aI X.K H p ys)/\∀l,H l=none->Q (.ref l) (upd H l (.lst ys))):=by
 intro pins s σ H xs us Q I r h;obtain⟨p,ys,rfl,hq,q⟩:=h;obtain⟨u,rfl,rx⟩:=vals1 r;cases rx;have fin:∀(its:List Value),Vals ys its->ys.length<=sizeLine->∀(h':Heap)(c':Nat),(∀b o',s.heap.get? b=some o'->h'.get? b=some o')->h'.get? s.heap.objs.size=some {cls:=.type "list",dict:=none,data:=.seq its.toArray c',slots:=#[]}->EP X pins σ Q (.ref s.heap.objs.size) {s with heap:=h'}:=fun its r' hz h' c' kp e=>⟨.ref s.heap.objs.size,_,I.laid (t':=s.toks) kp (bo _) (show fk X.prog X.w _ h' _ (.lst ys)from⟨hz,its,c',r',e⟩),rfl,q _ (I.hok.fresh (bo _))⟩;rcases hq with hq|hq
 · obtain⟨its,r',pl,hz⟩:=I.list hq
   have hlen:=r'.length;obtain⟨o,ho,hc,n,hd⟩:=pl.isList;exact call_list_seq p (.inl rfl) ho hc hd (fun h' c' kp e=>fin its r' hz h' c' kp e) (by simp only[dN]<;>lia)
 · obtain⟨its,r',pl,hz⟩:=I.tuple hq
   have hlen:=r'.length;obtain⟨o,ho,hc,n,hd⟩:=pl;exact call_list_seq p (.inr rfl) ho hc hd (fun h' c' kp e=>fin its r' hz h' c' kp e) (by simp only[dN]<;>lia)
theorem a8b:eV X (.type "tuple") (fun xs H Q=>∃p ys,xs=[.ref p]/\((au X.K H p ys/\∀l,H l=none->Q (.ref l) (upd H l (.tup ys)))\/(aI X.K H p ys/\Q (.ref p) H))):=by
 intro pins s σ H xs us Q I r h;obtain⟨p,ys,rfl,h⟩:=h;obtain⟨u,rfl,rx⟩:=vals1 r;cases rx;rcases h with⟨hq,q⟩|⟨hq,q⟩
 · obtain⟨its,r',pl,hz⟩:=I.list hq
   have hlen:=r'.length;refine call_tuple_list pl.isList (fun h' kp=>?_) (by simp only[dN]<;>lia);have I1:Inv X pins σ H {s with heap:=h'}:=I.kept (t':=s.toks) kp;have I2:Inv X pins σ (upd H h'.objs.size (.tup ys)) {s with heap:=h'.push {cls:=.type "tuple",data:=.seq its.toArray}}:=I1.laid (t':=s.toks) (fun b o e=>bW _ e) (bo _) (show fk X.prog X.w _ _ _ (.tup ys)from⟨hz,its,r',IsTup.new _ _⟩);exact⟨.ref h'.objs.size,_,I2,rfl,q _ (I1.hok.fresh (bo _))⟩
 · obtain⟨its,r',pl,hz⟩:=I.tuple hq
   exact call_tuple_same pl ⟨.ref p,H,I,rfl,q⟩
def K6(K:aaU)(T:String)(x:V)(H:Hp):Prop:=match x with | .str _=>T="str" | .int _=>T="int" | .ref p=>(T="list"/\∃xs,au K H p xs)\/(T="tuple"/\∃o,K.lookup p=some o/\o.cls= .type "tuple"/\o.dict=none)\/ (T="dict"/\((∃aG,H p=some (.dK aG))\/∃aG,H p=some (.dT aG)))\/(T="set"/\∃S n,H p=some (.set S n)) |_=>False
theorem Wy{pins:List (Addr×Obj)}{σ:St}{H:Hp}{s:aaV}{T:String}{x:V}{v:Value}(I:Inv X pins σ H s)(r:RelV x v)(ty:K6 X.K T x H): s.TypeIs v T/\∀a,v= .ref a->∃ob,s.heap.get? a=some ob/\ob.dict=none:=by cases x with
  |str z=>obtain⟨t,rfl⟩:=r;cases(show T="str" from ty);exact⟨typeIs_str s z t,fun _ e=>nomatch e⟩ |int i=>obtain⟨t,rfl⟩:=r;cases(show T="int" from ty);exact⟨typeIs_int s i t,fun _ e=>nomatch e⟩ |ref p=>
    cases r;rcases ty with⟨rfl,xs,hq⟩|⟨rfl,o,hk,hc,hd⟩|⟨rfl,hk⟩|⟨rfl,S,n,hk⟩
    · obtain⟨its,_,pl,_⟩:=I.list hq
      refine⟨pl.isList.typeIs,fun a e=>?_⟩;cases e;obtain⟨o,n,e,c,hd,_⟩:=pl;exact⟨o,e,hd⟩
    · refine⟨⟨o,I.gb p o hk,hc⟩,fun a e=>?_⟩
      cases e;exact⟨o,I.gb _ o hk,hd⟩
    · have z:∃o,s.heap.get? p=some o/\o.ExactDict:=by
        rcases hk with⟨aG,hk⟩|⟨aG,hk⟩
        · obtain⟨_,_,_,_,o,_,_,e,ex,_⟩:=I.hok p _ hk
          exact⟨o,e,ex⟩
        · obtain⟨_,_,_,_,o,_,_,e,ex,_⟩:=I.hok p _ hk
          exact⟨o,e,ex⟩
      obtain⟨o,e,ex⟩:=z;refine⟨⟨o,e,ex.1⟩,fun a e2=>?_⟩;cases e2;exact⟨o,e,ex.2.1⟩
    · obtain⟨o,_,_,_,e,ex,_⟩:=I.hok p _ hk
      refine⟨⟨o,e,ex.1⟩,fun a e2=>?_⟩;cases e2;exact⟨o,e,ex.2.1⟩ |_=>exact False.elim ty
def qF(K:aaU)(T:String)(r:V->List V->Hp->VK->Prop)(to:TE)(t:TA):TE:=fun σ H Q=>to σ H fun x H1=>K6 K T x H1/\t σ H1 fun xs H2=>r x xs H2 Q
variable {o e:Expr}{es:List Expr}{to:TE}{t:TA}{name:Str}{apos cm:Pos}{T id:String}{r:V->List V->Hp->VK->Prop}
theorem ux(pa:PlainAttrs T)(slot:Slot T name id)(Gu:typeOf (.builtin id)=pure (.type "method_descriptor"))(hm:BI X id r)(ho:PE X o to)(ha:PA X (e::es) t) (kD:attributeBase o name X.env (eval o X.env)=eval o X.env:=by rfl) (kB:((backTo cm (starEach (e::es) X.env)).all (fun x=>!x.1)&&(backToKw cm (keywordEach [] X.env)).all (fun x=>x.1.isSome) &&decide ((e::es).length+([]:List Keyword).length+(if([]:List Keyword).isEmpty then 0 else 1)<30))=true:=by rfl) (kA:(apos.endLine==cm.line)=true:=by rfl)(hs:starEach (e::es) X.env=(false,eval e X.env)::starEach es X.env:=by rfl)(kx:(backTo cm (starEach es X.env)).any (·.1)=false:=by rfl): PE X (.Call (.Attribute o name apos) (e::es) [] cm) (qF X.K T r to t):=by intro pins s σ H Q I h;refine wpAny_Call_method_late kD kB kA rfl (aM (ho pins s σ H _ I h) fun v s1 ⟨x,H1,I1,r1,ty,q1⟩=>?_);obtain⟨h1,h2⟩:=Wy I1 r1 ty;refine⟨T,id,pa,slot,Gu,h1,h2,?_⟩;have hA:=ha cm pins s1 σ H1 _ I1 q1;rw[hs]at hA⊢;refine Calls.callWith_builtin (by show(false||(backTo cm (starEach es X.env)).any (·.1))=false;rw[kx]<;>rfl) (Calls.evalArgs_plain ?_);exact aM hA fun us s2 ⟨vs,H2,I2,r2,q2⟩=>hm pins s2 σ H2 x vs v us Q I2 r1 r2 q2
end
end L2
namespace L2
open PySem PySem.Spec PyProof.Rows
def Jb(X:Cx)(id:String)(r:V->List V->Hp->VK->Prop):Prop:=∀(pins:List (Addr×Obj))(s:aaV)(σ:St)(H:Hp)(x:V)(xs:List V)(v:Value)(us:List Value)(Q:VK),Inv X pins σ H s->RelV x v->Vals xs us->r x xs H Q->wpAny (model X.prog X.w) X.A (call (.builtin id) (v::us)) (EP X pins σ Q) X.xe s
theorem Vals.one:∀{x:V}{us:List Value},Vals [x] us->∃u,us=[u]/\RelV x u |_,_,.cons r .nil=>⟨_,rfl,r⟩
theorem Vals.eraseIdx:∀{xs:List V}{us:List Value}(i:Nat),Vals xs us->Vals (xs.eraseIdx i) (us.eraseIdx i) |_,_,_,.nil=>.nil |_,_,0,.cons _ t=>t |_,_,i+1,.cons r t=>.cons r (Vals.eraseIdx i t)
theorem OV{α:Type}:∀(l:List α)(i:Nat),(l.eraseIdx i).length<=l.length |[],_=>bo _ |_::_,0=>Nat.le_succ _ |_::r,i+1=>Nat.succ_le_succ (OV r i)
section
variable {X:Cx}{pins:List (Addr×Obj)}{σ:St}{H:Hp}{s:aaV}{l b:Addr}{xs ys zs:List V}
theorem Inv.G4{its its':List Value}{n:Nat}{f:Array Value->Array Value}{t':Nat}(I:Inv X pins σ H s)(hH:H l=some (.lst xs)) (e:s.heap.get? l=some {cls:=.type "list",data:=.seq its.toArray n})(hf:f its.toArray=its'.toArray)(hv:Vals ys its')(hz:ys.length<=sizeLine): Inv X pins σ (upd H l (.lst ys)) {s with heap:=s.heap.update l (Obj.mapSeq f),toks:=t'}:=by have q:=PySem.IsL.update e f;rw[hf]at q;refine I.write (x:=l) (e:=l) (by rw[hH];exact trivial) (.inl rfl) (fun b' u hb hu=>(yR s.heap (Obj.mapSeq f) (ek hb)).trans hu) ⟨_,q⟩ ?_;exact⟨hz,its',_,hv,q⟩
theorem Inv.OP{its:List Value}{t':Nat}(I:Inv X pins σ H s)(hv:Vals ys its)(hz:ys.length<=sizeLine): Inv X pins σ (upd H s.heap.objs.size (.lst ys)) {s with heap:=s.heap.push {cls:=.type "list",data:=.seq its.toArray},toks:=t'}:=I.laid (fun _ _ q=>bW _ q) (bo _) ⟨hz,its,0,hv,dP _ rfl⟩
theorem Inv.Ae(I:Inv X pins σ H s)(hH:H l=some (.lst xs)):xs.length<=sizeLine/\∃(its:List Value)(n:Nat),Vals xs its/\xs.length=its.length/\s.heap.get? l=some {cls:=.type "list",data:=.seq its.toArray n}:=by obtain⟨z,its,n,r,e⟩:=I.hok l _ hH;exact⟨z,its,n,r,r.length,e⟩
theorem a2o{n:Nat}(h:n<=sizeLine):Builtin.List.listTooLong n=false:=by unfold Builtin.List.listTooLong;exact eg (by lia)
end
section
variable {X:Cx}
inductive V7(x:V)(vs:List V)(H:Hp)(Q:VK):Prop |mk (l:_)(xs:_)(y:_)(h0:x= .ref l)(h1:vs=[y])(h2:H l=some (.lst xs))(h3:xs.length<sizeLine)(h4:Q .aY (upd H l (.lst (xs++[y])))):V7 x vs H Q
def Nv:V->List V->Hp->VK->Prop:=fun x vs H Q=>V7 x vs H Q
theorem FX:Jb X "list.append" Nv:=by
 intro pins s σ H x vs v us Q I rx rv h;obtain⟨l,xs,y,rfl,rfl,hH,hz,q⟩:=h;cases rx;obtain⟨u,rfl,ru⟩:=rv.one;obtain⟨z,its,n,r,hl,e⟩:=I.Ae hH;refine yJ F.slot_list_append ⟨_,e,rfl⟩ F.entry_list_append (F.args_list_append_2 _ _) (PySem.list_append l its.toArray n u (by rw[dN];lia)) ⟨e,?_⟩;refine⟨.aY,_,I.G4 (its':=its++[u]) hH e (by simp) (r.append (.cons ru .nil)) ?_,rfl,q⟩;rw[fm,List.length_singleton]
 lia
inductive V4(x:V)(vs:List V)(H:Hp)(Q:VK):Prop |mk (l:_)(b:_)(xs:_)(zs:_)(h0:x= .ref l)(h1:vs=[.ref b])(h2:H l=some (.lst xs))(h3:H b=some (.lst zs))(h4:xs.length+zs.length<=sizeLine)(h5:Q .aY (upd H l (.lst (xs++zs)))):V4 x vs H Q
def Nu:V->List V->Hp->VK->Prop:=fun x vs H Q=>V4 x vs H Q
theorem a2I:Jb X "list.extend" Nu:=by
 intro pins s σ H x vs v us Q I rx rv h;obtain⟨l,b,xs,zs,rfl,rfl,hH,hB,hz,q⟩:=h;cases rx;obtain⟨u,rfl,ru⟩:=rv.one;cases ru;obtain⟨z,its,n,r,hl,e⟩:=I.Ae hH;obtain⟨z2,lF,n2,r2,pH,e2⟩:=I.Ae hB;have hsz:its.toArray.size+lF.toArray.size<=sizeLine:=by rw[dN,dN];lia
 have a4Q:¬(!its.toArray.isEmpty&&Builtin.List.listTooLong (its.toArray.size+lF.toArray.size))=true:=by rw[a2o hsz,Bool.and_false];exact jK
 refine yJ F.slot_list_extend ⟨_,e,rfl⟩ F.entry_list_extend (F.args_list_extend_2 _ _) (AutoSeq1.list_extend_list_list_0 l its.toArray n b lF.toArray n2 a4Q (by rw[dN];lia) (by lia)) ⟨e,e2,?_⟩;refine⟨.aY,_,I.G4 (its':=its++lF) hH e (by simp) (r.append r2) ?_,rfl,q⟩;rw[fm]
 lia
inductive UQ(x:V)(vs:List V)(H:Hp)(Q:VK):Prop |mk (l:_)(xs:_)(i:_)(k:_)(y:_)(h0:x= .ref l)(h1:vs=[.int i])(h2:H l=some (.lst xs))(h3:-(2^63)<=i)(h4:i<2^63)(h5:seqIndex? i xs.length=some k)(h6:xs[k]? =some y)(h7:Q y (upd H l (.lst (xs.eraseIdx k)))):UQ x vs H Q
def Nt:V->List V->Hp->VK->Prop:=fun x vs H Q=>UQ x vs H Q
theorem a2H:Jb X "list.pop" Nt:=by
 intro pins s σ H x vs v us Q I rx rv h;obtain⟨l,xs,i,k,y,rfl,rfl,hH,h1,h2,hk,hy,q⟩:=h;cases rx;obtain⟨u,rfl,ru⟩:=rv.one;obtain⟨t,rfl⟩:=ru;obtain⟨z,its,n,r,hl,e⟩:=I.Ae hH;obtain⟨w,hw,iO⟩:=r.get hy;refine yJ F.slot_list_pop ⟨_,e,rfl⟩ F.entry_list_pop (F.args_list_pop_2 _ _) (MeetsSeq.list_pop_at l its.toArray n i t k w (fitsIndex_both h1 h2) (by rw[dN,<-hl];exact hk) (by rw[<-Array.getElem?_toList];exact hw) (by rw[dN];lia)) ⟨e,?_⟩;refine⟨y,_,I.G4 (its':=its.eraseIdx k) hH e ?_ (r.eraseIdx k) ?_,iO,q⟩
 · show its.toArray.eraseIdxIfInBounds k=(its.eraseIdx k).toArray
   rw[List.eraseIdxIfInBounds_toArray]
 · have:=OV xs k
   lia
end
section
variable {prog:aaW}{w:World}{A:aaY}{E:Value->aaV->Prop}{s:aaV}
end
section
variable {X:Cx}
end
end L2
namespace Att
open PySem PySem.W PySem.Calls PyProof.Rows
theorem a3S{P:Params}{h:Heap}:∀(ns:List Int)(vs:List Value),WellAll P h vs (ns.map WData.int)->IntsAre vs ns:=by intro ns;induction ns with |nil=>intro vs w;rw[List.map_nil]at w;cases w;exact .nil |cons n ns ih=>intro vs w;rw[mY]at w;cases w with |cons a b=>cases a;exact .cons _ _ (ih _ b)
theorem Y6{l:OpenLaw}{n:Nat}(hn:l.most=some n){P:Params}{h:Heap}{args:List WData}{vals:List Value} (AE:l.row.toRowW.claim.pre args=true)(Gs:WellAll P h vals args): ∃a vs ns,vals=[Value.ref a]/\args=[WData.list (ns.map WData.int)]/\h.get? a=some {cls:=.type "list",data:=.seq vs.toArray}/\IntsAre vs ns/\ns.length<=n:=by
  have hsh:WShape.hasAll [] args [.list .int]=true:=(pre_splitW AE).1;have hc:l.pre.holds [] {args:=args}=true:=(pre_splitW AE).2;obtain⟨d,r,rfl,h1,h2⟩:=hasAllW_cons hsh;obtain rfl:=hasAllW_nil h2;obtain⟨xs,rfl,h3⟩:=hasW_list h1;obtain⟨ns,rfl⟩:=items_int h3;have hlen:ns.length<=n:=by
   unfold OpenLaw.pre at hc;have h4:(WTm.not (.lt (.lit (.int (n:Int))) (.len (.arg 0)))).holds [] {args:=[.list (ns.map .int)]}=true:=by have h4:=(holds_andW hc).1;rw[hn]at h4;exact h4
   have h5:=condW_of h4 (w_not (w_lt w_lit (w_len_list (w_arg rfl))));rw[bT]at h5;refine Nat.le_of_not_lt fun q=>?_;have q':(n:Int)<((ns.length:Nat):Int):=by omega
   first |(rw[ck q']at h5;exact absurd h5 (by decide)) |(simp at h5;omega)
  cases Gs with |cons w1 w2=>cases w2;cases w1 with |list ho Hc=>exact⟨_,_,ns,rfl,rfl,ho,a3S ns _ Hc,hlen⟩
theorem ZM(l:OpenLaw)(args:List WData):l.row.toRowW.claim.post args (.bool true) args=true:=postW_of (r:=l.row.toRowW) (X:=(true==true)) (show WShape.has [] (.bool true) .bool=true by first|rfl|decide|simp[WShape.has,WShape.arms,WShape.armsAll]) (show(WTm.eq .res (.lit (.bool true))).value [] {args:=args,res:=some (.bool true),after:=args}=some (.bool (true==true))from w_eq_bool (w_res rfl) w_lit) rfl
theorem a8G{l:OpenLaw}{n:Nat}{q:aaW}{loose:List Str}{XP:(Str->Option Value)->Heap->Prop}{YP:World->Heap->Prop}{d:DefRec} (hn:l.most=some n)(sj:d.params.defaults=[]) (call:∀(w:World)(s₀ s₁:aaV)(mg mb:Str->Option Value)(fa:Addr)(o:Obj)(pm cd doc:Value)(a:Addr)(vs:List Value)(ns:List Int),Ground q loose [] XP w s₀ mg mb s₁.heap->YP w s₁.heap->s₁.heap.get? fa=some o->o.data= .func (docDef d.name d.params d.body d.scope pm cd doc)->s₁.heap.CodeRec cd d.name->mg d.name=some (.ref fa)->s₁.heap.get? a=some {cls:=.type "list",data:=.seq vs.toArray}->IntsAre vs ns->ns.length<=n->s₁.gens=#[]->codeAny (model l.prog w) callerA (.call (.ref fa) ⟨[.ref a],[]⟩) (fun r s'=>r= .ok (.ret (.bool true))/\OldK s₁.heap s'.heap/\s'.os=s₁.os/\AllBare s'.gens) s₁): WalkO q loose XP YP l.row.toRowW d [] (fun f vs=>PySem.call f vs):=by intro w s₀ s₁ mg mb G Y fa o pm cd doc dV kV ho hd gA hD GL hg args vals as AE aaf hrd Gs hlo;obtain rfl:dV= .none:=Dflts.none hD sj;obtain rfl:kV= .none:=Dflts.noKw hD;obtain⟨a,vs,ns,rfl,rfl,GD,hints,hlen⟩:=Y6 hn AE Gs;refine enter_call (yI (call w s₀ s₁ mg mb fa o pm cd doc a vs ns G Y ho (fd_plain hd) gA GL GD hints hlen hg) fun r s' hq=>?_);obtain⟨rfl,h2,h3,h4⟩:=hq;exact⟨.inl ⟨.bool true,.bool true,[],rfl,fun _=>rfl,.bool true,ZM l _,fun _=>⟨List.Pairwise.nil,fun _ hm=>(nomatch hm)⟩⟩,h2,h3,h4⟩
section
variable {prog:aaW}{w:World}{A:aaY}{E:Value->aaV->Prop}{s:aaV}{K:Frag}
end
end Att
namespace L2
open PySem PySem.Spec PyProof.Rows
theorem JX:∀{vs:List Value}{ns:List Int},IntsAre vs ns->Vals (ns.map V.int) vs |_,_,.nil=>.nil |_,_,.cons n t h=>.cons ⟨t,rfl⟩ (JX h)
def inClass(s:Stmt)(j:Nat):Stmt:=match s with | .ClassDef _ _ _ body _ _ _ _ _ _ _=>body.getD j (.Pass ⟨0,0,0,0⟩) |_=>.Pass ⟨0,0,0,0⟩
def jB(s:Stmt):Arguments:=match s with | .FunctionDef _ a _ _ _ _ _ _ _ _=>a |_=>{posonlyargs:=[],args:=[],vararg:=none,kwonlyargs:=[],kw_defaults:=[],kwarg:=none,defaults:=[]}
def gd(s:Stmt):List Stmt:=match s with | .FunctionDef _ _ b _ _ _ _ _ _ _=>b |_=>[]
def aK(s:Stmt):Scope:=match s with | .FunctionDef _ _ _ _ _ _ sc _ _ _=>sc |_=>{kind:=.function,names:=[],isGenerator:=false,isCoroutine:=false}
abbrev iX:jH:=fun _ _ _ _ _ _=>False
abbrev E0:XK:=fun _ _ _=>False
theorem zY{X:Cx}:Passes iX X E0:=fun _ _ _ _ _ _ _ h=>h.elim
structure jE(K:aaU)(x qual:Str)(st:Stmt)(f:Addr)(fd:FuncData):Prop where
 ex:∃(oc:Value)(od:Option Addr)(kV doc pm:Value)(an:Option Addr)(aD ct:Value)(fP:Array (Option Value)),fd=PySem.W.fnOf x qual (jB st) (gd st) (aK st) .none kV doc pm an aD ct/\K.lookup f=some ⟨oc,od,.func fd,fP⟩/\PySem.W.codeIn K aD qual=true
 kp:PySem.W.keepIn K (.ref f)=true
section
variable {P:aaW}{w:World}{K:aaU}{mg:Str->Option Value}{base:Heap}
theorem jE.ok{x qual:Str}{st:Stmt}{f:Addr}{fd:FuncData}{N ps:List Str}{k:Nat}{sp:Sp}(F:jE K x qual st f fd)(S:aW N ps (aK st))(len:∀vs H Q E,sp vs H Q E->vs.length=ps.length) (ie:∀(aD:Value)(A:aaY)(outer:List Env)(s:aaV)(H:Hp)(vs:List V)(Q:VK)(E:XK),cu k (A.deeper (envOfC qual (aK st) s.heap.objs.size f aD))->sp vs H Q E->∃t,gD (iJ iX P w K mg base N qual (aK st) f aD A outer s H E).nS (gd st) t/\t {nx:=fun _ H'=>Q .aY H',rt:=Q} (start N vs) H):iK P w K mg base iX (k+1) f fd ps sp:=by obtain⟨oc,od,kV,doc,pm,an,aD,ct,fP,rfl,lk,gA⟩:=F.ex;refine Hx lk gA S len fun A outer s H vs Q E hr iT=>?_;obtain⟨t,h,q⟩:=ie aD A outer s H vs Q E hr iT;exact⟨t,h.nS,q⟩
theorem jE.binds{x qual:Str}{st:Stmt}{f:Addr}{fd:FuncData}{ps:List Str}(F:jE K x qual st f fd) (h:∀(kV doc pm:Value)(an:Option Addr)(aD ct:Value)(us:List Value),us.length=ps.length->bindArgs (PySem.W.fnOf x qual (jB st) (gd st) (aK st) .none kV doc pm an aD ct) ⟨us,[]⟩=pure (ps.zip us)):Binds K fd ps []:=by obtain⟨oc,od,kV,doc,pm,an,aD,ct,fP,rfl,lk,gA⟩:=F.ex;exact .all (h kV doc pm an aD ct)
theorem B8{x qual:Str}{st:Stmt}{f:Addr}{oc:Value}{od an:Option Addr}{fP:Array (Option Value)}{kV doc pm aD ct:Value}(l:K.lookup f=some ⟨oc,od,.func (PySem.W.fnOf x qual (jB st) (gd st) (aK st) .none kV doc pm an aD ct),fP⟩) (c:PySem.W.codeIn K aD qual=true)(k:PySem.W.keepIn K (.ref f)=true):jE K x qual st f (PySem.W.fnOf x qual (jB st) (gd st) (aK st) .none kV doc pm an aD ct):=⟨⟨oc,od,kV,doc,pm,an,aD,ct,fP,rfl,l,c⟩,k⟩
end
section
variable {X:Cx}
theorem pv(i:Nat){x:Str}{pos:Pos}(hN:X.N[i]? =some x:=by rfl)(hv:BA X.env.scope x:=by first|exact Or.inl rfl|exact Or.inr (Or.inl rfl)|exact Or.inr (Or.inr rfl))(hd:(x==("__debug__":Str))=false:=by decide) (gA:(x==("__classdict__":Str))=false:=by decide):PE X (.Name x pos) (u6 i):=NG hN hv hd gA
end
theorem bf{A B:Prop}(h:B):if false=true then A else B:=by rw[aP jK];exact h
theorem bF{A B:Prop}(h:A):if true=true then A else B:=by rw[aO rfl];exact h
theorem dC{c A B:Prop}[Decidable c](h1:c->A)(h2:¬c->B):if c then A else B:=by
 by_cases h:c
 · rw[aO h]
   exact h1 h
 · rw[aP h]
   exact h2 h
def ak(H H':Hp):Prop:=∀b o,H b=some o->H' b=some o
theorem ak.refl(H:Hp):ak H H:=fun _ _ h=>h
theorem ak.trans{H H1 H2:Hp}(a:ak H H1)(b:ak H1 H2):ak H H2:=fun c o h=>b c o (a c o h)
theorem ak.seq{K:aaU}{H H':Hp}{a:Addr}{xs:List V}(e:ak H H')(h:au K H a xs):au K H' a xs:=by
 rcases h with(h|⟨o,h⟩)|h
 ·exact .inl (.inl (e _ _ h))
 ·exact .inl (.inr ⟨o,e _ _ h⟩)
 ·exact .inr h
def Wd (i:Int):Prop:=i.natAbs<2^5000
theorem Wd.bits{i:Int}(h:Wd i):Builtin.Int.intBits i<=2^20:=gR (PyProof.Rows.intBits_le h) (by decide)
theorem Wd.log{i:Int}(h:Wd i):i.natAbs.log2<9000:=by
 by_cases e:i.natAbs=0
 ·rw[e];decide
 · have h1:i.natAbs.log2<5000:=(Nat.log2_lt e).mpr h
   lia
section
variable {X:Cx}
theorem lD:cS X (binaryOp .FloorDiv) (rI (fun _ j=>0<j/\Wd j) fun i j=>.int (i/j)):=xb fun i j _ _ _ _ _ hc q=>by have h1:(0:Int)<j:=hc.1;exact floordiv_int (by lia) (by rw[VU i (by lia)];exact q) (.inl (PyProof.noPylong_of_log2 hc.2.log))
theorem O1:cS X (binaryOp .FloorDiv) (rI (fun _ j=>j≠0/\Wd j) fun i j=>.int (i.fdiv j)):=xb fun _ _ _ _ _ _ _ hc q=>floordiv_int hc.1 q (.inl (PyProof.noPylong_of_log2 hc.2.log))
end
def tm(K:aaU)(H:Hp)(x:V)(T:String):Prop:=match x with | .aY=>T="NoneType" | .bl _=>T="bool" | .int _=>T="int" | .str _=>T="str" | .ref a=>(T="list"/\∃xs,au K H a xs)\/(T="tuple"/\∃xs,aI K H a xs) |_=>False
def iz(T n:String):Bool:=T==n||(T=="bool"&&n=="int")
def zd:List String:=["NoneType","bool","int","str","list","tuple"]
def wk:List String:=["bool","int","str","list","tuple"]
theorem P7{K:aaU}{T n:String}(h1:T∈zd)(h2:n∈wk):PySem.W.kitOne K (.type T) (.type n)=some (iz T n):=by
 have all:zd.all (fun T=>wk.all fun n=>PySem.W.kitOne [] (.type T) (.type n)==some (iz T n))=true:=by decide+kernel
 have a1:=iy.mp all T h1;have a2:=iy.mp a1 n h2;have e:PySem.W.kitOne K (.type T) (.type n)=PySem.W.kitOne [] (.type T) (.type n):=by unfold PySem.W.kitOne PySem.W.kitCls PySem.W.subIn;rfl
 rw[e];exact fC.mp a2
section
variable {X:Cx}
theorem tm.mem{K:aaU}{H:Hp}{x:V}{T:String}(h:tm K H x T):T∈zd:=by cases x with |aY=>cases(show T="NoneType" from h);decide |bl b=>cases(show T="bool" from h);decide |int b=>cases(show T="int" from h);decide |str b=>cases(show T="str" from h);decide |ref a=>rcases(show(T="list"/\∃xs,au K H a xs)\/(T="tuple"/\∃xs,aI K H a xs)from h)with⟨e,_⟩|⟨e,_⟩<;>cases e<;>decide |_=>exact(show False from h).elim
theorem P8{pins:List (Addr×Obj)}{s:aaV}{σ:St}{H:Hp}{x:V}{u:Value}{T:String}(I:Inv X pins σ H s)(rx:RelV x u)(ty:tm X.K H x T): ∃P:Heap->Prop,PySem.W.KitX X.K u (.type T) P/\P s.heap/\u≠ .builtin "__main__.__loader__#opaque":=by cases x with
  |aY=>cases(show T="NoneType" from ty);cases(show u=Value.none from rx);exact⟨_,PySem.W.kitx_none,True.intro,fun z=>nomatch z⟩ |bl b=>cases(show T="bool" from ty);cases(show u=Value.bool b from rx);exact⟨_,PySem.W.kitx_bool,True.intro,fun z=>nomatch z⟩ |int b=>cases(show T="int" from ty);obtain⟨t,q⟩:=(show∃t,u=Value.int b t from rx);cases q;exact⟨_,PySem.W.kitx_int,True.intro,fun z=>nomatch z⟩ |str b=>cases(show T="str" from ty);obtain⟨t,q⟩:=(show∃t,u=Value.str b t from rx);cases q;exact⟨_,PySem.W.kitx_str,True.intro,fun z=>nomatch z⟩ |ref a=>
    cases(show u=Value.ref a from rx);rcases(show(T="list"/\∃xs,au X.K H a xs)\/(T="tuple"/\∃xs,aI X.K H a xs)from ty)with⟨e,xs,hx⟩|⟨e,xs,hx⟩
    · cases e
      obtain⟨its,r,⟨o,n,h1,h2,_⟩,_⟩:=I.list hx;exact⟨_,PySem.W.kitx_list,⟨o,h1,h2⟩,fun z=>nomatch z⟩
    · cases e
      obtain⟨its,r,⟨o,h1,h2,_⟩,_⟩:=I.tuple hx;exact⟨_,PySem.W.kitx_tuple,⟨o,h1,h2⟩,fun z=>nomatch z⟩ |_=>exact(show False from ty).elim
inductive UY(K:aaU)(xs:List V)(H:Hp)(Q:VK):Prop |mk (x:_)(T:_)(n:_)(b:_)(h0:xs=[x,.ty n])(h1:tm K H x T)(h2:n∈wk)(h3:iz T n=b)(h4:Q (.bl b) H):UY K xs H Q
def Fh(K:aaU):List V->Hp->VK->Prop:=fun xs H Q=>UY K xs H Q
theorem a8k:eV X (.builtin "isinstance") (Fh X.K):=by intro pins s σ H xs us Q I r h;obtain⟨x,T,n,b,rfl,ty,hn,rfl,q⟩:=h;obtain⟨u,c,rfl,rx,rc⟩:=vals2 r;cases(show c=Value.type n from rc);obtain⟨P,Z,p,hx⟩:=P8 I rx ty;exact PySem.W.kia_one Z I.gb p (P7 ty.mem hn) hx fun tk=>⟨.bl (iz T n),H,I.tok _,rfl,q⟩
inductive UX(K:aaU)(xs:List V)(H:Hp)(Q:VK):Prop |mk (x:V)(T:String)(p:Addr)(ns:List String)(b:Bool)(h0:xs=[x,.ref p])(h1:H p=some (.tup (ns.map V.ty)))(h2:tm K H x T)(h3:(∀n∈ns,n∈wk))(h4:ns.any (iz T)=b)(h5:Q (.bl b) H):UX K xs H Q
def Fg(K:aaU):List V->Hp->VK->Prop:=fun xs H Q=>UX K xs H Q
theorem P6{K:aaU}{T:String}(h1:T∈zd):∀{ns:List String},(∀n∈ns,n∈wk)->PySem.W.kitAny K (.type T) (ns.map Value.type)=some (ns.any (iz T)) |[],_=>rfl |n::r,h=>by have e:=P7 (K:=K) h1 (h n (JE ..));have ih:=P6 (K:=K) h1 (ns:=r) fun m hm=>h m (tQ _ hm);rw[mY,PySem.W.kitAny,e,tT];cases iz T n with |true=>rfl |false=>simpa using ih
theorem JV:∀{ns:List String}{us:List Value},Vals (ns.map V.ty) us->us=ns.map Value.type |[],_,.nil=>rfl |n::r,_,.cons q t=>by cases(show _=Value.type n from q);rw[JV t];rfl
theorem a8j:eV X (.builtin "isinstance") (Fg X.K):=by intro pins s σ H xs us Q I r h;obtain⟨x,T,p,ns,b,rfl,hp,ty,hn,rfl,q⟩:=h;obtain⟨u,c,rfl,rx,rc⟩:=vals2 r;cases(show c=Value.ref p from rc);obtain⟨P,Z,pp,hx⟩:=P8 I rx ty;obtain⟨_,its,rv,⟨cls,dd,dt,sl⟩,h1,h2,n,h3⟩:=(show fk X.prog X.w H s.heap p (.tup (ns.map V.ty))from I.hok p _ hp);simp only at h2 h3;subst h2 h3;have e:=JV rv;subst e;exact PySem.W.kia_tup Z I.gb pp h1 (P6 ty.mem hn) hx fun tk=>⟨.bl _,H,I.tok _,rfl,q⟩
end
mutual
def RD(K:aaU)(H:Hp):V->aaX->Prop |x,.none=>x= .aY |x,.bool b=>x= .bl b |x,.int i=>x= .int i |x,.str y=>x= .str y |x,.list ds=>∃a xs,x= .ref a/\au K H a xs/\aE K H xs ds |x,.tuple ds=>∃a xs,x= .ref a/\aI K H a xs/\aE K H xs ds |_,.dict _=>False
def aE (K:aaU)(H:Hp):List V->List aaX->Prop |xs,[]=>xs=[] |xs,d::ds=>∃y ys,xs=y::ys/\RD K H y d/\aE K H ys ds
end
section
variable {X:Cx}
mutual
theorem RD.reads{pins:List (Addr×Obj)}{s:aaV}{σ:St}{H:Hp}(I:Inv X pins σ H s):∀{x:V}{u:Value}(d:aaX),RelV x u->RD X.K H x d->∃as,Reads s.heap u d as |x,u,.none,r,h=>by cases(show x= .aY from by simpa[RD]using h);cases(show u=Value.none from r);exact⟨_,.none⟩ |x,u,.bool b,r,h=>by cases(show x= .bl b from by simpa[RD]using h);cases(show u=Value.bool b from r);exact⟨_,.bool b⟩ |x,u,.int i,r,h=>by cases(show x= .int i from by simpa[RD]using h);obtain⟨t,q⟩:=(show∃t,u=Value.int i t from r);cases q;exact⟨_,.int i t⟩ |x,u,.str y,r,h=>by cases(show x= .str y from by simpa[RD]using h);obtain⟨t,q⟩:=(show∃t,u=Value.str y t from r);cases q;exact⟨_,.str y t⟩ |x,u,.list ds,r,h=>by rw[RD]at h;obtain⟨a,xs,rfl,hx,hd⟩:=h;cases(show u=Value.ref a from r);obtain⟨its,rv,⟨o,n,h1,h2,h3,h4⟩,_⟩:=I.list hx;obtain⟨as,q⟩:=aE.reads I ds rv hd;exact⟨_,.list h1 h2 h4 (by simpa using q)⟩ |x,u,.tuple ds,r,h=>by rw[RD]at h;obtain⟨a,xs,rfl,hx,hd⟩:=h;cases(show u=Value.ref a from r);obtain⟨its,rv,⟨o,h1,h2,n,h4⟩,_⟩:=I.tuple hx;obtain⟨as,q⟩:=aE.reads I ds rv hd;exact⟨_,.tuple h1 h2 h4 (by simpa using q)⟩ |x,u,.dict _,r,h=>by simp[RD]at h
theorem aE.reads {pins:List (Addr×Obj)}{s:aaV}{σ:St}{H:Hp}(I:Inv X pins σ H s):∀{xs:List V}{us:List Value}(ds:List aaX),Vals xs us->aE X.K H xs ds->∃as,ReadsAll s.heap us ds as |xs,us,[],r,h=>by cases(show xs=[]from by simpa[aE]using h);cases r;exact⟨_,.nil⟩ |xs,us,d::ds,r,h=>by rw[aE]at h;obtain⟨y,ys,rfl,h1,h2⟩:=h;cases r with |cons ra rb=>obtain⟨as,q⟩:=RD.reads I d ra h1;obtain⟨bs,q'⟩:=aE.reads I ds rb h2;exact⟨_,.cons q q'⟩
end
inductive V5(K:aaU)(x:V)(y:V)(H:Hp)(Q:VK):Prop |mk (d:_)(e:_)(h0:RD K H x d)(h1:RD K H y e)(h2:SeqAt.shaped d=true)(h3:SeqAt.shaped e=true)(h4:Q (.bl (PyData.eqv d e)) H):V5 K x y H Q
def Fi(K:aaU):R2:=fun x y H Q=>V5 K x y H Q
inductive UR(K:aaU)(x:V)(y:V)(H:Hp)(Q:VK):Prop |mk (d:_)(e:_)(h0:RD K H x d)(h1:RD K H y e)(h2:SeqAt.shaped d=true)(h3:SeqAt.shaped e=true)(h4:Q (.bl (!PyData.eqv d e)) H):UR K x y H Q
def Fd(K:aaU):R2:=fun x y H Q=>UR K x y H Q
theorem a0x(hu:X.A.units+64<cLine):cS X (compareOp .Eq) (Fi X.K):=by intro pins s σ H x y v u Q I rx ry h;obtain⟨d,e,hd,he,sd,se,q⟩:=h;obtain⟨as,ra⟩:=RD.reads I d rx hd;obtain⟨bs,rb⟩:=RD.reads I e ry he;exact eq_dataH ra rb sd se hu ⟨.bl _,H,I,rfl,q⟩
theorem a0s(hu:X.A.units+64<cLine):cS X (compareOp .NotEq) (Fd X.K):=by intro pins s σ H x y v u Q I rx ry h;obtain⟨d,e,hd,he,sd,se,q⟩:=h;obtain⟨as,ra⟩:=RD.reads I d rx hd;obtain⟨bs,rb⟩:=RD.reads I e ry he;exact ne_dataH ra rb sd se hu ⟨.bl _,H,I,rfl,q⟩
end
end L2
namespace L2
open PySem PySem.Spec PyProof.Rows
theorem ak.new{H:Hp}{t:Addr}{o:HO}(ht:H t=none):ak H (upd H t o):=fun b o' e=>by rw[aB (fH e ht)];exact e
structure Nw(H H':Hp)(p:Addr)(o:HO):Prop where
 no:H p=none
 at':H' p=some o
 same:ak H H'
 eq:H'=upd H p o
theorem Nw.of{H:Hp}{p:Addr}{o:HO}(h:H p=none):Nw H (upd H p o) p o:=⟨h,aQ,.new h,rfl⟩
def Bs:List Str:=["len","abs","min","max","range","isinstance","int","bool","str","tuple","list","any","all","sum","zip","enumerate","sorted","reversed","ord","chr","divmod","repr","dict","set"]
def bw(mg:Str->Option Value):Prop:=∀x∈Bs,mg x=none
theorem bw.at{mg:Str->Option Value}(B:bw mg)(x:Str)(h:x∈Bs:=by decide):mg x=none:=B x h
theorem dJ{α:Type}{C:List α->Prop}(h:∀a,C [a]):∀us:List α,us.length=1->C us |[_],_=>h _
theorem cW{α:Type}{C:List α->Prop}(h:∀a b,C [a,b]):∀us:List α,us.length=2->C us |[_,_],_=>h _ _
theorem mL{α:Type}{C:List α->Prop}(h:∀a b c,C [a,b,c]):∀us:List α,us.length=3->C us |[_,_,_],_=>h _ _ _
theorem Bx{α:Type}{C:List α->Prop}(h:∀a b c d,C [a,b,c,d]):∀us:List α,us.length=4->C us |[_,_,_,_],_=>h _ _ _ _
def Qy(N P:List Str)(sc:Scope):Bool:=decide (sc.kind= .function)&& !sc.isCoroutine&& !sc.isGenerator&&decide N.Nodup&&decide (N.take P.length=P)&&P.all (fun x=>decide (sc.names.lookup x=some .local\/sc.names.lookup x=some .cell))&&sc.names.all fun y=>decide (y.2≠ .free)
theorem bh{N P:List Str}{sc:Scope}(h:Qy N P sc=true):aW N P sc:=by unfold Qy at h;simp only[eu,BS,VX,iy]at h;obtain⟨⟨⟨⟨⟨⟨h1,h2⟩,h3⟩,h4⟩,h5⟩,h6⟩,h7⟩:=h;exact⟨h1,h2,h3,h4,h5,h6,h7⟩
structure FA(K:aaU)(mg:Str->Option Value)(x:Str)(st:Stmt):Prop where ex:∃f fd,mg x=some (.ref f)/\jE K x x st f fd
def aj(P:aaW)(w:World)(K:aaU)(mg:Str->Option Value)(base:Heap)(x:Str)(k:Nat)(sp:Sp):Prop:=∃f fd ps,iK P w K mg base iX k f fd ps sp/\mg x=some (.ref f)/\PySem.W.keepIn K (.ref f)=true/\Binds K fd ps []
section
variable {P:aaW}{w:World}{K:aaU}{mg:Str->Option Value}{base:Heap}
theorem a6Y{h:Heap}{x:Str}{st:Stmt}{f:Addr}{oc:Value}{od an:Option Addr}{fP:Array (Option Value)}{kV doc pm aD ct:Value}(X:K.In h)(G:h.Ns mainGlobals mg) (a:PySem.W.nsIn K mainGlobals x=some (some (.ref f))) (l:K.lookup f=some ⟨oc,od,.func (PySem.W.fnOf x x (jB st) (gd st) (aK st) .none kV doc pm an aD ct),fP⟩) (c:PySem.W.codeIn K aD x=true)(k:PySem.W.keepIn K (.ref f)=true):FA K mg x st:=⟨f,_,vR X G a,B8 l c k⟩
theorem FA.has{x:Str}{st:Stmt}{N ps:List Str}{k:Nat}{sp:Sp}(F:FA K mg x st)(S:aW N ps (aK st))(len:∀vs H Q E,sp vs H Q E->vs.length=ps.length) (hb:∀(kV doc pm:Value)(an:Option Addr)(aD ct:Value)(us:List Value),us.length=ps.length->bindArgs (PySem.W.fnOf x x (jB st) (gd st) (aK st) .none kV doc pm an aD ct) ⟨us,[]⟩=pure (ps.zip us)) (ie:∀(f:Addr)(aD:Value)(A:aaY)(outer:List Env)(s:aaV)(H:Hp)(vs:List V)(Q:VK)(E:XK),cu k (A.deeper (envOfC x (aK st) s.heap.objs.size f aD))->sp vs H Q E->∃t,gD (iJ iX P w K mg base N x (aK st) f aD A outer s H E).nS (gd st) t/\t {nx:=fun _ H'=>Q .aY H',rt:=Q} (start N vs) H):aj P w K mg base x (k+1) sp:=by obtain⟨f,fd,hm,F⟩:=F.ex;exact⟨f,fd,ps,F.ok S len fun aD A outer s H vs Q E=>ie f aD A outer s H vs Q E,hm,F.kp,F.binds hb⟩
end
section
variable {X:Cx}{k:Nat}{x:Str}{p pos:Pos}{e:Expr}{es:List Expr}{t:TA}{sp:Sp}
def Kk(sp:Sp)(t:TA):TE:=fun σ H Q=>t σ H fun vs H1=>sp vs H1 Q E0
theorem nP(F:aj X.prog X.w X.K X.mg X.base x k sp)(hr:cu k X.A)(hg:Gl X x)(ha:PA X (e::es) t)(iV:(x==("__debug__":Str))=false:=by decide) (he:starEach (e::es) X.env=(false,eval e X.env)::starEach es X.env:=by rfl)(fR:(backTo pos (starEach es X.env)).any (·.1)=false:=by rfl): PE X (.Call (.Name x p) (e::es) [] pos) (Kk sp t):=by
  obtain⟨f,fd,ps,F,hm,hk,hb⟩:=F;have h:=a0b (pos:=pos) (p:=p) F hr hg hm hk hb .nil zY ha iV he fR;intro pins s σ H Q I hq;refine h pins s σ H Q I ?_;have e1:(fun(vs:List V) H1=>sp (vs++[]) H1 Q E0)=fun vs H1=>sp vs H1 Q E0:=by funext vs H1;rw[C9]
  show t σ H fun vs H1=>sp (vs++[]) H1 Q E0;rw[e1];exact hq
theorem pf{j:Nat}(F:aj X.prog X.w X.K X.mg X.base x j sp)(hr:cu k X.A)(ha:PA X (e::es) t)(hjk:j<=k:=by decide)(hg:Gl X x:=by rfl)(iV:(x==("__debug__":Str))=false:=by decide)(he:starEach (e::es) X.env=(false,eval e X.env)::starEach es X.env:=by rfl)(fR:(backTo pos (starEach es X.env)).any (·.1)=false:=by rfl):PE X (.Call (.Name x p) (e::es) [] pos) (Kk sp t):=nP F (hr.mono hjk) hg ha iV he fR
theorem bc:cS X (binaryOp .Mult) (rI (fun i j=>IntMulOk i j) fun i j=>.int (i*j)):=xb fun _ _ _ _ _ _ _ hc q=>mul_int q hc
theorem a0w:cS X (compareOp .Eq) (jN fun i j=>.bl (decide (i=j))):=uB fun _ _ _ _ _ _ _ q=>eq_int (by rw[Bool.beq_eq_decide_eq];exact q)
theorem a0r:cS X (compareOp .NotEq) (jN fun i j=>.bl (!decide (i=j))):=uB fun _ _ _ _ _ _ _ q=>ne_int (by rw[bne,Bool.beq_eq_decide_eq];exact q)
theorem a0y(hu:X.A.units+64<cLine):cS X (compareOp .Eq) (fun x y H Q=>jN (fun i j=>.bl (decide (i=j))) x y H Q\/Fi X.K x y H Q):=a0w.or (a0x hu)
theorem a0t(hu:X.A.units+64<cLine):cS X (compareOp .NotEq) (fun x y H Q=>jN (fun i j=>.bl (!decide (i=j))) x y H Q\/Fd X.K x y H Q):=a0r.or (a0s hu)
mutual
theorem eqv_refl:∀d:aaX,d.canLay0=true->PyData.eqv d d=true | .none,_=>by simp[PyData.eqv] | .bool b,_=>by simp[PyData.eqv] | .int i,_=>by simp[PyData.eqv] | .str x,_=>by simp[PyData.eqv] | .list ds,h=>by simp only[PyData.eqv];exact eqvAll_refl ds (by simpa[PyData.canLay0]using h) | .tuple ds,h=>by simp only[PyData.eqv];exact eqvAll_refl ds (by simpa[PyData.canLay0]using h) | .dict _,h=>by simp[PyData.canLay0]at h
theorem eqvAll_refl:∀ds:List aaX,PyData.canLayAll0 ds=true->PyData.eqvAll ds ds=true |[],_=>by simp[PyData.eqvAll] |d::ds,h=>by simp only[PyData.canLayAll0,eu]at h;simp only[PyData.eqvAll,eu];exact⟨eqv_refl d h.1,eqvAll_refl ds h.2⟩
end
theorem kR{K:aaU}{H:Hp}(b:Bool):RD K H (.bl b) (.bool b):=by simp[RD]
theorem cX{K:aaU}{H:Hp}(i:Int):RD K H (.int i) (.int i):=by simp[RD]
theorem cH{K:aaU}{H:Hp}(x:Str):RD K H (.str x) (.str x):=by simp[RD]
theorem Zc{K:aaU}{H:Hp}:RD K H .aY .none:=by simp[RD]
theorem iB{K:aaU}{H:Hp}{p:Addr}{xs:List V}{ds:List aaX}(h:aI K H p xs)(r:aE K H xs ds):RD K H (.ref p) (.tuple ds):=by rw[RD];exact⟨p,xs,rfl,h,r⟩
theorem jM{K:aaU}{H:Hp}{p:Addr}{xs:List V}{ds:List aaX}(h:au K H p xs)(r:aE K H xs ds):RD K H (.ref p) (.list ds):=by rw[RD];exact⟨p,xs,rfl,h,r⟩
theorem cF{K:aaU}{H:Hp}:aE K H [] []:=by simp[aE]
theorem bJ{K:aaU}{H:Hp}{x:V}{xs:List V}{d:aaX}{ds:List aaX}(h:RD K H x d)(r:aE K H xs ds):aE K H (x::xs) (d::ds):=by rw[aE];exact⟨x,xs,rfl,h,r⟩
inductive Te(t:TS)(D:Ends)(σ:St)(H:Hp):Prop |mk (Jc:St->Hp->Prop)(h0:t {D with nx:=Jc} σ H)(h1:∀σ' H',Jc σ' H'->D.nx σ' H'):Te t D σ H
def X8 (t:TS):TS:=fun D σ H=>Te t D σ H
theorem gy{st:Stmt}{t:TS}(h:PS X st t):PS X st (X8 t):=by intro pins s σ H D I hq;obtain⟨Jc,q,m⟩:=hq;refine aM (h pins s σ H _ I q) fun f s1 q1=>?_;cases f with |next=>obtain⟨σ',H',I',q'⟩:=q1;exact⟨σ',H',I',m _ _ q'⟩ |brk=>exact q1 |cont=>exact q1 |ret u=>exact q1
end
end L2
namespace L2
open PySem PySem.Spec PyProof.Rows
def qh(K:aaU)(xs:List Str):Prop:=∀x∈xs,PySem.W.nsIn K mainGlobals x=some none
theorem qh.nil{K:aaU}:qh K []:=fun _ h=>nomatch h
theorem qh.cons{K:aaU}{x:Str}{xs:List Str}(a:PySem.W.nsIn K mainGlobals x=some none)(r:qh K xs):qh K (x::xs):=fun y hy=>by
 rcases bB.mp hy with e|e
 ·rw[e];exact a
 ·exact r y e
theorem a8u{K:aaU}{mg:Str->Option Value}{h:Heap}(X:K.In h)(G:h.Ns mainGlobals mg)(a:qh K Bs):bw mg:=fun x hx=>PySem.W.mg_none_of X G (a x hx)
theorem IH{env:Env}:∀(ns:List (Str×NameKind))(cs:List (Str×Addr)),(∀x∈ns,x.2= .free->∃c,env.cells.lookup x.1=some c)->(∀x c,cs.lookup x=some c->env.cells.lookup x=some c)->∃cl,(forIn ns cs (fun x r=>if(x.2==NameKind.free)=true then do let a<-cellOf env x.1;pure (ForInStep.yield ((x.1,a)::r))else pure (ForInStep.yield r)):Sem (List (Str×Addr)))=pure cl/\(∀x c,cl.lookup x=some c->env.cells.lookup x=some c)/\(∀x c,cs.lookup x=some c->∃c',cl.lookup x=some c')/\∀x∈ns,x.2= .free->∃c,cl.lookup x.1=some c
  |[],cs,_,h2=>⟨cs,rfl,h2,fun x c e=>⟨c,e⟩,fun _ h=>nomatch h⟩ |(n,k)::r,cs,h1,h2=>by
    by_cases hk:k= .free
    · subst hk
      obtain⟨c,hc⟩:=h1 (n,.free) (.head _) rfl;have e1:cellOf env n=pure c:=by unfold cellOf;rw[show env.cells.lookup n=some c from hc]
      obtain⟨cl,a1,a2,a3,a4⟩:=IH r ((n,c)::cs) (fun x hx=>h1 x (.tail _ hx)) (fun x d e=>by rw[iL]at e;cases z:x==n with |true=>rw[z]at e;cases e;rw[fC.mp z];exact hc |false=>rw[z]at e;exact h2 x d e);refine⟨cl,?_,a2,fun x d e=>?_,fun x hx hf=>?_⟩
      · rw[C8]
        show(do let r'<-(if(NameKind.free==NameKind.free)=true then do let a<-cellOf env n;pure (ForInStep.yield ((n,a)::cs))else pure (ForInStep.yield cs));_)=_;rw[aO (by rfl),e1];exact a1
      · by_cases z:x==n
        ·exact a3 x c (by rw[iL,z])
        ·exact a3 x d (by rw[iL,vZ.mpr z];exact e)
      · rcases bB.mp hx with rfl|hx
        ·exact a3 n c (by rw[iL,Jn])
        ·exact a4 x hx hf
    · obtain⟨cl,a1,a2,a3,a4⟩:=IH r cs (fun x hx=>h1 x (.tail _ hx)) h2
      refine⟨cl,?_,a2,a3,fun x hx hf=>?_⟩
      · rw[C8]
        show(do let r'<-(if(k==NameKind.free)=true then do let a<-cellOf env n;pure (ForInStep.yield ((n,a)::cs))else pure (ForInStep.yield cs));_)=_;rw[aP (by simpa using hk)];exact a1
      · rcases bB.mp hx with rfl|hx
        ·exact absurd hf hk
        ·exact a4 x hx hf
theorem RX{env:Env}{scope:Scope}(h1:∀x∈scope.names,x.2= .free->∃c,env.cells.lookup x.1=some c): ∃cl,closureFor scope env=pure cl/\(∀x c,cl.lookup x=some c->env.cells.lookup x=some c)/\∀x∈scope.names,x.2= .free->∃c,cl.lookup x.1=some c:=by
  obtain⟨cl,a1,a2,_,a4⟩:=IH (env:=env) scope.names [] h1 (fun x c e=>nomatch e);refine⟨cl,?_,a2,a4⟩;unfold closureFor;show(forIn scope.names ([]:List (Str×Addr)) (fun(x:Str×NameKind) r=>match x with|(name,kind)=>if(kind==NameKind.free)=true then do let a<-cellOf env name;pure (ForInStep.yield ((name,a)::r))else pure (ForInStep.yield r))>>=fun r=>(pure r:Sem (List (Str×Addr))))=pure cl;have ef:(fun(x:Str×NameKind)(r:List (Str×Addr))=>match x with|(name,kind)=>(if(kind==NameKind.free)=true then do let a<-cellOf env name;pure (ForInStep.yield ((name,a)::r))else pure (ForInStep.yield r):Sem (ForInStep (List (Str×Addr))))) =fun x r=>if(x.2==NameKind.free)=true then do let a<-cellOf env x.1;pure (ForInStep.yield ((x.1,a)::r))else pure (ForInStep.yield r):=by funext x r;obtain⟨n,k⟩:=x;rfl
  rw[ef,a1];rfl
theorem OL{env:Env}(hk:env.scope.kind= .function){x:Str}(hx:env.kindOf x=some .cell):∀{names:List (Str×NameKind)},names.lookup x=some .free->(names.map fun(n,k)=>if(k==NameKind.free&&env.scope.kind== .function&&env.kindOf n==some .cell)then(n,NameKind.cell)else(n,k)).lookup x=some .cell |[],h=>nomatch h |(n,k)::r,h=>by have ih:=@OL env hk x hx r;show List.lookup x ((if(k==NameKind.free&&env.scope.kind== .function&&env.kindOf n==some .cell)=true then(n,NameKind.cell)else(n,k))::_)=_;cases z:x==n with |true=>simp only[iL,z]at h;cases h;have e:=fC.mp z;subst e;rw[aO (by rw[hk,hx];rfl),iL,z] |false=>simp only[iL,z]at h;split<;>(simp only[iL,z];exact ih h)
def fy(X:Cx)(N:List Str)(scope:Scope)(cl:List (Str×Addr))(s:aaV)(H:Hp)(fp:List Addr)(pins:List (Addr×Obj)):Cx:={prog:=X.prog,w:=X.w,K:=X.K,mg:=X.mg,base:=X.base,A:=X.A,N:=N,s₀:=s,H₀:=H,env:=compEnvC scope cl s.heap.objs.size X.env,outer:=X.stack,stack:=X.stack,ex:=fp,fn:=fun _=>false,calm:=X.calm,pn:=X.pn++pins,xe:=fun _ _=>False}
def stC(js:List (Option Nat))(σ:St):St:=js.map fun|none=>none|some j=>(σ[j]?).join
def Bp(X:Cx)(N:List Str)(js:List (Option Nat))(scope:Scope):Bool:=N.length==js.length&&(N.zip js).all fun p=>match p.2 with|none=>true|some j=>X.N[j]? ==some p.1&&scope.names.lookup p.1==some NameKind.free&&X.env.kindOf p.1==some NameKind.cell
def vx(X:Cx)(scope:Scope):Bool:=scope.kind== .function&&X.env.scope.kind== .function&&scope.names.all fun x=>match x.2 with | .free=>X.env.kindOf x.1==some NameKind.cell | .cell=>false | .local=>scope.names.lookup x.1==some NameKind.local |_=>true
section
variable {X:Cx}{pins:List (Addr×Obj)}{σ:St}{H:Hp}{s:aaV}
theorem lookup_mem{α β:Type}[BEq α][LawfulBEq α]:∀{l:List (α×β)}{x:α}{b:β},l.lookup x=some b->(x,b)∈l |[],_,_,h=>nomatch h |(n,k)::r,x,b,h=>by rw[iL]at h;cases z:x==n with |true=>rw[z]at h;cases h;rw[fC.mp z];exact .head _ |false=>rw[z]at h;exact .tail _ (lookup_mem h)
theorem Ng{env:Env}{x:Str}{k:NameKind}:∀{names:List (Str×NameKind)},(names.map fun(n,k)=>if(k==NameKind.free&&env.scope.kind== .function&&env.kindOf n==some .cell)then(n,NameKind.cell)else(n,k)).lookup x=some k->names.lookup x=some k\/(k= .cell/\names.lookup x=some .free) |[],h=>nomatch h |(n,k')::r,h=>by have ih:=@Ng env x k r;have h':List.lookup x ((if(k'==NameKind.free&&env.scope.kind== .function&&env.kindOf n==some .cell)=true then(n,NameKind.cell)else(n,k'))::(r.map fun(n,k)=>if(k==NameKind.free&&env.scope.kind== .function&&env.kindOf n==some .cell)then(n,NameKind.cell)else(n,k)))=some k:=h;cases z:x==n with
    |true=>
      split at h'
      · rename_i hc
        simp only[iL,z]at h';cases h';rw[eu,eu]at hc;have e:k'= .free:=fC.mp hc.1.1;subst e;exact .inr ⟨rfl,by rw[iL,z]⟩
      · simp only[iL,z]at h'
        cases h';exact .inl (by rw[iL,z]) |false=>
      rw[iL,z];refine ih ?_;split at h'
      ·simpa only[iL,z]using h'
      ·simpa only[iL,z]using h'
theorem Inv.comp{N:List Str}{js:List (Option Nat)}{scope:Scope}{cl:List (Str×Addr)}{fp:List Addr}{h':Heap}{tk:Nat}(I:Inv X pins σ H s)(hN:Bp X N js scope=true)(hS:vx X scope=true) (c1:∀x c,cl.lookup x=some c->X.env.cells.lookup x=some c)(c2:∀x∈scope.names,x.2= .free->∃c,cl.lookup x.1=some c)(hf:∀b∈fp,kL X pins H b)(hfl:∀b∈fp,b<s.heap.objs.size) (hn:h'.Ns s.heap.objs.size fun _=>none)(hk:∀b o,s.heap.get? b=some o->h'.get? b=some o):Inv (fy X N scope cl s H fp pins) [] (stC js σ) H {s with heap:=h',toks:=tk}:=by
  unfold vx at hS;rw[eu,eu]at hS;obtain⟨⟨s1,s2⟩,s3⟩:=hS;have o9:scope.kind= .function:=fC.mp s1;have a4U:X.env.scope.kind= .function:=fC.mp s2;unfold Bp at hN;rw[eu]at hN;obtain⟨n1,n2⟩:=hN;have hlen:N.length=js.length:=fC.mp n1;have Pl:∀x k,(relabel scope X.env).names.lookup x=some k->scope.names.lookup x=some k\/(k= .cell/\scope.names.lookup x=some .free):=fun x k e=>Ng e;have a2s:∀x,scope.names.lookup x≠some .cell:=fun x e=>by have:=iy.mp s3 _ (lookup_mem e);exact jK this
  have Qx:∀b∈(fy X N scope cl s H fp pins).fs,b∈X.env.locals::X.fs:=I.wy;have ok:(fy X N scope cl s H fp pins).Ok:={
    mod:=I.ok.mod
    kind:=o9
    glob:=I.ok.glob
    blt:=I.ok.blt
    above:=bo _
    inj:=fun x y c e1 e2=>I.ok.inj x y c (c1 x c e1) (c1 y c e2)
    has:=fun x hx=>by
     have fr:scope.names.lookup x=some .free->∃c,cl.lookup x=some c:=fun e=>c2 (x,.free) (lookup_mem e) rfl;rcases hx with e|e
     · rcases Pl x _ e with e|⟨_,e⟩
       ·exact absurd e (a2s x)
       ·exact fr e
     · rcases Pl x _ e with e|⟨z,_⟩
       ·exact fr e
       ·cases z
    cab:=fun x c e=>nomatch e
    hd:=I.ok.hd
    frames:=I.ok.frames
    stk:=.inl rfl
    exf:=fun b hb=>⟨fe (hfl b hb),fun x c e=>(hf b hb).2.2.2.2.1 x c (c1 x c e)⟩
    bs:=I.bs
    bsz:=gR I.ok.bsz I.sz
    noex:=fun b o e hb=>by
     rcases(hf b hb).2.2.2.1 with z|z
     ·exact I.ok.noex b o e z
     ·exact absurd (fL (cf e) (gR I.ok.bsz z)) (oS _)
    exfs:=fun b hb z=>by
     obtain⟨_,q1,q2,_⟩:=hf b hb;rcases bB.mp (Qx b z)with e|e
     ·exact q1 e
     ·exact q2 e
    jf:=I.stack
    frf:=I.zv};refine⟨ok,rfl,I.bare,Un.kept hk,⟨_,hn,fun i x v e1 e2 e3=>?_⟩,fun x c e=>?_,I.hok.fresh (bo _),fun x c e=>I.freeC x c (c1 x c e),fun p hp=>?_,I.hok.kept hk,?_⟩
  · have vq:(js.map fun|none=>none|some j=>(σ[j]?).join)[i]? =some (some v):=e2
    rw[bZ]at vq;cases hj:js[i]? with |none=>rw[hj]at vq;cases vq |some o=>rw[hj]at vq;cases o with |none=>cases vq |some j=>
        have hz:(N.zip js)[i]? =some (x,some j):=by rw[vV];exact⟨e1,hj⟩
        have S5:=iy.mp n2 _ (gf hz);simp only[eu,fC]at S5;obtain⟨⟨h1,h2⟩,h3⟩:=S5;have Bj:(σ[j]?).join=some v:=by simpa using vq
        have hσ:σ[j]? =some (some v):=by cases q:σ[j]? with |none=>rw[q]at Bj;cases Bj |some o=>
           rw[q]at Bj;have:o=some v:=by simpa using Bj
           rw[this]
        obtain⟨m,hm,hl⟩:=I.loc;obtain⟨u,r,l⟩:=hl j x v h1 hσ (.inr (.inl h3));refine⟨u,r,?_⟩;rcases l with⟨k,_⟩|⟨_,c,hc,lJ⟩
        ·rw[h3]at k;cases k
        · obtain⟨c',ib⟩:=c2 (x,.free) (lookup_mem h2) rfl
          have:=c1 x c' ib;rw[hc]at this;cases this;refine .inr ⟨.inl (OL a4U h3 h2),c,ib,?_⟩;obtain⟨ob,ho,hd⟩:=lJ;exact⟨ob,hk _ _ ho,hd⟩
  · obtain⟨v,ob,ho,hd⟩:=I.cell x c (c1 x c e)
    exact⟨v,ob,hk _ _ ho,hd⟩
  · have uY:p∈X.pn++pins:=by simpa[fy]using hp
    obtain⟨a1,a2,a3,a4,a5⟩:=I.pin p uY;refine⟨hk _ _ a1,a2,fe (cf a1),fun z=>?_,a5⟩;rcases bB.mp (Qx p.1 z)with e|e
    ·exact a3 e
    ·exact a4 e
  · show(js.map _).length=N.length
    rw[bT,hlen]
end
theorem RS{prog:aaW}{w:World}{A:aaY}{R:Result->aaV->Prop}{s:aaV}{elt target iter:Expr}{ifs:List Expr}{scope:Scope}{pos:Pos}{it acc:Value}{env:Env}(I:Nat->aaV->Prop) (turn:∀n s,I n s->wpAny (model prog w) A (pyNext it) (fun r s₁=>match r with |none=>R (.ok .next) s₁ |some v=>wpAny (model prog w) A (letOwnedTupleGo target it v) (fun _ s₁=>wpAny (model prog w) A (assign target env v) (fun _ s₂=>wpAny (model prog w) A (forIn ifs true fun c r=>if r=true then do let ok<-isTrue c env (eval c env);pure (ForInStep.yield ok)else pure (ForInStep.yield r)) (fun ok s₃=>if ok=true then wpAny (model prog w) A (eval elt env) (fun x s₄=>wpAny (model prog w) A (call (.builtin "list.append") [acc,x]) (fun _ s₅=>∃m,m<n/\I m s₅) (fun _ _=>False) s₄) (fun _ _=>False) s₃ else∃m,m<n/\I m s₃) (fun _ _=>False) s₂) (fun _ _=>False) s₁) (fun _ _=>False) s₁) (fun _ _=>False) s) (n:Nat)(h:I n s):codeAny (model prog w) A (.compLoop (.ListComp elt [⟨target,iter,ifs,0⟩] scope pos) 0 it acc env) R s:=by refine codeAny_loop rfl I (fun n s hI=>?_) n h;show wpAny _ A ((compTurn (.ListComp elt [⟨target,iter,ifs,0⟩] scope pos) 0 it acc env).onRaise (fun x=>do noteFrame x env;theTreesLotGoes x)) _ _ s;refine wpAny_noted ?_;rw[compTurn_list];refine aH (wpAny_standAt (aH (jk (turn n s hI) (fun r s₁ h₁=>?_) fun _ _ h'=>h'.elim)));cases r with |none=>exact bR h₁ |some v=>refine aH (jk h₁ (fun _ a9v h₁=>?_) fun _ _ h'=>h'.elim);refine aH (jk h₁ (fun _ s₂ h₂=>aH (jk h₂ (fun ok s₃ h₃=>?_) fun _ _ h'=>h'.elim)) fun _ _ h'=>h'.elim);cases ok with |false=>exact bR ⟨rfl,h₃⟩ |true=>exact aH (aH (jk h₃ (fun x s₄ h₄=>aH (jk h₄ (fun _ s₅ h₅=>bR (bR ⟨rfl,h₅⟩)) fun _ _ h'=>h'.elim)) fun _ _ h'=>h'.elim))
def J9(X:Cx)(ifs:List Expr)(t:TT):Prop:=∀(pins:List (Addr×Obj))(s:aaV)(σ:St)(H:Hp)(Q:Bool->Hp->Prop),Inv X pins σ H s->t σ H Q->wpAny (model X.prog X.w) X.A (forIn ifs true fun c r=>if r=true then do let ok<-isTrue c X.env (eval c X.env);pure (ForInStep.yield ok)else pure (ForInStep.yield r)) (TP X pins σ Q) X.xe s
def gG:TT:=fun _ H Q=>Q true H
theorem fh{X:Cx}:J9 X [] gG:=fun _ _ _ H _ I h=>wpAny_tests_nil ⟨H,I,h⟩
def iu(J:It)(g:TG)(tt:TT)(te:TE)(Q:VK)(D:Addr)(σ:St)(H:Hp):Prop:=∃W:Nat->Nat->St->Hp->Prop,(∃m,W 0 m σ H)/\∀i m σ' H',W i m σ' H'->(J.stop i H'/\Q (.ref D) H')\/(J.go i H'/\∀x H2,J.yld i H' x H2->g x σ' H2 fun σ3 H3=>tt σ3 H3 fun ok H4=>if ok=true then te σ3 H4 fun y H5=>∃ys,H5 D=some (.lst ys)/\ys.length<sizeLine/\∃m',m'<m/\W (i+1) m' σ3 (upd H5 D (.lst (ys++[y]))) else∃m',m'<m/\W (i+1) m' σ3 H4)
def Km(js:List (Option Nat))(wi:TI)(g:TG)(tt:TT)(te:TE):TE:=fun σ H Q=>wi σ H fun J H1=>∀D H2,Nw H1 H2 D (.lst [])->iu J g tt te Q D (stC js σ) H2
theorem dc.but{P:aaW}{w:World}{H:Hp}{h h':Heap}{C:Addr}(ok:dc P w H h)(hn:H C=none)(hs:Heap.SameBut C h h'):dc P w H h':=fun b ob e=>by
 refine(ok b ob e).lB (fun c w' hc q=>(hs.2 c ?_).trans q) (fun _ q=>q) fun _ _ q=>q;rintro rfl;rcases hc with rfl|hc
 ·rw[hn]at e;cases e
 ·rw[hn]at hc;cases hc
set_option maxHeartbeats 1000000 in
theorem fO{X:Cx}{N:List Str}{js:List (Option Nat)}{elt tg iter:Expr}{ifs:List Expr}{scope:Scope}{pos:Pos}{wi:TI}{g:TG}{tt:TT}{te:TE}(hc:X.calm=true)(hN:Bp X N js scope=true)(hS:vx X scope=true) (hi:PI X tg iter wi)(hg:∀cl s H fp pins,PG (fy X N scope cl s H fp pins) tg g)(ht:∀cl s H fp pins,J9 (fy X N scope cl s H fp pins) ifs tt)(he:∀cl s H fp pins,PE (fy X N scope cl s H fp pins) elt te) (hs:∀x,foldedSetIterable iter X.env x=pure x:=by intro _;rfl):PE X (.ListComp elt [⟨tg,iter,ifs,0⟩] scope pos) (Km js wi g tt te):=by
  intro pins s σ H Q I h;have sy:=hS;unfold vx at sy;rw[eu,eu]at sy;obtain⟨⟨k1,k2⟩,k3⟩:=sy;have o9:scope.kind= .function:=fC.mp k1;have vd:∀x∈scope.names,x.2= .free->∃c,X.env.cells.lookup x.1=some c:=fun x hx e=>by have:=iy.mp k3 x hx;rw[e]at this;exact I.ok.has x.1 (.inl (fC.mp this))
  have lJ:∀x∈scope.names,x.2≠ .cell:=fun x hx e=>by have:=iy.mp k3 x hx;rw[e]at this;exact jK this
  have GH:∀x∈scope.names,x.2= .local->scope.names.lookup x.1=some .local:=fun x hx e=>by have:=iy.mp k3 x hx;rw[e]at this;exact fC.mp this
  obtain⟨cl,GY,c1,c2⟩:=RX vd;rw[eval_ListComp];refine wpAny_comprehension_free (use:=none) rfl hs GY o9 GH (aM (hi pins s σ H _ I h) fun v s1 h1=>aM h1 fun Av s2 h2=>?_);obtain⟨it,fp,tn,J,H2,e,I2,T,qG,f2,h2⟩:=h2;subst e;have hD:H2 s2.heap.objs.size=none:=I2.hok.fresh (bo _);obtain⟨W,⟨m0,w0⟩,turn⟩:=h2 _ _ (Nw.of hD);refine oM (Vw lJ (by intro y hy;simp at hy) (fun h₁ xO xK=>?_) o9);have sO:∀b∈fp,b<s2.heap.objs.size:=fun b hb=>by obtain⟨o,e,_⟩:=T.obj _ _ qG b hb;exact cf e
  have I3:Inv X pins σ (upd H2 s2.heap.objs.size (.lst [])) {s2 with heap:=s2.heap.push {cls:=.type "list",dict:=none,data:=.seq ([]:List Value).toArray}}:=I2.OP (its:=[]) (t':=s2.toks) .nil (fX _);generalize xT:s2.heap.push {cls:=.type "list",dict:=none,data:=.seq ([]:List Value).toArray}=h3 at I3 xO xK;have wx:h3.objs.size=s2.heap.objs.size+1:=by rw[<-xT,qA]
  have Gi:∀b o,s2.heap.get? b=some o->h3.get? b=some o:=fun b o e=>by rw[<-xT];exact bW _ e
  have f3:∀b∈fp,kL X pins (upd H2 s2.heap.objs.size (.lst [])) b:=fun b hb=>⟨by rw[aB (fe (sO b hb))];exact(f2 b hb).1,(f2 b hb).2⟩;have xF:∀b o,h3.get? b=some o->h₁.get? b=some o:=fun b o e=>(xK.2 b (fe (cf e))).trans (bW _ e);have I4:Inv (fy X N scope cl {s2 with heap:=h3} (upd H2 s2.heap.objs.size (.lst [])) fp pins) [] (stC js σ) (upd H2 s2.heap.objs.size (.lst [])) {s2 with heap:=h₁,toks:=s2.toks+([]:List (Str×Value)).length}:=I3.comp (s:={s2 with heap:=h3}) hN hS c1 c2 f3 (fun b hb=>by show b<h3.objs.size;rw[wx];exact Jz (sO b hb)) (by simpa using xO) xF;have wz:tn 0 h₁:=T.keep _ _ _ qG fun b _ o e=>xF b o (Gi b o e);have loop:codeAny (model X.prog X.w) X.A (.compLoop (.ListComp elt [⟨tg,iter,ifs,0⟩] scope pos) 0 (.ref it) (.ref s2.heap.objs.size) (compEnvC scope cl h3.objs.size X.env)) (compPost (model X.prog X.w) X.A X.xe none (EP X pins σ Q) (.ref s2.heap.objs.size) h3.objs.size) {s2 with heap:=h₁,toks:=s2.toks+([]:List (Str×Value)).length}:=by
    refine RS (fun n s'=>∃i σ' H',Inv (fy X N scope cl {s2 with heap:=h3} (upd H2 s2.heap.objs.size (.lst [])) fp pins) [] σ' H' s'/\tn i s'.heap/\(∀b∈fp,H' b=none)/\W i n σ' H') ?_ m0 ⟨0,_,_,I4,wz,fun b hb=>(f3 b hb).1,w0⟩;rintro n s5 ⟨i,σ5,H5,I5,nI,sN,w5⟩;have lC:∀{H':Hp},(∀b∈fp,H' b=none)->∀b∈fp,kL (fy X N scope cl {s2 with heap:=h3} (upd H2 s2.heap.objs.size (.lst [])) fp pins) [] H' b:=fun{H'} hn b hb=>by
     obtain⟨_,q1,q2,q3,q4,q5⟩:=f3 b hb;refine⟨hn b hb,fun z=>?_,I4.ok.exfs b hb,.inl hb,fun x c e=>q4 x c (c1 x c e),fun p hp=>q5 p (by simpa[fy]using hp)⟩;have bV:b<h3.objs.size:=by rw[wx];exact Jz (sO b hb)
     exact fe bV z
    rcases turn i n σ5 H5 w5 with⟨stop,qn⟩|⟨go,step⟩
    · refine aM (T.done (fy X N scope cl {s2 with heap:=h3} (upd H2 s2.heap.objs.size (.lst [])) fp pins) rfl rfl rfl hc i [] s5 σ5 H5 _ I5 (lC sN) nI stop) fun r s6 ⟨hr,I6⟩=>?_
      subst hr;obtain⟨m,hm,_⟩:=I6.loc;refine⟨m,hm,fun h7 AB=>?_⟩;have u0:Un (cR X.stack) fp (upd H2 s2.heap.objs.size (.lst [])) H5 h3 s6.heap:=I6.base;have ne:∀b o,h3.get? b=some o->b≠h3.objs.size:=fun b o e=>fe (cf e);have u:Un (cR X.stack) fp (upd H2 s2.heap.objs.size (.lst [])) H5 h3 h7:=⟨fun b o e n hb hx=>(AB.2 b (ne b o e)).trans (u0.keep b o e n hb hx),fun b o e n hb hx=>let⟨sl,q⟩:=u0.slot b o e n hb hx;⟨sl,(AB.2 b (ne b o e)).trans q⟩,u0.free,fun b o e hx=>let⟨o',q⟩:=u0.there b o e hx;⟨o',(AB.2 b (ne b o e)).trans q⟩,u0.tups,u0.frzs,u0.tbls⟩;have I7:Inv X pins σ H5 {s6 with heap:=h7}:=I3.Bq (s':={s6 with heap:=h7}) (ch:=fp) I6.os u (I6.hok.but I6.free AB) I6.bare fun b hb=>⟨(f3 b hb).2.2.2.1,(f3 b hb).2.1,(f3 b hb).2.2.2.2.1,(f3 b hb).2.2.2.2.2⟩;exact⟨.ref s2.heap.objs.size,H5,I7,rfl,qn⟩
    · refine aM (T.item (fy X N scope cl {s2 with heap:=h3} (upd H2 s2.heap.objs.size (.lst [])) fp pins) rfl rfl rfl hc i [] s5 σ5 H5 _ I5 (lC sN) nI go) fun r s6 ⟨u,hr,h6⟩=>?_
      subst hr;refine aM h6 fun _ s7 ⟨x,H7,I7,r7,y7,nH,Hv⟩=>?_;have Ji:=I7.pinned (lC Hv) (T.obj _ _ nH);refine aM (hg _ _ _ _ _ _ s7 σ5 H7 x u _ Ji r7 (step x H7 y7)) fun _ s8 ⟨σ8,H8,I8,q8⟩=>?_;refine aM (ht _ _ _ _ _ _ s8 σ8 H8 _ I8 q8) fun ok s9 ⟨H9,I9,q9⟩=>?_;have again:∀{s':aaV}{σ7:St}{H7:Hp},Inv (fy X N scope cl {s2 with heap:=h3} (upd H2 s2.heap.objs.size (.lst [])) fp pins) ([]++uw fp s7.heap) σ7 H7 s'->(∃m',m'<n/\W (i+1) m' σ7 H7)->∃m,m<n/\∃i σ' H',Inv (fy X N scope cl {s2 with heap:=h3} (upd H2 s2.heap.objs.size (.lst [])) fp pins) [] σ' H' s'/\tn i s'.heap/\(∀b∈fp,H' b=none)/\W i m σ' H':=fun{s' σ7 H7} J7 n7=>by obtain⟨m',hm,w7⟩:=n7;refine⟨m',hm,i+1,σ7,H7,J7.wg,T.keep _ _ _ nH fun b hb o e=>(J7.pin (b,o) (kM _ (kM _ (uP hb e)))).1,fun b hb=>?_,w7⟩;obtain⟨o,e,d⟩:=T.obj _ _ nH b hb;exact(J7.pin (b,o) (kM _ (kM _ (uP hb e)))).2.1
      cases ok with |false=>rw[aP jK]at q9⊢;exact again I9 q9 |true=>rw[aO rfl]at q9⊢;refine aM (he _ _ _ _ _ _ s9 σ8 H9 _ I9 q9) fun yv m7 ⟨y,ji,vN,Fj,ys,nY,hz,jX⟩=>?_;refine aM (FX _ m7 σ8 ji (.ref s2.heap.objs.size) [y] (.ref s2.heap.objs.size) [yv] (fun _ ir=>∃m',m'<n/\W (i+1) m' σ8 ir) vN rfl (.cons Fj .nil) ⟨_,ys,y,rfl,rfl,nY,hz,jX⟩) fun _ zN ⟨v11,ir,Jj,Zy,wR⟩=>?_;exact again Jj wR
  exact codeAny_compStart_list loop (T.self _ 0 _ _ _ wz loop)
theorem IJ:∀{bs:List Bool}{us:List Value},Vals (bs.map V.bl) us->us=bs.map Value.bool |[],_,.nil=>rfl |b::r,_,.cons q t=>by cases(show _=Value.bool b from q);rw[IJ t];rfl
section
variable {X:Cx}
theorem a8m(hc:X.calm=true):eV X (.builtin "all") (fun xs H Q=>∃(l:Addr)(bs:List Bool),xs=[.ref l]/\au X.K H l (bs.map V.bl)/\Q (.bl (bs.all id)) H):=by
 intro pins s σ H xs us Q I r h;obtain⟨l,bs,rfl,hl,q⟩:=h;obtain⟨u,rfl,ru⟩:=vals1 r;cases(show u=Value.ref l from ru);obtain⟨its,rv,pl,hz⟩:=I.list hl;have e:=IJ rv;subst e;have dy:=pl.isList;have bV:l<s.heap.objs.size:=by obtain⟨_,e,_⟩:=dy;exact cf e
 have hh:=I.ok.hd hc;refine call_all_walk (BO dy ?_);refine⟨s.heap.objs.size,[s.heap.objs.size,l],[s.heap.objs.size],(bs.map Value.bool).toArray.size,_,_,fun i=>(bs[i]?).getD true,rfl,Walks.list (A:=X.A.in1) hh _ l (fe bV) (bs.map Value.bool).toArray,⟨⟨_,dP _ rfl,rfl,rfl⟩,dy.push _⟩,fun i v s' Q' E' hP hQ=>?_,fun h' tk hk=>?_⟩
 · have lM:(bs.map Value.bool)[i]? =some v:=by simpa using hP
   rw[bZ]at lM;cases e:bs[i]? with |none=>rw[e]at lM;cases lM |some b=>rw[e]at lM;cases lM;simp only[e,Option.getD_some]at hQ;exact oK hQ
 · have e:((List.range (bs.map Value.bool).toArray.size).all fun i=>(bs[i]?).getD true)=bs.all id:=by rw[dN,bT];exact LSm.range_all bs
   rw[e];exact⟨.bl _,H,I.kept (LSm.kept_iter hk),rfl,q⟩
theorem a8l(hc:X.calm=true):eV X (.builtin "any") (fun xs H Q=>∃(l:Addr)(bs:List Bool),xs=[.ref l]/\au X.K H l (bs.map V.bl)/\Q (.bl (bs.any id)) H):=by
 intro pins s σ H xs us Q I r h;obtain⟨l,bs,rfl,hl,q⟩:=h;obtain⟨u,rfl,ru⟩:=vals1 r;cases(show u=Value.ref l from ru);obtain⟨its,rv,pl,hz⟩:=I.list hl;have e:=IJ rv;subst e;have dy:=pl.isList;have bV:l<s.heap.objs.size:=by obtain⟨_,e,_⟩:=dy;exact cf e
 have hh:=I.ok.hd hc;refine call_any_walk (BO dy ?_);refine⟨s.heap.objs.size,[s.heap.objs.size,l],[s.heap.objs.size],(bs.map Value.bool).toArray.size,_,_,fun i=>(bs[i]?).getD false,rfl,Walks.list (A:=X.A.in1) hh _ l (fe bV) (bs.map Value.bool).toArray,⟨⟨_,dP _ rfl,rfl,rfl⟩,dy.push _⟩,fun i v s' Q' E' hP hQ=>?_,fun h' tk hk=>?_⟩
 · have lM:(bs.map Value.bool)[i]? =some v:=by simpa using hP
   rw[bZ]at lM;cases e:bs[i]? with |none=>rw[e]at lM;cases lM |some b=>rw[e]at lM;cases lM;simp only[e,Option.getD_some]at hQ;exact oK hQ
 · have e:((List.range (bs.map Value.bool).toArray.size).any fun i=>(bs[i]?).getD false)=bs.any id:=by rw[dN,bT];exact LSm.range_any bs
   rw[e];exact⟨.bl _,H,I.kept (LSm.kept_iter hk),rfl,q⟩
end
theorem pX{J:It}{g:TG}{tt:TT}{te:TE}{Q:VK}{D:Addr}{σ:St}{H:Hp}(n:Nat)(Pv:Nat->St->Hp->Prop)(h0:Pv 0 σ H) (hs:∀i σ H,i<n->Pv i σ H->J.go i H/\∀x H2,J.yld i H x H2->g x σ H2 fun σ3 H3=>tt σ3 H3 fun ok H4=>if ok=true then te σ3 H4 fun y H5=>∃ys,H5 D=some (.lst ys)/\ys.length<sizeLine/\∃m',m'<n-i/\m'=n-(i+1)/\i+1<=n/\Pv (i+1) σ3 (upd H5 D (.lst (ys++[y]))) else∃m',m'<n-i/\m'=n-(i+1)/\i+1<=n/\Pv (i+1) σ3 H4) (hd:∀σ H,Pv n σ H->J.stop n H/\Q (.ref D) H): iu J g tt te Q D σ H:=by
  refine⟨fun i m σ H=>m=n-i/\i<=n/\Pv i σ H,⟨n,by simp,fX _,h0⟩,?_⟩;rintro i m σ H ⟨rfl,hi,p⟩;by_cases bV:i<n
  ·exact .inr (hs i σ H bV p)
  · have e:i=n:=by lia
    subst e;exact .inl (hd σ H p)
section
variable {X:Cx} {tg:Expr}
theorem ixK(K:aaU)(h:X.K=K):oJ X (fun x y H Q=>Ff K x y H Q\/Fe K x y H Q):=by subst h;exact a3E.or a3C
inductive UO(K:aaU)(x:V)(lo:Option Int)(hi:Option Int)(H:Hp)(Q:VK):Prop |mk (a:_)(xs:_)(h0:x= .ref a)(h1:((au K H a xs/\∀p H',Nw H H' p (.lst (lP xs lo hi))->Q (.ref p) H')\/ (aI K H a xs/\¬(HT.bU xs.length 0 lo=0/\HT.bU xs.length xs.length hi=xs.length)/\∀p H',Nw H H' p (.tup (lP xs lo hi))->Q (.ref p) H'))):UO K x lo hi H Q
def Zn(K:aaU):V->Option Int->Option Int->Hp->VK->Prop:=fun x lo hi H Q=>UO K x lo hi H Q
theorem CZ(K:aaU)(h:X.K=K):BD X (Zn K):=by
 subst h;intro pins s σ H x v vl vu lo hi sl Q I rx hs pl pu hq;obtain⟨a,xs,e,hq⟩:=hq;rcases hq with⟨h1,k⟩|⟨h1,h2,k⟩
 ·exact XO pins s σ H x v vl vu lo hi sl Q I rx hs pl pu ⟨a,xs,e,h1,fun p hp=>k p _ (.of hp)⟩
 ·exact XN pins s σ H x v vl vu lo hi sl Q I rx hs pl pu ⟨a,xs,e,h1,h2,fun p hp=>k p _ (.of hp)⟩
theorem a3g(K:aaU)(h:X.K=K):eV X (.builtin "len") (fun xs H Q=>∃p ys,xs=[.ref p]/\(au K H p ys\/aI K H p ys)/\Q (.int ys.length) H):=by subst h;exact a8i
theorem a3L(K:aaU)(h:X.K=K):eV X (.builtin "isinstance") (fun xs H Q=>Fh K xs H Q\/Fg K xs H Q):=by subst h;exact a8k.or a8j
theorem cJ(K:aaU)(h:X.K=K)(hu:X.A.units+64<cLine):cS X (compareOp .Eq) (fun x y H Q=>jN (fun i j=>.bl (decide (i=j))) x y H Q\/Fi K x y H Q):=by subst h;exact a0y hu
theorem j8(K:aaU)(h:X.K=K)(hu:X.A.units+64<cLine):cS X (compareOp .NotEq) (fun x y H Q=>jN (fun i j=>.bl (!decide (i=j))) x y H Q\/Fd K x y H Q):=by subst h;exact a0t hu
theorem oG(K:aaU)(h:X.K=K)(hc:X.calm=true):eV X (.builtin "all") (fun xs H Q=>∃(l:Addr)(bs:List Bool),xs=[.ref l]/\au K H l (bs.map V.bl)/\Q (.bl (bs.all id)) H):=by subst h;exact a8m hc
theorem Sw(K:aaU)(h:X.K=K)(hc:X.calm=true):eV X (.builtin "any") (fun xs H Q=>∃(l:Addr)(bs:List Bool),xs=[.ref l]/\au K H l (bs.map V.bl)/\Q (.bl (bs.any id)) H):=by subst h;exact a8l hc
theorem G9(K:aaU)(h:X.K=K):eV X (.type "list") (fun xs H Q=>∃p ys,xs=[.ref p]/\(au K H p ys\/aI K H p ys)/\∀l H',Nw H H' l (.lst ys)->Q (.ref l) H'):=by subst h;intro pins s σ H xs us Q I r hq;obtain⟨p,ys,e,h1,k⟩:=hq;exact a8g pins s σ H xs us Q I r ⟨p,ys,e,h1,fun l hl=>k l _ (.of hl)⟩
theorem kP(K:aaU)(h:X.K=K):eV X (.type "tuple") (fun xs H Q=>∃p ys,xs=[.ref p]/\((au K H p ys/\∀l H',Nw H H' l (.tup ys)->Q (.ref l) H')\/(aI K H p ys/\Q (.ref p) H))):=by subst h;intro pins s σ H xs us Q I r hq;obtain⟨p,ys,e,h1⟩:=hq;exact a8b pins s σ H xs us Q I r ⟨p,ys,e,h1.imp (fun⟨a,k⟩=>⟨a,fun l hl=>k l _ (.of hl)⟩) id⟩
def WV(t:TA):TE:=fun σ H Q=>t σ H fun xs H1=>xs.length<=sizeLine/\∀p H',Nw H1 H' p (.tup xs)->Q (.ref p) H'
def Xa(t:TA):TE:=fun σ H Q=>t σ H fun xs H1=>xs.length<=sizeLine/\∀p H',Nw H1 H' p (.lst xs)->Q (.ref p) H'
theorem dw{es:List Expr}{t:TA}{pos:Pos} {x1}(h:PA X es t):PE X (.Tuple es x1 pos) (WV t):=by intro pins s σ H Q I hq;refine wpAny_Tuple_spliced (aM (h pos pins s σ H _ I hq) fun us s1 ⟨xs,H1,I1,r,z,q⟩=>⟨by rw[<-r.length];exact z,?_⟩);have hf:H1 s1.heap.objs.size=none:=I1.hok.fresh (bo _);refine⟨.ref s1.heap.objs.size,upd H1 s1.heap.objs.size (.tup xs),I1.laid (t':=s1.toks) (fun b u e=>bW _ e) (bo _) ?_,rfl,q _ _ (.of hf)⟩;exact⟨z,us,r,⟨_,dP _ rfl,rfl,_,rfl⟩⟩
theorem cV{es:List Expr}{t:TA}{pos:Pos}(h:PA X es t):PE X (.List es pos) (Xa t):=by intro pins s σ H Q I hq;refine wpAny_List_spliced (aM (h pos pins s σ H _ I hq) fun us s1 ⟨xs,H1,I1,r,z,q⟩=>⟨by rw[<-r.length];exact z,?_⟩);have hf:H1 s1.heap.objs.size=none:=I1.hok.fresh (bo _);refine⟨.ref s1.heap.objs.size,upd H1 s1.heap.objs.size (.lst xs),I1.laid (t':=s1.toks) (fun b u e=>bW _ e) (bo _) ?_,rfl,q _ _ (.of hf)⟩;exact⟨z,us,0,r,dP _ rfl⟩
theorem wV(K:aaU)(h:X.K=K){l:Expr}{tl:TE}(hl:PE X l tl):PI X tg l (Po K tl):=by subst h;exact ZY hl
theorem p9(K:aaU)(h:X.K=K){l:Expr}{tl:TE}(hl:PE X l tl):PI X tg l (Pm K tl):=by subst h;exact ZU hl
theorem du(K:aaU)(h:X.K=K){es:List Expr}{k:Nat}{t:mO}{n:Nat}{pos:Pos}(hc:X.calm=true)(hg:yx X es t)(hn:(assignEach es X.env).length=n:=by rfl)(gz:(assignEach es X.env).findIdx? (·.1)=none:=by rfl): PG X (.Tuple es k pos) (om K n t):=by subst h;exact a00 hc hg hn gz
theorem jt(K:aaU)(h:X.K=K){o e:Expr}{to:TE}{t:TA}{apos cm:Pos}(ho:PE X o to)(ha:PA X [e] t) (kD:attributeBase o "append" X.env (eval o X.env)=eval o X.env:=by rfl) (kB:((backTo cm (starEach [e] X.env)).all (fun x=>!x.1)&&(backToKw cm (keywordEach [] X.env)).all (fun x=>x.1.isSome) &&decide ([e].length+([]:List Keyword).length+(if([]:List Keyword).isEmpty then 0 else 1)<30))=true:=by rfl) (kA:(apos.endLine==cm.line)=true:=by rfl)(hs:starEach [e] X.env=(false,eval e X.env)::starEach [] X.env:=by rfl)(kx:(backTo cm (starEach [] X.env)).any (·.1)=false:=by rfl): PE X (.Call (.Attribute o "append" apos) [e] [] cm) (qF K "list" Nv to t):=by subst h;exact ux BX PySem.F.slot_list_append PySem.F.type_list_append FX ho ha kD kB kA hs kx
theorem yX{j:Nat}{x:V}{σ:St}{H:Hp}{A B:St->Hp->Prop}(h:A (σ.set j (some x)) H):dX j x σ H fun σ3 H3=>gG σ3 H3 fun ok H4=>if ok=true then A σ3 H4 else B σ3 H4:=by show if true=true then A (σ.set j (some x)) H else B (σ.set j (some x)) H;rw[aO rfl];exact h
theorem yes{σ:St}{H:Hp}{Q:Bool->Hp->Prop}(h:Q true H):gG σ H Q:=h
end
end L2
namespace L2
open PySem PySem.Spec PyProof.Rows
theorem au.go{K:aaU}{H H':Hp}{a:Addr}{xs:List V}(s:ak H H')(h:au K H a xs):au K H' a xs:=h.imp (fun r=>r.imp (s _ _) fun⟨o,e⟩=>⟨o,s _ _ e⟩) id
theorem aI.go{K:aaU}{H H':Hp}{a:Addr}{xs:List V}(s:ak H H')(h:aI K H a xs):aI K H' a xs:=h.imp (fun r=>r.imp (s _ _) fun⟨o,e⟩=>⟨o,s _ _ e⟩) id
mutual
theorem RD.mono{K:aaU}{H H':Hp}(s:ak H H'):∀{x:V}(d:aaX),RD K H x d->RD K H' x d |x,.none,h=>by simpa[RD]using h |x,.bool b,h=>by simpa[RD]using h |x,.int i,h=>by simpa[RD]using h |x,.str y,h=>by simpa[RD]using h |x,.list ds,h=>by rw[RD]at h⊢;obtain⟨a,xs,e,h1,h2⟩:=h;exact⟨a,xs,e,h1.go s,aE.mono s ds h2⟩ |x,.tuple ds,h=>by rw[RD]at h⊢;obtain⟨a,xs,e,h1,h2⟩:=h;exact⟨a,xs,e,h1.go s,aE.mono s ds h2⟩ |x,.dict _,h=>by simp[RD]at h
theorem aE.mono {K:aaU}{H H':Hp}(s:ak H H'):∀{xs:List V}(ds:List aaX),aE K H xs ds->aE K H' xs ds |xs,[],h=>by simpa[aE]using h |xs,d::ds,h=>by rw[aE]at h⊢;obtain⟨y,ys,e,h1,h2⟩:=h;exact⟨y,ys,e,RD.mono s d h1,aE.mono s ds h2⟩
end
section
variable {K:aaU} {H H':Hp}
theorem aE.nil_inv{xs:List V}(h:aE K H xs []):xs=[]:=by simpa[aE]using h
theorem aE.cons_inv{xs:List V}{d:aaX}{ds:List aaX}(h:aE K H xs (d::ds)):∃y ys,xs=y::ys/\RD K H y d/\aE K H ys ds:=by rw[aE]at h;exact h
theorem RD.dF{x:V}{ds:List aaX}(h:RD K H x (.tuple ds)):∃a xs,x= .ref a/\aI K H a xs/\aE K H xs ds:=by rw[RD]at h;exact h
theorem RD.lst_inv{x:V}{ds:List aaX}(h:RD K H x (.list ds)):∃a xs,x= .ref a/\au K H a xs/\aE K H xs ds:=by rw[RD]at h;exact h
theorem RD.int_inv{x:V}{i:Int}(h:RD K H x (.int i)):x= .int i:=by rw[RD]at h;exact h
theorem RD.a8w{x:V}{i:Bool}(h:RD K H x (.bool i)):x= .bl i:=by rw[RD]at h;exact h
theorem RD.str_inv{x:V}{i:Str}(h:RD K H x (.str i)):x= .str i:=by rw[RD]at h;exact h
theorem RD.Od{x:V}(h:RD K H x .none):x= .aY:=by rw[RD]at h;exact h
theorem aE.length:∀{xs:List V}{ds:List aaX},aE K H xs ds->xs.length=ds.length |xs,[],h=>by rw[h.nil_inv];rfl |xs,d::ds,h=>by obtain⟨y,ys,rfl,_,h2⟩:=h.cons_inv;rw[jI,jI,aE.length h2]
theorem aE.append:∀{xs ys:List V}{ds es:List aaX},aE K H xs ds->aE K H ys es->aE K H (xs++ys) (ds++es) |xs,ys,[],es,h,g=>by rw[h.nil_inv];exact g |xs,ys,d::ds,es,h,g=>by obtain⟨y,zs,rfl,h1,h2⟩:=h.cons_inv;exact bJ h1 (aE.append h2 g)
theorem aE.drop:∀(n:Nat){xs:List V}{ds:List aaX},aE K H xs ds->aE K H (xs.drop n) (ds.drop n) |0,xs,ds,h=>h |n+1,xs,[],h=>by rw[h.nil_inv];exact cF |n+1,xs,d::ds,h=>by obtain⟨y,zs,rfl,h1,h2⟩:=h.cons_inv;exact aE.drop n h2
theorem aE.get:∀(n:Nat){xs:List V}{ds:List aaX}{d:aaX},aE K H xs ds->ds[n]? =some d->∃x,xs[n]? =some x/\RD K H x d
  |n,xs,[],d,h,e=>by simp at e |0,xs,d'::ds,d,h,e=>by
    obtain⟨y,zs,rfl,h1,h2⟩:=h.cons_inv;have e':d'=d:=by simpa using e
    subst e';exact⟨y,rfl,h1⟩ |n+1,xs,d'::ds,d,h,e=>by obtain⟨y,zs,rfl,h1,h2⟩:=h.cons_inv;exact aE.get n h2 (by simpa using e)
theorem aE.get'(n:Nat){xs:List V}{ds:List aaX}{x:V}(h:aE K H xs ds)(e:xs[n]? =some x):∃d,ds[n]? =some d/\RD K H x d:=by
 have hl:n<ds.length:=by rw[<-h.length];exact(dh.mp e).1
 obtain⟨y,e1,r⟩:=h.get n (bN hl);rw[e]at e1;cases e1;exact⟨_,bN hl,r⟩
def lX:aaX->String | .none=>"NoneType" | .bool _=>"bool" | .int _=>"int" | .str _=>"str" | .list _=>"list" | .tuple _=>"tuple" | .dict _=>"dict"
theorem RD.ty{x:V}:∀{d:aaX},RD K H x d->tm K H x (lX d) | .none,h=>by rw[h.Od];rfl | .bool b,h=>by rw[h.a8w];rfl | .int b,h=>by rw[h.int_inv];rfl | .str b,h=>by rw[h.str_inv];rfl | .list ds,h=>by obtain⟨a,xs,rfl,h1,_⟩:=h.lst_inv;exact .inl ⟨rfl,xs,h1⟩ | .tuple ds,h=>by obtain⟨a,xs,rfl,h1,_⟩:=h.dF;exact .inr ⟨rfl,xs,h1⟩ | .dict _,h=>by simp[RD]at h
structure cU(n:Nat)(d:aaX):Prop where
 lay:d.canLay0=true
 dep:d.depth<=n
def fV(n:Nat)(ds:List aaX):Prop:=∀d∈ds,cU n d
theorem cU.le{n m:Nat}{d:aaX}(h:cU n d)(l:n<=m):cU m d:=⟨h.lay,gR h.dep l⟩
theorem uD{n:Nat}:∀{ds:List aaX},fV n ds↔(PyData.canLayAll0 ds=true/\PyData.depthAll ds<=n)
  |[]=>⟨fun _=>⟨rfl,fX _⟩,fun _ _ h=>nomatch h⟩ |d::ds=>by
    have ih:=uD (n:=n) (ds:=ds);simp only[PyData.canLayAll0,PyData.depthAll,eu];constructor
    · intro h
      have h1:=h d (.head _);have h2:=ih.mp fun x hx=>h x (.tail _ hx);exact⟨⟨h1.lay,h2.1⟩,Nat.max_le.mpr ⟨h1.dep,h2.2⟩⟩
    · rintro⟨⟨a,b⟩,c⟩ x hx
      have c':=Nat.max_le.mp c;rcases bB.mp hx with rfl|hx
      ·exact⟨a,c'.1⟩
      ·exact ih.mpr ⟨b,c'.2⟩ x hx
theorem fV.tup{n:Nat}{ds:List aaX}(h:fV n ds):cU (n+1) (.tuple ds):=⟨by simpa[PyData.canLay0]using(uD.mp h).1,by simpa[PyData.depth]using(uD.mp h).2⟩
theorem fV.lst{n:Nat}{ds:List aaX}(h:fV n ds):cU (n+1) (.list ds):=⟨by simpa[PyData.canLay0]using(uD.mp h).1,by simpa[PyData.depth]using(uD.mp h).2⟩
theorem cU.dF{n:Nat}{ds:List aaX}(h:cU (n+1) (.tuple ds)):fV n ds:=uD.mpr ⟨by simpa[PyData.canLay0]using h.lay,by simpa[PyData.depth]using h.dep⟩
theorem cU.int{n:Nat}(i:Int):cU n (.int i):=⟨rfl,fX _⟩
theorem fV.nil{n:Nat}:fV n []:=fun _ h=>nomatch h
theorem fV.cons{n:Nat}{d:aaX}{ds:List aaX}(h:cU n d)(g:fV n ds):fV n (d::ds):=fun x hx=>by
 rcases bB.mp hx with rfl|hx
 ·exact h
 ·exact g x hx
theorem cU.shaped{n:Nat}{d:aaX}(h:cU n d)(l:n<=64):SeqAt.shaped d=true:=by unfold SeqAt.shaped;rw[h.lay,jJ];exact ck (gR h.dep l)
theorem cU.refl{n:Nat}{d:aaX}(h:cU n d):PyData.eqv d d=true:=eqv_refl d h.lay
variable {p:Addr}{n m:Nat}{v:V}{vs:List V}{d:aaX}{ds es:List aaX}
end
section
variable {X:Cx}
end
end L2
namespace HT
open PySem PySem.Spec PyProof.Rows
section
variable {prog:aaW}{w:World}{A:aaY}{E:Value->aaV->Prop}{s:aaV}
end
end HT
namespace L2
open PySem PySem.Spec PyProof.Rows
section
variable {X:Cx}
end
section
variable {X:Cx}
end
end L2
namespace L2
theorem cN{α:Type}{xs:List α}{i:Int}{v:α}(h0:0<=i)(h:xs[i.toNat]? =some v):fz xs i=some v:=by have hl:i.toNat<xs.length:=(dh.mp h).1;unfold fz jb;rw[aO h0,aO (by lia)];exact h
end L2
namespace L2
open PySem PySem.Spec PyProof.Rows
theorem wF(n:Nat)(h:n<=1000):n<=sizeLine:=gR h (by decide)
section
variable {X:Cx}{p pos pos':Pos}{a b e:Expr}{es:List Expr}{ta tb te:TE}{t:TA}{x:Str}
theorem px(K:aaU)(ha:PE X a ta)(hb:PE X b tb)(hK:X.K=K:=by rfl)(hp:SS b:=by exact fun _ _=>rfl):PE X (.Subscript a b pos) (wu (fun x y H Q=>Ff K x y H Q\/Fe K x y H Q) ta tb):=NJ (ixK K hK) ha hb hp
theorem cY(K:aaU)(B:bw X.mg)(ha:PA X (e::es) t)(hK:X.K=K:=by rfl)(hg:Gl X "isinstance":=by rfl)(he:starEach (e::es) X.env=(false,eval e X.env)::starEach es X.env:=by rfl)(fR:(backTo pos (starEach es X.env)).any (·.1)=false:=by rfl):PE X (.Call (.Name "isinstance" p) (e::es) [] pos) (zl (fun xs H Q=>Fh K xs H Q\/Fg K xs H Q) t):=cQ (a3L K hK) hg (B.at "isinstance") tO ha (by decide) (by decide) he fR
theorem dv(K:aaU)(B:bw X.mg)(ha:PA X (e::es) t)(hK:X.K=K:=by rfl)(hg:Gl X "len":=by rfl)(he:starEach (e::es) X.env=(false,eval e X.env)::starEach es X.env:=by rfl)(fR:(backTo pos (starEach es X.env)).any (·.1)=false:=by rfl):PE X (.Call (.Name "len" p) (e::es) [] pos) (zl (fun xs H Q=>∃p ys,xs=[.ref p]/\(au K H p ys\/aI K H p ys)/\Q (.int ys.length) H) t):=cQ (a3g K hK) hg (B.at "len") PySem.boot_len ha (by decide) (by decide) he fR
theorem pS(i:Nat)(hN:X.N.Nodup)(he:PE X e te)(hi:X.N[i]? =some x:=by rfl)(hx:Loc X.env.scope x:=by first|exact Or.inl rfl|exact Or.inr rfl)(hs:swapsWith e (some (.Name x pos')) pos.line X.env=pure false:=by rfl)(hf:X.fn x=true\/X.env.scope.names.lookup x=some .local:=by first|exact .inl rfl|exact .inr rfl|assumption):PS X (.Assign [.Name x pos'] e pos) (zo te (dX i)):=ZI hN hi hx he hs hf
theorem aX(i:Nat)(hN:X.N.Nodup)(hi:X.N[i]? =some x:=by rfl)(hx:Loc X.env.scope x:=by first|exact Or.inl rfl|exact Or.inr rfl)(hf:X.fn x=true\/X.env.scope.names.lookup x=some .local:=by first|exact .inl rfl|exact .inr rfl|assumption):PG X (.Name x pos) (dX i):=a01 hN hi hx hf
theorem rE (a:Str):[a].Nodup:=by simp
theorem fw{a b:Str}(h:(a==b)=false):[a,b].Nodup:=by
 have:a≠b:=fun z=>by rw[z,Jn]at h;cases h
 simp[this]
theorem bI{n:Nat}(h:Nat.ble n 1000=true):n<=sizeLine:=wF n (Nat.le_of_ble_eq_true h)
end
end L2
namespace L2
open PySem PySem.Spec PyProof.Rows
def GV(mg:Str->Option Value)(x:Str)(v:V):Prop:=∃u,mg x=some u/\RelV v u
def GT(K:aaU)(mg:Str->Option Value)(x:Str)(vs:List V):Prop:=∃a,GV mg x (.ref a)/\∀H,aI K H a vs
theorem dQ{X:Cx}{x:Str}{v:V}{pos:Pos}(hg:Gl X x)(h:GV X.mg x v)(hd:(x==("__debug__":Str))=false:=by decide):PE X (.Name x pos) (tC v):=by obtain⟨u,hm,r⟩:=h;exact a08 hg hm r hd
section
variable {K:aaU}{mg:Str->Option Value}{h:Heap}
theorem pQ{x:Str}{i:Int}{t:Tok}(X:K.In h)(G:h.Ns mainGlobals mg)(a:PySem.W.nsIn K mainGlobals x=some (some (.int i t))):GV mg x (.int i):=⟨_,vR X G a,t,rfl⟩
theorem Ql{x:Str}{vs:List V}{b:Addr}{its:Array Value}{n:Nat}{od:Option Addr}{fP:Array (Option Value)}(X:K.In h)(G:h.Ns mainGlobals mg)(a:PySem.W.nsIn K mainGlobals x=some (some (.ref b))) (l:K.lookup b=some ⟨.type "tuple",od,.seq its n,fP⟩)(hz:its.size<=sizeLine)(r:Vals vs its.toList):GT K mg x vs:=⟨b,⟨_,vR X G a,rfl⟩,fun H=>.inr ⟨_,its,n,l,rfl,rfl,hz,r⟩⟩
end
section
variable {X:Cx}
end
theorem IG{J:It}{xs:List V}{bs:List Bool}{te:TE}{Q:VK}{D:Addr}{H H0:Hp}(rest:St)(nw:Nw H H0 D (.lst []))(hl:xs.length=bs.length)(hz:xs.length<=1000) (go:∀i x H2,xs[i]? =some x->ak H H2->J.go i H2/\∀y H3,J.yld i H2 y H3->H3=H2/\y=x)(stop:∀H2,ak H H2->J.stop xs.length H2) (hs:∀(i:Nat)(x:V)(b:Bool)(H2:Hp)(Q':VK),xs[i]? =some x->bs[i]? =some b->ak H H2->(∀H3,ak H2 H3->Q' (.bl b) H3)->te (some x::rest) H2 Q') (hq:∀H',ak H H'->H' D=some (.lst (bs.map V.bl))->Q (.ref D) H'):iu J (dX 0) gG te Q D (none::rest) H0:=by
  have hD:=nw.no;refine pX xs.length (fun i σ H2=>ak H H2/\H2 D=some (.lst ((bs.take i).map V.bl))/\∃v,σ=v::rest) ?_ ?_ ?_
  ·exact⟨nw.same,nw.at',none,rfl⟩
  · rintro i σ H2 hi ⟨s2,d2,v,rfl⟩
    have vc:i<bs.length:=by rw[<-hl];exact hi
    have ex:=bN hi;have eb:=bN vc;obtain⟨g1,g2⟩:=go i _ H2 ex s2;refine⟨g1,fun y H3 hy=>?_⟩;obtain⟨rfl,rfl⟩:=g2 y H3 hy;refine yX ?_;refine hs i _ _ _ _ ex eb s2 fun H4 s4=>?_;refine⟨_,s4 _ _ d2,?_,xs.length-(i+1),by lia,rfl,by lia,fun b o e=>?_,?_,_,rfl⟩
    · rw[bT,nc]
      have:(1000:Nat)<sizeLine:=by decide
      lia
    ·rw[aB (fH e hD)];exact s4 b o (s2 b o e)
    ·rw[aQ,oT,eb,mZ];rfl
  · rintro σ H2 ⟨s2,d2,v,rfl⟩
    refine⟨stop H2 s2,hq H2 s2 ?_⟩;rw[d2,hl,vT]
theorem RQ{K:aaU}{a:Addr}{xs:List V}{bs:List Bool}{te:TE}{Q:VK}{D:Addr}{H H0:Hp}(rest:St)(hx:aI K H a xs)(nw:Nw H H0 D (.lst []))(hl:xs.length=bs.length)(hz:xs.length<=1000) (hs:∀(i:Nat)(x:V)(b:Bool)(H2:Hp)(Q':VK),xs[i]? =some x->bs[i]? =some b->ak H H2->(∀H3,ak H2 H3->Q' (.bl b) H3)->te (some x::rest) H2 Q') (hq:∀H',ak H H'->H' D=some (.lst (bs.map V.bl))->Q (.ref D) H'):iu (qi K a) (dX 0) gG te Q D (none::rest) H0:=IG rest nw hl hz (fun i x H2 e s=>⟨⟨xs,x,hx.go s,e⟩,fun y H3 ⟨e3,y3⟩=>⟨e3,by have:=y3 _ (hx.go s);rw[e]at this;exact(dj this).symm⟩⟩) (fun H2 s=>⟨xs,hx.go s,bo _⟩) hs hq
theorem a82{K:aaU}{a:Addr}{xs:List V}{bs:List Bool}{te:TE}{Q:VK}{D:Addr}{H H0:Hp}(rest:St)(hx:au K H a xs)(nw:Nw H H0 D (.lst []))(hl:xs.length=bs.length)(hz:xs.length<=1000) (hs:∀(i:Nat)(x:V)(b:Bool)(H2:Hp)(Q':VK),xs[i]? =some x->bs[i]? =some b->ak H H2->(∀H3,ak H2 H3->Q' (.bl b) H3)->te (some x::rest) H2 Q') (hq:∀H',ak H H'->H' D=some (.lst (bs.map V.bl))->Q (.ref D) H'):iu (qj K a) (dX 0) gG te Q D (none::rest) H0:=IG rest nw hl hz (fun i x H2 e s=>⟨⟨xs,x,hx.go s,e⟩,fun y H3 ⟨e3,y3⟩=>⟨e3,by have:=y3 _ (hx.go s);rw[e]at this;exact(dj this).symm⟩⟩) (fun H2 s=>⟨xs,hx.go s,bo _⟩) hs hq
theorem OG{ds:List aaX}{f:aaX->Bool}{i:Nat}{b:Bool}(h:(ds.map f)[i]? =some b):∃d,ds[i]? =some d/\f d=b:=by rw[bZ]at h;cases e:ds[i]? with |none=>rw[e]at h;cases h |some d=>rw[e]at h;exact⟨d,rfl,dj h⟩
theorem all_map{ds:List aaX}{f:aaX->Bool}:(ds.map f).all id=ds.all f:=by rw[List.all_map];rfl
section
variable {X:Cx}
inductive V6(K:aaU)(x:V)(y:V)(H:Hp)(Q:VK):Prop |mk (a:_)(b:_)(xs:_)(ys:_)(h0:x= .ref a)(h1:y= .ref b)(h2:au K H a xs)(h3:au K H b ys)(h4:xs.length+ys.length<=sizeLine)(h5:∀p H',Nw H H' p (.lst (xs++ys))->Q (.ref p) H'):V6 K x y H Q
def Zv(K:aaU):R2:=fun x y H Q=>V6 K x y H Q
theorem vy(K:aaU)(hK:X.K=K):cS X (binaryOp .Add) (Zv K):=by
 subst hK;intro pins s σ H x y v u Q I rx ry h;obtain⟨a,b,xs,ys,rfl,rfl,ha,hb,hz,q⟩:=h;cases rx;cases ry;obtain⟨its,r1,p1,_⟩:=I.list ha;obtain⟨lF,r2,p2,_⟩:=I.list hb;obtain⟨⟨cls,dd,data,sl⟩,n,ho,hc,hdd,hd⟩:=id p1;obtain⟨⟨aaE,dd2,data2,D5⟩,n2,uZ,AV,aal,hd2⟩:=id p2;simp only at hc hd AV hd2;subst hc hd AV hd2;have e:its.toArray++lF.toArray=(its++lF).toArray:=by simp
 refine concat_meets ⟨_,ho,rfl⟩ ⟨_,uZ,rfl⟩ noFill_list_add seq_list_add PySem.F.slot_list_add PySem.F.entry_list_add (PySem.F.args_list_add_2 _ _) (list_addW a b its.toArray lF.toArray n n2 dd dd2 sl D5 (by rw[dN,dN,<-r1.length,<-r2.length];exact hz)) ⟨ho,uZ,?_⟩;rw[e];have nw:Nw H (upd H s.heap.objs.size (.lst (xs++ys))) s.heap.objs.size (.lst (xs++ys)):=.of (I.hok.fresh (bo _));refine⟨.ref s.heap.objs.size,_,I.laid (t':=s.toks) (o:=.lst (xs++ys)) (fun b ob q=>bW _ q) (bo _) ?_,rfl,q _ _ nw⟩;exact⟨by rw[fm];exact hz,_,0,r1.append r2,dP _ rfl⟩
open Classical in
noncomputable def sP(h:Heap)(d:aaX)(w:Value):Bool:=if q:∃e as,Reads h w e as then PyData.eqv q.choose d else false
theorem a7b{h:Heap}{d e:aaX}{w:Value}{as:List Addr}(r:Reads h w e as):sP h d w=PyData.eqv e d:=by have q:∃e as,Reads h w e as:=⟨e,as,r⟩;unfold sP;rw[dif_pos q];obtain⟨as',r'⟩:=q.choose_spec;rw[(Reads.unique r' e as r).1]
theorem QO{pins:List (Addr×Obj)}{s:aaV}{σ:St}{H:Hp}(I:Inv X pins σ H s)(hu:X.A.units+65<cLine){x:V}{u:Value}{d:aaX}(rx:RelV x u)(hd:RD X.K H x d)(sd:SeqAt.shaped d=true): ∀{xs:List V}{us:List Value}{ds:List aaX},Vals xs us->aE X.K H xs ds->(∀e∈ds,SeqAt.shaped e=true)->(∀w∈us,SeqAt.EqAt X.A.in1 s w u (sP s.heap d w))/\us.any (sP s.heap d)=ds.any fun e=>PyData.eqv e d |xs,us,[],rv,h,_=>by cases h.nil_inv;cases rv;exact⟨fun _ h=>(cw h).elim,rfl⟩ |xs,us,e::ds,rv,h,se=>by obtain⟨y,ys,rfl,h1,h2⟩:=h.cons_inv;cases rv with |cons ra rb=>
      rename_i w ws;obtain⟨as,q1⟩:=RD.reads I e ra h1;obtain⟨bs,q2⟩:=RD.reads I d rx hd;have key:SeqAt.EqAt X.A.in1 s w u (PyData.eqv e d):=SeqAt.eqAt_reads e d X.A.in1 s w u as bs q1 q2 (Vx (se e (.head _))) (Vx sd) (SeqAt.room_of_shaped (se e (.head _)) (by show X.A.units+1+64<cLine;omega));obtain⟨k1,k2⟩:=QO I hu rx hd sd rb h2 (fun e' he=>se e' (.tail _ he));have ew:sP s.heap d w=PyData.eqv e d:=a7b q1;refine⟨fun z hz=>?_,?_⟩
      · rcases bB.mp hz with rfl|hz
        ·rw[ew];exact key
        ·exact k1 z hz
      ·rw[tT,tT,ew,k2]
end
end L2
namespace L2
theorem cu.Wu{k:Nat}{A:PySem.Around}(r:cu k A):A.units+65<PySem.cLine:=by have:=r.un;lia
end L2
namespace L2
open PySem PySem.Spec PyProof.Rows
def jD(b:Bool)(h:Heap)(it l:Addr)(k:Nat):Prop:=match b with|true=>h.IsListIter it l k|false=>h.IsTupleIter it l k
def gC(b:Bool)(h:Heap)(l:Addr)(xs:Array Value):Prop:=match b with|true=>h.IsList l xs|false=>h.IsTuple l xs
def pY(b:Bool):String:=match b with|true=>"list_iterator"|false=>"tuple_iterator"
theorem jD.to{b:Bool}{h g:Heap}{it l:Addr}{k:Nat}(x:jD b h it l k)(e:∀o,h.get? it=some o->g.get? it=some o):jD b g it l k:=by cases b<;>(obtain⟨o,ho,r⟩:=x;exact⟨o,e o ho,r⟩)
theorem gC.to{b:Bool}{h g:Heap}{l:Addr}{xs:Array Value}(x:gC b h l xs)(e:∀o,h.get? l=some o->g.get? l=some o):gC b g l xs:=by cases b<;>(obtain⟨o,ho,r⟩:=x;exact⟨o,e o ho,r⟩)
theorem jD.ob{b:Bool}{h:Heap}{it l:Addr}{k:Nat}(x:jD b h it l k):∃o,h.get? it=some o/\o.cls= .type (pY b)/\∀v,o.data≠ .cell v:=by cases b<;>(obtain⟨o,ho,c,d⟩:=x;exact⟨o,ho,c,fun v z=>by rw[d]at z;cases z⟩)
section
variable {prog:aaW}{w:World}{A:aaY}{E:Value->aaV->Prop}{s:aaV}
theorem uK{b:Bool}{l:Addr}{xs:Array Value}{Q:Value->aaV->Prop}(x:gC b s.heap l xs) (q:Q (.ref s.heap.objs.size) {s with heap:=s.heap.push {cls:=.type (pY b),data:=.fields #[.ref l,.int 0 0]}}):wpAny (model prog w) A (pyIter (.ref l)) Q E s:=by
  cases b
  ·exact wpAny_pyIter_tuple x q
  ·exact BO x q
theorem a2i{it t:Addr}{k:Nat}{ts:Array Value}{x:Value}{Q:Value->aaV->Prop}(hi:s.heap.IsTupleIter it t k)(ht:s.heap.IsTuple t ts)(hx:ts[k]? =some x) (q:∀g,g.IsTupleIter it t (k+1)->Heap.SameBut it s.heap g->Q x {s with heap:=g}):wpAny (model prog w) A (Builtin.SmallTypes.nextOf (.ref it)) Q E s:=by obtain⟨oi,ky,ci,di⟩:=id hi;obtain⟨ot,GC,_,nt,dt⟩:=ht;unfold Builtin.SmallTypes.nextOf;refine aH (BR (name:=Str.ofString "__next__") hi.typeIs Jv (BQ Jv hi.typeIs a9i ?_ (a9j _)));show wpAny _ _ (field (.ref it) 0>>=_) _ _ s;refine aH (iY ky di (x:=.ref t) rfl ?_);show wpAny _ _ (if(Value.ref t==Value.none)=true then _ else _) _ _ s;rw[aP (show¬((Value.ref t==Value.none)=true)from jK)];show wpAny _ _ (field (.ref it) 1>>=_) _ _ s;refine aH (iY ky di (x:=.int k 0) rfl ?_);show wpAny _ _ (seqItems? (.ref t)>>=_) _ _ s;refine aH (tJ GC dt ?_);simp only[VP,hx];refine aH (BN ky di (by simp) (bR ⟨x,rfl,bR (q _ ?_ (Heap.SameBut.update ..))⟩));exact⟨_,JO _ ky (VI (C0 di _)),(Obj.cls_mapFields ..).trans ci,by rw[C0 di];simp[rawInt]⟩
theorem a7g{it t:Addr}{k:Nat}{ts:Array Value}{Q:Value->aaV->Prop}(hh:A.handled=none)(hi:s.heap.IsTupleIter it t k)(ht:s.heap.IsTuple t ts)(hx:ts[k]? =none) (q:∀g e,Heap.ExtBut it s.heap g->(∃o,g.get? e=some o/\o.cls= .type "StopIteration")->E (.ref e) {s with heap:=g}):wpAny (model prog w) A (Builtin.SmallTypes.nextOf (.ref it)) Q E s:=by
  obtain⟨oi,ky,ci,di⟩:=id hi;obtain⟨ot,GC,_,nt,dt⟩:=ht;unfold Builtin.SmallTypes.nextOf;refine aH (BR (name:=Str.ofString "__next__") hi.typeIs Jv (BQ Jv hi.typeIs a9i ?_ (a9j _)));show wpAny _ _ (field (.ref it) 0>>=_) _ _ s;refine aH (iY ky di (x:=.ref t) rfl ?_);show wpAny _ _ (if(Value.ref t==Value.none)=true then _ else _) _ _ s;rw[aP (show¬((Value.ref t==Value.none)=true)from jK)];show wpAny _ _ (field (.ref it) 1>>=_) _ _ s;refine aH (iY ky di (x:=.int k 0) rfl ?_);show wpAny _ _ (seqItems? (.ref t)>>=_) _ _ s;refine aH (tJ GC dt ?_);simp only[VP,hx];refine aH (wpAny_rule (aH (BN ky di (by simp) ?_)));show wpAny _ _ (newExc (.type "StopIteration") []>>=_) _ _ _;refine aH ?_;simp only[newExc,newTuple];refine aH (oM ?_ (by size_fits));refine aH (m:=firstArgMember _ _) (yE (a:=Value.none) (by first|rfl|(simp only[firstArgMember];rfl)) ?_);refine oM ?_ (by size_fits);simp only[raiseNew];refine aH (wpAny_handled ?_)
  first|rw[show A.in1.handled=none from hh]|rw[hh]
  exact aH (bR (wpAny_throw (q _ _ (((Heap.SameBut.update ..).extBut.push _).push _) ⟨_,dP _ rfl,rfl⟩)))
theorem A5{b:Bool}{it l:Addr}{k:Nat}{xs:Array Value}{x:Value}{Q:Value->aaV->Prop}(hi:jD b s.heap it l k)(hl:gC b s.heap l xs)(hx:xs[k]? =some x) (q:∀g,jD b g it l (k+1)->Heap.SameBut it s.heap g->Q x {s with heap:=g}):wpAny (model prog w) A (Builtin.SmallTypes.nextOf (.ref it)) Q E s:=by
  cases b
  ·exact a2i hi hl hx q
  ·exact wpAny_nextOf_list_item hi hl hx q
theorem Il{b:Bool}{it l:Addr}{k:Nat}{xs:Array Value}{Q:Value->aaV->Prop}(hh:A.handled=none)(hi:jD b s.heap it l k)(hl:gC b s.heap l xs)(hx:xs[k]? =none) (q:∀g e,Heap.ExtBut it s.heap g->(∃o,g.get? e=some o/\o.cls= .type "StopIteration")->E (.ref e) {s with heap:=g}):wpAny (model prog w) A (Builtin.SmallTypes.nextOf (.ref it)) Q E s:=by
  cases b
  ·exact a7g hh hi hl hx q
  ·exact wpAny_nextOf_list_end hh hi hl hx q
structure Zp(b1 b2:Bool)(h:Heap)(z TI TO i1 i2 l1 l2:Addr)(f0:Value)(k:Nat):Prop where
 zz:IsZip h z TI TO f0
 ti:IsPair h TI (.ref i1) (.ref i2)
 to:∃a b,IsPair h TO a b
 n1:jD b1 h i1 l1 k
 n2:jD b2 h i2 l2 k
theorem NU{z TI TO:Addr}{Q:Bool->aaV->Prop}(hz:IsZip s.heap z TI TO .none)(q:Q true s):wpAny (model prog w) A (Builtin.SmallTypes.ownedTupleIsFree (.ref z)) Q E s:=by unfold Builtin.SmallTypes.ownedTupleIsFree;exact aH (iY hz rfl (x:=.none) rfl (bR q))
theorem W0{b1 b2:Bool}{z TI TO i1 i2 l1 l2:Addr}{k:Nat}{xs ys:Array Value}{x y:Value}{Q:Value->aaV->Prop}(D:ZipApart z TI TO i1 i2 l1 l2)(Z:Zp b1 b2 s.heap z TI TO i1 i2 l1 l2 .none k) (sf:gC b1 s.heap l1 xs)(pH:gC b2 s.heap l2 ys)(hx:xs[k]? =some x)(hy:ys[k]? =some y) (q:∀g,Zp b1 b2 g z TI TO i1 i2 l1 l2 (rawInt s.heap.objs.size) (k+1)->IsPair g s.heap.objs.size x y->(∀c o,c≠z->c≠TO->c≠i1->c≠i2->s.heap.get? c=some o->g.get? c=some o)->Q (.ref s.heap.objs.size) {s with heap:=g}): wpAny (model prog w) A (Builtin.«zip.__next__» ⟨[.ref z],[]⟩) (fun r s'=>∃v,r= .done (.ret v)/\Q v s') E s:=by
  obtain⟨hz,lb,⟨a,b,lL⟩,h1,h2⟩:=Z;show wpAny _ _ (field (.ref z) 2>>=_) _ _ _;refine aH (iY hz rfl (x:=.bool false) rfl ?_);show wpAny _ _ (field (.ref z) 3>>=_) _ _ _;refine aH (iY hz rfl (x:=.ref TI) rfl (aH (tJ lb rfl ?_)));show wpAny _ _ (Builtin.SmallTypes.ownedTupleIsFree (.ref z)>>=_) _ _ _;refine aH (NU hz ?_);simp only[tL];refine aH (wpAny_rule (aH (iY hz rfl (x:=.ref TO) rfl (aH (yD hz (by simp) fun g1 z1 e1=>?_)))));replace z1:IsZip g1 z TI TO .ellipsis:=z1;refine aH ?_;simp only[List.zipIdx_cons,List.zipIdx_nil,C8,List.forIn_nil];refine aH (aH (BP ?_));show wpAny _ _ (Builtin.SmallTypes.nextOf (.ref i1)>>=_) _ _ _;refine aH (A5 (h1.to fun o e=>e1.extBut _ _ D.i1z e) (sf.to fun o e=>e1.extBut _ _ D.l1z e) hx fun g2 n1 e2=>bR ?_);have t2:IsPair g2 TO a b:=e2.extBut _ _ D.TOi1 (e1.extBut _ _ D.TOz lL);refine aH (tJ t2 rfl (aH (Vu t2 fun g3 t3 e3=>?_)));replace t3:IsPair g3 TO x b:=t3;refine aH (wpAny_letGo (bR ?_));refine aH (aH (BP ?_));show wpAny _ _ (Builtin.SmallTypes.nextOf (.ref i2)>>=_) _ _ _;refine aH (A5 (h2.to fun o e=>e3.extBut _ _ D.TOi2.symm (e2.extBut _ _ D.i12.symm (e1.extBut _ _ D.i2z e))) (pH.to fun o e=>e3.extBut _ _ D.l2TO (e2.extBut _ _ D.l2i1 (e1.extBut _ _ D.l2z e))) hy fun g4 n2 e4=>bR ?_);have t4:IsPair g4 TO x b:=e4.extBut _ _ D.TOi2 t3;refine aH (tJ t4 rfl (aH (Vu t4 fun g5 t5 e5=>?_)));replace t5:IsPair g5 TO x y:=t5;refine aH (wpAny_letGo (bR (bR ?_)));refine aH (tJ t5 rfl (aH (wpAny_newTuple ?_)));have sz:g5.objs.size=s.heap.objs.size:=by rw[e5.1,e4.1,e3.1,e2.1,e1.1]
  have z5:IsZip g5 z TI TO .ellipsis:=e5.extBut _ _ D.TOz.symm (e4.extBut _ _ D.i2z.symm (e3.extBut _ _ D.TOz.symm (e2.extBut _ _ D.i1z.symm z1)));have kp:∀c o,c≠z->c≠TO->c≠i1->c≠i2->s.heap.get? c=some o->g5.get? c=some o:=fun c o c1 c2 c3 c4 e=>e5.extBut _ _ c2 (e4.extBut _ _ c4 (e3.extBut _ _ c2 (e2.extBut _ _ c3 (e1.extBut _ _ c1 e))));have m1:jD b1 g5 i1 l1 (k+1):=n1.to fun o e=>e5.extBut _ _ D.TOi1.symm (e4.extBut _ _ D.i12 (e3.extBut _ _ D.TOi1.symm e));have m2:jD b2 g5 i2 l2 (k+1):=n2.to fun o e=>e5.extBut _ _ D.TOi2.symm e;have Cd:z<g5.objs.size:=cf z5;show wpAny _ _ (Builtin.SmallTypes.ownedTupleHandOut (.ref z) (.ref g5.objs.size)>>=_) _ _ _;refine aH ?_;unfold Builtin.SmallTypes.ownedTupleHandOut;have z6:IsZip (g5.push {cls:=.type "tuple",data:=.seq #[x,y]}) z TI TO .ellipsis:=bW _ z5;refine aH (yD z6 (by simp) fun g7 z7 e7=>?_);replace z7:IsZip g7 z TI TO (rawInt g5.objs.size):=z7;refine yD z7 (by simp) fun g8 z8 e8=>?_;replace z8:IsZip g8 z TI TO (rawInt g5.objs.size):=z8;have up:∀c o,c≠z->g5.get? c=some o->g8.get? c=some o:=fun c o c1 e=>e8.extBut _ _ c1 (e7.extBut _ _ c1 (bW _ e));have t8:IsPair g8 g5.objs.size x y:=e8.extBut _ _ (C1 Cd) (e7.extBut _ _ (C1 Cd) (dP _ rfl));rw[sz]at z8 t8;refine bR ⟨_,rfl,?_⟩;show Q (.ref g5.objs.size) _;rw[sz];exact q g8 ⟨z8,up _ _ D.TIz (kp _ _ D.TIz D.TITO D.TIi1 D.TIi2 lb),⟨_,_,up _ _ D.TOz t5⟩,m1.to fun o e=>up _ o D.i1z e,m2.to fun o e=>up _ o D.i2z e⟩ t8 fun c o c1 c2 c3 c4 e=>up c o c1 (kp c o c1 c2 c3 c4 e)
theorem W3{b1 b2:Bool}{z TI TO i1 i2 l1 l2:Addr}{k:Nat}{xs ys:Array Value}{Q:Fin->aaV->Prop}(hh:A.handled=none)(D:ZipApart z TI TO i1 i2 l1 l2)(Z:Zp b1 b2 s.heap z TI TO i1 i2 l1 l2 .none k) (sf:gC b1 s.heap l1 xs)(pH:gC b2 s.heap l2 ys)(lI:xs[k]? =none\/ys[k]? =none) (q:∀g e,(∀c o,c≠z->c≠TO->c≠i1->c≠i2->s.heap.get? c=some o->g.get? c=some o)->(∃o,g.get? e=some o/\o.cls= .type "StopIteration")->E (.ref e) {s with heap:=g}): wpAny (model prog w) A (Builtin.«zip.__next__» ⟨[.ref z],[]⟩) Q E s:=by obtain⟨hz,lb,⟨a,b,lL⟩,h1,h2⟩:=Z;show wpAny _ _ (field (.ref z) 2>>=_) _ _ _;refine aH (iY hz rfl (x:=.bool false) rfl ?_);show wpAny _ _ (field (.ref z) 3>>=_) _ _ _;refine aH (iY hz rfl (x:=.ref TI) rfl (aH (tJ lb rfl ?_)));show wpAny _ _ (Builtin.SmallTypes.ownedTupleIsFree (.ref z)>>=_) _ _ _;refine aH (NU hz ?_);simp only[tL];refine aH (wpAny_rule (aH (iY hz rfl (x:=.ref TO) rfl (aH (yD hz (by simp) fun g1 z1 e1=>?_)))));replace z1:IsZip g1 z TI TO .ellipsis:=z1;refine aH ?_;simp only[List.zipIdx_cons,List.zipIdx_nil,C8,List.forIn_nil];refine aH (aH (BP ?_));show wpAny _ _ (Builtin.SmallTypes.nextOf (.ref i1)>>=_) _ _ _;have j1:=h1.to fun o e=>e1.extBut _ _ D.i1z e;have k1:=sf.to fun o e=>e1.extBut _ _ D.l1z e;cases hx:xs[k]? with
  |none=>
    refine aH (Il hh j1 k1 hx fun g2 er e2 ⟨oe,rX,xQ⟩=>?_);have z2:IsZip g2 z TI TO .ellipsis:=e2 _ _ D.i1z.symm z1;have nz:er≠z:=fun v=>by subst v;rw[z2]at rX;cases rX;simp at xQ
    refine yD z2 (by simp) fun g3 _ e3=>q g3 er (fun c o c1 _ c3 _ v=>e3.extBut _ _ c1 (e2 _ _ c3 (e1.extBut _ _ c1 v))) ⟨oe,e3.extBut _ _ nz rX,xQ⟩ |some x=>
    have hy:ys[k]? =none:=by rcases lI with h|h;rw[hx]at h;cases h;exact h
    refine aH (A5 j1 k1 hx fun g2 n1 e2=>bR ?_);have t2:IsPair g2 TO a b:=e2.extBut _ _ D.TOi1 (e1.extBut _ _ D.TOz lL);refine aH (tJ t2 rfl (aH (Vu t2 fun g3 t3 e3=>?_)));refine aH (wpAny_letGo (bR ?_));refine aH (aH (BP ?_));show wpAny _ _ (Builtin.SmallTypes.nextOf (.ref i2)>>=_) _ _ _;refine aH (Il hh (h2.to fun o e=>e3.extBut _ _ D.TOi2.symm (e2.extBut _ _ D.i12.symm (e1.extBut _ _ D.i2z e))) (pH.to fun o e=>e3.extBut _ _ D.l2TO (e2.extBut _ _ D.l2i1 (e1.extBut _ _ D.l2z e))) hy fun g4 er e4 ⟨oe,rX,xQ⟩=>?_);have z4:IsZip g4 z TI TO .ellipsis:=e4 _ _ D.i2z.symm (e3.extBut _ _ D.TOz.symm (e2.extBut _ _ D.i1z.symm z1));have nz:er≠z:=fun v=>by subst v;rw[z4]at rX;cases rX;simp at xQ
    refine yD z4 (by simp) fun g5 _ e5=>q g5 er (fun c o c1 c2 c3 c4 v=>e5.extBut _ _ c1 (e4 _ _ c4 (e3.extBut _ _ c2 (e2.extBut _ _ c3 (e1.extBut _ _ c1 v))))) ⟨oe,e5.extBut _ _ nz rX,xQ⟩
abbrev yW(b1:Bool)(h:Heap)(l1:Addr):Heap:=h.push {cls:=.type (pY b1),data:=.fields #[.ref l1,.int 0 0]}
abbrev yV(b1 b2:Bool)(h:Heap)(l1 l2:Addr):Heap:=(yW b1 h l1).push {cls:=.type (pY b2),data:=.fields #[.ref l2,.int 0 0]}
abbrev yU(b1 b2:Bool)(h:Heap)(l1 l2:Addr):Heap:=(yV b1 b2 h l1 l2).push {cls:=.type "tuple",data:=.seq #[.ref h.objs.size,.ref (yW b1 h l1).objs.size]}
abbrev yT(b1 b2:Bool)(h:Heap)(l1 l2:Addr):Heap:=(yU b1 b2 h l1 l2).push {cls:=.type "tuple",data:=.seq #[.none,.none]}
abbrev tX(b1 b2:Bool)(h:Heap)(l1 l2:Addr):Heap:=(yT b1 b2 h l1 l2).push {cls:=.type "zip",data:=.fields #[.none,.bool false,.bool false,.ref (yV b1 b2 h l1 l2).objs.size,.ref (yU b1 b2 h l1 l2).objs.size]}
theorem VZ(b1 b2:Bool)(l1 l2:Addr)(xs ys:Array Value):Meets (Builtin.«zip.__new__» ⟨[.type "zip",.ref l1,.ref l2],[]⟩) (fun _ R s=>gC b1 s.heap l1 xs/\gC b2 s.heap l2 ys/\R (.ok (.ret (.ref (yT b1 b2 s.heap l1 l2).objs.size))) {s with heap:=tX b1 b2 s.heap l1 l2}):=.of_wp fun prog w A R s h=>by
   obtain⟨hp,gg,d,tk,os⟩:=s;obtain⟨sf,pH,h⟩:=h;have Gv:=sub_zip;have hL1:gC b1 (Shared.heap ⟨hp,gg,d,tk,os⟩) l1 xs:=sf;have xS:gC b2 (Shared.heap ⟨hp.push {cls:=.type (pY b1),data:=.fields #[.ref l1,.int 0 0]},gg,d,tk,os⟩) l2 ys:=pH.to fun o e=>bW _ e
   wp_walk using uK hL1,uK xS;exact⟨_,rfl,h⟩
theorem W4{b1 b2:Bool}{l1 l2:Addr}{xs ys:Array Value}{Q:Value->aaV->Prop}(sf:gC b1 s.heap l1 xs)(pH:gC b2 s.heap l2 ys) (q:∀g,Zp b1 b2 g (s.heap.objs.size+4) (s.heap.objs.size+2) (s.heap.objs.size+3) s.heap.objs.size (s.heap.objs.size+1) l1 l2 .none 0->(∀c o,s.heap.get? c=some o->g.get? c=some o)->Q (.ref (s.heap.objs.size+4)) {s with heap:=g}): wpAny (model prog w) A (call (.type "zip") [.ref l1,.ref l2]) Q E s:=by
  refine callType_new PySem.F.called_zip (by decide) (PySem.F.typeCall_zip_2 _ _) (PySem.F.newCall_zip_2 _ _) (fun obj=>PySem.F.args_object_init_3 obj _ _) PySem.F.entry_zip_new (VZ b1 b2 l1 l2 xs ys) ⟨sf,pH,?_⟩;have z1:(yW b1 s.heap l1).objs.size=s.heap.objs.size+1:=qA ..;have z2:(yV b1 b2 s.heap l1 l2).objs.size=s.heap.objs.size+2:=by rw[qA,z1]
  have z3:(yU b1 b2 s.heap l1 l2).objs.size=s.heap.objs.size+3:=by rw[qA,z2]
  have z4:(yT b1 b2 s.heap l1 l2).objs.size=s.heap.objs.size+4:=by rw[qA,z3]
  have g5:(tX b1 b2 s.heap l1 l2).get? (yT b1 b2 s.heap l1 l2).objs.size=some _:=dP _ rfl;have g4:(tX b1 b2 s.heap l1 l2).get? (yU b1 b2 s.heap l1 l2).objs.size=some _:=bW _ (dP _ rfl);have g3:(tX b1 b2 s.heap l1 l2).get? (yV b1 b2 s.heap l1 l2).objs.size=some _:=bW _ (bW _ (dP _ rfl));have g2:(tX b1 b2 s.heap l1 l2).get? (yW b1 s.heap l1).objs.size=some _:=bW _ (bW _ (bW _ (dP _ rfl)));have g1:(tX b1 b2 s.heap l1 l2).get? s.heap.objs.size=some _:=bW _ (bW _ (bW _ (bW _ (dP _ rfl))));show _/\_;rw[z2,z3,z4]at g5;rw[z1,z2]at g3;rw[z3]at g4;rw[z1]at g2;rw[z4];refine⟨⟨_,g5,rfl⟩,q _ ⟨g5,g3,⟨_,_,g4⟩,?_,?_⟩ fun c o e=>bW _ (bW _ (bW _ (bW _ (bW _ e))))⟩
  ·cases b1<;>exact⟨_,g1,rfl,rfl⟩
  ·cases b2<;>exact⟨_,g2,rfl,rfl⟩
end
section
variable {X:Cx}{pins:List (Addr×Obj)}{σ:St}{H:Hp}{s:aaV}{h':Heap}
theorem Inv.wo{t':Nat}{fp:List Addr}(I:Inv X pins σ H s)(k:∀b o,b∉fp->s.heap.get? b=some o->h'.get? b=some o)(hf:∀b∈fp,kL X pins H b):Inv X pins σ H {s with heap:=h',toks:=t'}:=by
 have xp:∀b u,H b=some u->b∉fp:=fun b u e z=>by rw[(hf b z).1]at e;cases e
 have hL:X.env.locals∉fp:=fun z=>(hf _ z).2.1 rfl;refine I.step (g':=s.gens) (d':=s.drawn) (ch:=fp) (fun b hb=>?_) (fun b o _ _ hc e _=>k b o hc e) (fun b o _ _ hc e _=>⟨o.slots,k b o hc e⟩) (fun _ _ _ _ n=>n) (fun b o hc e=>⟨o,k b o hc e⟩) (fun _ _ e=>e) (fun _ _ _ e=>e) (fun b ps e=>⟨#[],by rw[e];simp⟩) (fun m hm=>?_) (fun b u e=>?_) I.bare
 · obtain⟨f0,f1,f2,f3,f4,f5⟩:=hf b hb
   exact⟨f3,f1,f4,f5⟩
 · obtain⟨o,es,ep,ho,r⟩:=hm
   exact⟨o,es,ep,k _ o hL ho,r⟩
 · refine(I.hok b u e).lB (fun c v hc q=>k c v ?_ q) (fun _ q=>q) fun _ _ q=>q
   rcases hc with z|z
   ·rw[z];exact xp b u e
   ·exact xp c _ z
end
def dM(b:Bool)(K:aaU)(H:Hp)(a:Addr)(xs:List V):Prop:=match b with|true=>au K H a xs|false=>aI K H a xs
theorem dM.get{X:Cx}{pins:List (Addr×Obj)}{σ:St}{H:Hp}{s:aaV}{b:Bool}{a:Addr}{xs:List V}(I:Inv X pins σ H s)(h:dM b X.K H a xs):∃its:List Value,Vals xs its/\gC b s.heap a its.toArray:=by
 cases b
 ·obtain⟨its,r,p,_⟩:=I.tuple h;exact⟨its,r,p⟩
 ·obtain⟨its,r,p,_⟩:=I.list h;exact⟨its,r,p.isList⟩
theorem dM.inj{X:Cx}{pins:List (Addr×Obj)}{σ:St}{H:Hp}{s:aaV}{b:Bool}{a:Addr}{xs ys:List V}(I:Inv X pins σ H s)(h:dM b X.K H a xs)(g:dM b X.K H a ys):xs=ys:=by
 cases b
 ·exact I.Kb h g
 ·exact I.OS h g
def lT(K:aaU)(b1 b2:Bool)(l1 l2:Addr):It:=⟨fun i H=>∃xs ys x y,dM b1 K H l1 xs/\dM b2 K H l2 ys/\xs[i]? =some x/\ys[i]? =some y,fun i H v H'=>∃T x y,v= .ref T/\(∀xs,dM b1 K H l1 xs->xs[i]? =some x)/\(∀ys,dM b2 K H l2 ys->ys[i]? =some y)/\Nw H H' T (.tup [x,y]),fun i H=>∃xs ys,dM b1 K H l1 xs/\dM b2 K H l2 ys/\(xs.length<=i\/ys.length<=i)⟩
theorem WD{P:aaW}{w:World}{K:aaU}{elts:List Expr}{kt:Nat}{pos:Pos}{b1 b2:Bool}{z TI TO i1 i2 l1 l2:Addr}(D:ZipApart z TI TO i1 i2 l1 l2): Turn P w K (.Tuple elts kt pos) (lT K b1 b2 l1 l2) [z,TI,TO,i1,i2] z (fun i h=>Zp b1 b2 h z TI TO i1 i2 l1 l2 .none i) where
  mem:=by simp
  obj:=fun i h st b hb=>by
   obtain⟨hz,lb,⟨a,c,lL⟩,h1,h2⟩:=st;simp only[bB,cw,df]at hb;rcases hb with rfl|rfl|rfl|rfl|rfl
   ·exact⟨_,hz,fun v e=>by cases e⟩
   ·exact⟨_,lb,fun v e=>by cases e⟩
   ·exact⟨_,lL,fun v e=>by cases e⟩
   ·obtain⟨o,e,_,n⟩:=h1.ob;exact⟨o,e,n⟩
   ·obtain⟨o,e,_,n⟩:=h2.ob;exact⟨o,e,n⟩
  keep:=fun i h h' st k=>by obtain⟨hz,lb,⟨a,c,lL⟩,h1,h2⟩:=st;exact⟨k z (by simp) _ hz,k TI (by simp) _ lb,⟨a,c,k TO (by simp) _ lL⟩,h1.to fun o e=>k i1 (by simp) o e,h2.to fun o e=>k i2 (by simp) o e⟩
  item:=by
   intro X hP hw hK hc i pins s σ H E I hf st hg;subst hP hw hK;obtain⟨xs,ys,x,y,q1,q2,e1,e2⟩:=hg;obtain⟨Gj,r1,p1⟩:=q1.get I;obtain⟨lF,r2,p2⟩:=q2.get I;obtain⟨u1,fb,kg⟩:=r1.get e1;obtain⟨u2,hu2,qQ⟩:=r2.get e2;have hT:s.TypeIs (.ref z) "zip":=⟨_,st.zz,rfl⟩;unfold pyNext;refine aH (wpAny_attempt (BR (name:=Str.ofString "__next__") hT Ju (BQ Ju hT PySem.F.entry_zip_next (W0 D st p1 p2 (x:=u1) (y:=u2) (by simpa using fb) (by simpa using hu2) fun g zg tg kp=>bR ?_) (PySem.F.args_zip_next_1 _))));refine⟨_,rfl,?_⟩;refine wpAny_letOwnedTupleGo_zip zg.zz fun g' VY sb=>?_;have hs:=sb.extBut;have Cd:z<s.heap.objs.size:=cf st.zz;have nw:Nw H (upd H s.heap.objs.size (.tup [x,y])) s.heap.objs.size (.tup [x,y]):=.of (I.hok.fresh (bo _));have I1:Inv X pins σ (upd H s.heap.objs.size (.tup [x,y])) {s with heap:=s.heap.push {cls:=.type "tuple",data:=.seq #[u1,u2]}}:=I.laid (t':=s.toks) (fun b ob q=>bW _ q) (bo _) ⟨by show 2<=sizeLine;decide,[u1,u2],.cons kg (.cons qQ .nil),⟨_,dP _ rfl,rfl,_,rfl⟩⟩;have G2:∀b∈[z,TI,TO,i1,i2],b<s.heap.objs.size:=fun b hb=>by
    simp only[bB,cw,df]at hb;obtain⟨hz,lb,⟨a,c,lL⟩,h1,h2⟩:=st;rcases hb with rfl|rfl|rfl|rfl|rfl
    ·exact cf hz
    ·exact cf lb
    ·exact cf lL
    ·obtain⟨o,e,_⟩:=h1.ob;exact cf e
    ·obtain⟨o,e,_⟩:=h2.ob;exact cf e
   have hn:∀b∈[z,TI,TO,i1,i2],upd H s.heap.objs.size (.tup [x,y]) b=none:=fun b hb=>by rw[aB (fe (G2 b hb))];exact(hf b hb).1
   have I2:Inv X pins σ (upd H s.heap.objs.size (.tup [x,y])) {s with heap:=g'}:=Inv.wo (s:={s with heap:=s.heap.push {cls:=.type "tuple",data:=.seq #[u1,u2]}}) (t':=s.toks) (fp:=[z,TI,TO,i1,i2]) I1 (fun b o hb e=>by
    have e:(s.heap.push {cls:=.type "tuple",data:=.seq #[u1,u2]}).get? b=some o:=e;have nz:b≠z:=fun q=>hb (by simp[q]);rcases Heap.get?_push_cases e with⟨vh,rfl⟩|e'
    · subst vh
      exact hs _ _ nz tg
    ·exact hs _ _ nz (kp b o nz (fun q=>hb (by simp[q])) (fun q=>hb (by simp[q])) (fun q=>hb (by simp[q])) e')) (fun b hb=>by obtain⟨f0,f1,f2,f3,f4,f5⟩:=hf b hb;exact⟨hn b hb,f1,f2,f3,f4,f5⟩);refine⟨.ref s.heap.objs.size,_,I2,rfl,⟨s.heap.objs.size,x,y,rfl,fun zs hz=>?_,fun zs hz=>?_,nw⟩,?_,hn⟩
   ·rw[dM.inj I hz q1];exact e1
   ·rw[dM.inj I hz q2];exact e2
   · obtain⟨_,lb,⟨a,c,lL⟩,h1,h2⟩:=zg
     exact⟨VY,hs _ _ D.TIz lb,⟨a,c,hs _ _ D.TOz lL⟩,h1.to fun o e=>hs _ o D.i1z e,h2.to fun o e=>hs _ o D.i2z e⟩
  done:=by intro X hP hw hK hc i pins s σ H E I hf st hg;subst hP hw hK;obtain⟨xs,ys,q1,q2,lI⟩:=hg;obtain⟨Gj,r1,p1⟩:=q1.get I;obtain⟨lF,r2,p2⟩:=q2.get I;have hT:s.TypeIs (.ref z) "zip":=⟨_,st.zz,rfl⟩;have l1:=r1.length;have l2:=r2.length;unfold pyNext;refine aH (wpAny_attempt (BR (name:=Str.ofString "__next__") hT Ju (BQ Ju hT PySem.F.entry_zip_next (W3 (I.ok.hd hc) D st p1 p2 (lI.imp (fun h=>by simp;lia) fun h=>by simp;lia) fun g e kp he=>?_) (PySem.F.args_zip_next_1 _))));obtain⟨o,ho,kZ⟩:=he;refine aH (wpAny_isInstance (T:="StopIteration") (b:=true) ⟨o,ho,kZ⟩ isSubtype_stop (bR ⟨rfl,?_⟩));exact I.wo (t':=s.toks) (fp:=[z,TI,TO,i1,i2]) (fun b o hb e=>kp b o (fun q=>hb (by simp[q])) (fun q=>hb (by simp[q])) (fun q=>hb (by simp[q])) (fun q=>hb (by simp[q])) e) hf
  self:=fun _ _ _ _ _ st h=>wpAny_pyIter_zip st.zz h
inductive V9(K:aaU)(b1:Bool)(b2:Bool)(R:It->Hp->Prop)(vs:List V)(H1:Hp):Prop |mk (l1:_)(l2:_)(h0:vs=[.ref l1,.ref l2])(h1:(∃xs,dM b1 K H1 l1 xs))(h2:(∃ys,dM b2 K H1 l2 ys))(h3:R (lT K b1 b2 l1 l2) H1):V9 K b1 b2 R vs H1
def a40(K:aaU)(b1 b2:Bool)(ta:TA):TI:=fun σ H R=>ta σ H fun vs H1=>V9 K b1 b2 R vs H1
theorem jr(K:aaU){X:Cx}(hK:X.K=K)(b1 b2:Bool){elts:List Expr}{kt:Nat}{ny:Pos}{a b:Expr}{ta:TA}{p pos:Pos}(hg:Gl X "zip")(hm:X.mg "zip"=none)(ha:PA X [a,b] ta)(hs:starEach [a,b] X.env=[(false,eval a X.env),(false,eval b X.env)]:=by rfl)(iU:starEach [b] X.env=[(false,eval b X.env)]:=by rfl): PI X (.Tuple elts kt ny) (.Call (.Name "zip" p) [a,b] [] pos) (a40 K b1 b2 ta):=by
  subst hK;intro pins s σ H R I h;refine Call_ (nU I hg hm PyProof.Rows.boot_zip (vS (aM (ha pos pins s σ H _ I h) fun us s1 ⟨vs,H1,I1,r1,q1⟩=>?_) (by rw[hs,iU]) (by rw[iU];rfl)));obtain⟨l1,l2,e,⟨xs,h1⟩,⟨ys,h2⟩,q⟩:=q1;subst e;obtain⟨u1,u2,rfl,kg,qQ⟩:=vals2 r1;cases(show u1=Value.ref l1 from kg);cases(show u2=Value.ref l2 from qQ);obtain⟨Gj,v1,p1⟩:=h1.get I1;obtain⟨lF,v2,p2⟩:=h2.get I1;have a1:l1<s1.heap.objs.size:=by cases b1<;>(obtain⟨o,e,_⟩:=p1;exact cf e)
  have a2:l2<s1.heap.objs.size:=by cases b2<;>(obtain⟨o,e,_⟩:=p2;exact cf e)
  refine W4 p1 p2 fun g zg kp=>wpAny_pyIter_zip zg.zz ?_;refine⟨_,_,_,_,H1,rfl,I1.kept (t':=s1.toks) kp,WD (zipApart_new a1 a2),zg,fun c hc=>?_,q⟩;have hle:s1.heap.objs.size<=c:=by simp only[bB,cw,df]at hc;rcases hc with rfl|rfl|rfl|rfl|rfl<;>first|exact bo _|exact Nat.le_add_right _ _
  exact I1.oq hle (I1.hok.fresh hle)
theorem dM.go{b:Bool}{K:aaU}{H H':Hp}{a:Addr}{xs:List V}(s:ak H H')(h:dM b K H a xs):dM b K H' a xs:=by
 cases b
 ·exact aI.go s h
 ·exact au.go s h
theorem RP{K:aaU}{b1 b2:Bool}{l1 l2:Addr}{xs ys:List V}{bs:List Bool}{te:TE}{Q:VK}{D:Addr}{H H0:Hp}{n:Nat}(rest:St)(hn:n=2)(h1:dM b1 K H l1 xs)(h2:dM b2 K H l2 ys)(nw:Nw H H0 D (.lst [])) (hl:min xs.length ys.length=bs.length)(hz:bs.length<=1000) (hs:∀(i:Nat)(x y:V)(b:Bool)(H2:Hp)(Q':VK),xs[i]? =some x->ys[i]? =some y->bs[i]? =some b->ak H H2->(∀H3,ak H2 H3->Q' (.bl b) H3)->te (some x::some y::rest) H2 Q') (hq:∀H',ak H H'->H' D=some (.lst (bs.map V.bl))->Q (.ref D) H'):iu (lT K b1 b2 l1 l2) (om K n (jz (dX 0) (jz (dX 1) pR))) gG te Q D (none::none::rest) H0:=by
  subst hn;have hD:=nw.no;refine pX bs.length (fun i σ H2=>ak H H2/\H2 D=some (.lst ((bs.take i).map V.bl))/\∃v v',σ=v::v'::rest) ?_ ?_ ?_
  ·exact⟨nw.same,nw.at',none,none,rfl⟩
  · rintro i σ H2 hi ⟨s2,d2,v,v',rfl⟩
    have hx:i<xs.length:=by lia
    have hy:i<ys.length:=by lia
    have ex:=bN hx;have ey:=bN hy;have eb:=bN hi;refine⟨⟨xs,ys,_,_,h1.go s2,h2.go s2,ex,ey⟩,fun y' H3 jx=>?_⟩;obtain⟨T,x0,y0,rfl,k1,k2,n3⟩:=jx;have e1:=k1 _ (h1.go s2);have e2:=k2 _ (h2.go s2);rw[ex]at e1;rw[ey]at e2;cases e1;cases e2;refine⟨T,_,rfl,aI.of n3.at',rfl,_,_,rfl,_,_,rfl,rfl,?_⟩;refine yes (bF ?_);refine hs i _ _ _ _ _ ex ey eb (s2.trans n3.same) fun H4 s4=>?_;refine⟨_,s4 _ _ (n3.same _ _ d2),?_,bs.length-(i+1),by lia,rfl,by lia,fun b o e=>?_,?_,_,_,rfl⟩
    · rw[bT,nc]
      have:(1000:Nat)<sizeLine:=by decide
      lia
    ·rw[aB (fH e hD)];exact s4 b o (n3.same b o (s2 b o e))
    ·rw[aQ,oT,eb,mZ];rfl
  · rintro σ H2 ⟨s2,d2,v,v',rfl⟩
    refine⟨⟨xs,ys,h1.go s2,h2.go s2,by lia⟩,hq H2 s2 ?_⟩;rw[d2,vT]
theorem fk.there{P:aaW}{w:World}{H:Hp}{h:Heap}{a:Addr}{o:HO}(x:fk P w H h a o):∃ob,h.get? a=some ob:=by induction o with |lst xs=>obtain⟨_,_,_,_,e⟩:=x;exact⟨_,e⟩ |tup xs=>obtain⟨_,_,_,ob,e,_⟩:=x;exact⟨ob,e⟩ |dK aG=>obtain⟨_,_,_,_,ob,_,_,e,_⟩:=x;exact⟨ob,e⟩ |dT aG=>obtain⟨_,_,_,_,ob,_,_,e,_⟩:=x;exact⟨ob,e⟩ |set S n=>obtain⟨ob,_,_,_,e,_⟩:=x;exact⟨ob,e⟩ |ins C dx fs=>obtain⟨_,_,_,e,_⟩:=x;exact⟨_,e⟩ |own y=>exact x |xd fs=>obtain⟨_,⟨ob,_,_,e,_⟩,_⟩:=x;exact⟨ob,e⟩ |qR lo hi=>obtain⟨_,_,_,e⟩:=x;exact⟨_,e⟩ |lN ob u=>exact⟨_,x.1⟩ |eG ps=>exact⟨_,x⟩ |met f y=>exact⟨_,x⟩ |ext φ=>exact x.2.1
structure Fl(P:aaW)(w:World)(outer:List Env)(H:Hp)(h₁:Heap)(ex:Addr)(H':Hp)(B h:Heap):Prop where
 un:Un (cR outer) [] H H' h₁ h
 hok:dc P w H' h
 k1:∀b o,h₁.get? b=some o->H b=none->b∉cR outer->B.get? b=some o
 k2:∀b o,H' b=some o->∃ob,B.get? b=some ob
 k3:∀b o,h₁.get? b=some o->b∉cR outer->∃ob,B.get? b=some ob
 fr:∀b∈cR outer,H' b=none
 nw:h₁.get? ex=none
 ne:H' ex=none
theorem Fl.step{P:aaW}{w:World}{outer:List Env}{H H':Hp}{h₁ B h h':Heap}{ex:Addr}{base:Heap}(F:Fl P w outer H h₁ ex H' B h)(st:B.StaysIn h)(gh:B.StaysIn h')(up:h.UpToSlots h')(ff:h.FunFrames base outer):Fl P w outer H h₁ ex H' B h':=by
 have slot:∀b o,h₁.get? b=some o->H b=none->b∈cR outer->∃sl,h'.get? b=some {o with slots:=sl}:=fun b o e n hb=>by obtain⟨sl,e1⟩:=F.un.slot b o e n hb (by simp);obtain⟨_,o2,e2,hd⟩:=ff.mem hb;rw[e1]at e2;cases e2;obtain⟨D6,e3⟩:=up b _ e1 (fun vs=>hd vs);exact⟨D6,e3⟩
 refine⟨⟨fun b o e n hb _=>gh b o (F.k1 b o e n hb),fun b o e n hb _=>slot b o e n hb,F.un.free,fun b o e hx=>?_,F.un.tups,F.un.frzs,F.un.tbls⟩,fun b u e=>?_,F.k1,F.k2,F.k3,F.fr,F.nw,F.ne⟩
 · by_cases hb:b∈cR outer
   · obtain⟨_,o2,e2,hd⟩:=ff.mem hb
     obtain⟨sl,e3⟩:=up b o2 e2 hd;exact⟨_,e3⟩
   · obtain⟨ob,e1⟩:=F.k3 b o e hb
     exact⟨ob,gh b ob e1⟩
 · refine(F.hok b u e).lB (fun c v hc q=>?_) (fun _ q=>q) fun _ _ q=>q
   have inB:∃ob,B.get? c=some ob:=by
    rcases hc with z|z
    ·rw[z];exact F.k2 b u e
    ·exact F.k2 c _ z
   obtain⟨ob,e1⟩:=inB;have e2:=st c ob e1;rw[q]at e2;cases e2;exact gh c _ e1
section
variable {P:aaW}{w:World}{K:aaU}{mg:Str->Option Value}{base:Heap}{N:List Str}{qual:Str}{scope:Scope}{f:Addr}{cd:Value}{A:aaY}{outer:List Env}{s:aaV}{H:Hp}{E:XK}{pins:List (Addr×Obj)}{σ:St}{H1:Hp}{s1:aaV}{h2:Heap}{ex:Addr}{cls:Value}{vs:List Value}
end
structure Exc(K:aaU)(mg:Str->Option Value)(x:Str)(C:Addr)(lQ:List Value)(newId:String):Prop where
 at':mg x=some (.ref C)
 ok:PySem.W.excIn K C lQ newId=true
theorem Exc.own{K:aaU}{mg:Str->Option Value}{x:Str}{C:Addr}{lQ:List Value}{newId:String}{h:Heap}(e:Exc K mg x C lQ newId)(X:K.In h):OwnCls x C lQ newId mg h:=by
 refine⟨e.at',?_⟩;have q:=e.ok;unfold PySem.W.excIn at q;split at q
 · rename_i dd cd sl ho
   split at q
   · rename_i D2 bl a0 a1 a2 a3 nn a5 hm hs
     simp only[fC,eu,VX]at q;obtain⟨⟨⟨⟨⟨r1,r2⟩,PV⟩,ht⟩,hok⟩,AI⟩:=q;subst r1 r2;obtain⟨c1,c2,c3,c4,c5,c6,c7,c8,c9,c10,c11⟩:=cd;dsimp only at hm PV hok AI;subst hm PV;obtain⟨l⟩:=sl;simp only at hs;subst hs;exact⟨bl,c4,c1,c5,c2,c6,c7,c8,c9,c10,dd,a0,a1,a2,a3,a5,_,X _ _ ho,.of_isNs (PySem.W.isNs_of_in X hok),PySem.W.nsMap_none_of_in X hok AI,PySem.W.tail_of_in X ht⟩
   ·cases q
 ·cases q
section
variable {X:Cx}{x:Str}{C:Addr}{lQ:List Value}{newId Gp B:String}{e:Expr}{t:TA}{np cm pos:Pos}
def WZ(E:XK)(cls:Value)(t:TA):TS:=fun _ σ H=>t σ H fun vs H1=>vs.length<=sizeLine/\E cls none H1
theorem ZJ{E:XK}(hx:∀pins σ H s h2 ex vs,Inv X pins σ H s->Heap.MadeExcOf s.heap h2 ex (.ref C) vs->E (.ref C) none H->X.xe (.ref ex) {s with heap:=h2})(EC:Exc X.K X.mg x C lQ newId)(FB:ExcBaseFacts B newId Gp lQ)(hh:X.A.handled=none)(hg:Gl X x)(ha:PA X [e] t) (he:starEach [e] X.env=[(false,eval e X.env)]:=by rfl)(hd:(x==("__debug__":Str))=false:=by decide): PS X (.Raise (some (.Call (.Name x np) [e] [] cm)) none pos) (WZ E (.ref C) t):=by intro pins s σ H D I h;obtain⟨tl,Nn,nm,q,bs,hdct,sn,sub,ab,col,dd,k0,k1,k2,k3,k5,mN,hC,hN,AI,T⟩:=(EC.own I.ok.mod.kin).obj;refine wpAny_Raise_call_subT (C:=C) (nm:=nm) (q:=q) (N:=Nn) (bs:=bs) (bm:=tl) (hdct:=hdct) (sn:=sn) (sub:=sub) (ab:=ab) (col:=col) (dd:=dd) (k0:=k0) (k1:=k1) (k2:=k2) (k3:=k3) (k5:=k5) FB (mN:=mN) (T.hasType FB.hasBase) hh (by rw[he];rfl) AI (uS I hg EC.at' ⟨rfl,?_⟩ hd);have hA:=ha cm pins s σ H _ I h;rw[he]at hA⊢;refine Calls.evalArgs_plain (aM hA fun us s2 ⟨vs,H1,I1,r1,z,w1⟩=>⟨rfl,by rw[<-r1.length];exact z,I1.bk _ _ hC,hN.keeps I1.bk,T.keeps I1.bk,fun h' ex hm=>hx pins σ H1 s2 h' ex us I1 hm w1⟩)
end
end L2
namespace L2
open PySem PySem.Spec PyProof.Rows
section
variable {M:Model}{A:aaY}{Ex:Value->aaV->Prop}
theorem a74{h:Heap}{g:Array GenState}{d:Drawn}{tk:Nat}{os:OsState}{e:Addr}{oe:Obj}{Q:Bool->aaV->Prop}{C D N N':Addr}{nm Oh q q':Str}{bs Sf bm IL:List Value}{hdct PX:Bool}{sn Ls:List Str}{sub Kp:List Value}{ab SF:Bool}{col RU:Option Bool}{dd mH:Option Addr}{k0 k1 k2 k3 k5 j0 j1 j2 j3 j5:Option Value}{newId a2v:String} (hC:h.get? C=some (excClassObj nm q C N bs bm hdct sn sub ab col dd k0 k1 k2 k3 k5 newId))(hD:h.get? D=some (excClassObj Oh q' D N' Sf IL PX Ls Kp SF RU mH j0 j1 j2 j3 j5 a2v)) (he:h.get? e=some oe)(xP:oe.cls= .ref C)(hb:IL.contains (.type "BaseException")=true)(hs:(Value.ref C::bm).contains (.ref D)=true) (hq:Q true ⟨h,g,d,tk,os⟩):wpAny M A (excMatches (.ref e) (.ref D)) Q Ex ⟨h,g,d,tk,os⟩:=by
  have hcB:(Value.ref D::IL).contains (.type "BaseException")=true:=by rw[List.contains_cons,hb,Bool.or_true]
  have f:=tc_notTuple;unfold excMatches
  repeat (first|(with_reducible refine wpAny_loadPart_at he ?_;rw[xP])|with_reducible refine wpAny_loadPart_at hD ?_|(with_reducible refine wpAny_isSubtype_exc hD ?_;rw[hcB])|(with_reducible refine wpAny_isSubtype_exc hC ?_;rw[hs])|with_reducible refine wpAny_loadPart_at hC ?_|wp_step)
  exact hq
end
section
variable {X:Cx}{k:Nat}{x:Str}{p pos:Pos}{e:Expr}{es:List Expr}{t:TA}{sp:Sp}
end
abbrev Cx.hand(X:Cx)(ex:Addr):Cx:={X with A:=X.A.mark (some (.ref ex)),calm:=false,xe:=fun _ _=>False}
section
variable {X:Cx}{pins:List (Addr×Obj)}{σ:St}{H:Hp}{s:aaV}
theorem Inv.hand(I:Inv X pins σ H s)(ex:Addr):Inv (X.hand ex) pins σ H s:=⟨⟨I.ok.mod,I.ok.kind,I.ok.glob,I.ok.blt,I.ok.above,I.ok.inj,I.ok.has,I.ok.cab,fun h=>(jK h).elim,I.ok.frames,I.ok.stk,I.ok.exf,I.ok.bs,I.ok.bsz,I.ok.noex,I.ok.exfs,I.ok.jf,I.ok.frf⟩,I.os,I.bare,I.base,I.loc,I.cell,I.free,I.freeC,I.pin,I.hok,I.len⟩
theorem Inv.back{ex:Addr}(ok:X.Ok)(I:Inv (X.hand ex) pins σ H s):Inv X pins σ H s:=⟨ok,I.os,I.bare,I.base,I.loc,I.cell,I.free,I.freeC,I.pin,I.hok,I.len⟩
theorem Wv{M:Model}{A:aaY}{E:Value->aaV->Prop}{i:Nat}{x:Str}{v:V}{pos:Pos}{Q:Unit->aaV->Prop}(I:Inv X pins σ H s)(hN:X.N.Nodup)(hi:X.N[i]? =some x)(hk:X.env.kindOf x=some .local)(hs:X.env.scope.names.lookup x=some .local) (hv:σ[i]? =some (some v))(h:∀s',Inv X pins (σ.set i none) H s'->Q () s'):wpAny M A (unbindBehindTheSuite X.env x pos) Q E s:=by
  obtain⟨m,hn,hl⟩:=id I.loc;have xP:(X.env.scope.kind== .class||(X.env.scope.kind== .module&&X.env.locals !=X.env.globals))=false:=by rw[I.ok.kind];rfl
  have AM:i<σ.length:=by rw[I.len];exact(dh.mp hi).1
  have jC:=I.jC;obtain⟨u,r,look⟩:=hl i x v hi hv (.inl hs);have hm:m x=some u:=by
   rcases look with⟨_,e⟩|⟨k,_⟩
   ·exact e
   ·rcases k with k|k<;>(rw[hk]at k;cases k)
  unfold unbindBehindTheSuite;refine BP (wpAny_unbindName_local hk hn hm xP fun h' u' GI rP=>?_);obtain⟨oL,_,_,PJ,_⟩:=id hn;have tr:dc X.prog X.w H h':=fun b ob e=>by
   refine(I.hok b ob e).lB (fun c w' hc q=>(rP.2 c ?_).trans q) (fun _ q=>q) fun _ _ q=>q;rintro rfl;rcases hc with rfl|hc
   ·rw[I.free]at e;cases e
   ·rw[I.free]at hc;cases hc
  have lt:∀b o,X.s₀.heap.get? b=some o->b≠X.env.locals:=fun b o e=>fe (fL (cf e) I.ok.above);refine h _ ⟨I.ok,I.os,I.bare,⟨fun b o e n hb hx=>(rP.2 b (lt b o e)).trans (I.base.keep b o e n hb hx),fun b o e n hb hx=>?_,I.base.free,fun b o e hx=>?_,I.base.tups,I.base.frzs,I.base.tbls⟩,⟨_,GI,fun j y v' e1 e2 e3=>?_⟩,fun y c e=>?_,I.free,I.freeC,fun p hp=>?_,tr,by simpa using I.len⟩
  · obtain⟨sl,e1⟩:=I.base.slot b o e n hb hx
    exact⟨sl,(rP.2 b (lt b o e)).trans e1⟩
  · obtain⟨o',e1⟩:=I.base.there b o e hx
    exact⟨o',(rP.2 b (lt b o e)).trans e1⟩
  · by_cases hj:j=i
    · subst hj
      rw[yN AM]at e2;cases e2
    · rw[JI (ek hj)]at e2
      obtain⟨u2,r2,q⟩:=hl j y v' e1 e2 e3;refine⟨u2,r2,?_⟩;rcases q with⟨k,e⟩|⟨k,c,e,z⟩
      · have:y≠x:=fun e=>hj (FL hN e1 (e▸hi))
        exact .inl ⟨k,by simp[this,e]⟩
      ·exact .inr ⟨k,c,e,z.sameBut rP (jC y c e)⟩
  · obtain⟨w',z⟩:=I.cell y c e
    exact⟨w',z.sameBut rP (jC y c e)⟩
  · obtain⟨e,n,ne,nf,d⟩:=I.pin p hp
    exact⟨(rP.2 p.1 ne).trans e,n,ne,nf,d⟩
end
def yu(X:Cx)(st:List Stmt)(t:TS):Prop:=∀(s:aaV)(σ:St)(H:Hp)(D:Ends),Inv X [] σ H s->t D σ H->wpAny (model X.prog X.w) X.A (execs st X.env) (SP X [] D) X.xe s
def SV(X:Cx)(st:Stmt)(t:TS):Prop:=∀(s:aaV)(σ:St)(H:Hp)(D:Ends),Inv X [] σ H s->t D σ H->wpAny (model X.prog X.w) X.A (exec st X.env) (SP X [] D) X.xe s
theorem yu.one{X:Cx}{st:Stmt}{t:TS}(h:SV X st t):yu X [st] t:=by intro s σ H D I q;refine wpAny_execs_cons (aM (h s σ H D I q) fun f s1 q=>?_);cases f with |next=>exact yF q |ret v=>exact q |brk=>exact q |cont=>exact q
theorem Inv.a8A{X:Cx}{pins:List (Addr×Obj)}{σ:St}{H:Hp}{s:aaV}(I:Inv X pins σ H s):Inv X [] σ H s:=⟨I.ok,I.os,I.bare,I.base,I.loc,I.cell,I.free,I.freeC,fun p hp=>I.pin p (VM _ (by simpa using hp)),I.hok,I.len⟩
def ExcAt(ex:Addr)(cls:Value)(h:Heap):Prop:=∃o,h.get? ex=some o/\o.cls=cls
def takes(K:aaU)(C D:Addr):Prop:=PySem.W.mroIn K C (.ref D)=some true
section
variable {X:Cx}{i:Nat}{n y:Str}{Dc:Addr}{IK:List Value}{newD:String}{body zr:List Stmt}{b0:Stmt}{np rS pos:Pos}{tb:XK->TS}{th:TS}{Cs:Addr->Prop}
end
end L2
namespace L2
open PySem PySem.Spec PyProof.Rows PySem.W Builtin.Getset_descriptor
section
variable {prog:aaW}{w:World}{A:aaY}{E:Value->aaV->Prop}{h:Heap}{g:Array GenState}{d:Drawn}{t:Nat}{os:OsState}{K:Frag}{x C:Addr}{o:Obj}
theorem QH{M:Model}(h1:h.get? x=some o)(h2:o.cls= .ref C):Looks M h (typeOf (.ref x)) (.ref C):=h2▸(Looks.ld h1).andThen .now
structure mU(K:Frag)(C:Addr):Prop where
 ga:findIn K (.ref C) "__getattribute__"=some (some (.builtin "BaseException.__getattribute__"))
 gx:findIn K (.ref C) "__getattr__"=some none
 cl:findIn K (.ref C) "__class__"=some (some (.builtin "object.__class__"))
 gt:specialIn K (.builtin "object.__class__") "__get__"=some (some (.builtin "getset_descriptor.__get__"))
 tk:takesIn K (.builtin "object.__class__")=some true
 ob:mroIn K C (.type "object")=some true
 be:mroIn K C (.type "BaseException")=some true
 is:hasDictIn K C=true
theorem a38{M:Model}(X:K.In h)(k:mU K C):Looks M h (Builtin.ObjectAttr.find (.ref x) (.ref C) "__class__") (.bind (.builtin "getset_descriptor.__get__") (.builtin "object.__class__")):=by have L1:=looks_findIn (M:=M) X k.cl;have L2:Looks M h (Builtin.ObjectAttr.getOf (some (.builtin "object.__class__"))) (some (.builtin "getset_descriptor.__get__")):=looks_specialIn X k.gt;have L3:=looks_takesIn (M:=M) X k.tk;unfold Builtin.ObjectAttr.find;refine L1.andThen (L2.andThen ?_);have L4:Looks M h (Builtin.ObjectAttr.dataDescriptor? (some (.builtin "object.__class__")) (some (.builtin "getset_descriptor.__get__"))) (some (.builtin "getset_descriptor.__get__",.builtin "object.__class__")):=L3.andThen .now;exact L4.andThen (Looks.tag .now)
theorem a6C{M:Model}{Ot:Value}{Q:Unit->aaV->Prop}(X:K.In h)(k:mU K C)(L0:Looks M h (typeOf (.ref x)) (.ref C))(hq:Q () ⟨h,g,d,t,os⟩): wpAny M A (checkBuiltinCall "BaseException.__getattribute__" ⟨[.ref x,Ot],[]⟩) Q E ⟨h,g,d,t,os⟩:=by
  have hk:builtinKind "BaseException.__getattribute__"=some .slot:=by decide+kernel
  have iT:splitId "BaseException.__getattribute__"=some ("BaseException","__getattribute__"):=by decide+kernel
  have ha:=PySem.F.args_bexc_ga (.ref x) Ot;have L1:=looks_mroIn (M:=M) X k.be;simp only[checkBuiltinCall,hk,iT];refine aH ?_;unfold isInstance;refine aH (L0.at (L1.at ?_))
  repeat (first|assumption|wp_step)
theorem get_cls{R:Result->aaV->Prop}{tp:Value}(X:K.In h)(k:mU K C)(L0:Looks (model prog w) h (typeOf (.ref x)) (.ref C))(hq:R (.ok (.ret (.ref C))) ⟨h,g,d,t,os⟩): codeAny (model prog w) A (.call (.builtin "getset_descriptor.__get__") ⟨[.builtin "object.__class__",.ref x,tp],[]⟩) R ⟨h,g,d,t,os⟩:=by
  have L1:=looks_mroIn (M:=model prog w) X k.ob;refine codeAny_call_builtin KF.slot_gs.plain KF.entry_gs (KF.slot_gs.check _ _ _ _ _ _ _ _ KF.type_class (KF.args_gs _ _ _) ?_);unfold Builtin.«getset_descriptor.__get__»descrGet;rw[dga_obj];refine aH (bR ?_);unfold descrGetter descrCheckInstance descrNameAndClass isInstance;simp only[KF.owner_class];repeat lk
  refine⟨Code.quiet_builtin _ (by decide+kernel),codeAny_builtin KF.entry_class ?_⟩;unfold Builtin.«object.__class__»shownTypeOf;repeat lk
  exact hq
theorem a6D{tk:Tok}{Q:Fin->aaV->Prop}(X:K.In h)(k:mU K C)(L0:Looks (model prog w) h (typeOf (.ref x)) (.ref C)) (hq:Q (.done (.ret (.ref C))) ⟨h,g,d,t,os⟩):wpAny (model prog w) A (Builtin.«object.__getattribute__» ⟨[.ref x,.str "__class__" tk],[]⟩) Q E ⟨h,g,d,t,os⟩:=by have L1:=a38 (M:=model prog w) (x:=x) X k;refine aH (bR (aH (bR (aH (L0.at (aH (L1.at ?_)))))));show wpAny _ _ (Builtin.ObjectAttr.bindTo _ _ (.ref x) (.ref C)) _ _ _;unfold Builtin.ObjectAttr.bindTo;show wpAny _ _ (holding [_] (call (.builtin "getset_descriptor.__get__") [.builtin "object.__class__",.ref x,.ref C])>>=_) _ _ _;exact aH (tK (yG (get_cls X k L0 (bR hq))))
theorem a87{Q:Option Value->aaV->Prop}(X:K.In h)(k:mU K C)(L0:Looks (model prog w) h (typeOf (.ref x)) (.ref C)) (hq:Q (some (.ref C)) ⟨h,g,d,t+1,os⟩):wpAny (model prog w) A (getAttr? (.ref x) "__class__") Q E ⟨h,g,d,t,os⟩:=by
  have L1:=looks_findIn (M:=model prog w) X k.ga;have L2:=looks_findIn (M:=model prog w) X k.gx;have f3:=PySem.F.excAttr_ValueError.ga.bind (.ref x);have hx2:(Value.builtin "BaseException.__getattribute__"==Value.builtin "object.__getattribute__")=false:=by decide+kernel
  unfold getAttr? getAttrBy? getAttrBy;refine aH (wpAny_mkText (aH (wpAny_attempt (tK (aH (L0.at (aH (L1.at ?_))))))));show wpAny _ _ (if(onTheHeap (Value.ref C)&&Value.builtin "BaseException.__getattribute__"==Value.builtin "object.__getattribute__")=true then _ else _) _ _ _;rw[hx2,Bool.and_false,aP (by decide)];unfold getAttrByItsOwn hookBefore;refine aH ?_;show wpAny _ _ (typeLookup (.ref C) "__getattr__") _ _ _;refine L2.at (aH (wpAny_attempt (tK ?_)));unfold callGetattribute;show wpAny _ _ (boundAndCalled _ _ _) _ _ _;unfold boundAndCalled;rw[f3];refine aH (bR (yG ?_));refine codeAny_call_builtin PySem.F.excAttr_ValueError.ga.plain PySem.F.entry_bexc_ga (a6C X k L0 (a6D X k L0 ?_));exact handed_on rfl (bR hq)
theorem P5(k:mU K C):KitX K (.ref x) (.ref C) (ExcAt x (.ref C)) where
 ty:=fun M h _ p=>by obtain⟨o,h1,h2⟩:=p;exact QH h1 h2
 it:=fun _ _ X _=>by
  obtain⟨cd,hc,_⟩:=any_some k.is;unfold clsIn at hc;split at hc
  · rename_i c1 d1 cd1 XQ ho
    intro A' Q' E' s' kk q;unfold isType loadHead;exact aH (wpAny_loadPart (kk _ _ (X _ _ ho)) (bR q))
  ·cases hc
 ne:=fun h tp dd its n sl X htp=>by
  obtain⟨cd,hc,_⟩:=any_some k.is;refine vZ.mpr fun q=>?_;have e:C=tp:=Value.ref.inj (fC.mp q);subst e;unfold clsIn at hc;split at hc
  · rename_i c1 d1 cd1 XQ ho
    cases(X _ _ ho).symm.trans htp
  ·cases hc
 ca:=fun{prog w A E Q s} X p q=>by obtain⟨o,h1,h2⟩:=p;obtain⟨h0,g0,d0,t0,os0⟩:=s;exact a87 X k (QH h1 h2) q
end
end L2
namespace L2
open PySem PySem.Spec PyProof.Rows
def a88:V->Option Value | .ref D=>some (.ref D) | .ty n=>some (.type n) |_=>none
theorem JW:∀{Ds:List Addr}{us:List Value},Vals (Ds.map V.ref) us->us=Ds.map Value.ref |[],_,.nil=>rfl |n::r,_,.cons q t=>by cases(show _=Value.ref n from q);rw[JW t];rfl
section
variable {X:Cx}
end
end L2
namespace L2
open PySem PySem.Spec PyProof.Rows
theorem a8t:bootBuiltins "ValueError"=some (.type "ValueError"):=by kernel_rfl
abbrev vG:List Value:=[.type "ValueError",.type "Exception",.type "BaseException",.type "object"]
abbrev xj:String:="ValueError.__new__"
end L2
namespace Ar
theorem a6B(a b:Int):Int.gcd b (a.fmod b)=Int.gcd a b:=by rw[Int.fmod_def,Int.gcd_sub_mul_left_right,Int.gcd_comm]
theorem Qr{a b:Int}(h:0<b):Int.gcd b (a%b)=Int.gcd a b:=by rw[<-Int.fmod_eq_emod_of_nonneg a (JN h)];exact a6B a b
def sg(p q:Int):Int:=if q<0 then-(Int.gcd p q:Int)else(Int.gcd p q:Int)
def lowP (p q:Int):Int:=p.fdiv (sg p q)
def gq (p q:Int):Int:=q.fdiv (sg p q)
theorem B6{p q:Int}(h:q≠0):0<(Int.gcd p q:Int):=by
 have:Int.gcd p q≠0:=fun z=>h (Int.gcd_eq_zero_iff.mp z).2
 lia
theorem wH{p q:Int}(h:q≠0):sg p q≠0:=by have:=B6 (p:=p) h;unfold sg;split<;>omega
theorem Lz(p q:Int):sg p q∣p:=by
 unfold sg;split
 ·exact Int.neg_dvd.mpr (Int.gcd_dvd_left p q)
 ·exact Int.gcd_dvd_left p q
theorem Ly(p q:Int):sg p q∣q:=by
 unfold sg;split
 ·exact Int.neg_dvd.mpr (Int.gcd_dvd_right p q)
 ·exact Int.gcd_dvd_right p q
theorem G5(p q:Int):sg p q*lowP p q=p:=by unfold lowP;rw[Int.fdiv_eq_ediv_of_dvd (Lz p q)];exact Int.mul_ediv_cancel' (Lz p q)
theorem Ah(p q:Int):sg p q*gq p q=q:=by unfold gq;rw[Int.fdiv_eq_ediv_of_dvd (Ly p q)];exact Int.mul_ediv_cancel' (Ly p q)
theorem LB(p q:Int):(sg p q).natAbs=Int.gcd p q:=by unfold sg;split<;>lia
theorem a35{p q:Int}(h:q≠0):Int.gcd (lowP p q) (gq p q)=1:=by
 have e:Int.gcd (sg p q*lowP p q) (sg p q*gq p q)=(sg p q).natAbs*Int.gcd (lowP p q) (gq p q):=Int.gcd_mul_left _ _ _;rw[G5,Ah,LB]at e;have g:=B6 (p:=p) h;have g':0<Int.gcd p q:=by lia
 have e':Int.gcd p q*1=Int.gcd p q*Int.gcd (lowP p q) (gq p q):=by lia
 exact(Nat.eq_of_mul_eq_mul_left g' e').symm
theorem a36{p q:Int}(h:q≠0):0<gq p q:=by
 have e:=Ah p q;have g:=B6 (p:=p) h;by_cases hq:q<0
 · have es:sg p q=-(Int.gcd p q:Int):=by unfold sg;rw[aO hq]
   rw[es]at e;refine Int.not_le.mp fun hl=>?_;have:0<=-(Int.gcd p q:Int)*gq p q:=VQ (by lia) hl
   lia
 · have es:sg p q=(Int.gcd p q:Int):=by unfold sg;rw[aP hq]
   rw[es]at e;refine Int.not_le.mp fun hl=>?_;have:(Int.gcd p q:Int)*gq p q<=0:=Int.mul_nonpos_of_nonneg_of_nonpos (by lia) hl
   lia
theorem SE{s x y:Int}(hs:s≠0)(e:s*x=y):x.natAbs<=y.natAbs:=by rw[<-e,fq];exact Nat.le_mul_of_pos_left _ (by lia)
theorem a37{p q:Int}(h:q≠0):(lowP p q).natAbs<=p.natAbs:=SE (wH h) (G5 p q)
theorem OK{p q:Int}(h:q≠0):(gq p q).natAbs<=q.natAbs:=SE (wH h) (Ah p q)
theorem Lx{p q:Int}(h:q≠0):(sg p q).natAbs<=q.natAbs:=by rw[LB];exact Nat.le_of_dvd (by lia) (Int.gcd_dvd_natAbs_right p q)
end Ar
namespace Rt
open Rat
theorem Ag{a b:Int}(hb:b≠0):Ar.lowP a b=(Rat.divInt a b).num/\Ar.gq a b=((Rat.divInt a b).den:Int):=by
 have hp:=Ar.a36 (p:=a) hb;have hc:=Ar.a35 (p:=a) hb;have GX:(Ar.gq a b).natAbs≠0:=by lia
 have a5o:(Ar.lowP a b).natAbs.Coprime (Ar.gq a b).natAbs:=hc;have e1:Rat.divInt a b=Rat.divInt (Ar.lowP a b) (Ar.gq a b):=by have h:=Rat.divInt_mul_left (a:=Ar.sg a b) (n:=Ar.lowP a b) (d:=Ar.gq a b) (Ar.wH hb);rw[Ar.G5,Ar.Ah]at h;exact h
 have e2:(⟨Ar.lowP a b,(Ar.gq a b).natAbs,GX,a5o⟩:Rat)=Rat.divInt (Ar.lowP a b) (((Ar.gq a b).natAbs:Nat):Int):=Rat.mk_eq_divInt;have e3:(((Ar.gq a b).natAbs:Nat):Int)=Ar.gq a b:=by lia
 rw[e3]at e2;rw[e1,<-e2];exact⟨rfl,e3.symm⟩
theorem den_pos(r:Rat):(0:Int)<(r.den:Int):=by have:=r.den_pos;omega
structure Bd(n:Nat)(r:Rat):Prop where
 num:r.num.natAbs<2^n
 den:r.den<2^n
theorem Bd.mono{n m:Nat}{r:Rat}(h:Bd n r)(l:n<=m):Bd m r:=⟨fL h.num (qx (by decide) l),fL h.den (qx (by decide) l)⟩
theorem kn{a b n m:Nat}(h:a<2^n)(g:b<2^m):a*b<2^(n+m):=by rw[Nat.pow_add];exact Nat.mul_lt_mul'' h g
theorem jO{n:Nat}{a b:Int}(hb:b≠0)(h1:a.natAbs<2^n)(h2:b.natAbs<2^n):Bd n (Rat.divInt a b):=by
 obtain⟨e1,e2⟩:=Ag (a:=a) hb;have l1:=Ar.a37 (p:=a) hb;have l2:=Ar.OK (p:=a) hb;refine⟨?_,?_⟩
 ·rw[<-e1];lia
 ·lia
theorem oA(r s:Rat):(r.den:Int)*(s.den:Int)≠0:=Int.ne_of_gt (gW (den_pos r) (den_pos s))
theorem add_div(r s:Rat):r+s=Rat.divInt (r.num*s.den+s.num*r.den) (r.den*s.den):=by have h:=Rat.divInt_add_divInt r.num s.num (d₁:=r.den) (d₂:=s.den) (by have:=den_pos r;lia) (by have:=den_pos s;lia);rw[qv,qv]at h;exact h
theorem Xs(r s:Rat):r-s=Rat.divInt (r.num*s.den-s.num*r.den) (r.den*s.den):=by have h:=Vz r.num s.num (d₁:=r.den) (d₂:=s.den) (by have:=den_pos r;lia) (by have:=den_pos s;lia);rw[qv,qv]at h;exact h
theorem mul_div(r s:Rat):r*s=Rat.divInt (r.num*s.num) (r.den*s.den):=by have h:=VA r.num s.num (d₁:=r.den) (d₂:=s.den);rw[qv,qv]at h;exact h
section
variable {n m:Nat} {r s:Rat}
theorem a7S(h:Bd n r)(g:Bd m s):(r.num*s.den).natAbs<2^(n+m):=by rw[fq];exact kn h.num (by have:=g.den;omega)
theorem a7R(h:Bd n r)(g:Bd m s):(s.num*r.den).natAbs<2^(n+m):=by rw[fq,Nat.mul_comm];exact kn (by have:=h.den;lia) g.num
theorem IA(h:Bd n r)(g:Bd m s):((r.den:Int)*(s.den:Int)).natAbs<2^(n+m):=by rw[fq];exact kn (by have:=h.den;lia) (by have:=g.den;lia)
theorem Bd.add(h:Bd n r)(g:Bd m s):Bd (n+m+1) (r+s):=by
 rw[add_div];have h1:=a7S h g;have h2:=a7R h g;have h3:=IA h g;have e:2^(n+m+1)=2^(n+m)+2^(n+m):=by rw[Nat.pow_succ];omega
 exact jO (oA r s) (by omega) (by omega)
theorem Bd.mul(h:Bd n r)(g:Bd m s):Bd (n+m) (r*s):=by rw[mul_div];exact jO (oA r s) (by rw[fq];exact kn h.num g.num) (IA h g)
end
end Rt
namespace L2
open PySem PySem.Spec PyProof.Rows
def ip(H H':Hp):Prop:=∀b o,(∀xs,o≠ .lst xs)->H b=some o->H' b=some o
section
variable {K:aaU} {H H' H2:Hp}
theorem ip.trans(a:ip H H')(b:ip H' H2):ip H H2:=fun c o n e=>b c o n (a c o n e)
theorem ip.oX{D:Addr}{xs ys:List V}(h:H D=some (.lst xs)):ip H (upd H D (.lst ys)):=fun b o n e=>by rw[aB (xq e h (n xs))];exact e
theorem aI.t{a:Addr}{xs:List V}(s:ip H H')(h:aI K H a xs):aI K H' a xs:=h.imp (fun r=>r.imp (s _ _ fun _ z=>nomatch z) fun⟨o,e⟩=>⟨o,s _ _ (fun _ z=>nomatch z) e⟩) id
mutual
def eR:aaX->Bool | .list _=>false | .dict _=>false | .tuple ds=>cB ds | .none=>true | .bool _=>true | .int _=>true | .str _=>true
def cB:List aaX->Bool |[]=>true |d::ds=>eR d&&cB ds
end
theorem gL:∀{ds:List aaX},cB ds=true↔∀d∈ds,eR d=true
  |[]=>⟨fun _ _ h=>(nomatch h),fun _=>by simp[cB]⟩ |d::ds=>by
    rw[cB,eu,gL (ds:=ds)];constructor
    · rintro⟨a,b⟩ x hx
      rcases bB.mp hx with rfl|hx
      ·exact a
      ·exact b x hx
    · intro h
      exact⟨h d (.head _),fun x hx=>h x (.tail _ hx)⟩
theorem kj(ns:List Int):cB (ns.map PyData.int)=true:=gL.mpr fun d hd=>by obtain⟨i,_,rfl⟩:=jn.mp hd;simp[eR]
mutual
theorem RD.t(s:ip H H'):∀{x:V}(d:aaX),eR d=true->RD K H x d->RD K H' x d |x,.none,_,h=>by simpa[RD]using h |x,.bool b,_,h=>by simpa[RD]using h |x,.int i,_,h=>by simpa[RD]using h |x,.str y,_,h=>by simpa[RD]using h |x,.list ds,n,h=>by simp[eR]at n |x,.tuple ds,n,h=>by rw[RD]at h⊢;obtain⟨a,xs,e,h1,h2⟩:=h;exact⟨a,xs,e,h1.t s,aE.t s ds (by simpa[eR]using n) h2⟩ |x,.dict _,_,h=>by simp[RD]at h
theorem aE.t (s:ip H H'):∀{xs:List V}(ds:List aaX),cB ds=true->aE K H xs ds->aE K H' xs ds |xs,[],_,h=>by simpa[aE]using h |xs,d::ds,n,h=>by rw[aE]at h⊢;rw[cB,eu]at n;obtain⟨y,ys,e,h1,h2⟩:=h;exact⟨y,ys,e,RD.t s d n.1 h1,aE.t s ds n.2 h2⟩
end
theorem aE.iH:∀{xs:List V}{ns:List Int},aE K H xs (ns.map PyData.int)->xs=ns.map V.int |xs,[],h=>h.nil_inv |xs,n::ns,h=>by obtain⟨y,ys,rfl,h1,h2⟩:=h.cons_inv;rw[h1.int_inv,aE.iH h2];rfl
theorem uq:∀(ns:List Int),aE K H (ns.map V.int) (ns.map PyData.int) |[]=>cF |n::ns=>bJ (cX n) (uq ns)
theorem RN{J:It}{xs:List V}{ds:List aaX}{te:TE}{Q:VK}{D:Addr}{H0:Hp}(rest:St)(nw:Nw H H0 D (.lst []))(hl:xs.length=ds.length)(hz:xs.length<=1000)(hn:cB ds=true) (go:∀i x H2,xs[i]? =some x->ak H H2->J.go i H2/\∀y H3,J.yld i H2 y H3->H3=H2/\y=x)(stop:∀H2,ak H H2->J.stop xs.length H2) (hs:∀(i:Nat)(x:V)(d:aaX)(H2:Hp)(Q':VK),xs[i]? =some x->ds[i]? =some d->ak H H2->(∀y H3,ak H2 H3->RD K H3 y d->Q' y H3)->te (some x::rest) H2 Q') (hq:∀H' ys,ak H H'->H' D=some (.lst ys)->aE K H' ys ds->Q (.ref D) H'):iu J (dX 0) gG te Q D (none::rest) H0:=by
  have hD:=nw.no;refine pX xs.length (fun i σ H2=>ak H H2/\(∃ys,H2 D=some (.lst ys)/\aE K H2 ys (ds.take i))/\∃v,σ=v::rest) ?_ ?_ ?_
  ·exact⟨nw.same,⟨[],nw.at',cF⟩,none,rfl⟩
  · rintro i σ H2 hi ⟨s2,⟨ys,d2,r2⟩,v,rfl⟩
    have vc:i<ds.length:=by rw[<-hl];exact hi
    have ex:=bN hi;have eb:=bN vc;obtain⟨g1,g2⟩:=go i _ H2 ex s2;refine⟨g1,fun y H3 hy=>?_⟩;obtain⟨rfl,rfl⟩:=g2 y H3 hy;refine yX ?_;refine hs i _ _ _ _ ex eb s2 fun z H4 s4 r4=>?_;have d4:=s4 _ _ d2;have len:=r2.length;rw[nc]at len;refine⟨ys,d4,?_,xs.length-(i+1),by lia,rfl,by lia,fun b o e=>?_,⟨ys++[z],aQ,?_⟩,_,rfl⟩
    · have:(1000:Nat)<sizeLine:=by decide
      lia
    ·rw[aB (fH e hD)];exact s4 b o (s2 b o e)
    · have t:ip H4 (upd H4 D (.lst (ys++[z]))):=.oX d4
      rw[oT,eb];have n1:cB (ds.take i)=true:=gL.mpr fun d hd=>gL.mp hn d (C3 hd);exact(aE.t t _ n1 (aE.mono s4 _ r2)).append (bJ (RD.t t _ (gL.mp hn _ (C6 vc)) r4) cF)
  · rintro σ H2 ⟨s2,⟨ys,d2,r2⟩,v,rfl⟩
    refine⟨stop H2 s2,hq H2 ys s2 d2 ?_⟩;rw[hl,vT]at r2;exact r2
theorem Bo{a:Addr}{xs:List V}{ds:List aaX}{te:TE}{Q:VK}{D:Addr}{H0:Hp}(rest:St)(hx:aI K H a xs)(nw:Nw H H0 D (.lst []))(hl:xs.length=ds.length)(hz:xs.length<=1000)(hn:cB ds=true) (hs:∀(i:Nat)(x:V)(d:aaX)(H2:Hp)(Q':VK),xs[i]? =some x->ds[i]? =some d->ak H H2->(∀y H3,ak H2 H3->RD K H3 y d->Q' y H3)->te (some x::rest) H2 Q') (hq:∀H' ys,ak H H'->H' D=some (.lst ys)->aE K H' ys ds->Q (.ref D) H'):iu (qi K a) (dX 0) gG te Q D (none::rest) H0:=RN rest nw hl hz hn (fun i x H2 e s=>⟨⟨xs,x,hx.go s,e⟩,fun y H3 ⟨e3,y3⟩=>⟨e3,by have:=y3 _ (hx.go s);rw[e]at this;exact(dj this).symm⟩⟩) (fun H2 s=>⟨xs,hx.go s,bo _⟩) hs hq
theorem a7Y{lo:Int}{n:Nat}{ds:List aaX}{te:TE}{Q:VK}{D:Addr}{H0:Hp}(rest:St)(nw:Nw H H0 D (.lst []))(hl:n=ds.length)(hz:n<=1000)(hn:cB ds=true) (hs:∀(i:Nat)(d:aaX)(H2:Hp)(Q':VK),ds[i]? =some d->ak H H2->(∀y H3,ak H2 H3->RD K H3 y d->Q' y H3)->te (some (.int (lo+i))::rest) H2 Q') (hq:∀H' ys,ak H H'->H' D=some (.lst ys)->aE K H' ys ds->Q (.ref D) H'):iu (mS lo n) (dX 0) gG te Q D (none::rest) H0:=by
  have hx:∀i x,((List.range n).map fun i:Nat=>V.int (lo+i))[i]? =some x->i<n/\x= .int (lo+i):=fun i x e=>by rw[bZ]at e;cases h:(List.range n)[i]? with |none=>rw[h]at e;cases e |some j=>rw[h]at e;obtain⟨h1,h2⟩:=dh.mp h;rw[tS]at h2;subst h2;exact⟨by simpa using h1,(dj e).symm⟩
  refine RN (xs:=(List.range n).map fun i:Nat=>V.int (lo+i)) rest nw (by simpa using hl) (by simpa using hz) hn (fun i x H2 e s=>?_) (fun H2 s=>?_) (fun i x d H2 Q' e1 e2 s k=>?_) hq
  · obtain⟨h1,rfl⟩:=hx i x e
    exact⟨h1,fun y H3 ⟨e3,y3⟩=>⟨e3,y3⟩⟩
  · show n<=_
    simp
  · obtain⟨h1,rfl⟩:=hx i x e1
    exact hs i d H2 Q' e2 s k
theorem sX{b1 b2:Bool}{l1 l2:Addr}{xs ys:List V}{ds:List aaX}{te:TE}{Q:VK}{D:Addr}{H0:Hp}{n:Nat}(rest:St)(AJ:n=2)(h1:dM b1 K H l1 xs)(h2:dM b2 K H l2 ys)(nw:Nw H H0 D (.lst [])) (hl:min xs.length ys.length=ds.length)(hz:ds.length<=1000)(hn:cB ds=true) (hs:∀(i:Nat)(x y:V)(d:aaX)(H2:Hp)(Q':VK),xs[i]? =some x->ys[i]? =some y->ds[i]? =some d->ak H H2->(∀z H3,ak H2 H3->RD K H3 z d->Q' z H3)->te (some x::some y::rest) H2 Q') (hq:∀H' zs,ak H H'->H' D=some (.lst zs)->aE K H' zs ds->Q (.ref D) H'):iu (lT K b1 b2 l1 l2) (om K n (jz (dX 0) (jz (dX 1) pR))) gG te Q D (none::none::rest) H0:=by
  subst AJ;have hD:=nw.no;refine pX ds.length (fun i σ H2=>ak H H2/\(∃zs,H2 D=some (.lst zs)/\aE K H2 zs (ds.take i))/\∃v v',σ=v::v'::rest) ?_ ?_ ?_
  ·exact⟨nw.same,⟨[],nw.at',cF⟩,none,none,rfl⟩
  · rintro i σ H2 hi ⟨s2,⟨zs,d2,r2⟩,v,v',rfl⟩
    have hx:i<xs.length:=by lia
    have hy:i<ys.length:=by lia
    have ex:=bN hx;have ey:=bN hy;have eb:=bN hi;refine⟨⟨xs,ys,_,_,h1.go s2,h2.go s2,ex,ey⟩,fun y' H3 jx=>?_⟩;obtain⟨T,x0,y0,rfl,k1,k2,n3⟩:=jx;have e1:=k1 _ (h1.go s2);have e2:=k2 _ (h2.go s2);rw[ex]at e1;rw[ey]at e2;cases e1;cases e2;refine⟨T,_,rfl,aI.of n3.at',rfl,_,_,rfl,_,_,rfl,rfl,?_⟩;refine yes (bF ?_);refine hs i _ _ _ _ _ ex ey eb (s2.trans n3.same) fun z H4 s4 r4=>?_;have nL:=n3.same.trans s4;have d4:=nL _ _ d2;have len:=r2.length;rw[nc]at len;refine⟨zs,d4,?_,ds.length-(i+1),by lia,rfl,by lia,fun b o e=>?_,⟨zs++[z],aQ,?_⟩,_,_,rfl⟩
    · have:(1000:Nat)<sizeLine:=by decide
      lia
    ·rw[aB (fH e hD)];exact nL b o (s2 b o e)
    · have t:ip H4 (upd H4 D (.lst (zs++[z]))):=.oX d4
      rw[oT,eb];have n1:cB (ds.take i)=true:=gL.mpr fun d hd=>gL.mp hn d (C3 hd);exact(aE.t t _ n1 (aE.mono nL _ r2)).append (bJ (RD.t t _ (gL.mp hn _ (C6 hi)) r4) cF)
  · rintro σ H2 ⟨s2,⟨zs,d2,r2⟩,v,v',rfl⟩
    refine⟨⟨xs,ys,h1.go s2,h2.go s2,by lia⟩,hq H2 zs s2 d2 ?_⟩;rw[vT]at r2;exact r2
end
theorem Ph:∀{ns:List Int}{us:List Value},Vals (ns.map V.int) us->(∀v∈us,∃a t,v=Value.int a t)/\numsOf us=ns
  |[],_,.nil=>⟨fun _ h=>(nomatch h),rfl⟩ |n::ns,_,.cons q r=>by
    obtain⟨t,rfl⟩:=(show∃t,_=Value.int n t from q);obtain⟨h1,h2⟩:=Ph r;refine⟨fun v hv=>?_,?_⟩
    · rcases bB.mp hv with rfl|hv
      ·exact⟨n,t,rfl⟩
      ·exact h1 v hv
    · show n::numsOf _=_
      rw[h2]
section
variable {X:Cx}
theorem FZ(K:aaU)(hK:X.K=K)(hc:X.calm=true):eV X (.builtin "max") (fun xs H Q=>∃(l:Addr)(ns:List Int),xs=[.ref l]/\au K H l (ns.map V.int)/\ns≠[]/\∀M,M∈ns->(∀a∈ns,a<=M)->Q (.int M) H):=by
 subst hK;intro pins s σ H xs us Q I r h;obtain⟨l,ns,rfl,hl,cZ,q⟩:=h;obtain⟨u,rfl,ru⟩:=vals1 r;cases(show u=Value.ref l from ru);obtain⟨its,rv,pl,hz⟩:=I.list hl;obtain⟨a1,a2⟩:=Ph rv;have all:AllInts its.toArray:=fun v hv=>a1 v (by simpa using hv);obtain⟨ps,PD⟩:=all.items;have e0:numsOf (intItems ps).toList=ns:=by rw[<-PD];exact a2
 rw[nums_intItems]at e0;have hlen:ps.size=ns.length:=by rw[<-e0,bT,yS]
 have rS:0<ps.size:=by rw[hlen];exact JF.mpr cZ
 refine max_intList (I.ok.hd hc) (by rw[<-PD];exact pl.isList) rS fun v h' tk hv hk=>?_;obtain⟨t,rfl⟩:=intItems_at hv;obtain⟨h1,h2⟩:=argBest_gt (numAt ps) (ps.size-1);refine⟨.int _,H,I.kept hk,⟨_,rfl⟩,q _ ?_ fun a ha=>?_⟩
 ·rw[numAt_eq,e0];exact getD_mem (by omega)
 · obtain⟨j,hj,rfl⟩:=mem_getD ha
   rw[<-e0,<-numAt_eq];exact h2 j (by omega)
theorem Pj{ns:List Int}{us:List Value}(r:Vals (ns.map V.int) us){i:Nat}{v:Value}(h:us[i]? =some v):∃n t,ns[i]? =some n/\v=Value.int n t:=by
 have hl:=r.length;rw[bT]at hl;have hi:i<ns.length:=by rw[hl];exact(dh.mp h).1
 obtain⟨u,e,ru⟩:=r.get (i:=i) (x:=.int ns[i]) (by rw[bZ,bN hi];rfl);rw[h]at e;cases e;obtain⟨t,rfl⟩:=(show∃t,v=Value.int ns[i] t from ru);exact⟨_,t,bN hi,rfl⟩
theorem Zi(ns:List Int):((List.range ns.length).any fun i=>((ns.map (· !=0))[i]?).getD false)=ns.any (· !=0):=by have:=LSm.range_any (ns.map (· !=0));rw[bT]at this;rw[this,List.any_map];rfl
theorem a8M(K:aaU)(hK:X.K=K)(hc:X.calm=true):eV X (.builtin "any") (fun xs H Q=>∃(l:Addr)(ns:List Int),xs=[.ref l]/\(au K H l (ns.map V.int)\/aI K H l (ns.map V.int))/\Q (.bl (ns.any (· !=0))) H):=by
 subst hK;intro pins s σ H xs us Q I r h;obtain⟨l,ns,rfl,hl,q⟩:=h;obtain⟨u,rfl,ru⟩:=vals1 r;cases(show u=Value.ref l from ru);have hh:=I.ok.hd hc;have fin:∀(its:List Value),Vals (ns.map V.int) its->((List.range its.toArray.size).any fun i=>((ns.map (· !=0))[i]?).getD false)=ns.any (· !=0):=fun its rv=>by rw[dN,<-rv.length,bT];exact Zi ns
 rcases hl with hl|hl
 · obtain⟨its,rv,pl,hz⟩:=I.list hl
   have dy:=pl.isList;have bV:l<s.heap.objs.size:=by obtain⟨_,e,_⟩:=dy;exact cf e
   refine call_any_walk (BO dy ?_);refine⟨s.heap.objs.size,[s.heap.objs.size,l],[s.heap.objs.size],its.toArray.size,_,_,fun i=>((ns.map (· !=0))[i]?).getD false,rfl,Walks.list (A:=X.A.in1) hh _ l (fe bV) its.toArray,⟨⟨_,dP _ rfl,rfl,rfl⟩,dy.push _⟩,fun i v s' Q' E' hP hQ=>?_,fun h' tk hk=>?_⟩
   · obtain⟨n,t,e,rfl⟩:=Pj rv (i:=i) (v:=v) (by simpa using hP)
     simp only[bZ,e]at hQ;exact truthy_int hQ
   · rw[fin its rv]
     exact⟨.bl _,H,I.kept (LSm.kept_iter hk),rfl,q⟩
 · obtain⟨its,rv,pl,hz⟩:=I.tuple hl
   have dy:s.heap.IsTuple l its.toArray:=by obtain⟨⟨cls,dd,data,sl⟩,ho,ib,n,hd⟩:=pl;exact⟨_,ho,ib,by simpa using⟨n,hd⟩⟩
   have bV:l<s.heap.objs.size:=by obtain⟨_,e,_⟩:=dy;exact cf e
   refine call_any_walk (wpAny_pyIter_tuple dy ?_);refine⟨s.heap.objs.size,[s.heap.objs.size,l],[s.heap.objs.size],its.toArray.size,_,_,fun i=>((ns.map (· !=0))[i]?).getD false,rfl,Walks.tuple (A:=X.A.in1) hh _ l (fe bV) its.toArray,⟨⟨_,dP _ rfl,rfl,rfl⟩,dy.push _⟩,fun i v s' Q' E' hP hQ=>?_,fun h' tk hk=>?_⟩
   · obtain⟨n,t,e,rfl⟩:=Pj rv (i:=i) (v:=v) (by simpa using hP)
     simp only[bZ,e]at hQ;exact truthy_int hQ
   · rw[fin its rv]
     exact⟨.bl _,H,I.kept (LSm.kept_iter hk),rfl,q⟩
end
end L2
set_option maxHeartbeats 1000000
namespace Lw
open PySem PySem.Spec PyProof.Rows L2
def SW(c m:Int):Prop:=0<=c/\0<=m/\m<2147483648
def fW(H:Hp)(p:Addr):Prop:=∃c m,H p=some (.lst [.int c,.int m])/\SW c m
structure bK(p:Addr)(H H':Hp):Prop where
 bag:fW H' p
 same:∀b o,b≠p->H b=some o->H' b=some o
theorem bK.refl{p:Addr}{H:Hp}(h:fW H p):bK p H H:=⟨h,fun _ _ _ e=>e⟩
theorem bK.trans{p:Addr}{H H1 H2:Hp}(a:bK p H H1)(b:bK p H1 H2):bK p H H2:=⟨b.bag,fun c o n e=>b.same c o n (a.same c o n e)⟩
theorem bK.upd{p:Addr}{H:Hp}{c m:Int}(h:SW c m):bK p H (L2.upd H p (.lst [.int c,.int m])):=⟨⟨c,m,aQ,h⟩,fun b o n e=>by rw[aB n];exact e⟩
theorem bK.j7{p:Addr}{H H':Hp}(h:fW H p)(s:ak H H'):bK p H H':=by obtain⟨c,m,e,ok⟩:=h;exact⟨⟨c,m,s _ _ e,ok⟩,fun b o _ e=>s b o e⟩
theorem JU{j:Int}(h0:0<=j)(h:j<=10^40):Wd j:=by
 have:j.natAbs<=10^40:=by lia
 exact oQ this (by decide+kernel)
theorem fW.ne{H:Hp}{p:Addr}(h:fW H p):H p≠none:=by obtain⟨c,m,e,_⟩:=h;rw[e];exact fun z=>nomatch z
theorem fW.a2z{H:Hp}{p:Addr}{q:Addr}{o:HO}(h:fW H p)(e:H q=some o)(n:∀xs,o≠ .lst xs):q≠p:=by obtain⟨c,m,e',_⟩:=h;exact xq e e' (n _)
theorem bK.t{p:Addr}{H H':Hp}(bg:fW H p)(b:bK p H H'):ip H H':=fun c o n e=>b.same c o (bg.a2z e n) e
theorem bK.MT{p:Addr}{H0 H H':Hp}(s:ak H0 H)(hp:H0 p=none)(b:bK p H H'):ak H0 H':=fun c o e=>b.same c o (fH e hp) (s c o e)
section
variable {K:aaU}
theorem a84{J:It}{te:TE}{Q:VK}{D p:Addr}{H H0:Hp}(n:Nat)(rest:L2.St)(nw:Nw H H0 D (.lst []))(bg:fW H p)(hn:n<=1000)(xv:Nat->V) (go:∀i H2,i<n->bK p H H2->J.go i H2/\∀y H3,J.yld i H2 y H3->H3=H2/\y=xv i)(stop:∀H2,bK p H H2->J.stop n H2)(Pz:Int->Prop) (hs:∀i H2 (Q':VK),i<n->bK p H H2->(∀z H3,Pz z->bK p H2 H3->Q' (.int z) H3)->te (some (xv i)::rest) H2 Q') (hq:∀H' (is:List Int),bK p H H'->H' D=some (.lst (is.map V.int))->is.length=n->(∀z∈is,Pz z)->Q (.ref D) H'):iu J (dX 0) gG te Q D (none::rest) H0:=by
  have xU:D≠p:=fun e=>bg.ne (e▸nw.no);refine pX n (fun i σ H3=>bK p H H3/\(∃is:List Int,H3 D=some (.lst (is.map V.int))/\is.length=i/\∀z∈is,Pz z)/\∃v,σ=v::rest) ?_ ?_ ?_
  ·exact⟨.j7 bg nw.same,⟨[],nw.at',rfl,fun _ h=>(cw h).elim⟩,none,rfl⟩
  · rintro i σ H3 hi ⟨b3,⟨is,d3,li,pi⟩,v,rfl⟩
    obtain⟨g1,g2⟩:=go i H3 hi b3;refine⟨g1,fun y H4 hy=>?_⟩;obtain⟨rfl,rfl⟩:=g2 y H4 hy;refine yX ?_;refine hs i _ _ hi b3 fun z H5 pz b5=>?_;refine⟨_,b5.same _ _ xU d3,?_,n-(i+1),by lia,rfl,by lia,?_,⟨is++[z],?_,?_,?_⟩,_,rfl⟩
    · rw[bT,li]
      have:(1000:Nat)<sizeLine:=by decide
      lia
    · have yi:=b3.trans b5
      refine⟨?_,fun b o n e=>?_⟩
      · obtain⟨c,m,e,ok⟩:=yi.bag
        exact⟨c,m,by rw[aB xU.symm];exact e,ok⟩
      ·rw[aB (fH e nw.no)];exact yi.same b o n e
    ·rw[aQ,mZ];rfl
    ·rw[fm,li];rfl
    · intro y hy
      rcases vU.mp hy with h|h
      ·exact pi y h
      ·rw[bS.mp h];exact pz
  · rintro σ H3 ⟨b3,⟨is,d3,li,pi⟩,v,rfl⟩
    exact⟨stop H3 b3,hq H3 is b3 d3 li pi⟩
theorem a3T(ns:List Int){i:Int}(h0:0<=i)(h:i<ns.length):∃z,z∈ns/\fz (ns.map V.int) i=some (.int z):=by
 have hl:i.toNat<ns.length:=by omega
 exact⟨ns[i.toNat],C6 hl,cN h0 (by rw[bZ,bN hl];rfl)⟩
theorem RM{J:It}{te:TE}{Q:VK}{D p:Addr}{H H0:Hp}(n:Nat)(rest:L2.St)(nw:Nw H H0 D (.lst []))(bg:fW H p)(hn:n<=1000)(xv:Nat->V) (go:∀i H2,i<n->bK p H H2->J.go i H2/\∀y H3,J.yld i H2 y H3->H3=H2/\y=xv i)(stop:∀H2,bK p H H2->J.stop n H2)(Pd:Nat->aaX->Prop) (hs:∀i H2 (Q':VK),i<n->bK p H H2->(∀y d H3,Pd i d->eR d=true->RD K H3 y d->bK p H2 H3->Q' y H3)->te (some (xv i)::rest) H2 Q') (hq:∀H' ys ds,bK p H H'->H' D=some (.lst ys)->aE K H' ys ds->ds.length=n->cB ds=true->(∀i d,ds[i]? =some d->Pd i d)->Q (.ref D) H'):iu J (dX 0) gG te Q D (none::rest) H0:=by
  have xU:D≠p:=fun e=>bg.ne (e▸nw.no);refine pX n (fun i σ H3=>bK p H H3/\(∃ys ds,H3 D=some (.lst ys)/\aE K H3 ys ds/\ds.length=i/\cB ds=true/\∀j d,ds[j]? =some d->Pd j d)/\∃v,σ=v::rest) ?_ ?_ ?_
  ·exact⟨.j7 bg nw.same,⟨[],[],nw.at',cF,rfl,rfl,fun j d e=>by simp at e⟩,none,rfl⟩
  · rintro i σ H3 hi ⟨b3,⟨ys,ds,d3,r3,li,ni,pi⟩,v,rfl⟩
    obtain⟨g1,g2⟩:=go i H3 hi b3;refine⟨g1,fun y H4 hy=>?_⟩;obtain⟨rfl,rfl⟩:=g2 y H4 hy;refine yX ?_;refine hs i _ _ hi b3 fun z d H5 pz nz rz b5=>?_;have d5:=b5.same _ _ xU d3;have t:ip H5 (L2.upd H5 D (.lst (ys++[z]))):=.oX d5;refine⟨ys,d5,?_,n-(i+1),by lia,rfl,by lia,?_,⟨ys++[z],ds++[d],aQ,?_,?_,?_,?_⟩,_,rfl⟩
    · rw[r3.length,li]
      have:(1000:Nat)<sizeLine:=by decide
      lia
    · have yi:=b3.trans b5
      refine⟨?_,fun b o n e=>?_⟩
      · obtain⟨c,m,e,ok⟩:=yi.bag
        exact⟨c,m,by rw[aB xU.symm];exact e,ok⟩
      ·rw[aB (fH e nw.no)];exact yi.same b o n e
    ·exact(aE.t ((bK.t b3.bag b5).trans t) _ ni r3).append (bJ (RD.t t _ nz rz) cF)
    ·rw[fm,li];rfl
    ·exact gL.mpr fun x hx=>by
        rcases vU.mp hx with h|h
        ·exact gL.mp ni x h
        ·rw[bS.mp h];exact nz
    · intro j e he
      by_cases hj:j<ds.length
      · rw[vW hj]at he
        exact pi j e he
      · have oa:j=ds.length:=by
          have:=(dh.mp he).1;rw[fm]at this;have:j<ds.length+1:=this
          lia
        subst oa;rw[yO (bo _),Jx]at he;cases he;rw[li];exact pz
  · rintro σ H3 ⟨b3,⟨ys,ds,d3,r3,li,ni,pi⟩,v,rfl⟩
    exact⟨stop H3 b3,hq H3 ys ds b3 d3 r3 li ni pi⟩
end
end Lw
namespace Ln
open PySem L2
def ij(i:Int):Int:=if i<0 then-i else i
theorem yn(i:Int):ij i=(i.natAbs:Int):=by unfold ij;split<;>lia
def ay(ns:List Int):Nat:=ns.foldr (fun z m=>max z.natAbs m) 0
theorem Gd:∀{ns:List Int}{z:Int},z∈ns->z.natAbs<=ay ns
  |n::ns,z,h=>by
    show z.natAbs<=max n.natAbs (ay ns);rcases bB.mp h with rfl|h
    ·exact Nat.le_max_left _ _
    ·exact gR (Gd h) (Nat.le_max_right _ _)
theorem Gb:∀{ns:List Int},ns≠[]->∃z∈ns,z.natAbs=ay ns
  |[],h=>absurd rfl h |[n],_=>⟨n,.head _,by show n.natAbs=max n.natAbs 0;lia⟩ |n::m::ns,_=>by
    obtain⟨z,hz,e⟩:=Gb (ns:=m::ns) (by simp);by_cases h:n.natAbs<=ay (m::ns)
    ·exact⟨z,.tail _ hz,by show _=max n.natAbs (ay (m::ns));lia⟩
    ·exact⟨n,.head _,by show _=max n.natAbs (ay (m::ns));lia⟩
theorem mm{ns:List Int}{m:Nat}(h:∀z∈ns,z.natAbs<=m):ay ns<=m:=by cases ns with |nil=>exact fX _ |cons a r=>obtain⟨z,hz,e⟩:=Gb (ns:=a::r) (by simp);rw[<-e];exact h z hz
theorem a3k{ns:List Int}(h:∃z∈ns,z≠0):0<ay ns:=by
 obtain⟨z,hz,h0⟩:=h;have:=Gd hz
 lia
theorem Ga{ns:List Int}(cZ:ns≠[]){M:Int}(h1:M∈ns.map ij)(h2:∀a∈ns.map ij,a<=M):M=(ay ns:Int):=by
 obtain⟨z,hz,e⟩:=jn.mp h1;obtain⟨y,hy,ey⟩:=Gb cZ;have a1:=Gd hz;have a2:=h2 (ij y) (jn.mpr ⟨y,hy,rfl⟩);rw[yn]at e a2
 lia
def jZ(p q:Int):Int:=(2*(p.natAbs:Int)+q)/(2*q)
def gM(p q:Int):Int:=if p>=0 then jZ p q else-jZ p q
structure vK(x p q:Int):Prop where
 lo:-q<=2*(x*q-p)
 hi:2*(x*q-p)<=q
 far:2*(x*q-p)=q\/2*(x*q-p)=-q->p.natAbs<=(x*q).natAbs
theorem XR{p q:Int}(hq:0<q):2*q*jZ p q<=2*(p.natAbs:Int)+q/\2*(p.natAbs:Int)+q<2*q*jZ p q+2*q:=by have h:=Int.mul_ediv_add_emod (2*(p.natAbs:Int)+q) (2*q);have h0:=ng (2*(p.natAbs:Int)+q) (show 2*q≠0 by omega);have h1:=qz (2*(p.natAbs:Int)+q) (show 0<2*q by omega);unfold jZ;constructor<;>omega
theorem XS{p q:Int}(hq:0<q):0<=jZ p q:=Int.ediv_nonneg (by lia) (by lia)
theorem near_is{p q:Int}(hq:0<q):vK (gM p q) p q:=by
 obtain⟨h1,h2⟩:=XR (p:=p) hq;have h0:=XS (p:=p) hq;rw[tV,JL q]at h1 h2;have hs0:0<=jZ p q*q:=jo h0 (JN hq);unfold gM;split
 ·refine⟨?_,?_,fun h=>?_⟩<;>(generalize jZ p q*q=s at*;omega)
 ·refine⟨?_,?_,?_⟩<;>rw[Int.neg_mul]<;>(generalize jZ p q*q=s at*;omega)
theorem xx{x y q:Int}(hq:0<q)(h:x<y):x*q+q<=y*q:=by have:(x+1)*q<=y*q:=VR (by lia) (by lia);rw[Int.add_mul,jV]at this;exact this
theorem a2x{x y p q:Int}(hq:0<q)(a:vK x p q)(b:vK y p q):x=y:=by
 have key:∀{x y:Int},vK x p q->vK y p q->¬x<y:=fun{x y} a b h=>by
  have g:=xx hq h;have e1:=a.lo;have e2:=a.hi;have e3:=b.lo;have e4:=b.hi;have f1:=a.far;have f2:=b.far;have hx:x*q=0\/q<=x*q\/x*q<=-q:=by
   rcases VT x 0 with h|h|h
   ·have:=xx hq h;lia
   ·left;rw[h,yQ]
   ·have:=xx hq h;lia
  have hy:y*q=0\/q<=y*q\/y*q<=-q:=by
   rcases VT y 0 with h|h|h
   ·have:=xx hq h;lia
   ·left;rw[h,yQ]
   ·have:=xx hq h;lia
  generalize x*q=u at*;generalize y*q=v at*;have hu:=f1 (by lia);have hv:=f2 (by lia)
  lia
 rcases VT x y with h|h|h
 ·exact absurd h (key a b)
 ·exact h
 ·exact absurd h (key b a)
theorem Oj{x p q:Int}(hq:0<q)(a:vK x p q):x=gM p q:=a2x hq a (near_is hq)
theorem FT{q:Int}(hq:0<q):gM 0 q=0:=(Oj hq ⟨by lia,by lia,fun h=>by lia⟩).symm
theorem a2y{n q:Int}(hq:0<q):gM (q*n) q=n:=by refine(Oj hq ⟨?_,?_,?_⟩).symm<;>rw[JL n q]<;>lia
end Ln
namespace L2
open PySem PySem.Spec PyProof.Rows
abbrev Bh(b:Bool)(h:Heap)(l:Addr):Heap:=h.push {cls:=.type (pY b),data:=.fields #[.ref l,.int 0 0]}
abbrev Im(b:Bool)(h:Heap)(l:Addr):Heap:=(Bh b h l).push {cls:=.type "enumerate",data:=.fields #[.none,.bool false,.ref h.objs.size,rawInt 0,.none,.none]}
theorem a7h(b:Bool)(l:Addr)(xs:Array Value):Meets (Builtin.«enumerate.__new__» ⟨[.type "enumerate",.ref l],[]⟩) (fun _ R s=>gC b s.heap l xs/\R (.ok (.ret (.ref (Bh b s.heap l).objs.size))) {s with heap:=Im b s.heap l}):=.of_wp fun prog w A R s h=>by
   obtain⟨hp,gg,d,tk,os⟩:=s;obtain⟨hl,h⟩:=h;have Gv:=sub_enumerate;have hL:gC b (Shared.heap ⟨hp,gg,d,tk,os⟩) l xs:=hl
   wp_walk using uK hL;refine wpAny_stack_any fun st=>bR ?_;split
   · rename_i c _ _ _ _ _
     cases(c==Value.type "enumerate")
     · wp_walk using uK hL
       exact⟨_,rfl,h⟩
     · wp_walk using uK hL
       exact⟨_,rfl,h⟩
   · wp_walk using uK hL
     exact⟨_,rfl,h⟩
section
variable {prog:aaW}{w:World}{A:aaY}{E:Value->aaV->Prop}{s:aaV}
theorem a7i{b:Bool}{l:Addr}{xs:Array Value}{Q:Value->aaV->Prop}(hl:gC b s.heap l xs) (q:∀g,IsEnum g (s.heap.objs.size+1) s.heap.objs.size 0 .none->jD b g s.heap.objs.size l 0->(∀c o,s.heap.get? c=some o->g.get? c=some o)->Q (.ref (s.heap.objs.size+1)) {s with heap:=g}): wpAny (model prog w) A (call (.type "enumerate") [.ref l]) Q E s:=by refine callType_new PySem.F.called_enumerate (by decide) (PySem.F.typeCall_enumerate_1 _) (PySem.F.newCall_enumerate_1 _) (fun obj=>PySem.F.args_object_init_2 obj _) PySem.F.entry_enumerate_new (a7h b l xs) ⟨hl,?_⟩;have z1:(Bh b s.heap l).objs.size=s.heap.objs.size+1:=qA ..;have g2:(Im b s.heap l).get? (Bh b s.heap l).objs.size=some _:=dP _ rfl;have g1:(Im b s.heap l).get? s.heap.objs.size=some _:=bW _ (dP _ rfl);show _/\_;rw[z1]at g2⊢;refine⟨⟨_,g2,rfl⟩,q _ g2 ?_ fun c o e=>bW _ (bW _ e)⟩;cases b<;>exact⟨_,g1,rfl,rfl⟩
theorem QW{b:Bool}{it l:Addr}{xs:Array Value}(hh:A.handled=none)(ne:l≠it):Draws prog w A it [it,l] xs.size (fun i x=>xs[i]? =some x) (fun i h=>jD b h it l i/\gC b h l xs) where
 live:=fun i h st=>by obtain⟨o,e,_⟩:=st.1.ob;exact⟨o,e⟩
 frame:=fun i h h' st k=>⟨st.1.to fun o e=>k it (by simp) o e,st.2.to fun o e=>k l (by simp) o e⟩
 item:=fun i s Q E hi st hQ=>A5 st.1 st.2 (x:=xs[i]) (by simp[hi]) fun g gi sb=>hQ _ g s.toks (by simp[hi]) ⟨gi,st.2.to fun o e=>sb.extBut _ _ ne e⟩ sb
 done:=fun s Q E st hE=>Il hh st.1 st.2 (by simp) fun g e a b=>hE g e a b
end
def yA(K:aaU)(b:Bool)(l:Addr):It:=⟨fun i H=>∃xs x,dM b K H l xs/\xs[i]? =some x,fun i H v H'=>∃T x,v= .ref T/\(∀xs,dM b K H l xs->xs[i]? =some x)/\Nw H H' T (.tup [.int i,x]),fun i H=>∃xs,dM b K H l xs/\xs.length=i⟩
theorem WK{P:aaW}{w:World}{K:aaU}{elts:List Expr}{kt:Nat}{pos:Pos}{b:Bool}{e it l:Addr}(D:e≠it): Turn P w K (.Tuple elts kt pos) (yA K b l) [e,it] e (fun i h=>(∃old,IsEnum h e it i old)/\jD b h it l i) where
  mem:=by simp
  obj:=fun i h st c hc=>by
   obtain⟨⟨old,he⟩,h1⟩:=st;simp only[bB,cw,df]at hc;rcases hc with rfl|rfl
   ·exact⟨_,he,fun v e=>by cases e⟩
   ·obtain⟨o,e,_,n⟩:=h1.ob;exact⟨o,e,n⟩
  keep:=fun i h h' st k=>by obtain⟨⟨old,he⟩,h1⟩:=st;exact⟨⟨old,k e (by simp) _ he⟩,h1.to fun o q=>k it (by simp) o q⟩
  item:=by
   intro X hP hw hK hc i pins s σ H E I hf st hg;subst hP hw hK;obtain⟨xs,x,q1,e1⟩:=hg;obtain⟨its,r1,p1⟩:=q1.get I;obtain⟨u1,fb,kg⟩:=r1.get e1;obtain⟨⟨old,he⟩,h1⟩:=st;obtain⟨oi,ky,ci,_⟩:=h1.ob;have Ge:∃o,s.heap.get? l=some o/\(o.cls= .type "list"\/o.cls= .type "tuple"):=by cases b<;>(obtain⟨o,ho,cc,_⟩:=p1;first|exact⟨o,ho,.inl cc⟩|exact⟨o,ho,.inr cc⟩)
   obtain⟨ol,rW,cl⟩:=Ge;have nel:e≠l:=fun z=>by subst z;rw[he]at rW;cases rW;rcases cl with h|h<;>simp at h
   have nil:l≠it:=fun z=>by subst z;rw[ky]at rW;cases rW;rw[ci]at cl;cases b<;>(rcases cl with h|h<;>simp[pY]at h)
   have bV:i<its.toArray.size:=by rw[dN,<-r1.length];exact(dh.mp e1).1
   refine wpAny_pyNext_enum_itemD (QW (I.ok.hd hc) nil) he ⟨h1,p1⟩ bV D (by simp[D,nel]) fun y h' tk hPy ho gz hT hsz kp=>⟨_,rfl,?_⟩;have ey:y=u1:=by
    have a1:its.toArray[i]? =some y:=hPy;have a2:its.toArray[i]? =some u1:=by simpa using fb
    rw[a1]at a2;exact dj a2
   subst ey;refine wpAny_letOwnedTupleGo_enum ho fun g' GW sb=>?_;have hs:=sb.extBut;have elt:e<s.heap.objs.size:=cf he;have ilt:it<s.heap.objs.size:=cf ky;have nw:Nw H (upd H s.heap.objs.size (.tup [.int i,x])) s.heap.objs.size (.tup [.int i,x]):=.of (I.hok.fresh (bo _));have I1:Inv X pins σ (upd H s.heap.objs.size (.tup [.int i,x])) {s with heap:=s.heap.push {cls:=.type "tuple",data:=.seq #[.int i tk,y]},toks:=tk+1}:=I.laid (t':=tk+1) (fun b ob q=>bW _ q) (bo _) ⟨by show 2<=sizeLine;decide,[.int i tk,y],.cons ⟨tk,rfl⟩ (.cons kg .nil),⟨_,dP _ rfl,rfl,_,rfl⟩⟩;have G2:∀c∈[e,it],c<s.heap.objs.size:=fun c hc=>by
    simp only[bB,cw,df]at hc;rcases hc with rfl|rfl
    ·exact elt
    ·exact ilt
   have hn:∀c∈[e,it],upd H s.heap.objs.size (.tup [.int i,x]) c=none:=fun c hc=>by rw[aB (fe (G2 c hc))];exact(hf c hc).1
   have I2:Inv X pins σ (upd H s.heap.objs.size (.tup [.int i,x])) {s with heap:=g',toks:=tk+1}:=Inv.wo (s:={s with heap:=s.heap.push {cls:=.type "tuple",data:=.seq #[.int i tk,y]},toks:=tk+1}) (t':=tk+1) (fp:=[e,it]) I1 (fun c o hc q=>by
    have q:(s.heap.push {cls:=.type "tuple",data:=.seq #[.int i tk,y]}).get? c=some o:=q;have nz:c≠e:=fun z=>hc (by simp[z]);rcases Heap.get?_push_cases q with⟨vh,rfl⟩|q'
    · subst vh
      exact hs _ _ nz hT
    ·exact hs _ _ nz (kp c o nz (fun z=>hc (by simp[z])) q')) (fun c hc=>by obtain⟨f0,f1,f2,f3,f4,f5⟩:=hf c hc;exact⟨hn c hc,f1,f2,f3,f4,f5⟩);refine⟨.ref s.heap.objs.size,_,I2,rfl,⟨s.heap.objs.size,x,rfl,fun zs hz=>?_,nw⟩,⟨⟨_,by simpa using GW⟩,gz.1.to fun o q=>hs _ o (ek D) q⟩,hn⟩;rw[dM.inj I hz q1];exact e1
  done:=by
   intro X hP hw hK hc i pins s σ H E I hf st hg;subst hP hw hK;obtain⟨xs,q1,lI⟩:=hg;obtain⟨its,r1,p1⟩:=q1.get I;obtain⟨⟨old,he⟩,h1⟩:=st;obtain⟨oi,ky,ci,_⟩:=h1.ob;have Ge:∃o,s.heap.get? l=some o/\(o.cls= .type "list"\/o.cls= .type "tuple"):=by cases b<;>(obtain⟨o,ho,cc,_⟩:=p1;first|exact⟨o,ho,.inl cc⟩|exact⟨o,ho,.inr cc⟩)
   obtain⟨ol,rW,cl⟩:=Ge;have nil:l≠it:=fun z=>by subst z;rw[ky]at rW;cases rW;rw[ci]at cl;cases b<;>(rcases cl with h|h<;>simp[pY]at h)
   have hi:i=its.toArray.size:=by rw[dN,<-r1.length];exact lI.symm
   subst hi;refine wpAny_pyNext_enum_endD (QW (I.ok.hd hc) nil) he ⟨h1,p1⟩ fun h' kp=>⟨rfl,?_⟩;exact I.wo (t':=s.toks) (fp:=[e,it]) (fun c o hc q=>kp c o (fun z=>hc (by simp[z])) q) hf
  self:=fun _ _ _ _ _ st h=>by obtain⟨⟨old,he⟩,_⟩:=st;exact wpAny_pyIter_enum he h
inductive Vh(K:aaU)(b:Bool)(R:It->Hp->Prop)(vs:List V)(H1:Hp):Prop |mk (l:_)(h0:vs=[.ref l])(h1:(∃xs,dM b K H1 l xs))(h2:R (yA K b l) H1):Vh K b R vs H1
def a46(K:aaU)(b:Bool)(ta:TA):TI:=fun σ H R=>ta σ H fun vs H1=>Vh K b R vs H1
theorem ZZ(K:aaU){X:Cx}(hK:X.K=K)(b:Bool){elts:List Expr}{kt:Nat}{ny:Pos}{a:Expr}{ta:TA}{p pos:Pos}(hg:Gl X "enumerate")(hm:X.mg "enumerate"=none)(ha:PA X [a] ta)(hs:starEach [a] X.env=[(false,eval a X.env)]:=by rfl)(iU:starEach [] X.env=[]:=by rfl): PI X (.Tuple elts kt ny) (.Call (.Name "enumerate" p) [a] [] pos) (a46 K b ta):=by
  subst hK;intro pins s σ H R I h;refine Call_ (nU I hg hm PyProof.Rows.boot_enumerate (vS (aM (ha pos pins s σ H _ I h) fun us s1 ⟨vs,H1,I1,r1,q1⟩=>?_) (by rw[hs,iU]) (by rw[iU];rfl)));obtain⟨l,e,⟨xs,h1⟩,q⟩:=q1;subst e;obtain⟨u1,rfl,kg⟩:=vals1 r1;cases(show u1=Value.ref l from kg);obtain⟨Gj,v1,p1⟩:=h1.get I1;refine a7i p1 fun g zg ig kp=>wpAny_pyIter_enum zg ?_;refine⟨_,_,_,_,H1,rfl,I1.kept (t':=s1.toks) kp,WK (C1 (VJ _)),⟨⟨_,zg⟩,ig⟩,fun c hc=>?_,q⟩;have hle:s1.heap.objs.size<=c:=by simp only[bB,cw,df]at hc;rcases hc with rfl|rfl<;>first|exact bo _|exact Nat.le_add_right _ _
  exact I1.oq hle (I1.hok.fresh hle)
theorem a6K{K:aaU}{b:Bool}{a:Addr}{xs:List V}{g:TG}{tb:TS}{D:Ends}{σ:St}{H:Hp}(Pv:Nat->St->Hp->Prop)(h0:Pv 0 σ H)(hl:∀i σ H,i<=xs.length->Pv i σ H->dM b K H a xs) (hs:∀i x σ H,xs[i]? =some x->Pv i σ H->∀T H',Nw H H' T (.tup [.int i,x])->g (.ref T) σ H' fun σ2 H2=>tb {D with nx:=Pv (i+1),ct:=Pv (i+1),bk:=D.nx} σ2 H2)(hd:∀σ H,Pv xs.length σ H->D.nx σ H): ∃W:Nat->Nat->St->Hp->Prop,(∃m,W 0 m σ H)/\∀i m σ H,W i m σ H->((yA K b a).stop i H/\D.nx σ H)\/((yA K b a).go i H/\∃N:St->Hp->Prop,(∀σ' H',N σ' H'->∃m',m'<m/\W (i+1) m' σ' H')/\∀x H',(yA K b a).yld i H x H'->g x σ H' fun σ2 H2=>tb {D with nx:=N,ct:=N,bk:=D.nx} σ2 H2):=by
  refine⟨fun i m σ H=>m=xs.length-i/\i<=xs.length/\Pv i σ H,⟨xs.length,by simp,fX _,h0⟩,?_⟩;rintro i m σ H ⟨rfl,hi,p⟩;have q:=hl i σ H hi p;by_cases bV:i<xs.length
  · refine .inr ⟨⟨xs,xs[i],q,by simp[bV]⟩,Pv (i+1),fun σ' H' p'=>⟨xs.length-(i+1),by lia,rfl,bV,p'⟩,fun x H' y=>?_⟩
    obtain⟨T,z,rfl,ez,nw⟩:=y;exact hs i z σ H (ez xs q) p T H' nw
  · have e:i=xs.length:=by lia
    subst e;exact .inl ⟨⟨xs,q,rfl⟩,hd σ H p⟩
theorem a6H{K:aaU}{b1 b2:Bool}{a1 a2:Addr}{xs ys:List V}{g:TG}{tb:TS}{D:Ends}{σ:St}{H:Hp}(n:Nat)(hn:n=min xs.length ys.length)(Pv:Nat->St->Hp->Prop)(h0:Pv 0 σ H)(hl:∀i σ H,i<=n->Pv i σ H->dM b1 K H a1 xs/\dM b2 K H a2 ys) (hs:∀i x y σ H,xs[i]? =some x->ys[i]? =some y->Pv i σ H->∀T H',Nw H H' T (.tup [x,y])->g (.ref T) σ H' fun σ2 H2=>tb {D with nx:=Pv (i+1),ct:=Pv (i+1),bk:=D.nx} σ2 H2)(hd:∀σ H,Pv n σ H->D.nx σ H): ∃W:Nat->Nat->St->Hp->Prop,(∃m,W 0 m σ H)/\∀i m σ H,W i m σ H->((lT K b1 b2 a1 a2).stop i H/\D.nx σ H)\/((lT K b1 b2 a1 a2).go i H/\∃N:St->Hp->Prop,(∀σ' H',N σ' H'->∃m',m'<m/\W (i+1) m' σ' H')/\∀x H',(lT K b1 b2 a1 a2).yld i H x H'->g x σ H' fun σ2 H2=>tb {D with nx:=N,ct:=N,bk:=D.nx} σ2 H2):=by
  refine⟨fun i m σ H=>m=n-i/\i<=n/\Pv i σ H,⟨n,by simp,fX _,h0⟩,?_⟩;rintro i m σ H ⟨rfl,hi,p⟩;obtain⟨q1,q2⟩:=hl i σ H hi p;by_cases bV:i<n
  · have l1:i<xs.length:=by lia
    have l2:i<ys.length:=by lia
    refine .inr ⟨⟨xs,ys,xs[i],ys[i],q1,q2,by simp[l1],by simp[l2]⟩,Pv (i+1),fun σ' H' p'=>⟨n-(i+1),by lia,rfl,bV,p'⟩,fun x H' y=>?_⟩;obtain⟨T,z1,z2,rfl,e1,e2,nw⟩:=y;exact hs i z1 z2 σ H (e1 xs q1) (e2 ys q2) p T H' nw
  · have e:i=n:=by lia
    subst e;exact .inl ⟨⟨xs,ys,q1,q2,by lia⟩,hd σ H p⟩
section
variable {X:Cx}
theorem NM(K:aaU)(h:X.K=K){o e:Expr}{to:TE}{t:TA}{apos cm:Pos}(ho:PE X o to)(ha:PA X [e] t) (kD:attributeBase o "pop" X.env (eval o X.env)=eval o X.env:=by rfl) (kB:((backTo cm (starEach [e] X.env)).all (fun x=>!x.1)&&(backToKw cm (keywordEach [] X.env)).all (fun x=>x.1.isSome) &&decide ([e].length+([]:List Keyword).length+(if([]:List Keyword).isEmpty then 0 else 1)<30))=true:=by rfl) (kA:(apos.endLine==cm.line)=true:=by rfl)(hs:starEach [e] X.env=(false,eval e X.env)::starEach [] X.env:=by rfl)(kx:(backTo cm (starEach [] X.env)).any (·.1)=false:=by rfl): PE X (.Call (.Attribute o "pop" apos) [e] [] cm) (qF K "list" Nt to t):=by subst h;exact ux BX PySem.F.slot_list_pop PySem.F.type_list_pop a2H ho ha kD kB kA hs kx
end
end L2
namespace L2
open PySem PySem.Spec PyProof.Rows
set_option maxHeartbeats 1000000 in
theorem Fp{X:Cx}{N:List Str}{js:List (Option Nat)}{elt tg iter:Expr}{ifs:List Expr}{scope:Scope}{pos:Pos}{wi:TI}{g:TG}{tt:TT}{te:TE}{i0:Nat}{x0:Str}{ur Kz:Pos}(hNd:X.N.Nodup)(hix:X.N[i0]? =some x0)(Gr:Loc X.env.scope x0)(hc:X.calm=true)(hN:Bp X N js scope=true)(hS:vx X scope=true) (hi:PI X tg iter wi)(hg:∀cl s H fp pins,PG (fy X N scope cl s H fp pins) tg g)(ht:∀cl s H fp pins,J9 (fy X N scope cl s H fp pins) ifs tt)(he:∀cl s H fp pins,PE (fy X N scope cl s H fp pins) elt te) (hsw:swapsWith (.ListComp elt [⟨tg,iter,ifs,0⟩] scope pos) (some (.Name x0 ur)) Kz.line X.env=pure true:=by rfl)(hf0:X.fn x0=true\/X.env.scope.names.lookup x0=some .local:=by first|exact .inl rfl|exact .inr rfl) (hs:∀x,foldedSetIterable iter X.env x=pure x:=by intro _;rfl):PS X (.Assign [.Name x0 ur] (.ListComp elt [⟨tg,iter,ifs,0⟩] scope pos) Kz) (zo (Km js wi g tt te) (dX i0)):=by
  intro pins s σ H D0 I h;have sy:=hS;unfold vx at sy;rw[eu,eu]at sy;obtain⟨⟨k1,k2⟩,k3⟩:=sy;have o9:scope.kind= .function:=fC.mp k1;have vd:∀x∈scope.names,x.2= .free->∃c,X.env.cells.lookup x.1=some c:=fun x hx e=>by have:=iy.mp k3 x hx;rw[e]at this;exact I.ok.has x.1 (.inl (fC.mp this))
  have lJ:∀x∈scope.names,x.2≠ .cell:=fun x hx e=>by have:=iy.mp k3 x hx;rw[e]at this;exact jK this
  have GH:∀x∈scope.names,x.2= .local->scope.names.lookup x.1=some .local:=fun x hx e=>by have:=iy.mp k3 x hx;rw[e]at this;exact fC.mp this
  obtain⟨cl,GY,c1,c2⟩:=RX vd;rw[exec_Assign_Name_used _ _ _ _ hsw];refine aH (wpAny_standAt (aH ?_));show wpAny _ X.A (do let _<-comprehension (.ListComp elt [⟨tg,iter,ifs,0⟩] scope pos) scope X.env _ (newList []) false (eval iter X.env) (some (assign (.Name x0 ur) X.env))) _ _ s;refine aH (jk (wpAny_comprehension_free (use:=some (assign (.Name x0 ur) X.env)) (Q:=fun _ s'=>SP X pins D0 .next s') rfl hs GY o9 GH (aM (hi pins s σ H _ I h) fun v s1 h1=>aM h1 fun Av s2 h2=>?_)) (fun _ s' hq=>bR (bR hq)) fun _ _ e=>e);obtain⟨it,fp,tn,J,H2,e,I2,T,qG,f2,h2⟩:=h2;subst e;have hD:H2 s2.heap.objs.size=none:=I2.hok.fresh (bo _);obtain⟨W,⟨m0,w0⟩,turn⟩:=h2 _ _ (Nw.of hD);refine oM (Vw lJ (by intro y hy;simp at hy) (fun h₁ xO xK=>?_) o9);have sO:∀b∈fp,b<s2.heap.objs.size:=fun b hb=>by obtain⟨o,e,_⟩:=T.obj _ _ qG b hb;exact cf e
  have I3:Inv X pins σ (upd H2 s2.heap.objs.size (.lst [])) {s2 with heap:=s2.heap.push {cls:=.type "list",dict:=none,data:=.seq ([]:List Value).toArray}}:=I2.OP (its:=[]) (t':=s2.toks) .nil (fX _);generalize xT:s2.heap.push {cls:=.type "list",dict:=none,data:=.seq ([]:List Value).toArray}=h3 at I3 xO xK;have wx:h3.objs.size=s2.heap.objs.size+1:=by rw[<-xT,qA]
  have Gi:∀b o,s2.heap.get? b=some o->h3.get? b=some o:=fun b o e=>by rw[<-xT];exact bW _ e
  have f3:∀b∈fp,kL X pins (upd H2 s2.heap.objs.size (.lst [])) b:=fun b hb=>⟨by rw[aB (fe (sO b hb))];exact(f2 b hb).1,(f2 b hb).2⟩;have xF:∀b o,h3.get? b=some o->h₁.get? b=some o:=fun b o e=>(xK.2 b (fe (cf e))).trans (bW _ e);have I4:Inv (fy X N scope cl {s2 with heap:=h3} (upd H2 s2.heap.objs.size (.lst [])) fp pins) [] (stC js σ) (upd H2 s2.heap.objs.size (.lst [])) {s2 with heap:=h₁,toks:=s2.toks+([]:List (Str×Value)).length}:=I3.comp (s:={s2 with heap:=h3}) hN hS c1 c2 f3 (fun b hb=>by show b<h3.objs.size;rw[wx];exact Jz (sO b hb)) (by simpa using xO) xF;have wz:tn 0 h₁:=T.keep _ _ _ qG fun b _ o e=>xF b o (Gi b o e);have loop:codeAny (model X.prog X.w) X.A (.compLoop (.ListComp elt [⟨tg,iter,ifs,0⟩] scope pos) 0 (.ref it) (.ref s2.heap.objs.size) (compEnvC scope cl h3.objs.size X.env)) (compPost (model X.prog X.w) X.A X.xe (some (assign (.Name x0 ur) X.env)) (fun _ s'=>SP X pins D0 .next s') (.ref s2.heap.objs.size) h3.objs.size) {s2 with heap:=h₁,toks:=s2.toks+([]:List (Str×Value)).length}:=by
    refine RS (fun n s'=>∃i σ' H',Inv (fy X N scope cl {s2 with heap:=h3} (upd H2 s2.heap.objs.size (.lst [])) fp pins) [] σ' H' s'/\tn i s'.heap/\(∀b∈fp,H' b=none)/\W i n σ' H') ?_ m0 ⟨0,_,_,I4,wz,fun b hb=>(f3 b hb).1,w0⟩;rintro n s5 ⟨i,σ5,H5,I5,nI,sN,w5⟩;have lC:∀{H':Hp},(∀b∈fp,H' b=none)->∀b∈fp,kL (fy X N scope cl {s2 with heap:=h3} (upd H2 s2.heap.objs.size (.lst [])) fp pins) [] H' b:=fun{H'} hn b hb=>by
     obtain⟨_,q1,q2,q3,q4,q5⟩:=f3 b hb;refine⟨hn b hb,fun z=>?_,I4.ok.exfs b hb,.inl hb,fun x c e=>q4 x c (c1 x c e),fun p hp=>q5 p (by simpa[fy]using hp)⟩;have bV:b<h3.objs.size:=by rw[wx];exact Jz (sO b hb)
     exact fe bV z
    rcases turn i n σ5 H5 w5 with⟨stop,qn⟩|⟨go,step⟩
    · refine aM (T.done (fy X N scope cl {s2 with heap:=h3} (upd H2 s2.heap.objs.size (.lst [])) fp pins) rfl rfl rfl hc i [] s5 σ5 H5 _ I5 (lC sN) nI stop) fun r s6 ⟨hr,I6⟩=>?_
      subst hr;obtain⟨m,hm,_⟩:=I6.loc;have u0:Un (cR X.stack) fp (upd H2 s2.heap.objs.size (.lst [])) H5 h3 s6.heap:=I6.base;have I7:Inv X pins σ H5 s6:=I3.Bq (s':=s6) (ch:=fp) I6.os u0 I6.hok I6.bare fun b hb=>⟨(f3 b hb).2.2.2.1,(f3 b hb).2.1,(f3 b hb).2.2.2.2.1,(f3 b hb).2.2.2.2.2⟩;have hC:kL X pins H5 h3.objs.size:=I3.oq (bo _) I6.free;show wpAny _ X.A (assign (.Name x0 ur) X.env (.ref s2.heap.objs.size)) _ _ s6;refine wpAny_assign_Name (Ks I7 hNd hix Gr (show RelV (.ref s2.heap.objs.size) (.ref s2.heap.objs.size)from rfl) (fun s8 I8 Gx=>?_) hf0);obtain⟨a,sb,ha⟩:=Gx;have hCa:h3.objs.size≠a:=by
       rcases ha with rfl|ha
       ·exact hC.2.1
       ·exact fun z=>hC.2.2.2.2.1 x0 a ha z.symm
      refine⟨m,hm.sameBut sb hCa,fun h9 hs9=>⟨_,H5,?_,qn⟩⟩;exact I8.wo (t':=s8.toks) (fp:=[h3.objs.size]) (fun b o hb e=>hs9.extBut b o (fun z=>hb (by simp[z])) e) fun b hb=>by rw[bS.mp hb];exact hC
    · refine aM (T.item (fy X N scope cl {s2 with heap:=h3} (upd H2 s2.heap.objs.size (.lst [])) fp pins) rfl rfl rfl hc i [] s5 σ5 H5 _ I5 (lC sN) nI go) fun r s6 ⟨u,hr,h6⟩=>?_
      subst hr;refine aM h6 fun _ s7 ⟨x,H7,I7,r7,y7,nH,Hv⟩=>?_;have Ji:=I7.pinned (lC Hv) (T.obj _ _ nH);refine aM (hg _ _ _ _ _ _ s7 σ5 H7 x u _ Ji r7 (step x H7 y7)) fun _ s8 ⟨σ8,H8,I8,q8⟩=>?_;refine aM (ht _ _ _ _ _ _ s8 σ8 H8 _ I8 q8) fun ok s9 ⟨H9,I9,q9⟩=>?_;have again:∀{s':aaV}{σ7:St}{H7:Hp},Inv (fy X N scope cl {s2 with heap:=h3} (upd H2 s2.heap.objs.size (.lst [])) fp pins) ([]++uw fp s7.heap) σ7 H7 s'->(∃m',m'<n/\W (i+1) m' σ7 H7)->∃m,m<n/\∃i σ' H',Inv (fy X N scope cl {s2 with heap:=h3} (upd H2 s2.heap.objs.size (.lst [])) fp pins) [] σ' H' s'/\tn i s'.heap/\(∀b∈fp,H' b=none)/\W i m σ' H':=fun{s' σ7 H7} J7 n7=>by obtain⟨m',hm,w7⟩:=n7;refine⟨m',hm,i+1,σ7,H7,J7.wg,T.keep _ _ _ nH fun b hb o e=>(J7.pin (b,o) (kM _ (kM _ (uP hb e)))).1,fun b hb=>?_,w7⟩;obtain⟨o,e,d⟩:=T.obj _ _ nH b hb;exact(J7.pin (b,o) (kM _ (kM _ (uP hb e)))).2.1
      cases ok with |false=>rw[aP jK]at q9⊢;exact again I9 q9 |true=>rw[aO rfl]at q9⊢;refine aM (he _ _ _ _ _ _ s9 σ8 H9 _ I9 q9) fun yv m7 ⟨y,ji,vN,Fj,ys,nY,hz,jX⟩=>?_;refine aM (FX _ m7 σ8 ji (.ref s2.heap.objs.size) [y] (.ref s2.heap.objs.size) [yv] (fun _ ir=>∃m',m'<n/\W (i+1) m' σ8 ir) vN rfl (.cons Fj .nil) ⟨_,ys,y,rfl,rfl,nY,hz,jX⟩) fun _ zN ⟨v11,ir,Jj,Zy,wR⟩=>?_;exact again Jj wR
  exact codeAny_compStart_list loop (T.self _ 0 _ _ _ wz loop)
theorem S8:∀{zs:List Str}{us:List Value},Vals (zs.map V.str) us->CarriedAll us (zs.map PyData.str) |[],_,.nil=>.nil |z::zs,_,.cons q r=>by obtain⟨t,rfl⟩:=(show∃t,_=Value.str z t from q);exact .cons (.str z t) (S8 r)
section
variable {X:Cx}
inductive US(K:aaU)(x:V)(vs:List V)(H:Hp)(Q:VK):Prop |mk (sep:Str)(l:Addr)(zs:List Str)(h0:x= .str sep)(h1:vs=[.ref l])(h2:au K H l (zs.map V.str))(h3:(∀z∈zs,z.length<=8))(h4:sep.length<=8)(h5:zs.length<=1000)(h6:Q (.str (Txt.join sep zs)) H):US K x vs H Q
def rJoin(K:aaU):V->List V->Hp->VK->Prop:=fun x vs H Q=>US K x vs H Q
theorem a2J(K:aaU)(hK:X.K=K):BI X "str.join" (rJoin K):=by subst hK;intro pins s σ H x vs v us Q I rx rv h;obtain⟨sep,l,zs,rfl,rfl,hl,hz,hs,hn,q⟩:=h;obtain⟨t,rfl⟩:=rx;obtain⟨u,rfl,ru⟩:=vals1 rv;cases(show u=Value.ref l from ru);obtain⟨its,r,pl,_⟩:=I.list hl;refine join_madeW (l:=zs) (g:=id) 8 pl.isList (by rw[List.map_id];exact S8 r) (fun a ha=>hz a ha) (by lia) (by lia) fun t' k=>?_;rw[List.map_id];exact⟨.str _,H,I.tok _,⟨_,rfl⟩,q⟩
theorem a0c(K:aaU)(h:X.K=K){o e:Expr}{to:TE}{t:TA}{apos cm:Pos}(ho:PE X o to)(ha:PA X [e] t) (kD:attributeBase o "join" X.env (eval o X.env)=eval o X.env:=by rfl) (kB:((backTo cm (starEach [e] X.env)).all (fun x=>!x.1)&&(backToKw cm (keywordEach [] X.env)).all (fun x=>x.1.isSome) &&decide ([e].length+([]:List Keyword).length+(if([]:List Keyword).isEmpty then 0 else 1)<30))=true:=by rfl) (kA:(apos.endLine==cm.line)=true:=by rfl)(hs:starEach [e] X.env=(false,eval e X.env)::starEach [] X.env:=by rfl)(kx:(backTo cm (starEach [] X.env)).any (·.1)=false:=by rfl): PE X (.Call (.Attribute o "join" apos) [e] [] cm) (qF K "str" (rJoin K) to t):=by subst h;exact ux PySem.F.plainAttrs_str PySem.F.slot_str_join PySem.F.type_str_join (a2J X.K rfl) ho ha kD kB kA hs kx
end
end L2
namespace L2
open PySem PySem.Spec PyProof.Rows
section
variable {X:Cx}{pins:List (Addr×Obj)}{σ:St}{H:Hp}{s:aaV}
end
end L2
namespace L2
open PySem PySem.Spec PyProof.Rows
section
variable {X:Cx}
theorem a8f:eV X (.type "range") (fun xs H Q=>∃n,xs=[.int n]/\∀p H',Nw H H' p (.qR 0 n)->Q (.ref p) H'):=by intro pins s σ H xs us Q I r h;obtain⟨n,rfl,q⟩:=h;obtain⟨u,rfl,t,rfl⟩:=vals1 r;refine call_range_1 ?_;have hf:H s.heap.objs.size=none:=I.hok.fresh (bo _);refine⟨.ref s.heap.objs.size,upd H s.heap.objs.size (.qR 0 n),I.laid (t':=s.toks+1+1) (fun b u e=>bW _ e) (bo _) ?_,rfl,q _ _ (.of hf)⟩;exact⟨_,_,_,dP _ rfl⟩
end
end L2
namespace L2
open PySem PySem.Spec PyProof.Rows
theorem Xr:isSubtype (.type "range_iterator") (.type "reversed")=pure false:=by rw[isSubtype_type];kernel_rfl
section
variable {prog:aaW}{w:World}{A:aaY}{E:Value->aaV->Prop}{s:aaV}
abbrev wN(n:Nat):Obj:={cls:=.type "range_iterator",data:=.fields #[rawInt (0+((n:Int)-1)*1),rawInt (n:Int),rawInt (-1)]}
abbrev EO(n:Nat):Bool:=Builtin.Range.rangeFitsLong 0&&Builtin.Range.rangeFitsLong n&&Builtin.Range.rangeFitsLong 1&&Builtin.Range.rangeFitsLong (-1)&&Builtin.Range.rangeFitsLong (0-1)&&Builtin.Range.rangeFitsLong (Builtin.Range.rangeSize 0 n 1)
theorem N7{n:Nat}(h:n<2^62):EO n=true:=by unfold EO;rw[rangeSize_one];simp only[Builtin.Range.rangeFitsLong,eu,BS];split<;>lia
theorem YX(r:Addr)(a b c:Int)(t u v:Tok)(hc0:¬(!(Builtin.Range.rangeFitsLong a&&Builtin.Range.rangeFitsLong b&&Builtin.Range.rangeFitsLong c&&Builtin.Range.rangeFitsLong (-c)&&Builtin.Range.rangeFitsLong (a-c)&&Builtin.Range.rangeFitsLong (Builtin.Range.rangeSize a b c)))=true):Meets (Builtin.«range.__reversed__» ⟨[.ref r],[]⟩) (fun _ R s=>s.heap.get? r=some {cls:=.type "range",dict:=none,data:=.fields #[.int a t,.int b u,.int c v],slots:=#[]}/\R (.ok (.ret (.ref s.heap.objs.size))) {s with heap:=s.heap.push {cls:=.type (if(Builtin.Range.rangeFitsLong a&&Builtin.Range.rangeFitsLong b&&Builtin.Range.rangeFitsLong c&&Builtin.Range.rangeFitsLong (-c)&&Builtin.Range.rangeFitsLong (a-c)&&Builtin.Range.rangeFitsLong (Builtin.Range.rangeSize a b c))=true then "range_iterator" else "longrange_iterator"),data:=.fields #[rawInt (a+(Builtin.Range.rangeSize a b c-1)*c),rawInt (Builtin.Range.rangeSize a b c),rawInt (-c)]},toks:=s.toks}):=.of_wp fun prog w A R s h=>by
   obtain⟨hp,g,d,tk,os⟩:=s;obtain⟨hl,h⟩:=h
   wp_walk;exact⟨_,rfl,h⟩
theorem a8d{l:Addr}{n:Nat}{t u v:Tok}{Q:Value->aaV->Prop}(hn:n<2^62)(hl:s.heap.get? l=some {cls:=.type "range",data:=.fields #[.int 0 t,.int n u,.int 1 v]}) (h:Q (.ref s.heap.objs.size) {s with heap:=s.heap.push (wN n)}):wpAny (model prog w) A (call (.builtin "range.__reversed__") [.ref l]) Q E s:=by
  have hT:s.TypeIs (.ref l) "range":=⟨_,hl,rfl⟩;refine yJ VW hT F.entry_range_reversed (F.args_range_reversed_1 _) (YX l 0 n 1 t u v (by have:=N7 hn;unfold EO at this;rw[this];decide)) ⟨hl,?_⟩;rw[aO (N7 hn)];have e:Builtin.Range.rangeSize 0 n 1=n:=by rw[rangeSize_one];split<;>lia
  rw[e];exact h
theorem a85{l:Addr}{n:Nat}{t u v:Tok}{Q₁:Value->aaV->Prop}(hn:n<2^62)(hl:s.heap.get? l=some {cls:=.type "range",data:=.fields #[.int 0 t,.int n u,.int 1 v]}) (h:Q₁ (.ref s.heap.objs.size) {s with heap:=s.heap.push (wN n)}): codeAny (model prog w) A (.call (.builtin "reversed.__new__") ⟨[.type "reversed",.ref l],[]⟩) (wants Q₁ E) s:=by
  have hT:s.TypeIs (.ref l) "range":=⟨_,hl,rfl⟩;refine codeAny_of_tree ?_;show wpAny _ A.in1 (do checkBuiltinCall "reversed.__new__" ⟨[.type "reversed",.ref l],[]⟩;again (.builtin "reversed.__new__" ⟨[.type "reversed",.ref l],[]⟩)) _ _ s;refine aH (yE (F.newCall_reversed_1 _) (bR ⟨plainId_quiet F.plain_reversed_new _,codeAny_builtin F.entry_reversed_new ?_⟩));rw[Around.under_plainId F.plain_reversed_new _];unfold Builtin.«reversed.__new__»;refine aH (yE (newClass_reversed _) ?_)
  try dsimp only
  refine aH (yE (a:=()) (by first|rfl|kernel_rfl) ?_);refine aH (yE (a:=()) (by first|rfl|kernel_rfl) ?_)
  try dsimp only
  refine aH (wpAny_specialOf hT VW.lookup ?_)
  try dsimp only
  refine aH (yE (VW.bind _) ?_)
  try dsimp only
  first |rw[aP (show¬((Value.builtin "range.__reversed__"==Value.none)=true)from jK)] |(show wpAny _ _ (if(Value.builtin "range.__reversed__"==Value.none)=true then _ else _) _ _ _;rw[aP (show¬((Value.builtin "range.__reversed__"==Value.none)=true)from jK)])
  refine aH (wpAny_rule ?_);refine aH (m:=runValue (.call (.builtin "range.__reversed__") ⟨[.ref l],[]⟩)) (show wpAny _ _ (call (.builtin "range.__reversed__") [.ref l]) _ _ _ from a8d hn hl ?_)
  first |exact bR h |exact aH (bR (bR h))
theorem a8e{l:Addr}{n:Nat}{t u v:Tok}{Q:Value->aaV->Prop}(hn:n<2^62)(hl:s.heap.get? l=some {cls:=.type "range",data:=.fields #[.int 0 t,.int n u,.int 1 v]}) (h:Q (.ref s.heap.objs.size) {s with heap:=s.heap.push (wN n)}):wpAny (model prog w) A (call (.type "reversed") [.ref l]) Q E s:=by refine callType_other (U:="range_iterator") (Q₁:=fun obj s₁=>obj= .ref s.heap.objs.size/\s₁={s with heap:=s.heap.push (wN n)}) (by decide+kernel) F.create_reversed ⟨_,_,F.mro_reversed⟩ F.made_reversed Xr (F.typeCall_reversed_1 _) (a85 hn hl ⟨rfl,rfl⟩) ?_;rintro obj s₁ ⟨rfl,rfl⟩;exact⟨⟨_,dP _ rfl,rfl⟩,h⟩
end
def yz(n:Nat):It:=⟨fun i _=>i<n,fun i H x H'=>H'=H/\x= .int ((n:Int)-1-i),fun i _=>n<=i⟩
theorem WH{P:aaW}{w:World}{K:aaU}{tg:Expr}(it:Addr)(n:Nat):Turn P w K tg (yz n) [it] it (fun i h=>IsRangeIter h it ((0+((n:Int)-1)*1)+(i:Nat)*(-1)) ((n:Int)-(i:Nat)) (-1)) where
 mem:=by simp
 obj:=fun i h st b hb=>by
  have e:b=it:=by simpa using hb
  subst e;exact⟨_,st,fun v z=>by have z':Data.fields _=Data.cell v:=z;cases z'⟩
 keep:=fun i h h' st k=>k it (by simp) _ st
 item:=by
  intro X hP hw hK hc i pins s σ H E I hf st hg;subst hP hw hK;obtain⟨f0,f1,f2,f3,f4,f5⟩:=hf it (by simp);have W:=Walks.range (prog:=X.prog) (w:=X.w) (I.ok.hd hc) it (0+((n:Int)-1)*1) (-1) n;refine W.item i s _ _ hg st fun v h' tk hv gh kk=>?_;obtain⟨t,rfl⟩:=hv;have I1:Inv X pins σ H {s with heap:=h',toks:=tk}:=I.turned (fun b o hb e=>kk b o (by simpa using hb) e) f0 f1 f3 f4 f5;refine⟨_,rfl,vj (s:={s with heap:=h',toks:=tk}) (n:="range_iterator") gh rfl rfl (by decide) ⟨.int ((n:Int)-1-i),H,I1,⟨t,?_⟩,⟨rfl,rfl⟩,gh,fun b hb=>(hf b hb).1⟩⟩;have e:(0+((n:Int)-1)*1)+(i:Int)*(-1)=(n:Int)-1-i:=by lia
  rw[e]
 done:=by intro X hP hw hK hc i pins s σ H E I hf st hg;subst hP hw hK;obtain⟨f0,f1,f2,f3,f4,f5⟩:=hf it (by simp);exact Vv (I.ok.hd hc) st (by have:n<=i:=hg;lia) fun h' eb=>⟨rfl,I.turned (t':=s.toks) (fun b o hb e=>eb b o hb e) f0 f1 f3 f4 f5⟩
 self:=fun _ _ _ _ _ st h=>Jl st h
inductive Vf(R:It->Hp->Prop)(vs:List V)(H1:Hp):Prop |mk (p:_)(n:_)(h0:vs=[.ref p])(h1:H1 p=some (.qR 0 n))(h2:0<=n)(h3:n<2^62)(h4:R (yz n.toNat) H1):Vf R vs H1
def a45(ta:TA):TI:=fun σ H R=>ta σ H fun vs H1=>Vf R vs H1
theorem ZW{X:Cx}{tg:Expr}{a:Expr}{ta:TA}{p pos:Pos}(hg:Gl X "reversed")(hm:X.mg "reversed"=none)(ha:PA X [a] ta)(hs:starEach [a] X.env=[(false,eval a X.env)]:=by rfl)(iU:starEach [] X.env=[]:=by rfl): PI X tg (.Call (.Name "reversed" p) [a] [] pos) (a45 ta):=by
  intro pins s σ H R I h;refine Call_ (nU I hg hm PyProof.Rows.boot_reversed (vS (aM (ha pos pins s σ H _ I h) fun us s1 ⟨vs,H1,I1,r1,q1⟩=>?_) (by rw[hs,iU]) (by rw[iU];rfl)));obtain⟨l,n,e,hl,n0,n1,q⟩:=q1;subst e;obtain⟨u1,rfl,kg⟩:=vals1 r1;cases(show u1=Value.ref l from kg);obtain⟨t,u,v,e⟩:∃t u v,s1.heap.get? l=some {cls:=.type "range",data:=.fields #[.int 0 t,.int n u,.int 1 v]}:=I1.hok l _ hl;obtain⟨m,rfl⟩:∃m:Nat,n=m:=⟨n.toNat,by lia⟩;refine a8e (by lia) e ?_;have hit:IsRangeIter (s1.heap.push (wN m)) s1.heap.objs.size ((0+((m:Int)-1)*1)+((0:Nat):Int)*(-1)) ((m:Int)-((0:Nat):Int)) (-1):=by
   have e1:(0+((m:Int)-1)*1)+((0:Nat):Int)*(-1)=0+((m:Int)-1)*1:=by lia
   have e2:(m:Int)-((0:Nat):Int)=m:=by lia
   rw[e1,e2];exact dP _ rfl
  refine Jl hit ?_;refine⟨s1.heap.objs.size,[s1.heap.objs.size],_,_,H1,rfl,I1.kept (t':=s1.toks) fun b o e=>bW _ e,WH _ m,hit,fun b hb=>?_,q⟩;have e:b=s1.heap.objs.size:=by simpa using hb
  subst e;exact I1.oq (bo _) (I1.hok.fresh (bo _))
theorem a6J{n:Nat}{g:TG}{tb:TS}{D:Ends}{σ:St}{H:Hp}(Pv:Nat->St->Hp->Prop)(h0:Pv 0 σ H) (hs:∀i σ H,i<n->Pv i σ H->g (.int ((n:Int)-1-i)) σ H fun σ2 H2=>tb {D with nx:=Pv (i+1),ct:=Pv (i+1),bk:=D.nx} σ2 H2)(hd:∀σ H,Pv n σ H->D.nx σ H): ∃W:Nat->Nat->St->Hp->Prop,(∃m,W 0 m σ H)/\∀i m σ H,W i m σ H->((yz n).stop i H/\D.nx σ H)\/((yz n).go i H/\∃N:St->Hp->Prop,(∀σ' H',N σ' H'->∃m',m'<m/\W (i+1) m' σ' H')/\∀x H',(yz n).yld i H x H'->g x σ H' fun σ2 H2=>tb {D with nx:=N,ct:=N,bk:=D.nx} σ2 H2):=by
  refine⟨fun i m σ H=>m=n-i/\i<=n/\Pv i σ H,⟨n,by simp,fX _,h0⟩,?_⟩;rintro i m σ H ⟨rfl,hi,p⟩;by_cases bV:i<n
  · refine .inr ⟨bV,Pv (i+1),fun σ' H' q=>⟨n-(i+1),by lia,rfl,bV,q⟩,fun x H' hy=>?_⟩
    obtain⟨rfl,rfl⟩:=hy;exact hs i σ _ bV p
  · have e:i=n:=by lia
    subst e;exact .inl ⟨bo _,hd σ H p⟩
theorem Fm(K:aaU){X:Cx}(hK:X.K=K){a:Expr}{ta:TE}(ha:PE X a ta)(he:∀whole,isTrue a X.env whole=(do let v<-whole;standAt a.pos;holding [v] (truthy v)):=by intro _;rfl): PT X a (fun σ H Q=>ta σ H fun x H'=>∃k,J5 K x H' k/\Q k H'):=by subst hK;exact ZF ha he
end L2
namespace Cn
open Ln
def cM(ns ms:List Int):List Int:=(ns.zip ms).map fun p=>p.1*(ay ms:Int)-p.2*(ay ns:Int)
theorem a2R{ns ms:List Int}{z:Int}(h:z∈cM ns ms):∃a b,a∈ns/\b∈ms/\z=a*(ay ms:Int)-b*(ay ns:Int):=by obtain⟨⟨a,b⟩,hp,rfl⟩:=jn.mp h;exact⟨a,b,(yL hp).1,(yL hp).2,rfl⟩
theorem ko{a b:Int}{m n:Nat}(h:a.natAbs<=m)(g:b.natAbs<=n):(a*b).natAbs<=m*n:=by rw[fq];exact lU h g
theorem Bn{ns ms:List Int}(h1:∀z∈ns,z.natAbs<=1000)(h2:∀z∈ms,z.natAbs<=1000):∀z∈cM ns ms,z.natAbs<=2000000:=fun z hz=>by obtain⟨a,b,ha,hb,rfl⟩:=a2R hz;have l1:=mm h1;have l2:=mm h2;have e1:=ko (b:=(ay ms:Int)) (n:=1000) (h1 a ha) (by omega);have e2:=ko (b:=(ay ns:Int)) (n:=1000) (h2 b hb) (by omega);omega
def pJ(zs:List Int)(i:Nat):Nat:=ay (zs.take i)
theorem OW:∀(xs ys:List Int),ay (xs++ys)=max (ay xs) (ay ys) |[],ys=>by simp[ay] |x::xs,ys=>by show max x.natAbs (ay (xs++ys))=max (max x.natAbs (ay xs)) (ay ys);rw[OW xs ys];lia
theorem a5b{zs:List Int}{i:Nat}{z:Int}(h:zs[i]? =some z):pJ zs (i+1)=max (pJ zs i) z.natAbs:=by
 unfold pJ;rw[oT,h,OW];show max _ (max z.natAbs 0)=_
 lia
def sY(r:Rat):Rat:=if r.num<0 then-r else r
theorem a8V(r:Rat):(sY r).num=ij r.num:=by
 unfold sY ij;split
 ·rfl
 ·rfl
theorem a8X(r:Rat):(sY r).den=r.den:=by
 unfold sY;split
 ·rfl
 ·rfl
theorem a7F{a b:Int}(hb:0<b):0<=(Rat.divInt a b).num↔0<=a:=by rw[Jp,vQ hb]
theorem a8W{c L:Int}(hL:0<L):sY (Rat.divInt c L)=Rat.divInt (ij c) L:=by
 have h:=a7F (a:=c) hL;unfold sY ij;by_cases hc:c<0
 ·rw[aO hc,aO (by lia),Rat.neg_divInt]
 ·rw[aP hc,aP (by lia)]
theorem RF{a b L:Int}(hL:0<L):Rat.divInt a L<=Rat.divInt b L↔a<=b:=by
 rw[Rat.le_iff_sub_nonneg,Vz _ _ (by lia) (by lia),vQ (gW hL hL),<-Int.sub_mul];constructor
 · intro h
   have:=Int.nonneg_of_mul_nonneg_left h hL
   lia
 · intro h
   exact jo (by lia) (by lia)
theorem RE{a b L:Int}(hL:0<L):Rat.divInt a L<Rat.divInt b L↔a<b:=by rw[<-Rat.not_le,RF hL];lia
theorem Xq{a b l1 l2:Int}(h1:0<l1)(h2:0<l2):Rat.divInt b l2-Rat.divInt a l1=Rat.divInt (b*l1-a*l2) (l1*l2):=by rw[Vz _ _ (by lia) (by lia),JL l2 l1]
theorem a7U{j p q h L:Int}(hp:p≠0)(hh:h≠0)(e:p*L=h*q):Rat.divInt (j*j*q*q) (p*p)=Rat.divInt ((j*L)^2) (h^2):=by
 rw[Rat.divInt_eq_divInt_iff (JK hp hp) (by rw[fo,fo,kO,jV];exact JK hh hh)];have e2:(p*L)*(p*L)=(h*q)*(h*q):=by rw[e]
 rw[fo,fo,kO,jV,fo,fo,kO,jV];have a1:j*j*q*q*(h*h)=(j*j)*((h*q)*(h*q)):=by ac_rfl
 have a2:j*L*(j*L)*(p*p)=(j*j)*((p*L)*(p*L)):=by ac_rfl
 rw[a1,a2,e2]
end Cn
namespace Pn
def mn(a b:Rat):Rat:=if b<a then b else a
theorem g9(a b:Rat):mn a b<=a:=by
 unfold mn;split
 ·next h=>exact Jr h
 ·exact oN
theorem jP(a b:Rat):mn a b<=b:=by
 unfold mn;split
 ·exact oN
 ·next h=>exact yK.mp h
theorem ku{a b c:Rat}(h1:c<=a)(h2:c<=b):c<=mn a b:=by unfold mn;split<;>assumption
theorem xy(a b:Rat):mn a b=a\/mn a b=b:=by
 unfold mn;split
 ·exact .inr rfl
 ·exact .inl rfl
theorem mi{a b c:Rat}(hc:c=a\/c=b)(h1:c<=a)(h2:c<=b):mn a b=c:=by
 rcases hc with rfl|rfl
 ·exact BW (g9 _ _) (ku h1 h2)
 ·exact BW (jP _ _) (ku h1 h2)
theorem OZ{a b c:Rat}(h:a<=b)(hc:0<=c):a<=b+c:=dB h (by have:=(Rat.add_le_add_left (c:=b)).mpr hc;rwa [Rat.add_zero]at this)
section
variable (n:Nat)(own:Nat->Rat)(L:Nat->Option Nat)(r f:Int)
def Pz(g:Nat->Rat):Nat->Rat |0=>g n |k+1=>match L (n-(k+1))with |some m=>mn (g (n-(k+1))) (Pz g k+((f*(m:Int):Int):Rat)) |none=>g (n-(k+1))
def fl(g:Nat->Rat)(i:Nat):Rat:=Pz n L f g (n-i)
end
section
variable {n:Nat}{own g:Nat->Rat}{L:Nat->Option Nat}{r f:Int}
theorem vm:fl n L f g n=g n:=by unfold fl;rw[Jx];rfl
theorem vn{i m:Nat}(hi:i<n)(h:L i=some m):fl n L f g i=mn (g i) (fl n L f g (i+1)+((f*(m:Int):Int):Rat)):=by
 unfold fl;have e:n-i=(n-(i+1))+1:=by omega
 rw[e];show(match L (n-((n-(i+1))+1))with|some m=>_|none=>_)=_;have e2:n-((n-(i+1))+1)=i:=by omega
 rw[e2,h]
theorem vk{i:Nat}(hi:i<n)(h:L i=none):fl n L f g i=g i:=by
 unfold fl;have e:n-i=(n-(i+1))+1:=by lia
 rw[e];show(match L (n-((n-(i+1))+1))with|some m=>_|none=>_)=_;have e2:n-((n-(i+1))+1)=i:=by lia
 rw[e2,h]
theorem a2G{a:Int}{m:Nat}(h:0<=a):(0:Rat)<=((a*(m:Int):Int):Rat):=by have:((0:Int):Rat)<=((a*(m:Int):Int):Rat):=Rat.intCast_le_intCast.mpr (jo h (by lia));exact this
theorem down{C:Nat->Prop}(hn:C n)(hs:∀i,i<n->C (i+1)->C i):∀i,i<=n->C i:=by
 have key:∀k,k<=n->C (n-k):=fun k=>by induction k with |zero=>intro _;exact hn |succ k ih=>
    intro hk;refine hs _ (by omega) ?_;have e:n-(k+1)+1=n-k:=by omega
    rw[e];exact ih (by omega)
 intro i hi;have:=key (n-i) (by omega);have e:n-(n-i)=i:=by omega
 rwa [e]at this
end
open Rt
theorem xA{n:Nat}{a b:Rat}(h1:Bd n a)(h2:Bd n b):Bd n (mn a b):=by rcases xy a b with e|e<;>rw[e]<;>assumption
theorem Bz{n:Nat}{q:Rat}{z:Int}(h:Bd n q)(hz:z.natAbs<2^24):Bd (n+25) (q+(z:Rat)):=by have b:Bd 24 (z:Rat):=⟨hz,by show 1<2^24;decide⟩;exact(h.add b).mono (by lia)
theorem QB{n b:Nat}{g:Nat->Rat}{L:Nat->Option Nat}{f:Int}(ho:∀i,i<=n->Bd b (g i))(hL:∀i m,L i=some m->(f*(m:Int)).natAbs<2^24):∀i,i<=n->Bd (b+25*(n-i)) (fl n L f g i):=by
 refine down ?_ fun i hi ih=>?_
 ·rw[vm];exact(ho n (bo _)).mono (by lia)
 ·cases h:L i with |none=>rw[vk hi h];exact(ho i (by lia)).mono (by lia) |some m=>rw[vn hi h];exact xA ((ho i (by lia)).mono (by lia)) ((Bz ih (hL i m h)).mono (by lia))
def lst(n:Nat)(g:Nat->Rat):List Rat:=(List.range (n+1)).map g
theorem pE(n:Nat)(g:Nat->Rat):(lst n g).length=n+1:=by simp[lst]
theorem pF{n:Nat}(g:Nat->Rat){i:Nat}(h:i<=n):(lst n g)[i]? =some (g i):=by unfold lst;rw[bZ,bN (by simp;lia),tS];rfl
theorem a2Y{n:Nat}{g g':Nat->Rat}{i:Nat}(h:∀k,k<=n->k≠i->g' k=g k):(lst n g).set i (g' i)=lst n g':=by
 apply qy;intro k;by_cases hk:k<=n
 · rw[pF g' hk,List.getElem?_set]
   by_cases e:i=k
   ·subst e;rw[aO rfl,aO (by rw[pE];lia)]
   ·rw[aP e,pF g hk,h k hk (fun z=>e z.symm)]
 ·rw[kN (by rw[tR,pE];lia),kN (by rw[pE];lia)]
theorem G3{n:Nat}{g g':Nat->Rat}(h:∀k,k<=n->g' k=g k):lst n g=lst n g':=by
 apply qy;intro k;by_cases hk:k<=n
 ·rw[pF g hk,pF g' hk,h k hk]
 ·rw[kN (by rw[pE];lia),kN (by rw[pE];lia)]
end Pn
namespace Ow
open Pn Cn Ln Rt
abbrev Itm:=Option (List Int × Int)
def topR(rate sp:Int):Rat:=Rat.divInt ((sp*rate)^2) 10000
def cornO(j:Int)(ns ms:List Int):Option Rat:=if ay (cM ns ms)=0 then none else some (Rat.divInt ((j*ay ns*ay ms)^2) ((ay (cM ns ms):Int)^2))
def mnO(a:Rat):Option Rat->Rat |none=>a |some c=>mn a c
def betR(j rate:Int):Itm->Itm->Rat |some (ns,sp),some (ms,sq)=>mnO (mn (topR rate sp) (topR rate sq)) (cornO j ns ms) |_,_=>0
def atO(os:List Itm)(i:Nat):Itm:=(os[i]?).join
def ownF(j rate:Int)(os:List Itm):Nat->Rat |0=>0 |i+1=>betR j rate (atO os i) (atO os (i+1))
def leadF(os:List Itm)(i:Nat):Option Nat:=(atO os i).map fun q=>ay q.1
def ownL(j rate:Int)(os:List Itm):List Rat:=(List.range (os.length+1)).map (ownF j rate os)
theorem oF{os:List Itm}{i:Nat}{o:Itm}(h:os[i]? =some o):atO os i=o:=by unfold atO;rw[h];rfl
theorem a8I{os:List Itm}{i:Nat}(h:os.length<=i):atO os i=none:=by unfold atO;rw[kN h];rfl
theorem Bu(j rate:Int)(o:Itm):betR j rate o none=0:=by unfold betR;split<;>simp_all
theorem Sk(j rate:Int)(o:Itm):betR j rate none o=0:=by unfold betR;split<;>simp_all
theorem Fy(j rate:Int)(os:List Itm):∀n,n=os.length->ownF j rate os n=0 |0,_=>rfl |n+1,h=>by show betR j rate (atO os n) (atO os (n+1))=0;rw[a8I (i:=n+1) (by lia)];exact Bu _ _ _
theorem NR(j rate:Int)(os:List Itm):(ownL j rate os).length=os.length+1:=by simp[ownL]
theorem NS(j rate:Int)(os:List Itm){i:Nat}(h:i<=os.length):(ownL j rate os)[i]? =some (ownF j rate os i):=by unfold ownL;rw[bZ,bN (by simp;lia),tS];rfl
theorem NT(j rate:Int){os:List Itm}(h:os≠[]):ownL j rate os=[0]++(List.range (os.length-1)).map (fun i=>ownF j rate os (i+1))++[0]:=by
 have h0:0<os.length:=JF.mpr h;apply qy;intro i;by_cases hi:i<=os.length
 · rw[NS j rate os hi]
   rcases Nat.eq_zero_or_pos i with rfl|hp
   ·rfl
   · by_cases hl:i=os.length
     · rw[yO (by simp;lia),hl,Fy j rate os _ rfl]
       have:os.length-([0]++List.map (fun i=>ownF j rate os (i+1)) (List.range (os.length-1))).length=0:=by simp;lia
       rw[this];rfl
     · rw[vW (by simp;lia),yO (by simp;lia),bZ]
       have e:i-[(0:Rat)].length=i-1:=rfl;rw[e,bN (by simp;lia),tS];show some _=some (ownF j rate os (i-1+1));rw[Nat.sub_add_cancel hp]
 ·rw[kN (by rw[NR];lia),kN (by simp;lia)]
theorem zk(rate sp:Int):0<=topR rate sp:=by
 unfold topR;rw[vQ (by decide),fo,fo,kO,jV];rcases Int.le_total 0 (sp*rate)with h|h
 ·exact jo h h
 ·exact VQ h h
theorem XB(a:Int):0<=a^2:=by
 rw[fo,fo,kO,jV];rcases Int.le_total 0 a with h|h
 ·exact jo h h
 ·exact VQ h h
theorem a7V{j:Int}{ns ms:List Int}{c:Rat}(h:cornO j ns ms=some c):0<=c:=by
 unfold cornO at h;split at h
 ·cases h
 ·next h0=>
   cases h;rw[vQ]
   ·exact XB _
   ·rw[fo,fo,kO,jV];exact gW (by lia) (by lia)
theorem a8y(j rate:Int)(o p:Itm):0<=betR j rate o p:=by
 unfold betR;split
 ·next ns sp ms sq=>
   have h:=ku (zk rate sp) (zk rate sq);unfold mnO;split
   ·exact h
   ·next c e=>exact ku h (a7V e)
 ·exact oN
theorem NV(j rate:Int)(os:List Itm):∀i,0<=ownF j rate os i |0=>oN |i+1=>a8y _ _ _ _
def OkI(o:Itm):Prop:=∀ns sp,o=some (ns,sp)->(∀z∈ns,(z.natAbs:Int)<=100)/\1<=sp/\sp<=20
theorem CH{a:Int}{m:Nat}(h:a.natAbs<=m):(a^2).natAbs<=m*m:=by rw[fo,fo,kO,jV];exact ko h h
theorem tY{rate sp:Int}(h1:1<=sp)(h2:sp<=20)(h3:10<=rate)(h4:rate<=200):Bd 64 (topR rate sp):=by
 have kF:(2:Nat)^64=18446744073709551616:=by decide
 have a:=CH (ko (a:=sp) (b:=rate) (m:=20) (n:=200) (by lia) (by lia));exact jO (by decide) (by rw[kF];lia) (by decide)
theorem IE{j:Int}{ns ms:List Int}{c:Rat}(h1:1<=j)(h2:j<=50)(hn:∀z∈ns,(z.natAbs:Int)<=100)(hm:∀z∈ms,(z.natAbs:Int)<=100)(h:cornO j ns ms=some c):Bd 64 c:=by
 have kF:(2:Nat)^64=18446744073709551616:=by decide
 have cb:=Bn (fun z hz=>by have:=hn z hz;lia) (fun z hz=>by have:=hm z hz;lia) (ns:=ns) (ms:=ms);have hb:=mm cb;have l1:=mm (ns:=ns) (m:=100) fun z hz=>by have:=hn z hz;lia
 have l2:=mm (ns:=ms) (m:=100) fun z hz=>by have:=hm z hz;lia
 unfold cornO at h;split at h
 ·cases h
 ·next h0=>cases h;have a:=CH (ko (ko (a:=j) (b:=(ay ns:Int)) (m:=50) (n:=100) (by lia) (by lia)) (b:=(ay ms:Int)) (n:=100) (by lia));have b:=CH (a:=(ay (cM ns ms):Int)) (m:=2000000) (by lia);refine jO ?_ (by rw[kF];lia) (by rw[kF];lia);rw[fo,fo,kO,jV];exact JK (by lia) (by lia)
theorem xA{n:Nat}{a b:Rat}(h1:Bd n a)(h2:Bd n b):Bd n (mn a b):=by rcases xy a b with e|e<;>rw[e]<;>assumption
theorem JS:Bd 64 (0:Rat):=⟨by decide,by decide⟩
theorem a8z{j rate:Int}{o p:Itm}(h1:1<=j)(h2:j<=50)(h3:10<=rate)(h4:rate<=200)(ho:OkI o)(hp:OkI p):Bd 64 (betR j rate o p):=by
 unfold betR;split
 ·next ns sp ms sq=>
   obtain⟨a1,a2,a3⟩:=ho ns sp rfl;obtain⟨b1,b2,b3⟩:=hp ms sq rfl;have h:=xA (tY a2 a3 h3 h4) (tY b2 b3 h3 h4);unfold mnO;split
   ·exact h
   ·next c e=>exact xA h (IE h1 h2 a1 b1 e)
 ·exact JS
def OkIs(os:List Itm):Prop:=∀i,OkI (atO os i)
theorem Fz{j rate:Int}{os:List Itm}(h1:1<=j)(h2:j<=50)(h3:10<=rate)(h4:rate<=200)(ho:OkIs os):∀i,Bd 64 (ownF j rate os i) |0=>JS |i+1=>a8z h1 h2 h3 h4 (ho i) (ho (i+1))
end Ow
namespace Wk
open PySem L2
def fA(pl ns:List Int):List Int:=List.zipWith (fun a b=>a+b) pl ns
theorem pZ{pl ns:List Int}(h:ns.length=pl.length):(fA pl ns).length=pl.length:=by unfold fA;rw[List.length_zipWith,h];exact Nat.min_self _
theorem J3{pl ns:List Int}{i:Nat}{a b:Int}(h1:pl[i]? =some a)(h2:ns[i]? =some b):(fA pl ns)[i]? =some (a+b):=by unfold fA;rw[C7,h1,h2]
def pk(rs pl:List Int):Bool:=(pl.zip rs).all fun p=>decide (0<=p.1)&&decide (p.1<=p.2)
structure iq(rs pl:List Int):Prop where
 len:pl.length=rs.length
 at':∀(i:Nat)(x r:Int),pl[i]? =some x->rs[i]? =some r->0<=x/\x<=r
theorem O4{rs pl:List Int}(h:pl.length=rs.length):pk rs pl=true↔iq rs pl:=by
 unfold pk;rw[iy];constructor
 · intro a
   refine⟨h,fun i x r e1 e2=>?_⟩;have:=a (x,r) (gf ((vV (z:=(x,r))).mpr ⟨e1,e2⟩));rw[eu,qq,qq]at this;exact this
 · rintro a ⟨x,r⟩ hp
   obtain⟨i,hi⟩:=oU.mp hp;obtain⟨e1,e2⟩:=(vV (z:=(x,r))).mp hi;have:=a.at' i x r e1 e2;rw[eu,qq,qq];exact this
end Wk
namespace L2
open PySem PySem.Spec PyProof.Rows
section
variable {X:Cx}
end
end L2
namespace L2
open PySem PySem.Spec PyProof.Rows
section
variable {X:Cx}
theorem a0e(K:aaU)(h:X.K=K){o e:Expr}{to:TE}{t:TA}{apos cm:Pos}(ho:PE X o to)(ha:PA X [e] t) (kD:attributeBase o "extend" X.env (eval o X.env)=eval o X.env:=by rfl) (kB:((backTo cm (starEach [e] X.env)).all (fun x=>!x.1)&&(backToKw cm (keywordEach [] X.env)).all (fun x=>x.1.isSome) &&decide ([e].length+([]:List Keyword).length+(if([]:List Keyword).isEmpty then 0 else 1)<30))=true:=by rfl) (kA:(apos.endLine==cm.line)=true:=by rfl)(hs:starEach [e] X.env=(false,eval e X.env)::starEach [] X.env:=by rfl)(kx:(backTo cm (starEach [] X.env)).any (·.1)=false:=by rfl): PE X (.Call (.Attribute o "extend" apos) [e] [] cm) (qF K "list" Nu to t):=by subst h;exact ux BX PySem.F.slot_list_extend PySem.F.type_list_extend a2I ho ha kD kB kA hs kx
open PyProof
end
end L2
namespace L2
open PySem PySem.Spec PyProof.Rows
section
variable {K:aaU} {H H' H2:Hp}
end
end L2
namespace L2
open PySem PySem.Spec PyProof.Rows
def Jd(z:Str):It:=⟨fun i _=>i<z.cps.size,fun i H x H'=>H'=H/\∃c,z.cps.toList[i]? =some c/\x= .str ⟨#[c]⟩,fun i _=>z.cps.size<=i⟩
theorem WG{P:aaW}{w:World}{K:aaU}{tg:Expr}(it:Addr)(z:Str)(t:Tok)(ty:String)(Gu:["enumerate","zip","dict_itemiterator","dict_reverseitemiterator","odict_iterator","itertools.zip_longest","itertools.pairwise"].contains ty=false) (W:∀A':aaY,A'.handled=none->Walks P w A' it [it] [it] z.cps.size (SignAt z) (fun i h=>h.IsStrIter it ty z t i)) (self:∀(A:aaY)(i:Nat)(s:aaV)(Q:Value->aaV->Prop)(E:Value->aaV->Prop),s.heap.IsStrIter it ty z t i->Q (.ref it) s->wpAny (model P w) A (pyIter (.ref it)) Q E s): Turn P w K tg (Jd z) [it] it (fun i h=>h.IsStrIter it ty z t i/\i<=z.cps.size) where
  mem:=by simp
  obj:=fun i h st b hb=>by
   have e:b=it:=by simpa using hb
   subst e;obtain⟨⟨o,e,c,d⟩,_⟩:=st;exact⟨o,e,fun v z=>by rw[d]at z;cases z⟩
  keep:=fun i h h' st k=>⟨let⟨o,e,r⟩:=st.1;⟨o,k it (by simp) o e,r⟩,st.2⟩
  item:=by intro X hP hw hK hc i pins s σ H E I hf st hg;subst hP hw hK;obtain⟨f0,f1,f2,f3,f4,f5⟩:=hf it (by simp);refine(W X.A (I.ok.hd hc)).item i s _ _ hg st.1 fun v h' tk hv gh kk=>?_;obtain⟨c,u,ec,rfl⟩:=hv;have I1:Inv X pins σ H {s with heap:=h',toks:=tk}:=I.turned (fun b o hb e=>kk b o (by simpa using hb) e) f0 f1 f3 f4 f5;obtain⟨o,e,cl,d⟩:=id gh;exact⟨_,rfl,vj (s:={s with heap:=h',toks:=tk}) e cl d Gu ⟨.str ⟨#[c]⟩,H,I1,⟨u,rfl⟩,⟨rfl,c,by simpa using ec,rfl⟩,⟨gh,hg⟩,fun b hb=>(hf b hb).1⟩⟩
  done:=by intro X hP hw hK hc i pins s σ H E I hf st hg;subst hP hw hK;obtain⟨f0,f1,f2,f3,f4,f5⟩:=hf it (by simp);obtain⟨st,hle⟩:=st;have ei:i=z.cps.size:=Nat.le_antisymm hle hg;subst ei;exact(W X.A (I.ok.hd hc)).done s _ _ st fun h' tk eb=>⟨rfl,I.turned (fun b o hb e=>eb b o (by simpa using hb) e) f0 f1 f3 f4 f5⟩
  self:=fun A i s Q E st h=>self A i s Q E st.1 h
section
variable {X:Cx} {tg:Expr}
inductive Vb(R:It->Hp->Prop)(x:V)(H1:Hp):Prop |mk (z:_)(h0:x= .str z)(h1:R (Jd z) H1):Vb R x H1
def a41(tl:TE):TI:=fun σ H R=>tl σ H fun x H1=>Vb R x H1
theorem ZV{l:Expr}{tl:TE}(hl:PE X l tl):PI X tg l (a41 tl):=by
 intro pins s σ H R I h;refine aM (hl pins s σ H _ I h) fun v s1 ⟨x,H1,I1,r1,q1⟩=>?_;obtain⟨z,e,q⟩:=q1;subst e;obtain⟨t,rfl⟩:=r1;have fin:∀ty,["enumerate","zip","dict_itemiterator","dict_reverseitemiterator","odict_iterator","itertools.zip_longest","itertools.pairwise"].contains ty=false->(∀A':aaY,A'.handled=none->Walks X.prog X.w A' s1.heap.objs.size [s1.heap.objs.size] [s1.heap.objs.size] z.cps.size (SignAt z) (fun i h=>h.IsStrIter s1.heap.objs.size ty z t i))->(∀(A:aaY)(i:Nat)(s:aaV)(Q:Value->aaV->Prop)(E:Value->aaV->Prop),s.heap.IsStrIter s1.heap.objs.size ty z t i->Q (.ref s1.heap.objs.size) s->wpAny (model X.prog X.w) A (pyIter (.ref s1.heap.objs.size)) Q E s)->BH X pins σ tg R (.ref s1.heap.objs.size) {s1 with heap:=s1.heap.push {cls:=.type ty,data:=.fields #[.str z t,.int 0 0]}}:=fun ty h1 h2 h3=>by
   refine⟨s1.heap.objs.size,[s1.heap.objs.size],_,_,H1,rfl,I1.kept (t':=s1.toks) fun b o e=>bW _ e,WG _ z t ty h1 h2 h3,⟨⟨_,dP _ rfl,rfl,rfl⟩,fX _⟩,fun b hb=>?_,q⟩;have e:b=s1.heap.objs.size:=by simpa using hb
   subst e;exact I1.oq (bo _) (I1.hok.fresh (bo _))
 cases ha:z.cps.all (·<128)
 ·exact wpAny_pyIter_wide ha (fin "str_iterator" (by decide) (fun A' hA=>Walks.strWide hA _ z t) (fun _ _ _ _ _ st h=>wpAny_pyIter_striter_wide st h))
 ·exact wpAny_pyIter_ascii ha (fin "str_ascii_iterator" (by decide) (fun A' hA=>Walks.strAscii hA _ z t) (fun _ _ _ _ _ st h=>wpAny_pyIter_striter_ascii st h))
theorem a81{z:Str}{f:Nat->Bool}{te:TE}{Q:VK}{D:Addr}{H H0:Hp}(rest:St)(nw:Nw H H0 D (.lst []))(hz:z.length<=1000) (hs:∀(c:Nat)(H2:Hp)(Q':VK),c∈z.cps.toList->ak H H2->(∀H3,ak H2 H3->Q' (.bl (f c)) H3)->te (some (.str ⟨#[c]⟩)::rest) H2 Q') (hq:∀H',ak H H'->H' D=some (.lst ((z.cps.toList.map f).map V.bl))->Q (.ref D) H'):iu (Jd z) (dX 0) gG te Q D (none::rest) H0:=by
  have hl:z.cps.toList.length=z.cps.size:=by simp
  refine IG (xs:=z.cps.toList.map fun c=>V.str ⟨#[c]⟩) (bs:=z.cps.toList.map f) rest nw (by simp) (by simpa[Str.length]using hz) ?_ ?_ ?_ hq
  · intro i x H2 ex s2
    rw[bZ]at ex;cases ec:z.cps.toList[i]? with |none=>rw[ec]at ex;cases ex |some c=>rw[ec]at ex;cases ex;refine⟨by have:=(dh.mp ec).1;show i<z.cps.size;omega,fun y H3 ⟨e3,c',Rh,e⟩=>⟨e3,?_⟩⟩;rw[ec]at Rh;cases Rh;exact e
  · intro H2 s2
    show z.cps.size<=(z.cps.toList.map _).length;rw[bT,hl];exact bo _
  · intro i x b H2 Q' ex eb s2 jy
    rw[bZ]at ex eb;cases ec:z.cps.toList[i]? with |none=>rw[ec]at ex;cases ex |some c=>rw[ec]at ex eb;cases ex;cases eb;exact hs c H2 Q' (gf ec) s2 jy
theorem a0v:cS X (compareOp .In) (fun x y H Q=>∃c j,x= .str ⟨#[c]⟩/\y= .str j/\Q (.bl (decide (c∈j.cps.toList))) H):=by intro pins s σ H x y v u Q I rx ry h;obtain⟨c,j,rfl,rfl,q⟩:=h;refine a0u pins s σ H _ _ v u Q I rx ry ⟨_,_,rfl,rfl,?_⟩;rw[PySem.StrLaws.found_one];exact q
inductive V1(K:aaU)(x:V)(y:V)(H:Hp)(Q:VK):Prop |mk (p:_)(xs:_)(d:_)(ds:_)(h0:y= .ref p)(h1:aI K H p xs)(h2:RD K H x d)(h3:aE K H xs ds)(h4:SeqAt.shaped d=true)(h5:(∀e∈ds,SeqAt.shaped e=true))(h6:Q (.bl (ds.any fun e=>PyData.eqv e d)) H):V1 K x y H Q
def Zu(K:aaU):R2:=fun x y H Q=>V1 K x y H Q
theorem a3W(K:aaU)(hK:X.K=K)(hu:X.A.units+65<cLine):cS X (compareOp .In) (Zu K):=by
 subst hK;intro pins s σ H x y v u Q I rx ry h;obtain⟨p,xs,d,ds,rfl,hx,hd,pN,sd,Y5,q⟩:=h;cases ry;obtain⟨its,r,pl,hz⟩:=I.tuple hx;obtain⟨k1,k2⟩:=QO I hu rx hd sd r pN Y5;refine SeqAt.in_tupleAt (sP s.heap d) (show s.heap.IsTuple p its.toArray from pl) (fun w hw=>k1 w (by simpa using hw)) ⟨.bl _,H,I,rfl,?_⟩;have e:its.toArray.any (sP s.heap d)=ds.any fun e=>PyData.eqv e d:=by rw[<-k2];simp
 rw[e];exact q
end
end L2
namespace L2
open PySem PySem.Spec PyProof.Rows
def vM(lo:Int)(n:Nat):It:=⟨fun i _=>i<n,fun i H x H'=>H'=H/\x= .int (lo-i),fun i _=>n<=i⟩
theorem WL{P:aaW}{w:World}{K:aaU}{tg:Expr}(it:Addr)(lo:Int)(n:Nat):Turn P w K tg (vM lo n) [it] it (fun i h=>IsRangeIter h it (lo+(i:Nat)*(-1)) ((n:Int)-(i:Nat)) (-1)) where
 mem:=by simp
 obj:=fun i h st b hb=>by
  have e:b=it:=by simpa using hb
  subst e;exact⟨_,st,fun v z=>by have z':Data.fields _=Data.cell v:=z;cases z'⟩
 keep:=fun i h h' st k=>k it (by simp) _ st
 item:=by
  intro X hP hw hK hc i pins s σ H E I hf st hg;subst hP hw hK;obtain⟨f0,f1,f2,f3,f4,f5⟩:=hf it (by simp);have W:=Walks.range (prog:=X.prog) (w:=X.w) (I.ok.hd hc) it lo (-1) n;refine W.item i s _ _ hg st fun v h' tk hv gh kk=>?_;obtain⟨t,rfl⟩:=hv;have I1:Inv X pins σ H {s with heap:=h',toks:=tk}:=I.turned (fun b o hb e=>kk b o (by simpa using hb) e) f0 f1 f3 f4 f5;refine⟨_,rfl,vj (s:={s with heap:=h',toks:=tk}) (n:="range_iterator") gh rfl rfl (by decide) ⟨.int (lo-i),H,I1,⟨t,?_⟩,⟨rfl,rfl⟩,gh,fun b hb=>(hf b hb).1⟩⟩;have e:lo+(i:Int)*(-1)=lo-i:=by lia
  rw[e]
 done:=by intro X hP hw hK hc i pins s σ H E I hf st hg;subst hP hw hK;obtain⟨f0,f1,f2,f3,f4,f5⟩:=hf it (by simp);exact Vv (I.ok.hd hc) st (by have:n<=i:=hg;lia) fun h' eb=>⟨rfl,I.turned (t':=s.toks) (fun b o hb e=>eb b o hb e) f0 f1 f3 f4 f5⟩
 self:=fun _ _ _ _ _ st h=>Jl st h
theorem XF{a b:Int}(ha:-(2^62)<=a)(Q8:a<2^62)(hb:-(2^62)<=b)(la:b<2^62):Builtin.Range.small a b (-1)=true:=by unfold Builtin.Range.small Builtin.Range.rangeSize;rw[aP (by decide),show(-(-1):Int)=1 by decide,Int.ediv_one];simp only[Builtin.Range.rangeFitsLong,eu,Bool.or_eq_true,BS,fC,show¬((-1:Int)>0) by decide,if_false];split<;>lia
theorem XT(a b:Int):Builtin.Range.rangeSize a b (-1)=(((a-b).toNat:Nat):Int):=by unfold Builtin.Range.rangeSize;rw[aP (by decide),show(-(-1):Int)=1 by decide,Int.ediv_one];split<;>lia
inductive Vc(R:It->Hp->Prop)(vs:List V)(H1:Hp):Prop |mk (i:Int)(j:Int)(h0:vs=[.int i,.int j,.int (-1)])(h1:(-(2^62)<=i/\i<2^62/\-(2^62)<=j/\j<2^62))(h2:R (vM i (i-j).toNat) H1):Vc R vs H1
def a42(ta:TA):TI:=fun σ H R=>ta σ H fun vs H1=>Vc R vs H1
section
variable {X:Cx} {tg:Expr}
theorem Zh{pins:List (Addr×Obj)}{σ:St}{H:Hp}{s:aaV}{R:It->Hp->Prop}{E:Value->aaV->Prop}{lo hi:Int}{t u v:Tok}{tk:Nat}(I:Inv X pins σ H s)(h1:-(2^62)<=lo)(h2:lo<2^62)(h3:-(2^62)<=hi)(h4:hi<2^62) (q:R (vM lo (lo-hi).toNat) H):wpAny (model X.prog X.w) X.A (pyIter (.ref s.heap.objs.size)) (BH X pins σ tg R) E {s with heap:=s.heap.push {cls:=.type "range",data:=.fields #[.int lo t,.int hi u,.int (-1) v]},toks:=tk}:=by
  refine wpAny_pyIter_range (IsRange.new ..) (XF h1 h2 h3 h4) ?_;have I1:Inv X pins σ H {s with heap:=s.heap.push {cls:=.type "range",data:=.fields #[.int lo t,.int hi u,.int (-1) v]},toks:=tk}:=I.kept fun b o e=>bW _ e;refine⟨(s.heap.push {cls:=.type "range",data:=.fields #[.int lo t,.int hi u,.int (-1) v]}).objs.size,[(s.heap.push {cls:=.type "range",data:=.fields #[.int lo t,.int hi u,.int (-1) v]}).objs.size],_,_,H,rfl,I1.kept (t':=tk) fun b o e=>bW _ e,WL _ lo (lo-hi).toNat,?_,fun b hb=>?_,q⟩
  · have e1:lo+((0:Nat):Int)*(-1)=lo:=by simp
    have e2:(((lo-hi).toNat:Nat):Int)-((0:Nat):Int)=Builtin.Range.rangeSize lo hi (-1):=by rw[XT];lia
    show IsRangeIter _ _ (lo+((0:Nat):Int)*(-1)) ((((lo-hi).toNat:Nat):Int)-((0:Nat):Int)) (-1);rw[e1,e2];exact dP _ rfl
  · have e:b=(s.heap.push {cls:=.type "range",data:=.fields #[.int lo t,.int hi u,.int (-1) v]}).objs.size:=by simpa using hb
    subst e;exact I1.oq (bo _) (I1.hok.fresh (bo _))
theorem ZX{a b c:Expr}{ta:TA}{p pos:Pos}(hg:Gl X "range")(hm:X.mg "range"=none)(ha:PA X [a,b,c] ta)(hs:starEach [a,b,c] X.env=[(false,eval a X.env),(false,eval b X.env),(false,eval c X.env)]:=by rfl)(iU:starEach [b,c] X.env=[(false,eval b X.env),(false,eval c X.env)]:=by rfl): PI X tg (.Call (.Name "range" p) [a,b,c] [] pos) (a42 ta):=by intro pins s σ H R I h;refine Call_ (nU I hg hm boot_range (vS (aM (ha pos pins s σ H _ I h) fun us s1 ⟨vs,H1,I1,r1,q1⟩=>?_) (by rw[hs,iU]) (by rw[iU];rfl)));obtain⟨i,j,e,⟨q1,q2,q3,q4⟩,q⟩:=q1;subst e;cases r1 with |cons r rr=>cases rr with |cons r' rr=>cases rr with |cons ZA rr=>cases rr;obtain⟨t,rfl⟩:=r;obtain⟨t',rfl⟩:=r';obtain⟨t'',rfl⟩:=ZA;exact call_range_3 (by decide) (Zh I1 q1 q2 q3 q4 q) (Or.inl (PyProof.noPylong_small (by lia)))
theorem a6L{lo:Int}{n:Nat}{g:TG}{tb:TS}{D:Ends}{σ:St}{H:Hp}(Pv:Nat->St->Hp->Prop)(h0:Pv 0 σ H) (hs:∀i σ H,i<n->Pv i σ H->g (.int (lo-i)) σ H fun σ2 H2=>tb {D with nx:=Pv (i+1),ct:=Pv (i+1),bk:=D.nx} σ2 H2)(hd:∀σ H,Pv n σ H->D.nx σ H): ∃W:Nat->Nat->St->Hp->Prop,(∃m,W 0 m σ H)/\∀i m σ H,W i m σ H->((vM lo n).stop i H/\D.nx σ H)\/((vM lo n).go i H/\∃N:St->Hp->Prop,(∀σ' H',N σ' H'->∃m',m'<m/\W (i+1) m' σ' H')/\∀x H',(vM lo n).yld i H x H'->g x σ H' fun σ2 H2=>tb {D with nx:=N,ct:=N,bk:=D.nx} σ2 H2):=by
  refine⟨fun i m σ H=>m=n-i/\i<=n/\Pv i σ H,⟨n,by simp,fX _,h0⟩,?_⟩;rintro i m σ H ⟨rfl,hi,hp⟩;by_cases h:i<n
  · refine .inr ⟨h,Pv (i+1),fun σ' H' uY=>⟨n-(i+1),by lia,rfl,by lia,uY⟩,?_⟩
    rintro x H' ⟨rfl,rfl⟩;exact hs i σ H' h hp
  · have e:i=n:=by lia
    subst e;exact .inl ⟨bo _,hd σ H hp⟩
end
theorem RO{K:aaU}{b1 b2:Bool}{l1 l2:Addr}{xs ys:List V}{bs:List Bool}{te:TE}{Q:VK}{D:Addr}{H H0:Hp}{n:Nat}(rest:St)(hn:n=2)(h1:dM b1 K H l1 xs)(h2:dM b2 K H l2 ys)(nw:Nw H H0 D (.lst [])) (hl:min xs.length ys.length=bs.length)(hz:bs.length<=100000) (hs:∀(i:Nat)(x y:V)(b:Bool)(H2:Hp)(Q':VK),xs[i]? =some x->ys[i]? =some y->bs[i]? =some b->ak H H2->(∀H3,ak H2 H3->Q' (.bl b) H3)->te (some x::some y::rest) H2 Q') (hq:∀H',ak H H'->H' D=some (.lst (bs.map V.bl))->Q (.ref D) H'):iu (lT K b1 b2 l1 l2) (om K n (jz (dX 0) (jz (dX 1) pR))) gG te Q D (none::none::rest) H0:=by
  subst hn;have hD:=nw.no;refine pX bs.length (fun i σ H2=>ak H H2/\H2 D=some (.lst ((bs.take i).map V.bl))/\∃v v',σ=v::v'::rest) ?_ ?_ ?_
  ·exact⟨nw.same,nw.at',none,none,rfl⟩
  · rintro i σ H2 hi ⟨s2,d2,v,v',rfl⟩
    have hx:i<xs.length:=by lia
    have hy:i<ys.length:=by lia
    have ex:=bN hx;have ey:=bN hy;have eb:=bN hi;refine⟨⟨xs,ys,_,_,h1.go s2,h2.go s2,ex,ey⟩,fun y' H3 jx=>?_⟩;obtain⟨T,x0,y0,rfl,k1,k2,n3⟩:=jx;have e1:=k1 _ (h1.go s2);have e2:=k2 _ (h2.go s2);rw[ex]at e1;rw[ey]at e2;cases e1;cases e2;refine⟨T,_,rfl,aI.of n3.at',rfl,_,_,rfl,_,_,rfl,rfl,?_⟩;refine yes (bF ?_);refine hs i _ _ _ _ _ ex ey eb (s2.trans n3.same) fun H4 s4=>?_;refine⟨_,s4 _ _ (n3.same _ _ d2),?_,bs.length-(i+1),by lia,rfl,by lia,fun b o e=>?_,?_,_,_,rfl⟩
    · rw[bT,nc]
      have:(100000:Nat)<sizeLine:=by decide
      lia
    ·rw[aB (fH e hD)];exact s4 b o (n3.same b o (s2 b o e))
    ·rw[aQ,oT,eb,mZ];rfl
  · rintro σ H2 ⟨s2,d2,v,v',rfl⟩
    refine⟨⟨xs,ys,h1.go s2,h2.go s2,by lia⟩,hq H2 s2 ?_⟩;rw[d2,vT]
structure MA(K:aaU)(C:Addr)(m qual:Str)(st:Stmt):Prop where ex:∃f fd,Meth K C m f/\jE K m qual st f fd
def cy(P:aaW)(w:World)(K:aaU)(mg:Str->Option Value)(base:Heap)(C:Addr)(m:Str)(k:Nat)(sp:Sp):Prop:=∃f fd ps,iK P w K mg base iX k f fd ps sp/\Meth K C m f/\Binds K fd ps []
structure CA(K:aaU)(mg:Str->Option Value)(C:Addr)(x qual:Str)(st:Stmt):Prop where
 mgC:mg x=some (.ref C)
 ex:∃f fd,Mk K C f/\jE K "__init__" qual st f fd
def BK(P:aaW)(w:World)(K:aaU)(mg:Str->Option Value)(base:Heap)(C:Addr)(x:Str)(k:Nat)(sp:Sp):Prop:=∃f fd ps,iK P w K mg base iX k f fd ps sp/\Mk K C f/\Binds K fd ps []/\mg x=some (.ref C)
section
variable {P:aaW}{w:World}{K:aaU}{mg:Str->Option Value}{base:Heap}
theorem hW{C:Addr}{m qual:Str}{st:Stmt}{f:Addr}{oc:Value}{od an:Option Addr}{fP:Array (Option Value)}{kV doc pm aD ct:Value} (a:PySem.W.findIn K (.ref C) m=some (some (.ref f)))(i:PySem.W.isFn K (.ref f)=true) (l:K.lookup f=some ⟨oc,od,.func (PySem.W.fnOf m qual (jB st) (gd st) (aK st) .none kV doc pm an aD ct),fP⟩) (c:PySem.W.codeIn K aD qual=true)(k:PySem.W.keepIn K (.ref f)=true):MA K C m qual st:=⟨f,_,⟨a,i,k⟩,B8 l c k⟩
theorem a8n{h:Heap}{C:Addr}{x qual:Str}{st:Stmt}{f:Addr}{oc:Value}{od an:Option Addr}{fP:Array (Option Value)}{kV doc pm aD ct:Value}(X:K.In h)(G:h.Ns mainGlobals mg) (aC:PySem.W.nsIn K mainGlobals x=some (some (.ref C)))(mk:PySem.W.makesIn K C=true)(kc:PySem.W.keepIn K (.ref C)=true) (a:PySem.W.findIn K (.ref C) "__init__"=some (some (.ref f)))(i:PySem.W.isFn K (.ref f)=true) (l:K.lookup f=some ⟨oc,od,.func (PySem.W.fnOf "__init__" qual (jB st) (gd st) (aK st) .none kV doc pm an aD ct),fP⟩) (c:PySem.W.codeIn K aD qual=true)(k:PySem.W.keepIn K (.ref f)=true):CA K mg C x qual st:=⟨vR X G aC,f,_,⟨mk,a,i,kc⟩,B8 l c k⟩
theorem MA.has{C:Addr}{m qual:Str}{st:Stmt}{N ps:List Str}{k:Nat}{sp:Sp}(F:MA K C m qual st)(S:aW N ps (aK st))(len:∀vs H Q E,sp vs H Q E->vs.length=ps.length) (hb:∀(kV doc pm:Value)(an:Option Addr)(aD ct:Value)(us:List Value),us.length=ps.length->bindArgs (PySem.W.fnOf m qual (jB st) (gd st) (aK st) .none kV doc pm an aD ct) ⟨us,[]⟩=pure (ps.zip us)) (ie:∀(f:Addr)(aD:Value)(A:aaY)(outer:List Env)(s:aaV)(H:Hp)(vs:List V)(Q:VK)(E:XK),cu k (A.deeper (envOfC qual (aK st) s.heap.objs.size f aD))->sp vs H Q E->∃t,gD (iJ iX P w K mg base N qual (aK st) f aD A outer s H E).nS (gd st) t/\t {nx:=fun _ H'=>Q .aY H',rt:=Q} (start N vs) H):cy P w K mg base C m (k+1) sp:=by obtain⟨f,fd,hm,F⟩:=F.ex;exact⟨f,fd,ps,F.ok S len fun aD A outer s H vs Q E=>ie f aD A outer s H vs Q E,hm,F.binds hb⟩
theorem CA.has{C:Addr}{x qual:Str}{st:Stmt}{N ps:List Str}{k:Nat}{sp:Sp}(F:CA K mg C x qual st)(S:aW N ps (aK st))(len:∀vs H Q E,sp vs H Q E->vs.length=ps.length) (hb:∀(kV doc pm:Value)(an:Option Addr)(aD ct:Value)(us:List Value),us.length=ps.length->bindArgs (PySem.W.fnOf "__init__" qual (jB st) (gd st) (aK st) .none kV doc pm an aD ct) ⟨us,[]⟩=pure (ps.zip us)) (ie:∀(f:Addr)(aD:Value)(A:aaY)(outer:List Env)(s:aaV)(H:Hp)(vs:List V)(Q:VK)(E:XK),cu k (A.deeper (envOfC qual (aK st) s.heap.objs.size f aD))->sp vs H Q E->∃t,gD (iJ iX P w K mg base N qual (aK st) f aD A outer s H E).nS (gd st) t/\t {nx:=fun _ H'=>Q .aY H',rt:=Q} (start N vs) H):BK P w K mg base C x (k+1) sp:=by obtain⟨f,fd,hm,F'⟩:=F.ex;exact⟨f,fd,ps,F'.ok S len fun aD A outer s H vs Q E=>ie f aD A outer s H vs Q E,hm,F'.binds hb,F.mgC⟩
end
section
variable {X:Cx}{k:Nat}{x m:Str}{C:Addr}{p pos apos:Pos}{o e:Expr}{es:List Expr}{t:TA}{ta:TE}{sp:Sp}
inductive Jf(C:Addr)(m:Str)(sp:Sp)(t:TA)(σ:St)(Q:VK)(x:V)(H1:Hp):Prop |mk (a:_)(dx:_)(fs:_)(h0:x= .ref a)(h1:H1 a=some (.ins C dx fs))(h2:fs.lookup m=none)(h3:t σ H1 fun vs H2=>sp (x::vs) H2 Q E0):Jf C m sp t σ Q x H1
def Ki(C:Addr)(m:Str)(sp:Sp)(ta:TE)(t:TA):TE:=fun σ H Q=>ta σ H fun x H1=>Jf C m sp t σ Q x H1
theorem Oz{σ:St}{Q:VK}{x:V}{H1:Hp}:tG C m sp [] E0 t σ Q x H1=Jf C m sp t σ Q x H1:=by
 have e1:(fun(vs:List V) H1=>sp (x::(vs++[])) H1 Q E0)=fun vs H1=>sp (x::vs) H1 Q E0:=by funext vs H1;rw[C9]
 refine propext ⟨fun⟨a,dx,fs,h0,h1,h2,h3⟩=>⟨a,dx,fs,h0,h1,h2,?_⟩,fun⟨a,dx,fs,h0,h1,h2,h3⟩=>⟨a,dx,fs,h0,h1,h2,?_⟩⟩
 ·rw[<-e1];exact h3
 ·rw[e1];exact h3
theorem wX{pl:Sem Bool}(F:cy X.prog X.w X.K X.mg X.base C m k sp)(c:jF X.K C)(hr:cu k X.A)(he:PE X o ta)(ha:PA X (e::es) t) (gz:starEach (e::es) X.env=(false,eval e X.env)::starEach es X.env:=by rfl)(fR:(backTo pos (starEach es X.env)).any (·.1)=false:=by rfl) (ht:eval (.Call (.Attribute o m apos) (e::es) [] pos) X.env=(do
     let ov<-eval o X.env
     standAt apos.atName
     let(f,first)<-holding [ov] (getMethod ov m pl)
     callWith pos f first (backTo pos (starEach (e::es) X.env)) (backToKw pos (keywordEach [] X.env))):=by rfl): PE X (.Call (.Attribute o m apos) (e::es) [] pos) (Ki C m sp ta t):=by
  obtain⟨f,fd,ps,F,hm,hb⟩:=F;have h:=NI (pos:=pos) (apos:=apos) (pl:=pl) he c hm F hr hb .nil zY ha gz fR ht;intro pins s σ H Q I hq;refine h pins s σ H Q I ?_;show ta σ H fun x H1=>tG C m sp [] E0 t σ Q x H1;simp only[Oz];exact hq
theorem gk{pl:Sem Bool}(F:cy X.prog X.w X.K X.mg X.base C m k sp)(c:jF X.K C)(hr:cu k X.A)(he:PE X o ta) (ht:eval (.Call (.Attribute o m apos) [] [] pos) X.env=(do
     let ov<-eval o X.env
     standAt apos.atName
     let(f,first)<-holding [ov] (getMethod ov m pl)
     callWith pos f first (backTo pos (starEach [] X.env)) (backToKw pos (keywordEach [] X.env))):=by rfl): PE X (.Call (.Attribute o m apos) [] [] pos) (Ki C m sp ta lY):=by
  obtain⟨f,fd,ps,F,hm,hb⟩:=F;have h:=a05 (pos:=pos) (apos:=apos) (pl:=pl) he c hm F hr hb .nil zY ht;intro pins s σ H Q I hq;refine h pins s σ H Q I ?_;show ta σ H fun x H1=>tG C m sp [] E0 lY σ Q x H1;simp only[Oz];exact hq
def X7(C:Addr)(sp:Sp)(t:TA):TE:=fun σ H Q=>t σ H fun vs H1=>∀x dx,H1 x=none->H1 dx=none->dx≠x->sp (.ref x::vs) (upd (upd H1 dx (.own x)) x (.ins C dx [])) (fun v H2=>v= .aY/\Q (.ref x) H2) E0
theorem a04(F:BK X.prog X.w X.K X.mg X.base C x k sp)(hr:cu (k+1) X.A)(hg:Gl X x)(ha:PA X (e::es) t)(iV:(x==("__debug__":Str))=false:=by decide) (he:starEach (e::es) X.env=(false,eval e X.env)::starEach es X.env:=by rfl)(fR:(backTo pos (starEach es X.env)).any (·.1)=false:=by rfl): PE X (.Call (.Name x p) (e::es) [] pos) (X7 C sp t):=by
  obtain⟨f,fd,ps,F,M,hb,hm⟩:=F;have h:=a06 (pos:=pos) (p:=p) M F hr hg hm hb .nil zY ha iV he fR;intro pins s σ H Q I hq;refine h pins s σ H Q I ?_;have e1:(fun(vs:List V) H1=>∀x dx,H1 x=none->H1 dx=none->dx≠x->sp (.ref x::(vs++[])) (upd (upd H1 dx (.own x)) x (.ins C dx [])) (fun v H2=>v= .aY/\Q (.ref x) H2) E0) =fun vs H1=>∀x dx,H1 x=none->H1 dx=none->dx≠x->sp (.ref x::vs) (upd (upd H1 dx (.own x)) x (.ins C dx [])) (fun v H2=>v= .aY/\Q (.ref x) H2) E0:=by funext vs H1;rw[C9]
  show t σ H fun vs H1=>∀x dx,H1 x=none->H1 dx=none->dx≠x->sp (.ref x::(vs++[])) (upd (upd H1 dx (.own x)) x (.ins C dx [])) (fun v H2=>v= .aY/\Q (.ref x) H2) E0;rw[e1];exact hq
inductive Vp(C:Addr)(x:Str)(Q:VK)(v:V)(H1:Hp):Prop |mk (a dx:Addr)(fs:List (Str×V))(u:V)(h0:v= .ref a)(h1:H1 a=some (.ins C dx fs))(h2:fs.lookup x=some u)(h3:Q u H1):Vp C x Q v H1
theorem cI(T:jF X.K C)(hn:iW X.K C x)(he:PE X e ta)(hb:attributeBase e x X.env (eval e X.env)=eval e X.env:=by rfl): PE X (.Attribute e x pos) (fun σ H Q=>ta σ H fun v H1=>Vp C x Q v H1):=by intro pins s σ H Q I h;refine a8F hb (aM (he pins s σ H _ I h) fun u s1 ⟨v,H1,I1,rx,a,dx,fs,w,ex,ea,l,q⟩=>?_);subst ex;obtain rfl:u=Value.ref a:=rx;exact Qq I1 ea T hn l fun u' s2 I2 ru=>⟨w,H1,I2,ru,q⟩
inductive Vl(C:Addr)(x:Str)(D:Ends)(σ:St)(y v:V)(H2:Hp):Prop |mk (a dx:Addr)(fs:List (Str×V))(h0:v= .ref a)(h1:H2 a=some (.ins C dx fs))(h2:fs.length<1000)(h3:D.nx σ (upd H2 a (.ins C dx (iP x y fs)))):Vl C x D σ y v H2
inductive Vn(C a:Addr)(x:Str)(D:Ends)(σ:St)(z:V)(H3:Hp):Prop |mk (sW:Addr)(fs':List (Str×V))(h0:H3 a=some (.ins C sW fs'))(h1:fs'.length<1000)(h2:D.nx σ (upd H3 a (.ins C sW (iP x z fs')))):Vn C a x D σ z H3
inductive Vo(C:Addr)(x:Str)(tv:TE)(rd:V->V->Hp->VK->Prop)(D:Ends)(σ:St)(v:V)(H1:Hp):Prop |mk (a dx:Addr)(fs:List (Str×V))(u:V)(h0:v= .ref a)(h1:H1 a=some (.ins C dx fs))(h2:fs.lookup x=some u)(h3:tv σ H1 fun y H2=>rd u y H2 fun z H3=>Vn C a x D σ z H3):Vo C x tv rd D σ v H1
theorem iD{value:Expr}{tv:TE}{pos':Pos}(T:jF X.K C)(hn:iW X.K C x)(ha:PE X o ta)(hv:PE X value tv)(hs:swapsWith value (some (.Attribute o x pos')) pos.line X.env=pure false:=by rfl): PS X (.Assign [.Attribute o x pos'] value pos) (fun D σ H=>tv σ H fun y H1=>ta σ H1 fun v H2=>Vl C x D σ y v H2):=by intro pins s σ H D I h;refine plainObj_wpAny_Assign_Attribute (aM (hv pins s σ H _ I h) fun u s1 ⟨y,H1,I1,ry,q⟩=>aM (ha pins s1 σ H1 _ I1 q) fun ov s2 ⟨v,H2,I2,rx,a,dx,fs,ex,ea,l,q2⟩=>?_) hs;subst ex;obtain rfl:ov=Value.ref a:=rx;exact LC I2 ea T hn l ry fun s3 I3=>⟨σ,_,I3,q2⟩
theorem ZK{op:Operator}{rd:V->V->Hp->VK->Prop}{value:Expr}{tv:TE}{ny:Pos}(T:jF X.K C)(hn:iW X.K C x)(ha:PE X o ta)(hv:PE X value tv)(hop:a9e X op rd): PS X (.AugAssign (.Attribute o x ny) op value pos) (fun D σ H=>ta σ H fun v H1=>Vo C x tv rd D σ v H1):=by intro pins s σ H D I h;refine wpAny_AugAssign_AttributeAny (aM (ha pins s σ H _ I h) fun ov s1 ⟨v,H1,I1,rx,a,dx,fs,u,ex,ea,l,q⟩=>?_);subst ex;obtain rfl:ov=Value.ref a:=rx;refine Qq I1 ea T hn l fun u s2 I2 ru=>aM (hv pins s2 σ H1 _ I2 q) fun w3 s3 ⟨y,H2,I3,ry,q3⟩=>aM (hop pins s3 σ H2 _ y u w3 _ I3 ru ry q3) fun w4 s4 ⟨z,H3,I4,rz,sW,fs',mG,l',q4⟩=>?_;exact LC I4 mG T hn l' rz fun s5 I5=>⟨σ,_,I5,q4⟩
end
def aV(S:List Addr)(H H':Hp):Prop:=∀b o,H b=some o->b∉S->H' b=some o
theorem aV.refl(S:List Addr)(H:Hp):aV S H H:=fun _ _ e _=>e
theorem aV.of{S:List Addr}{H H':Hp}(s:ak H H'):aV S H H':=fun b o e _=>s b o e
theorem aV.trans{S:List Addr}{H H1 H2:Hp}(a:aV S H H1)(b:aV S H1 H2):aV S H H2:=fun c o e n=>b c o (a c o e n) n
theorem aV.mono{S S':List Addr}{H H1:Hp}(h:∀x,x∈S->x∈S')(a:aV S H H1):aV S' H H1:=fun c o e n=>a c o e fun z=>n (h c z)
theorem vF{S:List Addr}{H:Hp}{a:Addr}{o:HO}(h:a∈S):aV S H (upd H a o):=fun b o' e n=>by have hb:b≠a:=fun z=>n (by rw[z];exact h);rw[aB hb];exact e
def BM:HO->Prop | .lst _=>True | .ins _ _ _=>True | .dK _=>True | .eG _=>True |_=>False
def bG(H H':Hp):Prop:=∀b o,¬BM o->H b=some o->H' b=some o
section
variable {K:aaU} {H H' H2:Hp}
theorem bG.refl:bG H H:=fun _ _ _ e=>e
theorem bG.trans(a:bG H H')(b:bG H' H2):bG H H2:=fun c o n e=>b c o n (a c o n e)
theorem ip.v(s:ip H H'):bG H H':=fun b o n e=>s b o (fun xs z=>n (by rw[z];trivial)) e
theorem ak.v(s:ak H H'):bG H H':=fun b o _ e=>s b o e
theorem aV.v{S:List Addr}(s:aV S H H')(h:∀x∈S,∀o,H x=some o->BM o):bG H H':=fun b o n e=>s b o e fun z=>n (h b z o e)
theorem bG.upd{a:Addr}{o o':HO}(h:H a=some o)(m:BM o):bG H (upd H a o'):=fun b p n e=>by
 have hb:b≠a:=fun z=>by rw[z,h]at e;cases e;exact n m
 rw[aB hb];exact e
theorem aI.v{a:Addr}{xs:List V}(s:bG H H')(h:aI K H a xs):aI K H' a xs:=h.imp (fun r=>r.imp (s _ _ (fun z=>z)) fun⟨o,e⟩=>⟨o,s _ _ (fun z=>z) e⟩) id
mutual
theorem RD.v(s:bG H H'):∀{x:V}(d:aaX),eR d=true->RD K H x d->RD K H' x d |x,.none,_,h=>by simpa[RD]using h |x,.bool b,_,h=>by simpa[RD]using h |x,.int i,_,h=>by simpa[RD]using h |x,.str y,_,h=>by simpa[RD]using h |x,.list ds,n,h=>by simp[eR]at n |x,.tuple ds,n,h=>by rw[RD]at h⊢;obtain⟨a,xs,e,h1,h2⟩:=h;exact⟨a,xs,e,h1.v s,aE.v s ds (by simpa[eR]using n) h2⟩ |x,.dict _,_,h=>by simp[RD]at h
theorem aE.v (s:bG H H'):∀{xs:List V}(ds:List aaX),cB ds=true->aE K H xs ds->aE K H' xs ds |xs,[],_,h=>by simpa[aE]using h |xs,d::ds,n,h=>by rw[aE]at h⊢;rw[cB,eu]at n;obtain⟨y,ys,e,h1,h2⟩:=h;exact⟨y,ys,e,RD.v s d n.1 h1,aE.v s ds n.2 h2⟩
end
end
end L2
namespace Pn
section
variable {n:Nat}{own:Nat->Rat}{L:Nat->Option Nat}{r f:Int}
end
end Pn
namespace Ow
open Pn Ln Cn
end Ow
namespace Pn
section
variable {n:Nat}{own FC:Nat->Rat}{L L':Nat->Option Nat}{r f:Int}
end
end Pn
namespace Pn
section
variable {n:Nat}{own FC q:Nat->Rat}{L:Nat->Option Nat}{r f r' f':Int}
end
end Pn
namespace Ow
open Pn Ln Cn
end Ow
namespace Pn
section
variable {n:Nat}{own FC:Nat->Rat}{L L':Nat->Option Nat}{r f:Int}{c:Nat}
end
end Pn
namespace Ow
open Pn
section
variable (j rate:Int)(os1 os2:List Itm)
end
end Ow
namespace Pn
section
variable {n:Nat}{own:Nat->Rat}{L:Nat->Option Nat}{r f:Int}
theorem a6P{g:Nat->Rat}{i:Nat}(hi:i<=n):fl n L f g i<=g i:=by
 rcases Nat.lt_or_ge i n with h|h
 ·cases e:L i with |none=>rw[vk h e];exact oN |some m=>rw[vn h e];exact g9 _ _
 · have:i=n:=by lia
   subst this;rw[vm];exact oN
theorem a6O{g:Nat->Rat}(hf:0<=f)(h0:∀i,i<=n->0<=g i):∀i,i<=n->0<=fl n L f g i:=by
 refine down ?_ ?_
 ·rw[vm];exact h0 n (bo _)
 · intro i hi ih
   cases e:L i with |none=>rw[vk hi e];exact h0 i (by lia) |some m=>rw[vn hi e];exact ku (h0 i (by lia)) (OZ ih (a2G hf))
end
end Pn
namespace Rn
open Pn Rt Ln
open Ow (topR ownF leadF Itm OkIs)
theorem Bl{n:Nat}{a b:Int}(hb:b≠0)(h2:b.natAbs<2^n):(Rat.divInt a b).den<2^n:=by obtain⟨-,e⟩:=Ag (a:=a) hb;have l2:=Ar.OK (p:=a) hb;omega
structure Dd(D:Nat)(q:Rat):Prop where
 nn:0<=q
 den:q.den<2^D
theorem Dd.mono{D E:Nat}{q:Rat}(h:Dd D q)(l:D<=E):Dd E q:=⟨h.nn,fL h.den (qx (by decide) l)⟩
theorem Dd.bd{D:Nat}{q:Rat}(h:Dd D q)(hl:q<=2000):Bd (D+11) q:=by
 have h1:=Jp.mpr h.nn;have sL:¬((2000:Rat)<q):=yK.mpr hl;rw[BV]at sL;have e1:(2000:Rat).num=2000:=rfl;have e2:(2000:Rat).den=1:=rfl;rw[e1,e2]at sL;have h2:q.num<=2000*(q.den:Int):=by lia
 refine⟨?_,fL h.den (qx (by decide) (by lia))⟩;have h3:=h.den;have h4:q.num.natAbs<=2000*q.den:=by lia
 have h5:(2:Nat)^(D+11)=2^D*2048:=by rw[Nat.pow_add]
 rw[h5];have h6:2000*q.den<2000*2^D:=Nat.mul_lt_mul_of_pos_left h3 (by decide)
 lia
theorem Dd.mn{D:Nat}{a b:Rat}(h1:Dd D a)(h2:Dd D b):Dd D (mn a b):=by rcases xy a b with e|e<;>rw[e]<;>assumption
theorem Dd.add{D:Nat}{q:Rat}(h:Dd D q){z:Int}(hz:0<=z):Dd D (q+(z:Rat)):=by
 refine⟨OZ h.nn (by have:=Rat.intCast_le_intCast.mpr hz;exact this),?_⟩;rw[add_div,Jq,Js];have e:(q.den:Int)*((1:Nat):Int)=(q.den:Int):=by lia
 rw[e];have hd:=q.den_pos;exact Bl (by lia) (by have:=h.den;lia)
theorem RC{a b:Int}(ha:0<=a)(hb:0<b):0<=Rat.divInt a b:=(vQ hb).mpr ha
theorem div_pos{a b:Int}(ha:0<a)(hb:0<b):0<Rat.divInt a b:=by
 have h0:=RC (JN ha) hb;refine Jo h0 fun e=>?_;have h2:0<=Rat.divInt (-a) b:=by rw[<-Rat.neg_divInt,<-e];decide
 have:=(vQ hb).mp h2
 lia
theorem Dd.mul{D m:Nat}{q:Rat}(h:Dd D q){a s:Int}(ha:0<=a)(hs:0<s)(hm:s.natAbs<2^m):Dd (D+m) (q*Rat.divInt a s):=by refine⟨Rat.mul_nonneg h.nn (RC ha hs),?_⟩;have h1:(Rat.divInt a s).den<2^m:=Bl (by lia) hm;rw[mul_div];have hd:=q.den_pos;have hd2:=(Rat.divInt a s).den_pos;refine Bl (oA _ _) ?_;rw[fq];exact kn (by have:=h.den;lia) (by lia)
theorem Cr(rate sp:Int):Dd 14 (topR rate sp):=⟨Ow.zk _ _,Bl (by decide) (by decide)⟩
theorem zj{rate sp:Int}(h1:1<=sp)(h2:sp<=20)(h3:10<=rate)(h4:rate<=200):topR rate sp<=1600:=by
 have e:(1600:Rat)=Rat.divInt 16000000 10000:=by decide+kernel
 rw[e];refine(Cn.RF (by decide)).mpr ?_;have hp:sp*rate<=20*200:=Cb h2 h4 (by lia) (by lia);have AG:0<=sp*rate:=jo (by lia) (by lia);rw[fo,fo,kO,jV];have:=Cb hp hp AG (by decide)
 lia
theorem a0p{j rate:Int}{os:List Itm}(h1:1<=j)(h2:j<=50)(h3:10<=rate)(h4:rate<=200)(ho:OkIs os)(i:Nat):Dd 64 (ownF j rate os i):=⟨Ow.NV _ _ _ _,(Ow.Fz h1 h2 h3 h4 ho i).den⟩
theorem a6Q{D n:Nat}{g:Nat->Rat}{L:Nat->Option Nat}{f:Int}(hf:0<=f)(h:∀i,i<=n->Dd D (g i)):∀i,i<=n->Dd D (fl n L f g i):=by
 refine down ?_ ?_
 ·rw[vm];exact h n (bo _)
 · intro i hi ih
   cases e:L i with |none=>rw[vk hi e];exact h i (by lia) |some m=>rw[vn hi e];exact(h i (by lia)).mn (ih.add (jo hf (by lia)))
theorem a8x{j rate:Int}{o p:Itm}(h3:10<=rate)(h4:rate<=200)(ho:Ow.OkI o):Ow.betR j rate o p<=1600:=by cases o with |none=>rw[Ow.Sk];decide+kernel |some q=>cases p with |none=>rw[Ow.Bu];decide+kernel |some q'=>obtain⟨ns,sp⟩:=q;obtain⟨ms,sq⟩:=q';obtain⟨-,a1,a2⟩:=ho ns sp rfl;have ht:=zj a1 a2 h3 h4;show Ow.mnO (mn (topR rate sp) (topR rate sq)) (Ow.cornO j ns ms)<=1600;cases Ow.cornO j ns ms with |none=>exact dB (g9 _ _) ht |some c=>exact dB (g9 _ _) (dB (g9 _ _) ht)
theorem a0o{j rate:Int}{os:List Itm}(h3:10<=rate)(h4:rate<=200)(ho:OkIs os):∀i,ownF j rate os i<=1600 |0=>by show(0:Rat)<=1600;decide+kernel |i+1=>a8x h3 h4 (ho i)
abbrev fT:=Option (Rat × Int × Int)
def kW(r f:Int)(pc top R:Rat)(left:Int):fT->Rat |none=>mn (mn (pc+(r:Rat)) top) (R+((f*(2*left-1):Int):Rat)) |some (sq,st,gn)=>mn (mn (mn (pc+(r:Rat)) top) (R+((f*(2*left-1):Int):Rat))) (sq*Rat.divInt (2*(st-gn-1)+1) (2*st))
def nR(r f:Int)(pc top R:Rat)(left:Int):fT->Rat |none=>mn (mn (pc+((2*r:Int):Rat)) top) (R+((2*f*(left-1):Int):Rat)) |some (sq,st,gn)=>mn (mn (mn (pc+((2*r:Int):Rat)) top) (R+((2*f*(left-1):Int):Rat))) (sq*Rat.divInt (st-gn-1) st)
def A4:fT->fT |none=>none |some (sq,st,gn)=>some (sq,st,gn+1)
def qc(D:Nat)(pc:Rat):fT->Prop |none=>True |some (sq,st,gn)=>0<=gn/\gn<=st/\st<=1000/\Dd D sq/\sq<=2000/\(st=0->pc=0)/\pc*(st:Rat)<=sq*((st-gn:Int):Rat)
def Halt(pc:Rat)(stp:fT):Prop:=stp≠none/\pc=0
theorem uH{D:Nat}{pc:Rat}{sq:Rat}{st gn:Int}(h:qc D pc (some (sq,st,gn)))(hp:0<=pc)(hn:¬Halt pc (some (sq,st,gn))):gn<st/\0<sq/\0<pc:=by
 obtain⟨g0,g1,g2,hd,hl,hz,hh⟩:=h;have xN:0<pc:=Jo hp fun e=>hn ⟨by simp,e.symm⟩;have gz:gn<st:=by
  rcases JM gn st with h|h
  ·exact h
  · have e:st-gn=0:=by lia
    rw[e]at hh;have e0:sq*((0:Int):Rat)=0:=Rat.mul_zero sq;rw[e0]at hh;exfalso;rcases JM 0 st with h3|h3
    · have h4:(0:Rat)<(st:Rat):=Vy.mpr h3
      have h5:=Rat.mul_pos xN h4;exact absurd (Std.lt_of_lt_of_le h5 hh) (Rat.lt_irrefl)
    ·rw[hz (by lia)]at xN;exact absurd xN (Rat.lt_irrefl)
 refine⟨gz,?_,xN⟩;refine Jo hd.nn fun e=>?_;rw[<-e,Rat.zero_mul]at hh;have h4:(0:Rat)<(st:Rat):=Vy.mpr (show(0:Int)<st by lia);exact absurd (Std.lt_of_lt_of_le (Rat.mul_pos xN h4) hh) (Rat.lt_irrefl)
section
variable {D:Nat}{r f:Int}{pc top R:Rat}{left:Int}{stp:fT}
theorem a7e:nR r f pc top R left stp<=top:=by cases stp with |none=>exact dB (g9 _ _) (jP _ _) |some q=>obtain⟨sq,st,gn⟩:=q;exact dB (g9 _ _) (dB (g9 _ _) (jP _ _))
theorem OD:kW r f pc top R left stp<=top:=by cases stp with |none=>exact dB (g9 _ _) (jP _ _) |some q=>obtain⟨sq,st,gn⟩:=q;exact dB (g9 _ _) (dB (g9 _ _) (jP _ _))
theorem a7f(hr:0<=r)(hf:0<=f)(hl:1<=left)(hp:Dd (D+10) pc)(ht:Dd (D+10) top)(hR:Dd (D+10) R)(hs:qc D pc stp)(hn:¬Halt pc stp):Dd (D+10) (nR r f pc top R left stp):=by have h1:=(hp.add (z:=2*r) (by lia)).mn ht;have h2:=hR.add (z:=2*f*(left-1)) (jo (by lia) (by lia));cases stp with |none=>exact h1.mn h2 |some q=>obtain⟨sq,st,gn⟩:=q;obtain⟨a,b,c⟩:=uH hs hp.nn hn;obtain⟨g0,g1,g2,hd,hl,hz,hh⟩:=hs;exact(h1.mn h2).mn (hd.mul (m:=10) (by lia) (by lia) (by lia))
theorem OF(hr:0<=r)(hf:0<=f)(hl:1<=left)(hp:Dd (D+10) pc)(ht:Dd (D+10) top)(hR:Dd (D+10) R)(hs:qc D pc stp)(hn:¬Halt pc stp):Dd (D+11) (kW r f pc top R left stp):=by have h1:=((hp.add (z:=r) (by lia)).mn ht).mono (show D+10<=D+11 by lia);have h2:=(hR.add (z:=f*(2*left-1)) (jo (by lia) (by lia))).mono (show D+10<=D+11 by lia);cases stp with |none=>exact h1.mn h2 |some q=>obtain⟨sq,st,gn⟩:=q;obtain⟨a,b,c⟩:=uH hs hp.nn hn;obtain⟨g0,g1,g2,hd,hl,hz,hh⟩:=hs;exact(h1.mn h2).mn (hd.mul (m:=11) (by lia) (by lia) (by lia))
theorem add_pos{x:Rat}{z:Int}(hx:0<=x)(hz:0<z):0<x+(z:Rat):=by have h1:((0:Int):Rat)<(z:Rat):=Vy.mpr hz;have h2:x+((0:Int):Rat)<x+(z:Rat):=Rat.add_lt_add_left.mpr h1;rw[show((0:Int):Rat)=0 from rfl,Rat.add_zero]at h2;exact Std.lt_of_le_of_lt hx h2
theorem FY{a b:Rat}(ha:0<a)(hb:0<b):0<mn a b:=by rcases xy a b with e|e<;>rw[e]<;>assumption
theorem OE(hr:1<=r)(hf:1<=f)(hl:1<=left)(hp:0<=pc)(ht:0<top)(hR:0<=R)(hs:qc D pc stp)(hn:¬Halt pc stp):0<kW r f pc top R left stp:=by have h1:=FY (FY (add_pos hp (show 0<r by lia)) ht) (add_pos hR (show 0<f*(2*left-1)from gW (by lia) (by lia)));cases stp with |none=>exact h1 |some q=>obtain⟨sq,st,gn⟩:=q;obtain⟨a,b,c⟩:=uH hs hp hn;obtain⟨g0,g1,g2,hd,hl,hz,hh⟩:=hs;exact FY h1 (Rat.mul_pos b (div_pos (by lia) (by lia)))
theorem Rz(a:Int):Rat.divInt a 1=(a:Rat):=by
 conv=>rhs;rw[<-qv (a:Rat)]
 rfl
theorem a7G{a s:Int}(hs:0<s):Rat.divInt a s*(s:Rat)=(a:Rat):=by
 have e:(s:Rat)=Rat.divInt s 1:=by rw[Rz]
 rw[e,VA _ _,Int.mul_one,JL a s];have e2:Rat.divInt (s*a) s=Rat.divInt (s*a) (s*1):=by rw[Int.mul_one]
 rw[e2,Rat.divInt_mul_left (by lia),Rz]
theorem Xv(hs:qc D pc stp)(hp:0<=pc)(hn:¬Halt pc stp):qc D (nR r f pc top R left stp) (A4 stp):=by cases stp with |none=>trivial |some q=>
   obtain⟨sq,st,gn⟩:=q;obtain⟨a,b,c⟩:=uH hs hp hn;obtain⟨g0,g1,g2,hd,hl,hz,hh⟩:=hs;refine⟨by lia,by lia,g2,hd,hl,fun e=>by lia,?_⟩;have h1:nR r f pc top R left (some (sq,st,gn))<=sq*Rat.divInt (st-gn-1) st:=jP _ _;have h2:(0:Rat)<=(st:Rat):=Rat.intCast_nonneg.mpr (by lia);have h3:=Rat.mul_le_mul_of_nonneg_right h1 h2;have h4:sq*Rat.divInt (st-gn-1) st*(st:Rat)=sq*((st-(gn+1):Int):Rat):=by
    rw[Rat.mul_assoc,a7G (by lia)];congr 2
    lia
   rw[h4]at h3;exact h3
end
end Rn
namespace L2
open PySem PySem.Spec PyProof.Rows
section
variable {κ : Type} [DecidableEq κ]
def fE(aG:List (κ×V))(k:κ):Option V:=(aG.find? fun kv=>decide (kv.1=k)).map (·.2)
def putK(aG:List (κ×V))(k:κ)(v:V):List (κ×V):=if(aG.any fun kv=>decide (kv.1=k))=true then aG.map (fun kv=>if kv.1=k then(kv.1,v)else kv)else aG++[(k,v)]
theorem Cf{p:κ×V}{r:List (κ×V)}{k:κ}(e:p.1=k):fE (p::r) k=some p.2:=by simp[fE,yP,e]
theorem Cg{p:κ×V}{r:List (κ×V)}{k:κ}(e:¬p.1=k):fE (p::r) k=fE r k:=by simp[fE,yP,e]
theorem JY(k:κ):∀aG:List (κ×V),(aG.any fun kv=>decide (kv.1=k))=(fE aG k).isSome
  |[]=>rfl |p::r=>by
    rw[tT];by_cases e:p.1=k
    ·simp only[Cf e,ck e,Bool.true_or,Option.isSome_some]
    ·rw[Cg e,eg e,Bool.false_or];exact JY k r
theorem Am(aG:List (κ×V))(k:κ)(v:V):(putK aG k v).length<=aG.length+1:=by
 unfold putK;split
 ·rw[bT];lia
 ·rw[fm,jI,JG];lia
theorem jh.a3M{o:Option V}{u:Option Value}(r:jh o u):o.isSome=u.isSome:=by cases o with
 |none=>cases u with |none=>rfl |some _=>exact(show False from r).elim
 |some _=>cases u with |none=>exact(show False from r).elim |some _=>rfl
theorem KV.val{aG:List (κ×V)}{vs:List (κ×Value)}(r:KV aG vs)(k:κ):jh (fE aG k) (valueAt vs k):=by unfold KV at r;induction r with |nil=>exact True.intro |@cons p q ps qs h t ih=>
   obtain⟨h1,h2⟩:=h;by_cases e:p.1=k
   · have e':q.1=k:=h1.symm.trans e
     have b:valueAt (q::qs) k=some q.2:=by simp[valueAt,yP,e']
     rw[Cf e,b];exact h2
   · have e':¬q.1=k:=fun z=>e (h1.trans z)
     have b:valueAt (q::qs) k=valueAt qs k:=by simp[valueAt,yP,e']
     rw[Cg e,b];exact ih
theorem KV.any{aG:List (κ×V)}{vs:List (κ×Value)}(r:KV aG vs)(k:κ):(aG.any fun kv=>decide (kv.1=k))=vs.any fun kv=>decide (kv.1=k):=by unfold KV at r;induction r with |nil=>rfl |cons h t ih=>rw[tT,tT,ih,h.1]
theorem KV.F3{aG:List (κ×V)}{vs:List (κ×Value)}(r:KV aG vs)(k:κ){y:V}{u:Value}(ry:RelV y u): KV (aG.map fun kv=>if kv.1=k then(kv.1,y)else kv) (vs.map fun kv=>if kv.1=k then(kv.1,u)else kv):=by unfold KV at r⊢;induction r with |nil=>exact .nil |@cons p q ps qs h t ih=>
    rw[mY,mY];refine .cons ?_ ih;obtain⟨h1,h2⟩:=h;by_cases e:p.1=k
    ·rw[aO e,aO (h1.symm.trans e)];exact⟨h1,ry⟩
    ·rw[aP e,aP (fun z=>e (h1.trans z))];exact⟨h1,h2⟩
theorem KV.put{aG:List (κ×V)}{vs:List (κ×Value)}(r:KV aG vs)(k:κ){y:V}{u:Value}(ry:RelV y u):KV (putK aG k y) (stored vs k u):=by
 unfold putK stored;rw[r.any k];by_cases e:(vs.any fun kv=>decide (kv.1=k))=true
 ·rw[aO e,aO e];exact r.F3 k ry
 ·rw[aP e,aP e];exact Paired.snoc r ⟨rfl,ry⟩
theorem KV.length{aG:List (κ×V)}{vs:List (κ×Value)}(r:KV aG vs):aG.length=vs.length:=Paired.length r
end
theorem As{P:aaW}{w:World}{k:Key}{u:Value}(r:RelV (kV k) u):(ja P w).is k u=true:=by cases k with |inl i=>obtain⟨t,e⟩:=(show∃t,u=Value.int i t from r);subst e;exact a2Q P w i t |inr x=>obtain⟨t,e⟩:=(show∃t,u=Value.str x t from r);subst e;exact a2P P w x t
theorem Pc{P:aaW}{w:World}:∀{ks:List Key}{us:List Value},Vals (ks.map kV) us->ItemsAre (ja P w) ks us |[],_,r=>by rw[List.map_nil]at r;cases r;exact .nil |k::ks,_,r=>by rw[mY]at r;cases r with |cons h t=>exact .cons (As h) (Pc t)
abbrev KT(H:Hp):List (List Key×V)->List (List Key×Addr×Value)->Prop:=Paired fun p q=>p.1=q.1/\H q.2.1=some (.tup (p.1.map kV))/\RelV p.2 q.2.2
theorem KT.val{H:Hp}{aG:List (List Key×V)}{xs:List (List Key×Addr×Value)}(r:KT H aG xs)(k:List Key):jh (fE aG k) ((atKey xs k).map (·.2)):=by induction r with |nil=>exact True.intro |@cons p q ps qs h t ih=>
   obtain⟨h1,_,h2⟩:=h;by_cases e:p.1=k
   · have e':q.1=k:=h1.symm.trans e
     have b:atKey (q::qs) k=some q.2:=by simp[atKey,yP,e']
     rw[Cf e,b];exact h2
   · have e':¬q.1=k:=fun z=>e (h1.trans z)
     have b:atKey (q::qs) k=atKey qs k:=by simp[atKey,yP,e']
     rw[Cg e,b];exact ih
theorem KT.F3{H:Hp}{aG:List (List Key×V)}{xs:List (List Key×Addr×Value)}(r:KT H aG xs)(k:List Key){y:V}{u:Value}(ry:RelV y u): KT H (aG.map fun kv=>if kv.1=k then(kv.1,y)else kv) (xs.map (putAt k u)):=by induction r with |nil=>exact .nil |@cons p q ps qs h t ih=>
    rw[mY,mY];refine .cons ?_ ih;obtain⟨h1,h2,h3⟩:=h;unfold putAt;by_cases e:p.1=k
    ·rw[aO e,aO (h1.symm.trans e)];exact⟨h1,h2,ry⟩
    ·rw[aP e,aP (fun z=>e (h1.trans z))];exact⟨h1,h2,h3⟩
theorem KT.put{H:Hp}{aG:List (List Key×V)}{xs:List (List Key×Addr×Value)}(r:KT H aG xs)(k:List Key){b:Addr}{y:V}{u:Value}(hb:H b=some (.tup (k.map kV)))(ry:RelV y u): KT H (putK aG k y) (storedH xs k b u):=by
  have e:(aG.any fun kv=>decide (kv.1=k))=(atKey xs k).isSome:=by rw[JY,(r.val k).a3M,Option.isSome_map]
  unfold putK storedH;rw[e];by_cases q:(atKey xs k).isSome=true
  ·rw[aO q,aO q];exact r.F3 k ry
  ·rw[aP q,aP q];exact Paired.snoc r ⟨rfl,hb,ry⟩
theorem KT.keeps{H H':Hp}{aG:List (List Key×V)}{xs:List (List Key×Addr×Value)}(r:KT H aG xs)(ht:∀b ys,H b=some (.tup ys)->H' b=some (.tup ys)):KT H' aG xs:=Paired.G0 r fun _ _ z=>⟨z.1,ht _ _ z.2.1,z.2.2⟩
section
variable {P:aaW}{w:World}{H:Hp}{h:Heap}{a:Addr}
theorem Nj{u:HO}(ok:dc P w H h)(e:Rd H a u):fk P w H h a u:=e.ok ok
theorem Iz{aG:List (Key×V)}(ok:dc P w H h)(e:Rd H a (.dK aG)):aG.length<=sizeLine/\(a==sysModules)=false/\∃vs,KV aG vs/\h.DictOf (ja P w) a vs:=show fk P w H h a (.dK aG)from Nj ok e
theorem Rx{aG:List (Key×V)}(ok:dc P w H h)(e:H a=some (.dK aG)):aG.length<=sizeLine/\(a==sysModules)=false/\∃vs,KV aG vs/\h.DictOf (ja P w) a vs:=Iz ok (.inl e)
theorem Gh{ks:List Key}(ok:dc P w H h)(e:H a=some (.tup (ks.map kV))):(tupleKind (ja P w)).is h ks a:=by obtain⟨_,its,r,o,h1,h2,n,h3⟩:=(show fk P w H h a (.tup (ks.map kV))from ok a _ e);exact⟨o,its.toArray,n,h1,h2,h3,by simpa using Pc r⟩
theorem Iv{aG:List (List Key×V)}(ok:dc P w H h)(e:Rd H a (.dT aG)):aG.length<=sizeLine/\(a==sysModules)=false/\∃xs,KT H aG xs/\h.DictOfH (tupleKind (ja P w)) a xs:=by
  obtain⟨z,y,xs,r,o,es,ep,h1,h2,h3,h4,h5⟩:=(show fk P w H h a (.dT aG)from Nj ok e);refine⟨z,y,xs,r,o,es,ep,h1,h2,h3,h4,fun x hx=>?_,h5⟩;have all:∀{l:List (List Key×V)}{m:List (List Key×Addr×Value)},KT H l m->∀x∈m,(tupleKind (ja P w)).is h x.1 x.2.1:=by intro l m q;induction q with |nil=>intro x hx;exact nomatch hx |@cons p q ps qs hq t ih=>
     intro x hx;rcases bB.mp hx with e|hx
     · subst e
       exact Gh ok (by rw[<-hq.1];exact hq.2.1)
     ·exact ih x hx
  exact all r x hx
theorem a7u{aG:List (List Key×V)}(ok:dc P w H h)(e:H a=some (.dT aG)):aG.length<=sizeLine/\(a==sysModules)=false/\∃xs,KT H aG xs/\h.DictOfH (tupleKind (ja P w)) a xs:=Iv ok (.inl e)
end
def tH(H:Hp)(a:Addr)(y:V)(r:Option V):Prop:=(∃aG k,Rd H a (.dK aG)/\y=kV k/\r=fE aG k)\/∃aG k b,Rd H a (.dT aG)/\y= .ref b/\H b=some (.tup (k.map kV))/\r=fE aG k
def qm(H:Hp)(a:Addr)(y v:V)(H':Hp):Prop:=(∃aG k,H a=some (.dK aG)/\y=kV k/\aG.length<sizeLine/\H'=upd H a (.dK (putK aG k v)))\/ ∃aG k b,H a=some (.dT aG)/\y= .ref b/\H b=some (.tup (k.map kV))/\aG.length<sizeLine/\H'=upd H a (.dT (putK aG k v))
theorem tH.k{H:Hp}{a:Addr}{aG:List (Key×V)}{k:Key}(e:H a=some (.dK aG)):tH H a (kV k) (fE aG k):=.inl ⟨aG,k,.inl e,rfl,rfl⟩
theorem qm.k{H:Hp}{a:Addr}{aG:List (Key×V)}{k:Key}{v:V}(e:H a=some (.dK aG))(hl:aG.length<sizeLine):qm H a (kV k) v (upd H a (.dK (putK aG k v))):=.inl ⟨aG,k,e,rfl,hl,rfl⟩
section
variable {X:Cx}{pins:List (Addr×Obj)}{σ:St}{H:Hp}{s:aaV}{a:Addr}{y v:V}{u r:Value}{o:Option V}{A:aaY}{E:Value->aaV->Prop}
theorem Inv.big(I:Inv X pins σ H s):sysModules<s.heap.objs.size:=by have h:mainGlobals<s.heap.objs.size:=(I.mod.glob.keeps I.bk).lt;exact Jy (by decide) h
theorem a7N{Q:Value->aaV->Prop}(hu:A.units+1<cLine)(I:Inv X pins σ H s)(g:tH H a y (some v))(ry:RelV y u)(h:∀w' s',Inv X pins σ H s'->RelV v w'->Q w' s'): wpAny (model X.prog X.w) A (getItem (.ref a) u) Q E s:=by
  rcases g with⟨aG,k,e,ey,l⟩|⟨aG,k,b,e,ey,eb,l⟩
  · subst ey
    obtain⟨z,hd,vs,rel,dd⟩:=Iz I.hok e;obtain⟨w',hw,iO⟩:=jh.some_of (v:=v) (o:=valueAt vs k) (by rw[l];exact rel.val k);exact wpAny_getItem_of (As ry) dd.mapOf hw (h w' _ (I.tok _) iO)
  · subst ey
    cases(show u=Value.ref b from ry);obtain⟨z,hd,xs,rel,dd⟩:=Iv I.hok e;obtain⟨w',hw,iO⟩:=jh.some_of (v:=v) (o:=(atKey xs k).map (·.2)) (by rw[l];exact rel.val k);obtain⟨p,hp,AF⟩:=Option.map_eq_some_iff.mp hw;refine wpAny_getItem_heap (tupleKind_room_in1 hu) (Gh I.hok eb) dd hp ?_;rw[AF];exact h w' _ (I.tok _) iO
theorem IC{h':Heap}{t':Nat}{ob:HO}(I:Inv X pins σ H s)(mu:yy (H a))(hs:Heap.SameBut a s.heap h')(he:∃q,h'.get? a=some q)(new:fk X.prog X.w (upd H a ob) h' a ob): Inv X pins σ (upd H a ob) {s with heap:=h',toks:=t'}:=I.write (x:=a) (e:=a) mu (.inl rfl) (fun b q hb z=>(hs.2 b hb).trans z) he new
theorem Ry{P:aaW}{w:World}{H':Hp}{h':Heap}{aG:List (Key×V)}{vs:List (Key×Value)}(z:aG.length<=sizeLine)(hd:(a==sysModules)=false)(rel:KV aG vs)(dd:h'.DictOf (ja P w) a vs): fk P w H' h' a (.dK aG):=⟨z,hd,vs,rel,dd⟩
theorem a7M{H':Hp}{Q:Unit->aaV->Prop}(hu:A.units+1<cLine)(I:Inv X pins σ H s)(g:qm H a y v H')(ry:RelV y u)(rv:RelV v r)(h:∀s',Inv X pins σ H' s'->Q () s'): wpAny (model X.prog X.w) A (setItem (.ref a) u r) Q E s:=by
  rcases g with⟨aG,k,e,ey,l,eH⟩|⟨aG,k,b,e,ey,eb,l,eH⟩
  · subst ey eH
    obtain⟨z,hd,vs,rel,dd⟩:=Rx I.hok e;have hz:vs.length<=sizeLine:=by rw[<-rel.length];exact z
    have hl:(putK aG k v).length<=sizeLine:=by have:=Am aG k v;lia
    refine wpAny_setItem_pairs (hsz:=hz) (As ry) dd fun h' mH hs=>h _ ?_;have he:∃q,h'.get? a=some q:=let⟨q,_,_,hq,_⟩:=mH;⟨q,hq⟩;exact IC I (by rw[e];exact True.intro) hs he (Ry hl hd (rel.put k rv) mH)
  · subst ey eH
    cases(show u=Value.ref b from ry);obtain⟨z,hd,xs,rel,dd⟩:=a7u I.hok e;have hz:xs.length<=sizeLine:=by rw[<-Paired.length rel];exact z
    have hl:(putK aG k v).length<=sizeLine:=by have:=Am aG k v;lia
    refine wpAny_setItem_heap (hsz:=hz) (tupleKind_room_in1 hu) (Gh I.hok eb) dd fun h' mH hs=>h _ ?_;obtain⟨q,es,ep,hq,h2,h3,h4,_,h5⟩:=mH;refine IC I (by rw[e];exact True.intro) hs ⟨q,hq⟩ ⟨hl,hd,_,(rel.put k eb rv).keeps fun c ys ec=>?_,q,es,ep,hq,h2,h3,h4,h5⟩;rw[aB (xq ec e (fun z=>nomatch z))];exact ec
end
section
variable {X:Cx}{pins:List (Addr×Obj)}{σ:St}{H:Hp}{s:aaV}{a:Addr}{aG:List (Key×V)}{k:Key}{u:Value}{A:aaY}{E:Value->aaV->Prop}
end
def Ja(i:Expr):Prop:=∀ov iv,subscripted i false ov iv=operate [ov,iv] (getItem ov iv)
theorem Xt{prog:aaW}{w:World}{A:aaY}{E:Value->aaV->Prop}{s:aaV}{env:Env}{value slice:Expr}{pos:Pos}{T id:String}{Q:Value->aaV->Prop} (hl:typeLookup (.type T) "__getitem__"=pure (some (.builtin id)))(hs:Ja slice) (h:wpAny (model prog w) A (eval value env) (fun o s₁=>wpAny (model prog w) A (eval slice env) (fun i s₂=>s₂.TypeIs o T/\wpAny (model prog w) A (getItem o i) Q E s₂) E s₁) E s): wpAny (model prog w) A (eval (.Subscript value slice pos) env) Q E s:=by
  refine Subscript_ (jk h (fun o s₁ h₁=>jk h₁ (fun i s₂ h₂=>?_) fun _ _ x=>x) fun _ _ x=>x);obtain⟨hT,h₂⟩:=h₂;unfold subscriptTail;refine aH ?_;rw[getitemInPython_of_ne hT.not_modules];refine aH (wpAny_specialOf hT hl ?_);have fin:wpAny (model prog w) A (subscripted slice false o i) (fun r s₃=>wpAny (model prog w) A (letTemporaryGo value o r>>=fun _=>pure r) Q E s₃) E s₂:=by rw[hs o i];exact wpAny_operating (jk h₂ (fun r s₃ h₃=>aH (wpAny_letTemporaryGo (bR h₃))) fun _ _ x=>x)
  first |exact bR (aH fin) |exact aH (bR (aH fin)) |exact aH fin
theorem a7H{X:Cx}{pins:List (Addr×Obj)}{σ:St}{H:Hp}{s:aaV}{a:Addr}{y:V}{o:Option V}(I:Inv X pins σ H s)(g:tH H a y o):s.TypeIs (.ref a) "dict":=by
 rcases g with⟨aG,k,e,_,_⟩|⟨aG,k,b,e,_,_,_⟩
 · obtain⟨_,_,vs,_,dd⟩:=Iz I.hok e
   exact dd.typeIs
 · obtain⟨_,_,xs,_,dd⟩:=Iv I.hok e
   exact dd.typeIs
inductive Tf(Q:VK)(x:V)(y:V)(H2:Hp):Prop |mk (a:_)(v:_)(h0:x= .ref a)(h1:tH H2 a y (some v))(h2:Q v H2):Tf Q x y H2
def Kl(td ty:TE):TE:=fun σ H Q=>td σ H fun x H1=>ty σ H1 fun y H2=>Tf Q x y H2
inductive UK(D:Ends)(σ:St)(v:V)(x:V)(y:V)(H3:Hp):Prop |mk (a:_)(H4:_)(h0:x= .ref a)(h1:qm H3 a y v H4)(h2:D.nx σ H4):UK D σ v x y H3
def Yk(td ty tv:TE):TS:=fun D σ H=>tv σ H fun v H1=>td σ H1 fun x H2=>ty σ H2 fun y H3=>UK D σ v x y H3
section
variable {X:Cx}{o i e value:Expr}{pos pos' ny:Pos}{td ty tv:TE}
theorem a0a(hu:X.A.units+1<cLine)(ho:PE X o td)(hi:PE X i ty)(hs:Ja i):PE X (.Subscript o i pos) (Kl td ty):=by intro pins s σ H Q I h;refine Xt PySem.F.slot_dict_getitem.lookup hs (aM (ho pins s σ H _ I h) fun u s1 ⟨x,H1,I1,rx,q1⟩=>aM (hi pins s1 σ H1 _ I1 q1) fun iv s2 ⟨y,H2,I2,ry,a,v,ex,g,q2⟩=>?_);subst ex;obtain rfl:u=Value.ref a:=rx;exact⟨a7H I2 g,a7N hu I2 g ry fun w' s3 I3 iO=>⟨v,H2,I3,iO,q2⟩⟩
theorem fZ(hu:X.A.units+1<cLine)(ho:PE X o td)(hi:PE X i ty)(hv:PE X value tv)(hs:swapsWith value (some (.Subscript o i pos')) pos.line X.env=pure false): PS X (.Assign [.Subscript o i pos'] value pos) (Yk td ty tv):=by intro pins s σ H D I h;refine wpAny_Assign_Subscript (aM (hv pins s σ H _ I h) fun r s1 ⟨v,H1,I1,rv,q1⟩=>aM (ho pins s1 σ H1 _ I1 q1) fun u s2 ⟨x,H2,I2,rx,q2⟩=>aM (hi pins s2 σ H2 _ I2 q2) fun iv s3 ⟨y,H3,I3,ry,a,H4,ex,g,q3⟩=>?_) hs;subst ex;obtain rfl:u=Value.ref a:=rx;exact a7M hu I3 g ry rv fun s4 I4=>⟨σ,H4,I4,q3⟩
end
theorem a7E{P:aaW}{w:World}{H:Hp}(h:Heap)(hb:sysModules<h.objs.size):fk P w H (h.push {cls:=.type "dict",data:=.dict #[]}) h.objs.size (.dK []):=⟨fX _,BU.mpr (ek (fe hb)),[],.nil,Heap.DictOf.new h⟩
section
variable {X:Cx} {pos:Pos}
end
def Cy:List (TE×TE)->St->Hp->(List (V×V)->Hp->Prop)->Prop |[],_,H,Q=>Q [] H |(tk,tv)::r,σ,H,Q=>tk σ H fun x H1=>tv σ H1 fun y H2=>Cy r σ H2 fun ps H3=>Q ((x,y)::ps) H3
abbrev VV:List (V×V)->List (Value×Value)->Prop:=Paired fun p q=>RelV p.1 q.1/\RelV p.2 q.2
def BG(X:Cx)(pos:Pos)(keys:List (Option Expr))(values:List Expr)(nv:List (TE×TE)):Prop:=∀(pins:List (Addr×Obj))(s:aaV)(σ:St)(H:Hp)(Q:List (V×V)->Hp->Prop),Inv X pins σ H s->Cy nv σ H Q->wpAny (model X.prog X.w) X.A (evalPairs (pairTrees keys values X.env pos)) (fun vs s'=>∃ps H',Inv X pins σ H' s'/\VV ps vs/\Q ps H') X.xe s
theorem ZL{X:Cx}{pos:Pos}:BG X pos [] [] []:=fun pins s σ H Q I h=>pairTrees_nil_walk ⟨[],H,I,.nil,h⟩
theorem zV{X:Cx}{pos:Pos}{k v:Expr}{ks:List (Option Expr)}{vs:List Expr}{tk tv:TE}{nv:List (TE×TE)}(hk:PE X k tk)(hv:PE X v tv)(hr:BG X pos ks vs nv): BG X pos (some k::ks) (v::vs) ((tk,tv)::nv):=fun pins s σ H Q I h=>pairTrees_cons_walk (aM (hk pins s σ H _ I h) fun u s1 ⟨x,H1,I1,rx,q1⟩=>aM (hv pins s1 σ H1 _ I1 q1) fun w2 s2 ⟨y,H2,I2,ry,q2⟩=>aM (hr pins s2 σ H2 _ I2 q2) fun ws s3 ⟨ps,H3,I3,rel,q3⟩=>⟨(x,y)::ps,H3,I3,.cons ⟨rx,ry⟩ rel,q3⟩)
def pD(aG more:List (Key×V)):List (Key×V):=more.foldl (fun acc kv=>putK acc kv.1 kv.2) aG
theorem KV.merge:∀{more:List (Key×V)}{rs:List (Key×Value)}{aG:List (Key×V)}{vs:List (Key×Value)},KV more rs->KV aG vs->KV (pD aG more) (merged vs rs):=by intro more rs aG vs r;unfold KV at r;induction r generalizing aG vs with |nil=>intro q;exact q |@cons p q ps qs h t ih=>
   intro r0;have e:KV (putK aG p.1 p.2) (stored vs q.1 q.2):=by have:=r0.put p.1 h.2;rw[<-h.1];exact this
   exact ih e
theorem OU:∀(more aG:List (Key×V)),(pD aG more).length<=aG.length+more.length |[],aG=>by show aG.length<=aG.length+0;lia |p::r,aG=>by have h1:=OU r (putK aG p.1 p.2);have h2:=Am aG p.1 p.2;show(pD (putK aG p.1 p.2) r).length<=_;rw[jI];lia
theorem S7{P:aaW}{w:World}:∀{aG:List (Key×V)}{ws:List (Value×Value)},VV (aG.map fun kv=>(kV kv.1,kv.2)) ws->∃rs,Carries (ja P w) ws rs/\KV aG rs |[],_,r=>by rw[List.map_nil]at r;cases r;exact⟨[],True.intro,.nil⟩ |p::aG,_,r=>by rw[mY]at r;cases r with |@cons a b as bs h t=>obtain⟨rs,c,q⟩:=S7 (P:=P) (w:=w) t;obtain⟨b1,b2⟩:=b;exact⟨(p.1,b2)::rs,⟨As h.1,rfl,c⟩,.cons ⟨rfl,h.2⟩ q⟩
def Xe(nv:List (TE×TE)):TE:=fun σ H Q=>∀p,H p=none->Cy nv σ (upd H p (.dK [])) fun ps H2=>H2 p=some (.dK [])/\∃aG:List (Key×V),ps=aG.map (fun kv=>(kV kv.1,kv.2))/\aG.length<=15/\Q (.ref p) (upd H2 p (.dK (pD [] aG)))
theorem a09{X:Cx}{pos:Pos}{keys:List (Option Expr)}{values:List Expr}{nv:List (TE×TE)}(h:BG X pos keys values nv)(Hc:keys.all (·.isSome)=true)(hl:keys.length=values.length)(h0:keys≠[]) (Qh:keys.length<=15):PE X (.Dict keys values pos) (Xe nv):=by
  intro pins s σ H Q I q;have hn:=I.hok.fresh (bo s.heap.objs.size);have I1:=I.laid (a:=s.heap.objs.size) (o:=.dK []) (h':=s.heap.push {cls:=.type "dict",data:=.dict #[]}) (t':=s.toks) (fun _ _ q=>bW _ q) (bo _) (a7E s.heap I.big);refine wpAny_Dict_walk (knd:=ja X.prog X.w) Hc hl h0 Qh (aM (h pins _ σ _ _ I1 (q _ hn)) fun ws s2 ⟨ps,H2,I2,rel,e,aG,ep,lk,q2⟩=>?_);subst ep;obtain⟨rs,c,rk⟩:=S7 (P:=X.prog) (w:=X.w) rel;obtain⟨z,hd,vs0,r0,dd⟩:=Rx I2.hok e;cases r0;refine⟨rs,c,dd,fun h' mH hs=>⟨.ref s.heap.objs.size,_,?_,rfl,q2⟩⟩;have hz:(pD [] aG).length<=sizeLine:=by have h1:=OU aG [];rw[JG]at h1;rw[sizeLine_eq];lia
  have he:∃q,h'.get? s.heap.objs.size=some q:=let⟨q,_,_,hq,_⟩:=mH;⟨q,hq⟩;exact IC I2 (by rw[e];exact True.intro) hs he (Ry hz hd (rk.merge .nil) mH)
section
variable {X:Cx}{pins:List (Addr×Obj)}{σ:St}{H:Hp}{s:aaV}{a:Addr}{y d:V}{u r:Value}{o:Option V}{A:aaY}{E:Value->aaV->Prop}
end
section
variable {X:Cx}{o e f:Expr}{apos cm:Pos}{td ty tx:TE}
end
section
variable {X:Cx}{pins:List (Addr×Obj)}{σ:St}{H:Hp}{s:aaV}{a:Addr}{aG:List (Key×V)}{A:aaY}{E:Value->aaV->Prop}
end
section
variable {X:Cx}{pins:List (Addr×Obj)}{σ:St}{H:Hp}{s:aaV}{a:Addr}{y:V}{u:Value}{A:aaY}{E:Value->aaV->Prop}
end
end L2
namespace L2
open PySem PySem.Spec PyProof.Rows
section
variable {X:Cx}
end
theorem a6v{K:aaU}{mg:Str->Option Value}{x z:Str}{t:Tok}{h:Heap}(X:K.In h)(G:h.Ns mainGlobals mg)(a:PySem.W.nsIn K mainGlobals x=some (some (.str z t))):GV mg x (.str z):=⟨_,vR X G a,t,rfl⟩
end L2
set_option exponentiation.threshold 6000
namespace L2
open PySem PySem.Spec PyProof.Rows
section
variable {X:Cx}
theorem a8c:eV X (.type "str") (fun xs H Q=>(∃i,xs=[.int i]/\i.natAbs.log2<1920/\Q (.str (toString i)) H)\/∃z,xs=[.str z]/\Q (.str z) H):=by
 intro pins s σ H xs us Q I r h;rcases h with⟨i,rfl,hz,q⟩|⟨z,rfl,q⟩
 · obtain⟨u,rfl,t,rfl⟩:=vals1 r
   exact PySem.P.str_of_int hz ⟨.str _,H,I.tok _,⟨_,rfl⟩,q⟩
 · obtain⟨u,rfl,t,rfl⟩:=vals1 r
   exact PySem.P.str_of_str ⟨.str _,H,I,⟨_,rfl⟩,q⟩
theorem WA{i:Int}(h:i.natAbs<10^40):(Str.ofString (toString i)).length<=41:=by rw[PySem.ofString_length];exact int_text_length_le10 (k:=40) (by decide) h
theorem a3a{i:Int}(h:i.natAbs<10^40):i.natAbs.log2<1920:=by
 by_cases h0:i.natAbs=0
 ·rw[h0];decide
 ·exact(Nat.log2_lt h0).mpr (Jy h (by decide))
end
end L2
namespace Tu
open Ln
end Tu
namespace Pn
theorem OA(a b:Rat):mn a b=mn b a:=BW (ku (jP _ _) (g9 _ _)) (ku (jP _ _) (g9 _ _))
section
variable {n:Nat}{own FC:Nat->Rat}{L L':Nat->Option Nat}{r f:Int}
end
end Pn
namespace Ow
open Pn Ln Cn Tu
end Ow
namespace L2
open PySem PySem.Spec PyProof.Rows
theorem a7I(f:Array Value->Array Value)(o:Obj):(o.mapFields f).dict=o.dict:=by obtain⟨c,d,dt,sl⟩:=o;cases dt<;>rfl
def TrD(h B:Heap)(ex:Addr)(cls:Value)(dx:Option Addr)(fl:Value):Prop:=∃ob fs tb ot ts,h.get? ex=some ob/\ob.cls=cls/\ob.dict=dx/\ob.data= .fields fs/\fs[1]? =some (.ref tb)/\B.get? tb=none/\tb≠ex/\h.get? tb=some ot/\ot.data= .fields ts/\ts[3]? =some fl
def jT(B:Heap)(l:List Env)(ex:Addr)(cls:Value)(dx:Option Addr)(fl:Value)(h:Heap):Prop:=B.StaysIn h/\B.get? ex=none/\h.FunFrames B l/\TrD h B ex cls dx fl
theorem jT.there{B h:Heap}{l:List Env}{ex:Addr}{cls fl:Value}{dx:Option Addr}(x:jT B l ex cls dx fl h):∃ob,h.get? ex=some ob/\ob.cls=cls/\ob.dict=dx/\∃fs,ob.data= .fields fs:=by obtain⟨_,_,_,ob,fs,_,_,_,e,c,d,z,_⟩:=x;exact⟨ob,e,c,d,fs,z⟩
section
variable {M:Model}{A:aaY}{E:Value->aaV->Prop}{s:aaV}{B:Heap}{env:Env}{outer:List Env}{L ex:Addr}{ob:Obj}{fs:Array Value}{head:Value}{nx:Bool}{Q:Unit->aaV->Prop}{cls fl:Value}{dx:Option Addr}
theorem QS(hA:A.frames=some (env::outer))(ff:s.heap.FunFrames B (env::outer))(hL:env.frame=some L)(ho:s.heap.get? ex=some ob)(st:B.StaysIn s.heap)(hB:B.get? ex=none)(hd:ob.data= .fields fs)(hz:1<fs.size) (q:∀h',jT B (env::outer) ex ob.cls ob.dict (rawInt L) h'->s.heap.UpToSlots h'->Q () {s with heap:=h'}): wpAny M A (do let a<-frameOf env;let pl<-entryPlaceOf L nx;let b<-EntryCells.newEntry head a .none (rawInt L) .none pl;setField (.ref ex) 1 b) Q E s:=by
  have pC:ex∉(env::outer).filterMap (·.frame):=fun hm=>by obtain⟨_,o,e1,nf⟩:=ff.mem hm;rw[ho]at e1;cases e1;exact nf fs hd
  refine aH (wpAny_frameOf_fun hA ff hL fun g1 k1=>aH (wpAny_entryPlaceOf fun pl hp=>?_));unfold EntryCells.newEntry newFields;refine aH (oM ?_ (hp.sizeOk5 _ _ _ _ _));have o1:g1.get? ex=some ob:=(k1.2.1 ex pC).trans ho;have zw:B.StaysIn g1:=fun b o e=>(k1.2.1 b fun hm=>by rw[(ff.mem hm).1]at e;cases e).trans (st b o e);generalize hT:({cls:=.type "traceback",dict:=none,data:=.fields ([head,.ref L,.none,rawInt L,.none]++(if pl.isEmpty then List.replicate 6 Value.none else pl)).toArray}:Obj)=T;have o2:(g1.push T).get? ex=some ob:=bW T o1;refine BN o2 hd hz (q _ ?_ ?_);all_goals have ne:g1.objs.size≠ex:=C1 (cf o1)
  all_goals have keep:∀b o,b≠ex->g1.get? b=some o->((g1.push T).update ex (Obj.mapFields (·.setIfInBounds 1 (Value.ref g1.objs.size)))).get? b=some o:=fun b o nb e=>by rw[yR _ _ (ek nb)];exact bW _ e
  all_goals have pA:∀b o,s.heap.get? b=some o->(∀vs,o.data≠ .fields vs)->b≠ex:=fun b o e nf z=>by rw[z,ho]at e;cases e;exact nf fs hd
  · have d3:=C0 hd (·.setIfInBounds 1 (Value.ref g1.objs.size))
    have o3:=JO (Obj.mapFields (·.setIfInBounds 1 (Value.ref g1.objs.size))) o2 (VI d3);refine⟨fun b o e=>keep b o (fun z=>by rw[z,hB]at e;cases e) (zw b o e),hB,ff.of_keeps fun b o e nf=>?_,?_⟩
    · obtain⟨sl,e1⟩:=k1.2.2 b o e
      exact⟨_,keep b _ (pA b o e nf) e1,rfl⟩
    · refine⟨_,_,g1.objs.size,T,_,o3,Obj.cls_mapFields _ _,a7I _ _,d3,by simp[hz],zw.fresh,ne,?_,by rw[<-hT],?_⟩
      ·rw[yR _ _ (ek ne)];exact dP g1 (by rw[<-hT];rfl)
      ·first|(simp;done)|(rcases hp with rfl|⟨_,_,_,_,_,_,_,rfl⟩<;>simp)
  · intro b o e nf
    obtain⟨sl,e1⟩:=k1.2.2 b o e;exact⟨sl,keep b _ (pA b o e nf) e1⟩
theorem a2n(hA:A.frames=some (env::outer))(ff:s.heap.FunFrames B (env::outer))(hL:env.frame=some L)(ho:s.heap.get? ex=some ob)(st:B.StaysIn s.heap)(hB:B.get? ex=none)(hd:ob.data= .fields fs)(h1:fs[1]? =some .none) (q:∀h',jT B (env::outer) ex ob.cls ob.dict (rawInt L) h'->s.heap.UpToSlots h'->Q () {s with heap:=h'}):wpAny M A (noteFrame (.ref ex) env) Q E s:=by unfold noteFrame;simp only[hL];refine aH (iY ho hd h1 ?_);rw[aP (by decide)];exact QS hA ff hL ho st hB hd (JQ.mp h1).1 q
theorem Oc(hA:A.frames=some (env::outer))(hL:env.frame=some L)(x:jT B (env::outer) ex cls dx .none s.heap) (q:∀h',jT B (env::outer) ex cls dx (rawInt L) h'->s.heap.UpToSlots h'->Q () {s with heap:=h'}):wpAny M A (noteFrame (.ref ex) env) Q E s:=by
  obtain⟨st,hB,ff,ob,fs,tb,ot,ts,ho,rfl,rfl,hd,h1,B5,nt,ht,pM,h3⟩:=x;unfold noteFrame;simp only[hL];refine aH (iY ho hd h1 ?_);rw[aO (show(Value.ref tb !=Value.none)=true from by simp)];refine aH (iY ht pM h3 ?_);rw[aP (show¬((Value.none==rawInt L)=true)from by simp[rawInt])];refine aH (BN ht pM (JQ.mp h3).1 ?_);have other:∀b,b≠tb->(s.heap.update tb (Obj.mapFields (·.setIfInBounds 3 Value.none))).get? b=s.heap.get? b:=fun b nb=>yR _ _ (ek nb);have pA:∀b o,s.heap.get? b=some o->(∀vs,o.data≠ .fields vs)->b≠tb:=fun b o e nf z=>by rw[z,ht]at e;cases e;exact nf ts pM
  refine QS (s:={s with heap:=s.heap.update tb (Obj.mapFields (·.setIfInBounds 3 Value.none))}) hA (ff.of_keeps fun b o e nf=>⟨o,(other b (pA b o e nf)).trans e,rfl⟩) hL ((other ex (ek nt)).trans ho) (fun b o e=>(other b fun z=>by rw[z,B5]at e;cases e).trans (st b o e)) hB hd (JQ.mp h1).1 fun h' y up=>q h' y fun b o e nf=>up b o ((other b (pA b o e nf)).trans e) nf
theorem Bb{l:List Env}(x:jT B l ex cls dx fl s.heap)(q:∀h',jT B l ex cls dx .none h'->s.heap.UpToSlots h'->Q () {s with heap:=h'}):wpAny M A (setFlight (.ref ex) none) Q E s:=by
 obtain⟨st,hB,ff,ob,fs,tb,ot,ts,ho,hc,hx,hd,h1,B5,nt,ht,pM,h3⟩:=x;have z3:3<ts.size:=(JQ.mp h3).1;have other:∀b,b≠tb->(s.heap.update tb (Obj.mapFields (·.setIfInBounds 3 ((none:Option Addr).elim Value.none fun f=>rawInt f)))).get? b=s.heap.get? b:=fun b nb=>yR _ _ (ek nb);have pA:∀b o,s.heap.get? b=some o->(∀vs,o.data≠ .fields vs)->b≠tb:=fun b o e nf z=>by rw[z,ht]at e;cases e;exact nf ts pM
 unfold setFlight;refine aH (iY ho hd h1 ?_);rw[aO (show(Value.ref tb !=Value.none)=true from by simp)];refine BN ht pM z3 (q _ ⟨fun b o e=>(other b fun z=>by rw[z,B5]at e;cases e).trans (st b o e),hB,ff.of_keeps fun b o e nf=>⟨o,(other b (pA b o e nf)).trans e,rfl⟩,?_⟩ fun b o e nf=>⟨o.slots,(other b (pA b o e nf)).trans e⟩);exact⟨ob,fs,tb,_,_,(other ex (ek nt)).trans ho,hc,hx,hd,h1,B5,nt,JO _ ht (VI (C0 pM _)),C0 pM _,by simp[z3]⟩
theorem a3i(hA:A.frames=some (env::outer))(ff:s.heap.FunFrames B (env::outer))(hL:env.frame=some L)(ho:s.heap.get? ex=some ob)(st:B.StaysIn s.heap)(hB:B.get? ex=none)(hd:ob.data= .fields fs)(h1:fs[1]? =some .none) (q:∀h',jT B outer ex ob.cls ob.dict .none h'->s.heap.UpToSlots h'->Q () {s with heap:=h'}):wpAny M A (leaving env (.ref ex)) Q E s:=by unfold leaving;refine aH (a2n hA ff hL ho st hB hd h1 fun h1 x1 u1=>Bb x1 fun h2 x2 u2=>q h2 ?_ (u1.trans u2));obtain⟨a,b,⟨_,_,c⟩,d⟩:=x2;exact⟨a,b,c,d⟩
theorem a3h(hA:A.frames=some (env::outer))(hL:env.frame=some L)(x:jT B (env::outer) ex cls dx .none s.heap) (q:∀h',jT B outer ex cls dx .none h'->s.heap.UpToSlots h'->Q () {s with heap:=h'}):wpAny M A (leaving env (.ref ex)) Q E s:=by unfold leaving;refine aH (Oc hA hL x fun h1 x1 u1=>Bb x1 fun h2 x2 u2=>q h2 ?_ (u1.trans u2));obtain⟨a,b,⟨_,_,c⟩,d⟩:=x2;exact⟨a,b,c,d⟩
end
end L2
namespace L2
open PySem PySem.Spec PyProof.Rows
open Builtin Builtin.ObjectAttr
section
variable {prog:aaW}{w:World}{A:aaY}{E:Value->aaV->Prop}{s:aaV}{K:aaU}{x C:Addr}{ox:Obj}{fs:Array Value}{name:Str}{v:Value}{Q:Unit->aaV->Prop}
end
end L2
namespace L2
open PySem PySem.Spec PyProof.Rows
section
variable {X:Cx}{o e value:Expr}{f:Str}{pos pos' ny:Pos}{ta tv:TE}
end
end L2
namespace L2
open PySem PySem.Spec PyProof.Rows
section
variable {prog:aaW}{w:World}{A:aaY}{E:Value->aaV->Prop}{h:Heap}{g:Array GenState}{d:Drawn}{t:Nat}{os:OsState}
variable {nm q:Str}{C N fI:Addr}{bs bm lQ:List Value}{hdct:Bool}{sn:List Str}{sub:List Value}{ab:Bool}{col:Option Bool}{dd:Option Addr}{k0 k1 k2 k3 k5:Option Value}{B newId Gp:String}{mN:Str->Option Value}{rest:List Value}{oI:Obj}
end
section
variable {M:Model}{A:aaY}{E:Value->aaV->Prop}{env:Env}{nm q:Str}{C N:Addr}{bs bm:List Value}{hdct:Bool}{sn:List Str}{sub:List Value}{ab:Bool}{col:Option Bool}{dd:Option Addr}{k0 k1 k2 k3 k5:Option Value}{newId:String}
end
end L2
namespace L2
open PySem PySem.Spec PyProof.Rows
def jG(P:aaW)(w:World):jH:=fun outer H s E e s'=>∃(ex:Addr)(cls:Value)(dx:Option Addr)(H':Hp)(B:Heap),e= .ref ex/\s'.os=s.os/\AllBare s'.gens/\jT B outer ex cls dx .none s'.heap/\Fl P w outer H s.heap ex H' B s'.heap/\E cls dx H'
section
variable {P:aaW}{w:World}{K:aaU}{mg:Str->Option Value}{base:Heap}{N:List Str}{qual:Str}{scope:Scope}{f:Addr}{cd:Value}{A:aaY}{outer:List Env}{s:aaV}{H:Hp}{E:XK}{pins:List (Addr×Obj)}{σ:St}{H1:Hp}{s1:aaV}{ex:Addr}{C:Addr}{dx:Addr}
end
end L2
namespace L2
open PySem PySem.Spec PyProof.Rows
section
variable {X:Cx}{x:Str}{C fI:Addr}{lQ:List Value}{newId Gp B:String}{e:Expr}{t:TA}{np cm pos:Pos}{k:Nat}{fd:FuncData}{ps:List Str}{sp:Sp}
end
end L2
namespace L2
open PySem PySem.Spec PyProof.Rows
def mV(ex:Addr)(cls:Value)(dx:Option Addr)(h:Heap):Prop:=∃o,h.get? ex=some o/\o.cls=cls/\o.dict=dx/\∃fs,o.data= .fields fs
def ClsAt(K:aaU)(C:Addr):Prop:=∀h,K.In h->∃nm q N bs tl hdct sn sub ab col dd k0 k1 k2 k3 k5 newId,h.get? C=some (excClassObj nm q C N bs tl hdct sn sub ab col dd k0 k1 k2 k3 k5 newId)
theorem Exc.cls{K:aaU}{mg:Str->Option Value}{x:Str}{C:Addr}{lQ:List Value}{newId:String}(e:Exc K mg x C lQ newId):ClsAt K C:=fun h X=>by obtain⟨tl,N,nm,q,bs,hdct,sn,sub,ab,col,dd,k0,k1,k2,k3,k5,mN,hC,_⟩:=(e.own X).obj;exact⟨nm,q,N,bs,tl,hdct,sn,sub,ab,col,dd,k0,k1,k2,k3,k5,newId,hC⟩
inductive T5(i:Nat)(Cs:Addr->Prop)(tb:XK->TS)(th:TS)(D:Ends)(σ:St)(H:Hp):Prop |mk (E:XK)(h0:tb E D σ H)(h1:(∀cls dx H',E cls dx H'->∃C,cls= .ref C/\Cs C))(h2:∀(C ex:Addr)(dx:Option Addr)(σ':St)(H':Hp),σ'.length=σ.length->E (.ref C) dx H'->H' ex=none->th {nx:=fun σ2 H2=>D.nx (σ2.set i none) H2,rt:=D.rt,bk:=fun σ2 H2=>D.bk (σ2.set i none) H2,ct:=fun σ2 H2=>D.ct (σ2.set i none) H2} (σ'.set i (some (.ref ex))) (upd H' ex (.ext (mV ex (.ref C) dx)))):T5 i Cs tb th D σ H
def WW(i:Nat)(Cs:Addr->Prop)(tb:XK->TS)(th:TS):TS:=fun D σ H=>T5 i Cs tb th D σ H
section
variable {X:Cx}{i:Nat}{n y:Str}{Dc:Addr}{IK:List Value}{newD:String}{body zr:List Stmt}{b0:Stmt}{np rS pos:Pos}{tb:XK->TS}{th:TS}{Cs:Addr->Prop}
theorem ZH(gz:X.stack=X.env::X.outer)(hfr:X.env.frame=some X.env.locals)(hN:X.N.Nodup)(hi:X.N[i]? =some n)(hk:X.env.kindOf n=some .local)(hs:X.env.scope.names.lookup n=some .local) (hb:∀(E:XK)(xe:Value->aaV->Prop),Passes (jG X.prog X.w) (X.iM xe) E->gD (X.iM xe) body (tb E)) (hg:Gl X y)(hy:Exc X.K X.mg y Dc IK newD)(Hb:IK.contains (.type "BaseException")=true)(Hm:∀C,Cs C->ClsAt X.K C/\takes X.K C Dc) (hh:∀ex,gD (X.hand ex) (b0::zr) th)(iV:(y==("__debug__":Str))=false:=by decide): SV X (.Try body [.ExceptHandler (some (.Name y np)) (some n) (b0::zr) rS] [] [] pos) (WW i Cs tb th):=by
  intro s σ H D I h;obtain⟨E,hq,kZ,hth⟩:=h;refine wpAny_Try_except ?_;have ps:Passes (jG X.prog X.w) (X.iM fun e s₁=>wpAny (model X.prog X.w) X.A (noteFrame e X.env) (fun _ s₂=>wpAny (model X.prog X.w) X.A (setFlight e none) (fun _ s₃=>wpAny (model X.prog X.w) X.A (handleBy e X.env [.ExceptHandler (some (.Name y np)) (some n) (b0::zr) rS]) (SP X [] D) X.xe s₃) X.xe s₂) X.xe s₁) E:=by
   intro Fu σ' H1 s1 ev s2 I1 hx;obtain⟨ex,cls,dx,H',B,rfl,ho,PQ,ou,F,hE⟩:=hx;obtain⟨C,rfl,hC⟩:=kZ cls dx H' hE;have I0:Inv X [] σ' H1 s1:=I1.lW.a8A;obtain⟨AF,g2,d2,t2,o2⟩:=s2;have a6N:jT B (X.env::X.outer) ex (.ref C) dx .none AF:=by rw[<-gz];exact ou
   have hA:X.A.frames=some (X.env::X.outer):=by rw[<-gz];exact I0.ok.frames
   refine Oc (s:=⟨AF,g2,d2,t2,o2⟩) hA hfr a6N fun h4 AS Wt=>?_;refine Bb AS fun h5 xZ Ws=>?_;have F4:=F.step ou.1 AS.1 Wt ou.2.2.1;have ff4:h4.FunFrames B X.stack:=by rw[gz];exact AS.2.2.1
   have F5:=F4.step AS.1 xZ.1 Ws ff4;have ff5:h5.FunFrames B X.stack:=by rw[gz];exact xZ.2.2.1
   have I5:Inv X [] σ' H' ⟨h5,g2,d2,t2,o2⟩:=I0.Bq (s':=⟨h5,g2,d2,t2,o2⟩) ho F5.un F5.hok PQ (fun b hb=>(cw hb).elim);refine wpAny_handleBy_cons (codeAny_handlers_test (uS (X:=X.hand ex) (I5.hand ex) hg hy.at' ?_ iV)) (by intro q;cases q);obtain⟨eC,tk⟩:=Hm C hC;obtain⟨nm,q,Nn,bs,tl,hdct,sn,sub,ab,col,dd,k0,k1,k2,k3,k5,nw,oC⟩:=eC _ I5.gb;obtain⟨tl',Nn',Oh,q',Sf,PX,Ls,Kp,SF,RU,mH,j0,j1,j2,j3,j5,mN',oD,aar,aab,TL'⟩:=(hy.own I5.gb).obj;obtain⟨ob,hob,a4G,_⟩:=xZ.there;have Gv:(Value.ref C::tl).contains (.ref Dc)=true:=by
    obtain⟨cd,ha,la⟩:=Option.bind_eq_some_iff.mp tk;split at la
    ·cases la
    · have hc:=dj la
      unfold PySem.W.clsIn at ha;split at ha
      · rename_i c1 c2 cd' c4 hl
        cases ha;have e1:=I5.gb _ _ hl;rw[show(Shared.heap ⟨h5,g2,d2,t2,o2⟩).get? C=some _ from oC]at e1;have e2:=dj e1;unfold excClassObj at e2;injection e2 with _ _ e3 _;injection e3 with e4;rw[<-e4]at hc;exact hc
      ·cases ha
   refine a74 oC oD hob a4G (TL'.hasType Hb) Gv ?_;refine codeAny_handlers_suite_as ?_;refine Bb (s:=⟨h5,g2,d2,t2,o2⟩) xZ fun h6 QC Wr=>?_;have F6:=F5.step xZ.1 QC.1 Wr ff5;have Wx:Un (cR X.stack) [] H1 (upd H' ex (.ext (mV ex (.ref C) dx))) s1.heap h6:=by
    have nb:∀b u,H' b=some u->b≠ex:=fun b u e z=>by rw[z,F6.ne]at e;cases e
    refine⟨F6.un.keep,F6.un.slot,fun b o e n hx=>?_,F6.un.there,fun b xs e=>?_,fun b o u e=>?_,fun b ps e=>?_⟩
    ·rw[aB (fun z=>by rw[z,F6.nw]at e;cases e)];exact F6.un.free b o e n hx
    ·have:=F6.un.tups b xs e;rw[aB (nb b _ this)];exact this
    ·have:=F6.un.frzs b o u e;rw[aB (nb b _ this)];exact this
    ·obtain⟨more,e1⟩:=F6.un.tbls b ps e;exact⟨more,by rw[aB (nb b _ e1)];exact e1⟩
   have a4E:dc X.prog X.w (upd H' ex (.ext (mV ex (.ref C) dx))) h6:=fun b u e=>by
    by_cases Q0:b=ex
    · subst Q0
      rw[aQ]at e;cases e;obtain⟨o6,e6,c6⟩:=QC.there;exact⟨⟨o6,e6,c6⟩,⟨o6,e6⟩,fun g1 g3 ⟨o7,e7,c7⟩ k=>⟨o7,k o7 e7,c7⟩⟩
    · rw[aB Q0]at e
      refine(F6.hok b u e).lB (fun c v hc q=>q) (fun c q=>?_) fun c xs q=>?_
      ·rw[aB (fun z=>by rw[z,F6.ne]at q;cases q)];exact q
      ·rw[aB (fun z=>by rw[z,F6.ne]at q;cases q)];exact q
   have I6:Inv X [] σ' (upd H' ex (.ext (mV ex (.ref C) dx))) ⟨h6,g2,d2,t2,o2⟩:=I0.Bq (s':=⟨h6,g2,d2,t2,o2⟩) ho Wx a4E PQ (fun b hb=>(cw hb).elim);refine u7 (X:=X.hand ex) (I6.hand ex) hN hi (.inl hs) (v:=.ref ex) rfl (fun s7 I7=>?_) (.inr hs);refine jk (hh ex [] s7 _ _ _ I7 (hth C ex dx σ' H' (I0.len.trans I.len.symm) hE F.ne)) (fun f s8 q=>?_) fun e s8 q=>False.elim q;have un:∀(σ2:St)(H2:Hp)(Q:Unit->aaV->Prop),Inv (X.hand ex) [] σ2 H2 s8->(∀s9,Inv X [] (σ2.set i none) H2 s9->Q () s9)->wpAny (model X.prog X.w) X.A (do bindName X.env n .none;unbindBehindTheSuite X.env n rS) Q X.xe s8:=fun σ2 H2 Q I8 hq=>by
    have Vq:=I8.back I0.ok;have bV:i<σ2.length:=by rw[Vq.len];exact(dh.mp hi).1
    unfold bindName;refine aH (aH (tK (wpAny_point (aH (u7 Vq hN hi (.inl hs) (v:=.aY) rfl (fun s9 I9=>wpAny_point ?_) (.inr hs))))));refine Wv I9 hN hi hk hs (v:=.aY) (yN bV) fun m7 vN=>hq m7 ?_;rw[JD]at vN;exact vN
   cases f with |next=>obtain⟨σ2,H2,I8,dq⟩:=q;exact un σ2 H2 _ I8 fun s9 I9=>⟨_,H2,I9,dq⟩ |brk=>obtain⟨σ2,H2,I8,dq⟩:=q;exact un σ2 H2 _ I8 fun s9 I9=>⟨_,H2,I9,dq⟩ |cont=>obtain⟨σ2,H2,I8,dq⟩:=q;exact un σ2 H2 _ I8 fun s9 I9=>⟨_,H2,I9,dq⟩ |ret u=>obtain⟨v,σ2,H2,I8,r8,dq⟩:=q;exact un σ2 H2 _ I8 fun s9 I9=>⟨v,_,H2,I9,r8,dq⟩
  refine jk (hb E _ ps [] s σ H D (I.iM _) hq) (fun f s1 q=>?_) fun e s1 q=>q;have q':=q.lW;cases f with |next=>exact yF q' |brk=>exact q' |cont=>exact q' |ret u=>exact q'
end
end L2
namespace L2
open PySem PySem.Spec PyProof.Rows PySem.W
section
variable {prog:aaW}{w:World}{A:aaY}{E:Value->aaV->Prop}{h:Heap}{g:Array GenState}{d:Drawn}{t:Nat}{os:OsState}{K:Frag}{x C:Addr}{ox:Obj}{od:Obj}{f:Str}{v:Value}
end
section
variable {X:Cx}{e:Expr}{f:Str}{pos:Pos}{ta:TE}
inductive V0(K:Frag)(xs:List V)(H:Hp)(Q:VK):Prop |mk (ex:Addr)(C:Addr)(dx:Option Addr)(c:V)(cv:Value)(b:Bool)(h0:xs=[.ref ex,c])(h1:H ex=some (.ext (mV ex (.ref C) dx)))(h2:mU K C)(h3:a88 c=some cv)(h4:kitOne K (.ref C) cv=some b)(h5:Q (.bl b) H):V0 K xs H Q
def Zt(K:Frag):List V->Hp->VK->Prop:=fun xs H Q=>V0 K xs H Q
inductive UZ(K:Frag)(xs:List V)(H:Hp)(Q:VK):Prop |mk (ex:Addr)(C:Addr)(p:Addr)(dx:Option Addr)(Ds:List Addr)(b:Bool)(h0:xs=[.ref ex,.ref p])(h1:H ex=some (.ext (mV ex (.ref C) dx)))(h2:mU K C)(h3:H p=some (.tup (Ds.map V.ref)))(h4:kitAny K (.ref C) (Ds.map Value.ref)=some b)(h5:Q (.bl b) H):UZ K xs H Q
def Zs(K:Frag):List V->Hp->VK->Prop:=fun xs H Q=>UZ K xs H Q
theorem rL(K:Frag)(hK:X.K=K):eV X (.builtin "isinstance") (fun xs H Q=>Zt K xs H Q\/Zs K xs H Q):=by
 subst hK;intro pins s σ H xs us Q I r h;rcases h with⟨ex,C,dx,c,cv,b,rfl,he,k,hc,kb,q⟩|⟨ex,C,p,dx,Ds,b,rfl,he,k,hp,kb,q⟩
 · obtain⟨u,v,rfl,rx,rc⟩:=vals2 r
   cases(show u=Value.ref ex from rx);have hv:v=cv:=by cases c with |ref D=>cases(show v=Value.ref D from rc);exact dj hc |ty n=>cases(show v=Value.type n from rc);exact dj hc |_=>cases hc
   subst hv;obtain⟨o,o1,o2,_⟩:=(I.hok ex _ he).1;exact kia_one (P5 k) I.gb ⟨o,o1,o2⟩ kb (fun z=>nomatch z) fun tk=>⟨.bl b,H,I.tok _,rfl,q⟩
 · obtain⟨u,v,rfl,rx,rc⟩:=vals2 r
   cases(show u=Value.ref ex from rx);cases(show v=Value.ref p from rc);obtain⟨o,o1,o2,_⟩:=(I.hok ex _ he).1;obtain⟨_,its,rv,⟨cls,dd,dt,sl⟩,h1,h2,n,h3⟩:=(show fk X.prog X.w H s.heap p (.tup (Ds.map V.ref))from I.hok p _ hp);simp only at h2 h3;subst h2 h3;have e:=JW rv;subst e;exact kia_tup (P5 k) I.gb ⟨o,o1,o2⟩ h1 kb (fun z=>nomatch z) fun tk=>⟨.bl b,H,I.tok _,rfl,q⟩
end
end L2
namespace L2
open PySem PySem.Spec PyProof.Rows
section
variable {X:Cx}{k:Nat}{x:Str}{p pos:Pos}{e:Expr}{es:List Expr}{t:TA}{sp:Sp}
end
end L2
namespace L2
open PySem PySem.Spec PyProof.Rows
section
variable {P:aaW}{w:World}{K:aaU}{mg:Str->Option Value}{base:Heap}{N:List Str}{qual:Str}{scope:Scope}{f:Addr}{cd:Value}{A:aaY}{outer:List Env}{s:aaV}{H:Hp}{E E0:XK}
end
end L2
namespace L2
open PySem PySem.Spec PyProof.Rows
open Builtin Builtin.ObjectAttr
section
variable {prog:aaW}{w:World}{A:aaY}{E:Value->aaV->Prop}{s:aaV}{K:aaU}{x C dx:Addr}{ox:Obj}{fs:Array Value}{name:Str}{v:Value}{Q:Unit->aaV->Prop}{mA:Str->Option Value}{ks:List Str}
end
section
variable {X:Cx}{o e value:Expr}{f:Str}{pos pos' ny:Pos}{ta tv:TE}
end
end L2
namespace L2
open PySem PySem.Spec PyProof.Rows
def BJ(P:aaW)(w:World)(K:aaU)(mg:Str->Option Value)(base:Heap)(C:Addr)(m:Str)(k:Nat)(sp:Sp):Prop:=∃f fd ps,iK P w K mg base (jG P w) k f fd ps sp/\Meth K C m f/\Binds K fd ps []
section
variable {P:aaW}{w:World}{K:aaU}{mg:Str->Option Value}{base:Heap}
theorem jE.okD{m qual:Str}{st:Stmt}{f:Addr}{fd:FuncData}{N ps:List Str}{k:Nat}{sp:Sp}(F:jE K m qual st f fd)(S:aW N ps (aK st))(len:∀vs H Q E,sp vs H Q E->vs.length=ps.length) (ie:∀(aD:Value)(A:aaY)(outer:List Env)(s:aaV)(H:Hp)(vs:List V)(Q:VK)(E:XK),cu k (A.deeper (envOfC qual (aK st) s.heap.objs.size f aD))->sp vs H Q E->∃t,gD (iJ (jG P w) P w K mg base N qual (aK st) f aD A outer s H E) (gd st) t/\t {nx:=fun _ H'=>Q .aY H',rt:=Q} (start N vs) H):iK P w K mg base (jG P w) (k+1) f fd ps sp:=by obtain⟨oc,od,kV,doc,pm,an,aD,ct,fP,rfl,lk,gA⟩:=F.ex;exact Hx lk gA S len fun A outer s H vs Q E hr iT=>ie aD A outer s H vs Q E hr iT
theorem MA.a5w{C:Addr}{m qual:Str}{st:Stmt}{N ps:List Str}{k:Nat}{sp:Sp}(F:MA K C m qual st)(S:aW N ps (aK st))(len:∀vs H Q E,sp vs H Q E->vs.length=ps.length) (hb:∀(kV doc pm:Value)(an:Option Addr)(aD ct:Value)(us:List Value),us.length=ps.length->bindArgs (PySem.W.fnOf m qual (jB st) (gd st) (aK st) .none kV doc pm an aD ct) ⟨us,[]⟩=pure (ps.zip us)) (ie:∀(f:Addr)(aD:Value)(A:aaY)(outer:List Env)(s:aaV)(H:Hp)(vs:List V)(Q:VK)(E:XK),cu k (A.deeper (envOfC qual (aK st) s.heap.objs.size f aD))->sp vs H Q E->∃t,gD (iJ (jG P w) P w K mg base N qual (aK st) f aD A outer s H E) (gd st) t/\t {nx:=fun _ H'=>Q .aY H',rt:=Q} (start N vs) H):BJ P w K mg base C m (k+1) sp:=by obtain⟨f,fd,hm,F⟩:=F.ex;exact⟨f,fd,ps,F.okD S len fun aD A outer s H vs Q E=>ie f aD A outer s H vs Q E,hm,F.binds hb⟩
end
section
variable {X:Cx}{k:Nat}{x m:Str}{C:Addr}{p pos apos:Pos}{o e:Expr}{es:List Expr}{t:TA}{ta:TE}{sp:Sp}{E:XK}
inductive Je(C:Addr)(m:Str)(sp:Sp)(E:XK)(t:TA)(σ:St)(Q:VK)(x:V)(H1:Hp):Prop |mk (a:Addr)(dx:Addr)(fs:List (Str×V))(h0:x= .ref a)(h1:H1 a=some (.ins C dx fs))(h2:fs.lookup m=none)(h3:t σ H1 fun vs H2=>sp (x::vs) H2 Q E):Je C m sp E t σ Q x H1
def CB(C:Addr)(m:Str)(sp:Sp)(E:XK)(ta:TE)(t:TA):TE:=fun σ H Q=>ta σ H fun x H1=>Je C m sp E t σ Q x H1
theorem a2L{σ:St}{Q:VK}{x:V}{H1:Hp}:tG C m sp [] E t σ Q x H1=Je C m sp E t σ Q x H1:=by
 have e1:(fun(vs:List V) H1=>sp (x::(vs++[])) H1 Q E)=fun vs H1=>sp (x::vs) H1 Q E:=by funext vs H1;rw[C9]
 refine propext ⟨fun⟨a,dx,fs,h0,h1,h2,h3⟩=>⟨a,dx,fs,h0,h1,h2,?_⟩,fun⟨a,dx,fs,h0,h1,h2,h3⟩=>⟨a,dx,fs,h0,h1,h2,?_⟩⟩
 ·rw[<-e1];exact h3
 ·rw[e1];exact h3
theorem a03{pl:Sem Bool}(F:BJ X.prog X.w X.K X.mg X.base C m k sp)(hp:Passes (jG X.prog X.w) X E)(c:jF X.K C)(hr:cu k X.A)(he:PE X o ta)(ha:PA X (e::es) t) (gz:starEach (e::es) X.env=(false,eval e X.env)::starEach es X.env:=by rfl)(fR:(backTo pos (starEach es X.env)).any (·.1)=false:=by rfl) (ht:eval (.Call (.Attribute o m apos) (e::es) [] pos) X.env=(do
     let ov<-eval o X.env
     standAt apos.atName
     let(f,first)<-holding [ov] (getMethod ov m pl)
     callWith pos f first (backTo pos (starEach (e::es) X.env)) (backToKw pos (keywordEach [] X.env))):=by rfl): PE X (.Call (.Attribute o m apos) (e::es) [] pos) (CB C m sp E ta t):=by
  obtain⟨f,fd,ps,F,hm,hb⟩:=F;have h:=NI (pos:=pos) (apos:=apos) (pl:=pl) he c hm F hr hb .nil hp ha gz fR ht;intro pins s σ H Q I hq;refine h pins s σ H Q I ?_;show ta σ H fun x H1=>tG C m sp [] E t σ Q x H1;simp only[a2L];exact hq
end
end L2
namespace L2
open PySem PySem.Spec PyProof.Rows SeqAt
section
variable {X:Cx}{k:Nat}{x:Str}{p pos:Pos}{e:Expr}{es:List Expr}{t:TA}{sp:Sp}{E:XK}
end
section
variable {X:Cx}
theorem Ce:∀{bs:List Bool}{us:List Value},Vals (bs.map V.bl) us->us=bs.map Value.bool |[],_,.nil=>rfl |b::bs,_,.cons q r=>by cases(show _=Value.bool b from q);rw[Ce r];rfl
def rM:Value->Bool | .bool b=>b |_=>false
theorem QP{bs:List Bool}(A:aaY)(s:aaV):∀y,y∈(bs.map Value.bool).toArray->EqAt A s y (.bool true) (rM y):=fun y hy=>by obtain⟨b,_,rfl⟩:=jn.mp (List.mem_toArray.mp hy);have:=EqAt.bool_bool (A:=A) (s:=s) b true;cases b<;>exact this
theorem a7T(bs:List Bool):(bs.map Value.bool).countP rM=bs.count true:=by induction bs with |nil=>rfl |cons b r ih=>cases b<;>simp[List.countP_cons,rM,ih,List.count_cons]
inductive Jh(K:aaU)(x:V)(vs:List V)(H:Hp)(Q:VK):Prop |mk (l:Addr)(bs:List Bool)(h0:x= .ref l)(h1:vs=[.bl true])(h2:au K H l (bs.map V.bl))(h3:Q (.int (bs.count true:Nat)) H):Jh K x vs H Q
theorem a2M(K:aaU)(hK:X.K=K):BI X "list.count" (fun x vs H Q=>Jh K x vs H Q):=by subst hK;intro pins s σ H x vs v us Q I rx rv h;obtain⟨l,bs,rfl,rfl,hl,q⟩:=h;cases rx;obtain⟨u,rfl,ru⟩:=vals1 rv;cases(show u=Value.bool true from ru);obtain⟨its,r,pl,_⟩:=I.list hl;rw[Ce r]at pl;obtain⟨⟨cls,dd,data,sl⟩,ho,hc,n,hd⟩:=id pl.isList;simp only at hc hd;subst hc hd;refine yJ PySem.F.slot_list_count ⟨_,ho,rfl⟩ PySem.F.entry_list_count (PySem.F.args_list_count_2 _ _) (list_countAt l _ n dd sl (.bool true) rM) ⟨ho,QP _ _,?_⟩;rw[show(bs.map Value.bool).toArray.toList=bs.map Value.bool from rfl,a7T];exact⟨.int _,H,I.tok _,⟨_,rfl⟩,q⟩
inductive Jg(K:aaU)(x:V)(vs:List V)(H:Hp)(Q:VK):Prop |mk (l:Addr)(bs:List Bool)(j:Nat)(h0:x= .ref l)(h1:vs=[.bl true])(h2:au K H l (bs.map V.bl))(h3:bs[j]? =some true)(h4:∀m,m<j->bs[m]? =some false)(h5:j<1000)(h6:Q (.int (j:Nat)) H):Jg K x vs H Q
theorem a2K(K:aaU)(hK:X.K=K):BI X "list.index" (fun x vs H Q=>Jg K x vs H Q):=by
 subst hK;intro pins s σ H x vs v us Q I rx rv h;obtain⟨l,bs,j,rfl,rfl,hl,hj,hm,aat,q⟩:=h;cases rx;obtain⟨u,rfl,ru⟩:=vals1 rv;cases(show u=Value.bool true from ru);obtain⟨its,r,pl,_⟩:=I.list hl;rw[Ce r]at pl;obtain⟨⟨cls,dd,data,sl⟩,ho,hc,n,hd⟩:=id pl.isList;simp only at hc hd;subst hc hd;have PK:=(dh.mp hj);obtain⟨hj1,oa⟩:=PK;refine yJ PySem.F.slot_list_index ⟨_,ho,rfl⟩ PySem.F.entry_list_index (PySem.F.args_list_index_2 _ _) (list_indexAt l _ n dd sl (.bool true) rM j (by simpa using hj1) (by lia) ?_ (fun m hm1 AL=>?_)) ⟨ho,QP _ _,⟨.int _,H,I.tok _,⟨_,rfl⟩,q⟩⟩
 ·simp[oa,rM]
 · have:=hm m AL
   obtain⟨h1,h2⟩:=dh.mp this;simp[h2,rM]
theorem a0f(K:aaU)(h:X.K=K){o e:Expr}{to:TE}{t:TA}{apos cm:Pos}(ho:PE X o to)(ha:PA X [e] t) (kD:attributeBase o "count" X.env (eval o X.env)=eval o X.env:=by rfl) (kB:((backTo cm (starEach [e] X.env)).all (fun x=>!x.1)&&(backToKw cm (keywordEach [] X.env)).all (fun x=>x.1.isSome) &&decide ([e].length+([]:List Keyword).length+(if([]:List Keyword).isEmpty then 0 else 1)<30))=true:=by rfl) (kA:(apos.endLine==cm.line)=true:=by rfl)(hs:starEach [e] X.env=(false,eval e X.env)::starEach [] X.env:=by rfl)(kx:(backTo cm (starEach [] X.env)).any (·.1)=false:=by rfl): PE X (.Call (.Attribute o "count" apos) [e] [] cm) (qF K "list" (fun x vs H Q=>Jh K x vs H Q) to t):=by subst h;exact ux BX PySem.F.slot_list_count PySem.F.type_list_count (a2M X.K rfl) ho ha kD kB kA hs kx
theorem a0d(K:aaU)(h:X.K=K){o e:Expr}{to:TE}{t:TA}{apos cm:Pos}(ho:PE X o to)(ha:PA X [e] t) (kD:attributeBase o "index" X.env (eval o X.env)=eval o X.env:=by rfl) (kB:((backTo cm (starEach [e] X.env)).all (fun x=>!x.1)&&(backToKw cm (keywordEach [] X.env)).all (fun x=>x.1.isSome) &&decide ([e].length+([]:List Keyword).length+(if([]:List Keyword).isEmpty then 0 else 1)<30))=true:=by rfl) (kA:(apos.endLine==cm.line)=true:=by rfl)(hs:starEach [e] X.env=(false,eval e X.env)::starEach [] X.env:=by rfl)(kx:(backTo cm (starEach [] X.env)).any (·.1)=false:=by rfl): PE X (.Call (.Attribute o "index" apos) [e] [] cm) (qF K "list" (fun x vs H Q=>Jg K x vs H Q) to t):=by subst h;exact ux BX PySem.F.slot_list_index PySem.F.type_list_index (a2K X.K rfl) ho ha kD kB kA hs kx
end
end L2
namespace L2
open PySem PySem.Spec PyProof.Rows PySem.W
abbrev tD:=List Env->aaV->Sp
structure Vt(P:aaW)(w:World)(K:Frag)(mg:Str->Option Value)(base:Heap)(CX:jH)(k:Nat)(f:Addr)(fd:FuncData)(ps:List Str)(sp:tD):Prop where
 len:∀outer s vs H Q E,sp outer s vs H Q E->vs.length=ps.length
 run:∀(A:aaY)(outer:List Env)(s:aaV)(H:Hp)(args:Args)(us:List Value)(vs:List V)(Q:VK)(E:XK),cu k A->mW P w K mg base A outer s H->BindsTo s fd args (ps.zip us)->Vals vs us->sp outer s vs H Q E->codeAny (model P w) A (.call (.ref f) args) (CR CX outer P w H s Q E) s
theorem a6M{CX:jH}{P:aaW}{w:World}{K:Frag}{mg:Str->Option Value}{base:Heap}{k:Nat}{f:Addr}{name qual:Str}{params:Arguments}{body:List Stmt}{scope:Scope}{dV kV doc pm aD ct oc:Value}{an od:Option Addr}{fP:Array (Option Value)}{N ps:List Str}{sp:tD} (lk:K.lookup f=some ⟨oc,od,.func (fnOf name qual params body scope dV kV doc pm an aD ct),fP⟩)(gA:codeIn K aD qual=true)(S:aW N ps scope)(len:∀outer s vs H Q E,sp outer s vs H Q E->vs.length=ps.length) (ie:∀(A:aaY)(outer:List Env)(s:aaV)(H:Hp)(vs:List V)(Q:VK)(E:XK),cu k (A.deeper (envOfC qual scope s.heap.objs.size f aD))->sp outer s vs H Q E->∃t,yu (iJ CX P w K mg base N qual scope f aD A outer s H E) body t/\t {nx:=fun _ H'=>Q .aY H',rt:=Q} (start N vs) H): Vt P w K mg base CX (k+1) f (fnOf name qual params body scope dV kV doc pm an aD ct) ps sp:=by refine⟨len,fun A outer s H args us vs Q E hr e0 hb r iT=>?_⟩;have hl:=len _ _ _ _ _ _ iT;have KX:K.In s.heap:=e0.mod.kin.keeps fun b o e=>(e0.bs b o e).1;have lim:s.heap.NoLimit:=e0.mod.nolimit.keeps fun b o e=>(e0.bs b o e).1;refine codeAny_call_function hr.depth (KX _ _ lk) rfl S.co S.gen rfl (codeRec_of KX gA) (hb _ _ _ _ (wpAny_newFunctionEnv_cells S.kind (fun⟨n,v⟩ hy=>(S.par n (yL hy).1).imp id fun q=>⟨q,cellsFrom_some _ _ _ (.inl q)⟩) fun env he s1 x=>?_));subst he;obtain⟨t,ht,hq⟩:=ie A outer s H vs Q E (hr.deeper _) iT;have I:Inv (iJ CX P w K mg base N qual scope f aD A outer s H E) [] (start N vs) H s1:=Pg S hr.hd e0 hl r x;refine⟨lim.keeps x.toInCall.keep,codeAny_func (jk (ht s1 (start N vs) H _ I hq) (fun fl s' hs=>?_) fun e s' hs=>hs)⟩;have fin:∀{σ':St}{H':Hp}{v:V}{u:Value},Inv (iJ CX P w K mg base N qual scope f aD A outer s H E) [] σ' H' s'->RelV v u->Q v H'->CE outer P w H s Q u s':=fun{σ' H' v u} J rv q=>⟨v,H',J.os,J.bare,J.base,J.hok,rv,q⟩;cases fl with |ret u=>obtain⟨v,σ',H',J,rv,q⟩:=hs;exact fin J rv q |next=>obtain⟨σ',H',J,q⟩:=hs;exact fin (v:=V.aY) (u:=Value.none) J rfl q |brk=>obtain⟨_,_,_,q⟩:=hs;exact False.elim q |cont=>obtain⟨_,_,_,q⟩:=hs;exact False.elim q
def yB(P:aaW)(w:World)(K:Frag)(mg:Str->Option Value)(base:Heap)(x:Str)(k:Nat)(sp:tD):Prop:=∃f fd ps,Vt P w K mg base iX k f fd ps sp/\mg x=some (.ref f)/\keepIn K (.ref f)=true/\Binds K fd ps []
def jj(c:Addr)(q:Str)(h:Heap):Prop:=h.CodeRec (.ref c) q
theorem a86{P:aaW}{w:World}{H:Hp}{h:Heap}{c:Addr}{q:Str}(e:h.CodeRec (.ref c) q):fk P w H h c (.ext (jj c q)):=by obtain⟨c',o,vs,t,e1,e2,e3,e4⟩:=id e;cases e1;refine⟨e,⟨o,e2⟩,fun h1 h2 y k=>?_⟩;obtain⟨c2,o2,Wc,t2,y1,y2,y3,y4⟩:=y;cases y1;exact⟨c,o2,Wc,t2,rfl,k _ y2,y3,y4⟩
structure a95(H:Hp)(q:Str)(ps:Array Value):Prop where
 tr:TriplesOk ps.toList
 at':∀pos v,codeAmong pos ps.toList=some v->∃c,v= .ref c/\H c=some (.ext (jj c q))
def TabAt(H:Hp)(T:Addr)(q:Str):Prop:=∃ps,H T=some (.eG ps)/\a95 H q ps
theorem TabAt.first{H:Hp}{T:Addr}{q:Str}(h:H T=some (.eG #[])):TabAt H T q:=⟨#[],h,trivial,fun pos v e=>by rw[Jm]at e;cases e⟩
theorem TabAt.keep{H H':Hp}{T:Addr}{q:Str}(h:TabAt H T q)(e1:∀ps,H T=some (.eG ps)->H' T=some (.eG ps))(e2:∀b φ,H b=some (.ext φ)->H' b=some (.ext φ)):TabAt H' T q:=by obtain⟨ps,e,tr,ha⟩:=h;refine⟨ps,e1 _ e,tr,fun pos v ev=>?_⟩;obtain⟨c,rfl,hc⟩:=ha pos v ev;exact⟨c,rfl,e2 _ _ hc⟩
theorem Sb{p:Pos}{a b:Int}{c v:Value}(l:List Value)(ht:TriplesOk l)(h:codeAmong p (l++[rawInt a,rawInt b,c])=some v):codeAmong p l=some v\/v=c:=by
 rw[TriplesOk.eq_def]at ht;split at ht
 · rw[Jm]at h
   simp only[List.nil_append]at h;split at h
   · rename_i e
     cases e;split at h
     ·cases h;exact .inr rfl
     ·rw[Jm]at h;cases h
   ·cases h
 · rename_i i t j u x r
   rw[Jm]at h⊢;simp only[List.cons_append]at h;dsimp only at h⊢;split at h
   ·exact .inl (by rw[aO (by assumption)];exact h)
   · rename_i hn
     rw[aP hn];exact Sb r ht h
 ·exact ht.elim
termination_by l.length
def vL(h:Heap)(H:Hp)(fs:List Addr)(f:Addr)(pr:Arguments)(b:Expr)(sc:Scope)(q:Str)(c:Addr)(cl:List (Str×Addr)):Prop:=∃pm ct,h.get? f=some (kla_obj "<lambda>" q pr b sc cl pm c ct)/\H f=none/\f∉fs
structure qo(h:Heap)(H:Hp)(fs:List Addr)(cl:List (Str×Addr))(N:List Str)(vs:List V):Prop where
 cell:∀x c,cl.lookup x=some c->∃u,h.IsCell c u
 free:∀x c,cl.lookup x=some c->H c=none
 nf:∀x c,cl.lookup x=some c->c∉fs
 inj:∀x y c,cl.lookup x=some c->cl.lookup y=some c->x=y
 val:∀(i:Nat) x v,N[i]? =some x->vs[i]? =some v->∃c u,cl.lookup x=some c/\h.IsCell c (some u)/\RelV v u
structure tF(N:List Str)(sc:Scope):Prop where
 kind:sc.kind= .function
 co:sc.isCoroutine=false
 gen:sc.isGenerator=false
 nocell:∀y∈sc.names,y.2≠ .cell
 fr:∀x∈N,sc.names.lookup x=some .free
 only:∀x,sc.names.lookup x=some .free->x∈N
def pG(CX:jH)(P:aaW)(w:World)(K:Frag)(mg:Str->Option Value)(base:Heap)(N:List Str)(qual:Str)(scope:Scope)(f:Addr)(cd:Value)(cl:List (Str×Addr))(A:aaY)(outer:List Env)(s:aaV)(H:Hp)(E:XK):Cx where
 prog:=P
 w:=w
 K:=K
 mg:=mg
 base:=base
 A:=A.deeper (envX qual scope s.heap.objs.size f cd cl)
 N:=N
 s₀:=s
 H₀:=H
 env:=envX qual scope s.heap.objs.size f cd cl
 outer:=outer
 stack:=envX qual scope s.heap.objs.size f cd cl::outer
 ex:=[]
 calm:=true
 fn:=fun _=>false
 pn:=[]
 xe:=fun e s'=>wpAny (model P w) (A.deeper (envX qual scope s.heap.objs.size f cd cl)) (leaving (envX qual scope s.heap.objs.size f cd cl) e) (fun _ qO=>CX outer H s E e qO) (fun e' qO=>CX outer H s E e' qO) s'
theorem a3R{CX:jH}{P:aaW}{w:World}{K:Frag}{mg:Str->Option Value}{base:Heap}{N:List Str}{qual:Str}{scope:Scope}{f:Addr}{cd:Value}{cl:List (Str×Addr)}{A:aaY}{outer:List Env}{s:aaV}{H:Hp}{E:XK}{vs:List V}{h':Heap}{tk:Nat}{m:Str->Option Value}{fs:List Addr} (S:tF N scope)(hd:A.handled=none)(e0:mW P w K mg base A outer s H)(hl:vs.length=N.length)(C:qo s.heap H fs cl N vs)(v9:h'.Ns s.heap.objs.size m)(hk:∀b u,s.heap.get? b=some u->h'.get? b=some u): Inv (pG CX P w K mg base N qual scope f cd cl A outer s H E) [] (vs.map some) H ⟨h',s.gens,s.drawn,tk,s.os⟩:=by
  have rC:∀b:Addr,b∉([]:List Addr):=fun b=>by simp
  have Pe:∀{c:Addr}{v:Option Value},s.heap.IsCell c v->h'.IsCell c v:=fun⟨o,e,d⟩=>⟨o,hk _ _ e,d⟩;refine⟨⟨e0.mod,S.kind,rfl,rfl,bo _,C.inj,fun y hy=>?_,fun y c z=>(nomatch z),fun _=>hd,Around.frames_deeper e0.frames,.inr ⟨rfl,rfl⟩,fun b z=>absurd z (rC b),e0.bs,e0.bsz,fun b _ _=>rC b,fun b z=>absurd z (rC b),e0.jf,e0.frf⟩,rfl,e0.bare,Un.kept hk,⟨_,v9,fun i y v h1 h2 h3=>?_⟩,fun y c h=>?_,e0.hok.fresh (bo _),C.free,fun p hp=>absurd hp (by simp[pG]),e0.hok.kept hk,by rw[bT];exact hl⟩
  · have hy:scope.names.lookup y=some .cell\/scope.names.lookup y=some .free:=hy
    rcases hy with hy|hy
    ·exact absurd rfl (S.nocell _ (tN hy))
    · obtain⟨i,hi⟩:=oU.mp (S.only y hy)
      obtain⟨v,hv⟩:∃v,vs[i]? =some v:=⟨_,bN (by rw[hl];exact(dh.mp hi).1)⟩;obtain⟨c,u,e,_⟩:=C.val i y v hi hv;exact⟨c,e⟩
  · rw[bZ]at h2
    cases e:vs[i]? with |none=>rw[e]at h2;cases h2 |some v'=>rw[e]at h2;cases h2;obtain⟨c,u,e1,e2,r⟩:=C.val i y v h1 e;exact⟨u,r,.inr ⟨.inr (S.fr y (gf h1)),c,e1,Pe e2⟩⟩
  · obtain⟨u,e⟩:=C.cell y c h
    exact⟨u,Pe e⟩
theorem a3n{CX:jH}{P:aaW}{w:World}{K:Frag}{mg:Str->Option Value}{base:Heap}{k:Nat}{f c:Addr}{qual:Str}{pr:Arguments}{b:Expr}{sc:Scope}{cl:List (Str×Addr)}{N:List Str}{A:aaY}{outer:List Env}{s:aaV}{H:Hp}{E:XK}{vs:List V}{Q:VK}{t:TE}{fs fs':List Addr} (S:tF N sc)(hb:∀pm cd ct,bindArgs (kla_fn "<lambda>" qual pr b sc cl pm cd ct) ⟨[],[]⟩=pure [])(hr:cu (k+1) A)(e0:mW P w K mg base A outer s H)(L:vL s.heap H fs f pr b sc qual c cl)(hc:H c=some (.ext (jj c qual)))(hl:vs.length=N.length)(C:qo s.heap H fs' cl N vs) (ht:PE (pG CX P w K mg base N qual sc f (.ref c) cl A outer s H E) b t)(hq:t (vs.map some) H Q):codeAny (model P w) A (.call (.ref f) ⟨[],[]⟩) (CR CX outer P w H s Q E) s:=by
  obtain⟨pm,ct,ho,hf,hn⟩:=L;have lim:s.heap.NoLimit:=e0.mod.nolimit.keeps fun b o e=>(e0.bs b o e).1;have cr:s.heap.CodeRec (.ref c) qual:=(e0.hok c _ hc).1;refine kla_callFunE hr.depth ho rfl S.co S.gen rfl cr ?_;rw[hb];refine bR (Vw (fun x hx=>S.nocell x hx) (fun x hx=>nomatch hx) (fun h' v9 Gx=>?_) S.kind);have hk:∀b u,s.heap.get? b=some u->h'.get? b=some u:=fun b u e=>by
   have cZ:b≠s.heap.objs.size:=fun z=>by have:=cf e;rw[z]at this;exact oS _ this
   rw[Gx.2 b cZ];exact bW _ e
  refine⟨lim.keeps hk,kla_codeExpr ?_⟩;have I:Inv (pG CX P w K mg base N qual sc f (.ref c) cl A outer s H E) [] (vs.map some) H ⟨h',s.gens,s.drawn,s.toks+([]:List (Str×Value)).length,s.os⟩:=a3R S hr.hd e0 hl C v9 hk;refine jk (ht [] _ (vs.map some) H _ I hq) (fun u s' ⟨v,H',J,rv,q⟩=>?_) fun e s' h=>h;exact⟨v,H',J.os,J.bare,J.base,J.hok,rv,q⟩
section
variable {P:aaW}{w:World}{K:Frag}{mg:Str->Option Value}{base:Heap}{N:List Str}{qual:Str}{scope:Scope}{f:Addr}{cd:Value}{cl:List (Str×Addr)}{A:aaY}{outer:List Env}{s:aaV}{H:Hp}{E E0:XK}
theorem a0i(he:∀cls dx H',E cls dx H'->E0 cls dx H'):Passes (jG P w) (pG (jG P w) P w K mg base N qual scope f cd cl A outer s H E0) E:=by
 intro pins σ H1 s1 e s2 I hx;obtain⟨ex,cls,dx,H',B,rfl,ho,hg,ou,F,q⟩:=hx;have ou:jT B (envX qual scope s.heap.objs.size f cd cl::outer) ex cls dx .none s2.heap:=ou;show wpAny (model P w) (A.deeper (envX qual scope s.heap.objs.size f cd cl)) (leaving (envX qual scope s.heap.objs.size f cd cl) (.ref ex)) _ _ _;refine a3h (L:=s.heap.objs.size) I.ok.frames rfl ou fun h' x1 x2=>?_;have F2:=F.step ou.1 x1.1 x2 ou.2.2.1;have sub:∀b,b∈cR outer->b∈cR (envX qual scope s.heap.objs.size f cd cl::outer):=fun b hb=>by obtain⟨env,h1,h2⟩:=mX.mp hb;exact mX.mpr ⟨env,.tail _ h1,h2⟩
 have pC:∀b o,s.heap.get? b=some o->b∉cR outer->b∉cR (envX qual scope s.heap.objs.size f cd cl::outer):=fun b o e hb hm=>by
  obtain⟨env,h1,h2⟩:=mX.mp hm;rcases bB.mp h1 with z|h1
  · subst z
    have e1:s.heap.objs.size=b:=dj h2;have e2:=cf e;rw[<-e1]at e2;exact absurd e2 (oS _)
  ·exact hb (mX.mpr ⟨env,h1,h2⟩)
 have nx:∀b:Addr,b∉([]:List Addr):=fun _=>cw;refine⟨ex,cls,dx,H',B,rfl,ho.trans I.os,hg,x1,⟨⟨fun b o e n hb _=>?_,fun b o e n hb _=>?_,fun b o e n _=>?_,fun b o e _=>?_,fun b xs e=>F2.un.tups b xs (I.base.tups b xs e),fun b o u e=>F2.un.frzs b o u (I.base.frzs b o u e),fun b ps e=>?_⟩,F2.hok,fun b o e n hb=>?_,F2.k2,fun b o e hb=>?_,fun b hb=>F2.fr b (sub b hb),?_,F2.ne⟩,he _ _ _ q⟩
 ·exact F2.un.keep b o (I.base.keep b o e n hb (nx b)) (I.base.free b o e n (nx b)) (pC b o e hb) (nx b)
 · obtain⟨sl,e1⟩:=I.base.slot b o e n hb (nx b)
   obtain⟨D5,e2⟩:=F2.un.slot b _ e1 (I.base.free b o e n (nx b)) (sub b hb) (nx b);exact⟨D5,e2⟩
 · obtain⟨sl,e1⟩:=I.base.any e n (nx b)
   exact F2.un.free b _ e1 (I.base.free b o e n (nx b)) (nx b)
 · obtain⟨o1,e1⟩:=I.base.there b o e (nx b)
   exact F2.un.there b o1 e1 (nx b)
 · obtain⟨m1,e1⟩:=I.base.tbls b ps e
   obtain⟨m2,e2⟩:=F2.un.tbls b _ e1;exact⟨m1++m2,by rw[<-Array.append_assoc];exact e2⟩
 ·exact F2.k1 b o (I.base.keep b o e n hb (nx b)) (I.base.free b o e n (nx b)) (pC b o e hb)
 · obtain⟨o1,e1⟩:=I.base.there b o e (nx b)
   exact F2.k3 b o1 e1 (pC b o e hb)
 ·cases e:s.heap.get? ex with |none=>rfl |some o=>obtain⟨o1,e1⟩:=I.base.there ex o e (nx ex);rw[F2.nw]at e1;cases e1
end
section
variable {X:Cx}{x:Str}{p pos:Pos}{E:XK}
inductive Vm(X:Cx)(i:Nat)(E:XK)(σ:St)(H:Hp)(Q:VK):Prop |mk (f c:Addr)(cl:List (Str×Addr))(pr:Arguments)(b:Expr)(sc:Scope)(q:Str)(N:List Str)(vs:List V)(t:XK->TE)(k:Nat)(h0:σ[i]? =some (some (.ref f)))(h1:H=X.H₀)(h2:vL X.s₀.heap X.H₀ X.fs f pr b sc q c cl)(h3:H c=some (.ext (jj c q)))(h4:qo X.s₀.heap X.H₀ X.fs cl N vs)(h5:vs.length=N.length)(h6:tF N sc)(h7:∀pm cd ct,bindArgs (kla_fn "<lambda>" q pr b sc cl pm cd ct) ⟨[],[]⟩=pure [])(h8:cu (k+1) X.A) (h9:∀(A:aaY)(outer:List Env)(s:aaV)(H:Hp)(E:XK),cu k (A.deeper (envX q sc s.heap.objs.size f (.ref c) cl))->PE (pG (jG X.prog X.w) X.prog X.w X.K X.mg X.base N q sc f (.ref c) cl A outer s H E) b (t E))(xV:t E (vs.map some) H Q):Vm X i E σ H Q
theorem a07{xe:Value->aaV->Prop}(i:Nat)(hp:Passes (jG X.prog X.w) (X.iM xe) E)(hex:X.ex=[]:=by rfl)(hN:X.N[i]? =some x:=by rfl)(hv:BA X.env.scope x:=by first|exact Or.inl rfl|exact Or.inr (Or.inl rfl)|exact Or.inr (Or.inr rfl))(hd:(x==("__debug__":Str))=false:=by decide) (gA:(x==("__classdict__":Str))=false:=by decide):PE (X.iM xe) (.Call (.Name x p) [] [] pos) (fun σ H Q=>Vm X i E σ H Q):=by
  intro pins s σ H Q I h;obtain⟨f,c,cl,pr,b,sc,q,N,vs,t,k,h0,h1,⟨pm,ct,L1,L2,L3⟩,h3,C,h5,h6,h7,h8,h9,xV⟩:=h;have nx:∀b:Addr,b∉X.ex:=fun b=>by rw[hex];exact cw
  refine yH (aM (NG (X:=X.iM xe) (pos:=p) hN hv hd gA pins s σ H (fun v H'=>v= .ref f/\H'=H) I ⟨_,h0,rfl,rfl⟩) fun u s1 ⟨v,H1,I1,rv,e1,e2⟩=>?_);subst e1 e2;cases(show u=Value.ref f from rv);have hf:=I1.base.keep f _ L1 L2 L3 (nx f);have kc:∀{x c u},cl.lookup x=some c->X.s₀.heap.IsCell c u->s1.heap.IsCell c u:=fun{x c u} e ⟨o,e1,e2⟩=>⟨o,I1.base.keep c o e1 (C.free x c e) (C.nf x c e) (nx c),e2⟩;have C2:qo s1.heap H1 X.fs cl N vs:=⟨fun x c e=>(C.cell x c e).imp fun u z=>kc e z,fun x c e=>by rw[h1];exact C.free x c e,C.nf,C.inj,fun i x v a b=>by obtain⟨c,u,e,z,r⟩:=C.val i x v a b;exact⟨c,u,e,kc e z,r⟩⟩;refine callWith_F0 ⟨_,_,_,_,hf⟩ (yG (yI (a3n (k:=k) (fs:=X.fs) (fs':=X.fs) h6 h7 h8 I1.Bg ⟨pm,ct,hf,by rw[h1];exact L2,L3⟩ h3 h5 C2 (h9 _ _ _ _ E (h8.deeper _)) xV) fun r s' hq=>?_));cases r with |error e=>exact hp pins σ H1 s1 e s' I1 hq |ok fl=>cases fl with |ret u=>exact I1.after hq |next=>exact False.elim hq |brk=>exact False.elim hq |cont=>exact False.elim hq
end
def mJ(cells:List (Str×Addr)):List (Str×NameKind)->List (Str×Addr)->List (Str×Addr) |[],cs=>cs |(n,k)::r,cs=>mJ cells r (if k== .free then(n,(cells.lookup n).getD 0)::cs else cs)
theorem RW{env:Env}:∀(l:List (Str×NameKind))(cs:List (Str×Addr)),(∀y∈l,y.2= .free->∃c,env.cells.lookup y.1=some c)->(forIn l cs (fun(x:Str×NameKind)(cs:List (Str×Addr))=>match x with |(name,kind)=>if(kind==NameKind.free)=true then(do let c<-cellOf env name;pure (ForInStep.yield ((name,c)::cs)))else pure (ForInStep.yield cs)):Sem (List (Str×Addr)))=pure (mJ env.cells l cs)
  |[],cs,_=>rfl |(n,k)::r,cs,h=>by
    rw[C8];have ih:=fun cs=>RW r cs fun y hy=>h y (.tail _ hy);unfold mJ;by_cases hk:(k==NameKind.free)=true
    · obtain⟨c,e⟩:=h (n,k) (.head _) (by cases k<;>first|rfl|cases hk)
      simp only[hk,tL];unfold cellOf;rw[e];exact ih _
    · simp only[hk]
      exact ih _
theorem S0{cells:List (Str×Addr)}{x:Str}{c:Addr}:∀(l:List (Str×NameKind))(cs:List (Str×Addr)),(∀y∈l,y.2= .free->∃c,cells.lookup y.1=some c)->(mJ cells l cs).lookup x=some c->cs.lookup x=some c\/cells.lookup x=some c
  |[],cs,_,h=>.inl h |(n,k)::r,cs,ha,h=>by
    unfold mJ at h;rcases S0 r _ (fun y hy=>ha y (.tail _ hy)) h with z|z
    · by_cases hk:(k==NameKind.free)=true
      · rw[aO hk,iL]at z
        split at z
        · rename_i e
          obtain⟨c',e'⟩:=ha (n,k) (.head _) (by cases k<;>first|rfl|cases hk);rw[show cells.lookup n=some c' from e']at z;cases z;rw[fC.mp e];exact .inr e'
        ·exact .inl z
      ·rw[aP hk]at z;exact .inl z
    ·exact .inr z
theorem S4{cells:List (Str×Addr)}{x:Str}:∀(l:List (Str×NameKind))(cs:List (Str×Addr)),(x,NameKind.free)∈l\/(∃c,cs.lookup x=some c)->∃c,(mJ cells l cs).lookup x=some c
  |[],cs,h=>by
    rcases h with h|h
    ·cases h
    ·exact h |(n,k)::r,cs,h=>by
    unfold mJ;refine S4 r _ ?_;rcases h with h|⟨c,h⟩
    · rcases bB.mp h with e|e
      · cases e
        exact .inr ⟨(cells.lookup x).getD 0,by simp[iL]⟩
      ·exact .inl e
    · refine .inr ?_
      split
      · rw[iL]
        split
        ·exact⟨_,rfl⟩
        ·exact⟨c,h⟩
      ·exact⟨c,h⟩
theorem a89{env:Env}{sc:Scope}(h:∀y∈sc.names,y.2= .free->∃c,env.cells.lookup y.1=some c):closureFor sc env=pure (mJ env.cells sc.names []):=by unfold closureFor;have:=RW sc.names [] h;simp only[this];rfl
theorem a8v{h h':Heap}{mg:Str->Option Value}{T:Addr}(b:h.BuiltinsAt mg T)(k:∀b o,h.get? b=some o->h'.get? b=some o):h'.BuiltinsAt mg T:=by obtain⟨bm,o,b1,b2,b3,b4,b5,b6⟩:=b;exact⟨bm,o,b1,b2,b3,b4,k _ _ b5,b6⟩
section
variable {X:Cx}{pins:List (Addr×Obj)}{σ:St}{H:Hp}{s:aaV}{pr:Arguments}{bd:Expr}{sc:Scope}{eZ:Pos}{cl:List (Str×Addr)}{T c:Addr}{q:Str}
theorem Inv.O5(I:Inv X pins σ H s){f:Addr}(h:s.heap.objs.size<=f):f∉cR X.stack:=fun hb=>by
 rcases bB.mp (I.wy f hb)with e|e
 ·rw[e]at h;exact absurd I.lt (Nat.not_lt.mpr h)
 ·exact I.Oe h e
theorem a3o{SR:Value->aaV->Prop}(I:Inv X pins σ H s)(hc:X.env.code= .ref c)(hd:CodeHd X.base c T)(hB:X.base.BuiltinsAt X.mg T)(kZ:closureFor sc X.env=pure cl)(sj:defaultsOf pr X.env=([],[]))(GB:X.env.qual++Str.ofString "<lambda>"=q)(ht:TabAt H T q) (hq:∀f c' H' s',Inv X pins σ H' s'->vL s'.heap H' (cR X.stack) f pr bd sc q c' cl->H' c'=some (.ext (jj c' q))->TabAt H' T q->aV [T] H H'->(∀b,b≠T->H b=none->(∃o,s.heap.get? b=some o)->H' b=none/\∀o,s.heap.get? b=some o->s'.heap.get? b=some o)->SR (.ref f) s'): wpAny (model X.prog X.w) X.A (eval (.Lambda pr bd sc eZ) X.env) SR X.xe s:=by
  refine kla_eval sj ?_;rw[GB];obtain⟨ps,hT,tr,xR⟩:=ht;have kb:=I.bk;have PR:=I.ok.mod.glob.keeps kb;have PY:CodeHd s.heap c T:=CodeHd.keeps hd kb;have AX:s.heap.get? T=some (tabObj ps):=I.hok T _ hT;have Qg:=a8v hB kb;have gT:mainGlobals≠T:=fun z=>by obtain⟨o,es,ep,e,_⟩:=I.ok.mod.glob;have:=(I.bs _ _ e).2;rw[z,hT]at this;cases this
  cases ha:codeAmong eZ ps.toList with |some v=>obtain⟨c',rfl,ib⟩:=xR eZ v ha;refine kla_makeFunctionHit kZ I.ok.glob PR hc PY AX tr ha Qg fun mI h' tk hk hsz=>?_;have mr:∀b o,s.heap.get? b=some o->(h'.push {cls:=Value.type "function",data:=Data.func (kla_fn (Str.ofString "<lambda>") q pr bd sc cl ((X.mg (Str.ofString "__name__")).getD Value.none) (Value.ref c') mI)}).get? b=some o:=fun b o e=>bW _ (hk b o e);refine hq h'.objs.size c' H _ (I.kept mr) ⟨_,mI,dP _ rfl,I.hok.fresh hsz,I.O5 hsz⟩ ib ⟨ps,hT,tr,xR⟩ (fun b o e _=>e) fun b _ hb _=>⟨hb,fun o e=>mr b o e⟩ |none=>
    refine kla_makeFunction kZ I.ok.glob PR hc PY AX tr ha gT Qg fun c' mI h' tk hx AR bV a4r htb=>?_;have fc:H c'=none:=I.hok.fresh AR;have cT:c'≠T:=fun z=>by rw[z,hT]at fc;cases fc
    have mr:∀b o,b≠T->s.heap.get? b=some o->(h'.push (kla_obj (Str.ofString "<lambda>") q pr bd sc cl ((X.mg (Str.ofString "__name__")).getD Value.none) c' mI)).get? b=some o:=fun b o hb e=>bW _ (hx b o hb e);have RL:(h'.push (kla_obj (Str.ofString "<lambda>") q pr bd sc cl ((X.mg (Str.ofString "__name__")).getD Value.none) c' mI)).CodeRec (.ref c') q:=by obtain⟨c2,o,vs,t,e1,e2,e3⟩:=a4r;exact⟨c2,o,vs,t,e1,bW _ e2,e3⟩
    have Hf:(h'.push (kla_obj (Str.ofString "<lambda>") q pr bd sc cl ((X.mg (Str.ofString "__name__")).getD Value.none) c' mI)).get? T=some (tabObj (ps++#[rawInt ↑eZ.line,rawInt ↑eZ.col,Value.ref c'])):=bW _ htb;have Qw:s.heap.objs.size<=h'.objs.size:=JB (oQ AR bV);have hf:(h'.push (kla_obj (Str.ofString "<lambda>") q pr bd sc cl ((X.mg (Str.ofString "__name__")).getD Value.none) c' mI)).get? h'.objs.size=some (kla_obj (Str.ofString "<lambda>") q pr bd sc cl ((X.mg (Str.ofString "__name__")).getD Value.none) c' mI):=dP _ rfl;have eU:∀b o,b≠T->H b=some o->upd (upd H T (.eG (ps++#[rawInt ↑eZ.line,rawInt ↑eZ.col,Value.ref c']))) c' (.ext (jj c' q)) b=some o:=fun b o hb e=>by rw[aB (fH e fc),aB hb];exact e
    have eN:∀b,b≠T->b≠c'->H b=none->upd (upd H T (.eG (ps++#[rawInt ↑eZ.line,rawInt ↑eZ.col,Value.ref c']))) c' (.ext (jj c' q)) b=none:=fun b hb lK e=>by rw[aB lK,aB hb];exact e
    have eT:upd (upd H T (.eG (ps++#[rawInt ↑eZ.line,rawInt ↑eZ.col,Value.ref c']))) c' (.ext (jj c' q)) T=some (.eG (ps++#[rawInt ↑eZ.line,rawInt ↑eZ.col,Value.ref c'])):=by rw[aB cT.symm];exact aQ
    have eC:upd (upd H T (.eG (ps++#[rawInt ↑eZ.line,rawInt ↑eZ.col,Value.ref c']))) c' (.ext (jj c' q)) c'=some (.ext (jj c' q)):=aQ;have eX:∀b o,upd (upd H T (.eG (ps++#[rawInt ↑eZ.line,rawInt ↑eZ.col,Value.ref c']))) c' (.ext (jj c' q)) b=some o->(b=c'/\o= .ext (jj c' q))\/(b=T/\o= .eG (ps++#[rawInt ↑eZ.line,rawInt ↑eZ.col,Value.ref c']))\/(b≠T/\H b=some o):=fun b o e=>by
     by_cases h1:b=c'
     ·subst h1;rw[aQ]at e;cases e;exact .inl ⟨rfl,rfl⟩
     · rw[aB h1]at e
       by_cases h2:b=T
       ·subst h2;rw[aQ]at e;cases e;exact .inr (.inl ⟨rfl,rfl⟩)
       ·rw[aB h2]at e;exact .inr (.inr ⟨h2,e⟩)
    generalize upd (upd H T (.eG (ps++#[rawInt ↑eZ.line,rawInt ↑eZ.col,Value.ref c']))) c' (.ext (jj c' q))=H' at eU eN eT eC eX;generalize hhn:h'.push (kla_obj (Str.ofString "<lambda>") q pr bd sc cl ((X.mg (Str.ofString "__name__")).getD Value.none) c' mI)=hn at mr RL Hf hf⊢;have Ac:∀{b o},s.heap.get? b=some o->b≠c':=fun{b o} e z=>by have:=cf e;rw[z]at this;exact absurd this (Nat.not_lt.mpr AR)
    have nT:∀{b},H b=none->b≠T:=fun{b} e z=>by rw[z,hT]at e;cases e
    have un:Un (cR X.stack) [] H H' s.heap hn:=by
     refine⟨fun b o e n _ _=>mr b o (nT n) e,fun b o e n _ _=>⟨o.slots,mr b o (nT n) e⟩,fun b o e n _=>eN b (nT n) (Ac e) n,fun b o e _=>?_,fun b xs e=>eU b _ (fun z=>by rw[z,hT]at e;cases e) e,fun b o u e=>eU b _ (fun z=>by rw[z,hT]at e;cases e) e,fun b ps' e=>?_⟩
     · by_cases hb:b=T
       ·rw[hb];exact⟨_,Hf⟩
       ·exact⟨o,mr b o hb e⟩
     · by_cases hb:b=T
       · rw[hb,hT]at e
         cases e;rw[hb];exact⟨_,eT⟩
       ·exact⟨#[],by rw[Array.append_empty];exact eU b _ hb e⟩
    have ho:dc X.prog X.w H' hn:=fun a o e=>by
     rcases eX a o e with⟨rfl,rfl⟩|⟨rfl,rfl⟩|⟨cZ,e⟩
     ·exact a86 RL
     ·exact Hf
     · refine(I.hok a o e).lB (fun b' u hb e'=>mr b' u (fun z=>?_) e') (fun b' e'=>eU b' _ (fun z=>by rw[z,hT]at e';cases e') e') fun b' xs e'=>eU b' _ (fun z=>by rw[z,hT]at e';cases e') e'
       rcases hb with z2|z2
       ·exact cZ (z2▸z)
       ·rw[z,hT]at z2;cases z2
    have I':Inv X pins σ H' ⟨hn,s.gens,s.drawn,tk,s.os⟩:=I.call (ch:=[]) un ho I.bare fun b hb=>(cw hb).elim;refine hq h'.objs.size c' H' _ I' ⟨_,mI,hf,?_,I.O5 Qw⟩ eC ⟨_,eT,?_,fun p v e=>?_⟩ (fun b o e hb=>eU b o (fun z=>hb (by rw[z];exact .head _)) e) fun b hb hn0 he=>?_
    · have pL:H h'.objs.size=none:=I.hok.fresh Qw
      exact eN _ (nT pL) (fun z=>absurd bV (by rw[<-z];exact oS _)) pL
    ·rw[Cc];exact TriplesOk_snoc _ _ _ _ tr
    · rw[Cc]at e
      rcases Sb _ tr e with z|z
      · obtain⟨c2,r1,r2⟩:=xR p v z
        exact⟨c2,r1,eU c2 _ (fun z=>by rw[z,hT]at r2;cases r2) r2⟩
      ·exact⟨c',z,eC⟩
    · obtain⟨o,e⟩:=he
      exact⟨eN b hb (Ac e) hn0,fun o e=>mr b o hb e⟩
end
end L2
namespace L2
open PySem PySem.Spec PyProof.Rows PySem.W
def oB(K:Frag)(cd:Value)(T:Addr):Bool:=match cd with
 | .ref c=>match K.lookup c with |some ⟨.type n,_,.fields vs,_⟩=>n=="code"&&(match(vs[11]? :Option Value),(vs.getD 11 .none:Value),(vs.getD 18 .none:Value),(vs.getD 7 .none:Value),(vs.getD 9 .none:Value),(vs.getD 10 .none:Value)with |some (.ref P),.ref P2,.str _ _,.int _ _,.bool _,.int _ _=>P==T&&P2==T&&c !=T |_,_,_,_,_,_=>false) |_=>false
 |_=>false
theorem RV{K:Frag}{cd:Value}{T:Addr}{h:Heap}(e:oB K cd T=true)(X:K.In h):∃c,cd= .ref c/\CodeHd h c T:=by
 unfold oB at e;split at e
 · rename_i c
   split at e
   · rename_i n d vs sl hl
     rw[eu]at e;obtain⟨e1,e2⟩:=e;split at e2
     · rename_i P P2 f tf fl tg b t tt h1 h2 h3 h4 h5 h6
       simp only[eu,fC,bne_iff_ne]at e1 e2;obtain⟨⟨e3,e4⟩,e5⟩:=e2;subst e1 e3;rw[e4]at h2;exact⟨c,rfl,_,vs,f,tf,fl,tg,b,t,tt,X _ _ hl,rfl,rfl,h1,h2,h3,h4,h5,h6,e5⟩
     ·cases e2
   ·cases e
 ·cases e
section
variable {X:Cx}{k:Nat}{x:Str}{p pos eZ:Pos}{pr:Arguments}{bd:Expr}{sc:Scope}{sp:tD}{T c:Addr}{q:Str}{N:List Str}
inductive Vk(X:Cx)(T:Addr)(q:Str)(pr:Arguments)(bd:Expr)(sc:Scope)(N:List Str)(js:List Nat)(sp:tD)(σ:St)(H:Hp)(Q:VK):Prop |mk (vs:List V)(h0:TabAt H T q)(h1:vs.length=N.length)(h2:∀(i j:Nat) v,js[i]? =some j->vs[i]? =some v->σ[j]? =some (some v)) (h3:∀f c cl H' s',vL s'.heap H' (cR X.stack) f pr bd sc q c cl->H' c=some (.ext (jj c q))->qo s'.heap H' (cR X.stack) cl N vs->TabAt H' T q->aV [T] H H'->sp X.stack s' [.ref f] H' Q E0):Vk X T q pr bd sc N js sp σ H Q
structure SX(X:Cx)(N:List Str)(js:List Nat)(sc:Scope):Prop where
 S:tF N sc
 cell:∀y∈sc.names,y.2= .free->X.env.kindOf y.1=some .cell
 ix:∀(i:Nat) y,N[i]? =some y->∃j,js[i]? =some j/\X.N[j]? =some y
theorem a02{js:List Nat}(LI:SX X N js sc)(F:yB X.prog X.w X.K X.mg X.base x k sp)(hr:cu k X.A)(hg:Gl X x)(pL:∀y,X.fn y=true)(hct:oB X.K X.env.code T=true)(hB:X.base.BuiltinsAt X.mg T)(GB:X.env.qual++Str.ofString "<lambda>"=q)(sj:defaultsOf pr X.env=([],[])) (iV:(x==("__debug__":Str))=false:=by decide): PE X (.Call (.Name x p) [.Lambda pr bd sc eZ] [] pos) (fun σ H Q=>Vk X T q pr bd sc N js sp σ H Q):=by
  intro pins s σ H Q I h;obtain⟨f0,fd,ps,F,hm,hk,hb⟩:=F;obtain⟨vs,h0,h1,h2,h3⟩:=h;obtain⟨S,lJ,hj⟩:=LI;obtain⟨c,hc,hd⟩:=RV hct I.ok.mod.kin;have Q7:∀y∈sc.names,y.2= .free->∃c,X.env.cells.lookup y.1=some c:=fun y hy e=>I.ok.has y.1 (.inl (lJ y hy e));refine yH (uS I hg hm ?_ iV);refine callWith_K (h₀:=X.base) I.ok.mod.kin hk ?_ rfl rfl;show wpAny _ _ (spliced ((false,eval (.Lambda pr bd sc eZ) X.env)::backTo pos (starEach [] X.env))) _ _ s;refine Calls.spliced_cons (a3o I hc hd hB (a89 Q7) sj GB h0 fun f c' H' s' I' L ib tb bt _=>?_);refine Calls.spliced_nil ⟨I'.gb,?_⟩;have sub:∀{y c},(mJ X.env.cells sc.names []).lookup y=some c->X.env.cells.lookup y=some c:=fun{y c} e=>by
   rcases S0 sc.names [] Q7 e with z|z
   ·cases z
   ·exact z
  have C:qo s'.heap H' (cR X.stack) (mJ X.env.cells sc.names []) N vs:=by
   refine⟨fun y c e=>I'.cell y c (sub e),fun y c e=>I'.freeC y c (sub e),fun y c e hf=>?_,fun y z c e1 e2=>I'.ok.inj y z c (sub e1) (sub e2),fun i y v e1 e2=>?_⟩
   · rcases bB.mp (I'.wy c hf)with z|z
     ·exact I'.jC y c (sub e) z
     · obtain⟨_,o,ho,_⟩:=I'.ok.jf.mem z
       exact absurd (cf ho) (Nat.not_lt.mpr (I'.ok.cab y c (pL y) (sub e)))
   · obtain⟨j,ej,eN⟩:=hj i y e1
     have mem:=tN (S.fr y (gf e1));have kd:X.env.kindOf y=some .cell:=lJ _ mem rfl;obtain⟨m,_,a4R⟩:=I'.loc;obtain⟨u,ru,lk⟩:=a4R j y v eN (h2 i j v ej e2) (.inr (.inl kd));obtain⟨c1,e3⟩:=S4 (cells:=X.env.cells) sc.names [] (.inl mem);rcases lk with⟨z,_⟩|⟨_,c2,e4,ic⟩
     ·rw[kd]at z;cases z
     · have:=sub e3
       rw[e4]at this;cases this;exact⟨_,u,e3,ic,ru⟩
  have hs:=h3 f c' _ H' s' L ib C tb bt;have hl:([Value.ref f]++([]:List Value)).length=ps.length:=by rw[<-F.len _ _ _ _ _ _ hs];rfl
  have bt2:=hb s' [.ref f] I'.gb hl;refine yG (yI (F.run X.A X.stack s' H' ⟨[.ref f],[]⟩ [.ref f] [.ref f] Q E0 hr I'.Bg bt2 (.cons rfl .nil) hs) fun r s2 hq=>?_);cases r with |error e=>exact False.elim hq |ok fl=>cases fl with |ret u=>exact I'.after hq |next=>exact False.elim hq |brk=>exact False.elim hq |cont=>exact False.elim hq
end
structure yC(K:Frag)(mg:Str->Option Value)(x:Str)(st:Stmt)(T:Addr):Prop where ex:∃f fd,mg x=some (.ref f)/\jE K x x st f fd/\oB K fd.code T=true
section
variable {P:aaW}{w:World}{K:Frag}{mg:Str->Option Value}{base:Heap}
theorem a6W{h:Heap}{x:Str}{st:Stmt}{f T:Addr}{oc:Value}{od an:Option Addr}{fP:Array (Option Value)}{kV doc pm aD ct:Value}(X:K.In h)(G:h.Ns mainGlobals mg)(a:nsIn K mainGlobals x=some (some (.ref f))) (l:K.lookup f=some ⟨oc,od,.func (fnOf x x (jB st) (gd st) (aK st) .none kV doc pm an aD ct),fP⟩)(c:codeIn K aD x=true)(k:keepIn K (.ref f)=true)(t:oB K aD T=true):yC K mg x st T:=⟨f,_,mg_of X G a,B8 l c k,t⟩
theorem yC.has{x:Str}{st:Stmt}{N ps:List Str}{k:Nat}{sp:Sp}{T:Addr}(F:yC K mg x st T)(S:aW N ps (aK st))(len:∀vs H Q E,sp vs H Q E->vs.length=ps.length) (hb:∀(kV doc pm:Value)(an:Option Addr)(aD ct:Value)(us:List Value),us.length=ps.length->bindArgs (fnOf x x (jB st) (gd st) (aK st) .none kV doc pm an aD ct) ⟨us,[]⟩=pure (ps.zip us)) (ie:∀(f:Addr)(aD:Value)(A:aaY)(outer:List Env)(s:aaV)(H:Hp)(vs:List V)(Q:VK)(E:XK),oB K aD T=true->cu k (A.deeper (envOfC x (aK st) s.heap.objs.size f aD))->sp vs H Q E->∃t,gD (iJ iX P w K mg base N x (aK st) f aD A outer s H E).nS (gd st) t/\t {nx:=fun _ H'=>Q .aY H',rt:=Q} (start N vs) H):aj P w K mg base x (k+1) sp:=by obtain⟨f,fd,hm,F,ct⟩:=F.ex;have oj:=F.binds hb;have kp:=F.kp;obtain⟨oc,od,kV,doc,pm,an,aD,ctt,fP,rfl,lk,gA⟩:=F.ex;exact⟨f,_,ps,Hx lk gA S len fun A outer s H vs Q E hr iT=>(ie f aD A outer s H vs Q E ct hr iT).imp fun t h=>⟨h.1.nS,h.2⟩,hm,kp,oj⟩
theorem FA.a5v{x:Str}{st:Stmt}{N ps:List Str}{k:Nat}{sp:tD}(F:FA K mg x st)(S:aW N ps (aK st))(len:∀outer s vs H Q E,sp outer s vs H Q E->vs.length=ps.length) (hb:∀(kV doc pm:Value)(an:Option Addr)(aD ct:Value)(us:List Value),us.length=ps.length->bindArgs (fnOf x x (jB st) (gd st) (aK st) .none kV doc pm an aD ct) ⟨us,[]⟩=pure (ps.zip us)) (ie:∀(f:Addr)(aD:Value)(A:aaY)(outer:List Env)(s:aaV)(H:Hp)(vs:List V)(Q:VK)(E:XK),cu k (A.deeper (envOfC x (aK st) s.heap.objs.size f aD))->sp outer s vs H Q E->∃t,yu (iJ iX P w K mg base N x (aK st) f aD A outer s H E) (gd st) t/\t {nx:=fun _ H'=>Q .aY H',rt:=Q} (start N vs) H):yB P w K mg base x (k+1) sp:=by obtain⟨f,fd,hm,F⟩:=F.ex;have oj:=F.binds hb;have kp:=F.kp;obtain⟨oc,od,kV,doc,pm,an,aD,ctt,fP,rfl,lk,gA⟩:=F.ex;exact⟨f,_,ps,a6M lk gA S len fun A outer s H vs Q E hr iT=>ie f aD A outer s H vs Q E hr iT,hm,kp,oj⟩
end
theorem a3m{P:aaW}{w:World}{K:Frag}{mg mb:Str->Option Value}{k:Nat}{fa a T:Addr}{fd:FuncData}{x:Str}{sp:Sp}{s₁:aaV}{vs:List Value}{ns:List Int}{cd:Value} (KX:K.In s₁.heap)(v9:s₁.heap.Ns mainGlobals mg)(oj:s₁.heap.Ns builtinsNs mb)(hbb:∀x:Str,x≠"__name__"->mb x=bootBuiltins x)(a4S:s₁.heap.NoLimit)(hg:s₁.gens=#[])(hbm:∃bm ob,mg (Str.ofString "__builtins__")=some (.ref bm)/\bm≠builtinsNs/\s₁.heap.get? bm=some ob/\ob.cls= .type "module"/\ob.dict=some builtinsNs/\ob.data= .plain) (hT:s₁.heap.get? T=some (tabObj #[]))(kT:K.lookup T=none)(cT:oB K cd T=true)(ha:s₁.heap.get? a=some {cls:=.type "list",data:=.seq vs.toArray})(hi:IntsAre vs ns)(hl:ns.length<=sizeLine)(hr:cu k callerA) (F:∀base:Heap,K.In base->base.BuiltinsAt mg T->iK P w K mg base iX k fa fd [x] sp)(a5t:∀(s:aaV)(u:Value),BindsTo s fd ⟨[u],[]⟩ [(x,u)]) (iT:∀H:Hp,H T=some (.eG #[])->au K H a (ns.map V.int)->sp [.ref a] H (fun v _=>v= .bl true) fun _ _ _=>False): codeAny (model P w) callerA (.call (.ref fa) ⟨[.ref a],[]⟩) (fun r s'=>r= .ok (.ret (.bool true))/\OldK s₁.heap s'.heap/\s'.os=s₁.os/\AllBare s'.gens) s₁:=by
  have rv:=JX hi;have a3f:=hi.length;have aT:a≠T:=fun z=>by rw[z,hT]at ha;cases ha
  have core:∀H:Hp,H T=some (.eG #[])->au K H a (ns.map V.int)->dc P w H s₁.heap->(∀b,H b≠none->b=a\/b=T)->(H a=none\/∃ob xs,H a=some (.lN ob (.lst xs)))->(H a≠none->K.lookup a=none)->codeAny (model P w) callerA (.call (.ref fa) ⟨[.ref a],[]⟩) (fun r s'=>r= .ok (.ret (.bool true))/\OldK s₁.heap s'.heap/\s'.os=s₁.os/\AllBare s'.gens) s₁:=by
    intro H B0 hS hok hA hF hK;have IQ:∀{b:Addr}{o:Obj},s₁.heap.get? b=some o->H b=none->(mx s₁.heap H).get? b=some o:=fun e n=>a5a e n;have Og:∀{b:Addr}{o:Obj},s₁.heap.get? b=some o->(∀its n,o.data≠ .seq its n)->(∀its,o.data≠ .fields its)->H b=none:=fun{b o} e d1 d2=>by cases q:H b with |none=>rfl |some u=>
       rcases hA b (by rw[q];simp)with z|z
       ·subst z;rw[ha]at e;cases e;exact(d1 _ _ rfl).elim
       ·subst z;rw[hT]at e;cases e;exact(d2 _ rfl).elim
    have FK:∀{b:Addr}{m:Str->Option Value},s₁.heap.Ns b m->(mx s₁.heap H).Ns b m:=fun{b m} ⟨o,es,ep,e,d,r⟩=>⟨o,es,ep,IQ e (Og e (fun _ _ z=>by rw[d]at z;cases z) fun _ z=>by rw[d]at z;cases z),d,r⟩;have Qf:K.In (mx s₁.heap H):=fun b o e=>IQ (KX b o e) (by cases q:H b with |none=>rfl |some u=>
       rcases hA b (by rw[q];simp)with z|z
       ·subst z;rw[hK (by rw[q];simp)]at e;cases e
       ·subst z;rw[kT]at e;cases e);have hM:Mod K mg (mx s₁.heap H):=⟨Qf,FK v9,⟨mb,FK oj,hbb⟩,let⟨mc,h1,h2⟩:=a4S;⟨mc,FK h1,h2⟩⟩;have e0:mW P w K mg (mx s₁.heap H) callerA [] s₁ H:=⟨rfl,hM,fun b o e=>a2g e,Nat.le_of_eq (a59 _ _),trivial,fun b hb=>absurd (show b∈([]:List Addr)from hb) (by simp),hok,.of_eq hg⟩;have sJ:(mx s₁.heap H).BuiltinsAt mg T:=by
     obtain⟨bm,ob,b1,b2,b3,b4,b5,b6⟩:=hbm;refine⟨bm,ob,b1,b2,fun z=>?_,fun z=>?_,IQ b3 (Og b3 (fun _ _ z=>by rw[b6]at z;cases z) fun _ z=>by rw[b6]at z;cases z),b4,b5,b6⟩
     · obtain⟨o,es,ep,e,d,_⟩:=v9
       rw[z,e]at b3;cases b3;rw[b6]at d;cases d
     ·rw[z,hT]at b3;cases b3;cases b4
    refine yI ((F _ Qf sJ).run callerA [] s₁ H ⟨[.ref a],[]⟩ [.ref a] [.ref a] _ _ hr e0 (a5t s₁ (.ref a)) (.cons rfl .nil) (iT H B0 hS)) fun r s' h=>?_;cases r with |error e=>exact False.elim h |ok fl=>cases fl with |next=>exact False.elim h |brk=>exact False.elim h |cont=>exact False.elim h |ret u=>
        obtain⟨v,H',os,bare,un,PF,r',q⟩:=h;have q':v= .bl true:=q;subst q';obtain rfl:u=Value.bool true:=r';refine⟨rfl,⟨fun b o e=>?_,fun b o e=>un.there b o e (by simp)⟩,os,bare⟩;by_cases vh:b=T
        · subst vh
          rw[hT]at e;cases e;obtain⟨more,e2⟩:=un.tbls b _ B0;have e3:s'.heap.get? b=some {cls:=.none,data:=.fields (#[]++more)}:=PF b _ e2;obtain⟨c,rfl,o,We,file,tf,flags,tg,inF,text,tt,c1,c2,c3,c4,_⟩:=RV cT KX;exact .inr (.inl ⟨⟨c,o,We,c1,c2,c3,c4⟩,rfl,#[],more,rfl,e3⟩)
        · refine .inl ?_
          cases q:H b with |none=>exact un.keep b o e q (by intro z;exact absurd (show b∈([]:List Addr)from z) (by simp)) (by simp) |some u=>
            rcases hA b (by rw[q];simp)with z|z
            · subst z
              rcases hF with z|⟨ob,xs,z⟩
              ·rw[q]at z;cases z
              · have z2:=un.frzs b ob _ z
                obtain⟨e1,_⟩:=hok b _ z;obtain⟨e2,_⟩:=PF b _ z2;rw[e]at e1;cases e1;exact e2
            ·exact(vh z).elim
  cases hk:K.lookup a with |some o=>
    have e:=KX a o hk;rw[ha]at e;cases e;refine core (fun b=>if b=T then some (.eG #[])else none) (aO rfl) (.inr ⟨_,vs.toArray,_,hk,rfl,rfl,rfl,by rw[dN,a3f];exact hl,by simpa using rv⟩) (fun b u z=>?_) (fun b z=>?_) (.inl (aP aT)) fun z=>absurd (aP aT) z
    · by_cases hb:b=T
      · have z':=(aO hb).symm.trans z
        cases z';subst hb;exact hT
      · have z':=(aP hb).symm.trans z
        cases z'
    · by_cases hb:b=T
      ·exact .inr hb
      ·exact absurd (aP hb) z |none=>
    refine core (fun b=>if b=T then some (.eG #[])else if b=a then some (.lN {cls:=.type "list",data:=.seq vs.toArray} (.lst (ns.map V.int)))else none) (aO rfl) (.inl (.inr ⟨{cls:=.type "list",data:=.seq vs.toArray},(aP aT).trans (aO rfl)⟩)) (fun b u z=>?_) (fun b z=>?_) (.inr ⟨_,_,(aP aT).trans (aO rfl)⟩) fun _=>hk
    · by_cases hb:b=T
      · have z':=(aO hb).symm.trans z
        cases z';subst hb;exact hT
      · have z':=(aP hb).symm.trans z
        by_cases lK:b=a
        · have z2:=(aO lK).symm.trans z'
          cases z2;subst lK;exact⟨ha,by rw[bT];exact hl,vs,_,rv,ha⟩
        · have z2:=(aP lK).symm.trans z'
          cases z2
    · by_cases hb:b=T
      ·exact .inr hb
      · by_cases lK:b=a
        ·exact .inl lK
        ·exact absurd ((aP hb).trans (aP lK)) z
theorem a3l{l:OpenLaw}{q:aaW}{loose:List Str}{XP:(Str->Option Value)->Heap->Prop}{YP:World->Heap->Prop}{d:DefRec}{K:Params->Frag}{k:Nat}{x:Str}{st:Stmt}{T:Addr}(hn:l.most=some 63)(sj:d.params.defaults=[]) (hr:cu k callerA)(hY:∀(w:World)(h:Heap),YP w h->(K w.params).In h/\h.get? T=some (tabObj #[]))(All:Frag->(Str->Option Value)->Prop) (F:∀(w:World)(mg:Str->Option Value)(h:Heap),(K w.params).In h->h.Ns mainGlobals mg->All (K w.params) mg)(kT:∀w:World,(K w.params).lookup T=none) (cT:∀(K:Frag)(mg:Str->Option Value),All K mg->∃cd,oB K cd T=true) (L:∀(K:Frag)(mg:Str->Option Value),All K mg->FA K mg d.name st) (hb:∀(kV doc pm:Value)(an:Option Addr)(aD ct u:Value),bindArgs (fnOf d.name d.name (jB st) (gd st) (aK st) .none kV doc pm an aD ct) ⟨[u],[]⟩=pure [(x,u)]) (ok:∀(P:aaW)(w:World)(K:Frag)(mg:Str->Option Value)(base:Heap)(f:Addr)(fd:FuncData),All K mg->base.BuiltinsAt mg T->jE K d.name d.name st f fd->iK P w K mg base iX k f fd [x] (fun vs H Q _=>∃(a:Addr)(ns:List Int),vs=[.ref a]/\au K H a (ns.map V.int)/\ns.length<=63/\H T=some (.eG #[])/\∀H',Q (.bl true) H')): WalkO q loose XP YP l.row.toRowW d [] (fun f vs=>PySem.call f vs):=by
  refine Att.a8G hn sj fun w s₀ s₁ mg mb fa o pm cd doc a vs ns G Y ho hd gA GL GD hints hlen hg=>?_;obtain⟨KX,hT⟩:=hY w _ Y;have A:=F w mg _ KX G.T.g;obtain⟨f,fd,hm,Fn⟩:=(L _ _ A).ex;have e:fa=f:=by rw[GL]at hm;injection (dj hm)
  subst e;obtain⟨cdT,GZ⟩:=cT _ _ A;refine a3m KX G.T.g G.T.b G.T.builtins G.T.nolimit hg G.T.bmain hT (kT w) GZ GD hints (gR hlen (by decide)) hr (fun base _ hB=>ok l.prog w _ mg base fa fd A hB Fn) (fun s u=>?_) fun H B0 hS=>⟨a,ns,rfl,hS,hlen,B0,fun _=>rfl⟩;obtain⟨oc,od,kV,a7w,ZN,an,aD,ct,fP,rfl,lk,aao⟩:=Fn.ex;exact .of_eq (hb kV a7w ZN an aD ct u)
section
variable {P:aaW}{w:World}{K:aaU}{mg:Str->Option Value}{base:Heap}{N:List Str}{qual:Str}{scope:Scope}{f:Addr}{cd:Value}{A:aaY}{outer:List Env}{s:aaV}{H:Hp}{E:XK}{pins:List (Addr×Obj)}{σ:St}{H1:Hp}{s1:aaV}{ex:Addr}{C:Addr}{dx:Addr}{φ:Heap->Prop}{cls:Value}{dxo:Option Addr}{h2:Heap}{vs:List Value}
theorem W8(I:Inv (iJ (jG P w) P w K mg base N qual scope f cd A outer s H E) pins σ H1 s1)(hx:Heap.MadeExcOf s1.heap h2 ex cls vs)(q:E cls none H1):(iJ (jG P w) P w K mg base N qual scope f cd A outer s H E).xe (.ref ex) {s1 with heap:=h2}:=by
 obtain⟨t,e1,_⟩:=hx.there;have hf:H1 ex=none:=by cases e:H1 ex with |none=>rfl |some o=>obtain⟨ob,e2⟩:=(I.hok ex o e).there;rw[hx.new]at e2;cases e2
 have nw:s.heap.get? ex=none:=by cases e:s.heap.get? ex with |none=>rfl |some o=>obtain⟨ob,e2⟩:=I.base.there ex o e (cw);rw[hx.new]at e2;cases e2
 have I2:=I.kept (t':=s1.toks) hx.keeps;have gz:h2.FunFrames base (envOfC qual scope s.heap.objs.size f cd::outer):=I2.stack;have AO:∀env∈(envOfC qual scope s.heap.objs.size f cd::outer),∀b,env.frame=some b->b∈ex::cR (envOfC qual scope s.heap.objs.size f cd::outer):=fun env he b hb=>.tail _ (mX.mpr ⟨env,he,hb⟩);have hB:(PySem.W.hideAll h2 (ex::cR (envOfC qual scope s.heap.objs.size f cd::outer))).StaysIn h2:=fun b o e=>PySem.W.of_hideAll _ e;have pC:∀b o,s.heap.get? b=some o->b∉cR outer->b∉ex::cR (envOfC qual scope s.heap.objs.size f cd::outer):=fun b o e hb hm=>by
  rcases bB.mp hm with rfl|hm
  ·rw[nw]at e;cases e
  obtain⟨env,he,hf⟩:=mX.mp hm;rcases bB.mp he with rfl|he
  · have e1:s.heap.objs.size=b:=dj hf
    have h1:=cf e;rw[<-e1]at h1;exact absurd h1 (oS _)
  ·exact hb (mX.mpr ⟨env,he,hf⟩)
 have F0:Fl P w outer H s.heap ex H1 (PySem.W.hideAll h2 (ex::cR (envOfC qual scope s.heap.objs.size f cd::outer))) h2:=by
  refine⟨I2.base,I2.hok,fun b o e n hb=>Jt _ (I2.base.keep b o e n hb (cw)) (pC b o e hb),fun b o e=>?_,fun b o e hb=>?_,fun b hb=>?_,nw,hf⟩
  · obtain⟨FH,e1⟩:=(I2.hok b o e).there
    refine⟨FH,Jt _ e1 fun hm=>?_⟩;rcases bB.mp hm with z|hm
    ·rw[z,hf]at e;cases e
    · rw[I2.zv b hm]at e
      cases e
  · obtain⟨FH,e1⟩:=I2.base.there b o e (cw)
    exact⟨FH,Jt _ e1 (pC b o e hb)⟩
  · obtain⟨env,he,hf⟩:=mX.mp hb
    exact I2.zv b (mX.mpr ⟨env,.tail _ he,hf⟩)
 show wpAny (model P w) (A.deeper (envOfC qual scope s.heap.objs.size f cd)) (leaving (envOfC qual scope s.heap.objs.size f cd) (.ref ex)) _ _ _;refine a3i (L:=s.heap.objs.size) I.ok.frames (PySem.W.funFrames_hide gz AO) rfl e1 hB (PySem.W.hideAll_none _ (.head _)) rfl rfl fun h' x1 x2=>?_;exact⟨ex,cls,none,H1,_,rfl,I.os,I.bare,x1,F0.step hB x1.1 x2 gz.2.2,q⟩
end
def Gf(N:List Str)(sc:Scope):Bool:=decide (sc.kind= .function)&& !sc.isCoroutine&& !sc.isGenerator&&sc.names.all (fun y=>decide (y.2≠ .cell)&&(decide (y.2≠ .free)||N.contains y.1))&&N.all fun x=>decide (sc.names.lookup x=some .free)
theorem P0{N:List Str}{sc:Scope}(h:Gf N sc=true):tF N sc/\∀y∈sc.names,y.2= .free->y.1∈N:=by unfold Gf at h;simp only[eu,BS,VX,iy,Bool.or_eq_true,List.contains_iff_mem]at h;obtain⟨⟨⟨⟨h1,h2⟩,h3⟩,h4⟩,h5⟩:=h;have m:∀y∈sc.names,y.2= .free->y.1∈N:=fun y hy e=>(h4 y hy).2.elim (fun z=>(z e).elim) id;exact⟨⟨h1,h2,h3,fun y hy=>(h4 y hy).1,h5,fun x hx=>m _ (tN hx) rfl⟩,m⟩
section
variable {X:Cx} {sc:Scope}
theorem a3p(x0 x1:Str)(j0 j1:Nat)(h:Gf [x0,x1] sc=true)(k0:X.env.kindOf x0=some .cell)(k1:X.env.kindOf x1=some .cell)(n0:X.N[j0]? =some x0)(n1:X.N[j1]? =some x1):SX X [x0,x1] [j0,j1] sc:=by
 obtain⟨S,m⟩:=P0 h;refine⟨S,fun y hy e=>?_,fun i y e=>?_⟩
 · rcases bB.mp (m y hy e)with z|z
   ·rw[z];exact k0
   ·rw[bS.mp z];exact k1
 ·match i,e with |0,e=>cases e;exact⟨_,rfl,n0⟩ |1,e=>cases e;exact⟨_,rfl,n1⟩
end
end L2
namespace Lw
open PySem PySem.Spec PyProof.Rows L2 Ln Rt Cn Pn Wk Rn
open Ow (topR cornO mnO betR atO ownF leadF ownL OkI OkIs)
open Ow (Itm)
def top(i:Nat):Stmt:=PySem.Challenge.pw_glidequeue_k41_let_go_on.main.body.getD i (.Pass ⟨0,0,0,0⟩)
abbrev Dq:Stmt:=top 71
abbrev EG:Stmt:=top 70
abbrev EB:Stmt:=top 26
abbrev El:Stmt:=top 15
abbrev Eg:Stmt:=top 81
abbrev Ef:Stmt:=top 28
abbrev Eh:Stmt:=top 25
abbrev E8:Stmt:=top 21
abbrev Dm:Stmt:=top 22
abbrev Ed:Stmt:=top 23
abbrev Ee:Stmt:=top 24
abbrev Es:Stmt:=top 19
abbrev Ea:Stmt:=top 77
abbrev Er:Stmt:=top 73
abbrev Ei:Stmt:=top 72
abbrev Ek:Stmt:=top 50
def jg:Str:="abcdefghijklmnopqrstuvwxyz"
abbrev E5:Stmt:=top 80
abbrev Dh:Stmt:=top 29
abbrev Di:Stmt:=top 16
abbrev Dj:Stmt:=top 39
abbrev Ez:Stmt:=top 36
abbrev Ej:Stmt:=top 38
abbrev Dl:Stmt:=top 37
abbrev Dk:Stmt:=top 83
abbrev EE:Stmt:=top 58
abbrev zH:Stmt:=top 57
abbrev E4:Stmt:=top 20
abbrev Et:Stmt:=top 59
abbrev Dr:Stmt:=top 74
abbrev Ec:Stmt:=top 75
abbrev E9:Stmt:=top 76
abbrev E3:Stmt:=top 78
abbrev Eb:Stmt:=top 79
abbrev E6:Stmt:=top 32
abbrev Du:Stmt:=top 30
abbrev DD:Stmt:=top 31
abbrev Ew:Stmt:=top 62
abbrev Dp:Stmt:=top 61
abbrev Eu:Stmt:=top 63
abbrev DF:Stmt:=top 68
abbrev Eo:Stmt:=top 55
abbrev Em:Stmt:=top 54
abbrev EH:Stmt:=top 53
abbrev Ep:Stmt:=top 49
abbrev En:Stmt:=top 41
abbrev E7:Stmt:=top 52
abbrev EF:Stmt:=top 51
structure fK(K:aaU)(C:Addr):Prop where
 cl:jF K C
 n_machine:iW K C "machine"
 n_begun_at:iW K C "begun_at"
 n_done:iW K C "done"
 n_queue:iW K C "queue"
 n_pace:iW K C "pace"
 n_rate_now:iW K C "rate_now"
 n_side:iW K C "side"
 n_mark:iW K C "mark"
 n_stopping:iW K C "stopping"
abbrev DI:Stmt:=inClass (top 67) 3
abbrev DM:Stmt:=inClass (top 67) 4
abbrev DH:Stmt:=inClass (top 67) 5
abbrev DQ:Stmt:=inClass (top 67) 6
abbrev DG:Stmt:=inClass (top 67) 7
abbrev DV:Stmt:=inClass (top 67) 8
abbrev DL:Stmt:=inClass (top 67) 9
abbrev DU:Stmt:=inClass (top 67) 10
abbrev DN:Stmt:=inClass (top 67) 1
abbrev DR:Stmt:=inClass (top 67) 2
abbrev DS:Stmt:=inClass (top 67) 0
abbrev DX:Stmt:=inClass (top 67) 11
abbrev E1:Stmt:=inClass (top 67) 16
abbrev DP:Stmt:=inClass (top 67) 15
abbrev DK:Stmt:=inClass (top 67) 14
abbrev DY:Stmt:=inClass (top 67) 13
abbrev DZ:Stmt:=inClass (top 67) 12
abbrev DW:Stmt:=inClass (top 67) 19
abbrev DJ:Stmt:=inClass (top 67) 17
abbrev DT:Stmt:=inClass (top 67) 18
abbrev ED:Stmt:=top 84
abbrev Dn:Stmt:=top 85
abbrev Dt:Stmt:=top 82
abbrev Dx:Stmt:=top 92
abbrev DA:Stmt:=top 93
abbrev Dv:Stmt:=top 87
abbrev DB:Stmt:=top 88
abbrev Dz:Stmt:=top 89
abbrev Dy:Stmt:=top 90
abbrev DC:Stmt:=top 91
abbrev zJ:Stmt:=top 86
abbrev Dw:Stmt:=top 94
structure kJ where
 n:Addr
 o:Addr
 f:Addr
 m:Addr
 r:Addr
structure KC(K:aaU)(R:kJ)(cG:Addr)(cs:List Addr)(C:Addr)(b0 b1 b2 b3 b4:Bool):Prop where
 tk:takes K C cG
 k:mU K C
 i0:PySem.W.kitOne K (.ref C) (.ref R.n)=some b0
 i1:PySem.W.kitOne K (.ref C) (.ref R.o)=some b1
 i2:PySem.W.kitOne K (.ref C) (.ref R.f)=some b2
 i3:PySem.W.kitOne K (.ref C) (.ref R.m)=some b3
 i4:PySem.W.kitOne K (.ref C) (.ref R.r)=some b4
 any:PySem.W.kitAny K (.ref C) (cs.map Value.ref)=some false
 ve:PySem.W.kitOne K (.ref C) (.type "ValueError")=some true
structure BF(K:aaU)(mg:Str->Option Value)(R:kJ)(cG c0 c1 c2 c3 c4 c5:Addr):Prop where
 g:Exc K mg "GlideError" cG vG xj
 h0:GV mg "NoFraction" (.ref c0)
 h1:GV mg "NoLine" (.ref c1)
 h2:GV mg "NoMachine" (.ref c2)
 h3:GV mg "NoPlace" (.ref c3)
 h4:GV mg "NoTape" (.ref c4)
 h5:GV mg "NoText" (.ref c5)
 gn:GV mg "NoItem" (.ref R.n)
 go:GV mg "OffRails" (.ref R.o)
 gm:GV mg "Moving" (.ref R.m)
 gr:GV mg "NoRate" (.ref R.r)
 v:mg "ValueError"=none
 xf:Exc K mg "Full" R.f vG xj
 f:KC K R cG [c0,c1,c2,c3,c4,c5] R.f false false true false false
abbrev DE:Stmt:=top 95
abbrev Ey:Stmt:=top 96
def CS(K:aaU)(T:Addr):Sp:=fun vs H Q _=>∃(a:Addr)(ns:List Int),vs=[.ref a]/\au K H a (ns.map V.int)/\ns.length<=63/\H T=some (.eG #[])/\∀H',Q (.bl true) H'
abbrev ui:Stmt:=top 97
structure SN(K:aaU)(mg:Str->Option Value)(C:Addr):Prop where
 tc:fK K C
 init:CA K mg C "Runner" "Runner.__init__" DS
 m_place:MA K C "place" "Runner.place" DN
 m_leads_to:MA K C "leads_to" "Runner.leads_to" DR
 m_square:MA K C "square" "Runner.square" DI
 m_rate:MA K C "rate" "Runner.rate" DM
 m_tool:MA K C "tool" "Runner.tool" DH
 m_last_mark:MA K C "last_mark" "Runner.last_mark" DQ
 m_waiting:MA K C "waiting" "Runner.waiting" DG
 m_is_held:MA K C "is_held" "Runner.is_held" DV
 m_stands:MA K C "stands" "Runner.stands" DL
 m_is_halted:MA K C "is_halted" "Runner.is_halted" DU
 m_feed:MA K C "feed" "Runner.feed" DX
 m_entries:MA K C "entries" "Runner.entries" DZ
 m_entries_of_first:MA K C "entries_of_first" "Runner.entries_of_first" DY
 m_steps_of_first:MA K C "steps_of_first" "Runner.steps_of_first" DK
 m_next_square:MA K C "next_square" "Runner.next_square" DP
 m_end_first:MA K C "end_first" "Runner.end_first" E1
 m_stops_in:MA K C "stops_in" "Runner.stops_in" DJ
 m_hold:MA K C "hold" "Runner.hold" DT
 m_go:MA K C "go" "Runner.go" DW
structure All(T:Addr)(K:aaU)(mg:Str->Option Value):Prop where
 B:bw mg
 g_NOUGHT:GT K mg "NOUGHT" [.int 0,.int 1]
 g_SIDES:GT K mg "SIDES" [.str "up",.str "down"]
 g_LEAST_RATE:GV mg "LEAST_RATE" (.int 10)
 g_GREATEST_RATE:GV mg "GREATEST_RATE" (.int 200)
 g_FIRST_RATE:GV mg "FIRST_RATE" (.int 100)
 g_MOST_WAITING:GV mg "MOST_WAITING" (.int 20)
 g_MOST_STEPS:GV mg "MOST_STEPS" (.int 100)
 g_GREATEST_SPEED:GV mg "GREATEST_SPEED" (.int 20)
 g_LONGEST_WAIT:GV mg "LONGEST_WAIT" (.int 1000)
 g_LONGEST_NAME:GV mg "LONGEST_NAME" (.int 8)
 g_LETTERS:GV mg "LETTERS" (.str jg)
 f_is_whole:FA K mg "is_whole" El
 f_is_whole_within:FA K mg "is_whole_within" Di
 f_fraction:FA K mg "fraction" Es
 f_plus_whole:FA K mg "plus_whole" E4
 f_minus:FA K mg "minus" E8
 f_times:FA K mg "times" Dm
 f_is_less:FA K mg "is_less" Ed
 f_least:FA K mg "least" Ee
 f_lowest_terms:FA K mg "lowest_terms" Eh
 f_common_divisor:FA K mg "common_divisor" EB
 f_lead_of:FA K mg "lead_of" Ef
 f_ways_of:FA K mg "ways_of" Dh
 f_stand_at:FA K mg "stand_at" Du
 f_step_rows:FA K mg "step_rows" DD
 f_nearest:FA K mg "nearest" E6
 f_corner_square:FA K mg "corner_square" Ez
 f_top_square:FA K mg "top_square" Dl
 f_is_rate:FA K mg "is_rate" Ej
 f_greatest_turn:FA K mg "greatest_turn" Dj
 f_is_place:FA K mg "is_place" En
 f_is_item:FA K mg "is_item" Ep
 f_is_line:FA K mg "is_line" Ek
 f_place_behind:FA K mg "place_behind" EF
 f_moved:FA K mg "moved" E7
 f_are_steps:FA K mg "are_steps" EH
 f_is_short_item:FA K mg "is_short_item" Em
 f_is_name:FA K mg "is_name" Eo
 f_own_bounds:FA K mg "own_bounds" zH
 f_bound_between:FA K mg "bound_between" EE
 f_kept_by_fall:FA K mg "kept_by_fall" Et
 f_ticks_of:FA K mg "ticks_of" Dp
 f_are_enough:FA K mg "are_enough" Ew
 f_step_entry:FA K mg "step_entry" Eu
 f_reach_behind_first:FA K mg "reach_behind_first" DF
 f__law_bag:FA K mg "_law_bag" EG
 f__law_take:FA K mg "_law_take" Dq
 f__law_number:FA K mg "_law_number" Ei
 f__law_frac:FA K mg "_law_frac" Er
 f__law_sum:FA K mg "_law_sum" Dr
 f__law_less:FA K mg "_law_less" Ec
 f__law_min:FA K mg "_law_min" E9
 f__law_machine:FA K mg "_law_machine" Ea
 f__law_place:FA K mg "_law_place" E3
 f__law_line:FA K mg "_law_line" Eb
 f__law_other:FA K mg "_law_other" E5
 f__law_lead:FA K mg "_law_lead" Eg
 f__law_stand:FA K mg "_law_stand" Dt
 f__law_top:FA K mg "_law_top" Dk
 f__law_bounds:FA K mg "_law_bounds" ED
 f__law_ticks:FA K mg "_law_ticks" Dn
 f__law_alike:FA K mg "_law_alike" zJ
 f__law_sim:FA K mg "_law_sim" Dv
 f__law_sim_feed:FA K mg "_law_sim_feed" DB
 f__law_reach:FA K mg "_law_reach" Dz
 f__law_sim_step:FA K mg "_law_sim_step" Dy
 f__law_sim_entries:FA K mg "_law_sim_entries" DC
 f__law_sim_stops:FA K mg "_law_sim_stops" Dx
 f__law_sim_hold:FA K mg "_law_sim_hold" DA
 f__law_seen:FA K mg "_law_seen" Dw
 f__law_refused:FA K mg "_law_refused" DE
 f__law_deed:yC K mg "_law_deed" Ey T
 law:FA K mg "law" ui
 rc:∃C,SN K mg C
 rf:∃R cG c0 c1 c2 c3 c4 c5,BF K mg R cG c0 c1 c2 c3 c4 c5
def yo(K:aaU)(P:aaW):Prop:=∀(T:Addr)(w:World)(mg:Str->Option Value)(base:Heap)(f:Addr)(fd:FuncData),All T K mg->base.BuiltinsAt mg T->jE K "law" "law" ui f fd->iK P w K mg base iX 14 f fd ["_law_script"] (CS K T)
@[irreducible] noncomputable def KP:aaU×aaW:=Classical.epsilon fun x=>¬yo x.1 x.2
@[irreducible] noncomputable def K:aaU:=KP.1
@[irreducible] noncomputable def P:aaW:=KP.2
theorem WR(h:yo K P)(K':aaU)(P':aaW):yo K' P':=Classical.byContradiction fun n=>by have e:=Classical.epsilon_spec (p:=fun x:aaU×aaW=>¬yo x.1 x.2) ⟨(K',P'),n⟩;unfold K P KP at h;exact e h
section
variable {w:World}{mg:Str->Option Value}{base:Heap}
inductive Tx(vs:List V)(H:Hp)(Q:VK):Prop |mk (p:_)(many:_)(h0:vs=[.ref p,.int many])(h1:fW H p)(h2:1<=many)(h3:many<=10^40)(h4:∀d H',0<=d->d<many->bK p H H'->Q (.int d) H'):Tx vs H Q
def oZ:Sp:=fun vs H Q _=>Tx vs H Q
theorem LN:aW ["_law_bag_here","_law_many","_law_digit","_law_number_here","_law_room"] ["_law_bag_here","_law_many"] (aK Dq):=bh (by decide+kernel)
theorem a0Q(F:FA K mg "_law_take" Dq)(B:bw mg):aj P w K mg base "_law_take" 1 oZ:=by
 refine F.has LN (fun vs H Q E h=>?_) (fun _ _ _ _ _ _=>cW fun _ _=>rfl) (fun f aD A outer s H vs Q E hr h=>?_)
 · obtain⟨p,many,rfl,_⟩:=h
   rfl
 · obtain⟨p,many,rfl,⟨c,m,hp,ok⟩,h1,h2,k⟩:=h
   obtain⟨c0,m0,m1⟩:=id ok;have nd:=LN.nd;refine⟨_,(ai (bj (bL qX (px K (pv 0) ah) ah (ba _)) (ai (pS 2 nd (az ph (px K (pv 0) ah) (pv 1))) (ai (fF (az lD (px K (pv 0) ah) (pv 1)) (qW (pv 0) ah set_list)) (aw (aJ (pv 2))))) bu) (ai (pS 3 nd ah) (ai (pS 4 nd ah) (ai (md gE (bL jv (pv 4) (pv 1) (ba _)) (ai (fF (az ph (az uz (az cE (az bc (px K (pv 0) ah) ah) ah) ah) ah) (qW (pv 0) ah set_list)) (ai (pS 3 nd (az cE (az bc (pv 3) ah) (az ph (az bc (az lD (px K (pv 0) ah) ah) ah) ah))) (aw (pS 4 nd (az bc (pv 4) ah)))))) (aw (aJ (az ph (pv 3) (pv 1)))))))),?_⟩;refine⟨_,rfl,.inl ⟨p,_,0,.int c,rfl,rfl,au.of hp,rfl,_,_,rfl,rfl,_,rfl,?_⟩⟩;refine dC (fun hc=>?_) (fun _=>?_)
   · refine⟨_,rfl,.inl ⟨p,_,0,.int c,rfl,rfl,au.of hp,rfl,_,rfl,_,_,rfl,rfl,h1,?_⟩⟩
     refine⟨_,rfl,.inl ⟨p,_,0,.int c,rfl,rfl,au.of hp,rfl,_,rfl,_,_,rfl,rfl,⟨h1,JU (by lia) h2⟩,?_⟩⟩;refine⟨_,rfl,p,_,0,0,rfl,rfl,hp,rfl,?_⟩;refine⟨_,rfl,?_⟩;exact k _ _ (ng _ (by lia)) (qz _ (by lia)) (bK.upd ⟨Int.ediv_nonneg c0 (by lia),m0,m1⟩)
   · refine lV (fun σ H2=>∃(v:Option V)(n r:Int),σ=[some (.ref p),some (.int many),v,some (.int n),some (.int r)]/\bK p H H2/\1<=r) (fun σ _=>match σ with|[_,_,_,_,some (.int r)]=>(many-r).toNat|_=>0) ?_ ?_ ?_
     ·exact⟨none,0,1,rfl,.refl ⟨c,m,hp,ok⟩,fY _⟩
     · rintro σ H2 ⟨v,n,r,rfl,bx,AD⟩
       obtain⟨c',m',uY,c0',m0',m1'⟩:=id bx.bag;refine⟨_,rfl,_,rfl,_,_,rfl,rfl,_,rfl,?_⟩;refine dC (fun hc=>?_) (fun hc=>?_)
       · have bV:r<many:=jm hc
         refine⟨_,rfl,.inl ⟨p,_,1,.int m',rfl,rfl,au.of uY,rfl,_,_,rfl,rfl,.of_right (bM (by decide) (by decide)),_,_,rfl,rfl,_,_,rfl,rfl,⟨by decide,by decide,?_⟩,_,_,rfl,rfl,(by show(0:Int)<2147483629;decide),?_⟩⟩
         · have kF:(2:Nat)^64=18446744073709551616:=by decide
           rw[kF];lia
         refine⟨_,rfl,p,_,1,1,rfl,rfl,uY,rfl,?_⟩;have g0:0<=((m'*48271+7919)^(5:Int).toNat)%2147483629:=ng _ (by decide);have g1:((m'*48271+7919)^(5:Int).toNat)%2147483629<2147483629:=qz _ (by decide);have bx2:bK p H (L2.upd H2 p (.lst [.int c',.int (((m'*48271+7919)^(5:Int).toNat)%2147483629)])):=bx.trans (.upd ⟨c0',g0,Int.lt_trans g1 (by decide)⟩);refine⟨_,rfl,_,_,rfl,rfl,.of_right (bM (by decide) (by decide)),_,rfl,.inl ⟨p,_,1,.int _,rfl,rfl,au.of aQ,rfl,_,_,rfl,rfl,⟨by decide,JU (by decide) (by decide)⟩,_,_,rfl,rfl,.of_right (bM (by decide) (by decide)),_,_,rfl,rfl,(by show(0:Int)<1073741789;decide),_,_,rfl,rfl,?_⟩⟩;refine⟨_,rfl,_,_,rfl,rfl,.of_right (bM (by decide) (by decide)),?_⟩;refine⟨⟨v,_,_,rfl,bx2,?_⟩,?_⟩
         ·lia
         · show(many-r*1073741789).toNat<(many-r).toNat
           lia
       · refine⟨_,rfl,_,rfl,_,_,rfl,rfl,h1,?_⟩
         exact k _ _ (ng _ (by lia)) (qz _ (by lia)) bx
     · rintro σ H2 Q1 Q2 hq ⟨v1,e1,v2,e2,i,j,e3,e4,kk,e5,q⟩
       exact⟨v1,e1,v2,e2,i,j,e3,e4,kk,e5,hq _ _ q⟩
inductive UI(K:aaU)(vs:List V)(H:Hp)(Q:VK):Prop |mk (a:Addr)(ns:List Int)(at':Int)(h0:vs=[.ref a,.int at'])(h1:au K H a (ns.map V.int))(h2:ns.length<=63)(h3:0<=at')(h4:at'<=100)(h5:∀p H',H p=none->fW H' p->ak H H'->Q (.ref p) H'):UI K vs H Q
def Lr(K:aaU):Sp:=fun vs H Q _=>UI K vs H Q
theorem MR:aW ["_law_script","_law_at","_law_cell","_law_mix","_law_k"] ["_law_script","_law_at"] (aK EG):=bh (by decide+kernel)
theorem Pk{ns:List Int}{j:Nat}(h:j<ns.length):∃z,fz (ns.map V.int) (j:Int)=some (.int z):=⟨ns[j],a8J (by simp[h])⟩
theorem a2a(F:FA K mg "_law_bag" EG)(B:bw mg):aj P w K mg base "_law_bag" 1 (Lr K):=by
 refine F.has MR (fun vs H Q E h=>?_) (fun _ _ _ _ _ _=>cW fun _ _=>rfl) (fun f aD A outer s H vs Q E hr h=>?_)
 · obtain⟨a,ns,at',rfl,_⟩:=h
   rfl
 · obtain⟨a,ns,at',rfl,hS,hlen,h0,h1,k⟩:=h
   obtain⟨j,rfl⟩:∃j:Nat,at'=(j:Int):=⟨at'.toNat,by lia⟩;have nd:=MR.nd;refine⟨_,(ai (pS 2 nd ah) (ai (gy (bj (bL jv (pv 1) (dv K B (aa (pv 0) ae)) (ba _)) (aw (pS 2 nd (cQ (x:="abs") mK rfl (B.at "abs") oP (aa (px K (pv 0) (pv 1)) ae)))) bu)) (ai (pS 3 nd (az cE (az cE (az bc (az bc ah (pv 1)) (pv 1)) (az bc ah (pv 1))) ah)) (ai (kU gE rfl (wU rfl (B.at "range") (aa (cQ (x:="min") (II rfl) rfl (B.at "min") VF (aa (dv K B (aa (pv 0) ae)) (aa ah ae))) ae)) (aX 4 nd) (aw (pS 3 nd (az ph (az uz (az cE (az cE (az bc (pv 3) ah) (az ph (px K (pv 0) (pv 4)) ah)) (az bc (pv 4) (pv 4))) ah) ah)))) (ai (gy (bj (bL jv (pv 2) (az uz ah ah) (ba _)) (aw (pS 2 nd ah)) bu)) (aw (aJ (cV (aa (pv 2) (aa (pv 3) ae)))))))))),?_⟩;refine⟨fun σ H'=>H'=H/\∃c:Int,σ=[some (.ref a),some (.int (j:Int)),some (.int c),none,none]/\0<=c,?_,?_⟩
   · refine⟨_,rfl,_,rfl,a,_,rfl,.inl hS,_,_,rfl,rfl,_,rfl,?_⟩
     refine dC (fun hc=>?_) (fun _=>?_)
     · have hj:(j:Int)<((ns.map V.int).length:Int):=jm hc
       rw[bT]at hj;obtain⟨z,hz⟩:=Pk (ns:=ns) (j:=j) (by lia);refine⟨_,rfl,_,rfl,.inl ⟨a,_,_,_,rfl,rfl,hS,hz,z,rfl,?_⟩⟩;exact⟨rfl,_,rfl,by split<;>lia⟩
     ·exact⟨rfl,0,rfl,fY _⟩
   rintro σ H' ⟨rfl,c,rfl,c0⟩;refine⟨_,rfl,_,_,rfl,rfl,.of_left (bM (by decide) (by decide)),_,rfl,_,_,rfl,rfl,.of_right (bM (by lia) (by lia)),_,rfl,_,_,rfl,rfl,.of_left (bM (by decide) (by decide)),_,_,rfl,rfl,_,_,rfl,rfl,?_⟩;refine⟨_,rfl,a,_,rfl,.inl hS,_,_,rfl,_,rfl,?_,?_,?_⟩
   ·split<;>lia
   ·split<;>(try rw[bT])<;>lia
   refine B9 (Pv:=fun i σ H2=>H2=H'/\∃(m:Int)(v:Option V),σ=[some (.ref a),some (.int (j:Int)),some (.int c),some (.int m),v]/\0<=m/\m<2147483648) ?_ ?_ ?_
   · refine⟨rfl,_,none,rfl,?_,?_⟩
     · have:(0:Int)<=(j:Int)*(j:Int):=jo (by lia) (by lia)
       rw[tV];lia
     · have:(j:Int)*(j:Int)<=100*100:=Cb (by lia) (by lia) (by lia) (by lia)
       rw[tV];lia
   · rintro i σ H2 hi ⟨rfl,m,v,rfl,m0,m1⟩
     have GQ:i<ns.length:=by rw[bT]at hi;split at hi<;>lia
     obtain⟨z,hz⟩:=Pk (ns:=ns) (j:=i) GQ;rw[<-Int.zero_add (i:Int)]at hz;have hz0:0<=z%2147483647:=ng _ (by decide);have hz1:z%2147483647<2147483647:=qz _ (by decide);have a57:(0:Int)<=(0+(i:Int))*(0+(i:Int)):=jo (by lia) (by lia);have hii:(0+(i:Int))*(0+(i:Int))<=100*100:=Cb (by lia) (by lia) (by lia) (by lia);refine⟨_,rfl,_,_,rfl,rfl,.of_right (bM (by decide) (by decide)),_,rfl,_,rfl,.inl ⟨a,_,_,_,rfl,rfl,hS,hz,_,_,rfl,rfl,(by show(0:Int)<2147483647;decide),_,_,rfl,rfl,_,rfl,_,rfl,_,_,rfl,rfl,.of_right (bM (by lia) (by lia)),_,_,rfl,rfl,_,_,rfl,rfl,⟨by decide,by decide,?_⟩,_,_,rfl,rfl,(by show(0:Int)<2147483629;decide),?_⟩⟩
     · have kF:(2:Nat)^64=18446744073709551616:=by decide
       rw[kF];generalize(0+(i:Int))*(0+(i:Int))=ii at a57 hii⊢;generalize z%2147483647=zz at hz0 hz1⊢
       lia
     ·exact⟨rfl,_,_,rfl,ng _ (by decide),Int.lt_trans (qz _ (by decide)) (by decide)⟩
   · rintro σ H2 ⟨rfl,m,v,rfl,m0,m1⟩
     refine⟨fun σ H3=>H3=H2/\∃c:Int,σ=[some (.ref a),some (.int (j:Int)),some (.int c),some (.int m),v]/\0<=c,?_,?_⟩
     · refine⟨_,rfl,_,_,rfl,rfl,⟨by decide,by decide,by decide⟩,_,_,rfl,rfl,_,rfl,?_⟩
       refine dC (fun hc=>?_) (fun _=>?_)
       ·exact⟨rfl,0,rfl,fY _⟩
       ·exact⟨rfl,c,rfl,c0⟩
     rintro σ H3 ⟨rfl,c,rfl,c0⟩;refine⟨_,rfl,_,rfl,(by show 2<=sizeLine;decide),fun p H4 nw=>?_⟩;exact k p H4 nw.no ⟨c,m,nw.at',c0,m0,m1⟩ nw.same
inductive UB(vs:List V)(H:Hp)(Q:VK):Prop |mk (a:Int)(b:Int)(h0:vs=[.int a,.int b])(h1:Q (.int (Int.gcd a b)) H):UB vs H Q
def CW:Sp:=fun vs H Q _=>UB vs H Q
inductive Uo(vs:List V)(H:Hp)(Q:VK):Prop |mk (a:Int)(b:Int)(h0:vs=[.int a,.int b])(h1:b≠0)(h2:Wd b)(h3:∀t H',Nw H H' t (.tup [.int (Ar.lowP a b),.int (Ar.gq a b)])->Q (.ref t) H'):Uo vs H Q
def ub:Sp:=fun vs H Q _=>Uo vs H Q
def uV(T:String):Bool:=iz T "int"&& !iz T "bool"
inductive Uu(K:aaU)(vs:List V)(H:Hp)(Q:VK):Prop |mk (v:_)(T:_)(h0:vs=[v])(h1:tm K H v T)(h2:Q (.bl (uV T)) H):Uu K vs H Q
def ud(K:aaU):Sp:=fun vs H Q _=>Uu K vs H Q
theorem MN:aW ["p","q","high","low"] ["p","q"] (aK EB):=bh (by decide+kernel)
theorem a26(F:FA K mg "common_divisor" EB)(B:bw mg):aj P w K mg base "common_divisor" 1 CW:=by
 refine F.has MN (fun vs H Q E h=>?_) (fun _ _ _ _ _ _=>cW fun _ _=>rfl) (fun f aD A outer s H vs Q E hr h=>?_)
 · obtain⟨a,b,rfl,_⟩:=h
   rfl
 · obtain⟨a,b,rfl,k⟩:=h
   have nd:=MN.nd;refine⟨_,(ai (nO (i:=2) (j:=3) rfl nd rfl rfl (by decide) rfl rfl (aa (cQ (x:="abs") mK rfl (B.at "abs") oP (aa (pv 0) ae)) (aa (cQ (x:="abs") mK rfl (B.at "abs") oP (aa (pv 1) ae)) ae)) rfl) (ai (md gE (bL (j8 K rfl hr.units) (pv 3) ah (ba _)) (aw (nO (i:=2) (j:=3) rfl nd rfl rfl (by decide) rfl rfl (aa (pv 3) (aa (az ph (pv 2) (pv 3)) ae)) rfl))) (aw (aJ (pv 2))))),?_⟩;refine⟨_,rfl,_,rfl,_,rfl,_,rfl,_,_,rfl,?_⟩;refine lV (fun σ H2=>H2=H/\∃(x y:Int),σ=[some (.int a),some (.int b),some (.int x),some (.int y)]/\0<=x/\0<=y/\Int.gcd x y=Int.gcd a b) (fun σ _=>match σ with|[_,_,_,some (.int y)]=>y.natAbs|_=>0) ?_ ?_ ?_
   · refine⟨rfl,_,_,rfl,by split<;>lia,by split<;>lia,?_⟩
     have h1:(if a<0 then-a else a).natAbs=a.natAbs:=by split<;>lia
     have h2:(if b<0 then-b else b).natAbs=b.natAbs:=by split<;>lia
     unfold Int.gcd;rw[h1,h2]
   · rintro σ H2 ⟨rfl,x,y,rfl,x0,y0,e⟩
     refine⟨_,rfl,.inl ⟨_,_,rfl,rfl,_,rfl,?_⟩⟩;refine dC (fun hc=>?_) (fun hc=>?_)
     · have hy:y≠0:=by simpa using hc
       have jx:0<y:=by lia
       refine⟨_,rfl,_,rfl,_,rfl,_,_,rfl,rfl,jx,_,_,rfl,?_⟩;refine⟨⟨rfl,_,_,rfl,y0,ng _ hy,(Ar.Qr jx).trans e⟩,?_⟩;show(x%y).natAbs<y.natAbs;have:=ng x hy;have:=qz x jx
       lia
     · have hy:y=0:=by simpa using hc
       subst hy;refine⟨_,rfl,?_⟩;rw[Int.gcd_zero_right]at e;have e2:x=((Int.gcd a b:Nat):Int):=by lia
       rw[e2];exact k
   · rintro σ H2 Q1 Q2 hq ⟨v1,e1,h⟩
     refine⟨v1,e1,?_⟩;rcases h with⟨i,j,e3,e4,kk,e5,q⟩|⟨d,e,r1,r2,s1,s2,kk,e5,q⟩
     ·exact .inl ⟨i,j,e3,e4,kk,e5,hq _ _ q⟩
     ·exact .inr ⟨d,e,r1,r2,s1,s2,kk,e5,hq _ _ q⟩
theorem MB:aW ["thing"] ["thing"] (aK El):=bh (by decide+kernel)
theorem a1S(F:FA K mg "is_whole" El)(B:bw mg):aj P w K mg base "is_whole" 1 (ud K):=by
 refine F.has MB (fun vs H Q E h=>?_) (fun _ _ _ _ _ _=>dJ fun _=>rfl) (fun f aD A outer s H vs Q E hr h=>?_)
 · obtain⟨v,T,rfl,_⟩:=h
   rfl
 · obtain⟨v,T,rfl,ty,k⟩:=h
   have nd:=MB.nd;refine⟨_,(aw (aJ (hO (cY K B (aa (pv 0) (aa (cL (x:="int") (v:=.ty "int") rfl (B.at "int") Jw rfl) ae))) (iE (NH (cY K B (aa (pv 0) (aa (cL (x:="bool") (v:=.ty "bool") rfl (B.at "bool") VG rfl) ae)))))))),?_⟩;refine⟨_,rfl,.inl ⟨_,T,"int",_,rfl,ty,by decide,rfl,_,rfl,?_⟩⟩;unfold uV at k;refine dC (fun hc=>?_) (fun hc=>?_)
   · refine⟨_,rfl,.inl ⟨_,T,"bool",_,rfl,ty,by decide,rfl,_,rfl,?_⟩⟩
     rw[hc,jJ]at k;exact k
   · rw[vZ.mpr hc,jW]at k
     exact k
def hZ(ns:List Int)(sp:Int):aaX:=.tuple [.str "line",.tuple (ns.map PyData.int),.int sp]
theorem Ak(ns:List Int)(sp:Int):eR (hZ ns sp)=true:=by simp[hZ,eR,cB,kj]
structure dR(ax:Nat)(m:Int)(ns:List Int):Prop where
 len:ns.length=ax
 bd:∀z∈ns,(z.natAbs:Int)<=m
 nz:∃z∈ns,z≠0
theorem dR.lead{ax:Nat}{m:Int}{ns:List Int}(h:dR ax m ns):0<ay ns/\(ay ns:Int)<=m:=by
 refine⟨a3k h.nz,?_⟩;have hm:0<=m:=by obtain⟨z,hz,_⟩:=h.nz;have:=h.bd z hz;lia
 have:=mm (ns:=ns) (m:=m.toNat) fun z hz=>by have:=h.bd z hz;lia
 lia
theorem dR.ne{ax:Nat}{m:Int}{ns:List Int}(h:dR ax m ns):ns≠[]:=by obtain⟨z,hz,_⟩:=h.nz;intro e;subst e;cases hz
theorem kX{H:Hp}{v:V}{ns:List Int}{sp:Int}(h:RD K H v (hZ ns sp)):∃a b,v= .ref a/\aI K H a [.str "line",.ref b,.int sp]/\aI K H b (ns.map V.int):=by obtain⟨a,xs,rfl,h1,h2⟩:=h.dF;obtain⟨x1,r1,rfl,e1,h2⟩:=h2.cons_inv;obtain⟨x2,r2,rfl,e2,h2⟩:=h2.cons_inv;obtain⟨x3,r3,rfl,e3,h2⟩:=h2.cons_inv;cases h2.nil_inv;cases e1.str_inv;cases e3.int_inv;obtain⟨b,ys,rfl,h3,h4⟩:=e2.dF;rw[h4.iH]at h3;exact⟨a,b,rfl,h1,h3⟩
inductive Us(K:aaU)(vs:List V)(H:Hp)(Q:VK):Prop |mk (v:_)(ns:_)(sp:_)(h0:vs=[v])(h1:RD K H v (hZ ns sp))(h2:ns≠[])(h3:ns.length<=1000)(h4:∀H',ak H H'->Q (.int (ay ns)) H'):Us K vs H Q
def kQ(K:aaU):Sp:=fun vs H Q _=>Us K vs H Q
theorem lE{ns:List Int}{f:Int->aaX}{i:Nat}{d:aaX}(h:(ns.map f)[i]? =some d):∃n,ns[i]? =some n/\f n=d:=by rw[bZ]at h;cases e:ns[i]? with |none=>rw[e]at h;cases h |some n=>rw[e]at h;exact⟨n,rfl,dj h⟩
theorem xB{ns:List Int}{i:Nat}{x:V}{n:Int}(h:(ns.map V.int)[i]? =some x)(e:ns[i]? =some n):x= .int n:=by rw[bZ,e]at h;exact(dj h).symm
theorem Mt:aW ["_law_line_here"] ["_law_line_here"] (aK Eg):=bh (by decide+kernel)
theorem a1Q(F:FA K mg "_law_lead" Eg)(B:bw mg):aj P w K mg base "_law_lead" 1 (kQ K):=by
 refine F.has Mt (fun vs H Q E h=>?_) (fun _ _ _ _ _ _=>dJ fun _=>rfl) (fun f aD A outer s H vs Q E hr h=>?_)
 · obtain⟨v,ns,sp,rfl,_⟩:=h
   rfl
 · obtain⟨v,ns,sp,rfl,rd,cZ,hz,k⟩:=h
   have nd:=Mt.nd;obtain⟨a,b,rfl,ha,hb⟩:=kX rd;refine⟨_,(aw (aJ (cQ (x:="max") (FZ K rfl rfl) rfl (B.at "max") BZ (aa (fO (N:=["_law_step"]) (js:=[none]) rfl rfl rfl (p9 K rfl (px K (pv 0) ah)) (fun _ _ _ _ _=>(aX 0 (rE _))) (fun _ _ _ _ _=>fh) (fun _ _ _ _ _=>(cQ (x:="abs") mK rfl (B.at "abs") oP (aa (pv 0) ae)))) ae)))),?_⟩;refine⟨_,rfl,.inr ⟨a,_,1,.ref b,rfl,rfl,ha,rfl,b,rfl,⟨_,hb⟩,fun D H0 nw=>?_⟩⟩;refine Bo (K:=K) (xs:=ns.map V.int) (ds:=(ns.map ij).map PyData.int) [] hb nw (by simp) (by simpa using hz) (kj _) ?_ ?_
   · intro i x d H2 Q' ex ed s2 hq
     obtain⟨m,em,rfl⟩:=lE ed;rw[bZ]at em;cases en:ns[i]? with |none=>rw[en]at em;cases em |some n=>rw[en]at em;cases em;cases xB ex en;exact⟨_,rfl,n,rfl,hq _ _ (ak.refl _) (cX _)⟩
   · intro H' ys s2 d2 r2
     rw[r2.iH]at d2;refine⟨D,_,rfl,au.of d2,by simpa using cZ,fun M h1 h2=>?_⟩;rw[Ga cZ h1 h2];exact k H' s2
theorem Ms:aW ["line"] ["line"] (aK Ef):=bh (by decide+kernel)
theorem a1P(F:FA K mg "lead_of" Ef)(B:bw mg):aj P w K mg base "lead_of" 1 (kQ K):=by
 refine F.has Ms (fun vs H Q E h=>?_) (fun _ _ _ _ _ _=>dJ fun _=>rfl) (fun f aD A outer s H vs Q E hr h=>?_)
 · obtain⟨v,ns,sp,rfl,_⟩:=h
   rfl
 · obtain⟨v,ns,sp,rfl,rd,cZ,hz,k⟩:=h
   have nd:=Ms.nd;obtain⟨a,b,rfl,ha,hb⟩:=kX rd;refine⟨_,(aw (aJ (cQ (x:="max") (FZ K rfl rfl) rfl (B.at "max") BZ (aa (fO (N:=["step"]) (js:=[none]) rfl rfl rfl (p9 K rfl (px K (pv 0) ah)) (fun _ _ _ _ _=>(aX 0 (rE _))) (fun _ _ _ _ _=>fh) (fun _ _ _ _ _=>(cQ (x:="abs") mK rfl (B.at "abs") oP (aa (pv 0) ae)))) ae)))),?_⟩;refine⟨_,rfl,.inr ⟨a,_,1,.ref b,rfl,rfl,ha,rfl,b,rfl,⟨_,hb⟩,fun D H0 nw=>?_⟩⟩;refine Bo (K:=K) (xs:=ns.map V.int) (ds:=(ns.map ij).map PyData.int) [] hb nw (by simp) (by simpa using hz) (kj _) ?_ ?_
   · intro i x d H2 Q' ex ed s2 hq
     obtain⟨m,em,rfl⟩:=lE ed;rw[bZ]at em;cases en:ns[i]? with |none=>rw[en]at em;cases em |some n=>rw[en]at em;cases em;cases xB ex en;exact⟨_,rfl,n,rfl,hq _ _ (ak.refl _) (cX _)⟩
   · intro H' ys s2 d2 r2
     rw[r2.iH]at d2;refine⟨D,_,rfl,au.of d2,by simpa using cZ,fun M h1 h2=>?_⟩;rw[Ga cZ h1 h2];exact k H' s2
theorem Mw:aW ["p","q","divisor"] ["p","q"] (aK Eh):=bh (by decide+kernel)
theorem a1J(F:FA K mg "lowest_terms" Eh)(B:bw mg)(a5p:aj P w K mg base "common_divisor" 1 CW):aj P w K mg base "lowest_terms" 2 ub:=by
 refine F.has Mw (fun vs H Q E h=>?_) (fun _ _ _ _ _ _=>cW fun _ _=>rfl) (fun f aD A outer s H vs Q E hr h=>?_)
 · obtain⟨a,b,rfl,_⟩:=h
   rfl
 · obtain⟨a,b,rfl,hb,wb,k⟩:=h
   have nd:=Mw.nd;have sw:Wd (Ar.sg a b):=oQ (Ar.Lx hb) wb;refine⟨_,(ai (pS 2 nd (pf a5p hr (aa (pv 0) (aa (pv 1) ae)))) (ai (gy (bj (bL jv (pv 1) ah (ba _)) (aw (pS 2 nd (wW wj (pv 2)))) bu)) (aw (aJ (dw (aa (az O1 (pv 0) (pv 2)) (aa (az O1 (pv 1) (pv 2)) ae))))))),?_⟩;refine⟨_,rfl,_,rfl,a,b,rfl,?_⟩;refine⟨fun σ H'=>H'=H/\σ=[some (.int a),some (.int b),some (.int (Ar.sg a b))],?_,?_⟩
   · refine⟨_,rfl,_,_,rfl,rfl,_,rfl,?_⟩
     refine dC (fun hc=>?_) (fun hc=>?_)
     · have hd:b<0:=jm hc
       refine⟨_,rfl,_,rfl,?_⟩;refine⟨rfl,?_⟩;unfold Ar.sg;rw[aO hd];rfl
     · have hd:¬b<0:=fun z=>hc (ck z)
       refine⟨rfl,?_⟩;unfold Ar.sg;rw[aP hd];rfl
   rintro σ H' ⟨rfl,rfl⟩;refine⟨_,rfl,_,rfl,_,_,rfl,rfl,⟨Ar.wH hb,sw⟩,_,rfl,_,rfl,_,_,rfl,rfl,⟨Ar.wH hb,sw⟩,(by show 2<=sizeLine;decide),fun t H4 nw=>?_⟩;exact k t H4 nw
def aR(K:aaU)(H:Hp)(v:V)(r:Rat):Prop:=∃p,v= .ref p/\aI K H p [.int r.num,.int r.den]
theorem aR.go{H H':Hp}{v:V}{r:Rat}(h:aR K H v r)(s:ak H H'):aR K H' v r:=by obtain⟨p,e,q⟩:=h;exact⟨p,e,q.go s⟩
def cD(r:Rat):aaX:=.tuple [.int r.num,.int r.den]
theorem aR.rd{H:Hp}{v:V}{r:Rat}(h:aR K H v r):RD K H v (cD r):=by obtain⟨p,rfl,q⟩:=h;exact iB q (bJ (cX _) (bJ (cX _) cF))
theorem Nq(r:Rat):cU 1 (cD r):=fV.tup (.cons (.int _) (.cons (.int _) .nil))
theorem Zg(r:Rat):SeqAt.shaped (cD r)=true:=(Nq r).shaped (by decide)
theorem eqR{r s:Rat}(h:r=s):PyData.eqv (cD r) (cD s)=true:=by rw[h];exact(Nq s).refl
theorem gF{n:Nat}{i:Int}(h:i.natAbs<2^n)(l:n<=5000):Wd i:=fL h (qx (by decide) l)
theorem _root_.Rt.Bd.wn{r:Rat}(h:Bd 2000 r):Wd r.num:=gF h.num (by decide)
theorem _root_.Rt.Bd.wd{r:Rat}(h:Bd 2000 r):Wd (r.den:Int):=gF (n:=2000) (by have:=h.den;omega) (by decide)
theorem yZ{r s:Rat}(h:Bd 2000 r)(g:Bd 2000 s):Wd ((r.den:Int)*(s.den:Int)):=gF (n:=4000) (IA h g) (by decide)
theorem zT{H':Hp}{t:Addr}{a b:Int}{r:Rat}(hb:b≠0)(e:r=Rat.divInt a b)(h:H' t=some (.tup [.int (Ar.lowP a b),.int (Ar.gq a b)])):aR K H' (.ref t) r:=by obtain⟨e1,e2⟩:=Ag (a:=a) hb;rw[e1,e2,<-e]at h;exact⟨t,rfl,aI.of h⟩
inductive Uc(op:Rat->Rat->Rat)(K:aaU)(vs:List V)(H:Hp)(Q:VK):Prop |mk (v1:_)(v2:_)(r:_)(s:_)(h0:vs=[v1,v2])(h1:aR K H v1 r)(h2:aR K H v2 s)(h3:Bd 2000 r)(h4:Bd 2000 s)(h5:∀v H',aR K H' v (op r s)->ak H H'->Q v H'):Uc op K vs H Q
def m4(op:Rat->Rat->Rat)(K:aaU):Sp:=fun vs H Q _=>Uc op K vs H Q
theorem Ml:aW ["one","other","p","q","r","s"] ["one","other"] (aK E8):=bh (by decide+kernel)
theorem a1G(F:FA K mg "minus" E8)(B:bw mg)(rZ:aj P w K mg base "lowest_terms" 2 ub):aj P w K mg base "minus" 3 (m4 (·-·) K):=by
 refine F.has Ml (fun vs H Q E h=>?_) (fun _ _ _ _ _ _=>cW fun _ _=>rfl) (fun f aD A outer s H vs Q E hr h=>?_)
 · obtain⟨v1,v2,r,s,rfl,_⟩:=h
   rfl
 · obtain⟨v1,v2,r,s,rfl,⟨p,rfl,hp⟩,⟨q,rfl,hq⟩,br,bs,k⟩:=h
   have nd:=Ml.nd;refine⟨_,(ai (fF (pv 0) (du K rfl (n:=2) rfl (bE (aX 2 nd) (bE (aX 3 nd) dk)))) (ai (fF (pv 1) (du K rfl (n:=2) rfl (bE (aX 4 nd) (bE (aX 5 nd) dk)))) (aw (aJ (pf rZ hr (aa (az fQ (az bc (pv 2) (pv 5)) (az bc (pv 4) (pv 3))) (aa (az bc (pv 3) (pv 5)) ae))))))),?_⟩;refine⟨_,rfl,_,_,rfl,hp,rfl,_,_,rfl,_,_,rfl,rfl,?_⟩;refine⟨_,rfl,_,_,rfl,hq,rfl,_,_,rfl,_,_,rfl,rfl,?_⟩;refine⟨_,rfl,_,rfl,_,_,rfl,rfl,gU br.wn.bits bs.wd.bits,_,rfl,_,rfl,_,_,rfl,rfl,gU bs.wn.bits br.wd.bits,_,_,rfl,rfl,_,rfl,_,rfl,_,_,rfl,rfl,gU br.wd.bits bs.wd.bits,?_⟩;exact⟨_,_,rfl,oA r s,yZ br bs,fun t H' nw=>k _ _ (zT (oA r s) (Xs r s) nw.at') nw.same⟩
theorem xr_dvd {a : Int} {b : Nat} {x : Rat} (hb : b ≠ 0) (hx : Rat.divInt a b = x) : ∃ g, a = x.num * g ∧ (b : Int) = x.den * g := by
  obtain ⟨g, _, p⟩ := Rat.divInt_num_den (z' := x.den_nz) (c := x.reduced) (by omega) hx
  exact ⟨g, p⟩
theorem xr_mul {r s x y : Rat} (hx : Rat.divInt r.num s.den = x) (hy : Rat.divInt s.num r.den = y) (m : r * s = Rat.divInt (r.num * s.num) (r.den * s.den)) : x.num * y.num = (r * s).num ∧ (y.den : Int) * x.den = (r * s).den := by
  obtain ⟨g, h1, h2⟩ := xr_dvd s.den_nz hx
  obtain ⟨h, h3, h4⟩ := xr_dvd r.den_nz hy
  have w : ∀ {q : Rat} {a b g h : Int}, q.num = a * g → q.den = b * h → a.natAbs.Coprime b.natAbs := fun {q a b g h} p z => by
    have c : Int.gcd q.num q.den = 1 := q.reduced
    rw [p, z, Int.gcd_eq_natAbs_gcd_natAbs, Int.natAbs_mul, Int.natAbs_mul] at c
    exact Nat.Coprime.coprime_mul_right_right (Nat.Coprime.coprime_mul_right c)
  have c : (x.num * y.num).natAbs.gcd (x.den * y.den) = 1 := by
    rw [Int.natAbs_mul]; exact Nat.Coprime.mul_left (Nat.Coprime.mul_right x.reduced (w h1 h4)) (Nat.Coprime.mul_right (w h3 h2) y.reduced)
  have e : r * s = x * y := by rw [m, ← hx, ← hy, Rat.divInt_mul_divInt, Int.mul_comm (s.den : Int)]
  rw [e, Rat.num_mul, Rat.den_mul, c, Nat.div_one, Nat.mul_comm x.den]
  exact ⟨(Int.ediv_one _).symm, rfl⟩
theorem LK:aW ["one","other","p","s","r","q"] ["one","other"] (aK Dm):=bh (by decide+kernel)
theorem a0N(F:FA K mg "times" Dm)(B:bw mg)(rZ:aj P w K mg base "lowest_terms" 2 ub):aj P w K mg base "times" 3 (m4 (·*·) K):=by
 refine F.has LK (fun vs H Q E h=>?_) (fun _ _ _ _ _ _=>cW fun _ _=>rfl) (fun f aD A outer s H vs Q E hr h=>?_)
 · obtain⟨v1,v2,r,s,rfl,_⟩:=h
   rfl
 · obtain⟨v1,v2,r,s,rfl,⟨p,rfl,hp⟩,⟨q,rfl,hq⟩,br,bs,k⟩:=h
   have nd:=LK.nd;have nr:=Int.ne_of_gt (den_pos r);have ns:=Int.ne_of_gt (den_pos s)
   refine ⟨_,(ai (fF (pf rZ hr (aa (px K (pv 0) ah) (aa (px K (pv 1) ah) ae))) (du K rfl (n:=2) rfl (bE (aX 2 nd) (bE (aX 3 nd) dk)))) (ai (fF (pf rZ hr (aa (px K (pv 1) ah) (aa (px K (pv 0) ah) ae))) (du K rfl (n:=2) rfl (bE (aX 4 nd) (bE (aX 5 nd) dk)))) (aw (aJ (dw (aa (az bc (pv 2) (pv 4)) (aa (az bc (pv 5) (pv 3)) ae))))))),?_⟩
   refine ⟨_,rfl,Or.inr ⟨_,_,_,_,rfl,rfl,hp,rfl,_,rfl,Or.inr ⟨_,_,_,_,rfl,rfl,hq,rfl,_,_,rfl,ns,bs.wd,fun t1 H1 n1=>?_⟩⟩⟩
   obtain ⟨_,e,g1⟩:=zT ns rfl n1.at';cases e
   refine ⟨_,_,rfl,g1,rfl,_,_,rfl,_,_,rfl,rfl,?_⟩
   refine ⟨_,rfl,Or.inr ⟨_,_,_,_,rfl,rfl,hq.go n1.same,rfl,_,rfl,Or.inr ⟨_,_,_,_,rfl,rfl,hp.go n1.same,rfl,_,_,rfl,nr,br.wd,fun t2 H2 n2=>?_⟩⟩⟩
   obtain ⟨_,e,g2⟩:=zT nr rfl n2.at';cases e
   refine ⟨_,_,rfl,g2,rfl,_,_,rfl,_,_,rfl,rfl,?_⟩
   have b1:Bd 2000 _:=jO ns br.num (by have:=bs.den;omega)
   have b2:Bd 2000 _:=jO nr bs.num (by have:=br.den;omega)
   refine ⟨_,rfl,_,rfl,_,_,rfl,rfl,gU b1.wn.bits b2.wn.bits,_,rfl,_,rfl,_,_,rfl,rfl,gU b2.wd.bits b1.wd.bits,bI rfl,fun t H' n=>k _ _ ⟨t,rfl,aI.of ?_⟩ (n1.same.trans (n2.same.trans n.same))⟩
   obtain ⟨e1,e2⟩:=xr_mul rfl rfl (mul_div r s)
   rw [← e1,← e2]; exact n.at'
inductive Uq(K:aaU)(vs:List V)(H:Hp)(Q:VK):Prop |mk (v1:_)(v2:_)(r:_)(s:_)(h0:vs=[v1,v2])(h1:aR K H v1 r)(h2:aR K H v2 s)(h3:Bd 2000 r)(h4:Bd 2000 s)(h5:Q (.bl (decide (r<s))) H):Uq K vs H Q
def uc(K:aaU):Sp:=fun vs H Q _=>Uq K vs H Q
theorem Mq:aW ["one","other","p","q","r","s"] ["one","other"] (aK Ed):=bh (by decide+kernel)
theorem a1N(F:FA K mg "is_less" Ed)(B:bw mg):aj P w K mg base "is_less" 1 (uc K):=by
 refine F.has Mq (fun vs H Q E h=>?_) (fun _ _ _ _ _ _=>cW fun _ _=>rfl) (fun f aD A outer s H vs Q E hr h=>?_)
 · obtain⟨v1,v2,r,s,rfl,_⟩:=h
   rfl
 · obtain⟨v1,v2,r,s,rfl,⟨p,rfl,hp⟩,⟨q,rfl,hq⟩,br,bs,k⟩:=h
   have nd:=Mq.nd;refine⟨_,(ai (fF (pv 0) (du K rfl (n:=2) rfl (bE (aX 2 nd) (bE (aX 3 nd) dk)))) (ai (fF (pv 1) (du K rfl (n:=2) rfl (bE (aX 4 nd) (bE (aX 5 nd) dk)))) (aw (aJ (eQ jv (az bc (pv 2) (pv 5)) (az bc (pv 4) (pv 3)) (ba _)))))),?_⟩;refine⟨_,rfl,_,_,rfl,hp,rfl,_,_,rfl,_,_,rfl,rfl,?_⟩;refine⟨_,rfl,_,_,rfl,hq,rfl,_,_,rfl,_,_,rfl,rfl,?_⟩;refine⟨_,rfl,_,rfl,_,_,rfl,rfl,gU br.wn.bits bs.wd.bits,_,rfl,_,rfl,_,_,rfl,rfl,gU bs.wn.bits br.wd.bits,_,_,rfl,rfl,?_⟩;have e:decide (r.num*(s.den:Int)<s.num*(r.den:Int))=decide (r<s):=by rw[nj,qq,qq,BV]
   show Q (.bl (decide (r.num*(s.den:Int)<s.num*(r.den:Int)))) H;rw[e];exact k
def qe(K:aaU)(H:Hp):List V->List Rat->Prop |[],[]=>True |v::vs,r::rs=>aR K H v r/\Bd 2000 r/\qe K H vs rs |_,_=>False
theorem qe.length{H:Hp}:∀{vs:List V}{rs:List Rat},qe K H vs rs->vs.length=rs.length |[],[],_=>rfl |v::vs,r::rs,h=>by rw[jI,jI,qe.length h.2.2] |[],_::_,h=>h.elim |_::_,[],h=>h.elim
theorem qe.get{H:Hp}:∀{vs:List V}{rs:List Rat}{i:Nat}{v:V},qe K H vs rs->vs[i]? =some v->∃r,rs[i]? =some r/\aR K H v r/\Bd 2000 r
  |[],[],i,v,_,e=>by simp at e |v::vs,r::rs,0,v',h,e=>by
    have e':v=v':=by simpa using e
    subst e';exact⟨r,rfl,h.1,h.2.1⟩ |v::vs,r::rs,i+1,v',h,e=>by obtain⟨r',e1,q⟩:=qe.get h.2.2 (show vs[i]? =some v' by simpa using e);exact⟨r',by simpa using e1,q⟩ |[],_::_,_,_,h,_=>h.elim |_::_,[],_,_,h,_=>h.elim
inductive Ur(K:aaU)(vs:List V)(H:Hp)(Q:VK):Prop |mk (l:_)(xs:_)(rs:_)(h0:vs=[.ref l])(h1:au K H l xs)(h2:qe K H xs rs)(h3:xs≠[])(h4:∀(i:Nat)(v:V)(r:Rat),xs[i]? =some v->rs[i]? =some r->(∀s∈rs,r<=s)->Q v H):Ur K vs H Q
def iZ(K:aaU):Sp:=fun vs H Q _=>Ur K vs H Q
theorem Mr:aW ["some","best","one"] ["some"] (aK Ee):=bh (by decide+kernel)
theorem a1O(F:FA K mg "least" Ee)(B:bw mg)(GP:aj P w K mg base "is_less" 1 (uc K)):aj P w K mg base "least" 2 (iZ K):=by
 refine F.has Mr (fun vs H Q E h=>?_) (fun _ _ _ _ _ _=>dJ fun _=>rfl) (fun f aD A outer s H vs Q E hr h=>?_)
 · obtain⟨l,xs,rs,rfl,_⟩:=h
   rfl
 · obtain⟨l,xs,rs,rfl,hl,lG,cZ,k⟩:=h
   have nd:=Mr.nd;refine⟨_,(ai (pS 1 nd (px K (pv 0) ah)) (ai (kU gE rfl (wV K rfl (pv 0)) (aX 2 nd) (aw (bj (cA (pf GP hr (aa (pv 2) (aa (pv 1) ae)))) (aw (pS 1 nd (pv 2))) bu))) (aw (aJ (pv 1))))),?_⟩;have hlen:=lG.length;have h0:0<xs.length:=JF.mpr cZ;have e0:=bN h0;refine⟨_,rfl,.inl ⟨l,xs,0,xs[0],rfl,rfl,hl,cN (by decide) e0,?_⟩⟩;refine⟨_,rfl,l,rfl,⟨_,hl⟩,Hw (K:=K) (a:=l) (xs:=xs) (fun i σ H2=>H2=H/\∃(j:Nat)(b:V)(r:Rat)(v:Option V),xs[j]? =some b/\rs[j]? =some r/\(∀(m:Nat)(s:Rat),m<i->rs[m]? =some s->r<=s)/\σ=[some (.ref l),some b,v]) ?_ (fun i σ H2 _ h=>by rw[h.1];exact hl) ?_ ?_⟩
   · obtain⟨r,e1,_⟩:=lG.get e0
     exact⟨rfl,0,_,r,none,e0,e1,fun m s hm=>absurd hm (Nat.not_lt_zero _),rfl⟩
   · rintro i x σ H2 hx ⟨rfl,j,b,r,v,eb,er,hm,rfl⟩
     obtain⟨t,et,rt,bt⟩:=lG.get hx;obtain⟨r2,mD,rb,bb⟩:=lG.get eb;rw[er]at mD;cases mD;refine⟨_,rfl,_,rfl,x,b,t,r,rfl,rt,rb,bt,bb,_,rfl,?_⟩;refine dC (fun hc=>?_) (fun hc=>?_)
     · have bV:t<r:=jm hc
       refine⟨_,rfl,?_⟩;refine⟨rfl,i,x,t,_,hx,et,fun m s rY es=>?_,rfl⟩;rcases JA.mp rY with h|h
       ·exact dB (Jr bV) (hm m s h es)
       · subst h
         rw[et]at es;cases es;exact oN
     · have GG:¬t<r:=fun z=>hc (ck z)
       refine⟨rfl,j,b,r,_,eb,er,fun m s rY es=>?_,rfl⟩;rcases JA.mp rY with h|h
       ·exact hm m s h es
       · subst h
         rw[et]at es;cases es;exact yK.mp GG
   · rintro σ H2 ⟨rfl,j,b,r,v,eb,er,hm,rfl⟩
     refine⟨_,rfl,k j b r eb er fun s hs=>?_⟩;obtain⟨m,GK,em⟩:=VL.mp hs;exact hm m s (by lia) (by rw[bN GK,em])
inductive Ul(K:aaU)(vs:List V)(H:Hp)(Q:VK):Prop |mk (a:_)(b:_)(h0:vs=[.int a,.int b])(h1:b≠0)(h2:Wd b)(h3:∀v H',aR K H' v (Rat.divInt a b)->ak H H'->Q v H'):Ul K vs H Q
def u9(K:aaU):Sp:=fun vs H Q _=>Ul K vs H Q
theorem MH:aW ["p","q"] ["p","q"] (aK Es):=bh (by decide+kernel)
theorem a20(F:FA K mg "fraction" Es)(B:bw mg)(AN:aj P w K mg base "is_whole" 1 (ud K))(rZ:aj P w K mg base "lowest_terms" 2 ub):aj P w K mg base "fraction" 3 (u9 K):=by
 refine F.has MH (fun vs H Q E h=>?_) (fun _ _ _ _ _ _=>cW fun _ _=>rfl) (fun f aD A outer s H vs Q E hr h=>?_)
 · obtain⟨a,b,rfl,_⟩:=h
   rfl
 · obtain⟨a,b,rfl,hb,wb,k⟩:=h
   have nd:=MH.nd;refine⟨_,(ai (bj (PW.pt (kh (dS (cA (pf AN hr (aa (pv 0) ae)))) (kS (dS (cA (pf AN hr (aa (pv 1) ae))))))) (aw uu) bu) (ai (bj (bL (cJ K rfl hr.units) (pv 1) ah (ba _)) (aw uu) bu) (aw (aJ (pf rZ hr (aa (pv 0) (aa (pv 1) ae))))))),?_⟩;have iw:uV "int"=true:=by decide
   refine⟨_,rfl,_,"int",rfl,rfl,_,rfl,?_⟩;rw[iw];refine bf ?_;refine⟨_,rfl,_,"int",rfl,rfl,_,rfl,?_⟩;rw[iw];refine bf ?_;refine⟨_,rfl,.inl ⟨_,_,rfl,rfl,_,rfl,?_⟩⟩;rw[eg hb];refine bf ?_;exact⟨_,rfl,_,rfl,_,_,rfl,hb,wb,fun t H' nw=>k _ _ (zT hb rfl nw.at') nw.same⟩
def iG(rs:List Int)(r f j t:Int):aaX:=.tuple [.tuple (rs.map PyData.int),.int r,.int f,.int j,.int t]
theorem iS(rs:List Int)(r f j t:Int):eR (iG rs r f j t)=true:=by simp[iG,eR,cB,kj]
theorem kr{H:Hp}{v:V}{rs:List Int}{r f j t:Int}(h:RD K H v (iG rs r f j t)):∃a b,v= .ref a/\aI K H a [.ref b,.int r,.int f,.int j,.int t]/\aI K H b (rs.map V.int):=by obtain⟨a,xs,rfl,h1,h2⟩:=h.dF;obtain⟨x1,r1,rfl,e1,h2⟩:=h2.cons_inv;obtain⟨x2,r2,rfl,e2,h2⟩:=h2.cons_inv;obtain⟨x3,r3,rfl,e3,h2⟩:=h2.cons_inv;obtain⟨x4,r4,rfl,e4,h2⟩:=h2.cons_inv;obtain⟨x5,r5,rfl,e5,h2⟩:=h2.cons_inv;cases h2.nil_inv;cases e2.int_inv;cases e3.int_inv;cases e4.int_inv;cases e5.int_inv;obtain⟨b,ys,rfl,h3,h4⟩:=e1.dF;rw[h4.iH]at h3;exact⟨a,b,rfl,h1,h3⟩
structure mQ(rs:List Int)(r f j t:Int):Prop where
 len:rs.length=2\/rs.length=3
 rl:∀z∈rs,1<=z/\z<=100
 r1:1<=r/\r<=50
 f1:1<=f/\f<=50
 j1:1<=j/\j<=50
 t1:1<=t/\t<=100
inductive Um(K:aaU)(vs:List V)(H:Hp)(Q:VK):Prop |mk (p:_)(h0:vs=[.ref p])(h1:fW H p)(h2:∀v rs r f j t H',RD K H' v (iG rs r f j t)->mQ rs r f j t->bK p H H'->Q v H'):Um K vs H Q
def Ll(K:aaU):Sp:=fun vs H Q _=>Um K vs H Q
theorem Mn:aW ["_law_bag_here","_law_kind","_law_most","_law_rails"] ["_law_bag_here"] (aK Ea):=bh (by decide+kernel)
theorem a1I(F:FA K mg "_law_machine" Ea)(B:bw mg)(dH:aj P w K mg base "_law_take" 1 oZ):aj P w K mg base "_law_machine" 2 (Ll K):=by
 refine F.has Mn (fun vs H Q E h=>?_) (fun _ _ _ _ _ _=>dJ fun _=>rfl) (fun f aD A outer s H vs Q E hr h=>?_)
 · obtain⟨p,rfl,_⟩:=h
   rfl
 · obtain⟨p,rfl,bg,k⟩:=h
   have nd:=Mn.nd;refine⟨_,(ai (pS 1 nd (pf dH hr (aa (pv 0) (aa ah ae)))) (ai (pS 2 nd (px K (cV (aa ah (aa ah (aa ah (aa ah (aa ah (aa ah (aa ah (aa ah ae))))))))) (pv 1))) (ai (pS 3 nd (gZ (x:="tuple") (kP K rfl) rfl (B.at "tuple") fD (aa (fO (N:=["_law_axis","_law_bag_here","_law_most"]) (js:=[none,some 0,some 2]) rfl rfl rfl (wU rfl (B.at "range") (aa (az cE ah (pf dH hr (aa (pv 0) (aa ah ae)))) ae)) (fun _ _ _ _ _=>(aX 0 (show List.Nodup (["_law_axis","_law_bag_here","_law_most"]:List Str) by decide+kernel))) (fun _ _ _ _ _=>fh) (fun _ _ _ _ _=>(az cE ah (pf dH hr (aa (pv 1) (aa (pv 2) ae)))))) ae))) (ai (bj (bL (cJ K rfl hr.units) (pv 1) ah (ba _)) (aw (aJ (dw (aa (pv 3) (aa (az cE ah (az bc ah (pf dH hr (aa (pv 0) (aa ah ae))))) (aa (az cE ah (az bc ah (pf dH hr (aa (pv 0) (aa ah ae))))) (aa (az cE ah (az bc ah (pf dH hr (aa (pv 0) (aa ah ae))))) (aa ah ae)))))))) bu) (aw (aJ (dw (aa (pv 3) (aa (az cE ah (pf dH hr (aa (pv 0) (aa ah ae)))) (aa (az cE ah (pf dH hr (aa (pv 0) (aa ah ae)))) (aa (az cE ah (pf dH hr (aa (pv 0) (aa ah ae)))) (aa (az cE ah (pf dH hr (aa (pv 0) (aa ah ae)))) ae)))))))))))),?_⟩;refine⟨_,rfl,p,8,rfl,bg,by decide,by decide,fun kd H1 k0 k1 b1=>?_⟩;refine⟨bI rfl,fun l H2 nw=>?_⟩;have b2:bK p H1 H2:=.j7 b1.bag nw.same;obtain⟨far,mf,ef⟩:=a3T [100,100,100,60,60,20,5,100] k0 k1;have f1:1<=far/\far<=100:=by
    have h:∀z∈([100,100,100,60,60,20,5,100]:List Int),1<=z/\z<=100:=by decide
    exact h far mf
   refine⟨_,rfl,.inl ⟨l,_,_,_,rfl,rfl,au.of nw.at',ef,?_⟩⟩;refine⟨_,rfl,p,2,rfl,b2.bag,by decide,by decide,fun ax H3 a0 a1 b3=>?_⟩;refine⟨_,_,rfl,rfl,_,rfl,by lia,by lia,fun D H4 n4=>?_⟩;refine a84 (J:=mS 0 (2+ax).toNat) (p:=p) (H:=H3) (2+ax).toNat _ n4 b3.bag (by lia) (fun i=>.int (0+(i:Int))) (fun i H5 hi _=>⟨hi,fun y H6 ⟨e,q⟩=>⟨e,q⟩⟩) (fun H5 _=>bo _) (fun z=>1<=z/\z<=100) ?_ ?_
   · intro i H5 Q' hi b5 hq
     refine⟨_,rfl,_,rfl,p,far,rfl,b5.bag,f1.1,by lia,fun d H6 d0 d1 b6=>?_⟩;exact⟨_,_,rfl,rfl,hq _ _ (by lia) b6⟩
   intro H5 is b5 d5 l5 Sm;have IV:=b1.trans (b2.trans (b3.trans b5));refine⟨D,_,rfl,.inl ⟨au.of d5,fun q H6 n6=>?_⟩⟩;have b6:bK p H5 H6:=.j7 IV.bag n6.same;have q6:aI K H6 q (is.map V.int):=aI.of n6.at';refine⟨_,rfl,.inl ⟨_,_,rfl,rfl,_,rfl,?_⟩⟩;refine dC (fun hc=>?_) (fun hc=>?_)
   · refine⟨_,rfl,_,rfl,p,2,rfl,b6.bag,by decide,by decide,fun ri H7 YS YR b7=>?_⟩
     refine⟨_,_,rfl,rfl,.of_left (bM (by decide) (by decide)),_,_,rfl,rfl,?_⟩;refine⟨_,rfl,p,2,rfl,b7.bag,by decide,by decide,fun fa H8 fa0 fa1 b8=>?_⟩;refine⟨_,_,rfl,rfl,.of_left (bM (by decide) (by decide)),_,_,rfl,rfl,?_⟩;refine⟨_,rfl,p,2,rfl,b8.bag,by decide,by decide,fun ju H9 ju0 ju1 b9=>?_⟩;refine⟨_,_,rfl,rfl,.of_left (bM (by decide) (by decide)),_,_,rfl,rfl,?_⟩;refine⟨bI rfl,fun t ji jw=>?_⟩;have Bw:bK p H9 ji:=.j7 b9.bag jw.same;have So:=b7.trans (b8.trans (b9.trans Bw));have ZD:aI K ji q (is.map V.int):=aI.t (bK.t b6.bag So) q6;exact k (.ref t) is (1+49*ri) (1+49*fa) (1+49*ju) 100 ji (iB (aI.of jw.at') (bJ (iB ZD (uq is)) (bJ (cX _) (bJ (cX _) (bJ (cX _) (bJ (cX _) cF)))))) ⟨by lia,Sm,by lia,by lia,by lia,by lia⟩ (IV.trans (b6.trans So))
   · refine⟨_,rfl,_,rfl,p,50,rfl,b6.bag,by decide,by decide,fun ri H7 YS YR b7=>?_⟩
     refine⟨_,_,rfl,rfl,?_⟩;refine⟨_,rfl,p,50,rfl,b7.bag,by decide,by decide,fun fa H8 fa0 fa1 b8=>?_⟩;refine⟨_,_,rfl,rfl,?_⟩;refine⟨_,rfl,p,50,rfl,b8.bag,by decide,by decide,fun ju H9 ju0 ju1 b9=>?_⟩;refine⟨_,_,rfl,rfl,?_⟩;refine⟨_,rfl,p,100,rfl,b9.bag,by decide,by decide,fun ti ji ti0 ti1 Bw=>?_⟩;refine⟨_,_,rfl,rfl,bI rfl,fun t ir j9=>?_⟩;have yk:bK p ji ir:=.j7 Bw.bag j9.same;have Sn:=b7.trans (b8.trans (b9.trans (Bw.trans yk)));have wR:aI K ir q (is.map V.int):=aI.t (bK.t b6.bag Sn) q6;exact k (.ref t) is (1+ri) (1+fa) (1+ju) (1+ti) ir (iB (aI.of j9.at') (bJ (iB wR (uq is)) (bJ (cX _) (bJ (cX _) (bJ (cX _) (bJ (cX _) cF)))))) ⟨by lia,Sm,by lia,by lia,by lia,by lia⟩ (IV.trans (b6.trans Sn))
inductive Ux(K:aaU)(vs:List V)(H:Hp)(Q:VK):Prop |mk (a:_)(b:_)(h0:vs=[.int a,.int b])(h1:0<b)(h2:Wd b)(h3:∀v H',aR K H' v (Rat.divInt a b)->ak H H'->Q v H'):Ux K vs H Q
def wA(K:aaU):Sp:=fun vs H Q _=>Ux K vs H Q
theorem MG:aW ["_law_p","_law_q","_law_one","_law_other_here"] ["_law_p","_law_q"] (aK Er):=bh (by decide+kernel)
theorem a1Z(F:FA K mg "_law_frac" Er)(B:bw mg):aj P w K mg base "_law_frac" 1 (wA K):=by
 refine F.has MG (fun vs H Q E h=>?_) (fun _ _ _ _ _ _=>cW fun _ _=>rfl) (fun f aD A outer s H vs Q E hr h=>?_)
 · obtain⟨a,b,rfl,_⟩:=h
   rfl
 · obtain⟨a,b,rfl,hb,wb,k⟩:=h
   have nd:=MG.nd;refine⟨_,(ai (nO (i:=2) (j:=3) rfl nd rfl rfl (by decide) rfl rfl (aa (cQ (x:="abs") mK rfl (B.at "abs") oP (aa (pv 0) ae)) (aa (pv 1) ae)) rfl) (ai (md gE (bL qX (pv 3) ah (ba _)) (aw (nO (i:=2) (j:=3) rfl nd rfl rfl (by decide) rfl rfl (aa (pv 3) (aa (az ph (pv 2) (pv 3)) ae)) rfl))) (aw (aJ (dw (aa (az lD (pv 0) (pv 2)) (aa (az lD (pv 1) (pv 2)) ae))))))),?_⟩;refine⟨_,rfl,_,rfl,_,rfl,_,_,rfl,?_⟩;refine lV (fun σ H2=>H2=H/\∃(x y:Int),σ=[some (.int a),some (.int b),some (.int x),some (.int y)]/\0<=x/\0<=y/\Int.gcd x y=Int.gcd a b) (fun σ _=>match σ with|[_,_,_,some (.int y)]=>y.natAbs|_=>0) ?_ ?_ ?_
   · refine⟨rfl,_,_,rfl,by split<;>lia,by lia,?_⟩
     have h1:(if a<0 then-a else a).natAbs=a.natAbs:=by split<;>lia
     unfold Int.gcd;rw[h1]
   · rintro σ H2 ⟨rfl,x,y,rfl,x0,y0,e⟩
     refine⟨_,rfl,_,_,rfl,rfl,_,rfl,?_⟩;refine dC (fun hc=>?_) (fun hc=>?_)
     · have jx:0<y:=jm hc
       have hy:y≠0:=by lia
       refine⟨_,rfl,_,rfl,_,rfl,_,_,rfl,rfl,jx,_,_,rfl,?_⟩;refine⟨⟨rfl,_,_,rfl,y0,ng _ hy,(Ar.Qr jx).trans e⟩,?_⟩;show(x%y).natAbs<y.natAbs;have:=ng x hy;have:=qz x jx
       lia
     · have hy:y=0:=by
         have:¬y>0:=fun z=>hc (ck z)
         lia
       subst hy;rw[Int.gcd_zero_right]at e;have ex:x=((Int.gcd a b:Nat):Int):=by lia
       have oj:b≠0:=by lia
       have gp:=Ar.B6 (p:=a) oj;have es:Ar.sg a b=(Int.gcd a b:Int):=by unfold Ar.sg;rw[aP (by lia)]
       have gw:Wd (Int.gcd a b:Int):=by rw[<-es];exact oQ (Ar.Lx oj) wb
       obtain⟨e1,e2⟩:=Ag (a:=a) oj;have f1:a/(Int.gcd a b:Int)=(Rat.divInt a b).num:=by rw[<-e1];unfold Ar.lowP;rw[es,VU _ (by lia)]
       have f2:b/(Int.gcd a b:Int)=((Rat.divInt a b).den:Int):=by rw[<-e2];unfold Ar.gq;rw[es,VU _ (by lia)]
       subst ex;refine⟨_,rfl,_,rfl,_,_,rfl,rfl,⟨gp,gw⟩,_,rfl,_,rfl,_,_,rfl,rfl,⟨gp,gw⟩,bI rfl,fun t H6 n6=>?_⟩;have Sv:=n6.at';simp only[f1,f2]at Sv;exact k _ _ ⟨t,rfl,aI.of Sv⟩ n6.same
   · rintro σ H2 Q1 Q2 hq ⟨v1,e1,i,j,e3,e4,kk,e5,q⟩
     exact⟨v1,e1,i,j,e3,e4,kk,e5,hq _ _ q⟩
theorem Mx:aW ["_law_thing"] ["_law_thing"] (aK Ei):=bh (by decide+kernel)
theorem a1K(F:FA K mg "_law_number" Ei)(B:bw mg):aj P w K mg base "_law_number" 1 (ud K):=by
 refine F.has Mx (fun vs H Q E h=>?_) (fun _ _ _ _ _ _=>dJ fun _=>rfl) (fun f aD A outer s H vs Q E hr h=>?_)
 · obtain⟨v,T,rfl,_⟩:=h
   rfl
 · obtain⟨v,T,rfl,ty,k⟩:=h
   have nd:=Mx.nd;refine⟨_,(aw (aJ (hO (cY K B (aa (pv 0) (aa (cL (x:="int") (v:=.ty "int") rfl (B.at "int") Jw rfl) ae))) (iE (NH (cY K B (aa (pv 0) (aa (cL (x:="bool") (v:=.ty "bool") rfl (B.at "bool") VG rfl) ae)))))))),?_⟩;refine⟨_,rfl,.inl ⟨_,T,"int",_,rfl,ty,by decide,rfl,_,rfl,?_⟩⟩;unfold uV at k;refine dC (fun hc=>?_) (fun hc=>?_)
   · refine⟨_,rfl,.inl ⟨_,T,"bool",_,rfl,ty,by decide,rfl,_,rfl,?_⟩⟩
     rw[hc,jJ]at k;exact k
   · rw[vZ.mpr hc,jW]at k
     exact k
theorem K7:iz "tuple" "tuple"=true:=by decide
theorem Ka:iz "list" "list"=true:=by decide
abbrev Itm:=Option (List Int × Int)
def itR(d:aaX)(o:Itm):Prop:=(∃ns sp,d=hZ ns sp/\o=some (ns,sp))\/∃w x,d= .tuple [.str w,x]/\(w="wait"\/w="tool"\/w="mark")/\eR x=true/\o=none
theorem itR.no{d:aaX}{o:Itm}(h:itR d o):eR d=true:=by
 rcases h with⟨ns,sp,rfl,_⟩|⟨w,x,rfl,_,h,_⟩
 ·exact Ak _ _
 ·simp[eR,cB,h]
theorem uU{H:Hp}{v:V}{d:aaX}{o:Itm}(h:RD K H v d)(i:itR d o):∃a w ys,v= .ref a/\aI K H a (.str w::ys)/\(PyData.eqv (.str w) (.str "line")=o.isSome)/\SeqAt.shaped (.str w)=true:=by
 rcases i with⟨ns,sp,rfl,rfl⟩|⟨w,x,rfl,hw,_,rfl⟩
 · obtain⟨a,b,rfl,h1,_⟩:=kX h
   exact⟨a,_,_,rfl,h1,(by show PyData.eqv (.str "line") (.str "line")=true;decide+kernel),by decide+kernel⟩
 · obtain⟨a,xs,rfl,h1,h2⟩:=h.dF
   obtain⟨x1,r1,rfl,e1,h2⟩:=h2.cons_inv;cases e1.str_inv;refine⟨a,w,r1,rfl,h1,?_,?_⟩
   · show PyData.eqv (.str w) (.str "line")=false
     rcases hw with rfl|rfl|rfl<;>decide+kernel
   ·rcases hw with rfl|rfl|rfl<;>decide+kernel
theorem rJ:SeqAt.shaped (.str "line")=true:=by decide+kernel
theorem jQ{d:aaX}{ns:List Int}{sp:Int}(h:itR d (some (ns,sp))):d=hZ ns sp:=by
 rcases h with⟨xk,wD,e1,e2⟩|⟨_,_,_,_,_,e2⟩
 ·cases e2;exact e1
 ·cases e2
structure gu(ax:Nat)(ds:List aaX)(os:List Itm):Prop where
 len:ds.length=os.length
 it:∀(i:Nat)(d:aaX)(o:Itm),ds[i]? =some d->os[i]? =some o->itR d o
 ok:∀(i:Nat)(ns:List Int)(sp:Int),os[i]? =some (some (ns,sp))->dR ax 100 ns/\1<=sp/\sp<=20
theorem gu.nil{ax:Nat}:gu ax [] []:=⟨rfl,fun i d o e=>by simp at e,fun i ns sp e=>by simp at e⟩
theorem qK{α:Type}{xs:List α}{x y:α}{j:Nat}(e:(xs++[x])[j]? =some y):xs[j]? =some y\/(j=xs.length/\y=x):=by
 by_cases hj:j<xs.length
 ·rw[vW hj]at e;exact .inl e
 · have oa:j=xs.length:=by
     have:=(dh.mp e).1;rw[fm]at this;have:j<xs.length+1:=this
     lia
   rw[oa,yO (bo _),Jx]at e;exact .inr ⟨oa,(dj e).symm⟩
theorem gu.snoc{ax:Nat}{ds:List aaX}{os:List Itm}{d:aaX}{o:Itm}(h:gu ax ds os)(i:itR d o)(g:∀ns sp,o=some (ns,sp)->dR ax 100 ns/\1<=sp/\sp<=20):gu ax (ds++[d]) (os++[o]):=by
 have hl:=h.len;refine⟨by rw[fm,fm,h.len];rfl,fun j d' o' e1 e2=>?_,fun j ns sp e=>?_⟩
 · rcases qK e1 with e1|⟨j1,rfl⟩
   · rcases qK e2 with e2|⟨j2,rfl⟩
     ·exact h.it j d' o' e1 e2
     ·have:=(dh.mp e1).1;lia
   · rcases qK e2 with e2|⟨j2,rfl⟩
     ·have:=(dh.mp e2).1;lia
     ·exact i
 · rcases qK e with e|⟨_,e⟩
   ·exact h.ok j ns sp e
   ·exact g ns sp e.symm
theorem gu.no{ax:Nat}{ds:List aaX}{os:List Itm}(h:gu ax ds os):cB ds=true:=gL.mpr fun d hd=>by obtain⟨i,hi⟩:=oU.mp hd;have hl:=(dh.mp hi).1;exact(h.it i d _ hi (bN (by rw[<-h.len];exact hl))).no
theorem gu.get{ax:Nat}{ds:List aaX}{os:List Itm}(h:gu ax ds os){i:Nat}{d:aaX}(e:ds[i]? =some d):∃o,os[i]? =some o/\itR d o:=by have hl:=(dh.mp e).1;have e2:=bN (show i<os.length by rw[<-h.len];exact hl);exact⟨_,e2,h.it i d _ e e2⟩
inductive Uw(K:aaU)(vs:List V)(H:Hp)(Q:VK):Prop |mk (v:_)(d:_)(o:_)(h0:vs=[v])(h1:RD K H v d)(h2:itR d o)(h3:Q (.bl o.isSome) H):Uw K vs H Q
def uf(K:aaU):Sp:=fun vs H Q _=>Uw K vs H Q
theorem Mz:aW ["item"] ["item"] (aK Ek):=bh (by decide+kernel)
theorem a1U(F:FA K mg "is_line" Ek)(B:bw mg):aj P w K mg base "is_line" 1 (uf K):=by
 refine F.has Mz (fun vs H Q E h=>?_) (fun _ _ _ _ _ _=>dJ fun _=>rfl) (fun f aD A outer s H vs Q E hr h=>?_)
 · obtain⟨v,d,o,rfl,_⟩:=h
   rfl
 · obtain⟨v,d,o,rfl,ri,it,k⟩:=h
   have nd:=Mz.nd;refine⟨_,(aw (aJ (eQ (cJ K rfl hr.units) (px K (pv 0) ah) aL (ba _)))),?_⟩;obtain⟨a,wd,ys,rfl,h1,ew,sw⟩:=uU ri it;refine⟨_,rfl,.inr ⟨a,_,0,.str wd,rfl,rfl,h1,cN (fY 0) rfl,.inr ⟨_,_,cH _,cH _,sw,rJ,?_⟩⟩⟩;rw[ew];exact k
theorem Kq{H:Hp}:∀{xs:List V}{zs:List Str},aE K H xs (zs.map PyData.str)->xs=zs.map V.str |xs,[],h=>h.nil_inv |xs,n::ns,h=>by obtain⟨y,ys,rfl,h1,h2⟩:=h.cons_inv;rw[h1.str_inv,Kq h2];rfl
theorem a90:jg.cps.toList.length=26:=by decide+kernel
theorem Mh:aW ["_law_bag_here","_law_kind","_law_letters"] ["_law_bag_here"] (aK E5):=bh (by decide+kernel)
def Wb(ns:List Int):aaX:=.tuple (ns.map fun z=>cD (Rat.divInt z (Ln.ay ns)))
theorem p8(r:Rat):eR (cD r)=true:=by simp[cD,eR,cB]
theorem Of{α:Type}{f:α->aaX}(h:∀a,eR (f a)=true)(l:List α):cB (l.map f)=true:=gL.mpr fun d hd=>by obtain⟨a,_,rfl⟩:=jn.mp hd;exact h a
inductive Tj(K:aaU)(vs:List V)(H:Hp)(Q:VK):Prop |mk (v:_)(ns:_)(sp:_)(h0:vs=[v])(h1:RD K H v (hZ ns sp))(h2:dR ns.length 1000 ns)(h3:ns.length<=1000)(h4:∀v' H',RD K H' v' (Wb ns)->ak H H'->Q v' H'):Tj K vs H Q
def KA(K:aaU):Sp:=fun vs H Q _=>Tj K vs H Q
theorem LD:aW ["line","lead"] ["line"] (aK Dh):=bh (by decide+kernel)
theorem a0J(F:FA K mg "ways_of" Dh)(B:bw mg)(nZ:aj P w K mg base "lead_of" 1 (kQ K))(pK:aj P w K mg base "fraction" 3 (u9 K)):aj P w K mg base "ways_of" 4 (KA K):=by
 refine F.has LD (fun vs H Q E h=>?_) (fun _ _ _ _ _ _=>dJ fun _=>rfl) (fun f aD A outer s H vs Q E hr h=>?_)
 · obtain⟨v,ns,sp,rfl,_⟩:=h
   rfl
 · obtain⟨v,ns,sp,rfl,rd,ok,hz,k⟩:=h
   have nd:=LD.nd;refine⟨_,(ai (pS 1 nd (pf nZ hr (aa (pv 0) ae))) (aw (aJ (gZ (x:="tuple") (kP K rfl) rfl (B.at "tuple") fD (aa (fO (N:=["step","lead"]) (js:=[none,some 1]) rfl rfl rfl (p9 K rfl (px K (pv 0) ah)) (fun _ _ _ _ _=>(aX 0 (fw (by decide)))) (fun _ _ _ _ _=>fh) (fun _ _ _ _ _=>(pf pK hr (aa (pv 0) (aa (pv 1) ae))))) ae))))),?_⟩;refine⟨_,rfl,v,ns,sp,rfl,rd,ok.ne,hz,fun H1 s1=>?_⟩;obtain⟨a,b,rfl,ha,hb⟩:=kX (RD.mono s1 _ rd);obtain⟨lp,lm⟩:=ok.lead;refine⟨_,rfl,.inr ⟨a,_,1,.ref b,rfl,rfl,ha,rfl,b,rfl,⟨_,hb⟩,fun D H0 nw=>?_⟩⟩;refine Bo (K:=K) (xs:=ns.map V.int) (ds:=ns.map fun z=>cD (Rat.divInt z (Ln.ay ns))) _ hb nw (by simp) (by simpa using hz) (Of (fun _=>p8 _) _) ?_ ?_
   · intro i x d H2 Q' ex ed s2 hq
     obtain⟨n,en,rfl⟩:=lE ed;cases xB ex en;refine⟨_,rfl,_,rfl,n,_,rfl,by omega,gF (n:=20) (by omega) (by decide),fun v3 H3 r3 s3=>?_⟩;exact hq _ _ s3 r3.rd
   · intro H' ys s2 d2 r2
     refine⟨D,_,rfl,.inl ⟨au.of d2,fun t H4 n4=>?_⟩⟩;exact k _ _ (iB (aI.of n4.at') (aE.mono n4.same _ r2)) (s1.trans (s2.trans n4.same))
theorem wm:iz "tuple" "tuple"=true:=by decide
theorem Wa(d:aaX):(∃i,d= .int i/\uV (lX d)=true)\/(uV (lX d)=false/\∀i,d≠ .int i):=by cases d with |int i=>exact .inl ⟨i,rfl,by simp[lX];decide⟩ |_=>exact .inr ⟨by simp[lX];decide,fun _ z=>nomatch z⟩
theorem Cp(d:aaX):(∃ds,d= .tuple ds)\/(iz (lX d) "tuple"=false/\∀ds,d≠ .tuple ds):=by cases d with |tuple ds=>exact .inl ⟨ds,rfl⟩ |_=>exact .inr ⟨by simp[lX];decide,fun _ z=>nomatch z⟩
def gc(lo hi:Int):aaX->Bool | .int i=>decide (lo<=i)&&decide (i<=hi) |_=>false
theorem a3U{lo hi:Int}{d:aaX}(h:∀i,d≠ .int i):gc lo hi d=false:=by cases d<;>first|rfl|exact absurd rfl (h _)
inductive Tn(K:aaU)(vs:List V)(H:Hp)(Q:VK):Prop |mk (v:_)(d:_)(lo:_)(hi:_)(h0:vs=[v,.int lo,.int hi])(h1:RD K H v d)(h2:Q (.bl (gc lo hi d)) H):Tn K vs H Q
def qJ(K:aaU):Sp:=fun vs H Q _=>Tn K vs H Q
theorem LF:aW ["thing","low","high"] ["thing","low","high"] (aK Di):=bh (by decide+kernel)
theorem a0I(F:FA K mg "is_whole_within" Di)(B:bw mg)(AN:aj P w K mg base "is_whole" 1 (ud K)):aj P w K mg base "is_whole_within" 2 (qJ K):=by
 refine F.has LF (fun vs H Q E h=>?_) (fun _ _ _ _ _ _=>mL fun _ _ _=>rfl) (fun f aD A outer s H vs Q E hr h=>?_)
 · obtain⟨v,d,lo,hi,rfl,_⟩:=h
   rfl
 · obtain⟨v,d,lo,hi,rfl,rd,k⟩:=h
   have nd:=LF.nd;refine⟨_,(aw (aJ (hO (pf AN hr (aa (pv 0) ae)) (iE (NL uA uA (pv 1) (pv 0) (pv 2)))))),?_⟩;refine⟨_,rfl,_,_,rfl,rd.ty,_,rfl,?_⟩;rcases Wa d with⟨i,rfl,e⟩|⟨e,hn⟩
   · cases rd.int_inv
     rw[e];refine bF ?_;have k:Q (.bl (decide (lo<=i)&&decide (i<=hi))) H:=k;refine⟨_,rfl,_,rfl,_,_,rfl,rfl,_,rfl,?_⟩;refine dC (fun hc=>?_) (fun hc=>?_)
     · have ib:decide (lo<=i)=true:=hc
       rw[ib,jJ]at k;exact⟨_,rfl,_,_,rfl,rfl,k⟩
     · have ib:decide (lo<=i)=false:=vZ.mpr hc
       rw[ib,jW]at k;exact k
   · rw[e]
     refine bf ?_;rw[a3U hn]at k;exact k
theorem JR{ns ms:List Int}{i:Nat}{a b:Int}(h1:ns[i]? =some a)(h2:ms[i]? =some b):(cM ns ms)[i]? =some (a*(ay ms:Int)-b*(ay ns:Int)):=by unfold cM;rw[bZ,(vV (z:=(a,b))).mpr ⟨h1,h2⟩];rfl
def yh(j:Int)(ns ms:List Int):aaX:=if ay (cM ns ms)=0 then .none else cD (Rat.divInt ((j*ay ns*ay ms)^2) ((ay (cM ns ms):Int)^2))
inductive UD(K:aaU)(vs:List V)(H:Hp)(Q:VK):Prop |mk (v:_)(v1:_)(v2:_)(rs:_)(r:_)(f:_)(j:_)(t:_)(ns:_)(ms:_)(gj:_)(gH:_)(h0:vs=[v,v1,v2])(h1:RD K H v (iG rs r f j t))(h2:RD K H v1 (hZ ns gj))(h3:RD K H v2 (hZ ms gH))(h4:dR ns.length 1000 ns)(h5:dR ns.length 1000 ms)(h6:ns.length<=1000)(h7:1<=j)(h8:j<=50)(h9:∀v' H',RD K H' v' (yh j ns ms)->ak H H'->Q v' H'):UD K vs H Q
def CY(K:aaU):Sp:=fun vs H Q _=>UD K vs H Q
theorem zip2{ns ms:List Int}(h:ms.length=ns.length){i:Nat}{x y:V}(ex:(ns.map V.int)[i]? =some x)(ey:(ms.map V.int)[i]? =some y):∃a b,ns[i]? =some a/\ms[i]? =some b/\x= .int a/\y= .int b:=by rw[bZ]at ex ey;cases e1:ns[i]? with |none=>rw[e1]at ex;cases ex |some a=>cases e2:ms[i]? with |none=>rw[e2]at ey;cases ey |some b=>rw[e1]at ex;rw[e2]at ey;exact⟨a,b,rfl,rfl,(dj ex).symm,(dj ey).symm⟩
inductive Tq(K:aaU)(vs:List V)(H:Hp)(Q:VK):Prop |mk (v1:_)(v2:_)(ns:_)(ms:_)(gj:_)(gH:_)(h0:vs=[v1,v2])(h1:RD K H v1 (hZ ns gj))(h2:RD K H v2 (hZ ms gH))(h3:dR ns.length 1000 ns)(h4:dR ns.length 1000 ms)(h5:ns.length<=1000)(h6:∀v' H',aR K H' v' (Rat.divInt (ay (cM ns ms)) ((ay ns:Int)*ay ms))->ak H H'->Q v' H'):Tq K vs H Q
def KG(K:aaU):Sp:=fun vs H Q _=>Tq K vs H Q
theorem LG:aW ["one","other","greatest","way","new_way","p","q","difference"] ["one","other"] (aK Dj):=bh (by decide+kernel)
theorem a0K(F:FA K mg "greatest_turn" Dj)(B:bw mg)(Pt:aj P w K mg base "ways_of" 4 (KA K))(a4P:aj P w K mg base "minus" 3 (m4 (·-·) K))(GP:aj P w K mg base "is_less" 1 (uc K)):aj P w K mg base "greatest_turn" 5 (KG K):=by
 refine F.has LG (fun vs H Q E h=>?_) (fun _ _ _ _ _ _=>cW fun _ _=>rfl) (fun f aD A outer s H vs Q E hr h=>?_)
 · obtain⟨v1,v2,ns,ms,gj,gH,rfl,_⟩:=h
   rfl
 · obtain⟨v1,v2,ns,ms,gj,gH,rfl,F9,m8,fG,dG,hz,k⟩:=h
   have nd:=LG.nd;obtain⟨lp1,lm1⟩:=fG.lead;obtain⟨lp2,G8⟩:=dG.lead;have Pp:ms.length<=1000:=by rw[dG.len];exact hz
   have a2e:dR ms.length 1000 ms:=⟨rfl,dG.bd,dG.nz⟩;have cb:=Bn (fun z hz=>by have:=fG.bd z hz;lia) (fun z hz=>by have:=dG.bd z hz;lia) (ns:=ns) (ms:=ms);have L0:(0:Int)<(ay ns:Int)*ay ms:=gW (by lia) (by lia);have Lb:((ay ns:Int)*ay ms).natAbs<=1000*1000:=ko (by lia) (by lia);have aaF:(cM ns ms).length=ns.length:=by simp[cM,dG.len]
   have Q3:∀c:Int,c.natAbs<=2000000->Bd 2000 (Rat.divInt c ((ay ns:Int)*ay ms)):=fun c hc=>(jO (n:=30) (by lia) (by lia) (by lia)).mono (by decide);refine⟨_,(ai (pS 2 nd (dw (aa ah (aa ah ae)))) (ai (kU gE rfl (jr K rfl false false rfl (B.at "zip") (aa (pf Pt hr (aa (pv 0) ae)) (aa (pf Pt hr (aa (pv 1) ae)) ae))) (du K rfl (n:=2) rfl (bE (aX 3 nd) (bE (aX 4 nd) dk))) (ai (fF (pf a4P hr (aa (pv 4) (aa (pv 3) ae))) (du K rfl (n:=2) rfl (bE (aX 5 nd) (bE (aX 6 nd) dk)))) (ai (pS 7 nd (dw (aa (cQ (x:="abs") mK rfl (B.at "abs") oP (aa (pv 5) ae)) (aa (pv 6) ae)))) (aw (bj (cA (pf GP hr (aa (pv 2) (aa (pv 7) ae)))) (aw (pS 2 nd (pv 7))) bu))))) (aw (aJ (pv 2))))),?_⟩;refine⟨bI rfl,fun g0 H1 n1=>?_⟩;refine⟨_,rfl,v1,ns,gj,rfl,RD.mono n1.same _ F9,fG,hz,fun w1 H2 r2 s2=>?_⟩;have t2:=n1.same.trans s2;refine⟨_,rfl,v2,ms,gH,rfl,RD.mono t2 _ m8,a2e,Pp,fun w2 H3 r3 s3=>?_⟩;have t3:=t2.trans s3;obtain⟨c1,xs1,rfl,h1,q1⟩:=(RD.mono s3 _ r2).dF;obtain⟨c2,xs2,rfl,h2,q2⟩:=r3.dF;have l1:=q1.length;have l2:=q2.length;rw[bT]at l1 l2;refine⟨c1,c2,rfl,⟨_,h1⟩,⟨_,h2⟩,?_⟩;refine a6H (K:=K) (b1:=false) (b2:=false) (xs:=xs1) (ys:=xs2) ns.length (by rw[l1,l2,dG.len];lia) (fun i σ H4=>ak H3 H4/\∃g u1 u2 u3 u4 u5,aR K H4 g (Rat.divInt (pJ (cM ns ms) i) ((ay ns:Int)*ay ms))/\σ=[some v1,some v2,some g,u1,u2,u3,u4,u5]) ?_ (fun i σ H4 _ h=>⟨h1.go h.1,h2.go h.1⟩) ?_ ?_
   · refine⟨ak.refl _,.ref g0,none,none,none,none,none,⟨g0,rfl,?_⟩,rfl⟩
     have e0:Rat.divInt ((pJ (cM ns ms) 0:Nat):Int) ((ay ns:Int)*ay ms)=0:=by show Rat.divInt 0 _=0;exact Rat.zero_divInt _
     rw[e0];exact aI.of (s3 _ _ (s2 _ _ n1.at'))
   · rintro i x y σ H4 ex ey ⟨s4,g,u1,u2,u3,u4,u5,rg,rfl⟩ T H5 n5
     obtain⟨d1,e1,rx⟩:=q1.get' i ex;obtain⟨d2,e2,ry⟩:=q2.get' i ey;obtain⟨a,ea,rfl⟩:=lE e1;obtain⟨b,eb,rfl⟩:=lE e2;have qa:=fG.bd a (gf ea);have qb:=dG.bd b (gf eb);have cz:=JR ea eb;have czb:=cb _ (gf cz);have t5:=s4.trans n5.same;refine⟨T,_,rfl,aI.of n5.at',rfl,_,_,rfl,_,_,rfl,rfl,?_⟩;have m9:∀{H':Hp}{v:V}{r:Rat},RD K H' v (cD r)->aR K H' v r:=fun{H' v r} h=>by obtain⟨p,xs,rfl,h1,h2⟩:=h.dF;have:=h2.iH (ns:=[r.num,r.den]);subst this;exact⟨p,rfl,h1⟩
     refine⟨_,rfl,_,rfl,y,x,_,_,rfl,m9 (RD.mono t5 _ ry),m9 (RD.mono t5 _ rx),(jO (n:=30) (by lia) (by lia) (by lia)).mono (by decide),(jO (n:=30) (by lia) (by lia) (by lia)).mono (by decide),fun v6 H6 r6 s6=>?_⟩;have ed:Rat.divInt b (ay ms)-Rat.divInt a (ay ns)=Rat.divInt (b*ay ns-a*ay ms) ((ay ns:Int)*ay ms):=Xq (by lia) (by lia);have r6:aR K H6 v6 (Rat.divInt b (ay ms)-Rat.divInt a (ay ns)):=r6;rw[ed]at r6;obtain⟨p6,rfl,h6⟩:=r6;refine⟨p6,_,rfl,h6,rfl,_,_,rfl,_,_,rfl,rfl,?_⟩;refine⟨_,rfl,_,rfl,_,rfl,bI rfl,fun dd H7 n7=>?_⟩;have m6:=s6.trans n7.same;have rD:aR K H7 (.ref dd) (Rat.divInt (((a*(ay ms:Int)-b*(ay ns:Int)).natAbs:Nat):Int) ((ay ns:Int)*ay ms)):=by
      have e:Rat.divInt (((a*(ay ms:Int)-b*(ay ns:Int)).natAbs:Nat):Int) ((ay ns:Int)*ay ms)=sY (Rat.divInt (b*ay ns-a*ay ms) ((ay ns:Int)*ay ms)):=by rw[a8W L0,yn];congr 1;lia
      rw[e];refine⟨dd,rfl,?_⟩;rw[a8V,a8X];exact aI.of n7.at'
     have rG:aR K H7 g _:=(rg.go n5.same).go m6;have hG:pJ (cM ns ms) i<=2000000:=mm fun z hz=>cb z (C3 hz);refine⟨_,rfl,_,rfl,g,.ref dd,_,_,rfl,rG,rD,Q3 _ (by lia),Q3 _ (by lia),_,rfl,?_⟩;have hs:=a5b cz;refine dC (fun hc=>?_) (fun hc=>?_)
     · have bV:=(RE L0).mp (jm hc)
       refine⟨_,rfl,?_⟩;refine⟨t5.trans m6,_,_,_,_,_,_,?_,rfl⟩;rw[hs,Nat.max_eq_right (by lia)];exact rD
     · have AR:¬_:=fun z=>hc (ck ((RE L0).mpr z))
       refine⟨t5.trans m6,_,_,_,_,_,_,?_,rfl⟩;rw[hs,Nat.max_eq_left (by lia)];exact rG
   · rintro σ H4 ⟨s4,g,u1,u2,u3,u4,u5,rg,rfl⟩
     refine⟨_,rfl,k _ _ ?_ (t3.trans s4)⟩;have:pJ (cM ns ms) ns.length=ay (cM ns ms):=by unfold pJ;rw[JC (by lia)]
     rw[this]at rg;exact rg
theorem MM:aW ["machine","one","other","jump","p","q"] ["machine","one","other"] (aK Ez):=bh (by decide+kernel)
theorem a25(F:FA K mg "corner_square" Ez)(B:bw mg)(a5d:aj P w K mg base "greatest_turn" 5 (KG K))(pK:aj P w K mg base "fraction" 3 (u9 K)):aj P w K mg base "corner_square" 6 (CY K):=by
 refine F.has MM (fun vs H Q E h=>?_) (fun _ _ _ _ _ _=>mL fun _ _ _=>rfl) (fun f aD A outer s H vs Q E hr h=>?_)
 · obtain⟨v,v1,v2,rs,r,f',j,t,ns,ms,gj,gH,rfl,_⟩:=h
   rfl
 · obtain⟨v,v1,v2,rs,r,f',j,t,ns,ms,gj,gH,rfl,rd,F9,m8,fG,dG,hz,j1,j2,k⟩:=h
   have nd:=MM.nd;obtain⟨lp1,lm1⟩:=fG.lead;obtain⟨lp2,G8⟩:=dG.lead;have L0:(0:Int)<(ay ns:Int)*ay ms:=gW (by lia) (by lia);have Lb:((ay ns:Int)*ay ms).natAbs<=1000*1000:=ko (by lia) (by lia);have cb:=Bn (fun z hz=>by have:=fG.bd z hz;lia) (fun z hz=>by have:=dG.bd z hz;lia) (ns:=ns) (ms:=ms);have hH:=mm cb;refine⟨_,(ai (pS 3 nd (px K (pv 0) ah)) (ai (fF (pf a5d hr (aa (pv 1) (aa (pv 2) ae))) (du K rfl (n:=2) rfl (bE (aX 4 nd) (bE (aX 5 nd) dk)))) (ai (bj (bL (cJ K rfl hr.units) (pv 4) ah (ba _)) (aw (aJ j4)) bu) (aw (aJ (pf pK hr (aa (az bc (az bc (az bc (pv 3) (pv 3)) (pv 5)) (pv 5)) (aa (az bc (pv 4) (pv 4)) ae)))))))),?_⟩;obtain⟨am,bm,rfl,gs,je⟩:=kr rd;refine⟨_,rfl,.inr ⟨am,_,3,.int j,rfl,rfl,gs,rfl,?_⟩⟩;refine⟨_,rfl,_,rfl,v1,v2,ns,ms,gj,gH,rfl,F9,m8,fG,dG,hz,fun v3 H3 r3 s3=>?_⟩;obtain⟨IT⟩:Nonempty (Bd 30 (Rat.divInt (ay (cM ns ms)) ((ay ns:Int)*ay ms))):=⟨jO (n:=30) (by lia) (by lia) (by lia)⟩;have en:=qv (Rat.divInt (ay (cM ns ms)) ((ay ns:Int)*ay ms));obtain⟨R,hR⟩:∃R,Rat.divInt (ay (cM ns ms)) ((ay ns:Int)*ay ms)=R:=⟨_,rfl⟩;rw[hR]at r3 IT en;have dp:=den_pos R;have yg:R.num*((ay ns:Int)*ay ms)=ay (cM ns ms)*R.den:=by rw[<-hR]at en;have:=(Rat.divInt_eq_divInt_iff (by rw[hR];lia) (by lia)).mp en;rw[hR]at this;exact this
   have nb:=IT.num;have db:=IT.den;obtain⟨p3,rfl,h3⟩:=r3;refine⟨p3,_,rfl,h3,rfl,_,_,rfl,_,_,rfl,rfl,?_⟩;refine⟨_,rfl,.inl ⟨_,_,rfl,rfl,_,rfl,?_⟩⟩;refine dC (fun hc=>?_) (fun hc=>?_)
   · have h0:R.num=0:=by simpa using hc
     have hl:ay (cM ns ms)=0:=by
      rw[h0,yQ]at yg;rcases Int.mul_eq_zero.mp yg.symm with h|h
      ·lia
      ·lia
     refine k .aY H3 ?_ s3;unfold yh;rw[aO hl];exact Zc
   · have h0:R.num≠0:=by simpa using hc
     have hl:ay (cM ns ms)≠0:=by
      intro z;rw[z]at yg;have:R.num*((ay ns:Int)*ay ms)=0:=by rw[yg];exact yQ _
      rcases Int.mul_eq_zero.mp this with h|h
      ·exact h0 h
      ·lia
     have m1:(j*j).natAbs<=50*50:=ko (by lia) (by lia);have kF:(2:Nat)^64=18446744073709551616:=by decide
     refine⟨_,rfl,_,rfl,_,_,rfl,rfl,.of_left (bM (by lia) (by lia)),_,rfl,_,_,rfl,rfl,.of_left (bM (by lia) (by lia)),_,rfl,_,_,rfl,rfl,.of_right (bM (by lia) (by lia)),?_⟩;refine⟨_,rfl,_,rfl,_,_,rfl,rfl,.of_left (bM (by lia) (by lia)),?_⟩;refine⟨_,_,rfl,JK h0 h0,?_,fun v4 H4 r4 s4=>?_⟩
     · refine gF (n:=60) ?_ (by decide)
       rw[fq];exact kn (n:=30) (m:=30) nb nb
     · refine k _ _ ?_ (s3.trans s4)
       unfold yh;rw[aP hl];have e:=a7U (j:=j) (p:=R.num) (q:=R.den) (h:=ay (cM ns ms)) (L:=(ay ns:Int)*ay ms) h0 (by lia) yg;rw[e,<-tV]at r4;exact r4.rd
def Nm (d:aaX):Bool:=gc 10 200 d
inductive TY(K:aaU)(vs:List V)(H:Hp)(Q:VK):Prop |mk (v:_)(d:_)(h0:vs=[v])(h1:RD K H v d)(h2:Q (.bl (Nm d)) H):TY K vs H Q
def CN(K:aaU):Sp:=fun vs H Q _=>TY K vs H Q
theorem My:aW ["thing"] ["thing"] (aK Ej):=bh (by decide+kernel)
theorem a1T(F:FA K mg "is_rate" Ej)(B:bw mg)(a5S:GV mg "LEAST_RATE" (.int 10))(a5U:GV mg "GREATEST_RATE" (.int 200))(og:aj P w K mg base "is_whole_within" 2 (qJ K)):aj P w K mg base "is_rate" 3 (CN K):=by
 refine F.has My (fun vs H Q E h=>?_) (fun _ _ _ _ _ _=>dJ fun _=>rfl) (fun f aD A outer s H vs Q E hr h=>?_)
 · obtain⟨v,d,rfl,_⟩:=h
   rfl
 · obtain⟨v,d,rfl,rd,k⟩:=h
   have nd:=My.nd;refine⟨_,(aw (aJ (pf og hr (aa (pv 0) (aa (dQ (x:="LEAST_RATE") rfl a5S) (aa (dQ (x:="GREATEST_RATE") rfl a5U) ae)))))),?_⟩;exact⟨_,rfl,v,d,10,200,rfl,rd,k⟩
inductive Ts(K:aaU)(vs:List V)(H:Hp)(Q:VK):Prop |mk (v:_)(ns:_)(sp:_)(r:_)(h0:vs=[v,.int r])(h1:RD K H v (hZ ns sp))(h2:1<=sp)(h3:sp<=20)(h4:10<=r)(h5:r<=200)(h6:∀v' H',aR K H' v' (Rat.divInt ((sp*r)^2) 10000)->ak H H'->Q v' H'):Ts K vs H Q
def zy(K:aaU):Sp:=fun vs H Q _=>Ts K vs H Q
theorem Ky(a b:Int):a*a*b*b=(a*b)^2:=by rw[fo,fo,kO,jV];ac_rfl
theorem Ze{r:Int}(h1:10<=r)(h2:r<=200):Nm (.int r)=true:=by show(decide (10<=r)&&decide (r<=200))=true;rw[ck h1,ck h2];rfl
theorem LJ:aW ["line","rate","speed"] ["line","rate"] (aK Dl):=bh (by decide+kernel)
theorem a0M(F:FA K mg "top_square" Dl)(B:bw mg)(a51:aj P w K mg base "is_rate" 3 (CN K))(pK:aj P w K mg base "fraction" 3 (u9 K)):aj P w K mg base "top_square" 4 (zy K):=by
 refine F.has LJ (fun vs H Q E h=>?_) (fun _ _ _ _ _ _=>cW fun _ _=>rfl) (fun f aD A outer s H vs Q E hr h=>?_)
 · obtain⟨v,ns,sp,r,rfl,_⟩:=h
   rfl
 · obtain⟨v,ns,sp,r,rfl,rd,s1,s2,r1,r2,k⟩:=h
   have nd:=LJ.nd;refine⟨_,(ai (bj (dS (cA (pf a51 hr (aa (pv 1) ae)))) (aw uu) bu) (ai (pS 2 nd (px K (pv 0) ah)) (aw (aJ (pf pK hr (aa (az bc (az bc (az bc (pv 2) (pv 2)) (pv 1)) (pv 1)) (aa (az bc ah ah) ae))))))),?_⟩;refine⟨_,rfl,_,.int r,rfl,cX r,_,rfl,?_⟩;rw[Ze r1 r2];refine bf ?_;obtain⟨a,b,rfl,ha,hb⟩:=kX rd;refine⟨_,rfl,.inr ⟨a,_,2,.int sp,rfl,rfl,ha,rfl,?_⟩⟩;have m1:(sp*sp).natAbs<=20*20:=by rw[fq];exact lU (by lia) (by lia)
   refine⟨_,rfl,_,rfl,_,_,rfl,rfl,.of_left (bM (by lia) (by lia)),_,rfl,_,_,rfl,rfl,.of_left (bM (by lia) (by lia)),_,rfl,_,_,rfl,rfl,.of_right (bM (by lia) (by lia)),?_⟩;refine⟨_,_,rfl,rfl,.of_left (bM (by decide) (by decide)),?_⟩;refine⟨_,_,rfl,by decide,gF (n:=20) (by decide) (by decide),fun v' H' r' s'=>k v' H' ?_ s'⟩;rw[Ky]at r';exact r'
inductive Tr(K:aaU)(vs:List V)(H:Hp)(Q:VK):Prop |mk (v:_)(ns:_)(sp:_)(r:_)(h0:vs=[v,.int r])(h1:RD K H v (hZ ns sp))(h2:1<=sp)(h3:sp<=20)(h4:10<=r)(h5:r<=200)(h6:∀v' H',aR K H' v' (Rat.divInt ((sp*r)^2) 10000)->ak H H'->Q v' H'):Tr K vs H Q
def CI(K:aaU):Sp:=fun vs H Q _=>Tr K vs H Q
theorem LH:aW ["_law_line_here","_law_rate"] ["_law_line_here","_law_rate"] (aK Dk):=bh (by decide+kernel)
theorem XG(n:Nat)(h:n<=1000):n<sizeLine:=oQ h (by decide)
theorem m9{H:Hp}{v:V}{r:Rat}(h:RD K H v (cD r)):aR K H v r:=by obtain⟨p,xs,rfl,h1,h2⟩:=h.dF;have:=h2.iH (ns:=[r.num,r.den]);subst this;exact⟨p,rfl,h1⟩
theorem dR.up{ax:Nat}{ns:List Int}(h:dR ax 100 ns):dR ns.length 1000 ns:=⟨rfl,fun z hz=>by have:=h.bd z hz;lia,h.nz⟩
theorem gu.uE{ax:Nat}{ds:List aaX}{os:List Itm}(h:gu ax ds os):OkIs os:=fun i ns sp e=>by unfold atO at e;cases ho:os[i]? with |none=>rw[ho]at e;cases e |some o=>rw[ho]at e;have e':o=some (ns,sp):=e;subst e';obtain⟨a,b,c⟩:=h.ok i ns sp ho;exact⟨a.bd,b,c⟩
theorem rB{H:Hp}{a:Addr}(h:aI K H a [.int 0,.int 1]):aR K H (.ref a) 0:=⟨a,rfl,h⟩
theorem a7W(j:Int)(ns ms:List Int):yh j ns ms=match cornO j ns ms with|none=>.none|some c=>cD c:=by unfold yh cornO;split<;>rfl
inductive UG(K:aaU)(vs:List V)(H:Hp)(Q:VK):Prop |mk (m:_)(v1:_)(v2:_)(rate:_)(rs:_)(r:_)(f:_)(j:_)(t:_)(d1:_)(d2:_)(o1:_)(o2:_)(ax:_)(h0:vs=[m,v1,v2,.int rate])(h1:RD K H m (iG rs r f j t))(h2:1<=j)(h3:j<=50)(h4:RD K H v1 d1)(h5:RD K H v2 d2)(h6:itR d1 o1)(h7:itR d2 o2)(h8:(∀ns sp,o1=some (ns,sp)->dR ax 100 ns/\1<=sp/\sp<=20))(h9:(∀ns sp,o2=some (ns,sp)->dR ax 100 ns/\1<=sp/\sp<=20))(xV:ax<=100)(Qk:10<=rate)(Qj:rate<=200)(Qi:∀v H',aR K H' v (betR j rate o1 o2)->ak H H'->Q v H'):UG K vs H Q
def zF(K:aaU):Sp:=fun vs H Q _=>UG K vs H Q
theorem MP:aW ["machine","one","other","rate","squares","corner"] ["machine","one","other","rate"] (aK EE):=bh (by decide+kernel)
theorem a28(F:FA K mg "bound_between" EE)(B:bw mg)(gN:GT K mg "NOUGHT" [.int 0,.int 1])(pI:aj P w K mg base "is_line" 1 (uf K))(Ay:aj P w K mg base "top_square" 4 (zy K))(a5n:aj P w K mg base "corner_square" 6 (CY K))(vb:aj P w K mg base "least" 2 (iZ K)):aj P w K mg base "bound_between" 7 (zF K):=by
 obtain⟨aN,kE,m3⟩:=gN;refine F.has MP (fun vs H Q E h=>?_) (fun _ _ _ _ _ _=>Bx fun _ _ _ _=>rfl) (fun f aD A outer s H vs Q E hr h=>?_)
 · obtain⟨m,v1,v2,rate,rs,r,f,j,t,d1,d2,o1,o2,ax,rfl,_⟩:=h
   rfl
 · obtain⟨m,v1,v2,rate,rs,r,f,j,t,d1,d2,o1,o2,ax,rfl,rm,j1,j2,r1,r2,i1,i2,k1,k2,Q5,rt1,rt2,k⟩:=h
   have nd:=MP.nd;refine⟨_,(ai (bj (PW.pt (kh (dS (cA (pf pI hr (aa (pv 1) ae)))) (kS (dS (cA (pf pI hr (aa (pv 2) ae))))))) (aw (aJ (dQ (x:="NOUGHT") rfl kE))) bu) (ai (pS 4 nd (cV (aa (pf Ay hr (aa (pv 1) (aa (pv 3) ae))) (aa (pf Ay hr (aa (pv 2) (aa (pv 3) ae))) ae)))) (ai (pS 5 nd (pf a5n hr (aa (pv 0) (aa (pv 1) (aa (pv 2) ae))))) (ai (gy (bj (bL wZ (pv 5) j4 (ba _)) (aw (gY (jt K rfl (pv 4) (aa (pv 5) ae)))) bu)) (aw (aJ (pf vb hr (aa (pv 4) ae)))))))),?_⟩;refine⟨_,rfl,v1,d1,o1,rfl,r1,i1,_,rfl,?_⟩;cases o1 with |none=>refine bF (bF ?_);have:=k _ H (rB (m3 H)) (ak.refl _);exact this |some q1=>obtain⟨ns,sp⟩:=q1;refine bf ?_;refine⟨_,rfl,v2,d2,o2,rfl,r2,i2,_,rfl,?_⟩;cases o2 with |none=>refine bF ?_;exact k _ H (rB (m3 H)) (ak.refl _) |some q2=>obtain⟨ms,sq⟩:=q2;refine bf ?_;have e1:=jQ i1;have e2:=jQ i2;subst e1 e2;obtain⟨fG,a1,a2⟩:=k1 ns sp rfl;obtain⟨dG,b1,b2⟩:=k2 ms sq rfl;refine⟨_,rfl,_,rfl,v1,ns,sp,rate,rfl,r1,a1,a2,rt1,rt2,fun t1 H1 EW s1=>?_⟩;refine⟨_,rfl,_,rfl,v2,ms,sq,rate,rfl,RD.mono s1 _ r2,b1,b2,rt1,rt2,fun t2 H2 EV s2=>?_⟩;refine⟨bI rfl,fun l H3 n3=>?_⟩;have t3:=s1.trans (s2.trans n3.same);have A3:dR ns.length 1000 ms:=⟨by rw[fG.len,dG.len],dG.up.bd,dG.nz⟩;refine⟨_,rfl,_,rfl,_,rfl,m,v1,v2,rs,r,f,j,t,ns,ms,sp,sq,rfl,RD.mono t3 _ rm,RD.mono t3 _ r1,RD.mono t3 _ r2,fG.up,A3,by rw[fG.len];lia,j1,j2,fun c H4 rc s4=>?_⟩;have T1:Bd 2000 (topR rate sp):=(Ow.tY a1 a2 rt1 rt2).mono (by decide);have T2:Bd 2000 (topR rate sq):=(Ow.tY b1 b2 rt1 rt2).mono (by decide);have R1:aR K H4 t1 (topR rate sp):=((EW.go s2).go n3.same).go s4;have R2:aR K H4 t2 (topR rate sq):=(EV.go n3.same).go s4;have t4:=t3.trans s4;rw[a7W]at rc;cases hc:cornO j ns ms with
       |none=>
         rw[hc]at rc;cases rc.Od;refine⟨fun σ H5=>H5=H4/\σ=[some m,some v1,some v2,some (.int rate),some (.ref l),some .aY],?_,?_⟩
         · refine⟨_,rfl,rfl,_,rfl,bf ?_⟩
           exact⟨rfl,rfl⟩
         rintro σ H5 ⟨rfl,rfl⟩;refine⟨_,rfl,l,[t1,t2],[topR rate sp,topR rate sq],rfl,au.of (s4 _ _ n3.at'),⟨R1,T1,R2,T2,trivial⟩,by simp,fun i v q e1 e2 hq=>?_⟩;have rQ:betR j rate (some (ns,sp)) (some (ms,sq))=q:=by
          show mnO (mn _ _) (cornO j ns ms)=q;rw[hc];refine mi ?_ (hq _ (by simp)) (hq _ (by simp))
          match i,e2 with |0,e2=>cases e2;exact .inl rfl |1,e2=>cases e2;exact .inr rfl
         refine k v _ ?_ t4;rw[rQ]
         match i,e1,e2 with |0,e1,e2=>cases e1;cases e2;exact R1 |1,e1,e2=>cases e1;cases e2;exact R2
       |some cq=>
         rw[hc]at rc;have Rc:aR K H4 c cq:=m9 rc;have Tc:Bd 2000 cq:=(Ow.IE j1 j2 fG.bd dG.bd hc).mono (by decide);have jA:=s4 _ _ n3.at';have tU:ip H4 (L2.upd H4 l (.lst ([t1,t2]++[c]))):=.oX jA;refine⟨fun σ H5=>H5=L2.upd H4 l (.lst ([t1,t2]++[c]))/\σ=[some m,some v1,some v2,some (.int rate),some (.ref l),some c],?_,?_⟩
         · obtain⟨pc,rfl,_⟩:=id Rc
           refine⟨_,rfl,rfl,_,rfl,bF ?_⟩;refine⟨_,rfl,.inl ⟨rfl,_,au.of jA⟩,_,rfl,l,[t1,t2],_,rfl,rfl,jA,XG _ (Nat.le_of_ble_eq_true rfl),?_⟩;exact⟨rfl,rfl⟩
         rintro σ H5 ⟨rfl,rfl⟩;have up:∀{v:V}{q:Rat},aR K H4 v q->aR K (L2.upd H4 l (.lst ([t1,t2]++[c]))) v q:=fun{v q} h=>m9 (RD.t tU _ (p8 q) h.rd);refine⟨_,rfl,l,[t1,t2,c],[topR rate sp,topR rate sq,cq],rfl,au.of aQ,⟨up R1,T1,up R2,T2,up Rc,Tc,trivial⟩,by simp,fun i v q e1 e2 hq=>?_⟩;have rQ:betR j rate (some (ns,sp)) (some (ms,sq))=q:=by
          show mnO (mn _ _) (cornO j ns ms)=q;rw[hc];show mn (mn _ _) cq=q;have h1:=hq _ (show topR rate sp∈[topR rate sp,topR rate sq,cq] by simp);have h2:=hq _ (show topR rate sq∈[topR rate sp,topR rate sq,cq] by simp);have h3:=hq _ (show cq∈[topR rate sp,topR rate sq,cq] by simp);refine mi ?_ (ku h1 h2) h3
          match i,e2 with |0,e2=>cases e2;exact .inl (mi (.inl rfl) h1 h2).symm |1,e2=>cases e2;exact .inl (mi (.inr rfl) h1 h2).symm |2,e2=>cases e2;exact .inr rfl
         have sU:ak H (L2.upd H4 l (.lst ([t1,t2]++[c]))):=fun b o e=>by have h0:H2 l=none:=n3.no;have e2:=s2 b o (s1 b o e);rw[aB (fH e2 h0)];exact t4 b o e
         refine k v _ ?_ sU;rw[rQ]
         match i,e1,e2 with |0,e1,e2=>cases e1;cases e2;exact up R1 |1,e1,e2=>cases e1;cases e2;exact up R2 |2,e1,e2=>cases e1;cases e2;exact up Rc
theorem uI(qs:List Rat):cB (qs.map cD)=true:=Of p8 qs
theorem aE.D8{H:Hp}{l:Addr}{ys:List V}{y:V}{ds:List aaX}{d:aaX}{i:Nat}(dl:H l=some (.lst ys))(r:aE K H ys ds)(rd:RD K H y d)(n1:cB ds=true)(n2:eR d=true):aE K (L2.upd H l (.lst (ys.set i y))) (ys.set i y) (ds.set i d):=by have t:ip H (L2.upd H l (.lst (ys.set i y))):=.oX dl;have r':=aE.t t _ n1 r;have Nk:=RD.t t _ n2 rd;clear r rd dl t;generalize L2.upd H l (.lst (ys.set i y))=H' at r' Nk;induction ds generalizing ys i with |nil=>cases r'.nil_inv;exact cF |cons d0 ds ih=>
   obtain⟨y0,yr,rfl,h1,h2⟩:=r'.cons_inv;have n1':cB ds=true:=by rw[cB,eu]at n1;exact n1.2
   cases i with |zero=>exact bJ Nk h2 |succ i=>exact bJ h1 (ih n1' h2)
theorem ID(xs:List V):lP xs (some 1) none=xs.drop 1:=by unfold lP;have e:HT.bU xs.length 0 (some 1)=min 1 xs.length:=HT.MU _ _ 1;rw[e,HT.Yi];cases xs with |nil=>rfl |cons x xs=>
   have e2:min 1 (x::xs).length=1:=by simp
   rw[e2,JC (by simp)]
inductive Uh(K:aaU)(vs:List V)(H:Hp)(Q:VK):Prop |mk (m:_)(iv:_)(rate:_)(rs:_)(r:_)(f:_)(j:_)(t:_)(ds:_)(os:_)(h0:vs=[m,iv,.int rate])(h1:RD K H m (iG rs r f j t))(h2:mQ rs r f j t)(h3:RD K H iv (.tuple ds))(h4:gu rs.length ds os)(h5:ds.length<=100)(h6:10<=rate)(h7:rate<=200)(h8:∀l ys H',H l=none->H' l=some (.lst ys)->aE K H' ys ((ownL j rate os).map cD)->ak H H'->Q (.ref l) H'):Uh K vs H Q
def Lj(K:aaU):Sp:=fun vs H Q _=>Uh K vs H Q
theorem zG:aW ["machine","items","rate","between"] ["machine","items","rate"] (aK zH):=bh (by decide+kernel)
theorem a1C(F:FA K mg "own_bounds" zH)(B:bw mg)(gN:GT K mg "NOUGHT" [.int 0,.int 1])(Ha:aj P w K mg base "bound_between" 7 (zF K)):aj P w K mg base "own_bounds" 8 (Lj K):=by
 obtain⟨aN,kE,m3⟩:=gN;refine F.has zG (fun vs H Q E h=>?_) (fun _ _ _ _ _ _=>mL fun _ _ _=>rfl) (fun f aD A outer s H vs Q E hr h=>?_)
 · obtain⟨m,iv,rate,rs,r,f,j,t,ds,os,rfl,_⟩:=h
   rfl
 · obtain⟨m,iv,rate,rs,r,f,j,t,ds,os,rfl,rm,aF,ri,row,hz,rt1,rt2,k⟩:=h
   have nd:=zG.nd;have rN:∀H',RD K H' (.ref aN) (cD 0):=fun H'=>(rB (m3 H')).rd;refine⟨_,(ai (bj (dS (Fm K rfl (pv 1))) (aw (aJ (cV (aa (dQ (x:="NOUGHT") rfl kE) ae)))) bu) (ai (Fp (i0:=3) nd rfl (Or.inl rfl) (N:=["one","other","machine","rate"]) (js:=[none,none,some 0,some 2]) rfl rfl rfl (jr K rfl false false rfl (B.at "zip") (aa (pv 1) (aa (Fv (CZ K rfl) (pv 1) (Fq ah) Fs) ae))) (fun _ _ _ _ _=>(du K rfl (n:=2) rfl (bE (aX 0 (show List.Nodup (["one","other","machine","rate"]:List Str) by decide+kernel)) (bE (aX 1 (show List.Nodup (["one","other","machine","rate"]:List Str) by decide+kernel)) dk)))) (fun _ _ _ _ _=>fh) (fun _ _ _ _ _=>(pf Ha hr (aa (pv 2) (aa (pv 0) (aa (pv 1) (aa (pv 3) ae))))))) (aw (aJ (az (vy K rfl) (az (vy K rfl) (cV (aa (dQ (x:="NOUGHT") rfl kE) ae)) (pv 3)) (cV (aa (dQ (x:="NOUGHT") rfl kE) ae))))))),?_⟩;obtain⟨ia,xs,rfl,hi,gP⟩:=ri.dF;have lx:=gP.length;have ll:=row.len;refine⟨_,rfl,_,.inr (.inl ⟨_,hi,rfl⟩),?_⟩;cases hd:xs with
   |nil=>
     subst hd;refine bF ?_;refine⟨bI rfl,fun l H1 n1=>?_⟩;refine k l [.ref aN] H1 n1.no n1.at' ?_ n1.same;have e:os=[]:=by
      have:os.length=0:=by rw[<-ll,<-lx];rfl
      exact C5.mp this
     rw[e];exact bJ (rN H1) cF |cons x0 xr=>
     refine bf ?_;have cZ:os≠[]:=by intro e;rw[e]at ll;rw[hd]at lx;simp at ll lx;rw[ll]at lx;cases lx
     have Gr:0<xs.length:=by rw[hd];simp
     refine⟨_,rfl,_,rfl,1,rfl,ia,xs,rfl,.inr ⟨hi,?_,fun tl H1 n1=>?_⟩⟩
     · rintro⟨h1,_⟩
       have e:HT.bU xs.length 0 (some 1)=min 1 xs.length:=HT.MU _ _ 1;rw[e]at h1
       lia
     refine⟨ia,tl,rfl,⟨_,hi.go n1.same⟩,⟨_,aI.of n1.at'⟩,fun D H2 n2=>?_⟩;have et:=n1.at';rw[ID]at et;have xc:∀(i:Nat)(o:Itm),os[i]? =some o->∀(ns:List Int)(sp:Int),o=some (ns,sp)->dR rs.length 100 ns/\1<=sp/\sp<=20:=fun i o e ns sp e'=>row.ok i ns sp (by rw[e,e']);have lr:=aF.len;refine sX (K:=K) (b1:=false) (b2:=false) (xs:=xs) (ys:=xs.drop 1) (ds:=((List.range (os.length-1)).map (fun i=>ownF j rate os (i+1))).map cD) _ rfl (hi.go n1.same) (aI.of et) n2 (by rw[JH];simp;lia) (by simp;lia) (uI _) ?_ ?_
     · intro i x y d H3 Q' ex ey ed s3 hq
       have cP:=n1.same.trans s3;rw[List.getElem?_drop]at ey;obtain⟨d1,e1,r1⟩:=gP.get' i ex;obtain⟨d2,e2,r2⟩:=gP.get' (1+i) ey;obtain⟨o1,mF,i1⟩:=row.get e1;obtain⟨o2,lA,i2⟩:=row.get e2;have PN:1+i<os.length:=(dh.mp lA).1;have kI:d=cD (betR j rate o1 o2):=by rw[bZ,bZ,bN (by simp;lia),tS]at ed;have:=(dj ed).symm;rw[this];show cD (betR j rate (atO os i) (atO os (i+1)))=_;rw[Ow.oF mF,Ow.oF (show os[i+1]? =some o2 by rw[Nat.add_comm];exact lA)]
       subst kI;refine⟨_,rfl,_,rfl,_,rfl,_,rfl,m,x,y,rate,rs,r,f,j,t,d1,d2,o1,o2,rs.length,rfl,RD.mono cP _ rm,aF.j1.1,aF.j1.2,RD.mono cP _ r1,RD.mono cP _ r2,i1,i2,xc _ _ mF,xc _ _ lA,by lia,rt1,rt2,fun v H4 rv s4=>?_⟩;exact hq _ _ s4 rv.rd
     · intro H3 zs s3 d3 r3
       have lz:=r3.length;simp at lz;refine⟨bI rfl,fun l1 H4 n4=>?_⟩;refine⟨_,rfl,l1,D,_,zs,rfl,rfl,au.of n4.at',au.of (n4.same _ _ d3),wF _ (by simp;lia),fun l2 H5 n5=>?_⟩;refine⟨bI rfl,fun l3 H6 n6=>?_⟩;refine⟨l2,l3,_,_,rfl,rfl,au.of (n6.same _ _ n5.at'),au.of n6.at',wF _ (by simp;lia),fun l H7 n7=>?_⟩;have wK:ak H H6:=n1.same.trans (s3.trans (n4.same.trans (n5.same.trans n6.same)));have nl:H l=none:=by cases e:H l with |none=>rfl |some o=>have:=wK _ _ e;rw[n7.no]at this;cases this
       refine k l _ H7 nl n7.at' ?_ (wK.trans n7.same);rw[Ow.NT j rate cZ,mZ,mZ];exact((bJ (rN H7) cF).append (aE.mono (n4.same.trans (n5.same.trans (n6.same.trans n7.same))) _ r3)).append (bJ (rN H7) cF)
inductive Ue(K:aaU)(vs:List V)(H:Hp)(Q:VK):Prop |mk (v:_)(r:_)(z:_)(h0:vs=[v,.int z])(h1:aR K H v r)(h2:Bd 2000 r)(h3:z.natAbs<2^24)(h4:∀v H',aR K H' v (r+(z:Rat))->ak H H'->Q v H'):Ue K vs H Q
def zD(K:aaU):Sp:=fun vs H Q _=>Ue K vs H Q
theorem xr_addz {r : Rat} {z : Int} (m : r + (z : Rat) = Rat.divInt (r.num * (1:Nat) + z * r.den) (r.den * (1:Nat))) : r.num + z * r.den = (r + (z : Rat)).num ∧ (r.den : Int) = (r + (z : Rat)).den := by
  have c : (r.num + z * r.den).natAbs.Coprime r.den := (Int.gcd_add_mul_right_left (r.den : Int) r.num z).trans r.reduced
  have e : r + (z : Rat) = ⟨r.num + z * r.den, r.den, r.den_nz, c⟩ := by
    rw [m, Rat.mk_eq_divInt, Int.natCast_one, Int.mul_one, Int.mul_one]
  rw [e]
  exact ⟨rfl, rfl⟩
theorem Mg:aW ["one","more","p","q"] ["one","more"] (aK E4):=bh (by decide+kernel)
theorem a1y(F:FA K mg "plus_whole" E4)(B:bw mg):aj P w K mg base "plus_whole" 4 (zD K):=by
 refine F.has Mg (fun vs H Q E h=>?_) (fun _ _ _ _ _ _=>cW fun _ _=>rfl) (fun f aD A outer s H vs Q E hr h=>?_)
 · obtain⟨v,r,z,rfl,_⟩:=h
   rfl
 · obtain⟨v,r,z,rfl,rv,br,hz,k⟩:=h
   have nd:=Mg.nd
   obtain ⟨p,rfl,hp⟩:=rv
   refine ⟨_,(ai (fF (pv 0) (du K rfl (n:=2) rfl (bE (aX 2 nd) (bE (aX 3 nd) dk)))) (aw (aJ (dw (aa (az cE (pv 2) (az bc (pv 1) (pv 3))) (aa (pv 3) ae)))))),?_⟩
   refine ⟨_,rfl,_,_,rfl,hp,rfl,_,_,rfl,_,_,rfl,rfl,?_⟩
   have bz:Bd 24 (z:Rat):=⟨hz,by show 1<2^24;decide⟩
   obtain ⟨e1,e2⟩:=xr_addz (add_div r z)
   refine ⟨_,rfl,_,rfl,_,rfl,_,_,rfl,rfl,gU (bz.mono (by decide)).wn.bits br.wd.bits,_,_,rfl,rfl,_,rfl,bI rfl,fun t H' n=>k _ _ ⟨t,rfl,aI.of ?_⟩ n.same⟩
   rw [← e1,← e2]; exact n.at'
theorem Ap{os:List Itm}{i:Nat}{ns:List Int}{sp:Int}(h:os[i]? =some (some (ns,sp))):leadF os i=some (ay ns):=by unfold leadF;rw[Ow.oF h];rfl
theorem OX{os:List Itm}{i:Nat}(h:os[i]? =some none):leadF os i=none:=by unfold leadF;rw[Ow.oF h];rfl
theorem OY{os:List Itm}(h:OkIs os){i m:Nat}(e:leadF os i=some m):m<=100:=by unfold leadF at e;cases ho:atO os i with |none=>rw[ho]at e;cases e |some q=>rw[ho]at e;cases e;obtain⟨a,_,_⟩:=h i q.1 q.2 ho;exact mm fun z hz=>by have:=a z hz;lia
theorem K5{r:Int}{m:Nat}(h1:1<=r)(h2:r<=50)(h3:m<=100):(2*r*(m:Int)).natAbs<2^24:=by
 have lg:(2:Nat)^24=16777216:=by decide
 have:=ko (a:=2*r) (b:=(m:Int)) (m:=100) (n:=100) (by lia) (by lia);rw[lg];lia
theorem MI:aW ["machine","items","squares","fall","kept","i"] ["machine","items","squares"] (aK Et):=bh (by decide+kernel)
theorem LO:aW ["_law_one","_law_other_here"] ["_law_one","_law_other_here"] (aK Dr):=bh (by decide+kernel)
theorem a0R(F:FA K mg "_law_sum" Dr)(B:bw mg)(pP:aj P w K mg base "_law_frac" 1 (wA K)):aj P w K mg base "_law_sum" 2 (m4 (·+·) K):=by
 refine F.has LO (fun vs H Q E h=>?_) (fun _ _ _ _ _ _=>cW fun _ _=>rfl) (fun f aD A outer s H vs Q E hr h=>?_)
 · obtain⟨v1,v2,r,s,rfl,_⟩:=h
   rfl
 · obtain⟨v1,v2,r,s,rfl,⟨p,rfl,hp⟩,⟨q,rfl,hq⟩,br,bs,k⟩:=h
   have nd:=LO.nd;refine⟨_,(aw (aJ (pf pP hr (aa (az cE (az bc (px K (pv 0) ah) (px K (pv 1) ah)) (az bc (px K (pv 1) ah) (px K (pv 0) ah))) (aa (az bc (px K (pv 0) ah) (px K (pv 1) ah)) ae))))),?_⟩;refine⟨_,rfl,.inr ⟨p,_,0,.int r.num,rfl,rfl,hp,rfl,_,rfl,.inr ⟨q,_,1,.int s.den,rfl,rfl,hq,rfl,_,_,rfl,rfl,gU br.wn.bits bs.wd.bits,?_⟩⟩⟩;refine⟨_,rfl,.inr ⟨q,_,0,.int s.num,rfl,rfl,hq,rfl,_,rfl,.inr ⟨p,_,1,.int r.den,rfl,rfl,hp,rfl,_,_,rfl,rfl,gU bs.wn.bits br.wd.bits,?_⟩⟩⟩;refine⟨_,_,rfl,rfl,?_⟩;refine⟨_,rfl,.inr ⟨p,_,1,.int r.den,rfl,rfl,hp,rfl,_,rfl,.inr ⟨q,_,1,.int s.den,rfl,rfl,hq,rfl,_,_,rfl,rfl,gU br.wd.bits bs.wd.bits,?_⟩⟩⟩;refine⟨_,_,rfl,gW (den_pos r) (den_pos s),yZ br bs,fun v H' r' s'=>k v H' ?_ s'⟩;show aR K H' v (r+s);rw[add_div];exact r'
theorem Mp:aW ["_law_one","_law_other_here"] ["_law_one","_law_other_here"] (aK Ec):=bh (by decide+kernel)
theorem a1M(F:FA K mg "_law_less" Ec)(B:bw mg):aj P w K mg base "_law_less" 1 (uc K):=by
 refine F.has Mp (fun vs H Q E h=>?_) (fun _ _ _ _ _ _=>cW fun _ _=>rfl) (fun f aD A outer s H vs Q E hr h=>?_)
 · obtain⟨v1,v2,r,s,rfl,_⟩:=h
   rfl
 · obtain⟨v1,v2,r,s,rfl,⟨p,rfl,hp⟩,⟨q,rfl,hq⟩,br,bs,k⟩:=h
   have nd:=Mp.nd;refine⟨_,(aw (aJ (eQ jv (az bc (px K (pv 0) ah) (px K (pv 1) ah)) (az bc (px K (pv 1) ah) (px K (pv 0) ah)) (ba _)))),?_⟩;refine⟨_,rfl,.inr ⟨p,_,0,.int r.num,rfl,rfl,hp,rfl,_,rfl,.inr ⟨q,_,1,.int s.den,rfl,rfl,hq,rfl,_,_,rfl,rfl,gU br.wn.bits bs.wd.bits,?_⟩⟩⟩;refine⟨_,rfl,.inr ⟨q,_,0,.int s.num,rfl,rfl,hq,rfl,_,rfl,.inr ⟨p,_,1,.int r.den,rfl,rfl,hp,rfl,_,_,rfl,rfl,gU bs.wn.bits br.wd.bits,?_⟩⟩⟩;refine⟨_,_,rfl,rfl,?_⟩;have e:decide (r.num*(s.den:Int)<s.num*(r.den:Int))=decide (r<s):=by rw[nj,qq,qq,BV]
   show Q (.bl (decide (r.num*(s.den:Int)<s.num*(r.den:Int)))) H;rw[e];exact k
theorem Mm:aW ["_law_some","_law_best","_law_one"] ["_law_some"] (aK E9):=bh (by decide+kernel)
theorem a1H(F:FA K mg "_law_min" E9)(B:bw mg)(a6o:aj P w K mg base "_law_less" 1 (uc K)):aj P w K mg base "_law_min" 2 (iZ K):=by
 refine F.has Mm (fun vs H Q E h=>?_) (fun _ _ _ _ _ _=>dJ fun _=>rfl) (fun f aD A outer s H vs Q E hr h=>?_)
 · obtain⟨l,xs,rs,rfl,_⟩:=h
   rfl
 · obtain⟨l,xs,rs,rfl,hl,lG,cZ,k⟩:=h
   have nd:=Mm.nd;refine⟨_,(ai (pS 1 nd (px K (pv 0) ah)) (ai (kU gE rfl (wV K rfl (pv 0)) (aX 2 nd) (aw (bj (cA (pf a6o hr (aa (pv 2) (aa (pv 1) ae)))) (aw (pS 1 nd (pv 2))) bu))) (aw (aJ (pv 1))))),?_⟩;have hlen:=lG.length;have h0:0<xs.length:=JF.mpr cZ;have e0:=bN h0;refine⟨_,rfl,.inl ⟨l,xs,0,xs[0],rfl,rfl,hl,cN (by decide) e0,?_⟩⟩;refine⟨_,rfl,l,rfl,⟨_,hl⟩,Hw (K:=K) (a:=l) (xs:=xs) (fun i σ H2=>H2=H/\∃(j:Nat)(b:V)(r:Rat)(v:Option V),xs[j]? =some b/\rs[j]? =some r/\(∀(m:Nat)(s:Rat),m<i->rs[m]? =some s->r<=s)/\σ=[some (.ref l),some b,v]) ?_ (fun i σ H2 _ h=>by rw[h.1];exact hl) ?_ ?_⟩
   · obtain⟨r,e1,_⟩:=lG.get e0
     exact⟨rfl,0,_,r,none,e0,e1,fun m s hm=>absurd hm (Nat.not_lt_zero _),rfl⟩
   · rintro i x σ H2 hx ⟨rfl,j,b,r,v,eb,er,hm,rfl⟩
     obtain⟨t,et,rt,bt⟩:=lG.get hx;obtain⟨r2,mD,rb,bb⟩:=lG.get eb;rw[er]at mD;cases mD;refine⟨_,rfl,_,rfl,x,b,t,r,rfl,rt,rb,bt,bb,_,rfl,?_⟩;refine dC (fun hc=>?_) (fun hc=>?_)
     · have bV:t<r:=jm hc
       refine⟨_,rfl,?_⟩;refine⟨rfl,i,x,t,_,hx,et,fun m s rY es=>?_,rfl⟩;rcases JA.mp rY with h|h
       ·exact dB (Jr bV) (hm m s h es)
       · subst h
         rw[et]at es;cases es;exact oN
     · have GG:¬t<r:=fun z=>hc (ck z)
       refine⟨rfl,j,b,r,_,eb,er,fun m s rY es=>?_,rfl⟩;rcases JA.mp rY with h|h
       ·exact hm m s h es
       · subst h
         rw[et]at es;cases es;exact yK.mp GG
   · rintro σ H2 ⟨rfl,j,b,r,v,eb,er,hm,rfl⟩
     refine⟨_,rfl,k j b r eb er fun s hs=>?_⟩;obtain⟨m,GK,em⟩:=VL.mp hs;exact hm m s (by lia) (by rw[bN GK,em])
theorem a0L(F:FA K mg "_law_top" Dk)(B:bw mg)(pP:aj P w K mg base "_law_frac" 1 (wA K)):aj P w K mg base "_law_top" 2 (CI K):=by
 refine F.has LH (fun vs H Q E h=>?_) (fun _ _ _ _ _ _=>cW fun _ _=>rfl) (fun f aD A outer s H vs Q E hr h=>?_)
 · obtain⟨v,ns,sp,r,rfl,_⟩:=h
   rfl
 · obtain⟨v,ns,sp,r,rfl,rd,s1,s2,r1,r2,k⟩:=h
   have nd:=LH.nd;refine⟨_,(aw (aJ (pf pP hr (aa (az bc (az bc (az bc (px K (pv 0) ah) (px K (pv 0) ah)) (pv 1)) (pv 1)) (aa ah ae))))),?_⟩;obtain⟨a,b,rfl,ha,hb⟩:=kX rd;have m1:(sp*sp).natAbs<=20*20:=by rw[fq];exact lU (by omega) (by omega)
   have m2:(sp*sp*r).natAbs<=400*200:=by rw[fq];exact lU (by omega) (by omega)
   refine⟨_,rfl,.inr ⟨a,_,2,.int sp,rfl,rfl,ha,rfl,_,rfl,.inr ⟨a,_,2,.int sp,rfl,rfl,ha,rfl,_,_,rfl,rfl,.of_left (bM (by omega) (by omega)),?_⟩⟩⟩;refine⟨_,rfl,_,_,rfl,rfl,.of_left (bM (by omega) (by omega)),_,rfl,_,_,rfl,rfl,.of_left (bM (by omega) (by omega)),?_⟩;refine⟨_,_,rfl,by decide,gF (n:=20) (by decide) (by decide),fun v' H' r' s'=>k v' H' ?_ s'⟩;rw[Ky]at r';exact r'
theorem mn3{x y z q:Rat}(h:q=x\/q=y\/q=z)(h1:q<=x)(h2:q<=y)(h3:q<=z):mn (mn x y) z=q:=by
 refine BW ?_ (ku (ku h1 h2) h3);rcases h with h|h|h
 ·rw[h];exact dB (g9 _ _) (g9 _ _)
 ·rw[h];exact dB (g9 _ _) (jP _ _)
 ·rw[h];exact jP _ _
theorem xE{n:Nat}{ns:List Int}(h:dR n 100 ns):ay ns<=100:=by have:=h.lead;lia
def eO(pl:List Int):aaX:=.tuple (pl.map PyData.int)
theorem gJ(pl:List Int):eR (eO pl)=true:=by rw[eO,eR];exact kj pl
theorem qV{H:Hp}{v:V}{pl:List Int}(h:RD K H v (eO pl)):∃a,v= .ref a/\aI K H a (pl.map V.int):=by obtain⟨a,xs,rfl,h1,h2⟩:=h.dF;rw[h2.iH]at h1;exact⟨a,rfl,h1⟩
theorem uv{H:Hp}{a:Addr}{pl:List Int}(h:aI K H a (pl.map V.int)):RD K H (.ref a) (eO pl):=iB h (uq pl)
def gB(pl:List Int):Itm->List Int |none=>pl |some (ns,_)=>fA pl ns
theorem bK.putL{p l:Addr}{H H1:Hp}{xs:List V}(b:bK p H H1)(hp:l≠p)(nl:H l=none):bK p H (L2.upd H1 l (.lst xs)):=by
 refine⟨?_,fun c o n e=>?_⟩
 · obtain⟨c',m',e,ok⟩:=b.bag
   exact⟨c',m',by rw[aB hp.symm];exact e,ok⟩
 ·rw[aB (fH e nl)];exact b.same c o n e
inductive Ud(K:aaU)(vs:List V)(H:Hp)(Q:VK):Prop |mk (p:_)(m:_)(rs:_)(r:_)(f:_)(j:_)(t:_)(h0:vs=[.ref p,m])(h1:fW H p)(h2:RD K H m (iG rs r f j t))(h3:mQ rs r f j t)(h4:∀v pl H',RD K H' v (eO pl)->iq rs pl->bK p H H'->Q v H'):Ud K vs H Q
def Lh(K:aaU):Sp:=fun vs H Q _=>Ud K vs H Q
theorem Mf:aW ["_law_bag_here","_law_machine_here"] ["_law_bag_here","_law_machine_here"] (aK E3):=bh (by decide+kernel)
theorem a1A(F:FA K mg "_law_place" E3)(B:bw mg)(dH:aj P w K mg base "_law_take" 1 oZ):aj P w K mg base "_law_place" 2 (Lh K):=by
 refine F.has Mf (fun vs H Q E h=>?_) (fun _ _ _ _ _ _=>cW fun _ _=>rfl) (fun f aD A outer s H vs Q E hr h=>?_)
 · obtain⟨p,m,rs,r,f,j,t,rfl,_⟩:=h
   rfl
 · obtain⟨p,m,rs,r,f,j,t,rfl,bg,rm,uC,k⟩:=h
   have nd:=Mf.nd;refine⟨_,(aw (aJ (gZ (x:="tuple") (kP K rfl) rfl (B.at "tuple") fD (aa (fO (N:=["_law_rail","_law_bag_here"]) (js:=[none,some 0]) rfl rfl rfl (p9 K rfl (px K (pv 1) ah)) (fun _ _ _ _ _=>(aX 0 (fw (by decide)))) (fun _ _ _ _ _=>fh) (fun _ _ _ _ _=>(pf dH hr (aa (pv 1) (aa (az cE (pv 0) ah) ae))))) ae)))),?_⟩;obtain⟨ma,mb,rfl,gs,je⟩:=kr rm;have lr:=uC.len;refine⟨_,rfl,.inr ⟨ma,_,0,.ref mb,rfl,rfl,gs,cN (fY 0) rfl,mb,rfl,⟨_,je⟩,fun D H1 n1=>?_⟩⟩;refine RM (K:=K) (J:=qi K mb) (p:=p) (H:=H) rs.length _ n1 bg (by lia) (fun i=>.int (rs.getD i 0)) (fun i H2 hi b2=>?_) (fun H2 b2=>?_) (fun i d=>∃z r,d= .int z/\rs[i]? =some r/\0<=z/\z<=r) ?_ ?_
   · have AL:=je.t (bK.t bg b2)
     have e:(rs.map V.int)[i]? =some (.int (rs.getD i 0)):=by rw[bZ,List.getD_eq_getElem?_getD,bN hi];rfl
     exact⟨⟨_,_,AL,e⟩,fun y H3 ⟨e3,y3⟩=>⟨e3,by have:=y3 _ AL;rw[e]at this;exact(dj this).symm⟩⟩
   ·exact⟨_,je.t (bK.t bg b2),by rw[bT];exact bo _⟩
   · intro i H2 Q' hi b2 hq
     have er:rs[i]? =some (rs.getD i 0):=by rw[List.getD_eq_getElem?_getD,bN hi];rfl
     obtain⟨r0,r1⟩:=uC.rl _ (gf er);refine⟨_,rfl,_,rfl,_,_,rfl,rfl,p,_,rfl,b2.bag,by lia,by lia,fun z H3 z0 z1 b3=>?_⟩;exact hq _ _ _ ⟨z,_,rfl,er,z0,by lia⟩ rfl (cX z) b3
   · intro H2 ys ds b2 d2 r2 l2 nl pd
     have pN:∃pl:List Int,ds=pl.map PyData.int/\iq rs pl:=by
      have key:∀(ds:List aaX),(∀d∈ds,∃z:Int,d= .int z)->∃pl:List Int,ds=pl.map PyData.int:=by intro ds;induction ds with |nil=>exact fun _=>⟨[],rfl⟩ |cons d ds ih=>intro h;obtain⟨z,rfl⟩:=h d (.head _);obtain⟨pl,rfl⟩:=ih fun x hx=>h x (.tail _ hx);exact⟨z::pl,rfl⟩
      obtain⟨pl,rfl⟩:=key ds fun d hd=>by obtain⟨i,hi⟩:=oU.mp hd;obtain⟨z,_,e,_⟩:=pd i d hi;exact⟨z,e⟩
      refine⟨pl,rfl,by simpa using l2,fun i x r e1 e2=>?_⟩;obtain⟨z,r',e,er,h0,h1⟩:=pd i (.int x) (by rw[bZ,e1];rfl);cases e;rw[e2]at er;cases er;exact⟨h0,h1⟩
     obtain⟨pl,rfl,on⟩:=pN;refine⟨D,_,rfl,.inl ⟨au.of d2,fun t H3 n3=>?_⟩⟩;have et:=n3.at';rw[r2.iH]at et;exact k (.ref t) pl H3 (uv (aI.of et)) on (b2.trans (.j7 b2.bag n3.same))
inductive Up(K:aaU)(vs:List V)(H:Hp)(Q:VK):Prop |mk (p:_)(m:_)(rs:_)(r:_)(f:_)(j:_)(t:_)(x:_)(pl:_)(mo:_)(h0:vs=[.ref p,m,x,.int mo])(h1:fW H p)(h2:RD K H m (iG rs r f j t))(h3:mQ rs r f j t)(h4:RD K H x (eO pl))(h5:iq rs pl)(h6:1<=mo)(h7:mo<=100)(h8:∀v ns sp H',RD K H' v (hZ ns sp)->dR rs.length 100 ns->1<=sp->sp<=20->iq rs (fA pl ns)->bK p H H'->Q v H'):Up K vs H Q
def CQ(K:aaU):Sp:=fun vs H Q _=>Up K vs H Q
def fT(rs pl is:List Int)(mo:Int):Prop:=∀(j:Nat)(z a r:Int),is[j]? =some z->pl[j]? =some a->rs[j]? =some r->0<=a+z/\a+z<=r/\(z.natAbs:Int)<=mo
theorem fT.on{rs pl is:List Int}{mo:Int}(h:fT rs pl is mo)(lp:pl.length=rs.length)(ls:is.length=pl.length):iq rs (fA pl is):=by
 refine⟨by rw[pZ ls];exact lp,?_⟩;intro j x r ej mE;have hj:j<pl.length:=by have:=(dh.mp ej).1;rw[pZ ls]at this;exact this
 have QY:=J3 (bN hj) (bN (show j<is.length by lia));rw[ej]at QY;have ej3:=dj QY;have:=h j _ _ r (bN (show j<is.length by lia)) (bN hj) mE
 lia
theorem fT.bd{rs pl is:List Int}{mo:Int}(h:fT rs pl is mo)(lp:pl.length=rs.length)(ls:is.length=pl.length):∀z∈is,(z.natAbs:Int)<=mo:=fun z kY=>by obtain⟨j,hj⟩:=oU.mp kY;have PK:=(dh.mp hj).1;exact(h j z _ _ hj (bN (show j<pl.length by lia)) (bN (show j<rs.length by lia))).2.2
theorem fT.snoc{rs pl is:List Int}{mo z a r:Int}(h:fT rs pl is mo)(ea:pl[is.length]? =some a)(er:rs[is.length]? =some r)(hz:0<=a+z/\a+z<=r/\(z.natAbs:Int)<=mo):fT rs pl (is++[z]) mo:=by
 intro j z' a' r' ej mG mE;by_cases hj:j<is.length
 · rw[vW hj]at ej
   exact h j z' a' r' ej mG mE
 · have oa:j=is.length:=by
     have:=(dh.mp ej).1;rw[fm]at this;have:j<is.length+1:=this
     lia
   rw[oa,yO (bo _),Jx]at ej;cases ej;rw[oa]at mG mE;rw[ea]at mG;rw[er]at mE;cases mG;cases mE;exact hz
theorem fT.set{rs pl is:List Int}{mo z a r:Int}{i:Nat}(h:fT rs pl is mo)(ea:pl[i]? =some a)(er:rs[i]? =some r)(hz:0<=a+z/\a+z<=r/\(z.natAbs:Int)<=mo):fT rs pl (is.set i z) mo:=by
 intro j z' a' r' ej mG mE;by_cases hj:j=i
 · subst hj
   rw[ea]at mG;rw[er]at mE;cases mG;cases mE;have hl:j<is.length:=by have:=(dh.mp ej).1;rwa [tR]at this
   rw[yN hl]at ej;cases ej;exact hz
 · rw[JI (ek hj)]at ej
   exact h j z' a' r' ej mG mE
theorem Mo:aW ["_law_bag_here","_law_machine_here","_law_place_here","_law_most","_law_steps","_law_flat","_law_axis","_law_stand_here","_law_low","_law_high"] ["_law_bag_here","_law_machine_here","_law_place_here","_law_most"] (aK Eb):=bh (by decide+kernel)
theorem a1L(F:FA K mg "_law_line" Eb)(B:bw mg)(dH:aj P w K mg base "_law_take" 1 oZ):aj P w K mg base "_law_line" 2 (CQ K):=by
 refine F.has Mo (fun vs H Q E h=>?_) (fun _ _ _ _ _ _=>Bx fun _ _ _ _=>rfl) (fun fa aD A outer s H vs Q E hr h=>?_)
 · obtain⟨p,m,rs,r,f,j,t,x,pl,mo,rfl,_⟩:=h
   rfl
 · obtain⟨p,m,rs,r,f,j,t,x,pl,mo,rfl,bg,rm,uC,rx,on,mo1,mo2,k⟩:=h
   have nd:=Mo.nd;refine⟨_,(ai (pS 4 nd (cV ae)) (ai (pS 5 nd (pf dH hr (aa (pv 0) (aa ah ae)))) (ai (kU gE rfl (ZZ K rfl false rfl (B.at "enumerate") (aa (pv 2) ae)) (du K rfl (n:=2) rfl (bE (aX 6 nd) (bE (aX 7 nd) dk))) (ai (pS 8 nd (cQ (x:="max") (S9 rfl) rfl (B.at "max") BZ (aa ah (aa (az fQ (pv 7) (pv 3)) ae)))) (ai (pS 9 nd (cQ (x:="min") (II rfl) rfl (B.at "min") VF (aa (px K (px K (pv 1) ah) (pv 6)) (aa (az cE (pv 7) (pv 3)) ae)))) (ai (gY (jt K rfl (pv 4) (aa (az fQ (az cE (pv 8) (pf dH hr (aa (pv 0) (aa (az cE (az fQ (pv 9) (pv 8)) ah) ae)))) (pv 7)) ae))) (aw (bj (bL (cJ K rfl hr.units) (pv 5) (pv 6) (ba _)) (aw (fF ah (qW (pv 4) (pv 6) set_list))) bu)))))) (ai (gy (bj (dS (cA (cQ (x:="any") (a8M K rfl rfl) rfl (B.at "any") VH (aa (pv 4) ae)))) (ai (pS 6 nd (pf dH hr (aa (pv 0) (aa (dv K B (aa (pv 4) ae)) ae)))) (aw (fF (az fQ ah (az bc ah (gZ (x:="int") Sa rfl (B.at "int") Jw (aa (eQ qX (px K (pv 2) (pv 6)) ah (ba _)) ae)))) (qW (pv 4) (pv 6) set_list)))) bu)) (aw (aJ (dw (aa aL (aa (gZ (x:="tuple") (kP K rfl) rfl (B.at "tuple") fD (aa (pv 4) ae)) (aa (az cE ah (pf dH hr (aa (pv 0) (aa ah ae)))) ae)))))))))),?_⟩;have lr:=uC.len;have lp:=on.len;obtain⟨ma,mb,rfl,gs,je⟩:=kr rm;obtain⟨xa,rfl,Gq⟩:=qV rx;refine⟨bI rfl,fun l H1 n1=>?_⟩;have b1:bK p H H1:=.j7 bg n1.same;have uR:l≠p:=fun z=>bg.ne (z▸n1.no);refine⟨_,rfl,p,4,rfl,b1.bag,by decide,by decide,fun fl H2 f0 f1 b2=>?_⟩;have Sr:=b1.trans b2;have Xm:=bK.t bg Sr;refine⟨_,rfl,xa,rfl,⟨_,Gq.t Xm⟩,a6K (K:=K) (b:=false) (a:=xa) (xs:=pl.map V.int) (fun i σ H3=>bK p H H3/\∃(is:List Int)(v1 v2 v3 v4:Option V),H3 l=some (.lst (is.map V.int))/\is.length=i/\fT rs pl is mo/\σ=[some (.ref p),some (.ref ma),some (.ref xa),some (.int mo),some (.ref l),some (.int fl),v1,v2,v3,v4]) ?_ (fun i σ H3 _ h=>Gq.t (bK.t bg h.1)) ?_ ?_⟩
   ·exact⟨Sr,[],none,none,none,none,b2.same _ _ uR n1.at',rfl,fun j z a r e=>by simp at e,rfl⟩
   · rintro i y σ H3 hy ⟨b3,is,v1,v2,v3,v4,dl,li,hz,rfl⟩ T H4 n4
     rw[bZ]at hy;obtain⟨a,ea,rfl⟩:=Option.map_eq_some_iff.mp hy;have PL:i<pl.length:=(dh.mp ea).1;obtain⟨rl,er⟩:∃rl,rs[i]? =some rl:=⟨_,bN (show i<rs.length by lia)⟩;obtain⟨a0,a1⟩:=on.at' i a rl ea er;obtain⟨r0,r1⟩:=uC.rl rl (gf er);have b4:bK p H H4:=b3.trans (.j7 b3.bag n4.same);have t4:=bK.t bg b4;have jA:=n4.same _ _ dl;have atr:fz (rs.map V.int) (i:Int)=some (.int rl):=cN (by lia) (by rw[bZ];simp[er]);refine⟨T,_,rfl,aI.of n4.at',rfl,_,_,rfl,_,_,rfl,rfl,?_⟩;refine⟨_,rfl,_,rfl,_,_,rfl,rfl,_,_,rfl,?_⟩;obtain⟨low,a7j,lo0,lo1,lo2⟩:∃low:Int,(if a-mo>0 then a-mo else 0)=low/\0<=low/\a-mo<=low/\low<=a:=⟨_,rfl,by split<;>lia,by split<;>lia,by split<;>lia⟩;rw[a7j];refine⟨_,rfl,.inr ⟨ma,_,0,.ref mb,rfl,rfl,gs.t t4,rfl,_,rfl,.inr ⟨mb,_,_,.int rl,rfl,rfl,je.t t4,atr,_,rfl,_,rfl,_,_,rfl,rfl,_,_,rfl,?_⟩⟩⟩;obtain⟨hi,sQ,hi0,hi1,PN⟩:∃hi:Int,(if a+mo<rl then a+mo else rl)=hi/\a<=hi/\hi<=rl/\hi<=a+mo:=⟨_,rfl,by split<;>lia,by split<;>lia,by split<;>lia⟩;rw[sQ];refine⟨_,rfl,.inl ⟨rfl,_,au.of jA⟩,?_⟩;refine⟨_,rfl,_,rfl,_,rfl,_,rfl,_,_,rfl,rfl,_,_,rfl,rfl,p,hi-low+1,rfl,b4.bag,by lia,by lia,fun d H5 d0 d1 b5=>?_⟩;refine⟨_,_,rfl,rfl,_,rfl,_,_,rfl,rfl,l,_,_,rfl,rfl,b5.same _ _ uR jA,?_,?_⟩
     · rw[bT,li]
       have:(1000:Nat)<sizeLine:=by decide
       lia
     have b6:bK p H (L2.upd H5 l (.lst (is.map V.int++[.int (low+d-a)]))):=(b4.trans b5).putL uR n1.no;have e6:(L2.upd H5 l (.lst (is.map V.int++[.int (low+d-a)]))) l=some (.lst ((is++[low+d-a]).map V.int)):=by rw[aQ,mZ];rfl
     generalize L2.upd H5 l (.lst (is.map V.int++[.int (low+d-a)]))=H6 at b6 e6⊢;rw[<-li]at ea er;have Kv:=hz.snoc ea er (z:=low+d-a) (by lia);refine⟨_,rfl,_,rfl,.inl ⟨_,_,rfl,rfl,_,rfl,?_⟩⟩;refine dC (fun hc=>?_) (fun hc=>?_)
     · have ix:jb ((is++[low+d-a]).map V.int).length (i:Int)=some i:=by unfold jb;rw[aO (by lia),aO (by rw[bT,fm];show(i:Int)<((is.length+1:Nat):Int);lia)];simp
       refine⟨_,rfl,_,rfl,l,_,_,_,rfl,rfl,e6,ix,?_⟩;refine⟨b6.putL uR n1.no,(is++[low+d-a]).set i 0,_,_,_,_,by rw[aQ,yM],by rw[tR,fm,li];rfl,?_,rfl⟩;rw[li]at ea er;exact Kv.set ea er (by lia)
     ·exact⟨b6,is++[low+d-a],_,_,_,_,e6,by rw[fm,li];rfl,Kv,rfl⟩
   · rintro σ H3 ⟨b3,is,v1,v2,v3,v4,dl,li,hz,rfl⟩
     rw[bT]at li;have t3:=bK.t bg b3;refine⟨fun σ H4=>bK p H H4/\∃(is:List Int)(v1:Option V),H4 l=some (.lst (is.map V.int))/\dR rs.length 100 is/\iq rs (fA pl is)/\σ=[some (.ref p),some (.ref ma),some (.ref xa),some (.int mo),some (.ref l),some (.int fl),v1,v2,v3,v4],?_,?_⟩
     · refine⟨_,rfl,l,is,rfl,.inl (au.of dl),_,rfl,?_⟩
       cases ha:is.any (· !=0)with |false=>
         refine bF ?_;refine⟨_,rfl,_,rfl,l,_,rfl,.inl (au.of dl),p,_,rfl,b3.bag,(by rw[bT];lia),(by rw[bT];lia),fun ax H4 a0 a1 b4=>?_⟩;rw[bT]at a1;have Sq:=b3.trans b4;have Q5:ax.toNat<pl.length:=by lia
         have ea:=bN Q5;have er:=bN (show ax.toNat<rs.length by lia);obtain⟨q0,q1⟩:=on.at' _ _ _ ea er;obtain⟨r0,r1⟩:=uC.rl _ (gf er);have Su:fz (pl.map V.int) ax=some (.int pl[ax.toNat]):=cN a0 (by rw[bZ,ea];rfl);generalize pl[ax.toNat]=qa at ea q0 q1 Su;generalize rs[ax.toNat]=qr at er q1 r0 r1;refine⟨_,rfl,_,rfl,.inr ⟨xa,_,_,_,rfl,rfl,Gq.t (bK.t bg Sq),Su,?_⟩⟩;refine⟨_,_,rfl,rfl,.inr ⟨_,rfl,?_⟩⟩;refine⟨_,_,rfl,rfl,.of_left (bM (by decide) (by decide)),_,_,rfl,rfl,?_⟩;obtain⟨y,ey,y1,y2,y3⟩:∃y:Int,(1-2*(if decide (qa>0)=true then 1 else 0):Int)=y/\y.natAbs=1/\0<=qa+y/\qa+y<=qr:=by
          by_cases h:qa>0
          ·rw[ck h];exact⟨-1,rfl,rfl,by lia,by lia⟩
          ·rw[eg h];exact⟨1,rfl,rfl,by lia,by lia⟩
         have jA:=b4.same _ _ uR dl;have ix:jb (is.map V.int).length ax=some ax.toNat:=by unfold jb;rw[aO a0,aO (by rw[bT];lia)]
         refine⟨_,rfl,_,rfl,l,_,_,_,rfl,rfl,jA,ix,?_⟩;have st:=hz.set (i:=ax.toNat) ea er (z:=y) (by lia);have ls:(is.set ax.toNat y).length=pl.length:=by rw[tR];lia
         refine⟨Sq.putL uR n1.no,is.set ax.toNat y,_,?_,⟨by lia,fun z kY=>?_,?_⟩,st.on lp ls,rfl⟩
         · rw[aQ,<-yM]
           simp only[ey]
         ·have:=st.bd lp ls z kY;lia
         ·exact⟨y,VL.mpr ⟨ax.toNat,by rw[tR];lia,by rw[List.getElem_set_self]⟩,by lia⟩ |true=>
         refine bf ?_;have ls:is.length=pl.length:=by lia
         refine⟨b3,is,_,dl,⟨by lia,fun z kY=>?_,?_⟩,hz.on lp ls,rfl⟩
         ·have:=hz.bd lp ls z kY;lia
         · obtain⟨z,kY,h0⟩:=List.any_eq_true.mp ha
           exact⟨z,kY,by simpa using h0⟩
     rintro σ H4 ⟨b4,is,v1,dl,ok,on2,rfl⟩;refine⟨_,rfl,l,_,rfl,.inl ⟨au.of dl,fun q H5 n5=>?_⟩⟩;have b5:bK p H H5:=b4.trans (.j7 b4.bag n5.same);have qp:q≠p:=fun e=>b4.bag.ne (e▸n5.no);refine⟨_,rfl,p,20,rfl,b5.bag,by decide,by decide,fun sp H6 p0 p1 b6=>?_⟩;refine⟨_,_,rfl,rfl,bI rfl,fun t H7 n7=>?_⟩;have b7:=b5.trans (b6.trans (.j7 b6.bag n7.same));exact k (.ref t) is (1+sp) H7 (iB (aI.of n7.at') (bJ (cH _) (bJ (iB (aI.of (n7.same _ _ (b6.same _ _ qp n5.at'))) (uq is)) (bJ (cX _) cF)))) ok (by lia) (by lia) on2 b7
def fU(z:Str):Prop:=∀c∈z.cps.toList,c<0x110000
theorem fU.app{a b:Str}(ha:fU a)(hb:fU b):fU (a++b):=fun c hc=>by rw[VD,Cc,vU]at hc;exact hc.elim (ha c) (hb c)
theorem fU.joined{sep:Str}(hs:fU sep):∀l:List Str,(∀a∈l,fU a)->fU (PySem.Str.join sep l) |[],_=>fun c hc=>by simp[PySem.Str.join,PySem.Str.empty]at hc |[x],h=>h x (.head _) |x::y::r,h=>((h x (.head _)).app hs).app (fU.joined hs (y::r) fun a ha=>h a (.tail _ ha))
theorem fU.join{sep:Str}{l:List Str}(hs:fU sep)(h:∀a∈l,fU a):fU (Txt.join sep l):=by show fU (Builtin.Str.glued sep l);rw[StrLaws.glued_eq_join];exact fU.joined hs l h
theorem a0H{n:Nat}{z:Str}(h:fU z):cU n (.str z):=⟨by show PyData.strOk z=true;unfold PyData.strOk;rw[a9k];exact fun c hc=>ck (h c (by simpa using hc)),fX _⟩
theorem a0F{n:Nat}{z:Str}(h:cU n (.str z)):fU z:=fun c hc=>by have q:PyData.strOk z=true:=h.lay;unfold PyData.strOk at q;rw[a9k]at q;exact jm (q c (by simpa using hc))
theorem O6{z:Str}(h:z.cps.all (·<0x110000)=true):fU z:=a0F (n:=0) ⟨h,fX _⟩
theorem Kr:∀(ds:List aaX),(∀d∈ds,∃z:Str,d= .str z/\z.length=1/\fU z/\z.cps.toList.all (fun c=>decide (97<=c)&&decide (c<=122))=true)->∃zs:List Str,ds=zs.map PyData.str/\∀z∈zs,z.length=1/\fU z/\z.cps.toList.all (fun c=>decide (97<=c)&&decide (c<=122))=true |[],_=>⟨[],rfl,fun _ h=>nomatch h⟩ |d::ds,h=>by obtain⟨z,rfl,e⟩:=h d (.head _);obtain⟨zs,rfl,q⟩:=Kr ds fun x hx=>h x (.tail _ hx);exact⟨z::zs,rfl,fun y hy=>by
     rcases bB.mp hy with rfl|hy
     ·exact e
     ·exact q y hy⟩
theorem a8Y:fU jg:=O6 (by decide+kernel)
def G1(c:Nat):Bool:=decide (97<=c)&&decide (c<=122)
def xu(s:Str):Bool:=(decide (1<=s.length)&&decide (s.length<=8))&&s.cps.toList.all G1
def NZ(w s:Str):Prop:=(w="tool"/\(s="up"\/s="down"))\/(w="mark"/\xu s=true)
def oH(d:aaX):Prop:=(∃n,d= .tuple [.str "wait",.int n]/\1<=n/\n<=1000)\/∃w s,d= .tuple [.str w,.str s]/\(w="tool"\/w="mark")/\cU 0 (.str s)/\NZ w s
theorem Qo:∀l:List Str,(PySem.Str.join ("":Str) l).cps.toList=(l.map fun z=>z.cps.toList).flatten
  |[]=>by simp[PySem.Str.join,PySem.Str.empty] |[x]=>by simp[PySem.Str.join] |x::y::r=>by
    show((x++("":Str))++PySem.Str.join ("":Str) (y::r)).cps.toList=_;rw[VD,VD,Cc,Cc,Qo (y::r)];have:(("":Str)).cps.toList=[]:=by decide+kernel
    rw[this];simp
theorem a2C{l:List Str}(h1:1<=l.length)(h8:l.length<=8)(h:∀z∈l,z.length=1/\z.cps.toList.all G1=true):xu (Txt.join ("":Str) l)=true:=by
 have e:(Txt.join ("":Str) l).cps.toList=(l.map fun z=>z.cps.toList).flatten:=by show(Builtin.Str.glued ("":Str) l).cps.toList=_;rw[StrLaws.glued_eq_join];exact Qo l
 have el:(Txt.join ("":Str) l).length=l.length:=by
  show(Txt.join ("":Str) l).cps.size=_;rw[<-yS,e,List.length_flatten,List.map_map];have:∀(l:List Str),(∀z∈l,z.length=1/\z.cps.toList.all G1=true)->(l.map (List.length∘fun z=>z.cps.toList)).sum=l.length:=by intro l;induction l with |nil=>intro _;rfl |cons a r ih=>
     intro h;rw[mY,List.sum_cons,ih fun z hz=>h z (.tail _ hz),jI];have:=(h a (.head _)).1;have e2:(List.length∘fun z:Str=>z.cps.toList) a=1:=by show a.cps.toList.length=1;rw[yS];exact this
     rw[e2,Nat.add_comm]
  exact this l h
 unfold xu;rw[el,e,ck h1,ck h8,jJ,jJ,iy];intro c hc;obtain⟨cs,AU,AV⟩:=List.mem_flatten.mp hc;obtain⟨z,hz,rfl⟩:=jn.mp AU;exact iy.mp (h z hz).2 c AV
theorem oH.it{d:aaX}(h:oH d):itR d none:=by
 rcases h with⟨n,rfl,_⟩|⟨w,s,rfl,hw|hw,_⟩
 ·exact .inr ⟨_,_,rfl,.inl rfl,rfl,rfl⟩
 ·exact .inr ⟨_,_,rfl,.inr (.inl hw),rfl,rfl⟩
 ·exact .inr ⟨_,_,rfl,.inr (.inr hw),rfl,rfl⟩
inductive Ui(K:aaU)(vs:List V)(H:Hp)(Q:VK):Prop |mk (p:Addr)(h0:vs=[.ref p])(h1:fW H p)(h2:∀v d H',RD K H' v d->oH d->bK p H H'->Q v H'):Ui K vs H Q
def Lk(K:aaU):Sp:=fun vs H Q _=>Ui K vs H Q
theorem a1D(F:FA K mg "_law_other" E5)(B:bw mg)(dH:aj P w K mg base "_law_take" 1 oZ):aj P w K mg base "_law_other" 2 (Lk K):=by
 refine F.has Mh (fun vs H Q E h=>?_) (fun _ _ _ _ _ _=>dJ fun _=>rfl) (fun f aD A outer s H vs Q E hr h=>?_)
 · obtain⟨p,rfl,_⟩:=h
   rfl
 · obtain⟨p,rfl,bg,k⟩:=h
   have nd:=Mh.nd;refine⟨_,(ai (pS 1 nd (pf dH hr (aa (pv 0) (aa ah ae)))) (ai (bj (bL (cJ K rfl hr.units) (pv 1) ah (ba _)) (aw (aJ (dw (aa aL (aa (az cE ah (pf dH hr (aa (pv 0) (aa (px K (cV (aa ah (aa ah ae))) (pf dH hr (aa (pv 0) (aa ah ae)))) ae)))) ae))))) bu) (ai (bj (bL (cJ K rfl hr.units) (pv 1) ah (ba _)) (aw (aJ (dw (aa aL (aa (px K (cV (aa aL (aa aL ae))) (pf dH hr (aa (pv 0) (aa ah ae)))) ae))))) bu) (ai (pS 2 nd aL) (aw (aJ (dw (aa aL (aa (a0c K rfl aL (aa (fO (N:=["_law_turn","_law_letters","_law_bag_here"]) (js:=[none,some 2,some 0]) rfl rfl rfl (wU rfl (B.at "range") (aa (az cE ah (pf dH hr (aa (pv 0) (aa ah ae)))) ae)) (fun _ _ _ _ _=>(aX 0 (show List.Nodup (["_law_turn","_law_letters","_law_bag_here"]:List Str) by decide+kernel))) (fun _ _ _ _ _=>fh) (fun _ _ _ _ _=>(NJ a3D (pv 1) (pf dH hr (aa (pv 2) (aa ah ae))) (fun _ _=>rfl)))) ae)) ae))))))))),?_⟩;refine⟨_,rfl,p,3,rfl,bg,by decide,by decide,fun so H1 s0 s1 b1=>?_⟩;refine⟨_,rfl,.inl ⟨_,_,rfl,rfl,_,rfl,?_⟩⟩;refine dC (fun hc=>?_) (fun hc=>?_)
   · refine⟨_,rfl,bI rfl,fun c H2' FW=>?_⟩
     have lR:bK p H1 H2':=.j7 b1.bag FW.same;have cp:c≠p:=fun z=>b1.bag.ne (z▸FW.no);refine⟨_,rfl,p,2,rfl,lR.bag,by decide,by decide,fun i H3' i0 i1 IU=>?_⟩;have hi:∃z:Int,fz ([.int 1000,.int 2]:List V) i=some (.int z)/\2<=z/\z<=1000:=by
      rcases(show i=0\/i=1 by lia)with rfl|rfl
      ·exact⟨1000,rfl,by decide,by decide⟩
      ·exact⟨2,rfl,by decide,by decide⟩
     obtain⟨z,ez,z2,a9l⟩:=hi;refine .inl ⟨c,_,_,_,rfl,rfl,au.of (IU.same _ _ cp FW.at'),ez,?_⟩;refine⟨p,z,rfl,IU.bag,by lia,by lia,fun n H2 n0 n1 a8E=>?_⟩;have b2:=lR.trans (IU.trans a8E);refine⟨_,_,rfl,rfl,bI rfl,fun t H3 n3=>?_⟩;exact k (.ref t) _ H3 (iB (aI.of n3.at') (bJ (cH _) (bJ (cX _) cF))) (.inl ⟨_,rfl,by lia,by lia⟩) (b1.trans (b2.trans (.j7 b2.bag n3.same)))
   refine⟨_,rfl,.inl ⟨_,_,rfl,rfl,_,rfl,?_⟩⟩;refine dC (fun hc=>?_) (fun hc=>?_)
   · refine⟨bI rfl,fun c H2 n2=>?_⟩
     have b2:bK p H1 H2:=.j7 b1.bag n2.same;have cp:c≠p:=fun z=>b1.bag.ne (z▸n2.no);refine⟨_,rfl,p,2,rfl,b2.bag,by decide,by decide,fun i H3 i0 i1 b3=>?_⟩;have hi:∃z:Str,fz ([.str "up",.str "down"]:List V) i=some (.str z)/\cU 0 (.str z)/\NZ "tool" z:=by
      rcases(show i=0\/i=1 by lia)with rfl|rfl
      ·exact⟨"up",rfl,⟨by decide+kernel,by decide+kernel⟩,.inl ⟨rfl,.inl rfl⟩⟩
      ·exact⟨"down",rfl,⟨by decide+kernel,by decide+kernel⟩,.inl ⟨rfl,.inr rfl⟩⟩
     obtain⟨z,ez,okz,onz⟩:=hi;refine .inl ⟨c,_,_,_,rfl,rfl,au.of (b3.same _ _ cp n2.at'),ez,bI rfl,fun t H4 n4=>?_⟩;exact k (.ref t) _ H4 (iB (aI.of n4.at') (bJ (cH _) (bJ (cH _) cF))) (.inr ⟨_,_,rfl,.inl rfl,okz,onz⟩) (b1.trans (b2.trans (b3.trans (.j7 b3.bag n4.same))))
   refine⟨rfl,?_⟩;refine⟨_,rfl,p,8,rfl,b1.bag,by decide,by decide,fun n H2 n0 n1 b2=>?_⟩;refine⟨_,_,rfl,rfl,_,rfl,by lia,by lia,fun D H3 nD=>?_⟩;refine RM (K:=K) (J:=mS 0 (1+n).toNat) (p:=p) (H:=H2) (1+n).toNat _ nD b2.bag (by lia) (fun i=>.int (0+(i:Int))) (fun i H3 hi _=>⟨hi,fun y H4 ⟨e,q⟩=>⟨e,q⟩⟩) (fun H3 _=>bo _) (fun _ d=>∃z:Str,d= .str z/\z.length=1/\fU z/\z.cps.toList.all (fun c=>decide (97<=c)&&decide (c<=122))=true) ?_ ?_
   · intro i H3 Q' hi b3 hq
     refine⟨_,rfl,_,rfl,p,26,rfl,b3.bag,by decide,by decide,fun d H4 d0 d1 b4=>?_⟩;have hd:d.toNat<jg.cps.toList.length:=by rw[a90];lia
     refine⟨jg,d,jg.cps.toList[d.toNat],rfl,rfl,by decide+kernel,cN d0 (bN hd),?_⟩;have fG:fU ⟨#[jg.cps.toList[d.toNat]]⟩:=fun c hc=>by have ib:c=jg.cps.toList[d.toNat]:=bS.mp hc;rw[ib];exact a8Y _ (C6 hd)
     have dG:(⟨#[jg.cps.toList[d.toNat]]⟩:Str).cps.toList.all (fun c=>decide (97<=c)&&decide (c<=122))=true:=by have:=iy.mp (show jg.cps.toList.all (fun c=>decide (97<=c)&&decide (c<=122))=true by decide+kernel) _ (C6 hd);show([jg.cps.toList[d.toNat]]:List Nat).all _=true;rw[JJ,List.all_nil,JP];exact this
     exact hq _ _ _ ⟨_,rfl,rfl,fG,dG⟩ rfl (cH _) b4
   · intro H3 ys ds b3 d3 r3 l3 nl pd
     obtain⟨zs,rfl,hz⟩:=Kr ds fun d hd=>by obtain⟨i,hi⟩:=oU.mp hd;exact pd i d hi
     rw[Kq r3]at d3;rw[bT]at l3;refine⟨"",D,zs,rfl,rfl,au.of d3,fun z kY=>by rw[(hz z kY).1];decide,by decide,by lia,bI rfl,fun t H4 n4=>?_⟩;exact k (.ref t) _ H4 (iB (aI.of n4.at') (bJ (cH _) (bJ (cH _) cF))) (.inr ⟨_,_,rfl,.inr rfl,a0H (fU.join (O6 (by decide+kernel)) fun a ha=>(hz a ha).2.1),.inr ⟨rfl,a2C (by lia) (by lia) fun z kY=>⟨(hz z kY).1,(hz z kY).2.2⟩⟩⟩) (b1.trans (b2.trans (b3.trans (.j7 b3.bag n4.same))))
def RowW(ds:List aaX)(os:List Itm):Prop:=∀(i:Nat)(d:aaX),os[i]? =some none->ds[i]? =some d->oH d
theorem RowW.snoc{ds:List aaX}{os:List Itm}{d:aaX}{o:Itm}(h:RowW ds os)(hl:ds.length=os.length)(hd:o=none->oH d):RowW (ds++[d]) (os++[o]):=by
 intro i x e1 e2;rcases qK e1 with h1|⟨h1,h1'⟩
 · rcases qK e2 with h2|⟨h2,_⟩
   ·exact h i x h1 h2
   ·have:=(dh.mp h1).1;lia
 · rcases qK e2 with h2|⟨_,sL⟩
   ·have:=(dh.mp h2).1;lia
   ·subst sL;exact hd h1'.symm
theorem JT{j:Int}(h:j.natAbs<2^64):Wd j:=Jy h (by decide+kernel)
inductive Uj(vs:List V)(H:Hp)(Q:VK):Prop |mk (p:Int)(q:Int)(h0:vs=[.int p,.int q])(h1:0<q)(h2:q<=10^6)(h3:p.natAbs<=10^9)(h4:Q (.int (gM p q)) H):Uj vs H Q
def CP:Sp:=fun vs H Q _=>Uj vs H Q
theorem Mi:aW ["p","q","size"] ["p","q"] (aK E6):=bh (by decide+kernel)
theorem a1E(F:FA K mg "nearest" E6)(B:bw mg):aj P w K mg base "nearest" 1 CP:=by
 refine F.has Mi (fun vs H Q E h=>?_) (fun _ _ _ _ _ _=>cW fun _ _=>rfl) (fun f aD A outer s H vs Q E hr h=>?_)
 · obtain⟨p,q,rfl,_⟩:=h
   rfl
 · obtain⟨p,q,rfl,q0,q1,p1,k⟩:=h
   have nd:=Mi.nd;refine⟨_,(ai (pS 2 nd (az lD (az cE (az bc ah (cQ (x:="abs") mK rfl (B.at "abs") oP (aa (pv 0) ae))) (pv 1)) (az bc ah (pv 1)))) (aw (aJ (NK (bL FD (pv 0) ah (ba _)) (pv 2) (wW wj (pv 2)))))),?_⟩;refine⟨_,rfl,p,rfl,_,_,rfl,rfl,.of_left (bM (by decide) (by decide)),_,rfl,_,_,rfl,rfl,_,rfl,_,_,rfl,rfl,.of_left (bM (by decide) (by decide)),_,_,rfl,rfl,⟨by lia,JT (by lia)⟩,?_⟩;have e:(2*(if p<0 then-p else p)+q)/(2*q)=jZ p q:=by unfold jZ;rw[<-yn];rfl
   refine⟨_,rfl,_,_,rfl,rfl,_,rfl,?_⟩;unfold gM at k;rw[<-e]at k;refine dC (fun hc=>?_) (fun hc=>?_)
   · have hp:p>=0:=jm hc
     rw[aO hp]at k;exact⟨_,rfl,k⟩
   · have hp:¬p>=0:=fun z=>hc (ck z)
     rw[aP hp]at k;exact⟨_,rfl,_,rfl,k⟩
def CG(ns:List Int)(k:Int):aaX:=.tuple ((ns.map fun z=>gM (k*z) (ay ns)).map PyData.int)
theorem NA{k z:Int}(h:k.natAbs<=10^6)(g:(z.natAbs:Int)<=1000):(k*z).natAbs<=10^9:=by rw[fq];exact gR (lU h (show z.natAbs<=1000 by lia)) (by decide)
inductive TB(K:aaU)(vs:List V)(H:Hp)(Q:VK):Prop |mk (v:_)(ns:_)(sp:_)(k:_)(h0:vs=[v,.int k])(h1:RD K H v (hZ ns sp))(h2:dR ns.length 1000 ns)(h3:ns.length<=1000)(h4:k.natAbs<=10^6)(h5:∀v' H',RD K H' v' (CG ns k)->ak H H'->Q v' H'):TB K vs H Q
def zA(K:aaU):Sp:=fun vs H Q _=>TB K vs H Q
theorem LQ:aW ["line","k","lead"] ["line","k"] (aK Du):=bh (by decide+kernel)
theorem a0T(F:FA K mg "stand_at" Du)(B:bw mg)(nZ:aj P w K mg base "lead_of" 1 (kQ K))(a4L:aj P w K mg base "nearest" 1 CP):aj P w K mg base "stand_at" 2 (zA K):=by
 refine F.has LQ (fun vs H Q E h=>?_) (fun _ _ _ _ _ _=>cW fun _ _=>rfl) (fun f aD A outer s H vs Q E hr h=>?_)
 · obtain⟨v,ns,sp,k,rfl,_⟩:=h
   rfl
 · obtain⟨v,ns,sp,kk,rfl,rd,ok,hz,hk,k⟩:=h
   have nd:=LQ.nd;refine⟨_,(ai (pS 2 nd (pf nZ hr (aa (pv 0) ae))) (aw (aJ (gZ (x:="tuple") (kP K rfl) rfl (B.at "tuple") fD (aa (fO (N:=["step","lead","k"]) (js:=[none,some 2,some 1]) rfl rfl rfl (p9 K rfl (px K (pv 0) ah)) (fun _ _ _ _ _=>(aX 0 (show List.Nodup (["step","lead","k"]:List Str) by decide+kernel))) (fun _ _ _ _ _=>fh) (fun _ _ _ _ _=>(pf a4L hr (aa (az bc (pv 2) (pv 0)) (aa (pv 1) ae))))) ae))))),?_⟩;refine⟨_,rfl,v,ns,sp,rfl,rd,ok.ne,hz,fun H1 s1=>?_⟩;obtain⟨a,b,rfl,ha,hb⟩:=kX (RD.mono s1 _ rd);obtain⟨lp,lm⟩:=ok.lead;refine⟨_,rfl,.inr ⟨a,_,1,.ref b,rfl,rfl,ha,rfl,b,rfl,⟨_,hb⟩,fun D H0 nw=>?_⟩⟩;refine Bo (K:=K) (xs:=ns.map V.int) (ds:=(ns.map fun z=>gM (kk*z) (ay ns)).map PyData.int) _ hb nw (by simp) (by simpa using hz) (kj _) ?_ ?_
   · intro i x d H2 Q' ex ed s2 hq
     rw[List.map_map]at ed;obtain⟨n,en,rfl⟩:=lE ed;cases xB ex en;refine⟨_,rfl,_,rfl,_,_,rfl,rfl,.of_left (bM (by lia) (by lia)),_,rfl,_,_,rfl,by lia,by lia,NA hk (ok.bd n (gf en)),?_⟩;exact hq _ _ (ak.refl _) (cX _)
   · intro H' ys s2 d2 r2
     refine⟨D,_,rfl,.inl ⟨au.of d2,fun t H4 n4=>?_⟩⟩;exact k _ _ (iB (aI.of n4.at') (aE.mono n4.same _ r2)) (s1.trans (s2.trans n4.same))
def gI(ns:List Int)(j:Nat):List Int:=ns.map fun z=>gM (((j:Int)+1)*z) (ay ns)-gM ((j:Int)*z) (ay ns)
def nM(ns:List Int):List aaX:=(List.range (ay ns)).map fun j=>.tuple ((gI ns j).map PyData.int)
theorem EZ(zs:List Int):eR (.tuple (zs.map PyData.int))=true:=by rw[eR];exact kj zs
theorem EX(ns:List Int):cB (nM ns)=true:=gL.mpr fun d hd=>by obtain⟨j,_,rfl⟩:=jn.mp hd;exact EZ _
theorem Na{ns:List Int}{i:Nat}(h:i<ay ns):(nM ns)[i]? =some (.tuple ((gI ns i).map PyData.int)):=by unfold nM;rw[bZ,bN (by simpa using h),tS];rfl
theorem EY(ns:List Int):(nM ns).length=ay ns:=by simp[nM]
inductive TV(K:aaU)(vs:List V)(H:Hp)(Q:VK):Prop |mk (v:_)(ns:_)(sp:_)(h0:vs=[v])(h1:RD K H v (hZ ns sp))(h2:dR ns.length 1000 ns)(h3:ns.length<=1000)(h4:∀l ys H',H l=none->H' l=some (.lst ys)->aE K H' ys (nM ns)->ak H H'->Q (.ref l) H'):TV K vs H Q
def CL(K:aaU):Sp:=fun vs H Q _=>TV K vs H Q
theorem M0:aW ["line","rows","before","k","behind"] ["line"] (aK DD):=bh (by decide+kernel)
theorem a1j(F:FA K mg "step_rows" DD)(B:bw mg)(nZ:aj P w K mg base "lead_of" 1 (kQ K))(AA:aj P w K mg base "stand_at" 2 (zA K)):aj P w K mg base "step_rows" 3 (CL K):=by
 refine F.has M0 (fun vs H Q E h=>?_) (fun _ _ _ _ _ _=>dJ fun _=>rfl) (fun f aD A outer s H vs Q E hr h=>?_)
 · obtain⟨v,ns,sp,rfl,_⟩:=h
   rfl
 · obtain⟨v,ns,sp,rfl,rd,ok,hz,k⟩:=h
   have nd:=M0.nd;obtain⟨lp,lm⟩:=ok.lead;refine⟨_,(ai (pS 1 nd (cV ae)) (ai (pS 2 nd (pf AA hr (aa (pv 0) (aa ah ae)))) (ai (kU gE rfl (NF rfl (B.at "range") (aa ah (aa (az cE (pf nZ hr (aa (pv 0) ae)) ah) ae))) (aX 3 nd) (ai (pS 4 nd (pf AA hr (aa (pv 0) (aa (pv 3) ae)))) (ai (gY (jt K rfl (pv 1) (aa (gZ (x:="tuple") (kP K rfl) rfl (B.at "tuple") fD (aa (fO (N:=["new","old"]) (js:=[none,none]) rfl rfl rfl (jr K rfl false false rfl (B.at "zip") (aa (pv 4) (aa (pv 2) ae))) (fun _ _ _ _ _=>(du K rfl (n:=2) rfl (bE (aX 0 (fw (by decide))) (bE (aX 1 (fw (by decide))) dk)))) (fun _ _ _ _ _=>fh) (fun _ _ _ _ _=>(az fQ (pv 0) (pv 1)))) ae)) ae))) (aw (pS 2 nd (pv 4)))))) (aw (aJ (pv 1)))))),?_⟩;refine⟨bI rfl,fun l H1 n1=>?_⟩;refine⟨_,rfl,v,ns,sp,0,rfl,RD.mono n1.same _ rd,ok,hz,by decide,fun u H2 ru s2=>?_⟩;have t2:=n1.same.trans s2;refine⟨_,rfl,v,ns,sp,rfl,RD.mono t2 _ rd,ok.ne,hz,fun H3 s3=>?_⟩;refine⟨_,_,rfl,rfl,_,_,rfl,⟨by lia,by lia,by lia,by lia⟩,?_⟩;have t3:=t2.trans s3;have e3:((ay ns:Int)+1-1).toNat=ay ns:=by lia
   refine B9 (Pv:=fun i σ H4=>ak H H4/\(∃ys,H4 l=some (.lst ys)/\aE K H4 ys ((nM ns).take i))/\∃b v1 v2,RD K H4 b (CG ns i)/\σ=[some v,some (.ref l),some b,v1,v2]) ?_ ?_ ?_
   ·exact⟨t3,⟨[],s3 _ _ (s2 _ _ n1.at'),cF⟩,u,none,none,RD.mono s3 _ ru,rfl⟩
   · rintro i σ H4 hi ⟨t4,⟨ys,dl,ry⟩,b,v1,v2,rb,rfl⟩
     have GQ:i<ay ns:=by lia
     refine⟨_,rfl,_,rfl,v,ns,sp,_,rfl,RD.mono t4 _ rd,ok,hz,by lia,fun b2 H5 Fc s5=>?_⟩;refine⟨_,rfl,.inl ⟨rfl,_,au.of (s5 _ _ dl)⟩,?_⟩;obtain⟨a1,xs1,rfl,h1,q1⟩:=Fc.dF;have e1:=q1.iH;subst e1;obtain⟨a0,xs0,rfl,h0,q0⟩:=(RD.mono s5 _ rb).dF;have e0:=q0.iH;subst e0;refine⟨_,rfl,_,rfl,a1,a0,rfl,⟨_,h1⟩,⟨_,h0⟩,fun D H6 nw=>?_⟩;refine sX (K:=K) (b1:=false) (b2:=false) (ds:=(gI ns i).map PyData.int) [] rfl h1 h0 nw (by simp[gI]) (by simpa[gI]using hz) (kj _) ?_ ?_
     · intro j x y d H7 Q' ex ey ed s7 hq
       obtain⟨m,em,rfl⟩:=lE ed;unfold gI at em;rw[bZ]at em ex ey;rw[bZ]at ex ey;cases en:ns[j]? with |none=>rw[en]at em;cases em |some n=>
         rw[en]at em ex ey;cases em;cases ex;cases ey;refine⟨_,rfl,_,rfl,_,_,rfl,rfl,?_⟩;have ee:(1:Int)+(i:Int)=(i:Int)+1:=by lia
         rw[ee];exact hq _ _ (ak.refl _) (cX _)
     · intro H7 zs s7 d7 r7
       refine⟨D,_,rfl,.inl ⟨au.of d7,fun t H8 n8=>?_⟩⟩;have EL:=s5.trans (s7.trans n8.same);have yd:=EL _ _ dl;have len:=ry.length;rw[nc,EY]at len;refine⟨l,ys,_,rfl,rfl,yd,?_,?_⟩
       · have:(1000:Nat)<sizeLine:=by decide
         lia
       refine⟨_,rfl,?_⟩;have tt:ip H8 (L2.upd H8 l (.lst (ys++[.ref t]))):=.oX yd;refine⟨fun b o e=>?_,⟨_,aQ,?_⟩,_,_,_,?_,rfl⟩
       ·rw[aB (fH e n1.no)];exact EL b o (t4 b o e)
       · rw[oT,Na GQ]
         have nt:cB ((nM ns).take i)=true:=gL.mpr fun d hd=>gL.mp (EX ns) d (C3 hd);exact(aE.t tt _ nt (aE.mono EL _ ry)).append (bJ (RD.t tt _ (EZ _) (iB (aI.of n8.at') (aE.mono n8.same _ r7))) cF)
       · have ee:(1:Int)+(i:Int)=((i+1:Nat):Int):=by lia
         rw[ee]at Fc;exact RD.t tt _ (EZ _) (RD.mono (s7.trans n8.same) _ Fc)
   · rintro σ H4 ⟨t4,⟨ys,dl,ry⟩,b,v1,v2,rb,rfl⟩
     rw[e3,JC (by rw[EY];exact bo _)]at ry;exact⟨_,rfl,k l ys H4 n1.no dl ry t4⟩
def fJ(ti:Int)(q:Rat)(t:Int):Bool:=decide (ti*ti*(q.den:Int)<=t*t*q.num)
inductive UA(K:aaU)(vs:List V)(H:Hp)(Q:VK):Prop |mk (m:_)(sq:_)(t:_)(rs:_)(r:_)(f:_)(j:_)(ti:_)(q:_)(h0:vs=[m,sq,.int t])(h1:RD K H m (iG rs r f j ti))(h2:aR K H sq q)(h3:Bd 2000 q)(h4:1<=ti)(h5:ti<=100)(h6:0<=t)(h7:t.natAbs<2^2400)(h8:Q (.bl (fJ ti q t)) H):UA K vs H Q
def Lo(K:aaU):Sp:=fun vs H Q _=>UA K vs H Q
theorem MK:aW ["machine","square","t","p","q","ticks"] ["machine","square","t"] (aK Ew):=bh (by decide+kernel)
theorem a23(F:FA K mg "are_enough" Ew)(B:bw mg):aj P w K mg base "are_enough" 1 (Lo K):=by
 refine F.has MK (fun vs H Q E h=>?_) (fun _ _ _ _ _ _=>mL fun _ _ _=>rfl) (fun f aD A outer s H vs Q E hr h=>?_)
 · obtain⟨m,sq,t,rs,r,f,j,ti,q,rfl,_⟩:=h
   rfl
 · obtain⟨m,sq,t,rs,r,f,j,ti,q,rfl,rm,⟨p,rfl,hp⟩,bq,t1,t2,t0,tw,k⟩:=h
   have nd:=MK.nd;refine⟨_,(ai (fF (pv 1) (du K rfl (n:=2) rfl (bE (aX 3 nd) (bE (aX 4 nd) dk)))) (ai (pS 5 nd (px K (pv 0) ah)) (aw (aJ (eQ FD (az bc (az bc (pv 2) (pv 2)) (pv 3)) (az bc (az bc (pv 5) (pv 5)) (pv 4)) (ba _)))))),?_⟩;obtain⟨a,b,rfl,ha,hb⟩:=kr rm;have wt:Wd t:=gF tw (by decide);have yY:Wd (t*t):=gF (n:=4800) (by rw[fq];exact kn (n:=2400) (m:=2400) tw tw) (by decide);have m1:(ti*ti).natAbs<=100*100:=by rw[fq];exact lU (by omega) (by omega)
   refine⟨_,rfl,_,_,rfl,hp,rfl,_,_,rfl,_,_,rfl,rfl,?_⟩;refine⟨_,rfl,.inr ⟨a,_,4,.int ti,rfl,rfl,ha,rfl,?_⟩⟩;refine⟨_,rfl,_,rfl,_,_,rfl,rfl,gU wt.bits wt.bits,_,rfl,_,_,rfl,rfl,gU yY.bits bq.wn.bits,?_⟩;refine⟨_,rfl,_,rfl,_,_,rfl,rfl,.of_left (bM (by omega) (by omega)),_,rfl,_,_,rfl,rfl,.of_left (bM (by omega) (by omega)),?_⟩;exact⟨_,_,rfl,rfl,k⟩
theorem QV{ti t:Int}{q:Rat}(hq:0<q.num)(h0:0<=t)(h:ti*ti*(q.den:Int)<=t):fJ ti q t=true:=by
 refine ck (Int.le_trans h ?_);by_cases ht:t=0
 ·subst ht;simp
 · have e1:t*1<=t*t:=VS (by lia) h0
   have e2:t*t*1<=t*t*q.num:=VS (by lia) (jo h0 h0)
   lia
theorem QT{ti:Int}{q:Rat}(h1:1<=ti):fJ ti q 0=false:=by
 refine eg fun h=>?_;have:=gW (gW (show 0<ti by lia) (show 0<ti by lia)) (den_pos q);simp only[yQ]at h
 lia
inductive Tv(K:aaU)(vs:List V)(H:Hp)(Q:VK):Prop |mk (m:_)(sq:_)(rs:_)(r:_)(f:_)(j:_)(ti:_)(q:_)(h0:vs=[m,sq])(h1:RD K H m (iG rs r f j ti))(h2:aR K H sq q)(h3:Bd 2000 q)(h4:1<=ti)(h5:ti<=100)(h6:0<q.num)(h7:∀T,1<=T->T.natAbs<2^2400->fJ ti q T=true->fJ ti q (T-1)=false->Q (.int T) H):Tv K vs H Q
def KI(K:aaU):Sp:=fun vs H Q _=>Tv K vs H Q
theorem LM:aW ["machine","square","enough","too_few","between"] ["machine","square"] (aK Dp):=bh (by decide+kernel)
theorem a0P(F:FA K mg "ticks_of" Dp)(B:bw mg)(Q6:aj P w K mg base "are_enough" 1 (Lo K)):aj P w K mg base "ticks_of" 2 (KI K):=by
 refine F.has LM (fun vs H Q E h=>?_) (fun _ _ _ _ _ _=>cW fun _ _=>rfl) (fun f aD A outer s H vs Q E hr h=>?_)
 · obtain⟨m,sq,rs,r,f,j,ti,q,rfl,_⟩:=h
   rfl
 · obtain⟨m,sq,rs,r,f,j,ti,q,rfl,rm,rq,bq,t1,t2,hq,k⟩:=h
   have nd:=LM.nd;refine⟨_,(ai (pS 2 nd ah) (ai (md gE (dS (cA (pf Q6 hr (aa (pv 0) (aa (pv 1) (aa (pv 2) ae)))))) (aw (pS 2 nd (az bc ah (pv 2))))) (ai (pS 3 nd (az lD (pv 2) ah)) (ai (md gE (bL qX (az fQ (pv 2) (pv 3)) ah (ba _)) (ai (pS 4 nd (az lD (az cE (pv 3) (pv 2)) ah)) (aw (bj (cA (pf Q6 hr (aa (pv 0) (aa (pv 1) (aa (pv 4) ae))))) (aw (pS 2 nd (pv 4))) (aw (pS 3 nd (pv 4))))))) (aw (aJ (pv 2))))))),?_⟩;have lim:(ti*ti*(q.den:Int)).natAbs<2^2399:=by
    have m1:(ti*ti).natAbs<=100*100:=by rw[fq];exact lU (by lia) (by lia)
    have hd:=bq.den;rw[fq];have:(q.den:Int).natAbs=q.den:=rfl;rw[this];have:=kn (n:=14) (m:=2000) (a:=(ti*ti).natAbs) (b:=q.den) (oQ m1 (by decide)) hd;exact fL this (qx (by decide) (by decide))
   have p0:0<ti*ti*(q.den:Int):=gW (gW (by lia) (by lia)) (den_pos q);have e2:(2:Nat)^2400=2^2399*2:=Nat.pow_succ 2 2399;generalize hL:ti*ti*(q.den:Int)=L at lim p0;refine lV (fun σ H2=>H2=H/\∃(x:Int),σ=[some m,some sq,some (.int x),none,none]/\1<=x/\x<=2*L/\fJ ti q (x/2)=false) (fun σ _=>match σ with|[_,_,some (.int x),_,_]=>(L-x).toNat|_=>0) ?_ ?_ ?_
   ·exact⟨rfl,1,rfl,by lia,by lia,QT t1⟩
   · rintro σ H2 ⟨rfl,x,rfl,x1,xL,hx⟩
     have xw:x.natAbs<2^2400:=by lia
     refine⟨_,rfl,_,rfl,_,rfl,m,sq,x,rs,r,f,j,ti,q,rfl,rm,rq,bq,t1,t2,by lia,xw,_,rfl,?_⟩;cases oh:fJ ti q x with
     |false=>
       have bV:x<L:=by
        by_cases bV:x<L
        ·exact bV
        ·rw[QV hq (by lia) (by lia)]at oh;cases oh
       refine dC (fun hc=>?_) (fun hc=>(hc rfl).elim);refine⟨_,rfl,_,_,rfl,rfl,.of_left (bM (by decide) (by decide)),?_⟩;refine⟨⟨rfl,_,rfl,by lia,by lia,?_⟩,?_⟩
       · have:2*x/2=x:=by lia
         rw[this];exact oh
       · show(L-2*x).toNat<(L-x).toNat
         lia |true=>
       refine dC (fun hc=>nomatch hc) (fun hc=>?_);refine⟨_,rfl,_,_,rfl,rfl,⟨by decide,gF (n:=2) (by decide) (by decide)⟩,?_⟩;refine lV (fun σ H3=>H3=H2/\∃(lo hi:Int)(v:Option V),σ=[some m,some sq,some (.int hi),some (.int lo),v]/\0<=lo/\lo<hi/\hi<=2*L/\fJ ti q lo=false/\fJ ti q hi=true) (fun σ _=>match σ with|[_,_,some (.int x),some (.int y),_]=>(x-y).toNat|_=>0) ?_ ?_ ?_
       ·exact⟨rfl,x/2,x,none,rfl,by lia,by lia,xL,hx,oh⟩
       · rintro σ H3 ⟨rfl,lo,hi,v,rfl,l0,lh,xS,yc,sQ⟩
         refine⟨_,rfl,_,rfl,_,_,rfl,rfl,_,_,rfl,rfl,_,rfl,?_⟩;refine dC (fun hc=>?_) (fun hc=>?_)
         · have hgt:hi-lo>1:=jm hc
           refine⟨_,rfl,_,rfl,_,_,rfl,rfl,_,_,rfl,rfl,⟨by decide,gF (n:=2) (by decide) (by decide)⟩,?_⟩;have mw:((lo+hi)/2).natAbs<2^2400:=by lia
           refine⟨_,rfl,_,rfl,_,rfl,m,sq,(lo+hi)/2,rs,r,f,j,ti,q,rfl,rm,rq,bq,t1,t2,by lia,mw,_,rfl,?_⟩;cases hm:fJ ti q ((lo+hi)/2)with
           |true=>
             refine bF ?_;refine⟨_,rfl,⟨rfl,lo,_,_,rfl,l0,by lia,by lia,yc,hm⟩,?_⟩;show((lo+hi)/2-lo).toNat<(hi-lo).toNat
             lia |false=>
             refine bf ?_;refine⟨_,rfl,⟨rfl,_,hi,_,rfl,by lia,by lia,xS,hm,sQ⟩,?_⟩;show(hi-(lo+hi)/2).toNat<(hi-lo).toNat
             lia
         · have hle:¬hi-lo>1:=fun z=>hc (ck z)
           have e:lo=hi-1:=by lia
           subst e;exact⟨_,rfl,k hi (by lia) (by lia) sQ yc⟩
       · rintro σ H2 Q1 Q2 hq ⟨v1,e1,v2,e2,i,j,e3,e4,i2,j2,e5,e6,kk,e7,q⟩
         exact⟨v1,e1,v2,e2,i,j,e3,e4,i2,j2,e5,e6,kk,e7,hq _ _ q⟩
   · rintro σ H2 Q1 Q2 hq ⟨v1,e1,v2,e2,v3,e3,m',XE,x',YA,r',f',j',WO,q',e4,h1,h2,h3,h4,h5,h6,h7,b,eb,q⟩
     exact⟨v1,e1,v2,e2,v3,e3,m',XE,x',YA,r',f',j',WO,q',e4,h1,h2,h3,h4,h5,h6,h7,b,eb,hq _ _ q⟩
def yp(ti:Int)(q:Rat)(T:Int):Prop:=1<=T/\fJ ti q T=true/\fJ ti q (T-1)=false
open Classical in
noncomputable def Ct(ti:Int)(q:Rat):Int:=if h:∃T,yp ti q T then h.choose else 0
theorem QU{ti:Int}{q:Rat}{s t:Int}(hq:0<=q.num)(h0:0<=s)(h:s<=t)(e:fJ ti q s=true):fJ ti q t=true:=by refine ck (Int.le_trans (jm e) ?_);exact VR (Cb h h h0 (by lia)) hq
theorem WS{ti:Int}{q:Rat}{S T:Int}(hq:0<=q.num)(h1:yp ti q S)(h2:yp ti q T):S=T:=by
 obtain⟨a1,a2,a3⟩:=h1;obtain⟨b1,b2,b3⟩:=h2;by_cases h:S<=T-1
 · have:=QU hq (by lia) h a2
   rw[b3]at this;cases this
 · by_cases h':T<=S-1
   · have:=QU hq (by lia) h' b2
     rw[a3]at this;cases this
   ·lia
theorem Kd{ti:Int}{q:Rat}{T:Int}(hq:0<=q.num)(h:yp ti q T):Ct ti q=T:=by have hx:∃T,yp ti q T:=⟨T,h⟩;unfold Ct;rw[dif_pos hx];exact WS hq hx.choose_spec h
theorem FJ{q:Rat}(h:0<q):0<q.num:=by
 have h1:=Jp.mpr (Jr h);have h2:q.num≠0:=fun e=>by rw[Rat.num_eq_zero.mp e]at h;exact absurd h (by decide)
 lia
noncomputable def nA(ti:Int)(zs:List Int)(q:Rat):aaX:=.tuple [.str "step",.tuple (zs.map PyData.int),.int (Ct ti q),cD q]
theorem CF(ti:Int)(zs:List Int)(q:Rat):eR (nA ti zs q)=true:=by simp[nA,eR,cB,kj,p8]
inductive Uz(K:aaU)(vs:List V)(H:Hp)(Q:VK):Prop |mk (m:_)(rv:_)(sq:_)(rs:_)(r:_)(f:_)(j:_)(ti:_)(zs:_)(q:_)(h0:vs=[m,rv,sq])(h1:RD K H m (iG rs r f j ti))(h2:mQ rs r f j ti)(h3:RD K H rv (.tuple (zs.map PyData.int)))(h4:aR K H sq q)(h5:Bd 2000 q)(h6:0<q)(h7:∀v H',RD K H' v (nA ti zs q)->ak H H'->Q v H'):Uz K vs H Q
def CV(K:aaU):Sp:=fun vs H Q _=>Uz K vs H Q
theorem MJ:aW ["machine","row","square"] ["machine","row","square"] (aK Eu):=bh (by decide+kernel)
theorem a22(F:FA K mg "step_entry" Eu)(B:bw mg)(a4f:aj P w K mg base "ticks_of" 2 (KI K)):aj P w K mg base "step_entry" 3 (CV K):=by
 refine F.has MJ (fun vs H Q E h=>?_) (fun _ _ _ _ _ _=>mL fun _ _ _=>rfl) (fun f aD A outer s H vs Q E hr h=>?_)
 · obtain⟨m,rv,sq,rs,r,f,j,ti,zs,q,rfl,_⟩:=h
   rfl
 · obtain⟨m,rv,sq,rs,r,f,j,ti,zs,q,rfl,rm,aF,rr,Rq,bq,q0,k⟩:=h
   have nd:=MJ.nd;refine⟨_,(aw (aJ (dw (aa aL (aa (pv 1) (aa (pf a4f hr (aa (pv 0) (aa (pv 2) ae))) (aa (pv 2) ae))))))),?_⟩;have t1:=aF.t1;have qn:0<q.num:=FJ q0;refine⟨_,rfl,_,rfl,_,rfl,m,sq,rs,r,f,j,ti,q,rfl,rm,Rq,bq,t1.1,t1.2,qn,fun T T1 _ T2 T3=>?_⟩;refine⟨_,rfl,bI rfl,fun t H1 n1=>k (.ref t) H1 ?_ n1.same⟩;have e:=Kd (by lia) ⟨T1,T2,T3⟩;unfold nA;rw[e];exact iB (aI.of n1.at') (bJ (cH _) (bJ (RD.mono n1.same _ rr) (bJ (cX _) (bJ (Rq.go n1.same).rd cF))))
theorem Kc{rate sp:Int}(h1:1<=sp)(h2:10<=rate):0<topR rate sp:=by
 have h0:=Ow.zk rate sp;refine Jo h0 fun e=>?_;have hp:0<(sp*rate)^2:=by rw[fo,fo,kO,jV];exact gW (gW (by lia) (by lia)) (gW (by lia) (by lia))
 have h2:0<=Rat.divInt (-((sp*rate)^2)) 10000:=by rw[<-Rat.neg_divInt];show 0<=-(topR rate sp);rw[<-e];decide
 have:=(vQ (by decide)).mp h2
 lia
inductive Ug(K:aaU)(vs:List V)(H:Hp)(Q:VK):Prop |mk (m:_)(iv:_)(rate:_)(rs:_)(r:_)(f:_)(j:_)(t:_)(ds:_)(os:_)(h0:vs=[m,iv,.int rate])(h1:RD K H m (iG rs r f j t))(h2:mQ rs r f j t)(h3:RD K H iv (.list ds))(h4:gu rs.length ds os)(h5:ds.length<=100)(h6:10<=rate)(h7:rate<=200)(h8:∀l ys H',H l=none->H' l=some (.lst ys)->aE K H' ys ((ownL j rate os).map cD)->ak H H'->Q (.ref l) H'):Ug K vs H Q
def Li(K:aaU):Sp:=fun vs H Q _=>Ug K vs H Q
theorem a1B(F:FA K mg "own_bounds" zH)(B:bw mg)(gN:GT K mg "NOUGHT" [.int 0,.int 1])(Ha:aj P w K mg base "bound_between" 7 (zF K)):aj P w K mg base "own_bounds" 8 (Li K):=by
 obtain⟨aN,kE,m3⟩:=gN;refine F.has zG (fun vs H Q E h=>?_) (fun _ _ _ _ _ _=>mL fun _ _ _=>rfl) (fun f aD A outer s H vs Q E hr h=>?_)
 · obtain⟨m,iv,rate,rs,r,f,j,t,ds,os,rfl,_⟩:=h
   rfl
 · obtain⟨m,iv,rate,rs,r,f,j,t,ds,os,rfl,rm,aF,ri,row,hz,rt1,rt2,k⟩:=h
   have nd:=zG.nd;have rN:∀H',RD K H' (.ref aN) (cD 0):=fun H'=>(rB (m3 H')).rd;refine⟨_,(ai (bj (dS (Fm K rfl (pv 1))) (aw (aJ (cV (aa (dQ (x:="NOUGHT") rfl kE) ae)))) bu) (ai (Fp (i0:=3) nd rfl (Or.inl rfl) (N:=["one","other","machine","rate"]) (js:=[none,none,some 0,some 2]) rfl rfl rfl (jr K rfl true true rfl (B.at "zip") (aa (pv 1) (aa (Fv (CZ K rfl) (pv 1) (Fq ah) Fs) ae))) (fun _ _ _ _ _=>(du K rfl (n:=2) rfl (bE (aX 0 (show List.Nodup (["one","other","machine","rate"]:List Str) by decide+kernel)) (bE (aX 1 (show List.Nodup (["one","other","machine","rate"]:List Str) by decide+kernel)) dk)))) (fun _ _ _ _ _=>fh) (fun _ _ _ _ _=>(pf Ha hr (aa (pv 2) (aa (pv 0) (aa (pv 1) (aa (pv 3) ae))))))) (aw (aJ (az (vy K rfl) (az (vy K rfl) (cV (aa (dQ (x:="NOUGHT") rfl kE) ae)) (pv 3)) (cV (aa (dQ (x:="NOUGHT") rfl kE) ae))))))),?_⟩;obtain⟨ia,xs,rfl,hi,gP⟩:=ri.lst_inv;have lx:=gP.length;have ll:=row.len;refine⟨_,rfl,_,.inl ⟨_,hi,rfl⟩,?_⟩;cases hd:xs with
   |nil=>
     subst hd;refine bF ?_;refine⟨bI rfl,fun l H1 n1=>?_⟩;refine k l [.ref aN] H1 n1.no n1.at' ?_ n1.same;have e:os=[]:=by
      have:os.length=0:=by rw[<-ll,<-lx];rfl
      exact C5.mp this
     rw[e];exact bJ (rN H1) cF |cons x0 xr=>
     refine bf ?_;have cZ:os≠[]:=by intro e;rw[e]at ll;rw[hd]at lx;simp at ll lx;rw[ll]at lx;cases lx
     have Gr:0<xs.length:=by rw[hd];simp
     refine⟨_,rfl,_,rfl,1,rfl,ia,xs,rfl,.inl ⟨hi,fun tl H1 n1=>?_⟩⟩;refine⟨ia,tl,rfl,⟨_,hi.go n1.same⟩,⟨_,au.of n1.at'⟩,fun D H2 n2=>?_⟩;have et:=n1.at';rw[ID]at et;have xc:∀(i:Nat)(o:Itm),os[i]? =some o->∀(ns:List Int)(sp:Int),o=some (ns,sp)->dR rs.length 100 ns/\1<=sp/\sp<=20:=fun i o e ns sp e'=>row.ok i ns sp (by rw[e,e']);have lr:=aF.len;refine sX (K:=K) (b1:=true) (b2:=true) (xs:=xs) (ys:=xs.drop 1) (ds:=((List.range (os.length-1)).map (fun i=>ownF j rate os (i+1))).map cD) _ rfl (hi.go n1.same) (au.of et) n2 (by rw[JH];simp;lia) (by simp;lia) (uI _) ?_ ?_
     · intro i x y d H3 Q' ex ey ed s3 hq
       have cP:=n1.same.trans s3;rw[List.getElem?_drop]at ey;obtain⟨d1,e1,r1⟩:=gP.get' i ex;obtain⟨d2,e2,r2⟩:=gP.get' (1+i) ey;obtain⟨o1,mF,i1⟩:=row.get e1;obtain⟨o2,lA,i2⟩:=row.get e2;have PN:1+i<os.length:=(dh.mp lA).1;have kI:d=cD (betR j rate o1 o2):=by rw[bZ,bZ,bN (by simp;lia),tS]at ed;have:=(dj ed).symm;rw[this];show cD (betR j rate (atO os i) (atO os (i+1)))=_;rw[Ow.oF mF,Ow.oF (show os[i+1]? =some o2 by rw[Nat.add_comm];exact lA)]
       subst kI;refine⟨_,rfl,_,rfl,_,rfl,_,rfl,m,x,y,rate,rs,r,f,j,t,d1,d2,o1,o2,rs.length,rfl,RD.mono cP _ rm,aF.j1.1,aF.j1.2,RD.mono cP _ r1,RD.mono cP _ r2,i1,i2,xc _ _ mF,xc _ _ lA,by lia,rt1,rt2,fun v H4 rv s4=>?_⟩;exact hq _ _ s4 rv.rd
     · intro H3 zs s3 d3 r3
       have lz:=r3.length;simp at lz;refine⟨bI rfl,fun l1 H4 n4=>?_⟩;refine⟨_,rfl,l1,D,_,zs,rfl,rfl,au.of n4.at',au.of (n4.same _ _ d3),wF _ (by simp;lia),fun l2 H5 n5=>?_⟩;refine⟨bI rfl,fun l3 H6 n6=>?_⟩;refine⟨l2,l3,_,_,rfl,rfl,au.of (n6.same _ _ n5.at'),au.of n6.at',wF _ (by simp;lia),fun l H7 n7=>?_⟩;have wK:ak H H6:=n1.same.trans (s3.trans (n4.same.trans (n5.same.trans n6.same)));have nl:H l=none:=by cases e:H l with |none=>rfl |some o=>have:=wK _ _ e;rw[n7.no]at this;cases this
       refine k l _ H7 nl n7.at' ?_ (wK.trans n7.same);rw[Ow.NT j rate cZ,mZ,mZ];exact((bJ (rN H7) cF).append (aE.mono (n4.same.trans (n5.same.trans (n6.same.trans n7.same))) _ r3)).append (bJ (rN H7) cF)
inductive Uy(K:aaU)(vs:List V)(H:Hp)(Q:VK):Prop |mk (m:_)(iv:_)(l:_)(ys:_)(rs:_)(r:_)(f:_)(j:_)(t:_)(ds:_)(os:_)(g:_)(h0:vs=[m,iv,.ref l])(h1:RD K H m (iG rs r f j t))(h2:mQ rs r f j t)(h3:RD K H iv (.list ds))(h4:gu rs.length ds os)(h5:ds.length<=30)(h6:H l=some (.lst ys))(h7:aE K H ys ((lst os.length g).map cD))(h8:(∀i,i<=os.length->Bd 900 (g i)))(h9:∀l ys H',H l=none->H' l=some (.lst ys)->aE K H' ys ((lst os.length (fl os.length (leadF os) (2*f) g)).map cD)->ak H H'->Q (.ref l) H'):Uy K vs H Q
def Lm(K:aaU):Sp:=fun vs H Q _=>Uy K vs H Q
theorem a21(F:FA K mg "kept_by_fall" Et)(B:bw mg)(pI:aj P w K mg base "is_line" 1 (uf K))(nZ:aj P w K mg base "lead_of" 1 (kQ K))(uX:aj P w K mg base "plus_whole" 4 (zD K))(vb:aj P w K mg base "least" 2 (iZ K)):aj P w K mg base "kept_by_fall" 5 (Lm K):=by
 refine F.has MI (fun vs H Q E h=>?_) (fun _ _ _ _ _ _=>mL fun _ _ _=>rfl) (fun fa aD A outer s H vs Q E hr h=>?_)
 · obtain⟨m,iv,l,ys,rs,r,f,j,t,ds,os,g,rfl,_⟩:=h
   rfl
 · obtain⟨m,iv,l,ys,rs,r,f,j,t,ds,os,g,rfl,rm,aF,ri,row,hz,dl,p7,bg,k⟩:=h
   have nd:=MI.nd;refine⟨_,(ai (pS 3 nd (px K (pv 0) ah)) (ai (pS 4 nd (gZ (x:="list") (G9 K rfl) rfl (B.at "list") jU (aa (pv 2) ae))) (ai (kU gE rfl (ZW rfl (B.at "reversed") (aa (gZ (x:="range") a8f rfl (B.at "range") PyProof.Rows.boot_range (aa (dv K B (aa (pv 1) ae)) ae)) ae)) (aX 5 nd) (aw (bj (cA (pf pI hr (aa (px K (pv 1) (pv 5)) ae))) (aw (fF (pf vb hr (aa (cV (aa (px K (pv 4) (pv 5)) (aa (pf uX hr (aa (px K (pv 4) (az cE (pv 5) ah)) (aa (az bc (az bc ah (pv 3)) (pf nZ hr (aa (px K (pv 1) (pv 5)) ae))) ae))) ae))) ae)) (qW (pv 4) (pv 5) set_list))) bu))) (aw (aJ (pv 4)))))),?_⟩;obtain⟨ma,mb,rfl,gs,je⟩:=kr rm;obtain⟨ia,xs,rfl,hi,gP⟩:=ri.lst_inv;have lx:=gP.length;have ll:=row.len;have lr:=aF.len;have hL:∀i m,leadF os i=some m->(2*f*(m:Int)).natAbs<2^24:=fun i m e=>K5 aF.f1.1 aF.f1.2 (OY row.uE e);have FB:∀i,i<=os.length->Bd 1700 (fl os.length (leadF os) (2*f) g i):=fun i hi=>(QB bg hL i hi).mono (by lia);refine⟨_,rfl,.inr ⟨ma,_,2,.int f,rfl,rfl,gs,rfl,?_⟩⟩;refine⟨_,rfl,l,ys,rfl,.inl (au.of dl),fun D H1 n1=>?_⟩;refine⟨_,rfl,ia,_,rfl,.inl (hi.go n1.same),_,rfl,fun pr H2 n2=>?_⟩;refine⟨pr,_,rfl,n2.at',by lia,by lia,?_⟩;have eN:((xs.length:Int)).toNat=os.length:=by lia
   rw[eN];refine a6J (Pv:=fun i σ H5=>ak H H5/\∃zs v1,H5 D=some (.lst zs)/\aE K H5 zs ((lst os.length fun k=>if os.length<=k+i then fl os.length (leadF os) (2*f) g k else g k).map cD)/\σ=[some (.ref ma),some (.ref ia),some (.ref l),some (.int f),some (.ref D),v1]) ?_ ?_ ?_
   · refine⟨n1.same.trans n2.same,ys,none,n2.same _ _ n1.at',?_,rfl⟩
     rw[G3 (g:=fun k=>if os.length<=k+0 then fl os.length (leadF os) (2*f) g k else g k) (g':=g)]
     ·exact aE.mono (n1.same.trans n2.same) _ p7
     · intro k hk
       show g k=if os.length<=k+0 then _ else g k;split
       · next h => have:k=os.length:=by lia
                   subst this;exact vm.symm
       ·rfl
   · rintro i σ H3 AO ⟨s3,zs,v1,dz,rz,rfl⟩
     obtain⟨x,hx⟩:∃x,xs[os.length-1-i]? =some x:=⟨_,bN (show os.length-1-i<xs.length by lia)⟩;generalize hc:os.length-1-i=c at hx;have kZ:c<os.length:=by lia
     have eI:((os.length:Int)-1-(i:Int))=(c:Int):=by lia
     rw[eI];obtain⟨d,ed,rd⟩:=gP.get' c hx;obtain⟨o,eo,it⟩:=row.get ed;have lz:=rz.length;rw[bT,pE]at lz;have yl:fz xs (c:Int)=some x:=cN (by lia) (by simpa using hx);refine⟨_,rfl,_,rfl,.inl ⟨ia,_,_,_,rfl,rfl,hi.go s3,yl,?_⟩⟩;refine⟨x,d,o,rfl,RD.mono s3 _ rd,it,_,rfl,?_⟩;cases o with
     |none=>
       refine bf ?_;refine⟨s3,zs,_,dz,?_,rfl⟩;rw[G3 (g:=fun k=>if os.length<=k+(i+1)then fl os.length (leadF os) (2*f) g k else g k) (g':=fun k=>if os.length<=k+i then fl os.length (leadF os) (2*f) g k else g k)]
       ·exact rz
       · intro k _
         show(if os.length<=k+i then _ else g k)=if os.length<=k+(i+1)then _ else g k;by_cases h1:os.length<=k+i
         ·rw[aO h1,aO (by lia)]
         · rw[aP h1]
           by_cases h2:k=c
           ·subst h2;rw[aO (by lia),vk kZ (OX eo)]
           ·rw[aP (by lia)] |some q=>
       obtain⟨ns,sp⟩:=q;refine bF ?_;have kI:=jQ it;subst kI;obtain⟨dU,_,_⟩:=row.ok c ns sp eo;obtain⟨z1,QG⟩:∃z,zs[c+1]? =some z:=⟨_,bN (show c+1<zs.length by lia)⟩;obtain⟨z0,yb⟩:∃z,zs[c]? =some z:=⟨_,bN (show c<zs.length by lia)⟩;have R1:aR K H3 z1 (fl os.length (leadF os) (2*f) g (c+1)):=by
        obtain⟨d1,e1,r1⟩:=rz.get' (c+1) QG;rw[bZ,pF _ (show c+1<=os.length by lia)]at e1;cases e1;have:os.length<=c+1+i:=by lia
        simp only[aO this]at r1;exact m9 r1
       have R0:aR K H3 z0 (g c):=by
        obtain⟨d1,e1,r1⟩:=rz.get' c yb;rw[bZ,pF _ (show c<=os.length by lia)]at e1;cases e1;have:¬os.length<=c+i:=by lia
        simp only[aP this]at r1;exact m9 r1
       have Ir:((c:Int)+1).toNat=c+1:=by lia
       have IZ:fz zs ((c:Int)+1)=some z1:=cN (by lia) (by rw[Ir];exact QG);have J0:fz zs (c:Int)=some z0:=cN (by lia) (by simpa using yb);refine⟨_,rfl,_,rfl,.inl ⟨D,_,_,_,rfl,rfl,au.of dz,J0,?_⟩⟩;refine⟨_,rfl,_,rfl,_,_,rfl,rfl,.inl ⟨D,_,_,_,rfl,rfl,au.of dz,IZ,?_⟩⟩;refine⟨_,rfl,_,_,rfl,rfl,.of_left (bM (by decide) (by decide)),?_⟩;refine⟨_,rfl,_,rfl,.inl ⟨ia,_,_,_,rfl,rfl,hi.go s3,yl,?_⟩⟩;refine⟨x,ns,sp,rfl,RD.mono s3 _ rd,dU.ne,by rw[dU.len];lia,fun H4 s4=>?_⟩;have pT:=aF.f1;refine⟨_,_,rfl,rfl,.of_left (bM (by lia) (by lia)),?_⟩;have us:=hL c _ (Ap eo);refine⟨z1,_,_,rfl,R1.go s4,(FB (c+1) (by lia)).mono (by decide),us,fun u H5 ru s5=>?_⟩;refine⟨bI rfl,fun l2 H6 n6=>?_⟩;have p5:=s4.trans (s5.trans n6.same);have SJ:=R0.go p5;have Ru:=ru.go n6.same;have B1:Bd 2000 (g c):=(bg _ (by lia)).mono (by decide);have B2:Bd 2000 (fl os.length (leadF os) (2*f) g (c+1)+((2*f*(ay ns:Int):Int):Rat)):=(Bz (FB (c+1) (by lia)) us).mono (by decide);refine⟨l2,[z0,u],[_,_],rfl,au.of n6.at',⟨SJ,B1,Ru,B2,trivial⟩,by simp,fun c' v q e1 e2 hq=>?_⟩;have rQ:mn (g c) (fl os.length (leadF os) (2*f) g (c+1)+((2*f*(ay ns:Int):Int):Rat))=q:=by
        refine mi ?_ (hq _ (by simp)) (hq _ (by simp))
        match c',e2 with |0,e2=>cases e2;exact .inl rfl |1,e2=>cases e2;exact .inr rfl
       have Rv:aR K H6 v q:=by match c',e1,e2 with |0,e1,e2=>cases e1;cases e2;exact SJ |1,e1,e2=>cases e1;cases e2;exact Ru
       have Rj:=p5 _ _ dz;have xG:jb zs.length (c:Int)=some c:=by unfold jb;rw[aO (by lia),aO (by lia)];simp
       refine⟨_,rfl,_,rfl,D,zs,_,_,rfl,rfl,Rj,xG,?_⟩;refine⟨fun b o e=>?_,_,_,aQ,?_,rfl⟩
       ·rw[aB (fH e n1.no)];exact p5 b o (s3 b o e)
       · have h:=aE.D8 (i:=c) Rj (aE.mono p5 _ rz) Rv.rd (uI _) (p8 _)
         rw[<-yM]at h;have e:(lst os.length fun k=>if os.length<=k+i then fl os.length (leadF os) (2*f) g k else g k).set c q=lst os.length fun k=>if os.length<=k+(i+1)then fl os.length (leadF os) (2*f) g k else g k:=by
          rw[<-a2Y (g:=fun k=>if os.length<=k+i then fl os.length (leadF os) (2*f) g k else g k) (g':=fun k=>if os.length<=k+(i+1)then fl os.length (leadF os) (2*f) g k else g k) (i:=c)]
          · have:os.length<=c+(i+1):=by lia
            simp only[aO this];rw[vn kZ (Ap eo),rQ]
          · intro k _ hk
            show(if os.length<=k+(i+1)then _ else g k)=if os.length<=k+i then _ else g k;by_cases h1:os.length<=k+i
            ·rw[aO h1,aO (by lia)]
            ·rw[aP h1,aP (by lia)]
         rw[e]at h;exact h
   · rintro σ H3 ⟨s3,zs,v1,dz,rz,rfl⟩
     rw[G3 (g:=fun k=>if os.length<=k+os.length then fl os.length (leadF os) (2*f) g k else g k) (g':=fl os.length (leadF os) (2*f) g) (fun k hk=>by show _=if os.length<=k+os.length then _ else _;rw[aO (by lia)])]at rz;exact⟨_,rfl,k D zs H3 n1.no dz rz s3⟩
def Nh(f j rate:Int)(os:List Itm):Rat:=fl os.length (leadF os) (2*f) (ownF j rate os) 1
inductive TX(K:aaU)(vs:List V)(H:Hp)(Q:VK):Prop |mk (m:_)(iv:_)(rate:_)(rs:_)(r:_)(f:_)(j:_)(t:_)(ds:_)(os:_)(h0:vs=[m,iv,.int rate])(h1:RD K H m (iG rs r f j t))(h2:mQ rs r f j t)(h3:RD K H iv (.list ds))(h4:gu rs.length ds os)(h5:ds.length<=30)(h6:1<=ds.length)(h7:10<=rate)(h8:rate<=200)(h9:∀v H',aR K H' v (Nh f j rate os)->ak H H'->Q v H'):TX K vs H Q
def CM(K:aaU):Sp:=fun vs H Q _=>TX K vs H Q
theorem M4:aW ["machine","items","rate"] ["machine","items","rate"] (aK DF):=bh (by decide+kernel)
theorem a1x(F:FA K mg "reach_behind_first" DF)(B:bw mg)(a4z:aj P w K mg base "own_bounds" 8 (Li K))(a4W:aj P w K mg base "kept_by_fall" 5 (Lm K)):aj P w K mg base "reach_behind_first" 9 (CM K):=by
 refine F.has M4 (fun vs H Q E h=>?_) (fun _ _ _ _ _ _=>mL fun _ _ _=>rfl) (fun fa aD A outer s H vs Q E hr h=>?_)
 · obtain⟨m,iv,rate,rs,r,f,j,t,ds,os,rfl,_⟩:=h
   rfl
 · obtain⟨m,iv,rate,rs,r,f,j,t,ds,os,rfl,rm,aF,ri,row,hz,h1,rt1,rt2,k⟩:=h
   have nd:=M4.nd;refine⟨_,(aw (aJ (px K (pf a4W hr (aa (pv 0) (aa (pv 1) (aa (pf a4z hr (aa (pv 0) (aa (pv 1) (aa (pv 2) ae)))) ae)))) ah))),?_⟩;have ll:=row.len;have hB:=Ow.Fz aF.j1.1 aF.j1.2 rt1 rt2 row.uE;refine⟨_,rfl,_,rfl,_,rfl,_,rfl,_,rfl,m,iv,rate,rs,r,f,j,t,ds,os,rfl,rm,aF,ri,row,by lia,rt1,rt2,fun l1 y1 H1 nl1 d1 r1 s1=>?_⟩;refine⟨m,iv,l1,y1,rs,r,f,j,t,ds,os,ownF j rate os,rfl,RD.mono s1 _ rm,aF,RD.mono s1 _ ri,row,hz,d1,r1,fun i _=>(hB i).mono (by decide),fun l2 y2 H2 FP d2 r2 s2=>?_⟩;have ly:=r2.length;rw[bT,pE]at ly;obtain⟨z,ez⟩:∃z,y2[1]? =some z:=⟨_,bN (show 1<y2.length by lia)⟩;refine .inl ⟨l2,_,1,z,rfl,rfl,au.of d2,cN (by decide) ez,?_⟩;obtain⟨d,ed,rd⟩:=r2.get' 1 ez;rw[bZ,pF _ (show 1<=os.length by lia)]at ed;cases ed;exact k z H2 (m9 rd) (s1.trans s2)
theorem a2W{H:Hp}{v:V}{rs:List Int}{es:List aaX}(h:RD K H v (.tuple (.tuple (rs.map PyData.int)::es))):∃a b ys,v= .ref a/\aI K H a (.ref b::ys)/\aI K H b (rs.map V.int):=by obtain⟨a,xs,rfl,h1,h2⟩:=h.dF;obtain⟨x1,r1,rfl,e1,h2⟩:=h2.cons_inv;obtain⟨b,ys,rfl,h3,h4⟩:=e1.dF;rw[h4.iH]at h3;exact⟨a,b,r1,rfl,h1,h3⟩
def gO(z:Str):aaX->Bool | .str x=>x==z |_=>false
theorem Be(z:Str)(d:aaX):PyData.eqv d (.str z)=gO z d:=by cases d<;>simp[PyData.eqv,gO]
theorem QN(z:Str)(d:aaX):PyData.eqv (.str z) d=gO z d:=by cases d<;>simp[PyData.eqv,gO];rw[nj];simp;exact eq_comm
theorem Xu(d:aaX):(∃z,d= .str z)\/(iz (lX d) "str"=false/\∀z,d≠ .str z):=by cases d with |str z=>exact .inl ⟨z,rfl⟩ |_=>exact .inr ⟨by simp[lX];decide,fun _ z=>nomatch z⟩
theorem Wz:iz "str" "str"=true:=by decide
def Gk(d:aaX):Bool:=gO "up" d||gO "down" d
def uF(c:Nat):Bool:=decide (97<=c)&&decide (c<=122)
def isNm:aaX->Bool | .str x=>(decide (1<=x.length)&&decide (x.length<=8))&&x.cps.toList.all uF |_=>false
def nX(wd v:aaX):Bool:=if gO "wait" wd then gc 1 1000 v else if gO "tool" wd then Gk v else gO "mark" wd&&isNm v
def xi:aaX->Bool | .int i=>i !=0 |_=>true
def rn(n:Nat):aaX->Bool | .tuple ds=>(ds.length==n&&ds.all (gc (-100) 100))&&ds.any xi |_=>false
def rO(n:Nat):aaX->Bool | .tuple [wd,a,b]=>gO "line" wd&&(rn n a&&gc 1 20 b) | .tuple [wd,v]=>nX wd v |_=>false
def p4:aaX->Bool | .str x=>decide (x.length<=900) |_=>true
def D7:aaX->Bool | .tuple ds=>ds.all p4 |_=>true
inductive Tp(f:aaX->Bool)(K:aaU)(vs:List V)(H:Hp)(Q:VK):Prop |mk (v:_)(d:_)(h0:vs=[v])(h1:RD K H v d)(h2:p4 d=true)(h3:∀H',ak H H'->Q (.bl (f d)) H'):Tp f K vs H Q
def KD(f:aaX->Bool)(K:aaU):Sp:=fun vs H Q _=>Tp f K vs H Q
theorem XX{z:Str}(h:p4 (.str z)=true):z.length<=900:=jm h
theorem Oq(n:Nat):decide ((1:Int)<=(n:Int))=decide (1<=n):=by rw[nj];simp;omega
theorem a2A(n:Nat):decide ((n:Int)<=8)=decide (n<=8):=by rw[nj];simp;omega
theorem a8N{l:List Nat}{f:Nat->Bool}:(l.map f).all id=l.all f:=by rw[List.all_map];rfl
theorem a8Z:∀c<128,decide (c∈jg.cps.toList)=uF c:=by decide+kernel
theorem a92:∀c∈jg.cps.toList,c<128:=by decide+kernel
theorem a91(c:Nat):decide (c∈jg.cps.toList)=uF c:=by
 by_cases h:c<128
 ·exact a8Z c h
 ·rw[eg (fun hc=>h (a92 c hc)),uF,eg (show¬c<=122 by omega),Bool.and_false]
theorem ME:aW ["thing"] ["thing"] (aK Eo):=bh (by decide+kernel)
theorem a1X(F:FA K mg "is_name" Eo)(B:bw mg)(a5Q:GV mg "LONGEST_NAME" (.int 8))(a5R:GV mg "LETTERS" (.str jg)):aj P w K mg base "is_name" 1 (KD isNm K):=by
 refine F.has ME (fun vs H Q E h=>?_) (fun _ _ _ _ _ _=>dJ fun _=>rfl) (fun f aD A outer s H vs Q E hr h=>?_)
 · obtain⟨v,d,rfl,_⟩:=h
   rfl
 · obtain⟨v,d,rfl,rd,sh,k⟩:=h
   have nd:=ME.nd;refine⟨_,(ai (bj (PW.pt (kh (dS (cA (cY K B (aa (pv 0) (aa (cL (x:="str") (v:=.ty "str") rfl (B.at "str") oO rfl) ae))))) (kS (dS (ZG uA uA ah (cQ (x:="len") a8h rfl (B.at "len") PySem.boot_len (aa (pv 0) ae)) (dQ (x:="LONGEST_NAME") rfl a5Q)))))) (aw (aJ hJ)) bu) (aw (aJ (cQ (x:="all") (oG K rfl rfl) rfl (B.at "all") qw (aa (fO (N:=["letter"]) (js:=[none]) rfl rfl rfl (ZV (pv 0)) (fun _ _ _ _ _=>(aX 0 (rE _))) (fun _ _ _ _ _=>fh) (fun _ _ _ _ _=>(eQ a0v (pv 0) (dQ (x:="LETTERS") rfl a5R) (by with_unfolding_all rfl)))) ae))))),?_⟩;rcases Xu d with⟨z,rfl⟩|⟨ht,hn⟩
   · refine⟨_,rfl,.inl ⟨_,_,"str",true,rfl,rd.ty,by decide,Wz,_,rfl,bf ?_⟩⟩
     cases rd.str_inv;have hl:=XX sh;have k:∀H',ak H H'->Q (.bl ((decide (1<=z.length)&&decide (z.length<=8))&&z.cps.toList.all uF)) H':=k;refine⟨_,rfl,z,rfl,gR hl (by decide),_,_,rfl,rfl,_,rfl,?_⟩;refine dC (fun h1=>?_) (fun h1=>?_)
     · rw[<-Oq,show decide ((1:Int)<=(z.length:Int))=true from h1,jJ]at k
       refine⟨_,_,rfl,rfl,_,rfl,?_⟩;rw[a2A];cases e8:decide (z.length<=8)with |false=>rw[e8,jW]at k;exact bF (k H (ak.refl _)) |true=>
         rw[e8,jJ]at k;refine bf ⟨_,rfl,z,rfl,fun D H0 nw=>?_⟩;refine a81 (f:=uF) [] nw (by lia) (fun c H2 Q' hc s2 hq=>?_) (fun H2 s2 d2=>?_)
         · refine⟨_,rfl,c,jg,rfl,rfl,?_⟩
           rw[a91];exact hq _ (ak.refl _)
         · refine⟨D,_,rfl,au.of d2,?_⟩
           rw[a8N];exact k H2 s2
     · rw[<-Oq,show decide ((1:Int)<=(z.length:Int))=false from vZ.mpr h1,jW,jW]at k
       exact⟨_,rfl,bF (k H (ak.refl _))⟩
   · have e:isNm d=false:=by cases d<;>first|rfl|exact absurd rfl (hn _)
     rw[e]at k;refine⟨_,rfl,.inl ⟨_,_,"str",false,rfl,rd.ty,by decide,ht,_,rfl,bF ?_⟩⟩;exact k H (ak.refl _)
inductive TJ(K:aaU)(vs:List V)(H:Hp)(Q:VK):Prop |mk (x:_)(v:_)(wd:_)(d:_)(h0:vs=[x,v])(h1:RD K H x wd)(h2:RD K H v d)(h3:cU 8 wd)(h4:cU 8 d)(h5:p4 d=true)(h6:∀H',ak H H'->Q (.bl (nX wd d)) H'):TJ K vs H Q
def KO(K:aaU):Sp:=fun vs H Q _=>TJ K vs H Q
theorem wG{d:aaX}(h:cU 8 d):SeqAt.shaped d=true:=h.shaped (by decide)
theorem MC:aW ["word","value"] ["word","value"] (aK Em):=bh (by decide+kernel)
theorem a1V(F:FA K mg "is_short_item" Em)(B:bw mg)(a5P:GV mg "LONGEST_WAIT" (.int 1000))(gS:GT K mg "SIDES" [.str "up",.str "down"])(og:aj P w K mg base "is_whole_within" 2 (qJ K))(a53:aj P w K mg base "is_name" 1 (KD isNm K)):aj P w K mg base "is_short_item" 3 (KO K):=by
 refine F.has MC (fun vs H Q E h=>?_) (fun _ _ _ _ _ _=>cW fun _ _=>rfl) (fun f aD A outer s H vs Q E hr h=>?_)
 · obtain⟨x,v,wd,d,rfl,_⟩:=h
   rfl
 · obtain⟨x,v,wd,d,rfl,EN,rd,FE,xg,sh,k⟩:=h
   have nd:=MC.nd;obtain⟨aS,a5D,XC⟩:=gS;refine⟨_,(ai (bj (bL (cJ K rfl hr.units) (pv 0) aL (ba _)) (aw (aJ (pf og hr (aa (pv 1) (aa ah (aa (dQ (x:="LONGEST_WAIT") rfl a5P) ae)))))) bu) (ai (bj (bL (cJ K rfl hr.units) (pv 0) aL (ba _)) (aw (aJ (eQ (a3W K rfl (hr.Wu)) (pv 1) (dQ (x:="SIDES") rfl a5D) (by with_unfolding_all rfl)))) bu) (aw (aJ (hO (eQ (cJ K rfl hr.units) (pv 0) aL (ba _)) (iE (pf a53 hr (aa (pv 1) ae)))))))),?_⟩;have k:∀H',ak H H'->Q (.bl (if gO "wait" wd then gc 1 1000 d else if gO "tool" wd then Gk d else gO "mark" wd&&isNm d)) H':=k;refine⟨_,rfl,.inr ⟨_,_,EN,cH _,wG FE,by decide+kernel,_,rfl,?_⟩⟩;rw[Be];cases e1:gO "wait" wd with |true=>rw[e1,aO rfl]at k;exact bF ⟨_,rfl,_,d,1,1000,rfl,rd,k H (ak.refl _)⟩ |false=>rw[e1,aP jK]at k;refine bf ⟨_,rfl,.inr ⟨_,_,EN,cH _,wG FE,by decide+kernel,_,rfl,?_⟩⟩;rw[Be];cases e2:gO "tool" wd with
     |true=>
       rw[e2,aO rfl]at k;refine bF ⟨_,rfl,aS,_,d,[.str "up",.str "down"],rfl,XC H,rd,bJ (cH _) (bJ (cH _) cF),wG xg,?_,?_⟩
       · intro e he
         rcases bB.mp he with rfl|he
         ·decide+kernel
         rcases bB.mp he with rfl|he
         ·decide+kernel
         ·exact(cw he).elim
       · have e:([.str "up",.str "down"]:List aaX).any (fun e=>PyData.eqv e d)=Gk d:=by rw[tT,tT,List.any_nil,QN,QN,Bool.or_false];rfl
         rw[e];exact k H (ak.refl _) |false=>rw[e2,aP jK]at k;refine bf ⟨_,rfl,.inr ⟨_,_,EN,cH _,wG FE,by decide+kernel,_,rfl,?_⟩⟩;rw[Be];cases e3:gO "mark" wd with |true=>rw[e3,jJ]at k;exact bF ⟨_,rfl,_,d,rfl,rd,sh,k⟩ |false=>rw[e3,jW]at k;exact bf (k H (ak.refl _))
theorem a2h(i:Int):(!decide (i=0))=(i !=0):=by rw[nj];simp
theorem a3V{lo hi:Int}{d:aaX}(h:gc lo hi d=true):∃i,d= .int i:=by cases d<;>simp[gc]at h;exact⟨_,rfl⟩
theorem any_map'{ds:List aaX}{f:aaX->Bool}:(ds.map f).any id=ds.any f:=by rw[List.any_map];rfl
inductive TF(K:aaU)(vs:List V)(H:Hp)(Q:VK):Prop |mk (m:V)(v:V)(rs:List Int)(es:List aaX)(d:aaX)(h0:vs=[m,v])(h1:RD K H m ((.tuple (.tuple (rs.map PyData.int)::es))))(h2:RD K H v d)(h3:rs.length<=3)(h4:∀H',ak H H'->Q (.bl (rn rs.length d)) H'):TF K vs H Q
def KL(K:aaU):Sp:=fun vs H Q _=>TF K vs H Q
theorem MS:aW ["machine","thing","rails"] ["machine","thing"] (aK EH):=bh (by decide+kernel)
theorem a2b(F:FA K mg "are_steps" EH)(B:bw mg)(Q9:GV mg "MOST_STEPS" (.int 100))(og:aj P w K mg base "is_whole_within" 2 (qJ K)):aj P w K mg base "are_steps" 3 (KL K):=by
 refine F.has MS (fun vs H Q E h=>?_) (fun _ _ _ _ _ _=>cW fun _ _=>rfl) (fun f aD A outer s H vs Q E hr h=>?_)
 · obtain⟨m,v,rs,es,d,rfl,_⟩:=h
   rfl
 · obtain⟨m,v,rs,es,d,rfl,rm,rd,l3,k⟩:=h
   have nd:=MS.nd;refine⟨_,(ai (pS 2 nd (px K (pv 0) ah)) (ai (bj (PW.pt (kh (dS (cA (cY K B (aa (pv 1) (aa (cL (x:="tuple") (v:=.ty "tuple") rfl (B.at "tuple") fD rfl) ae))))) (kS (bL (j8 K rfl hr.units) (dv K B (aa (pv 1) ae)) (dv K B (aa (pv 2) ae)) (ba _))))) (aw (aJ hJ)) bu) (ai (bj (dS (cA (cQ (x:="all") (oG K rfl rfl) rfl (B.at "all") qw (aa (fO (N:=["step"]) (js:=[none]) rfl rfl rfl (p9 K rfl (pv 1)) (fun _ _ _ _ _=>(aX 0 (rE _))) (fun _ _ _ _ _=>fh) (fun _ _ _ _ _=>(pf og hr (aa (pv 0) (aa (wW wj (dQ (x:="MOST_STEPS") rfl Q9)) (aa (dQ (x:="MOST_STEPS") rfl Q9) ae)))))) ae)))) (aw (aJ hJ)) bu) (aw (aJ (cQ (x:="any") (Sw K rfl rfl) rfl (B.at "any") VH (aa (fO (N:=["step"]) (js:=[none]) rfl rfl rfl (p9 K rfl (pv 1)) (fun _ _ _ _ _=>(aX 0 (rE _))) (fun _ _ _ _ _=>fh) (fun _ _ _ _ _=>(eQ (j8 K rfl hr.units) (pv 0) ah (ba _)))) ae))))))),?_⟩;obtain⟨am,ar,ym,rfl,hm,har⟩:=a2W rm;refine⟨_,rfl,.inr ⟨am,_,0,_,rfl,rfl,hm,cN (fY 0) rfl,?_⟩⟩;rcases Cp d with⟨ds,rfl⟩|⟨ht,hn⟩
   · refine⟨_,rfl,.inl ⟨_,_,"tuple",true,rfl,rd.ty,by decide,wm,_,rfl,bf ?_⟩⟩
     obtain⟨av,xs,rfl,hx,hd⟩:=rd.dF;have hl:=hd.length;refine⟨_,rfl,av,_,rfl,.inr hx,_,rfl,ar,_,rfl,.inr har,.inl ⟨_,_,rfl,rfl,_,rfl,?_⟩⟩;have k:∀H',ak H H'->Q (.bl ((ds.length==rs.length&&ds.all (gc (-100) 100))&&ds.any xi)) H':=k;have e0:(!decide ((xs.length:Int)=((rs.map V.int).length:Int)))= !(ds.length==rs.length):=by rw[hl,bT];congr 1;rw[nj];simp;lia
     rw[e0];cases e:(ds.length==rs.length)with |false=>rw[e,jW,jW]at k;exact bF (k H (ak.refl _)) |true=>
       rw[e,jJ]at k;refine bf ?_;have el:ds.length=rs.length:=fC.mp e;refine⟨_,rfl,av,rfl,⟨_,hx⟩,fun D H0 nw=>?_⟩;refine RQ (xs:=xs) (bs:=ds.map (gc (-100) 100)) [] hx nw (by rw[bT,hl]) (by lia) ?_ ?_
       · intro i x b H2 Q' ex eb s2 hq
         obtain⟨d,ed,rfl⟩:=OG eb;obtain⟨x',ow,rx⟩:=hd.get i ed;rw[ex]at ow;cases ow;exact⟨_,rfl,_,rfl,_,d,-100,100,rfl,RD.mono s2 _ rx,hq _ (ak.refl _)⟩
       · intro H2 s2 d2
         refine⟨D,_,rfl,au.of d2,_,rfl,?_⟩;rw[all_map];cases e1:ds.all (gc (-100) 100)with |false=>rw[e1,jW]at k;exact bF (k H2 s2) |true=>
           rw[e1,jJ]at k;refine bf ⟨_,rfl,av,rfl,⟨_,hx.go s2⟩,fun D2 H3 n3=>?_⟩;refine RQ (xs:=xs) (bs:=ds.map xi) [] (hx.go s2) n3 (by rw[bT,hl]) (by lia) ?_ ?_
           · intro i x b H4 Q' ex eb s4 hq
             obtain⟨d,ed,rfl⟩:=OG eb;obtain⟨x',ow,rx⟩:=hd.get i ed;rw[ex]at ow;cases ow;obtain⟨z,rfl⟩:=a3V (iy.mp e1 d (gf ed));cases rx.int_inv;refine⟨_,rfl,.inl ⟨_,_,rfl,rfl,?_⟩⟩;show Q' (.bl (!decide (z=0))) H4;rw[a2h];exact hq _ (ak.refl _)
           · intro H4 s4 d4
             refine⟨D2,_,rfl,au.of d4,?_⟩;rw[any_map'];exact k H4 (s2.trans s4)
   · have e:rn rs.length d=false:=by cases d<;>first|rfl|exact absurd rfl (hn _)
     rw[e]at k;refine⟨_,rfl,.inl ⟨_,_,"tuple",false,rfl,rd.ty,by decide,ht,_,rfl,bF ?_⟩⟩;exact k H (ak.refl _)
theorem item_cases(n:Nat)(d:aaX):(∃wd a b,d= .tuple [wd,a,b])\/(∃wd v,d= .tuple [wd,v])\/(∃ds,d= .tuple ds/\ds.length≠3/\ds.length≠2/\rO n d=false)\/(iz (lX d) "tuple"=false/\rO n d=false):=by
 rcases Cp d with⟨ds,rfl⟩|⟨ht,hn⟩
 ·match ds with |[r,a,b]=>exact .inl ⟨r,a,b,rfl⟩ |[r,a]=>exact .inr (.inl ⟨r,a,rfl⟩) |[]=>exact .inr (.inr (.inl ⟨_,rfl,by simp,by simp,by simp[rO]⟩)) |[_]=>exact .inr (.inr (.inl ⟨_,rfl,by simp,by simp,by simp[rO]⟩)) |_::_::_::_::_=>exact .inr (.inr (.inl ⟨_,rfl,by simp,by simp,by simp[rO]⟩))
 ·exact .inr (.inr (.inr ⟨ht,by cases d<;>first|rfl|exact absurd rfl (hn _)⟩))
inductive Ut(K:aaU)(vs:List V)(H:Hp)(Q:VK):Prop |mk (m:V)(v:V)(rs:List Int)(es:List aaX)(d:aaX)(h0:vs=[m,v])(h1:RD K H m ((.tuple (.tuple (rs.map PyData.int)::es))))(h2:RD K H v d)(h3:rs.length<=3)(h4:cU 8 d)(h5:D7 d=true)(h6:∀H',ak H H'->Q (.bl (rO rs.length d)) H'):Ut K vs H Q
def CT(K:aaU):Sp:=fun vs H Q _=>Ut K vs H Q
theorem FG{ds:List aaX}(h:cU 8 (.tuple ds)){d:aaX}(hd:d∈ds):cU 8 d:=((cU.dF (n:=7) h) d hd).le (by decide)
theorem XY{ds:List aaX}(h:D7 (.tuple ds)=true){d:aaX}(hd:d∈ds):p4 d=true:=iy.mp (show ds.all p4=true from h) d hd
theorem MF:aW ["machine","thing","word","steps","speed","value"] ["machine","thing"] (aK Ep):=bh (by decide+kernel)
theorem a1Y(F:FA K mg "is_item" Ep)(B:bw mg)(a5T:GV mg "GREATEST_SPEED" (.int 20))(og:aj P w K mg base "is_whole_within" 2 (qJ K))(a5x:aj P w K mg base "are_steps" 3 (KL K))(a50:aj P w K mg base "is_short_item" 3 (KO K)):aj P w K mg base "is_item" 4 (CT K):=by
 refine F.has MF (fun vs H Q E h=>?_) (fun _ _ _ _ _ _=>cW fun _ _=>rfl) (fun f aD A outer s H vs Q E hr h=>?_)
 · obtain⟨m,v,rs,es,d,rfl,_⟩:=h
   rfl
 · obtain⟨m,v,rs,es,d,rfl,rm,rd,l3,xg,sh,k⟩:=h
   have nd:=MF.nd;refine⟨_,(ai (bj (dS (cA (cY K B (aa (pv 1) (aa (cL (x:="tuple") (v:=.ty "tuple") rfl (B.at "tuple") fD rfl) ae))))) (aw (aJ hJ)) bu) (ai (bj (bL (cJ K rfl hr.units) (dv K B (aa (pv 1) ae)) ah (ba _)) (ai (fF (pv 1) (du K rfl (n:=3) rfl (bE (aX 2 nd) (bE (aX 3 nd) (bE (aX 4 nd) dk))))) (aw (aJ (hO (eQ (cJ K rfl hr.units) (pv 2) aL (ba _)) (hO (pf a5x hr (aa (pv 0) (aa (pv 3) ae))) (iE (pf og hr (aa (pv 4) (aa ah (aa (dQ (x:="GREATEST_SPEED") rfl a5T) ae)))))))))) bu) (ai (bj (bL (cJ K rfl hr.units) (dv K B (aa (pv 1) ae)) ah (ba _)) (ai (fF (pv 1) (du K rfl (n:=2) rfl (bE (aX 2 nd) (bE (aX 5 nd) dk)))) (aw (aJ (pf a50 hr (aa (pv 2) (aa (pv 5) ae)))))) bu) (aw (aJ hJ))))),?_⟩;rcases item_cases rs.length d with⟨wd,a,b,rfl⟩|⟨wd,a,rfl⟩|⟨ds,rfl,h3,h2,hf⟩|⟨ht,hf⟩
   · refine⟨_,rfl,.inl ⟨_,_,"tuple",true,rfl,rd.ty,by decide,wm,_,rfl,bf ?_⟩⟩
     obtain⟨p,xs,rfl,hx,hd⟩:=rd.dF;obtain⟨u1,ys,rfl,r1,hd⟩:=hd.cons_inv;obtain⟨u2,ys,rfl,r2,hd⟩:=hd.cons_inv;obtain⟨u3,ys,rfl,r3,hd⟩:=hd.cons_inv;cases hd.nil_inv;have k:∀H',ak H H'->Q (.bl (gO "line" wd&&(rn rs.length a&&gc 1 20 b))) H':=k;refine⟨_,rfl,p,_,rfl,.inr hx,.inl ⟨_,_,rfl,rfl,_,rfl,bF ?_⟩⟩;refine⟨_,rfl,p,_,rfl,hx,rfl,_,_,rfl,_,_,rfl,_,_,rfl,rfl,?_⟩;refine⟨_,rfl,.inr ⟨_,_,r1,cH _,wG (FG xg (by simp)),by decide+kernel,_,rfl,?_⟩⟩;rw[Be];cases e1:gO "line" wd with |false=>rw[e1,jW]at k;exact bf (k H (ak.refl _)) |true=>rw[e1,jJ]at k;refine bF ⟨_,rfl,_,rfl,_,_,rs,es,a,rfl,rm,r2,l3,fun H1 s1=>⟨_,rfl,?_⟩⟩;cases e2:rn rs.length a with |false=>rw[e2,jW]at k;exact bf (k H1 s1) |true=>rw[e2,jJ]at k;exact bF ⟨_,rfl,_,b,1,20,rfl,RD.mono s1 _ r3,k H1 s1⟩
   · refine⟨_,rfl,.inl ⟨_,_,"tuple",true,rfl,rd.ty,by decide,wm,_,rfl,bf ?_⟩⟩
     obtain⟨p,xs,rfl,hx,hd⟩:=rd.dF;obtain⟨u1,ys,rfl,r1,hd⟩:=hd.cons_inv;obtain⟨u2,ys,rfl,r2,hd⟩:=hd.cons_inv;cases hd.nil_inv;have k:∀H',ak H H'->Q (.bl (nX wd a)) H':=k;refine⟨_,rfl,p,_,rfl,.inr hx,.inl ⟨_,_,rfl,rfl,_,rfl,bf ?_⟩⟩;refine⟨_,rfl,p,_,rfl,.inr hx,.inl ⟨_,_,rfl,rfl,_,rfl,bF ?_⟩⟩;refine⟨_,rfl,p,_,rfl,hx,rfl,_,_,rfl,_,_,rfl,rfl,?_⟩;exact⟨_,rfl,_,rfl,_,_,wd,a,rfl,r1,r2,FG xg (by simp),FG xg (by simp),XY sh (by simp),k⟩
   · rw[hf]at k
     refine⟨_,rfl,.inl ⟨_,_,"tuple",true,rfl,rd.ty,by decide,wm,_,rfl,bf ?_⟩⟩;obtain⟨p,xs,rfl,hx,hd⟩:=rd.dF;have hl:=hd.length;refine⟨_,rfl,p,_,rfl,.inr hx,.inl ⟨_,_,rfl,rfl,_,rfl,?_⟩⟩;rw[show decide ((xs.length:Int)=3)=false from eg (by lia)];refine bf ⟨_,rfl,p,_,rfl,.inr hx,.inl ⟨_,_,rfl,rfl,_,rfl,?_⟩⟩;rw[show decide ((xs.length:Int)=2)=false from eg (by lia)];exact bf (k H (ak.refl _))
   · rw[hf]at k
     refine⟨_,rfl,.inl ⟨_,_,"tuple",false,rfl,rd.ty,by decide,ht,_,rfl,bF ?_⟩⟩;exact k H (ak.refl _)
def Gm(rs:List Int):aaX->Bool | .tuple es=>es.length==rs.length&&((es.zip rs).map fun p=>gc 0 p.2 p.1).all id |_=>false
inductive Uv(K:aaU)(vs:List V)(H:Hp)(Q:VK):Prop |mk (m:V)(v:V)(rs:List Int)(ds:List aaX)(d:aaX)(h0:vs=[m,v])(h1:RD K H m (.tuple (.tuple (rs.map PyData.int)::ds)))(h2:RD K H v d)(h3:rs.length<=3)(h4:∀H',ak H H'->Q (.bl (Gm rs d)) H'):Uv K vs H Q
def CU(K:aaU):Sp:=fun vs H Q _=>Uv K vs H Q
theorem zip_get{es:List aaX}{rs:List Int}{i:Nat}{b:Bool}(h:((es.zip rs).map fun p=>gc 0 p.2 p.1)[i]? =some b):∃e r,es[i]? =some e/\rs[i]? =some r/\gc 0 r e=b:=by rw[bZ]at h;cases q:(es.zip rs)[i]? with |none=>rw[q]at h;cases h |some p=>rw[q]at h;obtain⟨e1,e2⟩:=vV.mp q;exact⟨p.1,p.2,e1,e2,dj h⟩
theorem ints_get{rs:List Int}{i:Nat}{r:Int}(h:rs[i]? =some r):(rs.map V.int)[i]? =some (.int r):=by rw[bZ,h];rfl
theorem MD:aW ["machine","thing","rails"] ["machine","thing"] (aK En):=bh (by decide+kernel)
theorem a1W(F:FA K mg "is_place" En)(B:bw mg)(og:aj P w K mg base "is_whole_within" 2 (qJ K)):aj P w K mg base "is_place" 3 (CU K):=by
 refine F.has MD (fun vs H Q E h=>?_) (fun _ _ _ _ _ _=>cW fun _ _=>rfl) (fun f aD A outer s H vs Q E hr h=>?_)
 · obtain⟨m,v,rs,ds,d,rfl,_⟩:=h
   rfl
 · obtain⟨m,v,rs,ds,d,rfl,rm,rd,l3,k⟩:=h
   have nd:=MD.nd;refine⟨_,(ai (pS 2 nd (px K (pv 0) ah)) (ai (bj (PW.pt (kh (dS (cA (cY K B (aa (pv 1) (aa (cL (x:="tuple") (v:=.ty "tuple") rfl (B.at "tuple") fD rfl) ae))))) (kS (bL (j8 K rfl hr.units) (dv K B (aa (pv 1) ae)) (dv K B (aa (pv 2) ae)) (ba _))))) (aw (aJ hJ)) bu) (aw (aJ (cQ (x:="all") (oG K rfl rfl) rfl (B.at "all") qw (aa (fO (N:=["number","rail"]) (js:=[none,none]) rfl rfl rfl (jr K rfl false false rfl (B.at "zip") (aa (pv 1) (aa (pv 2) ae))) (fun _ _ _ _ _=>(du K rfl (n:=2) rfl (bE (aX 0 (fw (by decide))) (bE (aX 1 (fw (by decide))) dk)))) (fun _ _ _ _ _=>fh) (fun _ _ _ _ _=>(pf og hr (aa (pv 0) (aa ah (aa (pv 1) ae)))))) ae)))))),?_⟩;obtain⟨am,xm,rfl,hm,hdm⟩:=rm.dF;obtain⟨yr,ym,rfl,r1,aak⟩:=hdm.cons_inv;obtain⟨ar,xr,rfl,AD,hdr⟩:=r1.dF;cases hdr.iH;refine⟨_,rfl,.inr ⟨am,_,0,_,rfl,rfl,hm,cN (fY 0) rfl,?_⟩⟩;rcases Cp d with⟨es,rfl⟩|⟨ht,hn⟩
   · refine⟨_,rfl,.inl ⟨_,_,"tuple",true,rfl,rd.ty,by decide,wm,_,rfl,bf ?_⟩⟩
     obtain⟨av,xs,rfl,hx,hd⟩:=rd.dF;have hl:=hd.length;refine⟨_,rfl,av,_,rfl,.inr hx,_,rfl,ar,_,rfl,.inr AD,.inl ⟨_,_,rfl,rfl,_,rfl,?_⟩⟩;have k:∀H',ak H H'->Q (.bl (es.length==rs.length&&((es.zip rs).map fun p=>gc 0 p.2 p.1).all id)) H':=k;have e0:(decide ((xs.length:Int)=((rs.map V.int).length:Int)))=(es.length==rs.length):=by rw[hl,bT,nj];simp;lia
     rw[e0];cases e:(es.length==rs.length)with |false=>rw[e,jW]at k;exact bF (k H (ak.refl _)) |true=>
       rw[e,jJ]at k;refine bf ?_;have el:es.length=rs.length:=fC.mp e;refine⟨_,rfl,_,rfl,av,ar,rfl,⟨_,hx⟩,⟨_,AD⟩,fun D H0 nw=>?_⟩;refine RP (b1:=false) (b2:=false) (xs:=xs) (ys:=rs.map V.int) (bs:=(es.zip rs).map fun p=>gc 0 p.2 p.1) [] rfl hx AD nw (by rw[bT,bT,List.length_zip,hl]) (by rw[bT,List.length_zip];lia) ?_ ?_
       · intro i x y b H2 Q' ex ey eb s2 hq
         obtain⟨e',r,ee,er,rfl⟩:=zip_get eb;obtain⟨x',ow,rx⟩:=hd.get i ee;rw[ex]at ow;cases ow;rw[ints_get er]at ey;cases ey;exact⟨_,rfl,_,rfl,_,e',0,r,rfl,RD.mono s2 _ rx,hq _ (ak.refl _)⟩
       · intro H2 s2 d2
         exact⟨D,_,rfl,au.of d2,k H2 s2⟩
   · have e:Gm rs d=false:=by cases d<;>first|rfl|exact absurd rfl (hn _)
     rw[e]at k;refine⟨_,rfl,.inl ⟨_,_,"tuple",false,rfl,rd.ty,by decide,ht,_,rfl,bF ?_⟩⟩;exact k H (ak.refl _)
inductive Uk(K:aaU)(vs:List V)(H:Hp)(Q:VK):Prop |mk (pw:_)(b:_)(pl:_)(ns:_)(h0:vs=[pw,.ref b])(h1:RD K H pw (eO pl))(h2:aI K H b (ns.map V.int))(h3:ns.length=pl.length)(h4:pl.length<=1000)(h5:∀v' H',RD K H' v' (eO (fA pl ns))->ak H H'->Q v' H'):Uk K vs H Q
def zE(K:aaU):Sp:=fun vs H Q _=>Uk K vs H Q
theorem Mj:aW ["place","steps"] ["place","steps"] (aK E7):=bh (by decide+kernel)
theorem a1F(F:FA K mg "moved" E7)(B:bw mg):aj P w K mg base "moved" 1 (zE K):=by
 refine F.has Mj (fun vs H Q E h=>?_) (fun _ _ _ _ _ _=>cW fun _ _=>rfl) (fun f aD A outer s H vs Q E hr h=>?_)
 · obtain⟨pw,b,pl,ns,rfl,_⟩:=h
   rfl
 · obtain⟨pw,b,pl,ns,rfl,rp,hb,ln,hz,k⟩:=h
   have nd:=Mj.nd;refine⟨_,(aw (aJ (gZ (x:="tuple") (kP K rfl) rfl (B.at "tuple") fD (aa (fO (N:=["number","step"]) (js:=[none,none]) rfl rfl rfl (jr K rfl false false rfl (B.at "zip") (aa (pv 0) (aa (pv 1) ae))) (fun _ _ _ _ _=>(du K rfl (n:=2) rfl (bE (aX 0 (fw (by decide))) (bE (aX 1 (fw (by decide))) dk)))) (fun _ _ _ _ _=>fh) (fun _ _ _ _ _=>(az cE (pv 0) (pv 1)))) ae)))),?_⟩;obtain⟨pa,rfl,hp⟩:=qV rp;refine⟨_,rfl,_,rfl,pa,b,rfl,⟨_,hp⟩,⟨_,hb⟩,fun D H1 n1=>?_⟩;refine sX (K:=K) (b1:=false) (b2:=false) (xs:=pl.map V.int) (ys:=ns.map V.int) (ds:=(fA pl ns).map PyData.int) [] rfl hp hb n1 (by simp[pZ ln,ln]) (by rw[bT,pZ ln];exact hz) (kj _) ?_ ?_
   · intro i x y d H2 Q' ex ey ed s2 hq
     obtain⟨m,em,rfl⟩:=lE ed;rw[bZ]at ex ey;cases e1:pl[i]? with |none=>rw[e1]at ex;cases ex |some u=>cases e2:ns[i]? with |none=>rw[e2]at ey;cases ey |some v=>rw[e1]at ex;rw[e2]at ey;cases ex;cases ey;rw[J3 e1 e2]at em;cases em;exact⟨_,rfl,_,rfl,_,_,rfl,rfl,hq _ _ (ak.refl _) (cX _)⟩
   · intro H2 zs s2 d2 r2
     refine⟨D,_,rfl,.inl ⟨au.of d2,fun t H3 n3=>?_⟩⟩;have et:=n3.at';rw[r2.iH]at et;exact k (.ref t) H3 (uv (aI.of et)) (s2.trans n3.same)
inductive UH(K:aaU)(vs:List V)(H:Hp)(Q:VK):Prop |mk (pw:_)(iv:_)(pl:_)(d:_)(o:_)(h0:vs=[pw,iv])(h1:RD K H pw (eO pl))(h2:RD K H iv d)(h3:itR d o)(h4:(∀ns sp,o=some (ns,sp)->ns.length=pl.length))(h5:pl.length<=1000)(h6:∀v' H',RD K H' v' (eO (gB pl o))->ak H H'->Q v' H'):UH K vs H Q
def wB(K:aaU):Sp:=fun vs H Q _=>UH K vs H Q
theorem MQ:aW ["place","item"] ["place","item"] (aK EF):=bh (by decide+kernel)
theorem a29(F:FA K mg "place_behind" EF)(B:bw mg)(pI:aj P w K mg base "is_line" 1 (uf K))(GJ:aj P w K mg base "moved" 1 (zE K)):aj P w K mg base "place_behind" 2 (wB K):=by
 refine F.has MQ (fun vs H Q E h=>?_) (fun _ _ _ _ _ _=>cW fun _ _=>rfl) (fun f aD A outer s H vs Q E hr h=>?_)
 · obtain⟨pw,iv,pl,d,o,rfl,_⟩:=h
   rfl
 · obtain⟨pw,iv,pl,d,o,rfl,rp,ri,it,hl,hz,k⟩:=h
   have nd:=MQ.nd;refine⟨_,(aw (aJ (NK (cA (pf pI hr (aa (pv 1) ae))) (pf GJ hr (aa (pv 0) (aa (px K (pv 1) ah) ae))) (pv 0)))),?_⟩;refine⟨_,rfl,iv,d,o,rfl,ri,it,_,rfl,?_⟩;cases o with |some q=>obtain⟨ns,sp⟩:=q;refine bF ?_;have ed:=jQ it;subst ed;obtain⟨a,b,rfl,ha,hb⟩:=kX ri;exact⟨_,rfl,_,rfl,.inr ⟨a,_,1,.ref b,rfl,rfl,ha,rfl,pw,b,pl,ns,rfl,rp,hb,hl ns sp rfl,hz,fun v' H' r s=>k v' H' r s⟩⟩ |none=>refine bf ?_;exact⟨_,rfl,k pw H rp (ak.refl _)⟩
def fN(m b d q p r s k t:V):List (Str×V):=[("machine",m),("begun_at",b),("done",d),("queue",q),("pace",p),("rate_now",r),("side",s),("mark",k),("stopping",t)]
structure bp where
 rs:List Int
 r:Int
 f:Int
 j:Int
 t:Int
abbrev bp.D(M:bp):aaX:=iG M.rs M.r M.f M.j M.t
abbrev bp.Ok(M:bp):Prop:=mQ M.rs M.r M.f M.j M.t
structure aU where
 pl:List Int
 dn:Nat
 ds:List aaX
 os:List Itm
 pc:Rat
 rate:Int
 side:Str
 mark:Str
 stp:Rn.fT
def vJ(K:aaU)(H:Hp)(v:V):Rn.fT->Prop |none=>v= .aY |some (sq,st,gn)=>∃a u,v= .ref a/\aI K H a [u,.int st,.int gn]/\aR K H u sq
structure bQ(M:bp)(D:Nat)(S:aU):Prop where
 row:gu M.rs.length S.ds S.os
 rw:RowW S.ds S.os
 len:S.ds.length<=20
 rt1:10<=S.rate
 rt2:S.rate<=200
 dn:S.dn=0\/∃ns sp,S.os[0]? =some (some (ns,sp))/\S.dn<ay ns
 pl:S.pl.length=M.rs.length
 pd:Dd (D+10) S.pc
 pm:S.pc<=1600
 stp:qc D S.pc S.stp
 D1:64<=D
 D2:D<=1500
structure cn(K:aaU)(C:Addr)(H:Hp)(a q:Addr)(M:bp)(S:aU):Prop where
 ob:∃dx mv bv cg tv,H a=some (.ins C dx (fN mv bv (.int S.dn) (.ref q) cg (.int S.rate) (.str S.side) (.str S.mark) tv))/\RD K H mv M.D/\RD K H bv (eO S.pl)/\aR K H cg S.pc/\vJ K H tv S.stp
 qu:∃ys,H q=some (.lst ys)/\aE K H ys S.ds
theorem aR.v{H H':Hp}{v:V}{q:Rat}(s:bG H H')(h:aR K H v q):aR K H' v q:=by obtain⟨p,rfl,hp⟩:=h;exact⟨p,rfl,aI.v s hp⟩
theorem vJ.v{H H':Hp}{v:V}{t:Rn.fT}(s:bG H H')(h:vJ K H v t):vJ K H' v t:=by cases t with |none=>exact h |some q=>obtain⟨sq,st,gn⟩:=q;obtain⟨a,u,rfl,h1,h2⟩:=h;exact⟨a,u,rfl,aI.v s h1,aR.v s h2⟩
theorem cn.go{C:Addr}{H H':Hp}{a q:Addr}{M:bp}{S:aU}(h:cn K C H a q M S)(hn:cB S.ds=true)(s:bG H H')(ea:∀o,H a=some o->H' a=some o)(eq:∀o,H q=some o->H' q=some o):cn K C H' a q M S:=by obtain⟨⟨dx,mv,bv,cg,tv,e,r1,r2,r3,r4⟩,ys,kH,rq⟩:=h;exact⟨⟨dx,mv,bv,cg,tv,ea _ e,RD.v s _ (iS _ _ _ _ _) r1,RD.v s _ (gJ _) r2,r3.v s,r4.v s⟩,ys,eq _ kH,aE.v s _ hn rq⟩
theorem cn.same{C:Addr}{H H':Hp}{a q:Addr}{M:bp}{S:aU}(h:cn K C H a q M S)(hn:cB S.ds=true)(s:ak H H'):cn K C H' a q M S:=h.go hn s.v (fun o e=>s _ _ e) (fun o e=>s _ _ e)
theorem cn.ne{C:Addr}{H:Hp}{a q:Addr}{M:bp}{S:aU}(h:cn K C H a q M S):a≠q:=by obtain⟨⟨dx,mv,bv,cg,tv,e,_⟩,ys,kH,_⟩:=h;exact xq e kH (by intro z;cases z)
theorem cn.v{C:Addr}{H H':Hp}{a q:Addr}{M:bp}{S:aU}(h:cn K C H a q M S)(b:aV [a,q] H H'):bG H H':=by
 obtain⟨⟨dx,mv,bv,cg,tv,e,_⟩,ys,kH,_⟩:=h;refine b.v fun x hx o eo=>?_;simp only[bB,cw,df]at hx;rcases hx with rfl|rfl
 ·rw[e]at eo;cases eo;trivial
 ·rw[kH]at eo;cases eo;trivial
inductive Tw(K:aaU)(C:Addr)(G:bp->aU->Hp->VK->Prop)(vs:List V)(H:Hp)(Q:VK):Prop |mk (a:_)(q:_)(M:_)(D:_)(S:_)(h0:vs=[.ref a])(h1:cn K C H a q M S)(h2:bQ M D S)(h3:M.Ok)(h4:G M S H Q):Tw K C G vs H Q
def eK(K:aaU)(C:Addr)(G:bp->aU->Hp->VK->Prop):Sp:=fun vs H Q _=>Tw K C G vs H Q
theorem Y9:aW ["self"] ["self"] (aK DI):=bh (by decide+kernel)
def Qv(K:aaU):bp->aU->Hp->VK->Prop:=fun _ S H Q=>∀v,aR K H v S.pc->Q v H
theorem a1d{C:Addr}(F:MA K C "square" "Runner.square" DI)(TC:fK K C):cy P w K mg base C "square" 1 (eK K C (Qv K)):=by
 refine F.has Y9 (fun vs H Q E h=>?_) (fun _ _ _ _ _ _=>dJ fun _=>rfl) (fun f aD A outer s H vs Q E hr h=>?_)
 · obtain⟨a,q,M,D,S,rfl,_⟩:=h
   rfl
 · obtain⟨a,q,M,D,S,rfl,R,ok,aF,k⟩:=h
   obtain⟨dx,mv,bv,cg,tv,e,r1,r2,r3,r4⟩:=R.ob;exact⟨_,(aw (aJ (cI TC.cl TC.n_pace (pv 0)))),_,rfl,a,dx,_,_,rfl,e,rfl,k cg r3⟩
theorem Yb:aW ["self"] ["self"] (aK DM):=bh (by decide+kernel)
theorem a1h{C:Addr}(F:MA K C "rate" "Runner.rate" DM)(TC:fK K C):cy P w K mg base C "rate" 1 (eK K C fun _ S H Q=>Q (.int S.rate) H):=by
 refine F.has Yb (fun vs H Q E h=>?_) (fun _ _ _ _ _ _=>dJ fun _=>rfl) (fun f aD A outer s H vs Q E hr h=>?_)
 · obtain⟨a,q,M,D,S,rfl,_⟩:=h
   rfl
 · obtain⟨a,q,M,D,S,rfl,R,ok,aF,k⟩:=h
   obtain⟨dx,mv,bv,cg,tv,e,r1,r2,r3,r4⟩:=R.ob;exact⟨_,(aw (aJ (cI TC.cl TC.n_rate_now (pv 0)))),_,rfl,a,dx,_,_,rfl,e,rfl,k⟩
theorem Y8:aW ["self"] ["self"] (aK DH):=bh (by decide+kernel)
theorem a1c{C:Addr}(F:MA K C "tool" "Runner.tool" DH)(TC:fK K C):cy P w K mg base C "tool" 1 (eK K C fun _ S H Q=>Q (.str S.side) H):=by
 refine F.has Y8 (fun vs H Q E h=>?_) (fun _ _ _ _ _ _=>dJ fun _=>rfl) (fun f aD A outer s H vs Q E hr h=>?_)
 · obtain⟨a,q,M,D,S,rfl,_⟩:=h
   rfl
 · obtain⟨a,q,M,D,S,rfl,R,ok,aF,k⟩:=h
   obtain⟨dx,mv,bv,cg,tv,e,r1,r2,r3,r4⟩:=R.ob;exact⟨_,(aw (aJ (cI TC.cl TC.n_side (pv 0)))),_,rfl,a,dx,_,_,rfl,e,rfl,k⟩
theorem Yd:aW ["self"] ["self"] (aK DQ):=bh (by decide+kernel)
theorem a1l{C:Addr}(F:MA K C "last_mark" "Runner.last_mark" DQ)(TC:fK K C):cy P w K mg base C "last_mark" 1 (eK K C fun _ S H Q=>Q (.str S.mark) H):=by
 refine F.has Yd (fun vs H Q E h=>?_) (fun _ _ _ _ _ _=>dJ fun _=>rfl) (fun f aD A outer s H vs Q E hr h=>?_)
 · obtain⟨a,q,M,D,S,rfl,_⟩:=h
   rfl
 · obtain⟨a,q,M,D,S,rfl,R,ok,aF,k⟩:=h
   obtain⟨dx,mv,bv,cg,tv,e,r1,r2,r3,r4⟩:=R.ob;exact⟨_,(aw (aJ (cI TC.cl TC.n_mark (pv 0)))),_,rfl,a,dx,_,_,rfl,e,rfl,k⟩
theorem Y7:aW ["self"] ["self"] (aK DG):=bh (by decide+kernel)
theorem a1b{C:Addr}(F:MA K C "waiting" "Runner.waiting" DG)(TC:fK K C)(B:bw mg):cy P w K mg base C "waiting" 1 (eK K C fun _ S H Q=>∀l ys H',H l=none->H' l=some (.lst ys)->aE K H' ys S.ds->ak H H'->Q (.ref l) H'):=by
 refine F.has Y7 (fun vs H Q E h=>?_) (fun _ _ _ _ _ _=>dJ fun _=>rfl) (fun f aD A outer s H vs Q E hr h=>?_)
 · obtain⟨a,q,M,D,S,rfl,_⟩:=h
   rfl
 · obtain⟨a,q,M,D,S,rfl,R,ok,aF,k⟩:=h
   obtain⟨dx,mv,bv,cg,tv,e,r1,r2,r3,r4⟩:=R.ob;obtain⟨ys,eq,rq⟩:=R.qu;refine⟨_,(aw (aJ (gZ (x:="list") (G9 K rfl) rfl (B.at "list") jU (aa (cI TC.cl TC.n_queue (pv 0)) ae)))),_,rfl,a,dx,_,_,rfl,e,rfl,q,ys,rfl,.inl (au.of eq),fun l H1 n1=>?_⟩;exact k l ys H1 n1.no n1.at' (aE.mono n1.same _ rq) n1.same
theorem Yg:aW ["self"] ["self"] (aK DV):=bh (by decide+kernel)
theorem a1q{C:Addr}(F:MA K C "is_held" "Runner.is_held" DV)(TC:fK K C):cy P w K mg base C "is_held" 1 (eK K C fun _ S H Q=>Q (.bl S.stp.isSome) H):=by
 refine F.has Yg (fun vs H Q E h=>?_) (fun _ _ _ _ _ _=>dJ fun _=>rfl) (fun f aD A outer s H vs Q E hr h=>?_)
 · obtain⟨a,q,M,D,S,rfl,_⟩:=h
   rfl
 · obtain⟨a,q,M,D,S,rfl,R,ok,aF,k⟩:=h
   obtain⟨dx,mv,bv,cg,tv,e,r1,r2,r3,r4⟩:=R.ob;refine⟨_,(aw (aJ (eQ wZ (cI TC.cl TC.n_stopping (pv 0)) j4 (ba _)))),_,rfl,a,dx,_,_,rfl,e,rfl,?_⟩;cases hs:S.stp with |none=>rw[hs]at r4 k;cases(show tv= .aY from r4);exact⟨rfl,k⟩ |some z=>rw[hs]at r4 k;obtain⟨sq,st,gn⟩:=z;obtain⟨b,u,rfl,_⟩:=r4;exact⟨rfl,k⟩
theorem Np(q:Rat):PyData.eqv (cD q) (cD 0)=decide (q=0):=by
 by_cases h:q=0
 ·rw[ck h];exact eqR h
 · rw[eg h]
   cases e:PyData.eqv (cD q) (cD 0)with |false=>rfl |true=>
     exfalso;apply h;have e':(PyData.eqv (.int q.num) (.int (0:Rat).num)&&(PyData.eqv (.int (q.den:Int)) (.int ((0:Rat).den:Int))&&true))=true:=e;rw[JP,eu]at e';obtain⟨a,b⟩:=e';have h1:q.num=(0:Rat).num:=by simpa[PyData.eqv]using a
     have h2:(q.den:Int)=((0:Rat).den:Int):=by simpa[PyData.eqv]using b
     exact Rat.ext h1 (by lia)
theorem Ya:aW ["self"] ["self"] (aK DL):=bh (by decide+kernel)
theorem a1g{C:Addr}(F:MA K C "stands" "Runner.stands" DL)(TC:fK K C)(gN:GT K mg "NOUGHT" [.int 0,.int 1]):cy P w K mg base C "stands" 1 (eK K C fun _ S H Q=>Q (.bl (decide (S.pc=0))) H):=by
 obtain⟨aN,kE,m3⟩:=gN;refine F.has Ya (fun vs H Q E h=>?_) (fun _ _ _ _ _ _=>dJ fun _=>rfl) (fun f aD A outer s H vs Q E hr h=>?_)
 · obtain⟨a,q,M,D,S,rfl,_⟩:=h
   rfl
 · obtain⟨a,q,M,D,S,rfl,R,ok,aF,k⟩:=h
   obtain⟨dx,mv,bv,cg,tv,e,r1,r2,r3,r4⟩:=R.ob;refine⟨_,(aw (aJ (eQ (cJ K rfl hr.units) (cI TC.cl TC.n_pace (pv 0)) (dQ (x:="NOUGHT") rfl kE) (ba _)))),_,rfl,a,dx,_,_,rfl,e,rfl,.inr ⟨_,_,r3.rd,(rB (m3 H)).rd,rfl,rfl,?_⟩⟩;rw[Np];exact k
theorem Yf:aW ["self"] ["self"] (aK DU):=bh (by decide+kernel)
theorem a1p{C:Addr}(F:MA K C "is_halted" "Runner.is_halted" DU)(TC:fK K C)(sF:cy P w K mg base C "is_held" 1 (eK K C fun _ S H Q=>Q (.bl S.stp.isSome) H))(Hh:cy P w K mg base C "stands" 1 (eK K C fun _ S H Q=>Q (.bl (decide (S.pc=0))) H)):cy P w K mg base C "is_halted" 2 (eK K C fun _ S H Q=>Q (.bl (S.stp.isSome&&decide (S.pc=0))) H):=by
 refine F.has Yf (fun vs H Q E h=>?_) (fun _ _ _ _ _ _=>dJ fun _=>rfl) (fun f aD A outer s H vs Q E hr h=>?_)
 · obtain⟨a,q,M,D,S,rfl,_⟩:=h
   rfl
 · obtain⟨a,q,M,D,S,rfl,R,ok,aF,k⟩:=h
   obtain⟨dx,mv,bv,cg,tv,e,r1,r2,r3,r4⟩:=R.ob;refine⟨_,(aw (aJ (hO (gk sF TC.cl (hr.mono (by decide)) (pv 0)) (iE (gk Hh TC.cl (hr.mono (by decide)) (pv 0)))))),_,rfl,a,dx,_,rfl,e,rfl,a,q,M,D,S,rfl,R,ok,aF,_,rfl,?_⟩;cases hs:S.stp.isSome with |false=>rw[hs]at k;exact bf k |true=>rw[hs]at k;refine bF ⟨_,rfl,a,dx,_,rfl,e,rfl,a,q,M,D,S,rfl,R,ok,aF,?_⟩;exact k
structure mT(n:Nat)(d:aaX)(o:Itm):Prop where
 it:itR d o
 ln:∀ns sp,o=some (ns,sp)->dR n 100 ns/\1<=sp/\sp<=20
 ot:o=none->oH d
theorem a2B{z:Str}(h:xu z=true):isNm (.str z)=true:=h
theorem a8L:∀{ns:List Int},(∃z∈ns,z≠0)->(ns.map PyData.int).any xi=true:=fun{ns} ⟨z,hz,h⟩=>List.any_eq_true.mpr ⟨.int z,jn.mpr ⟨z,hz,rfl⟩,by show(z !=0)=true;simpa using h⟩
theorem a8Q{ns:List Int}(h:∀z∈ns,(z.natAbs:Int)<=100):(ns.map PyData.int).all (gc (-100) 100)=true:=by rw[iy];intro d hd;obtain⟨z,hz,rfl⟩:=jn.mp hd;have:=h z hz;show(decide (-100<=z)&&decide (z<=100))=true;rw[ck (by omega),ck (by omega)];rfl
theorem mT.is{n:Nat}{d:aaX}{o:Itm}(h:mT n d o):rO n d=true/\cU 8 d/\D7 d=true:=by cases o with
 |some q=>
   obtain⟨ns,sp⟩:=q;have ed:=jQ h.it;subst ed;obtain⟨dU,s1,s2⟩:=h.ln ns sp rfl;refine⟨?_,?_,rfl⟩
   · show(gO "line" (.str "line")&&(rn n (.tuple (ns.map PyData.int))&&gc 1 20 (.int sp)))=true
     have e1:gO "line" (.str "line")=true:=by decide+kernel
     have e2:rn n (.tuple (ns.map PyData.int))=true:=by show(((ns.map PyData.int).length==n&&(ns.map PyData.int).all (gc (-100) 100))&&(ns.map PyData.int).any xi)=true;rw[a8Q dU.bd,a8L dU.nz,bT,dU.len,Jn];rfl
     have e3:gc 1 20 (.int sp)=true:=by show(decide (1<=sp)&&decide (sp<=20))=true;rw[ck s1,ck s2];rfl
     rw[e1,e2,e3];rfl
   · refine(fV.tup (n:=1) (.cons ⟨by decide+kernel,fX _⟩ (.cons (fV.tup (n:=0) fun d hd=>?_) (.cons (.int _) .nil)))).le (by decide)
     obtain⟨a,_,rfl⟩:=jn.mp hd;exact .int _ |none=>
   rcases h.ot rfl with⟨z,rfl,z1,z2⟩|⟨w,s,rfl,hw,rj,on⟩
   · refine⟨?_,(fV.tup (n:=0) (.cons ⟨by decide+kernel,fX _⟩ (.cons (.int _) .nil))).le (by decide),rfl⟩
     show nX (.str "wait") (.int z)=true;unfold nX;rw[aO (by decide+kernel)];show(decide (1<=z)&&decide (z<=1000))=true;rw[ck z1,ck z2];rfl
   · have a3q:p4 (.str s)=true:=by
       refine ck ?_;rcases on with⟨_,rfl|rfl⟩|⟨_,hn⟩
       ·decide+kernel
       ·decide+kernel
       · unfold xu at hn
         simp only[eu,BS]at hn
         lia
     refine⟨?_,(fV.tup (n:=0) (.cons ?_ (.cons rj .nil))).le (by decide),?_⟩
     · rcases on with⟨rfl,hs⟩|⟨rfl,hn⟩
       · show nX (.str "tool") (.str s)=true
         unfold nX;rw[aP (by decide+kernel),aO (by decide+kernel)];rcases hs with rfl|rfl<;>decide+kernel
       · show nX (.str "mark") (.str s)=true
         unfold nX;rw[aP (by decide+kernel),aP (by decide+kernel)];rw[a2B hn];decide+kernel
     ·rcases hw with rfl|rfl<;>exact⟨by decide+kernel,fX _⟩
     · show([.str w,.str s]:List aaX).all p4=true
       rw[JJ,JJ,List.all_nil,a3q];rcases hw with rfl|rfl<;>decide+kernel
def gX(ns:List Int)(k:Int):List Int:=ns.map fun z=>gM (k*z) (ay ns)
def eL(S:aU):List Int:=if S.dn=0 then S.pl else match S.os[0]? with |some (some (ns,_))=>fA S.pl (gX ns S.dn) |_=>S.pl
def cC(S:aU):List Int:=S.os.foldl gB S.pl
theorem vI{n:Nat}{pl:List Int}{o:Itm}(h:pl.length=n)(ho:∀ns sp,o=some (ns,sp)->ns.length=n):(gB pl o).length=n:=by cases o with |none=>exact h |some q=>obtain⟨ns,sp⟩:=q;show(fA pl ns).length=n;rw[pZ (by rw[ho ns sp rfl,h])];exact h
theorem xY{n:Nat}:∀(os:List Itm)(pl:List Int),pl.length=n->(∀o∈os,∀ns sp,o=some (ns,sp)->ns.length=n)->(os.foldl gB pl).length=n |[],pl,h,_=>h |o::os,pl,h,ho=>xY os (gB pl o) (vI h (ho o (.head _))) fun x hx=>ho x (.tail _ hx)
theorem bQ.rj{M:bp}{D:Nat}{S:aU}(h:bQ M D S):∀o∈S.os,∀ns sp,o=some (ns,sp)->ns.length=M.rs.length:=fun o ho ns sp e=>by obtain⟨i,hi⟩:=oU.mp ho;rw[e]at hi;exact(h.row.ok i ns sp hi).1.len
theorem bQ.first{M:bp}{D:Nat}{S:aU}(h:bQ M D S)(hn:S.dn≠0):∃ns sp,S.os[0]? =some (some (ns,sp))/\S.dn<ay ns:=by
 rcases h.dn with e|e
 ·exact(hn e).elim
 ·exact e
theorem Yc:aW ["self"] ["self"] (aK DN):=bh (by decide+kernel)
theorem a1i{C:Addr}(F:MA K C "place" "Runner.place" DN)(TC:fK K C)(GJ:aj P w K mg base "moved" 1 (zE K))(AA:aj P w K mg base "stand_at" 2 (zA K)):cy P w K mg base C "place" 3 (eK K C fun _ S H Q=>∀v H',RD K H' v (eO (eL S))->ak H H'->Q v H'):=by
 refine F.has Yc (fun vs H Q E h=>?_) (fun _ _ _ _ _ _=>dJ fun _=>rfl) (fun f aD A outer s H vs Q E hr h=>?_)
 · obtain⟨a,q,M,D,S,rfl,_⟩:=h
   rfl
 · obtain⟨a,q,M,D,S,rfl,R,ok,aF,k⟩:=h
   obtain⟨dx,mv,bv,cg,tv,e,r1,r2,r3,r4⟩:=R.ob;obtain⟨ys,eq,rq⟩:=R.qu;refine⟨_,(ai (bj (bL (cJ K rfl hr.units) (cI TC.cl TC.n_done (pv 0)) ah (ba _)) (aw (aJ (cI TC.cl TC.n_begun_at (pv 0)))) bu) (aw (aJ (pf GJ hr (aa (cI TC.cl TC.n_begun_at (pv 0)) (aa (pf AA hr (aa (px K (cI TC.cl TC.n_queue (pv 0)) ah) (aa (cI TC.cl TC.n_done (pv 0)) ae))) ae)))))),_,rfl,a,dx,_,_,rfl,e,rfl,.inl ⟨_,_,rfl,rfl,_,rfl,?_⟩⟩;by_cases h0:S.dn=0
   · rw[ck (by lia)]
     have ep:eL S=S.pl:=by unfold eL;rw[aO h0]
     rw[ep]at k;exact bF ⟨_,rfl,a,dx,_,_,rfl,e,rfl,k bv H r2 (ak.refl _)⟩
   · rw[eg (by lia)]
     refine bf ?_;obtain⟨ns,sp,eo,hd⟩:=ok.first h0;obtain⟨dU,gj,gH⟩:=ok.row.ok 0 ns sp eo;have ep:eL S=fA S.pl (gX ns S.dn):=by unfold eL;rw[aP h0,eo]
     rw[ep]at k;have ll:=ok.row.len;have o8:0<S.os.length:=(dh.mp eo).1;obtain⟨d,ed⟩:∃d,S.ds[0]? =some d:=⟨_,bN (show 0<S.ds.length by lia)⟩;obtain⟨y,ey,ry⟩:=rq.get 0 ed;have it:=ok.row.it 0 d _ ed eo;have kI:=jQ it;subst kI;have P1:=xE dU;have lr:=aF.len;refine⟨_,rfl,a,dx,_,_,rfl,e,rfl,?_⟩;refine⟨_,rfl,a,dx,_,_,rfl,e,rfl,.inl ⟨q,_,0,y,rfl,rfl,au.of eq,cN (fY 0) ey,?_⟩⟩;refine⟨_,rfl,a,dx,_,_,rfl,e,rfl,y,ns,sp,_,rfl,ry,⟨rfl,fun z hz=>by have:=dU.bd z hz;lia,dU.nz⟩,by rw[dU.len];lia,by lia,fun u H1 ru s1=>?_⟩;obtain⟨b,xs,rfl,hb,hx⟩:=ru.dF;rw[hx.iH]at hb;exact⟨bv,b,S.pl,_,rfl,RD.mono s1 _ r2,hb,by rw[bT,dU.len,ok.pl],by rw[ok.pl];lia,fun v H2 rv s2=>k v H2 rv (s1.trans s2)⟩
theorem M8:aW ["self","here","item"] ["self"] (aK DR):=bh (by decide+kernel)
theorem a1m{C:Addr}(F:MA K C "leads_to" "Runner.leads_to" DR)(TC:fK K C)(xM:aj P w K mg base "place_behind" 2 (wB K)):cy P w K mg base C "leads_to" 3 (eK K C fun _ S H Q=>∀v H',RD K H' v (eO (cC S))->ak H H'->Q v H'):=by
 refine F.has M8 (fun vs H Q E h=>?_) (fun _ _ _ _ _ _=>dJ fun _=>rfl) (fun f aD A outer s H vs Q E hr h=>?_)
 · obtain⟨a,q,M,D,S,rfl,_⟩:=h
   rfl
 · obtain⟨a,q,M,D,S,rfl,R,ok,aF,k⟩:=h
   obtain⟨dx,mv,bv,cg,tv,e,r1,r2,r3,r4⟩:=R.ob;obtain⟨ys,eq,rq⟩:=R.qu;have nd:=M8.nd;have ll:=ok.row.len;have ly:=rq.length;have lr:=aF.len;refine⟨_,(ai (pS 1 nd (cI TC.cl TC.n_begun_at (pv 0))) (ai (kU gE rfl (wV K rfl (cI TC.cl TC.n_queue (pv 0))) (aX 2 nd) (aw (pS 1 nd (pf xM hr (aa (pv 1) (aa (pv 2) ae)))))) (aw (aJ (pv 1))))),_,rfl,a,dx,_,_,rfl,e,rfl,_,rfl,a,dx,_,_,rfl,e,rfl,q,rfl,⟨_,au.of eq⟩,?_⟩;refine Hw (K:=K) (a:=q) (xs:=ys) (fun i σ H1=>ak H H1/\∃hv v2,RD K H1 hv (eO ((S.os.take i).foldl gB S.pl))/\σ=[some (.ref a),some hv,v2]) ⟨ak.refl _,bv,none,r2,rfl⟩ (fun i σ H1 _ h=>au.of (h.1 _ _ eq)) ?_ ?_
   · rintro i x σ H1 hx ⟨s1,hv,v2,rh,rfl⟩
     obtain⟨d,ed,rd⟩:=rq.get' i hx;obtain⟨o,eo,it⟩:=ok.row.get ed;have lp:((S.os.take i).foldl gB S.pl).length=M.rs.length:=xY _ _ ok.pl fun o ho=>ok.rj o (C3 ho);refine⟨_,rfl,_,rfl,hv,x,_,d,o,rfl,rh,RD.mono s1 _ rd,it,fun ns sp e'=>by rw[lp];exact ok.rj o (gf eo) ns sp e',by lia,fun v H2 rv s2=>?_⟩;refine⟨s1.trans s2,v,_,?_,rfl⟩;rw[oT,eo,List.foldl_append];exact rv
   · rintro σ H1 ⟨s1,hv,v2,rh,rfl⟩
     rw[ly,ll,vT]at rh;exact⟨_,rfl,k hv H1 rh s1⟩
structure Mv(a q:Addr)(H:Hp)(q':Addr)(H':Hp):Prop where
 but:aV [a,q] H H'
 nq:q'=q\/H q'=none
theorem Ye:aW ["self","machine","place"] ["self","machine","place"] (aK DS):=bh (by decide+kernel)
def lZ(pl:List Int):aU:=⟨pl,0,[],[],0,100,"up","",none⟩
inductive U5(K:aaU)(C:Addr)(vs:List V)(H:Hp)(Q:VK):Prop |mk (a:_)(dx:_)(mv:_)(qU:_)(M:_)(pl:_)(h0:vs=[.ref a,mv,qU])(h1:H a=some (.ins C dx []))(h2:RD K H mv (bp.D M))(h3:RD K H qU (eO pl))(h4:∀q H',cn K C H' a q M (lZ pl)->H q=none->aV [a] H H'->Q .aY H'):U5 K C vs H Q
def Lc(K:aaU)(C:Addr):Sp:=fun vs H Q _=>U5 K C vs H Q
theorem a1n{C:Addr}(F:CA K mg C "Runner" "Runner.__init__" DS)(TC:fK K C)(gN:GT K mg "NOUGHT" [.int 0,.int 1])(a5W:GV mg "FIRST_RATE" (.int 100)):BK P w K mg base C "Runner" 1 (Lc K C):=by
 obtain⟨aN,kE,m3⟩:=gN;refine F.has Ye (fun vs H Q E h=>?_) (fun _ _ _ _ _ _=>mL fun _ _ _=>rfl) (fun f aD A outer s H vs Q E hr h=>?_)
 · obtain⟨a,dx,mv,qU,M,pl,rfl,_⟩:=h
   rfl
 · obtain⟨a,dx,mv,qU,M,pl,rfl,e,rm,rp,k⟩:=h
   refine⟨_,(ai (iD TC.cl TC.n_machine (pv 0) (pv 1)) (ai (iD TC.cl TC.n_begun_at (pv 0) (pv 2)) (ai (iD TC.cl TC.n_done (pv 0) ah) (ai (iD TC.cl TC.n_queue (pv 0) (cV ae)) (ai (iD TC.cl TC.n_pace (pv 0) (dQ (x:="NOUGHT") rfl kE)) (ai (iD TC.cl TC.n_rate_now (pv 0) (dQ (x:="FIRST_RATE") rfl a5W)) (ai (iD TC.cl TC.n_side (pv 0) aL) (ai (iD TC.cl TC.n_mark (pv 0) aL) (aw (iD TC.cl TC.n_stopping (pv 0) j4)))))))))),?_⟩;refine⟨_,rfl,_,rfl,a,dx,_,rfl,e,by decide,?_⟩;refine⟨_,rfl,_,rfl,a,dx,_,rfl,aQ,by show 1<1000;decide,?_⟩;refine⟨_,rfl,a,dx,_,rfl,aQ,by show 2<1000;decide,?_⟩;refine⟨bI rfl,fun q H1 n1=>?_⟩;have aq:a≠q:=fun z=>by have:=n1.no;rw[<-z,aQ]at this;cases this
   have e1:=n1.same _ _ (aQ (a:=a));refine⟨_,rfl,a,dx,_,rfl,e1,by show 3<1000;decide,?_⟩;refine⟨_,rfl,a,dx,_,rfl,aQ,by show 4<1000;decide,?_⟩;refine⟨_,rfl,a,dx,_,rfl,aQ,by show 5<1000;decide,?_⟩;refine⟨_,rfl,a,dx,_,rfl,aQ,by show 6<1000;decide,?_⟩;refine⟨_,rfl,a,dx,_,rfl,aQ,by show 7<1000;decide,?_⟩;refine⟨_,rfl,a,dx,_,rfl,aQ,by show 8<1000;decide,?_⟩;have key:∀X:Hp,(∀b,b≠a->X b=H1 b)->Q .aY (L2.upd X a (.ins C dx (fN mv qU (.int 0) (.ref q) (.ref aN) (.int 100) (.str "up") (.str "") .aY))):=by
    intro X hX;have bt:aV [a] H (L2.upd X a (.ins C dx (fN mv qU (.int 0) (.ref q) (.ref aN) (.int 100) (.str "up") (.str "") .aY))):=fun b o eb hb=>by have ha:b≠a:=fun z=>hb (by rw[z];exact .head _);rw[aB ha,hX b ha];exact n1.same _ _ (by rw[aB ha,aB ha,aB ha];exact eb)
    have sv:=bt.v fun x hx o eo=>by rw[bS]at hx;rw[hx,e]at eo;cases eo;trivial
    refine k q _ ⟨⟨dx,mv,qU,.ref aN,.aY,aQ,RD.v sv _ (iS _ _ _ _ _) rm,RD.v sv _ (gJ _) rp,rB (m3 _),rfl⟩,[],?_,cF⟩ ?_ bt
    ·rw[aB aq.symm,hX q aq.symm];exact n1.at'
    · have:=n1.no
      rw[aB aq.symm,aB aq.symm,aB aq.symm]at this;exact this
   exact key _ (fun b hb=>by rw[aB hb,aB hb,aB hb,aB hb,aB hb])
theorem YI{M:bp}{pl:List Int}(hp:pl.length=M.rs.length):bQ M 64 (lZ pl):=⟨.nil,fun i d e=>by simp[lZ]at e,by simp[lZ],(show(10:Int)<=100 by decide),(show(100:Int)<=200 by decide),.inl rfl,hp,⟨(show(0:Rat)<=0 by decide),(show(0:Rat).den<2^74 by decide+kernel)⟩,(show(0:Rat)<=1600 by decide+kernel),trivial,by decide,by decide⟩
theorem a0C{rs pl:List Int}(h:iq rs pl):Gm rs (eO pl)=true:=by show((pl.map PyData.int).length==rs.length&&(((pl.map PyData.int).zip rs).map fun p=>gc 0 p.2 p.1).all id)=true;rw[bT,h.len,Jn,jJ,iy];intro b hb;obtain⟨⟨d,r⟩,hm,rfl⟩:=jn.mp hb;obtain⟨i,hi⟩:=oU.mp hm;obtain⟨e1,e2⟩:=(vV (z:=(d,r))).mp hi;rw[bZ]at e1;cases e:pl[i]? with |none=>rw[e]at e1;cases e1 |some x=>rw[e]at e1;cases e1;obtain⟨a1,a2⟩:=h.at' i x r e e2;show(decide (0<=x)&&decide (x<=r))=true;rw[ck a1,ck a2];rfl
def mC(S:aU)(d:aaX)(o:Itm):aU:={S with ds:=S.ds++[d],os:=S.os++[o]}
theorem bQ.QD{M:bp}{D:Nat}{S:aU}{d:aaX}{o:Itm}(h:bQ M D S)(it:mT M.rs.length d o)(hl:S.ds.length<20):bQ M D (mC S d o):=by
 have ll:=h.row.len;refine⟨h.row.snoc it.it it.ln,RowW.snoc h.rw ll it.ot,by show(S.ds++[d]).length<=20;rw[fm];show _+1<=20;lia,h.rt1,h.rt2,?_,h.pl,h.pd,h.pm,h.stp,h.D1,h.D2⟩;rcases h.dn with e|⟨ns,sp,e,e2⟩
 ·exact .inl e
 · refine .inr ⟨ns,sp,?_,e2⟩
   show(S.os++[o])[0]? =_;rw[vW (dh.mp e).1];exact e
theorem Ma:aW ["self","item"] ["self","item"] (aK DX):=bh (by decide+kernel)
def iI(S:aU):aU:=match S.os with |o::os=>{S with pl:=gB S.pl o,ds:=S.ds.tail,os:=os,dn:=0} |[]=>S
theorem gu.tail{n:Nat}{d:aaX}{ds:List aaX}{o:Itm}{os:List Itm}(h:gu n (d::ds) (o::os)):gu n ds os:=⟨by have:=h.len;simpa using this,fun i d' o' e1 e2=>h.it (i+1) d' o' (by simpa using e1) (by simpa using e2),fun i ns sp e=>h.ok (i+1) ns sp (by simpa using e)⟩
theorem RowW.tail{d:aaX}{ds:List aaX}{o:Itm}{os:List Itm}(h:RowW (d::ds) (o::os)):RowW ds os:=fun i d' e1 e2=>h (i+1) d' (by simpa using e1) (by simpa using e2)
structure jS(M:bp)(D:Nat)(S:aU):Prop where
 row:gu M.rs.length S.ds S.os
 rw:RowW S.ds S.os
 len:S.ds.length<=20
 rt1:10<=S.rate
 rt2:S.rate<=200
 pl:S.pl.length=M.rs.length
 pd:Dd (D+10) S.pc
 pm:S.pc<=1600
 stp:qc D S.pc S.stp
 D1:64<=D
 D2:D<=1500
theorem bQ.raw{M:bp}{D:Nat}{S:aU}(h:bQ M D S):jS M D S:=⟨h.row,h.rw,h.len,h.rt1,h.rt2,h.pl,h.pd,h.pm,h.stp,h.D1,h.D2⟩
theorem jS.ok{M:bp}{D:Nat}{S:aU}(h:jS M D S)(hd:S.dn=0\/∃ns sp,S.os[0]? =some (some (ns,sp))/\S.dn<ay ns):bQ M D S:=⟨h.row,h.rw,h.len,h.rt1,h.rt2,hd,h.pl,h.pd,h.pm,h.stp,h.D1,h.D2⟩
theorem jS.end{M:bp}{D:Nat}{S:aU}(h:jS M D S)(hn:S.os≠[]):bQ M D (iI S):=by obtain⟨pl,dn,ds,os,pc,rate,side,mark,stp⟩:=S;cases os with |nil=>exact(hn rfl).elim |cons o os=>have ll:=h.row.len;cases ds with |nil=>simp at ll |cons d ds=>
     refine⟨h.row.tail,h.rw.tail,?_,h.rt1,h.rt2,.inl rfl,?_,h.pd,h.pm,h.stp,h.D1,h.D2⟩
     · have:=h.len
       simp only[jI]at this;show ds.length<=20
       lia
     ·exact vI h.pl fun ns sp e=>(h.row.ok 0 ns sp (by rw[<-e];rfl)).1.len
theorem a7P(xs:List V):lP xs (some 1) none=xs.drop 1:=ID xs
theorem Md:aW ["self"] ["self"] (aK E1):=bh (by decide+kernel)
inductive Ub(K:aaU)(C:Addr)(vs:List V)(H:Hp)(Q:VK):Prop |mk (a:_)(q:_)(M:_)(D:_)(S:_)(h0:vs=[.ref a])(h1:cn K C H a q M S)(h2:jS M D S)(h3:M.Ok)(h4:S.os≠[])(h5:∀q' H',cn K C H' a q' M (iI S)->H q'=none->aV [a] H H'->Q .aY H'):Ub K C vs H Q
def CO(K:aaU)(C:Addr):Sp:=fun vs H Q _=>Ub K C vs H Q
theorem a1w{C:Addr}(F:MA K C "end_first" "Runner.end_first" E1)(TC:fK K C)(xM:aj P w K mg base "place_behind" 2 (wB K)):cy P w K mg base C "end_first" 3 (CO K C):=by
 refine F.has Md (fun vs H Q E h=>?_) (fun _ _ _ _ _ _=>dJ fun _=>rfl) (fun f aD A outer s H vs Q E hr h=>?_)
 · obtain⟨a,q,M,D,S,rfl,_⟩:=h
   rfl
 · obtain⟨a,q,M,D,S,rfl,R,ok,aF,hn,k⟩:=h
   obtain⟨dx,mv,bv,cg,tv,e,r1,r2,r3,r4⟩:=R.ob;obtain⟨ys,eq,rq⟩:=R.qu;have aq:=R.ne;have nd:=Md.nd;have lr:=aF.len;have ll:=ok.row.len;refine⟨_,(ai (iD TC.cl TC.n_begun_at (pv 0) (pf xM hr (aa (cI TC.cl TC.n_begun_at (pv 0)) (aa (px K (cI TC.cl TC.n_queue (pv 0)) ah) ae)))) (ai (iD TC.cl TC.n_queue (pv 0) (Fv (CZ K rfl) (cI TC.cl TC.n_queue (pv 0)) (Fq ah) Fs)) (aw (iD TC.cl TC.n_done (pv 0) ah)))),?_⟩;obtain⟨pl,dn,ds,os,pc,rate,side,mark,stp⟩:=S;cases os with |nil=>exact(hn rfl).elim |cons o os=>cases ds with |nil=>simp at ll |cons d ds=>
       obtain⟨y,yr,rfl,ry,rr⟩:=rq.cons_inv;have it:itR d o:=ok.row.it 0 d o rfl rfl;have lp:pl.length=M.rs.length:=ok.pl;refine⟨_,rfl,a,dx,_,_,rfl,e,rfl,?_⟩;refine⟨_,rfl,a,dx,_,_,rfl,e,rfl,.inl ⟨q,_,0,y,rfl,rfl,au.of eq,cN (fY 0) rfl,?_⟩⟩;refine⟨bv,y,pl,d,o,rfl,r2,ry,it,fun ns sp e'=>by rw[lp];exact(ok.row.ok 0 ns sp (by rw[<-e'];rfl)).1.len,by lia,fun u H1 ru s1=>?_⟩;have e1:=s1 _ _ e;refine⟨_,rfl,a,dx,_,rfl,e1,by show 9<1000;decide,?_⟩;have eq1:(L2.upd H1 a (.ins C dx (fN mv u (.int dn) (.ref q) cg (.int rate) (.str side) (.str mark) tv))) q=some (.lst (y::yr)):=by rw[aB aq.symm];exact s1 _ _ eq
       refine⟨_,rfl,a,dx,_,_,rfl,aQ,rfl,_,rfl,q,_,rfl,.inl ⟨au.of eq1,fun q' H2 n2=>?_⟩⟩;have e2:=n2.same _ _ (aQ (a:=a));refine⟨_,rfl,a,dx,_,rfl,e2,by show 9<1000;decide,?_⟩;refine⟨_,rfl,a,dx,_,rfl,aQ,by show 9<1000;decide,?_⟩;have J1:a≠q':=fun z=>by have:=n2.no;rw[<-z,aQ]at this;cases this
       have key:∀X:Hp,(∀b,b≠a->X b=H2 b)->Q .aY (L2.upd X a (.ins C dx (fN mv u (.int 0) (.ref q') cg (.int rate) (.str side) (.str mark) tv))):=by
        intro X hX;have bt:aV [a] H (L2.upd X a (.ins C dx (fN mv u (.int 0) (.ref q') cg (.int rate) (.str side) (.str mark) tv))):=fun b o' eb hb=>by have ha:b≠a:=fun z=>hb (by rw[z];exact .head _);rw[aB ha,hX b ha];exact n2.same _ _ (by rw[aB ha];exact s1 _ _ eb)
        have sv:=bt.v fun x hx o' eo=>by rw[bS]at hx;rw[hx,e]at eo;cases eo;trivial
        have zq:bG H1 (L2.upd X a (.ins C dx (fN mv u (.int 0) (.ref q') cg (.int rate) (.str side) (.str mark) tv))):=fun b o' nb eb=>by
         have ha:b≠a:=fun z=>by rw[z,e1]at eb;cases eb;exact nb trivial
         rw[aB ha,hX b ha];exact n2.same _ _ (by rw[aB ha];exact eb)
        have jy:=n2.at';rw[a7P]at jy;refine k q' _ ⟨⟨dx,mv,u,cg,tv,aQ,RD.v sv _ (iS _ _ _ _ _) r1,RD.v zq _ (gJ _) ru,r3.v sv,r4.v sv⟩,yr,?_,?_⟩ ?_ bt
        ·rw[aB J1.symm,hX q' J1.symm];exact jy
        ·exact aE.v sv _ ok.row.tail.no rr
        ·cases e':H q' with |none=>rfl |some o'=>have h1:=s1 _ _ e';have h2:=n2.no;rw[aB J1.symm,h1]at h2;cases h2
       exact key _ (fun b hb=>by rw[aB hb])
theorem mn4{x y z u q:Rat}(h:q=x\/q=y\/q=z\/q=u)(h1:q<=x)(h2:q<=y)(h3:q<=z)(h4:q<=u):mn (mn (mn x y) z) u=q:=by
 refine BW ?_ (ku (ku (ku h1 h2) h3) h4);rcases h with h|h|h|h
 ·rw[h];exact dB (g9 _ _) (dB (g9 _ _) (g9 _ _))
 ·rw[h];exact dB (g9 _ _) (dB (g9 _ _) (jP _ _))
 ·rw[h];exact dB (g9 _ _) (jP _ _)
 ·rw[h];exact jP _ _
theorem Ao{H:Hp}{Q:VK}{l:Addr}{u1 u2 u3:V}{x y z:Rat}(dl:H l=some (.lst [u1,u2,u3]))(R1:aR K H u1 x)(R2:aR K H u2 y)(R3:aR K H u3 z)(b1:Bd 2000 x)(b2:Bd 2000 y)(b3:Bd 2000 z)(k:∀v,aR K H v (mn (mn x y) z)->Q v H):iZ K [.ref l] H Q E0:=by
 refine⟨l,[u1,u2,u3],[x,y,z],rfl,au.of dl,⟨R1,b1,R2,b2,R3,b3,trivial⟩,by simp,fun c v q e1 e2 hq=>k v ?_⟩;have e:mn (mn x y) z=q:=by
  refine mn3 ?_ (hq _ (by simp)) (hq _ (by simp)) (hq _ (by simp))
  match c,e2 with |0,e2=>cases e2;exact .inl rfl |1,e2=>cases e2;exact .inr (.inl rfl) |2,e2=>cases e2;exact .inr (.inr rfl)
 rw[e]
 match c,e1,e2 with |0,e1,e2=>cases e1;cases e2;exact R1 |1,e1,e2=>cases e1;cases e2;exact R2 |2,e1,e2=>cases e1;cases e2;exact R3
theorem An{H:Hp}{Q:VK}{l:Addr}{u1 u2 u3 u4:V}{x y z t:Rat}(dl:H l=some (.lst [u1,u2,u3,u4]))(R1:aR K H u1 x)(R2:aR K H u2 y)(R3:aR K H u3 z)(R4:aR K H u4 t)(b1:Bd 2000 x)(b2:Bd 2000 y)(b3:Bd 2000 z)(b4:Bd 2000 t)(k:∀v,aR K H v (mn (mn (mn x y) z) t)->Q v H):iZ K [.ref l] H Q E0:=by
 refine⟨l,[u1,u2,u3,u4],[x,y,z,t],rfl,au.of dl,⟨R1,b1,R2,b2,R3,b3,R4,b4,trivial⟩,by simp,fun c v q e1 e2 hq=>k v ?_⟩;have e:mn (mn (mn x y) z) t=q:=by
  refine mn4 ?_ (hq _ (by simp)) (hq _ (by simp)) (hq _ (by simp)) (hq _ (by simp))
  match c,e2 with |0,e2=>cases e2;exact .inl rfl |1,e2=>cases e2;exact .inr (.inl rfl) |2,e2=>cases e2;exact .inr (.inr (.inl rfl)) |3,e2=>cases e2;exact .inr (.inr (.inr rfl))
 rw[e]
 match c,e1,e2 with |0,e1,e2=>cases e1;cases e2;exact R1 |1,e1,e2=>cases e1;cases e2;exact R2 |2,e1,e2=>cases e1;cases e2;exact R3 |3,e1,e2=>cases e1;cases e2;exact R4
theorem pW{D:Nat}{q:Rat}{z:Int}(h:Dd D q)(hl:q<=1600)(hz:0<=z)(Pp:z<2^24)(hD:D<=1700):Bd 2000 (q+(z:Rat)):=by have b:Bd (D+11) q:=h.bd (dB hl (by decide+kernel));exact(Bz b (by lia)).mono (by lia)
theorem M7:aW ["self","top","reach","left","rise","fall","middles","ends","square","steps","gone","still"] ["self","top","reach","left"] (aK DP):=bh (by decide+kernel)
def FI(M:bp)(S:aU)(top R:Rat)(left:Int):aU:={S with pc:=nR M.r M.f S.pc top R left S.stp,stp:=A4 S.stp}
inductive U0(K:aaU)(C:Addr)(vs:List V)(H:Hp)(Q:VK):Prop |mk (a:_)(q:_)(M:_)(D:_)(S:_)(tv:_)(Rv:_)(top:_)(R:_)(left:_)(h0:vs=[.ref a,tv,Rv,.int left])(h1:cn K C H a q M S)(h2:bQ M D S)(h3:M.Ok)(h4:aR K H tv top)(h5:Dd 14 top)(h6:top<=1600)(h7:aR K H Rv R)(h8:Dd 64 R)(h9:R<=1600)(xV:1<=left)(Qk:left<=100)(Qj:¬Halt S.pc S.stp)(Qi:∀v H',aR K H' v (kW M.r M.f S.pc top R left S.stp)->cn K C H' a q M (FI M S top R left)->aV [a] H H'->Q v H'):U0 K C vs H Q
def KZ(K:aaU)(C:Addr):Sp:=fun vs H Q _=>U0 K C vs H Q
theorem a1k{C:Addr}(F:MA K C "next_square" "Runner.next_square" DP)(TC:fK K C)(uX:aj P w K mg base "plus_whole" 4 (zD K))(Pu:aj P w K mg base "times" 3 (m4 (·*·) K))(pK:aj P w K mg base "fraction" 3 (u9 K))(vb:aj P w K mg base "least" 2 (iZ K))(sF:cy P w K mg base C "is_held" 1 (eK K C fun _ S H Q=>Q (.bl S.stp.isSome) H)):cy P w K mg base C "next_square" 5 (KZ K C):=by
 refine F.has M7 (fun vs H Q E h=>?_) (fun _ _ _ _ _ _=>Bx fun _ _ _ _=>rfl) (fun f aD A outer s H vs Q E hr h=>?_)
 · obtain⟨a,q,M,D,S,tv,Rv,top,R,left,rfl,_⟩:=h
   rfl
 · obtain⟨a,q,M,D,S,tv,Rv,top,R,left,rfl,R0,ok,aF,rt,td,tl,rR,Rd,Rl,l1,l2,nh,k⟩:=h
   obtain⟨dx,mv,bv,cg,sv,e,r1,r2,r3,r4⟩:=R0.ob;obtain⟨ys,eq,rq⟩:=R0.qu;have aq:=R0.ne;have nd:=M7.nd;have zU:=aF.r1;have pT:=aF.f1;have D1:=ok.D1;have D2:=ok.D2;have lg:(2:Int)^24=16777216:=by decide
   obtain⟨ma,mb,rfl,gs,je⟩:=kr r1;refine⟨_,(ai (nO (i:=4) (j:=5) rfl nd rfl rfl (by decide) rfl rfl (aa (px K (cI TC.cl TC.n_machine (pv 0)) ah) (aa (px K (cI TC.cl TC.n_machine (pv 0)) ah) ae)) rfl) (ai (pS 6 nd (cV (aa (pf uX hr (aa (cI TC.cl TC.n_pace (pv 0)) (aa (pv 4) ae))) (aa (pv 1) (aa (pf uX hr (aa (pv 2) (aa (az bc (pv 5) (az fQ (az bc ah (pv 3)) ah)) ae))) ae))))) (ai (pS 7 nd (cV (aa (pf uX hr (aa (cI TC.cl TC.n_pace (pv 0)) (aa (az bc ah (pv 4)) ae))) (aa (pv 1) (aa (pf uX hr (aa (pv 2) (aa (az bc (az bc ah (pv 5)) (az fQ (pv 3) ah)) ae))) ae))))) (ai (gy (bj (cA (gk sF TC.cl (hr.mono (by decide)) (pv 0))) (ai (fF (cI TC.cl TC.n_stopping (pv 0)) (du K rfl (n:=3) rfl (bE (aX 8 nd) (bE (aX 9 nd) (bE (aX 10 nd) dk))))) (ai (pS 11 nd (az fQ (az fQ (pv 9) (pv 10)) ah)) (ai (gY (jt K rfl (pv 6) (aa (pf Pu hr (aa (pv 8) (aa (pf pK hr (aa (az cE (az bc ah (pv 11)) ah) (aa (az bc ah (pv 9)) ae))) ae))) ae))) (ai (gY (jt K rfl (pv 7) (aa (pf Pu hr (aa (pv 8) (aa (pf pK hr (aa (pv 11) (aa (pv 9) ae))) ae))) ae))) (aw (iD TC.cl TC.n_stopping (pv 0) (dw (aa (pv 8) (aa (pv 9) (aa (az cE (pv 10) ah) ae)))))))))) bu)) (ai (iD TC.cl TC.n_pace (pv 0) (pf vb hr (aa (pv 7) ae))) (aw (aJ (pf vb hr (aa (pv 6) ae))))))))),?_⟩;refine⟨_,rfl,a,dx,_,_,rfl,e,rfl,.inr ⟨ma,_,1,.int M.r,rfl,rfl,gs,rfl,?_⟩⟩;refine⟨_,rfl,a,dx,_,_,rfl,e,rfl,.inr ⟨ma,_,2,.int M.f,rfl,rfl,gs,rfl,_,_,rfl,?_⟩⟩;have fl1:(M.f*(2*left-1)).natAbs<=50*200:=by rw[fq];exact lU (by lia) (by lia)
   have Hz:0<=M.f*(2*left-1):=jo (by lia) (by lia);have fl2:(2*M.f*(left-1)).natAbs<=100*100:=by rw[fq];exact lU (by lia) (by lia)
   have Hy:0<=2*M.f*(left-1):=jo (by lia) (by lia);have wY:Bd 2000 S.pc:=(ok.pd.bd (dB ok.pm (by decide+kernel))).mono (by lia);have RB:Bd 2000 R:=(Rd.bd (dB Rl (by decide+kernel))).mono (by decide);have tB:Bd 2000 top:=(td.bd (dB tl (by decide+kernel))).mono (by decide);have B1:Bd 2000 (S.pc+(M.r:Rat)):=pW ok.pd ok.pm (by lia) (by lia) (by lia);have B2:Bd 2000 (R+((M.f*(2*left-1):Int):Rat)):=pW Rd Rl Hz (by lia) (by lia);have B3:Bd 2000 (S.pc+((2*M.r:Int):Rat)):=pW ok.pd ok.pm (by lia) (by lia) (by lia);have B4:Bd 2000 (R+((2*M.f*(left-1):Int):Rat)):=pW Rd Rl Hy (by lia) (by lia);refine⟨_,rfl,a,dx,_,_,rfl,e,rfl,_,rfl,cg,_,_,rfl,r3,wY,by lia,fun u1 H1 kg s1=>?_⟩;refine⟨_,rfl,_,rfl,_,rfl,_,rfl,_,_,rfl,rfl,.of_left (bM (by decide) (by decide)),_,_,rfl,rfl,_,_,rfl,rfl,.of_left (bM (by lia) (by lia)),Rv,_,_,rfl,rR.go s1,RB,by lia,fun u2 H2 qQ s2=>?_⟩;refine⟨bI rfl,fun lm H3 n3=>?_⟩;have cP:=s1.trans (s2.trans n3.same);refine⟨_,rfl,a,dx,_,_,rfl,cP _ _ e,rfl,_,rfl,_,_,rfl,rfl,.of_left (bM (by decide) (by decide)),cg,_,_,rfl,r3.go cP,wY,by lia,fun u3 H4 EU s4=>?_⟩;have fM:=cP.trans s4;refine⟨_,rfl,_,rfl,_,rfl,_,_,rfl,rfl,.of_left (bM (by decide) (by decide)),_,rfl,_,_,rfl,rfl,_,_,rfl,rfl,.of_left (bM (by lia) (by lia)),Rv,_,_,rfl,rR.go fM,RB,by lia,fun u4 H5 ET s5=>?_⟩;refine⟨bI rfl,fun le H6 n6=>?_⟩;have jL:=fM.trans (s5.trans n6.same);have p5:=s4.trans (s5.trans n6.same);have e6:=jL _ _ e;have R6:=R0.same ok.row.no jL;have U1:=kg.go (s2.trans (n3.same.trans p5));have U2:=qQ.go (n3.same.trans p5);have U3:=EU.go (s5.trans n6.same);have U4:=ET.go n6.same;have T6:=rt.go jL;have dm:=p5 _ _ n3.at';have de:=n6.at';have J2:a≠lm:=fun z=>by have:=n3.no;rw[<-z,(s1.trans s2) _ _ e]at this;cases this
   have SD:a≠le:=fun z=>by have:=n6.no;rw[<-z,(fM.trans s5) _ _ e]at this;cases this
   have xC:lm≠le:=fun z=>by have:=n6.no;rw[<-z,(s4.trans s5) _ _ n3.at']at this;cases this
   have A6:H lm=none:=by cases e':H lm with |none=>rfl |some o=>have:=(s1.trans s2) _ _ e';rw[n3.no]at this;cases this
   have xo:H le=none:=by cases e':H le with |none=>rfl |some o=>have:=(fM.trans s5) _ _ e';rw[n6.no]at this;cases this
   refine⟨fun σ H7=>∃oY w8 w9 jX nk um ue,σ=[some (.ref a),some tv,some Rv,some (.int left),some (.int M.r),some (.int M.f),some (.ref lm),some (.ref le),w8,w9,jX,nk]/\aV [a,lm,le] H6 H7/\H7 a=some (.ins C dx (fN (.ref ma) bv (.int S.dn) (.ref q) cg (.int S.rate) (.str S.side) (.str S.mark) oY))/\vJ K H7 oY (A4 S.stp)/\H7 lm=some (.lst um)/\H7 le=some (.lst ue)/\(∀H8 Q',bG H7 H8->H8 lm=some (.lst um)->(∀v,aR K H8 v (kW M.r M.f S.pc top R left S.stp)->Q' v H8)->iZ K [.ref lm] H8 Q' E0)/\(∀H8 Q',bG H7 H8->H8 le=some (.lst ue)->(∀v,aR K H8 v (nR M.r M.f S.pc top R left S.stp)->Q' v H8)->iZ K [.ref le] H8 Q' E0),?_,?_⟩
   · refine⟨_,rfl,a,dx,_,rfl,e6,rfl,a,q,M,D,S,rfl,R6,ok,aF,_,rfl,?_⟩
     cases hs:S.stp with |none=>rw[hs]at r4;refine bf ⟨sv,_,_,_,_,_,_,rfl,aV.refl _ _,e6,r4,dm,de,fun H8 Q' sV d8 kq=>Ao d8 (U1.v sV) (T6.v sV) (U2.v sV) B1 tB B2 kq,fun H8 Q' sV d8 kq=>Ao d8 (U3.v sV) (T6.v sV) (U4.v sV) B3 tB B4 kq⟩ |some z=>
       obtain⟨sq,st,gn⟩:=z;rw[hs]at r4;have sk:=ok.stp;rw[hs]at sk nh;obtain⟨g1,g2,g3⟩:=uH sk ok.pd.nn nh;obtain⟨gn0,gn1,zw,qI,qH,_,_⟩:=sk;obtain⟨ta,su,rfl,uW,hsu⟩:=r4;refine bF ?_;have a4i:=uW.go jL;have Gw:=hsu.go jL;have zx:Bd 2000 sq:=(qI.bd qH).mono (by lia);refine⟨_,rfl,a,dx,_,_,rfl,e6,rfl,ta,_,rfl,a4i,rfl,_,_,rfl,_,_,rfl,_,_,rfl,rfl,?_⟩;refine⟨_,rfl,_,rfl,_,_,rfl,rfl,_,_,rfl,rfl,?_⟩;have lg:sizeLine=16777216:=by decide
       refine⟨_,rfl,.inl ⟨rfl,_,au.of dm⟩,_,rfl,_,rfl,_,_,rfl,rfl,.of_left (bM (by decide) (by decide)),_,_,rfl,rfl,_,rfl,_,_,rfl,rfl,.of_left (bM (by decide) (by decide)),_,_,rfl,by lia,gF (n:=64) (by lia) (by decide),fun fv H7 rf s7=>?_⟩;have fB:Bd 2000 (Rat.divInt (2*(st-gn-1)+1) (2*st)):=(jO (n:=12) (by lia) (by lia) (by lia)).mono (by decide);have fB2:Bd 2000 (Rat.divInt (st-gn-1) st):=(jO (n:=12) (by lia) (by lia) (by lia)).mono (by decide);have pB:Bd 2000 (sq*Rat.divInt (2*(st-gn-1)+1) (2*st)):=((qI.bd qH).mul (jO (n:=12) (by lia) (by lia) (by lia))).mono (by lia);have Fx:Bd 2000 (sq*Rat.divInt (st-gn-1) st):=((qI.bd qH).mul (jO (n:=12) (by lia) (by lia) (by lia))).mono (by lia);refine⟨su,fv,sq,_,rfl,Gw.go s7,rf,zx,fB,fun x1 H8 wM s8=>?_⟩;have uk:=s7.trans s8;have Ro:=uk _ _ dm;refine⟨lm,_,_,rfl,rfl,Ro,by show 3<sizeLine;lia,?_⟩;have v8:bG H8 (L2.upd H8 lm (.lst ([u1,tv,u2]++[x1]))):=.upd Ro trivial;have RI:(L2.upd H8 lm (.lst ([u1,tv,u2]++[x1]))) le=some (.lst [u3,tv,u4]):=by rw[aB xC.symm];exact uk _ _ de
       refine⟨_,rfl,.inl ⟨rfl,_,au.of RI⟩,_,rfl,_,rfl,_,rfl,_,_,rfl,by lia,gF (n:=64) (by lia) (by decide),fun gv H9 rg s9=>?_⟩;refine⟨su,gv,sq,_,rfl,((Gw.go uk).v v8).go s9,rg,zx,fB2,fun x2 ji wL m7=>?_⟩;have uj:=s9.trans m7;have RJ:=uj _ _ RI;refine⟨le,_,_,rfl,rfl,RJ,by show 3<sizeLine;lia,?_⟩;have v10:bG ji (L2.upd ji le (.lst ([u3,tv,u4]++[x2]))):=.upd RJ trivial;refine⟨_,rfl,_,rfl,_,rfl,_,_,rfl,rfl,bI rfl,fun tn ir j9=>?_⟩;have Wi:bG H6 ji:=(uk.v.trans v8).trans uj.v;have Wh:bG H6 ir:=(Wi.trans v10).trans j9.same.v;have e8:(L2.upd H8 lm (.lst ([u1,tv,u2]++[x1]))) a=some (.ins C dx (fN (.ref ma) bv (.int S.dn) (.ref q) cg (.int S.rate) (.str S.side) (.str S.mark) (.ref ta))):=by rw[aB J2];exact uk _ _ e6
       have Ri:ir a=some (.ins C dx (fN (.ref ma) bv (.int S.dn) (.ref q) cg (.int S.rate) (.str S.side) (.str S.mark) (.ref ta))):=j9.same _ _ (by rw[aB SD];exact uj _ _ e8);refine⟨_,rfl,a,dx,_,rfl,Ri,by show 9<1000;decide,?_⟩;have oW:bG ir (L2.upd ir a (.ins C dx (fN (.ref ma) bv (.int S.dn) (.ref q) cg (.int S.rate) (.str S.side) (.str S.mark) (.ref tn)))):=.upd Ri trivial;have qC:=Wh.trans oW;have Wg:=(((v8.trans uj.v).trans v10).trans j9.same.v).trans oW;have Wm:=(v10.trans j9.same.v).trans oW;refine⟨.ref tn,_,_,_,_,[u1,tv,u2,x1],[u3,tv,u4,x2],rfl,fun b o' eb hb=>?_,aQ,⟨tn,su,rfl,aI.v oW (aI.of j9.at'),Gw.v qC⟩,?_,?_,fun H' Q' sV d' kq=>?_,fun H' Q' sV d' kq=>?_⟩
       · have ha:b≠a:=fun z=>hb (by rw[z];simp)
         have GN:b≠lm:=fun z=>hb (by rw[z];simp);have hle:b≠le:=fun z=>hb (by rw[z];simp);rw[aB ha];exact j9.same _ _ (by rw[aB hle];exact uj _ _ (by rw[aB GN];exact uk _ _ eb))
       · rw[aB J2.symm]
         exact j9.same _ _ (by rw[aB xC];exact uj _ _ aQ)
       · rw[aB SD.symm]
         exact j9.same _ _ aQ
       ·exact An d' ((U1.v qC).v sV) ((T6.v qC).v sV) ((U2.v qC).v sV) ((wM.v Wg).v sV) B1 tB B2 pB kq
       ·exact An d' ((U3.v qC).v sV) ((T6.v qC).v sV) ((U4.v qC).v sV) ((wL.v Wm).v sV) B3 tB B4 Fx kq
   · rintro σ H7 ⟨oY,w8,w9,jX,nk,um,ue,rfl,bt,e7,nH,dm7,de7,km,ke⟩
     refine⟨_,rfl,?_⟩;dsimp only[lY];refine ke H7 _ .refl de7 fun pe zR=>?_;refine⟨_,rfl,a,dx,_,rfl,e7,by show 9<1000;decide,?_⟩;have v8:bG H7 (L2.upd H7 a (.ins C dx (fN (.ref ma) bv (.int S.dn) (.ref q) pe (.int S.rate) (.str S.side) (.str S.mark) oY))):=.upd e7 trivial;refine⟨_,rfl,?_⟩;dsimp only[lY];refine km _ _ v8 (by rw[aB J2.symm];exact dm7) fun v rv=>?_;have bH:aV [a] H (L2.upd H7 a (.ins C dx (fN (.ref ma) bv (.int S.dn) (.ref q) pe (.int S.rate) (.str S.side) (.str S.mark) oY))):=fun b o' eb hb=>by
      have ha:b≠a:=fun z=>hb (by rw[z];simp);rw[aB ha];refine bt b o' (jL _ _ eb) fun hm=>?_;simp only[bB,cw,df]at hm;rcases hm with h|h|h
      ·exact ha h
      ·rw[h,A6]at eb;cases eb
      ·rw[h,xo]at eb;cases eb
     have vH:bG H (L2.upd H7 a (.ins C dx (fN (.ref ma) bv (.int S.dn) (.ref q) pe (.int S.rate) (.str S.side) (.str S.mark) oY))):=bH.v fun x hx o' eo=>by rw[bS]at hx;rw[hx,e]at eo;cases eo;trivial
     refine k v _ rv ⟨⟨dx,.ref ma,bv,pe,oY,aQ,RD.v vH _ (iS _ _ _ _ _) r1,RD.v vH _ (gJ _) r2,zR.v v8,nH.v v8⟩,ys,bH _ _ eq (by rw[bS];exact aq.symm),aE.v vH _ ok.row.no rq⟩ bH
end
end Lw
set_option maxHeartbeats 2000000
namespace Lw
open PySem PySem.Spec PyProof.Rows L2 Rt Ln Cn Pn Wk Rn
open Ow (topR cornO mnO betR atO ownF leadF ownL OkI OkIs)
section
variable {w:World}{mg:Str->Option Value}{base:Heap}
noncomputable def fg(M:bp)(S:aU):Rat:=Nh M.f M.j S.rate S.os
noncomputable def G6(M:bp)(S:aU)(ns:List Int)(sp:Int):Rat:=kW M.r M.f S.pc (topR S.rate sp) (fg M S) ((ay ns:Int)-S.dn) S.stp
noncomputable def ml(M:bp)(S:aU)(ns:List Int)(sp:Int):aaX:=nA M.t (gI ns S.dn) (G6 M S ns sp)
noncomputable def fj(M:bp)(S:aU)(ns:List Int)(sp:Int):aU:={FI M S (topR S.rate sp) (fg M S) ((ay ns:Int)-S.dn)with dn:=S.dn+1}
def fi(ns:List Int)(S:aU):aU:=if S.dn=ay ns then iI S else S
def bO(d:aaX)(S:aU):aU:=match d with | .tuple [.str w,.str s]=>if w="tool" then{S with side:=s}else if w="mark" then{S with mark:=s}else S |_=>S
inductive One(M:bp):aU->aaX->aU->Prop |line {S:aU}{ns:List Int}{sp:Int}:S.os[0]? =some (some (ns,sp))->¬Halt S.pc S.stp->One M S (ml M S ns sp) (fi ns (fj M S ns sp)) |gK {S:aU}{d:aaX}:S.os[0]? =some none->S.ds[0]? =some d->¬Halt S.pc S.stp->One M S d (iI (bO d S))
inductive Run(M:bp):aU->List aaX->aU->Prop |nil (S:aU):Run M S [] S |cons {S S1 S2:aU}{e:aaX}{es:List aaX}:One M S e S1->Run M S1 es S2->Run M S (e::es) S2
theorem Run.trans{M:bp}{S S1 S2:aU}{es fs:List aaX}(h:Run M S es S1)(g:Run M S1 fs S2):Run M S (es++fs) S2:=by induction h with |nil=>exact g |cons o _ ih=>exact .cons o (ih g)
theorem Run.snoc{M:bp}{S S1 S2:aU}{es:List aaX}{e:aaX}(h:Run M S es S1)(g:One M S1 e S2):Run M S (es++[e]) S2:=h.trans (.cons g (.nil _))
theorem D9{M:bp}{D:Nat}{S:aU}(h:jS M D S)(d:aaX):jS M D (bO d S)/\(bO d S).os=S.os/\(bO d S).ds=S.ds/\(bO d S).dn=S.dn/\(bO d S).pl=S.pl:=by
 unfold bO;split
 · split
   ·exact⟨⟨h.row,h.rw,h.len,h.rt1,h.rt2,h.pl,h.pd,h.pm,h.stp,h.D1,h.D2⟩,rfl,rfl,rfl,rfl⟩
   · split
     ·exact⟨⟨h.row,h.rw,h.len,h.rt1,h.rt2,h.pl,h.pd,h.pm,h.stp,h.D1,h.D2⟩,rfl,rfl,rfl,rfl⟩
     ·exact⟨h,rfl,rfl,rfl,rfl⟩
 ·exact⟨h,rfl,rfl,rfl,rfl⟩
theorem Fb{M:bp}{D:Nat}{S:aU}(h:jS M D S)(aF:M.Ok)(hn:S.os≠[]):Dd 64 (fg M S)/\fg M S<=1600:=by
 have h1:1<=S.os.length:=by cases e:S.os with|nil=>exact(hn e).elim|cons _ _=>simp
 refine⟨a6Q (by have:=aF.f1;lia) (fun i _=>a0p aF.j1.1 aF.j1.2 h.rt1 h.rt2 h.row.uE i) 1 h1,?_⟩;exact dB (a6P h1) (a0o h.rt1 h.rt2 h.row.uE 1)
theorem OQ{M:bp}{D:Nat}{S:aU}{ns:List Int}{sp:Int}(h:jS M D S)(aF:M.Ok)(eo:S.os[0]? =some (some (ns,sp)))(hd:S.dn<ay ns)(nh:¬Halt S.pc S.stp):jS M D (fj M S ns sp):=by
 have hn:S.os≠[]:=fun e=>by rw[e]at eo;simp at eo
 obtain⟨R1,R2⟩:=Fb h aF hn;obtain⟨dU,s1,s2⟩:=h.row.ok 0 ns sp eo;have D1:=h.D1;have zU:=aF.r1;have pT:=aF.f1;refine⟨h.row,h.rw,h.len,h.rt1,h.rt2,h.pl,?_,?_,?_,h.D1,h.D2⟩
 ·exact a7f (by lia) (by lia) (by lia) h.pd ((Cr _ _).mono (by lia)) (R1.mono (by lia)) h.stp nh
 ·exact dB a7e (zj s1 s2 h.rt1 h.rt2)
 ·exact Xv h.stp h.pd.nn nh
theorem One.ok{M:bp}{D:Nat}{S S1:aU}{e:aaX}(h:bQ M D S)(aF:M.Ok)(o:One M S e S1):bQ M D S1:=by cases o with
 |@line ns sp eo nh=>
   have hd:S.dn<ay ns:=by
    rcases h.dn with e|⟨xk,wD,e1,e2⟩
    ·rw[e];exact(h.row.ok 0 ns sp eo).1.lead.1
    ·rw[eo]at e1;cases e1;exact e2
   have raw:=OQ h.raw aF eo hd nh;have hn:S.os≠[]:=fun e=>by rw[e]at eo;simp at eo
   unfold fi;split
   ·exact raw.end hn
   ·next cZ=>
     refine raw.ok (.inr ⟨ns,sp,eo,?_⟩);have:(fj M S ns sp).dn=S.dn+1:=rfl
     lia |gK eo ed nh=>obtain⟨h1,h2,_⟩:=D9 h.raw e;refine h1.end ?_;rw[h2];intro z;rw[z]at eo;simp at eo
theorem Run.ok{M:bp}{D:Nat}{S S1:aU}{es:List aaX}(h:bQ M D S)(aF:M.Ok)(r:Run M S es S1):bQ M D S1:=by induction r with |nil=>exact h |cons o _ ih=>exact ih (o.ok h aF)
theorem One.no{M:bp}{D:Nat}{S S1:aU}{e:aaX}(h:bQ M D S)(o:One M S e S1):eR e=true:=by cases o with |line _ _=>exact CF _ _ _ |gK eo ed _=>exact gL.mp h.row.no _ (gf ed)
theorem Run.no{M:bp}{D:Nat}{S S1:aU}{es:List aaX}(h:bQ M D S)(aF:M.Ok)(r:Run M S es S1):cB es=true:=by induction r with |nil=>rfl |cons o _ ih=>rw[cB,eu];exact⟨o.no h,ih (o.ok h aF)⟩
theorem xH{b:Bool}{A B A' B':Prop}(h1:A->A')(h2:B->B'):(if b=true then A else B)->(if b=true then A' else B'):=by
 cases b
 ·exact h2
 ·exact h1
theorem M6:aW ["self","most","line","lead","rows","top","reach","told","middle"] ["self","most"] (aK DK):=bh (by decide+kernel)
inductive TZ(K:aaU)(C:Addr)(vs:List V)(H:Hp)(Q:VK):Prop |mk (a:_)(q:_)(M:_)(D:_)(S:_)(ns:_)(sp:_)(most:_)(h0:vs=[.ref a,.int most])(h1:cn K C H a q M S)(h2:bQ M D S)(h3:M.Ok)(h4:S.os[0]? =some (some (ns,sp)))(h5:¬Halt S.pc S.stp)(h6:1<=most)(h7:most<=1000)(h8:∀l ys es S' q' H',H l=none->H' l=some (.lst ys)->aE K H' ys es->Run M S es S'->1<=es.length->(es.length:Int)<=most->cn K C H' a q' M S'->Mv a q H q' H'->l≠q'->Q (.ref l) H'):TZ K C vs H Q
def KY(K:aaU)(C:Addr):Sp:=fun vs H Q _=>TZ K C vs H Q
theorem a1f{C:Addr}(F:MA K C "steps_of_first" "Runner.steps_of_first" DK)(TC:fK K C)(B:bw mg)(nZ:aj P w K mg base "lead_of" 1 (kQ K))(a4m:aj P w K mg base "step_rows" 3 (CL K))(Ay:aj P w K mg base "top_square" 4 (zy K))(a4s:aj P w K mg base "reach_behind_first" 9 (CM K))(a4n:aj P w K mg base "step_entry" 3 (CV K))(Hj:cy P w K mg base C "is_halted" 2 (eK K C fun _ S H Q=>Q (.bl (S.stp.isSome&&decide (S.pc=0))) H))(a65:cy P w K mg base C "next_square" 5 (KZ K C))(Hk:cy P w K mg base C "end_first" 3 (CO K C)):cy P w K mg base C "steps_of_first" 10 (KY K C):=by
 refine F.has M6 (fun vs H Q E h=>?_) (fun _ _ _ _ _ _=>cW fun _ _=>rfl) (fun f aD A outer s H vs Q E hr h=>?_)
 · obtain⟨a,q,M,D,S,ns,sp,most,rfl,_⟩:=h
   rfl
 · obtain⟨a,q,M,D,S,ns,sp,most,rfl,R0,ok,aF,eo,nh,m1,m2,k⟩:=h
   obtain⟨dx,mv,bv,cg,tv,e,r1,r2,r3,r4⟩:=R0.ob;obtain⟨ys,eq,rq⟩:=R0.qu;have aq:=R0.ne;have nd:=M6.nd;have lr:=aF.len;have zU:=aF.r1;have pT:=aF.f1;have ll:=ok.row.len;have kG:=ok.len;have o8:0<S.os.length:=(dh.mp eo).1;have cZ:S.os≠[]:=fun z=>by rw[z]at o8;exact absurd o8 (by decide)
   obtain⟨d,ed⟩:∃d,S.ds[0]? =some d:=⟨_,bN (show 0<S.ds.length by lia)⟩;obtain⟨y,ey,ry⟩:=rq.get 0 ed;have kI:=jQ (ok.row.it 0 d _ ed eo);subst kI;obtain⟨dU,gj,gH⟩:=ok.row.ok 0 ns sp eo;have A1:dR ns.length 1000 ns:=⟨rfl,fun z hz=>by have:=dU.bd z hz;lia,dU.nz⟩;have eZ:=dU.lead.1;have P1:=xE dU;have nl3:ns.length<=3:=by rw[dU.len];lia
   have hd0:S.dn<ay ns:=by
    rcases ok.dn with e'|⟨xk,wD,e1,e2⟩
    ·lia
    ·rw[eo]at e1;cases e1;exact e2
   obtain⟨Rd,Rl⟩:=Fb ok.raw aF cZ;refine⟨_,(ai (pS 2 nd (px K (cI TC.cl TC.n_queue (pv 0)) ah)) (ai (pS 3 nd (pf nZ hr (aa (pv 2) ae))) (ai (pS 4 nd (pf a4m hr (aa (pv 2) ae))) (ai (pS 5 nd (pf Ay hr (aa (pv 2) (aa (cI TC.cl TC.n_rate_now (pv 0)) ae)))) (ai (pS 6 nd (pf a4s hr (aa (cI TC.cl TC.n_machine (pv 0)) (aa (cI TC.cl TC.n_queue (pv 0)) (aa (cI TC.cl TC.n_rate_now (pv 0)) ae))))) (ai (pS 7 nd (cV ae)) (ai (gy (md gE (PW.pt (nN (bL jv (dv K B (aa (pv 7) ae)) (pv 1) (ba _)) (nN (bL jv (cI TC.cl TC.n_done (pv 0)) (pv 3) (ba _)) (qT (dS (cA (gk Hj TC.cl (hr.mono (by decide)) (pv 0)))))))) (ai (pS 8 nd (wX a65 TC.cl (hr.mono (by decide)) (pv 0) (aa (pv 5) (aa (pv 6) (aa (az fQ (pv 3) (cI TC.cl TC.n_done (pv 0))) ae))))) (ai (gY (jt K rfl (pv 7) (aa (pf a4n hr (aa (cI TC.cl TC.n_machine (pv 0)) (aa (px K (pv 4) (cI TC.cl TC.n_done (pv 0))) (aa (pv 8) ae)))) ae))) (aw (ZK TC.cl TC.n_done (pv 0) ah a3P)))))) (ai (gy (bj (bL (cJ K rfl hr.units) (cI TC.cl TC.n_done (pv 0)) (pv 3) (ba _)) (aw (gY (gk Hk TC.cl (hr.mono (by decide)) (pv 0)))) bu)) (aw (aJ (pv 7))))))))))),?_⟩;refine⟨_,rfl,a,dx,_,_,rfl,e,rfl,.inl ⟨q,_,0,y,rfl,rfl,au.of eq,cN (fY 0) ey,?_⟩⟩;refine⟨_,rfl,y,ns,sp,rfl,ry,dU.ne,by lia,fun H1 s1=>?_⟩;refine⟨_,rfl,y,ns,sp,rfl,RD.mono s1 _ ry,A1,by lia,fun mj yr H2 nlr Rp Nd s2=>?_⟩;have ka:=s1.trans s2;refine⟨_,rfl,_,rfl,a,dx,_,_,rfl,ka _ _ e,rfl,y,ns,sp,S.rate,rfl,RD.mono ka _ ry,gj,gH,ok.rt1,ok.rt2,fun qE H3 Yv s3=>?_⟩;have cP:=ka.trans s3;have e3:=cP _ _ e;refine⟨_,rfl,a,dx,_,_,rfl,e3,rfl,_,rfl,a,dx,_,_,rfl,e3,rfl,_,rfl,a,dx,_,_,rfl,e3,rfl,mv,.ref q,S.rate,M.rs,M.r,M.f,M.j,M.t,S.ds,S.os,rfl,RD.mono cP _ r1,aF,jM (au.of (cP _ _ eq)) (aE.mono cP _ rq),ok.row,by lia,by lia,ok.rt1,ok.rt2,fun qS H4 YD s4=>?_⟩;have fM:=cP.trans s4;refine⟨bI rfl,fun l H5 n5=>?_⟩;have uo:=fM.trans n5.same;have qL:ak H2 H5:=s3.trans (s4.trans n5.same);have nl:H l=none:=by cases e':H l with |none=>rfl |some o=>have:=fM _ _ e';rw[n5.no]at this;cases this
   have Oi:H mj=none:=by cases e':H mj with |none=>rfl |some o=>have:=s1 _ _ e';rw[nlr]at this;cases this
   have al:a≠l:=fun z=>by rw[<-z,e]at nl;cases nl
   have ql:q≠l:=fun z=>by rw[<-z,eq]at nl;cases nl
   have Sx:a≠mj:=fun z=>by rw[<-z,e]at Oi;cases Oi
   have llr:l≠mj:=fun z=>by have:=n5.no;rw[z,(s3.trans s4) _ _ Rp]at this;cases this
   have W6:=Nd.length;rw[EY]at W6;have td:=Cr S.rate sp;have tl:=zj gj gH ok.rt1 ok.rt2;have tp:=Kc gj ok.rt1;have a2m:fi ns S=S:=by unfold fi;rw[aP (by lia)]
   have lg:sizeLine=16777216:=by decide
   refine⟨fun σ H6=>∃T es us w8,σ=[some (.ref a),some (.int most),some y,some (.int (ay ns)),some (.ref mj),some qE,some qS,some (.ref l),w8]/\aV [a,l] H5 H6/\cn K C H6 a q M T/\jS M D T/\T.os=S.os/\T.ds=S.ds/\T.rate=S.rate/\T.dn<=ay ns/\1<=es.length/\(es.length:Int)<=most/\H6 l=some (.lst us)/\aE K H6 us es/\cB es=true/\Run M S es (fi ns T),?_,?_⟩
   · refine lV (fun σ H6=>∃T es us w8,σ=[some (.ref a),some (.int most),some y,some (.int (ay ns)),some (.ref mj),some qE,some qS,some (.ref l),w8]/\aV [a,l] H5 H6/\cn K C H6 a q M T/\jS M D T/\T.os=S.os/\T.ds=S.ds/\T.rate=S.rate/\T.dn=S.dn+es.length/\T.dn<=ay ns/\(es.length:Int)<=most/\H6 l=some (.lst us)/\aE K H6 us es/\cB es=true/\Run M S es (fi ns T)/\(es=[]->¬Halt T.pc T.stp)) (fun _ H6=>match H6 l with|some (.lst us)=>2000-us.length|_=>0) ?_ ?_ ?_
     ·exact⟨S,[],[],none,rfl,aV.refl _ _,R0.same ok.row.no uo,ok.raw,rfl,rfl,rfl,rfl,by lia,by simp;lia,n5.at',cF,rfl,by rw[a2m];exact .nil _,fun _=>nh⟩
     · rintro σ H6 ⟨T,es,us,w8,rfl,bt,RT,raw,gQ,Bi,vp,edn,PU,kC,dl,rd,kz,run,hnh⟩
       have lu:=rd.length;obtain⟨sS,kl,bv6,a0g,WB,e6,t1,t2,t3,t4⟩:=RT.ob;have Ck:bG H5 H6:=bt.v fun x hx o' cK=>by
        simp only[bB,cw,df]at hx;rcases hx with rfl|rfl
        ·rw[uo _ _ e]at cK;cases cK;trivial
        ·rw[n5.at']at cK;cases cK;trivial
       have nos:cB T.ds=true:=by rw[Bi];exact ok.row.no
       have pU:1<=es.length->∃T' oy jY z9,[some (.ref a),some (.int most),some y,some (.int (ay ns)),some (.ref mj),some qE,some qS,some (.ref l),w8]=[some (.ref a),some (.int most),some y,some (.int (ay ns)),some (.ref mj),some qE,some qS,some (.ref l),z9]/\aV [a,l] H5 H6/\cn K C H6 a q M T'/\jS M D T'/\T'.os=S.os/\T'.ds=S.ds/\T'.rate=S.rate/\T'.dn<=ay ns/\1<=oy.length/\(oy.length:Int)<=most/\H6 l=some (.lst jY)/\aE K H6 jY oy/\cB oy=true/\Run M S oy (fi ns T'):=fun h1=>⟨T,es,us,w8,rfl,bt,RT,raw,gQ,Bi,vp,PU,h1,kC,dl,rd,kz,run⟩;refine⟨_,rfl,l,us,rfl,.inl (au.of dl),_,rfl,_,_,rfl,rfl,_,rfl,?_⟩;show if decide ((us.length:Int)<most)=true then _ else _;by_cases c1:(us.length:Int)<most
       · rw[ck c1]
         refine bF ?_;refine⟨_,rfl,a,sS,_,_,rfl,e6,rfl,_,rfl,_,_,rfl,rfl,_,rfl,?_⟩;show if decide ((T.dn:Int)<(ay ns:Int))=true then _ else _;by_cases c2:T.dn<ay ns
         · rw[ck (by lia)]
           refine bF ?_;have O7:bQ M D T:=raw.ok (.inr ⟨ns,sp,by rw[gQ];exact eo,c2⟩);have a2l:fi ns T=T:=by unfold fi;rw[aP (by lia)]
           refine⟨_,rfl,a,sS,_,rfl,e6,rfl,a,q,M,D,T,rfl,RT,O7,aF,_,rfl,?_⟩;by_cases c3:Halt T.pc T.stp
           · have hb:(T.stp.isSome&&decide (T.pc=0))=true:=by obtain⟨h1,h2⟩:=c3;rw[ck h2,JP];cases hs:T.stp with |none=>exact(h1 hs).elim |some _=>rfl
             rw[hb];refine bf ?_;refine pU ?_;cases es with |nil=>exact(hnh rfl c3).elim |cons _ _=>simp
           · have hb:(T.stp.isSome&&decide (T.pc=0))=false:=by cases hs:T.stp with |none=>rfl |some _=>show decide (T.pc=0)=false;exact eg fun h2=>c3 ⟨by rw[hs];simp,h2⟩
             rw[hb];refine bF ?_;have rT:fg M T=fg M S:=by unfold fg;rw[gQ,vp]
             refine⟨_,rfl,a,sS,_,rfl,e6,rfl,?_⟩;refine⟨_,rfl,_,rfl,_,rfl,_,rfl,a,sS,_,_,rfl,e6,rfl,_,_,rfl,rfl,?_⟩;have Yu:aR K H6 qE (topR S.rate sp):=((Yv.go s4).go n5.same).v Ck;have YC:aR K H6 qS (fg M S):=(YD.go n5.same).v Ck;refine⟨a,q,M,D,T,qE,qS,topR S.rate sp,fg M S,_,rfl,RT,O7,aF,Yu,td,tl,YC,Rd,Rl,by lia,by lia,c3,fun mid H7 YL R7 b7=>?_⟩;obtain⟨pV,rH,Br,zW,ze,e7',Ko,Xk,Xj,Xi⟩:=R7.ob;have e7:H7 a=some (.ins C pV (fN rH Br (.int T.dn) (.ref q) zW (.int T.rate) (.str T.side) (.str T.mark) ze)):=e7';have zc:bG H6 H7:=b7.v fun x hx o' cK=>by rw[bS]at hx;rw[hx,e6]at cK;cases cK;trivial
             have lO:=b7 _ _ dl (by rw[bS];exact al.symm);have a7B:=qL _ _ Rp;have a7A:=bt _ _ a7B (by simp;exact⟨Sx.symm,llr.symm⟩);have a7z:=b7 _ _ a7A (by rw[bS];exact Sx.symm);have YN:aE K H7 yr (nM ns):=aE.v zc _ (EX ns) (aE.v Ck _ (EX ns) (aE.mono qL _ Nd));obtain⟨rv,QL⟩:∃rv,yr[T.dn]? =some rv:=⟨_,bN (show T.dn<yr.length by lia)⟩;obtain⟨dr,QZ,Zb⟩:=YN.get' T.dn QL;rw[Na c2]at QZ;cases QZ;have mB:Bd 2000 (kW M.r M.f T.pc (topR S.rate sp) (fg M S) ((ay ns:Int)-T.dn) T.stp):=by have D1:=raw.D1;have D2:=raw.D2;exact((OF (by lia) (by lia) (by lia) raw.pd (td.mono (by lia)) (Rd.mono (by lia)) raw.stp c3).bd (dB OD (dB tl (by decide+kernel)))).mono (by lia)
             have mP:0<kW M.r M.f T.pc (topR S.rate sp) (fg M S) ((ay ns:Int)-T.dn) T.stp:=OE zU.1 pT.1 (by lia) raw.pd.nn tp Rd.nn raw.stp c3;refine⟨_,rfl,.inl ⟨rfl,_,au.of lO⟩,?_⟩;refine⟨_,rfl,a,pV,_,_,rfl,e7,rfl,?_⟩;refine⟨_,rfl,_,rfl,a,pV,_,_,rfl,e7,rfl,.inl ⟨mj,_,_,_,rfl,rfl,au.of a7z,cN (show(0:Int)<=(T.dn:Int) by lia) (by simpa using QL),?_⟩⟩;refine⟨_,rfl,rH,rv,mid,M.rs,M.r,M.f,M.j,M.t,gI ns T.dn,_,rfl,Ko,aF,Zb,YL,mB,mP,fun ent H8 YZ s8=>?_⟩;have yd:=s8 _ _ lO;refine⟨l,us,_,rfl,rfl,yd,by lia,?_⟩;have e8:(L2.upd H8 l (.lst (us++[ent]))) a=some (.ins C pV (fN rH Br (.int T.dn) (.ref q) zW (.int T.rate) (.str T.side) (.str T.mark) ze)):=by rw[aB al];exact s8 _ _ e7
             refine⟨_,rfl,a,pV,_,_,rfl,e8,rfl,_,_,rfl,rfl,pV,_,e8,by show 9<1000;decide,?_⟩;have vl:bG H8 (L2.upd H8 l (.lst (us++[ent]))):=.upd yd trivial;have va:bG (L2.upd H8 l (.lst (us++[ent]))) (L2.upd (L2.upd H8 l (.lst (us++[ent]))) a (.ins C pV (fN rH Br (.int ((T.dn:Int)+1)) (.ref q) zW (.int T.rate) (.str T.side) (.str T.mark) ze))):=.upd e8 trivial;have v7:=(s8.v.trans vl).trans va;have eS:fj M T ns sp={FI M T (topR S.rate sp) (fg M S) ((ay ns:Int)-T.dn)with dn:=T.dn+1}:=by unfold fj;rw[rT,vp]
             have eE:ml M T ns sp=nA M.t (gI ns T.dn) (kW M.r M.f T.pc (topR S.rate sp) (fg M S) ((ay ns:Int)-T.dn) T.stp):=by unfold ml G6;rw[rT,vp]
             have a4B:One M T (ml M T ns sp) (fi ns (fj M T ns sp)):=.line (by rw[gQ];exact eo) c3;obtain⟨yq,eq7,YE⟩:=R7.qu;have FO:cB (es++[ml M T ns sp])=true:=gL.mpr fun d hd=>by
              rcases vU.mp hd with h|h
              ·exact gL.mp kz d h
              ·rw[bS]at h;rw[h];exact CF _ _ _
             have q7l:q≠l:=ql;refine⟨⟨fj M T ns sp,es++[ml M T ns sp],us++[ent],_,rfl,fun b o' eb hb=>?_,?_,OQ raw aF (by rw[gQ];exact eo) c2 c3,gQ,Bi,vp,?_,?_,?_,?_,?_,?_,?_,fun z=>by simp at z⟩,?_⟩
             · have ha:b≠a:=fun z=>hb (by rw[z];simp)
               have dy:b≠l:=fun z=>hb (by rw[z];simp);rw[aB ha,aB dy];exact s8 _ _ (b7 _ _ (bt _ _ eb hb) (by rw[bS];exact ha))
             · rw[eS]
               refine⟨⟨pV,rH,Br,zW,ze,?_,RD.v v7 _ (iS _ _ _ _ _) Ko,RD.v v7 _ (gJ _) Xk,Xj.v v7,Xi.v v7⟩,yq,?_,aE.v v7 _ nos YE⟩
               ·exact aQ
               ·rw[aB aq.symm,aB ql];exact s8 _ _ eq7
             · show T.dn+1=_
               rw[fm];show _=_+(_+1);lia
             · show T.dn+1<=_
               lia
             ·rw[fm];show((es.length+1:Nat):Int)<=most;lia
             ·rw[aB al.symm,aQ]
             · refine aE.v va _ FO (aE.v vl _ FO ?_)
               have r7:aE K H8 us es:=aE.mono s8 _ (aE.v zc _ kz rd);refine r7.append (bJ ?_ cF);rw[eE];exact YZ
             ·exact FO
             · rw[a2l]at run
               exact run.snoc a4B
             · show(match(L2.upd (L2.upd H8 l (.lst (us++[ent]))) a _) l with|some (.lst us)=>2000-us.length|_=>0)<(match H6 l with|some (.lst us)=>2000-us.length|_=>0)
               rw[aB al.symm,aQ,dl];show 2000-(us++[ent]).length<2000-us.length;rw[fm];show 2000-(us.length+1)<_
               lia
         · rw[eg (by lia)]
           refine bf ?_;exact pU (by lia)
       · rw[eg c1]
         refine bf ?_;exact pU (by lia)
     · rintro σ H6 Q1 Q2 hq ⟨v1,f1,l',jY,f2,f3,v2,f4,i1,i2,f5,f6,b1,f7,h⟩
       refine⟨v1,f1,l',jY,f2,f3,v2,f4,i1,i2,f5,f6,b1,f7,xH ?_ (hq _ _) h⟩;rintro⟨v3,f8,a',sW,fs',u',f9,y9,y8,v4,Ie,i3,i4,Ic,Ib,b2,y6,h⟩;refine⟨v3,f8,a',sW,fs',u',f9,y9,y8,v4,Ie,i3,i4,Ic,Ib,b2,y6,xH ?_ (hq _ _) h⟩;rintro⟨v5,Ia,a2,sT,Hu,HV,HU,HS,a3,q3,M3,D3,S3,HR,HQ,HP,HN,b3,HM,h⟩;exact⟨v5,Ia,a2,sT,Hu,HV,HU,HS,a3,q3,M3,D3,S3,HR,HQ,HP,HN,b3,HM,hq _ _ h⟩
   · rintro σ H6 ⟨T,es,us,w8,rfl,bt,RT,raw,gQ,Bi,vp,PU,h1,kC,dl,rd,kz,run⟩
     obtain⟨sS,kl,bv6,a0g,WB,e6,t1,t2,t3,t4⟩:=RT.ob;have a4M:T.os≠[]:=by rw[gQ];exact cZ
     have bH:∀{H7:Hp},aV [a] H6 H7->aV [a,q] H H7:=fun{H7} b7 b o' eb hb=>by
      have ha:b≠a:=fun z=>hb (by rw[z];simp);refine b7 _ _ (bt _ _ (uo _ _ eb) fun hm=>?_) (by rw[bS];exact ha);simp only[bB,cw,df]at hm;rcases hm with h|h
      ·exact ha h
      ·rw[h,nl]at eb;cases eb
     refine⟨fun σ H7=>∃q' z9,σ=[some (.ref a),some (.int most),some y,some (.int (ay ns)),some (.ref mj),some qE,some qS,some (.ref l),z9]/\cn K C H7 a q' M (fi ns T)/\Mv a q H q' H7/\l≠q'/\∃jY,H7 l=some (.lst jY)/\aE K H7 jY es,?_,?_⟩
     · refine⟨_,rfl,a,sS,_,_,rfl,e6,rfl,_,rfl,.inl ⟨_,_,rfl,rfl,_,rfl,?_⟩⟩
       show if decide ((T.dn:Int)=(ay ns:Int))=true then _ else _;by_cases c:T.dn=ay ns
       · rw[ck (by lia)]
         refine bF ?_;refine⟨_,rfl,a,sS,_,rfl,e6,rfl,a,q,M,D,T,rfl,RT,raw,aF,a4M,fun q' H7 R7 nq b7=>?_⟩;have zc:bG H6 H7:=b7.v fun x hx o' cK=>by rw[bS]at hx;rw[hx,e6]at cK;cases cK;trivial
         refine⟨q',_,rfl,by unfold fi;rw[aO c];exact R7,⟨bH b7,.inr ?_⟩,fun z=>?_,us,b7 _ _ dl (by rw[bS];exact al.symm),aE.v zc _ kz rd⟩
         ·cases e':H q' with |none=>rfl |some o'=>
             have h5:=uo _ _ e';by_cases ha:q'=a
             ·rw[ha,e6]at nq;cases nq
             · by_cases dy:q'=l
               ·rw[dy,nl]at e';cases e'
               · have:=bt _ _ h5 (by simp;exact⟨ha,dy⟩)
                 rw[nq]at this;cases this
         ·rw[<-z,dl]at nq;cases nq
       · rw[eg (by lia)]
         refine bf ?_;exact⟨q,_,rfl,by unfold fi;rw[aP c];exact RT,⟨bH (aV.refl _ _),.inl rfl⟩,ql.symm,us,dl,rd⟩
     · rintro σ H7 ⟨q',z9,rfl,R7,rH,lq,jY,lO,wO⟩
       exact⟨_,rfl,k l jY es (fi ns T) q' H7 nl lO wO run h1 kC R7 rH lq⟩
theorem Mv.trans{a q q1 q2:Addr}{H H1 H2:Hp}(m1:Mv a q H q1 H1)(m2:Mv a q1 H1 q2 H2)(ha:H1 a≠none):Mv a q H q2 H2:=by
 refine⟨fun b o e hb=>?_,?_⟩
 · refine m2.but _ _ (m1.but _ _ e hb) fun hm=>?_
   simp only[bB,cw,df]at hm hb;rcases hm with h|h
   ·exact hb (.inl h)
   · rcases m1.nq with h1|h1
     ·exact hb (.inr (h.trans h1))
     ·rw[<-h]at h1;rw[h1]at e;cases e
 · rcases m2.nq with h|h
   ·rw[h];exact m1.nq
   ·cases e:H q2 with |none=>exact .inr rfl |some o=>
       by_cases h1:q2=q
       ·exact .inl h1
       · by_cases h2:q2=a
         ·rw[h2]at h;exact(ha h).elim
         · have:=m1.but _ _ e (by simp;exact⟨h2,h1⟩)
           rw[h]at this;cases this
inductive U9(K:aaU)(C:Addr)(vs:List V)(H:Hp)(Q:VK):Prop |mk (a:_)(q:_)(M:_)(D:_)(S:_)(most:_)(h0:vs=[.ref a,.int most])(h1:cn K C H a q M S)(h2:bQ M D S)(h3:M.Ok)(h4:S.os≠[])(h5:¬Halt S.pc S.stp)(h6:1<=most)(h7:most<=1000)(h8:∀l ys es S' q' H',H l=none->H' l=some (.lst ys)->aE K H' ys es->Run M S es S'->1<=es.length->(es.length:Int)<=most->cn K C H' a q' M S'->Mv a q H q' H'->l≠q'->Q (.ref l) H'):U9 K C vs H Q
def Lf(K:aaU)(C:Addr):Sp:=fun vs H Q _=>U9 K C vs H Q
theorem Mb:aW ["self","most","item"] ["self","most"] (aK DY):=bh (by decide+kernel)
theorem a1t{C:Addr}(F:MA K C "entries_of_first" "Runner.entries_of_first" DY)(TC:fK K C)(pI:aj P w K mg base "is_line" 1 (uf K))(a61:cy P w K mg base C "steps_of_first" 10 (KY K C))(Hk:cy P w K mg base C "end_first" 3 (CO K C)):cy P w K mg base C "entries_of_first" 11 (Lf K C):=by
 refine F.has Mb (fun vs H Q E h=>?_) (fun _ _ _ _ _ _=>cW fun _ _=>rfl) (fun f aD A outer s H vs Q E hr h=>?_)
 · obtain⟨a,q,M,D,S,most,rfl,_⟩:=h
   rfl
 · obtain⟨a,q,M,D,S,most,rfl,R0,ok,aF,cZ,nh,m1,m2,k⟩:=h
   obtain⟨dx,mv,bv,cg,tv,e,r1,r2,r3,r4⟩:=R0.ob;obtain⟨ys,eq,rq⟩:=R0.qu;have aq:=R0.ne;have nd:=Mb.nd;have ll:=ok.row.len;have o8:0<S.os.length:=by cases h:S.os with|nil=>exact(cZ h).elim|cons _ _=>simp
   obtain⟨d,ed⟩:∃d,S.ds[0]? =some d:=⟨_,bN (show 0<S.ds.length by lia)⟩;obtain⟨y,ey,ry⟩:=rq.get 0 ed;obtain⟨o,eo,it⟩:=ok.row.get ed;refine⟨_,(ai (pS 2 nd (px K (cI TC.cl TC.n_queue (pv 0)) ah)) (ai (bj (cA (pf pI hr (aa (pv 2) ae))) (aw (aJ (wX a61 TC.cl (hr.mono (by decide)) (pv 0) (aa (pv 1) ae)))) bu) (ai (gy (bj (bL (cJ K rfl hr.units) (px K (pv 2) ah) aL (ba _)) (aw (iD TC.cl TC.n_side (pv 0) (px K (pv 2) ah))) bu)) (ai (gy (bj (bL (cJ K rfl hr.units) (px K (pv 2) ah) aL (ba _)) (aw (iD TC.cl TC.n_mark (pv 0) (px K (pv 2) ah))) bu)) (ai (gY (gk Hk TC.cl (hr.mono (by decide)) (pv 0))) (aw (aJ (cV (aa (pv 2) ae))))))))),?_⟩;refine⟨_,rfl,a,dx,_,_,rfl,e,rfl,.inl ⟨q,_,0,y,rfl,rfl,au.of eq,cN (fY 0) ey,?_⟩⟩;refine⟨_,rfl,y,d,o,rfl,ry,it,_,rfl,?_⟩;cases o with |some z=>obtain⟨ns,sp⟩:=z;refine bF ?_;exact⟨_,rfl,a,dx,_,rfl,e,rfl,_,rfl,a,q,M,D,S,ns,sp,most,rfl,R0,ok,aF,eo,nh,m1,m2,k⟩ |none=>
     refine bf ?_;have gK:=ok.rw 0 d eo ed;have wd:∃z u ya yr,d= .tuple [.str z,u]/\y= .ref ya/\aI K H ya (.str z::[yr])/\RD K H yr u/\SeqAt.shaped (.str z)=true:=by
      rcases gK with⟨n,rfl,_⟩|⟨w',s',rfl,hw,_⟩
      · obtain⟨ya,xs,rfl,h1,h2⟩:=ry.dF
        obtain⟨x1,rr,rfl,e1,h2⟩:=h2.cons_inv;obtain⟨x2,rr,rfl,e2,h2⟩:=h2.cons_inv;cases h2.nil_inv;cases e1.str_inv;exact⟨_,_,ya,x2,rfl,rfl,h1,e2,by decide+kernel⟩
      · obtain⟨ya,xs,rfl,h1,h2⟩:=ry.dF
        obtain⟨x1,rr,rfl,e1,h2⟩:=h2.cons_inv;obtain⟨x2,rr,rfl,e2,h2⟩:=h2.cons_inv;cases h2.nil_inv;cases e1.str_inv;exact⟨_,_,ya,x2,rfl,rfl,h1,e2,by rcases hw with rfl|rfl<;>decide+kernel⟩
     obtain⟨z,u,ya,yr,rfl,rfl,xJ,N5,sz⟩:=wd;have tU:SeqAt.shaped (.str "tool")=true:=by decide+kernel
     have tM:SeqAt.shaped (.str "mark")=true:=by decide+kernel
     have eqT:∀(x y:Str),PyData.eqv (.str x) (.str y)=decide (x=y):=fun x y=>by show(x==y)=decide (x=y);rw[nj];simp
     refine⟨fun σ H1=>σ=[some (.ref a),some (.int most),some (.ref ya)]/\aV [a] H H1/\H1 a=some (.ins C dx (fN mv bv (.int S.dn) (.ref q) cg (.int S.rate) (.str (if z="tool" then(bO (.tuple [.str z,u]) S).side else S.side)) (.str S.mark) tv)),?_,?_⟩
     · refine⟨_,rfl,.inr ⟨ya,_,0,.str z,rfl,rfl,xJ,cN (fY 0) rfl,.inr ⟨_,_,cH _,cH _,sz,tU,_,rfl,?_⟩⟩⟩
       rw[eqT];by_cases c:z="tool"
       · rw[ck c]
         refine bF ?_;have hu:∃s',u= .str s':=by
          rcases gK with⟨n,h,_⟩|⟨w',s',h,hw,_⟩
          ·cases h;exact absurd c (by decide+kernel)
          ·cases h;exact⟨_,rfl⟩
         obtain⟨s',rfl⟩:=hu;cases N5.str_inv;refine⟨_,rfl,.inr ⟨ya,_,1,.str s',rfl,rfl,xJ,cN (by decide) rfl,_,rfl,a,dx,_,rfl,e,by show 9<1000;decide,?_⟩⟩;refine⟨rfl,vF (by simp),?_⟩;rw[aO c];have es:(bO (.tuple [.str z,.str s']) S).side=s':=by unfold bO;simp only[aO c]
         rw[es];exact aQ
       · rw[eg c]
         refine bf ⟨rfl,aV.refl _ _,?_⟩;rw[aP c];exact e
     rintro σ H1 ⟨rfl,b1,e1⟩;have Wo:bG H H1:=b1.v fun x hx o' cK=>by rw[bS]at hx;rw[hx,e]at cK;cases cK;trivial
     have Pq:=aI.v Wo xJ;refine⟨fun σ H2=>σ=[some (.ref a),some (.int most),some (.ref ya)]/\aV [a] H H2/\H2 a=some (.ins C dx (fN mv bv (.int S.dn) (.ref q) cg (.int S.rate) (.str (bO (.tuple [.str z,u]) S).side) (.str (bO (.tuple [.str z,u]) S).mark) tv)),?_,?_⟩
     · refine⟨_,rfl,.inr ⟨ya,_,0,.str z,rfl,rfl,Pq,cN (fY 0) rfl,.inr ⟨_,_,cH _,cH _,sz,tM,_,rfl,?_⟩⟩⟩
       rw[eqT];by_cases c:z="mark"
       · rw[ck c]
         refine bF ?_;have nt:¬z="tool":=by rw[c];decide+kernel
         rw[aP nt]at e1;have hu:∃s',u= .str s':=by
          rcases gK with⟨n,h,_⟩|⟨w',s',h,hw,_⟩
          ·cases h;exact absurd c (by decide+kernel)
          ·cases h;exact⟨_,rfl⟩
         obtain⟨s',rfl⟩:=hu;cases N5.str_inv;refine⟨_,rfl,.inr ⟨ya,_,1,.str s',rfl,rfl,Pq,cN (by decide) rfl,_,rfl,a,dx,_,rfl,e1,by show 9<1000;decide,?_⟩⟩;refine⟨rfl,b1.trans (vF (by simp)),?_⟩;have es:(bO (.tuple [.str z,.str s']) S).side=S.side/\(bO (.tuple [.str z,.str s']) S).mark=s':=by constructor<;>(unfold bO;simp only[aP nt,aO c])
         rw[es.1,es.2];exact aQ
       · rw[eg c]
         refine bf ⟨rfl,b1,?_⟩;have em:(bO (.tuple [.str z,u]) S).mark=S.mark:=by
          unfold bO;split
          · next h => cases h;split
                      ·rfl
                      ·first|rfl|rw[aP c]
          ·rfl
         have es:(if z="tool" then(bO (.tuple [.str z,u]) S).side else S.side)=(bO (.tuple [.str z,u]) S).side:=by
          by_cases c2:z="tool"
          ·rw[aO c2]
          · rw[aP c2]
            unfold bO;split
            ·next h=>cases h;first|rfl|rw[aP c2,aP c]
            ·rfl
         rw[es]at e1;rw[em];exact e1
     rintro σ H2 ⟨rfl,b2,e2⟩;have we:bG H H2:=b2.v fun x hx o' cK=>by rw[bS]at hx;rw[hx,e]at cK;cases cK;trivial
     obtain⟨Nl,fu,ds',dn',ZS⟩:=D9 ok.raw (.tuple [.str z,u]);have fx:(bO (.tuple [.str z,u]) S).pc=S.pc/\(bO (.tuple [.str z,u]) S).rate=S.rate/\(bO (.tuple [.str z,u]) S).stp=S.stp:=by
      unfold bO;split
      · split
        ·exact⟨rfl,rfl,rfl⟩
        ·split<;>exact⟨rfl,rfl,rfl⟩
      ·exact⟨rfl,rfl,rfl⟩
     have R2:cn K C H2 a q M (bO (.tuple [.str z,u]) S):=by
      refine⟨⟨dx,mv,bv,cg,tv,?_,RD.v we _ (iS _ _ _ _ _) r1,?_,?_,?_⟩,ys,b2 _ _ eq (by rw[bS];exact aq.symm),?_⟩
      ·rw[dn',fx.2.1];exact e2
      ·rw[ZS];exact RD.v we _ (gJ _) r2
      ·rw[fx.1];exact r3.v we
      ·rw[fx.2.2];exact r4.v we
      ·rw[ds'];exact aE.v we _ ok.row.no rq
     refine⟨_,rfl,a,dx,_,rfl,e2,rfl,a,q,M,D,_,rfl,R2,Nl,aF,by rw[fu];exact cZ,fun q' H3 R3 nq b3=>?_⟩;have IX:=b2.trans b3;have Wn:bG H H3:=IX.v fun x hx o' cK=>by rw[bS]at hx;rw[hx,e]at cK;cases cK;trivial
     have xl:H q'=none:=by cases e':H q' with |none=>rfl |some o'=>
        by_cases ha:q'=a
        ·rw[ha,e2]at nq;cases nq
        · have:=b2 _ _ e' (by rw[bS];exact ha)
          rw[nq]at this;cases this
     refine⟨_,rfl,bI rfl,fun l H4 n4=>?_⟩;have nl:H l=none:=by cases e':H l with |none=>rfl |some o'=>
        by_cases ha:l=a
        · obtain⟨dx3,_,_,_,_,e3,_⟩:=R3.ob
          have:=n4.no;rw[ha,e3]at this;cases this
        · have:=IX _ _ e' (by rw[bS];exact ha)
          rw[n4.no]at this;cases this
     have xh:bQ M D (iI (bO (.tuple [.str z,u]) S)):=Nl.end (by rw[fu];exact cZ);refine k l [.ref ya] [.tuple [.str z,u]] _ q' H4 nl n4.at' (bJ (RD.v (Wn.trans n4.same.v) _ (gL.mp ok.row.no _ (gf ed)) ry) cF) (.cons (.gK eo ed nh) (.nil _)) (by simp) (by simpa using m1) (R3.same xh.row.no n4.same) ⟨fun b o' eb hb=>n4.same _ _ (IX _ _ eb (by rw[bS];intro h;exact hb (by rw[h];simp))),.inr xl⟩ ?_;intro h;have:=n4.no;obtain⟨yq,eq3,_⟩:=R3.qu;rw[h,eq3]at this;cases this
inductive Ua(K:aaU)(C:Addr)(vs:List V)(H:Hp)(Q:VK):Prop |mk (a:_)(q:_)(M:_)(D:_)(S:_)(n:_)(h0:vs=[.ref a,.int n])(h1:cn K C H a q M S)(h2:bQ M D S)(h3:M.Ok)(h4:0<=n)(h5:n<=1000)(h6:∀l ys es S' q' H',H l=none->H' l=some (.lst ys)->aE K H' ys es->Run M S es S'->(es.length:Int)<=n->((es.length:Int)=n\/S'.os=[]\/Halt S'.pc S'.stp)->cn K C H' a q' M S'->Mv a q H q' H'->l≠q'->Q (.ref l) H'):Ua K C vs H Q
def Lg(K:aaU)(C:Addr):Sp:=fun vs H Q _=>Ua K C vs H Q
theorem Mc:aW ["self","n","told"] ["self","n"] (aK DZ):=bh (by decide+kernel)
theorem a1u{C:Addr}(F:MA K C "entries" "Runner.entries" DZ)(TC:fK K C)(B:bw mg)(Hj:cy P w K mg base C "is_halted" 2 (eK K C fun _ S H Q=>Q (.bl (S.stp.isSome&&decide (S.pc=0))) H))(a6a:cy P w K mg base C "entries_of_first" 11 (Lf K C)):cy P w K mg base C "entries" 12 (Lg K C):=by
 refine F.has Mc (fun vs H Q E h=>?_) (fun _ _ _ _ _ _=>cW fun _ _=>rfl) (fun f aD A outer s H vs Q E hr h=>?_)
 · obtain⟨a,q,M,D,S,n,rfl,_⟩:=h
   rfl
 · obtain⟨a,q,M,D,S,n,rfl,R0,ok,aF,n0,n1,k⟩:=h
   have nd:=Mc.nd;refine⟨_,(ai (pS 2 nd (cV ae)) (ai (gy (md gE (PW.pt (nN (bL jv (dv K B (aa (pv 2) ae)) (pv 1) (ba _)) (nN (Fm K rfl (cI TC.cl TC.n_queue (pv 0))) (qT (dS (cA (gk Hj TC.cl (hr.mono (by decide)) (pv 0)))))))) (aw (gY (a0e K rfl (pv 2) (aa (wX a6a TC.cl (hr.mono (by decide)) (pv 0) (aa (az fQ (pv 1) (dv K B (aa (pv 2) ae))) ae)) ae)))))) (aw (aJ (pv 2))))),?_⟩;refine⟨bI rfl,fun l H1 nw=>?_⟩;obtain⟨dx,mv,bv,cg,tv,e,r1,r2,r3,r4⟩:=R0.ob;obtain⟨ys,eq,rq⟩:=R0.qu;have al:a≠l:=fun z=>by have:=nw.no;rw[<-z,e]at this;cases this
   have ql:q≠l:=fun z=>by have:=nw.no;rw[<-z,eq]at this;cases this
   have hq0:H q≠none:=by rw[eq];simp
   have ha0:H a≠none:=by rw[e];simp
   refine⟨fun σ H2=>∃es S' q' us,σ=[some (.ref a),some (.int n),some (.ref l)]/\cn K C H2 a q' M S'/\H2 l=some (.lst us)/\aE K H2 us es/\Run M S es S'/\(es.length:Int)<=n/\((es.length:Int)=n\/S'.os=[]\/Halt S'.pc S'.stp)/\Mv a q H q' H2/\l≠q',?_,?_⟩
   · refine lV (fun σ H2=>∃es S' q' us,σ=[some (.ref a),some (.int n),some (.ref l)]/\cn K C H2 a q' M S'/\H2 l=some (.lst us)/\aE K H2 us es/\Run M S es S'/\(es.length:Int)<=n/\Mv a q H q' H2/\l≠q') (fun _ H2=>match H2 l with|some (.lst us)=>2000-us.length|_=>0) ?_ ?_ ?_
     ·exact⟨[],S,q,[],rfl,R0.same ok.row.no nw.same,nw.at',cF,.nil _,by simpa using n0,⟨.of nw.same,.inl rfl⟩,ql.symm⟩
     · rintro σ H2 ⟨es,S',q',us,rfl,R2,dl,rd,run,kC,uO,lq⟩
       have iQ:=run.ok ok aF;have kz:=run.no ok aF;have lu:=rd.length;obtain⟨sT,mv2,bv2,a9B,tv2,e2,t1,t2,t3,t4⟩:=R2.ob;obtain⟨yq,eq2,YF⟩:=R2.qu;have uQ:=YF.length;have xD:=iQ.row.len;refine⟨_,rfl,l,us,rfl,.inl (au.of dl),_,rfl,_,_,rfl,rfl,_,rfl,?_⟩;show if decide ((us.length:Int)<n)=true then _ else _;by_cases c1:(us.length:Int)<n
       · rw[ck c1]
         refine bF ?_;refine⟨_,rfl,a,sT,_,_,rfl,e2,rfl,_,.inl ⟨_,au.of eq2,rfl⟩,?_⟩;cases jc:S'.os with |nil=>have:yq=[]:=C5.mp (by rw[uQ,xD,jc];rfl);subst this;refine bf ?_;exact⟨es,S',q',us,rfl,R2,dl,rd,run,kC,.inr (.inl jc),uO,lq⟩ |cons o os=>
           have cZ:S'.os≠[]:=by rw[jc];simp
           have:∃y yr,yq=y::yr:=by cases yq with |nil=>rw[xD,jc]at uQ;simp at uQ |cons y yr=>exact⟨y,yr,rfl⟩
           obtain⟨y,yr,rfl⟩:=this;refine bF ?_;refine⟨_,rfl,a,sT,_,rfl,e2,rfl,a,q',M,D,S',rfl,R2,iQ,aF,_,rfl,?_⟩;by_cases c3:Halt S'.pc S'.stp
           · have hb:(S'.stp.isSome&&decide (S'.pc=0))=true:=by obtain⟨h1,h2⟩:=c3;rw[ck h2,JP];cases hs:S'.stp with |none=>exact(h1 hs).elim |some _=>rfl
             rw[hb];exact bf ⟨es,S',q',us,rfl,R2,dl,rd,run,kC,.inr (.inr c3),uO,lq⟩
           · have hb:(S'.stp.isSome&&decide (S'.pc=0))=false:=by cases hs:S'.stp with |none=>rfl |some _=>show decide (S'.pc=0)=false;exact eg fun h2=>c3 ⟨by rw[hs];simp,h2⟩
             rw[hb];refine bF ?_;refine⟨_,rfl,.inl ⟨rfl,_,au.of dl⟩,?_⟩;refine⟨_,rfl,a,sT,_,rfl,e2,rfl,_,rfl,_,rfl,l,us,rfl,.inl (au.of dl),_,_,rfl,rfl,?_⟩;refine⟨a,q',M,D,S',_,rfl,R2,iQ,aF,cZ,c3,by lia,by lia,fun l2 y2 fs S2 q2 H3 FP ye m8 qP f1 f2 R3 Ab lq2=>?_⟩;have Wj:=R2.v Ab.but;have vw:=Ab.but _ _ dl (by simp;exact⟨al.symm,lq⟩);have F8:=aE.v Wj _ kz rd;have ly2:=m8.length;have lg:sizeLine=16777216:=by decide
             refine⟨l,l2,us,y2,rfl,rfl,vw,ye,by lia,?_⟩;have vu:bG H3 (L2.upd H3 l (.lst (us++y2))):=.upd vw trivial;have a4J:=qP.no iQ aF;have dG:=qP.ok iQ aF;have OJ:l≠q2:=fun z=>by
              rcases Ab.nq with h|h
              ·exact lq (z.trans h)
              ·rw[<-z,dl]at h;cases h
             refine⟨⟨es++fs,S2,q2,us++y2,rfl,R3.go dG.row.no vu (fun o' cK=>by rw[aB al];exact cK) (fun o' cK=>by rw[aB OJ.symm];exact cK),aQ,(aE.v vu _ kz F8).append (aE.v vu _ a4J m8),run.trans qP,by rw[fm];lia,?_,OJ⟩,?_⟩
             · have m:=uO.trans Ab (by rw[e2];simp)
               exact⟨fun b o' eb hb=>by
                have dy:b≠l:=fun z=>by have:=nw.no;rw[<-z,eb]at this;cases this
                rw[aB dy];exact m.but _ _ eb hb,m.nq⟩
             · show(match(L2.upd H3 l (.lst (us++y2))) l with|some (.lst us)=>2000-us.length|_=>0)<(match H2 l with|some (.lst us)=>2000-us.length|_=>0)
               rw[aQ,dl];show 2000-(us++y2).length<2000-us.length;rw[fm]
               lia
       · rw[eg c1]
         refine bf ?_;exact⟨es,S',q',us,rfl,R2,dl,rd,run,kC,.inl (by lia),uO,lq⟩
     · rintro σ H6 Q1 Q2 hq ⟨v1,f1,l',jY,f2,f3,v2,f4,i1,i2,f5,f6,b1,f7,h⟩
       refine⟨v1,f1,l',jY,f2,f3,v2,f4,i1,i2,f5,f6,b1,f7,xH ?_ (hq _ _) h⟩;rintro⟨v3,f8,a',sW,fs',u',f9,y9,y8,b2,y6,h⟩;refine⟨v3,f8,a',sW,fs',u',f9,y9,y8,b2,y6,xH ?_ (hq _ _) h⟩;rintro⟨v5,Ia,a2,sT,Hu,HV,HU,HS,a3,q3,M3,D3,S3,HR,HQ,HP,HN,b3,HM,h⟩;exact⟨v5,Ia,a2,sT,Hu,HV,HU,HS,a3,q3,M3,D3,S3,HR,HQ,HP,HN,b3,HM,hq _ _ h⟩
   · rintro σ H2 ⟨es,S',q',us,rfl,R2,dl,rd,run,kC,lI,uO,lq⟩
     exact⟨_,rfl,k l us es S' q' H2 nw.no dl rd run kC lI R2 uO lq⟩
theorem cn.Nz{C:Addr}{H:Hp}{a q dx:Addr}{M:bp}{S S':aU}{mv bv cg tv:V}(R:cn K C H a q M S)(e:H a=some (.ins C dx (fN mv bv (.int S.dn) (.ref q) cg (.int S.rate) (.str S.side) (.str S.mark) tv))){vB zX zh:V}(hn:cB S.ds=true)(hd:S'.ds=S.ds) (r1:RD K H mv M.D)(r2:RD K H vB (eO S'.pl))(r3:aR K H zX S'.pc)(r4:vJ K H zh S'.stp):cn K C (L2.upd H a (.ins C dx (fN mv vB (.int S'.dn) (.ref q) zX (.int S'.rate) (.str S'.side) (.str S'.mark) zh))) a q M S':=by
  have v:bG H (L2.upd H a (.ins C dx (fN mv vB (.int S'.dn) (.ref q) zX (.int S'.rate) (.str S'.side) (.str S'.mark) zh))):=.upd e trivial;obtain⟨ys,eq,rq⟩:=R.qu;refine⟨⟨dx,mv,vB,zX,zh,aQ,RD.v v _ (iS _ _ _ _ _) r1,RD.v v _ (gJ _) r2,r3.v v,r4.v v⟩,ys,?_,?_⟩
  ·rw[aB R.ne.symm];exact eq
  ·rw[hd];exact aE.v v _ hn rq
theorem Yh:aW ["self"] ["self"] (aK DW):=bh (by decide+kernel)
inductive U7(K:aaU)(C:Addr)(vs:List V)(H:Hp)(Q:VK):Prop |mk (a:_)(q:_)(M:_)(D:_)(S:_)(h0:vs=[.ref a])(h1:cn K C H a q M S)(h2:bQ M D S)(h3:∀H',cn K C H' a q M {S with stp:=none}->aV [a] H H'->Q (.int (S.ds.length:Nat)) H'):U7 K C vs H Q
def Le(K:aaU)(C:Addr):Sp:=fun vs H Q _=>U7 K C vs H Q
theorem a1r{C:Addr}(F:MA K C "go" "Runner.go" DW)(TC:fK K C)(B:bw mg):cy P w K mg base C "go" 1 (Le K C):=by
 refine F.has Yh (fun vs H Q E h=>?_) (fun _ _ _ _ _ _=>dJ fun _=>rfl) (fun f aD A outer s H vs Q E hr h=>?_)
 · obtain⟨a,q,M,D,S,rfl,_⟩:=h
   rfl
 · obtain⟨a,q,M,D,S,rfl,R,ok,k⟩:=h
   obtain⟨dx,mv,bv,cg,tv,e,r1,r2,r3,r4⟩:=R.ob;obtain⟨ys,eq,rq⟩:=R.qu;refine⟨_,(ai (iD TC.cl TC.n_stopping (pv 0) j4) (aw (aJ (dv K B (aa (cI TC.cl TC.n_queue (pv 0)) ae))))),?_⟩;refine⟨_,rfl,a,dx,_,rfl,e,by show 9<1000;decide,?_⟩;have kH:(L2.upd H a (.ins C dx (fN mv bv (.int S.dn) (.ref q) cg (.int S.rate) (.str S.side) (.str S.mark) .aY))) q=some (.lst ys):=by rw[aB R.ne.symm];exact eq
   refine⟨_,rfl,a,dx,_,_,rfl,aQ,rfl,q,_,rfl,.inl (au.of kH),?_⟩;rw[rq.length];exact k _ (R.Nz (S':={S with stp:=none}) e ok.row.no rfl r1 r2 r3 rfl) (vF (by simp))
def iA(f:Int)(pc:Rat):Int:=(pc.num+2*f*(pc.den:Int)-1)/(2*f*(pc.den:Int))
theorem Xw{f:Int}(hf:1<=f){pc:Rat}(h:0<=pc):(0<=iA f pc)/\(iA f pc=0->pc=0)/\pc<=((2*f*iA f pc:Int):Rat)/\(pc<=1600->iA f pc<=1000):=by
 have hn:=Jp.mpr h;have hd:0<2*f*(pc.den:Int):=gW (by lia) (den_pos pc);have hd1:2*(pc.den:Int)<=2*f*(pc.den:Int):=by
  have:2*1*(pc.den:Int)<=2*f*(pc.den:Int):=VR (by lia) (by lia)
  lia
 unfold iA;generalize hD:2*f*(pc.den:Int)=dd at hd hd1;have q1:=Int.mul_ediv_add_emod (pc.num+dd-1) dd;have q2:=ng (pc.num+dd-1) (show dd≠0 by lia);have q3:=qz (pc.num+dd-1) hd;have q0:0<=(pc.num+dd-1)/dd:=Int.ediv_nonneg (by lia) (by lia);generalize hQ:(pc.num+dd-1)/dd=Q at q0 q1;generalize(pc.num+dd-1)%dd=R at q1 q2 q3;have hle:pc.num<=dd*Q:=by lia
 refine⟨q0,fun e=>?_,?_,fun hm=>?_⟩
 · rw[e,Int.mul_zero]at hle
   have:pc.num=0:=by lia
   exact Rat.num_eq_zero.mp this
 · refine yK.mp fun bV=>?_
   rw[BV,Jq,Js]at bV;have e1:2*f*Q*(pc.den:Int)=dd*Q:=by rw[<-hD,Int.mul_right_comm]
   rw[e1]at bV
   lia
 · have sL:¬((1600:Rat)<pc):=yK.mpr hm
   rw[BV]at sL;have e1:(1600:Rat).num=1600:=rfl;have e2:(1600:Rat).den=1:=rfl;rw[e1,e2]at sL;have h3:pc.num<=1600*(pc.den:Int):=by lia
   refine Int.not_lt.mp fun bV=>?_;have h4:dd*1001<=dd*Q:=VS (by lia) (by lia)
   lia
theorem M5:aW ["self","p","q","in_one"] ["self"] (aK DJ):=bh (by decide+kernel)
theorem a1e{C:Addr}(F:MA K C "stops_in" "Runner.stops_in" DJ)(TC:fK K C):cy P w K mg base C "stops_in" 1 (eK K C fun M S H Q=>Q (.int (iA M.f S.pc)) H):=by
 refine F.has M5 (fun vs H Q E h=>?_) (fun _ _ _ _ _ _=>dJ fun _=>rfl) (fun f aD A outer s H vs Q E hr h=>?_)
 · obtain⟨a,q,M,D,S,rfl,_⟩:=h
   rfl
 · obtain⟨a,q,M,D,S,rfl,R,ok,aF,k⟩:=h
   obtain⟨dx,mv,bv,cg,tv,e,r1,r2,⟨pa,rfl,rV⟩,r4⟩:=R.ob;have nd:=M5.nd;have pT:=aF.f1;obtain⟨ma,mb,rfl,gs,je⟩:=kr r1;have bd:Bd 1600 S.pc:=(ok.pd.bd (dB ok.pm (by decide+kernel))).mono (by have:=ok.D2;lia);have hd:0<2*M.f*(S.pc.den:Int):=gW (by lia) (den_pos S.pc);have wd:Wd (2*M.f*(S.pc.den:Int)):=by
    refine gF (n:=1700) ?_ (by decide);rw[fq];have h1:(2*M.f).natAbs<2^7:=by lia
    have:=kn h1 bd.den;exact fL this (qx (by decide) (by decide))
   refine⟨_,(ai (fF (cI TC.cl TC.n_pace (pv 0)) (du K rfl (n:=2) rfl (bE (aX 1 nd) (bE (aX 2 nd) dk)))) (ai (pS 3 nd (az bc (az bc ah (px K (cI TC.cl TC.n_machine (pv 0)) ah)) (pv 2))) (aw (aJ (az lD (az fQ (az cE (pv 1) (pv 3)) ah) (pv 3)))))),?_⟩;refine⟨_,rfl,a,dx,_,_,rfl,e,rfl,pa,_,rfl,rV,rfl,_,_,rfl,_,_,rfl,rfl,?_⟩;refine⟨_,rfl,a,dx,_,_,rfl,e,rfl,.inr ⟨ma,_,2,.int M.f,rfl,rfl,gs,rfl,_,_,rfl,rfl,.of_left (bM (by decide) (by decide)),?_⟩⟩;refine⟨_,rfl,_,_,rfl,rfl,.of_left (bM (by lia) (by lia)),?_⟩;refine⟨_,rfl,_,rfl,_,_,rfl,rfl,_,_,rfl,rfl,_,rfl,_,_,rfl,rfl,⟨hd,wd⟩,?_⟩;exact k
theorem M9:aW ["self","steps"] ["self"] (aK DT):=bh (by decide+kernel)
def jd(M:bp)(S:aU):aU:=match S.stp with |none=>{S with stp:=some (S.pc,iA M.f S.pc,0)} |some _=>S
inductive U6(K:aaU)(C:Addr)(vs:List V)(H:Hp)(Q:VK):Prop |mk (a:_)(q:_)(M:_)(D:_)(S:_)(h0:vs=[.ref a])(h1:cn K C H a q M S)(h2:bQ M D S)(h3:M.Ok)(h4:∀H',cn K C H' a q M (jd M S)->aV [a] H H'->Q (.int (iA M.f S.pc)) H'):U6 K C vs H Q
def Ld(K:aaU)(C:Addr):Sp:=fun vs H Q _=>U6 K C vs H Q
theorem bQ.hold{M:bp}{D:Nat}{S:aU}(h:bQ M D S)(aF:M.Ok)(hD:D<=1490):bQ M (D+10) (jd M S):=by have D1:=h.D1;unfold jd;cases hs:S.stp with |some z=>show bQ M (D+10) S;have st:=h.stp;refine⟨h.row,h.rw,h.len,h.rt1,h.rt2,h.dn,h.pl,h.pd.mono (by lia),h.pm,?_,by lia,by lia⟩;rw[hs]at st⊢;obtain⟨sq,gh,gn⟩:=z;obtain⟨a1,a2,a3,a4,a5⟩:=st;exact⟨a1,a2,a3,a4.mono (by lia),a5⟩ |none=>obtain⟨z1,z2,z3,z4⟩:=Xw aF.f1.1 h.pd.nn;refine⟨h.row,h.rw,h.len,h.rt1,h.rt2,h.dn,h.pl,h.pd.mono (by lia),h.pm,?_,by lia,by lia⟩;refine⟨fY _,z1,z4 h.pm,h.pd,dB h.pm (by decide+kernel),z2,?_⟩;show S.pc*(iA M.f S.pc:Rat)<=S.pc*((iA M.f S.pc-0:Int):Rat);rw[Int.sub_zero];exact oN
theorem a1o{C:Addr}(F:MA K C "hold" "Runner.hold" DT)(TC:fK K C)(Hg:cy P w K mg base C "stops_in" 1 (eK K C fun M S H Q=>Q (.int (iA M.f S.pc)) H))(sF:cy P w K mg base C "is_held" 1 (eK K C fun _ S H Q=>Q (.bl S.stp.isSome) H)):cy P w K mg base C "hold" 2 (Ld K C):=by
 refine F.has M9 (fun vs H Q E h=>?_) (fun _ _ _ _ _ _=>dJ fun _=>rfl) (fun f aD A outer s H vs Q E hr h=>?_)
 · obtain⟨a,q,M,D,S,rfl,_⟩:=h
   rfl
 · obtain⟨a,q,M,D,S,rfl,R,ok,aF,k⟩:=h
   obtain⟨dx,mv,bv,cg,tv,e,r1,r2,r3,r4⟩:=R.ob;have nd:=M9.nd;refine⟨_,(ai (pS 1 nd (gk Hg TC.cl (hr.mono (by decide)) (pv 0))) (ai (gy (bj (dS (cA (gk sF TC.cl (hr.mono (by decide)) (pv 0)))) (aw (iD TC.cl TC.n_stopping (pv 0) (dw (aa (cI TC.cl TC.n_pace (pv 0)) (aa (pv 1) (aa ah ae)))))) bu)) (aw (aJ (pv 1))))),?_⟩;refine⟨_,rfl,a,dx,_,rfl,e,rfl,a,q,M,D,S,rfl,R,ok,aF,?_⟩;refine⟨fun σ H1=>σ=[some (.ref a),some (.int (iA M.f S.pc))]/\cn K C H1 a q M (jd M S)/\aV [a] H H1,?_,?_⟩
   · refine⟨_,rfl,a,dx,_,rfl,e,rfl,a,q,M,D,S,rfl,R,ok,aF,_,rfl,?_⟩
     cases hs:S.stp with |some z=>refine bf ⟨rfl,?_,aV.refl _ _⟩;unfold jd;rw[hs];exact R |none=>
       refine bF ?_;refine⟨_,rfl,a,dx,_,_,rfl,e,rfl,_,rfl,bI rfl,fun t H1 n1=>?_⟩;have e1:=n1.same _ _ e;refine⟨_,rfl,a,dx,_,rfl,e1,by show 9<1000;decide,?_⟩;have eh:jd M S={S with stp:=some (S.pc,iA M.f S.pc,0)}:=by unfold jd;rw[hs]
       refine⟨rfl,?_,fun b o' eb hb=>?_⟩
       · rw[eh]
         exact(R.same ok.row.no n1.same).Nz (S':={S with stp:=some (S.pc,iA M.f S.pc,0)}) e1 ok.row.no rfl (RD.mono n1.same _ r1) (RD.mono n1.same _ r2) (r3.go n1.same) ⟨t,cg,rfl,aI.of n1.at',r3.go n1.same⟩
       · have ha:b≠a:=fun z=>hb (by rw[z];simp)
         rw[aB ha];exact n1.same _ _ eb
   · rintro σ H1 ⟨rfl,R1,b1⟩
     exact⟨_,rfl,k H1 R1 b1⟩
end
end Lw
set_option maxHeartbeats 1000000
namespace Lw
open PySem PySem.Spec PyProof.Rows L2 Rt Ln Cn Pn
open Ow (topR cornO mnO betR atO ownF leadF ownL OkI OkIs)
section
variable {w:World}{mg:Str->Option Value}{base:Heap}
inductive UE(K:aaU)(vs:List V)(H:Hp)(Q:VK):Prop |mk (m:_)(iv:_)(rate:_)(rs:_)(r:_)(f:_)(j:_)(t:_)(ds:_)(os:_)(h0:vs=[m,iv,.int rate])(h1:RD K H m (iG rs r f j t))(h2:mQ rs r f j t)(h3:RD K H iv (.list ds))(h4:gu rs.length ds os)(h5:ds.length<=100)(h6:10<=rate)(h7:rate<=200)(h8:∀l ys H',H l=none->H' l=some (.lst ys)->aE K H' ys ((ownL j rate os).map cD)->ak H H'->Q (.ref l) H'):UE K vs H Q
def Lq(K:aaU):Sp:=fun vs H Q _=>UE K vs H Q
def j6(j rate:Int)(os:List Itm)(i:Nat):List Rat:=(List.range (os.length+1)).map fun k=>if k<=i then ownF j rate os k else 0
theorem uy(j rate:Int)(os:List Itm)(i:Nat){k:Nat}(h:k<=os.length):(j6 j rate os i)[k]? =some (if k<=i then ownF j rate os k else 0):=by unfold j6;rw[bZ,bN (by simp;lia),tS];rfl
theorem nQ(j rate:Int)(os:List Itm)(i:Nat):(j6 j rate os i).length=os.length+1:=by simp[j6]
theorem NQ(j rate:Int)(os:List Itm)(i:Nat)(h:i+1<=os.length):(j6 j rate os i).set (i+1) (ownF j rate os (i+1))=j6 j rate os (i+1):=by
 apply qy;intro k;by_cases hk:k<=os.length
 · rw[uy j rate os (i+1) hk,List.getElem?_set]
   by_cases e:i+1=k
   · subst e
     rw[aO rfl,aO (by rw[nQ];lia),aO (bo _)]
   · rw[aP e,uy j rate os i hk]
     congr 1;by_cases h1:k<=i
     ·rw[aO h1,aO (by lia)]
     ·rw[aP h1,aP (by lia)]
 ·rw[kN (by rw[tR,nQ];lia),kN (by rw[nQ];lia)]
theorem a0q(j rate:Int)(os:List Itm)(i:Nat)(h:i+1<=os.length)(e:ownF j rate os (i+1)=0):j6 j rate os (i+1)=j6 j rate os i:=by
 apply qy;intro k;by_cases hk:k<=os.length
 · rw[uy j rate os (i+1) hk,uy j rate os i hk]
   congr 1;by_cases h1:k<=i
   ·rw[aO h1,aO (by lia)]
   · rw[aP h1]
     by_cases h2:k=i+1
     ·subst h2;rw[aO (bo _),e]
     ·rw[aP (by lia)]
 ·rw[kN (by rw[nQ];lia),kN (by rw[nQ];lia)]
theorem MO:aW ["_law_machine_here","_law_items","_law_rate","_law_found","_law_border","_law_one","_law_other_here","_law_a","_law_b","_law_gap","_law_corner"] ["_law_machine_here","_law_items","_law_rate"] (aK ED):=bh (by decide+kernel)
theorem a27(F:FA K mg "_law_bounds" ED)(B:bw mg)(pO:aj P w K mg base "_law_lead" 1 (kQ K))(sH:aj P w K mg base "_law_min" 2 (iZ K))(AY:aj P w K mg base "_law_top" 2 (CI K))(pP:aj P w K mg base "_law_frac" 1 (wA K)):aj P w K mg base "_law_bounds" 3 (Lq K):=by
 refine F.has MO (fun vs H Q E h=>?_) (fun _ _ _ _ _ _=>mL fun _ _ _=>rfl) (fun f aD A outer s H vs Q E hr h=>?_)
 · obtain⟨m,iv,rate,rs,r,f,j,t,ds,os,rfl,_⟩:=h
   rfl
 · obtain⟨m,iv,rate,rs,r,f,j,t,ds,os,rfl,rm,aF,ri,row,hz,rt1,rt2,k⟩:=h
   have nd:=MO.nd;refine⟨_,(ai (Fp (i0:=3) nd rfl (Or.inl rfl) (N:=["_law_border"]) (js:=[none]) rfl rfl rfl (wU rfl (B.at "range") (aa (az cE (dv K B (aa (pv 1) ae)) ah) ae)) (fun _ _ _ _ _=>(aX 0 (rE _))) (fun _ _ _ _ _=>fh) (fun _ _ _ _ _=>(dw (aa ah (aa ah ae))))) (ai (kU gE rfl (NF rfl (B.at "range") (aa ah (aa (dv K B (aa (pv 1) ae)) ae))) (aX 4 nd) (ai (nO (i:=5) (j:=6) rfl nd rfl rfl (by decide) rfl rfl (aa (px K (pv 1) (az fQ (pv 4) ah)) (aa (px K (pv 1) (pv 4)) ae)) rfl) (aw (bj (PW.pt (nN (bL (cJ K rfl hr.units) (px K (pv 5) ah) aL (ba _)) (qT (bL (cJ K rfl hr.units) (px K (pv 6) ah) aL (ba _))))) (ai (fF (dw (aa (pf pO hr (aa (pv 5) ae)) (aa (pf pO hr (aa (pv 6) ae)) ae))) (du K rfl (n:=2) rfl (bE (aX 7 nd) (bE (aX 8 nd) dk)))) (ai (pS 9 nd (cQ (x:="max") (FZ K rfl rfl) rfl (B.at "max") BZ (aa (fO (N:=["_law_x","_law_y","_law_b","_law_a"]) (js:=[none,none,some 8,some 7]) rfl rfl rfl (jr K rfl false false rfl (B.at "zip") (aa (px K (pv 5) ah) (aa (px K (pv 6) ah) ae))) (fun _ _ _ _ _=>(du K rfl (n:=2) rfl (bE (aX 0 (show List.Nodup (["_law_x","_law_y","_law_b","_law_a"]:List Str) by decide+kernel)) (bE (aX 1 (show List.Nodup (["_law_x","_law_y","_law_b","_law_a"]:List Str) by decide+kernel)) dk)))) (fun _ _ _ _ _=>fh) (fun _ _ _ _ _=>(cQ (x:="abs") mK rfl (B.at "abs") oP (aa (az fQ (az bc (pv 0) (pv 2)) (az bc (pv 1) (pv 3))) ae)))) ae))) (ai (fF (pf sH hr (aa (cV (aa (pf AY hr (aa (pv 5) (aa (pv 2) ae))) (aa (pf AY hr (aa (pv 6) (aa (pv 2) ae))) ae))) ae)) (qW (pv 3) (pv 4) set_list)) (aw (bj (bL qX (pv 9) ah (ba _)) (ai (pS 10 nd (pf pP hr (aa (az uz (az bc (az bc (px K (pv 0) ah) (pv 7)) (pv 8)) ah) (aa (az uz (pv 9) ah) ae)))) (aw (fF (pf sH hr (aa (cV (aa (px K (pv 3) (pv 4)) (aa (pv 10) ae))) ae)) (qW (pv 3) (pv 4) set_list)))) bu))))) bu)))) (aw (aJ (pv 3))))),?_⟩;obtain⟨ia,xs,rfl,hi,gP⟩:=ri.lst_inv;obtain⟨ma,mb,rfl,gs,je⟩:=kr rm;have lx:=gP.length;have ll:=row.len;have lr:=aF.len;refine⟨_,rfl,ia,_,rfl,.inl hi,_,_,rfl,rfl,_,rfl,by lia,by lia,fun D H1 n1=>?_⟩;have eN:((xs.length:Int)+1).toNat=os.length+1:=by lia
   rw[eN];refine a7Y (K:=K) (lo:=0) (n:=os.length+1) (ds:=(j6 j rate os 0).map cD) _ n1 (by rw[bT,nQ]) (by lia) (uI _) ?_ ?_
   · intro i d H2 Q' ed s2 hq
     have PL:i<=os.length:=by have:=(dh.mp ed).1;rw[bT,nQ]at this;lia
     have e0:d=cD 0:=by
      rw[bZ,uy j rate os 0 PL]at ed;have:=(dj ed).symm;rw[this];congr 1;split
      · next h => have:i=0:=by lia
                  subst this;rfl
      ·rfl
     subst e0;refine⟨bI rfl,fun z H3 n3=>?_⟩;exact hq _ _ n3.same (aR.rd ⟨z,rfl,aI.of n3.at'⟩)
   intro H2 ys s2 d2 r2;refine⟨_,rfl,ia,_,rfl,.inl (hi.go s2),_,_,rfl,⟨by decide,by decide,by lia,by lia⟩,?_⟩;refine B9 (Pv:=fun i σ H5=>ak H H5/\∃(ys:List V)(v1 v2 v3 v4 v5 v6 v7:Option V),H5 D=some (.lst ys)/\aE K H5 ys ((j6 j rate os i).map cD)/\σ=[some (.ref ma),some (.ref ia),some (.int rate),some (.ref D),v1,v2,v3,v4,v5,v6,v7]) ?_ ?_ ?_
   ·exact⟨s2,ys,none,none,none,none,none,none,none,d2,r2,rfl⟩
   · rintro i σ H5 AO ⟨s5,ys,v1,v2,v3,v4,v5,v6,v7,dl,p7,rfl⟩
     have hio:i+1<os.length:=by lia
     have mF:=bN (show i<os.length by lia);have lA:=bN hio;obtain⟨x1,pU⟩:∃x,xs[i]? =some x:=⟨_,bN (show i<xs.length by lia)⟩;obtain⟨x2,Bc⟩:∃x,xs[i+1]? =some x:=⟨_,bN (show i+1<xs.length by lia)⟩;obtain⟨d1,e1,r1⟩:=gP.get' i pU;obtain⟨d2,e2,r2⟩:=gP.get' (i+1) Bc;have i1:=row.it i d1 _ e1 mF;have i2:=row.it (i+1) d2 _ e2 lA;have AH:ownF j rate os (i+1)=betR j rate os[i] os[i+1]:=by show betR j rate (atO os i) (atO os (i+1))=_;rw[Ow.oF mF,Ow.oF lA]
     have Ir:((1:Int)+(i:Int)-1).toNat=i:=by lia
     have Iq:((1:Int)+(i:Int)).toNat=i+1:=by lia
     have IZ:fz xs ((1:Int)+(i:Int)-1)=some x1:=cN (by lia) (by rw[Ir];exact pU);have at2:fz xs ((1:Int)+(i:Int))=some x2:=cN (by lia) (by rw[Iq];exact Bc);have PM:=hi.go s5;obtain⟨a1,w1,y1,rfl,h1,ew1,Xp⟩:=uU (RD.mono s5 _ r1) i1;obtain⟨a2,w2,y2,rfl,h2,ew2,Xo⟩:=uU (RD.mono s5 _ r2) i2;have same:os[i]=none\/os[i+1]=none->aE K H5 ys ((j6 j rate os (i+1)).map cD):=fun hn=>by
      rw[a0q j rate os i (by lia)]
      ·exact p7
      · rw[AH]
        rcases hn with e|e
        ·rw[e];exact Ow.Sk _ _ _
        ·rw[e];exact Ow.Bu _ _ _
     refine⟨_,rfl,_,rfl,_,_,rfl,rfl,.inl ⟨ia,_,_,_,rfl,rfl,PM,IZ,_,rfl,_,rfl,.inl ⟨ia,_,_,_,rfl,rfl,PM,at2,_,_,rfl,?_⟩⟩⟩;refine⟨_,rfl,.inr ⟨a1,_,0,.str w1,rfl,rfl,h1,cN (fY 0) rfl,.inr ⟨_,_,cH _,cH _,Xp,rJ,_,rfl,?_⟩⟩⟩;rw[ew1];cases GF:os[i]with |none=>exact bf ⟨s5,ys,_,_,_,_,_,_,_,dl,same (.inl GF),rfl⟩ |some q1=>refine bF ?_;refine⟨_,rfl,.inr ⟨a2,_,0,.str w2,rfl,rfl,h2,cN (fY 0) rfl,.inr ⟨_,_,cH _,cH _,Xo,rJ,_,rfl,?_⟩⟩⟩;rw[ew2];cases uZ:os[i+1]with |none=>exact bf ⟨s5,ys,_,_,_,_,_,_,_,dl,same (.inr uZ),rfl⟩ |some q2=>
         refine bF ?_;obtain⟨ns,sp⟩:=q1;obtain⟨ms,sq⟩:=q2;rw[GF]at i1 mF;rw[uZ]at i2 lA;have ed1:=jQ i1;have ed2:=jQ i2;subst ed1 ed2;obtain⟨fG,p1,p2⟩:=row.ok i ns sp mF;obtain⟨dG,q1,q2⟩:=row.ok (i+1) ms sq lA;have T1:Bd 2000 (topR rate sp):=(Ow.tY p1 p2 rt1 rt2).mono (by decide);have T2:Bd 2000 (topR rate sq):=(Ow.tY q1 q2 rt1 rt2).mono (by decide);have l1:=xE fG;have l2:=xE dG;have lq1:=fG.lead.1;have lq2:=dG.lead.1;have ln1:ns.length<=3:=by rw[fG.len];lia
         have ln2:ms.length<=3:=by rw[dG.len];lia
         have OO:ms.length=ns.length:=by rw[fG.len,dG.len]
         refine⟨_,rfl,_,ns,sp,rfl,RD.mono s5 _ r1,fG.ne,by lia,fun H6 s6=>?_⟩;have MY:=s5.trans s6;refine⟨_,rfl,_,ms,sq,rfl,RD.mono MY _ r2,dG.ne,by lia,fun H7 s7=>?_⟩;refine⟨bI rfl,fun tq H7' FV=>?_⟩;refine⟨tq,_,rfl,aI.of FV.at',rfl,_,_,rfl,_,_,rfl,rfl,?_⟩;have m6:=MY.trans (s7.trans FV.same);have Yp:=s6.trans (s7.trans FV.same);obtain⟨a1',b1,ea1,ha1,AW⟩:=kX (RD.mono m6 _ r1);obtain⟨a2',b2,ea2,ha2,lK⟩:=kX (RD.mono m6 _ r2);cases ea1;cases ea2;refine⟨_,rfl,.inr ⟨a1,_,1,.ref b1,rfl,rfl,ha1,rfl,_,rfl,.inr ⟨a2,_,1,.ref b2,rfl,rfl,ha2,rfl,b1,b2,rfl,⟨_,AW⟩,⟨_,lK⟩,fun D4 H8 n8=>?_⟩⟩⟩;refine sX (K:=K) (b1:=false) (b2:=false) (xs:=ns.map V.int) (ys:=ms.map V.int) (ds:=((cM ns ms).map ij).map PyData.int) _ rfl AW lK n8 (by simp[cM]) (by simp[cM];lia) (kj _) ?_ ?_
         · intro i x y d H9 Q' ex ey ed s9 hq
           obtain⟨a,b,e1,e2,rfl,rfl⟩:=zip2 OO ex ey;obtain⟨m,em,rfl⟩:=lE ed;rw[bZ,JR e1 e2]at em;cases em;have q1:=fG.bd a (gf e1);have q2:=dG.bd b (gf e2);refine⟨_,rfl,_,rfl,_,_,rfl,rfl,.of_left (bM (by lia) (by lia)),?_⟩;refine⟨_,rfl,_,rfl,_,_,rfl,rfl,.of_left (bM (by lia) (by lia)),?_⟩;exact⟨_,_,rfl,rfl,_,rfl,hq _ _ (ak.refl _) (cX _)⟩
         intro H9 zs s9 d9 r9;rw[r9.iH]at d9;have jC:cM ns ms≠[]:=by
          have hl:(cM ns ms).length=ns.length:=by simp[cM,OO]
          intro e;rw[e]at hl;exact fG.ne (C5.mp hl.symm)
         refine⟨D4,_,rfl,au.of d9,by simpa using jC,fun M h1 h2=>?_⟩;have eM:=Ga jC h1 h2;subst eM;have MX:=m6.trans s9;have Yo:=Yp.trans s9;refine⟨_,rfl,_,rfl,_,ns,sp,rate,rfl,RD.mono MX _ r1,p1,p2,rt1,rt2,fun t1 ji EW m7=>?_⟩;refine⟨_,rfl,_,rfl,_,ms,sq,rate,rfl,RD.mono (MX.trans m7) _ r2,q1,q2,rt1,rt2,fun t2 ir EV zN=>?_⟩;refine⟨bI rfl,fun lm qk Aa=>?_⟩;have R1:aR K qk t1 (topR rate sp):=(EW.go zN).go Aa.same;have R2:aR K qk t2 (topR rate sq):=EV.go Aa.same;refine⟨lm,[t1,t2],[topR rate sp,topR rate sq],rfl,au.of Aa.at',⟨R1,T1,R2,T2,trivial⟩,by simp,fun c lv q Io Rg hq=>?_⟩;have rQ:mn (topR rate sp) (topR rate sq)=q:=by
          refine mi ?_ (hq _ (by simp)) (hq _ (by simp))
          match c,Rg with |0,e2=>cases e2;exact .inl rfl |1,e2=>cases e2;exact .inr rfl
         have rl:aR K qk lv (mn (topR rate sp) (topR rate sq)):=by
          rw[rQ]
          match c,Io,Rg with |0,e1,e2=>cases e1;cases e2;exact R1 |1,e1,e2=>cases e1;cases e2;exact R2
         have Yn:=m7.trans (zN.trans Aa.same);have EJ:=Yo.trans Yn;have Iy:=EJ _ _ dl;have ly:=p7.length;rw[bT,nQ]at ly;have Pa:jb ys.length ((1:Int)+(i:Int))=some (i+1):=by unfold jb;rw[aO (by lia),aO (by lia),Iq]
         refine⟨_,rfl,_,rfl,D,ys,_,_,rfl,rfl,Iy,Pa,?_⟩;have F7:=aE.D8 (i:=i+1) Iy (aE.mono EJ _ p7) rl.rd (uI _) (p8 _);have sD:∀{o:HO},ak H (L2.upd qk D o):=fun{o} b o' e=>by rw[aB (fH e n1.no)];exact EJ b o' (s5 b o' e)
         have tU:ip qk (L2.upd qk D (.lst (ys.set (i+1) lv))):=.oX Iy;refine⟨_,rfl,_,_,rfl,rfl,_,rfl,?_⟩;rw[GF,uZ]at AH;have cO:cornO j ns ms=if ay (cM ns ms)=0 then none else some (Rat.divInt ((j*ay ns*ay ms)^2) ((ay (cM ns ms):Int)^2)):=rfl;show if decide ((ay (cM ns ms):Int)>0)=true then _ else _;by_cases h0:ay (cM ns ms)=0
         · rw[eg (by lia)]
           refine bf ?_;rw[aO h0]at cO;refine⟨sD,ys.set (i+1) lv,_,_,_,_,_,_,_,aQ,?_,rfl⟩;rw[<-yM]at F7;have e:(j6 j rate os i).set (i+1) (mn (topR rate sp) (topR rate sq))=j6 j rate os (i+1):=by rw[<-NQ j rate os i (by lia),AH];show _=List.set _ _ (mnO _ (cornO j ns ms));rw[cO];rfl
           rw[<-e];exact F7
         · rw[ck (by lia)]
           refine bF ?_;rw[aP h0]at cO;have jl:(j*ay ns).natAbs<=50*100:=ko (by have:=aF.j1;lia) (by lia);have jl2:(j*ay ns*ay ms).natAbs<=50*100*100:=ko jl (by lia);have cb:=Bn (fun z hz=>by have:=fG.bd z hz;lia) (fun z hz=>by have:=dG.bd z hz;lia) (ns:=ns) (ms:=ms);have la:=mm cb;have kF:(2:Nat)^64=18446744073709551616:=by decide
           refine⟨_,rfl,.inr ⟨ma,_,3,.int j,rfl,rfl,gs.go sD,rfl,?_⟩⟩;refine⟨_,rfl,_,_,rfl,rfl,.of_left (bM (by have:=aF.j1;lia) (by have:=aF.j1;lia)),_,rfl,_,_,rfl,rfl,.of_right (bM (by lia) (by lia)),?_⟩;refine⟨_,_,rfl,rfl,⟨by decide,by decide,by rw[kF];lia⟩,_,rfl,_,_,rfl,rfl,⟨by decide,by decide,by rw[kF];lia⟩,_,_,rfl,?_,?_,fun v6 Jk r6 cP=>?_⟩
           · show 0<(ay (cM ns ms):Int)^2
             rw[fo,fo,kO,jV];exact gW (by lia) (by lia)
           · refine gF (n:=64) ?_ (by decide)
             show((ay (cM ns ms):Int)^2).natAbs<_;rw[fo,fo,kO,jV,kF];have:=ko (a:=(ay (cM ns ms):Int)) (b:=(ay (cM ns ms):Int)) (m:=2000000) (n:=2000000) (by lia) (by lia)
             lia
           have Rc:aR K Jk v6 (Rat.divInt ((j*ay ns*ay ms)^2) ((ay (cM ns ms):Int)^2)):=r6;have Tc:Bd 2000 (Rat.divInt ((j*ay ns*ay ms)^2) ((ay (cM ns ms):Int)^2)):=(Ow.IE aF.j1.1 aF.j1.2 fG.bd dG.bd cO).mono (by decide);generalize Rat.divInt ((j*ay ns*ay ms)^2) ((ay (cM ns ms):Int)^2)=cq at Rc Tc cO;have Rw:=cP _ _ (aQ (H:=qk) (a:=D) (o:=.lst (ys.set (i+1) lv)));have at3:fz (ys.set (i+1) lv) ((1:Int)+(i:Int))=some lv:=cN (by lia) (by rw[Iq,yN (by lia)]);have a9a:aR K Jk lv (mn (topR rate sp) (topR rate sq)):=m9 (RD.mono cP _ (RD.t tU _ (p8 _) rl.rd));refine⟨_,rfl,_,rfl,.inl ⟨D,_,_,_,rfl,rfl,au.of Rw,at3,_,rfl,?_⟩⟩;refine⟨bI rfl,fun G8 Vr uN=>?_⟩;have SQ:=a9a.go uN.same;have SO:=Rc.go uN.same;refine⟨G8,[lv,v6],[mn (topR rate sp) (topR rate sq),cq],rfl,au.of uN.at',⟨SQ,Ow.xA T1 T2,SO,Tc,trivial⟩,by simp,fun c' lv2 q' a7m Rb jy=>?_⟩;have a4v:mn (mn (topR rate sp) (topR rate sq)) cq=q':=by
            refine mi ?_ (jy _ (by simp)) (jy _ (by simp))
            match c',Rb with |0,e2=>cases e2;exact .inl rfl |1,e2=>cases e2;exact .inr rfl
           have F1:aR K Vr lv2 (mn (mn (topR rate sp) (topR rate sq)) cq):=by
            rw[a4v]
            match c',a7m,Rb with |0,e1,e2=>cases e1;cases e2;exact SQ |1,e1,e2=>cases e1;cases e2;exact SO
           have Rr:=uN.same _ _ Rw;refine⟨_,rfl,_,rfl,D,_,_,_,rfl,rfl,Rr,(by rw[tR];exact Pa),?_⟩;have Ni:=aE.D8 (i:=i+1) Rr (aE.mono (cP.trans uN.same) _ F7) F1.rd (by rw[<-yM];exact uI _) (p8 _);refine⟨fun b o' e=>by rw[aB (fH e n1.no)];exact uN.same b o' (cP b o' (sD b o' e)),_,_,_,_,_,_,_,_,aQ,?_,rfl⟩;rw[JD,JD,<-yM]at Ni;have e:(j6 j rate os i).set (i+1) (mn (mn (topR rate sp) (topR rate sq)) cq)=j6 j rate os (i+1):=by rw[<-NQ j rate os i (by lia),AH];show _=List.set _ _ (mnO _ (cornO j ns ms));rw[cO];rfl
           rw[<-e,JD];exact Ni
   · rintro σ H5 ⟨s5,ys,v1,v2,v3,v4,v5,v6,v7,dl,p7,rfl⟩
     have e:j6 j rate os ((xs.length:Int)-1).toNat=ownL j rate os:=by
      apply qy;intro k;by_cases hk:k<=os.length
      · rw[uy j rate os _ hk,Ow.NS j rate os hk]
        congr 1;split
        ·rfl
        · have:k=os.length:=by lia
          exact(Ow.Fy j rate os k this).symm
      ·rw[kN (by rw[nQ];lia),kN (by rw[Ow.NR];lia)]
     rw[e]at p7;exact⟨_,rfl,k D ys H5 n1.no dl p7 s5⟩
inductive Tt(K:aaU)(vs:List V)(H:Hp)(Q:VK):Prop |mk (m:_)(sq:_)(rs:_)(r:_)(f:_)(j:_)(ti:_)(q:_)(h0:vs=[m,sq])(h1:RD K H m (iG rs r f j ti))(h2:aR K H sq q)(h3:Bd 2000 q)(h4:1<=ti)(h5:ti<=100)(h6:0<q.num)(h7:∀T,1<=T->T.natAbs<2^2400->fJ ti q T=true->fJ ti q (T-1)=false->∀H',ak H H'->Q (.int T) H'):Tt K vs H Q
def KH(K:aaU):Sp:=fun vs H Q _=>Tt K vs H Q
theorem LL:aW ["_law_machine_here","_law_square","_law_wanted","_law_low","_law_high","_law_half"] ["_law_machine_here","_law_square"] (aK Dn):=bh (by decide+kernel)
theorem a0O(F:FA K mg "_law_ticks" Dn)(B:bw mg):aj P w K mg base "_law_ticks" 1 (KH K):=by
 refine F.has LL (fun vs H Q E h=>?_) (fun _ _ _ _ _ _=>cW fun _ _=>rfl) (fun f aD A outer s H vs Q E hr h=>?_)
 · obtain⟨m,sq,rs,r,f,j,ti,q,rfl,_⟩:=h
   rfl
 · obtain⟨m,sq,rs,r,f,j,ti,q,rfl,rm,⟨p,rfl,hp⟩,bq,t1,t2,hq,k⟩:=h
   have nd:=LL.nd;refine⟨_,(ai (pS 2 nd (az bc (az uz (px K (pv 0) ah) ah) (px K (pv 1) ah))) (ai (fF (dw (aa ah (aa ah ae))) (du K rfl (n:=2) rfl (bE (aX 3 nd) (bE (aX 4 nd) dk)))) (ai (md gE (bL jv (az bc (az bc (pv 4) (pv 4)) (px K (pv 1) ah)) (pv 2) (ba _)) (aw (nO (i:=3) (j:=4) rfl nd rfl rfl (by decide) rfl rfl (aa (pv 4) (aa (az bc ah (pv 4)) ae)) rfl))) (ai (md gE (bL qX (az fQ (pv 4) (pv 3)) ah (ba _)) (ai (pS 5 nd (az lD (az cE (pv 3) (pv 4)) ah)) (aw (bj (bL jv (az bc (az bc (pv 5) (pv 5)) (px K (pv 1) ah)) (pv 2) (ba _)) (aw (pS 3 nd (pv 5))) (aw (pS 4 nd (pv 5))))))) (aw (aJ (pv 4))))))),?_⟩;obtain⟨a,b,rfl,ha,hb⟩:=kr rm;have m1:(ti*ti).natAbs<=100*100:=by rw[fq];exact lU (by lia) (by lia)
   have eP:ti^(2:Int).toNat=ti*ti:=by show ti^2=ti*ti;rw[fo,fo,kO,jV]
   have lim:(ti*ti*(q.den:Int)).natAbs<2^2399:=by have hd:=bq.den;rw[fq];have:(q.den:Int).natAbs=q.den:=rfl;rw[this];have:=kn (n:=14) (m:=2000) (a:=(ti*ti).natAbs) (b:=q.den) (oQ m1 (by decide)) hd;exact fL this (qx (by decide) (by decide))
   have p0:0<ti*ti*(q.den:Int):=gW (gW (by lia) (by lia)) (den_pos q);have e2:(2:Nat)^2400=2^2399*2:=Nat.pow_succ 2 2399;have yY:∀{t:Int},t.natAbs<2^2400->Wd (t*t):=fun{t} tw=>gF (n:=4800) (by rw[fq];exact kn (n:=2400) (m:=2400) tw tw) (by decide);have wt:∀{t:Int},t.natAbs<2^2400->Wd t:=fun{t} tw=>gF tw (by decide);refine⟨_,rfl,.inr ⟨a,_,4,.int ti,rfl,rfl,ha,rfl,?_⟩⟩
   refine ⟨_, _, rfl, rfl, ⟨by decide, by decide, by have:(2:Nat)^64=18446744073709551616:=by decide
                                                     lia⟩,?_⟩;refine⟨_,rfl,.inr ⟨p,_,1,.int q.den,rfl,rfl,hp,rfl,?_⟩⟩;refine⟨_,_,rfl,rfl,by rw[eP];exact .of_left (bM (by lia) (by lia)),?_⟩;have eW:ti^(2:Int).toNat*(q.den:Int)=ti*ti*(q.den:Int):=by rw[eP]
   have QX:∀t:Int,decide (t*t*q.num<ti^(2:Int).toNat*(q.den:Int))= !fJ ti q t:=fun t=>by unfold fJ;rw[eW,<-decide_not];exact decide_eq_decide.mpr (by lia)
   refine⟨bI rfl,fun c0 H0 n0=>?_⟩;refine⟨c0,_,rfl,aI.of n0.at',rfl,_,_,rfl,_,_,rfl,rfl,?_⟩;have AG:=hp.go n0.same;have k':∀T:Int,1<=T->T.natAbs<2^2400->fJ ti q T=true->fJ ti q (T-1)=false->Q (.int T) H0:=fun T a1 a2 a3 a4=>(k T a1 a2 a3 a4) H0 n0.same;generalize hL:ti*ti*(q.den:Int)=L at lim p0;refine lV (fun σ H2=>H2=H0/\∃(lo x:Int),σ=[some (.ref a),some (.ref p),some (.int (ti^(2:Int).toNat*(q.den:Int))),some (.int lo),some (.int x),none]/\0<=lo/\lo<x/\x<=2*L/\fJ ti q lo=false) (fun σ _=>match σ with|[_,_,_,_,some (.int x),_]=>(L-x).toNat|_=>0) ?_ ?_ ?_
   ·exact⟨rfl,0,1,rfl,by lia,by lia,by lia,QT t1⟩
   · rintro σ H2 ⟨rfl,lo,x,rfl,l0,lx,xL,hx⟩
     have xw:x.natAbs<2^2400:=by lia
     refine⟨_,rfl,_,rfl,_,_,rfl,rfl,gU (wt xw).bits (wt xw).bits,_,rfl,.inr ⟨p,_,0,.int q.num,rfl,rfl,AG,rfl,_,_,rfl,rfl,gU (yY xw).bits bq.wn.bits,?_⟩⟩;refine⟨_,rfl,_,_,rfl,rfl,_,rfl,?_⟩;show if decide (x*x*q.num<ti^(2:Int).toNat*(q.den:Int))=true then _ else _;rw[QX];cases oh:fJ ti q x with
     |false=>
       have bV:x<L:=by
        by_cases bV:x<L
        ·exact bV
        ·rw[QV hq (by lia) (by lia)]at oh;cases oh
       refine bF ?_;refine⟨_,rfl,_,rfl,_,_,rfl,rfl,.of_left (bM (by decide) (by decide)),_,_,rfl,?_⟩;refine⟨⟨rfl,x,2*x,rfl,by lia,by lia,by lia,oh⟩,?_⟩;show(L-2*x).toNat<(L-x).toNat
       lia |true=>
       refine bf ?_;refine lV (fun σ H3=>H3=H2/\∃(lo hi:Int)(v:Option V),σ=[some (.ref a),some (.ref p),some (.int (ti^(2:Int).toNat*(q.den:Int))),some (.int lo),some (.int hi),v]/\0<=lo/\lo<hi/\hi<=2*L/\fJ ti q lo=false/\fJ ti q hi=true) (fun σ _=>match σ with|[_,_,_,some (.int y),some (.int x),_]=>(x-y).toNat|_=>0) ?_ ?_ ?_
       ·exact⟨rfl,lo,x,none,rfl,by lia,by lia,xL,hx,oh⟩
       · rintro σ H3 ⟨rfl,lo,hi,v,rfl,l0,lh,xS,yc,sQ⟩
         refine⟨_,rfl,_,rfl,_,_,rfl,rfl,_,_,rfl,rfl,_,rfl,?_⟩;refine dC (fun hc=>?_) (fun hc=>?_)
         · have hgt:hi-lo>1:=jm hc
           refine⟨_,rfl,_,rfl,_,_,rfl,rfl,_,_,rfl,rfl,⟨by decide,gF (n:=2) (by decide) (by decide)⟩,?_⟩;have mw:((lo+hi)/2).natAbs<2^2400:=by lia
           refine⟨_,rfl,_,rfl,_,_,rfl,rfl,gU (wt mw).bits (wt mw).bits,_,rfl,.inr ⟨p,_,0,.int q.num,rfl,rfl,AG,rfl,_,_,rfl,rfl,gU (yY mw).bits bq.wn.bits,?_⟩⟩;refine⟨_,rfl,_,_,rfl,rfl,_,rfl,?_⟩;show if decide ((lo+hi)/2*((lo+hi)/2)*q.num<ti^(2:Int).toNat*(q.den:Int))=true then _ else _;rw[QX];cases hm:fJ ti q ((lo+hi)/2)with
           |true=>
             refine bf ?_;refine⟨_,rfl,⟨rfl,lo,_,_,rfl,l0,by lia,by lia,yc,hm⟩,?_⟩;show((lo+hi)/2-lo).toNat<(hi-lo).toNat
             lia |false=>
             refine bF ?_;refine⟨_,rfl,⟨rfl,_,hi,_,rfl,by lia,by lia,xS,hm,sQ⟩,?_⟩;show(hi-(lo+hi)/2).toNat<(hi-lo).toNat
             lia
         · have hle:¬hi-lo>1:=fun z=>hc (ck z)
           have e:lo=hi-1:=by lia
           subst e;exact⟨_,rfl,k' hi (by lia) (by lia) sQ yc⟩
       · rintro σ H2 Q1 Q2 hq ⟨v1,e1,v2,e2,i,j,e3,e4,i2,j2,e5,e6,kk,e7,q⟩
         exact⟨v1,e1,v2,e2,i,j,e3,e4,i2,j2,e5,e6,kk,e7,hq _ _ q⟩
   · rintro σ H2 Q1 Q2 hq ⟨v1,e1,v2,e2,i,j,e3,e4,mo,v3,e5,h⟩
     refine⟨v1,e1,v2,e2,i,j,e3,e4,mo,v3,e5,?_⟩;rcases h with⟨a,xs,ii,x,f1,f2,f3,f4,i2,j2,g1,g2,g3,v4,g4,i3,j3,g5,g6,kk,g7,q⟩|⟨a,xs,ii,x,f1,f2,f3,f4,i2,j2,g1,g2,g3,v4,g4,i3,j3,g5,g6,kk,g7,q⟩
     ·exact .inl ⟨a,xs,ii,x,f1,f2,f3,f4,i2,j2,g1,g2,g3,v4,g4,i3,j3,g5,g6,kk,g7,hq _ _ q⟩
     ·exact .inr ⟨a,xs,ii,x,f1,f2,f3,f4,i2,j2,g1,g2,g3,v4,g4,i3,j3,g5,g6,kk,g7,hq _ _ q⟩
inductive Tz(K:aaU)(vs:List V)(H:Hp)(Q:VK):Prop |mk (v:_)(ns:_)(sp:_)(k:_)(h0:vs=[v,.int k])(h1:RD K H v (hZ ns sp))(h2:dR ns.length 1000 ns)(h3:ns.length<=1000)(h4:0<=k)(h5:k<=10^6)(h6:∀v' H',RD K H' v' (CG ns k)->ak H H'->Q v' H'):Tz K vs H Q
def KJ(K:aaU):Sp:=fun vs H Q _=>Tz K vs H Q
theorem a6X{k n q:Int}(hk:0<=k)(hq:0<q):(if n<0 then-((2*k*ij n+q)/(2*q))else(2*k*ij n+q)/(2*q))=gM (k*n) q:=by
 have e:2*k*ij n=2*((k*n).natAbs:Int):=by rw[yn,fq,Int.natCast_mul,tV,Int.natAbs_of_nonneg hk]
 rw[e];show(if n<0 then-(jZ (k*n) q)else jZ (k*n) q)=gM (k*n) q;rcases JM n 0 with hn|hn
 · rw[aO hn]
   rcases JM 0 k with h0|h0
   · have:k*n<0:=Int.mul_neg_of_pos_of_neg h0 hn
     unfold gM;rw[aP (by lia)]
   · have e0:k=0:=by lia
     rw[e0,yQ,FT hq];have:=FT hq;unfold gM at this;rw[aO (by lia)]at this
     lia
 · rw[aP (by lia)]
   have:0<=k*n:=jo hk hn;unfold gM;rw[aO this]
theorem LP:aW ["_law_line_here","_law_k","_law_lead_here","_law_found","_law_step","_law_far"] ["_law_line_here","_law_k"] (aK Dt):=bh (by decide+kernel)
theorem a0S(F:FA K mg "_law_stand" Dt)(B:bw mg)(pO:aj P w K mg base "_law_lead" 1 (kQ K)):aj P w K mg base "_law_stand" 2 (KJ K):=by
 refine F.has LP (fun vs H Q E h=>?_) (fun _ _ _ _ _ _=>cW fun _ _=>rfl) (fun f aD A outer s H vs Q E hr h=>?_)
 · obtain⟨v,ns,sp,k,rfl,_⟩:=h
   rfl
 · obtain⟨v,ns,sp,kk,rfl,rd,ok,hz,hk,mr,k⟩:=h
   have nd:=LP.nd;refine⟨_,(ai (pS 2 nd (pf pO hr (aa (pv 0) ae))) (ai (pS 3 nd (cV ae)) (ai (kU gE rfl (p9 K rfl (px K (pv 0) ah)) (aX 4 nd) (ai (pS 5 nd (az lD (az cE (az bc (az bc ah (pv 1)) (cQ (x:="abs") mK rfl (B.at "abs") oP (aa (pv 4) ae))) (pv 2)) (az bc ah (pv 2)))) (aw (gY (jt K rfl (pv 3) (aa (px K (cV (aa (pv 5) (aa (wW wj (pv 5)) ae))) (gZ (x:="int") Sa rfl (B.at "int") Jw (aa (eQ jv (pv 4) ah (ba _)) ae))) ae)))))) (aw (aJ (gZ (x:="tuple") (kP K rfl) rfl (B.at "tuple") fD (aa (pv 3) ae))))))),?_⟩;refine⟨_,rfl,v,ns,sp,rfl,rd,ok.ne,hz,fun H1 s1=>?_⟩;obtain⟨lp,lm⟩:=ok.lead;refine⟨bI rfl,fun l H2 n2=>?_⟩;obtain⟨a,b,rfl,ha,hb⟩:=kX (RD.mono (s1.trans n2.same) _ rd);refine⟨_,rfl,.inr ⟨a,_,1,.ref b,rfl,rfl,ha,rfl,b,rfl,⟨_,hb⟩,a6I (K:=K) (a:=b) (xs:=ns.map V.int) (fun i σ H3=>ak H1 H3/\aI K H3 b (ns.map V.int)/\H3 l=some (.lst (((ns.map fun z=>gM (kk*z) (ay ns)).take i).map V.int))/\∃v1 v2,σ=[some (.ref a),some (.int kk),some (.int (ay ns)),some (.ref l),v1,v2]) ⟨n2.same,hb,n2.at',none,none,rfl⟩ (fun i σ H3 _ h=>h.2.1) ?_ ?_⟩⟩
   · rintro i x σ H3 hx ⟨s3,Q4,dl,v1,v2,rfl⟩
     obtain⟨n,en⟩:∃n,ns[i]? =some n:=by rw[bZ]at hx;cases e:ns[i]? with |none=>rw[e]at hx;cases hx |some n=>exact⟨n,rfl⟩
     cases xB hx en;have nb:=ok.bd n (gf en);have hi:i<ns.length:=(dh.mp en).1;have ab:ij n=(n.natAbs:Int):=yn n;have pb:=NA (k:=kk) (z:=n) (by lia) nb;have eA:2*kk*ij n=2*((kk*n).natAbs:Int):=by rw[ab,fq,Int.natCast_mul,tV,Int.natAbs_of_nonneg hk]
     refine⟨_,rfl,_,_,rfl,rfl,.of_left (bM (by decide) (by decide)),_,rfl,_,rfl,_,_,rfl,rfl,.of_left (bM (by lia) (by lia)),_,rfl,_,_,rfl,rfl,_,rfl,_,_,rfl,rfl,.of_left (bM (by decide) (by decide)),_,_,rfl,rfl,⟨by lia,JT (by lia)⟩,?_⟩;have fn:=a6X (n:=n) hk (show(0:Int)<ay ns by lia);refine⟨_,rfl,.inl ⟨rfl,_,au.of dl⟩,_,rfl,_,rfl,_,rfl,bI rfl,fun c H4 n4=>?_⟩;refine⟨_,rfl,_,_,rfl,rfl,.inr ⟨_,rfl,?_⟩⟩;have Oo:=n4.same _ _ dl;have xR:fz ([.int ((2*kk*ij n+(ay ns:Int))/(2*(ay ns:Int))),.int (-((2*kk*ij n+(ay ns:Int))/(2*(ay ns:Int))))]:List V) (if decide (n<0)=true then 1 else 0)=some (.int (gM (kk*n) (ay ns))):=by
      rw[<-fn];by_cases hn:n<0
      ·rw[aO (ck hn),aO hn];rfl
      ·rw[aP (fun z=>hn (jm z)),aP hn];rfl
     refine .inl ⟨c,_,_,_,rfl,rfl,au.of n4.at',xR,?_⟩;refine⟨l,_,_,rfl,rfl,Oo,?_,?_⟩
     · have:(1000:Nat)<sizeLine:=by decide
       rw[bT,nc,bT];lia
     refine⟨fun b o e=>?_,aI.t (.oX Oo) (Q4.go n4.same),?_,_,_,rfl⟩
     ·rw[aB (fH e n2.no)];exact n4.same b o (s3 b o e)
     ·rw[aQ,oT,bZ,en,mZ];rfl
   · rintro σ H3 ⟨s3,Q4,dl,v1,v2,rfl⟩
     rw[JC (by simp)]at dl;refine⟨_,rfl,l,_,rfl,.inl ⟨au.of dl,fun t H4 n4=>?_⟩⟩;exact k _ _ (iB (aI.of n4.at') (uq _)) (s1.trans (s3.trans n4.same))
end
end Lw
set_option maxHeartbeats 2000000
namespace Lw
open PySem PySem.Spec PyProof.Rows L2 Rt Ln Cn Pn Wk Rn
open Ow (topR cornO mnO betR atO ownF leadF ownL OkI OkIs)
section
variable {w:World}{mg:Str->Option Value}{base:Heap}
theorem fb{n:Nat}(h:n+64<cLine):n+1<cLine:=oQ (Nat.add_le_add_left (by decide) n) h
theorem cj{X:Cx}{k:Nat}{o i:Expr}{td ty:TE}{pos:Pos}(hr:cu k X.A)(ho:PE X o td)(hi:PE X i ty)(hs:Ja i:=by exact fun _ _=>rfl):PE X (.Subscript o i pos) (Kl td ty):=a0a (fb hr.units) ho hi hs
def aZ(m p g s r t k q n b c re td:V):List (Key×V):=[(.inr "machine",m),(.inr "place",p),(.inr "goal",g),(.inr "square",s),(.inr "rate",r),(.inr "tool",t),(.inr "mark",k),(.inr "queue",q),(.inr "gone",n),(.inr "brake",b),(.inr "braked",c),(.inr "reach",re),(.inr "told",td)]
section
variable {H:Hp}{a:Addr}{m p g s r t k q n b c re td x:V}
theorem dg{aG:List (Key×V)}{z:Str}{v:V}(h:H a=some (.dK aG))(e:fE aG (.inr z)=some v):tH H a (.str z) (some v):=by rw[<-e];exact tH.k (k:=Sum.inr z) h
theorem dp{aG P4:List (Key×V)}{z:Str}{v:V}(h:H a=some (.dK aG))(e:putK aG (.inr z) v=P4)(hl:aG.length<=13):qm H a (.str z) v (L2.upd H a (.dK P4)):=by rw[<-e];exact qm.k (k:=Sum.inr z) h (oQ hl (by decide))
theorem xW:fE (aZ m p g s r t k q n b c re td) (.inr "machine")=some m:=by kernel_rfl
theorem Qt:fE (aZ m p g s r t k q n b c re td) (.inr "place")=some p:=by kernel_rfl
theorem Ht:fE (aZ m p g s r t k q n b c re td) (.inr "goal")=some g:=by kernel_rfl
theorem sM:fE (aZ m p g s r t k q n b c re td) (.inr "square")=some s:=by kernel_rfl
theorem Hs:fE (aZ m p g s r t k q n b c re td) (.inr "rate")=some r:=by kernel_rfl
theorem a6E:fE (aZ m p g s r t k q n b c re td) (.inr "tool")=some t:=by kernel_rfl
theorem a6F:fE (aZ m p g s r t k q n b c re td) (.inr "mark")=some k:=by kernel_rfl
theorem lj:fE (aZ m p g s r t k q n b c re td) (.inr "queue")=some q:=by kernel_rfl
theorem B7:fE (aZ m p g s r t k q n b c re td) (.inr "gone")=some n:=by kernel_rfl
theorem xX:fE (aZ m p g s r t k q n b c re td) (.inr "brake")=some b:=by kernel_rfl
theorem Qu:fE (aZ m p g s r t k q n b c re td) (.inr "braked")=some c:=by kernel_rfl
theorem Qs:fE (aZ m p g s r t k q n b c re td) (.inr "reach")=some re:=by kernel_rfl
theorem Hr:fE (aZ m p g s r t k q n b c re td) (.inr "told")=some td:=by kernel_rfl
theorem a0l:putK (aZ m p g s r t k q n b c re td) (.inr "place") x=aZ m x g s r t k q n b c re td:=by kernel_rfl
theorem a0n:putK (aZ m p g s r t k q n b c re td) (.inr "goal") x=aZ m p x s r t k q n b c re td:=by kernel_rfl
theorem a0k:putK (aZ m p g s r t k q n b c re td) (.inr "square") x=aZ m p g x r t k q n b c re td:=by kernel_rfl
theorem a0j:putK (aZ m p g s r t k q n b c re td) (.inr "tool") x=aZ m p g s r x k q n b c re td:=by kernel_rfl
theorem a0m:putK (aZ m p g s r t k q n b c re td) (.inr "mark") x=aZ m p g s r t x q n b c re td:=by kernel_rfl
theorem NN:putK (aZ m p g s r t k q n b c re td) (.inr "gone") x=aZ m p g s r t k q x b c re td:=by kernel_rfl
theorem NP:putK (aZ m p g s r t k q n b c re td) (.inr "brake") x=aZ m p g s r t k q n x c re td:=by kernel_rfl
theorem NO:putK (aZ m p g s r t k q n b c re td) (.inr "braked") x=aZ m p g s r t k q n b x re td:=by kernel_rfl
theorem zZ:putK (aZ m p g s r t k q n b c re td) (.inr "reach") x=aZ m p g s r t k q n b c x td:=by kernel_rfl
theorem jq:(aZ m p g s r t k q n b c re td).length<=13:=bo _
end
def tI(K:aaU)(H:Hp)(bv cv:V):Rn.fT->Prop |none=>bv= .aY/\∃c,cv= .int c |some (sq,st,gn)=>∃a u,bv= .ref a/\aI K H a [u,.int st]/\aR K H u sq/\cv= .int gn
theorem tI.v{H H':Hp}{bv cv:V}{t:Rn.fT}(s:bG H H')(h:tI K H bv cv t):tI K H' bv cv t:=by cases t with |none=>exact h |some q=>obtain⟨sq,st,gn⟩:=q;obtain⟨a,u,rfl,h1,h2,h3⟩:=h;exact⟨a,u,rfl,aI.v s h1,aR.v s h2,h3⟩
def yt(K:aaU)(H:Hp)(M:bp)(S:aU)(rv:V):Prop:=rv= .aY\/aR K H rv (fg M S)
theorem yt.v{H H':Hp}{M:bp}{S:aU}{rv:V}(s:bG H H')(h:yt K H M S rv):yt K H' M S rv:=h.imp id (aR.v s)
structure da(K:aaU)(H:Hp)(d q td:Addr)(M:bp)(S:aU):Prop where
 ob:∃mv lv gv sv bv cv rv,H d=some (.dK (aZ mv lv gv sv (.int S.rate) (.str S.side) (.str S.mark) (.ref q) (.int S.dn) bv cv rv (.ref td)))/\RD K H mv M.D/\RD K H lv (eO (eL S))/\RD K H gv (eO (cC S))/\aR K H sv S.pc/\tI K H bv cv S.stp/\yt K H M S rv
 qu:∃ys,H q=some (.lst ys)/\aE K H ys S.ds
theorem da.go{H H':Hp}{d q td:Addr}{M:bp}{S:aU}(h:da K H d q td M S)(hn:cB S.ds=true)(s:bG H H')(ea:∀o,H d=some o->H' d=some o)(eq:∀o,H q=some o->H' q=some o):da K H' d q td M S:=by obtain⟨⟨mv,lv,gv,sv,bv,cv,rv,e,r1,r2,r3,r4,r5,r6⟩,ys,kH,rq⟩:=h;exact⟨⟨mv,lv,gv,sv,bv,cv,rv,ea _ e,RD.v s _ (iS _ _ _ _ _) r1,RD.v s _ (gJ _) r2,RD.v s _ (gJ _) r3,r4.v s,r5.v s,r6.v s⟩,ys,eq _ kH,aE.v s _ hn rq⟩
theorem da.same{H H':Hp}{d q td:Addr}{M:bp}{S:aU}(h:da K H d q td M S)(hn:cB S.ds=true)(s:ak H H'):da K H' d q td M S:=h.go hn s.v (fun o e=>s _ _ e) (fun o e=>s _ _ e)
theorem da.ne{H:Hp}{d q td:Addr}{M:bp}{S:aU}(h:da K H d q td M S):d≠q:=by obtain⟨⟨mv,lv,gv,sv,bv,cv,rv,e,_⟩,ys,kH,_⟩:=h;exact xq e kH (by intro z;cases z)
theorem da.v{H H':Hp}{d q td:Addr}{M:bp}{S:aU}(h:da K H d q td M S)(b:aV [d,q] H H'):bG H H':=by
 obtain⟨⟨mv,lv,gv,sv,bv,cv,rv,e,_⟩,ys,kH,_⟩:=h;refine b.v fun x hx o eo=>?_;simp only[bB,cw,df]at hx;rcases hx with rfl|rfl
 ·rw[e]at eo;cases eo;trivial
 ·rw[kH]at eo;cases eo;trivial
inductive TL(K:aaU)(vs:List V)(H:Hp)(Q:VK):Prop |mk (d:_)(q:_)(td:_)(M:_)(D:_)(S:_)(h0:vs=[.ref d])(h1:da K H d q td M S)(h2:bQ M D S)(h3:M.Ok)(h4:Q (.int (iA M.f S.pc)) H):TL K vs H Q
def CK(K:aaU):Sp:=fun vs H Q _=>TL K vs H Q
theorem LU:aW ["_law_sim_here","_law_each"] ["_law_sim_here"] (aK Dx):=bh (by decide+kernel)
theorem a0U(F:FA K mg "_law_sim_stops" Dx)(B:bw mg):aj P w K mg base "_law_sim_stops" 1 (CK K):=by
 refine F.has LU (fun vs H Q E h=>?_) (fun _ _ _ _ _ _=>dJ fun _=>rfl) (fun f aD A outer s H vs Q E hr h=>?_)
 · obtain⟨d,q,td,M,D,S,rfl,_⟩:=h
   rfl
 · obtain⟨d,q,td,M,D,S,rfl,R,ok,aF,k⟩:=h
   obtain⟨mv,lv,gv,sv,bv,cv,rv,e,r1,r2,r3,⟨pa,rfl,rV⟩,r5,r6⟩:=R.ob;have nd:=LU.nd;have pT:=aF.f1;obtain⟨ma,mb,rfl,gs,je⟩:=kr r1;have bd:Bd 1600 S.pc:=(ok.pd.bd (dB ok.pm (by decide+kernel))).mono (by have:=ok.D2;lia);have hd:0<2*M.f*(S.pc.den:Int):=gW (by lia) (den_pos S.pc);have wd:Wd (2*M.f*(S.pc.den:Int)):=by
    refine gF (n:=1700) ?_ (by decide);rw[fq];have h1:(2*M.f).natAbs<2^7:=by lia
    have:=kn h1 bd.den;exact fL this (qx (by decide) (by decide))
   refine⟨_,(ai (pS 1 nd (az bc (az bc ah (px K (cj hr (pv 0) aL) ah)) (px K (cj hr (pv 0) aL) ah))) (aw (aJ (az lD (az fQ (az cE (px K (cj hr (pv 0) aL) ah) (pv 1)) ah) (pv 1))))),?_⟩;refine⟨_,rfl,d,_,rfl,dg e xW,.inr ⟨ma,_,2,.int M.f,rfl,rfl,gs,rfl,_,_,rfl,rfl,.of_left (bM (by decide) (by decide)),?_⟩⟩;refine⟨_,rfl,d,_,rfl,dg e sM,.inr ⟨pa,_,1,_,rfl,rfl,rV,rfl,_,_,rfl,rfl,.of_left (bM (by lia) (by lia)),?_⟩⟩;refine⟨_,rfl,d,_,rfl,dg e sM,.inr ⟨pa,_,0,_,rfl,rfl,rV,rfl,_,rfl,_,_,rfl,rfl,_,_,rfl,rfl,_,rfl,_,_,rfl,rfl,⟨hd,wd⟩,?_⟩⟩;exact k
inductive TQ(K:aaU)(vs:List V)(H:Hp)(Q:VK):Prop |mk (d:_)(q:_)(td:_)(M:_)(D:_)(S:_)(h0:vs=[.ref d])(h1:da K H d q td M S)(h2:bQ M D S)(h3:M.Ok)(h4:∀H',da K H' d q td M (jd M S)->aV [d] H H'->Q (.int (iA M.f S.pc)) H'):TQ K vs H Q
def KS(K:aaU):Sp:=fun vs H Q _=>TQ K vs H Q
theorem LX:aW ["_law_sim_here","_law_many"] ["_law_sim_here"] (aK DA):=bh (by decide+kernel)
theorem a0Y(F:FA K mg "_law_sim_hold" DA)(B:bw mg)(Hl:aj P w K mg base "_law_sim_stops" 1 (CK K)):aj P w K mg base "_law_sim_hold" 2 (KS K):=by
 refine F.has LX (fun vs H Q E h=>?_) (fun _ _ _ _ _ _=>dJ fun _=>rfl) (fun f aD A outer s H vs Q E hr h=>?_)
 · obtain⟨d,q,td,M,D,S,rfl,_⟩:=h
   rfl
 · obtain⟨d,q,td,M,D,S,rfl,R,ok,aF,k⟩:=h
   obtain⟨mv,lv,gv,sv,bv,cv,rv,e,r1,r2,r3,r4,r5,r6⟩:=R.ob;obtain⟨ys,eq,rq⟩:=R.qu;have dq:=R.ne;have nd:=LX.nd;refine⟨_,(ai (pS 1 nd (pf Hl hr (aa (pv 0) ae))) (ai (gy (bj (bL O0 (cj hr (pv 0) aL) j4 (ba _)) (ai (fZ (fb hr.units) (pv 0) aL (dw (aa (cj hr (pv 0) aL) (aa (pv 1) ae))) rfl) (aw (fZ (fb hr.units) (pv 0) aL ah rfl))) bu)) (aw (aJ (pv 1))))),?_⟩;refine⟨_,rfl,d,q,td,M,D,S,rfl,R,ok,aF,?_⟩;refine⟨fun σ H1=>σ=[some (.ref d),some (.int (iA M.f S.pc))]/\da K H1 d q td M (jd M S)/\aV [d] H H1,?_,?_⟩
   · refine⟨_,rfl,d,_,rfl,dg e xX,rfl,_,rfl,?_⟩
     cases hs:S.stp with |some z=>obtain⟨sq,st,gn⟩:=z;have iC:=r5;rw[hs]at iC;obtain⟨a,u,rfl,_⟩:=iC;refine bf ⟨rfl,?_,aV.refl _ _⟩;unfold jd;rw[hs];exact R |none=>
       have iC:=r5;rw[hs]at iC;obtain⟨rfl,_⟩:=iC;refine bF ?_;refine⟨_,rfl,d,_,rfl,dg e sM,_,rfl,bI rfl,fun t H1 n1=>?_⟩;have e1:=n1.same _ _ e;refine⟨_,rfl,d,_,rfl,dp e1 NP jq,?_⟩;refine⟨_,rfl,d,_,rfl,dp aQ NO jq,rfl,?_,fun b o eb hb=>?_⟩
       · have key:∀X:Hp,(∀b,b≠d->X b=H1 b)->da K (L2.upd X d (.dK (aZ mv lv gv sv (.int S.rate) (.str S.side) (.str S.mark) (.ref q) (.int S.dn) (.ref t) (.int 0) rv (.ref td)))) d q td M (jd M S):=by
           intro X hX;have zq:bG H1 (L2.upd X d (.dK (aZ mv lv gv sv (.int S.rate) (.str S.side) (.str S.mark) (.ref q) (.int S.dn) (.ref t) (.int 0) rv (.ref td)))):=fun b o nb eb=>by
            have hb:b≠d:=fun z=>by rw[z,e1]at eb;cases eb;exact nb trivial
            rw[aB hb,hX b hb];exact eb
           have qN:=n1.same.v.trans zq;unfold jd;rw[hs];refine⟨⟨mv,lv,gv,sv,.ref t,.int 0,rv,aQ,RD.v qN _ (iS _ _ _ _ _) r1,RD.v qN _ (gJ _) r2,RD.v qN _ (gJ _) r3,r4.v qN,⟨t,sv,rfl,aI.v zq (aI.of n1.at'),r4.v qN,rfl⟩,r6.v qN⟩,ys,?_,aE.v qN _ ok.row.no rq⟩;rw[aB dq.symm,hX q dq.symm];exact n1.same _ _ eq
         exact key _ (fun b hb=>by rw[aB hb])
       · have la:b≠d:=fun z=>hb (by rw[z];exact .head _)
         rw[aB la,aB la];exact n1.same _ _ eb
   · rintro σ H1 ⟨rfl,R1,b1⟩
     exact⟨_,rfl,k _ R1 b1⟩
theorem oz{H:Hp}{a:Addr}{aG:List (Key×V)}{z:Str}{v:V}{n:Nat}(h:H a=some (.dK aG))(hl:aG.length<=n)(hn:n<=13):qm H a (.str z) v (L2.upd H a (.dK (putK aG (.inr z) v)))/\(putK aG (.inr z) v).length<=n+1:=⟨qm.k (k:=Sum.inr z) h (oQ (gR hl hn) (by decide)),gR (Am _ _ _) (Nat.succ_le_succ hl)⟩
theorem XU{mv lv s q' t':V}:putK (putK (putK (putK (putK (putK (putK (putK (putK (pD [] [(Sum.inr "machine",mv),(.inr "place",lv),(.inr "goal",lv),(.inr "square",s)]) (.inr "rate") (.int 100)) (.inr "tool") (.str "up")) (.inr "mark") (.str "")) (.inr "queue") q') (.inr "gone") (.int 0)) (.inr "brake") .aY) (.inr "braked") (.int 0)) (.inr "reach") .aY) (.inr "told") t'=aZ mv lv lv s (.int 100) (.str "up") (.str "") q' (.int 0) .aY (.int 0) .aY t':=by kernel_rfl
theorem XW{mv lv s:V}:(pD [] [(Sum.inr "machine",mv),(.inr "place",lv),(.inr "goal",lv),(.inr "square",s)]).length<=4:=by rw[show pD [] [(Sum.inr "machine",mv),(.inr "place",lv),(.inr "goal",lv),(.inr "square",s)]=([(.inr "machine",mv),(.inr "place",lv),(.inr "goal",lv),(.inr "square",s)]:List (Key×V)) by kernel_rfl];exact bo _
inductive TH(K:aaU)(vs:List V)(H:Hp)(Q:VK):Prop |mk (mv:_)(lv:_)(M:_)(pl:_)(h0:vs=[mv,lv])(h1:RD K H mv (bp.D M))(h2:RD K H lv (eO pl))(h3:∀d q td H',da K H' d q td M (lZ pl)->H' td=some (.lst [])->H d=none->H q=none->H td=none->d≠td->q≠td->ak H H'->Q (.ref d) H'):TH K vs H Q
def KN(K:aaU):Sp:=fun vs H Q _=>TH K vs H Q
theorem LR:aW ["_law_machine_here","_law_place_here","_law_sim_here"] ["_law_machine_here","_law_place_here"] (aK Dv):=bh (by decide+kernel)
theorem a0X(F:FA K mg "_law_sim" Dv)(B:bw mg):aj P w K mg base "_law_sim" 1 (KN K):=by
 refine F.has LR (fun vs H Q E h=>?_) (fun _ _ _ _ _ _=>cW fun _ _=>rfl) (fun f aD A outer s H vs Q E hr h=>?_)
 · obtain⟨mv,lv,M,pl,rfl,_⟩:=h
   rfl
 · obtain⟨mv,lv,M,pl,rfl,rm,rl,k⟩:=h
   have nd:=LR.nd;refine⟨_,(ai (pS 2 nd (a09 (zV aL (pv 0) (zV aL (pv 1) (zV aL (pv 1) (zV aL (dw (aa ah (aa ah ae))) ZL)))) rfl rfl (by simp) (by decide))) (ai (fZ (fb hr.units) (pv 2) aL ah rfl) (ai (fZ (fb hr.units) (pv 2) aL aL rfl) (ai (fZ (fb hr.units) (pv 2) aL aL rfl) (ai (fZ (fb hr.units) (pv 2) aL (cV ae) rfl) (ai (fZ (fb hr.units) (pv 2) aL ah rfl) (ai (fZ (fb hr.units) (pv 2) aL j4 rfl) (ai (fZ (fb hr.units) (pv 2) aL ah rfl) (ai (fZ (fb hr.units) (pv 2) aL j4 rfl) (ai (fZ (fb hr.units) (pv 2) aL (cV ae) rfl) (aw (aJ (pv 2))))))))))))),fun d mh=>?_⟩;refine⟨_,rfl,_,rfl,_,rfl,bI rfl,fun t H1 n1=>?_⟩;have td:t≠d:=fun z=>by have:=n1.no;rw[z,aQ]at this;cases this
   have e1:=n1.same _ _ (aQ (a:=d) (o:=HO.dK []));refine⟨e1,[(.inr "machine",mv),(.inr "place",lv),(.inr "goal",lv),(.inr "square",.ref t)],rfl,(by show 4<=15;decide),?_⟩;obtain⟨d1,l1⟩:=oz (z:="rate") (v:=.int 100) (H:=L2.upd H1 d _) (a:=d) aQ XW (by decide);refine⟨_,rfl,d,_,rfl,d1,?_⟩;obtain⟨d2,l2⟩:=oz (z:="tool") (v:=.str "up") (a:=d) aQ l1 (by decide);refine⟨_,rfl,d,_,rfl,d2,?_⟩;obtain⟨d3,l3⟩:=oz (z:="mark") (v:=.str "") (a:=d) aQ l2 (by decide);refine⟨_,rfl,d,_,rfl,d3,?_⟩;refine⟨fX _,fun q H2 n2=>?_⟩;obtain⟨d4,l4⟩:=oz (z:="queue") (v:=.ref q) (a:=d) (n2.same _ _ aQ) l3 (by decide);refine⟨_,rfl,d,_,rfl,d4,?_⟩;obtain⟨d5,l5⟩:=oz (z:="gone") (v:=.int 0) (a:=d) aQ l4 (by decide);refine⟨_,rfl,d,_,rfl,d5,?_⟩;obtain⟨d6,l6⟩:=oz (z:="brake") (v:=.aY) (a:=d) aQ l5 (by decide);refine⟨_,rfl,d,_,rfl,d6,?_⟩;obtain⟨d7,l7⟩:=oz (z:="braked") (v:=.int 0) (a:=d) aQ l6 (by decide);refine⟨_,rfl,d,_,rfl,d7,?_⟩;obtain⟨d8,l8⟩:=oz (z:="reach") (v:=.aY) (a:=d) aQ l7 (by decide);refine⟨_,rfl,d,_,rfl,d8,?_⟩;refine⟨fX _,fun tl H3 n3=>?_⟩;obtain⟨d9,l9⟩:=oz (z:="told") (v:=.ref tl) (a:=d) (n3.same _ _ aQ) l8 (by decide);refine⟨_,rfl,d,_,rfl,d9,_,rfl,?_⟩;rw[XU];have s1:∀b o,H b=some o->H1 b=some o:=fun b o eb=>n1.same _ _ (by rw[aB (fH eb mh)];exact eb);have sU:∀{X:Hp}{o':HO},(∀b o,H b=some o->X b=some o)->∀b o,H b=some o->(L2.upd X d o') b=some o:=fun h b o eb=>by rw[aB (fH eb mh)];exact h b o eb
   have s2:∀b o,H b=some o->H2 b=some o:=fun b o eb=>n2.same _ _ (sU (sU (sU (sU s1))) b o eb);have s3:∀b o,H b=some o->H3 b=some o:=fun b o eb=>n3.same _ _ (sU (sU (sU (sU (sU s2)))) b o eb);have s4:ak H (L2.upd H3 d (.dK (aZ mv lv lv (.ref t) (.int 100) (.str "up") (.str "") (.ref q) (.int 0) .aY (.int 0) .aY (.ref tl)))):=fun b o eb=>sU s3 b o eb;have nu:∀{X:Hp}{o':HO}{y:Addr},(L2.upd X d o') y=none->y≠d/\X y=none:=fun{X o' y} h=>by
    have hy:y≠d:=fun z=>by rw[z,aQ]at h;cases h
    exact⟨hy,by rw[aB hy]at h;exact h⟩
   have no:∀{X:Hp}{y:Addr},(∀b o,H b=some o->X b=some o)->X y=none->H y=none:=fun{X y} h hy=>by cases e:H y with |none=>rfl |some o=>rw[h y o e]at hy;cases hy
   obtain⟨qd,q0⟩:=nu n2.no;have q1:=(nu (nu (nu q0).2).2).2;obtain⟨Kf,t0⟩:=nu n3.no;have t1:=(nu (nu (nu (nu t0).2).2).2).2;have qt:q≠tl:=fun z=>by rw[<-z,n2.at']at t1;cases t1
   have ht:∀{X:Hp},X t=some (.tup [.int 0,.int 1])->(L2.upd X d (.dK (aZ mv lv lv (.ref t) (.int 100) (.str "up") (.str "") (.ref q) (.int 0) .aY (.int 0) .aY (.ref tl)))) t=some (.tup [.int 0,.int 1]):=fun h=>by rw[aB td];exact h
   refine k d q tl _ ⟨⟨mv,lv,lv,.ref t,.aY,.int 0,.aY,aQ,RD.mono s4 _ rm,?_,?_,⟨t,rfl,?_⟩,⟨rfl,_,rfl⟩,.inl rfl⟩,[],?_,cF⟩ ?_ mh (no s1 q1) (no s2 t1) Kf.symm qt s4
   ·exact RD.mono s4 _ rl
   ·exact RD.mono s4 _ rl
   · refine aI.of (ht (n3.same _ _ ?_))
     rw[aB td,aB td,aB td,aB td,aB td];refine n2.same _ _ ?_;rw[aB td,aB td,aB td,aB td];exact n1.at'
   · rw[aB qd]
     refine n3.same _ _ ?_;rw[aB qd,aB qd,aB qd,aB qd,aB qd];exact n2.at'
   ·rw[aB Kf];exact n3.at'
theorem RR{pa b:Addr}{pl ns:List Int}{te:TE}{Q:VK}{D:Addr}{H H1:Hp}(hp:aI K H pa (pl.map V.int))(hb:aI K H b (ns.map V.int))(ln:ns.length=pl.length)(hz:pl.length<=1000)(n1:Nw H H1 D (.lst [])) (ht:∀(x y:Int)(H:Hp)(Q:VK),Q (.int (x+y)) H->te [some (.int x),some (.int y)] H Q)(k:∀H2,ak H H2->H2 D=some (.lst ((fA pl ns).map V.int))->Q (.ref D) H2):iu (lT K false false pa b) (om K 2 (jz (dX 0) (jz (dX 1) pR))) gG te Q D [none,none] H1:=by
  refine sX (K:=K) (b1:=false) (b2:=false) (xs:=pl.map V.int) (ys:=ns.map V.int) (ds:=(fA pl ns).map PyData.int) [] rfl hp hb n1 (by simp[pZ ln,ln]) (by rw[bT,pZ ln];exact hz) (kj _) ?_ ?_
  · intro i x y d H2 Q' ex ey ed s2 hq
    obtain⟨m,em,rfl⟩:=lE ed;rw[bZ]at ex ey;cases e1:pl[i]? with |none=>rw[e1]at ex;cases ex |some u=>cases e2:ns[i]? with |none=>rw[e2]at ey;cases ey |some v=>rw[e1]at ex;rw[e2]at ey;cases ex;cases ey;rw[J3 e1 e2]at em;cases em;exact ht _ _ _ _ (hq _ _ (ak.refl _) (cX _))
  · intro H2 zs s2 d2 r2
    rw[r2.iH]at d2;exact k H2 s2 d2
theorem a7Z{pa b:Addr}{pl rs:List Int}{te:TE}{Q:VK}{D:Addr}{H H1:Hp}(hp:aI K H pa (pl.map V.int))(hb:aI K H b (rs.map V.int))(ln:pl.length=rs.length)(hz:pl.length<=1000)(n1:Nw H H1 D (.lst [])) (ht:∀(x y:Int)(H:Hp)(Q:VK),Q (.bl (decide (0<=x)&&decide (x<=y))) H->te [some (.int x),some (.int y)] H Q)(k:∀(H2:Hp)(bs:List Bool),ak H H2->H2 D=some (.lst (bs.map V.bl))->bs.all id=pk rs pl->Q (.ref D) H2):iu (lT K false false pa b) (om K 2 (jz (dX 0) (jz (dX 1) pR))) gG te Q D [none,none] H1:=by
  refine RP (K:=K) (b1:=false) (b2:=false) (xs:=pl.map V.int) (ys:=rs.map V.int) (bs:=(pl.zip rs).map fun p=>decide (0<=p.1)&&decide (p.1<=p.2)) [] rfl hp hb n1 (by simp) (by simp;lia) (fun i x y b' H2 Q' ex ey eb s2 hq=>?_) (fun H2 s2 d2=>?_)
  · rw[bZ]at ex ey
    cases e1:pl[i]? with |none=>rw[e1]at ex;cases ex |some u=>cases e2:rs[i]? with |none=>rw[e2]at ey;cases ey |some v=>rw[e1]at ex;rw[e2]at ey;cases ex;cases ey;rw[bZ,vV.mpr (show pl[i]? =some (u,v).1/\rs[i]? =some (u,v).2 from⟨e1,e2⟩)]at eb;cases eb;exact ht _ _ _ _ (hq _ (ak.refl _))
  ·exact k H2 _ s2 d2 (by unfold pk;rw[List.all_map];rfl)
theorem Qn(S:aU)(d:aaX)(o:Itm):cC (mC S d o)=gB (cC S) o:=by unfold cC mC;rw[List.foldl_append];rfl
theorem ZQ{M:bp}{D:Nat}{S:aU}(h:bQ M D S)(d:aaX)(o:Itm):eL (mC S d o)=eL S:=by
 unfold eL;by_cases h0:S.dn=0
 ·rw[aO h0,aO (show(mC S d o).dn=0 from h0)];rfl
 · obtain⟨ns,sp,eo,_⟩:=h.first h0
   rw[aP h0,aP (show¬(mC S d o).dn=0 from h0),eo];have e2:(mC S d o).os[0]? =some (some (ns,sp)):=by show(S.os++[o])[0]? =_;rw[vW (dh.mp eo).1];exact eo
   rw[e2];rfl
inductive TR(K:aaU)(vs:List V)(H:Hp)(Q:VK):Prop |mk (d:_)(q:_)(td:_)(M:_)(D:_)(S:_)(v:_)(it:_)(o:_)(h0:vs=[.ref d,v])(h1:da K H d q td M S)(h2:bQ M D S)(h3:M.Ok)(h4:RD K H v it)(h5:mT M.rs.length it o)(h6:(pk M.rs (gB (cC S) o)=false->∀H',ak H H'->Q (.str ("rails "++Str.ofString (toString (S.ds.length:Int)))) H'))(h7:(pk M.rs (gB (cC S) o)=true->S.ds.length=20->∀H',ak H H'->Q (.str "full") H'))(h8:(pk M.rs (gB (cC S) o)=true->S.ds.length<20->∀H',da K H' d q td M (mC S it o)->aV [d,q] H H'->Q (.int (S.ds.length+1:Nat)) H')):TR K vs H Q
def KU(K:aaU):Sp:=fun vs H Q _=>TR K vs H Q
theorem LY:aW ["_law_sim_here","_law_item","_law_goal"] ["_law_sim_here","_law_item"] (aK DB):=bh (by decide+kernel)
theorem a0Z(F:FA K mg "_law_sim_feed" DB)(B:bw mg):aj P w K mg base "_law_sim_feed" 1 (KU K):=by
 refine F.has LY (fun vs H Q E h=>?_) (fun _ _ _ _ _ _=>cW fun _ _=>rfl) (fun f aD A outer s H vs Q E hr h=>?_)
 · obtain⟨d,q,td,M,D,S,v,it,o,rfl,_⟩:=h
   rfl
 · obtain⟨d,q,td,M,D,S,v,it,o,rfl,R,ok,aF,rv,xI,k1,k2,k3⟩:=h
   obtain⟨mv,lv,gv,sv,bv,cv,re,e,r1,r2,r3,r4,r5,r6⟩:=R.ob;obtain⟨ys,eq,rq⟩:=R.qu;have dq:=R.ne;have nd:=LY.nd;have ly:=rq.length;have Aq:=ok.len;have Af:=aF.len;have gl:(cC S).length=M.rs.length:=xY _ _ ok.pl ok.rj;have bl:(gB (cC S) o).length=M.rs.length:=vI gl fun ns sp eo=>(xI.ln ns sp eo).1.len;obtain⟨ma,mb,rfl,gs,je⟩:=kr r1;refine⟨_,(ai (pS 2 nd (cj hr (pv 0) aL)) (ai (gy (bj (bL (cJ K rfl hr.units) (px K (pv 1) ah) aL (ba _)) (aw (pS 2 nd (gZ (x:="tuple") (kP K rfl) rfl (B.at "tuple") fD (aa (fO (N:=["_law_stand_here","_law_step"]) (js:=[none,none]) rfl rfl rfl (jr K rfl false false rfl (B.at "zip") (aa (pv 2) (aa (px K (pv 1) ah) ae))) (fun _ _ _ _ _=>(du K rfl (n:=2) rfl (bE (aX 0 (fw (by decide))) (bE (aX 1 (fw (by decide))) dk)))) (fun _ _ _ _ _=>fh) (fun _ _ _ _ _=>(az cE (pv 0) (pv 1)))) ae)))) bu)) (ai (bj (dS (cA (cQ (x:="all") (oG K rfl rfl) rfl (B.at "all") qw (aa (fO (N:=["_law_stand_here","_law_rail"]) (js:=[none,none]) rfl rfl rfl (jr K rfl false false rfl (B.at "zip") (aa (pv 2) (aa (px K (cj hr (pv 0) aL) ah) ae))) (fun _ _ _ _ _=>(du K rfl (n:=2) rfl (bE (aX 0 (fw (by decide))) (bE (aX 1 (fw (by decide))) dk)))) (fun _ _ _ _ _=>fh) (fun _ _ _ _ _=>(NL uA uA ah (pv 0) (pv 1)))) ae)))) (aw (aJ (az a0z aL (gZ (x:="str") a8c rfl (B.at "str") oO (aa (dv K B (aa (cj hr (pv 0) aL) ae)) ae))))) bu) (ai (bj (bL (cJ K rfl hr.units) (dv K B (aa (cj hr (pv 0) aL) ae)) ah (ba _)) (aw (aJ aL)) bu) (ai (fZ (fb hr.units) (pv 0) aL (pv 2) rfl) (ai (fZ (fb hr.units) (pv 0) aL j4 rfl) (ai (gY (jt K rfl (cj hr (pv 0) aL) (aa (pv 1) ae))) (aw (aJ (dv K B (aa (cj hr (pv 0) aL) ae))))))))))),?_⟩;refine⟨_,rfl,d,_,rfl,dg e Ht,?_⟩;refine⟨fun σ H1=>∃ga,σ=[some (.ref d),some v,some (.ref ga)]/\aI K H1 ga ((gB (cC S) o).map V.int)/\ak H H1,?_,?_⟩
   · obtain⟨a,wd,zs,rfl,ha,ew,sw⟩:=uU rv xI.it
     refine⟨_,rfl,.inr ⟨a,_,0,.str wd,rfl,rfl,ha,cN (fY 0) rfl,.inr ⟨_,_,cH _,cH _,sw,by decide+kernel,?_⟩⟩⟩;rw[ew];refine⟨_,rfl,?_⟩;cases o with |none=>obtain⟨ga,rfl,hg⟩:=qV r3;exact bf ⟨ga,rfl,hg,ak.refl _⟩ |some z=>
       obtain⟨ns,sp⟩:=z;refine bF ?_;have ed:=jQ xI.it;subst ed;obtain⟨a',b,ea,Q8,hb⟩:=kX rv;cases ea;obtain⟨ga,rfl,hg⟩:=qV r3;have ln:ns.length=(cC S).length:=by rw[gl];exact(xI.ln ns sp rfl).1.len
       refine⟨_,rfl,_,rfl,.inr ⟨a,_,1,.ref b,rfl,rfl,Q8,rfl,ga,b,rfl,⟨_,hg⟩,⟨_,hb⟩,fun D1 H1 n1=>?_⟩⟩;refine RR hg hb ln (by lia) n1 (fun x y H Q h=>⟨_,rfl,_,rfl,_,_,rfl,rfl,h⟩) fun H2 s2 d2=>?_;refine⟨D1,_,rfl,.inl ⟨au.of d2,fun t H3 n3=>?_⟩⟩;exact⟨t,rfl,aI.of n3.at',s2.trans n3.same⟩
   · rintro σ H1 ⟨ga,rfl,hg,s1⟩
     have e1:=s1 _ _ e;refine⟨_,rfl,_,rfl,d,_,rfl,dg e1 xW,.inr ⟨ma,_,0,.ref mb,rfl,rfl,gs.go s1,rfl,ga,mb,rfl,⟨_,hg⟩,⟨_,je.go s1⟩,fun D1 H2 n2=>?_⟩⟩;refine a7Z hg (je.go s1) bl (by lia) n2 (fun x y H Q h=>?_) fun H3 bs s3 d3 eb=>?_
     · refine⟨_,rfl,_,_,rfl,rfl,_,rfl,?_⟩
       refine dC (fun h0=>?_) (fun h0=>?_)
       · rw[h0,jJ]at h
         exact⟨_,rfl,_,_,rfl,rfl,h⟩
       · rw[vZ.mpr h0,jW]at h
         exact h
     refine⟨D1,_,rfl,au.of d3,?_⟩;rw[eb];refine⟨_,rfl,?_⟩;have cP:=s1.trans s3;have e3:=cP _ _ e;have eq3:=cP _ _ eq;have lg:sizeLine=16777216:=by decide
     cases ho:pk M.rs (gB (cC S) o)with
     |false=>
       refine bF ?_;refine⟨_,rfl,d,_,rfl,dg e3 lj,q,_,rfl,.inl (au.of eq3),.inl ⟨_,rfl,?_,?_⟩⟩
       · have:ys.length<=20:=by lia
         exact a3a (by show(ys.length:Int).natAbs<10^40;lia)
       · have el:((ys.length:Nat):Int)=(S.ds.length:Int):=by rw[ly]
         refine⟨_,_,rfl,rfl,?_,?_⟩
         · rw[el]
           have e6:Str.length "rails "=6:=by decide+kernel
           have:(Str.ofString (toString (S.ds.length:Int))).length<=41:=WA (by lia)
           lia
         ·rw[el];exact k1 ho H3 cP |true=>
       refine bf ?_;refine⟨_,rfl,d,_,rfl,dg e3 lj,q,_,rfl,.inl (au.of eq3),.inl ⟨_,_,rfl,rfl,_,rfl,?_⟩⟩;refine dC (fun kG=>?_) (fun kG=>?_)
       · have kG:((ys.length:Nat):Int)=20:=jm kG
         exact k2 ho (by lia) H3 cP
       · have kG:¬((ys.length:Nat):Int)=20:=fun z=>kG (ck z)
         refine⟨_,rfl,_,rfl,d,_,rfl,dp e3 a0n jq,?_⟩;refine⟨_,rfl,d,_,rfl,dp aQ zZ jq,?_⟩;have QQ:∀{X:Hp}{o':HO},X q=some (.lst ys)->(L2.upd X d o') q=some (.lst ys):=fun h=>by rw[aB dq.symm];exact h
         have eq5:=QQ (o':=.dK (aZ (.ref ma) lv (.ref ga) sv (.int S.rate) (.str S.side) (.str S.mark) (.ref q) (.int S.dn) bv cv .aY (.ref td))) (QQ (o':=.dK (aZ (.ref ma) lv (.ref ga) sv (.int S.rate) (.str S.side) (.str S.mark) (.ref q) (.int S.dn) bv cv re (.ref td))) eq3);refine⟨_,rfl,d,_,rfl,dg aQ lj,.inl ⟨rfl,_,au.of eq5⟩,_,rfl,q,ys,_,rfl,rfl,eq5,by lia,?_⟩;have key:∀X:Hp,(∀b,b≠d->X b=H3 b)->X d=some (.dK (aZ (.ref ma) lv (.ref ga) sv (.int S.rate) (.str S.side) (.str S.mark) (.ref q) (.int S.dn) bv cv .aY (.ref td)))->Q (.int (S.ds.length+1:Nat)) (L2.upd X q (.lst (ys++[v]))):=by
          intro X hX eX;have b3:aV [d,q] H (L2.upd X q (.lst (ys++[v]))):=fun b o' eb hb=>by have hd:b≠d:=fun z=>hb (by rw[z];simp);have hq:b≠q:=fun z=>hb (by rw[z];simp);rw[aB hq,hX b hd];exact cP _ _ eb
          have v0:=R.v b3;have v3:bG H1 (L2.upd X q (.lst (ys++[v]))):=fun b o' nb eb=>by
           have hd:b≠d:=fun z=>by rw[z,e1]at eb;cases eb;exact nb trivial
           have hq:b≠q:=fun z=>by rw[z,s1 _ _ eq]at eb;cases eb;exact nb trivial
           rw[aB hq,hX b hd];exact s3 _ _ eb
          have iv:=xI.it.no;refine k3 ho (by lia) _ ⟨⟨.ref ma,lv,.ref ga,sv,bv,cv,.aY,by rw[aB dq];exact eX,RD.v v0 _ (iS _ _ _ _ _) r1,?_,?_,r4.v v0,r5.v v0,.inl rfl⟩,ys++[v],aQ,?_⟩ b3
          ·rw[ZQ ok];exact RD.v v0 _ (gJ _) r2
          ·rw[Qn];exact uv (aI.v v3 hg)
          ·exact(aE.v v0 _ ok.row.no rq).append (bJ (RD.v v0 _ iv rv) cF)
         refine⟨_,rfl,d,_,rfl,dg (by rw[aB dq];exact aQ) lj,q,_,rfl,.inl (au.of aQ),?_⟩;rw[fm,List.length_singleton,ly];exact key _ (fun b hb=>by rw[aB hb,aB hb]) aQ
theorem wa{z:Int}(h:z.natAbs<2^24):Bd 100 (z:Rat):=⟨by rw[Jq];exact Jy h (by decide),by rw[Js];decide⟩
theorem wQ{H:Hp}{a:Addr}{z:Int}(h:aI K H a [.int z,.int 1]):aR K H (.ref a) (z:Rat):=by refine⟨a,rfl,?_⟩;rw[Jq,Js];exact h
theorem a3j{H:Hp}{Q:VK}{l:Addr}{u1 u2:V}{x y:Rat}(dl:H l=some (.lst [u1,u2]))(R1:aR K H u1 x)(R2:aR K H u2 y)(b1:Bd 2000 x)(b2:Bd 2000 y)(k:∀v,aR K H v (mn x y)->Q v H):iZ K [.ref l] H Q E0:=by
 refine⟨l,[u1,u2],[x,y],rfl,au.of dl,⟨R1,b1,R2,b2,trivial⟩,by simp,fun c v q e1 e2 hq=>k v ?_⟩;have e:mn x y=q:=by
  refine mi ?_ (hq _ (by simp)) (hq _ (by simp))
  match c,e2 with |0,e2=>cases e2;exact .inl rfl |1,e2=>cases e2;exact .inr rfl
 rw[e]
 match c,e1,e2 with |0,e1,e2=>cases e1;cases e2;exact R1 |1,e1,e2=>cases e1;cases e2;exact R2
inductive TN(K:aaU)(vs:List V)(H:Hp)(Q:VK):Prop |mk (d:_)(q:_)(td:_)(M:_)(D:_)(S:_)(h0:vs=[.ref d])(h1:da K H d q td M S)(h2:bQ M D S)(h3:M.Ok)(h4:S.os≠[])(h5:∀v H',aR K H' v (fg M S)->ak H H'->Q v H'):TN K vs H Q
def KR(K:aaU):Sp:=fun vs H Q _=>TN K vs H Q
theorem LW:aW ["_law_sim_here","_law_machine_here","_law_items","_law_bounds_here","_law_reach_here","_law_border"] ["_law_sim_here"] (aK Dz):=bh (by decide+kernel)
theorem a0W(F:FA K mg "_law_reach" Dz)(B:bw mg)(a6q:aj P w K mg base "_law_bounds" 3 (Lq K))(vi:aj P w K mg base "_law_sum" 2 (m4 (·+·) K))(pO:aj P w K mg base "_law_lead" 1 (kQ K))(sH:aj P w K mg base "_law_min" 2 (iZ K)):aj P w K mg base "_law_reach" 4 (KR K):=by
 refine F.has LW (fun vs H Q E h=>?_) (fun _ _ _ _ _ _=>dJ fun _=>rfl) (fun fa aD A outer s H vs Q E hr h=>?_)
 · obtain⟨d,q,td,M,D,S,rfl,_⟩:=h
   rfl
 · obtain⟨d,q,td,M,D,S,rfl,R,ok,aF,cZ,k⟩:=h
   obtain⟨mv,lv,gv,sv,bv,cv,re,e,r1,r2,r3,r4,r5,r6⟩:=R.ob;obtain⟨ys,eq,rq⟩:=R.qu;have nd:=LW.nd;have ly:=rq.length;have Aq:=ok.len;have ll:=ok.row.len;have rS:1<=S.os.length:=by cases e:S.os with|nil=>exact(cZ e).elim|cons _ _=>simp
   have pT:=aF.f1;have Af:=aF.len;have hB:=Ow.Fz aF.j1.1 aF.j1.2 ok.rt1 ok.rt2 ok.row.uE;have hN:=Ow.NV M.j S.rate S.os;have h0:=Ow.Fy M.j S.rate S.os S.os.length rfl;have hL:∀i m,leadF S.os i=some m->(2*M.f*(m:Int)).natAbs<2^24:=fun i m e=>K5 aF.f1.1 aF.f1.2 (OY ok.row.uE e);have FB:∀i,i<=S.os.length->Bd 1700 (fl S.os.length (leadF S.os) (2*M.f) (ownF M.j S.rate S.os) i):=fun i hi=>(QB (fun i _=>hB i) hL i hi).mono (by lia);have FN:=a6O (n:=S.os.length) (L:=leadF S.os) (f:=2*M.f) (g:=ownF M.j S.rate S.os) (by lia) (fun i _=>hN i);obtain⟨ma,mb,rfl,gs,je⟩:=kr r1;refine⟨_,(ai (nO (i:=1) (j:=2) rfl nd rfl rfl (by decide) rfl rfl (aa (cj hr (pv 0) aL) (aa (cj hr (pv 0) aL) ae)) rfl) (ai (pS 3 nd (pf a6q hr (aa (pv 1) (aa (pv 2) (aa (cj hr (pv 0) aL) ae))))) (ai (pS 4 nd (dw (aa ah (aa ah ae)))) (ai (kU gE rfl (ZX rfl (B.at "range") (aa (az fQ (dv K B (aa (pv 2) ae)) ah) (aa ah (aa (wW wj ah) ae)))) (aX 5 nd) (ai (gy (bj (bL (cJ K rfl hr.units) (px K (px K (pv 2) (pv 5)) ah) aL (ba _)) (aw (pS 4 nd (pf vi hr (aa (pv 4) (aa (dw (aa (az bc (az bc ah (px K (pv 1) ah)) (pf pO hr (aa (px K (pv 2) (pv 5)) ae))) (aa ah ae))) ae))))) bu)) (aw (pS 4 nd (pf sH hr (aa (cV (aa (pv 4) (aa (px K (pv 3) (pv 5)) ae))) ae)))))) (aw (aJ (pv 4))))))),?_⟩;refine⟨_,rfl,d,_,rfl,dg e xW,_,rfl,d,_,rfl,dg e lj,_,_,rfl,?_⟩;refine⟨_,rfl,_,rfl,_,rfl,d,_,rfl,dg e Hs,?_⟩;refine⟨.ref ma,.ref q,S.rate,M.rs,M.r,M.f,M.j,M.t,S.ds,S.os,rfl,r1,aF,jM (au.of eq) rq,ok.row,by lia,ok.rt1,ok.rt2,fun l zs H1 nl dl rz s1=>?_⟩;refine⟨bI rfl,fun t H2 n2=>?_⟩;have s2:=s1.trans n2.same;refine⟨_,rfl,q,_,rfl,.inl (au.of (s2 _ _ eq)),_,_,rfl,rfl,_,rfl,_,_,rfl,⟨by lia,by lia,by decide,by decide⟩,?_⟩;have eN:((ys.length:Int)-1-0).toNat=S.os.length-1:=by lia
   rw[eN];have rz:aE K H1 zs ((lst S.os.length (ownF M.j S.rate S.os)).map cD):=rz;have lz:=rz.length;rw[bT,pE]at lz;refine a6L (Pv:=fun i σ H5=>ak H2 H5/\∃v w5,aR K H5 v (fl S.os.length (leadF S.os) (2*M.f) (ownF M.j S.rate S.os) (S.os.length-i))/\σ=[some (.ref d),some (.ref ma),some (.ref q),some (.ref l),some v,w5]) ?_ ?_ ?_
   · refine⟨ak.refl _,.ref t,none,?_,rfl⟩
     rw[Nat.sub_zero,vm,h0];exact⟨t,rfl,aI.of n2.at'⟩
   · rintro i σ H5 AO ⟨s5,v,w5,rv,rfl⟩
     obtain⟨c,hc⟩:∃c,S.os.length-1-i=c:=⟨_,rfl⟩;have kZ:c<S.os.length:=by lia
     have eI:((ys.length:Int)-1-(i:Int))=(c:Int):=by lia
     rw[eI];have qL:=s2.trans s5;have Io:S.os.length-i=c+1:=by lia
     rw[Io]at rv;obtain⟨x,hx⟩:∃x,ys[c]? =some x:=⟨_,bN (show c<ys.length by lia)⟩;obtain⟨dd,ed,rd⟩:=rq.get' c hx;obtain⟨o,eo,it⟩:=ok.row.get ed;have yl:fz ys (c:Int)=some x:=cN (by lia) (by simpa using hx);obtain⟨z0,yb⟩:∃z,zs[c]? =some z:=⟨_,bN (show c<zs.length by lia)⟩;have R0:aR K H1 z0 (ownF M.j S.rate S.os c):=by obtain⟨d1,e1,Zz⟩:=rz.get' c yb;rw[bZ,pF _ (show c<=S.os.length by lia)]at e1;cases e1;exact m9 Zz
     have J0:fz zs (c:Int)=some z0:=cN (by lia) (by simpa using yb);have eq5:=qL _ _ eq;obtain⟨a,wd,yw,rfl,h1,ew,sw⟩:=uU (RD.mono qL _ rd) it;have ei:S.os.length-(i+1)=c:=by lia
     refine⟨fun σ H6=>ak H5 H6/\∃v' x',aR K H6 v' x'/\Bd 2000 x'/\mn x' (ownF M.j S.rate S.os c)=fl S.os.length (leadF S.os) (2*M.f) (ownF M.j S.rate S.os) c/\σ=[some (.ref d),some (.ref ma),some (.ref q),some (.ref l),some v',some (.int c)],?_,?_⟩
     · refine⟨_,rfl,_,rfl,.inl ⟨q,_,_,_,rfl,rfl,au.of eq5,yl,.inr ⟨a,_,0,.str wd,rfl,rfl,h1,cN (fY 0) rfl,.inr ⟨_,_,cH _,cH _,sw,rJ,_,rfl,?_⟩⟩⟩⟩
       rw[ew];cases o with |none=>
         refine bf ⟨ak.refl _,v,_,rv,(FB (c+1) (by lia)).mono (by decide),?_,rfl⟩;have hz:ownF M.j S.rate S.os c=0:=by cases c with |zero=>rfl |succ c'=>show betR M.j S.rate (atO S.os c') (atO S.os (c'+1))=0;rw[Ow.oF eo,Ow.Bu]
         rw[vk kZ (OX eo),hz];exact mi (.inr rfl) (FN (c+1) (by lia)) (oN) |some z=>obtain⟨ns,sp⟩:=z;refine bF ?_;have kI:=jQ it;subst kI;obtain⟨dU,_,_⟩:=ok.row.ok c ns sp eo;have us:=hL c _ (Ap eo);refine⟨_,rfl,_,rfl,.inr ⟨ma,_,2,.int M.f,rfl,rfl,gs.go qL,rfl,_,_,rfl,rfl,.of_left (bM (by decide) (by decide)),?_⟩⟩;refine⟨_,rfl,_,rfl,.inl ⟨q,_,_,_,rfl,rfl,au.of eq5,yl,?_⟩⟩;refine⟨_,ns,sp,rfl,RD.mono qL _ rd,dU.ne,by rw[dU.len];lia,fun H6 s6=>?_⟩;refine⟨_,_,rfl,rfl,.of_left (bM (by lia) (by lia)),?_⟩;refine⟨bI rfl,fun tq H7 n7=>?_⟩;refine⟨v,.ref tq,_,_,rfl,(rv.go s6).go n7.same,wQ (aI.of n7.at'),(FB (c+1) (by lia)).mono (by decide),(wa us).mono (by decide),fun u H8 ru s8=>?_⟩;refine⟨s6.trans (n7.same.trans s8),u,_,ru,(Bz (FB (c+1) (by lia)) us).mono (by decide),?_,rfl⟩;rw[vn kZ (Ap eo)];exact mi ((xy _ _).symm.imp id id) (jP _ _) (g9 _ _)
     · rintro σ H6 ⟨s6,v',x',cx,bx,ex,rfl⟩
       have jL:=n2.same.trans (s5.trans s6);refine⟨_,rfl,_,rfl,_,rfl,.inl ⟨l,_,_,_,rfl,rfl,au.of (jL _ _ dl),J0,?_⟩⟩;refine⟨bI rfl,fun l2 H7 n7=>?_⟩;refine a3j n7.at' (cx.go n7.same) (R0.go (jL.trans n7.same)) bx ((hB c).mono (by decide)) fun u ru=>?_;refine⟨s5.trans (s6.trans n7.same),u,_,?_,rfl⟩;rw[ei,<-ex];exact ru
   · rintro σ H5 ⟨s5,v,w5,rv,rfl⟩
     have e1:S.os.length-(S.os.length-1)=1:=by lia
     rw[e1]at rv;exact⟨_,rfl,k v H5 rv (s2.trans s5)⟩
theorem a8T{pl ns:List Int}(h:ns.length=pl.length)(k:Nat):fA (fA pl (gX ns k)) (gI ns k)=fA pl (gX ns (k+1)):=by
 apply qy;intro i;unfold fA gX gI;simp only[C7,bZ];cases pl[i]? <;>cases ns[i]? <;>simp
 lia
theorem a8S{pl ns:List Int}(h:ns.length=pl.length)(hq:0<ay ns):fA pl (gX ns 0)=pl:=by
 apply qy;intro i;unfold fA gX;simp only[C7,bZ];by_cases hi:i<pl.length
 · rw[bN hi,bN (show i<ns.length by lia)]
   simp[FT (show(0:Int)<(ay ns:Int) by lia)]
 ·rw[kN (by lia)]
theorem Xz{ns:List Int}(hq:0<ay ns):gX ns (ay ns)=ns:=by
 unfold gX;have:(fun z=>gM ((ay ns:Int)*z) (ay ns:Int))=fun z=>z:=by funext z;exact a2y (by lia)
 rw[this,List.map_id']
theorem ZR{S:aU}{ns:List Int}{sp:Int}(eo:S.os[0]? =some (some (ns,sp)))(h:ns.length=S.pl.length)(hq:0<ay ns):eL S=fA S.pl (gX ns S.dn):=by
 unfold eL;by_cases h0:S.dn=0
 ·rw[aO h0,h0];exact(a8S h hq).symm
 ·rw[aP h0,eo]
theorem ZP{M:bp}{S:aU}{ns:List Int}{sp:Int}(eo:S.os[0]? =some (some (ns,sp)))(h:ns.length=S.pl.length)(hq:0<ay ns)(hd:S.dn<ay ns):fA (eL S) (gI ns S.dn)=eL (fi ns (fj M S ns sp)):=by
 rw[ZR eo h hq,a8T h];unfold fi;by_cases he:S.dn+1=ay ns
 · rw[aO (show(fj M S ns sp).dn=ay ns from he)]
   obtain⟨fu,gQ⟩:∃fu,S.os=some (ns,sp)::fu:=by cases e:S.os with |nil=>rw[e]at eo;simp at eo |cons a r=>rw[e]at eo;cases eo;exact⟨r,rfl⟩
   have e1:((S.dn:Int)+1)=(ay ns:Int):=by lia
   rw[e1,Xz hq];unfold eL iI;have:(fj M S ns sp).os=some (ns,sp)::fu:=gQ;rw[this];rfl
 · rw[aP (show¬(fj M S ns sp).dn=ay ns from he)]
   unfold eL;rw[aP (show¬(fj M S ns sp).dn=0 from Nat.succ_ne_zero _)];have:(fj M S ns sp).os[0]? =some (some (ns,sp)):=eo;rw[this];show _=fA S.pl (gX ns ((S.dn+1:Nat):Int));rfl
theorem Qm{M:bp}{S:aU}{ns:List Int}{sp:Int}(eo:S.os[0]? =some (some (ns,sp))):cC (fi ns (fj M S ns sp))=cC S:=by
 unfold fi;split
 · obtain⟨fu,gQ⟩:∃fu,S.os=some (ns,sp)::fu:=by cases e:S.os with |nil=>rw[e]at eo;simp at eo |cons a r=>rw[e]at eo;cases eo;exact⟨r,rfl⟩
   unfold cC iI;have:(fj M S ns sp).os=some (ns,sp)::fu:=gQ;rw[this,gQ];rfl
 ·rfl
theorem OC(a b c:Rat):mn (mn b a) c=mn (mn a b) c:=by rw[OA b a]
theorem OB(a b c d:Rat):mn (mn (mn b a) c) d=mn (mn (mn a b) c) d:=by rw[OA b a]
theorem Qz{sq:Rat}{a b:Int}(hb:b≠0):Rat.divInt (sq.num*a) ((sq.den:Int)*b)=sq*Rat.divInt a b:=by
 conv=>rhs;rw[<-qv sq]
 rw[VA]
end
end Lw
set_option maxHeartbeats 4000000
namespace Lw
open PySem PySem.Spec PyProof.Rows L2 Rt Ln Cn Pn Wk Rn
open Ow (topR cornO mnO betR atO ownF leadF ownL OkI OkIs)
section
variable {w:World}{mg:Str->Option Value}{base:Heap}
theorem a7X{pa b:Addr}{xs ys:List Int}{te:TE}{Q:VK}{D:Addr}{H H1:Hp}(hp:aI K H pa (xs.map V.int))(hb:aI K H b (ys.map V.int))(ln:ys.length=xs.length)(hz:xs.length<=1000)(n1:Nw H H1 D (.lst [])) (ht:∀(x y:Int)(H:Hp)(Q:VK),Q (.int (y-x)) H->te [some (.int x),some (.int y)] H Q)(k:∀H2,ak H H2->H2 D=some (.lst ((List.zipWith (fun x y=>y-x) xs ys).map V.int))->Q (.ref D) H2):iu (lT K false false pa b) (om K 2 (jz (dX 0) (jz (dX 1) pR))) gG te Q D [none,none] H1:=by
  refine sX (K:=K) (b1:=false) (b2:=false) (xs:=xs.map V.int) (ys:=ys.map V.int) (ds:=(List.zipWith (fun x y=>y-x) xs ys).map PyData.int) [] rfl hp hb n1 (by simp[ln]) (by rw[bT,List.length_zipWith];lia) (kj _) ?_ ?_
  · intro i x y d H2 Q' ex ey ed s2 hq
    obtain⟨m,em,rfl⟩:=lE ed;rw[bZ]at ex ey;cases e1:xs[i]? with |none=>rw[e1]at ex;cases ex |some u=>cases e2:ys[i]? with |none=>rw[e2]at ey;cases ey |some v=>rw[e1]at ex;rw[e2]at ey;cases ex;cases ey;rw[C7,e1,e2]at em;cases em;exact ht _ _ _ _ (hq _ _ (ak.refl _) (cX _))
  · intro H2 zs s2 d2 r2
    rw[r2.iH]at d2;exact k H2 s2 d2
theorem YG(ns:List Int)(k:Nat):List.zipWith (fun x y=>y-x) (gX ns (k:Int)) (gX ns ((k:Int)+1))=gI ns k:=by apply qy;intro i;unfold gX gI;simp only[C7,bZ];cases ns[i]? <;>simp
theorem QM{H:Hp}{ys:List V}{ds:List aaX}(h:aE K H ys ds):aE K H (ys.eraseIdx 0) ds.tail:=by have:=h.drop 1;rw[List.drop_one,List.drop_one]at this;rw[List.eraseIdx_zero];exact this
theorem NC{M:bp}{D:Nat}{S:aU}(ok:bQ M D S):(eL S).length=M.rs.length:=by
 unfold eL;split
 ·exact ok.pl
 · split
   ·next ns sp eo=>rw[pZ (by rw[ok.pl];simp[gX];exact(ok.row.ok 0 ns sp eo).1.len)];exact ok.pl
   ·exact ok.pl
inductive TM(K:aaU)(vs:List V)(H:Hp)(Q:VK):Prop |mk (d:_)(q:_)(td:_)(M:_)(D:_)(S:_)(ns:_)(sp:_)(h0:vs=[.ref d])(h1:da K H d q td M S)(h2:bQ M D S)(h3:M.Ok)(h4:S.os[0]? =some (some (ns,sp)))(h5:¬Halt S.pc S.stp)(h6:∀v H',RD K H' v (ml M S ns sp)->da K H' d q td M (fi ns (fj M S ns sp))->aV [d,q] H H'->Q v H'):TM K vs H Q
def KQ(K:aaU):Sp:=fun vs H Q _=>TM K vs H Q
theorem LV:aW ["_law_sim_here","_law_machine_here","_law_line_here","_law_w","_law_rest","_law_reach_here","_law_tops","_law_square","_law_behind","_law_start","_law_many","_law_more","_law_row"] ["_law_sim_here"] (aK Dy):=bh (by decide+kernel)
theorem a0V(F:FA K mg "_law_sim_step" Dy)(B:bw mg)(pO:aj P w K mg base "_law_lead" 1 (kQ K))(a6j:aj P w K mg base "_law_reach" 4 (KR K))(AY:aj P w K mg base "_law_top" 2 (CI K))(vi:aj P w K mg base "_law_sum" 2 (m4 (·+·) K))(pP:aj P w K mg base "_law_frac" 1 (wA K))(Qb:aj P w K mg base "_law_stand" 2 (KJ K))(sH:aj P w K mg base "_law_min" 2 (iZ K))(a6d:aj P w K mg base "_law_ticks" 1 (KH K)):aj P w K mg base "_law_sim_step" 5 (KQ K):=by
 refine F.has LV (fun vs H Q E h=>?_) (fun _ _ _ _ _ _=>dJ fun _=>rfl) (fun fa aD A outer s H vs Q E hr h=>?_)
 · obtain⟨d,q,td,M,D,S,ns,sp,rfl,_⟩:=h
   rfl
 · obtain⟨d,q,td,M,D,S,ns,sp,rfl,R,ok,aF,eo,nh,k⟩:=h
   obtain⟨mv,lv,gv,sv,bv,cv,rv,e,r1,r2,r3,r4,r5,r6⟩:=R.ob;obtain⟨ys,eq,rq⟩:=R.qu;have dq:=R.ne;have nd:=LV.nd;have ll:=ok.row.len;have Aq:=ok.len;have Af:=aF.len;have D1:=ok.D1;have D2:=ok.D2;have zU:=aF.r1;have pT:=aF.f1;have o8:0<S.os.length:=(dh.mp eo).1;have cZ:S.os≠[]:=fun z=>by rw[z]at o8;simp at o8
   obtain⟨dd,ed⟩:∃dd,S.ds[0]? =some dd:=⟨_,bN (show 0<S.ds.length by lia)⟩;obtain⟨y,ey,ry⟩:=rq.get 0 ed;have kI:=jQ (ok.row.it 0 dd _ ed eo);subst kI;obtain⟨dU,gj,gH⟩:=ok.row.ok 0 ns sp eo;have P1:=xE dU;have eZ:=dU.lead.1;have hd:S.dn<ay ns:=by
    rcases ok.dn with z|⟨xk,wD,e1,e2⟩
    ·rw[z];exact eZ
    ·rw[eo]at e1;cases e1;exact e2
   obtain⟨Rd,Rl⟩:=Fb ok.raw aF cZ;have Ke:=Cr S.rate sp;have tl:=zj gj gH ok.rt1 ok.rt2;obtain⟨ma,mb,rfl,gs,je⟩:=kr r1;refine⟨_,(ai (nO (i:=1) (j:=2) rfl nd rfl rfl (by decide) rfl rfl (aa (cj hr (pv 0) aL) (aa (px K (cj hr (pv 0) aL) ah) ae)) rfl) (ai (pS 3 nd (cj hr (pv 0) aL)) (ai (pS 4 nd (az fQ (pf pO hr (aa (pv 2) ae)) (cj hr (pv 0) aL))) (ai (gy (bj (bL O0 (cj hr (pv 0) aL) j4 (ba _)) (aw (fZ (fb hr.units) (pv 0) aL (pf a6j hr (aa (pv 0) ae)) rfl)) bu)) (ai (pS 5 nd (cj hr (pv 0) aL)) (ai (pS 6 nd (cV (aa (pf AY hr (aa (pv 2) (aa (cj hr (pv 0) aL) ae))) ae))) (ai (pS 7 nd (az (vy K rfl) (pv 6) (cV (aa (pf vi hr (aa (pv 3) (aa (dw (aa (px K (pv 1) ah) (aa ah ae))) ae))) (aa (pf vi hr (aa (pv 5) (aa (dw (aa (az bc (px K (pv 1) ah) (az fQ (az bc ah (pv 4)) ah)) (aa ah ae))) ae))) ae))))) (ai (pS 8 nd (az (vy K rfl) (pv 6) (cV (aa (pf vi hr (aa (pv 3) (aa (dw (aa (az bc ah (px K (pv 1) ah)) (aa ah ae))) ae))) (aa (pf vi hr (aa (pv 5) (aa (dw (aa (az bc (az bc ah (px K (pv 1) ah)) (az fQ (pv 4) ah)) (aa ah ae))) ae))) ae))))) (ai (gy (bj (bL wZ (cj hr (pv 0) aL) j4 (ba _)) (ai (fF (cj hr (pv 0) aL) (du K rfl (n:=2) rfl (bE (aX 9 nd) (bE (aX 10 nd) dk)))) (ai (fZ (fb hr.units) (pv 0) aL (az cE (cj hr (pv 0) aL) ah) rfl) (ai (pS 11 nd (az fQ (pv 10) (cj hr (pv 0) aL))) (ai (gY (jt K rfl (pv 7) (aa (pf pP hr (aa (az bc (px K (pv 9) ah) (az cE (az bc ah (pv 11)) ah)) (aa (az bc (az bc (px K (pv 9) ah) ah) (pv 10)) ae))) ae))) (aw (gY (jt K rfl (pv 8) (aa (pf pP hr (aa (az bc (px K (pv 9) ah) (pv 11)) (aa (az bc (px K (pv 9) ah) (pv 10)) ae))) ae)))))))) bu)) (ai (pS 12 nd (gZ (x:="tuple") (kP K rfl) rfl (B.at "tuple") fD (aa (fO (N:=["_law_a","_law_b"]) (js:=[none,none]) rfl rfl rfl (jr K rfl false false rfl (B.at "zip") (aa (pf Qb hr (aa (pv 2) (aa (cj hr (pv 0) aL) ae))) (aa (pf Qb hr (aa (pv 2) (aa (az cE (cj hr (pv 0) aL) ah) ae))) ae))) (fun _ _ _ _ _=>(du K rfl (n:=2) rfl (bE (aX 0 (fw (by decide))) (bE (aX 1 (fw (by decide))) dk)))) (fun _ _ _ _ _=>fh) (fun _ _ _ _ _=>(az fQ (pv 1) (pv 0)))) ae))) (ai (fZ (fb hr.units) (pv 0) aL (gZ (x:="tuple") (kP K rfl) rfl (B.at "tuple") fD (aa (fO (N:=["_law_stand_here","_law_step"]) (js:=[none,none]) rfl rfl rfl (jr K rfl false false rfl (B.at "zip") (aa (cj hr (pv 0) aL) (aa (pv 12) ae))) (fun _ _ _ _ _=>(du K rfl (n:=2) rfl (bE (aX 0 (fw (by decide))) (bE (aX 1 (fw (by decide))) dk)))) (fun _ _ _ _ _=>fh) (fun _ _ _ _ _=>(az cE (pv 0) (pv 1)))) ae)) rfl) (ai (fZ (fb hr.units) (pv 0) aL (pf sH hr (aa (pv 8) ae)) rfl) (ai (fZ (fb hr.units) (pv 0) aL (az cE (cj hr (pv 0) aL) ah) rfl) (ai (gy (bj (bL (cJ K rfl hr.units) (pv 4) ah (ba _)) (ai (gY (NM K rfl (cj hr (pv 0) aL) (aa ah ae))) (ai (fZ (fb hr.units) (pv 0) aL ah rfl) (aw (fZ (fb hr.units) (pv 0) aL j4 rfl)))) bu)) (ai (pS 7 nd (pf sH hr (aa (pv 7) ae))) (aw (aJ (dw (aa aL (aa (pv 12) (aa (pf a6d hr (aa (pv 1) (aa (pv 7) ae))) (aa (pv 7) ae)))))))))))))))))))))),?_⟩;refine⟨_,rfl,d,_,rfl,dg e xW,_,rfl,d,_,rfl,dg e lj,.inl ⟨q,_,0,y,rfl,rfl,au.of eq,cN (fY 0) ey,_,_,rfl,?_⟩⟩;refine⟨_,rfl,d,_,rfl,dg e sM,?_⟩;refine⟨_,rfl,y,ns,sp,rfl,ry,dU.ne,by rw[dU.len];lia,fun H1 s1=>?_⟩;refine⟨_,rfl,d,_,rfl,dg (s1 _ _ e) B7,_,_,rfl,rfl,?_⟩;refine⟨fun σ H2=>∃cx w5 w6 w7 w8 w9 jX nk za,σ=[some (.ref d),some (.ref ma),some y,some sv,some (.int ((ay ns:Int)-S.dn)),w5,w6,w7,w8,w9,jX,nk,za]/\aV [d] H H2/\H2 d=some (.dK (aZ (.ref ma) lv gv sv (.int S.rate) (.str S.side) (.str S.mark) (.ref q) (.int S.dn) bv cv cx (.ref td)))/\aR K H2 cx (fg M S),?_,?_⟩
   · refine⟨_,rfl,d,_,rfl,dg (s1 _ _ e) Qs,rfl,_,rfl,?_⟩
     rcases r6 with rfl|r6
     · refine bF ?_
       refine⟨_,rfl,d,q,td,M,D,S,rfl,R.same ok.row.no s1,ok,aF,cZ,fun v H2 Zx s2=>?_⟩;have e2:=s2 _ _ (s1 _ _ e);refine⟨_,rfl,d,_,rfl,dp e2 zZ jq,?_⟩;have v2:bG H2 (L2.upd H2 d (.dK (aZ (.ref ma) lv gv sv (.int S.rate) (.str S.side) (.str S.mark) (.ref q) (.int S.dn) bv cv v (.ref td)))):=.upd e2 trivial;refine⟨v,_,_,_,_,_,_,_,_,rfl,fun b o eb hb=>?_,aQ,Zx.v v2⟩;have la:b≠d:=fun z=>hb (by rw[z];exact .head _);rw[aB la];exact s2 _ _ (s1 _ _ eb)
     · obtain⟨ra,rfl,hra⟩:=r6
       refine bf ⟨_,_,_,_,_,_,_,_,_,rfl,.of s1,s1 _ _ e,ra,rfl,hra.go s1⟩
   · rintro σ H2 ⟨cx,w5,w6,w7,w8,w9,jX,nk,za,rfl,GR⟩
     have b2:=GR.1;have e2:=GR.2.1;have rR:=GR.2.2;have v2:bG H H2:=b2.v fun x hx o' cK=>by rw[bS]at hx;rw[hx,e]at cK;cases cK;trivial
     have R0:=r4.v v2;have Yq:=RD.v v2 _ (Ak ns sp) ry;have AK:=aI.v v2 gs;have l1:1<=(ay ns:Int)-S.dn:=by lia
     obtain⟨left,el⟩:∃left,(ay ns:Int)-S.dn=left:=⟨_,rfl⟩;have l2:left<=100:=by lia
     rw[el]at l1⊢;have lg:(2:Int)^24=16777216:=by decide
     have fl1:(M.f*(2*left-1)).natAbs<=50*200:=by rw[fq];exact lU (by lia) (by lia)
     have Hz:0<=M.f*(2*left-1):=jo (by lia) (by lia);have fl2:(2*M.f*(left-1)).natAbs<=100*100:=by rw[fq];exact lU (by lia) (by lia)
     have Hy:0<=2*M.f*(left-1):=jo (by lia) (by lia);have wY:Bd 2000 S.pc:=(ok.pd.bd (dB ok.pm (by decide+kernel))).mono (by lia);have RB:Bd 2000 (fg M S):=(Rd.bd (dB Rl (by decide+kernel))).mono (by decide);have tB:Bd 2000 (topR S.rate sp):=(Ke.bd (dB tl (by decide+kernel))).mono (by decide);have B1:Bd 2000 (S.pc+(M.r:Rat)):=pW ok.pd ok.pm (by lia) (by lia) (by lia);have B2:Bd 2000 (fg M S+((M.f*(2*left-1):Int):Rat)):=pW Rd Rl Hz (by lia) (by lia);have B3:Bd 2000 (S.pc+((2*M.r:Int):Rat)):=pW ok.pd ok.pm (by lia) (by lia) (by lia);have B4:Bd 2000 (fg M S+((2*M.f*(left-1):Int):Rat)):=pW Rd Rl Hy (by lia) (by lia);refine⟨_,rfl,d,_,rfl,dg e2 Qs,?_⟩;refine⟨_,rfl,_,rfl,d,_,rfl,dg e2 Hs,y,ns,sp,S.rate,rfl,Yq,gj,gH,ok.rt1,ok.rt2,fun tv H3 rt s3=>?_⟩;have rt:aR K H3 tv (topR S.rate sp):=rt;refine⟨bI rfl,fun lt H4 n4=>?_⟩;have nL:=s3.trans n4.same;refine⟨_,rfl,_,rfl,_,rfl,.inr ⟨ma,_,1,.int M.r,rfl,rfl,AK.go nL,rfl,bI rfl,fun t5 H5 n5=>?_⟩⟩;refine⟨sv,.ref t5,_,_,rfl,(R0.go nL).go n5.same,wQ (aI.of n5.at'),wY,(wa (by lia)).mono (by decide),fun u1 H6 kg s6=>?_⟩;have N1:=nL.trans (n5.same.trans s6);refine⟨_,rfl,_,rfl,.inr ⟨ma,_,2,.int M.f,rfl,rfl,AK.go N1,rfl,_,rfl,_,_,rfl,rfl,.of_left (bM (by decide) (by decide)),_,_,rfl,rfl,_,_,rfl,rfl,.of_left (bM (by lia) (by lia)),bI rfl,fun t7 H7 n7=>?_⟩⟩;refine⟨cx,.ref t7,_,_,rfl,(rR.go N1).go n7.same,wQ (aI.of n7.at'),RB,(wa (by lia)).mono (by decide),fun u2 H8 qQ s8=>?_⟩;refine⟨bI rfl,fun l9 H9 n9=>?_⟩;have EK:=(n5.same.trans s6).trans ((n7.same.trans s8).trans n9.same);refine⟨lt,l9,_,_,rfl,rfl,au.of (EK _ _ n4.at'),au.of n9.at',by show 3<=sizeLine;decide,fun lm ji jw=>?_⟩;have EM:=EK.trans jw.same;have wI:=nL.trans EM;refine⟨_,rfl,_,rfl,_,rfl,.inr ⟨ma,_,1,.int M.r,rfl,rfl,AK.go wI,rfl,_,_,rfl,rfl,.of_left (bM (by decide) (by decide)),bI rfl,fun Xn ir j9=>?_⟩⟩;refine⟨sv,.ref Xn,_,_,rfl,(R0.go wI).go j9.same,wQ (aI.of j9.at'),wY,(wa (by lia)).mono (by decide),fun u3 qk EU ka=>?_⟩;have N3:=wI.trans (j9.same.trans ka);refine⟨_,rfl,_,rfl,.inr ⟨ma,_,2,.int M.f,rfl,rfl,AK.go N3,rfl,_,_,rfl,rfl,.of_left (bM (by decide) (by decide)),_,rfl,_,_,rfl,rfl,_,_,rfl,rfl,.of_left (bM (by lia) (by lia)),bI rfl,fun Xl Jk A9=>?_⟩⟩;refine⟨cx,.ref Xl,_,_,rfl,(rR.go N3).go A9.same,wQ (aI.of A9.at'),RB,(wa (by lia)).mono (by decide),fun u4 Vr ET fM=>?_⟩;refine⟨bI rfl,fun l15 H15 A8=>?_⟩;have zO:=(j9.same.trans ka).trans ((A9.same.trans fM).trans A8.same);refine⟨lt,l15,_,_,rfl,rfl,au.of ((EM.trans zO) _ _ n4.at'),au.of A8.at',by show 3<=sizeLine;decide,fun le kK rF=>?_⟩;have wJ:=zO.trans rF.same;have zM:=wI.trans wJ;have sR:=zM _ _ e2;have BB:=rt.go (n4.same.trans (EM.trans wJ));have U1:=kg.go ((n7.same.trans s8).trans (n9.same.trans (jw.same.trans wJ)));have U2:=qQ.go (n9.same.trans (jw.same.trans wJ));have U3:=EU.go ((A9.same.trans fM).trans (A8.same.trans rF.same));have U4:=ET.go (A8.same.trans rF.same);have dm:kK lm=some (.lst [tv,u1,u2]):=wJ _ _ jw.at';have de:kK le=some (.lst [tv,u3,u4]):=rF.at';have N0:=nL.trans EK;have N2:=wI.trans zO;have vv:d≠lm:=fun z=>by have:=jw.no;rw[<-z,N0 _ _ e2]at this;cases this
     have Bk:d≠le:=fun z=>by have:=rF.no;rw[<-z,N2 _ _ e2]at this;cases this
     have xC:lm≠le:=fun z=>by have:=rF.no;rw[<-z,zO _ _ jw.at']at this;cases this
     have A6:H lm=none:=by cases e':H lm with |none=>rfl |some o=>have:=N0 _ _ (b2 _ _ e' (by rw[bS];exact vv.symm));rw[jw.no]at this;cases this
     have xo:H le=none:=by cases e':H le with |none=>rfl |some o=>have:=N2 _ _ (b2 _ _ e' (by rw[bS];exact Bk.symm));rw[rF.no]at this;cases this
     have JZ:bG H kK:=v2.trans zM.v;refine⟨fun σ HA=>∃dZ w9 jX nk za um ue,σ=[some (.ref d),some (.ref ma),some y,some sv,some (.int left),some cx,some (.ref lt),some (.ref lm),some (.ref le),w9,jX,nk,za]/\aV [d,lm,le] kK HA/\HA d=some (.dK (aZ (.ref ma) lv gv sv (.int S.rate) (.str S.side) (.str S.mark) (.ref q) (.int S.dn) bv dZ cx (.ref td)))/\tI K HA bv dZ (A4 S.stp)/\HA lm=some (.lst um)/\HA le=some (.lst ue)/\(∀H8 Q',bG HA H8->H8 lm=some (.lst um)->(∀v,aR K H8 v (kW M.r M.f S.pc (topR S.rate sp) (fg M S) left S.stp)->Q' v H8)->iZ K [.ref lm] H8 Q' E0)/\(∀H8 Q',bG HA H8->H8 le=some (.lst ue)->(∀v,aR K H8 v (nR M.r M.f S.pc (topR S.rate sp) (fg M S) left S.stp)->Q' v H8)->iZ K [.ref le] H8 Q' E0),?_,?_⟩
     · refine⟨_,rfl,d,_,rfl,dg sR xX,rfl,_,rfl,?_⟩
       cases hs:S.stp with |none=>
         have iC:=r5.v JZ;rw[hs]at iC;have Zw:=iC;obtain⟨rfl,_⟩:=iC;refine bf ⟨cv,_,_,_,_,_,_,rfl,aV.refl _ _,sR,Zw,dm,de,fun H8 Q' sV d8 kq=>Ao d8 (BB.v sV) (U1.v sV) (U2.v sV) tB B1 B2 fun v rv=>kq v ?_,fun H8 Q' sV d8 kq=>Ao d8 (BB.v sV) (U3.v sV) (U4.v sV) tB B3 B4 fun v rv=>kq v ?_⟩
         ·rw[OC]at rv;exact rv
         ·rw[OC]at rv;exact rv |some z=>
         obtain⟨sq,st,gn⟩:=z;have iC:=r5.v JZ;rw[hs]at iC;have sk:=ok.stp;rw[hs]at sk nh;obtain⟨g1,g2,g3⟩:=uH sk ok.pd.nn nh;obtain⟨gn0,gn1,zw,qI,qH,_,_⟩:=sk;obtain⟨ta,su,rfl,uW,⟨sa,rfl,Pw⟩,rfl⟩:=iC;refine bF ?_;have zx:Bd 2000 sq:=(qI.bd qH).mono (by lia);refine⟨_,rfl,d,_,rfl,dg sR xX,ta,_,rfl,uW,rfl,_,_,rfl,_,_,rfl,rfl,?_⟩;refine⟨_,rfl,d,_,rfl,dg sR Qu,_,_,rfl,rfl,_,rfl,d,_,rfl,dp sR NO jq,?_⟩;refine⟨_,rfl,_,rfl,d,_,rfl,dg aQ Qu,_,_,rfl,rfl,?_⟩;have vA:bG kK (L2.upd kK d (.dK (aZ (.ref ma) lv gv sv (.int S.rate) (.str S.side) (.str S.mark) (.ref q) (.int S.dn) (.ref ta) (.int (gn+1)) cx (.ref td)))):=.upd sR trivial;have vt:(L2.upd kK d (.dK (aZ (.ref ma) lv gv sv (.int S.rate) (.str S.side) (.str S.mark) (.ref q) (.int S.dn) (.ref ta) (.int (gn+1)) cx (.ref td)))) lm=some (.lst [tv,u1,u2]):=by rw[aB vv.symm];exact dm
         have Bm:(L2.upd kK d (.dK (aZ (.ref ma) lv gv sv (.int S.rate) (.str S.side) (.str S.mark) (.ref q) (.int S.dn) (.ref ta) (.int (gn+1)) cx (.ref td)))) le=some (.lst [tv,u3,u4]):=by rw[aB Bk.symm];exact de
         have eA:(L2.upd kK d (.dK (aZ (.ref ma) lv gv sv (.int S.rate) (.str S.side) (.str S.mark) (.ref q) (.int S.dn) (.ref ta) (.int (gn+1)) cx (.ref td)))) d=some (.dK (aZ (.ref ma) lv gv sv (.int S.rate) (.str S.side) (.str S.mark) (.ref q) (.int S.dn) (.ref ta) (.int (gn+1)) cx (.ref td))):=aQ;have bA:∀b o,b≠d->kK b=some o->(L2.upd kK d (.dK (aZ (.ref ma) lv gv sv (.int S.rate) (.str S.side) (.str S.mark) (.ref q) (.int S.dn) (.ref ta) (.int (gn+1)) cx (.ref td)))) b=some o:=fun b o hb eb=>by rw[aB hb];exact eb
         generalize L2.upd kK d (.dK (aZ (.ref ma) lv gv sv (.int S.rate) (.str S.side) (.str S.mark) (.ref q) (.int S.dn) (.ref ta) (.int (gn+1)) cx (.ref td)))=HA at vA vt Bm eA bA⊢;have Gy:=aI.v vA Pw;have GX:=den_pos sq;have dW:∀z:Int,0<z->z<=2000->0<(sq.den:Int)*z/\Wd ((sq.den:Int)*z):=fun z h1 h2=>by refine⟨gW GX h1,gF (n:=2011) ?_ (by decide)⟩;rw[fq];exact kn zx.den (show z.natAbs<2^11 by lia)
         have lg:sizeLine=16777216:=by decide
         refine⟨_,rfl,.inl ⟨rfl,_,au.of vt⟩,_,rfl,.inr ⟨sa,_,0,_,rfl,rfl,Gy,rfl,_,rfl,_,_,rfl,rfl,.of_left (bM (by decide) (by decide)),_,_,rfl,rfl,_,_,rfl,rfl,.of_right (bM (by lia) (by lia)),?_⟩⟩;refine⟨_,rfl,.inr ⟨sa,_,1,_,rfl,rfl,Gy,rfl,_,_,rfl,rfl,.of_right (bM (by decide) (by decide)),_,rfl,_,_,rfl,rfl,.of_right (bM (by lia) (by lia)),?_⟩⟩;have W1:=dW (2*st) (by lia) (by lia);rw[<-tV]at W1;refine⟨_,_,rfl,W1.1,W1.2,fun x1 HB wM sB=>?_⟩;have pU:Rat.divInt (sq.num*(2*(st-(gn+1))+1)) ((sq.den:Int)*2*st)=sq*Rat.divInt (2*(st-gn-1)+1) (2*st):=by rw[tV,Qz (show(2*st:Int)≠0 by lia),show st-(gn+1)=st-gn-1 by lia]
         have Bc:Rat.divInt (sq.num*(st-(gn+1))) ((sq.den:Int)*st)=sq*Rat.divInt (st-gn-1) st:=by rw[Qz (show(st:Int)≠0 by lia),show st-(gn+1)=st-gn-1 by lia]
         have wM:aR K HB x1 (sq*Rat.divInt (2*(st-gn-1)+1) (2*st)):=by rw[<-pU];exact wM
         have pB:Bd 2000 (sq*Rat.divInt (2*(st-gn-1)+1) (2*st)):=((qI.bd qH).mul (jO (n:=12) (by lia) (by lia) (by lia))).mono (by lia);have Fx:Bd 2000 (sq*Rat.divInt (st-gn-1) st):=((qI.bd qH).mul (jO (n:=12) (by lia) (by lia) (by lia))).mono (by lia);have Rm:=sB _ _ vt;refine⟨lm,_,_,rfl,rfl,Rm,by show 3<sizeLine;lia,?_⟩;have vC:bG HB (L2.upd HB lm (.lst ([tv,u1,u2]++[x1]))):=.upd Rm trivial;have IB:(L2.upd HB lm (.lst ([tv,u1,u2]++[x1]))) le=some (.lst [tv,u3,u4]):=by rw[aB xC.symm];exact sB _ _ Bm
         have Rk:(L2.upd HB lm (.lst ([tv,u1,u2]++[x1]))) lm=some (.lst [tv,u1,u2,x1]):=aQ;have eC:(L2.upd HB lm (.lst ([tv,u1,u2]++[x1]))) d=some (.dK (aZ (.ref ma) lv gv sv (.int S.rate) (.str S.side) (.str S.mark) (.ref q) (.int S.dn) (.ref ta) (.int (gn+1)) cx (.ref td))):=by rw[aB vv];exact sB _ _ eA
         have bC:∀b o,b≠lm->HB b=some o->(L2.upd HB lm (.lst ([tv,u1,u2]++[x1]))) b=some o:=fun b o hb eb=>by rw[aB hb];exact eb
         generalize L2.upd HB lm (.lst ([tv,u1,u2]++[x1]))=HC at vC IB Rk eC bC⊢;have Px:=aI.v vC (Gy.go sB);refine⟨_,rfl,.inl ⟨rfl,_,au.of IB⟩,_,rfl,.inr ⟨sa,_,0,_,rfl,rfl,Px,rfl,_,rfl,_,_,rfl,rfl,.of_right (bM (by lia) (by lia)),?_⟩⟩;refine⟨_,rfl,.inr ⟨sa,_,1,_,rfl,rfl,Px,rfl,_,rfl,_,_,rfl,rfl,.of_right (bM (by lia) (by lia)),?_⟩⟩;have W2:=dW st (by lia) (by lia);refine⟨_,_,rfl,W2.1,W2.2,fun x2 HD wL sD=>?_⟩;have wL:aR K HD x2 (sq*Rat.divInt (st-gn-1) st):=by rw[<-Bc];exact wL
         have RH:=sD _ _ IB;refine⟨le,_,_,rfl,rfl,RH,by show 3<sizeLine;lia,?_⟩;have vE:bG HD (L2.upd HD le (.lst ([tv,u3,u4]++[x2]))):=.upd RH trivial;have Wf:=sB.v.trans vC;have K0:=sD.v.trans vE;have oV:=vA.trans (Wf.trans K0);refine⟨.int (gn+1),_,_,_,_,[tv,u1,u2,x1],[tv,u3,u4,x2],rfl,fun b o' eb hb=>?_,?_,⟨ta,.ref sa,rfl,aI.v oV uW,⟨sa,rfl,aI.v oV Pw⟩,rfl⟩,?_,aQ,fun H' Q' sV d' kq=>?_,fun H' Q' sV d' kq=>?_⟩
         · have ha:b≠d:=fun z=>hb (by rw[z];simp)
           have GN:b≠lm:=fun z=>hb (by rw[z];simp);have hle:b≠le:=fun z=>hb (by rw[z];simp);rw[aB hle];exact sD _ _ (bC _ _ GN (sB _ _ (bA _ _ ha eb)))
         ·rw[aB Bk];exact sD _ _ eC
         ·rw[aB xC];exact sD _ _ Rk
         · refine An d' ((BB.v oV).v sV) ((U1.v oV).v sV) ((U2.v oV).v sV) (((wM.v vC).v K0).v sV) tB B1 B2 pB fun v rv=>kq v ?_
           rw[OB]at rv;exact rv
         · refine An d' ((BB.v oV).v sV) ((U3.v oV).v sV) ((U4.v oV).v sV) ((wL.v vE).v sV) tB B3 B4 Fx fun v rv=>kq v ?_
           rw[OB]at rv;exact rv
     · rintro σ HA ⟨dZ,w9,jX,nk,a9m,um,ue,rfl,si⟩
       have bt:=si.1;have eA:=si.2.1;have Ku:=si.2.2.1;have vt:=si.2.2.2.1;have Bm:=si.2.2.2.2.1;have km:=si.2.2.2.2.2.1;have ke:=si.2.2.2.2.2.2;have Bv:aV [d] H HA:=fun b o' eb hb=>by
        have ha:b≠d:=fun z=>hb (by rw[z];simp);refine bt b o' (zM _ _ (b2 _ _ eb hb)) fun hm=>?_;simp only[bB,cw,df]at hm;rcases hm with h|h|h
        ·exact ha h
        ·rw[h,A6]at eb;cases eb
        ·rw[h,xo]at eb;cases eb
       have Cj:bG H HA:=Bv.v fun x hx o' cK=>by rw[bS]at hx;rw[hx,e]at cK;cases cK;trivial
       have Wl:bG kK HA:=bt.v fun x hx o' cK=>by
        simp only[bB,cw,df]at hx;rcases hx with h|h|h
        ·rw[h,sR]at cK;cases cK;trivial
        ·rw[h,dm]at cK;cases cK;trivial
        ·rw[h,de]at cK;cases cK;trivial
       have Zq:aR K HA cx (fg M S):=(rR.go zM).v Wl;have N6:=RD.v Cj _ (Ak ns sp) ry;have A1:dR ns.length 1000 ns:=dU.up;have ON:ns.length=M.rs.length:=dU.len;refine⟨_,rfl,_,rfl,d,_,rfl,dg eA B7,y,ns,sp,_,rfl,N6,A1,by lia,by lia,by lia,fun a1 HB Zk sB=>?_⟩;refine⟨_,rfl,_,rfl,d,_,rfl,dg (sB _ _ eA) B7,_,_,rfl,rfl,y,ns,sp,_,rfl,RD.mono sB _ N6,A1,by lia,by lia,by lia,fun a2 HC Zj sC=>?_⟩;obtain⟨p1,rfl,h1⟩:=qV (pl:=gX ns (S.dn:Int)) Zk;obtain⟨p2,rfl,h2⟩:=qV (pl:=gX ns ((S.dn:Int)+1)) Zj;refine⟨p1,p2,rfl,⟨_,h1.go sC⟩,⟨_,h2⟩,fun D1 HD nD=>?_⟩;refine a7X (h1.go sC) h2 (by simp[gX]) (by simp[gX];lia) nD (fun x y H Q h=>⟨_,rfl,_,rfl,_,_,rfl,rfl,h⟩) fun HE sE dE=>?_;refine⟨D1,_,rfl,.inl ⟨au.of dE,fun iO HF nF=>?_⟩⟩;have Gz:aI K HF iO ((gI ns S.dn).map V.int):=by rw[<-YG];exact aI.of nF.at'
       have m5:=sB.trans (sC.trans (sE.trans nF.same));have eF:=m5 _ _ eA;have hlv:=(r2:RD K H lv (eO (eL S)));obtain⟨pa,rfl,rV⟩:=qV (RD.v Cj _ (gJ _) r2);have lpl:(eL S).length=M.rs.length:=NC ok;have a30:(gI ns S.dn).length=(eL S).length:=by rw[lpl];simp[gI,ON]
       refine⟨_,rfl,d,_,rfl,dg eF Qt,_,rfl,pa,iO,rfl,⟨_,rV.go m5⟩,⟨_,Gz⟩,fun D2 HG nG=>?_⟩;refine RR (rV.go m5) Gz a30 (by lia) nG (fun x y H Q h=>⟨_,rfl,_,rfl,_,_,rfl,rfl,h⟩) fun HI sI dI=>?_;refine⟨D2,_,rfl,.inl ⟨au.of dI,fun pt HJ nJ=>?_⟩⟩;have zI:=sI.trans nJ.same;have eJ:=zI _ _ eF;have PC:aI K HJ pt ((fA (eL S) (gI ns S.dn)).map V.int):=aI.of nJ.at';refine⟨_,rfl,d,_,rfl,dp eJ a0l jq,?_⟩;have K1:bG HA HJ:=(m5.trans zI).v;have Ci:bG HJ (L2.upd HJ d (.dK (aZ (.ref ma) (.ref pt) gv sv (.int S.rate) (.str S.side) (.str S.mark) (.ref q) (.int S.dn) bv dZ cx (.ref td)))):=.upd eJ trivial;have e1:(L2.upd HJ d (.dK (aZ (.ref ma) (.ref pt) gv sv (.int S.rate) (.str S.side) (.str S.mark) (.ref q) (.int S.dn) bv dZ cx (.ref td)))) d=some (.dK (aZ (.ref ma) (.ref pt) gv sv (.int S.rate) (.str S.side) (.str S.mark) (.ref q) (.int S.dn) bv dZ cx (.ref td))):=aQ;have b1:∀b o,b≠d->HA b=some o->(L2.upd HJ d (.dK (aZ (.ref ma) (.ref pt) gv sv (.int S.rate) (.str S.side) (.str S.mark) (.ref q) (.int S.dn) bv dZ cx (.ref td)))) b=some o:=fun b o hb eb=>by rw[aB hb];exact zI _ _ (m5 _ _ eb)
       generalize L2.upd HJ d (.dK (aZ (.ref ma) (.ref pt) gv sv (.int S.rate) (.str S.side) (.str S.mark) (.ref q) (.int S.dn) bv dZ cx (.ref td)))=vO at Ci e1 b1⊢;refine⟨_,rfl,?_⟩;dsimp only[lY];refine ke vO _ (K1.trans Ci) (b1 _ _ Bk.symm Bm) fun pe zR=>?_;refine⟨_,rfl,d,_,rfl,dp e1 a0k jq,?_⟩;refine⟨_,rfl,d,_,rfl,dg aQ B7,_,_,rfl,rfl,_,rfl,d,_,rfl,dp aQ NN jq,?_⟩;have vX:bG vO (L2.upd (L2.upd vO d (.dK (aZ (.ref ma) (.ref pt) gv pe (.int S.rate) (.str S.side) (.str S.mark) (.ref q) (.int S.dn) bv dZ cx (.ref td)))) d (.dK (aZ (.ref ma) (.ref pt) gv pe (.int S.rate) (.str S.side) (.str S.mark) (.ref q) (.int ((S.dn:Int)+1)) bv dZ cx (.ref td)))):=fun b o nb eb=>by
        have hb:b≠d:=fun z=>by rw[z,e1]at eb;cases eb;exact nb trivial
        rw[aB hb,aB hb];exact eb
       have eX:(L2.upd (L2.upd vO d (.dK (aZ (.ref ma) (.ref pt) gv pe (.int S.rate) (.str S.side) (.str S.mark) (.ref q) (.int S.dn) bv dZ cx (.ref td)))) d (.dK (aZ (.ref ma) (.ref pt) gv pe (.int S.rate) (.str S.side) (.str S.mark) (.ref q) (.int ((S.dn:Int)+1)) bv dZ cx (.ref td)))) d=some (.dK (aZ (.ref ma) (.ref pt) gv pe (.int S.rate) (.str S.side) (.str S.mark) (.ref q) (.int ((S.dn:Int)+1)) bv dZ cx (.ref td))):=aQ;have bX:∀b o,b≠d->HA b=some o->(L2.upd (L2.upd vO d (.dK (aZ (.ref ma) (.ref pt) gv pe (.int S.rate) (.str S.side) (.str S.mark) (.ref q) (.int S.dn) bv dZ cx (.ref td)))) d (.dK (aZ (.ref ma) (.ref pt) gv pe (.int S.rate) (.str S.side) (.str S.mark) (.ref q) (.int ((S.dn:Int)+1)) bv dZ cx (.ref td)))) b=some o:=fun b o hb eb=>by rw[aB hb,aB hb];exact b1 _ _ hb eb
       generalize(L2.upd (L2.upd vO d (.dK (aZ (.ref ma) (.ref pt) gv pe (.int S.rate) (.str S.side) (.str S.mark) (.ref q) (.int S.dn) bv dZ cx (.ref td)))) d (.dK (aZ (.ref ma) (.ref pt) gv pe (.int S.rate) (.str S.side) (.str S.mark) (.ref q) (.int ((S.dn:Int)+1)) bv dZ cx (.ref td))))=HX at vX eX bX⊢;have zb:=Ci.trans vX;have wc:=K1.trans zb;have qB:=Cj.trans wc;have Bf:HX q=some (.lst ys):=bX _ _ dq.symm (Bv _ _ eq (by rw[bS];exact dq.symm));have ZC:q≠lm:=fun z=>by rw[z,A6]at eq;cases eq
       have Ov:0<kW M.r M.f S.pc (topR S.rate sp) (fg M S) left S.stp:=OE (by lia) (by lia) l1 ok.pd.nn (Kc gj ok.rt1) Rd.nn ok.stp nh;have BC:eL (fi ns (fj M S ns sp))=fA (eL S) (gI ns S.dn):=(ZP eo (by rw[ON,ok.pl]) eZ hd).symm;have BE:cC (fi ns (fj M S ns sp))=cC S:=Qm eo;refine⟨fun σ HY=>σ=[some (.ref d),some (.ref ma),some y,some sv,some (.int left),some cx,some (.ref lt),some (.ref lm),some (.ref le),w9,jX,nk,some (.ref iO)]/\da K HY d q td M (fi ns (fj M S ns sp))/\aV [d,q] H HY/\bG HX HY/\HY lm=some (.lst um),?_,?_⟩
       · refine⟨_,rfl,.inl ⟨_,_,rfl,rfl,_,rfl,?_⟩⟩
         refine dC (fun h0=>?_) (fun h0=>?_)
         · have hl:left=1:=jm h0
           have GW:(fj M S ns sp).dn=ay ns:=by show S.dn+1=ay ns;lia
           obtain⟨fu,gQ⟩:∃fu,S.os=some (ns,sp)::fu:=by cases e:S.os with |nil=>rw[e]at eo;simp at eo |cons a r=>rw[e]at eo;cases eo;exact⟨r,rfl⟩
           have eN:fi ns (fj M S ns sp)={fj M S ns sp with pl:=gB S.pl (some (ns,sp)),ds:=S.ds.tail,os:=fu,dn:=0}:=by unfold fi;rw[aO GW];unfold iI;rw[show(fj M S ns sp).os=some (ns,sp)::fu from gQ];rfl
           rw[eN]at BC BE⊢;have xG:seqIndex? 0 ys.length=some 0:=by have:0<ys.length:=(dh.mp ey).1;unfold seqIndex?;simp[this]
           refine⟨_,rfl,d,_,rfl,dg eX lj,.inl ⟨rfl,_,au.of Bf⟩,q,ys,0,0,y,rfl,rfl,Bf,by decide,by decide,xG,ey,?_⟩;have e3:(L2.upd HX q (.lst (ys.eraseIdx 0))) d=some (.dK (aZ (.ref ma) (.ref pt) gv pe (.int S.rate) (.str S.side) (.str S.mark) (.ref q) (.int ((S.dn:Int)+1)) bv dZ cx (.ref td))):=by rw[aB dq];exact eX
           refine⟨_,rfl,d,_,rfl,dp e3 NN jq,?_⟩;refine⟨_,rfl,d,_,rfl,dp aQ zZ jq,?_⟩;have vY:bG HX (L2.upd (L2.upd (L2.upd HX q (.lst (ys.eraseIdx 0))) d (.dK (aZ (.ref ma) (.ref pt) gv pe (.int S.rate) (.str S.side) (.str S.mark) (.ref q) (.int 0) bv dZ cx (.ref td)))) d (.dK (aZ (.ref ma) (.ref pt) gv pe (.int S.rate) (.str S.side) (.str S.mark) (.ref q) (.int 0) bv dZ .aY (.ref td)))):=fun b o nb eb=>by
            have hb:b≠d:=fun z=>by rw[z,eX]at eb;cases eb;exact nb trivial
            have hq:b≠q:=fun z=>by rw[z,Bf]at eb;cases eb;exact nb trivial
            rw[aB hb,aB hb,aB hq];exact eb
           have bY:∀b o,b≠d->b≠q->HX b=some o->(L2.upd (L2.upd (L2.upd HX q (.lst (ys.eraseIdx 0))) d (.dK (aZ (.ref ma) (.ref pt) gv pe (.int S.rate) (.str S.side) (.str S.mark) (.ref q) (.int 0) bv dZ cx (.ref td)))) d (.dK (aZ (.ref ma) (.ref pt) gv pe (.int S.rate) (.str S.side) (.str S.mark) (.ref q) (.int 0) bv dZ .aY (.ref td)))) b=some o:=fun b o hb hq eb=>by rw[aB hb,aB hb,aB hq];exact eb
           have eY:(L2.upd (L2.upd (L2.upd HX q (.lst (ys.eraseIdx 0))) d (.dK (aZ (.ref ma) (.ref pt) gv pe (.int S.rate) (.str S.side) (.str S.mark) (.ref q) (.int 0) bv dZ cx (.ref td)))) d (.dK (aZ (.ref ma) (.ref pt) gv pe (.int S.rate) (.str S.side) (.str S.mark) (.ref q) (.int 0) bv dZ .aY (.ref td)))) d=some (.dK (aZ (.ref ma) (.ref pt) gv pe (.int S.rate) (.str S.side) (.str S.mark) (.ref q) (.int 0) bv dZ .aY (.ref td))):=aQ;have qY:(L2.upd (L2.upd (L2.upd HX q (.lst (ys.eraseIdx 0))) d (.dK (aZ (.ref ma) (.ref pt) gv pe (.int S.rate) (.str S.side) (.str S.mark) (.ref q) (.int 0) bv dZ cx (.ref td)))) d (.dK (aZ (.ref ma) (.ref pt) gv pe (.int S.rate) (.str S.side) (.str S.mark) (.ref q) (.int 0) bv dZ .aY (.ref td)))) q=some (.lst (ys.eraseIdx 0)):=by rw[aB dq.symm,aB dq.symm];exact aQ
           refine⟨rfl,⟨⟨.ref ma,.ref pt,gv,pe,bv,dZ,.aY,eY,RD.v (qB.trans vY) _ (iS _ _ _ _ _) r1,?_,?_,?_,Ku.v (wc.trans vY),.inl rfl⟩,ys.eraseIdx 0,qY,?_⟩,fun b o eb hb=>?_,vY,bY _ _ vv.symm ZC.symm (bX _ _ vv.symm vt)⟩
           ·rw[BC];exact uv (aI.v vY (aI.v zb PC))
           ·rw[BE];exact RD.v (qB.trans vY) _ (gJ _) r3
           · show aR K _ pe (nR M.r M.f S.pc (topR S.rate sp) (fg M S) ((ay ns:Int)-S.dn) S.stp)
             rw[el];exact(zR.v vX).v vY
           ·exact QM (aE.v (qB.trans vY) _ ok.row.no rq)
           · have ha:b≠d:=fun z=>hb (by rw[z];simp)
             have hq:b≠q:=fun z=>hb (by rw[z];simp);exact bY _ _ ha hq (bX _ _ ha (Bv _ _ eb (by rw[bS];exact ha)))
         · have hl:left≠1:=fun z=>h0 (ck z)
           have a4N:¬(fj M S ns sp).dn=ay ns:=fun z=>hl (by have:S.dn+1=ay ns:=z;lia);have eN:fi ns (fj M S ns sp)=fj M S ns sp:=aP a4N;rw[eN]at BC BE⊢;refine⟨rfl,⟨⟨.ref ma,.ref pt,gv,pe,bv,dZ,cx,eX,RD.v qB _ (iS _ _ _ _ _) r1,?_,?_,?_,Ku.v wc,.inr (show aR K HX cx (fg M S)from Zq.v wc)⟩,ys,Bf,aE.v qB _ ok.row.no rq⟩,fun b o eb hb=>?_,.refl,bX _ _ vv.symm vt⟩
           ·rw[BC];exact uv (aI.v zb PC)
           ·rw[BE];exact RD.v qB _ (gJ _) r3
           · show aR K HX pe (nR M.r M.f S.pc (topR S.rate sp) (fg M S) ((ay ns:Int)-S.dn) S.stp)
             rw[el];exact zR.v vX
           · have ha:b≠d:=fun z=>hb (by rw[z];simp)
             exact bX _ _ ha (Bv _ _ eb (by rw[bS];exact ha))
       · rintro σ HY ⟨rfl,AQ⟩
         have RY:=AQ.1;have bY:=AQ.2.1;have vY:=AQ.2.2.1;have dY:=AQ.2.2.2;refine⟨_,rfl,?_⟩;dsimp only[lY];refine km HY _ (wc.trans vY) dY fun v rv=>?_;have t1:=aF.t1;have nB:Bd 2000 (kW M.r M.f S.pc (topR S.rate sp) (fg M S) left S.stp):=((OF (D:=D) (by lia) (by lia) l1 ok.pd (Ke.mono (by lia)) (Rd.mono (by lia)) ok.stp nh).bd (dB OD (dB tl (by decide+kernel)))).mono (by lia);refine⟨_,rfl,_,rfl,_,rfl,.ref ma,v,M.rs,M.r,M.f,M.j,M.t,_,rfl,RD.v (qB.trans vY) _ (iS _ _ _ _ _) r1,rv,nB,t1.1,t1.2,FJ Ov,fun T T1 _ T2 T3 HZ sZ=>?_⟩;refine⟨_,rfl,bI rfl,fun tt HW nW=>k (.ref tt) HW ?_ (RY.same (One.ok ok aF (.line eo nh)).row.no (sZ.trans nW.same)) (fun b o eb hb=>(sZ.trans nW.same) _ _ (bY b o eb hb))⟩;have etk:=Kd (JN (FJ Ov)) ⟨T1,T2,T3⟩;unfold ml G6 nA;rw[el,etk];exact iB (aI.of nW.at') (bJ (cH _) (bJ (RD.mono (sZ.trans nW.same) _ (uv (aI.v (zI.v.trans (zb.trans vY)) Gz))) (bJ (cX _) (bJ (rv.go (sZ.trans nW.same)).rd cF))))
theorem a7d(q:Rat):PyData.eqv (cD q) (.tuple [.int 0,.int 1])=decide (q=0):=by have h:(q.num=0/\(q.den:Int)=1)↔q=0:=⟨fun h=>Rat.num_eq_zero.mp h.1,fun h=>by rw[h];exact⟨rfl,rfl⟩⟩;rw[nj,qq,<-h];simp[cD,PyData.eqv,PyData.eqvAll]
theorem Y2(d:aaX)(S:aU):(bO d S).pc=S.pc/\(bO d S).rate=S.rate/\(bO d S).stp=S.stp:=by
 unfold bO;split
 · split
   ·exact⟨rfl,rfl,rfl⟩
   ·split<;>exact⟨rfl,rfl,rfl⟩
 ·exact⟨rfl,rfl,rfl⟩
theorem NW{M:bp}{D:Nat}{S:aU}{d:aaX}(ok:bQ M D S)(eo:S.os[0]? =some none):∃fu,S.os=none::fu/\iI (bO d S)={bO d S with pl:=S.pl,ds:=S.ds.tail,os:=fu,dn:=0}/\eL (iI (bO d S))=eL S/\cC (iI (bO d S))=cC S:=by
 obtain⟨fu,gQ⟩:∃fu,S.os=none::fu:=by cases e:S.os with |nil=>rw[e]at eo;simp at eo |cons a r=>rw[e]at eo;cases eo;exact⟨r,rfl⟩
 obtain⟨_,e1,e2,e3,e4⟩:=D9 ok.raw d;have Iw:S.dn=0:=by
  rcases ok.dn with z|⟨xk,wD,e1,e2⟩
  ·exact z
  ·rw[eo]at e1;cases e1
 have eE:iI (bO d S)={bO d S with pl:=S.pl,ds:=S.ds.tail,os:=fu,dn:=0}:=by unfold iI;rw[e1,gQ,e2,e4];rfl
 refine⟨fu,gQ,eE,?_,?_⟩
 · rw[eE]
   unfold eL;rw[aO rfl,aO Iw]
 · rw[eE]
   unfold cC;rw[gQ];rfl
theorem a3Z{c:TT}{ts rest:TS}{D:Ends}{σ:L2.St}{H:Hp}(G:Hp->Prop)(hr:∀H',G H'->rest D σ H')(h:(∀H',G H'->rest D σ H')->Cw (CC c ts Cz) rest D σ H):Cw (CC c ts Cz) rest D σ H:=h hr
inductive TU(K:aaU)(vs:List V)(H:Hp)(Q:VK):Prop |mk (d:_)(q:_)(td:_)(M:_)(D:_)(S:_)(n:_)(h0:vs=[.ref d,.int n])(h1:da K H d q td M S)(h2:bQ M D S)(h3:M.Ok)(h4:0<=n)(h5:n<=1000)(h6:∀l ys es S' H',H l=none->H' l=some (.lst ys)->aE K H' ys es->Run M S es S'->(es.length:Int)<=n->((es.length:Int)=n\/S'.os=[]\/Halt S'.pc S'.stp)->da K H' d q td M S'->aV [d,q] H H'->Q (.ref l) H'):TU K vs H Q
def KW(K:aaU):Sp:=fun vs H Q _=>TU K vs H Q
theorem LZ:aW ["_law_sim_here","_law_n","_law_found","_law_item"] ["_law_sim_here","_law_n"] (aK DC):=bh (by decide+kernel)
theorem a19(F:FA K mg "_law_sim_entries" DC)(B:bw mg)(a6e:aj P w K mg base "_law_sim_step" 5 (KQ K)):aj P w K mg base "_law_sim_entries" 6 (KW K):=by
 refine F.has LZ (fun vs H Q E h=>?_) (fun _ _ _ _ _ _=>cW fun _ _=>rfl) (fun fa aD A outer s H vs Q E hr h=>?_)
 · obtain⟨d,q,td,M,D,S,n,rfl,_⟩:=h
   rfl
 · obtain⟨d,q,td,M,D,S,n,rfl,R,ok,aF,n0,n1,k⟩:=h
   have dq:=R.ne;have nd:=LZ.nd;refine⟨_,(ai (pS 2 nd (cV ae)) (ai (md gE (PW.pt (nN (bL jv (dv K B (aa (pv 2) ae)) (pv 1) (ba _)) (qT (bL qX (dv K B (aa (cj hr (pv 0) aL) ae)) ah (ba _))))) (ai (bj (PW.pt (nN (bL wZ (cj hr (pv 0) aL) j4 (ba _)) (qT (bL (cJ K rfl hr.units) (cj hr (pv 0) aL) (dw (aa ah (aa ah ae))) (ba _))))) (aw (aJ (pv 2))) bu) (ai (pS 3 nd (px K (cj hr (pv 0) aL) ah)) (aw (bj (bL (cJ K rfl hr.units) (px K (pv 3) ah) aL (ba _)) (aw (gY (jt K rfl (pv 2) (aa (pf a6e hr (aa (pv 0) ae)) ae)))) (ai (gy (bj (bL (j8 K rfl hr.units) (px K (pv 3) ah) aL (ba _)) (aw (fZ (fb hr.units) (pv 0) (px K (pv 3) ah) (px K (pv 3) ah) rfl)) bu)) (ai (gY (jt K rfl (pv 2) (aa (NM K rfl (cj hr (pv 0) aL) (aa ah ae)) ae))) (aw (fZ (fb hr.units) (pv 0) aL j4 rfl))))))))) (aw (aJ (pv 2))))),?_⟩;refine⟨bI rfl,fun l H1 nw=>?_⟩;obtain⟨mv,lv,gv,sv,bv,cv,rv,e,r1,r2,r3,r4,r5,r6⟩:=R.ob;obtain⟨ys,eq,rq⟩:=R.qu;have yf:d≠l:=fun z=>by have:=nw.no;rw[<-z,e]at this;cases this
   have ql:q≠l:=fun z=>by have:=nw.no;rw[<-z,eq]at this;cases this
   refine lV (fun σ H2=>∃es S' us w3,σ=[some (.ref d),some (.int n),some (.ref l),w3]/\da K H2 d q td M S'/\H2 l=some (.lst us)/\aE K H2 us es/\Run M S es S'/\(es.length:Int)<=n/\aV [d,q] H H2) (fun _ H2=>match H2 l with|some (.lst us)=>2000-us.length|_=>0) ?_ ?_ ?_
   ·exact⟨[],S,[],none,rfl,R.same ok.row.no nw.same,nw.at',cF,.nil _,by simpa using n0,.of nw.same⟩
   · rintro σ H2 ⟨es,S',us,w3,rfl,R2,dl,rd,run,kC,bt⟩
     have iQ:=run.ok ok aF;have kz:=run.no ok aF;have lu:=rd.length;obtain⟨mv,lv,gv,sv,bv,cv,rv,e,r1,r2,r3,r4,r5,r6⟩:=R2.ob;obtain⟨yq,eq2,rq⟩:=R2.qu;have uQ:=rq.length;have xD:=iQ.row.len;have lg:sizeLine=16777216:=by decide
     refine⟨_,rfl,l,us,rfl,.inl (au.of dl),_,rfl,_,_,rfl,rfl,_,rfl,?_⟩;show if decide ((us.length:Int)<n)=true then _ else _;by_cases c1:(us.length:Int)<n
     · rw[ck c1]
       refine bF ?_;refine⟨_,rfl,d,_,rfl,dg e lj,q,yq,rfl,.inl (au.of eq2),_,_,rfl,rfl,_,rfl,?_⟩;cases jc:S'.os with |nil=>have:yq=[]:=C5.mp (by rw[uQ,xD,jc];rfl);subst this;refine bf ?_;exact⟨_,rfl,k l us es S' H2 nw.no dl rd run kC (.inr (.inl jc)) R2 bt⟩ |cons o os=>
         have cZ:S'.os≠[]:=by rw[jc];simp
         have o8:0<yq.length:=by rw[uQ,xD,jc];simp
         rw[ck (show(0:Int)<(yq.length:Int) by lia)];refine bF ?_;have eo:S'.os[0]? =some o:=by rw[jc];rfl
         refine a3Z (fun H3=>¬Halt S'.pc S'.stp/\ak H2 H3) (fun H3 g=>?_) (fun Py=>?_)
         · obtain⟨nh,s3⟩:=g
           have R3:=R2.same iQ.row.no s3;have e3:=s3 _ _ e;have eq3:=s3 _ _ eq2;have vw:=s3 _ _ dl;have F8:=aE.mono s3 _ rd;have Se:aV [d,q] H H3:=fun b o' eb hb=>s3 _ _ (bt b o' eb hb);have dlq:l∉[d,q]:=by simp;exact⟨yf.symm,ql.symm⟩
           obtain⟨dd,ed⟩:∃dd,S'.ds[0]? =some dd:=⟨_,bN (show 0<S'.ds.length by lia)⟩;obtain⟨y,ey,ry⟩:=rq.get 0 ed;have it:=iQ.row.it 0 dd _ ed eo;have zP:=RD.mono s3 _ ry;refine⟨_,rfl,d,_,rfl,dg e3 lj,.inl ⟨q,_,0,y,rfl,rfl,au.of eq3,cN (fY 0) ey,?_⟩⟩;obtain⟨ya,wd,zs,rfl,xJ,ew,sw⟩:=uU zP it;refine⟨_,rfl,.inr ⟨ya,_,0,.str wd,rfl,rfl,xJ,cN (fY 0) rfl,.inr ⟨_,_,cH _,cH _,sw,rJ,_,rfl,?_⟩⟩⟩;rw[ew];cases o with
           |some z=>
             obtain⟨ns,sp⟩:=z;refine bF ?_;refine⟨_,rfl,.inl ⟨rfl,_,au.of vw⟩,_,rfl,d,q,td,M,D,S',ns,sp,rfl,R3,iQ,aF,eo,nh,fun v H4 cx R4 b4=>?_⟩;have Cm:=R3.v b4;have jA:=b4 _ _ vw dlq;refine⟨l,us,_,rfl,rfl,jA,by lia,?_⟩;have vu:bG H4 (L2.upd H4 l (.lst (us++[v]))):=.upd jA trivial;have one:One M S' (ml M S' ns sp) (fi ns (fj M S' ns sp)):=.line eo nh;have dG:=One.ok iQ aF one;refine⟨⟨es++[ml M S' ns sp],_,us++[v],_,rfl,R4.go dG.row.no vu (fun o' cK=>by rw[aB yf];exact cK) (fun o' cK=>by rw[aB ql];exact cK),aQ,(aE.v (Cm.trans vu) _ kz F8).append (bJ (RD.v vu _ (CF _ _ _) cx) cF),run.snoc one,by rw[fm];show((es.length+1:Nat):Int)<=n;lia,fun b o' eb hb=>?_⟩,?_⟩
             · have dy:b≠l:=fun z=>by have:=nw.no;rw[<-z,eb]at this;cases this
               rw[aB dy];exact b4 _ _ (Se _ _ eb hb) hb
             · show(match(L2.upd H4 l (.lst (us++[v]))) l with|some (.lst us)=>2000-us.length|_=>0)<(match H2 l with|some (.lst us)=>2000-us.length|_=>0)
               rw[aQ,dl];show 2000-(us++[v]).length<2000-us.length;rw[fm];show 2000-(us.length+1)<2000-us.length
               lia |none=>
             refine bf ?_;have gK:=iQ.rw 0 dd eo ed;have tW:SeqAt.shaped (.str "wait")=true:=by decide+kernel
             have eqT:∀(x y:Str),PyData.eqv (.str x) (.str y)=decide (x=y):=fun x y=>by show(x==y)=decide (x=y);rw[nj];simp
             refine⟨fun σ H4=>σ=[some (.ref d),some (.int n),some (.ref l),some (.ref ya)]/\aV [d] H3 H4/\H4 d=some (.dK (aZ mv lv gv sv (.int S'.rate) (.str (bO dd S').side) (.str (bO dd S').mark) (.ref q) (.int S'.dn) bv cv rv (.ref td))),?_,?_⟩
             · rcases gK with⟨m,rfl,_⟩|⟨w',s',rfl,hw,_⟩
               · obtain⟨W7,xs,ea,h1,h2⟩:=zP.dF
                 cases ea;obtain⟨x1,rr,rfl,e1,h2⟩:=h2.cons_inv;cases e1.str_inv;refine⟨_,rfl,.inr ⟨ya,_,0,.str "wait",rfl,rfl,h1,cN (fY 0) rfl,.inr ⟨_,_,cH _,cH _,tW,tW,_,rfl,?_⟩⟩⟩;rw[eqT,ck rfl];exact bf ⟨rfl,aV.refl _ _,e3⟩
               · obtain⟨W7,xs,ea,h1,h2⟩:=zP.dF
                 cases ea;obtain⟨x1,rr,rfl,e1,h2⟩:=h2.cons_inv;obtain⟨x2,rr,rfl,e2,h2⟩:=h2.cons_inv;cases h2.nil_inv;cases e1.str_inv;cases e2.str_inv;have sz:SeqAt.shaped (.str w')=true:=by rcases hw with rfl|rfl<;>decide+kernel
                 have nw':¬w'="wait":=by rcases hw with rfl|rfl<;>decide+kernel
                 refine⟨_,rfl,.inr ⟨ya,_,0,.str w',rfl,rfl,h1,cN (fY 0) rfl,.inr ⟨_,_,cH _,cH _,sz,tW,_,rfl,?_⟩⟩⟩;rw[eqT,eg nw'];refine bF ?_;rcases hw with rfl|rfl
                 · refine⟨_,rfl,.inr ⟨ya,_,1,.str s',rfl,rfl,h1,cN (by decide) rfl,_,rfl,_,rfl,.inr ⟨ya,_,0,.str "tool",rfl,rfl,h1,cN (fY 0) rfl,d,_,rfl,dp e3 a0j jq,?_⟩⟩⟩
                   exact⟨rfl,vF (by simp),aQ⟩
                 · refine⟨_,rfl,.inr ⟨ya,_,1,.str s',rfl,rfl,h1,cN (by decide) rfl,_,rfl,_,rfl,.inr ⟨ya,_,0,.str "mark",rfl,rfl,h1,cN (fY 0) rfl,d,_,rfl,dp e3 a0m jq,?_⟩⟩⟩
                   exact⟨rfl,vF (by simp),aQ⟩
             rintro σ H4 ⟨rfl,b4,e4⟩;have Cm:bG H3 H4:=b4.v fun x hx o' cK=>by rw[bS]at hx;rw[hx,e3]at cK;cases cK;trivial
             have eq4:=b4 _ _ eq3 (by rw[bS];exact dq.symm);have jA:=b4 _ _ vw (by rw[bS];exact yf.symm);have xG:seqIndex? 0 yq.length=some 0:=by unfold seqIndex?;simp[o8]
             have dl5:(L2.upd H4 q (.lst (yq.eraseIdx 0))) l=some (.lst us):=by rw[aB ql.symm];exact jA
             refine⟨_,rfl,.inl ⟨rfl,_,au.of jA⟩,_,rfl,d,_,rfl,dg e4 lj,.inl ⟨rfl,_,au.of eq4⟩,q,yq,0,0,.ref ya,rfl,rfl,eq4,by decide,by decide,xG,ey,?_⟩;refine⟨l,us,_,rfl,rfl,dl5,by lia,?_⟩;have e6:(L2.upd (L2.upd H4 q (.lst (yq.eraseIdx 0))) l (.lst (us++[.ref ya]))) d=some (.dK (aZ mv lv gv sv (.int S'.rate) (.str (bO dd S').side) (.str (bO dd S').mark) (.ref q) (.int S'.dn) bv cv rv (.ref td))):=by rw[aB yf,aB dq];exact e4
             refine⟨_,rfl,d,_,rfl,dp e6 zZ jq,?_⟩;have K2:bG H4 (L2.upd (L2.upd (L2.upd H4 q (.lst (yq.eraseIdx 0))) l (.lst (us++[.ref ya]))) d (.dK (aZ mv lv gv sv (.int S'.rate) (.str (bO dd S').side) (.str (bO dd S').mark) (.ref q) (.int S'.dn) bv cv .aY (.ref td)))):=fun b o nb eb=>by
              have hb:b≠d:=fun z=>by rw[z,e4]at eb;cases eb;exact nb trivial
              have hq:b≠q:=fun z=>by rw[z,eq4]at eb;cases eb;exact nb trivial
              have dy:b≠l:=fun z=>by rw[z,jA]at eb;cases eb;exact nb trivial
              rw[aB hb,aB dy,aB hq];exact eb
             have b7:∀b o,b≠d->b≠q->b≠l->H4 b=some o->(L2.upd (L2.upd (L2.upd H4 q (.lst (yq.eraseIdx 0))) l (.lst (us++[.ref ya]))) d (.dK (aZ mv lv gv sv (.int S'.rate) (.str (bO dd S').side) (.str (bO dd S').mark) (.ref q) (.int S'.dn) bv cv .aY (.ref td)))) b=some o:=fun b o hb hq dy eb=>by rw[aB hb,aB dy,aB hq];exact eb
             have e7:(L2.upd (L2.upd (L2.upd H4 q (.lst (yq.eraseIdx 0))) l (.lst (us++[.ref ya]))) d (.dK (aZ mv lv gv sv (.int S'.rate) (.str (bO dd S').side) (.str (bO dd S').mark) (.ref q) (.int S'.dn) bv cv .aY (.ref td)))) d=some (.dK (aZ mv lv gv sv (.int S'.rate) (.str (bO dd S').side) (.str (bO dd S').mark) (.ref q) (.int S'.dn) bv cv .aY (.ref td))):=aQ;have q7:(L2.upd (L2.upd (L2.upd H4 q (.lst (yq.eraseIdx 0))) l (.lst (us++[.ref ya]))) d (.dK (aZ mv lv gv sv (.int S'.rate) (.str (bO dd S').side) (.str (bO dd S').mark) (.ref q) (.int S'.dn) bv cv .aY (.ref td)))) q=some (.lst (yq.eraseIdx 0)):=by rw[aB dq.symm,aB ql];exact aQ
             have l7:(L2.upd (L2.upd (L2.upd H4 q (.lst (yq.eraseIdx 0))) l (.lst (us++[.ref ya]))) d (.dK (aZ mv lv gv sv (.int S'.rate) (.str (bO dd S').side) (.str (bO dd S').mark) (.ref q) (.int S'.dn) bv cv .aY (.ref td)))) l=some (.lst (us++[.ref ya])):=by rw[aB yf.symm];exact aQ
             generalize(L2.upd (L2.upd (L2.upd H4 q (.lst (yq.eraseIdx 0))) l (.lst (us++[.ref ya]))) d (.dK (aZ mv lv gv sv (.int S'.rate) (.str (bO dd S').side) (.str (bO dd S').mark) (.ref q) (.int S'.dn) bv cv .aY (.ref td))))=H7 at K2 b7 e7 q7 l7⊢;have K3:=Cm.trans K2;have qD:=s3.v.trans K3;obtain⟨fu,gQ,eE,ePl,eGo⟩:=NW (d:=dd) iQ eo;have fx:=Y2 dd S';have one:One M S' dd (iI (bO dd S')):=.gK eo ed nh;have Iw:S'.dn=0:=by
              rcases iQ.dn with z|⟨xk,wD,e1,e2⟩
              ·exact z
              ·rw[eo]at e1;cases e1
             have nod:eR dd=true:=gL.mp iQ.row.no _ (gf ed);refine⟨⟨es++[dd],iI (bO dd S'),us++[.ref ya],_,rfl,?_,l7,(aE.v qD _ kz rd).append (bJ (RD.v K3 _ nod zP) cF),run.snoc one,by rw[fm];show((es.length+1:Nat):Int)<=n;lia,fun b o' eb hb=>?_⟩,?_⟩
             · refine⟨⟨mv,lv,gv,sv,bv,cv,.aY,?_,RD.v qD _ (iS _ _ _ _ _) r1,?_,?_,?_,?_,.inl rfl⟩,yq.eraseIdx 0,q7,?_⟩
               · rw[eE]
                 show H7 d=some (.dK (aZ mv lv gv sv (.int (bO dd S').rate) (.str (bO dd S').side) (.str (bO dd S').mark) (.ref q) (.int 0) bv cv .aY (.ref td)));rw[fx.2.1,e7,Iw];rfl
               ·rw[ePl];exact RD.v qD _ (gJ _) r2
               ·rw[eGo];exact RD.v qD _ (gJ _) r3
               · rw[eE]
                 show aR K H7 sv (bO dd S').pc;rw[fx.1];exact r4.v qD
               · rw[eE]
                 show tI K H7 bv cv (bO dd S').stp;rw[fx.2.2];exact r5.v qD
               · rw[eE]
                 exact QM (aE.v qD _ iQ.row.no rq)
             · have dy:b≠l:=fun z=>by have:=nw.no;rw[<-z,eb]at this;cases this
               have vg:b≠d:=fun z=>hb (by rw[z];simp);have jy:b≠q:=fun z=>hb (by rw[z];simp);exact b7 _ _ vg jy dy (b4 _ _ (Se _ _ eb hb) (by rw[bS];exact vg))
             · show(match H7 l with|some (.lst us)=>2000-us.length|_=>0)<(match H2 l with|some (.lst us)=>2000-us.length|_=>0)
               rw[l7,dl];show 2000-(us++[V.ref ya]).length<2000-us.length;rw[fm];show 2000-(us.length+1)<2000-us.length
               lia
         · refine⟨_,rfl,d,_,rfl,dg e xX,rfl,_,rfl,?_⟩
           cases hs:S'.stp with |none=>have iC:=r5;rw[hs]at iC;obtain⟨rfl,_⟩:=iC;refine bf ?_;exact Py H2 ⟨fun h=>h.1 hs,ak.refl _⟩ |some z=>
             obtain⟨sq,st,gn⟩:=z;have iC:=r5;rw[hs]at iC;obtain⟨ta,su,rfl,_⟩:=iC;refine bF ?_;refine⟨_,rfl,d,_,rfl,dg e sM,bI rfl,fun t H3 n3=>?_⟩;have XZ:SeqAt.shaped (.tuple [.int 0,.int 1])=true:=by decide+kernel
             refine .inr ⟨_,_,(r4.go n3.same).rd,iB (aI.of n3.at') (bJ (cX _) (bJ (cX _) cF)),Zg _,XZ,_,rfl,?_⟩;rw[a7d];by_cases c3:S'.pc=0
             · rw[ck c3]
               refine bF ?_;have R3:=R2.same iQ.row.no n3.same;exact⟨_,rfl,k l us es S' H3 nw.no (n3.same _ _ dl) (aE.mono n3.same _ rd) run kC (.inr (.inr ⟨by rw[hs];simp,c3⟩)) R3 fun b o' eb hb=>n3.same _ _ (bt b o' eb hb)⟩
             · rw[eg c3]
               refine bf ?_;exact Py H3 ⟨fun h=>c3 h.2,n3.same⟩
     · rw[eg c1]
       refine bf ?_;exact⟨_,rfl,k l us es S' H2 nw.no dl rd run kC (.inl (by lia)) R2 bt⟩
   · rintro σ H6 Q1 Q2 hq ⟨v1,f1,l',jY,f2,f3,v2,f4,i1,i2,f5,f6,b1,f7,h⟩
     refine⟨v1,f1,l',jY,f2,f3,v2,f4,i1,i2,f5,f6,b1,f7,xH ?_ (hq _ _) h⟩;rintro⟨v3,f8,a',k',f9,y9,p',y',y8,Ie,i3,i4,Ic,Ib,b2,y6,h⟩;exact⟨v3,f8,a',k',f9,y9,p',y',y8,Ie,i3,i4,Ic,Ib,b2,y6,hq _ _ h⟩
end
end Lw
set_option maxHeartbeats 1000000
namespace Lw
open PySem PySem.Spec PyProof.Rows L2 Rt Ln
section
variable {w:World}{mg:Str->Option Value}{base:Heap}
theorem K8:iz "tuple" "list"=false:=by decide
theorem K9:iz "list" "tuple"=false:=by decide
theorem Sy(n:Nat):(List.replicate n true).all id=true:=by induction n with |zero=>rfl |succ n ih=>rw[List.replicate_succ,JJ,ih];rfl
def a9c(D:aaX):Prop:=(∃z,D= .int z)\/∃s,D= .str s/\SeqAt.shaped (.str s)=true/\PyData.eqv (.str s) (.str s)=true
def Nx(A:aaX->Prop)(D:aaX):Prop:=a9c D\/∃ds,(D= .tuple ds\/D= .list ds)/\ds.length<=100000/\∀x∈ds,A x
inductive UJ(A:aaX->Prop)(K:aaU)(vs:List V)(H:Hp)(Q:VK):Prop |mk (v:_)(u:_)(D:_)(h0:vs=[v,u])(h1:RD K H v D)(h2:RD K H u D)(h3:A D)(h4:∀H',ak H H'->Q (.bl true) H'):UJ A K vs H Q
def wC(A:aaX->Prop)(K:aaU):Sp:=fun vs H Q _=>UJ A K vs H Q
theorem Df:aW ["_law_found","_law_due"] ["_law_found","_law_due"] (aK zJ):=bh (by decide+kernel)
theorem a2c(F:FA K mg "_law_alike" zJ)(B:bw mg):aj P w K mg base "_law_alike" 1 (wC (fun _=>False) K):=by
 refine F.has Df (fun vs H Q E h=>?_) (fun _ _ _ _ _ _=>cW fun _ _=>rfl) (fun f aD A outer s H vs Q E hr h=>?_)
 · obtain⟨v,u,D,rfl,_,_,h,_⟩:=h
   exact h.elim
 · obtain⟨v,u,D,rfl,_,_,h,_⟩:=h
   exact h.elim
theorem A2{A:aaX->Prop}{n:Nat}(hn:1<=n)(F:FA K mg "_law_alike" zJ)(B:bw mg)(AZ:aj P w K mg base "_law_number" 1 (ud K))(jR:aj P w K mg base "_law_alike" n (wC A K)):aj P w K mg base "_law_alike" (n+1) (wC (Nx A) K):=by
 refine F.has Df (fun vs H Q E h=>?_) (fun _ _ _ _ _ _=>cW fun _ _=>rfl) (fun f aD A' outer s H vs Q E hr h=>?_)
 · obtain⟨v,u,D,rfl,_⟩:=h
   rfl
 · obtain⟨v,u,D,rfl,rv,ru,hD,k⟩:=h
   have nd:=Df.nd;rcases hD with(⟨z,rfl⟩|⟨z,rfl,sh,eq⟩)|⟨ds,rfl|rfl,hz,hA⟩
   · refine⟨_,(ai (bj (cA (cY K B (aa (pv 1) (aa (dw (aa (cL (x:="list") (v:=.ty "list") rfl (B.at "list") jU rfl) (aa (cL (x:="tuple") (v:=.ty "tuple") rfl (B.at "tuple") fD rfl) ae))) ae)))) (ai (bj (PW.pt (kh (bL (j8 K rfl hr.units) (cY K B (aa (pv 1) (aa (cL (x:="list") (v:=.ty "list") rfl (B.at "list") jU rfl) ae))) (cY K B (aa (pv 0) (aa (cL (x:="list") (v:=.ty "list") rfl (B.at "list") jU rfl) ae))) (ba _)) (kS (bL (j8 K rfl hr.units) (cY K B (aa (pv 1) (aa (cL (x:="tuple") (v:=.ty "tuple") rfl (B.at "tuple") fD rfl) ae))) (cY K B (aa (pv 0) (aa (cL (x:="tuple") (v:=.ty "tuple") rfl (B.at "tuple") fD rfl) ae))) (ba _))))) (aw (aJ hJ)) bu) (aw (aJ (hO (eQ (cJ K rfl hr.units) (dv K B (aa (pv 0) ae)) (dv K B (aa (pv 1) ae)) (ba _)) (iE (cQ (x:="all") (oG K rfl rfl) rfl (B.at "all") qw (aa (fO (N:=["_law_one","_law_two"]) (js:=[none,none]) rfl rfl rfl (jr K rfl false false rfl (B.at "zip") (aa (pv 0) (aa (pv 1) ae))) (fun _ _ _ _ _=>(du K rfl (n:=2) rfl (bE (aX 0 (fw (by decide))) (bE (aX 1 (fw (by decide))) dk)))) (fun _ _ _ _ _=>fh) (fun _ _ _ _ _=>(nP jR (hr.mono (by lia)) rfl (aa (pv 0) (aa (pv 1) ae))))) ae))))))) bu) (ai (bj (cA (cY K B (aa (pv 1) (aa (cL (x:="str") (v:=.ty "str") rfl (B.at "str") oO rfl) ae)))) (aw (aJ (hO (cY K B (aa (pv 0) (aa (cL (x:="str") (v:=.ty "str") rfl (B.at "str") oO rfl) ae))) (iE (eQ (cJ K rfl hr.units) (pv 0) (pv 1) (ba _)))))) bu) (aw (aJ (hO (nP AZ (hr.mono (by lia)) rfl (aa (pv 0) ae)) (iE (eQ (cJ K rfl hr.units) (pv 0) (pv 1) (ba _)))))))),?_⟩
     cases rv.int_inv;cases ru.int_inv;refine⟨_,rfl,bI rfl,fun tt H1 n1=>.inr ⟨_,"int",tt,["list","tuple"],_,rfl,n1.at',rfl,by decide,rfl,_,rfl,bf ?_⟩⟩;refine⟨_,rfl,.inl ⟨_,"int","str",_,rfl,rfl,by decide,rfl,_,rfl,bf ?_⟩⟩;refine⟨_,rfl,_,"int",rfl,rfl,_,rfl,bF ?_⟩;refine⟨_,rfl,_,rfl,.inl ⟨_,_,rfl,rfl,?_⟩⟩;show Q (.bl (decide (z=z))) H1;rw[ck rfl];exact k H1 n1.same
   · refine⟨_,(ai (bj (cA (cY K B (aa (pv 1) (aa (dw (aa (cL (x:="list") (v:=.ty "list") rfl (B.at "list") jU rfl) (aa (cL (x:="tuple") (v:=.ty "tuple") rfl (B.at "tuple") fD rfl) ae))) ae)))) (ai (bj (PW.pt (kh (bL (j8 K rfl hr.units) (cY K B (aa (pv 1) (aa (cL (x:="list") (v:=.ty "list") rfl (B.at "list") jU rfl) ae))) (cY K B (aa (pv 0) (aa (cL (x:="list") (v:=.ty "list") rfl (B.at "list") jU rfl) ae))) (ba _)) (kS (bL (j8 K rfl hr.units) (cY K B (aa (pv 1) (aa (cL (x:="tuple") (v:=.ty "tuple") rfl (B.at "tuple") fD rfl) ae))) (cY K B (aa (pv 0) (aa (cL (x:="tuple") (v:=.ty "tuple") rfl (B.at "tuple") fD rfl) ae))) (ba _))))) (aw (aJ hJ)) bu) (aw (aJ (hO (eQ (cJ K rfl hr.units) (dv K B (aa (pv 0) ae)) (dv K B (aa (pv 1) ae)) (ba _)) (iE (cQ (x:="all") (oG K rfl rfl) rfl (B.at "all") qw (aa (fO (N:=["_law_one","_law_two"]) (js:=[none,none]) rfl rfl rfl (jr K rfl false false rfl (B.at "zip") (aa (pv 0) (aa (pv 1) ae))) (fun _ _ _ _ _=>(du K rfl (n:=2) rfl (bE (aX 0 (fw (by decide))) (bE (aX 1 (fw (by decide))) dk)))) (fun _ _ _ _ _=>fh) (fun _ _ _ _ _=>(nP jR (hr.mono (by lia)) rfl (aa (pv 0) (aa (pv 1) ae))))) ae))))))) bu) (ai (bj (cA (cY K B (aa (pv 1) (aa (cL (x:="str") (v:=.ty "str") rfl (B.at "str") oO rfl) ae)))) (aw (aJ (hO (cY K B (aa (pv 0) (aa (cL (x:="str") (v:=.ty "str") rfl (B.at "str") oO rfl) ae))) (iE (eQ (cJ K rfl hr.units) (pv 0) (pv 1) (ba _)))))) bu) (aw (aJ (hO (nP AZ (hr.mono (by lia)) rfl (aa (pv 0) ae)) (iE (eQ (cJ K rfl hr.units) (pv 0) (pv 1) (ba _)))))))),?_⟩
     cases rv.str_inv;cases ru.str_inv;refine⟨_,rfl,bI rfl,fun tt H1 n1=>.inr ⟨_,"str",tt,["list","tuple"],_,rfl,n1.at',rfl,by decide,rfl,_,rfl,bf ?_⟩⟩;refine⟨_,rfl,.inl ⟨_,"str","str",_,rfl,rfl,by decide,rfl,_,rfl,bF ?_⟩⟩;refine⟨_,rfl,.inl ⟨_,"str","str",_,rfl,rfl,by decide,rfl,_,rfl,bF ?_⟩⟩;refine⟨_,rfl,_,rfl,.inr ⟨_,_,cH _,cH _,sh,sh,?_⟩⟩;rw[eq];exact k H1 n1.same
   · refine⟨_,(ai (bj (cA (cY K B (aa (pv 1) (aa (dw (aa (cL (x:="list") (v:=.ty "list") rfl (B.at "list") jU rfl) (aa (cL (x:="tuple") (v:=.ty "tuple") rfl (B.at "tuple") fD rfl) ae))) ae)))) (ai (bj (PW.pt (kh (bL (j8 K rfl hr.units) (cY K B (aa (pv 1) (aa (cL (x:="list") (v:=.ty "list") rfl (B.at "list") jU rfl) ae))) (cY K B (aa (pv 0) (aa (cL (x:="list") (v:=.ty "list") rfl (B.at "list") jU rfl) ae))) (ba _)) (kS (bL (j8 K rfl hr.units) (cY K B (aa (pv 1) (aa (cL (x:="tuple") (v:=.ty "tuple") rfl (B.at "tuple") fD rfl) ae))) (cY K B (aa (pv 0) (aa (cL (x:="tuple") (v:=.ty "tuple") rfl (B.at "tuple") fD rfl) ae))) (ba _))))) (aw (aJ hJ)) bu) (aw (aJ (hO (eQ (cJ K rfl hr.units) (dv K B (aa (pv 0) ae)) (dv K B (aa (pv 1) ae)) (ba _)) (iE (cQ (x:="all") (oG K rfl rfl) rfl (B.at "all") qw (aa (fO (N:=["_law_one","_law_two"]) (js:=[none,none]) rfl rfl rfl (jr K rfl false false rfl (B.at "zip") (aa (pv 0) (aa (pv 1) ae))) (fun _ _ _ _ _=>(du K rfl (n:=2) rfl (bE (aX 0 (fw (by decide))) (bE (aX 1 (fw (by decide))) dk)))) (fun _ _ _ _ _=>fh) (fun _ _ _ _ _=>(nP jR (hr.mono (by lia)) rfl (aa (pv 0) (aa (pv 1) ae))))) ae))))))) bu) (ai (bj (cA (cY K B (aa (pv 1) (aa (cL (x:="str") (v:=.ty "str") rfl (B.at "str") oO rfl) ae)))) (aw (aJ (hO (cY K B (aa (pv 0) (aa (cL (x:="str") (v:=.ty "str") rfl (B.at "str") oO rfl) ae))) (iE (eQ (cJ K rfl hr.units) (pv 0) (pv 1) (ba _)))))) bu) (aw (aJ (hO (nP AZ (hr.mono (by lia)) rfl (aa (pv 0) ae)) (iE (eQ (cJ K rfl hr.units) (pv 0) (pv 1) (ba _)))))))),?_⟩
     obtain⟨va,xs,rfl,hV,gP⟩:=rv.dF;obtain⟨ua,ys,rfl,hU,nY⟩:=ru.dF;have lx:=gP.length;have ly:=nY.length;refine⟨_,rfl,bI rfl,fun tt H1 n1=>.inr ⟨_,"tuple",tt,["list","tuple"],_,rfl,n1.at',.inr ⟨rfl,_,hU.go n1.same⟩,by decide,rfl,_,rfl,bF ?_⟩⟩;have s1:=n1.same;refine⟨_,rfl,.inl ⟨_,"tuple","list",_,rfl,.inr ⟨rfl,_,hU.go s1⟩,by decide,K8,_,rfl,.inl ⟨_,"tuple","list",_,rfl,.inr ⟨rfl,_,hV.go s1⟩,by decide,K8,.inr ⟨.bool false,.bool false,kR _,kR _,rfl,rfl,_,rfl,bf ?_⟩⟩⟩⟩;refine⟨_,rfl,.inl ⟨_,"tuple","tuple",_,rfl,.inr ⟨rfl,_,hU.go s1⟩,by decide,K7,_,rfl,.inl ⟨_,"tuple","tuple",_,rfl,.inr ⟨rfl,_,hV.go s1⟩,by decide,K7,.inr ⟨.bool true,.bool true,kR _,kR _,rfl,rfl,_,rfl,bf ?_⟩⟩⟩⟩;refine⟨_,rfl,va,_,rfl,.inr (hV.go s1),_,rfl,ua,_,rfl,.inr (hU.go s1),.inl ⟨_,_,rfl,rfl,_,rfl,?_⟩⟩;rw[ck (show(xs.length:Int)=(ys.length:Int) by lia)];refine bF ?_;refine⟨_,rfl,_,rfl,va,ua,rfl,⟨_,hV.go s1⟩,⟨_,hU.go s1⟩,fun D2 H2 n2=>?_⟩;refine RO (K:=K) (b1:=false) (b2:=false) (xs:=xs) (ys:=ys) (bs:=List.replicate ds.length true) _ rfl (hV.go s1) (hU.go s1) n2 (by rw[C4];lia) (by rw[C4];lia) ?_ ?_
     · intro q x y b H3 Q' ex ey eb s3 hq
       have Ip:b=true:=by
        rw[VN]at eb;split at eb
        ·exact(dj eb).symm
        ·cases eb
       subst Ip;have cP:=s1.trans s3;obtain⟨d1,e1,r1⟩:=gP.get' q ex;obtain⟨d2,e2,r2⟩:=nY.get' q ey;rw[e1]at e2;cases e2;exact⟨_,rfl,_,rfl,x,y,d1,rfl,RD.mono cP _ r1,RD.mono cP _ r2,hA d1 (gf e1),fun H4 s4=>hq H4 s4⟩
     · intro H3 s3 d3
       refine⟨D2,_,rfl,au.of d3,?_⟩;rw[Sy];exact k H3 (s1.trans s3)
   · refine⟨_,(ai (bj (cA (cY K B (aa (pv 1) (aa (dw (aa (cL (x:="list") (v:=.ty "list") rfl (B.at "list") jU rfl) (aa (cL (x:="tuple") (v:=.ty "tuple") rfl (B.at "tuple") fD rfl) ae))) ae)))) (ai (bj (PW.pt (kh (bL (j8 K rfl hr.units) (cY K B (aa (pv 1) (aa (cL (x:="list") (v:=.ty "list") rfl (B.at "list") jU rfl) ae))) (cY K B (aa (pv 0) (aa (cL (x:="list") (v:=.ty "list") rfl (B.at "list") jU rfl) ae))) (ba _)) (kS (bL (j8 K rfl hr.units) (cY K B (aa (pv 1) (aa (cL (x:="tuple") (v:=.ty "tuple") rfl (B.at "tuple") fD rfl) ae))) (cY K B (aa (pv 0) (aa (cL (x:="tuple") (v:=.ty "tuple") rfl (B.at "tuple") fD rfl) ae))) (ba _))))) (aw (aJ hJ)) bu) (aw (aJ (hO (eQ (cJ K rfl hr.units) (dv K B (aa (pv 0) ae)) (dv K B (aa (pv 1) ae)) (ba _)) (iE (cQ (x:="all") (oG K rfl rfl) rfl (B.at "all") qw (aa (fO (N:=["_law_one","_law_two"]) (js:=[none,none]) rfl rfl rfl (jr K rfl true true rfl (B.at "zip") (aa (pv 0) (aa (pv 1) ae))) (fun _ _ _ _ _=>(du K rfl (n:=2) rfl (bE (aX 0 (fw (by decide))) (bE (aX 1 (fw (by decide))) dk)))) (fun _ _ _ _ _=>fh) (fun _ _ _ _ _=>(nP jR (hr.mono (by lia)) rfl (aa (pv 0) (aa (pv 1) ae))))) ae))))))) bu) (ai (bj (cA (cY K B (aa (pv 1) (aa (cL (x:="str") (v:=.ty "str") rfl (B.at "str") oO rfl) ae)))) (aw (aJ (hO (cY K B (aa (pv 0) (aa (cL (x:="str") (v:=.ty "str") rfl (B.at "str") oO rfl) ae))) (iE (eQ (cJ K rfl hr.units) (pv 0) (pv 1) (ba _)))))) bu) (aw (aJ (hO (nP AZ (hr.mono (by lia)) rfl (aa (pv 0) ae)) (iE (eQ (cJ K rfl hr.units) (pv 0) (pv 1) (ba _)))))))),?_⟩
     obtain⟨va,xs,rfl,hV,gP⟩:=rv.lst_inv;obtain⟨ua,ys,rfl,hU,nY⟩:=ru.lst_inv;have lx:=gP.length;have ly:=nY.length;refine⟨_,rfl,bI rfl,fun tt H1 n1=>.inr ⟨_,"list",tt,["list","tuple"],_,rfl,n1.at',.inl ⟨rfl,_,hU.go n1.same⟩,by decide,rfl,_,rfl,bF ?_⟩⟩;have s1:=n1.same;refine⟨_,rfl,.inl ⟨_,"list","list",_,rfl,.inl ⟨rfl,_,hU.go s1⟩,by decide,Ka,_,rfl,.inl ⟨_,"list","list",_,rfl,.inl ⟨rfl,_,hV.go s1⟩,by decide,Ka,.inr ⟨.bool true,.bool true,kR _,kR _,rfl,rfl,_,rfl,bf ?_⟩⟩⟩⟩;refine⟨_,rfl,.inl ⟨_,"list","tuple",_,rfl,.inl ⟨rfl,_,hU.go s1⟩,by decide,K9,_,rfl,.inl ⟨_,"list","tuple",_,rfl,.inl ⟨rfl,_,hV.go s1⟩,by decide,K9,.inr ⟨.bool false,.bool false,kR _,kR _,rfl,rfl,_,rfl,bf ?_⟩⟩⟩⟩;refine⟨_,rfl,va,_,rfl,.inl (hV.go s1),_,rfl,ua,_,rfl,.inl (hU.go s1),.inl ⟨_,_,rfl,rfl,_,rfl,?_⟩⟩;rw[ck (show(xs.length:Int)=(ys.length:Int) by lia)];refine bF ?_;refine⟨_,rfl,_,rfl,va,ua,rfl,⟨_,hV.go s1⟩,⟨_,hU.go s1⟩,fun D2 H2 n2=>?_⟩;refine RO (K:=K) (b1:=true) (b2:=true) (xs:=xs) (ys:=ys) (bs:=List.replicate ds.length true) _ rfl (hV.go s1) (hU.go s1) n2 (by rw[C4];lia) (by rw[C4];lia) ?_ ?_
     · intro q x y b H3 Q' ex ey eb s3 hq
       have Ip:b=true:=by
        rw[VN]at eb;split at eb
        ·exact(dj eb).symm
        ·cases eb
       subst Ip;have cP:=s1.trans s3;obtain⟨d1,e1,r1⟩:=gP.get' q ex;obtain⟨d2,e2,r2⟩:=nY.get' q ey;rw[e1]at e2;cases e2;exact⟨_,rfl,_,rfl,x,y,d1,rfl,RD.mono cP _ r1,RD.mono cP _ r2,hA d1 (gf e1),fun H4 s4=>hq H4 s4⟩
     · intro H3 s3 d3
       refine⟨D2,_,rfl,au.of d3,?_⟩;rw[Sy];exact k H3 (s1.trans s3)
end
end Lw
set_option maxHeartbeats 4000000
namespace Lw
open PySem PySem.Spec PyProof.Rows L2 Rt Ln Cn Pn Wk Rn
open Ow (topR cornO mnO betR atO ownF leadF ownL OkI OkIs)
section
variable {w:World}{mg:Str->Option Value}{base:Heap}
theorem me{z:Str}{n:Nat}(h:SeqAt.shaped (.str z)=true):cU n (.str z):=⟨Vx h,fX _⟩
theorem ug{z:Str}(h:z="step"\/z="wait"\/z="tool"\/z="mark"):SeqAt.shaped (.str z)=true:=by rcases h with rfl|rfl|rfl|rfl<;>decide+kernel
abbrev A0:aaX->Prop:=fun _=>False
theorem ki{A:aaX->Prop}(z:Int):Nx A (.int z):=.inl (.inl ⟨z,rfl⟩)
theorem rA{A:aaX->Prop}{s:Str}{n:Nat}(hn:n<=8)(h:cU n (.str s)):Nx A (.str s):=.inl (.inr ⟨s,rfl,h.shaped (by lia),h.refl⟩)
theorem Xy(ti:Int)(zs:List Int)(q:Rat)(hz:zs.length<=1000):Nx (Nx (Nx A0)) (nA ti zs q):=by
 refine .inr ⟨_,.inl rfl,(by simp),fun x hx=>?_⟩;simp only[bB,cw,df]at hx;rcases hx with rfl|rfl|rfl|rfl
 ·exact rA (n:=0) (by decide) (me (ug (.inl rfl)))
 · refine .inr ⟨_,.inl rfl,by rw[bT];lia,fun y hy=>?_⟩
   obtain⟨z,_,rfl⟩:=jn.mp hy;exact ki z
 ·exact ki _
 · refine .inr ⟨_,.inl rfl,(by simp),fun y hy=>?_⟩
   simp only[bB,cw,df]at hy;rcases hy with rfl|rfl<;>exact ki _
theorem NY{d:aaX}(h:oH d):Nx (Nx (Nx A0)) d:=by
 rcases h with⟨n,rfl,_⟩|⟨w,s,rfl,hw,h,_⟩
 · refine .inr ⟨_,.inl rfl,(by simp),fun x hx=>?_⟩
   simp only[bB,cw,df]at hx;rcases hx with rfl|rfl
   ·exact rA (n:=0) (by decide) (me (ug (.inr (.inl rfl))))
   ·exact ki _
 · refine .inr ⟨_,.inl rfl,(by simp),fun x hx=>?_⟩
   simp only[bB,cw,df]at hx;rcases hx with rfl|rfl
   ·exact rA (n:=0) (by decide) (me (ug (.inr (.inr hw))))
   ·exact rA (by decide) h
theorem a3d{n:Nat}{ns:List Int}{sp:Int}(h:dR n 100 ns)(hn:n<=1000):Nx (Nx (Nx A0)) (hZ ns sp):=by
 refine .inr ⟨_,.inl rfl,(by simp),fun x hx=>?_⟩;simp only[bB,cw,df]at hx;rcases hx with rfl|rfl|rfl
 ·exact .inl (.inr ⟨_,rfl,rJ,by decide+kernel⟩)
 · refine .inr ⟨_,.inl rfl,by rw[bT,h.len];lia,fun y hy=>?_⟩
   obtain⟨z,_,rfl⟩:=jn.mp hy;exact ki z
 ·exact ki _
theorem YH{n:Nat}{ds:List aaX}{os:List Itm}(h:gu n ds os)(hw:RowW ds os)(hn:n<=1000)(hl:ds.length<=1000):Nx (Nx (Nx (Nx A0))) (.list ds):=by refine .inr ⟨_,.inr rfl,by lia,fun x hx=>?_⟩;obtain⟨i,hi⟩:=oU.mp hx;obtain⟨o,eo,it⟩:=h.get hi;cases o with |none=>exact NY (hw i x eo hi) |some z=>obtain⟨ns,sp⟩:=z;rw[jQ it];exact a3d (h.ok i ns sp eo).1 hn
theorem a83{a:Addr}{xs:List V}{bs:List Bool}{te:TE}{Q:VK}{D:Addr}{H H0:Hp}{n:Nat}(Pr:V->V->Prop)(rest:L2.St)(hn:n=2)(hx:au K H a xs)(nw:Nw H H0 D (.lst []))(hl:xs.length=bs.length)(hz:xs.length<=1000) (hp:∀(i:Nat)(x:V),xs[i]? =some x->∃p y z,x= .ref p/\aI K H p [y,z]/\Pr y z) (hs:∀(i:Nat)(y z:V)(b:Bool)(H2:Hp)(Q':VK),Pr y z->bs[i]? =some b->ak H H2->(∀H3,ak H2 H3->Q' (.bl b) H3)->te (some y::some z::rest) H2 Q') (hq:∀H',ak H H'->H' D=some (.lst (bs.map V.bl))->Q (.ref D) H'):iu (qj K a) (om K n (jz (dX 0) (jz (dX 1) pR))) gG te Q D (none::none::rest) H0:=by
  subst hn;have hD:=nw.no;refine pX xs.length (fun i σ H2=>ak H H2/\H2 D=some (.lst ((bs.take i).map V.bl))/\∃v v',σ=v::v'::rest) ?_ ?_ ?_
  ·exact⟨nw.same,nw.at',none,none,rfl⟩
  · rintro i σ H2 hi ⟨s2,d2,v,v',rfl⟩
    have vc:i<bs.length:=by rw[<-hl];exact hi
    have ex:=bN hi;have eb:=bN vc;refine⟨⟨xs,_,hx.go s2,ex⟩,fun y' H3 jx=>?_⟩;obtain⟨rfl,k1⟩:=jx;have e1:=k1 _ (hx.go s2);rw[ex]at e1;cases e1;obtain⟨p,y,z,ep,hpp,pr⟩:=hp i _ ex;rw[ep]at ex⊢;refine⟨p,_,rfl,hpp.go s2,rfl,_,_,rfl,_,_,rfl,rfl,?_⟩;refine yes (bF ?_);refine hs i y z _ _ _ pr eb s2 fun H4 s4=>?_;refine⟨_,s4 _ _ d2,?_,xs.length-(i+1),by lia,rfl,by lia,fun b o e=>?_,?_,_,_,rfl⟩
    · rw[bT,nc]
      have:(1000:Nat)<sizeLine:=by decide
      lia
    ·rw[aB (fH e hD)];exact s4 b o (s2 b o e)
    ·rw[aQ,oT,eb,mZ];rfl
  · rintro σ H2 ⟨s2,d2,v,v',rfl⟩
    refine⟨⟨xs,hx.go s2,bo _⟩,hq H2 s2 ?_⟩;rw[d2,hl,vT]
def BL(es:List aaX):Prop:=SeqAt.shaped (.list es)=true/\PyData.eqv (.list es) (.list es)=true/\cB es=true
structure Ad where
 a:Addr
 q:Addr
 d:Addr
 e:Addr
 t:Addr
def Ad.all(x:Ad):List Addr:=[x.a,x.q,x.d,x.e,x.t]
def mM(K:aaU)(H:Hp)(td:Addr)(n:Nat)(X:Addr->Prop):Prop:=∃ts,H td=some (.lst ts)/\ts.length<=n/\∀t∈ts,∃p l ta us es,t=V.ref p/\aI K H p [.ref l,.ref ta]/\H l=some (.lst us)/\aI K H ta us/\aE K H us es/\BL es/\¬X l
theorem mM.go{H H':Hp}{td:Addr}{n m:Nat}{X X':Addr->Prop}(h:mM K H td n X)(hm:n<=m)(s:bG H H')(et:∀o,H td=some o->H' td=some o)(hl:∀l us,¬X l->H l=some (.lst us)->H' l=some (.lst us)/\¬X' l):mM K H' td m X':=by obtain⟨ts,e,l,ht⟩:=h;refine⟨ts,et _ e,by lia,fun t m=>?_⟩;obtain⟨p,l,ta,us,es,h1,h2,h3,h4,h5,h6,h7⟩:=ht t m;obtain⟨g1,g2⟩:=hl l us h7 h3;exact⟨p,l,ta,us,es,h1,aI.v s h2,g1,aI.v s h4,aE.v s _ h6.2.2 h5,h6,g2⟩
theorem bQ.mono{M:bp}{D D':Nat}{S:aU}(h:bQ M D S)(h1:D<=D')(h2:D'<=1500):bQ M D' S:=by refine⟨h.row,h.rw,h.len,h.rt1,h.rt2,h.dn,h.pl,h.pd.mono (by lia),h.pm,?_,by have:=h.D1;lia,h2⟩;have:=h.stp;cases hs:S.stp with |none=>trivial |some z=>obtain⟨sq,st,gn⟩:=z;rw[hs]at this;obtain⟨g0,g1,g2,hd,hl,hz,hh⟩:=this;exact⟨g0,g1,g2,hd.mono h1,hl,hz,hh⟩
theorem a4D(M:bp)(S:aU):cC (jd M S)=cC S:=by unfold jd;split<;>rfl
theorem One.goal{M:bp}{D:Nat}{S S1:aU}{e:aaX}(ok:bQ M D S)(o:One M S e S1):cC S1=cC S:=by cases o with |line eo nh=>exact Qm eo |gK eo ed nh=>obtain⟨_,_,_,_,h⟩:=NW (d:=e) ok eo;exact h
theorem Run.goal{M:bp}{D:Nat}{S S1:aU}{es:List aaX}(ok:bQ M D S)(aF:M.Ok)(r:Run M S es S1):cC S1=cC S:=by induction r with |nil=>rfl |cons o _ ih=>rw[ih (One.ok ok aF o),o.goal ok]
theorem One.det{M:bp}{S S1 S2:aU}{e f:aaX}(h:One M S e S1)(g:One M S f S2):e=f/\S1=S2:=by cases h with
 |line h1 _=>cases g with |line g1 _=>rw[h1]at g1;cases g1;exact⟨rfl,rfl⟩ |gK g1 _ _=>rw[h1]at g1;cases g1
 |gK h1 h2 _=>cases g with |line g1 _=>rw[h1]at g1;cases g1 |gK g1 g2 _=>rw[h2]at g2;cases g2;exact⟨rfl,rfl⟩
theorem One.go{M:bp}{S S1:aU}{e:aaX}(h:One M S e S1):¬(S.os=[]\/Halt S.pc S.stp):=by
 rintro(z|z)
 ·cases h with |line h1 _=>rw[z]at h1;simp at h1 |gK h1 _ _=>rw[z]at h1;simp at h1
 ·cases h with |line _ nh=>exact nh z |gK _ _ nh=>exact nh z
theorem Run.RG{M:bp}{S S1 S2:aU}{es fs:List aaX}(h:Run M S es S1){n:Int}(l1:(es.length:Int)<=n)(c1:(es.length:Int)=n\/S1.os=[]\/Halt S1.pc S1.stp)(g:Run M S fs S2)(l2:(fs.length:Int)<=n)(c2:(fs.length:Int)=n\/S2.os=[]\/Halt S2.pc S2.stp):es=fs/\S1=S2:=by induction h generalizing fs n with
 |nil=>cases g with |nil=>exact⟨rfl,rfl⟩ |cons o r=>
     rcases c1 with z|z
     ·simp only[jI,JG]at z l2;lia
     ·exact(o.go z).elim
 |cons o r ih=>cases g with
   |nil=>
     rcases c2 with z|z
     ·simp only[jI,JG]at z l1;lia
     ·exact(o.go z).elim |cons o2 r2=>obtain⟨e,z⟩:=o.det o2;subst e z;simp only[jI]at l1 c1 l2 c2;obtain⟨e1,e2⟩:=ih (n:=n-1) (by lia) (c1.imp (fun h=>by lia) id) r2 (by lia) (c2.imp (fun h=>by lia) id);exact⟨by rw[e1],e2⟩
theorem Xx(ti:Int)(zs:List Int)(q:Rat):cU 2 (nA ti zs q):=by refine fV.tup (.cons (me (ug (.inl rfl))) (.cons (fV.tup fun d hd=>?_) (.cons (.int _) (.cons (fV.tup (.cons (.int _) (.cons (.int _) .nil))) .nil))));obtain⟨a,_,rfl⟩:=jn.mp hd;exact .int _
theorem NX{d:aaX}(h:oH d):cU 2 d:=by
 rcases h with⟨n,rfl,_⟩|⟨w,s,rfl,hw,h,_⟩
 ·exact fV.tup (.cons (me (ug (.inr (.inl rfl)))) (.cons (.int _) .nil))
 ·exact fV.tup (.cons (me (ug (.inr (.inr hw)))) (.cons (h.le (by decide)) .nil))
theorem Run.ent{M:bp}{D:Nat}{S S1:aU}{es:List aaX}(ok:bQ M D S)(aF:M.Ok)(r:Run M S es S1):∀d∈es,cU 2 d/\Nx (Nx (Nx A0)) d:=by induction r with |nil=>exact nofun |@cons S S1 S2 e es o r ih=>
   intro d hd;rcases bB.mp hd with rfl|hd
   ·cases o with
     |@line ns sp eo nh=>
       refine⟨Xx _ _ _,Xy _ _ _ ?_⟩;have h1:=(ok.row.ok 0 ns sp eo).1.len;have h2:=aF.len;simp only[gI,bT]
       lia |gK eo ed nh=>have:=ok.rw 0 d eo ed;exact⟨NX this,NY this⟩
   ·exact ih (One.ok ok aF o) d hd
theorem a78{es:List aaX}(h:∀d∈es,cU 2 d)(hn:cB es=true):BL es:=by have:cU 3 (.list es):=fV.lst h;exact⟨this.shaped (by decide),this.refl,hn⟩
section
variable {C a lr ls:Addr}{mv:V}{nK:List Int}{M:bp}{H H':Hp}{n:Nat}{A:Nat->Ad}{S:Nat->aU}
end
def SM(S:aU):Prop:=cU 0 (.str S.side)/\cU 0 (.str S.mark)
theorem XH(pl:List Int):SM (lZ pl):=⟨(me (by decide+kernel):cU 0 (.str "up")),(me (by decide+kernel):cU 0 (.str ""))⟩
theorem same_none{H0 H:Hp}{x:Addr}(s:ak H0 H)(h:H x=none):H0 x=none:=by cases e:H0 x with |none=>rfl |some o=>have:=s _ _ e;rw[h]at this;cases this
theorem Ik{S:aU}(h:SM S):SM (iI S):=by unfold iI;split<;>exact h
theorem One.sm{M:bp}{D:Nat}{S S1:aU}{e:aaX}(ok:bQ M D S)(o:One M S e S1)(h:SM S):SM S1:=by cases o with
 |line eo nh=>
   unfold fi;split
   ·exact Ik h
   ·exact h |gK eo ed nh=>
   have oo:=ok.rw 0 e eo ed;rcases oo with⟨n,rfl,_⟩|⟨w,s,rfl,hw,hs,_⟩
   ·exact Ik h
   · show SM (iI (if w="tool" then{S with side:=s}else if w="mark" then{S with mark:=s}else S))
     refine Ik ?_;split
     ·exact⟨hs,h.2⟩
     · split
       ·exact⟨h.1,hs⟩
       ·exact h
theorem Run.sm{M:bp}{D:Nat}{S S1:aU}{es:List aaX}(ok:bQ M D S)(aF:M.Ok)(r:Run M S es S1)(h:SM S):SM S1:=by induction r with |nil=>exact h |cons o _ ih=>exact ih (One.ok ok aF o) (o.sm ok h)
theorem a4C{M:bp}{S:aU}(h:SM S):SM (jd M S):=by unfold jd;split<;>exact h
theorem NB{A:aaX->Prop}{pl:List Int}(h:pl.length<=1000):Nx (Nx A) (eO pl):=by refine .inr ⟨_,.inl rfl,by rw[bT];lia,fun y hy=>?_⟩;obtain⟨z,_,rfl⟩:=jn.mp hy;exact ki z
theorem Zf{A:aaX->Prop}(q:Rat):Nx (Nx A) (cD q):=by refine .inr ⟨_,.inl rfl,(by simp),fun y hy=>?_⟩;simp only[bB,cw,df]at hy;rcases hy with rfl|rfl<;>exact ki _
theorem Ho{M:bp}{D:Nat}{S:aU}(ok:bQ M D S):(cC S).length=M.rs.length:=xY _ _ ok.pl ok.rj
def uh(S:aU):List aaX:=[eO (eL S),eO (cC S),cD S.pc,.int S.rate,.str S.side,.str S.mark]
theorem Y4{M:bp}{D:Nat}{S:aU}(ok:bQ M D S)(aF:M.Ok)(sm:SM S):Nx (Nx (Nx (Nx A0))) (.list (uh S)):=by
 have lr:=aF.len;refine .inr ⟨_,.inr rfl,(by simp[uh]),fun x hx=>?_⟩;simp only[uh,bB,cw,df]at hx;rcases hx with rfl|rfl|rfl|rfl|rfl|rfl
 ·exact NB (by rw[NC ok];lia)
 ·exact NB (by rw[Ho ok];lia)
 ·exact Zf _
 ·exact ki _
 ·exact rA (n:=0) (by decide) sm.1
 ·exact rA (n:=0) (by decide) sm.2
theorem a3H{M:bp}{D:Nat}{S:aU}(ok:bQ M D S):BL S.ds:=by refine a78 (fun d hd=>?_) ok.row.no;obtain⟨i,hi⟩:=oU.mp hd;obtain⟨o,eo,it⟩:=ok.row.get hi;cases o with |none=>exact NX (ok.rw i d eo hi) |some z=>obtain⟨ns,sp⟩:=z;rw[jQ it];refine fV.tup (.cons (me rJ) (.cons (fV.tup fun d hd=>?_) (.cons (.int _) .nil)));obtain⟨a,_,rfl⟩:=jn.mp hd;exact .int _
theorem a80{a:Addr}{b0 b1:Bool}{te:TE}{Q:VK}{D:Addr}{H H0:Hp}(hx:au K H a [V.bl b0,.bl b1])(nw:Nw H H0 D (.lst []))(hs:∀(b:Bool)(H2:Hp)(Q':VK),Q' (.bl true) H2->te [some (V.bl b)] H2 Q')(hq:∀H',ak H H'->H' D=some (.lst ([true,true].map V.bl))->Q (.ref D) H'):iu (qj K a) (dX 0) gG te Q D [none] H0:=by
 refine a82 (bs:=[true,true]) [] hx nw rfl (by simp) (fun i x b H2 Q' ex eb s2 kq=>?_) hq;have hb:b=true:=by match i,eb with |0,eb=>cases eb;rfl |1,eb=>cases eb;rfl
 subst hb
 match i,ex with |0,ex=>cases ex;exact hs _ _ _ (kq _ (ak.refl _)) |1,ex=>cases ex;exact hs _ _ _ (kq _ (ak.refl _))
inductive TK(K:aaU)(C:Addr)(vs:List V)(H:Hp)(Q:VK):Prop |mk (a:_)(q:_)(d:_)(e:_)(t:_)(M:_)(D:_)(S:_)(n:_)(X:_)(h0:vs=[.ref a,.ref d])(h1:cn K C H a q M S)(h2:da K H d e t M S)(h3:bQ M D S)(h4:M.Ok)(h5:SM S)(h6:mM K H t n X)(h7:40<=n)(h8:n<=900)(h9:(∀x,X x->H x≠none))(xV:X t)(Qk:t≠a)(Qj:t≠q)(Qi:t≠d)(h14:t≠e)(Qh:∀H',aV [t] H H'->mM K H' t n X->Q (.bl true) H'):TK K C vs H Q
def CJ(K:aaU)(C:Addr):Sp:=fun vs H Q _=>TK K C vs H Q
theorem LS:aW ["_law_runner","_law_sim_here","_law_found","_law_due","_law_waits"] ["_law_runner","_law_sim_here"] (aK Dw):=bh (by decide+kernel)
theorem a1a{C:Addr}(F:FA K mg "_law_seen" Dw)(B:bw mg)(TC:fK K C)(jR:aj P w K mg base "_law_alike" 5 (wC (Nx (Nx (Nx (Nx A0)))) K))(Hl:aj P w K mg base "_law_sim_stops" 1 (CK K))(a5Z:cy P w K mg base C "waiting" 1 (eK K C fun _ S H Q=>∀l ys H',H l=none->H' l=some (.lst ys)->aE K H' ys S.ds->ak H H'->Q (.ref l) H'))(a64:cy P w K mg base C "place" 3 (eK K C fun _ S H Q=>∀v H',RD K H' v (eO (eL S))->ak H H'->Q v H'))(Hi:cy P w K mg base C "leads_to" 3 (eK K C fun _ S H Q=>∀v H',RD K H' v (eO (cC S))->ak H H'->Q v H'))(a62:cy P w K mg base C "square" 1 (eK K C (Qv K)))(a63:cy P w K mg base C "rate" 1 (eK K C fun _ S H Q=>Q (.int S.rate) H))(a60:cy P w K mg base C "tool" 1 (eK K C fun _ S H Q=>Q (.str S.side) H))(a66:cy P w K mg base C "last_mark" 1 (eK K C fun _ S H Q=>Q (.str S.mark) H))(sF:cy P w K mg base C "is_held" 1 (eK K C fun _ S H Q=>Q (.bl S.stp.isSome) H))(Hh:cy P w K mg base C "stands" 1 (eK K C fun _ S H Q=>Q (.bl (decide (S.pc=0))) H))(Hg:cy P w K mg base C "stops_in" 1 (eK K C fun M S H Q=>Q (.int (iA M.f S.pc)) H)):aj P w K mg base "_law_seen" 6 (CJ K C):=by
 refine F.has LS (fun vs H Q E h=>?_) (fun _ _ _ _ _ _=>cW fun _ _=>rfl) (fun f aD A outer s H vs Q E hr h=>?_)
 · obtain⟨a,q,d,e,t,M,D,S,n,X,rfl,_⟩:=h
   rfl
 · obtain⟨a,q,d,e,t,M,D,S,n,X,rfl,R,Z,ok,aF,sm,T,n40,a9L,hX,hXt,ta,tq,td,te,k⟩:=h
   obtain⟨dx,Oy,Sd,cg,tv,er,_⟩:=R.ob;obtain⟨mv,lv,gv,sv,bv,cv,rv,ez,r1,r2,r3,r4,r5,r6⟩:=Z.ob;obtain⟨ys,eq,rq⟩:=Z.qu;obtain⟨ts,et,lt,ht⟩:=T;have nd:=LS.nd;have no:=ok.row.no;have Af:=aF.len;have Aq:=ok.len;have lg:sizeLine=16777216:=by decide
   refine⟨_,(ai (pS 2 nd (cV (aa (gk a64 TC.cl (hr.mono (by decide)) (pv 0)) (aa (gk Hi TC.cl (hr.mono (by decide)) (pv 0)) (aa (gk a62 TC.cl (hr.mono (by decide)) (pv 0)) (aa (gk a63 TC.cl (hr.mono (by decide)) (pv 0)) (aa (gk a60 TC.cl (hr.mono (by decide)) (pv 0)) (aa (gk a66 TC.cl (hr.mono (by decide)) (pv 0)) ae)))))))) (ai (pS 3 nd (cV (aa (cj hr (pv 1) aL) (aa (cj hr (pv 1) aL) (aa (cj hr (pv 1) aL) (aa (cj hr (pv 1) aL) (aa (cj hr (pv 1) aL) (aa (cj hr (pv 1) aL) ae)))))))) (ai (pS 4 nd (gk a5Z TC.cl (hr.mono (by decide)) (pv 0))) (ai (bj (PW.pt (kh (dS (cA (pf jR hr (aa (pv 2) (aa (pv 3) ae))))) (kS (dS (cA (pf jR hr (aa (pv 4) (aa (cj hr (pv 1) aL) ae)))))))) (aw (aJ hJ)) bu) (ai (gy (bj (bL jv (dv K B (aa (cj hr (pv 1) aL) ae)) ah (ba _)) (aw (gY (jt K rfl (cj hr (pv 1) aL) (aa (dw (aa (pv 4) (aa (gZ (x:="tuple") (kP K rfl) rfl (B.at "tuple") fD (aa (pv 4) ae)) ae))) ae)))) bu)) (ai (bj (cA (cQ (x:="any") (Sw K rfl rfl) rfl (B.at "any") VH (aa (fO (N:=["_law_one","_law_kept"]) (js:=[none,none]) rfl rfl rfl (wV K rfl (cj hr (pv 1) aL)) (fun _ _ _ _ _=>(du K rfl (n:=2) rfl (bE (aX 0 (fw (by decide))) (bE (aX 1 (fw (by decide))) dk)))) (fun _ _ _ _ _=>fh) (fun _ _ _ _ _=>(eQ (j8 K rfl hr.units) (pv 0) (gZ (x:="list") (G9 K rfl) rfl (B.at "list") jU (aa (pv 1) ae)) (ba _)))) ae))) (aw (aJ hJ)) bu) (ai (pS 2 nd (cV (aa (gk sF TC.cl (hr.mono (by decide)) (pv 0)) (aa (gk Hh TC.cl (hr.mono (by decide)) (pv 0)) ae)))) (ai (bj (dS (cA (cQ (x:="all") (oG K rfl rfl) rfl (B.at "all") qw (aa (fO (N:=["_law_one"]) (js:=[none]) rfl rfl rfl (wV K rfl (pv 2)) (fun _ _ _ _ _=>(aX 0 (rE _))) (fun _ _ _ _ _=>fh) (fun _ _ _ _ _=>(cY K B (aa (pv 0) (aa (cL (x:="bool") (v:=.ty "bool") rfl (B.at "bool") VG rfl) ae))))) ae)))) (aw (aJ hJ)) bu) (ai (bj (bL (j8 K rfl hr.units) (pv 2) (cV (aa (eQ wZ (cj hr (pv 1) aL) j4 (ba _)) (aa (eQ (cJ K rfl hr.units) (cj hr (pv 1) aL) (dw (aa ah (aa ah ae))) (ba _)) ae))) (ba _)) (aw (aJ hJ)) bu) (aw (aJ (pf jR hr (aa (gk Hg TC.cl (hr.mono (by decide)) (pv 0)) (aa (pf Hl hr (aa (pv 1) ae)) ae)))))))))))))),?_⟩;refine⟨_,rfl,a,dx,_,rfl,er,rfl,a,q,M,D,S,rfl,R,ok,aF,fun ZE H1 rp s1=>?_⟩;refine⟨_,rfl,a,dx,_,rfl,s1 _ _ er,rfl,a,q,M,D,S,rfl,R.same no s1,ok,aF,fun gv1 H2 rg s2=>?_⟩;have ka:=s1.trans s2;have R2:=R.same no ka;have mD:=ka _ _ er;refine⟨_,rfl,a,dx,_,rfl,mD,rfl,a,q,M,D,S,rfl,R2,ok,aF,fun XD Yz=>?_⟩;refine⟨_,rfl,a,dx,_,rfl,mD,rfl,a,q,M,D,S,rfl,R2,ok,aF,?_⟩;refine⟨_,rfl,a,dx,_,rfl,mD,rfl,a,q,M,D,S,rfl,R2,ok,aF,?_⟩;refine⟨_,rfl,a,dx,_,rfl,mD,rfl,a,q,M,D,S,rfl,R2,ok,aF,?_⟩;refine⟨bI rfl,fun l1 H3 n3=>?_⟩;have cP:=ka.trans n3.same;have YQ:aE K H3 [ZE,gv1,XD,.int S.rate,.str S.side,.str S.mark] (uh S):=bJ (RD.mono (s2.trans n3.same) _ rp) (bJ (RD.mono n3.same _ rg) (bJ (Yz.go n3.same).rd (bJ (cX _) (bJ (cH _) (bJ (cH _) cF)))));have vo:=cP _ _ ez;refine⟨_,rfl,d,_,rfl,dg vo Qt,?_⟩;refine⟨_,rfl,d,_,rfl,dg vo Ht,?_⟩;refine⟨_,rfl,d,_,rfl,dg vo sM,?_⟩;refine⟨_,rfl,d,_,rfl,dg vo Hs,?_⟩;refine⟨_,rfl,d,_,rfl,dg vo a6E,?_⟩;refine⟨_,rfl,d,_,rfl,dg vo a6F,?_⟩;refine⟨bI rfl,fun l2 H4 n4=>?_⟩;have fM:=cP.trans n4.same;have F1:aE K H4 [lv,gv,sv,.int S.rate,.str S.side,.str S.mark] (uh S):=bJ (RD.mono fM _ r2) (bJ (RD.mono fM _ r3) (bJ (r4.go fM).rd (bJ (cX _) (bJ (cH _) (bJ (cH _) cF)))));refine⟨_,rfl,a,dx,_,rfl,fM _ _ er,rfl,a,q,M,D,S,rfl,R.same no fM,ok,aF,fun l zs H5 nl dl rl s5=>?_⟩;have uo:=fM.trans s5;have MZ:=n4.same.trans s5;refine⟨_,rfl,_,rfl,.ref l1,.ref l2,.list (uh S),rfl,jM (au.of (MZ _ _ n3.at')) (aE.mono MZ _ YQ),jM (au.of (s5 _ _ n4.at')) (aE.mono s5 _ F1),Y4 ok aF sm,fun H6 s6=>?_⟩;have jL:=uo.trans s6;refine⟨_,rfl,bf ?_⟩;refine⟨_,rfl,_,rfl,d,_,rfl,dg (jL _ _ ez) lj,.ref l,.ref e,.list S.ds,rfl,jM (au.of (s6 _ _ dl)) (aE.mono s6 _ rl),jM (au.of (jL _ _ eq)) (aE.mono jL _ rq),YH ok.row ok.rw (by lia) (by lia),fun H7 s7=>?_⟩;have qM:=jL.trans s7;have m6:=s6.trans s7;refine⟨_,rfl,bf ?_⟩;have FQ:H l=none:=same_none fM nl;have Ac:l≠t:=fun z=>by rw[z,et]at FQ;cases FQ
   have lO:=m6 _ _ dl;have YO:=aE.mono m6 _ rl;have Ig:=qM _ _ et;have QF:=qM _ _ ez;have nXl:¬X l:=fun z=>hX l z FQ;have T7:mM K H7 t n X:=mM.go (H:=H) ⟨ts,et,lt,ht⟩ (bo _) qM.v (fun o e=>qM _ _ e) fun l us hx e=>⟨qM _ _ e,hx⟩;refine⟨fun σ H8=>∃v2 v3,σ=[some (.ref a),some (.ref d),v2,v3,some (.ref l)]/\aV [t] H H8/\mM K H8 t n X,?_,?_⟩
   · refine⟨_,rfl,d,_,rfl,dg QF Hr,t,ts,rfl,.inl (au.of Ig),_,_,rfl,rfl,_,rfl,?_⟩
     refine dC (fun Hn=>?_) (fun Hn=>?_)
     · have Hn:((ts.length:Nat):Int)<40:=jm Hn
       refine⟨_,rfl,d,_,rfl,dg QF Hr,.inl ⟨rfl,_,au.of Ig⟩,?_⟩;refine⟨_,rfl,_,rfl,l,zs,rfl,.inl ⟨au.of lO,fun tt HB nB=>?_⟩⟩;refine⟨bI rfl,fun tp HC nC=>?_⟩;have zL:=nB.same.trans nC.same;have QJ:=zL _ _ Ig;refine⟨t,ts,_,rfl,rfl,QJ,by lia,?_⟩;have vD:bG HC (L2.upd HC t (.lst (ts++[.ref tp]))):=.upd QJ trivial;have bD:∀x o,x≠t->HC x=some o->(L2.upd HC t (.lst (ts++[.ref tp]))) x=some o:=fun x o hx e=>by rw[aB hx];exact e
       have eD:(L2.upd HC t (.lst (ts++[.ref tp]))) t=some (.lst (ts++[.ref tp])):=aQ;generalize L2.upd HC t (.lst (ts++[.ref tp]))=HD at vD bD eD⊢;have EI:=qM.trans zL;refine⟨_,_,rfl,fun x o eb hb=>bD x o (fun z=>hb (by rw[z];simp)) (EI _ _ eb),ts++[.ref tp],eD,by rw[fm];show ts.length+1<=_;lia,fun y hy=>?_⟩;rcases vU.mp hy with hy|hy
       · obtain⟨p0,l0,wq,u0,e0,h1,h2,h3,h4,h5,h6,h7⟩:=ht y hy
         have Co:=EI.v.trans vD;have l0t:l0≠t:=fun z=>h7 (z▸hXt);exact⟨p0,l0,wq,u0,e0,h1,aI.v Co h2,bD _ _ l0t (EI _ _ h3),aI.v Co h4,aE.v Co _ h6.2.2 h5,h6,h7⟩
       · rw[bS]at hy
         exact⟨tp,l,tt,zs,S.ds,hy,aI.v vD (aI.of nC.at'),bD _ _ Ac (zL _ _ lO),aI.v vD ((aI.of nB.at').go nC.same),aE.v (zL.v.trans vD) _ no YO,a3H ok,nXl⟩
     ·exact⟨_,_,rfl,aV.of qM,T7⟩
   · rintro σ H8 ⟨v2,v3,rfl,b8,T8⟩
     have v8:bG H H8:=b8.v fun x hx o eo=>by rw[bS]at hx;rw[hx,et]at eo;cases eo;trivial
     have uJ:∀{x},x≠t->x∉[t]:=fun h=>by rw[bS];exact h
     have R8:=R.go no v8 (fun o e=>b8 _ _ e (uJ ta.symm)) (fun o e=>b8 _ _ e (uJ tq.symm));have Z8:=Z.go no v8 (fun o e=>b8 _ _ e (uJ td.symm)) (fun o e=>b8 _ _ e (uJ te.symm));have ez8:=b8 _ _ ez (uJ td.symm);have Ih:=b8 _ _ er (uJ ta.symm);obtain⟨Cq,QK,lt8,ht8⟩:=id T8;refine⟨_,rfl,d,_,rfl,dg ez8 Hr,t,rfl,⟨_,au.of QK⟩,fun D1 H9 n9=>?_⟩;refine a83 (bs:=Cq.map fun _=>false) (fun y z=>∃l ta us es,y= .ref l/\z= .ref ta/\H8 l=some (.lst us)/\aI K H8 ta us/\aE K H8 us es/\BL es) [] rfl (au.of QK) n9 (by rw[bT]) (by lia) (fun i x ex=>?_) (fun i y z b HA Q' pr eb sA kq=>?_) fun HA sA dA=>?_
     · obtain⟨p,l',wq,us,es,rfl,hp,h1,h2,h3,h4,_⟩:=ht8 x (gf ex)
       exact⟨p,_,_,rfl,hp,l',wq,us,es,rfl,rfl,h1,h2,h3,h4⟩
     · obtain⟨l',wq,us,es,rfl,rfl,dy,uW,res,Ij⟩:=pr
       have eb:b=false:=by rw[bZ]at eb;cases h:Cq[i]? with |none=>rw[h]at eb;cases eb |some c=>rw[h]at eb;cases eb;rfl
       subst eb;refine⟨_,rfl,_,rfl,wq,us,rfl,.inr (uW.go sA),fun l2 HB nB=>?_⟩;refine .inr ⟨.list es,.list es,jM (au.of (nB.same _ _ (sA _ _ dy))) (aE.mono (sA.trans nB.same) _ res),jM (au.of nB.at') (aE.mono (sA.trans nB.same) _ res),Ij.1,Ij.1,?_⟩;rw[Ij.2.1];exact kq _ nB.same
     · refine⟨D1,_,rfl,au.of dA,_,rfl,?_⟩
       have ef:(Cq.map fun _=>false).any id=false:=by rw[List.any_map,List.any_eq_false];simp
       rw[ef];refine bf ?_;refine⟨_,rfl,a,dx,_,rfl,sA _ _ Ih,rfl,a,q,M,D,S,rfl,R8.same no sA,ok,aF,?_⟩;refine⟨_,rfl,a,dx,_,rfl,sA _ _ Ih,rfl,a,q,M,D,S,rfl,R8.same no sA,ok,aF,?_⟩;refine⟨bI rfl,fun l3 HB nB=>?_⟩;have Ym:=sA.trans nB.same;refine⟨_,rfl,l3,rfl,⟨_,au.of nB.at'⟩,fun D2 HC nC=>?_⟩;refine a80 (au.of nB.at') nC (fun b H2 Q' hq=>?_) fun HD sD dD=>?_
       ·exact⟨_,rfl,.inl ⟨_,"bool","bool",true,rfl,rfl,by decide,by decide,hq⟩⟩
       refine⟨D2,_,rfl,au.of dD,_,rfl,bf ?_⟩;have MW:=Ym.trans sD;obtain⟨mv',lv',gv',oY,vB,dZ,cx,ez',q1,q2,q3,q4,q5,q6⟩:=Z8.ob;have QE:=MW _ _ ez';refine⟨_,rfl,_,rfl,d,_,rfl,dg QE xX,rfl,?_⟩;refine⟨_,rfl,d,_,rfl,dg QE sM,bI rfl,fun tz HE nE=>?_⟩;have MV:=MW.trans nE.same;refine .inr ⟨cD S.pc,cD 0,(q4.go MV).rd,(rB (aI.of nE.at')).rd,rfl,rfl,?_⟩;rw[Np];refine⟨bI rfl,fun l4 HF nF=>?_⟩;have m5:=MV.trans nF.same;have eB:(!decide (vB= .aY))=S.stp.isSome:=by cases hs:S.stp with |none=>rw[hs]at q5;rw[q5.1];rfl |some z=>obtain⟨sq,st,gn⟩:=z;rw[hs]at q5;obtain⟨ta,su,rfl,_⟩:=q5;rfl
       rw[eB]at nF;have Yl:=sD.trans (nE.same.trans nF.same);refine .inr ⟨.list [.bool S.stp.isSome,.bool (decide (S.pc=0))],.list [.bool S.stp.isSome,.bool (decide (S.pc=0))],jM (au.of (Yl _ _ nB.at')) (bJ (kR _) (bJ (kR _) cF)),jM (au.of nF.at') (bJ (kR _) (bJ (kR _) cF)),rfl,rfl,?_⟩;rw[show PyData.eqv (.list [.bool S.stp.isSome,.bool (decide (S.pc=0))]) (.list [.bool S.stp.isSome,.bool (decide (S.pc=0))])=true by cases S.stp.isSome<;>cases decide (S.pc=0)<;>rfl];refine⟨_,rfl,bf ?_⟩;refine⟨_,rfl,a,dx,_,rfl,m5 _ _ Ih,rfl,a,q,M,D,S,rfl,R8.same no m5,ok,aF,?_⟩;refine⟨_,rfl,d,e,t,M,D,S,rfl,Z8.same no m5,ok,aF,?_⟩;refine⟨_,_,.int _,rfl,cX _,cX _,ki _,fun HG sG=>?_⟩;have zK:=m5.trans sG;refine k HG (fun x o eb hb=>zK _ _ (b8 _ _ eb hb)) (T8.go (bo _) zK.v (fun o e=>zK _ _ e) fun l us hx e=>⟨zK _ _ e,hx⟩)
end
end Lw
set_option maxHeartbeats 1000000
namespace Lw
open PySem PySem.Spec PyProof.Rows L2 Rt Ln Cn Pn Wk Rn
open Ow (topR cornO mnO betR atO ownF leadF ownL OkI OkIs)
section
variable {w:World}{mg:Str->Option Value}{base:Heap}
inductive U8(K:aaU)(C:Addr)(R:kJ)(vs:List V)(H:Hp)(Q:VK)(E:XK):Prop |mk (a:_)(q:_)(M:_)(D:_)(S:_)(v:_)(d:_)(o:_)(h0:vs=[.ref a,v])(h1:cn K C H a q M S)(h2:bQ M D S)(h3:M.Ok)(h4:RD K H v d)(h5:mT M.rs.length d o)(h6:iq M.rs (gB (cC S) o))(h7:(S.ds.length=20->∀H',ak H H'->E (.ref R.f) none H'))(h8:(S.ds.length<20->∀H',cn K C H' a q M (mC S d o)->aV [a,q] H H'->Q (.int (S.ds.length+1:Nat)) H')):U8 K C R vs H Q E
def zC(K:aaU)(C:Addr)(R:kJ):Sp:=fun vs H Q E=>U8 K C R vs H Q E
theorem a1s{C:Addr}{R:kJ}(F:MA K C "feed" "Runner.feed" DX)(TC:fK K C)(B:bw mg)(a6s:Exc K mg "Full" R.f vG xj)(a5O:GV mg "MOST_WAITING" (.int 20))(a54:aj P w K mg base "is_item" 4 (CT K))(a52:aj P w K mg base "is_place" 3 (CU K))(xM:aj P w K mg base "place_behind" 2 (wB K))(Hi:cy P w K mg base C "leads_to" 3 (eK K C fun _ S H Q=>∀v H',RD K H' v (eO (cC S))->ak H H'->Q v H')):BJ P w K mg base C "feed" 5 (zC K C R):=by
 refine F.a5w Ma (fun vs H Q E h=>?_) (fun _ _ _ _ _ _=>cW fun _ _=>rfl) (fun f aD A outer s H vs Q E hr h=>?_)
 · obtain⟨a,q,M,D,S,v,d,o,rfl,_⟩:=h
   rfl
 · obtain⟨a,q,M,D,S,v,d,o,rfl,Ra,ok,aF,rd,it,pj,kf,kd⟩:=h
   obtain⟨i1,i2,i3⟩:=it.is;obtain⟨dx,mv,bv,cg,tv,e,r1,r2,r3,r4⟩:=Ra.ob;obtain⟨ys,eq,rq⟩:=Ra.qu;have nd:=Ma.nd;have lr:=aF.len;have ly:=rq.length;refine⟨_,(ai (bj (dS (cA (pf a54 hr (aa (cI TC.cl TC.n_machine (pv 0)) (aa (pv 1) ae))))) (aw uu) bu) (ai (bj (dS (cA (pf a52 hr (aa (cI TC.cl TC.n_machine (pv 0)) (aa (pf xM hr (aa (gk Hi TC.cl (hr.mono (by decide)) (pv 0)) (aa (pv 1) ae))) ae))))) (aw uu) bu) (ai (bj (bL FD (dv K B (aa (cI TC.cl TC.n_queue (pv 0)) ae)) (dQ (x:="MOST_WAITING") rfl a5O) (ba _)) (aw (ZJ (fun _ _ _ _ _ _ _ I m q=>W8 I m q) a6s PySem.F.excBase_ValueError hr.hd rfl (aa aL ae))) bu) (ai (gY (jt K rfl (cI TC.cl TC.n_queue (pv 0)) (aa (pv 1) ae))) (aw (aJ (dv K B (aa (cI TC.cl TC.n_queue (pv 0)) ae)))))))),?_⟩;refine⟨_,rfl,a,dx,_,_,rfl,e,rfl,_,rfl,mv,v,M.rs,_,d,rfl,r1,rd,by lia,i2,i3,fun H1 s1=>⟨_,rfl,?_⟩⟩;rw[i1];refine bf ?_;have e1:=s1 _ _ e;have R1:=Ra.same ok.row.no s1;refine⟨_,rfl,a,dx,_,_,rfl,e1,rfl,?_⟩;refine⟨_,rfl,a,dx,_,rfl,e1,rfl,a,q,M,D,S,rfl,R1,ok,aF,fun g H2 rg s2=>?_⟩;have ka:=s1.trans s2;have gl:(cC S).length=M.rs.length:=xY _ _ ok.pl ok.rj;have bl:(gB (cC S) o).length=M.rs.length:=vI gl fun ns sp eo=>(it.ln ns sp eo).1.len;refine⟨_,rfl,g,v,cC S,d,o,rfl,rg,RD.mono ka _ rd,it.it,fun ns sp e'=>by rw[gl];exact(it.ln ns sp e').1.len,by lia,fun u H3 ru s3=>?_⟩;have cP:=ka.trans s3;refine⟨mv,u,M.rs,_,_,rfl,RD.mono cP _ r1,ru,by lia,fun H4 s4=>⟨_,rfl,?_⟩⟩;rw[a0C pj];refine bf ?_;have fM:=cP.trans s4;have e4:=fM _ _ e;have eq4:=fM _ _ eq;refine⟨_,rfl,a,dx,_,_,rfl,e4,rfl,q,_,rfl,.inl (au.of eq4),_,_,rfl,rfl,_,rfl,?_⟩;by_cases kG:S.ds.length=20
   · rw[show decide ((ys.length:Int)>=20)=true from ck (by lia)]
     exact bF ⟨bI rfl,kf kG _ fM⟩
   have Aq:=ok.len;rw[show decide ((ys.length:Int)>=20)=false from eg (by lia)];refine bf ?_;have lg:sizeLine=16777216:=by decide
   refine⟨_,rfl,a,dx,_,_,rfl,e4,rfl,.inl ⟨rfl,_,au.of eq4⟩,_,rfl,q,ys,_,rfl,rfl,eq4,by lia,?_⟩;have aq:=Ra.ne;have tu:bG H4 (L2.upd H4 q (.lst (ys++[v]))):=.upd eq4 trivial;have e5:(L2.upd H4 q (.lst (ys++[v]))) a=some (.ins C dx (fN mv bv (.int S.dn) (.ref q) cg (.int S.rate) (.str S.side) (.str S.mark) tv)):=by rw[aB aq];exact e4
   refine⟨_,rfl,a,dx,_,_,rfl,e5,rfl,q,_,rfl,.inl (au.of aQ),?_⟩;have sv:bG H (L2.upd H4 q (.lst (ys++[v]))):=fM.v.trans tu;have el:((ys++[v]).length:Int)=((S.ds.length+1:Nat):Int):=by rw[fm,ly];rfl
   rw[el];refine kd (by lia) _ ⟨⟨dx,mv,bv,cg,tv,e5,RD.v sv _ (iS _ _ _ _ _) r1,RD.v sv _ (gJ _) r2,r3.v sv,r4.v sv⟩,_,aQ,?_⟩ fun b o' eb hb=>?_
   ·exact(aE.v sv _ ok.row.no rq).append (bJ (RD.v sv _ it.it.no rd) cF)
   · have la:b≠q:=fun z=>hb (by rw[z];simp)
     rw[aB la];exact fM _ _ eb
inductive tj(R:kJ):Addr->Bool->Bool->Bool->Nat->Str->Prop |f:tj R R.f true false false 2 "full"
def SK(R:kJ)(Q:VK):XK:=fun cls dx H'=>∃C b2 b3 b4 j w,tj R C b2 b3 b4 j w/\cls= .ref C/\∀Vs,ak H' Vs->Q (.str w) Vs
theorem tj.kc{R:kJ}{cG c0 c1 c2 c3 c4 c5 C:Addr}{b2 b3 b4:Bool}{j:Nat}{z:Str}(A:BF K mg R cG c0 c1 c2 c3 c4 c5)(h:tj R C b2 b3 b4 j z):KC K R cG [c0,c1,c2,c3,c4,c5] C false false b2 b3 b4/\ClsAt K C:=by
 cases h
 ·exact⟨A.f,A.xf.cls⟩
theorem tj.one{R:kJ}{C:Addr}{b2 b3 b4:Bool}{j:Nat}{z:Str}(h:tj R C b2 b3 b4 j z):[false,false,b2,b3,b4].count true=1/\[false,false,b2,b3,b4][j]? =some true/\(∀m,m<j->[false,false,b2,b3,b4][m]? =some false)/\j<1000/\fz [V.str "item",.str "",.str "full",.str "moving",.str "rate"] (j:Nat)=some (.str z):=by
 cases h<;>refine⟨by decide,rfl,fun m hm=>?_,by decide,rfl⟩
 ·match m,hm with|0,_=>rfl|1,_=>rfl
def zB(P:aaW)(w:World)(K:aaU)(mg:Str->Option Value)(base:Heap)(R:kJ)(k:Nat):tD:=fun outer s vs H Q _=>∃(f c:Addr)(cl:List (Str×Addr))(pr:Arguments)(b:Expr)(sc:Scope)(q:Str)(N:List Str)(xs:List V)(t:XK->TE),vs=[.ref f]/\vL s.heap H (cR outer) f pr b sc q c cl/\H c=some (.ext (jj c q))/\qo s.heap H (cR outer) cl N xs/\xs.length=N.length/\tF N sc/\(∀pm cd ct,bindArgs (PySem.W.kla_fn "<lambda>" q pr b sc cl pm cd ct) ⟨[],[]⟩=pure [])/\(∀(A:aaY)(outer:List Env)(s:aaV)(H:Hp)(E:XK),cu k (A.deeper (PySem.W.envX q sc s.heap.objs.size f (.ref c) cl))->PE (pG (jG P w) P w K mg base N q sc f (.ref c) cl A outer s H E) b (t E))/\t (SK R Q) (xs.map some) H Q
theorem M1:aW ["_law_deed_here","e","_law_kinds","_law_others"] ["_law_deed_here"] (aK DE):=bh (by decide+kernel)
theorem a1v{R:kJ}{cG c0 c1 c2 c3 c4 c5:Addr}{k:Nat}(F:FA K mg "_law_refused" DE)(B:bw mg)(EA:BF K mg R cG c0 c1 c2 c3 c4 c5):yB P w K mg base "_law_refused" (k+2) (zB P w K mg base R k):=by
 refine F.a5v M1 (fun outer s vs H Q E h=>?_) (fun _ _ _ _ _ _=>dJ fun _=>rfl) (fun f0 aD A outer s H vs Q E hr h=>?_)
 · obtain⟨f,c,cl,pr,b,sc,q,N,xs,t,rfl,_⟩:=h
   rfl
 · obtain⟨f,c,cl,pr,b,sc,q,N,xs,t,rfl,L,hc,C,hl,S,hb,ht,hq⟩:=h
   have nd:=M1.nd;have hy:=EA.g;have Hb:(vG).contains (.type "BaseException")=true:=by decide
   have Hm:∀C',(∃b2 b3 b4 j w,tj R C' b2 b3 b4 j w)->ClsAt K C'/\takes K C' cG:=fun C' ⟨b2,b3,b4,j,w,h⟩=>⟨(h.kc EA).2,(h.kc EA).1.tk⟩;have a5L:=EA.gn;have a5E:=EA.go;have a5V:GV mg "Full" (.ref R.f):=⟨_,EA.xf.at',rfl⟩;have a5N:=EA.gm;have a5H:=EA.gr;have a5M:=EA.h0;have a5K:=EA.h1;have a5J:=EA.h2;have a5I:=EA.h3;have a5G:=EA.h4;have a5F:=EA.h5;have a5C:=EA.v;refine⟨_,(yu.one (ZH (i:=1) rfl rfl nd rfl rfl rfl (fun E xe hp=>(aw (aJ (a07 0 hp)))) rfl hy Hb Hm (fun ex=>(ai (pS 2 nd (cV (aa (cQ (x:="isinstance") (rL K rfl) rfl (B.at "isinstance") tO (aa (pv 1) (aa (dQ (x:="NoItem") rfl a5L) ae))) (aa (cQ (x:="isinstance") (rL K rfl) rfl (B.at "isinstance") tO (aa (pv 1) (aa (dQ (x:="OffRails") rfl a5E) ae))) (aa (cQ (x:="isinstance") (rL K rfl) rfl (B.at "isinstance") tO (aa (pv 1) (aa (dQ (x:="Full") rfl a5V) ae))) (aa (cQ (x:="isinstance") (rL K rfl) rfl (B.at "isinstance") tO (aa (pv 1) (aa (dQ (x:="Moving") rfl a5N) ae))) ae)))))) (ai (gY (jt K rfl (pv 2) (aa (cQ (x:="isinstance") (rL K rfl) rfl (B.at "isinstance") tO (aa (pv 1) (aa (dQ (x:="NoRate") rfl a5H) ae))) ae))) (ai (pS 3 nd (cQ (x:="isinstance") (rL K rfl) rfl (B.at "isinstance") tO (aa (pv 1) (aa (dw (aa (dQ (x:="NoFraction") rfl a5M) (aa (dQ (x:="NoLine") rfl a5K) (aa (dQ (x:="NoMachine") rfl a5J) (aa (dQ (x:="NoPlace") rfl a5I) (aa (dQ (x:="NoTape") rfl a5G) (aa (dQ (x:="NoText") rfl a5F) ae))))))) ae)))) (ai (bj (PW.pt (kh (bL (j8 K rfl hr.units) (a0f K rfl (pv 2) (aa hJ ae)) ah (ba _)) (kh (cA (pv 3)) (kS (dS (cA (cQ (x:="isinstance") (rL K rfl) rfl (B.at "isinstance") tO (aa (pv 1) (aa (cL (x:="ValueError") (v:=.ty "ValueError") rfl a5C a8t rfl) ae))))))))) (aw (aJ aL)) bu) (ai (bj (cA (px K (pv 2) ah)) (aw uu) bu) (aw (aJ (px K (cV (aa aL (aa aL (aa aL (aa aL (aa aL ae)))))) (a0d K rfl (pv 2) (aa hJ ae))))))))))))),?_⟩;refine⟨SK R Q,?_,fun cls dx H' h=>?_,?_⟩
   ·exact⟨f,c,cl,pr,b,sc,q,N,xs,t,k,rfl,rfl,L,hc,C,hl,S,hb,hr,ht,hq⟩
   · obtain⟨C,b2,b3,b4,j,w,h,e,_⟩:=h
     exact⟨C,e,b2,b3,b4,j,w,h⟩
   · intro C' ex dx σ' H' dy hE hex
     have hl4:σ'.length=4:=dy;have e1:(L2.upd H' ex (.ext (mV ex (.ref C') dx))) ex=some (.ext (mV ex (.ref C') dx)):=aQ;have sm:=ak.new (o:=.ext (mV ex (.ref C') dx)) hex;have lg:sizeLine=16777216:=by decide
     match σ',hl4 with
     |[u0,u1,u2,u3],_=>
       obtain⟨C,b2,b3,b4,j,z,hw,e,kq⟩:=hE;cases e;obtain⟨cnt,o2,o3,o4,o5⟩:=hw.one;have kc:=(hw.kc EA).1;refine⟨_,rfl,.inl ⟨ex,C',dx,.ref R.n,.ref R.n,false,rfl,e1,kc.k,rfl,kc.i0,?_⟩⟩;refine⟨_,rfl,.inl ⟨ex,C',dx,.ref R.o,.ref R.o,false,rfl,e1,kc.k,rfl,kc.i1,?_⟩⟩;refine⟨_,rfl,.inl ⟨ex,C',dx,.ref R.f,.ref R.f,b2,rfl,e1,kc.k,rfl,kc.i2,?_⟩⟩;refine⟨_,rfl,.inl ⟨ex,C',dx,.ref R.m,.ref R.m,b3,rfl,e1,kc.k,rfl,kc.i3,?_⟩⟩;refine⟨bI rfl,fun l H2 n2=>?_⟩;have e2:=n2.same _ _ e1;refine⟨_,rfl,.inl ⟨rfl,_,au.of n2.at'⟩,_,rfl,.inl ⟨ex,C',dx,.ref R.r,.ref R.r,b4,rfl,e2,kc.k,rfl,kc.i4,l,_,_,rfl,rfl,n2.at',by show 4<_;lia,?_⟩⟩;have xo:ex≠l:=fun z=>by have:=n2.no;rw[<-z,e1]at this;cases this
       have e3:(L2.upd H2 l (.lst ([V.bl false,.bl false,.bl b2,.bl b3]++[.bl b4]))) ex=some (.ext (mV ex (.ref C') dx)):=by rw[aB xo];exact e2
       have e4:(L2.upd H2 l (.lst ([V.bl false,.bl false,.bl b2,.bl b3]++[.bl b4]))) l=some (.lst ([false,false,b2,b3,b4].map V.bl)):=aQ;have s3:ak H' (L2.upd H2 l (.lst ([V.bl false,.bl false,.bl b2,.bl b3]++[.bl b4]))):=fun b' o' eb=>by
        have nb:b'≠l:=fun z=>by have:=n2.no;rw[<-z,sm _ _ eb]at this;cases this
        rw[aB nb];exact n2.same _ _ (sm _ _ eb)
       generalize L2.upd H2 l (.lst ([V.bl false,.bl false,.bl b2,.bl b3]++[.bl b4]))=H3 at e3 e4 s3⊢;refine⟨_,rfl,bI rfl,fun tp H4 n4=>?_⟩;have e5:=n4.same _ _ e3;have e6:=n4.same _ _ e4;have s4:=s3.trans n4.same;refine .inr ⟨ex,C',tp,dx,[c0,c1,c2,c3,c4,c5],false,rfl,e5,kc.k,n4.at',kc.any,?_⟩;refine⟨_,rfl,.inl ⟨rfl,_,au.of e6⟩,l,_,rfl,rfl,au.of e6,.inl ⟨_,_,rfl,rfl,_,rfl,?_⟩⟩;rw[show(!decide (((([false,false,b2,b3,b4].count true:Nat)):Int)=1))=false by rw[cnt];rfl];refine bf ⟨_,rfl,_,rfl,bf ?_⟩;refine⟨_,rfl,.inl ⟨ex,C',dx,.ty "ValueError",.type "ValueError",true,rfl,e5,kc.k,rfl,kc.ve,_,rfl,bf ?_⟩⟩;refine⟨_,rfl,.inl ⟨l,_,1,.bl false,rfl,rfl,au.of e6,rfl,_,rfl,?_⟩⟩;refine bf ?_;refine⟨bI rfl,fun lw H5 n5=>?_⟩;refine⟨_,rfl,.inl ⟨rfl,_,au.of (n5.same _ _ e6)⟩,l,_,j,rfl,rfl,au.of (n5.same _ _ e6),o2,o3,o4,?_⟩;exact .inl ⟨lw,_,_,_,rfl,rfl,au.of n5.at',o5,kq _ (s4.trans n5.same)⟩
end
end Lw
set_option maxHeartbeats 4000000
namespace Lw
open PySem PySem.Spec PyProof.Rows L2 Rt Ln Cn Pn Wk Rn
open Ow (topR cornO mnO betR atO ownF leadF ownL OkI OkIs)
section
variable {w:World}{mg:Str->Option Value}{base:Heap}
structure bP(K:aaU)(C T:Addr)(qn:Str)(H:Hp)(M:bp)(n:Nat)(A:Ad)(p:Addr)(S:aU):Prop where
 run:cn K C H A.a A.q M S
 sim:da K H A.d A.e A.t M S
 ok:bQ M (64+10*n) S
 sm:SM S
 told:mM K H A.t (40+n) (fun l=>l∈A.all\/l=p)
 nd:A.all.Nodup
 tab:TabAt H T qn
 on:iq M.rs (cC S)
 bag:fW H p
 np:p∉A.all
section
variable {C T:Addr}{qn:Str}{H H':Hp}{M:bp}{n:Nat}{A:Ad}{p:Addr}{S:aU}
theorem bP.kind(h:bP K C T qn H M n A p S):∀x∈A.all,∃o,H x=some o/\BM o/\∀ps,o≠ .eG ps:=by
 intro x hx;obtain⟨dx,Oy,Sd,cg,tv,e,_⟩:=h.run.ob;obtain⟨zs,eq,_⟩:=h.run.qu;obtain⟨mv,lv,gv,sv,bv,cv,rv,ez,_⟩:=h.sim.ob;obtain⟨ys,ee,_⟩:=h.sim.qu;obtain⟨ts,et,_⟩:=h.told;simp only[Ad.all,bB,cw,df]at hx;rcases hx with rfl|rfl|rfl|rfl|rfl
 ·exact⟨_,e,trivial,fun _ z=>nomatch z⟩
 ·exact⟨_,eq,trivial,fun _ z=>nomatch z⟩
 ·exact⟨_,ez,trivial,fun _ z=>nomatch z⟩
 ·exact⟨_,ee,trivial,fun _ z=>nomatch z⟩
 ·exact⟨_,et,trivial,fun _ z=>nomatch z⟩
theorem bP.here(h:bP K C T qn H M n A p S):∀x,(x∈A.all\/x=p)->H x≠none:=by
 intro x hx;rcases hx with hx|rfl
 · obtain⟨o,e,_⟩:=h.kind x hx
   rw[e];simp
 · obtain⟨c,m,e,_⟩:=h.bag
   rw[e];simp
theorem bP.nT(h:bP K C T qn H M n A p S):T∉A.all:=fun hx=>by obtain⟨o,e,_,hn⟩:=h.kind T hx;obtain⟨ps,et,_⟩:=h.tab;rw[e]at et;exact hn _ (dj et)
theorem bP.Ou(h:bP K C T qn H M n A p S):T≠p:=fun hx=>by obtain⟨c,m,e,_⟩:=h.bag;obtain⟨ps,et,_⟩:=h.tab;rw[<-hx,et]at e;cases e
theorem bP.v(h:bP K C T qn H M n A p S)(b:aV (T::p::A.all) H H'):bG H H':=by
 refine b.v fun x hx o eo=>?_;rcases bB.mp hx with z|hx
 · obtain⟨ps,et,_⟩:=h.tab
   rw[z,et]at eo;cases eo;trivial
 · rcases bB.mp hx with z|hx
   · obtain⟨c,m,e,_⟩:=h.bag
     rw[z,e]at eo;cases eo;trivial
   · obtain⟨o',e,c,_⟩:=h.kind x hx
     rw[eo]at e;cases e;exact c
theorem TabAt.but{q:Str}{S':List Addr}(h:TabAt H T q)(b:aV S' H H')(hT:T∉S')(hS:∀x∈S',∀φ,H x≠some (.ext φ)):TabAt H' T q:=h.keep (fun ps e=>b _ _ e hT) fun x φ e=>b _ _ e fun hx=>hS x hx φ e
theorem fW.but{S':List Addr}(h:fW H p)(b:aV S' H H')(hp:p∉S'):fW H' p:=by obtain⟨c,m,e,k⟩:=h;exact⟨c,m,b _ _ e hp,k⟩
theorem bP.xn(h:bP K C T qn H M n A p S):∀x∈p::A.all,∀φ,H x≠some (.ext φ):=fun x hx φ e=>by
 rcases bB.mp hx with z|hx
 · obtain⟨c,m,e',_⟩:=h.bag
   rw[z,e']at e;cases e
 · obtain⟨o',e',c,_⟩:=h.kind x hx
   rw[e]at e';cases e';exact c
theorem bP.oE(h:bP K C T qn H M n A p S)(x:bK p H H'):bP K C T qn H' M n A p S:=by have b:aV [p] H H':=fun b o e hb=>x.same b o (fun z=>hb (by rw[z];exact .head _)) e;have v:=(bK.t h.bag x).v;have np:∀y∈A.all,∀o,H y=some o->H' y=some o:=fun y hy o e=>x.same y o (fun z=>h.np (z▸hy)) e;refine⟨h.run.go h.ok.row.no v (np _ (by simp[Ad.all])) (np _ (by simp[Ad.all])),h.sim.go h.ok.row.no v (np _ (by simp[Ad.all])) (np _ (by simp[Ad.all])),h.ok,h.sm,h.told.go (bo _) v (np _ (by simp[Ad.all])) fun l us hx e=>⟨x.same _ _ (fun z=>hx (.inr z)) e,hx⟩,h.nd,?_,h.on,x.bag,h.np⟩;exact TabAt.but h.tab b (by rw[bS];exact h.Ou) fun y hy φ=>h.xn y (by rw[bS.mp hy];exact .head _) φ
theorem bP.same(h:bP K C T qn H M n A p S)(s:ak H H'):bP K C T qn H' M n A p S:=⟨h.run.same h.ok.row.no s,h.sim.same h.ok.row.no s,h.ok,h.sm,h.told.go (bo _) s.v (fun o e=>s _ _ e) fun l us hx e=>⟨s _ _ e,hx⟩,h.nd,h.tab.keep (fun ps e=>s _ _ e) (fun b φ e=>s _ _ e),h.on,by obtain⟨c,m,e,k⟩:=h.bag;exact⟨c,m,s _ _ e,k⟩,h.np⟩
theorem bP.a2u{p':Addr}(h:bP K C T qn H M n A p S)(s:ak H H')(nw:H p'=none)(bg:fW H' p'):bP K C T qn H' M n A p' S:=by have h':=h.same s;refine⟨h'.run,h'.sim,h'.ok,h'.sm,h.told.go (bo _) s.v (fun o e=>s _ _ e) fun l us hx e=>⟨s _ _ e,fun z=>z.elim (fun z=>hx (.inl z)) fun z=>?_⟩,h'.nd,h'.tab,h'.on,bg,fun z=>h.here _ (.inl z) nw⟩;rw[z,nw]at e;cases e
theorem bP.mono{m:Nat}(h:bP K C T qn H M n A p S)(h1:n<=m)(h2:m<=100):bP K C T qn H M m A p S:=⟨h.run,h.sim,h.ok.mono (by lia) (by lia),h.sm,h.told.go (by lia) (fun _ _ _ e=>e) (fun _ e=>e) fun l us hx e=>⟨e,hx⟩,h.nd,h.tab,h.on,h.bag,h.np⟩
theorem bP.upd{S':aU}(h:bP K C T qn H M n A p S)(q':Addr)(b:aV (T::p::A.all) H H')(nq:q'=A.q\/H q'=none)(R:cn K C H' A.a q' M S')(Z:da K H' A.d A.e A.t M S')(ok:bQ M (64+10*(n+1)) S')(sm:SM S') (To:mM K H' A.t (40+(n+1)) (fun l=>l∈A.all\/l=p\/l=q'))(tab:TabAt H' T qn)(on:iq M.rs (cC S'))(bag:fW H' p):bP K C T qn H' M (n+1) {A with q:=q'} p S':=by
  have SA:∀x,x∈({A with q:=q'}:Ad).all->x∈A.all\/x=q':=fun x m=>by simp only[Ad.all,bB,cw,df]at m⊢;rcases m with z|z|z|z|z<;>simp[z]
  have Ny:q'=A.q\/(q'∉A.all/\q'≠p):=nq.imp id fun z=>⟨fun m=>h.here _ (.inl m) z,fun e=>h.here _ (.inr e) z⟩;refine⟨R,Z,ok,sm,To.go (bo _) (fun _ _ _ e=>e) (fun _ e=>e) fun l us hx e=>⟨e,fun z=>?_⟩,?_,tab,on,bag,fun z=>?_⟩
  · rcases z with z|z
    ·exact hx ((SA _ z).elim .inl fun z=>.inr (.inr z))
    ·exact hx (.inr (.inl z))
  · have nd:=h.nd
    rcases Ny with e|⟨e,_⟩
    ·rw[e];exact nd
    · simp only[Ad.all,tP,bB,cw,df,not_or]at nd e⊢
      obtain⟨⟨t1,t2,t3,t4⟩,⟨t5,t6,t7⟩,t8⟩:=nd;obtain⟨e1,e2,e3,e4,e5⟩:=e;exact⟨⟨ek e1,t2,t3,t4⟩,⟨e3,e4,e5⟩,t8⟩
  · rcases SA _ z with z|z
    ·exact h.np z
    · rcases Ny with e|⟨_,e⟩
      ·exact h.np (by rw[z,e];simp[Ad.all])
      ·exact e z.symm
theorem bP.K4{S':aU}(h:bP K C T qn H M n A p S)(q':Addr)(b:aV (T::p::A.all) H H')(et:∀o,H A.t=some o->H' A.t=some o)(nq:q'=A.q\/H q'=none)(R:cn K C H' A.a q' M S')(Z:da K H' A.d A.e A.t M S')(ok:bQ M (64+10*(n+1)) S')(sm:SM S') (tab:TabAt H' T qn)(on:iq M.rs (cC S'))(bag:fW H' p):bP K C T qn H' M (n+1) {A with q:=q'} p S':=by
  refine h.upd q' b nq R Z ok sm (h.told.go (by lia) (h.v b) et fun l us hx e=>⟨b _ _ e fun m=>?_,fun z=>?_⟩) tab on bag
  · rcases bB.mp m with z|m
    · obtain⟨ps,e',_⟩:=h.tab
      rw[z,e']at e;cases e
    ·exact hx ((bB.mp m).elim .inr .inl)
  · rcases z with z|z|z
    ·exact hx (.inl z)
    ·exact hx (.inr z)
    · rcases nq with g|g
      ·exact hx (.inl (by rw[z,g];simp[Ad.all]))
      ·rw[<-z,e]at g;cases g
end
section
variable {C T:Addr}{qn:Str}{H H' H1 H2:Hp}{M:bp}{n:Nat}{A:Ad}{p:Addr}{S S1:aU}{q':Addr}
theorem bP.uL(h:bP K C T qn H M n A p S):A.a∉[A.d,A.e]/\A.q∉[A.d,A.e]/\A.t∉[A.d,A.e]/\A.d∉[A.a,A.q]/\A.e∉[A.a,A.q]/\A.t∉[A.a,A.q]:=by have nd:=h.nd;simp only[Ad.all,tP,bB,cw,df,not_or]at nd⊢;obtain⟨⟨t1,t2,t3,t4⟩,⟨t5,t6,t7⟩,⟨t8,t9⟩,zp,_⟩:=nd;exact⟨⟨t2,t3⟩,⟨t5,t6⟩,⟨ek t9,ek zp⟩,⟨ek t2,ek t5⟩,⟨ek t3,ek t6⟩,⟨ek t4,ek t7⟩⟩
theorem zu{A:Ad}:∀x,x∈[A.a,A.q]->x∈T::p::A.all:=fun x hx=>by simp only[Ad.all,bB,cw,df]at hx⊢;rcases hx with z|z<;>simp[z]
theorem zt{A:Ad}:∀x,x∈[A.d,A.e]->x∈T::p::A.all:=fun x hx=>by simp only[Ad.all,bB,cw,df]at hx⊢;rcases hx with z|z<;>simp[z]
theorem bP.mid(h:bP K C T qn H M n A p S)(b1:aV [A.a,A.q] H H1):da K H1 A.d A.e A.t M S:=h.sim.go h.ok.row.no (h.v (b1.mono zu)) (fun o e=>b1 _ _ e h.uL.2.2.2.1) (fun o e=>b1 _ _ e h.uL.2.2.2.2.1)
theorem bP.fin(h:bP K C T qn H M n A p S)(R1:cn K C H1 A.a q' M S1)(b1:aV [A.a,A.q] H H1)(nq:q'=A.q\/H q'=none)(Z2:da K H2 A.d A.e A.t M S1)(b2:aV [A.d,A.e] H1 H2)(ok:bQ M (64+10*(n+1)) S1)(sm:SM S1)(on:iq M.rs (cC S1)):bP K C T qn H2 M (n+1) {A with q:=q'} p S1/\aV (T::p::A.all) H H2:=by
 have bb:aV (T::p::A.all) H H2:=(b1.mono zu).trans (b2.mono zt);obtain⟨n1,n2,n3,n4,n5,n6⟩:=h.uL;have Z1:=h.mid b1;have oW:bG H1 H2:=Z1.v b2;have q2:q'∉[A.d,A.e]:=by
  rcases nq with z|z
  ·rw[z];exact n2
  · intro m
    refine h.here q' (.inl ?_) z;simp only[Ad.all,bB,cw,df]at m⊢;rcases m with e|e<;>simp[e]
 have pn:∀S':List Addr,(∀x∈S',x∈A.all)->p∉S':=fun S' hs m=>h.np (hs p m);have in1:∀x∈[A.a,A.q],x∈A.all:=fun x hx=>by simp only[Ad.all,bB,cw,df]at hx⊢;rcases hx with z|z<;>simp[z]
 have Ax:∀x∈[A.d,A.e],x∈A.all:=fun x hx=>by simp only[Ad.all,bB,cw,df]at hx⊢;rcases hx with z|z<;>simp[z]
 have Cv:=TabAt.but h.tab b1 (fun m=>h.nT (in1 _ m)) fun x hx φ=>h.xn x (.tail _ (in1 x hx)) φ;have Cu:=TabAt.but Cv b2 (fun m=>h.nT (Ax _ m)) fun x hx φ e=>by
  obtain⟨o,eo,_,_⟩:=h.kind x (Ax x hx);have e1:H1 x=some o:=b1 _ _ eo (fun m=>by
   simp only[bB,cw,df]at hx m;rcases hx with z|z<;>rcases m with g|g
   ·exact n4 (by rw[<-z,g];simp)
   ·exact n4 (by rw[<-z,g];simp)
   ·exact n5 (by rw[<-z,g];simp)
   ·exact n5 (by rw[<-z,g];simp));rw[e]at e1;cases e1;exact h.xn x (.tail _ (Ax x hx)) φ eo
 refine⟨h.K4 q' bb (fun o e=>b2 _ _ (b1 _ _ e n6) n3) nq (R1.go ok.row.no oW (fun o e=>b2 _ _ e n1) (fun o e=>b2 _ _ e q2)) Z2 ok sm Cu on ((h.bag.but b1 (pn _ in1)).but b2 (pn _ Ax)),bb⟩
end
section
variable {C T:Addr}{qn:Str}{H H':Hp}{M:bp}{n:Nat}{A:Ad}{p:Addr}{S:aU}
theorem bP.lam(h:bP K C T qn H M n A p S)(b:aV [T] H H')(tab:TabAt H' T qn):bP K C T qn H' M n A p S:=by
 have bb:aV (T::p::A.all) H H':=b.mono fun x hx=>by rw[bS.mp hx];exact .head _
 have v:=h.v bb;have nT:∀{x},x∈A.all->x∉[T]:=fun hx m=>h.nT (by rw[<-bS.mp m];exact hx);have k:∀{x},x∈A.all->∀o,H x=some o->H' x=some o:=fun hx o e=>b _ _ e (nT hx);refine⟨h.run.go h.ok.row.no v (k (by simp[Ad.all])) (k (by simp[Ad.all])),h.sim.go h.ok.row.no v (k (by simp[Ad.all])) (k (by simp[Ad.all])),h.ok,h.sm,h.told.go (bo _) v (k (by simp[Ad.all])) fun l us hx e=>⟨b _ _ e fun m=>?_,hx⟩,h.nd,tab,h.on,h.bag.but b fun m=>h.Ou (bS.mp m).symm,h.np⟩;obtain⟨ps,e',_⟩:=h.tab;rw[bS.mp m,e']at e;cases e
theorem Z9{R:kJ}{outer:List Env}{s':aaV}{f c:Addr}{cl:List (Str×Addr)}{pr:Arguments}{b:Expr}{sc:Scope}{q:Str}{N:List Str}{iv:V}{d:aaX}{o:Itm}{Q:VK}{E:XK}(L:vL s'.heap H (cR outer) f pr b sc q c cl)(hc:H c=some (.ext (jj c q)))(CA:qo s'.heap H (cR outer) cl N [.ref A.a,iv])(hN:N.length=2)(Sc:tF N sc)(hb:∀pm cd ct,bindArgs (PySem.W.kla_fn "<lambda>" q pr b sc cl pm cd ct) ⟨[],[]⟩=pure []) (hpe:∀(A:aaY)(outer:List Env)(s:aaV)(H:Hp)(E:XK),cu 5 (A.deeper (PySem.W.envX q sc s.heap.objs.size f (.ref c) cl))->PE (pG (jG P w) P w K mg base N q sc f (.ref c) cl A outer s H E) b (CB C "feed" (zC K C R) E (u6 0) (CD (u6 1) lY))) (h:bP K C T qn H M n A p S)(rd:RD K H iv d)(it:mT M.rs.length d o)(aF:M.Ok)(pj:iq M.rs (gB (cC S) o))(kf:S.ds.length=20->∀H2,ak H H2->Q (.str "full") H2)(kd:S.ds.length<20->∀H2,cn K C H2 A.a A.q M (mC S d o)->aV [A.a,A.q] H H2->Q (.int (S.ds.length+1:Nat)) H2):zB P w K mg base R 5 outer s' [.ref f] H Q E:=by obtain⟨dx,mv,bv,cg,tv,e,_⟩:=h.run.ob;refine⟨f,c,cl,pr,b,sc,q,N,_,fun E=>CB C "feed" (zC K C R) E (u6 0) (CD (u6 1) lY),rfl,L,hc,CA,hN.symm,Sc,hb,hpe,?_⟩;exact⟨_,rfl,A.a,dx,_,rfl,e,rfl,_,rfl,A.a,A.q,M,_,S,iv,d,o,rfl,h.run,h.ok,aF,rd,it,pj,fun kG H2 s2=>⟨R.f,_,_,_,2,"full",.f,rfl,fun H3 s3=>kf kG _ (s2.trans s3)⟩,kd⟩
end
section
variable {C T:Addr}{qn:Str}{H H1 H2:Hp}{M:bp}{n:Nat}{A:Ad}{p:Addr}{S S1:aU}
theorem QR{D:Nat}{es:List aaX}(ok:bQ M D S)(aF:M.Ok)(r:Run M S es S1)(hl:es.length<=100000):Nx (Nx (Nx (Nx A0))) (.list es):=.inr ⟨_,.inr rfl,hl,fun x hx=>(r.ent ok aF x hx).2⟩
theorem bP.Hq(h:bP K C T qn H M n A p S)(b:aV [A.d] H H1):cn K C H1 A.a A.q M S:=by
 have b':aV [A.d,A.e] H H1:=b.mono fun x hx=>by rw[bS.mp hx];simp
 exact h.run.go h.ok.row.no (h.v (b'.mono zt)) (fun o e=>b' _ _ e h.uL.1) (fun o e=>b' _ _ e h.uL.2.1)
theorem bP.brk{mv lv gv sv bv cv rv:V}(h:bP K C T qn H M n A p S)(b:aV [A.d] H H1)(e1:H1 A.d=some (.dK (aZ mv lv gv sv (.int S.rate) (.str S.side) (.str S.mark) (.ref A.e) (.int S.dn) .aY cv rv (.ref A.t)))) (hz:H A.d=some (.dK (aZ mv lv gv sv (.int S.rate) (.str S.side) (.str S.mark) (.ref A.e) (.int S.dn) bv cv rv (.ref A.t)))/\RD K H mv M.D/\RD K H lv (eO (eL S))/\RD K H gv (eO (cC S))/\aR K H sv S.pc/\tI K H bv cv S.stp/\yt K H M S rv):da K H1 A.d A.e A.t M {S with stp:=none}:=by
  have b':aV [A.d,A.e] H H1:=b.mono fun x hx=>by rw[bS.mp hx];simp
  have v:=h.v (b'.mono zt);obtain⟨_,r1,r2,r3,r4,r5,r6⟩:=hz;obtain⟨ys,eq,rq⟩:=h.sim.qu;have cvI:∃z,cv= .int z:=by cases hs:S.stp with |none=>rw[hs]at r5;exact r5.2 |some z=>obtain⟨sq,st,gn⟩:=z;rw[hs]at r5;obtain⟨_,_,_,_,_,g⟩:=r5;exact⟨_,g⟩
  exact⟨⟨mv,lv,gv,sv,.aY,cv,rv,e1,RD.v v _ (iS _ _ _ _ _) r1,RD.v v _ (gJ _) r2,RD.v v _ (gJ _) r3,r4.v v,⟨rfl,cvI⟩,r6.v v⟩,ys,b _ _ eq (by rw[bS];exact h.sim.ne.symm),aE.v v _ h.ok.row.no rq⟩
theorem bP.a6T(h:bP K C T qn H M n A p S)(b1:aV [A.d] H H1)(Z1:da K H1 A.d A.e A.t M S1)(R2:cn K C H2 A.a A.q M S1)(b2:aV [A.a] H1 H2)(ok:bQ M (64+10*(n+1)) S1)(sm:SM S1)(on:iq M.rs (cC S1)):bP K C T qn H2 M (n+1) A p S1/\aV (T::p::A.all) H H2:=by
 have Ss:aV [A.d,A.e] H H1:=b1.mono fun x hx=>by rw[bS.mp hx];simp
 have lR:aV [A.a,A.q] H1 H2:=b2.mono fun x hx=>by rw[bS.mp hx];simp
 have bb:aV (T::p::A.all) H H2:=(Ss.mono zt).trans (lR.mono zu);obtain⟨n1,n2,n3,n4,n5,n6⟩:=h.uL;have oW:bG H1 H2:=(h.Hq b1).v lR;have dA:A.d∈A.all:=by simp[Ad.all]
 have aA:A.a∈A.all:=by simp[Ad.all]
 have s1:∀{x y:Addr},x≠y->x∉[y]:=fun g=>by rw[bS];exact g
 have Cv:=TabAt.but h.tab b1 (s1 fun z=>h.nT (z▸dA)) fun x hx φ=>h.xn x (.tail _ (by rw[bS.mp hx];exact dA)) φ;have Cu:=TabAt.but Cv b2 (s1 fun z=>h.nT (z▸aA)) fun x hx φ e=>by rw[bS.mp hx]at e;obtain⟨dx,mv,bv,cg,tv,er,_⟩:=(h.Hq b1).ob;rw[er]at e;cases e
 have st:=h.K4 A.q bb (fun o e=>lR _ _ (Ss _ _ e n3) n6) (.inl rfl) R2 (Z1.go ok.row.no oW (fun o e=>lR _ _ e n4) (fun o e=>lR _ _ e n5)) ok sm Cu on ((h.bag.but b1 (s1 fun z=>h.np (z▸dA))).but b2 (s1 fun z=>h.np (z▸aA)));exact⟨st,bb⟩
end
theorem Sz{T p q' x:Addr}{A:Ad}{H:Hp}{o:HO}(hx:x∉T::p::A.all)(nq:q'=A.q\/H q'=none)(e:H x=some o):x∉T::p::({A with q:=q'}:Ad).all:=fun m=>by
 simp only[Ad.all,bB,cw,df,not_or]at m hx;obtain⟨h1,h2,h3,h4,h5,h6,h7⟩:=hx;rcases m with z|z|z|z|z|z|z
 ·exact h1 z
 ·exact h2 z
 ·exact h3 z
 · rcases nq with g|g
   ·exact h4 (z.trans g)
   ·rw[z,g]at e;cases e
 ·exact h5 z
 ·exact h6 z
 ·exact h7 z
section
variable {C T:Addr}{qn:Str}{H H' H5 H6 H7 H8:Hp}{M:bp}{n:Nat}{A:Ad}{p l:Addr}{S S':aU}{q':Addr}{us:List V}{es:List aaX}
end
theorem a3J{M:bp}{ms:List Int}{sp:Int}(FF:dR M.rs.length 100 ms)(gj:1<=sp)(gH:sp<=20):mT M.rs.length (hZ ms sp) (some (ms,sp)):=⟨.inl ⟨ms,sp,rfl,rfl⟩,fun n' s' e=>by cases e;exact⟨FF,gj,gH⟩,fun e=>by cases e⟩
theorem a3I{n:Nat}{d:aaX}(h:oH d):mT n d none:=⟨h.it,(fun _ _ e=>nomatch e),fun _=>h⟩
abbrev mq:Str:=(("_law_deed":Str)++Str.ofString ".<locals>.")++Str.ofString "<lambda>"
inductive UC(K:aaU)(C:Addr)(T:Addr)(vs:List V)(H:Hp)(Q:VK):Prop |mk (p:_)(A:_)(M:_)(n:_)(S:_)(far:_)(h0:vs=[.ref p,.ref (Ad.a A),.ref A.d,.int far])(h1:bP K C T mq H M n A p S)(h2:M.Ok)(h3:1<=far)(h4:far<=100)(h5:n<=90)(h6:∀q' S' H',bP K C T mq H' M (n+3) {A with q:=q'} p S'->aV (T::p::A.all) H H'->(q'=A.q\/H q'=none)->Q (.bl true) H'):UC K C T vs H Q
def Lp(K:aaU)(C T:Addr):Sp:=fun vs H Q _=>UC K C T vs H Q
theorem ML:aW ["_law_bag_here","_law_runner","_law_sim_here","_law_far","_law_kind","_law_item","_law_n"] ["_law_bag_here","_law_runner","_law_sim_here","_law_far"] (aK Ey):=bh (by decide+kernel)
theorem a24{C T:Addr}{R:kJ}(F:yC K mg "_law_deed" Ey T)(B:bw mg)(TC:fK K C)(sJ:base.BuiltinsAt mg T)(dH:aj P w K mg base "_law_take" 1 oZ)(a6n:aj P w K mg base "_law_line" 2 (CQ K))(a6l:aj P w K mg base "_law_other" 2 (Lk K))(jR:aj P w K mg base "_law_alike" 5 (wC (Nx (Nx (Nx (Nx A0)))) K))(a6i:yB P w K mg base "_law_refused" 7 (zB P w K mg base R 5))(a69:BJ P w K mg base C "feed" 5 (zC K C R))(a6g:aj P w K mg base "_law_sim_feed" 1 (KU K))(a67:cy P w K mg base C "hold" 2 (Ld K C))(a6f:aj P w K mg base "_law_sim_hold" 2 (KS K))(a68:cy P w K mg base C "go" 1 (Le K C))(Qa:cy P w K mg base C "entries" 12 (Lg K C))(Qc:aj P w K mg base "_law_sim_entries" 6 (KW K)):aj P w K mg base "_law_deed" 13 (Lp K C T):=by
 refine F.has ML (fun vs H Q E h=>?_) (fun _ _ _ _ _ _=>Bx fun _ _ _ _=>rfl) (fun f aD A0 outer s H vs Q E GZ hr h=>?_)
 · obtain⟨p,A,M,n,S,far,rfl,_⟩:=h
   rfl
 · obtain⟨p,A,M,n,S,far,rfl,L,aF,HL,HK,n90,k⟩:=h
   have nd:=ML.nd;have Af:=aF.len;refine⟨_,(ai (pS 4 nd (pf dH hr (aa (pv 0) (aa ah ae)))) (ai (bj (bL jv (pv 4) ah (ba _)) (ai (pS 5 nd (pf a6n hr (aa (pv 0) (aa (cj hr (pv 2) aL) (aa (cj hr (pv 2) aL) (aa (pv 3) ae)))))) (ai (gy (bj (PW.pt (nN (bL (cJ K rfl hr.units) (pv 4) ah (ba _)) (qT (bL (cJ K rfl hr.units) (pf dH hr (aa (pv 0) (aa ah ae))) ah (ba _))))) (aw (pS 5 nd (pf a6l hr (aa (pv 0) ae)))) bu)) (aw (aJ (pf jR hr (aa (a02 (a3p "_law_runner" "_law_item" 1 5 (by decide+kernel) rfl rfl rfl rfl) a6i (hr.mono (by decide)) rfl (fun _=>rfl) GZ sJ rfl rfl) (aa (pf a6g hr (aa (pv 2) (aa (pv 5) ae))) ae))))))) bu) (ai (bj (bL (cJ K rfl hr.units) (pv 4) ah (ba _)) (ai (bj (dS (cA (pf jR hr (aa (gk a67 TC.cl (hr.mono (by decide)) (pv 1)) (aa (pf a6f hr (aa (pv 2) ae)) ae))))) (aw (aJ hJ)) bu) (ai (pS 6 nd (pf dH hr (aa (pv 0) (aa ah ae)))) (ai (bj (dS (cA (pf jR hr (aa (wX Qa TC.cl (hr.mono (by decide)) (pv 1) (aa (pv 6) ae)) (aa (pf Qc hr (aa (pv 2) (aa (pv 6) ae))) ae))))) (aw (aJ hJ)) bu) (ai (fZ (fb hr.units) (pv 2) aL j4 rfl) (aw (aJ (pf jR hr (aa (gk a68 TC.cl (hr.mono (by decide)) (pv 1)) (aa (dv K B (aa (cj hr (pv 2) aL) ae)) ae))))))))) bu) (ai (pS 6 nd (az cE ah (pf dH hr (aa (pv 0) (aa ah ae))))) (aw (aJ (pf jR hr (aa (wX Qa TC.cl (hr.mono (by decide)) (pv 1) (aa (pv 6) ae)) (aa (pf Qc hr (aa (pv 2) (aa (pv 6) ae))) ae))))))))),?_⟩;refine⟨_,rfl,p,7,rfl,L.bag,by decide,by decide,fun kd H1 k0 k1 b1=>?_⟩;have L1:=L.oE b1;have AW:aV (T::p::A.all) H H1:=fun x o e hx=>b1.same x o (fun z=>hx (by rw[z];simp)) e;have Au:∀q' S' H',bP K C T mq H' M (n+3) {A with q:=q'} p S'->aV (T::p::A.all) H1 H'->(q'=A.q\/H1 q'=none)->Q (.bl true) H':=fun q' S' H' h1 h2 h3=>k q' S' H' h1 (AW.trans h2) (h3.imp id fun z=>by cases e:H q' with |none=>rfl |some o=>
      by_cases hq:q'=p
      ·exact absurd z (by rw[hq];exact L1.here _ (.inr rfl))
      ·rw[b1.same _ _ hq e]at z;cases z);clear k;refine⟨_,rfl,_,_,rfl,rfl,_,rfl,?_⟩;refine dC (fun h3=>?_) (fun h3=>?_)
   ·--an item is QD
     obtain⟨mv,lv,gv,sv,bv,cv,rv,hz⟩:=L1.sim.ob;have ez:=hz.1;refine⟨_,rfl,_,rfl,A.d,_,rfl,dg ez xW,_,rfl,A.d,_,rfl,dg ez Ht,_,rfl,p,mv,M.rs,M.r,M.f,M.j,M.t,gv,cC S,far,rfl,L1.bag,hz.2.1,aF,hz.2.2.2.1,L1.on,HL,HK,fun iv ms sp H2 rl FF gj gH onl b2=>?_⟩;have mR:=L1.oE b2;refine⟨fun σ H3=>∃iv d o v6,σ=[some (.ref p),some (.ref A.a),some (.ref A.d),some (.int far),some (.int kd),some iv,v6]/\bP K C T mq H3 M n A p S/\bK p H1 H3/\RD K H3 iv d/\mT M.rs.length d o/\iq M.rs (gB (cC S) o),?_,?_⟩
     · have line:∀H3,bP K C T mq H3 M n A p S->bK p H2 H3->∃Pb d o v6,[some (V.ref p),some (.ref A.a),some (.ref A.d),some (.int far),some (.int kd),some iv,none]=[some (.ref p),some (.ref A.a),some (.ref A.d),some (.int far),some (.int kd),some Pb,v6]/\bP K C T mq H3 M n A p S/\bK p H1 H3/\RD K H3 Pb d/\mT M.rs.length d o/\iq M.rs (gB (cC S) o):=fun H3 h b3=>⟨iv,_,some (ms,sp),_,rfl,h,b2.trans b3,RD.t (bK.t mR.bag b3) _ (Ak _ _) rl,a3J FF gj gH,onl⟩
       refine⟨_,rfl,.inl ⟨_,_,rfl,rfl,_,rfl,?_⟩⟩;refine dC (fun h2=>?_) (fun h2=>line _ mR (bK.refl mR.bag));refine⟨_,rfl,p,3,rfl,mR.bag,by decide,by decide,fun z H3 z0 z1 b3=>.inl ⟨_,_,rfl,rfl,_,rfl,?_⟩⟩;refine dC (fun h4=>?_) (fun h4=>line _ (mR.oE b3) b3);refine⟨_,rfl,p,rfl,b3.bag,fun v d H4 cx gK b4=>?_⟩;exact⟨v,d,none,_,rfl,(mR.oE b3).oE b4,(b2.trans b3).trans b4,cx,a3I gK,L1.on⟩
     · rintro σ H3 ⟨iv,d,o,v6,rfl,L3,IW,cx,it,pj⟩
       refine⟨[.ref A.a,iv],L3.tab,rfl,fun i j v e1 e2=>?_,fun f' c' cl' H4 s' La ib Ca tb bt=>?_⟩
       ·match i,e1,e2 with |0,e1,e2=>cases e1;cases e2;rfl |1,e1,e2=>cases e1;cases e2;rfl
       have L4:=L3.lam bt tb;have ER:=RD.v (L3.v (bt.mono fun x hx=>by rw[bS.mp hx];exact .head _)) _ it.it.no cx;have yj:aV (T::p::A.all) H1 H4:=fun x o' e hx=>bt _ _ (IW.same x o' (fun z=>hx (by rw[z];simp)) e) fun m=>hx (by rw[bS.mp m];exact .head _);refine Z9 La ib Ca rfl (P0 (by decide+kernel)).1 (fun _ _ _=>rfl) (fun A outer s H E lG=>a03 a69 (a0i fun _ _ _ z=>z) TC.cl (lG.mono (by decide)) (pv 0) (aa (pv 1) ae)) L4 ER it aF pj (fun kG H5 s5=>?_) fun kG H5 R5 b5=>?_
       · have L5:=L4.same s5
         refine⟨_,rfl,_,rfl,A.d,A.e,A.t,M,_,S,iv,d,o,rfl,L5.sim,L5.ok,aF,RD.mono s5 _ ER,it,fun ho=>?_,fun _ _ H6 s6=>?_,fun _ hl=>?_⟩
         ·rw[(O4 (vI (Ho L5.ok) fun ns sp eo=>(it.ln ns sp eo).1.len)).mpr pj]at ho;cases ho
         · refine⟨_,_,.str "full",rfl,cH _,cH _,rA (n:=0) (by decide) (me (by decide+kernel)),fun H7 s7=>?_⟩
           exact Au A.q S H7 (((L5.same s6).same s7).mono (by lia) (by lia)) (fun x o' e hx=>s7 _ _ (s6 _ _ (s5 _ _ (yj _ _ e hx)))) (.inl rfl)
         ·exact absurd hl (by lia)
       · have Z5:=L4.mid b5
         have Ys:=RD.v (L4.v (b5.mono zu)) _ it.it.no ER;refine⟨_,rfl,_,rfl,A.d,A.e,A.t,M,_,S,iv,d,o,rfl,Z5,L4.ok,aF,Ys,it,fun ho=>?_,fun _ hl=>?_,fun _ _ H6 Z6 b6=>?_⟩
         ·rw[(O4 (vI (Ho L4.ok) fun ns sp eo=>(it.ln ns sp eo).1.len)).mpr pj]at ho;cases ho
         ·exact absurd hl (by lia)
         · refine⟨_,_,.int _,rfl,cX _,cX _,ki _,fun H7 s7=>?_⟩
           obtain⟨L6,b46⟩:=L4.fin R5 b5 (.inl rfl) Z6 b6 ((L4.ok.QD it kG).mono (by lia) (by lia)) L4.sm (by rw[Qn];exact pj);exact Au A.q _ H7 ((L6.same s7).mono (by lia) (by lia)) (fun x o' e hx=>s7 _ _ (b46 _ _ (yj _ _ e hx) hx)) (.inl rfl)
   · refine⟨_,rfl,.inl ⟨_,_,rfl,rfl,_,rfl,?_⟩⟩
     obtain⟨dx,Oy,Sd,cg,tv,hrr⟩:=L1.run.ob;have er:=hrr.1;refine dC (fun h4=>?_) (fun h4=>?_)
     ·--held
       refine⟨_,rfl,A.a,dx,_,rfl,er,rfl,A.a,A.q,M,_,S,rfl,L1.run,L1.ok,aF,fun H2 R2 b2=>?_⟩;have lR:aV [A.a,A.q] H1 H2:=b2.mono fun x hx=>by rw[bS.mp hx];simp
       refine⟨_,rfl,A.d,A.e,A.t,M,_,S,rfl,L1.mid lR,L1.ok,aF,fun H3 Z3 b3=>?_⟩;refine⟨_,_,.int _,rfl,cX _,cX _,ki _,fun H4 s4=>⟨_,rfl,bf ?_⟩⟩;obtain⟨L3,IW⟩:=L1.fin R2 lR (.inl rfl) Z3 (b3.mono fun x hx=>by rw[bS.mp hx];simp) (L1.ok.hold aF (by lia)) (a4C L1.sm) (by rw[a4D];exact L1.on);have L4:=L3.same s4;have yj:aV (T::p::A.all) H1 H4:=fun x o e hx=>s4 _ _ (IW _ _ e hx);refine⟨_,rfl,p,4,rfl,L4.bag,by decide,by decide,fun n' H5 n0 n1 b5=>?_⟩;have L5:=L4.oE b5;obtain⟨Iu,mv5,bv5,a0h,WC,GA⟩:=L5.run.ob;refine⟨_,rfl,A.a,Iu,_,rfl,GA.1,rfl,_,rfl,A.a,A.q,M,_,_,n',rfl,L5.run,L5.ok,aF,n0,by lia,fun l us es S' q' H6 nl dl rd run he lI R6 kl lq=>?_⟩;refine⟨_,rfl,_,rfl,A.d,A.e,A.t,M,_,_,n',rfl,L5.mid kl.but,L5.ok,aF,n0,by lia,fun l2 Wq es2 S2 H7 FP ye m8 qP GU GS Z7 b7=>?_⟩;obtain⟨e1,e2⟩:=run.RG he lI qP GU GS;subst e1 e2;have xh:=run.ok L5.ok aF;obtain⟨L7,IS⟩:=L5.fin R6 kl.but kl.nq Z7 b7 (xh.mono (by lia) (by lia)) (run.sm L5.ok aF L5.sm) (by rw[run.goal L5.ok aF];exact L5.on);have wO:aE K H7 us es:=aE.v (da.v (L5.mid kl.but) b7) _ (run.no L5.ok aF) rd;have lO:H7 l=some (.lst us):=b7 _ _ dl fun m=>by have GO:H5 l≠none:=L5.here l (.inl (by simp only[Ad.all,bB,cw,df]at m⊢;rcases m with z|z<;>simp[z]));exact GO nl
       refine⟨_,_,.list es,rfl,jM (au.of lO) wO,jM (au.of ye) m8,QR L5.ok aF run (by lia),fun H8 s8=>⟨_,rfl,bf ?_⟩⟩;have L8:=L7.same s8;have b58:aV (T::p::A.all) H1 H8:=fun x o e hx=>s8 _ _ (IS _ _ (b5.same x o (fun z=>hx (by rw[z];simp)) (yj _ _ e hx)) hx);have O8:q'=A.q\/H1 q'=none:=kl.nq.imp id fun z=>by cases e:H1 q' with |none=>rfl |some o=>
          by_cases hq:q'∈T::p::A.all
          · rcases bB.mp hq with g|g
            · obtain⟨ps,et,_⟩:=L5.tab
              rw[g,et]at z;cases z
            ·exact absurd z (L5.here q' ((bB.mp g).elim .inr .inl))
          ·rw[b5.same q' o (fun g=>hq (by rw[g];simp)) (yj _ _ e hq)]at z;cases z
       obtain⟨mv,lv,gv,sv,bv,cv,rv,hz⟩:=L8.sim.ob;obtain⟨ys,hqq⟩:=L8.sim.qu;refine⟨_,rfl,A.d,_,rfl,dp hz.1 NP jq,?_⟩;have b9:aV [A.d] H8 (L2.upd H8 A.d (.dK (aZ mv lv gv sv (.int S'.rate) (.str S'.side) (.str S'.mark) (.ref A.e) (.int S'.dn) .aY cv rv (.ref A.t)))):=vF (by simp);have e9:(L2.upd H8 A.d (.dK (aZ mv lv gv sv (.int S'.rate) (.str S'.side) (.str S'.mark) (.ref A.e) (.int S'.dn) .aY cv rv (.ref A.t)))) A.d=some (.dK (aZ mv lv gv sv (.int S'.rate) (.str S'.side) (.str S'.mark) (.ref A.e) (.int S'.dn) .aY cv rv (.ref A.t))):=aQ;generalize L2.upd H8 A.d (.dK (aZ mv lv gv sv (.int S'.rate) (.str S'.side) (.str S'.mark) (.ref A.e) (.int S'.dn) .aY cv rv (.ref A.t)))=H9 at b9 e9⊢;have Z8:da K H9 A.d A.e A.t M {S' with stp:=none}:=L8.brk b9 e9 hz;have R9:=L8.Hq b9;obtain⟨dx9,mv9,bv9,a9A,tv9,hr9⟩:=R9.ob;refine⟨_,rfl,A.a,dx9,_,rfl,hr9.1,rfl,A.a,q',M,_,S',rfl,R9,L8.ok,fun HA RA bA=>?_⟩;have okg:bQ M (64+10*(n+1+1+1)) {S' with stp:=none}:=bQ.mono (D:=64+10*(n+1+1)) ⟨L8.ok.row,L8.ok.rw,L8.ok.len,L8.ok.rt1,L8.ok.rt2,L8.ok.dn,L8.ok.pl,L8.ok.pd,L8.ok.pm,trivial,L8.ok.D1,L8.ok.D2⟩ (by lia) (by lia);obtain⟨LA,b8A⟩:=L8.a6T b9 Z8 RA bA okg L8.sm L8.on;obtain⟨W5,PB⟩:=LA.sim.qu;obtain⟨mvA,lvA,gvA,svA,bvA,cvA,rvA,hzA⟩:=LA.sim.ob;refine⟨_,rfl,A.d,_,rfl,dg hzA.1 lj,A.e,W5,rfl,.inl (au.of PB.1),?_⟩;refine⟨_,_,.int (S'.ds.length:Nat),rfl,cX _,by rw[PB.2.length];exact cX _,ki _,fun HB sB=>?_⟩;exact Au q' _ HB (LA.same sB) (fun x o e hx=>sB _ _ (b8A _ _ (b58 _ _ e hx) (Sz hx O8 e))) O8
     ·--entries
       refine⟨_,rfl,p,12,rfl,L1.bag,by decide,by decide,fun n' H5 n0 n1 b5=>?_⟩;have L5:=L1.oE b5;obtain⟨Iu,mv5,bv5,a0h,WC,GA⟩:=L5.run.ob;refine⟨_,_,rfl,rfl,?_⟩;refine⟨_,rfl,A.a,Iu,_,rfl,GA.1,rfl,_,rfl,A.a,A.q,M,_,_,_,rfl,L5.run,L5.ok,aF,by lia,by lia,fun l us es S' q' H6 nl dl rd run he lI R6 kl lq=>?_⟩;refine⟨_,rfl,_,rfl,A.d,A.e,A.t,M,_,_,_,rfl,L5.mid kl.but,L5.ok,aF,by lia,by lia,fun l2 Wq es2 S2 H7 FP ye m8 qP GU GS Z7 b7=>?_⟩;obtain⟨e1,e2⟩:=run.RG he lI qP GU GS;subst e1 e2;have xh:=run.ok L5.ok aF;obtain⟨L7,IS⟩:=L5.fin R6 kl.but kl.nq Z7 b7 (xh.mono (by lia) (by lia)) (run.sm L5.ok aF L5.sm) (by rw[run.goal L5.ok aF];exact L5.on);have wO:aE K H7 us es:=aE.v (da.v (L5.mid kl.but) b7) _ (run.no L5.ok aF) rd;have lO:H7 l=some (.lst us):=b7 _ _ dl fun m=>by have GO:H5 l≠none:=L5.here l (.inl (by simp only[Ad.all,bB,cw,df]at m⊢;rcases m with z|z<;>simp[z]));exact GO nl
       refine⟨_,_,.list es,rfl,jM (au.of lO) wO,jM (au.of ye) m8,QR L5.ok aF run (by lia),fun H8 s8=>?_⟩;refine Au q' S' H8 ((L7.same s8).mono (by lia) (by lia)) (fun x o e hx=>s8 _ _ (IS _ _ (b5.same x o (fun z=>hx (by rw[z];simp)) e) hx)) (kl.nq.imp id fun z=>?_);cases e:H1 q' with |none=>rfl |some o=>
         by_cases hq:q'=p
         ·exact absurd z (L5.here q' (.inr hq))
         ·rw[b5.same q' o hq e]at z;cases z
theorem iR{H:Hp}{x y:Addr}(hx:H x≠none)(hy:H y=none):x≠y:=fun e=>hx (by rw[e];exact hy)
theorem Dg{H H':Hp}{x:Addr}(s:ak H H')(hx:H x≠none):H' x≠none:=by cases h:H x with |none=>exact(hx h).elim |some o=>rw[s _ _ h];simp
theorem ak.but{S:List Addr}{H0 H H':Hp}(s:ak H0 H)(b:aV S H H')(hn:∀x∈S,H0 x=none):ak H0 H':=fun b' o e=>b _ _ (s _ _ e) (fun hm=>by rw[hn _ hm]at e;cases e)
theorem bP.first{C T:Addr}{qn:Str}{M:bp}{pl:List Int}{H5 H6 H9:Hp}{x q0 d0 e0 t0 p:Addr}(hT:H5 T=some (.eG #[]))(bg:fW H5 p)(nx:H5 x=none)(xl:H5 q0=none)(R6:cn K C H6 x q0 M (lZ pl))(s6:ak H5 H6)(Z0:da K H9 d0 e0 t0 M (lZ pl))(T0:H9 t0=some (.lst []))(mh:H6 d0=none)(uM:H6 e0=none)(uG:H6 t0=none)(g1:d0≠t0)(g2:e0≠t0)(s9:ak H6 H9)(on:iq M.rs pl)(hl:pl.length=M.rs.length):bP K C T qn H9 M 0 ⟨x,q0,d0,e0,t0⟩ p (lZ pl):=by
 have px:H6 x≠none:=by obtain⟨_,_,_,_,_,e,_⟩:=R6.ob;rw[e];simp
 have pq:H6 q0≠none:=by obtain⟨_,e,_⟩:=R6.qu;rw[e];simp
 have pb:H5 p≠none:=by obtain⟨c,m,e,_⟩:=bg;rw[e];simp
 have Fw:=Dg s6 pb;refine⟨R6.same rfl s9,Z0,YI hl,XH pl,⟨[],T0,fX _,nofun⟩,?_,.first (s9 _ _ (s6 _ _ hT)),on,?_,?_⟩
 · simp only[Ad.all,tP,bB,cw,df,not_or,List.nodup_nil,not_false_eq_true,and_true]
   exact⟨⟨R6.ne,iR px mh,iR px uM,iR px uG⟩,⟨iR pq mh,iR pq uM,iR pq uG⟩,⟨Z0.ne,g1⟩,g2⟩
 · obtain⟨c,m,e,k⟩:=bg
   exact⟨c,m,s9 _ _ (s6 _ _ e),k⟩
 · simp only[Ad.all,bB,cw,df,not_or]
   exact⟨iR pb nx,iR pb xl,iR Fw mh,iR Fw uM,iR Fw uG⟩
def lS(K:aaU)(H:Hp)(a:Addr)(nK:List Int)(L:List Addr):Prop:=(∀H2,au K H2 a (nK.map V.int))\/(au K H a (nK.map V.int)/\(∃o,H a=some o)/\a∉L)
theorem lS.De{H:Hp}{a:Addr}{nK:List Int}{L:List Addr}(h:lS K H a nK L):au K H a (nK.map V.int):=h.elim (fun h=>h H) fun h=>h.1
theorem lS.but{H H':Hp}{a:Addr}{nK:List Int}{L L':List Addr}(h:lS K H a nK L)(b:aV L H H')(hn:∀x,x∈L'->x∈L\/H x=none):lS K H' a nK L':=by
 rcases h with h|⟨h1,⟨o,e⟩,h3⟩
 ·exact .inl h
 · refine .inr ⟨?_,⟨o,b _ _ e h3⟩,fun m=>(hn a m).elim h3 fun z=>by rw[z]at e;cases e⟩
   rcases h1 with h1|h1
   ·exact .inl (h1.imp (fun z=>b _ _ z h3) fun⟨o',z⟩=>⟨o',b _ _ z h3⟩)
   ·exact .inr h1
theorem Mu:aW ["_law_script","_law_bag_here","_law_machine_here","_law_place_here","_law_runner","_law_sim_here","_law_far","_law_k","_law_quiet"] ["_law_script"] (aK ui):=bh (by decide+kernel)
theorem a1R{f C T:Addr}{fd:FuncData}(F:jE K "law" "law" ui f fd)(TC:fK K C)(B:bw mg)(Qe:aj P w K mg base "_law_bag" 1 (Lr K))(dH:aj P w K mg base "_law_take" 1 oZ)(a6m:aj P w K mg base "_law_machine" 2 (Ll K))(a6k:aj P w K mg base "_law_place" 2 (Lh K))(a5Y:BK P w K mg base C "Runner" 1 (Lc K C))(a6h:aj P w K mg base "_law_sim" 1 (KN K))(a6p:aj P w K mg base "_law_deed" 13 (Lp K C T))(Qd:aj P w K mg base "_law_seen" 6 (CJ K C)):iK P w K mg base iX 14 f fd ["_law_script"] (CS K T):=by
 refine F.ok Mu (fun vs H Q E h=>?_) (fun aD A outer s H vs Q E hr h=>?_)
 · obtain⟨a,ns,rfl,_⟩:=h
   rfl
 · obtain⟨a,ns,rfl,hS,hlen,hT,k⟩:=h
   have nd:=Mu.nd;refine⟨_,(ai (pS 1 nd (pf Qe hr (aa (pv 0) (aa ah ae)))) (ai (pS 2 nd (pf a6m hr (aa (pv 1) ae))) (ai (pS 3 nd (pf a6k hr (aa (pv 1) (aa (pv 2) ae)))) (ai (pS 4 nd (a04 a5Y (hr.mono (by decide)) rfl (aa (pv 2) (aa (pv 3) ae)))) (ai (pS 5 nd (pf a6h hr (aa (pv 2) (aa (pv 3) ae)))) (ai (pS 6 nd (px K (cV (aa ah (aa ah (aa ah ae)))) (pf dH hr (aa (pv 1) (aa ah ae))))) (ai (kU gE rfl (wU rfl (B.at "range") (aa (cQ (x:="max") (S9 rfl) rfl (B.at "max") BZ (aa ah (aa (cQ (x:="min") (II rfl) rfl (B.at "min") VF (aa (dv K B (aa (pv 0) ae)) (aa ah ae))) ae))) ae)) (aX 7 nd) (ai (pS 1 nd (pf Qe hr (aa (pv 0) (aa (az cE (pv 7) ah) ae)))) (ai (pS 8 nd (eQ (cJ K rfl hr.units) (pf dH hr (aa (pv 1) (aa ah ae))) ah (ba _))) (aw (bj (PW.pt (kh (dS (cA (pf a6p hr (aa (pv 1) (aa (pv 4) (aa (pv 5) (aa (pv 6) ae))))))) (kS (PW.pt (nN (dS (cA (pv 8))) (qT (dS (cA (pf Qd hr (aa (pv 4) (aa (pv 5) ae))))))))))) (aw (aJ hJ)) bu))))) (aw (aJ (pf Qd hr (aa (pv 4) (aa (pv 5) ae)))))))))))),?_⟩;refine⟨_,rfl,a,ns,_,rfl,hS,hlen,by lia,by lia,fun p H3 np Bt s3=>?_⟩;refine⟨_,rfl,p,rfl,Bt,fun mv rs r f j ti H4 rm aF b4=>?_⟩;have nm:=iS rs r f j ti;refine⟨_,rfl,_,rfl,p,mv,rs,r,f,j,ti,rfl,b4.bag,rm,aF,fun Ft pl H5 zQ on b5=>?_⟩;have YM:=RD.t (bK.t b4.bag b5) _ nm rm;obtain⟨M,Nb,A3,eRs⟩:∃M:bp,RD K H5 mv M.D/\M.Ok/\M.rs=rs:=⟨⟨rs,r,f,j,ti⟩,YM,aF,rfl⟩;have O3:iq M.rs pl:=by rw[eRs];exact on
   have s5:ak H H5:=bK.MT (bK.MT s3 np b4) np b5;refine⟨_,rfl,_,rfl,fun x dx nx FU FR=>⟨x,dx,mv,Ft,M,pl,rfl,aQ,?_,?_,fun q0 H6 R6 xl b6=>?_⟩⟩
   ·exact RD.mono (ak.new FU|>.trans (ak.new (by rw[aB FR.symm];exact nx))) _ Nb
   ·exact RD.mono (ak.new FU|>.trans (ak.new (by rw[aB FR.symm];exact nx))) _ zQ
   have Lu:ak H5 (L2.upd (L2.upd H5 dx (.own x)) x (.ins C dx [])):=ak.new FU|>.trans (ak.new (by rw[aB FR.symm];exact nx));have s6:ak H5 H6:=ak.but Lu b6 (by simpa using nx);have O9:H5 q0=none:=same_none Lu xl;refine⟨rfl,?_⟩;refine⟨_,rfl,_,rfl,mv,Ft,M,pl,rfl,RD.mono s6 _ Nb,RD.mono s6 _ zQ,fun d0 e0 t0 H9 Z0 T0 mh uM uG g1 g2 s9=>?_⟩;have L9:bP K C T mq H9 M 0 ⟨x,q0,d0,e0,t0⟩ p (lZ pl):=bP.first (s5 _ _ hT) b5.bag nx O9 R6 s6 Z0 T0 mh uM uG g1 g2 s9 O3 O3.len;have N4:=s5.trans (s6.trans s9);have Sc9:lS K H9 a ns (T::p::[x,q0,d0,e0,t0]):=by
    rcases hS with hS|hS
    · have ha:H a≠none:=by rcases hS with e|⟨o,e⟩<;>(rw[e];simp)
      obtain⟨o,e⟩:=Option.ne_none_iff_exists'.mp ha;refine .inr ⟨N4.seq (.inl hS),⟨o,N4 _ _ e⟩,fun m=>?_⟩;have He:=Dg s5 ha;have Hd:=Dg s6 He;simp only[bB,cw,df]at m;rcases m with z|z|z|z|z|z|z
      · rw[z]at hS
        rcases hS with g|⟨o',g⟩<;>(rw[hT]at g;cases g)
      ·exact iR ha np z
      ·exact iR He nx z
      ·exact iR He O9 z
      ·exact iR Hd mh z
      ·exact iR Hd uM z
      ·exact iR Hd uG z
    ·exact .inl fun H2=>.inr hS
   refine⟨bI rfl,fun lf ji jw=>?_⟩;have SY:=L9.same jw.same;refine⟨_,rfl,p,3,rfl,SY.bag,by decide,by decide,fun zf ir z0 z1 yk=>?_⟩;obtain⟨far,a5g,HL,HK⟩:∃far:Int,fz [V.int 3,.int 8,.int 25] zf=some (.int far)/\1<=far/\far<=100:=by
    rcases(show zf=0\/zf=1\/zf=2 by lia)with rfl|rfl|rfl
    ·exact⟨3,rfl,by decide,by decide⟩
    ·exact⟨8,rfl,by decide,by decide⟩
    ·exact⟨25,rfl,by decide,by decide⟩
   have a3e:ir lf=some (.lst [V.int 3,.int 8,.int 25]):=yk.same _ _ (fun z=>L9.here _ (.inr rfl) (z▸jw.no)) jw.at';refine .inl ⟨lf,_,zf,_,rfl,rfl,au.of a3e,a5g,?_⟩;have L11:=SY.oE yk;have SI:lS K ir a ns (T::p::Ad.all ⟨x,q0,d0,e0,t0⟩):=Sc9.but (fun y o e hy=>yk.same y o (fun z=>hy (by rw[z];simp)) (jw.same _ _ e)) fun y m=>.inl m;refine⟨_,rfl,a,_,rfl,.inl SI.De,_,_,rfl,_,_,rfl,_,rfl,?_,?_,?_⟩
   ·split<;>lia
   ·rw[bT];split<;>(try split)<;>lia
   have hN:(if(if(26:Int)<((ns.map V.int).length:Int)then(26:Int)else((ns.map V.int).length:Int))>10 then(if(26:Int)<((ns.map V.int).length:Int)then(26:Int)else((ns.map V.int).length:Int))else(10:Int)).toNat<=26:=by split<;>(try split)<;>lia
   have seen:∀{H2:Hp}{A:Ad}{p':Addr}{S:aU}{n:Nat}(Q':VK),bP K C T mq H2 M n A p' S->n<=90->(∀H3,bP K C T mq H3 M n A p' S->aV (T::p'::A.all) H2 H3->Q' (.bl true) H3)->CJ K C [.ref A.a,.ref A.d] H2 Q' E0:=fun{H2 A p' S n} Q' L hn kq=>by
    have nd:=L.nd;simp only[Ad.all,tP,bB,cw,df,not_or]at nd;obtain⟨⟨t1,t2,t3,t4⟩,⟨t5,t6,t7⟩,⟨t8,t9⟩,zp,_⟩:=nd;refine⟨A.a,A.q,A.d,A.e,A.t,M,_,S,_,_,rfl,L.run,L.sim,L.ok,A3,L.sm,L.told,by lia,by lia,fun y hy=>L.here y hy,.inl (by simp[Ad.all]),ek t4,ek t7,ek t9,ek zp,fun H3 b3 T3=>?_⟩;have bb:aV (T::p'::A.all) H2 H3:=b3.mono fun y hy=>by rw[bS.mp hy];simp[Ad.all]
    have v:=L.v bb;have no:=L.ok.row.no;have s1:∀{y:Addr},y≠A.t->y∉[A.t]:=fun g=>by rw[bS];exact g
    refine kq H3 ⟨L.run.go no v (fun o e=>b3 _ _ e (s1 t4)) (fun o e=>b3 _ _ e (s1 t7)),L.sim.go no v (fun o e=>b3 _ _ e (s1 t9)) (fun o e=>b3 _ _ e (s1 zp)),L.ok,L.sm,T3,L.nd,TabAt.but L.tab b3 (s1 fun z=>L.nT (by rw[z];simp[Ad.all])) fun y hy φ=>L.xn y (tQ _ (by rw[bS.mp hy];simp[Ad.all])) φ,L.on,L.bag.but b3 (s1 fun z=>L.np (by rw[z];simp[Ad.all])),L.np⟩ bb
   refine B9 (Pv:=fun i σ H2=>∃A p S,bP K C T mq H2 M (3*i) A p S/\lS K H2 a ns (T::p::A.all)/\∃v1 v7 v8,σ=[some (.ref a),v1,some mv,some Ft,some (.ref A.a),some (.ref A.d),some (.int far),v7,v8]) ?_ ?_ ?_
   ·exact⟨_,p,_,L11,SI,_,none,none,rfl⟩
   · rintro i σ H2 hi ⟨A,p,S,mR,J8,v1,v7,v8,rfl⟩
     have hi8:i<26:=fL hi hN;refine⟨_,rfl,_,rfl,_,_,rfl,rfl,a,ns,_,rfl,J8.De,hlen,by lia,by lia,fun p' H3 Oa Bt s3=>?_⟩;have L3:=mR.a2u s3 Oa Bt;have Sc3:lS K H3 a ns (T::p'::A.all):=J8.but (fun y o e _=>s3 _ _ e) fun y m=>by
      rcases bB.mp m with z|m
      ·exact .inl (by rw[z];exact .head _)
      · rcases bB.mp m with z|m
        ·exact .inr (by rw[z];exact Oa)
        ·exact .inl (.tail _ (.tail _ m))
     refine⟨_,rfl,p',3,rfl,Bt,by decide,by decide,fun z H4 z0 z1 b4=>.inl ⟨_,_,rfl,rfl,?_⟩⟩;have L4:=L3.oE b4;have Sc4:lS K H4 a ns (T::p'::A.all):=Sc3.but (fun y o e hy=>b4.same y o (fun g=>hy (by rw[g];simp)) e) fun y m=>.inl m;refine⟨_,rfl,_,rfl,_,rfl,_,rfl,p',A,M,_,S,far,rfl,L4,A3,HL,HK,by lia,fun q' S' H5 L5 b5 nq=>⟨_,rfl,bf ?_⟩⟩;have SH:lS K H5 a ns (T::p'::({A with q:=q'}:Ad).all):=Sc4.but b5 fun y m=>by
      by_cases hy:y∈T::p'::A.all
      ·exact .inl hy
      ·cases e:H4 y with |none=>exact .inr rfl |some o=>exact absurd m (Sz hy nq e)
     refine⟨_,rfl,_,rfl,?_⟩;refine dC (fun hq=>?_) (fun hq=>?_)
     · refine⟨_,rfl,_,rfl,?_⟩
       refine seen (A:={A with q:=q'}) _ L5 (show 3*i+3<=90 by lia) fun H6 L6 b6=>⟨_,rfl,bf ?_⟩;exact⟨_,p',S',L6.mono (by lia) (by lia),SH.but b6 fun y m=>.inl m,_,_,_,rfl⟩
     ·exact⟨_,p',S',L5.mono (by lia) (by lia),SH,_,_,_,rfl⟩
   · rintro σ H2 ⟨A,p,S,mR,J8,v1,v7,v8,rfl⟩
     refine⟨_,rfl,_,rfl,?_⟩;exact seen _ mR (gR (Nat.mul_le_mul_left 3 hN) (by decide)) fun H3 L3 b3=>k _
end
end Lw
namespace Lw
open PySem PySem.Spec PyProof.Rows L2
theorem mz{K:aaU}{mg:Str->Option Value}{h:Heap}{x:Str}{c:Addr}(X:K.In h)(G:h.Ns mainGlobals mg)(a:PySem.W.nsIn K mainGlobals x=some (some (.ref c))):GV mg x (.ref c):=⟨_,vR X G a,rfl⟩
theorem QI{K:aaU}{mg:Str->Option Value}{h:Heap}{x:Str}{c:Addr}{bm:List Value}{nw:String}(X:K.In h)(G:h.Ns mainGlobals mg)(a:PySem.W.nsIn K mainGlobals x=some (some (.ref c)))(q:PySem.W.excIn K c bm nw=true):Exc K mg x c bm nw:=⟨vR X G a,q⟩
theorem a3z{K:aaU}{n o f m r cG c0 c1 c2 c3 c4 c5 C:Addr}{b0 b1 b2 b3 b4:Bool}(t:takes K C cG)(k:mU K C)(i0:PySem.W.kitOne K (.ref C) (.ref n)=some b0)(i1:PySem.W.kitOne K (.ref C) (.ref o)=some b1)(i2:PySem.W.kitOne K (.ref C) (.ref f)=some b2)(i3:PySem.W.kitOne K (.ref C) (.ref m)=some b3)(i4:PySem.W.kitOne K (.ref C) (.ref r)=some b4)(any:PySem.W.kitAny K (.ref C) [.ref c0,.ref c1,.ref c2,.ref c3,.ref c4,.ref c5]=some false)(ve:PySem.W.kitOne K (.ref C) (.type "ValueError")=some true):KC K ⟨n,o,f,m,r⟩ cG [c0,c1,c2,c3,c4,c5] C b0 b1 b2 b3 b4:=⟨t,k,i0,i1,i2,i3,i4,any,ve⟩
theorem Za{K:aaU}{mg:Str->Option Value}{h:Heap}{n o f m r cG c0 c1 c2 c3 c4 c5:Addr}(X:K.In h)(G:h.Ns mainGlobals mg)(ag:PySem.W.nsIn K mainGlobals "GlideError"=some (some (.ref cG)))(qg:PySem.W.excIn K cG vG xj=true) (h0:PySem.W.nsIn K mainGlobals "NoFraction"=some (some (.ref c0)))(h1:PySem.W.nsIn K mainGlobals "NoLine"=some (some (.ref c1)))(h2:PySem.W.nsIn K mainGlobals "NoMachine"=some (some (.ref c2)))(h3:PySem.W.nsIn K mainGlobals "NoPlace"=some (some (.ref c3)))(h4:PySem.W.nsIn K mainGlobals "NoTape"=some (some (.ref c4)))(h5:PySem.W.nsIn K mainGlobals "NoText"=some (some (.ref c5))) (an:PySem.W.nsIn K mainGlobals "NoItem"=some (some (.ref n)))(ao:PySem.W.nsIn K mainGlobals "OffRails"=some (some (.ref o)))(am:PySem.W.nsIn K mainGlobals "Moving"=some (some (.ref m)))(ar:PySem.W.nsIn K mainGlobals "NoRate"=some (some (.ref r)))(v:PySem.W.nsIn K mainGlobals "ValueError"=some none)(af:PySem.W.nsIn K mainGlobals "Full"=some (some (.ref f)))(qf:PySem.W.excIn K f vG xj=true) (kf:KC K ⟨n,o,f,m,r⟩ cG [c0,c1,c2,c3,c4,c5] f false false true false false) :∃R cG c0 c1 c2 c3 c4 c5,BF K mg R cG c0 c1 c2 c3 c4 c5:=⟨⟨n,o,f,m,r⟩,cG,c0,c1,c2,c3,c4,c5,QI X G ag qg,mz X G h0,mz X G h1,mz X G h2,mz X G h3,mz X G h4,mz X G h5,mz X G an,mz X G ao,mz X G am,mz X G ar,PySem.W.mg_none_of X G v,QI X G af qf,kf⟩
theorem tab_of{T:Addr}{K:aaU}{mg:Str->Option Value}(A:All T K mg):∃cd,oB K cd T=true:=by obtain⟨f,fd,_,_,h⟩:=A.f__law_deed.ex;exact⟨_,h⟩
theorem a8O:yo K P:=by intro T w mg base f fd A sJ F;have tk:aj P w K mg base "_law_take" 1 oZ:=a0Q A.f__law_take A.B;have cd:aj P w K mg base "common_divisor" 1 CW:=a26 A.f_common_divisor A.B;have lt:aj P w K mg base "lowest_terms" 2 ub:=a1J A.f_lowest_terms A.B cd;have iw:aj P w K mg base "is_whole" 1 (ud K):=a1S A.f_is_whole A.B;have ww:aj P w K mg base "is_whole_within" 2 (qJ K):=a0I A.f_is_whole_within A.B iw;have fn:aj P w K mg base "fraction" 3 (u9 K):=a20 A.f_fraction A.B iw lt;have ld:aj P w K mg base "lead_of" 1 (kQ K):=a1P A.f_lead_of A.B;have ls:aj P w K mg base "is_less" 1 (uc K):=a1N A.f_is_less A.B;have cp:aj P w K mg base "corner_square" 6 (CY K):=a25 A.f_corner_square A.B (a0K A.f_greatest_turn A.B (a0J A.f_ways_of A.B ld fn) (a1G A.f_minus A.B lt) ls) fn;have irt:aj P w K mg base "is_rate" 3 (CN K):=a1T A.f_is_rate A.B A.g_LEAST_RATE A.g_GREATEST_RATE ww;have tp:aj P w K mg base "top_square" 4 (zy K):=a0M A.f_top_square A.B irt fn;have Aw:aj P w K mg base "is_line" 1 (uf K):=a1U A.f_is_line A.B;have lst:aj P w K mg base "least" 2 (iZ K):=a1O A.f_least A.B ls;have Sl:aj P w K mg base "bound_between" 7 (zF K):=a28 A.f_bound_between A.B A.g_NOUGHT Aw tp cp lst;have own:aj P w K mg base "own_bounds" 8 (Lj K):=a1C A.f_own_bounds A.B A.g_NOUGHT Sl;have pw:aj P w K mg base "plus_whole" 4 (zD K):=a1y A.f_plus_whole A.B;have nr:aj P w K mg base "nearest" 1 CP:=a1E A.f_nearest A.B;have Kt:aj P w K mg base "stand_at" 2 (zA K):=a0T A.f_stand_at A.B ld nr;have sr:aj P w K mg base "step_rows" 3 (CL K):=a1j A.f_step_rows A.B ld Kt;have ent:aj P w K mg base "step_entry" 3 (CV K):=a22 A.f_step_entry A.B (a0P A.f_ticks_of A.B (a23 A.f_are_enough A.B));have ln:aj P w K mg base "_law_line" 2 (CQ K):=a1L A.f__law_line A.B tk;have itm:aj P w K mg base "is_item" 4 (CT K):=a1Y A.f_is_item A.B A.g_GREATEST_SPEED ww (a2b A.f_are_steps A.B A.g_MOST_STEPS ww) (a1V A.f_is_short_item A.B A.g_LONGEST_WAIT A.g_SIDES ww (a1X A.f_is_name A.B A.g_LONGEST_NAME A.g_LETTERS));have isp:aj P w K mg base "is_place" 3 (CU K):=a1W A.f_is_place A.B ww;have Ox:aj P w K mg base "moved" 1 (zE K):=a1F A.f_moved A.B;have IP:aj P w K mg base "place_behind" 2 (wB K):=a29 A.f_place_behind A.B Aw Ox;have WN:aj P w K mg base "times" 3 (m4 (·*·) K):=a0N A.f_times A.B lt;have Zd:aj P w K mg base "reach_behind_first" 9 (CM K):=a1x A.f_reach_behind_first A.B (a1B A.f_own_bounds A.B A.g_NOUGHT Sl) (a21 A.f_kept_by_fall A.B Aw ld pw lst);obtain⟨C,R⟩:=A.rc;have TC:=R.tc;have zS:=a1q (w:=w) (mg:=mg) (base:=base) R.m_is_held TC;have N9:=a1g (w:=w) (base:=base) R.m_stands TC A.g_NOUGHT;have Nf:=a1p R.m_is_halted TC zS N9;have Nc:=a1m R.m_leads_to TC IP;have YJ:=a1k R.m_next_square TC pw WN fn lst zS;have ref:=a1w R.m_end_first TC IP;have Yy:=a1f R.m_steps_of_first TC A.B ld sr tp Zd ent Nf YJ ref;have YY:=a1t R.m_entries_of_first TC Aw Yy ref;have Z4:=a1u R.m_entries TC A.B Nf YY;have N8:=a1e (w:=w) (mg:=mg) (base:=base) R.m_stops_in TC;have YT:=a1o R.m_hold TC N8 zS;have YU:=a1r (w:=w) (base:=base) R.m_go TC A.B;have zQ:=a1i R.m_place TC Ox Kt;have Yr:=a1b (w:=w) (base:=base) R.m_waiting TC A.B;have Yx:=a1d (w:=w) (mg:=mg) (base:=base) R.m_square TC;have YB:=a1h (w:=w) (mg:=mg) (base:=base) R.m_rate TC;have Yw:=a1c (w:=w) (mg:=mg) (base:=base) R.m_tool TC;have YK:=a1l (w:=w) (mg:=mg) (base:=base) R.m_last_mark TC;obtain⟨Rf,cG,c0,c1,c2,c3,c4,c5,EA⟩:=A.rf;have Al:=a1Z (w:=w) (base:=base) A.f__law_frac A.B;have G7:=a1H A.f__law_min A.B (a1M (w:=w) (base:=base) A.f__law_less A.B);have OI:=a0R A.f__law_sum A.B Al;have OH:=a0L A.f__law_top A.B Al;have Aj:=a1Q (w:=w) (base:=base) A.f__law_lead A.B;have Kx:=a0U (w:=w) (base:=base) A.f__law_sim_stops A.B;have XA:=a0V A.f__law_sim_step A.B Aj (a0W A.f__law_reach A.B (a27 A.f__law_bounds A.B Aj G7 OH Al) OI Aj G7) OH OI Al (a0S A.f__law_stand A.B Aj) G7 (a0O A.f__law_ticks A.B);have Ai:=a1K (w:=w) (base:=base) A.f__law_number A.B;have al:=A2 (by decide) A.f__law_alike A.B Ai (A2 (by decide) A.f__law_alike A.B Ai (A2 (by decide) A.f__law_alike A.B Ai (A2 (by decide) A.f__law_alike A.B Ai (a2c (w:=w) (base:=base) A.f__law_alike A.B))));have YV:=a1s R.m_feed TC A.B EA.xf A.g_MOST_WAITING itm isp IP Nc;have YW:yB P w K mg base "_law_refused" 7 (zB P w K mg base Rf 5):=a1v A.f__law_refused A.B EA;have Y3:=a19 A.f__law_sim_entries A.B XA;have Y0:=a0Z (w:=w) (base:=base) A.f__law_sim_feed A.B;have seen:=a1a A.f__law_seen A.B TC al Kx Yr zQ Nc Yx YB Yw YK zS N9 N8;have a7J:=a24 A.f__law_deed A.B TC sJ tk ln (a1D A.f__law_other A.B tk) al YW YV Y0 YT (a0Y A.f__law_sim_hold A.B Kx) YU Z4 Y3;exact a1R F TC A.B (a2a A.f__law_bag A.B) tk (a1I A.f__law_machine A.B tk) (a1A A.f__law_place A.B tk) (a1n R.init TC A.g_NOUGHT A.g_FIRST_RATE) (a0X A.f__law_sim A.B) a7J seen
theorem a8P{P:aaW}{w:World}{K:aaU}{mg:Str->Option Value}{base:Heap}{f T:Addr}{fd:FuncData}(A:All T K mg)(sJ:base.BuiltinsAt mg T)(F:jE K "law" "law" ui f fd):iK P w K mg base iX 14 f fd ["_law_script"] (CS K T):=WR a8O K P T w mg base f fd A sJ F
end Lw
def PySem.W.Fast.tw17832534753352993141:PySem.Program:=PySem.Challenge.pw_glidequeue_k41_let_go_on
theorem PySem.W.Fast.te17832534753352993141:PySem.Challenge.pw_glidequeue_k41_let_go_on=PySem.W.Fast.tw17832534753352993141:=rfl
local macro_rules|`(command|universe $x:ident)=>return Lean.mkNullNode (<-((x.getId.toString.splitOn "_").drop 1).toArray.mapM fun i=>`(command|theorem $(Lean.mkIdent (`_root_.PySem.W.Fast++Lean.Name.mkSimple s!"tw{(`PySem.Challenge.cw_glidequeue_k41_let_go_on_holds++Lean.Name.mkSimple ((match i.front with|'h'=>"heap"|'t'=>"tree"|'v'=>"view"|'s'=>"sts"|'e'=>"env"|_=>"o")++"_"++(i.drop 1).toString)).hash}")):ident:True:=True.intro))
universe t_h928_t927_h39_v39_t821_t904_t733_t477_t370_t435_t292_s822_t241_s478_t647_t226_o905_t211_t189_s737_s905_s371_o478_o436_t167_s293_t152_o737_o371_o878_o876_s436_t137_o293_o902_o840_o904_o842_o913_o920_o911_t115_o822_o598_o918_o591_o925_o596_o589_o927_s242_o811_o866_o809_o864_t100_o242_o399_o814_o854_o642_o883_o852_o570_o873_o482_o816_o871_o349_o568_o859_o885_o456_t85_o454_o347_o861_o397_o384_o389_o759_o799_o227_o423_o391_o662_o386_o830_o449_o212_o421_o491_o797_o190_o447_o584_o168_o442_o892_o752_o828_o153_o440_o750_o71_o435_o138_o582_o344_o116_o461_o433_o575_o276_t70_o849_o101_o430_o463_o363_o669_o428_o342_o418_o847_o361_o651_o301_o292_o86_o290_o416_o339_o821_o278_o337_o299_o370_o470_o804_o49_o612_o617_o773_o498_o802_o619_o368_o745_o757_o899_o507_o308_o329_o468_o771_o610_o306_o605_o334_o897_o505_o594_o208_o327_o477_o743_o356_o807_o603_o332_o819_o794_o475_o270_o322_o626_o315_o413_o766_o263_o890_o285_o556_s168_o320_o184_o379_o283_o268_o313_o792_o140_o764_o354_o182_o411_o711_o780_o561_o732_o587_o641_o261_o624_o837_o377_o923_o132_o683_o640_o382_o83_o254
open PySem PySem.W PyProof.Rows
set_option maxRecDepth 100000 in
set_option maxHeartbeats 0 in
theorem PySem.Challenge.cw_glidequeue_k41_let_go_on_holds : PySem.Challenge.rw_glidequeue_k41_let_go_on.Holds := by
 w_on; o_law; k_head; (case hw=>w_witness2)
 k_fill
 refine L2.a3l (l:=PySem.Challenge.rw_glidequeue_k41_let_go_on) (k:=14) (x:="_law_script") (st:=Lw.ui) rfl rfl ⟨rfl,by decide,by decide⟩ (fun w h Y=>⟨PySem.W.km_in_of Y,PySem.W.km_tabs_of Y _ (.head _)⟩) (Lw.All _) ?F ?K (fun _ _ A=>Lw.tab_of A) (fun _ _ A=>A.law) (fun _ _ _ _ _ _ _=>rfl) (fun _ _ _ _ _ _ _ A hB F=>Lw.a8P A hB F)
 case K=>exact fun w=>(by kernel_rfl)
 case F=>
  intro w mg h KX G
  refine⟨L2.a8u KX G ?b,?x1,?x2,?x3,?x4,?x5,?x6,?x7,?x8,?x9,?x10,?x11,?x12,?x13,?x14,?x16,?x17,?x18,?x19,?x20,?x21,?x22,?x23,?x24,?x25,?x26,?x27,?x28,?x29,?x30,?x31,?x32,?x33,?x34,?x35,?x36,?x37,?x38,?x39,?x40,?x41,?x42,?x43,?x44,?x45,?x46,?x47,?x48,?x49,?x50,?x51,?x52,?x53,?x54,?x55,?x56,?x57,?x58,?x59,?x60,?x61,?x62,?x63,?x64,?x65,?x66,?x67,?x68,?x69,?x70,?x71,?x72,?x73,?x74,?x75,?x76⟩
  case b=>(unfold L2.Bs; repeat (refine L2.qh.cons ?z ?_; (case z=>k_is))); exact L2.qh.nil
  case x1=>refine' L2.Ql KX G ?a ?l ?z ?r; (case a=>k_is); (case l=>k_is); (case z=>decide); (case r=>exact .cons ⟨_,rfl⟩ (.cons ⟨_,rfl⟩ .nil))
  case x2=>refine' L2.Ql KX G ?a ?l ?z ?r; (case a=>k_is); (case l=>k_is); (case z=>decide); (case r=>exact .cons ⟨_,rfl⟩ (.cons ⟨_,rfl⟩ .nil))
  case x3=>(refine' L2.pQ KX G ?z; (case z=>k_is))
  case x4=>(refine' L2.pQ KX G ?z; (case z=>k_is))
  case x5=>(refine' L2.pQ KX G ?z; (case z=>k_is))
  case x6=>(refine' L2.pQ KX G ?z; (case z=>k_is))
  case x7=>(refine' L2.pQ KX G ?z; (case z=>k_is))
  case x8=>(refine' L2.pQ KX G ?z; (case z=>k_is))
  case x9=>(refine' L2.pQ KX G ?z; (case z=>k_is))
  case x10=>(refine' L2.pQ KX G ?z; (case z=>k_is))
  case x11=>(refine' L2.a6v KX G ?z; (case z=>k_is))
  case x73=>(refine' L2.a6W KX G ?a ?l ?c ?k ?t; (case a=>k_is); (case l=>k_is); (case c=>k_is); (case k=>k_is); (case t=>kernel_rfl))
  case x75=>
   refine' Exists.intro _ (Lw.SN.mk (Lw.fK.mk (L2.jF.mk ?pg ?hd ?po ?sa) ?n1 ?n2 ?n3 ?n4 ?n5 ?n6 ?n7 ?n8 ?n9) (L2.a8n KX G ?aC ?mk ?kc ?ia ?ii ?il ?ic ?ik) (L2.hW ?a0 ?i0 ?l0 ?c0 ?k0) (L2.hW ?a1 ?i1 ?l1 ?c1 ?k1) (L2.hW ?a2 ?i2 ?l2 ?c2 ?k2) (L2.hW ?a3 ?i3 ?l3 ?c3 ?k3) (L2.hW ?a4 ?i4 ?l4 ?c4 ?k4) (L2.hW ?a5 ?i5 ?l5 ?c5 ?k5) (L2.hW ?a6 ?i6 ?l6 ?c6 ?k6) (L2.hW ?a7 ?i7 ?l7 ?c7 ?k7) (L2.hW ?a8 ?i8 ?l8 ?c8 ?k8) (L2.hW ?a9 ?i9 ?l9 ?c9 ?k9) (L2.hW ?a10 ?i10 ?l10 ?c10 ?k10) (L2.hW ?a11 ?i11 ?l11 ?c11 ?k11) (L2.hW ?a12 ?i12 ?l12 ?c12 ?k12) (L2.hW ?a13 ?i13 ?l13 ?c13 ?k13) (L2.hW ?a14 ?i14 ?l14 ?c14 ?k14) (L2.hW ?a15 ?i15 ?l15 ?c15 ?k15) (L2.hW ?a16 ?i16 ?l16 ?c16 ?k16) (L2.hW ?a17 ?i17 ?l17 ?c17 ?k17) (L2.hW ?a18 ?i18 ?l18 ?c18 ?k18))
   (case aC=>k_is)
   case n1 | n2 | n3 | n4 | n5 | n6 | n7 | n8 | n9=>(unfold L2.iW; k_is)
   case pg | hd | po | sa | mk | kc | ia | ii | il | ic | ik | a0 | i0 | l0 | c0 | k0 | a1 | i1 | l1 | c1 | k1 | a2 | i2 | l2 | c2 | k2 | a3 | i3 | l3 | c3 | k3 | a4 | i4 | l4 | c4 | k4 | a5 | i5 | l5 | c5 | k5 | a6 | i6 | l6 | c6 | k6 | a7 | i7 | l7 | c7 | k7 | a8 | i8 | l8 | c8 | k8 | a9 | i9 | l9 | c9 | k9 | a10 | i10 | l10 | c10 | k10 | a11 | i11 | l11 | c11 | k11 | a12 | i12 | l12 | c12 | k12 | a13 | i13 | l13 | c13 | k13 | a14 | i14 | l14 | c14 | k14 | a15 | i15 | l15 | c15 | k15 | a16 | i16 | l16 | c16 | k16 | a17 | i17 | l17 | c17 | k17 | a18 | i18 | l18 | c18 | k18=>k_is
  case x76=>
   refine' Lw.Za KX G ?ag ?qg ?h0 ?h1 ?h2 ?h3 ?h4 ?h5 ?an ?ao ?am ?ar ?v ?af ?qf (Lw.a3z ?ft ⟨?fk1,?fk2,?fk3,?fk4,?fk5,?fk6,?fk7,?fk8⟩ ?fi0 ?fi1 ?fi2 ?fi3 ?fi4 ?fany ?fve)
   case ag | h0 | h1 | h2 | h3 | h4 | h5 | an | ao | am | ar | v | af=>k_is
   case qg | qf=>k_exc
   case ft=>(show PySem.W.mroIn _ _ _=_; k_is)
   case fk1 | fk2 | fk3 | fk4 | fk5 | fk6 | fk7 | fk8=>k_is
   case fi0 | fi1 | fi2 | fi3 | fi4 | fany | fve=>kit_is
  all_goals (refine' L2.a6Y KX G ?a ?l ?c ?k; (case a=>k_is); (case l=>k_is); (case c=>k_is); (case k=>k_is))
#print axioms PySem.Challenge.cw_glidequeue_k41_let_go_on_holds
