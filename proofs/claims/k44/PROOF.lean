import PyProof.Rows.All
import Wide.All
import OpenK.AllK
import Wide.FinOn
import Lean
import PyProof.EqAt
import PyProof.EqKinds
import PyProof.TupleCall
import PySem.Challenge.RW_glidequeue_k44_two_runners
set_option Elab.async false
set_option linter.all false
set_option maxRecDepth 100000
abbrev aF:=@PySem.wpAny_bind
abbrev aP:=@if_pos
abbrev aV:=@if_neg
abbrev bp:=@Nat.le_refl
abbrev bJ:=@PySem.intBits_le_64
abbrev bO:=@List.getElem?_eq_getElem
abbrev bR:=@Nat.le_of_ble_eq_true
abbrev bS:=@List.length_map
abbrev bT:=@PySem.wpAny_pure
abbrev bU:=@List.getElem?_map
abbrev bW:=@List.mem_cons
abbrev cf:=@List.mem_singleton
abbrev cg:=@PySem.Heap.get?_push_of_some
abbrev ck:=@PySem.Heap.lt_size
abbrev cw:=@decide_eq_true
abbrev cC:=@Ne.symm
abbrev cY:=@PySem.boot_len
abbrev cZ:=@PyProof.Rows.boot_isinstance
abbrev da:=@List.not_mem_nil
abbrev dc:=@Rat.le_trans
abbrev df:=@List.size_toArray
abbrev dB:=@or_false
abbrev dC:=@List.getElem?_eq_some_iff
abbrev dU:=@PySem.Heap.get?_push_size
abbrev eu:=@decide_eq_false
abbrev eG:=@Option.some.inj
abbrev eU:=@PyProof.Rows.boot_tuple
abbrev eV:=@Nat.ne_of_lt
abbrev eZ:=@List.length_append
abbrev fb:=@Int.pow_succ
abbrev fc:=@Int.natAbs_mul
abbrev fh:=@Bool.and_eq_true
abbrev fF:=@Nat.lt_of_lt_of_le
abbrev fG:=@Int.le_refl
abbrev fT:=@beq_iff_eq
abbrev fU:=@PySem.PassesOwn.never
abbrev fV:=@Nat.zero_le
abbrev g9:=@List.mem_of_getElem?
abbrev gz:=@PySem.IntMulOk.of_bits
abbrev gA:=@Int.mul_pos
abbrev gH:=@Nat.le_trans
abbrev iS:=@Int.mul_nonneg
abbrev ja:=@of_decide_eq_true
abbrev jb:=@List.lookup_cons
abbrev jc:=@List.all_eq_true
abbrev jd:=@Bool.false_and
abbrev jv:=@PyProof.Rows.boot_list
abbrev jw:=@List.length_cons
abbrev jx:=@Int.one_mul
abbrev jy:=@Bool.true_and
abbrev jz:=@Bool.false_ne_true
abbrev ka:=@PySem.wpAny_field
abbrev kb:=@List.mem_map
abbrev kf:=@List.mem_append_right
abbrev kg:=@List.getElem?_eq_none
abbrev kh:=@Int.pow_zero
abbrev kB:=@PySem.wpAny_mono
abbrev kW:=@Nat.mul_le_mul
abbrev m3:=@List.map_append
abbrev m4:=@List.length_take
abbrev m5:=@Int.emod_nonneg
abbrev m6:=@Bool.eq_iff_iff
abbrev ny:=@PySem.wpAny_truthy_bool
abbrev nE:=@Rat.le_refl
abbrev nH:=@PyProof.Rows.boot_str
abbrev nI:=@PyProof.Rows.boot_abs
abbrev nK:=@List.take_succ
abbrev nL:=@List.nodup_cons
abbrev nM:=@List.map_cons
abbrev oT:=@PySem.wpAny_newObj_type
abbrev oU:=@decide_eq_true_iff
abbrev oV:=@Rat.num_divInt_den
abbrev oW:=@PyProof.Rows.boot_all
abbrev oX:=@Nat.pow_le_pow_right
abbrev oY:=@Nat.lt_of_le_of_lt
abbrev oZ:=@List.ext_getElem?
abbrev p4:=@Int.emod_lt_of_pos
abbrev p5:=@PySem.Heap.size_push
abbrev qV:=@PySem.wpAny_seqItems
abbrev qW:=@List.length_set
abbrev qX:=@List.getElem_range
abbrev qZ:=@List.any_cons
abbrev r8:=@Int.mul_assoc
abbrev uq:=@PySem.wpAny_passesOwn
abbrev ur:=@Rat.divInt_nonneg_iff_of_pos_right
abbrev uu:=@PyProof.Rows.callWith_type1
abbrev uv:=@List.take_length
abbrev uw:=@List.mem_iff_getElem?
abbrev ux:=@List.mem_cons_of_mem
abbrev uy:=@List.getElem?_zip_eq_some
abbrev uz:=@List.getElem?_append_left
abbrev uA:=@Bool.eq_false_iff
abbrev xk:=@PySem.wpAny_setField_rec
abbrev xn:=@PySem.wpAny_of_eq
abbrev xo:=@PySem.call_meets
abbrev xp:=@Rat.not_lt
abbrev xq:=@Nat.lt_irrefl
abbrev xt:=@List.mem_append
abbrev xu:=@List.map_set
abbrev xx:=@List.getElem?_append_right
abbrev xy:=@List.find?_cons
abbrev xA:=@Int.zero_mul
abbrev A7:=@PySem.wpAny_pyIter_list
abbrev A8:=@PySem.wpAny_call_entry
abbrev A9:=@PySem.wpAny_callSpecial?_slot
abbrev Aa:=@beq_eq_false_iff_ne
abbrev Ab:=@Rat.lt_iff
abbrev Ac:=@Rat.le_antisymm
abbrev Ae:=@PySem.mem_of_lookup
abbrev Af:=@PySem.W.mg_of
abbrev Ag:=@PySem.F.plainAttrs_list
abbrev Ah:=@PyProof.Rows.boot_max
abbrev Ai:=@List.of_mem_zip
abbrev Aj:=@List.mem_of_mem_take
abbrev Ak:=@List.length_replicate
abbrev Al:=@List.length_eq_zero_iff
abbrev Am:=@List.getElem?_zipWith
abbrev An:=@Int.mul_le_mul
abbrev G0:=@PySem.wpAny_pyIter_rangeiter
abbrev G1:=@PySem.wpAny_execs_nil
abbrev G2:=@PySem.wpAny_Call_Name_kw
abbrev G3:=@decide_eq_true_eq
abbrev G4:=@Std.lt_of_le_of_ne
abbrev G5:=@Rat.num_nonneg
abbrev G6:=@Rat.num_intCast
abbrev G7:=@Rat.le_of_lt
abbrev G8:=@Rat.den_intCast
abbrev G9:=@PySem.F.slot_zip_next
abbrev Ga:=@PySem.F.slot_tuple_iterator_next
abbrev Gb:=@PyProof.Rows.boot_int
abbrev Gd:=@Nat.sub_self
abbrev Ge:=@Nat.ne_of_gt
abbrev Gf:=@Nat.lt_trans
abbrev Gg:=@Nat.lt_succ_of_lt
abbrev Gh:=@Nat.lt_succ_iff_lt_or_eq
abbrev Gi:=@List.take_of_length_le
abbrev Gj:=@List.mem_cons_self
abbrev Gk:=@List.length_pos_iff
abbrev Gm:=@List.length_nil
abbrev Gn:=@List.length_drop
abbrev Gp:=@List.getElem?_set_self
abbrev Gq:=@List.forIn_cons
abbrev Gr:=@List.append_nil
abbrev Gs:=@Int.mul_ne_zero
abbrev Gu:=@Int.mul_comm
abbrev Gv:=@Int.lt_or_le
abbrev Gw:=@Int.le_of_lt
abbrev Gx:=@Array.length_toList
abbrev QM:=@PySem.wpAny_updateSeq_pair
abbrev QN:=@PySem.wpAny_pyNext_range_end
abbrev QO:=@beq_self_eq_true
abbrev QP:=@PySem.SeqAt.canLay_of_shaped
abbrev QQ:=@Rat.intCast_lt_intCast
abbrev QR:=@Rat.divInt_sub_divInt
abbrev QS:=@Rat.divInt_mul_divInt
abbrev QT:=@PySem.W.plainGet_of
abbrev QU:=@PySem.W.callWith_K
abbrev QV:=@PyProof.Rows.slot_tuple_getitem
abbrev QW:=@PyProof.Rows.boot_min
abbrev QX:=@PyProof.Rows.boot_any
abbrev QY:=@Nat.lt_succ_self
abbrev QZ:=@List.mem_iff_getElem
abbrev Ra:=@List.getElem_mem
abbrev Rb:=@List.getElem?_set_ne
abbrev Rf:=@List.getElem?_replicate
abbrev Rg:=@List.filterMap_cons
abbrev Rh:=@Int.toNat_natCast
abbrev Ri:=@Int.mul_nonneg_of_nonpos_of_nonpos
abbrev Rj:=@Int.mul_le_mul_of_nonneg_right
abbrev Rk:=@Int.mul_le_mul_of_nonneg_left
abbrev Rm:=@Int.lt_trichotomy
abbrev Ro:=@Int.fdiv_eq_ediv_of_nonneg
abbrev Rp:=@PySem.F.slot_range_reversed
abbrev a4g:=@PySem.F.entry_tuple_iterator_next
abbrev a4h:=@PySem.F.args_tuple_iterator_next_1
abbrev a5w:=PySem.W.Frag
abbrev a5x:=PySem.Shared
abbrev a5y:=PySem.Program
abbrev a5z:=PySem.PyData
abbrev a5A:=PySem.Around
namespace L2
open PySem PySem.Spec PyProof.Rows
abbrev Key:=Sum Int Str
def tf:Key->Value->Bool | .inl k,v=>Value.isInt k v | .inr x,v=>Value.isStrOf x v
def Z2(w:World):Key->Int | .inl k=>hashInt k | .inr x=>hashStr w x
theorem mE:∀{k:Key}{v:Value},tf k v=true->(∃i t,k=Sum.inl i/\v=Value.int i t)\/(∃x t,k=Sum.inr x/\v=Value.str x t) | .inl i,v,h=>by obtain⟨t,e⟩:=Value.isInt_shape (k:=i) (v:=v) h;exact .inl ⟨i,t,rfl,e⟩ | .inr x,v,h=>by obtain⟨t,e⟩:=Value.isStrOf_shape (x:=x) (v:=v) h;exact .inr ⟨x,t,rfl,e⟩
theorem YZ(i:Int)(t:Tok):tf (.inl i) (.int i t)=true:=by simp[tf,Value.isInt]
theorem YY(x:Str)(t:Tok):tf (.inr x) (.str x t)=true:=by simp[tf,Value.isStrOf]
theorem YX(a b:Int):decide ((Sum.inl a:Key)=Sum.inl b)=(a==b):=by
 by_cases e:a=b
 ·subst e;simp
 · have h:¬(Sum.inl a:Key)=Sum.inl b:=fun q=>e (Sum.inl.inj q)
   rw[eu h];exact(Aa.mpr e).symm
theorem YU(a b:Str):decide ((Sum.inr a:Key)=Sum.inr b)=decide (a=b):=by
 by_cases e:a=b
 ·subst e;simp
 · have h:¬(Sum.inr a:Key)=Sum.inr b:=fun q=>e (Sum.inr.inj q)
   rw[eu h,eu e]
theorem YW(a:Int)(b:Str):decide ((Sum.inl a:Key)=Sum.inr b)=false:=eu (fun q=>nomatch q)
theorem YV(a:Str)(b:Int):decide ((Sum.inr a:Key)=Sum.inl b)=false:=eu (fun q=>nomatch q)
def iJ(prog:a5y)(w:World):PySem.KeyKind prog w Key where
 is:=tf
 hash:=Z2 w
 inj:=fun v a b ha hb=>by
  rcases mE ha with⟨i,t,rfl,rfl⟩|⟨x,t,rfl,rfl⟩
  · rcases mE hb with⟨j,u,rfl,e⟩|⟨y,u,rfl,e⟩
    ·injection e with e1 _;rw[e1]
    ·exact nomatch e
  · rcases mE hb with⟨j,u,rfl,e⟩|⟨y,u,rfl,e⟩
    ·exact nomatch e
    ·injection e with e1 _;rw[e1]
 byValue:=fun k v h=>by rcases mE h with⟨i,t,rfl,rfl⟩|⟨x,t,rfl,rfl⟩<;>rfl
 pyHash:=fun hv h=>by
  rcases mE hv with⟨i,t,rfl,rfl⟩|⟨x,t,rfl,rfl⟩
  ·exact wpAny_pyHash_int h
  ·exact wpAny_pyHash_str h
 eqBool:=fun hu hv h=>by
  rcases mE hu with⟨i,t,rfl,rfl⟩|⟨x,t,rfl,rfl⟩
  · rcases mE hv with⟨j,u,rfl,rfl⟩|⟨y,u,rfl,rfl⟩
    ·rw[YX]at h;exact wpAny_eqBool_int h
    ·rw[YW]at h;exact SeqAt.EqAt.int_str i t y u _ _ _ _ h
  · rcases mE hv with⟨j,u,rfl,rfl⟩|⟨y,u,rfl,rfl⟩
    ·rw[YV]at h;exact SeqAt.EqAt.str_int x t j u _ _ _ _ h
    ·rw[YU]at h;exact wpAny_eqBool_str h
 «strs»:=fun k x t v h=>by
  rcases mE h with⟨i,u,rfl,e⟩|⟨y,u,rfl,e⟩
  ·exact nomatch e
  · injection e with e1 _
    subst e1;cases v<;>rfl
theorem Yo(prog:a5y)(w:World)(i:Int)(t:Tok):(iJ prog w).is (.inl i) (.int i t)=true:=YZ i t
theorem Yn(prog:a5y)(w:World)(x:Str)(t:Tok):(iJ prog w).is (.inr x) (.str x t)=true:=YY x t
inductive V where |aW|bl (b:Bool)|int (i:Int)|str (x:Str)|ub (b:Array UInt8)|zy (b:UInt64)|ref (a:Addr)|ty (n:String) deriving DecidableEq
def RelV:V->Value->Prop | .aW,u=>u=Value.none | .bl b,u=>u=Value.bool b | .int i,u=>∃t,u=Value.int i t | .str x,u=>∃t,u=Value.str x t | .ub b,u=>∃t,u=Value.bytes b t | .zy b,u=>∃t,u=Value.float b t | .ref a,u=>u=Value.ref a | .ty n,u=>u=Value.type n
abbrev Vals:List V->List Value->Prop:=Paired RelV
theorem Vals.length{xs:List V}{us:List Value}(r:Vals xs us):xs.length=us.length:=Paired.length r
theorem Vals.get:∀{xs:List V}{us:List Value}{i:Nat}{x:V},Vals xs us->xs[i]? =some x->∃u,us[i]? =some u/\RelV x u |_,_,_,_,.nil,e=>by simp at e |_,_,0,_,.cons r _,e=>by simp at e;subst e;exact⟨_,rfl,r⟩ |_,_,i+1,x,.cons _ t,e=>by obtain⟨u,h1,h2⟩:=Vals.get (i:=i) (x:=x) t (by simpa using e);exact⟨u,by simpa using h1,h2⟩
theorem Vals.set{x:V}{u:Value}(r:RelV x u):∀{xs:List V}{us:List Value}(i:Nat),Vals xs us->Vals (xs.set i x) (us.set i u) |_,_,_,.nil=>.nil |_,_,0,.cons _ t=>.cons r t |_,_,i+1,.cons q t=>.cons q (Vals.set r i t)
theorem Vals.append:∀{xs ys:List V}{us ws:List Value},Vals xs us->Vals ys ws->Vals (xs++ys) (us++ws) |_,_,_,_,.nil,s=>s |_,_,_,_,.cons r t,s=>.cons r (Vals.append t s)
theorem Vals.take:∀{xs:List V}{us:List Value}(n:Nat),Vals xs us->Vals (xs.take n) (us.take n) |_,_,0,_=>.nil |_,_,_+1,.nil=>.nil |_,_,n+1,.cons r t=>.cons r (Vals.take n t)
theorem Vals.drop:∀{xs:List V}{us:List Value}(n:Nat),Vals xs us->Vals (xs.drop n) (us.drop n) |_,_,0,r=>r |_,_,_+1,.nil=>.nil |_,_,n+1,.cons _ t=>Vals.drop n t
def iP:Option V->Option Value->Prop |some v,some u=>RelV v u |none,none=>True |_,_=>False
def KV{κ:Type}:List (κ×V)->List (κ×Value)->Prop:=Paired fun(p:κ×V)(q:κ×Value)=>p.1=q.1/\RelV p.2 q.2
def kV:Key->V | .inl i=>.int i | .inr x=>.str x
inductive HO where /--a list -/ |lst (xs:List V) /--a tuple (never changes) -/ |tup (xs:List V) /--a dict RF keys are ints and texts; one RF keys are tuples of ints and texts (rC empty one is both) -/ |dK (aA:List (Key×V))|dT (aA:List (List Key×V)) /--a set of ints: its members,its size -/ |set (S:Int->Bool)(n:Nat) /--an instance of rC class at C,its dict at dx,its attributes -/ |ins (C dx:Addr)(fs:List (Str×V)) /--rC dict of rC instance at x -/ |own (x:Addr) /--rC dict of an exception -/ |xd (fs:List (Str×V)) /--a bound method,f of x -/ |met (f x:Addr) /--a range object lo,lo+1,.. below hi -/ |rV (lo hi:Int) /--a Sf a4o is known to rC object (rC IC; a dict while a loop walks it): read,never written while it is so -/ |lR (o:Obj)(u:HO) /--a code a4B table -/ |nR (ps:Array Value) /--any other Sf,by what is true of its one object (a def of a4A own: a5r a S n:=HO.ext fun h=>..) -/ |ext (φ:Heap->Prop)
abbrev Hp:=Addr->Option HO
def upd(H:Hp)(a:Addr)(o:HO):Hp:=fun b=>if b=a then some o else H b
theorem aO{H:Hp}{a:Addr}{o:HO}:upd H a o a=some o:=by unfold upd;rw[aP rfl]
theorem az{H:Hp}{a b:Addr}{o:HO}(h:b≠a):upd H a o b=H b:=by unfold upd;rw[aV h]
theorem vI{H:Hp}{a b:Addr}{o u:HO}(h:H a=some o)(h':H b=some u)(d:o≠u):a≠b:=by intro e;subst e;rw[h]at h';exact d (eG h')
theorem fw{H:Hp}{a b:Addr}{o:HO}(h:H a=some o)(h':H b=none):a≠b:=by intro e;subst e;rw[h]at h';cases h'
section
variable (P:a5y) (w:World)
def fN(H:Hp)(h:Heap)(a:Addr):HO->Prop | .lst xs=>xs.length<=sizeLine/\∃(its:List Value)(n:Nat),Vals xs its/\h.get? a=some {cls:=.type "list",data:=.seq its.toArray n} | .tup xs=>xs.length<=sizeLine/\∃its:List Value,Vals xs its/\IsTup h a its.toArray | .dK aA=>aA.length<=sizeLine/\(a==sysModules)=false/\∃vs,KV aA vs/\h.DictOf (iJ P w) a vs | .dT aA=>aA.length<=sizeLine/\(a==sysModules)=false/\∃xs:List (List Key×Addr×Value),Paired (fun(p:List Key×V)(q:List Key×Addr×Value)=>p.1=q.1/\H q.2.1=some (.tup (p.1.map kV))/\RelV p.2 q.2.2) aA xs/\∃o es ep,h.get? a=some o/\o.ExactDict/\o.data= .dict es ep/\es.toList=xs.map (entryOfKey (tupleKind (iJ P w)))/\(xs.map (·.1)).Nodup | .set S n=>h.SetOf (intKind P w) a S n | .ins C dx fs=>H dx=some (.own a)/\fs.length<=1000/\dx≠a/\h.get? a=some (PySem.W.instObj C dx)/\∃mA,h.Ns1 dx mA/\(∀f,iP (fs.lookup f) (mA f))/\PySem.Within mA (fs.map (·.1)) | .own _=>∃o,h.get? a=some o | .xd fs=>∃mA,h.Ns1 a mA/\∀f,iP (fs.lookup f) (mA f) | .rV lo hi=>∃t u v,h.get? a=some {cls:=.type "range",data:=.fields #[.int lo t,.int hi u,.int 1 v]} | .lR o u=>h.get? a=some o/\fN H h a u | .nR ps=>h.get? a=some {cls:=.none,data:=.fields ps} | .met f x=>h.get? a=some (PySem.W.methodObj (.ref f) (.ref x)) | .ext φ=>φ h/\(∃o,h.get? a=some o)/\∀h1 h2:Heap,φ h1->(∀o,h1.get? a=some o->h2.get? a=some o)->φ h2
def du(H:Hp)(h:Heap):Prop:=∀a o,H a=some o->fN P w H h a o
end
section
variable {P:a5y}{w:World}{H H':Hp}{h h':Heap}{a:Addr}{o:HO}
theorem fN.lt(x:fN P w H h a o):a<h.objs.size:=by cases o with |lst xs=>obtain⟨_,_,_,_,e⟩:=x;exact ck e |tup xs=>obtain⟨_,_,_,p⟩:=x;exact p.lt |dK aA=>obtain⟨_,_,_,_,o,_,_,e,_⟩:=x;exact ck e |dT aA=>obtain⟨_,_,_,_,o,_,_,e,_⟩:=x;exact ck e |set S n=>obtain⟨o,_,_,_,e,_⟩:=x;exact ck e |ins C dx fs=>obtain⟨_,_,_,e,_⟩:=x;exact ck e |own y=>obtain⟨_,e⟩:=x;exact ck e |xd fs=>obtain⟨_,⟨_,_,_,e,_⟩,_⟩:=x;exact ck e |rV lo hi=>obtain⟨_,_,_,e⟩:=x;exact ck e |lR ob u=>obtain⟨e,_⟩:=x;exact ck e |nR ps=>exact ck (show h.get? a=some _ from x) |met f y=>exact ck (show h.get? a=some _ from x) |ext φ=>obtain⟨_,⟨_,e⟩,_⟩:=x;exact ck e
theorem Paired.DI{α β:Type}{F G:α->β->Prop}:∀{l₁:List α}{l₂:List β},Paired F l₁ l₂->(∀a b,F a b->G a b)->Paired G l₁ l₂ |_,_,.nil,_=>.nil |_,_,.cons r t,f=>.cons (f _ _ r) (Paired.DI t f)
theorem fN.pE(x:fN P w H h a o)(k:∀b u,(b=a\/H b=some (.own a))->h.get? b=some u->h'.get? b=some u) (ho:∀b,H b=some (.own a)->H' b=some (.own a))(ht:∀b xs,H b=some (.tup xs)->H' b=some (.tup xs)):fN P w H' h' a o:=by induction o with |lst xs=>obtain⟨z,its,n,r,e⟩:=x;exact⟨z,its,n,r,k _ _ (.inl rfl) e⟩ |tup xs=>obtain⟨z,its,r,ob,e,c⟩:=x;exact⟨z,its,r,ob,k _ _ (.inl rfl) e,c⟩ |dK aA=>obtain⟨z,y,vs,r,ob,es,ep,e,c⟩:=x;exact⟨z,y,vs,r,ob,es,ep,k _ _ (.inl rfl) e,c⟩ |dT aA=>obtain⟨z,y,xs,r,ob,es,ep,e,c⟩:=x;exact⟨z,y,xs,Paired.DI r fun p q z=>⟨z.1,ht _ _ z.2.1,z.2.2⟩,ob,es,ep,k _ _ (.inl rfl) e,c⟩ |set S n=>obtain⟨ob,es,ep,t,e,c⟩:=x;exact⟨ob,es,ep,t,k _ _ (.inl rfl) e,c⟩ |ins C dx fs=>obtain⟨d,z,ne,e,mA,⟨od,es,ep,e2,c⟩,r⟩:=x;exact⟨ho _ d,z,ne,k _ _ (.inl rfl) e,mA,⟨od,es,ep,k _ _ (.inr d) e2,c⟩,r⟩ |own y=>obtain⟨ob,e⟩:=x;exact⟨ob,k _ _ (.inl rfl) e⟩ |xd fs=>obtain⟨mA,⟨od,es,ep,e,c⟩,r⟩:=x;exact⟨mA,⟨od,es,ep,k _ _ (.inl rfl) e,c⟩,r⟩ |rV lo hi=>obtain⟨t,u,v,e⟩:=x;exact⟨t,u,v,k _ _ (.inl rfl) e⟩ |lR ob u ih=>obtain⟨e,q⟩:=x;exact⟨k _ _ (.inl rfl) e,ih q⟩ |nR ps=>have e:h.get? a=some {cls:=.none,data:=.fields ps}:=x;show h'.get? a=some {cls:=.none,data:=.fields ps};exact k a _ (.inl rfl) e |met f y=>have e:h.get? a=some (PySem.W.methodObj (.ref f) (.ref y)):=x;show h'.get? a=some (PySem.W.methodObj (.ref f) (.ref y));exact k a _ (.inl rfl) e |ext φ=>obtain⟨p,⟨o,e⟩,st⟩:=x;exact⟨st _ _ p fun o q=>k _ _ (.inl rfl) q,⟨o,k _ _ (.inl rfl) e⟩,st⟩
theorem du.lt(x:du P w H h)(e:H a=some o):a<h.objs.size:=(x a o e).lt
theorem du.fresh(x:du P w H h)(e:h.objs.size<=a):H a=none:=by cases q:H a with |none=>rfl |some u=>exact absurd (fF (x.lt q) e) (xq _)
theorem du.kept(x:du P w H h)(k:∀b u,h.get? b=some u->h'.get? b=some u):du P w H h':=fun a o e=>(x a o e).pE (fun b u _ q=>k b u q) (fun _ q=>q) fun _ _ q=>q
theorem du.laid(x:du P w H h)(k:∀b u,h.get? b=some u->h'.get? b=some u)(hp:h.objs.size<=a)(new:fN P w (upd H a o) h' a o):du P w (upd H a o) h':=fun b u e=>by
 have hn:=x.fresh hp;by_cases hb:b=a
 ·subst hb;rw[aO]at e;cases e;exact new
 · rw[az hb]at e
   exact(x b u e).pE (fun c v _ q=>k c v q) (fun c q=>by rw[az (fw q hn)];exact q) fun c xs q=>by rw[az (fw q hn)];exact q
end
def Rd(H:Hp)(a:Addr)(u:HO):Prop:=H a=some u\/∃o,H a=some (.lR o u)
theorem Rd.ok{P:a5y}{w:World}{H:Hp}{h:Heap}{a:Addr}{u:HO}(r:Rd H a u)(x:du P w H h):fN P w H h a u:=by
 rcases r with r|⟨o,r⟩
 ·exact x a u r
 · obtain⟨_,q⟩:=x a _ r
   exact q
def xc:Option HO->Prop |some (.lst _)=>True |some (.dK _)=>True |some (.dT _)=>True |some (.set _ _)=>True |some (.ins _ _ _)=>True |some (.ext _)=>True |_=>False
section
variable {P:a5y}{w:World}{H:Hp}{h h':Heap}{x e:Addr}{o':HO}
theorem du.write(ok:du P w H h)(mu:xc (H x))(he:e=x\/H e=some (.own x))(k:∀b u,b≠e->h.get? b=some u->h'.get? b=some u)(tK:∃u,h'.get? e=some u) (new:fN P w (upd H x o') h' x o'):du P w (upd H x o') h':=fun b u q=>by
  have KW:∀c y,H c=some (.own y)->c≠x:=fun c y r z=>by subst z;rw[r]at mu;exact mu
  have XR:∀c xs,H c=some (.tup xs)->c≠x:=fun c xs r z=>by subst z;rw[r]at mu;exact mu
  by_cases hb:b=x
  ·subst hb;rw[aO]at q;cases q;exact new
  · rw[az hb]at q
    by_cases qA:b=e
    · have q':H b=some (.own x):=by
        rcases he with z|z
        ·exact absurd (qA.trans z) hb
        ·rw[qA];exact z
      rw[q]at q';cases q';obtain⟨v,hv⟩:=tK;exact⟨v,by rw[qA];exact hv⟩
    · refine(ok b u q).pE (fun c v hc r=>k c v ?_ r) (fun c r=>by rw[az (KW c b r)];exact r) fun c xs r=>by rw[az (XR c xs r)];exact r
      rcases hc with rfl|hc
      ·exact qA
      · rintro rfl
        rcases he with z|z
        ·exact KW c b hc z
        ·rw[hc]at z;cases z;exact hb rfl
end
structure Un(fs ex:List Addr)(H H':Hp)(h h':Heap):Prop where
 keep:∀b o,h.get? b=some o->H b=none->b∉fs->b∉ex->h'.get? b=some o
 slot:∀b o,h.get? b=some o->H b=none->b∈fs->b∉ex->∃sl,h'.get? b=some {o with slots:=sl}
 free:∀b o,h.get? b=some o->H b=none->b∉ex->H' b=none
 there:∀b o,h.get? b=some o->b∉ex->∃o',h'.get? b=some o'
 tups:∀b xs,H b=some (.tup xs)->H' b=some (.tup xs)
 frzs:∀b o u,H b=some (.lR o u)->H' b=some (.lR o u)
 tbls:∀b ps,H b=some (.nR ps)->∃more,H' b=some (.nR (ps++more))
section
variable {fs lQ ex mV:List Addr}{H H1 H2:Hp}{h h1 h2 h':Heap}{a x e:Addr}{o:HO}
theorem Un.any(u:Un fs ex H H1 h h1){b:Addr}{ob:Obj}(q:h.get? b=some ob)(n:H b=none)(hx:b∉ex):∃sl,h1.get? b=some {ob with slots:=sl}:=by
 by_cases hb:b∈fs
 ·exact u.slot b ob q n hb hx
 ·exact⟨ob.slots,u.keep b ob q n hb hx⟩
theorem Un.kept(k:∀b u,h.get? b=some u->h'.get? b=some u):Un fs ex H H h h':=⟨fun b ob q _ _ _=>k b ob q,fun b ob q _ _ _=>⟨ob.slots,k b ob q⟩,fun _ _ _ n _=>n,fun b ob q _=>⟨ob,k b ob q⟩,fun _ _ q=>q,fun _ _ _ q=>q,fun _ ps q=>⟨#[],by rw[q];simp⟩⟩
theorem Un.refl:Un fs ex H H h h:=Un.kept fun _ _ q=>q
theorem Un.laid(k:∀b u,h.get? b=some u->h'.get? b=some u)(hp:h.objs.size<=a)(hn:H a=none):Un fs ex H (upd H a o) h h' where
 keep:=fun b u q _ _ _=>k b u q
 slot:=fun b u q _ _ _=>⟨u.slots,k b u q⟩
 free:=fun b u q n _=>by rw[az (eV (fF (ck q) hp))];exact n
 there:=fun b u q _=>⟨u,k b u q⟩
 tups:=fun b xs q=>by rw[az (fw q hn)];exact q
 frzs:=fun b u xs q=>by rw[az (fw q hn)];exact q
 tbls:=fun b ps q=>⟨#[],by rw[az (fw q hn),q];simp⟩
theorem Un.write(mu:xc (H x))(he:e=x\/H e=some (.own x))(k:∀b u,b≠e->h.get? b=some u->h'.get? b=some u)(tK:∃u,h'.get? e=some u):Un fs ex H (upd H x o) h h':=by
 have hx:∀b,H b=none->b≠x:=fun b n z=>by subst z;rw[n]at mu;exact mu
 have hb:∀b,H b=none->b≠e:=fun b n z=>by
  subst z;rcases he with r|r
  ·exact hx b n r
  ·rw[n]at r;cases r
 have hm:∀b u,H b=some u->¬xc (some u)->b≠x:=fun b u q nm z=>by subst z;rw[q]at mu;exact nm mu
 refine⟨fun b u q n _ _=>k b u (hb b n) q,fun b u q n _ _=>⟨u.slots,k b u (hb b n) q⟩,fun b u q n _=>by rw[az (hx b n)];exact n,fun b u q _=>?_,fun b xs q=>by rw[az (hm b _ q fun z=>z)];exact q,fun b u xs q=>by rw[az (hm b _ q fun z=>z)];exact q,fun b ps q=>⟨#[],by rw[az (hm b _ q fun z=>z),q];simp⟩⟩;by_cases qA:b=e
 ·subst qA;exact tK
 ·exact⟨u,k b u qA q⟩
end
def xP(h:Heap)(H:Hp):List Addr:=(List.range h.objs.size).filter fun a=>(H a).isSome
def mN(h:Heap)(H:Hp):Heap:=PySem.W.hideAll h (xP h H)
theorem a0v(h:Heap)(H:Hp):(mN h H).objs.size=h.objs.size:=PySem.W.hideAll_size _ _
theorem a0w{h:Heap}{H:Hp}{b:Addr}{o:Obj}(e:h.get? b=some o)(n:H b=none):(mN h H).get? b=some o:=PySem.W.hideAll_get _ e fun hm=>by have q:(H b).isSome=true:=(List.mem_filter.mp hm).2;rw[n]at q;simp at q
theorem XM{h:Heap}{H:Hp}{b:Addr}{o:Obj}(e:(mN h H).get? b=some o):h.get? b=some o/\H b=none:=by have e':h.get? b=some o:=PySem.W.of_hideAll (xP h H) e;refine⟨e',?_⟩;cases q:H b with |none=>rfl |some x=>have hm:b∈xP h H:=List.mem_filter.mpr ⟨List.mem_range.mpr (ck e'),by simp[q]⟩;have z:(mN h H).get? b=none:=PySem.W.hideAll_none (xP h H) hm;rw[z]at e;cases e
structure Mod(K:a5w)(mg:Str->Option Value)(base:Heap):Prop where
 kin:K.In base
 glob:base.Ns mainGlobals mg
 blt:∃mb,base.Ns builtinsNs mb/\∀x:Str,x≠"__name__"->mb x=bootBuiltins x
 nolimit:base.NoLimit
structure Cx where
 prog:a5y
 w:World
 K:a5w
 mg:Str->Option Value
 base:Heap
 A:a5A
 N:List Str
 s₀:a5x
 H₀:Hp
 env:Env
 outer:List Env
 stack:List Env
 ex:List Addr
 fn:Str->Bool
 calm:Bool
 pn:List (Addr×Obj)
 xe:Value->a5x->Prop
def jq(l:List Env):List Addr:=l.filterMap (·.frame)
abbrev Cx.fs(X:Cx):List Addr:=jq X.outer
def FJ(sc:Scope)(x:Str):Prop:=sc.names.lookup x=some .local\/sc.names.lookup x=some .cell\/sc.names.lookup x=some .free
def Loc(sc:Scope)(x:Str):Prop:=sc.names.lookup x=some .local\/sc.names.lookup x=some .cell
def Look(env:Env)(h:Heap)(m:Str->Option Value)(x:Str)(u:Value):Prop:=(env.kindOf x=some .local/\m x=some u)\/((env.kindOf x=some .cell\/env.kindOf x=some .free)/\∃c,env.cells.lookup x=some c/\h.IsCell c (some u))
structure Cx.Ok(X:Cx):Prop where
 mod:Mod X.K X.mg X.base
 kind:X.env.scope.kind= .function
 glob:X.env.globals=mainGlobals
 blt:X.env.builtins=builtinsNs
 above:X.s₀.heap.objs.size<=X.env.locals
 inj:∀x y c,X.env.cells.lookup x=some c->X.env.cells.lookup y=some c->x=y
 has:∀x,(X.env.kindOf x=some .cell\/X.env.kindOf x=some .free)->∃c,X.env.cells.lookup x=some c
 cab:∀x c,X.fn x=true->X.env.cells.lookup x=some c->X.s₀.heap.objs.size<=c
 hd:X.calm=true->X.A.handled=none
 frames:X.A.frames=some X.stack
 stk:X.stack=X.outer\/(X.stack=X.env::X.outer/\X.env.frame=some X.env.locals)
 exf:∀b∈X.ex,b≠X.env.locals/\∀x c,X.env.cells.lookup x=some c->c≠b
 bs:∀b o,X.base.get? b=some o->X.s₀.heap.get? b=some o/\X.H₀ b=none
 bsz:X.base.objs.size<=X.s₀.heap.objs.size
 noex:∀b o,X.base.get? b=some o->b∉X.ex
 exfs:∀b∈X.ex,b∉X.fs
 jU:X.s₀.heap.FunFrames X.base X.outer
 frf:∀b∈X.fs,X.H₀ b=none
structure Inv(X:Cx)(pins:List (Addr×Obj))(σ:List (Option V))(H:Hp)(s:a5x):Prop where
 ok:X.Ok
 os:s.os=X.s₀.os
 bare:AllBare s.gens
 base:Un X.fs X.ex X.H₀ H X.s₀.heap s.heap
 loc:∃m,s.heap.Ns X.env.locals m/\∀(i:Nat)(x:Str)(v:V),X.N[i]? =some x->σ[i]? =some (some v)->FJ X.env.scope x->∃u,RelV v u/\Look X.env s.heap m x u
 cell:∀x c,X.env.cells.lookup x=some c->∃v,s.heap.IsCell c v
 free:H X.env.locals=none
 freeC:∀x c,X.env.cells.lookup x=some c->H c=none
 pin:∀p∈X.pn++pins,s.heap.get? p.1=some p.2/\H p.1=none/\p.1≠X.env.locals/\p.1∉X.fs/\∀v,p.2.data≠ .cell v
 hok:du X.prog X.w H s.heap
 len:σ.length=X.N.length
section
variable {X:Cx}{pins:List (Addr×Obj)}{σ:List (Option V)}{H H':Hp}{s:a5x}{h':Heap}
theorem Cx.Ok.Y1(ok:X.Ok){b:Addr}{o:Obj}(e:X.base.get? b=some o):b∉X.fs:=fun hb=>by have:=(ok.jU.mem hb).1;rw[e]at this;cases this
theorem Inv.bs(I:Inv X pins σ H s):∀b o,X.base.get? b=some o->s.heap.get? b=some o/\H b=none:=fun b o e=>⟨I.base.keep b o (I.ok.bs b o e).1 (I.ok.bs b o e).2 (I.ok.Y1 e) (I.ok.noex b o e),I.base.free b o (I.ok.bs b o e).1 (I.ok.bs b o e).2 (I.ok.noex b o e)⟩
theorem Inv.bk(I:Inv X pins σ H s):∀b o,X.base.get? b=some o->s.heap.get? b=some o:=fun b o e=>(I.bs b o e).1
theorem Inv.mod(I:Inv X pins σ H s):Mod X.K X.mg X.base:=I.ok.mod
theorem Inv.iK(I:Inv X pins σ H s):X.K.In s.heap:=I.ok.mod.kin.keeps I.bk
theorem Inv.lt(I:Inv X pins σ H s):X.env.locals<s.heap.objs.size:=let⟨_,hn,_⟩:=I.loc;hn.lt
theorem Inv.sz(I:Inv X pins σ H s):X.s₀.heap.objs.size<=s.heap.objs.size:=gH I.ok.above (Nat.le_of_lt I.lt)
theorem Inv.Y0(I:Inv X pins σ H s){a:Addr}(h:s.heap.objs.size<=a):a∉X.fs:=fun hb=>by obtain⟨_,o,ho,_⟩:=I.ok.jU.mem hb;exact absurd (fF (ck ho) (gH I.sz h)) (xq _)
theorem Inv.lV(I:Inv X pins σ H s):∀x c,X.env.cells.lookup x=some c->c≠X.env.locals:=fun x c e z=>by obtain⟨v,o,ho,hd⟩:=I.cell x c e;obtain⟨m,⟨o',es,ep,kK,tL,_⟩,_⟩:=I.loc;rw[z,kK]at ho;cases ho;rw[tL]at hd;cases hd
theorem Inv.jU(I:Inv X pins σ H s):s.heap.FunFrames X.base X.outer:=by
 have all:∀(l:List Env),(∀b∈jq l,b∈X.fs)->X.s₀.heap.FunFrames X.base l->s.heap.FunFrames X.base l:=by intro l;induction l with |nil=>intro _ _;trivial |cons env r ih=>intro hs hl;obtain⟨hk,⟨L,o,hf,hn,ho,hd⟩,hr⟩:=hl;have hL:L∈X.fs:=hs L (by unfold jq;rw[Rg,hf];exact Gj);obtain⟨sl,e⟩:=I.base.slot L o ho (I.ok.frf L hL) hL fun z=>I.ok.exfs L z hL;exact⟨hk,⟨L,_,hf,hn,e,hd⟩,ih (fun b hb=>hs b (by unfold jq;rw[Rg,hf];exact ux _ hb)) hr⟩
 exact all X.outer (fun _ hb=>hb) I.ok.jU
theorem Inv.stack(I:Inv X pins σ H s):s.heap.FunFrames X.base X.stack:=by
 rcases I.ok.stk with e|⟨e,hf⟩
 ·rw[e];exact I.jU
 · rw[e]
   obtain⟨m,hn,_⟩:=I.loc;refine .cons (by rw[I.ok.kind];decide) hf hn ?_ I.jU;exact Heap.get?_none_of_le (gH I.ok.bsz I.ok.above)
theorem Inv.AH(I:Inv X pins σ H s):∀b∈jq X.stack,b∈X.env.locals::X.fs:=fun b hb=>by
 rcases I.ok.stk with e|⟨e,hf⟩
 ·rw[e]at hb;exact ux _ hb
 · rw[e]at hb
   unfold jq at hb;rw[Rg,hf]at hb;exact hb
theorem Inv.Hn(I:Inv X pins σ H s):∀b∈jq X.stack,H b=none:=fun b hb=>by
 rcases bW.mp (I.AH b hb)with e|hb
 ·rw[e];exact I.free
 · obtain⟨_,o,ho,_⟩:=I.ok.jU.mem hb
   exact I.base.free b o ho (I.ok.frf b hb) fun z=>I.ok.exfs b z hb
theorem Inv.step{g':Array GenState}{t':Nat}{d':Drawn}{ch:List Addr}(I:Inv X pins σ H s) (lP:∀b∈ch,(b∈X.ex\/X.s₀.heap.objs.size<=b)/\b≠X.env.locals/\(∀x c,X.env.cells.lookup x=some c->c≠b)/\∀p∈X.pn++pins,p.1≠b) (keep:∀b o,b≠X.env.locals->b∉X.fs->b∉ch->s.heap.get? b=some o->H b=none->h'.get? b=some o) (slot:∀b o,b≠X.env.locals->b∈X.fs->b∉ch->s.heap.get? b=some o->H b=none->∃sl,h'.get? b=some {o with slots:=sl})(free:∀b o,b∉ch->s.heap.get? b=some o->H b=none->H' b=none) (there:∀b o,b∉ch->s.heap.get? b=some o->∃o',h'.get? b=some o') (tups:∀b xs,H b=some (.tup xs)->H' b=some (.tup xs))(frzs:∀b o u,H b=some (.lR o u)->H' b=some (.lR o u))(tbls:∀b ps,H b=some (.nR ps)->∃more,H' b=some (.nR (ps++more))) (ns:∀m,s.heap.Ns X.env.locals m->h'.Ns X.env.locals m)(hok:du X.prog X.w H' h')(hg:AllBare g'): Inv X pins σ H' {s with heap:=h',gens:=g',drawn:=d',toks:=t'}:=by
  have La:∀b o,X.s₀.heap.get? b=some o->b≠X.env.locals:=fun b o e=>eV (fF (ck e) I.ok.above);have yM:∀b o,X.s₀.heap.get? b=some o->b∉X.ex->b∉ch:=fun b o e hx hb=>by
   rcases(lP b hb).1 with z|z
   ·exact hx z
   ·exact absurd (fF (ck e) z) (xq _)
  have cellK:∀x c,X.env.cells.lookup x=some c->∀v,s.heap.IsCell c v->h'.IsCell c v:=fun x c e v ⟨o,ho,hd⟩=>by
   have vL:c∉ch:=fun z=>(lP c z).2.2.1 x c e rfl;by_cases hc:c∈X.fs
   · obtain⟨sl,q⟩:=slot c o (I.lV x c e) hc vL ho (I.freeC x c e)
     exact⟨_,q,hd⟩
   ·exact⟨o,keep c o (I.lV x c e) hc vL ho (I.freeC x c e),hd⟩
  refine⟨I.ok,I.os,hg,⟨fun b o e n hb hx=>?_,fun b o e n hb hx=>?_,fun b o e n hx=>?_,fun b o e hx=>?_,fun b xs e=>tups b xs (I.base.tups b xs e),fun b o xs e=>frzs b o xs (I.base.frzs b o xs e),fun b ps e=>?_⟩,?_,fun x c e=>?_,?_,fun x c e=>?_,fun p hp=>?_,hok,I.len⟩
  ·exact keep b o (La b o e) hb (yM b o e hx) (I.base.keep b o e n hb hx) (I.base.free b o e n hx)
  · obtain⟨sl,e1⟩:=I.base.slot b o e n hb hx
    obtain⟨Tt,e2⟩:=slot b _ (La b o e) hb (yM b o e hx) e1 (I.base.free b o e n hx);exact⟨Tt,e2⟩
  · obtain⟨o',e1⟩:=I.base.there b o e hx
    exact free b o' (yM b o e hx) e1 (I.base.free b o e n hx)
  · obtain⟨o',e1⟩:=I.base.there b o e hx
    exact there b o' (yM b o e hx) e1
  · obtain⟨m1,e1⟩:=I.base.tbls b ps e
    obtain⟨m2,e2⟩:=tbls b _ e1;exact⟨m1++m2,by rw[e2,Array.append_assoc]⟩
  · obtain⟨m,hn,hl⟩:=I.loc
    refine⟨m,ns m hn,fun i x v e1 e2 e3=>?_⟩;obtain⟨u,r,l⟩:=hl i x v e1 e2 e3;refine⟨u,r,?_⟩;rcases l with l|⟨k,c,e,z⟩
    ·exact .inl l
    ·exact .inr ⟨k,c,e,cellK x c e _ z⟩
  · obtain⟨v,z⟩:=I.cell x c e
    exact⟨v,cellK x c e v z⟩
  · obtain⟨m,⟨o,_,_,ho,_⟩,_⟩:=I.loc
    exact free _ o (fun z=>(lP _ z).2.1 rfl) ho I.free
  · obtain⟨v,o,ho,hd⟩:=I.cell x c e
    exact free c o (fun z=>(lP c z).2.2.1 x c e rfl) ho (I.freeC x c e)
  · obtain⟨e,n,ne,nf,d⟩:=I.pin p hp
    have vL:p.1∉ch:=fun z=>(lP p.1 z).2.2.2 p hp rfl;exact⟨keep p.1 p.2 ne nf vL e n,free p.1 p.2 vL e n,ne,nf,d⟩
theorem Inv.un{t':Nat}(I:Inv X pins σ H s)(u:Un X.fs [] H H' s.heap h')(hok:du X.prog X.w H' h'):Inv X pins σ H' {s with heap:=h',toks:=t'}:=by obtain⟨m,⟨o,es,ep,ho,r⟩,_⟩:=id I.loc;obtain⟨sl,hL⟩:=u.any ho I.free (by simp);exact I.step (g':=s.gens) (d':=s.drawn) (ch:=[]) (fun _ z=>nomatch z) (fun b o _ hb _ e n=>u.keep b o e n hb (by simp)) (fun b o _ hb _ e n=>u.slot b o e n hb (by simp)) (fun b o _ e n=>u.free b o e n (by simp)) (fun b o _ e=>u.there b o e (by simp)) u.tups u.frzs u.tbls (fun m' hm=>by obtain⟨o',j4,F1,kK,r'⟩:=hm;rw[ho]at kK;cases kK;exact⟨_,j4,F1,hL,r'⟩) hok I.bare
theorem Inv.call{g':Array GenState}{t':Nat}{d':Drawn}{ch:List Addr}(I:Inv X pins σ H s)(u:Un (jq X.stack) ch H H' s.heap h')(hok:du X.prog X.w H' h')(hg:AllBare g') (lP:∀b∈ch,(b∈X.ex\/X.s₀.heap.objs.size<=b)/\b≠X.env.locals/\(∀x c,X.env.cells.lookup x=some c->c≠b)/\∀p∈X.pn++pins,p.1≠b): Inv X pins σ H' {s with heap:=h',gens:=g',drawn:=d',toks:=t'}:=by obtain⟨m,⟨o,es,ep,ho,r⟩,_⟩:=id I.loc;obtain⟨sl,hL⟩:=u.any ho I.free fun z=>(lP _ z).2.1 rfl;exact I.step (ch:=ch) lP (fun b o hL hb hc e n=>u.keep b o e n (fun z=>(bW.mp (I.AH b z)).elim hL hb) hc) (fun b o _ _ hc e n=>u.any e n hc) (fun b o hc e n=>u.free b o e n hc) (fun b o hc e=>u.there b o e hc) u.tups u.frzs u.tbls (fun m' hm=>by obtain⟨o',j4,F1,kK,r'⟩:=hm;rw[ho]at kK;cases kK;exact⟨_,j4,F1,hL,r'⟩) hok hg
theorem Inv.turned{t':Nat}{it:Addr}(I:Inv X pins σ H s)(k:∀b o,b≠it->s.heap.get? b=some o->h'.get? b=some o)(hn:H it=none)(hL:it≠X.env.locals) (h1:it∈X.ex\/X.s₀.heap.objs.size<=it)(h2:∀x c,X.env.cells.lookup x=some c->c≠it)(h3:∀p∈X.pn++pins,p.1≠it):Inv X pins σ H {s with heap:=h',toks:=t'}:=by
  have vG:∀b u,H b=some u->b≠it:=fun b u e z=>by rw[z,hn]at e;cases e
  refine I.step (g':=s.gens) (d':=s.drawn) (ch:=[it]) (fun b hb=>?_) (fun b o _ _ hc e _=>k b o (fun z=>hc (by simp[z])) e) (fun b o _ _ hc e _=>⟨o.slots,k b o (fun z=>hc (by simp[z])) e⟩) (fun _ _ _ _ n=>n) (fun b o hc e=>⟨o,k b o (fun z=>hc (by simp[z])) e⟩) (fun _ _ e=>e) (fun _ _ _ e=>e) (fun b ps e=>⟨#[],by rw[e];simp⟩) (fun m hm=>?_) (fun b u e=>?_) I.bare
  · have e:b=it:=by simpa using hb
    subst e;exact⟨h1,hL,h2,h3⟩
  · obtain⟨o,es,ep,ho,r⟩:=hm
    exact⟨o,es,ep,k _ o (cC hL) ho,r⟩
  · refine(I.hok b u e).pE (fun c v hc q=>k c v ?_ q) (fun _ q=>q) fun _ _ q=>q
    rcases hc with z|z
    ·rw[z];exact vG b u e
    ·exact vG c _ z
theorem Inv.tok(I:Inv X pins σ H s)(t:Nat):Inv X pins σ H {s with toks:=t}:=I.un (h':=s.heap) (t':=t) Un.refl I.hok
theorem Inv.kept{t':Nat}(I:Inv X pins σ H s)(k:∀b u,s.heap.get? b=some u->h'.get? b=some u):Inv X pins σ H {s with heap:=h',toks:=t'}:=I.un (Un.kept k) (I.hok.kept k)
theorem Inv.laid{a:Addr}{o:HO}{t':Nat}(I:Inv X pins σ H s)(k:∀b u,s.heap.get? b=some u->h'.get? b=some u)(hp:s.heap.objs.size<=a)(new:fN X.prog X.w (upd H a o) h' a o): Inv X pins σ (upd H a o) {s with heap:=h',toks:=t'}:=I.un (Un.laid k hp (I.hok.fresh hp)) (I.hok.laid k hp new)
theorem Inv.write{x e:Addr}{o:HO}{t':Nat}(I:Inv X pins σ H s)(mu:xc (H x))(he:e=x\/H e=some (.own x))(k:∀b u,b≠e->s.heap.get? b=some u->h'.get? b=some u)(tK:∃u,h'.get? e=some u) (new:fN X.prog X.w (upd H x o) h' x o):Inv X pins σ (upd H x o) {s with heap:=h',toks:=t'}:=I.un (Un.write mu he k tK) (I.hok.write mu he k tK new)
theorem Inv.Kq{Kr:List (Addr×Obj)}(I:Inv X pins σ H s)(h:∀p∈Kr,s.heap.get? p.1=some p.2/\H p.1=none/\p.1≠X.env.locals/\p.1∉X.fs/\∀v,p.2.data≠ .cell v):Inv X Kr σ H s:=⟨I.ok,I.os,I.bare,I.base,I.loc,I.cell,I.free,I.freeC,fun p hp=>(xt.mp hp).elim (fun z=>I.pin p (List.mem_append_left _ z)) (h p),I.hok,I.len⟩
theorem KZ{N:List Str}(hN:N.Nodup){i j:Nat}{x:Str}(a:N[i]? =some x)(b:N[j]? =some x):i=j:=by obtain⟨h1,e1⟩:=dC.mp a;obtain⟨h2,e2⟩:=dC.mp b;exact(List.getElem_inj hN).mp (e1.trans e2.symm)
theorem Hl{M:Model}{A:a5A}{E:Value->a5x->Prop}{i:Nat}{x:Str}{v:V}{u:Value}{Q:Unit->a5x->Prop}(I:Inv X pins σ H s)(hN:X.N.Nodup)(hi:X.N[i]? =some x)(hx:Loc X.env.scope x)(r:RelV v u) (h:∀s',Inv X pins (σ.set i (some v)) H s'->(∃a,Heap.SameBut a s.heap s'.heap/\(a=X.env.locals\/X.env.cells.lookup x=some a))->Q () s')(hf:X.fn x=true\/X.env.scope.names.lookup x=some .local:=by first|exact .inl rfl|exact .inr rfl|assumption):wpAny M A (storeName X.env x u) Q E s:=by
  obtain⟨m,hn,hl⟩:=id I.loc;have a0M:(X.env.scope.kind== .class||(X.env.scope.kind== .module&&X.env.locals !=X.env.globals))=false:=by rw[I.ok.kind];rfl
  have Mi:i<σ.length:=by rw[I.len];exact(dC.mp hi).1
  have lV:=I.lV;have tracked:∀{a:Addr}{h':Heap},(∃o,s.heap.get? a=some o/\H a=none)->Heap.SameBut a s.heap h'->du X.prog X.w H h':=fun{a h'} ha hs b ob e=>by
   obtain⟨_,_,tJ⟩:=ha;refine(I.hok b ob e).pE (fun c w' hc q=>(hs.2 c ?_).trans q) (fun _ q=>q) fun _ _ q=>q;rintro rfl;rcases hc with rfl|hc
   ·rw[tJ]at e;cases e
   ·rw[tJ]at hc;cases hc
  rcases hx with hk|hk
  · refine wpAny_storeName_local hk hn (fun h' hn' hs=>?_) a0M
    obtain⟨oL,_,_,hoL,_⟩:=id hn;refine h _ ⟨I.ok,I.os,I.bare,⟨fun b o e n hb hx=>?_,fun b o e n hb hx=>?_,I.base.free,fun b o e hx=>?_,I.base.tups,I.base.frzs,I.base.tbls⟩,⟨_,hn',fun j y v' e1 e2 e3=>?_⟩,fun y c e=>?_,I.free,I.freeC,fun p hp=>?_,tracked ⟨oL,hoL,I.free⟩ hs,by simpa using I.len⟩ ⟨_,hs,.inl rfl⟩
    ·exact(hs.2 b (eV (fF (ck e) I.ok.above))).trans (I.base.keep b o e n hb hx)
    · obtain⟨sl,e1⟩:=I.base.slot b o e n hb hx
      exact⟨sl,(hs.2 b (eV (fF (ck e) I.ok.above))).trans e1⟩
    · obtain⟨o',e1⟩:=I.base.there b o e hx
      exact⟨o',(hs.2 b (eV (fF (ck e) I.ok.above))).trans e1⟩
    · by_cases hj:j=i
      · subst hj
        rw[hi]at e1;cases e1;rw[Gp Mi]at e2;cases e2;exact⟨u,r,.inl ⟨hk,by simp⟩⟩
      · rw[Rb (cC hj)]at e2
        obtain⟨u',r',q⟩:=hl j y v' e1 e2 e3;refine⟨u',r',?_⟩;rcases q with⟨k,e⟩|⟨k,c,e,z⟩
        · refine .inl ⟨k,?_⟩
          have:y≠x:=fun e=>hj (KZ hN e1 (e▸hi));simp[this,e]
        ·exact .inr ⟨k,c,e,z.sameBut hs (lV y c e)⟩
    · obtain⟨w',z⟩:=I.cell y c e
      exact⟨w',z.sameBut hs (lV y c e)⟩
    · obtain⟨e,n,ne,nf,d⟩:=I.pin p hp
      exact⟨(hs.2 p.1 ne).trans e,n,ne,nf,d⟩
  · have Eo:X.fn x=true:=by
      rcases hf with z|z
      ·exact z
      ·rw[z]at hk;cases hk
    obtain⟨c,hc⟩:=I.ok.has x (.inl hk);obtain⟨w',z⟩:=I.cell x c hc;refine wpAny_storeName_cell I.ok.kind hk hc z (fun h' kL hs=>?_);obtain⟨oc,Mf,a05⟩:=id z;refine h {s with heap:=h'} ⟨I.ok,I.os,I.bare,⟨fun b o e n hb hx=>?_,fun b o e n hb hx=>?_,I.base.free,fun b o e hx=>?_,I.base.tups,I.base.frzs,I.base.tbls⟩,⟨m,hn.sameBut hs (cC (lV x c hc)),fun j y v' e1 e2 e3=>?_⟩,fun y c' e=>?_,I.free,I.freeC,fun p hp=>?_,tracked ⟨oc,Mf,I.freeC x c hc⟩ hs,by simpa using I.len⟩ ⟨c,hs,.inr hc⟩
    ·exact(hs.2 b (eV (fF (ck e) (I.ok.cab x c Eo hc)))).trans (I.base.keep b o e n hb hx)
    · obtain⟨sl,e1⟩:=I.base.slot b o e n hb hx
      exact⟨sl,(hs.2 b (eV (fF (ck e) (I.ok.cab x c Eo hc)))).trans e1⟩
    · obtain⟨o',e1⟩:=I.base.there b o e hx
      exact⟨o',(hs.2 b (eV (fF (ck e) (I.ok.cab x c Eo hc)))).trans e1⟩
    · by_cases hj:j=i
      · subst hj
        rw[hi]at e1;cases e1;rw[Gp Mi]at e2;cases e2;exact⟨u,r,.inr ⟨.inl hk,c,hc,kL⟩⟩
      · rw[Rb (cC hj)]at e2
        obtain⟨u',r',q⟩:=hl j y v' e1 e2 e3;refine⟨u',r',?_⟩;rcases q with q|⟨k,c',e,z'⟩
        ·exact .inl q
        · refine .inr ⟨k,c',e,z'.sameBut hs ?_⟩
          rintro rfl;exact hj (KZ hN e1 (I.ok.inj _ _ _ e hc▸hi))
    · by_cases Mq:c'=c
      ·subst Mq;exact⟨_,kL⟩
      · obtain⟨w2,z2⟩:=I.cell y c' e
        exact⟨w2,z2.sameBut hs Mq⟩
    · obtain⟨e,n,ne,nf,d⟩:=I.pin p hp
      refine⟨(hs.2 p.1 ?_).trans e,n,ne,nf,d⟩;intro q;rw[q,Mf]at e;have q':oc=p.2:=eG e;exact d w' (by rw[<-q'];exact a05)
theorem xW{M:Model}{A:a5A}{E:Value->a5x->Prop}{i:Nat}{x:Str}{v:V}{u:Value}{Q:Unit->a5x->Prop}(I:Inv X pins σ H s)(hN:X.N.Nodup)(hi:X.N[i]? =some x)(hx:Loc X.env.scope x)(r:RelV v u) (h:∀s',Inv X pins (σ.set i (some v)) H s'->Q () s')(hf:X.fn x=true\/X.env.scope.names.lookup x=some .local:=by first|exact .inl rfl|exact .inr rfl|assumption):wpAny M A (storeName X.env x u) Q E s:=Hl I hN hi hx r (fun s' I' _=>h s' I') hf
theorem Inv.NY{s':a5x}{ch:List Addr}(I:Inv X pins σ H s)(ho:s'.os=s.os)(u:Un (jq X.stack) ch H H' s.heap s'.heap)(hok:du X.prog X.w H' s'.heap)(hg:AllBare s'.gens) (lP:∀b∈ch,(b∈X.ex\/X.s₀.heap.objs.size<=b)/\b≠X.env.locals/\(∀x c,X.env.cells.lookup x=some c->c≠b)/\∀p∈X.pn++pins,p.1≠b):Inv X pins σ H' s':=by obtain⟨h',g',d',t',o'⟩:=s';have e:o'=s.os:=ho;subst e;exact I.call (g':=g') (t':=t') (d':=d') u hok hg lP
end
abbrev XK:=Value->Option Addr->Hp->Prop
abbrev St:=List (Option V)
abbrev VK:=V->Hp->Prop
abbrev TE:=St->Hp->VK->Prop
abbrev TT:=St->Hp->(Bool->Hp->Prop)->Prop
abbrev TA:=St->Hp->(List V->Hp->Prop)->Prop
structure Ends where
 nx:St->Hp->Prop
 rt:VK
 bk:St->Hp->Prop:=fun _ _=>False
 ct:St->Hp->Prop:=fun _ _=>False
abbrev TS:=Ends->St->Hp->Prop
def EP(X:Cx)(pins:List (Addr×Obj))(σ:St)(Q:VK)(u:Value)(s':a5x):Prop:=∃v H',Inv X pins σ H' s'/\RelV v u/\Q v H'
def TP(X:Cx)(pins:List (Addr×Obj))(σ:St)(Q:Bool->Hp->Prop)(b:Bool)(s':a5x):Prop:=∃H',Inv X pins σ H' s'/\Q b H'
def AP(X:Cx)(pins:List (Addr×Obj))(σ:St)(Q:List V->Hp->Prop)(us:List Value)(s':a5x):Prop:=∃vs H',Inv X pins σ H' s'/\Vals vs us/\Q vs H'
def SP(X:Cx)(pins:List (Addr×Obj))(D:Ends)(f:Flow)(s':a5x):Prop:=match f with | .next=>∃σ' H',Inv X pins σ' H' s'/\D.nx σ' H' | .brk=>∃σ' H',Inv X pins σ' H' s'/\D.bk σ' H' | .cont=>∃σ' H',Inv X pins σ' H' s'/\D.ct σ' H' | .ret u=>∃v σ' H',Inv X pins σ' H' s'/\RelV v u/\D.rt v H'
def PE(X:Cx)(e:Expr)(t:TE):Prop:=∀(pins:List (Addr×Obj))(s:a5x)(σ:St)(H:Hp)(Q:VK),Inv X pins σ H s->t σ H Q->wpAny (model X.prog X.w) X.A (eval e X.env) (EP X pins σ Q) X.xe s
def PT(X:Cx)(e:Expr)(t:TT):Prop:=∀(pins:List (Addr×Obj))(s:a5x)(σ:St)(H:Hp)(Q:Bool->Hp->Prop),Inv X pins σ H s->t σ H Q->wpAny (model X.prog X.w) X.A (isTrue e X.env (eval e X.env)) (TP X pins σ Q) X.xe s
def PW(X:Cx)(e:Expr)(t:TT):Prop:=∀(whole:Sem Value)(pins:List (Addr×Obj))(s:a5x)(σ:St)(H:Hp)(Q:Bool->Hp->Prop),Inv X pins σ H s->t σ H Q->wpAny (model X.prog X.w) X.A (isTrue e X.env whole) (TP X pins σ Q) X.xe s
theorem PW.pt{X:Cx}{e:Expr}{t:TT}(h:PW X e t):PT X e t:=h _
def PA(X:Cx)(es:List Expr)(t:TA):Prop:=∀(pos:Pos)(pins:List (Addr×Obj))(s:a5x)(σ:St)(H:Hp)(Q:List V->Hp->Prop),Inv X pins σ H s->t σ H Q->wpAny (model X.prog X.w) X.A (spliced (backTo pos (starEach es X.env))) (AP X pins σ Q) X.xe s
def PS(X:Cx)(st:Stmt)(t:TS):Prop:=∀(pins:List (Addr×Obj))(s:a5x)(σ:St)(H:Hp)(D:Ends),Inv X pins σ H s->t D σ H->wpAny (model X.prog X.w) X.A (exec st X.env) (SP X pins D) X.xe s
def iQ(X:Cx)(st:List Stmt)(t:TS):Prop:=∀(pins:List (Addr×Obj))(s:a5x)(σ:St)(H:Hp)(D:Ends),Inv X pins σ H s->t D σ H->wpAny (model X.prog X.w) X.A (execs st X.env) (SP X pins D) X.xe s
theorem aI{α:Type}{t:Sem α}{Q Q':α->a5x->Prop}{M:Model}{A:a5A}{E:Value->a5x->Prop}{s:a5x}(h:wpAny M A t Q E s)(hQ:∀a s,Q a s->Q' a s):wpAny M A t Q' E s:=kB h hQ fun _ _ x=>x
section
variable {X:Cx}
inductive OC(i:Nat)(σ:St)(H:Hp)(Q:VK):Prop |mk (v:_)(h0:σ[i]? =some (some v))(h1:Q v H):OC i σ H Q
def Hc(i:Nat):TE:=fun σ H Q=>OC i σ H Q
def tC (v:V):TE:=fun _ H Q=>Q v H
theorem VF{i:Nat}{x:Str}{pos:Pos}(hN:X.N[i]? =some x)(hv:FJ X.env.scope x)(hd:(x==("__debug__":Str))=false:=by decide)(ku:(x==("__classdict__":Str))=false:=by decide):PE X (.Name x pos) (Hc i):=by
 intro pins s σ H Q I h;obtain⟨v,e,h⟩:=h;obtain⟨m,hn,hl⟩:=I.loc;obtain⟨u,r,l⟩:=hl i x v hN e hv;have fin:EP X pins σ Q u s:=⟨v,H,I,r,h⟩;rcases l with⟨hk,hm⟩|⟨hk,c,hc,ow⟩
 ·exact wpAny_Name (wpAny_loadName_local I.ok.kind hk hn hm fin) hd
 · rcases hk with hk|hk
   ·exact wpAny_Name (wpAny_loadName_cell I.ok.kind hk hc ow fin) hd
   ·exact wpAny_Name (wpAny_loadName_free I.ok.kind hk hc ow fin ku) hd
theorem ag{i j pos}:PE X (.Constant (.int i) j pos) (tC (.int i)):=fun _ _ _ H _ I h=>wpAny_Constant_int ⟨.int i,H,I.tok _,⟨_,rfl⟩,h⟩
theorem ie{b j pos}:PE X (.Constant (.bool b) j pos) (tC (.bl b)):=fun _ _ _ H _ I h=>Constant_bool ⟨.bl b,H,I,rfl,h⟩
theorem iD{j pos}:PE X (.Constant .none j pos) (tC .aW):=fun _ _ _ H _ I h=>Constant_none ⟨.aW,H,I,rfl,h⟩
theorem aU{x j pos}:PE X (.Constant (.str x) j pos) (tC (.str x)):=fun _ _ _ H _ I h=>Calls.Constant_str ⟨.str x,H,I.tok _,⟨_,rfl⟩,h⟩
def Gl(X:Cx)(x:Str):Prop:=X.env.kindOf x=some .globalImplicit
theorem DU{E:Value->a5x->Prop}{pins:List (Addr×Obj)}{s:a5x}{σ:St}{H:Hp}{x:Str}{u:Value}{pos:Pos}{Q:Value->a5x->Prop}(I:Inv X pins σ H s)(hg:Gl X x)(hm:X.mg x=some u)(h:Q u s) (hd:(x==("__debug__":Str))=false:=by decide):wpAny (model X.prog X.w) X.A (eval (.Name x pos) X.env) Q E s:=Calls.Name_function_global I.ok.kind hg (Calls.loadGlobal_global (by rw[I.ok.glob];exact I.mod.glob.keeps I.bk) hm h) hd
theorem mD{E:Value->a5x->Prop}{pins:List (Addr×Obj)}{s:a5x}{σ:St}{H:Hp}{x:Str}{u:Value}{pos:Pos}{Q:Value->a5x->Prop}(I:Inv X pins σ H s)(hg:Gl X x)(hm:X.mg x=none)(hv:bootBuiltins x=some u)(h:Q u s) (hn:x≠"__name__":=by decide)(hd:(x==("__debug__":Str))=false:=by decide):wpAny (model X.prog X.w) X.A (eval (.Name x pos) X.env) Q E s:=by obtain⟨mb,h1,h2⟩:=I.mod.blt;exact Calls.Name_function_global I.ok.kind hg (Calls.loadGlobal_builtin (by rw[I.ok.glob];exact I.mod.glob.keeps I.bk) hm (by rw[I.ok.blt];exact h1.keeps I.bk) ((h2 x hn).trans hv) h) hd
theorem VJ{x:Str}{v:V}{u:Value}{pos:Pos}(hg:Gl X x)(hm:X.mg x=some u)(r:RelV v u)(hd:(x==("__debug__":Str))=false:=by decide):PE X (.Name x pos) (tC v):=fun _ _ _ H _ I h=>DU I hg hm ⟨v,H,I,r,h⟩ hd
theorem cL{x:Str}{v:V}{u:Value}{pos:Pos}(hg:Gl X x)(hm:X.mg x=none)(hv:bootBuiltins x=some u)(r:RelV v u)(hn:x≠"__name__":=by decide)(hd:(x==("__debug__":Str))=false:=by decide):PE X (.Name x pos) (tC v):=fun _ _ _ H _ I h=>mD I hg hm hv ⟨v,H,I,r,h⟩ hn hd
variable {a b:Expr}{ta tb:TE}{pos:Pos}
inductive OK(Q:Bool->Hp->Prop)(x:V)(H1:Hp):Prop |mk (c:_)(h0:x= .bl c)(h1:Q c H1):OK Q x H1
def tB(t:TE):TT:=fun σ H Q=>t σ H fun x H1=>OK Q x H1
theorem cA{e:Expr}{t:TE}(h:PE X e t)(he:∀whole,isTrue e X.env whole=(do let v<-whole;standAt e.pos;holding [v] (truthy v)):=by intro _;rfl):PT X e (tB t):=by intro pins s σ H Q I hw;refine isTrue_plain (aI (h pins s σ H _ I hw) fun v s1 ⟨x,H1,I1,r1,q1⟩=>?_) (he _);obtain⟨d,rfl,q⟩:=q1;cases r1;exact ny ⟨H1,I1,q⟩
variable {tA xU:TT} {rest:List Expr}
def SJ(t u:TT):TT:=fun σ H Q=>t σ H fun c H1=>if c=true then u σ H1 Q else Q false H1
def So(t u:TT):TT:=fun σ H Q=>t σ H fun c H1=>if c=true then Q true H1 else u σ H1 Q
def Sr(t:TT):TT:=fun σ H Q=>t σ H fun c H1=>Q (!c) H1
theorem pR(ha:PT X a tA):PW X (.BoolOp .And [a] pos) tA:=by intro wh pins s σ H Q I h;refine isTrue_and (aI (ha pins s σ H Q I h) fun c s1 e=>?_);cases c with |true=>exact isTrue_and_nil e |false=>exact e
theorem kl(ha:PT X a tA):PW X (.BoolOp .Or [a] pos) tA:=by intro wh pins s σ H Q I h;refine isTrue_or (aI (ha pins s σ H Q I h) fun c s1 e=>?_);cases c with |false=>exact isTrue_or_nil e |true=>exact e
theorem lF(ha:PT X a tA)(hb:PW X (.BoolOp .And (b::rest) pos) xU):PW X (.BoolOp .And (a::b::rest) pos) (SJ tA xU):=by intro wh pins s σ H Q I h;refine isTrue_and (aI (ha pins s σ H _ I h) fun c s1 ⟨H1,I1,q1⟩=>?_);cases c with |true=>exact hb wh pins s1 σ H1 Q I1 q1 |false=>exact⟨H1,I1,q1⟩
theorem kn(ha:PT X a tA)(hb:PW X (.BoolOp .Or (b::rest) pos) xU):PW X (.BoolOp .Or (a::b::rest) pos) (So tA xU):=by intro wh pins s σ H Q I h;refine isTrue_or (aI (ha pins s σ H _ I h) fun c s1 ⟨H1,I1,q1⟩=>?_);cases c with |true=>exact⟨H1,I1,q1⟩ |false=>exact hb wh pins s1 σ H1 Q I1 q1
theorem dX(ha:PT X a tA):PT X (.UnaryOp .Not a pos) (Sr tA):=by intro pins s σ H Q I h;exact isTrue_not (ha pins s σ H (fun c H1=>Q (!c) H1) I h)
inductive OL(tb:TE)(σ:St)(Q:VK)(x:V)(H1:Hp):Prop |mk (c:_)(h0:x= .bl c)(h1:if c=true then tb σ H1 Q else Q (.bl false) H1):OL tb σ Q x H1
def SI(ta tb:TE):TE:=fun σ H Q=>ta σ H fun x H1=>OL tb σ Q x H1
inductive OG(Q:VK)(x:V)(H1:Hp):Prop |mk (c:_)(h0:x= .bl c)(h1:Q (.bl (!c)) H1):OG Q x H1
def Sq(ta:TE):TE:=fun σ H Q=>ta σ H fun x H1=>OG Q x H1
theorem gD{op}{t:TE}(h:PE X a t):PE X (.BoolOp op [a] pos) t:=fun pins s σ H Q I hw=>BoolOp_one (h pins s σ H Q I hw)
theorem gm(ha:PE X a ta)(hb:PE X (.BoolOp .And (b::rest) pos) tb):PE X (.BoolOp .And (a::b::rest) pos) (SI ta tb):=by intro pins s σ H Q I h;refine BoolOp_and (aI (ha pins s σ H _ I h) fun v s1 ⟨x,H1,I1,r1,q1⟩=>?_);obtain⟨c,rfl,q1⟩:=q1;cases r1;refine ny ?_;cases c with |true=>exact hb pins s1 σ H1 Q I1 q1 |false=>exact⟨.bl false,H1,I1,rfl,q1⟩
theorem Kt(ha:PE X a ta):PE X (.UnaryOp .Not a pos) (Sq ta):=by intro pins s σ H Q I h;refine UnaryOp_ (aI (ha pins s σ H _ I h) fun v s1 ⟨x,H1,I1,r1,q1⟩=>?_);obtain⟨c,rfl,q1⟩:=q1;cases r1;exact not_of (ny ⟨.bl (!c),H1,I1,rfl,q1⟩)
def Sz(t:TT)(ta tb:TE):TE:=fun σ H Q=>t σ H fun c H1=>if c=true then ta σ H1 Q else tb σ H1 Q
theorem Kv{c:Expr}(hc:PT X c tA)(ha:PE X a ta)(hb:PE X b tb):PE X (.IfExp c a b pos) (Sz tA ta tb):=by intro pins s σ H Q I h;refine wpAny_IfExp (aI (hc pins s σ H _ I h) fun d s1 ⟨H1,I1,q1⟩=>?_);cases d with |true=>exact ha pins s1 σ H1 Q I1 q1 |false=>exact hb pins s1 σ H1 Q I1 q1
end
end L2
namespace L2
open PySem PySem.Spec PyProof.Rows
def aw(K:a5w)(H:Hp)(a:Addr)(xs:List V):Prop:=Rd H a (.lst xs)\/ ∃(o:Obj)(its:Array Value)(n:Nat),K.lookup a=some o/\o.cls= .type "list"/\o.dict=none/\o.data= .seq its n/\its.size<=sizeLine/\Vals xs its.toList
def aB(K:a5w)(H:Hp)(a:Addr)(xs:List V):Prop:=Rd H a (.tup xs)\/ ∃(o:Obj)(its:Array Value)(n:Nat),K.lookup a=some o/\o.cls= .type "tuple"/\o.data= .seq its n/\its.size<=sizeLine/\Vals xs its.toList
def a3W:Value->Option V | .none=>some .aW | .bool b=>some (.bl b) | .int i _=>some (.int i) | .str x _=>some (.str x) | .bytes b _=>some (.ub b) | .float b _=>some (.zy b) | .ref a=>some (.ref a) | .type n=>some (.ty n) |_=>none
theorem RelV.abs{x:V}{u:Value}(r:RelV x u):a3W u=some x:=by cases x with |aW=>cases r;rfl |bl _=>cases r;rfl |int _=>obtain⟨t,rfl⟩:=r;rfl |str _=>obtain⟨t,rfl⟩:=r;rfl |ub _=>obtain⟨t,rfl⟩:=r;rfl |zy _=>obtain⟨t,rfl⟩:=r;rfl |ref _=>cases r;rfl |ty _=>cases r;rfl
theorem RelV.inj{x y:V}{u:Value}(r:RelV x u)(q:RelV y u):x=y:=eG (r.abs.symm.trans q.abs)
theorem Vals.inj:∀{xs ys:List V}{us:List Value},Vals xs us->Vals ys us->xs=ys |_,_,_,.nil,.nil=>rfl |_,_,_,.cons r t,.cons r' t'=>by rw[r.inj r',Vals.inj t t']
section
variable {X:Cx}{pins:List (Addr×Obj)}{σ:St}{H:Hp}{s:a5x}{a:Addr}{xs ys:List V}
theorem aw.of{K:a5w}(h:H a=some (.lst xs)):aw K H a xs:=.inl (.inl h)
theorem aB.of{K:a5w}(h:H a=some (.tup xs)):aB K H a xs:=.inl (.inl h)
theorem Inv.list(I:Inv X pins σ H s)(h:aw X.K H a xs):∃its:List Value,Vals xs its/\PlainL s.heap a its.toArray/\xs.length<=sizeLine:=by
 rcases h with h|⟨o,its,n,hk,hc,hd,hs,hz,r⟩
 · obtain⟨z,its,n,r,e⟩:=h.ok I.hok
   exact⟨its,r,⟨_,n,e,rfl,rfl,rfl⟩,z⟩
 · refine⟨its.toList,r,⟨o,n,I.iK a o hk,hc,hd,by simpa using hs⟩,?_⟩
   have e:=r.length;simp only[Gx]at e;omega
theorem Inv.tuple(I:Inv X pins σ H s)(h:aB X.K H a xs):∃its:List Value,Vals xs its/\IsTup s.heap a its.toArray/\xs.length<=sizeLine:=by
 rcases h with h|⟨o,its,n,hk,hc,hs,hz,r⟩
 · obtain⟨z,its,r,p⟩:=h.ok I.hok
   exact⟨its,r,p,z⟩
 · refine⟨its.toList,r,⟨o,I.iK a o hk,hc,n,by simpa using hs⟩,?_⟩
   have e:=r.length;simp only[Gx]at e;omega
theorem Inv.LC(I:Inv X pins σ H s)(h:aw X.K H a xs)(h':aw X.K H a ys):xs=ys:=by
 obtain⟨its,r,⟨o,n,e,_,_,d⟩,_⟩:=I.list h;obtain⟨its',r',⟨o',n',e',_,_,d'⟩,_⟩:=I.list h';rw[e]at e';cases e';rw[d]at d';injection d' with d1 _;have:its=its':=by simpa using congrArg Array.toList d1
 subst this;exact r.inj r'
theorem Inv.GW(I:Inv X pins σ H s)(h:aB X.K H a xs)(h':aB X.K H a ys):xs=ys:=by
 obtain⟨its,r,⟨o,e,_,n,d⟩,_⟩:=I.tuple h;obtain⟨its',r',⟨o',e',_,n',d'⟩,_⟩:=I.tuple h';rw[e]at e';cases e';rw[d]at d';injection d' with d1 _;have:its=its':=by simpa using congrArg Array.toList d1
 subst this;exact r.inj r'
end
abbrev Cx.kX(X:Cx)(E:Value->a5x->Prop):Cx:={X with xe:=E}
abbrev Cx.pX(X:Cx):Cx:=X.kX fun _ _=>False
theorem Cx.Ok.kX{X:Cx}(ok:X.Ok)(E:Value->a5x->Prop):(X.kX E).Ok:=⟨ok.mod,ok.kind,ok.glob,ok.blt,ok.above,ok.inj,ok.has,ok.cab,ok.hd,ok.frames,ok.stk,ok.exf,ok.bs,ok.bsz,ok.noex,ok.exfs,ok.jU,ok.frf⟩
theorem Cx.Ok.nQ{X:Cx}{E:Value->a5x->Prop}(ok:(X.kX E).Ok):X.Ok:=⟨ok.mod,ok.kind,ok.glob,ok.blt,ok.above,ok.inj,ok.has,ok.cab,ok.hd,ok.frames,ok.stk,ok.exf,ok.bs,ok.bsz,ok.noex,ok.exfs,ok.jU,ok.frf⟩
section
variable {X:Cx}{pins:List (Addr×Obj)}{σ:St}{H:Hp}{s:a5x}{E:Value->a5x->Prop}
theorem Inv.kX(I:Inv X pins σ H s)(E:Value->a5x->Prop):Inv (X.kX E) pins σ H s:=⟨I.ok.kX E,I.os,I.bare,I.base,I.loc,I.cell,I.free,I.freeC,I.pin,I.hok,I.len⟩
theorem Inv.nQ(I:Inv (X.kX E) pins σ H s):Inv X pins σ H s:=⟨I.ok.nQ,I.os,I.bare,I.base,I.loc,I.cell,I.free,I.freeC,I.pin,I.hok,I.len⟩
theorem SP.nQ{D:Ends}{f:Flow}{s':a5x}(h:SP (X.kX E) pins D f s'):SP X pins D f s':=by cases f with |next=>obtain⟨σ',H',I,q⟩:=h;exact⟨σ',H',I.nQ,q⟩ |brk=>obtain⟨σ',H',I,q⟩:=h;exact⟨σ',H',I.nQ,q⟩ |cont=>obtain⟨σ',H',I,q⟩:=h;exact⟨σ',H',I.nQ,q⟩ |ret u=>obtain⟨v,σ',H',I,r,q⟩:=h;exact⟨v,σ',H',I.nQ,r,q⟩
theorem iQ.pX{st:List Stmt}{t:TS}(h:iQ X.pX st t):iQ X st t:=fun pins s σ H D I hw=>kB (h pins s σ H D (I.kX _) hw) (fun _ _ q=>q.nQ) fun _ _ z=>False.elim z
end
section
variable {X:Cx}{st:Stmt}{rest:List Stmt}{t u:TS}{e:Expr}{te:TE}{pos:Pos}
def AE:TS:=fun D σ H=>D.nx σ H
def uJ(t u:TS):TS:=fun D σ H=>t {D with nx:=u D} σ H
theorem bE:iQ X [] AE:=fun _ _ σ H _ I h=>G1 ⟨σ,H,I,h⟩
theorem ah(h1:PS X st t)(h2:iQ X rest u):iQ X (st::rest) (uJ t u):=by intro pins s σ H D I h;refine wpAny_execs_cons (aI (h1 pins s σ H {D with nx:=u D} I h) fun f s1 q=>?_);cases f with |next=>obtain⟨σ',H',I',q⟩:=q;exact h2 pins s1 σ' H' D I' q |ret v=>exact q |brk=>exact q |cont=>exact q
theorem ao(h1:PS X st t):iQ X [st] t:=by intro pins s σ H D I h;refine wpAny_execs_cons (aI (h1 pins s σ H D I h) fun f s1 q=>?_);cases f with |next=>exact G1 q |ret v=>exact q |brk=>exact q |cont=>exact q
theorem Inv.quiet{pins:List (Addr×Obj)}{σ:St}{H:Hp}{s:a5x}(I:Inv X pins σ H s):interactive X.env=false:=by simp[interactive,I.ok.kind]
def SD(te:TE):TS:=fun D σ H=>te σ H fun _ H1=>D.nx σ H1
theorem fP(he:PE X e te)(hs:swapsWith e none pos.line X.env=pure false:=by rfl):PS X (.Expr e pos) (SD te):=by intro pins s σ H D I h;exact wpAny_Expr_any (aI (he pins s σ H _ I h) fun v s1 ⟨x,H1,I1,r1,q1⟩=>⟨σ,H1,I1,q1⟩) I.quiet hs
def Sl(te:TE):TS:=fun D σ H=>te σ H D.rt
theorem aG(he:PE X e te):PS X (.Return (some e) pos) (Sl te):=by intro pins s σ H D I h;exact wpAny_Return_some (aI (he pins s σ H _ I h) fun v s1 ⟨x,H1,I1,r1,q1⟩=>⟨x,σ,H1,I1,r1,q1⟩)
def pC(c:TT)(t u:TS):TS:=fun D σ H=>c σ H fun b H1=>if b=true then t D σ H1 else u D σ H1
theorem bj{c:Expr}{a b:List Stmt}{tc:TT}(hc:PT X c tc)(ha:iQ X a t)(hb:iQ X b u):PS X (.If c a b pos) (pC tc t u):=by intro pins s σ H D I h;refine wpAny_If (aI (hc pins s σ H _ I h) fun d s1 ⟨H1,I1,q1⟩=>?_);cases d with |true=>exact ha pins s1 σ H1 D I1 q1 |false=>exact hb pins s1 σ H1 D I1 q1
def Su:TS:=fun _ _ _=>False
theorem rY:PS X st Su:=fun _ _ _ _ _ _ h=>h.elim
end
abbrev TG:=V->St->Hp->(St->Hp->Prop)->Prop
abbrev lY:=List V->St->Hp->(St->Hp->Prop)->Prop
def PG(X:Cx)(target:Expr)(t:TG):Prop:=∀(pins:List (Addr×Obj))(s:a5x)(σ:St)(H:Hp)(v:V)(u:Value)(Q:St->Hp->Prop),Inv X pins σ H s->RelV v u->t v σ H Q->wpAny (model X.prog X.w) X.A (assign target X.env u) (fun _ s'=>∃σ' H',Inv X pins σ' H' s'/\Q σ' H') X.xe s
def wZ(X:Cx)(ts:List Expr)(t:lY):Prop:=∀(pins:List (Addr×Obj))(s:a5x)(σ:St)(H:Hp)(vs:List V)(us:List Value)(Q:St->Hp->Prop),Inv X pins σ H s->Vals vs us->t vs σ H Q->wpAny (model X.prog X.w) X.A (assignInOrder ((assignEach ts X.env).map (·.2)) us) (fun _ s'=>∃σ' H',Inv X pins σ' H' s'/\Q σ' H') X.xe s
abbrev FO:=V->V->V->Hp->(Hp->Prop)->Prop
def Oy(X:Cx)(t:FO):Prop:=∀(pins:List (Addr×Obj))(s:a5x)(σ:St)(H:Hp)(o i v:V)(ov iv u:Value)(Q:Hp->Prop),Inv X pins σ H s->RelV o ov->RelV i iv->RelV v u->t o i v H Q->wpAny (model X.prog X.w) X.A (setItem ov iv u) (fun _ s'=>∃H',Inv X pins σ H' s'/\Q H') X.xe s
abbrev Oo:=V->V->Hp->VK->Prop
def PIp(X:Cx)(op:Operator)(t:Oo):Prop:=∀(pins:List (Addr×Obj))(s:a5x)(σ:St)(H:Hp)(x y:V)(v u:Value)(Q:VK),Inv X pins σ H s->RelV x v->RelV y u->t x y H Q->wpAny (model X.prog X.w) X.A (inplaceOp op v u) (EP X pins σ Q) X.xe s
section
variable {X:Cx} {pos:Pos}
def eQ(i:Nat):TG:=fun v σ H Q=>Q (σ.set i (some v)) H
theorem aQ{i:Nat}{x:Str}(hN:X.N.Nodup)(hi:X.N[i]? =some x)(hx:Loc X.env.scope x)(hf:X.fn x=true\/X.env.scope.names.lookup x=some .local:=by first|exact .inl rfl|exact .inr rfl|assumption):PG X (.Name x pos) (eQ i):=by intro pins s σ H v u Q I r h;exact wpAny_assign_Name (xW I hN hi hx r (fun s' I'=>⟨_,H,I',h⟩) hf)
def oC:lY:=fun vs σ H Q=>vs=[]/\Q σ H
inductive QG(t:TG)(u:lY)(vs:List V)(σ:St)(H:Hp)(Q:St->Hp->Prop):Prop |mk (v:_)(r:_)(h0:vs=v::r)(h1:t v σ H fun σ' H'=>u r σ' H' Q):QG t u vs σ H Q
def j0(t:TG)(u:lY):lY:=fun vs σ H Q=>QG t u vs σ H Q
theorem cR:wZ X [] oC:=by intro pins s σ H vs us Q I r h;obtain⟨e,h⟩:=h;subst e;cases r;exact assignInOrder_nil ⟨σ,H,I,h⟩
theorem bo{e:Expr}{es:List Expr}{t:TG}{u:lY}(h1:PG X e t)(h2:wZ X es u) (hs:(assignEach (e::es) X.env).map (·.2)=assign e X.env::(assignEach es X.env).map (·.2):=by rfl):wZ X (e::es) (j0 t u):=by intro pins s σ H vs us Q I r h;obtain⟨v,vr,e1,h⟩:=h;subst e1;cases r with |cons r rr=>rw[hs];refine assignInOrder_cons (aI (h1 pins s σ H _ _ _ I r h) fun _ s1 ⟨σ1,H1,I1,q1⟩=>?_);exact h2 pins s1 σ1 H1 _ _ Q I1 rr q1
inductive QF(K:a5w)(n:Nat)(t:lY)(v:V)(σ:St)(H:Hp)(Q:St->Hp->Prop):Prop |mk (a:_)(xs:_)(h0:v= .ref a)(h1:aB K H a xs)(h2:xs.length=n)(h3:t xs σ H Q):QF K n t v σ H Q
def mT(K:a5w)(n:Nat)(t:lY):TG:=fun v σ H Q=>QF K n t v σ H Q
theorem VE{es:List Expr}{k:Nat}{t:lY}{n:Nat}(hc:X.calm=true)(h:wZ X es t) (hn:(assignEach es X.env).length=n:=by rfl)(kJ:(assignEach es X.env).findIdx? (·.1)=none:=by rfl):PG X (.Tuple es k pos) (mT X.K n t):=by intro pins s σ H v u Q I r hw;obtain⟨a,xs,e1,hq,hl,hw⟩:=hw;subst e1;cases r;obtain⟨its,rv,ht,hz⟩:=I.tuple hq;refine assign_Tuple_tuple (I.ok.hd hc) ht (by simp[hn,<-hl,rv.length]) kJ fun h' hx=>?_;have I1:Inv X pins σ H {s with heap:=h'}:=I.kept (t':=s.toks) fun b o e=>hx b o (eV (ck e)) e;exact h pins _ σ H xs _ Q I1 (by simpa using rv) hw
def a22(to ti:TE)(t:FO):TG:=fun v σ H Q=>to σ H fun o H1=>ti σ H1 fun i H2=>t o i v H2 fun H3=>Q σ H3
theorem pS{o i:Expr}{to ti:TE}{t:FO}(ho:PE X o to)(hi:PE X i ti)(hs:Oy X t) (ha:∀v,assign (.Subscript o i pos) X.env v=(do
     let ov<-holding [v] (eval o X.env)
     let iv<-holding [v,ov] (eval i X.env)
     standAt pos
     holding [v,ov,iv] (setItem ov iv v)
     release [v,ov,iv] []):=by intro _;rfl):PG X (.Subscript o i pos) (a22 to ti t):=by
  intro pins s σ H v u Q I r h;rw[ha];refine aF (wpAny_holding (aI (ho pins s σ H _ I h) fun ov s1 ⟨x,H1,I1,r1,q1⟩=>?_));refine aF (wpAny_holding (aI (hi pins s1 σ H1 _ I1 q1) fun iv s2 ⟨y,H2,I2,r2,q2⟩=>?_));refine aF (wpAny_standAt (aF (wpAny_holding (aI (hs pins s2 σ H2 x y v ov iv u _ I2 r1 r2 r q2) fun _ s3 ⟨H3,I3,q3⟩=>?_))));exact wpAny_release ⟨σ,H3,I3,q3⟩
def AG(te:TE)(g:TG):TS:=fun D σ H=>te σ H fun x H1=>g x σ H1 D.nx
theorem fi{tg e:Expr}{te:TE}{g:TG}(he:PE X e te)(hg:PG X tg g)(hs:swapsWithSole [tg] e pos.line X.env=pure false:=by rfl)(hw:swappedStores [tg] e X.env=pure none:=by rfl) (h1:(assignEach [tg] X.env).map (·.2)=[assign tg X.env]:=by rfl):PS X (.Assign [tg] e pos) (AG te g):=by intro pins s σ H D I h;refine wpAny_Assign_stores (aI (he pins s σ H _ I h) fun v s1 ⟨x,H1,I1,r1,q1⟩=>?_) hs hw;rw[h1];exact aI (hg pins s1 σ H1 x v _ I1 r1 q1) fun _ s2 q=>q
theorem aH{i:Nat}{x:Str}{e:Expr}{te:TE}{pos':Pos}(hN:X.N.Nodup)(hi:X.N[i]? =some x)(hx:Loc X.env.scope x)(he:PE X e te)(hs:swapsWith e (some (.Name x pos')) pos.line X.env=pure false:=by rfl)(hf:X.fn x=true\/X.env.scope.names.lookup x=some .local:=by first|exact .inl rfl|exact .inr rfl|assumption): PS X (.Assign [.Name x pos'] e pos) (AG te (eQ i)):=by intro pins s σ H D I h;refine wpAny_Assign_Name (aI (he pins s σ H _ I h) fun v s1 ⟨y,H1,I1,r1,q1⟩=>?_) hs;exact xW I1 hN hi hx r1 (fun s2 I2=>⟨_,H1,I2,q1⟩) hf
inductive OF(i:Nat)(j:Nat)(D:Ends)(σ:St)(vs:List V)(H1:Hp):Prop |mk (v:_)(w:_)(h0:vs=[v,w])(h1:D.nx ((σ.set i (some v)).set j (some w)) H1):OF i j D σ vs H1
def Sn(i j:Nat)(ta:TA):TS:=fun D σ H=>ta σ H fun vs H1=>OF i j D σ vs H1
theorem lH{i j:Nat}{x y:Str}{a b:Expr}{ta:TA}{px py pt:Pos} {kt k2 De}(hc:X.calm=true)(hN:X.N.Nodup)(hi:X.N[i]? =some x)(hj:X.N[j]? =some y)(hij:i≠j) (hx:X.env.scope.names.lookup x=some .local)(hy:X.env.scope.names.lookup y=some .local)(ha:PA X [a,b] ta) (hw:swappedStores [.Tuple [.Name x px,.Name y py] kt pt] (.Tuple [a,b] k2 De) X.env=pure (some [x,y])) (hs:swapsWithSole [.Tuple [.Name x px,.Name y py] kt pt] (.Tuple [a,b] k2 De) pos.line X.env=pure false:=by rfl): PS X (.Assign [.Tuple [.Name x px,.Name y py] kt pt] (.Tuple [a,b] k2 De) pos) (Sn i j ta):=by
  intro pins s σ H D I h;rw[exec_Assign_arm];refine aF (wpAny_standAt ?_);rw[hs];refine aF (bT ?_);rw[aV (by decide)];refine aF (Tuple_ (aI (ha _ pins s σ H _ I h) fun us s1 ⟨vs,H1,I1,r1,q1⟩=>?_));obtain⟨v,w,e1,q1⟩:=q1;subst e1;obtain⟨u1,u2,rfl,rv,gZ⟩:∃u1 u2,us=[u1,u2]/\RelV v u1/\RelV w u2:=by cases r1 with |cons p q=>cases q with |cons p' q'=>cases q';exact⟨_,_,rfl,p,p'⟩
  refine oT ?_ (by show 2<=sizeLine;decide);have I2:Inv X pins σ H1 {s1 with heap:=s1.heap.push {cls:=.type "tuple",data:=.seq [u1,u2].toArray}}:=I1.kept (t':=s1.toks) fun b o e=>cg _ e;rw[hw];refine aF (bT ?_);show wpAny (model X.prog X.w) X.A (do rule "assign.swapped-stores";let items<-unpackItems (.ref s1.heap.objs.size) 2 none;assignInOrder [fun v=>bindName X.env y v,fun v=>bindName X.env x v] items.reverse;pure Flow.next) _ _ _;refine aF (wpAny_rule (aF (unpackItems_tuple (items:=#[u1,u2]) (I.ok.hd hc) (IsTup.new s1.heap _) fun h' ZF=>?_)));have I3:=I2.kept (h':=h') (t':=s1.toks) fun b o e=>ZF b o (eV (ck e)) e;show wpAny _ _ (assignInOrder [fun v=>bindName X.env y v,fun v=>bindName X.env x v] [u2,u1]>>=fun _=>pure Flow.next) _ _ _;refine aF (assignInOrder_cons (wpAny_bindName (xW I3 hN hj (.inl hy) gZ (fun s2 I4=>?_) (.inr hy))));refine assignInOrder_cons (wpAny_bindName (xW I4 hN hi (.inl hx) rv (fun s3 I5=>assignInOrder_nil (bT ?_)) (.inr hx)));rw[List.set_comm _ _ (cC hij)]at I5;exact⟨_,H1,I5,q1⟩
inductive Qv(f:Int->Int->Int)(x:V)(y:V)(H:Hp)(Q:VK):Prop |mk (i:_)(j:_)(h0:x= .int i)(h1:y= .int j)(h2:Q (.int (f i j)) H):Qv f x y H Q
def Zh(f:Int->Int->Int):Oo:=fun x y H Q=>Qv f x y H Q
theorem Zg:PIp X .Add (Zh fun i j=>i+j):=by intro pins s σ H x y v u Q I r1 r2 h;obtain⟨i,j,e1,e2,q⟩:=h;subst e1;subst e2;obtain⟨t,rfl⟩:=r1;obtain⟨t',rfl⟩:=r2;exact iadd_int ⟨.int _,H,I.tok _,⟨_,rfl⟩,q⟩
end
section
variable {X:Cx} {pos:Pos}
def Hb(c:TT)(tb:TS):TS:=fun D σ H=>∃W:Nat->St->Hp->Prop,(∃m,W m σ H)/\∀m σ H,W m σ H->c σ H fun b H1=>if b=true then∃N:St->Hp->Prop,(∀σ' H',N σ' H'->∃m',m'<m/\W m' σ' H')/\tb {D with nx:=N,ct:=N,bk:=D.nx} σ H1 else D.nx σ H1
theorem lG{c:Expr}{body:List Stmt}{tc:TT}{tb:TS}(hp:PassesOwn (model X.prog X.w) X.A X.env X.xe)(hc:PT X c tc)(hb:iQ X body tb):PS X (.While c body [] pos) (Hb tc tb):=by intro pins s σ H D I h;obtain⟨W,⟨m0,w0⟩,turn⟩:=h;refine wpAny_While (codeAny_whileLoop (fun n s'=>∃σ' H',Inv X pins σ' H' s'/\W n σ' H') ?_ m0 ⟨σ,H,I,w0⟩);rintro n s1 ⟨σ1,H1,I1,w1⟩;refine uq hp (aI (hc pins s1 σ1 H1 _ I1 (turn n σ1 H1 w1)) fun b s2 ⟨H2,I2,q2⟩=>?_);cases b with
 |true=>obtain⟨N,hN,q2⟩:=q2;rw[aP rfl];refine uq hp (aI (hb pins s2 σ1 H2 _ I2 q2) fun f s3 q3=>?_);cases f with |next=>obtain⟨σ3,H3,I3,n3⟩:=q3;obtain⟨m',hm,w3⟩:=hN σ3 H3 n3;exact⟨m',hm,σ3,H3,I3,w3⟩ |cont=>obtain⟨σ3,H3,I3,n3⟩:=q3;obtain⟨m',hm,w3⟩:=hN σ3 H3 n3;exact⟨m',hm,σ3,H3,I3,w3⟩ |brk=>exact q3 |ret v=>exact q3
 |false=>rw[aV jz];exact G1 ⟨σ1,H2,I2,q2⟩
end
structure It where
 go:Nat->Hp->Prop
 yld:Nat->Hp->V->Hp->Prop
 stop:Nat->Hp->Prop
def jY(X:Cx)(pins:List (Addr×Obj))(H:Hp)(b:Addr):Prop:=H b=none/\b≠X.env.locals/\b∉X.fs/\(b∈X.ex\/X.s₀.heap.objs.size<=b)/\(∀x c,X.env.cells.lookup x=some c->c≠b)/\∀p∈X.pn++pins,p.1≠b
theorem Inv.mU{X:Cx}{pins:List (Addr×Obj)}{σ:St}{H H':Hp}{s:a5x}{b:Addr}(I:Inv X pins σ H s)(hb:s.heap.objs.size<=b)(hn:H' b=none):jY X pins H' b:=by
 refine⟨hn,Ge (fF I.lt hb),I.Y0 hb,.inr (gH I.sz hb),fun x c e z=>?_,fun p hp z=>?_⟩
 · obtain⟨v,q⟩:=I.cell x c e
   exact absurd (fF q.lt (by rw[z];exact hb)) (xq _)
 ·exact absurd (fF (ck (I.pin p hp).1) (by rw[z];exact hb)) (xq _)
structure Turn(P:a5y)(w:World)(K:a5w)(tg:Expr)(J:It)(fp:List Addr)(it:Addr)(tn:Nat->Heap->Prop):Prop where
 mem:it∈fp
 obj:∀i h,tn i h->∀b∈fp,∃o,h.get? b=some o/\∀v,o.data≠ .cell v
 keep:∀i h h',tn i h->(∀b∈fp,∀o,h.get? b=some o->h'.get? b=some o)->tn i h'
 item:∀(X:Cx),X.prog=P->X.w=w->X.K=K->X.calm=true->∀(i:Nat)(pins:List (Addr×Obj))(s:a5x)(σ:St)(H:Hp)(E:Value->a5x->Prop),Inv X pins σ H s->(∀b∈fp,jY X pins H b)->tn i s.heap->J.go i H->wpAny (model P w) X.A (pyNext (.ref it)) (fun r s1=>∃u,r=some u/\wpAny (model P w) X.A (letOwnedTupleGo tg (.ref it) u) (fun _ s2=>∃x H',Inv X pins σ H' s2/\RelV x u/\J.yld i H x H'/\tn (i+1) s2.heap/\∀b∈fp,H' b=none) E s1) E s
 done:∀(X:Cx),X.prog=P->X.w=w->X.K=K->X.calm=true->∀(i:Nat)(pins:List (Addr×Obj))(s:a5x)(σ:St)(H:Hp)(E:Value->a5x->Prop),Inv X pins σ H s->(∀b∈fp,jY X pins H b)->tn i s.heap->J.stop i H->wpAny (model P w) X.A (pyNext (.ref it)) (fun r s1=>r=none/\Inv X pins σ H s1) E s
 self:∀(A:a5A)(i:Nat)(s:a5x)(Q:Value->a5x->Prop)(E:Value->a5x->Prop),tn i s.heap->Q (.ref it) s->wpAny (model P w) A (pyIter (.ref it)) Q E s
abbrev TI:=St->Hp->(It->Hp->Prop)->Prop
def A2(X:Cx)(pins:List (Addr×Obj))(σ:St)(tg:Expr)(R:It->Hp->Prop)(zc:Value)(s2:a5x):Prop:=∃(it:Addr)(fp:List Addr)(tn:Nat->Heap->Prop)(J:It)(H':Hp),zc= .ref it/\Inv X pins σ H' s2/\Turn X.prog X.w X.K tg J fp it tn/\tn 0 s2.heap/\(∀b∈fp,jY X pins H' b)/\R J H'
def PI(X:Cx)(tg iter:Expr)(wi:TI):Prop:=∀(pins:List (Addr×Obj))(s:a5x)(σ:St)(H:Hp)(R:It->Hp->Prop),Inv X pins σ H s->wi σ H R->wpAny (model X.prog X.w) X.A (eval iter X.env) (fun v s1=>wpAny (model X.prog X.w) X.A (pyIter v) (A2 X pins σ tg R) X.xe s1) X.xe s
theorem tP{M:Model}{A:a5A}{E:Value->a5x->Prop}{s:a5x}{tg:Expr}{it:Addr}{u:Value}{o:Obj}{n:String}{vs:Array Value}{Q:Unit->a5x->Prop}(ho:s.heap.get? it=some o)(hc:o.cls= .type n)(hd:o.data= .fields vs) (hn:["enumerate","zip","dict_itemiterator","dict_reverseitemiterator","odict_iterator","itertools.zip_longest","itertools.pairwise"].contains n=false)(hQ:Q () s):wpAny M A (letOwnedTupleGo tg (.ref it) u) Q E s:=by unfold letOwnedTupleGo;cases tg<;>first |exact bT hQ |(cases u<;>first
        |exact bT hQ
        | (refine aF (wpAny_load ho ?_)
           rw[hc,hd];show wpAny M A (if(["enumerate","zip","dict_itemiterator","dict_reverseitemiterator","odict_iterator","itertools.zip_longest","itertools.pairwise"].contains n&&vs[0]? ==some (rawInt _))=true then _ else _) Q E s;rw[aV (by intro h;rw[hn,jd]at h;cases h)];exact bT hQ))
def uh(K:a5w)(a:Addr):It:=⟨fun i H=>∃xs x,aw K H a xs/\xs[i]? =some x,fun i H x H'=>H'=H/\∀xs,aw K H a xs->xs[i]? =some x,fun i H=>∃xs,aw K H a xs/\xs.length<=i⟩
def oQ(K:a5w)(a:Addr):It:=⟨fun i H=>∃xs x,aB K H a xs/\xs[i]? =some x,fun i H x H'=>H'=H/\∀xs,aB K H a xs->xs[i]? =some x,fun i H=>∃xs,aB K H a xs/\xs.length<=i⟩
def nk(lo:Int)(n:Nat):It:=⟨fun i _=>i<n,fun i H x H'=>H'=H/\x= .int (lo+i),fun i _=>n<=i⟩
theorem S8{P:a5y}{w:World}{K:a5w}{tg:Expr}(a it:Addr):Turn P w K tg (uh K a) [it] it (fun i h=>h.IsListIter it a i) where
 mem:=by simp
 obj:=fun i h st b hb=>by
  have e:b=it:=by simpa using hb
  subst e;obtain⟨o,e,c,d⟩:=st;exact⟨o,e,fun v z=>by rw[d]at z;cases z⟩
 keep:=fun i h h' st k=>st.at fun o e=>k it (by simp) o e
 item:=by intro X hP hw hK hc i pins s σ H E I hf st hg;subst hP hw hK;obtain⟨xs,x,hq,hx⟩:=hg;obtain⟨its,rv,p,hz⟩:=I.list hq;obtain⟨u,hu,ru⟩:=rv.get hx;obtain⟨f0,f1,f2,f3,f4,f5⟩:=hf it (by simp);refine wpAny_pyNext_list_item st p.isList (x:=u) (by simpa using hu) fun h' gK sb=>?_;have I1:Inv X pins σ H {s with heap:=h'}:=I.turned (t':=s.toks) (fun b o hb e=>(sb.2 b hb).trans e) f0 f1 f3 f4 f5;obtain⟨o,e,c,d⟩:=id gK;exact⟨u,rfl,tP (s:={s with heap:=h'}) e c d (by decide) ⟨x,H,I1,ru,⟨rfl,fun ys hy=>by rw[I.LC hy hq];exact hx⟩,gK,fun b hb=>(hf b hb).1⟩⟩
 done:=by intro X hP hw hK hc i pins s σ H E I hf st hg;subst hP hw hK;obtain⟨xs,hq,hx⟩:=hg;obtain⟨its,rv,p,hz⟩:=I.list hq;obtain⟨f0,f1,f2,f3,f4,f5⟩:=hf it (by simp);have hl:=rv.length;exact wpAny_pyNext_list_end (I.ok.hd hc) st p.isList (by simp;omega) fun h' eb=>⟨rfl,I.turned (t':=s.toks) (fun b o hb e=>eb b o hb e) f0 f1 f3 f4 f5⟩
 self:=fun _ _ _ _ _ st h=>wpAny_pyIter_listiter st h
theorem S4{P:a5y}{w:World}{K:a5w}{tg:Expr}(a it:Addr):Turn P w K tg (oQ K a) [it] it (fun i h=>h.IsTupleIter it a i) where
 mem:=by simp
 obj:=fun i h st b hb=>by
  have e:b=it:=by simpa using hb
  subst e;obtain⟨o,e,c,d⟩:=st;exact⟨o,e,fun v z=>by rw[d]at z;cases z⟩
 keep:=fun i h h' st k=>st.at fun o e=>k it (by simp) o e
 item:=by intro X hP hw hK hc i pins s σ H E I hf st hg;subst hP hw hK;obtain⟨xs,x,hq,hx⟩:=hg;obtain⟨its,rv,p,hz⟩:=I.tuple hq;obtain⟨u,hu,ru⟩:=rv.get hx;obtain⟨f0,f1,f2,f3,f4,f5⟩:=hf it (by simp);refine wpAny_pyNext_tuple_item st (show s.heap.IsTuple a its.toArray from p) (x:=u) (by simpa using hu) fun h' gK sb=>?_;have I1:Inv X pins σ H {s with heap:=h'}:=I.turned (t':=s.toks) (fun b o hb e=>(sb.2 b hb).trans e) f0 f1 f3 f4 f5;obtain⟨o,e,c,d⟩:=id gK;exact⟨u,rfl,tP (s:={s with heap:=h'}) e c d (by decide) ⟨x,H,I1,ru,⟨rfl,fun ys hy=>by rw[I.GW hy hq];exact hx⟩,gK,fun b hb=>(hf b hb).1⟩⟩
 done:=by intro X hP hw hK hc i pins s σ H E I hf st hg;subst hP hw hK;obtain⟨xs,hq,hx⟩:=hg;obtain⟨its,rv,p,hz⟩:=I.tuple hq;obtain⟨f0,f1,f2,f3,f4,f5⟩:=hf it (by simp);have hl:=rv.length;exact wpAny_pyNext_tuple_end (I.ok.hd hc) st (show s.heap.IsTuple a its.toArray from p) (by simp;omega) fun h' eb=>⟨rfl,I.turned (t':=s.toks) (fun b o hb e=>eb b o hb e) f0 f1 f3 f4 f5⟩
 self:=fun _ _ _ _ _ st h=>wpAny_pyIter_tupleiter st h
theorem S7{P:a5y}{w:World}{K:a5w}{tg:Expr}(it:Addr)(lo:Int)(n:Nat):Turn P w K tg (nk lo n) [it] it (fun i h=>IsRangeIter h it (lo+(i:Nat)*1) ((n:Int)-(i:Nat)) 1) where
 mem:=by simp
 obj:=fun i h st b hb=>by
  have e:b=it:=by simpa using hb
  subst e;exact⟨_,st,fun v z=>by have z':Data.fields _=Data.cell v:=z;cases z'⟩
 keep:=fun i h h' st k=>k it (by simp) _ st
 item:=by intro X hP hw hK hc i pins s σ H E I hf st hg;subst hP hw hK;obtain⟨f0,f1,f2,f3,f4,f5⟩:=hf it (by simp);have W:=Walks.range (prog:=X.prog) (w:=X.w) (I.ok.hd hc) it lo 1 n;refine W.item i s _ _ hg st fun v h' tk hv gK kk=>?_;obtain⟨t,rfl⟩:=hv;have I1:Inv X pins σ H {s with heap:=h',toks:=tk}:=I.turned (fun b o hb e=>kk b o (by simpa using hb) e) f0 f1 f3 f4 f5;refine⟨_,rfl,tP (s:={s with heap:=h',toks:=tk}) (n:="range_iterator") gK rfl rfl (by decide) ⟨.int (lo+i),H,I1,⟨t,?_⟩,⟨rfl,rfl⟩,gK,fun b hb=>(hf b hb).1⟩⟩;rw[Int.mul_one]
 done:=by intro X hP hw hK hc i pins s σ H E I hf st hg;subst hP hw hK;obtain⟨f0,f1,f2,f3,f4,f5⟩:=hf it (by simp);exact QN (I.ok.hd hc) st (by have:n<=i:=hg;omega) fun h' eb=>⟨rfl,I.turned (t':=s.toks) (fun b o hb e=>eb b o hb e) f0 f1 f3 f4 f5⟩
 self:=fun _ _ _ _ _ st h=>G0 st h
section
variable {X:Cx} {tg:Expr}
inductive QD(K:a5w)(R:It->Hp->Prop)(x:V)(H1:Hp):Prop |mk (a:_)(h0:x= .ref a)(h1:(∃xs,aw K H1 a xs))(h2:R (uh K a) H1):QD K R x H1
def M4(K:a5w)(tl:TE):TI:=fun σ H R=>tl σ H fun x H1=>QD K R x H1
inductive Qx(K:a5w)(R:It->Hp->Prop)(x:V)(H1:Hp):Prop |mk (a:_)(h0:x= .ref a)(h1:(∃xs,aB K H1 a xs))(h2:R (oQ K a) H1):Qx K R x H1
def M1(K:a5w)(tl:TE):TI:=fun σ H R=>tl σ H fun x H1=>Qx K R x H1
theorem VC{l:Expr}{tl:TE}(hl:PE X l tl):PI X tg l (M4 X.K tl):=by
 intro pins s σ H R I h;refine aI (hl pins s σ H _ I h) fun v s1 ⟨x,H1,I1,r1,q1⟩=>?_;obtain⟨a,e,⟨xs,hq⟩,q⟩:=q1;subst e;cases r1;obtain⟨its,rv,p,hz⟩:=I1.list hq;refine A7 p.isList ?_;refine⟨s1.heap.objs.size,[s1.heap.objs.size],_,_,H1,rfl,I1.kept (t':=s1.toks) fun b o e=>cg _ e,S8 a _,⟨_,dU _ rfl,rfl,rfl⟩,fun b hb=>?_,q⟩;have e:b=s1.heap.objs.size:=by simpa using hb
 subst e;exact I1.mU (bp _) (I1.hok.fresh (bp _))
theorem Vy{l:Expr}{tl:TE}(hl:PE X l tl):PI X tg l (M1 X.K tl):=by
 intro pins s σ H R I h;refine aI (hl pins s σ H _ I h) fun v s1 ⟨x,H1,I1,r1,q1⟩=>?_;obtain⟨a,e,⟨xs,hq⟩,q⟩:=q1;subst e;cases r1;obtain⟨its,rv,p,hz⟩:=I1.tuple hq;refine wpAny_pyIter_tuple (show s1.heap.IsTuple a its.toArray from p) ?_;refine⟨s1.heap.objs.size,[s1.heap.objs.size],_,_,H1,rfl,I1.kept (t':=s1.toks) fun b o e=>cg _ e,S4 a _,⟨_,dU _ rfl,rfl,rfl⟩,fun b hb=>?_,q⟩;have e:b=s1.heap.objs.size:=by simpa using hb
 subst e;exact I1.mU (bp _) (I1.hok.fresh (bp _))
theorem Ka{pins:List (Addr×Obj)}{σ:St}{H:Hp}{s:a5x}{R:It->Hp->Prop}{E:Value->a5x->Prop}{lo hi:Int}{t u v:Tok}{tk:Nat}(I:Inv X pins σ H s)(h1:-(2^62)<=lo)(h2:lo<2^62)(h3:-(2^62)<=hi)(h4:hi<2^62) (q:R (nk lo (hi-lo).toNat) H):wpAny (model X.prog X.w) X.A (pyIter (.ref s.heap.objs.size)) (A2 X pins σ tg R) E {s with heap:=s.heap.push {cls:=.type "range",data:=.fields #[.int lo t,.int hi u,.int 1 v]},toks:=tk}:=by
  refine wpAny_pyIter_range (IsRange.new ..) (small_one h1 h2 h3 h4) ?_;have I1:Inv X pins σ H {s with heap:=s.heap.push {cls:=.type "range",data:=.fields #[.int lo t,.int hi u,.int 1 v]},toks:=tk}:=I.kept fun b o e=>cg _ e;refine⟨(s.heap.push {cls:=.type "range",data:=.fields #[.int lo t,.int hi u,.int 1 v]}).objs.size,[(s.heap.push {cls:=.type "range",data:=.fields #[.int lo t,.int hi u,.int 1 v]}).objs.size],_,_,H,rfl,I1.kept (t':=tk) fun b o e=>cg _ e,S7 _ lo (hi-lo).toNat,?_,fun b hb=>?_,q⟩
  · have e1:lo+((0:Nat):Int)*1=lo:=by simp
    have e2:(((hi-lo).toNat:Nat):Int)-((0:Nat):Int)=Builtin.Range.rangeSize lo hi 1:=by rw[rangeSize_one];split<;>omega
    show IsRangeIter _ _ (lo+((0:Nat):Int)*1) ((((hi-lo).toNat:Nat):Int)-((0:Nat):Int)) 1;rw[e1,e2];exact dU _ rfl
  · have e:b=(s.heap.push {cls:=.type "range",data:=.fields #[.int lo t,.int hi u,.int 1 v]}).objs.size:=by simpa using hb
    subst e;exact I1.mU (bp _) (I1.hok.fresh (bp _))
inductive QB(R:It->Hp->Prop)(vs:List V)(H1:Hp):Prop |mk (j:Int)(h0:vs=[.int j])(h1:-(2^62)<=j)(h2:j<2^62)(h3:R (nk 0 j.toNat) H1):QB R vs H1
def Zx(ta:TA):TI:=fun σ H R=>ta σ H fun vs H1=>QB R vs H1
inductive QA(R:It->Hp->Prop)(vs:List V)(H1:Hp):Prop |mk (i:Int)(j:Int)(h0:vs=[.int i,.int j])(h1:(-(2^62)<=i/\i<2^62/\-(2^62)<=j/\j<2^62))(h2:R (nk i (j-i).toNat) H1):QA R vs H1
def Zw(ta:TA):TI:=fun σ H R=>ta σ H fun vs H1=>QA R vs H1
theorem vj{a:Expr}{ta:TA}{p pos:Pos}(hg:Gl X "range")(hm:X.mg "range"=none)(ha:PA X [a] ta)(hs:starEach [a] X.env=[(false,eval a X.env)]:=by rfl):PI X tg (.Call (.Name "range" p) [a] [] pos) (Zx ta):=by intro pins s σ H R I h;refine Call_ (mD I hg hm boot_range (uu (aI (ha pos pins s σ H _ I h) fun us s1 ⟨vs,H1,I1,r1,q1⟩=>?_) hs rfl));obtain⟨j,e,q1,q2,q⟩:=q1;subst e;cases r1 with |cons r rr=>cases rr;obtain⟨t,rfl⟩:=r;exact call_range_1 (Ka I1 (by omega) (by omega) q1 q2 (by simpa using q))
theorem Ks{a b:Expr}{ta:TA}{p pos:Pos}(hg:Gl X "range")(hm:X.mg "range"=none)(ha:PA X [a,b] ta)(hs:starEach [a,b] X.env=[(false,eval a X.env),(false,eval b X.env)]:=by rfl)(ir:starEach [b] X.env=[(false,eval b X.env)]:=by rfl): PI X tg (.Call (.Name "range" p) [a,b] [] pos) (Zw ta):=by intro pins s σ H R I h;refine Call_ (mD I hg hm boot_range (uu (aI (ha pos pins s σ H _ I h) fun us s1 ⟨vs,H1,I1,r1,q1⟩=>?_) (by rw[hs,ir]) (by rw[ir];rfl)));obtain⟨i,j,e,⟨q1,q2,q3,q4⟩,q⟩:=q1;subst e;cases r1 with |cons r rr=>cases rr with |cons r' rr=>cases rr;obtain⟨t,rfl⟩:=r;obtain⟨t',rfl⟩:=r';exact call_range_2 (Ka I1 q1 q2 q3 q4 q)
def SA(wi:TI)(g:TG)(tb:TS):TS:=fun D σ H=>wi σ H fun J H1=>∃W:Nat->Nat->St->Hp->Prop,(∃m,W 0 m σ H1)/\∀i m σ H,W i m σ H->(J.stop i H/\D.nx σ H)\/(J.go i H/\∃N:St->Hp->Prop,(∀σ' H',N σ' H'->∃m',m'<m/\W (i+1) m' σ' H')/\∀x H',J.yld i H x H'->g x σ H' fun σ2 H2=>tb {D with nx:=N,ct:=N,bk:=D.nx} σ2 H2)
def sf(fp:List Addr)(h:Heap):List (Addr×Obj):=fp.filterMap fun b=>(h.get? b).map fun o=>(b,o)
theorem sS{fp:List Addr}{h:Heap}{b:Addr}{o:Obj}(hb:b∈fp)(e:h.get? b=some o):(b,o)∈sf fp h:=List.mem_filterMap.mpr ⟨b,hb,by rw[e];rfl⟩
theorem XJ{fp:List Addr}{h:Heap}{p:Addr×Obj}(hp:p∈sf fp h):p.1∈fp/\h.get? p.1=some p.2:=by obtain⟨b,hb,e⟩:=List.mem_filterMap.mp hp;cases q:h.get? b with |none=>rw[q]at e;cases e |some o=>rw[q]at e;have e':(b,o)=p:=eG e;subst e';exact⟨hb,q⟩
theorem Inv.pinned{pins:List (Addr×Obj)}{σ:St}{H:Hp}{s:a5x}{fp:List Addr}(I:Inv X pins σ H s)(hf:∀b∈fp,jY X pins H b)(ho:∀b∈fp,∃o,s.heap.get? b=some o/\∀v,o.data≠ .cell v):Inv X (pins++sf fp s.heap) σ H s:=I.Kq fun p hp=>(xt.mp hp).elim (fun z=>I.pin p (kf _ z)) fun z=>by obtain⟨hb,e⟩:=XJ z;obtain⟨f0,f1,f2,_⟩:=hf p.1 hb;obtain⟨o,e',d⟩:=ho p.1 hb;rw[e]at e';cases e';exact⟨e,f0,f1,f2,d⟩
theorem Inv.uE{pins pl:List (Addr×Obj)}{σ:St}{H:Hp}{s:a5x}(I:Inv X (pins++pl) σ H s):Inv X pins σ H s:=I.Kq fun p hp=>I.pin p (kf _ (List.mem_append_left _ hp))
theorem jF{iter:Expr}{body:List Stmt}{wi:TI}{g:TG}{tb:TS}{pos:Pos}(hp:PassesOwn (model X.prog X.w) X.A X.env X.xe)(hc:X.calm=true)(hi:PI X tg iter wi)(hg:PG X tg g)(hb:iQ X body tb) (hs:∀x,foldedSetIterable iter X.env x=pure x:=by intro _;rfl):PS X (.For tg iter body [] pos) (SA wi g tb):=by
  intro pins s σ H D I h;refine wpAny_For (aI (hi pins s σ H _ I h) fun v s1 h1=>aI h1 fun zc s2 h2=>?_) hs;obtain⟨it,fp,tn,J,H2,e,I2,T,pF,f2,W,⟨m0,w0⟩,turn⟩:=h2;subst e;have kC:∀{H':Hp},(∀b∈fp,H' b=none)->∀b∈fp,jY X pins H' b:=fun hn b hb=>⟨hn b hb,(f2 b hb).2⟩;refine codeAny_forLoop_any (fun n s'=>∃i σ' H',Inv X pins σ' H' s'/\tn i s'.heap/\(∀b∈fp,H' b=none)/\W i n σ' H') ?_ m0 ⟨0,σ,H2,I2,pF,fun b hb=>(f2 b hb).1,w0⟩;rintro n s3 ⟨i,σ3,H3,I3,Hr,MX,w3⟩;rcases turn i n σ3 H3 w3 with⟨stop,qn⟩|⟨go,N,hN,step⟩
  · refine uq hp (aI (T.done X rfl rfl rfl hc i pins s3 σ3 H3 X.xe I3 (kC MX) Hr stop) fun r s4 ⟨hr,I4⟩=>?_)
    subst hr;exact G1 ⟨σ3,H3,I4,qn⟩
  · refine uq hp (aI (T.item X rfl rfl rfl hc i pins s3 σ3 H3 X.xe I3 (kC MX) Hr go) fun r s4 ⟨u,hr,h4⟩=>?_)
    subst hr;refine uq hp (aI h4 fun _ s5 ⟨x,H5,I5,r5,y5,me,qF⟩=>?_);have I5':=I5.pinned (kC qF) (T.obj _ _ me);refine uq hp (aI (hg _ s5 σ3 H5 x u _ I5' r5 (step x H5 y5)) fun _ s6 ⟨σ6,H6,I6,q6⟩=>?_);refine uq hp (aI (hb _ s6 σ6 H6 _ I6 q6) fun f s7 q7=>?_);have again:∀{σ7:St}{H7:Hp},Inv X (pins++sf fp s5.heap) σ7 H7 s7->N σ7 H7->∃m,m<n/\∃i σ' H',Inv X pins σ' H' s7/\tn i s7.heap/\(∀b∈fp,H' b=none)/\W i m σ' H':=fun{σ7 H7} I7 n7=>by obtain⟨m',hm,w7⟩:=hN σ7 H7 n7;refine⟨m',hm,i+1,σ7,H7,I7.uE,T.keep _ _ _ me fun b hb o e=>(I7.pin (b,o) (kf _ (kf _ (sS hb e)))).1,fun b hb=>?_,w7⟩;obtain⟨o,e,d⟩:=T.obj _ _ me b hb;exact(I7.pin (b,o) (kf _ (kf _ (sS hb e)))).2.1
    cases f with |next=>obtain⟨σ7,H7,I7,n7⟩:=q7;exact again I7 n7 |cont=>obtain⟨σ7,H7,I7,n7⟩:=q7;exact again I7 n7 |brk=>obtain⟨σ7,H7,I7,q7⟩:=q7;exact⟨σ7,H7,I7.uE,q7⟩ |ret v=>obtain⟨x7,σ7,H7,I7,r7,q7⟩:=q7;exact⟨x7,σ7,H7,I7.uE,r7,q7⟩
end
theorem EI{K:a5w}{a:Addr}{xs:List V}{g:TG}{tb:TS}{D:Ends}{σ:St}{H:Hp}(Pv:Nat->St->Hp->Prop)(h0:Pv 0 σ H)(hl:∀i σ H,i<=xs.length->Pv i σ H->aw K H a xs) (hs:∀i x σ H,xs[i]? =some x->Pv i σ H->g x σ H fun σ2 H2=>tb {D with nx:=Pv (i+1),ct:=Pv (i+1),bk:=D.nx} σ2 H2)(hd:∀σ H,Pv xs.length σ H->D.nx σ H): ∃W:Nat->Nat->St->Hp->Prop,(∃m,W 0 m σ H)/\∀i m σ H,W i m σ H->((uh K a).stop i H/\D.nx σ H)\/((uh K a).go i H/\∃N:St->Hp->Prop,(∀σ' H',N σ' H'->∃m',m'<m/\W (i+1) m' σ' H')/\∀x H',(uh K a).yld i H x H'->g x σ H' fun σ2 H2=>tb {D with nx:=N,ct:=N,bk:=D.nx} σ2 H2):=by
  refine⟨fun i m σ H=>m=xs.length-i/\i<=xs.length/\Pv i σ H,⟨xs.length,by simp,fV _,h0⟩,?_⟩;rintro i m σ H ⟨rfl,hi,p⟩;have q:=hl i σ H hi p;by_cases bZ:i<xs.length
  · refine .inr ⟨⟨xs,xs[i],q,by simp[bZ]⟩,Pv (i+1),fun σ' H' p'=>⟨xs.length-(i+1),by omega,rfl,bZ,p'⟩,fun x H' y=>?_⟩
    obtain⟨e,y⟩:=y;subst e;exact hs i x σ _ (y xs q) p
  · have e:i=xs.length:=by omega
    subst e;exact .inl ⟨⟨xs,q,bp _⟩,hd σ H p⟩
theorem a24{K:a5w}{a:Addr}{xs:List V}{g:TG}{tb:TS}{D:Ends}{σ:St}{H:Hp}(Pv:Nat->St->Hp->Prop)(h0:Pv 0 σ H)(hl:∀i σ H,i<=xs.length->Pv i σ H->aB K H a xs) (hs:∀i x σ H,xs[i]? =some x->Pv i σ H->g x σ H fun σ2 H2=>tb {D with nx:=Pv (i+1),ct:=Pv (i+1),bk:=D.nx} σ2 H2)(hd:∀σ H,Pv xs.length σ H->D.nx σ H): ∃W:Nat->Nat->St->Hp->Prop,(∃m,W 0 m σ H)/\∀i m σ H,W i m σ H->((oQ K a).stop i H/\D.nx σ H)\/((oQ K a).go i H/\∃N:St->Hp->Prop,(∀σ' H',N σ' H'->∃m',m'<m/\W (i+1) m' σ' H')/\∀x H',(oQ K a).yld i H x H'->g x σ H' fun σ2 H2=>tb {D with nx:=N,ct:=N,bk:=D.nx} σ2 H2):=by
  refine⟨fun i m σ H=>m=xs.length-i/\i<=xs.length/\Pv i σ H,⟨xs.length,by simp,fV _,h0⟩,?_⟩;rintro i m σ H ⟨rfl,hi,p⟩;have q:=hl i σ H hi p;by_cases bZ:i<xs.length
  · refine .inr ⟨⟨xs,xs[i],q,by simp[bZ]⟩,Pv (i+1),fun σ' H' p'=>⟨xs.length-(i+1),by omega,rfl,bZ,p'⟩,fun x H' y=>?_⟩
    obtain⟨e,y⟩:=y;subst e;exact hs i x σ _ (y xs q) p
  · have e:i=xs.length:=by omega
    subst e;exact .inl ⟨⟨xs,q,bp _⟩,hd σ H p⟩
theorem wD{lo:Int}{n:Nat}{g:TG}{tb:TS}{D:Ends}{σ:St}{H:Hp}(Pv:Nat->St->Hp->Prop)(h0:Pv 0 σ H) (hs:∀i σ H,i<n->Pv i σ H->g (.int (lo+i)) σ H fun σ2 H2=>tb {D with nx:=Pv (i+1),ct:=Pv (i+1),bk:=D.nx} σ2 H2)(hd:∀σ H,Pv n σ H->D.nx σ H): ∃W:Nat->Nat->St->Hp->Prop,(∃m,W 0 m σ H)/\∀i m σ H,W i m σ H->((nk lo n).stop i H/\D.nx σ H)\/((nk lo n).go i H/\∃N:St->Hp->Prop,(∀σ' H',N σ' H'->∃m',m'<m/\W (i+1) m' σ' H')/\∀x H',(nk lo n).yld i H x H'->g x σ H' fun σ2 H2=>tb {D with nx:=N,ct:=N,bk:=D.nx} σ2 H2):=by
  refine⟨fun i m σ H=>m=n-i/\i<=n/\Pv i σ H,⟨n,by simp,fV _,h0⟩,?_⟩;rintro i m σ H ⟨rfl,hi,p⟩;by_cases bZ:i<n
  · refine .inr ⟨bZ,Pv (i+1),fun σ' H' p'=>⟨n-(i+1),by omega,rfl,bZ,p'⟩,fun x H' y=>?_⟩
    obtain⟨e,y⟩:=y;subst e y;exact hs i σ _ bZ p
  · have e:i=n:=by omega
    subst e;exact .inl ⟨bp _,hd σ H p⟩
theorem kY{c:TT}{tb:TS}{D:Ends}{σ:St}{H:Hp}(Pv:St->Hp->Prop)(μ:St->Hp->Nat)(h0:Pv σ H) (hs:∀σ H,Pv σ H->c σ H fun b H1=>if b=true then tb {D with nx:=fun σ' H'=>Pv σ' H'/\μ σ' H'<μ σ H,ct:=fun σ' H'=>Pv σ' H'/\μ σ' H'<μ σ H,bk:=D.nx} σ H1 else D.nx σ H1) (mono:∀σ H Q Q',(∀b H1,Q b H1->Q' b H1)->c σ H Q->c σ H Q'):Hb c tb D σ H:=by refine⟨fun m σ H=>m=μ σ H/\Pv σ H,⟨_,rfl,h0⟩,?_⟩;rintro m σ H ⟨rfl,p⟩;refine mono σ H _ _ (fun b H1 q=>?_) (hs σ H p);cases b with |true=>exact⟨_,fun σ' H' ⟨p',l⟩=>⟨_,l,rfl,p'⟩,q⟩ |false=>exact q
abbrev R2:=V->V->Hp->VK->Prop
def cN(X:Cx)(f:Value->Value->Sem Value)(r:R2):Prop:=∀(pins:List (Addr×Obj))(s:a5x)(σ:St)(H:Hp)(x y:V)(v u:Value)(Q:VK),Inv X pins σ H s->RelV x v->RelV y u->r x y H Q->wpAny (model X.prog X.w) X.A (f v u) (EP X pins σ Q) X.xe s
def FK(X:Cx)(f:Value->Sem Value)(r:V->Hp->VK->Prop):Prop:=∀(pins:List (Addr×Obj))(s:a5x)(σ:St)(H:Hp)(x:V)(v:Value)(Q:VK),Inv X pins σ H s->RelV x v->r x H Q->wpAny (model X.prog X.w) X.A (f v) (EP X pins σ Q) X.xe s
def ek(X:Cx)(f:Value)(r:List V->Hp->VK->Prop):Prop:=∀(pins:List (Addr×Obj))(s:a5x)(σ:St)(H:Hp)(xs:List V)(us:List Value)(Q:VK),Inv X pins σ H s->Vals xs us->r xs H Q->wpAny (model X.prog X.w) X.A (call f us) (EP X pins σ Q) X.xe s
def a44(X:Cx)(r:V->Hp->(Bool->Hp->Prop)->Prop):Prop:=∀(pins:List (Addr×Obj))(s:a5x)(σ:St)(H:Hp)(x:V)(v:Value)(Q:Bool->Hp->Prop),Inv X pins σ H s->RelV x v->r x H Q->wpAny (model X.prog X.w) X.A (truthy v) (TP X pins σ Q) X.xe s
def xS(r:R2)(ta tb:TE):TE:=fun σ H Q=>ta σ H fun x H1=>tb σ H1 fun y H2=>r x y H2 Q
def Si(r:V->Hp->VK->Prop)(ta:TE):TE:=fun σ H Q=>ta σ H fun x H1=>r x H1 Q
inductive Qp(C:Int->Int->Prop)(g:Int->Int->V)(x:V)(y:V)(H:Hp)(Q:VK):Prop |mk (i:_)(j:_)(h0:x= .int i)(h1:y= .int j)(h2:C i j)(h3:Q (g i j) H):Qp C g x y H Q
def rI(C:Int->Int->Prop)(g:Int->Int->V):R2:=fun x y H Q=>Qp C g x y H Q
inductive Qo(g:Int->Int->V)(x:V)(y:V)(H:Hp)(Q:VK):Prop |mk (i:_)(j:_)(h0:x= .int i)(h1:y= .int j)(h2:Q (g i j) H):Qo g x y H Q
def jh(g:Int->Int->V):R2:=fun x y H Q=>Qo g x y H Q
inductive Qb(g:Int->V)(x:V)(H:Hp)(Q:VK):Prop |mk (i:_)(h0:x= .int i)(h1:Q (g i) H):Qb g x H Q
def rU(g:Int->V):V->Hp->VK->Prop:=fun x H Q=>Qb g x H Q
section
variable {X:Cx}{a b c:Expr}{ta tb tc:TE}{pos:Pos}
theorem Fs(ha:PE X a ta)(hb:PE X b tb){pins:List (Addr×Obj)}{s:a5x}{σ:St}{H:Hp}{R:V->V->Hp->Prop}(I:Inv X pins σ H s) (h:ta σ H fun x H1=>tb σ H1 fun y H2=>R x y H2){Q:Value->a5x->Prop}{f:Value->Value->Sem Value} (hf:∀v u s2 x y H2,Inv X pins σ H2 s2->RelV x v->RelV y u->R x y H2->wpAny (model X.prog X.w) X.A (f v u) Q X.xe s2): wpAny (model X.prog X.w) X.A (eval a X.env) (fun v s₁=>wpAny (model X.prog X.w) X.A (eval b X.env) (fun u s₂=>wpAny (model X.prog X.w) X.A (f v u) Q X.xe s₂) X.xe s₁) X.xe s:=by refine aI (ha pins s σ H _ I h) fun v s1 ⟨x,H1,I1,r1,q1⟩=>?_;refine aI (hb pins s1 σ H1 _ I1 q1) fun u s2 ⟨y,H2,I2,r2,q2⟩=>?_;exact hf v u s2 x y H2 I2 r1 r2 q2
theorem au{op:Operator}{r:R2}(ho:cN X (binaryOp op) r)(ha:PE X a ta)(hb:PE X b tb):PE X (.BinOp a op b pos) (xS r ta tb):=by intro pins s σ H Q I h;exact wpAny_BinOp (Fs ha hb I h fun v u s2 x y H2 I2 rx ry q=>ho pins s2 σ H2 x y v u Q I2 rx ry q)
theorem vk{op:UnaryOp}{r:V->Hp->VK->Prop}(ho:FK X (unaryOp op) r)(ha:PE X a ta):PE X (.UnaryOp op a pos) (Si r ta):=by intro pins s σ H Q I h;exact UnaryOp_ (aI (ha pins s σ H _ I h) fun v s1 ⟨x,H1,I1,r1,q1⟩=>ho pins s1 σ H1 x v Q I1 r1 q1)
theorem vp{f:Value->Value->Sem Value}{C:Int->Int->Prop}{g:Int->Int->Int} (rule:∀(i j:Int)(t u:Tok)(s:a5x)(Q:Value->a5x->Prop)(E:Value->a5x->Prop),C i j->Q (.int (g i j) s.toks) {s with toks:=s.toks+1}->wpAny (model X.prog X.w) X.A (f (.int i t) (.int j u)) Q E s): cN X f (rI C fun i j=>.int (g i j)):=by intro pins s σ H x y v u Q I rx ry h;obtain⟨i,j,rfl,rfl,hc,q⟩:=h;obtain⟨t,rfl⟩:=rx;obtain⟨t',rfl⟩:=ry;exact rule i j t t' s _ _ hc ⟨.int (g i j),H,I.tok _,⟨_,rfl⟩,q⟩
theorem KQ{f:Value->Value->Sem Value}{g:Int->Int->Int} (rule:∀(i j:Int)(t u:Tok)(s:a5x)(Q:Value->a5x->Prop)(E:Value->a5x->Prop),Q (.int (g i j) s.toks) {s with toks:=s.toks+1}->wpAny (model X.prog X.w) X.A (f (.int i t) (.int j u)) Q E s): cN X f (jh fun i j=>.int (g i j)):=by intro pins s σ H x y v u Q I rx ry h;obtain⟨i,j,rfl,rfl,q⟩:=h;obtain⟨t,rfl⟩:=rx;obtain⟨t',rfl⟩:=ry;exact rule i j t t' s _ _ ⟨.int (g i j),H,I.tok _,⟨_,rfl⟩,q⟩
theorem sm{f:Value->Value->Sem Value}{g:Int->Int->Bool} (rule:∀(i j:Int)(t u:Tok)(s:a5x)(Q:Value->a5x->Prop)(E:Value->a5x->Prop),Q (.bool (g i j)) s->wpAny (model X.prog X.w) X.A (f (.int i t) (.int j u)) Q E s): cN X f (jh fun i j=>.bl (g i j)):=by intro pins s σ H x y v u Q I rx ry h;obtain⟨i,j,rfl,rfl,q⟩:=h;obtain⟨t,rfl⟩:=rx;obtain⟨t',rfl⟩:=ry;exact rule i j t t' s _ _ ⟨.bl (g i j),H,I,rfl,q⟩
def a4f(i j:Int):Prop:=0<=j/\j<=1000000/\i.natAbs<2^64
theorem cF:cN X (binaryOp .Add) (jh fun i j=>.int (i+j)):=KQ fun _ _ _ _ _ _ _ q=>add_int q
theorem fu:cN X (binaryOp .Sub) (jh fun i j=>.int (i-j)):=KQ fun _ _ _ _ _ _ _ q=>sub_int q
theorem mx:cN X (binaryOp .Mod) (rI (fun _ j=>0<j) fun i j=>.int (i%j)):=vp fun i j _ _ _ _ _ hc q=>by have h1:(0:Int)<j:=hc;exact mod_int' (by omega) (by rw[Int.fmod_eq_emod_of_nonneg i (by omega)];exact q)
theorem sj:cN X (binaryOp .Pow) (rI a4f fun i j=>.int (i^j.toNat)):=vp fun _ _ _ _ _ _ _ hc q=>pow_int_small hc.1 hc.2.1 hc.2.2 q
theorem RV{f:Value->Sem Value}{g:Int->Int} (rule:∀(i:Int)(t:Tok)(s:a5x)(Q:Value->a5x->Prop)(E:Value->a5x->Prop),Q (.int (g i) s.toks) {s with toks:=s.toks+1}->wpAny (model X.prog X.w) X.A (f (.int i t)) Q E s): FK X f (rU fun i=>.int (g i)):=by intro pins s σ H x v Q I rx h;obtain⟨i,rfl,q⟩:=h;obtain⟨t,rfl⟩:=rx;exact rule i t s _ _ ⟨.int (g i),H,I.tok _,⟨_,rfl⟩,q⟩
theorem uF:FK X (unaryOp .USub) (rU fun i=>.int (-i)):=RV fun _ _ _ _ _ q=>neg_int q
end
section
variable {X:Cx}{a b c:Expr}{ta tb tc:TE}{pos:Pos}
theorem EL{pins:List (Addr×Obj)}{σ:St}{H:Hp}{s:a5x}{Q:VK}{k k':Bool}(I:Inv X pins σ H s)(q:Q (.bl k) H)(e:k=k'):EP X pins σ Q (.bool k') s:=by subst e;exact⟨.bl k,H,I,rfl,q⟩
theorem iH:cN X (compareOp .Lt) (jh fun i j=>.bl (decide (i<j))):=sm fun _ _ _ _ _ _ _ q=>lt_int q
theorem o7:cN X (compareOp .LtE) (jh fun i j=>.bl (decide (i<=j))):=sm fun _ _ _ _ _ _ _ q=>le_int q
theorem pT:cN X (compareOp .Gt) (jh fun i j=>.bl (decide (j<i))):=sm fun _ _ _ _ _ _ _ q=>gt_int q
theorem Dq:cN X (compareOp .GtE) (jh fun i j=>.bl (decide (j<=i))):=sm fun _ _ _ _ _ _ _ q=>ge_int q
theorem Wb:cN X (compareOp .In) (fun x y H Q=>∃i j,x= .str i/\y= .str j/\Q (.bl (!(Builtin.Str.occurrences j i 0 j.length 1).isEmpty)) H):=by intro pins s σ H x y v u Q I rx ry h;obtain⟨i,j,rfl,rfl,q⟩:=h;obtain⟨t,rfl⟩:=rx;obtain⟨t',rfl⟩:=ry;exact in_str (EL I q rfl)
theorem KO:cN X (compareOp .Is) (fun x y H Q=>y= .aW/\Q (.bl (decide (x= .aW))) H):=by intro pins s σ H x y v u Q I rx ry h;obtain⟨rfl,q⟩:=h;cases ry;refine is_none_gen (EL I q ?_);cases x<;>first |(cases rx;rfl) |(obtain⟨t,rfl⟩:=rx;rfl)
theorem vo:cN X (compareOp .IsNot) (fun x y H Q=>y= .aW/\Q (.bl (!decide (x= .aW))) H):=by intro pins s σ H x y v u Q I rx ry h;obtain⟨rfl,q⟩:=h;cases ry;refine isnot_none_gen (EL I q ?_);cases x<;>first |(cases rx;rfl) |(obtain⟨t,rfl⟩:=rx;rfl)
theorem cN.or{f:Value->Value->Sem Value}{r r':R2}(h:cN X f r)(h':cN X f r'):cN X f (fun x y H Q=>r x y H Q\/r' x y H Q):=by
 intro pins s σ H x y v u Q I rx ry q;rcases q with q|q
 ·exact h pins s σ H x y v u Q I rx ry q
 ·exact h' pins s σ H x y v u Q I rx ry q
theorem aX(b:Expr){op:CmpOp}(h:op≠ .In:=by decide)(h2:op≠ .NotIn:=by decide):behindInMarks op b=false:=by
 have e1:(op==CmpOp.In)=false:=by cases op<;>first|rfl|exact absurd rfl h
 have e2:(op==CmpOp.NotIn)=false:=by cases op<;>first|rfl|exact absurd rfl h2
 cases b<;>simp[behindInMarks,e1,e2]
theorem e9{op:CmpOp}{r:R2}(ho:cN X (compareOp op) r)(ha:PE X a ta)(hb:PE X b tb)(hm:behindInMarks op b=false):PE X (.Compare a [op] [b] pos) (xS r ta tb):=by intro pins s σ H Q I h;exact wpAny_Compare1 (Fs ha hb I h fun v u s2 x y H2 I2 rx ry q=>ho pins s2 σ H2 x y v u Q I2 rx ry q) hm
inductive OD(Q:Bool->Hp->Prop)(x:V)(H':Hp):Prop |mk (k:_)(h0:x= .bl k)(h1:Q k H'):OD Q x H'
def Hd(t:TE):TT:=fun σ H Q=>t σ H fun x H'=>OD Q x H'
theorem bK{op:CmpOp}{r:R2}(ho:cN X (compareOp op) r)(ha:PE X a ta)(hb:PE X b tb)(hm:behindInMarks op b=false):PT X (.Compare a [op] [b] pos) (Hd (xS r ta tb)):=by intro pins s σ H Q I h;refine wpAny_isTrue_Compare1 (aI (ha pins s σ H _ I h) fun v s1 ⟨x,H1,I1,r1,q1⟩=>aI (hb pins s1 σ H1 _ I1 q1) fun u s2 ⟨y,H2,I2,r2,q2⟩=>aI (ho pins s2 σ H2 x y v u _ I2 r1 r2 q2) fun c s3 ⟨z,H3,I3,r3,k,e,q3⟩=>?_) hm;subst e;cases r3;exact ny ⟨H3,I3,q3⟩
inductive OJ(r':R2)(tc:TE)(σ:St)(Q:VK)(y:V)(z:V)(H3:Hp):Prop |mk (k:_)(h0:z= .bl k)(h1:(if k=true then tc σ H3 fun w' H4=>r' y w' H4 Q else Q (.bl false) H3)):OJ r' tc σ Q y z H3
def Hi(r r':R2)(ta tb tc:TE):TE:=fun σ H Q=>ta σ H fun x H1=>tb σ H1 fun y H2=>r x y H2 fun z H3=>OJ r' tc σ Q y z H3
theorem Dj{op pU:CmpOp}{r r':R2}(ho:cN X (compareOp op) r)(kK:cN X (compareOp pU) r')(ha:PE X a ta)(hb:PE X b tb)(hc:PE X c tc) (hm:lastMarks [op,pU] [b,c]=false:=by with_unfolding_all rfl):PE X (.Compare a [op,pU] [b,c] pos) (Hi r r' ta tb tc):=by intro pins s σ H Q I h;refine Compare_chain (aI (ha pins s σ H _ I h) fun v s1 ⟨x,H1,I1,r1,q1⟩=>chain_link (aI (hb pins s1 σ H1 _ I1 q1) fun u s2 ⟨y,H2,I2,r2,q2⟩=>aI (ho pins s2 σ H2 x y v u _ I2 r1 r2 q2) fun d s3 ⟨z,H3,I3,r3,k,e,q3⟩=>?_)) hm;subst e;cases r3;refine ny ?_;cases k with |false=>exact ite_ff ⟨.bl false,H3,I3,rfl,q3⟩ |true=>exact ite_tt (chain_last (aI (hc pins s3 σ H3 _ I3 q3) fun w' s4 ⟨z',H4,I4,r4,q4⟩=>kK pins s4 σ H4 y z' u w' Q I4 r2 r4 q4))
theorem Vl{op pU:CmpOp}{r r':R2}(ho:cN X (compareOp op) r)(kK:cN X (compareOp pU) r')(ha:PE X a ta)(hb:PE X b tb)(hc:PE X c tc) (hm:lastMarks [op,pU] [b,c]=false:=by with_unfolding_all rfl):PT X (.Compare a [op,pU] [b,c] pos) (Hd (Hi r r' ta tb tc)):=by intro pins s σ H Q I h;refine isTrue_chain (aI (ha pins s σ H _ I h) fun v s1 ⟨x,H1,I1,r1,q1⟩=>test_link (aI (hb pins s1 σ H1 _ I1 q1) fun u s2 ⟨y,H2,I2,r2,q2⟩=>aI (ho pins s2 σ H2 x y v u _ I2 r1 r2 q2) fun d s3 ⟨z,H3,I3,r3,k,e,q3⟩=>?_)) hm;subst e;cases r3;refine ny ?_;cases k with |false=>obtain⟨k',e',q'⟩:=q3;cases e';exact ite_ff ⟨H3,I3,q'⟩ |true=>refine ite_tt (test_last (aI (hc pins s3 σ H3 _ I3 q3) fun w' s4 ⟨z',H4,I4,r4,q4⟩=>aI (kK pins s4 σ H4 y z' u w' _ I4 r2 r4 q4) fun d' s5 ⟨z2,H5,I5,r5,k2,e2,q5⟩=>?_));subst e2;cases r5;exact ny ⟨H5,I5,q5⟩
def FL(K:a5w)(x:V)(H:Hp)(k:Bool):Prop:=match x with | .aW=>k=false | .bl b=>k=b | .int i=>k=(i !=0) | .str y=>y.length<=sizeLine/\k=((y.length:Int) !=0) | .ub y=>y.size<=sizeLine/\k=((y.size:Int) !=0) | .ref p=>(∃xs,aw K H p xs/\k= !xs.isEmpty)\/(∃xs,aB K H p xs/\k= !xs.isEmpty)\/∃aA,H p=some (.dK aA)/\k= !aA.isEmpty |_=>False
theorem Ze{κ:Type}{aA:List (κ×V)}{vs:List (κ×Value)}(r:KV aA vs):(!vs.isEmpty)= !aA.isEmpty:=by cases r<;>rfl
theorem LV{xs:List V}{its:List Value}(r:Vals xs its):(!its.toArray.isEmpty)= !xs.isEmpty:=by cases r<;>simp
theorem t9:(sizeLine:Nat)<2^63:=by rw[sizeLine_eq];decide
theorem Sb:a44 X (fun x H Q=>∃k,FL X.K x H k/\Q k H):=by intro pins s σ H x v Q I rx h;obtain⟨k,e,q⟩:=h;have hl:=t9;have hs:sizeLine=16777216:=sizeLine_eq;cases x with |aW=>cases rx;have e':k=false:=e;subst e';exact truthy_none ⟨H,I,q⟩ |bl b=>cases rx;have e':k=b:=e;subst e';exact ny ⟨H,I,q⟩ |int i=>obtain⟨t,rfl⟩:=rx;have e':k=(i !=0):=e;subst e';exact PySem.P.truthy_int ⟨H,I,q⟩ |str y=>obtain⟨t,rfl⟩:=rx;obtain⟨hy,e'⟩:y.length<=sizeLine/\k=((y.length:Int) !=0):=e;subst e';exact PySem.P.truthy_str (by omega) ⟨H,I.tok _,q⟩ |ub y=>obtain⟨t,rfl⟩:=rx;obtain⟨hy,e'⟩:y.size<=sizeLine/\k=((y.size:Int) !=0):=e;subst e';exact PySem.W.truthy_bytes (by omega) ⟨H,I.tok _,q⟩ |ref p=>
   cases rx;have e':(∃xs,aw X.K H p xs/\k= !xs.isEmpty)\/(∃xs,aB X.K H p xs/\k= !xs.isEmpty)\/∃aA,H p=some (.dK aA)/\k= !aA.isEmpty:=e;rcases e' with⟨xs,hx,e'⟩|⟨xs,hx,e'⟩|⟨aA,hx,e'⟩
   · subst e'
     obtain⟨its,r,pl,hz⟩:=I.list hx;have hlen:=r.length;exact wpAny_truthy_list pl.isList (by simp only[df];omega) ⟨H,I.tok _,by rw[LV r];exact q⟩
   · subst e'
     obtain⟨its,r,pl,hz⟩:=I.tuple hx;have hlen:=r.length;exact truthy_tuple pl (by simp only[df];omega) ⟨H,I.tok _,by rw[LV r];exact q⟩
   · subst e'
     obtain⟨hz,hS,vs,r,m⟩:aA.length<=sizeLine/\(p==sysModules)=false/\∃vs,KV aA vs/\s.heap.DictOf (iJ X.prog X.w) p vs:=I.hok p _ hx;have hlen:aA.length=vs.length:=Paired.length r;exact wpAny_truthy_dict hS m (by omega) ⟨H,I.tok _,by rw[Ze r];exact q⟩ |_=>exact(show False from e).elim
theorem Vk(ha:PE X a ta)(he:∀whole,isTrue a X.env whole=(do let v<-whole;standAt a.pos;holding [v] (truthy v))): PT X a (fun σ H Q=>ta σ H fun x H'=>∃k,FL X.K x H' k/\Q k H'):=by intro pins s σ H Q I h;exact isTrue_plain (aI (ha pins s σ H _ I h) fun v s1 ⟨x,H1,I1,r1,q1⟩=>Sb pins s1 σ H1 x v Q I1 r1 q1) (he _)
theorem Wh:cN X (binaryOp .Add) (fun x y H Q=>∃i j,x= .str i/\y= .str j/\i.length+j.length<=sizeLine/\Q (.str (i++j)) H):=by intro pins s σ H x y v u Q I rx ry h;obtain⟨i,j,rfl,rfl,hz,q⟩:=h;obtain⟨t,rfl⟩:=rx;obtain⟨t',rfl⟩:=ry;exact add_str (fun t' tk=>⟨.str (i++j),H,I.tok _,⟨_,rfl⟩,q⟩) hz
theorem vals1{x:V}{us:List Value}(r:Vals [x] us):∃u,us=[u]/\RelV x u:=by cases r with |cons r1 r2=>cases r2;exact⟨_,rfl,r1⟩
theorem vals2{x y:V}{us:List Value}(r:Vals [x,y] us):∃u w',us=[u,w']/\RelV x u/\RelV y w':=by cases r with |cons r1 r2=>cases r2 with |cons r3 r4=>cases r4;exact⟨_,_,rfl,r1,r3⟩
theorem lW:ek X (.builtin "abs") (fun xs H Q=>∃i,xs=[.int i]/\Q (.int (if i<0 then-i else i)) H):=by intro pins s σ H xs us Q I r h;obtain⟨i,rfl,q⟩:=h;obtain⟨u,rfl,t,rfl⟩:=vals1 r;exact call_abs_int fun u tk=>⟨.int (if i<0 then-i else i),H,I.tok _,⟨_,rfl⟩,q⟩
theorem NW(hc:X.calm=true):ek X (.builtin "max") (fun xs H Q=>∃i j,xs=[.int i,.int j]/\Q (.int (if j>i then j else i)) H):=by
 intro pins s σ H xs us Q I r h;obtain⟨i,j,rfl,q⟩:=h;obtain⟨u,w',rfl,⟨t,rfl⟩,⟨t',rfl⟩⟩:=vals2 r;refine max_two_ints (I.ok.hd hc) fun h' tk k=>⟨_,H,I.kept k,?_,q⟩;by_cases hj:j>i
 ·rw[aP hj,aP hj];exact⟨_,rfl⟩
 ·rw[aV hj,aV hj];exact⟨_,rfl⟩
theorem Fp(hc:X.calm=true):ek X (.builtin "min") (fun xs H Q=>∃i j,xs=[.int i,.int j]/\Q (.int (if j<i then j else i)) H):=by
 intro pins s σ H xs us Q I r h;obtain⟨i,j,rfl,q⟩:=h;obtain⟨u,w',rfl,⟨t,rfl⟩,⟨t',rfl⟩⟩:=vals2 r;refine min_two_ints (I.ok.hd hc) fun h' tk k=>⟨_,H,I.kept k,?_,q⟩;by_cases hj:j<i
 ·rw[aP hj,aP hj];exact⟨_,rfl⟩
 ·rw[aV hj,aV hj];exact⟨_,rfl⟩
theorem NX:ek X (.type "int") (fun xs H Q=>(∃i,xs=[.int i]/\Q (.int i) H)\/∃k,xs=[.bl k]/\Q (.int (if k then 1 else 0)) H):=by
 intro pins s σ H xs us Q I r h;rcases h with⟨i,rfl,q⟩|⟨k,rfl,q⟩
 · obtain⟨u,rfl,t,rfl⟩:=vals1 r
   exact call_int_int ⟨.int i,H,I,⟨_,rfl⟩,q⟩
 · obtain⟨u,rfl,r1⟩:=vals1 r
   cases r1;exact call_int_bool ⟨.int (if k then 1 else 0),H,I.tok _,⟨_,rfl⟩,q⟩
end
end L2
namespace L2
open PySem PySem.Spec PyProof.Rows
structure qS(h:Heap)(x dx C:Addr)(mA:Str->Option Value):Prop where
 obj:h.get? x=some (PySem.W.instObj C dx)
 ns:h.Ns1 dx mA
 ne:dx≠x
theorem YH{h:Heap}{dx:Addr}{mA:Str->Option Value}(n:h.Ns1 dx mA):∃od,h.get? dx=some od/\∀name,PySem.W.lookIn name od=some (mA name):=by
 obtain⟨o,es,ep,ho,hd,hk,_,hm⟩:=n;refine⟨o,ho,fun name=>?_⟩;have e:=hm name;unfold nsFind findBy at e;rw[<-Array.find?_toList]at e;unfold PySem.W.lookIn;rw[hd];dsimp only;split
 · rename_i y q
   rw[q]at e;exact congrArg some e
 · rename_i q
   rw[q]at e;have a:es.toList.any (·.refKey)=false:=by rw[List.any_eq_false];intro y hy;obtain⟨z,t,a0i⟩:=hk y (Array.mem_toList_iff.mp hy);simp[DictEntry.refKey,a0i]
   have a':¬es.toList.any (·.refKey)=true:=by rw[a];exact jz
   rw[aV a'];exact congrArg some e
theorem qS.look{h:Heap}{x dx C:Addr}{mA:Str->Option Value}(I:qS h x dx C mA):∃od,PySem.W.InstAt h x (PySem.W.instObj C dx) C (some od)/\∀name,PySem.W.lookIn name od=some (mA name):=let⟨od,ho,hl⟩:=YH I.ns
 ⟨od,⟨I.obj,rfl,rfl,ho⟩,hl⟩
section
variable {prog:a5y}{w:World}{A:a5A}{E:Value->a5x->Prop}{s:a5x}{K:a5w}{x dx C f:Addr}{mA:Str->Option Value}{name:Str}{v:Value}
theorem get_map{expr:Bool}{Q:Value->a5x->Prop}(X:K.In s.heap)(I:qS s.heap x dx C mA)(hg:PySem.W.plainGet K C name=true)(hh:PySem.W.hasDictIn K C=true) (ha:PySem.W.findIn K (.ref C) name=some none)(hv:mA name=some v)(ZG:PySem.W.handedIn v=true)(h:Q v {s with toks:=s.toks+1}): wpAny (model prog w) A (getAttr (.ref x) name expr) Q E s:=by obtain⟨od,J,hl⟩:=I.look;exact PySem.W.get_value X J (QT hg).1 (PySem.W.findObj_own hh ha rfl (by rw[hl,hv])) ZG h
theorem a1Z{pl:Sem Bool}{Q:Value×List Value->a5x->Prop}(X:K.In s.heap)(I:qS s.heap x dx C mA)(hg:PySem.W.plainGet K C name=true) (hf:PySem.W.findIn K (.ref C) name=some (some (.ref f)))(ht:PySem.W.isFn K (.ref f)=true)(hv:mA name=none)(h:Q (.ref f,[.ref x]) s): wpAny (model prog w) A (getMethod (.ref x) name pl) Q E s:=by obtain⟨od,J,hl⟩:=I.look;exact PySem.W.method_fn X J (QT hg).1 (QT hg).2 hf (fT.mp ht) (by show(PySem.W.lookIn name od).map (·.isSome)=some false;rw[hl,hv];rfl) h
theorem TK{ns:List Str}{Q:Unit->a5x->Prop}(X:K.In s.heap)(I:qS s.heap x dx C mA) (hs:PySem.W.findIn K (.ref C) "__setattr__"=some (some (.builtin "object.__setattr__")))(hp:PySem.W.plainOver K C=true)(ht:PySem.W.takerIn K C name=some none)(hh:PySem.W.hasDictIn K C=true) (hw:PySem.Within mA ns)(hsz:ns.length<=sizeLine) (h:∀h',qS h' x dx C (fun y=>if y=name then some v else mA y)->Heap.SameBut dx s.heap h'->Q () {s with heap:=h',toks:=s.toks+2}): wpAny (model prog w) A (setAttr (.ref x) name v) Q E s:=by obtain⟨od,J,hl⟩:=I.look;refine PySem.W.set_plain X J hs (PySem.W.osa_open (s:={s with toks:=s.toks+1}) (r:=none) X J hp ht fun b=>?_);obtain⟨cd,hc,tL⟩:=PySem.W.any_some hh;have hx:s.heap.get? x=some ⟨.ref C,some dx,.plain,#[]⟩:=I.obj;refine aF (bT (aF (aF (wpAny_loadPart hx (aF (PySem.W.Looks.here (s:={s with toks:=s.toks+1}) (PySem.W.looks_clsIn X hc) ?_))))));rw[tL];refine bT (a:=some dx) (aF (bT (aF ?_)));refine wpAny_nsSet1 (s:={s with toks:=s.toks+1}) I.ns fun h' tH ir=>?_;obtain⟨oD,esD,epD,hoD,hdD,hcD⟩:=tH.count (PySem.Within.cons name v hw);refine aF (wpAny_lookBehind hoD (by rw[hdD];exact pastItsLine_dict (gH hcD (by rw[jw];omega))) ?_);exact bT (h _ ⟨(ir.2 _ (cC I.ne)).trans I.obj,tH,I.ne⟩ ir)
theorem Ys{R:Result->a5x->Prop}{vs:List Value}{kw:List (Str×Value)}(X:K.In s.heap)(hm:PySem.W.makesIn K C=true) (hi:PySem.W.findIn K (.ref C) "__init__"=some (some (.ref f)))(hf:PySem.W.typeIn K (.ref f)=some (.type "function")) (h:codeAny (model prog w) (A.under (.builtin "type.__call__" ⟨.ref C::vs,kw⟩)) (.call (.ref f) ⟨.ref (s.heap.objs.size+1)::vs,kw⟩) (PySem.W.InitBack (s.heap.objs.size+1) R) {s with heap:=(s.heap.push PySem.W.emptyDict).push (PySem.W.instObj C s.heap.objs.size)}): codeAny (model prog w) A (.call (.ref C) ⟨vs,kw⟩) R s:=by obtain⟨hh,g,d,t,os⟩:=s;exact PySem.W.make_core (PySem.W.makes_of X hm) (PySem.W.looks_findIn X hi) (fun self=>PySem.W.bind_fn X self hf) (.inl rfl) h
end
def hJ(f:Str)(v:V):List (Str×V)->List (Str×V) |[]=>[(f,v)] |(g,x)::r=>if g=f then(g,v)::r else(g,x)::hJ f v r
theorem Lx(f g:Str)(v:V):∀fs:List (Str×V),(hJ f v fs).lookup g=if g=f then some v else fs.lookup g
  |[]=>by
    show List.lookup g [(f,v)]=_;by_cases h:g=f
    · have hb:(g==f)=true:=fT.mpr h
      simp only[List.lookup,hb,aP h]
    · have hb:(g==f)=false:=Aa.mpr h
      simp only[List.lookup,hb,aV h] |(k,x)::r=>by
    have ih:=Lx f g v r;rw[show hJ f v ((k,x)::r)=(if k=f then(k,v)::r else(k,x)::hJ f v r)from rfl];by_cases hk:k=f
    · rw[aP hk]
      by_cases h:g=k
      · have hb:(g==k)=true:=fT.mpr h
        simp only[List.lookup,hb,aP (h.trans hk)]
      · have hb:(g==k)=false:=Aa.mpr h
        simp only[List.lookup,hb,aV (fun e:g=f=>h (e.trans hk.symm))]
    · rw[aV hk]
      by_cases h:g=k
      · have hb:(g==k)=true:=fT.mpr h
        simp only[List.lookup,hb,aV (fun e:g=f=>hk (h.symm.trans e))]
      · have hb:(g==k)=false:=Aa.mpr h
        simp only[List.lookup,hb];exact ih
theorem DX(f:Str)(v:V):∀fs:List (Str×V),f∈(hJ f v fs).map (·.1)/\∀g,g∈fs.map (·.1)->g∈(hJ f v fs).map (·.1)
  |[]=>⟨by simp[hJ],fun g h=>by simp at h⟩ |(k,x)::r=>by
    obtain⟨i1,i2⟩:=DX f v r;rw[show hJ f v ((k,x)::r)=(if k=f then(k,v)::r else(k,x)::hJ f v r)from rfl];by_cases hk:k=f
    · rw[aP hk]
      subst hk;exact⟨by simp,fun g h=>by simpa using h⟩
    · rw[aV hk]
      refine⟨?_,fun g h=>?_⟩
      · rw[nM]
        exact ux _ i1
      · rw[nM]at h⊢
        rcases bW.mp h with e|e
        ·exact bW.mpr (.inl e)
        ·exact ux _ (i2 g e)
theorem LD(f:Str)(v:V):∀fs:List (Str×V),(hJ f v fs).length<=fs.length+1
  |[]=>by simp[hJ] |(k,x)::r=>by
    have ih:=LD f v r;rw[show hJ f v ((k,x)::r)=(if k=f then(k,v)::r else(k,x)::hJ f v r)from rfl];by_cases hk:k=f
    ·rw[aP hk,jw,jw];omega
    ·rw[aV hk,jw,jw];omega
theorem iP.some_of{v:V}{o:Option Value}(r:iP (some v) o):∃u,o=some u/\RelV v u:=by cases o with |none=>exact(show False from r).elim |some u=>exact⟨u,rfl,r⟩
theorem iP.none_of{o:Option Value}(r:iP none o):o=none:=by cases o with |none=>rfl |some u=>exact(show False from r).elim
theorem a0T{v:V}{u:Value}(r:RelV v u):PySem.W.handedIn u=true:=by cases v with |aW=>cases(show u=Value.none from r);rfl |bl b=>cases(show u=Value.bool b from r);rfl |int i=>obtain⟨t,e⟩:=(show∃t,u=Value.int i t from r);cases e;rfl |str x=>obtain⟨t,e⟩:=(show∃t,u=Value.str x t from r);cases e;rfl |ub b=>obtain⟨t,e⟩:=(show∃t,u=Value.bytes b t from r);cases e;rfl |zy b=>obtain⟨t,e⟩:=(show∃t,u=Value.float b t from r);cases e;rfl |ref a=>cases(show u=Value.ref a from r);rfl |ty n=>cases(show u=Value.type n from r);rfl
section
variable {P:a5y}{w:World}{H H':Hp}{h h':Heap}{a C dx:Addr}{fs lQ:List (Str×V)}
theorem E4(hok:du P w H h)(e:H a=some (.ins C dx fs)):∃mA,qS h a dx C mA/\(∀f,iP (fs.lookup f) (mA f))/\PySem.Within mA (fs.map (·.1))/\fs.length<=1000/\H dx=some (.own a):=by obtain⟨d,z,ne,ob,mA,n,r,q⟩:=(show fN P w H h a (.ins C dx fs)from hok a _ e);exact⟨mA,⟨ob,n,ne⟩,r,q,z,d⟩
end
structure jt(K:a5w)(C:Addr):Prop where
 pg:PySem.W.plainGet K C Str.empty=true
 hd:PySem.W.hasDictIn K C=true
 po:PySem.W.plainOver K C=true
 sa:PySem.W.findIn K (.ref C) "__setattr__"=some (some (.builtin "object.__setattr__"))
theorem jt.get{K:a5w}{C:Addr}(c:jt K C)(f:Str):PySem.W.plainGet K C f=true:=c.pg
def iy(K:a5w)(C:Addr)(f:Str):Prop:=PySem.W.findIn K (.ref C) f=some none
theorem iy.Sh{K:a5w}{C:Addr}{f:Str}(n:iy K C f):PySem.W.takerIn K C f=some none:=by unfold PySem.W.takerIn;rw[show PySem.W.findIn K (.ref C) f=some none from n];rfl
structure Meth(K:a5w)(C:Addr)(m:Str)(f:Addr):Prop where
 at_:PySem.W.findIn K (.ref C) m=some (some (.ref f))
 fn:PySem.W.isFn K (.ref f)=true
 kp:PySem.W.keepIn K (.ref f)=true
section
variable {X:Cx}{pins:List (Addr×Obj)}{σ:St}{H:Hp}{s:a5x}{a C dx:Addr}{fs:List (Str×V)}{f:Str}{v:V}{A:a5A}{E:Value->a5x->Prop}
theorem MM{b:Bool}{Q:Value->a5x->Prop}(I:Inv X pins σ H s)(e:H a=some (.ins C dx fs))(c:jt X.K C)(n:iy X.K C f)(l:fs.lookup f=some v) (h:∀u s',Inv X pins σ H s'->RelV v u->Q u s'):wpAny (model X.prog X.w) A (getAttr (.ref a) f b) Q E s:=by obtain⟨mA,O,r,_,_,_⟩:=E4 I.hok e;obtain⟨u,hu,ru⟩:=iP.some_of (v:=v) (o:=mA f) (by rw[<-l];exact r f);exact get_map I.iK O (c.get f) c.hd n hu (a0T ru) (h u _ (I.tok _) ru)
theorem ML{m:Str}{g:Addr}{pl:Sem Bool}{Q:Value×List Value->a5x->Prop}(I:Inv X pins σ H s)(e:H a=some (.ins C dx fs))(c:jt X.K C)(k:Meth X.K C m g)(l:fs.lookup m=none) (h:Q (.ref g,[.ref a]) s):wpAny (model X.prog X.w) A (getMethod (.ref a) m pl) Q E s:=by obtain⟨mA,O,r,_,_,_⟩:=E4 I.hok e;have hn:mA m=none:=iP.none_of (by rw[<-l];exact r m);exact a1Z I.iK O (c.get m) k.at_ k.fn hn h
theorem IB{y:V}{u:Value}{Q:Unit->a5x->Prop}(I:Inv X pins σ H s)(e:H a=some (.ins C dx fs))(c:jt X.K C)(n:iy X.K C f)(hl:fs.length<1000)(ry:RelV y u) (h:∀s',Inv X pins σ (upd H a (.ins C dx (hJ f y fs))) s'->Q () s'):wpAny (model X.prog X.w) A (setAttr (.ref a) f u) Q E s:=by
  obtain⟨mA,O,r,wi,_,ho⟩:=E4 I.hok e;have hz:(fs.map (·.1)).length<=sizeLine:=by rw[bS,sizeLine_eq];omega
  refine TK I.iK O c.sa c.po n.Sh c.hd wi hz fun h' O' sb=>h _ ?_;have hd:∃o,h'.get? dx=some o:=let⟨o,_,_,e',_⟩:=O'.ns;⟨o,e'⟩;refine I.write (x:=a) (e:=dx) (by rw[e];exact True.intro) (.inr ho) (fun b q hb z=>(sb.2 b hb).trans z) hd ?_;refine⟨by rw[az O.ne];exact ho,?_,O.ne,O'.obj,_,O'.ns,fun g=>?_,fun g hg=>?_⟩
  ·have:=LD f y fs;omega
  · show iP ((hJ f y fs).lookup g) (if g=f then some u else mA g)
    rw[Lx];by_cases q:g=f
    ·rw[aP q,aP q];exact ry
    ·rw[aV q,aV q];exact r g
  · by_cases q:g=f
    ·rw[q];exact(DX f y fs).1
    · refine(DX f y fs).2 g (wi g fun z=>hg ?_)
      show(if g=f then some u else mA g)=none;rw[aV q];exact z
theorem Inv.made(I:Inv X pins σ H s):Inv X pins σ (upd (upd H s.heap.objs.size (.own (s.heap.objs.size+1))) (s.heap.objs.size+1) (.ins C s.heap.objs.size [])) {s with heap:=(s.heap.push PySem.W.emptyDict).push (PySem.W.instObj C s.heap.objs.size)}:=by
  have e1:(s.heap.push PySem.W.emptyDict).get? s.heap.objs.size=some PySem.W.emptyDict:=dU s.heap rfl;have e2:((s.heap.push PySem.W.emptyDict).push (PySem.W.instObj C s.heap.objs.size)).get? (s.heap.objs.size+1)=some (PySem.W.instObj C s.heap.objs.size):=by have:=dU (s.heap.push PySem.W.emptyDict) (o:=PySem.W.instObj C s.heap.objs.size) rfl;rwa [p5]at this
  have e3:(s.heap.push PySem.W.emptyDict).Ns s.heap.objs.size (fun _=>none):=⟨PySem.W.emptyDict,#[],_,e1,rfl,(fun e he=>absurd he (by simp)),fun _=>rfl⟩;have I1:=I.laid (a:=s.heap.objs.size) (o:=.own (s.heap.objs.size+1)) (h':=s.heap.push PySem.W.emptyDict) (t':=s.toks) (fun b u q=>cg _ q) (bp _) ⟨_,e1⟩;refine I1.laid (a:=s.heap.objs.size+1) (o:=.ins C s.heap.objs.size []) (t':=s.toks) (fun b u q=>cg _ q) (Nat.le_of_eq (p5 _ _)) ?_;have ne:s.heap.objs.size≠s.heap.objs.size+1:=eV (QY _);refine⟨by rw[az ne,aO],fV _,ne,e2,fun _=>none,(Heap.Ns1.of_empty e3).at fun o q=>cg _ q,fun _=>True.intro,fun y hy=>absurd rfl hy⟩
theorem a3I{prog:a5y}{w:World}{env:Env}{e:Expr}{f:Str}{pos:Pos}{s:a5x}{Q:Value->a5x->Prop}(hb:attributeBase e f env (eval e env)=eval e env) (h:wpAny (model prog w) A (eval e env) (fun o s₁=>wpAny (model prog w) A (getAttr o f true) Q E s₁) E s):wpAny (model prog w) A (eval (.Attribute e f pos) env) Q E s:=Attribute_any_ h (by rw[arm_eval_Attribute,hb])
end
def a4c(X:Cx)(op:Operator)(rd:V->V->Hp->VK->Prop):Prop:=∀(pins:List (Addr×Obj))(s:a5x)(σ:St)(H:Hp)(x y:V)(u v:Value)(Q:VK),Inv X pins σ H s->RelV x u->RelV y v->rd x y H Q->wpAny (model X.prog X.w) X.A (inplaceOp op u v) (EP X pins σ Q) X.xe s
section
variable {X:Cx}{o e value:Expr}{f:Str}{pos pos' pA:Pos}{ta tv:TE}
end
section
variable {X:Cx}{pins:List (Addr×Obj)}{σ:St}{H:Hp}{s:a5x}{A:a5A}{E:Value->a5x->Prop}{Q:Value->a5x->Prop}{c:Value}{b:Bool}
end
end L2
namespace L2
open PySem PySem.Spec PyProof.Rows
structure cX(k:Nat)(A:a5A):Prop where
 hd:A.handled=none
 dp:A.depth+3*k+5<recursionLimit
 un:A.units+16*k+200<cLine
theorem cX.mono{j k:Nat}{A:a5A}(r:cX k A)(h:j<=k):cX j A:=⟨r.hd,by have:=r.dp;omega,by have:=r.un;omega⟩
theorem cX.deeper{k:Nat}{A:a5A}(r:cX (k+1) A)(env:Env):cX k (A.deeper env):=⟨r.hd,by have:=r.dp;show A.depth+1+3*k+5<_;omega,by have:=r.un;show A.units+3+16*k+200<_;omega⟩
theorem Yt{A:a5A}{C:Addr}{us:List Value}{kw:List (Str×Value)}:(A.under (.builtin "type.__call__" ⟨.ref C::us,kw⟩)).depth=A.depth+1:=by first|rfl|simp[Around.under,Code.weight,Code.isCreation,Code.isGuard,Code.isCaller,Code.frames,Code.isFrame,guardIds]
theorem Yr{A:a5A}{C:Addr}{us:List Value}{kw:List (Str×Value)}:(A.under (.builtin "type.__call__" ⟨.ref C::us,kw⟩)).units=A.units+1:=by first|rfl|simp[Around.under,Code.cUnits,Code.frames,Code.isFrame]
theorem cX.make{k:Nat}{A:a5A}(r:cX (k+1) A)(C:Addr)(us:List Value)(kw:List (Str×Value)):cX k (A.under (.builtin "type.__call__" ⟨.ref C::us,kw⟩)):=⟨r.hd,by have:=r.dp;rw[Yt];omega,by have:=r.un;rw[Yr];omega⟩
theorem cX.depth{k:Nat}{A:a5A}(r:cX k A):A.depth<recursionLimit:=by have:=r.dp;omega
theorem cX.units{k:Nat}{A:a5A}(r:cX k A):A.units+64<cLine:=by have:=r.un;omega
def nS:TA:=fun _ H Q=>Q [] H
def SG(ta:TE)(tr:TA):TA:=fun σ H Q=>ta σ H fun x H1=>tr σ H1 fun xs H2=>Q (x::xs) H2
section
variable {X:Cx}{e:Expr}{es:List Expr}{te:TE}{t:TA}{pos:Pos}
theorem af:PA X [] nS:=fun _ _ _ _ H Q I h=>Calls.spliced_nil ⟨[],H,I,.nil,h⟩
theorem aa(ha:PE X e te)(hr:PA X es t)(hs:starEach (e::es) X.env=(false,eval e X.env)::starEach es X.env:=by rfl):PA X (e::es) (SG te t):=by intro pos pins s σ H Q I h;rw[hs];show wpAny _ _ (spliced ((false,eval e X.env)::backTo pos (starEach es X.env))) _ _ s;refine Calls.spliced_cons (aI (ha pins s σ H _ I h) fun u s1 ⟨x,H1,I1,r1,q1⟩=>?_);exact aI (hr pos pins s1 σ H1 _ I1 q1) fun us s2 ⟨xs,H2,I2,r2,q2⟩=>⟨x::xs,H2,I2,.cons r1 r2,q2⟩
end
abbrev Sp:=List V->Hp->VK->XK->Prop
abbrev kU:=List Env->Hp->a5x->XK->Value->a5x->Prop
structure qT(P:a5y)(w:World)(K:a5w)(mg:Str->Option Value)(base:Heap)(A:a5A)(outer:List Env)(s:a5x)(H:Hp):Prop where
 frames:A.frames=some outer
 mod:Mod K mg base
 bs:∀b o,base.get? b=some o->s.heap.get? b=some o/\H b=none
 bsz:base.objs.size<=s.heap.objs.size
 jU:s.heap.FunFrames base outer
 frf:∀b∈jq outer,H b=none
 hok:du P w H s.heap
 bare:AllBare s.gens
def CE(outer:List Env)(P:a5y)(w:World)(H:Hp)(s:a5x)(Q:VK)(u:Value)(s':a5x):Prop:=∃v H',s'.os=s.os/\AllBare s'.gens/\Un (jq outer) [] H H' s.heap s'.heap/\du P w H' s'.heap/\RelV v u/\Q v H'
def CR(CX:kU)(outer:List Env)(P:a5y)(w:World)(H:Hp)(s:a5x)(Q:VK)(E:XK)(r:Result)(s':a5x):Prop:=match r with | .ok (.ret u)=>CE outer P w H s Q u s' | .ok _=>False | .error e=>CX outer H s E e s'
structure iR(P:a5y)(w:World)(K:a5w)(mg:Str->Option Value)(base:Heap)(CX:kU)(k:Nat)(f:Addr)(fd:FuncData)(ps:List Str)(sp:Sp):Prop where
 len:∀vs H Q E,sp vs H Q E->vs.length=ps.length
 run:∀(A:a5A)(outer:List Env)(s:a5x)(H:Hp)(args:Args)(us:List Value)(vs:List V)(Q:VK)(E:XK),cX k A->qT P w K mg base A outer s H->BindsTo s fd args (ps.zip us)->Vals vs us->sp vs H Q E->codeAny (model P w) A (.call (.ref f) args) (CR CX outer P w H s Q E) s
theorem qT.make{P:a5y}{w:World}{K:a5w}{mg:Str->Option Value}{base:Heap}{A:a5A}{outer:List Env}{s:a5x}{H:Hp}(e:qT P w K mg base A outer s H)(C:Addr)(us:List Value)(kw:List (Str×Value)): qT P w K mg base (A.under (.builtin "type.__call__" ⟨.ref C::us,kw⟩)) outer s H:=⟨by first|exact e.frames|(simpa[Around.under,Code.envs,Code.isFrame,pushEnvs]using e.frames),e.mod,e.bs,e.bsz,e.jU,e.frf,e.hok,e.bare⟩
section
variable {X:Cx}{pins:List (Addr×Obj)}{σ:St}{H:Hp}{s s':a5x}
theorem Inv.Nb(I:Inv X pins σ H s):qT X.prog X.w X.K X.mg X.base X.A X.stack s H:=⟨I.ok.frames,I.ok.mod,I.bs,gH I.ok.bsz I.sz,I.stack,I.Hn,I.hok,I.bare⟩
theorem Inv.after{Q:VK}{u:Value}(I:Inv X pins σ H s)(h:CE X.stack X.prog X.w H s Q u s'):EP X pins σ Q u s':=by obtain⟨v,H',os,bare,un,hok,r,q⟩:=h;obtain⟨hh,g,d,t,fe⟩:=s';obtain rfl:fe=s.os:=os;exact⟨v,H',I.call (h':=hh) (g':=g) (d':=d) (t':=t) (ch:=[]) un hok bare (fun b z=>absurd z (by simp)),r,q⟩
end
def SH(sp:Sp)(fC:List V)(E:XK)(t:TA):TE:=fun σ H Q=>t σ H fun vs H1=>sp (vs++fC) H1 Q E
inductive xj(C:Addr)(m:Str)(sp:Sp)(fC:List V)(E:XK)(t:TA)(σ:St)(Q:VK)(x:V)(H1:Hp):Prop |mk (a:_)(dx:_)(fs:_)(h0:x= .ref a)(h1:H1 a=some (.ins C dx fs))(h2:fs.lookup m=none)(h3:t σ H1 fun vs H2=>sp (x::(vs++fC)) H2 Q E):xj C m sp fC E t σ Q x H1
def Hf(C:Addr)(m:Str)(sp:Sp)(fC:List V)(E:XK)(ta:TE)(t:TA):TE:=fun σ H Q=>ta σ H fun x H1=>xj C m sp fC E t σ Q x H1
def Sx(C:Addr)(sp:Sp)(fC:List V)(E:XK)(t:TA):TE:=fun σ H Q=>t σ H fun vs H1=>∀x dx,H1 x=none->H1 dx=none->dx≠x->sp (.ref x::(vs++fC)) (upd (upd H1 dx (.own x)) x (.ins C dx [])) (fun v H2=>v= .aW/\Q (.ref x) H2) E
def Binds(K:a5w)(fd:FuncData)(ps:List Str)(ds:List Value):Prop:=∀(s:a5x)(us:List Value),K.In s.heap->(us++ds).length=ps.length->BindsTo s fd ⟨us,[]⟩ (ps.zip (us++ds))
theorem Binds.all{K:a5w}{fd:FuncData}{ps:List Str}(h:∀us:List Value,us.length=ps.length->bindArgs fd ⟨us,[]⟩=pure (ps.zip us)):Binds K fd ps []:=fun s us _ hl=>by rw[Gr]at hl⊢;exact .of_eq (h us hl)
def Passes(CX:kU)(X:Cx)(E:XK):Prop:=∀(pins:List (Addr×Obj))(σ:St)(H:Hp)(s:a5x)(e:Value)(s':a5x),Inv X pins σ H s->CX X.stack H s E e s'->X.xe e s'
section
variable {X:Cx}{CX:kU}{k:Nat}{f C:Addr}{fd:FuncData}{ps:List Str}{sp:Sp}{fC:List V}{ds:List Value}{E:XK}{x m:Str}{p pos apos:Pos}{e o:Expr}{es:List Expr}{ta:TE}{t:TA}
theorem CJ{pins:List (Addr×Obj)}{σ:St}{H:Hp}{s:a5x}{Q:VK}{us:List Value}{vs:List V}(F:iR X.prog X.w X.K X.mg X.base CX k f fd ps sp)(hr:cX k X.A)(hb:Binds X.K fd ps ds)(hd:Vals fC ds)(hx:Passes CX X E) (I:Inv X pins σ H s)(r:Vals vs us)(h:sp (vs++fC) H Q E):wpAny (model X.prog X.w) X.A (call (.ref f) us) (EP X pins σ Q) X.xe s:=by
  have r2:Vals (vs++fC) (us++ds):=r.append hd;have hl:(us++ds).length=ps.length:=by rw[<-r2.length];exact F.len _ _ _ _ h
  refine wpAny_call (codeAny_mono (F.run X.A X.stack s H ⟨us,[]⟩ (us++ds) (vs++fC) Q E hr I.Nb (hb s us I.iK hl) r2 h) fun r s' hq=>?_);cases r with |error e=>exact hx pins σ H s e s' I hq |ok fl=>cases fl with |ret u=>exact I.after hq |next=>exact False.elim hq |brk=>exact False.elim hq |cont=>exact False.elim hq
theorem VM(F:iR X.prog X.w X.K X.mg X.base CX k f fd ps sp)(hr:cX k X.A)(hg:Gl X x)(hm:X.mg x=some (.ref f))(hk:PySem.W.keepIn X.K (.ref f)=true)(hb:Binds X.K fd ps ds)(hd:Vals fC ds)(hx:Passes CX X E) (ha:PA X (e::es) t)(jP:(x==("__debug__":Str))=false:=by decide)(he:starEach (e::es) X.env=(false,eval e X.env)::starEach es X.env:=by rfl)(gU:(backTo pos (starEach es X.env)).any (·.1)=false:=by rfl): PE X (.Call (.Name x p) (e::es) [] pos) (SH sp fC E t):=by intro pins s σ H Q I h;refine G2 (DU I hg hm ?_ jP);refine QU (h₀:=X.base) I.ok.mod.kin hk (aI (ha pos pins s σ H _ I h) fun us s1 ⟨vs,H1,I1,r,q⟩=>⟨I1.iK,?_⟩) he gU;exact CJ F hr hb hd hx I1 r q
theorem VH{pl:Sem Bool}(he:PE X o ta)(c:jt X.K C)(hm:Meth X.K C m f)(F:iR X.prog X.w X.K X.mg X.base CX k f fd ps sp)(hr:cX k X.A)(hb:Binds X.K fd ps ds)(hd:Vals fC ds)(hx:Passes CX X E)(ha:PA X (e::es) t) (kJ:starEach (e::es) X.env=(false,eval e X.env)::starEach es X.env:=by rfl)(gU:(backTo pos (starEach es X.env)).any (·.1)=false:=by rfl) (ht:eval (.Call (.Attribute o m apos) (e::es) [] pos) X.env=(do
     let ov<-eval o X.env
     standAt apos.atName
     let(f,first)<-holding [ov] (getMethod ov m pl)
     callWith pos f first (backTo pos (starEach (e::es) X.env)) (backToKw pos (keywordEach [] X.env))):=by rfl): PE X (.Call (.Attribute o m apos) (e::es) [] pos) (Hf C m sp fC E ta t):=by
  intro pins s σ H Q I h;refine PySem.W.methodCall_KW (pl:=pl) (aI (he pins s σ H _ I h) fun u s1 ⟨x,H1,I1,rx,a,dx,fs,ex,ea,l,q⟩=>?_) ht;subst ex;obtain rfl:u=Value.ref a:=rx;refine ML I1 ea c hm l ?_;refine QU (first:=[.ref a]) (h₀:=X.base) I.ok.mod.kin hm.kp (aI (ha pos pins s1 σ H1 _ I1 q) fun us s2 ⟨vs,H2,I2,r,q2⟩=>⟨I2.iK,?_⟩) kJ gU;exact CJ (us:=.ref a::us) (vs:=.ref a::vs) F hr hb hd hx I2 (.cons rfl r) q2
theorem VG{pl:Sem Bool}(he:PE X o ta)(c:jt X.K C)(hm:Meth X.K C m f)(F:iR X.prog X.w X.K X.mg X.base CX k f fd ps sp)(hr:cX k X.A)(hb:Binds X.K fd ps ds)(hd:Vals fC ds)(hx:Passes CX X E) (ht:eval (.Call (.Attribute o m apos) [] [] pos) X.env=(do
     let ov<-eval o X.env
     standAt apos.atName
     let(f,first)<-holding [ov] (getMethod ov m pl)
     callWith pos f first (backTo pos (starEach [] X.env)) (backToKw pos (keywordEach [] X.env))):=by rfl): PE X (.Call (.Attribute o m apos) [] [] pos) (Hf C m sp fC E ta nS):=by
  intro pins s σ H Q I h;refine PySem.W.methodCall_KW (pl:=pl) (aI (he pins s σ H _ I h) fun u s1 ⟨x,H1,I1,rx,a,dx,fs,ex,ea,l,q⟩=>?_) ht;subst ex;obtain rfl:u=Value.ref a:=rx;refine ML I1 ea c hm l ?_;exact PySem.W.callWith_K0 (first:=[.ref a]) I1.iK hm.kp (CJ (us:=[.ref a]) (vs:=[.ref a]) F hr hb hd hx I1 (.cons rfl .nil) q)
structure Mk(K:a5w)(C f:Addr):Prop where
 makes:PySem.W.makesIn K C=true
 init:PySem.W.findIn K (.ref C) "__init__"=some (some (.ref f))
 fn:PySem.W.isFn K (.ref f)=true
 kp:PySem.W.keepIn K (.ref C)=true
theorem Ui{pins:List (Addr×Obj)}{σ:St}{H:Hp}{s:a5x}{Q:VK}{us:List Value}{vs:List V}(M:Mk X.K C f)(F:iR X.prog X.w X.K X.mg X.base CX k f fd ps sp)(hr:cX (k+1) X.A)(hb:Binds X.K fd ps ds)(hd:Vals fC ds) (hx:Passes CX X E)(I:Inv X pins σ H s)(r:Vals vs us) (h:∀x dx,H x=none->H dx=none->dx≠x->sp (.ref x::(vs++fC)) (upd (upd H dx (.own x)) x (.ins C dx [])) (fun v H2=>v= .aW/\Q (.ref x) H2) E): wpAny (model X.prog X.w) X.A (call (.ref C) us) (EP X pins σ Q) X.xe s:=by
  have hq:=h (s.heap.objs.size+1) s.heap.objs.size (I.hok.fresh (Nat.le_succ _)) (I.hok.fresh (bp _)) (eV (QY _));have I2:=Inv.made (C:=C) I;have r2:Vals (V.ref (s.heap.objs.size+1)::(vs++fC)) (Value.ref (s.heap.objs.size+1)::(us++ds)):=.cons rfl (r.append hd);have hl:(Value.ref (s.heap.objs.size+1)::us++ds).length=ps.length:=by have e:=r2.length;rw[F.len _ _ _ _ hq]at e;exact e.symm
  refine wpAny_call (Ys (f:=f) I.iK M.makes M.init (fT.mp M.fn) (codeAny_mono (F.run _ X.stack _ _ ⟨Value.ref (s.heap.objs.size+1)::us,[]⟩ (Value.ref (s.heap.objs.size+1)::(us++ds)) _ _ E (hr.make C us []) (I2.Nb.make C us []) (hb _ (Value.ref (s.heap.objs.size+1)::us) I2.iK hl) r2 hq) fun r s' iZ=>?_));cases r with |error e=>exact hx pins σ _ _ e s' I2 iZ |ok fl=>cases fl with |ret u=>obtain⟨v,H',I3,rv,ev,q3⟩:=I2.after iZ;subst ev;exact⟨rv,⟨V.ref (s.heap.objs.size+1),H',I3,rfl,q3⟩⟩ |next=>exact False.elim iZ |brk=>exact False.elim iZ |cont=>exact False.elim iZ
theorem VI(M:Mk X.K C f)(F:iR X.prog X.w X.K X.mg X.base CX k f fd ps sp)(hr:cX (k+1) X.A)(hg:Gl X x)(hm:X.mg x=some (.ref C))(hb:Binds X.K fd ps ds)(hd:Vals fC ds)(hx:Passes CX X E) (ha:PA X (e::es) t)(jP:(x==("__debug__":Str))=false:=by decide)(he:starEach (e::es) X.env=(false,eval e X.env)::starEach es X.env:=by rfl)(gU:(backTo pos (starEach es X.env)).any (·.1)=false:=by rfl): PE X (.Call (.Name x p) (e::es) [] pos) (Sx C sp fC E t):=by intro pins s σ H Q I h;refine G2 (DU I hg hm ?_ jP);refine QU (h₀:=X.base) I.ok.mod.kin M.kp (aI (ha pos pins s σ H _ I h) fun us s1 ⟨vs,H1,I1,r,q⟩=>⟨I1.iK,?_⟩) he gU;exact Ui M F hr hb hd hx I1 r q
end
section
variable {X:Cx}{CX:kU}{k:Nat}{f C:Addr}{fd:FuncData}{ps ks:List Str}{sp:Sp}{E:XK}{x m:Str}{p pos apos a4P:Pos}{e o:Expr}{es:List Expr}{kws:List Keyword}{te ta:TE}{t tk:TA}{nm:Option Str}
variable {g:List Value->List Value->List Value}{gV:List V->List V->List V}
end
structure bc(N P:List Str)(sc:Scope):Prop where
 kind:sc.kind= .function
 co:sc.isCoroutine=false
 gen:sc.isGenerator=false
 nd:N.Nodup
 pre:N.take P.length=P
 par:∀x∈P,sc.names.lookup x=some .local\/sc.names.lookup x=some .cell
 nofree:∀y∈sc.names,y.2≠ .free
theorem O0{kindOf:Str->Option NameKind}{x:Str}:∀{binds:List (Str×Value)}{m:Str->Option Value},(∀v,(x,v)∉binds)->bindL kindOf binds m x=m x
  |[],_,_=>rfl |(n,v)::r,m,h=>by
    unfold bindL;rw[O0 fun w hw=>h w (ux _ hw)];split
    · have:x≠n:=by rintro rfl;exact h v Gj
      simp[this]
    ·rfl
theorem O2{kindOf:Str->Option NameKind}{x:Str}:∀{binds:List (Str×Value)}{m:Str->Option Value},(∀v,(x,v)∉binds)->bindC kindOf binds m x=m x
  |[],_,_=>rfl |(n,v)::r,m,h=>by
    unfold bindC;rw[O2 fun w hw=>h w (ux _ hw)];split
    ·rfl
    · have:x≠n:=by rintro rfl;exact h v Gj
      simp[this]
theorem O1{kindOf:Str->Option NameKind}{x:Str}{v:Value}:∀{P:List Str}{vs:List Value}{i:Nat}{m:Str->Option Value},P.Nodup->P[i]? =some x->vs[i]? =some v->kindOf x=some .local->bindL kindOf (P.zip vs) m x=some v |[],_,_,_,_,h,_,_=>by simp at h |_::_,[],_,_,_,_,h,_=>by simp at h |p::P,w::vs,0,m,nd,h1,h2,hk=>by simp at h1 h2;subst h1;subst h2;show bindL kindOf ((p,w)::P.zip vs) m p=_;unfold bindL;rw[O0 fun v hv=>(nL.mp nd).1 (Ai hv).1,aP hk];simp |p::P,w::vs,i+1,m,nd,h1,h2,hk=>by show bindL kindOf ((p,w)::P.zip vs) m x=_;unfold bindL;exact O1 (i:=i) (nL.mp nd).2 (by simpa using h1) (by simpa using h2) hk
theorem O3{kindOf:Str->Option NameKind}{x:Str}{v:Value}:∀{P:List Str}{vs:List Value}{i:Nat}{m:Str->Option Value},P.Nodup->P[i]? =some x->vs[i]? =some v->kindOf x≠some .local->bindC kindOf (P.zip vs) m x=some v |[],_,_,_,_,h,_,_=>by simp at h |_::_,[],_,_,_,_,h,_=>by simp at h |p::P,w::vs,0,m,nd,h1,h2,hk=>by simp at h1 h2;subst h1;subst h2;show bindC kindOf ((p,w)::P.zip vs) m p=_;unfold bindC;rw[O2 fun v hv=>(nL.mp nd).1 (Ai hv).1,aV hk];simp |p::P,w::vs,i+1,m,nd,h1,h2,hk=>by show bindC kindOf ((p,w)::P.zip vs) m x=_;unfold bindC;exact O3 (i:=i) (nL.mp nd).2 (by simpa using h1) (by simpa using h2) hk
def start(N:List Str)(vs:List V):St:=vs.map some++List.replicate (N.length-vs.length) none
def mY(CX:kU)(P:a5y)(w:World)(K:a5w)(mg:Str->Option Value)(base:Heap)(N:List Str)(qual:Str)(scope:Scope)(f:Addr)(cd:Value)(A:a5A)(outer:List Env)(s:a5x)(H:Hp)(E:XK):Cx where
 prog:=P
 w:=w
 K:=K
 mg:=mg
 base:=base
 A:=A.deeper (envOfC qual scope s.heap.objs.size f cd)
 N:=N
 s₀:=s
 H₀:=H
 env:=envOfC qual scope s.heap.objs.size f cd
 outer:=outer
 stack:=envOfC qual scope s.heap.objs.size f cd::outer
 ex:=[]
 calm:=true
 fn:=fun _=>true
 pn:=[]
 xe:=fun e s'=>wpAny (model P w) (A.deeper (envOfC qual scope s.heap.objs.size f cd)) (leaving (envOfC qual scope s.heap.objs.size f cd) e) (fun _ CG=>CX outer H s E e CG) (fun e' CG=>CX outer H s E e' CG) s'
theorem NU{sc:Scope}{n:Nat}{x:Str}(h:sc.names.lookup x=some .cell):∃c,(cellsFrom n sc.names []).lookup x=some c:=by have q:=PySem.W.cellsFrom_some sc.names n [] (.inl h);exact Option.isSome_iff_exists.mp q
theorem Zi{CX:kU}{P:a5y}{w:World}{K:a5w}{mg:Str->Option Value}{base:Heap}{N ps:List Str}{qual:Str}{scope:Scope}{f:Addr}{cd:Value}{A:a5A}{outer:List Env}{s s1:a5x}{H:Hp}{E:XK}{us:List Value}{vs:List V} (S:bc N ps scope)(hd:A.handled=none)(e0:qT P w K mg base A outer s H)(hl:vs.length=ps.length)(r:Vals vs us) (x:InCallC s s.heap.objs.size (bindL (envOfC qual scope s.heap.objs.size f cd).kindOf (ps.zip us) fun _=>none) (cellsFrom (s.heap.objs.size+1) scope.names []) (bindC (envOfC qual scope s.heap.objs.size f cd).kindOf (ps.zip us) fun _=>none) s1): Inv (mY CX P w K mg base N qual scope f cd A outer s H E) [] (start N vs) H s1:=by
  have gU:ps.length<=N.length:=by have:=congrArg List.length S.pre;rw[m4]at this;omega
  obtain⟨h1,tk,rfl,hk⟩:=x.done;have vB:∀b:Addr,b∉(mY CX P w K mg base N qual scope f cd A outer s H E).ex:=fun b z=>absurd (show b∈([]:List Addr)from z) (by simp);refine⟨⟨e0.mod,S.kind,rfl,rfl,bp _,fun y z c h1 h2=>?_,fun y hy=>?_,fun y c _ h=>?_,fun _=>hd,Around.frames_deeper e0.frames,.inr ⟨rfl,rfl⟩,fun b z=>absurd z (vB b),e0.bs,e0.bsz,fun b _ _=>vB b,fun b z=>absurd z (vB b),e0.jU,e0.frf⟩,rfl,e0.bare,Un.kept hk,⟨_,x.toInCall.ns,fun i y v h1 h2 h3=>?_⟩,fun y c h=>⟨_,x.cell y c h⟩,e0.hok.fresh (bp _),fun y c h=>?_,fun p hp=>absurd (show p∈([]:List (Addr×Obj))from hp) (by simp),e0.hok.kept hk,?_⟩
  ·exact name_of_addr x.apart (Ae h1) (Ae h2)
  · have hy:scope.names.lookup y=some .cell\/scope.names.lookup y=some .free:=hy
    rcases hy with hy|hy
    ·exact NU hy
    ·exact absurd rfl (S.nofree _ (Ae hy))
  ·exact Nat.le_of_lt (x.above y c (Ae h))
  · have hi:i<vs.length:=by
      unfold start at h2;by_cases hi:i<vs.length
      ·exact hi
      · rw[xx (by simpa using hi)]at h2
        rw[Rf]at h2;split at h2<;>cases h2
    have ha:vs[i]? =some v:=by unfold start at h2;rw[uz (by simpa using hi),bU]at h2;cases e:vs[i]? with |none=>rw[e]at h2;cases h2 |some a=>rw[e]at h2;cases h2;rfl
    obtain⟨u,hu,rv⟩:=r.get ha;have hp:ps[i]? =some y:=by rw[<-S.pre,List.getElem?_take_of_lt (by omega)];exact h1
    have Lc:ps.Nodup:=by rw[<-S.pre];exact S.nd.sublist (List.take_sublist _ _)
    refine⟨u,rv,?_⟩;rcases S.par y (g9 hp)with k|k
    ·exact .inl ⟨k,O1 Lc hp hu k⟩
    · obtain⟨c,e⟩:=NU (n:=s.heap.objs.size+1) k
      refine .inr ⟨.inl k,c,e,?_⟩;have q:=x.cell y c e;rw[O3 Lc hp hu (by show scope.names.lookup y≠_;rw[k];decide)]at q;exact q
  ·exact e0.hok.fresh (Nat.le_of_lt (x.above y c (Ae h)))
  · unfold start
    show _=N.length;rw[eZ,bS,Ak];omega
theorem a28{CX:kU}{P:a5y}{w:World}{K:a5w}{mg:Str->Option Value}{base:Heap}{k:Nat}{f:Addr}{name qual:Str}{params:Arguments}{body:List Stmt}{scope:Scope}{dV kV doc pm aD ct oc:Value}{an od:Option Addr} {ip:Array (Option Value)}{N ps:List Str}{sp:Sp}(lk:K.lookup f=some ⟨oc,od,.func (PySem.W.fnOf name qual params body scope dV kV doc pm an aD ct),ip⟩)(ku:PySem.W.codeIn K aD qual=true)(S:bc N ps scope) (len:∀vs H Q E,sp vs H Q E->vs.length=ps.length) (mS:∀(A:a5A)(outer:List Env)(s:a5x)(H:Hp)(vs:List V)(Q:VK)(E:XK),cX k (A.deeper (envOfC qual scope s.heap.objs.size f aD))->sp vs H Q E->∃t,iQ (mY CX P w K mg base N qual scope f aD A outer s H E) body t/\t {nx:=fun _ H'=>Q .aW H',rt:=Q} (start N vs) H): iR P w K mg base CX (k+1) f (PySem.W.fnOf name qual params body scope dV kV doc pm an aD ct) ps sp:=by
  refine⟨len,fun A outer s H args us vs Q E hr e0 hb r oh=>?_⟩;have hl:=len _ _ _ _ oh;have KX:K.In s.heap:=e0.mod.kin.keeps fun b o e=>(e0.bs b o e).1;have lim:s.heap.NoLimit:=e0.mod.nolimit.keeps fun b o e=>(e0.bs b o e).1;have mL:∀y∈ps.zip us,scope.names.lookup y.1=some .local\/(scope.names.lookup y.1=some .cell/\((cellsFrom (s.heap.objs.size+1) scope.names []).lookup y.1).isSome=true):=fun⟨n,v⟩ hy=>by
   rcases S.par n (Ai hy).1 with q|q
   ·exact .inl q
   ·exact .inr ⟨q,PySem.W.cellsFrom_some _ _ _ (.inl q)⟩
  refine codeAny_call_function hr.depth (KX _ _ lk) rfl S.co S.gen rfl (PySem.W.codeRec_of KX ku) (hb _ _ _ _ ?_);refine wpAny_newFunctionEnv_cells S.kind mL fun env he s1 x=>?_;subst he;refine⟨lim.keeps x.toInCall.keep,codeAny_func ?_⟩;obtain⟨t,ht,hq⟩:=mS A outer s H vs Q E (hr.deeper _) oh;have I:Inv (mY CX P w K mg base N qual scope f aD A outer s H E) [] (start N vs) H s1:=Zi S hr.hd e0 hl r x;refine kB (ht [] s1 (start N vs) H _ I hq) (fun fl s' hs=>?_) fun e s' hs=>hs;have fin:∀{σ':St}{H':Hp}{v:V}{u:Value},Inv (mY CX P w K mg base N qual scope f aD A outer s H E) [] σ' H' s'->RelV v u->Q v H'->CE outer P w H s Q u s':=fun{σ' H' v u} J rv q=>⟨v,H',J.os,J.bare,J.base,J.hok,rv,q⟩;cases fl with |ret u=>obtain⟨v,σ',H',J,rv,q⟩:=hs;exact fin J rv q |next=>obtain⟨σ',H',J,q⟩:=hs;exact fin (v:=V.aW) (u:=Value.none) J rfl q |brk=>obtain⟨_,_,_,q⟩:=hs;exact False.elim q |cont=>obtain⟨_,_,_,q⟩:=hs;exact False.elim q
section
variable {X:Cx}{x:Str}{p pos:Pos}{e:Expr}{es:List Expr}{t:TA}{id T:String}{r:List V->Hp->VK->Prop}
def Hj(r:List V->Hp->VK->Prop)(t:TA):TE:=fun σ H Q=>t σ H fun vs H1=>r vs H1 Q
theorem aL(hc:ek X (.builtin id) r)(hg:Gl X x)(hm:X.mg x=none)(hv:bootBuiltins x=some (.builtin id))(ha:PA X (e::es) t)(hn:x≠"__name__":=by decide)(jP:(x==("__debug__":Str))=false:=by decide) (he:starEach (e::es) X.env=(false,eval e X.env)::starEach es X.env:=by rfl)(gU:(backTo pos (starEach es X.env)).any (·.1)=false:=by rfl):PE X (.Call (.Name x p) (e::es) [] pos) (Hj r t):=by intro pins s σ H Q I h;refine G2 (mD I hg hm hv ?_ hn jP);exact PyProof.Rows.callWith_builtin1 (aI (ha pos pins s σ H _ I h) fun us s1 ⟨vs,H1,I1,r1,q1⟩=>hc pins s1 σ H1 vs us Q I1 r1 q1) he gU
theorem gk(hc:ek X (.type T) r)(hg:Gl X x)(hm:X.mg x=none)(hv:bootBuiltins x=some (.type T))(ha:PA X (e::es) t)(hn:x≠"__name__":=by decide)(jP:(x==("__debug__":Str))=false:=by decide) (he:starEach (e::es) X.env=(false,eval e X.env)::starEach es X.env:=by rfl)(gU:(backTo pos (starEach es X.env)).any (·.1)=false:=by rfl):PE X (.Call (.Name x p) (e::es) [] pos) (Hj r t):=by intro pins s σ H Q I h;refine G2 (mD I hg hm hv ?_ hn jP);exact uu (aI (ha pos pins s σ H _ I h) fun us s1 ⟨vs,H1,I1,r1,q1⟩=>hc pins s1 σ H1 vs us Q I1 r1 q1) he gU
end
end L2
namespace HT
open PySem PyProof.Rows
section
open PySem.SeqAt
open PySem.AutoSeq1 (wpAny_loadPart')
open PySem.MeetsSeq PySem.MeetsSeq2 PySem.MeetsSeq3
end
section
variable {prog:a5y}{w:World}{A:a5A}{E:Value->a5x->Prop}{s:a5x}
def bP(n d:Nat):Option Int->Nat |none=>d |some v=>if v<0 then(v+(n:Int)).toNat else min v.toNat n
theorem U9 (n d:Nat):bP n d none=d:=rfl
theorem JN(n d k:Nat):bP n d (some (k:Int))=min k n:=by show(if(k:Int)<0 then((k:Int)+(n:Int)).toNat else min (k:Int).toNat n)=min k n;rw[aV (by omega),Rh]
theorem Ua(n d:Nat)(hd:d<=n)(o:Option Int):bP n d o<=n:=by cases o with |none=>exact hd |some v=>
   show(if v<0 then(v+(n:Int)).toNat else min v.toNat n)<=n;by_cases hv:v<0
   ·rw[aP hv];omega
   ·rw[aV hv];exact Nat.min_le_right _ _
theorem NS(v:Int)(n d:Nat):(if v<0 then max (v+(n:Int)) 0 else min v (n:Int))=((bP n d (some v):Nat):Int):=by
 show(if v<0 then max (v+(n:Int)) 0 else min v (n:Int))=(((if v<0 then(v+(n:Int)).toNat else min v.toNat n):Nat):Int);by_cases hv:v<0
 ·simp only[aP hv];omega
 ·simp only[aV hv];omega
theorem a3T(lo hi:Option Int)(n:Nat):Builtin.Slice.sliceAdjust lo hi 1 (n:Int)=(((bP n 0 lo:Nat):Int),((bP n n hi:Nat):Int)):=by
 have h1:¬((1:Int)<0):=by omega
 unfold Builtin.Slice.sliceAdjust;simp only[h1,if_false];refine Prod.ext ?_ ?_
 ·cases lo with |none=>rfl |some v=>exact NS v n 0
 ·cases hi with |none=>rfl |some v=>exact NS v n n
theorem Vr(i j:Nat):Builtin.Slice.slicePlaces (i:Int) (j:Int) 1=j-i:=by
 unfold Builtin.Slice.slicePlaces;have h1:(1:Int)>0:=by omega
 simp only[h1,if_true,Int.ediv_one];split<;>omega
theorem Iv{v:Value}{o:Option Int}{Q:Option Int->a5x->Prop}(p:IsPart v o)(h:Q o s):wpAny (model prog w) A (Builtin.Slice.slicePartIndex v) Q E s:=by cases p with |none=>exact slicePart_none h |int i t=>exact slicePart_int h
theorem Tp{sl:Addr}{vl vu:Value}{lo hi:Option Int}{n:Nat}{Q:Int×Int×Nat->a5x->Prop}(hs:s.heap.IsSliceOf sl vl vu .none)(pl:IsPart vl lo)(pu:IsPart vu hi) (h:Q (((bP n 0 lo:Nat):Int),1,bP n n hi-bP n 0 lo) s):wpAny (model prog w) A (Builtin.Slice.sliceApplied (.ref sl) (pure (n:Int))) Q E s:=by obtain⟨os,iM,Mp,ou⟩:=id hs;unfold Builtin.Slice.sliceApplied Builtin.Slice.sliceFields;refine aF (aF (ka iM ou (x:=vl) rfl (aF (ka iM ou (x:=vu) rfl (aF (ka iM ou (x:=.none) rfl (bT ?_)))))));refine aF (slicePart_none ?_);show wpAny _ _ (if((1:Int)==0)=true then _ else _) _ _ s;rw[aV (by decide)];refine aF (Iv pl (aF (Iv pu (aF (bT ?_)))));show wpAny _ _ (match Builtin.Slice.sliceAdjust lo hi 1 (n:Int)with|(lo,hi)=>pure (lo,(1:Int),Builtin.Slice.slicePlaces lo hi 1)) _ _ s;rw[a3T lo hi n];show wpAny _ _ (pure (((bP n 0 lo:Nat):Int),(1:Int),Builtin.Slice.slicePlaces ((bP n 0 lo:Nat):Int) ((bP n n hi:Nat):Int) 1)) _ _ s;rw[Vr];exact bT h
theorem Vx(xs:Array Value)(i k:Nat):((List.range k).filterMap fun(m:Nat)=>xs[((i:Int)+(m:Int)*1).toNat]?).toArray=((xs.toList.drop i).take k).toArray:=by
 have e:(fun(m:Nat)=>xs[((i:Int)+(m:Int)*1).toNat]?)=fun m=>xs[i+m]?:=by
  funext m;have:((i:Int)+(m:Int)*1).toNat=i+m:=by omega
  rw[this]
 rw[e];have:=pick_run xs i k;rw[List.filterMap_map]at this;have e2:((fun x=>xs[x]?)∘fun x=>i+x)=fun m=>xs[i+m]?:=rfl;rw[e2]at this;rw[this]
theorem a20{t sl:Addr}{items:Array Value}{vl vu:Value}{lo hi:Option Int}{Q:Value->a5x->Prop}(ht:IsTup s.heap t items)(hs:s.heap.IsSliceOf sl vl vu .none)(pl:IsPart vl lo)(pu:IsPart vu hi) (hw:¬(bP items.size 0 lo=0/\bP items.size items.size hi=items.size)) (h:Q (.ref s.heap.objs.size) {s with heap:=s.heap.push {cls:=.type "tuple",data:=.seq ((items.toList.drop (bP items.size 0 lo)).take (bP items.size items.size hi-bP items.size 0 lo)).toArray}}) (hsz:items.size<=sizeLine):wpAny (model prog w) A (getItem (.ref t) (.ref sl)) Q E s:=by
  have zf:sizeOk (.seq ((items.toList.drop (bP items.size 0 lo)).take (bP items.size items.size hi-bP items.size 0 lo)).toArray):=by show((items.toList.drop (bP items.size 0 lo)).take (bP items.size items.size hi-bP items.size 0 lo)).toArray.size<=sizeLine;rw[df,m4,Gn,Gx];omega
  have hj:bP items.size items.size hi<=items.size:=Ua _ _ (bp _) hi;obtain⟨os,iM,Mp,ou⟩:=id hs;have hTs:s.TypeIs (.ref sl) "slice":=⟨os,iM,Mp⟩;unfold getItem
  try with_reducible refine wpAny_holding ?_
  first|refine aF (bT ?_)|skip
  refine aF (wpAny_sequenceKey ht.typeIs (by decide) ?_);refine aF (A9 (name:=Str.ofString "__getitem__") ht.typeIs QV (A8 QV ht.typeIs entry_tuple_getitem ?_ (args_tuple_getitem _ _)));show wpAny _ _ (Builtin.Tuple.tupleItemsOf (.ref t)>>=_) _ _ s;refine aF (tupleItemsOf_ ht ?_);refine aF (wpAny_typeOf hTs ?_);rw[aP (by decide)];refine aF (Tp hs pl pu ?_);have gx:¬((((bP items.size 0 lo:Nat):Int)==0&&(1:Int)==1&&(bP items.size items.size hi-bP items.size 0 lo)==items.size)=true):=by intro q;rw[fh,fh]at q;have q1:((bP items.size 0 lo:Nat):Int)=0:=eq_of_beq q.1.1;have q2:bP items.size items.size hi-bP items.size 0 lo=items.size:=eq_of_beq q.2;exact hw ⟨by omega,by omega⟩
  show wpAny _ _ (if(((bP items.size 0 lo:Nat):Int)==0&&(1:Int)==1&&(bP items.size items.size hi-bP items.size 0 lo)==items.size)=true then _ else _) _ _ s;rw[aV gx,Vx]
  first |exact aF (m:=Builtin.Tuple.tupleExact _) (oT (bT ⟨_,rfl,bT h⟩) zf) |exact aF (m:=Builtin.Tuple.tupleExact _) (oT (aF (bT (bT ⟨_,rfl,bT h⟩))) zf) |exact aF (aF (m:=Builtin.Tuple.tupleExact _) (oT (bT (bT ⟨_,rfl,bT h⟩)) zf)) |exact aF (aF (m:=Builtin.Tuple.tupleExact _) (oT (bT ⟨_,rfl,bT h⟩) zf))
end
end HT
namespace L2
open PySem PySem.Spec PyProof.Rows
abbrev TO:=St->Hp->(Option Int->Hp->Prop)->Prop
def PO(X:Cx)(e:Option Expr)(t:TO):Prop:=∀(pins:List (Addr×Obj))(s:a5x)(σ:St)(H:Hp)(Q:Option Int->Hp->Prop),Inv X pins σ H s->t σ H Q->wpAny (model X.prog X.w) X.A (evalPart e X.env) (fun u s'=>∃o H',Inv X pins σ H' s'/\IsPart u o/\Q o H') X.xe s
def Ss:TO:=fun _ H Q=>Q none H
inductive OE(Q:Option Int->Hp->Prop)(x:V)(H1:Hp):Prop |mk (i:_)(h0:x= .int i)(h1:Q (some i) H1):OE Q x H1
def Sm(t:TE):TO:=fun σ H Q=>t σ H fun x H1=>OE Q x H1
section
variable {X:Cx}{e:Expr}{te:TE}{lo hi:Option Expr}{tl th:TO}{pos p2:Pos}
theorem Dh:PO X none Ss:=by intro pins s σ H Q I h;rw[evalPart_none];exact bT ⟨none,H,I,.none,h⟩
theorem Dg(h:PE X e te):PO X (some e) (Sm te):=by intro pins s σ H Q I hw;rw[evalPart_some];refine aI (h pins s σ H _ I hw) fun u s1 ⟨x,H1,I1,r1,q1⟩=>?_;obtain⟨i,rfl,q⟩:=q1;obtain⟨t,rfl⟩:=r1;exact⟨some i,H1,I1,.int i t,q⟩
def zX(X:Cx)(r:V->Option Int->Option Int->Hp->VK->Prop):Prop:=∀(pins:List (Addr×Obj))(s:a5x)(σ:St)(H:Hp)(x:V)(v vl vu:Value)(lo hi:Option Int)(sl:Addr)(Q:VK),Inv X pins σ H s->RelV x v->s.heap.IsSliceOf sl vl vu .none->IsPart vl lo->IsPart vu hi->r x lo hi H Q->∃T id,typeLookup (.type T) "__getitem__"=pure (some (.builtin id))/\s.TypeIs v T/\wpAny (model X.prog X.w) X.A (getItem v (.ref sl)) (EP X pins σ Q) X.xe s
def Sk(r:V->Option Int->Option Int->Hp->VK->Prop)(te:TE)(tl th:TO):TE:=fun σ H Q=>te σ H fun x H1=>tl σ H1 fun l H2=>th σ H2 fun u H3=>r x l u H3 Q
theorem Di{r:V->Option Int->Option Int->Hp->VK->Prop}(hr:zX X r)(he:PE X e te)(hl:PO X lo tl)(hu:PO X hi th):PE X (.Subscript e (.Slice lo hi none p2) pos) (Sk r te tl th):=by intro pins s σ H Q I h;refine Subscript_ (aI (he pins s σ H _ I h) fun v s1 ⟨x,H1,I1,r1,q1⟩=>?_);refine wpAny_Slice (aI (hl pins s1 σ H1 _ I1 q1) fun vl s2 ⟨l,H2,I2,pl,q2⟩=>aI (hu pins s2 σ H2 _ I2 q2) fun vu s3 ⟨u,H3,I3,pu,q3⟩=>?_);rw[evalPart_none];refine bT ?_;have I4:Inv X pins σ H3 {s3 with heap:=s3.heap.push {cls:=.type "slice",data:=.fields #[vl,vu,.none]}}:=I3.kept (t':=s3.toks) fun b ob q=>cg _ q;obtain⟨T,id,hT,ht,hg⟩:=hr pins {s3 with heap:=s3.heap.push {cls:=.type "slice",data:=.fields #[vl,vu,.none]}} σ H3 x v vl vu l u s3.heap.objs.size Q I4 r1 (Heap.IsSliceOf.new ..) pl pu q3;show wpAny (model X.prog X.w) X.A (subscriptTail e (.Slice lo hi none p2) v (.ref s3.heap.objs.size)) (EP X pins σ Q) X.xe {s3 with heap:=s3.heap.push {cls:=.type "slice",data:=.fields #[vl,vu,.none]}};exact tail_any (ops:=[.ref s3.heap.objs.size,v]) ht hT hg (by with_unfolding_all rfl)
def kQ(xs:List V)(lo hi:Option Int):List V:=(xs.drop (HT.bP xs.length 0 lo)).take (HT.bP xs.length xs.length hi-HT.bP xs.length 0 lo)
theorem NJ(xs:List V)(lo hi:Option Int):(kQ xs lo hi).length<=xs.length:=by unfold kQ;rw[m4,Gn];omega
inductive Qc(K:a5w)(x:V)(lo:Option Int)(hi:Option Int)(H:Hp)(Q:VK):Prop |mk (a:_)(xs:_)(h0:x= .ref a)(h1:aB K H a xs)(h2:¬(HT.bP xs.length 0 lo=0/\HT.bP xs.length xs.length hi=xs.length))(h3:∀p,H p=none->Q (.ref p) (upd H p (.tup (kQ xs lo hi)))):Qc K x lo hi H Q
def V4(K:a5w):V->Option Int->Option Int->Hp->VK->Prop:=fun x lo hi H Q=>Qc K x lo hi H Q
theorem Tq:zX X (V4 X.K):=by
 intro pins s σ H x v vl vu lo hi sl Q I rx hs pl pu h;obtain⟨a,xs,rfl,hx,hw,q⟩:=h;cases rx;obtain⟨its,r,ht,hz⟩:=I.tuple hx;have hlen:its.toArray.size=xs.length:=by rw[df];exact r.length.symm
 refine⟨"tuple",_,QV.lookup,ht.typeIs,?_⟩;refine HT.a20 ht hs pl pu (by rw[hlen];exact hw) ?_ (by rw[hlen];exact hz);rw[hlen];refine⟨.ref s.heap.objs.size,_,I.laid (t':=s.toks) (o:=.tup (kQ xs lo hi)) (fun b ob q=>cg _ q) (bp _) ?_,rfl,q _ (I.hok.fresh (bp _))⟩;exact⟨gH (NJ xs lo hi) hz,_,(r.drop (HT.bP xs.length 0 lo)).take (HT.bP xs.length xs.length hi-HT.bP xs.length 0 lo),IsTup.new _ _⟩
end
end L2
namespace L2
open PySem PySem.Spec PyProof.Rows
def iL(n:Nat)(i:Int):Option Nat:=if 0<=i then(if i<n then some i.toNat else none)else if-(n:Int)<=i then some (i+n).toNat else none
def fo{α:Type}(xs:List α)(i:Int):Option α:=(iL xs.length i).bind fun j=>xs[j]?
theorem LR{n:Nat}{i:Int}{j:Nat}(h:iL n i=some j):seqIndex? i n=some j/\j<n/\-(n:Int)<=i/\i<n:=by
 unfold iL at h;by_cases h0:0<=i
 · rw[aP h0]at h
   by_cases h1:i<n
   · rw[aP h1]at h
     have e:i.toNat=j:=eG h;exact⟨by rw[seqIndex_of h0 h1,e],by omega,by omega,h1⟩
   ·rw[aV h1]at h;cases h
 · rw[aV h0]at h
   by_cases h1:-(n:Int)<=i
   · rw[aP h1]at h
     have e:(i+n).toNat=j:=eG h;exact⟨by rw[seqIndex_neg (by omega) h1,e],by omega,h1,by omega⟩
   ·rw[aV h1]at h;cases h
theorem Od{α:Type}{xs:List α}{i:Int}{v:α}(h:fo xs i=some v):∃j,seqIndex? i xs.length=some j/\xs[j]? =some v/\j<xs.length/\-(xs.length:Int)<=i/\i<xs.length:=by unfold fo at h;cases e:iL xs.length i with |none=>rw[e]at h;cases h |some j=>rw[e]at h;obtain⟨h1,h2,h3,h4⟩:=LR e;exact⟨j,h1,h,h2,h3,h4⟩
theorem a3M{α:Type}{xs:List α}{j:Nat}{v:α}(h:xs[j]? =some v):fo xs (j:Int)=some v:=by
 have hj:j<xs.length:=(dC.mp h).1;have e:iL xs.length (j:Int)=some j:=by unfold iL;rw[aP (by omega),aP (by omega)];simp
 unfold fo;rw[e];exact h
def a48(b:Expr):Prop:=∀o i,subscripted b false o i=operate [o,i] (getItem o i)
def oP(X:Cx)(r:R2):Prop:=∀(value slice:Expr)(pins:List (Addr×Obj))(s:a5x)(σ:St)(H:Hp)(x y:V)(v u:Value)(Q:VK),Inv X pins σ H s->RelV x v->RelV y u->r x y H Q->subscripted slice false v u=operate [v,u] (getItem v u)->wpAny (model X.prog X.w) X.A (subscriptTail value slice v u) (EP X pins σ Q) X.xe s
def OB(X:Cx)(id:String)(r:V->List V->Hp->VK->Prop):Prop:=∀(pins:List (Addr×Obj))(s:a5x)(σ:St)(H:Hp)(x:V)(xs:List V)(v:Value)(us:List Value)(Q:VK),Inv X pins σ H s->RelV x v->Vals xs us->r x xs H Q->wpAny (model X.prog X.w) X.A (call (.builtin id) (v::us)) (EP X pins σ Q) X.xe s
section
variable {X:Cx}{a b:Expr}{ta tb:TE}{pos:Pos}
theorem oP.or{r r':R2}(h:oP X r)(h':oP X r'):oP X (fun x y H Q=>r x y H Q\/r' x y H Q):=by
 intro value slice pins s σ H x y v u Q I rx ry q hs;rcases q with q|q
 ·exact h value slice pins s σ H x y v u Q I rx ry q hs
 ·exact h' value slice pins s σ H x y v u Q I rx ry q hs
theorem aJ{r:R2}(hr:oP X r)(ha:PE X a ta)(hb:PE X b tb)(hs:a48 b):PE X (.Subscript a b pos) (xS r ta tb):=by intro pins s σ H Q I h;exact Subscript_ (Fs ha hb I h fun v u s2 x y H2 I2 rx ry q=>hr a b pins s2 σ H2 x y v u Q I2 rx ry q (hs _ _))
inductive Qk(K:a5w)(x:V)(y:V)(H:Hp)(Q:VK):Prop |mk (p:_)(xs:_)(i:_)(v:_)(h0:x= .ref p)(h1:y= .int i)(h2:aw K H p xs)(h3:fo xs i=some v)(h4:Q v H):Qk K x y H Q
def Ke(K:a5w):R2:=fun x y H Q=>Qk K x y H Q
inductive Qj(K:a5w)(x:V)(y:V)(H:Hp)(Q:VK):Prop |mk (p:_)(xs:_)(i:_)(v:_)(h0:x= .ref p)(h1:y= .int i)(h2:aB K H p xs)(h3:fo xs i=some v)(h4:Q v H):Qj K x y H Q
def Kd(K:a5w):R2:=fun x y H Q=>Qj K x y H Q
theorem Za:oP X (Ke X.K):=by
 intro value slice pins s σ H x y v u Q I rx ry h hs;obtain⟨p,xs,i,z,rfl,rfl,hq,he,q⟩:=h;cases rx;obtain⟨t,rfl⟩:=ry;obtain⟨its,r,pl,hz⟩:=I.list hq;obtain⟨j,h1,h2,h3,h4,h5⟩:=Od he;obtain⟨w,ew,gZ⟩:=r.get h2;have hl:=r.length;have hn:=t9;have fin:EP X pins σ Q w s:=⟨z,H,I,gZ,q⟩;by_cases h0:0<=i
 · have hj:i.toNat=j:=by rw[seqIndex_of h0 h5]at h1;exact eG h1
   exact item_listR pl.isList h0 (by omega) (by rw[hj];simpa using ew) fin hs
 · have hj:(i+(its.toArray.size:Int)).toNat=j:=by rw[seqIndex_neg (by omega) h4]at h1;rw[df,<-hl];exact eG h1
   exact subscriptTail_builtinR (x:=w) pl.isList.typeIs slot_list_getitem.lookup (wpAny_getItem_list_neg (Q:=fun r s'=>r=w/\EP X pins σ Q r s') pl.isList (by omega) (by rw[df]<;>omega) (by omega) (by rw[hj];simpa using ew) ⟨rfl,fin⟩) hs
theorem Z5:oP X (Kd X.K):=by intro value slice pins s σ H x y v u Q I rx ry h hs;obtain⟨p,xs,i,z,rfl,rfl,hq,he,q⟩:=h;cases rx;obtain⟨t,rfl⟩:=ry;obtain⟨its,r,pl,hz⟩:=I.tuple hq;obtain⟨j,h1,h2,h3,h4,h5⟩:=Od he;obtain⟨w,ew,gZ⟩:=r.get h2;have hl:=r.length;have hn:=t9;have fin:EP X pins σ Q w s:=⟨z,H,I,gZ,q⟩;exact subscriptTail_builtinR (x:=w) pl.typeIs slot_tuple_getitem.lookup (getItem_tuple (j:=j) (Q:=fun r s'=>r=w/\EP X pins σ Q r s') pl (by omega) (by omega) (by rw[df,<-hl];exact h1) (by simpa using ew) ⟨rfl,fin⟩) hs
theorem Yq(its:List Value)(n j:Nat)(u:Value):Obj.mapSeq (·.setIfInBounds j u) {cls:=.type "list",data:=.seq its.toArray n}={cls:=.type "list",data:=.seq (its.set j u).toArray n}:=by simp[Obj.mapSeq]
theorem Inv.lst{pins:List (Addr×Obj)}{σ:St}{H:Hp}{s:a5x}{p:Addr}{xs:List V}(I:Inv X pins σ H s)(h:H p=some (.lst xs)): ∃(its:List Value)(n:Nat),Vals xs its/\s.heap.get? p=some {cls:=.type "list",data:=.seq its.toArray n}/\xs.length<=sizeLine:=by obtain⟨z,its,n,r,e⟩:=I.hok p _ h;exact⟨its,n,r,e,z⟩
theorem Inv.Yy{pins:List (Addr×Obj)}{σ:St}{H:Hp}{s:a5x}{p:Addr}{xs ys:List V}{its its':List Value}{n n':Nat}{f:Obj->Obj}(I:Inv X pins σ H s)(h:H p=some (.lst xs)) (ho:s.heap.get? p=some {cls:=.type "list",data:=.seq its.toArray n})(hf:f {cls:=.type "list",data:=.seq its.toArray n}={cls:=.type "list",data:=.seq its'.toArray n'})(r:Vals ys its')(hz:ys.length<=sizeLine)(t:Nat): Inv X pins σ (upd H p (.lst ys)) {s with heap:=s.heap.update p f,toks:=t}:=by
  have e:(s.heap.update p f).get? p=some {cls:=.type "list",data:=.seq its'.toArray n'}:=by rw[Heap.get?_update_self f ho (by rw[hf]<;>rfl),hf]
  refine I.write (x:=p) (e:=p) (by rw[h];trivial) (.inl rfl) (fun b u hb q=>(Heap.get?_update_other _ _ (cC hb)).trans q) ⟨_,e⟩ ?_;exact⟨hz,its',n',r,e⟩
inductive Qf(o:V)(i:V)(v:V)(H:Hp)(Q:Hp->Prop):Prop |mk (p:_)(xs:_)(k:_)(j:_)(h0:o= .ref p)(h1:i= .int k)(h2:H p=some (.lst xs))(h3:iL xs.length k=some j)(h4:Q (upd H p (.lst (xs.set j v)))):Qf o i v H Q
def V7:V->V->V->Hp->(Hp->Prop)->Prop:=fun o i v H Q=>Qf o i v H Q
theorem set_list:Oy X V7:=by
 intro pins s σ H o i v ov iv u Q I ro ri rv h;obtain⟨p,xs,k,j,rfl,rfl,hp,hj,q⟩:=h;cases ro;obtain⟨t,rfl⟩:=ri;obtain⟨its,n,r,ho,hz⟩:=I.lst hp;obtain⟨h1,h2,h3,h4⟩:=LR hj;have hl:=r.length;have hn:=t9;have I':Inv X pins σ (upd H p (.lst (xs.set j v))) {s with heap:=s.heap.update p (Obj.mapSeq (·.setIfInBounds j u))}:=I.Yy hp ho (Yq its n j u) (r.set rv j) (by rw[qW];exact hz) s.toks;by_cases h0:0<=k
 · have hk:k.toNat=j:=by rw[seqIndex_of h0 h4]at h1;exact eG h1
   exact PySem.W.ki_setAt ho h0 (by omega) (by rw[df,<-hl];exact h4) (by rw[hk];exact⟨_,I',q⟩)
 · have hk:(k+(its.toArray.size:Int)).toNat=j:=by rw[seqIndex_neg (by omega) h3]at h1;rw[df,<-hl];exact eG h1
   exact PySem.W.ki_setBack ho (by omega) (by rw[df,<-hl];exact h3) (by omega) (by rw[hk];exact⟨_,I',q⟩)
theorem Tn(lo hi:Option Int)(n:Nat):(sliceBounds lo hi none n).1=((HT.bP n 0 lo:Nat):Int)/\(sliceBounds lo hi none n).2.1=((HT.bP n n hi:Nat):Int)/\(sliceBounds lo hi none n).2.2=1:=by
 refine⟨?_,?_,rfl⟩
 ·cases lo with |none=>simp[sliceBounds,HT.bP] |some i=>
     simp only[sliceBounds,HT.bP,Option.getD_none,show(1:Int)>0 by decide,if_true];by_cases h:i<0
     ·simp only[h,if_true]<;>omega
     ·simp only[h,if_false]<;>omega
 ·cases hi with |none=>simp[sliceBounds,HT.bP] |some i=>
     simp only[sliceBounds,HT.bP,Option.getD_none,show(1:Int)>0 by decide,if_true];by_cases h:i<0
     ·simp only[h,if_true]<;>omega
     ·simp only[h,if_false]<;>omega
theorem To(its:List Value)(lo hi:Option Int):slicePick its.toArray lo hi none=((its.drop (HT.bP its.length 0 lo)).take (HT.bP its.length its.length hi-HT.bP its.length 0 lo)).toArray:=by obtain⟨h1,h2,h3⟩:=Tn lo hi its.toArray.size;unfold slicePick;rw[h1,h2,h3];simp only[sliceRange_one,pick_run,df]<;>rfl
inductive Qd(K:a5w)(x:V)(lo:Option Int)(hi:Option Int)(H:Hp)(Q:VK):Prop |mk (a:_)(xs:_)(h0:x= .ref a)(h1:aw K H a xs)(h2:∀p,H p=none->Q (.ref p) (upd H p (.lst (kQ xs lo hi)))):Qd K x lo hi H Q
def V5(K:a5w):V->Option Int->Option Int->Hp->VK->Prop:=fun x lo hi H Q=>Qd K x lo hi H Q
theorem Tr:zX X (V5 X.K):=by intro pins s σ H x v vl vu lo hi sl Q I rx hs pl pu h;obtain⟨a,xs,rfl,hx,q⟩:=h;cases rx;obtain⟨its,r,ht,hz⟩:=I.list hx;have hlen:=r.length;refine⟨"list",_,slot_list_getitem.lookup,ht.isList.typeIs,?_⟩;refine wpAny_getItem_list_slice ht.isList hs pl pu .none (by simp) ?_ (by rw[df]<;>omega);rw[To,<-hlen];refine⟨.ref s.heap.objs.size,_,I.laid (t':=s.toks) (o:=.lst (kQ xs lo hi)) (fun b ob q=>cg _ q) (bp _) ?_,rfl,q _ (I.hok.fresh (bp _))⟩;exact⟨gH (NJ xs lo hi) hz,_,0,(r.drop (HT.bP xs.length 0 lo)).take (HT.bP xs.length xs.length hi-HT.bP xs.length 0 lo),dU _ rfl⟩
theorem a3s:ek X (.builtin "len") (fun xs H Q=>∃p ys,xs=[.ref p]/\(aw X.K H p ys\/aB X.K H p ys)/\Q (.int ys.length) H):=by
 intro pins s σ H xs us Q I r h;obtain⟨p,ys,rfl,hq,q⟩:=h;obtain⟨u,rfl,rx⟩:=vals1 r;cases rx;have hn:=t9;rcases hq with hq|hq
 · obtain⟨its,r',pl,hz⟩:=I.list hq
   have hlen:=r'.length;exact Calls.call_len_list pl.isList (by simp only[df]<;>omega) ⟨.int ys.length,H,I.tok _,⟨s.toks+1,by rw[df,hlen]⟩,q⟩
 · obtain⟨its,r',pl,hz⟩:=I.tuple hq
   have hlen:=r'.length;exact len_tuple pl (by simp only[df]<;>omega) ⟨.int ys.length,H,I.tok _,⟨s.toks+1,by rw[df,hlen]⟩,q⟩
theorem a3r:ek X (.builtin "len") (fun xs H Q=>∃z,xs=[.str z]/\z.length<=sizeLine/\Q (.int z.length) H):=by intro pins s σ H xs us Q I r h;obtain⟨z,rfl,hz,q⟩:=h;obtain⟨u,rfl,t,rfl⟩:=vals1 r;have hn:=t9;exact len_str (by omega) ⟨.int z.length,H,I.tok _,⟨_,rfl⟩,q⟩
theorem ek.or{f:Value}{r r':List V->Hp->VK->Prop}(h:ek X f r)(h':ek X f r'):ek X f (fun xs H Q=>r xs H Q\/r' xs H Q):=by
 intro pins s σ H xs us Q I rs q;rcases q with q|q
 ·exact h pins s σ H xs us Q I rs q
 ·exact h' pins s σ H xs us Q I rs q
theorem a3q:ek X (.type "list") (fun xs H Q=>∃p ys,xs=[.ref p]/\(aw X.K H p ys\/aB X.K H p ys)/\∀l,H l=none->Q (.ref l) (upd H l (.lst ys))):=by
 intro pins s σ H xs us Q I r h;obtain⟨p,ys,rfl,hq,q⟩:=h;obtain⟨u,rfl,rx⟩:=vals1 r;cases rx;have fin:∀(its:List Value),Vals ys its->ys.length<=sizeLine->∀(h':Heap)(c':Nat),(∀b o',s.heap.get? b=some o'->h'.get? b=some o')->h'.get? s.heap.objs.size=some {cls:=.type "list",dict:=none,data:=.seq its.toArray c',slots:=#[]}->EP X pins σ Q (.ref s.heap.objs.size) {s with heap:=h'}:=fun its r' hz h' c' kp e=>⟨.ref s.heap.objs.size,_,I.laid (t':=s.toks) kp (bp _) (show fN X.prog X.w _ h' _ (.lst ys)from⟨hz,its,c',r',e⟩),rfl,q _ (I.hok.fresh (bp _))⟩;rcases hq with hq|hq
 · obtain⟨its,r',pl,hz⟩:=I.list hq
   have hlen:=r'.length;obtain⟨o,ho,hc,n,hd⟩:=pl.isList;exact call_list_seq p (.inl rfl) ho hc hd (fun h' c' kp e=>fin its r' hz h' c' kp e) (by simp only[df]<;>omega)
 · obtain⟨its,r',pl,hz⟩:=I.tuple hq
   have hlen:=r'.length;obtain⟨o,ho,hc,n,hd⟩:=pl;exact call_list_seq p (.inr rfl) ho hc hd (fun h' c' kp e=>fin its r' hz h' c' kp e) (by simp only[df]<;>omega)
theorem a3l:ek X (.type "tuple") (fun xs H Q=>∃p ys,xs=[.ref p]/\((aw X.K H p ys/\∀l,H l=none->Q (.ref l) (upd H l (.tup ys)))\/(aB X.K H p ys/\Q (.ref p) H))):=by
 intro pins s σ H xs us Q I r h;obtain⟨p,ys,rfl,h⟩:=h;obtain⟨u,rfl,rx⟩:=vals1 r;cases rx;rcases h with⟨hq,q⟩|⟨hq,q⟩
 · obtain⟨its,r',pl,hz⟩:=I.list hq
   have hlen:=r'.length;refine call_tuple_list pl.isList (fun h' kp=>?_) (by simp only[df]<;>omega);have I1:Inv X pins σ H {s with heap:=h'}:=I.kept (t':=s.toks) kp;have I2:Inv X pins σ (upd H h'.objs.size (.tup ys)) {s with heap:=h'.push {cls:=.type "tuple",data:=.seq its.toArray}}:=I1.laid (t':=s.toks) (fun b o e=>cg _ e) (bp _) (show fN X.prog X.w _ _ _ (.tup ys)from⟨hz,its,r',IsTup.new _ _⟩);exact⟨.ref h'.objs.size,_,I2,rfl,q _ (I1.hok.fresh (bp _))⟩
 · obtain⟨its,r',pl,hz⟩:=I.tuple hq
   exact call_tuple_same pl ⟨.ref p,H,I,rfl,q⟩
def Ay(K:a5w)(T:String)(x:V)(H:Hp):Prop:=match x with | .str _=>T="str" | .int _=>T="int" | .ref p=>(T="list"/\∃xs,aw K H p xs)\/(T="tuple"/\∃o,K.lookup p=some o/\o.cls= .type "tuple"/\o.dict=none)\/ (T="dict"/\((∃aA,H p=some (.dK aA))\/∃aA,H p=some (.dT aA)))\/(T="set"/\∃S n,H p=some (.set S n)) |_=>False
theorem GP{pins:List (Addr×Obj)}{σ:St}{H:Hp}{s:a5x}{T:String}{x:V}{v:Value}(I:Inv X pins σ H s)(r:RelV x v)(ty:Ay X.K T x H): s.TypeIs v T/\∀a,v= .ref a->∃ob,s.heap.get? a=some ob/\ob.dict=none:=by cases x with
  |str z=>obtain⟨t,rfl⟩:=r;cases(show T="str" from ty);exact⟨typeIs_str s z t,fun _ e=>nomatch e⟩ |int i=>obtain⟨t,rfl⟩:=r;cases(show T="int" from ty);exact⟨typeIs_int s i t,fun _ e=>nomatch e⟩ |ref p=>
    cases r;rcases ty with⟨rfl,xs,hq⟩|⟨rfl,o,hk,hc,hd⟩|⟨rfl,hk⟩|⟨rfl,S,n,hk⟩
    · obtain⟨its,_,pl,_⟩:=I.list hq
      refine⟨pl.isList.typeIs,fun a e=>?_⟩;cases e;obtain⟨o,n,e,c,hd,_⟩:=pl;exact⟨o,e,hd⟩
    · refine⟨⟨o,I.iK p o hk,hc⟩,fun a e=>?_⟩
      cases e;exact⟨o,I.iK _ o hk,hd⟩
    · have z:∃o,s.heap.get? p=some o/\o.ExactDict:=by
        rcases hk with⟨aA,hk⟩|⟨aA,hk⟩
        · obtain⟨_,_,_,_,o,_,_,e,ex,_⟩:=I.hok p _ hk
          exact⟨o,e,ex⟩
        · obtain⟨_,_,_,_,o,_,_,e,ex,_⟩:=I.hok p _ hk
          exact⟨o,e,ex⟩
      obtain⟨o,e,ex⟩:=z;refine⟨⟨o,e,ex.1⟩,fun a e2=>?_⟩;cases e2;exact⟨o,e,ex.2.1⟩
    · obtain⟨o,_,_,_,e,ex,_⟩:=I.hok p _ hk
      refine⟨⟨o,e,ex.1⟩,fun a e2=>?_⟩;cases e2;exact⟨o,e,ex.2.1⟩ |_=>exact False.elim ty
def AF(K:a5w)(T:String)(r:V->List V->Hp->VK->Prop)(to:TE):TE:=fun σ H Q=>to σ H fun x H1=>Ay K T x H1/\r x [] H1 Q
def xT(K:a5w)(T:String)(r:V->List V->Hp->VK->Prop)(to:TE)(t:TA):TE:=fun σ H Q=>to σ H fun x H1=>Ay K T x H1/\t σ H1 fun xs H2=>r x xs H2 Q
variable {o e:Expr}{es:List Expr}{to:TE}{t:TA}{name:Str}{apos cW:Pos}{T id:String}{r:V->List V->Hp->VK->Prop}
theorem Kw(pa:PlainAttrs T)(slot:Slot T name id)(we:typeOf (.builtin id)=pure (.type "method_descriptor"))(hm:OB X id r)(ho:PE X o to) (jQ:attributeBase o name X.env (eval o X.env)=eval o X.env:=by rfl)(jN:(apos.endLine==cW.line)=true:=by rfl):PE X (.Call (.Attribute o name apos) [] [] cW) (AF X.K T r to):=by intro pins s σ H Q I h;refine wpAny_Call_method0_late jQ jN (aI (ho pins s σ H _ I h) fun v s1 ⟨x,H1,I1,r1,ty,q1⟩=>?_);obtain⟨h1,h2⟩:=GP I1 r1 ty;exact⟨T,id,pa,slot,we,h1,h2,Calls.callWith_builtin rfl (PySem.evalArgs_none (hm pins s1 σ H1 x [] v [] Q I1 r1 .nil q1))⟩
theorem Dk(pa:PlainAttrs T)(slot:Slot T name id)(we:typeOf (.builtin id)=pure (.type "method_descriptor"))(hm:OB X id r)(ho:PE X o to)(ha:PA X (e::es) t) (jQ:attributeBase o name X.env (eval o X.env)=eval o X.env:=by rfl) (qy:((backTo cW (starEach (e::es) X.env)).all (fun x=>!x.1)&&(backToKw cW (keywordEach [] X.env)).all (fun x=>x.1.isSome) &&decide ((e::es).length+([]:List Keyword).length+(if([]:List Keyword).isEmpty then 0 else 1)<30))=true:=by rfl) (jN:(apos.endLine==cW.line)=true:=by rfl)(hs:starEach (e::es) X.env=(false,eval e X.env)::starEach es X.env:=by rfl)(qi:(backTo cW (starEach es X.env)).any (·.1)=false:=by rfl): PE X (.Call (.Attribute o name apos) (e::es) [] cW) (xT X.K T r to t):=by intro pins s σ H Q I h;refine wpAny_Call_method_late jQ qy jN rfl (aI (ho pins s σ H _ I h) fun v s1 ⟨x,H1,I1,r1,ty,q1⟩=>?_);obtain⟨h1,h2⟩:=GP I1 r1 ty;refine⟨T,id,pa,slot,we,h1,h2,?_⟩;have hA:=ha cW pins s1 σ H1 _ I1 q1;rw[hs]at hA⊢;refine Calls.callWith_builtin (by show(false||(backTo cW (starEach es X.env)).any (·.1))=false;rw[qi]<;>rfl) (Calls.evalArgs_plain ?_);exact aI hA fun us s2 ⟨vs,H2,I2,r2,q2⟩=>hm pins s2 σ H2 x vs v us Q I2 r1 r2 q2
end
end L2
namespace L2
open PySem PySem.Spec PyProof.Rows
def xf(X:Cx)(id:String)(r:V->List V->Hp->VK->Prop):Prop:=∀(pins:List (Addr×Obj))(s:a5x)(σ:St)(H:Hp)(x:V)(xs:List V)(v:Value)(us:List Value)(Q:VK),Inv X pins σ H s->RelV x v->Vals xs us->r x xs H Q->wpAny (model X.prog X.w) X.A (call (.builtin id) (v::us)) (EP X pins σ Q) X.xe s
theorem Vals.one:∀{x:V}{us:List Value},Vals [x] us->∃u,us=[u]/\RelV x u |_,_,.cons r .nil=>⟨_,rfl,r⟩
theorem Vals.zero:∀{us:List Value},Vals [] us->us=[] |_,.nil=>rfl
theorem Vals.eraseIdx:∀{xs:List V}{us:List Value}(i:Nat),Vals xs us->Vals (xs.eraseIdx i) (us.eraseIdx i) |_,_,_,.nil=>.nil |_,_,0,.cons _ t=>t |_,_,i+1,.cons r t=>.cons r (Vals.eraseIdx i t)
theorem Vals.reverse{xs:List V}{us:List Value}(h:Vals xs us):Vals xs.reverse us.reverse:=by induction h with |nil=>exact .nil |cons r t ih=>rw[List.reverse_cons,List.reverse_cons];exact Vals.append ih (.cons r .nil)
theorem LG{α:Type}:∀(l:List α)(i:Nat),(l.eraseIdx i).length<=l.length |[],_=>bp _ |_::_,0=>Nat.le_succ _ |_::r,i+1=>Nat.succ_le_succ (LG r i)
section
variable {X:Cx}{pins:List (Addr×Obj)}{σ:St}{H:Hp}{s:a5x}{l b:Addr}{xs ys zs:List V}
theorem Inv.vR{its its':List Value}{n:Nat}{f:Array Value->Array Value}{t':Nat}(I:Inv X pins σ H s)(hH:H l=some (.lst xs)) (e:s.heap.get? l=some {cls:=.type "list",data:=.seq its.toArray n})(hf:f its.toArray=its'.toArray)(hv:Vals ys its')(hz:ys.length<=sizeLine): Inv X pins σ (upd H l (.lst ys)) {s with heap:=s.heap.update l (Obj.mapSeq f),toks:=t'}:=by have q:=PySem.IsL.update e f;rw[hf]at q;refine I.write (x:=l) (e:=l) (by rw[hH];exact trivial) (.inl rfl) (fun b' u hb hu=>(Heap.get?_update_other s.heap (Obj.mapSeq f) (cC hb)).trans hu) ⟨_,q⟩ ?_;exact⟨hz,its',_,hv,q⟩
theorem Inv.LA{its:List Value}{t':Nat}(I:Inv X pins σ H s)(hv:Vals ys its)(hz:ys.length<=sizeLine): Inv X pins σ (upd H s.heap.objs.size (.lst ys)) {s with heap:=s.heap.push {cls:=.type "list",data:=.seq its.toArray},toks:=t'}:=I.laid (fun _ _ q=>cg _ q) (bp _) ⟨hz,its,0,hv,dU _ rfl⟩
theorem Inv.sW(I:Inv X pins σ H s)(hH:H l=some (.lst xs)):xs.length<=sizeLine/\∃(its:List Value)(n:Nat),Vals xs its/\xs.length=its.length/\s.heap.get? l=some {cls:=.type "list",data:=.seq its.toArray n}:=by obtain⟨z,its,n,r,e⟩:=I.hok l _ hH;exact⟨z,its,n,r,r.length,e⟩
theorem XY{n:Nat}(h:n<=sizeLine):Builtin.List.listTooLong n=false:=by unfold Builtin.List.listTooLong;exact eu (by omega)
end
section
variable {X:Cx}
inductive Qu(x:V)(vs:List V)(H:Hp)(Q:VK):Prop |mk (l:_)(xs:_)(y:_)(h0:x= .ref l)(h1:vs=[y])(h2:H l=some (.lst xs))(h3:xs.length<sizeLine)(h4:Q .aW (upd H l (.lst (xs++[y])))):Qu x vs H Q
def Kj:V->List V->Hp->VK->Prop:=fun x vs H Q=>Qu x vs H Q
theorem DF:xf X "list.append" Kj:=by intro pins s σ H x vs v us Q I rx rv h;obtain⟨l,xs,y,rfl,rfl,hH,hz,q⟩:=h;cases rx;obtain⟨u,rfl,ru⟩:=rv.one;obtain⟨z,its,n,r,hl,e⟩:=I.sW hH;refine xo F.slot_list_append ⟨_,e,rfl⟩ F.entry_list_append (F.args_list_append_2 _ _) (PySem.list_append l its.toArray n u (by rw[df];omega)) ⟨e,?_⟩;refine⟨.aW,_,I.vR (its':=its++[u]) hH e (by simp) (r.append (.cons ru .nil)) ?_,rfl,q⟩;rw[eZ,List.length_singleton];omega
inductive Qq(x:V)(vs:List V)(H:Hp)(Q:VK):Prop |mk (l:_)(b:_)(xs:_)(zs:_)(h0:x= .ref l)(h1:vs=[.ref b])(h2:H l=some (.lst xs))(h3:H b=some (.lst zs))(h4:xs.length+zs.length<=sizeLine)(h5:Q .aW (upd H l (.lst (xs++zs)))):Qq x vs H Q
def Kh:V->List V->Hp->VK->Prop:=fun x vs H Q=>Qq x vs H Q
theorem Yj:xf X "list.extend" Kh:=by
 intro pins s σ H x vs v us Q I rx rv h;obtain⟨l,b,xs,zs,rfl,rfl,hH,hB,hz,q⟩:=h;cases rx;obtain⟨u,rfl,ru⟩:=rv.one;cases ru;obtain⟨z,its,n,r,hl,e⟩:=I.sW hH;obtain⟨z2,kI,n2,r2,oj,e2⟩:=I.sW hB;have hsz:its.toArray.size+kI.toArray.size<=sizeLine:=by rw[df,df];omega
 have a0f:¬(!its.toArray.isEmpty&&Builtin.List.listTooLong (its.toArray.size+kI.toArray.size))=true:=by rw[XY hsz,Bool.and_false];exact jz
 refine xo F.slot_list_extend ⟨_,e,rfl⟩ F.entry_list_extend (F.args_list_extend_2 _ _) (AutoSeq1.list_extend_list_list_0 l its.toArray n b kI.toArray n2 a0f (by rw[df];omega) (by omega)) ⟨e,e2,?_⟩;refine⟨.aW,_,I.vR (its':=its++kI) hH e (by simp) (r.append r2) ?_,rfl,q⟩;rw[eZ];omega
inductive Qh(x:V)(vs:List V)(H:Hp)(Q:VK):Prop |mk (l:_)(xs:_)(i:_)(k:_)(y:_)(h0:x= .ref l)(h1:vs=[.int i])(h2:H l=some (.lst xs))(h3:-(2^63)<=i)(h4:i<2^63)(h5:seqIndex? i xs.length=some k)(h6:xs[k]? =some y)(h7:Q y (upd H l (.lst (xs.eraseIdx k)))):Qh x vs H Q
def Kc:V->List V->Hp->VK->Prop:=fun x vs H Q=>Qh x vs H Q
theorem Yi:xf X "list.pop" Kc:=by
 intro pins s σ H x vs v us Q I rx rv h;obtain⟨l,xs,i,k,y,rfl,rfl,hH,h1,h2,hk,hy,q⟩:=h;cases rx;obtain⟨u,rfl,ru⟩:=rv.one;obtain⟨t,rfl⟩:=ru;obtain⟨z,its,n,r,hl,e⟩:=I.sW hH;obtain⟨w,hw,gZ⟩:=r.get hy;refine xo F.slot_list_pop ⟨_,e,rfl⟩ F.entry_list_pop (F.args_list_pop_2 _ _) (MeetsSeq.list_pop_at l its.toArray n i t k w (fitsIndex_both h1 h2) (by rw[df,<-hl];exact hk) (by rw[<-Array.getElem?_toList];exact hw) (by rw[df];omega)) ⟨e,?_⟩;refine⟨y,_,I.vR (its':=its.eraseIdx k) hH e ?_ (r.eraseIdx k) ?_,gZ,q⟩
 · show its.toArray.eraseIdxIfInBounds k=(its.eraseIdx k).toArray
   rw[List.eraseIdxIfInBounds_toArray]
 · have:=LG xs k
   omega
inductive Qg(x:V)(vs:List V)(H:Hp)(Q:VK):Prop |mk (l:_)(xs:_)(h0:x= .ref l)(h1:vs=[])(h2:H l=some (.lst xs))(h3:Q .aW (upd H l (.lst xs.reverse))):Qg x vs H Q
def Kb:V->List V->Hp->VK->Prop:=fun x vs H Q=>Qg x vs H Q
theorem Yh:xf X "list.reverse" Kb:=by intro pins s σ H x vs v us Q I rx rv h;obtain⟨l,xs,rfl,rfl,hH,q⟩:=h;cases rx;have E8:=rv.zero;subst E8;obtain⟨z,its,n,r,hl,e⟩:=I.sW hH;refine xo F.slot_list_reverse ⟨_,e,rfl⟩ F.entry_list_reverse (F.args_list_reverse_1 _) (AutoSeq1.list_reverse_list_0 l its.toArray n (by rw[df];omega)) ⟨e,?_⟩;refine⟨.aW,_,I.vR (its':=its.reverse) hH e (by simp) r.reverse ?_,rfl,q⟩;rw[List.length_reverse];omega
inductive Qs(x:V)(vs:List V)(H:Hp)(Q:VK):Prop |mk (l:_)(xs:_)(h0:x= .ref l)(h1:vs=[])(h2:H l=some (.lst xs))(h3:Q .aW (upd H l (.lst []))):Qs x vs H Q
def Ki:V->List V->Hp->VK->Prop:=fun x vs H Q=>Qs x vs H Q
theorem Yk:xf X "list.clear" Ki:=by intro pins s σ H x vs v us Q I rx rv h;obtain⟨l,xs,rfl,rfl,hH,q⟩:=h;cases rx;have E8:=rv.zero;subst E8;obtain⟨z,its,n,r,hl,e⟩:=I.sW hH;refine xo F.slot_list_clear ⟨_,e,rfl⟩ F.entry_list_clear (F.args_list_clear_1 _) (AutoSeq1.list_clear_list_0 l its.toArray n (by rw[df];omega)) ⟨e,?_⟩;exact⟨.aW,_,I.vR (its':=[]) (ys:=[]) hH e rfl .nil (fV _),rfl,q⟩
end
section
variable {prog:a5y}{w:World}{A:a5A}{E:Value->a5x->Prop}{s:a5x}
end
section
variable {X:Cx}
end
end L2
namespace Att
open PySem PySem.W PySem.Calls PyProof.Rows
theorem Zj{P:Params}{h:Heap}:∀(ns:List Int)(vs:List Value),WellAll P h vs (ns.map WData.int)->IntsAre vs ns:=by intro ns;induction ns with |nil=>intro vs w;rw[List.map_nil]at w;cases w;exact .nil |cons n ns ih=>intro vs w;rw[nM]at w;cases w with |cons a b=>cases a;exact .cons _ _ (ih _ b)
theorem TN{l:OpenLaw}{n:Nat}(hn:l.most=some n){P:Params}{h:Heap}{args:List WData}{vals:List Value} (zk:l.row.toRowW.claim.pre args=true)(E7:WellAll P h vals args): ∃a vs ns,vals=[Value.ref a]/\args=[WData.list (ns.map WData.int)]/\h.get? a=some {cls:=.type "list",data:=.seq vs.toArray}/\IntsAre vs ns/\ns.length<=n:=by
  have ZQ:WShape.hasAll [] args [.list .int]=true:=(pre_splitW zk).1;have hc:l.pre.holds [] {args:=args}=true:=(pre_splitW zk).2;obtain⟨d,r,rfl,h1,h2⟩:=hasAllW_cons ZQ;obtain rfl:=hasAllW_nil h2;obtain⟨xs,rfl,h3⟩:=hasW_list h1;obtain⟨ns,rfl⟩:=items_int h3;have hlen:ns.length<=n:=by
   unfold OpenLaw.pre at hc;have h4:(WTm.not (.lt (.lit (.int (n:Int))) (.len (.arg 0)))).holds [] {args:=[.list (ns.map .int)]}=true:=by have h4:=(holds_andW hc).1;rw[hn]at h4;exact h4
   have h5:=condW_of h4 (w_not (w_lt w_lit (w_len_list (w_arg rfl))));rw[bS]at h5;refine Nat.le_of_not_lt fun q=>?_;have q':(n:Int)<((ns.length:Nat):Int):=by omega
   first |(rw[cw q']at h5;exact absurd h5 (by decide)) |(simp at h5;omega)
  cases E7 with |cons w1 w2=>cases w2;cases w1 with |list ho Ez=>exact⟨_,_,ns,rfl,rfl,ho,Zj ns _ Ez,hlen⟩
theorem Vq(l:OpenLaw)(args:List WData):l.row.toRowW.claim.post args (.bool true) args=true:=postW_of (r:=l.row.toRowW) (X:=(true==true)) (show WShape.has [] (.bool true) .bool=true by first|rfl|decide|simp[WShape.has,WShape.arms,WShape.armsAll]) (show(WTm.eq .res (.lit (.bool true))).value [] {args:=args,res:=some (.bool true),after:=args}=some (.bool (true==true))from w_eq_bool (w_res rfl) w_lit) rfl
theorem a3J{l:OpenLaw}{n:Nat}{q:a5y}{loose:List Str}{XP:(Str->Option Value)->Heap->Prop}{YP:World->Heap->Prop}{d:DefRec} (hn:l.most=some n)(wx:d.params.defaults=[]) (call:∀(w:World)(s₀ s₁:a5x)(mg mb:Str->Option Value)(fa:Addr)(o:Obj)(pm cd doc:Value)(a:Addr)(vs:List Value)(ns:List Int),Ground q loose [] XP w s₀ mg mb s₁.heap->YP w s₁.heap->s₁.heap.get? fa=some o->o.data= .func (docDef d.name d.params d.body d.scope pm cd doc)->s₁.heap.CodeRec cd d.name->mg d.name=some (.ref fa)->s₁.heap.get? a=some {cls:=.type "list",data:=.seq vs.toArray}->IntsAre vs ns->ns.length<=n->s₁.gens=#[]->codeAny (model l.prog w) callerA (.call (.ref fa) ⟨[.ref a],[]⟩) (fun r s'=>r= .ok (.ret (.bool true))/\OldK s₁.heap s'.heap/\s'.os=s₁.os/\AllBare s'.gens) s₁): WalkO q loose XP YP l.row.toRowW d [] (fun f vs=>PySem.call f vs):=by intro w s₀ s₁ mg mb G Y fa o pm cd doc dV kV ho hd ku hD wu hg args vals as zk a4Y hrd E7 hlo;obtain rfl:dV= .none:=Dflts.none hD wx;obtain rfl:kV= .none:=Dflts.noKw hD;obtain⟨a,vs,ns,rfl,rfl,Ee,hints,hlen⟩:=TN hn zk E7;refine enter_call (codeAny_mono (call w s₀ s₁ mg mb fa o pm cd doc a vs ns G Y ho (fd_plain hd) ku wu Ee hints hlen hg) fun r s' hq=>?_);obtain⟨rfl,h2,h3,h4⟩:=hq;exact⟨.inl ⟨.bool true,.bool true,[],rfl,fun _=>rfl,.bool true,Vq l _,fun _=>⟨List.Pairwise.nil,fun _ hm=>(nomatch hm)⟩⟩,h2,h3,h4⟩
section
variable {prog:a5y}{w:World}{A:a5A}{E:Value->a5x->Prop}{s:a5x}{K:Frag}
end
end Att
namespace L2
open PySem PySem.Spec PyProof.Rows
theorem GD:∀{vs:List Value}{ns:List Int},IntsAre vs ns->Vals (ns.map V.int) vs |_,_,.nil=>.nil |_,_,.cons n t h=>.cons ⟨t,rfl⟩ (GD h)
def FQ(H:Hp):Prop:=∀b,H b=none\/∃o xs,H b=some (.lR o (.lst xs))
theorem YS{P:a5y}{w:World}{K:a5w}{mg mb:Str->Option Value}{CX:kU}{k:Nat}{fa a:Addr}{fd:FuncData}{x:Str}{sp:Sp}{s₁:a5x}{vs:List Value}{ns:List Int} (KX:K.In s₁.heap)(Mg:s₁.heap.Ns mainGlobals mg)(hb:s₁.heap.Ns builtinsNs mb)(hbb:∀x:Str,x≠"__name__"->mb x=bootBuiltins x)(a0g:s₁.heap.NoLimit)(hg:s₁.gens=#[]) (ha:s₁.heap.get? a=some {cls:=.type "list",data:=.seq vs.toArray})(hi:IntsAre vs ns)(hl:ns.length<=sizeLine)(hr:cX k callerA) (F:∀base:Heap,K.In base->base.Ns mainGlobals mg->iR P w K mg base CX k fa fd [x] sp)(a0O:∀(s:a5x)(u:Value),BindsTo s fd ⟨[u],[]⟩ [(x,u)]) (oh:∀H:Hp,FQ H->aw K H a (ns.map V.int)->sp [.ref a] H (fun v _=>v= .bl true) fun _ _ _=>False) (ED:∀H e s',CX [] H s₁ (fun _ _ _=>False) e s'->False): codeAny (model P w) callerA (.call (.ref fa) ⟨[.ref a],[]⟩) (fun r s'=>r= .ok (.ret (.bool true))/\OldK s₁.heap s'.heap/\s'.os=s₁.os/\AllBare s'.gens) s₁:=by
  have rv:=GD hi;have YM:=hi.length;have core:∀H:Hp,FQ H->aw K H a (ns.map V.int)->du P w H s₁.heap->(∀b,H b≠none->b=a)->(H a≠none->K.lookup a=none)->codeAny (model P w) callerA (.call (.ref fa) ⟨[.ref a],[]⟩) (fun r s'=>r= .ok (.ret (.bool true))/\OldK s₁.heap s'.heap/\s'.os=s₁.os/\AllBare s'.gens) s₁:=by
    intro H hO hS hok hA hK;have O7:∀{b:Addr}{o:Obj},s₁.heap.get? b=some o->H b=none->(mN s₁.heap H).get? b=some o:=fun e n=>a0w e n;have vB:∀{b:Addr}{o:Obj}{es:Array DictEntry}{ep:Nat},s₁.heap.get? b=some o->o.data= .dict es ep->H b=none:=fun{b o es ep} e d=>by cases q:H b with |none=>rfl |some u=>have e':b=a:=hA b (by rw[q];simp);subst e';rw[ha]at e;cases e;have d':Data.seq vs.toArray _=Data.dict es ep:=d;cases d'
    have yJ:∀{b:Addr}{m:Str->Option Value},s₁.heap.Ns b m->(mN s₁.heap H).Ns b m:=fun{b m} ⟨o,es,ep,e,d,r⟩=>⟨o,es,ep,O7 e (vB e d),d,r⟩;have MH:K.In (mN s₁.heap H):=fun b o e=>O7 (KX b o e) (by cases q:H b with |none=>rfl |some u=>have e':b=a:=hA b (by rw[q];simp);subst e';rw[hK (by rw[q];simp)]at e;cases e);have hM:Mod K mg (mN s₁.heap H):=⟨MH,yJ Mg,⟨mb,yJ hb,hbb⟩,let⟨mc,h1,h2⟩:=a0g;⟨mc,yJ h1,h2⟩⟩;have e0:qT P w K mg (mN s₁.heap H) callerA [] s₁ H:=⟨rfl,hM,fun b o e=>XM e,Nat.le_of_eq (a0v _ _),trivial,fun b hb=>absurd (show b∈([]:List Addr)from hb) (by simp),hok,.of_eq hg⟩;refine codeAny_mono ((F _ MH (yJ Mg)).run callerA [] s₁ H ⟨[.ref a],[]⟩ [.ref a] [.ref a] _ _ hr e0 (a0O s₁ (.ref a)) (.cons rfl .nil) (oh H hO hS)) fun r s' h=>?_;cases r with |error e=>exact(ED H e s' h).elim |ok fl=>cases fl with |next=>exact False.elim h |brk=>exact False.elim h |cont=>exact False.elim h |ret u=>obtain⟨v,H',os,bare,un,a04,r',q⟩:=h;have q':v= .bl true:=q;subst q';obtain rfl:u=Value.bool true:=r';refine⟨rfl,OldK.of_keep fun b o e=>?_,os,bare⟩;cases q:H b with |none=>exact un.keep b o e q (by intro z;exact absurd (show b∈([]:List Addr)from z) (by simp)) (by simp) |some u=>
          rcases hO b with z|⟨ob,xs,z⟩
          ·rw[q]at z;cases z
          · have z2:=un.frzs b ob _ z
            obtain⟨e1,_⟩:=hok b _ z;obtain⟨e2,_⟩:=a04 b _ z2;rw[e]at e1;cases e1;exact e2
  cases hk:K.lookup a with |some o=>have e:=KX a o hk;rw[ha]at e;cases e;refine core (fun _=>none) (fun _=>.inl rfl) (.inr ⟨_,vs.toArray,_,hk,rfl,rfl,rfl,by rw[df,YM];exact hl,by simpa using rv⟩) (fun b u z=>by have z':(none:Option HO)=some u:=z;cases z') (fun b z=>absurd rfl z) fun z=>absurd rfl z |none=>
    refine core (fun b=>if b=a then some (.lR {cls:=.type "list",data:=.seq vs.toArray} (.lst (ns.map V.int)))else none) (fun b=>?_) (.inl (.inr ⟨{cls:=.type "list",data:=.seq vs.toArray},aP rfl⟩)) (fun b u z=>?_) (fun b z=>?_) fun _=>hk
    · by_cases hb:b=a
      ·exact .inr ⟨_,_,aP hb⟩
      ·exact .inl (aV hb)
    · by_cases hb:b=a
      · have z':=(aP hb).symm.trans z
        cases z';subst hb;exact⟨ha,by rw[bS];exact hl,vs,_,rv,ha⟩
      · have z':=(aV hb).symm.trans z
        cases z'
    · by_cases hb:b=a
      ·exact hb
      ·exact absurd (aV hb) z
theorem RI{l:PySem.W.OpenLaw}{n k:Nat}{q:a5y}{loose:List Str}{XP:(Str->Option Value)->Heap->Prop}{YP:World->Heap->Prop}{d:DefRec}{K:Params->a5w}{CX:World->kU}{sp:World->Sp}{x:Str} (hn:l.most=some n)(tH:n<=sizeLine)(wx:d.params.defaults=[])(hr:cX k callerA) (hY:∀(w:World)(h:Heap),YP w h->(K w.params).In h) (F:∀(w:World)(mg:Str->Option Value)(fa:Addr)(h:Heap),(K w.params).In h->h.Ns mainGlobals mg->mg d.name=some (.ref fa)->∃fd:FuncData,(∀(s:a5x)(u:Value),BindsTo s fd ⟨[u],[]⟩ [(x,u)])/\∀base:Heap,(K w.params).In base->base.Ns mainGlobals mg->iR l.prog w (K w.params) mg base (CX w) k fa fd [x] (sp w)) (oh:∀(w:World)(H:Hp)(a:Addr)(ns:List Int),ns.length<=n->FQ H->aw (K w.params) H a (ns.map V.int)->sp w [.ref a] H (fun v _=>v= .bl true) fun _ _ _=>False) (ED:∀(w:World)(H:Hp)(s:a5x)(e:Value)(s':a5x),CX w [] H s (fun _ _ _=>False) e s'->False): PySem.W.WalkO q loose XP YP l.row.toRowW d [] (fun f vs=>PySem.call f vs):=by refine Att.a3J hn wx fun w s₀ s₁ mg mb fa o pm cd doc a vs ns G Y ho hd ku wu Ee hints hlen hg=>?_;have KX:=hY w _ Y;obtain⟨fd,hb,hF⟩:=F w mg fa _ KX G.T.g wu;exact YS KX G.T.g G.T.b G.T.builtins G.T.nolimit hg Ee hints (gH hlen tH) hr hF hb (fun H hO hS=>oh w H a ns hlen hO hS) fun H e s'=>ED w H s₁ e s'
def inClass(s:Stmt)(j:Nat):Stmt:=match s with | .ClassDef _ _ _ body _ _ _ _ _ _ _=>body.getD j (.Pass ⟨0,0,0,0⟩) |_=>.Pass ⟨0,0,0,0⟩
def kP(s:Stmt):Arguments:=match s with | .FunctionDef _ a _ _ _ _ _ _ _ _=>a |_=>{posonlyargs:=[],args:=[],vararg:=none,kwonlyargs:=[],kw_defaults:=[],kwarg:=none,defaults:=[]}
def j6(s:Stmt):List Stmt:=match s with | .FunctionDef _ _ b _ _ _ _ _ _ _=>b |_=>[]
def aM(s:Stmt):Scope:=match s with | .FunctionDef _ _ _ _ _ _ sc _ _ _=>sc |_=>{kind:=.function,names:=[],isGenerator:=false,isCoroutine:=false}
abbrev jZ:kU:=fun _ _ _ _ _ _=>False
abbrev E0:XK:=fun _ _ _=>False
theorem yz{X:Cx}:Passes jZ X E0:=fun _ _ _ _ _ _ _ h=>h.elim
structure kT(K:a5w)(x qual:Str)(st:Stmt)(f:Addr)(fd:FuncData):Prop where
 ex:∃(oc:Value)(od:Option Addr)(kV doc pm:Value)(an:Option Addr)(aD ct:Value)(ip:Array (Option Value)),fd=PySem.W.fnOf x qual (kP st) (j6 st) (aM st) .none kV doc pm an aD ct/\K.lookup f=some ⟨oc,od,.func fd,ip⟩/\PySem.W.codeIn K aD qual=true
 kp:PySem.W.keepIn K (.ref f)=true
section
variable {P:a5y}{w:World}{K:a5w}{mg:Str->Option Value}{base:Heap}
theorem kT.ok{x qual:Str}{st:Stmt}{f:Addr}{fd:FuncData}{N ps:List Str}{k:Nat}{sp:Sp}(F:kT K x qual st f fd)(S:bc N ps (aM st))(len:∀vs H Q E,sp vs H Q E->vs.length=ps.length) (mS:∀(aD:Value)(A:a5A)(outer:List Env)(s:a5x)(H:Hp)(vs:List V)(Q:VK)(E:XK),cX k (A.deeper (envOfC qual (aM st) s.heap.objs.size f aD))->sp vs H Q E->∃t,iQ (mY jZ P w K mg base N qual (aM st) f aD A outer s H E).pX (j6 st) t/\t {nx:=fun _ H'=>Q .aW H',rt:=Q} (start N vs) H):iR P w K mg base jZ (k+1) f fd ps sp:=by obtain⟨oc,od,kV,doc,pm,an,aD,ct,ip,rfl,lk,ku⟩:=F.ex;refine a28 lk ku S len fun A outer s H vs Q E hr oh=>?_;obtain⟨t,h,q⟩:=mS aD A outer s H vs Q E hr oh;exact⟨t,h.pX,q⟩
theorem kT.binds{x qual:Str}{st:Stmt}{f:Addr}{fd:FuncData}{ps:List Str}(F:kT K x qual st f fd) (h:∀(kV doc pm:Value)(an:Option Addr)(aD ct:Value)(us:List Value),us.length=ps.length->bindArgs (PySem.W.fnOf x qual (kP st) (j6 st) (aM st) .none kV doc pm an aD ct) ⟨us,[]⟩=pure (ps.zip us)):Binds K fd ps []:=by obtain⟨oc,od,kV,doc,pm,an,aD,ct,ip,rfl,lk,ku⟩:=F.ex;exact .all (h kV doc pm an aD ct)
theorem EF{x qual:Str}{st:Stmt}{f:Addr}{oc:Value}{od an:Option Addr}{ip:Array (Option Value)}{kV doc pm aD ct:Value}(l:K.lookup f=some ⟨oc,od,.func (PySem.W.fnOf x qual (kP st) (j6 st) (aM st) .none kV doc pm an aD ct),ip⟩) (c:PySem.W.codeIn K aD qual=true)(k:PySem.W.keepIn K (.ref f)=true):kT K x qual st f (PySem.W.fnOf x qual (kP st) (j6 st) (aM st) .none kV doc pm an aD ct):=⟨⟨oc,od,kV,doc,pm,an,aD,ct,ip,rfl,l,c⟩,k⟩
end
section
variable {X:Cx}
theorem pv(i:Nat){x:Str}{pos:Pos}(hN:X.N[i]? =some x:=by rfl)(hv:FJ X.env.scope x:=by first|exact Or.inl rfl|exact Or.inr (Or.inl rfl)|exact Or.inr (Or.inr rfl))(hd:(x==("__debug__":Str))=false:=by decide) (ku:(x==("__classdict__":Str))=false:=by decide):PE X (.Name x pos) (Hc i):=VF hN hv hd ku
end
theorem bf{A B:Prop}(h:B):if false=true then A else B:=by rw[aV jz];exact h
theorem bF{A B:Prop}(h:A):if true=true then A else B:=by rw[aP rfl];exact h
theorem cV{c A B:Prop}[Decidable c](h1:c->A)(h2:¬c->B):if c then A else B:=by
 by_cases h:c
 · rw[aP h]
   exact h1 h
 · rw[aV h]
   exact h2 h
def ai(H H':Hp):Prop:=∀b o,H b=some o->H' b=some o
theorem ai.refl(H:Hp):ai H H:=fun _ _ h=>h
theorem ai.trans{H H1 H2:Hp}(a:ai H H1)(b:ai H1 H2):ai H H2:=fun c o h=>b c o (a c o h)
theorem ai.seq{K:a5w}{H H':Hp}{a:Addr}{xs:List V}(e:ai H H')(h:aw K H a xs):aw K H' a xs:=by
 rcases h with(h|⟨o,h⟩)|h
 ·exact .inl (.inl (e _ _ h))
 ·exact .inl (.inr ⟨o,e _ _ h⟩)
 ·exact .inr h
def Wd (i:Int):Prop:=i.natAbs<2^5000
theorem Wd.bits{i:Int}(h:Wd i):Builtin.Int.intBits i<=2^20:=gH (PyProof.Rows.intBits_le h) (by decide)
theorem Wd.log{i:Int}(h:Wd i):i.natAbs.log2<9000:=by
 by_cases e:i.natAbs=0
 ·rw[e];decide
 · have h1:i.natAbs.log2<5000:=(Nat.log2_lt e).mpr h
   omega
section
variable {X:Cx}
theorem kF:cN X (binaryOp .FloorDiv) (rI (fun _ j=>0<j/\Wd j) fun i j=>.int (i/j)):=vp fun i j _ _ _ _ _ hc q=>by have h1:(0:Int)<j:=hc.1;exact floordiv_int (by omega) (by rw[Ro i (by omega)];exact q) (.inl (PyProof.noPylong_of_log2 hc.2.log))
theorem KP:cN X (binaryOp .FloorDiv) (rI (fun _ j=>j≠0/\Wd j) fun i j=>.int (i.fdiv j)):=vp fun _ _ _ _ _ _ _ hc q=>floordiv_int hc.1 q (.inl (PyProof.noPylong_of_log2 hc.2.log))
end
def qR(K:a5w)(H:Hp)(x:V)(T:String):Prop:=match x with | .aW=>T="NoneType" | .bl _=>T="bool" | .int _=>T="int" | .str _=>T="str" | .ref a=>(T="list"/\∃xs,aw K H a xs)\/(T="tuple"/\∃xs,aB K H a xs) |_=>False
def gI(T n:String):Bool:=T==n||(T=="bool"&&n=="int")
def xM:List String:=["NoneType","bool","int","str","list","tuple"]
def uG:List String:=["bool","int","str","list","tuple"]
theorem LP{K:a5w}{T n:String}(h1:T∈xM)(h2:n∈uG):PySem.W.kitOne K (.type T) (.type n)=some (gI T n):=by
 have all:xM.all (fun T=>uG.all fun n=>PySem.W.kitOne [] (.type T) (.type n)==some (gI T n))=true:=by decide+kernel
 have a1:=jc.mp all T h1;have a2:=jc.mp a1 n h2;have e:PySem.W.kitOne K (.type T) (.type n)=PySem.W.kitOne [] (.type T) (.type n):=by unfold PySem.W.kitOne PySem.W.kitCls PySem.W.subIn;rfl
 rw[e];exact fT.mp a2
section
variable {X:Cx}
theorem qR.mem{K:a5w}{H:Hp}{x:V}{T:String}(h:qR K H x T):T∈xM:=by cases x with |aW=>cases(show T="NoneType" from h);decide |bl b=>cases(show T="bool" from h);decide |int b=>cases(show T="int" from h);decide |str b=>cases(show T="str" from h);decide |ref a=>rcases(show(T="list"/\∃xs,aw K H a xs)\/(T="tuple"/\∃xs,aB K H a xs)from h)with⟨e,_⟩|⟨e,_⟩<;>cases e<;>decide |_=>exact(show False from h).elim
theorem LQ{pins:List (Addr×Obj)}{s:a5x}{σ:St}{H:Hp}{x:V}{u:Value}{T:String}(I:Inv X pins σ H s)(rx:RelV x u)(ty:qR X.K H x T): ∃P:Heap->Prop,PySem.W.KitX X.K u (.type T) P/\P s.heap/\u≠ .builtin "__main__.__loader__#opaque":=by cases x with
  |aW=>cases(show T="NoneType" from ty);cases(show u=Value.none from rx);exact⟨_,PySem.W.kitx_none,True.intro,fun z=>nomatch z⟩ |bl b=>cases(show T="bool" from ty);cases(show u=Value.bool b from rx);exact⟨_,PySem.W.kitx_bool,True.intro,fun z=>nomatch z⟩ |int b=>cases(show T="int" from ty);obtain⟨t,q⟩:=(show∃t,u=Value.int b t from rx);cases q;exact⟨_,PySem.W.kitx_int,True.intro,fun z=>nomatch z⟩ |str b=>cases(show T="str" from ty);obtain⟨t,q⟩:=(show∃t,u=Value.str b t from rx);cases q;exact⟨_,PySem.W.kitx_str,True.intro,fun z=>nomatch z⟩ |ref a=>
    cases(show u=Value.ref a from rx);rcases(show(T="list"/\∃xs,aw X.K H a xs)\/(T="tuple"/\∃xs,aB X.K H a xs)from ty)with⟨e,xs,hx⟩|⟨e,xs,hx⟩
    · cases e
      obtain⟨its,r,⟨o,n,h1,h2,_⟩,_⟩:=I.list hx;exact⟨_,PySem.W.kitx_list,⟨o,h1,h2⟩,fun z=>nomatch z⟩
    · cases e
      obtain⟨its,r,⟨o,h1,h2,_⟩,_⟩:=I.tuple hx;exact⟨_,PySem.W.kitx_tuple,⟨o,h1,h2⟩,fun z=>nomatch z⟩ |_=>exact(show False from ty).elim
inductive Qm(K:a5w)(xs:List V)(H:Hp)(Q:VK):Prop |mk (x:_)(T:_)(n:_)(b:_)(h0:xs=[x,.ty n])(h1:qR K H x T)(h2:n∈uG)(h3:gI T n=b)(h4:Q (.bl b) H):Qm K xs H Q
def Kg(K:a5w):List V->Hp->VK->Prop:=fun xs H Q=>Qm K xs H Q
theorem a3u:ek X (.builtin "isinstance") (Kg X.K):=by intro pins s σ H xs us Q I r h;obtain⟨x,T,n,b,rfl,ty,hn,rfl,q⟩:=h;obtain⟨u,c,rfl,rx,rc⟩:=vals2 r;cases(show c=Value.type n from rc);obtain⟨P,Z,p,hx⟩:=LQ I rx ty;exact PySem.W.kia_one Z I.iK p (LP ty.mem hn) hx fun tk=>⟨.bl (gI T n),H,I.tok _,rfl,q⟩
inductive Ql(K:a5w)(xs:List V)(H:Hp)(Q:VK):Prop |mk (x:V)(T:String)(p:Addr)(ns:List String)(b:Bool)(h0:xs=[x,.ref p])(h1:H p=some (.tup (ns.map V.ty)))(h2:qR K H x T)(h3:(∀n∈ns,n∈uG))(h4:ns.any (gI T)=b)(h5:Q (.bl b) H):Ql K xs H Q
def Kf(K:a5w):List V->Hp->VK->Prop:=fun xs H Q=>Ql K xs H Q
theorem LO{K:a5w}{T:String}(h1:T∈xM):∀{ns:List String},(∀n∈ns,n∈uG)->PySem.W.kitAny K (.type T) (ns.map Value.type)=some (ns.any (gI T)) |[],_=>rfl |n::r,h=>by have e:=LP (K:=K) h1 (h n (Gj ..));have ih:=LO (K:=K) h1 (ns:=r) fun m hm=>h m (ux _ hm);rw[nM,PySem.W.kitAny,e,qZ];cases gI T n with |true=>rfl |false=>simpa using ih
theorem GC:∀{ns:List String}{us:List Value},Vals (ns.map V.ty) us->us=ns.map Value.type |[],_,.nil=>rfl |n::r,_,.cons q t=>by cases(show _=Value.type n from q);rw[GC t];rfl
theorem a3t:ek X (.builtin "isinstance") (Kf X.K):=by intro pins s σ H xs us Q I r h;obtain⟨x,T,p,ns,b,rfl,hp,ty,hn,rfl,q⟩:=h;obtain⟨u,c,rfl,rx,rc⟩:=vals2 r;cases(show c=Value.ref p from rc);obtain⟨P,Z,pp,hx⟩:=LQ I rx ty;obtain⟨_,its,rv,⟨cls,dd,dt,sl⟩,h1,h2,n,h3⟩:=(show fN X.prog X.w H s.heap p (.tup (ns.map V.ty))from I.hok p _ hp);simp only at h2 h3;subst h2 h3;have e:=GC rv;subst e;exact PySem.W.kia_tup Z I.iK pp h1 (LO ty.mem hn) hx fun tk=>⟨.bl _,H,I.tok _,rfl,q⟩
end
mutual
def RD(K:a5w)(H:Hp):V->a5z->Prop |x,.none=>x= .aW |x,.bool b=>x= .bl b |x,.int i=>x= .int i |x,.str y=>x= .str y |x,.list ds=>∃a xs,x= .ref a/\aw K H a xs/\ay K H xs ds |x,.tuple ds=>∃a xs,x= .ref a/\aB K H a xs/\ay K H xs ds |_,.dict _=>False
def ay (K:a5w)(H:Hp):List V->List a5z->Prop |xs,[]=>xs=[] |xs,d::ds=>∃y ys,xs=y::ys/\RD K H y d/\ay K H ys ds
end
section
variable {X:Cx}
mutual
theorem RD.reads{pins:List (Addr×Obj)}{s:a5x}{σ:St}{H:Hp}(I:Inv X pins σ H s):∀{x:V}{u:Value}(d:a5z),RelV x u->RD X.K H x d->∃as,Reads s.heap u d as |x,u,.none,r,h=>by cases(show x= .aW from by simpa[RD]using h);cases(show u=Value.none from r);exact⟨_,.none⟩ |x,u,.bool b,r,h=>by cases(show x= .bl b from by simpa[RD]using h);cases(show u=Value.bool b from r);exact⟨_,.bool b⟩ |x,u,.int i,r,h=>by cases(show x= .int i from by simpa[RD]using h);obtain⟨t,q⟩:=(show∃t,u=Value.int i t from r);cases q;exact⟨_,.int i t⟩ |x,u,.str y,r,h=>by cases(show x= .str y from by simpa[RD]using h);obtain⟨t,q⟩:=(show∃t,u=Value.str y t from r);cases q;exact⟨_,.str y t⟩ |x,u,.list ds,r,h=>by rw[RD]at h;obtain⟨a,xs,rfl,hx,hd⟩:=h;cases(show u=Value.ref a from r);obtain⟨its,rv,⟨o,n,h1,h2,h3,h4⟩,_⟩:=I.list hx;obtain⟨as,q⟩:=ay.reads I ds rv hd;exact⟨_,.list h1 h2 h4 (by simpa using q)⟩ |x,u,.tuple ds,r,h=>by rw[RD]at h;obtain⟨a,xs,rfl,hx,hd⟩:=h;cases(show u=Value.ref a from r);obtain⟨its,rv,⟨o,h1,h2,n,h4⟩,_⟩:=I.tuple hx;obtain⟨as,q⟩:=ay.reads I ds rv hd;exact⟨_,.tuple h1 h2 h4 (by simpa using q)⟩ |x,u,.dict _,r,h=>by simp[RD]at h
theorem ay.reads {pins:List (Addr×Obj)}{s:a5x}{σ:St}{H:Hp}(I:Inv X pins σ H s):∀{xs:List V}{us:List Value}(ds:List a5z),Vals xs us->ay X.K H xs ds->∃as,ReadsAll s.heap us ds as |xs,us,[],r,h=>by cases(show xs=[]from by simpa[ay]using h);cases r;exact⟨_,.nil⟩ |xs,us,d::ds,r,h=>by rw[ay]at h;obtain⟨y,ys,rfl,h1,h2⟩:=h;cases r with |cons ra rb=>obtain⟨as,q⟩:=RD.reads I d ra h1;obtain⟨bs,q'⟩:=ay.reads I ds rb h2;exact⟨_,.cons q q'⟩
end
inductive Qr(K:a5w)(x:V)(y:V)(H:Hp)(Q:VK):Prop |mk (d:_)(e:_)(h0:RD K H x d)(h1:RD K H y e)(h2:SeqAt.shaped d=true)(h3:SeqAt.shaped e=true)(h4:Q (.bl (PyData.eqv d e)) H):Qr K x y H Q
def D7(K:a5w):R2:=fun x y H Q=>Qr K x y H Q
inductive Qi(K:a5w)(x:V)(y:V)(H:Hp)(Q:VK):Prop |mk (d:_)(e:_)(h0:RD K H x d)(h1:RD K H y e)(h2:SeqAt.shaped d=true)(h3:SeqAt.shaped e=true)(h4:Q (.bl (!PyData.eqv d e)) H):Qi K x y H Q
def D6(K:a5w):R2:=fun x y H Q=>Qi K x y H Q
theorem Wf(hu:X.A.units+64<cLine):cN X (compareOp .Eq) (D7 X.K):=by intro pins s σ H x y v u Q I rx ry h;obtain⟨d,e,hd,he,sd,se,q⟩:=h;obtain⟨as,ra⟩:=RD.reads I d rx hd;obtain⟨bs,rb⟩:=RD.reads I e ry he;exact eq_dataH ra rb sd se hu ⟨.bl _,H,I,rfl,q⟩
theorem W9(hu:X.A.units+64<cLine):cN X (compareOp .NotEq) (D6 X.K):=by intro pins s σ H x y v u Q I rx ry h;obtain⟨d,e,hd,he,sd,se,q⟩:=h;obtain⟨as,ra⟩:=RD.reads I d rx hd;obtain⟨bs,rb⟩:=RD.reads I e ry he;exact ne_dataH ra rb sd se hu ⟨.bl _,H,I,rfl,q⟩
end
end L2
namespace L2
open PySem PySem.Spec PyProof.Rows
theorem ai.new{H:Hp}{t:Addr}{o:HO}(ht:H t=none):ai H (upd H t o):=fun b o' e=>by rw[az (fw e ht)];exact e
structure Nw(H H':Hp)(p:Addr)(o:HO):Prop where
 no:H p=none
 at':H' p=some o
 same:ai H H'
 eq:H'=upd H p o
theorem Nw.of{H:Hp}{p:Addr}{o:HO}(h:H p=none):Nw H (upd H p o) p o:=⟨h,aO,.new h,rfl⟩
def zQ:List Str:=["len","abs","min","max","range","isinstance","int","bool","str","tuple","list","any","all","sum","zip","enumerate","sorted","reversed","ord","chr","divmod","repr","dict","set"]
def bB(mg:Str->Option Value):Prop:=∀x∈zQ,mg x=none
theorem bB.at{mg:Str->Option Value}(B:bB mg)(x:Str)(h:x∈zQ:=by decide):mg x=none:=B x h
theorem dR{α:Type}{C:List α->Prop}(h:∀a,C [a]):∀us:List α,us.length=1->C us |[_],_=>h _
theorem cP{α:Type}{C:List α->Prop}(h:∀a b,C [a,b]):∀us:List α,us.length=2->C us |[_,_],_=>h _ _
theorem lX{α:Type}{C:List α->Prop}(h:∀a b c,C [a,b,c]):∀us:List α,us.length=3->C us |[_,_,_],_=>h _ _ _
theorem FH{α:Type}{C:List α->Prop}(h:∀a b c d,C [a,b,c,d]):∀us:List α,us.length=4->C us |[_,_,_,_],_=>h _ _ _ _
def MV(N P:List Str)(sc:Scope):Bool:=decide (sc.kind= .function)&& !sc.isCoroutine&& !sc.isGenerator&&decide N.Nodup&&decide (N.take P.length=P)&&P.all (fun x=>decide (sc.names.lookup x=some .local\/sc.names.lookup x=some .cell))&&sc.names.all fun y=>decide (y.2≠ .free)
theorem bh{N P:List Str}{sc:Scope}(h:MV N P sc=true):bc N P sc:=by unfold MV at h;simp only[fh,G3,Bool.not_eq_true',jc]at h;obtain⟨⟨⟨⟨⟨⟨h1,h2⟩,h3⟩,h4⟩,h5⟩,h6⟩,h7⟩:=h;exact⟨h1,h2,h3,h4,h5,h6,h7⟩
structure FA(K:a5w)(mg:Str->Option Value)(x:Str)(st:Stmt):Prop where ex:∃f fd,mg x=some (.ref f)/\kT K x x st f fd
def aj(P:a5y)(w:World)(K:a5w)(mg:Str->Option Value)(base:Heap)(x:Str)(k:Nat)(sp:Sp):Prop:=∃f fd ps,iR P w K mg base jZ k f fd ps sp/\mg x=some (.ref f)/\PySem.W.keepIn K (.ref f)=true/\Binds K fd ps []
section
variable {P:a5y}{w:World}{K:a5w}{mg:Str->Option Value}{base:Heap}
theorem a2g{h:Heap}{x:Str}{st:Stmt}{f:Addr}{oc:Value}{od an:Option Addr}{ip:Array (Option Value)}{kV doc pm aD ct:Value}(X:K.In h)(G:h.Ns mainGlobals mg) (a:PySem.W.nsIn K mainGlobals x=some (some (.ref f))) (l:K.lookup f=some ⟨oc,od,.func (PySem.W.fnOf x x (kP st) (j6 st) (aM st) .none kV doc pm an aD ct),ip⟩) (c:PySem.W.codeIn K aD x=true)(k:PySem.W.keepIn K (.ref f)=true):FA K mg x st:=⟨f,_,Af X G a,EF l c k⟩
theorem FA.has{x:Str}{st:Stmt}{N ps:List Str}{k:Nat}{sp:Sp}(F:FA K mg x st)(S:bc N ps (aM st))(len:∀vs H Q E,sp vs H Q E->vs.length=ps.length) (hb:∀(kV doc pm:Value)(an:Option Addr)(aD ct:Value)(us:List Value),us.length=ps.length->bindArgs (PySem.W.fnOf x x (kP st) (j6 st) (aM st) .none kV doc pm an aD ct) ⟨us,[]⟩=pure (ps.zip us)) (mS:∀(f:Addr)(aD:Value)(A:a5A)(outer:List Env)(s:a5x)(H:Hp)(vs:List V)(Q:VK)(E:XK),cX k (A.deeper (envOfC x (aM st) s.heap.objs.size f aD))->sp vs H Q E->∃t,iQ (mY jZ P w K mg base N x (aM st) f aD A outer s H E).pX (j6 st) t/\t {nx:=fun _ H'=>Q .aW H',rt:=Q} (start N vs) H):aj P w K mg base x (k+1) sp:=by obtain⟨f,fd,hm,F⟩:=F.ex;exact⟨f,fd,ps,F.ok S len fun aD A outer s H vs Q E=>mS f aD A outer s H vs Q E,hm,F.kp,F.binds hb⟩
end
section
variable {X:Cx}{k:Nat}{x:Str}{p pos:Pos}{e:Expr}{es:List Expr}{t:TA}{sp:Sp}
def Hg(sp:Sp)(t:TA):TE:=fun σ H Q=>t σ H fun vs H1=>sp vs H1 Q E0
theorem mq(F:aj X.prog X.w X.K X.mg X.base x k sp)(hr:cX k X.A)(hg:Gl X x)(ha:PA X (e::es) t)(jP:(x==("__debug__":Str))=false:=by decide) (he:starEach (e::es) X.env=(false,eval e X.env)::starEach es X.env:=by rfl)(gU:(backTo pos (starEach es X.env)).any (·.1)=false:=by rfl): PE X (.Call (.Name x p) (e::es) [] pos) (Hg sp t):=by
  obtain⟨f,fd,ps,F,hm,hk,hb⟩:=F;have h:=VM (pos:=pos) (p:=p) F hr hg hm hk hb .nil yz ha jP he gU;intro pins s σ H Q I hq;refine h pins s σ H Q I ?_;have e1:(fun(vs:List V) H1=>sp (vs++[]) H1 Q E0)=fun vs H1=>sp vs H1 Q E0:=by funext vs H1;rw[Gr]
  show t σ H fun vs H1=>sp (vs++[]) H1 Q E0;rw[e1];exact hq
theorem pf{j:Nat}(F:aj X.prog X.w X.K X.mg X.base x j sp)(hr:cX k X.A)(ha:PA X (e::es) t)(hjk:j<=k:=by decide)(hg:Gl X x:=by rfl)(jP:(x==("__debug__":Str))=false:=by decide)(he:starEach (e::es) X.env=(false,eval e X.env)::starEach es X.env:=by rfl)(gU:(backTo pos (starEach es X.env)).any (·.1)=false:=by rfl):PE X (.Call (.Name x p) (e::es) [] pos) (Hg sp t):=mq F (hr.mono hjk) hg ha jP he gU
theorem ba:cN X (binaryOp .Mult) (rI (fun i j=>IntMulOk i j) fun i j=>.int (i*j)):=vp fun _ _ _ _ _ _ _ hc q=>mul_int q hc
theorem We:cN X (compareOp .Eq) (jh fun i j=>.bl (decide (i=j))):=sm fun _ _ _ _ _ _ _ q=>eq_int (by rw[Bool.beq_eq_decide_eq];exact q)
theorem W8:cN X (compareOp .NotEq) (jh fun i j=>.bl (!decide (i=j))):=sm fun _ _ _ _ _ _ _ q=>ne_int (by rw[bne,Bool.beq_eq_decide_eq];exact q)
theorem Wg(hu:X.A.units+64<cLine):cN X (compareOp .Eq) (fun x y H Q=>jh (fun i j=>.bl (decide (i=j))) x y H Q\/D7 X.K x y H Q):=We.or (Wf hu)
theorem Wa(hu:X.A.units+64<cLine):cN X (compareOp .NotEq) (fun x y H Q=>jh (fun i j=>.bl (!decide (i=j))) x y H Q\/D6 X.K x y H Q):=W8.or (W9 hu)
mutual
theorem eqv_refl:∀d:a5z,d.canLay0=true->PyData.eqv d d=true | .none,_=>by simp[PyData.eqv] | .bool b,_=>by simp[PyData.eqv] | .int i,_=>by simp[PyData.eqv] | .str x,_=>by simp[PyData.eqv] | .list ds,h=>by simp only[PyData.eqv];exact eqvAll_refl ds (by simpa[PyData.canLay0]using h) | .tuple ds,h=>by simp only[PyData.eqv];exact eqvAll_refl ds (by simpa[PyData.canLay0]using h) | .dict _,h=>by simp[PyData.canLay0]at h
theorem eqvAll_refl:∀ds:List a5z,PyData.canLayAll0 ds=true->PyData.eqvAll ds ds=true |[],_=>by simp[PyData.eqvAll] |d::ds,h=>by simp only[PyData.canLayAll0,fh]at h;simp only[PyData.eqvAll,fh];exact⟨eqv_refl d h.1,eqvAll_refl ds h.2⟩
end
theorem lD{K:a5w}{H:Hp}(b:Bool):RD K H (.bl b) (.bool b):=by simp[RD]
theorem dG{K:a5w}{H:Hp}(i:Int):RD K H (.int i) (.int i):=by simp[RD]
theorem dD{K:a5w}{H:Hp}(x:Str):RD K H (.str x) (.str x):=by simp[RD]
theorem UR{K:a5w}{H:Hp}:RD K H .aW .none:=by simp[RD]
theorem iW{K:a5w}{H:Hp}{p:Addr}{xs:List V}{ds:List a5z}(h:aB K H p xs)(r:ay K H xs ds):RD K H (.ref p) (.tuple ds):=by rw[RD];exact⟨p,xs,rfl,h,r⟩
theorem nY{K:a5w}{H:Hp}{p:Addr}{xs:List V}{ds:List a5z}(h:aw K H p xs)(r:ay K H xs ds):RD K H (.ref p) (.list ds):=by rw[RD];exact⟨p,xs,rfl,h,r⟩
theorem cQ{K:a5w}{H:Hp}:ay K H [] []:=by simp[ay]
theorem cj{K:a5w}{H:Hp}{x:V}{xs:List V}{d:a5z}{ds:List a5z}(h:RD K H x d)(r:ay K H xs ds):ay K H (x::xs) (d::ds):=by rw[ay];exact⟨x,xs,rfl,h,r⟩
inductive OH(t:TS)(D:Ends)(σ:St)(H:Hp):Prop |mk (FR:St->Hp->Prop)(h0:t {D with nx:=FR} σ H)(h1:∀σ' H',FR σ' H'->D.nx σ' H'):OH t D σ H
def Sw (t:TS):TS:=fun D σ H=>OH t D σ H
theorem fW{st:Stmt}{t:TS}(h:PS X st t):PS X st (Sw t):=by intro pins s σ H D I hq;obtain⟨FR,q,m⟩:=hq;refine aI (h pins s σ H _ I q) fun f s1 q1=>?_;cases f with |next=>obtain⟨σ',H',I',q'⟩:=q1;exact⟨σ',H',I',m _ _ q'⟩ |brk=>exact q1 |cont=>exact q1 |ret u=>exact q1
end
end L2
namespace L2
open PySem PySem.Spec PyProof.Rows
def oO(K:a5w)(xs:List Str):Prop:=∀x∈xs,PySem.W.nsIn K mainGlobals x=some none
theorem oO.nil{K:a5w}:oO K []:=fun _ h=>nomatch h
theorem oO.cons{K:a5w}{x:Str}{xs:List Str}(a:PySem.W.nsIn K mainGlobals x=some none)(r:oO K xs):oO K (x::xs):=fun y hy=>by
 rcases bW.mp hy with e|e
 ·rw[e];exact a
 ·exact r y e
theorem a3B{K:a5w}{mg:Str->Option Value}{h:Heap}(X:K.In h)(G:h.Ns mainGlobals mg)(a:oO K zQ):bB mg:=fun x hx=>PySem.W.mg_none_of X G (a x hx)
theorem YR{l:PySem.W.OpenLaw}{q:a5y}{loose:List Str}{XP:(Str->Option Value)->Heap->Prop}{YP:World->Heap->Prop}{d:DefRec}{K:Params->a5w}{k:Nat}{x:Str}{st:Stmt}(hn:l.most=some 63)(wx:d.params.defaults=[]) (hr:cX k callerA)(hY:∀(w:World)(h:Heap),YP w h->(K w.params).In h)(All:a5w->(Str->Option Value)->Prop) (F:∀(w:World)(mg:Str->Option Value)(h:Heap),(K w.params).In h->h.Ns mainGlobals mg->All (K w.params) mg) (L:∀(K:a5w)(mg:Str->Option Value),All K mg->FA K mg d.name st) (hb:∀(kV doc pm:Value)(an:Option Addr)(aD ct u:Value),bindArgs (PySem.W.fnOf d.name d.name (kP st) (j6 st) (aM st) .none kV doc pm an aD ct) ⟨[u],[]⟩=pure [(x,u)]) (ok:∀(P:a5y)(w:World)(K:a5w)(mg:Str->Option Value)(base:Heap)(f:Addr)(fd:FuncData),All K mg->kT K d.name d.name st f fd->iR P w K mg base jZ k f fd [x] (fun vs H Q _=>∃(a:Addr)(ns:List Int),vs=[.ref a]/\aw K H a (ns.map V.int)/\ns.length<=63/\∀H',Q (.bl true) H')): PySem.W.WalkO q loose XP YP l.row.toRowW d [] (fun f vs=>PySem.call f vs):=L2.RI (n:=63) (k:=k) (x:=x) (CX:=fun _=>jZ) (sp:=fun w=>fun vs H Q _=>∃(a:Addr)(ns:List Int),vs=[.ref a]/\aw (K w.params) H a (ns.map V.int)/\ns.length<=63/\∀H',Q (.bl true) H') hn (by decide) wx hr hY (fun w mg fa h KX G wu=>by
     have A:=F w mg h KX G;obtain⟨f,fd,hm,Fn⟩:=(L _ _ A).ex;have e:fa=f:=by rw[wu]at hm;injection (eG hm)
     subst e;refine⟨fd,fun s u=>?_,fun base _ _=>ok l.prog w _ mg base fa fd A Fn⟩;obtain⟨oc,od,kV,doc,pm,an,aD,ct,ip,rfl,lk,ku⟩:=Fn.ex;exact .of_eq (hb kV doc pm an aD ct u)) (fun _ _ a ns hl _ hS=>⟨a,ns,rfl,hS,hl,fun _=>rfl⟩) fun _ _ _ _ _ z=>z
theorem Fo{env:Env}:∀(ns:List (Str×NameKind))(cs:List (Str×Addr)),(∀x∈ns,x.2= .free->∃c,env.cells.lookup x.1=some c)->(∀x c,cs.lookup x=some c->env.cells.lookup x=some c)->∃cl,(forIn ns cs (fun x r=>if(x.2==NameKind.free)=true then do let a<-cellOf env x.1;pure (ForInStep.yield ((x.1,a)::r))else pure (ForInStep.yield r)):Sem (List (Str×Addr)))=pure cl/\(∀x c,cl.lookup x=some c->env.cells.lookup x=some c)/\(∀x c,cs.lookup x=some c->∃c',cl.lookup x=some c')/\∀x∈ns,x.2= .free->∃c,cl.lookup x.1=some c
  |[],cs,_,h2=>⟨cs,rfl,h2,fun x c e=>⟨c,e⟩,fun _ h=>nomatch h⟩ |(n,k)::r,cs,h1,h2=>by
    by_cases hk:k= .free
    · subst hk
      obtain⟨c,hc⟩:=h1 (n,.free) (.head _) rfl;have e1:cellOf env n=pure c:=by unfold cellOf;rw[show env.cells.lookup n=some c from hc]
      obtain⟨cl,a1,a2,a3,a4⟩:=Fo r ((n,c)::cs) (fun x hx=>h1 x (.tail _ hx)) (fun x d e=>by rw[jb]at e;cases z:x==n with |true=>rw[z]at e;cases e;rw[fT.mp z];exact hc |false=>rw[z]at e;exact h2 x d e);refine⟨cl,?_,a2,fun x d e=>?_,fun x hx hf=>?_⟩
      · rw[Gq]
        show(do let r'<-(if(NameKind.free==NameKind.free)=true then do let a<-cellOf env n;pure (ForInStep.yield ((n,a)::cs))else pure (ForInStep.yield cs));_)=_;rw[aP (by rfl),e1];exact a1
      · by_cases z:x==n
        ·exact a3 x c (by rw[jb,z])
        ·exact a3 x d (by rw[jb,uA.mpr z];exact e)
      · rcases bW.mp hx with rfl|hx
        ·exact a3 n c (by rw[jb,QO])
        ·exact a4 x hx hf
    · obtain⟨cl,a1,a2,a3,a4⟩:=Fo r cs (fun x hx=>h1 x (.tail _ hx)) h2
      refine⟨cl,?_,a2,a3,fun x hx hf=>?_⟩
      · rw[Gq]
        show(do let r'<-(if(k==NameKind.free)=true then do let a<-cellOf env n;pure (ForInStep.yield ((n,a)::cs))else pure (ForInStep.yield cs));_)=_;rw[aV (by simpa using hk)];exact a1
      · rcases bW.mp hx with rfl|hx
        ·exact absurd hf hk
        ·exact a4 x hx hf
theorem NR{env:Env}{scope:Scope}(h1:∀x∈scope.names,x.2= .free->∃c,env.cells.lookup x.1=some c): ∃cl,closureFor scope env=pure cl/\(∀x c,cl.lookup x=some c->env.cells.lookup x=some c)/\∀x∈scope.names,x.2= .free->∃c,cl.lookup x.1=some c:=by
  obtain⟨cl,a1,a2,_,a4⟩:=Fo (env:=env) scope.names [] h1 (fun x c e=>nomatch e);refine⟨cl,?_,a2,a4⟩;unfold closureFor;show(forIn scope.names ([]:List (Str×Addr)) (fun(x:Str×NameKind) r=>match x with|(name,kind)=>if(kind==NameKind.free)=true then do let a<-cellOf env name;pure (ForInStep.yield ((name,a)::r))else pure (ForInStep.yield r))>>=fun r=>(pure r:Sem (List (Str×Addr))))=pure cl;have ef:(fun(x:Str×NameKind)(r:List (Str×Addr))=>match x with|(name,kind)=>(if(kind==NameKind.free)=true then do let a<-cellOf env name;pure (ForInStep.yield ((name,a)::r))else pure (ForInStep.yield r):Sem (ForInStep (List (Str×Addr))))) =fun x r=>if(x.2==NameKind.free)=true then do let a<-cellOf env x.1;pure (ForInStep.yield ((x.1,a)::r))else pure (ForInStep.yield r):=by funext x r;obtain⟨n,k⟩:=x;rfl
  rw[ef,a1];rfl
theorem Lv{env:Env}(hk:env.scope.kind= .function){x:Str}(hx:env.kindOf x=some .cell):∀{names:List (Str×NameKind)},names.lookup x=some .free->(names.map fun(n,k)=>if(k==NameKind.free&&env.scope.kind== .function&&env.kindOf n==some .cell)then(n,NameKind.cell)else(n,k)).lookup x=some .cell |[],h=>nomatch h |(n,k)::r,h=>by have ih:=@Lv env hk x hx r;show List.lookup x ((if(k==NameKind.free&&env.scope.kind== .function&&env.kindOf n==some .cell)=true then(n,NameKind.cell)else(n,k))::_)=_;cases z:x==n with |true=>simp only[jb,z]at h;cases h;have e:=fT.mp z;subst e;rw[aP (by rw[hk,hx];rfl),jb,z] |false=>simp only[jb,z]at h;split<;>(simp only[jb,z];exact ih h)
def fg(X:Cx)(N:List Str)(scope:Scope)(cl:List (Str×Addr))(s:a5x)(H:Hp)(fp:List Addr)(pins:List (Addr×Obj)):Cx:={prog:=X.prog,w:=X.w,K:=X.K,mg:=X.mg,base:=X.base,A:=X.A,N:=N,s₀:=s,H₀:=H,env:=compEnvC scope cl s.heap.objs.size X.env,outer:=X.stack,stack:=X.stack,ex:=fp,fn:=fun _=>false,calm:=X.calm,pn:=X.pn++pins,xe:=fun _ _=>False}
def stC(js:List (Option Nat))(σ:St):St:=js.map fun|none=>none|some j=>(σ[j]?).join
def zN(X:Cx)(N:List Str)(js:List (Option Nat))(scope:Scope):Bool:=N.length==js.length&&(N.zip js).all fun p=>match p.2 with|none=>true|some j=>X.N[j]? ==some p.1&&scope.names.lookup p.1==some NameKind.free&&X.env.kindOf p.1==some NameKind.cell
def u7(X:Cx)(scope:Scope):Bool:=scope.kind== .function&&X.env.scope.kind== .function&&scope.names.all fun x=>match x.2 with | .free=>X.env.kindOf x.1==some NameKind.cell | .cell=>false | .local=>scope.names.lookup x.1==some NameKind.local |_=>true
section
variable {X:Cx}{pins:List (Addr×Obj)}{σ:St}{H:Hp}{s:a5x}
theorem lookup_mem{α β:Type}[BEq α][LawfulBEq α]:∀{l:List (α×β)}{x:α}{b:β},l.lookup x=some b->(x,b)∈l |[],_,_,h=>nomatch h |(n,k)::r,x,b,h=>by rw[jb]at h;cases z:x==n with |true=>rw[z]at h;cases h;rw[fT.mp z];exact .head _ |false=>rw[z]at h;exact .tail _ (lookup_mem h)
theorem K1{env:Env}{x:Str}{k:NameKind}:∀{names:List (Str×NameKind)},(names.map fun(n,k)=>if(k==NameKind.free&&env.scope.kind== .function&&env.kindOf n==some .cell)then(n,NameKind.cell)else(n,k)).lookup x=some k->names.lookup x=some k\/(k= .cell/\names.lookup x=some .free) |[],h=>nomatch h |(n,k')::r,h=>by have ih:=@K1 env x k r;have h':List.lookup x ((if(k'==NameKind.free&&env.scope.kind== .function&&env.kindOf n==some .cell)=true then(n,NameKind.cell)else(n,k'))::(r.map fun(n,k)=>if(k==NameKind.free&&env.scope.kind== .function&&env.kindOf n==some .cell)then(n,NameKind.cell)else(n,k)))=some k:=h;cases z:x==n with
    |true=>
      split at h'
      · rename_i hc
        simp only[jb,z]at h';cases h';rw[fh,fh]at hc;have e:k'= .free:=fT.mp hc.1.1;subst e;exact .inr ⟨rfl,by rw[jb,z]⟩
      · simp only[jb,z]at h'
        cases h';exact .inl (by rw[jb,z]) |false=>
      rw[jb,z];refine ih ?_;split at h'
      ·simpa only[jb,z]using h'
      ·simpa only[jb,z]using h'
theorem Inv.comp{N:List Str}{js:List (Option Nat)}{scope:Scope}{cl:List (Str×Addr)}{fp:List Addr}{h':Heap}{tk:Nat}(I:Inv X pins σ H s)(hN:zN X N js scope=true)(hS:u7 X scope=true) (c1:∀x c,cl.lookup x=some c->X.env.cells.lookup x=some c)(c2:∀x∈scope.names,x.2= .free->∃c,cl.lookup x.1=some c)(hf:∀b∈fp,jY X pins H b)(hfl:∀b∈fp,b<s.heap.objs.size) (hn:h'.Ns s.heap.objs.size fun _=>none)(hk:∀b o,s.heap.get? b=some o->h'.get? b=some o):Inv (fg X N scope cl s H fp pins) [] (stC js σ) H {s with heap:=h',toks:=tk}:=by
  unfold u7 at hS;rw[fh,fh]at hS;obtain⟨⟨s1,s2⟩,s3⟩:=hS;have mL:scope.kind= .function:=fT.mp s1;have a0h:X.env.scope.kind= .function:=fT.mp s2;unfold zN at hN;rw[fh]at hN;obtain⟨n1,n2⟩:=hN;have hlen:N.length=js.length:=fT.mp n1;have LZ:∀x k,(relabel scope X.env).names.lookup x=some k->scope.names.lookup x=some k\/(k= .cell/\scope.names.lookup x=some .free):=fun x k e=>K1 e;have Y3:∀x,scope.names.lookup x≠some .cell:=fun x e=>by have:=jc.mp s3 _ (lookup_mem e);exact jz this
  have MU:∀b∈(fg X N scope cl s H fp pins).fs,b∈X.env.locals::X.fs:=I.AH;have ok:(fg X N scope cl s H fp pins).Ok:={
    mod:=I.ok.mod
    kind:=mL
    glob:=I.ok.glob
    blt:=I.ok.blt
    above:=bp _
    inj:=fun x y c e1 e2=>I.ok.inj x y c (c1 x c e1) (c1 y c e2)
    has:=fun x hx=>by
     have fr:scope.names.lookup x=some .free->∃c,cl.lookup x=some c:=fun e=>c2 (x,.free) (lookup_mem e) rfl;rcases hx with e|e
     · rcases LZ x _ e with e|⟨_,e⟩
       ·exact absurd e (Y3 x)
       ·exact fr e
     · rcases LZ x _ e with e|⟨z,_⟩
       ·exact fr e
       ·cases z
    cab:=fun x c e=>nomatch e
    hd:=I.ok.hd
    frames:=I.ok.frames
    stk:=.inl rfl
    exf:=fun b hb=>⟨eV (hfl b hb),fun x c e=>(hf b hb).2.2.2.2.1 x c (c1 x c e)⟩
    bs:=I.bs
    bsz:=gH I.ok.bsz I.sz
    noex:=fun b o e hb=>by
     rcases(hf b hb).2.2.2.1 with z|z
     ·exact I.ok.noex b o e z
     ·exact absurd (fF (ck e) (gH I.ok.bsz z)) (xq _)
    exfs:=fun b hb z=>by
     obtain⟨_,q1,q2,_⟩:=hf b hb;rcases bW.mp (MU b z)with e|e
     ·exact q1 e
     ·exact q2 e
    jU:=I.stack
    frf:=I.Hn};refine⟨ok,rfl,I.bare,Un.kept hk,⟨_,hn,fun i x v e1 e2 e3=>?_⟩,fun x c e=>?_,I.hok.fresh (bp _),fun x c e=>I.freeC x c (c1 x c e),fun p hp=>?_,I.hok.kept hk,?_⟩
  · have tX:(js.map fun|none=>none|some j=>(σ[j]?).join)[i]? =some (some v):=e2
    rw[bU]at tX;cases hj:js[i]? with |none=>rw[hj]at tX;cases tX |some o=>rw[hj]at tX;cases o with |none=>cases tX |some j=>
        have hz:(N.zip js)[i]? =some (x,some j):=by rw[uy];exact⟨e1,hj⟩
        have NT:=jc.mp n2 _ (g9 hz);simp only[fh,fT]at NT;obtain⟨⟨h1,h2⟩,h3⟩:=NT;have zF:(σ[j]?).join=some v:=by simpa using tX
        have hσ:σ[j]? =some (some v):=by cases q:σ[j]? with |none=>rw[q]at zF;cases zF |some o=>
           rw[q]at zF;have:o=some v:=by simpa using zF
           rw[this]
        obtain⟨m,hm,hl⟩:=I.loc;obtain⟨u,r,l⟩:=hl j x v h1 hσ (.inr (.inl h3));refine⟨u,r,?_⟩;rcases l with⟨k,_⟩|⟨_,c,hc,ow⟩
        ·rw[h3]at k;cases k
        · obtain⟨c',kL⟩:=c2 (x,.free) (lookup_mem h2) rfl
          have:=c1 x c' kL;rw[hc]at this;cases this;refine .inr ⟨.inl (Lv a0h h3 h2),c,kL,?_⟩;obtain⟨ob,ho,hd⟩:=ow;exact⟨ob,hk _ _ ho,hd⟩
  · obtain⟨v,ob,ho,hd⟩:=I.cell x c (c1 x c e)
    exact⟨v,ob,hk _ _ ho,hd⟩
  · have tF:p∈X.pn++pins:=by simpa[fg]using hp
    obtain⟨a1,a2,a3,a4,a5⟩:=I.pin p tF;refine⟨hk _ _ a1,a2,eV (ck a1),fun z=>?_,a5⟩;rcases bW.mp (MU p.1 z)with e|e
    ·exact a3 e
    ·exact a4 e
  · show(js.map _).length=N.length
    rw[bS,hlen]
end
theorem NQ{prog:a5y}{w:World}{A:a5A}{R:Result->a5x->Prop}{s:a5x}{elt target iter:Expr}{ifs:List Expr}{scope:Scope}{pos:Pos}{it acc:Value}{env:Env}(I:Nat->a5x->Prop) (turn:∀n s,I n s->wpAny (model prog w) A (pyNext it) (fun r s₁=>match r with |none=>R (.ok .next) s₁ |some v=>wpAny (model prog w) A (letOwnedTupleGo target it v) (fun _ s₁=>wpAny (model prog w) A (assign target env v) (fun _ s₂=>wpAny (model prog w) A (forIn ifs true fun c r=>if r=true then do let ok<-isTrue c env (eval c env);pure (ForInStep.yield ok)else pure (ForInStep.yield r)) (fun ok s₃=>if ok=true then wpAny (model prog w) A (eval elt env) (fun x s₄=>wpAny (model prog w) A (call (.builtin "list.append") [acc,x]) (fun _ s₅=>∃m,m<n/\I m s₅) (fun _ _=>False) s₄) (fun _ _=>False) s₃ else∃m,m<n/\I m s₃) (fun _ _=>False) s₂) (fun _ _=>False) s₁) (fun _ _=>False) s₁) (fun _ _=>False) s) (n:Nat)(h:I n s):codeAny (model prog w) A (.compLoop (.ListComp elt [⟨target,iter,ifs,0⟩] scope pos) 0 it acc env) R s:=by refine codeAny_loop rfl I (fun n s hI=>?_) n h;show wpAny _ A ((compTurn (.ListComp elt [⟨target,iter,ifs,0⟩] scope pos) 0 it acc env).onRaise (fun x=>do noteFrame x env;theTreesLotGoes x)) _ _ s;refine wpAny_noted ?_;rw[compTurn_list];refine aF (wpAny_standAt (aF (kB (turn n s hI) (fun r s₁ h₁=>?_) fun _ _ h'=>h'.elim)));cases r with |none=>exact bT h₁ |some v=>refine aF (kB h₁ (fun _ a4q h₁=>?_) fun _ _ h'=>h'.elim);refine aF (kB h₁ (fun _ s₂ h₂=>aF (kB h₂ (fun ok s₃ h₃=>?_) fun _ _ h'=>h'.elim)) fun _ _ h'=>h'.elim);cases ok with |false=>exact bT ⟨rfl,h₃⟩ |true=>exact aF (aF (kB h₃ (fun x s₄ h₄=>aF (kB h₄ (fun _ s₅ h₅=>bT (bT ⟨rfl,h₅⟩)) fun _ _ h'=>h'.elim)) fun _ _ h'=>h'.elim))
def FP(X:Cx)(ifs:List Expr)(t:TT):Prop:=∀(pins:List (Addr×Obj))(s:a5x)(σ:St)(H:Hp)(Q:Bool->Hp->Prop),Inv X pins σ H s->t σ H Q->wpAny (model X.prog X.w) X.A (forIn ifs true fun c r=>if r=true then do let ok<-isTrue c X.env (eval c X.env);pure (ForInStep.yield ok)else pure (ForInStep.yield r)) (TP X pins σ Q) X.xe s
def gJ:TT:=fun _ H Q=>Q true H
theorem eL{X:Cx}:FP X [] gJ:=fun _ _ _ H _ I h=>wpAny_tests_nil ⟨H,I,h⟩
def iz(J:It)(g:TG)(tt:TT)(te:TE)(Q:VK)(D:Addr)(σ:St)(H:Hp):Prop:=∃W:Nat->Nat->St->Hp->Prop,(∃m,W 0 m σ H)/\∀i m σ' H',W i m σ' H'->(J.stop i H'/\Q (.ref D) H')\/(J.go i H'/\∀x H2,J.yld i H' x H2->g x σ' H2 fun σ3 H3=>tt σ3 H3 fun ok H4=>if ok=true then te σ3 H4 fun y H5=>∃ys,H5 D=some (.lst ys)/\ys.length<sizeLine/\∃m',m'<m/\W (i+1) m' σ3 (upd H5 D (.lst (ys++[y]))) else∃m',m'<m/\W (i+1) m' σ3 H4)
def Hh(js:List (Option Nat))(wi:TI)(g:TG)(tt:TT)(te:TE):TE:=fun σ H Q=>wi σ H fun J H1=>∀D H2,Nw H1 H2 D (.lst [])->iz J g tt te Q D (stC js σ) H2
theorem du.but{P:a5y}{w:World}{H:Hp}{h h':Heap}{C:Addr}(ok:du P w H h)(hn:H C=none)(hs:Heap.SameBut C h h'):du P w H h':=fun b ob e=>by
 refine(ok b ob e).pE (fun c w' hc q=>(hs.2 c ?_).trans q) (fun _ q=>q) fun _ _ q=>q;rintro rfl;rcases hc with rfl|hc
 ·rw[hn]at e;cases e
 ·rw[hn]at hc;cases hc
set_option maxHeartbeats 1000000 in
theorem ft{X:Cx}{N:List Str}{js:List (Option Nat)}{elt tg iter:Expr}{ifs:List Expr}{scope:Scope}{pos:Pos}{wi:TI}{g:TG}{tt:TT}{te:TE}(hc:X.calm=true)(hN:zN X N js scope=true)(hS:u7 X scope=true) (hi:PI X tg iter wi)(hg:∀cl s H fp pins,PG (fg X N scope cl s H fp pins) tg g)(ht:∀cl s H fp pins,FP (fg X N scope cl s H fp pins) ifs tt)(he:∀cl s H fp pins,PE (fg X N scope cl s H fp pins) elt te) (hs:∀x,foldedSetIterable iter X.env x=pure x:=by intro _;rfl):PE X (.ListComp elt [⟨tg,iter,ifs,0⟩] scope pos) (Hh js wi g tt te):=by
  intro pins s σ H Q I h;have qB:=hS;unfold u7 at qB;rw[fh,fh]at qB;obtain⟨⟨k1,k2⟩,k3⟩:=qB;have mL:scope.kind= .function:=fT.mp k1;have tJ:∀x∈scope.names,x.2= .free->∃c,X.env.cells.lookup x.1=some c:=fun x hx e=>by have:=jc.mp k3 x hx;rw[e]at this;exact I.ok.has x.1 (.inl (fT.mp this))
  have ow:∀x∈scope.names,x.2≠ .cell:=fun x hx e=>by have:=jc.mp k3 x hx;rw[e]at this;exact jz this
  have Eh:∀x∈scope.names,x.2= .local->scope.names.lookup x.1=some .local:=fun x hx e=>by have:=jc.mp k3 x hx;rw[e]at this;exact fT.mp this
  obtain⟨cl,Et,c1,c2⟩:=NR tJ;rw[eval_ListComp];refine wpAny_comprehension_free (use:=none) rfl hs Et mL Eh (aI (hi pins s σ H _ I h) fun v s1 h1=>aI h1 fun zc s2 h2=>?_);obtain⟨it,fp,tn,J,H2,e,I2,T,pF,f2,h2⟩:=h2;subst e;have hD:H2 s2.heap.objs.size=none:=I2.hok.fresh (bp _);obtain⟨W,⟨m0,w0⟩,turn⟩:=h2 _ _ (Nw.of hD);refine oT (wpAny_newFunctionEnv ow (by intro y hy;simp at hy) (fun h₁ wq wg=>?_) mL);have qG:∀b∈fp,b<s2.heap.objs.size:=fun b hb=>by obtain⟨o,e,_⟩:=T.obj _ _ pF b hb;exact ck e
  have I3:Inv X pins σ (upd H2 s2.heap.objs.size (.lst [])) {s2 with heap:=s2.heap.push {cls:=.type "list",dict:=none,data:=.seq ([]:List Value).toArray}}:=I2.LA (its:=[]) (t':=s2.toks) .nil (fV _);generalize wA:s2.heap.push {cls:=.type "list",dict:=none,data:=.seq ([]:List Value).toArray}=h3 at I3 wq wg;have uK:h3.objs.size=s2.heap.objs.size+1:=by rw[<-wA,p5]
  have DZ:∀b o,s2.heap.get? b=some o->h3.get? b=some o:=fun b o e=>by rw[<-wA];exact cg _ e
  have f3:∀b∈fp,jY X pins (upd H2 s2.heap.objs.size (.lst [])) b:=fun b hb=>⟨by rw[az (eV (qG b hb))];exact(f2 b hb).1,(f2 b hb).2⟩;have vW:∀b o,h3.get? b=some o->h₁.get? b=some o:=fun b o e=>(wg.2 b (eV (ck e))).trans (cg _ e);have I4:Inv (fg X N scope cl {s2 with heap:=h3} (upd H2 s2.heap.objs.size (.lst [])) fp pins) [] (stC js σ) (upd H2 s2.heap.objs.size (.lst [])) {s2 with heap:=h₁,toks:=s2.toks+([]:List (Str×Value)).length}:=I3.comp (s:={s2 with heap:=h3}) hN hS c1 c2 f3 (fun b hb=>by show b<h3.objs.size;rw[uK];exact Gg (qG b hb)) (by simpa using wq) vW;have uL:tn 0 h₁:=T.keep _ _ _ pF fun b _ o e=>vW b o (DZ b o e);have loop:codeAny (model X.prog X.w) X.A (.compLoop (.ListComp elt [⟨tg,iter,ifs,0⟩] scope pos) 0 (.ref it) (.ref s2.heap.objs.size) (compEnvC scope cl h3.objs.size X.env)) (compPost (model X.prog X.w) X.A X.xe none (EP X pins σ Q) (.ref s2.heap.objs.size) h3.objs.size) {s2 with heap:=h₁,toks:=s2.toks+([]:List (Str×Value)).length}:=by
    refine NQ (fun n s'=>∃i σ' H',Inv (fg X N scope cl {s2 with heap:=h3} (upd H2 s2.heap.objs.size (.lst [])) fp pins) [] σ' H' s'/\tn i s'.heap/\(∀b∈fp,H' b=none)/\W i n σ' H') ?_ m0 ⟨0,_,_,I4,uL,fun b hb=>(f3 b hb).1,w0⟩;rintro n s5 ⟨i,σ5,H5,I5,me,qF,w5⟩;have kC:∀{H':Hp},(∀b∈fp,H' b=none)->∀b∈fp,jY (fg X N scope cl {s2 with heap:=h3} (upd H2 s2.heap.objs.size (.lst [])) fp pins) [] H' b:=fun{H'} hn b hb=>by
     obtain⟨_,q1,q2,q3,q4,q5⟩:=f3 b hb;refine⟨hn b hb,fun z=>?_,I4.ok.exfs b hb,.inl hb,fun x c e=>q4 x c (c1 x c e),fun p hp=>q5 p (by simpa[fg]using hp)⟩;have bZ:b<h3.objs.size:=by rw[uK];exact Gg (qG b hb)
     exact eV bZ z
    rcases turn i n σ5 H5 w5 with⟨stop,qn⟩|⟨go,step⟩
    · refine aI (T.done (fg X N scope cl {s2 with heap:=h3} (upd H2 s2.heap.objs.size (.lst [])) fp pins) rfl rfl rfl hc i [] s5 σ5 H5 _ I5 (kC qF) me stop) fun r s6 ⟨hr,I6⟩=>?_
      subst hr;obtain⟨m,hm,_⟩:=I6.loc;refine⟨m,hm,fun h7 zi=>?_⟩;have u0:Un (jq X.stack) fp (upd H2 s2.heap.objs.size (.lst [])) H5 h3 s6.heap:=I6.base;have ne:∀b o,h3.get? b=some o->b≠h3.objs.size:=fun b o e=>eV (ck e);have u:Un (jq X.stack) fp (upd H2 s2.heap.objs.size (.lst [])) H5 h3 h7:=⟨fun b o e n hb hx=>(zi.2 b (ne b o e)).trans (u0.keep b o e n hb hx),fun b o e n hb hx=>let⟨sl,q⟩:=u0.slot b o e n hb hx;⟨sl,(zi.2 b (ne b o e)).trans q⟩,u0.free,fun b o e hx=>let⟨o',q⟩:=u0.there b o e hx;⟨o',(zi.2 b (ne b o e)).trans q⟩,u0.tups,u0.frzs,u0.tbls⟩;have I7:Inv X pins σ H5 {s6 with heap:=h7}:=I3.NY (s':={s6 with heap:=h7}) (ch:=fp) I6.os u (I6.hok.but I6.free zi) I6.bare fun b hb=>⟨(f3 b hb).2.2.2.1,(f3 b hb).2.1,(f3 b hb).2.2.2.2.1,(f3 b hb).2.2.2.2.2⟩;exact⟨.ref s2.heap.objs.size,H5,I7,rfl,qn⟩
    · refine aI (T.item (fg X N scope cl {s2 with heap:=h3} (upd H2 s2.heap.objs.size (.lst [])) fp pins) rfl rfl rfl hc i [] s5 σ5 H5 _ I5 (kC qF) me go) fun r s6 ⟨u,hr,h6⟩=>?_
      subst hr;refine aI h6 fun _ s7 ⟨x,H7,I7,r7,y7,md,EH⟩=>?_;have FV:=I7.pinned (kC EH) (T.obj _ _ md);refine aI (hg _ _ _ _ _ _ s7 σ5 H7 x u _ FV r7 (step x H7 y7)) fun _ s8 ⟨σ8,H8,I8,q8⟩=>?_;refine aI (ht _ _ _ _ _ _ s8 σ8 H8 _ I8 q8) fun ok s9 ⟨H9,I9,q9⟩=>?_;have again:∀{s':a5x}{σ7:St}{H7:Hp},Inv (fg X N scope cl {s2 with heap:=h3} (upd H2 s2.heap.objs.size (.lst [])) fp pins) ([]++sf fp s7.heap) σ7 H7 s'->(∃m',m'<n/\W (i+1) m' σ7 H7)->∃m,m<n/\∃i σ' H',Inv (fg X N scope cl {s2 with heap:=h3} (upd H2 s2.heap.objs.size (.lst [])) fp pins) [] σ' H' s'/\tn i s'.heap/\(∀b∈fp,H' b=none)/\W i m σ' H':=fun{s' σ7 H7} J7 n7=>by obtain⟨m',hm,w7⟩:=n7;refine⟨m',hm,i+1,σ7,H7,J7.uE,T.keep _ _ _ md fun b hb o e=>(J7.pin (b,o) (kf _ (kf _ (sS hb e)))).1,fun b hb=>?_,w7⟩;obtain⟨o,e,d⟩:=T.obj _ _ md b hb;exact(J7.pin (b,o) (kf _ (kf _ (sS hb e)))).2.1
      cases ok with |false=>rw[aV jz]at q9⊢;exact again I9 q9 |true=>rw[aP rfl]at q9⊢;refine aI (he _ _ _ _ _ _ s9 σ8 H9 _ I9 q9) fun yv gC ⟨y,eR,FX,D8,ys,mH,hz,jA⟩=>?_;refine aI (DF _ gC σ8 eR (.ref s2.heap.objs.size) [y] (.ref s2.heap.objs.size) [yv] (fun _ fE=>∃m',m'<n/\W (i+1) m' σ8 fE) FX rfl (.cons D8 .nil) ⟨_,ys,y,rfl,rfl,mH,hz,jA⟩) fun _ pM ⟨v11,fE,FW,Vd,vi⟩=>?_;exact again FW vi
  exact codeAny_compStart_list loop (T.self _ 0 _ _ _ uL loop)
theorem Fq:∀{bs:List Bool}{us:List Value},Vals (bs.map V.bl) us->us=bs.map Value.bool |[],_,.nil=>rfl |b::r,_,.cons q t=>by cases(show _=Value.bool b from q);rw[Fq t];rfl
section
variable {X:Cx}
theorem a3w(hc:X.calm=true):ek X (.builtin "all") (fun xs H Q=>∃(l:Addr)(bs:List Bool),xs=[.ref l]/\aw X.K H l (bs.map V.bl)/\Q (.bl (bs.all id)) H):=by
 intro pins s σ H xs us Q I r h;obtain⟨l,bs,rfl,hl,q⟩:=h;obtain⟨u,rfl,ru⟩:=vals1 r;cases(show u=Value.ref l from ru);obtain⟨its,rv,pl,hz⟩:=I.list hl;have e:=Fq rv;subst e;have dw:=pl.isList;have bZ:l<s.heap.objs.size:=by obtain⟨_,e,_⟩:=dw;exact ck e
 have hh:=I.ok.hd hc;refine call_all_walk (A7 dw ?_);refine⟨s.heap.objs.size,[s.heap.objs.size,l],[s.heap.objs.size],(bs.map Value.bool).toArray.size,_,_,fun i=>(bs[i]?).getD true,rfl,Walks.list (A:=X.A.in1) hh _ l (eV bZ) (bs.map Value.bool).toArray,⟨⟨_,dU _ rfl,rfl,rfl⟩,dw.push _⟩,fun i v s' Q' E' hP hQ=>?_,fun h' tk hk=>?_⟩
 · have kN:(bs.map Value.bool)[i]? =some v:=by simpa using hP
   rw[bU]at kN;cases e:bs[i]? with |none=>rw[e]at kN;cases kN |some b=>rw[e]at kN;cases kN;simp only[e,Option.getD_some]at hQ;exact ny hQ
 · have e:((List.range (bs.map Value.bool).toArray.size).all fun i=>(bs[i]?).getD true)=bs.all id:=by rw[df,bS];exact LSm.range_all bs
   rw[e];exact⟨.bl _,H,I.kept (LSm.kept_iter hk),rfl,q⟩
theorem a3v(hc:X.calm=true):ek X (.builtin "any") (fun xs H Q=>∃(l:Addr)(bs:List Bool),xs=[.ref l]/\aw X.K H l (bs.map V.bl)/\Q (.bl (bs.any id)) H):=by
 intro pins s σ H xs us Q I r h;obtain⟨l,bs,rfl,hl,q⟩:=h;obtain⟨u,rfl,ru⟩:=vals1 r;cases(show u=Value.ref l from ru);obtain⟨its,rv,pl,hz⟩:=I.list hl;have e:=Fq rv;subst e;have dw:=pl.isList;have bZ:l<s.heap.objs.size:=by obtain⟨_,e,_⟩:=dw;exact ck e
 have hh:=I.ok.hd hc;refine call_any_walk (A7 dw ?_);refine⟨s.heap.objs.size,[s.heap.objs.size,l],[s.heap.objs.size],(bs.map Value.bool).toArray.size,_,_,fun i=>(bs[i]?).getD false,rfl,Walks.list (A:=X.A.in1) hh _ l (eV bZ) (bs.map Value.bool).toArray,⟨⟨_,dU _ rfl,rfl,rfl⟩,dw.push _⟩,fun i v s' Q' E' hP hQ=>?_,fun h' tk hk=>?_⟩
 · have kN:(bs.map Value.bool)[i]? =some v:=by simpa using hP
   rw[bU]at kN;cases e:bs[i]? with |none=>rw[e]at kN;cases kN |some b=>rw[e]at kN;cases kN;simp only[e,Option.getD_some]at hQ;exact ny hQ
 · have e:((List.range (bs.map Value.bool).toArray.size).any fun i=>(bs[i]?).getD false)=bs.any id:=by rw[df,bS];exact LSm.range_any bs
   rw[e];exact⟨.bl _,H,I.kept (LSm.kept_iter hk),rfl,q⟩
end
theorem oJ{J:It}{g:TG}{tt:TT}{te:TE}{Q:VK}{D:Addr}{σ:St}{H:Hp}(n:Nat)(Pv:Nat->St->Hp->Prop)(h0:Pv 0 σ H) (hs:∀i σ H,i<n->Pv i σ H->J.go i H/\∀x H2,J.yld i H x H2->g x σ H2 fun σ3 H3=>tt σ3 H3 fun ok H4=>if ok=true then te σ3 H4 fun y H5=>∃ys,H5 D=some (.lst ys)/\ys.length<sizeLine/\∃m',m'<n-i/\m'=n-(i+1)/\i+1<=n/\Pv (i+1) σ3 (upd H5 D (.lst (ys++[y]))) else∃m',m'<n-i/\m'=n-(i+1)/\i+1<=n/\Pv (i+1) σ3 H4) (hd:∀σ H,Pv n σ H->J.stop n H/\Q (.ref D) H): iz J g tt te Q D σ H:=by
  refine⟨fun i m σ H=>m=n-i/\i<=n/\Pv i σ H,⟨n,by simp,fV _,h0⟩,?_⟩;rintro i m σ H ⟨rfl,hi,p⟩;by_cases bZ:i<n
  ·exact .inr (hs i σ H bZ p)
  · have e:i=n:=by omega
    subst e;exact .inl (hd σ H p)
section
variable {X:Cx} {tg:Expr}
theorem aK(K:a5w)(h:X.K=K):oP X (fun x y H Q=>Ke K x y H Q\/Kd K x y H Q):=by subst h;exact Za.or Z5
inductive Qe(K:a5w)(x:V)(lo:Option Int)(hi:Option Int)(H:Hp)(Q:VK):Prop |mk (a:_)(xs:_)(h0:x= .ref a)(h1:((aw K H a xs/\∀p H',Nw H H' p (.lst (kQ xs lo hi))->Q (.ref p) H')\/ (aB K H a xs/\¬(HT.bP xs.length 0 lo=0/\HT.bP xs.length xs.length hi=xs.length)/\∀p H',Nw H H' p (.tup (kQ xs lo hi))->Q (.ref p) H'))):Qe K x lo hi H Q
def V6(K:a5w):V->Option Int->Option Int->Hp->VK->Prop:=fun x lo hi H Q=>Qe K x lo hi H Q
theorem B0(K:a5w)(h:X.K=K):zX X (V6 K):=by
 subst h;intro pins s σ H x v vl vu lo hi sl Q I rx hs pl pu hq;obtain⟨a,xs,e,hq⟩:=hq;rcases hq with⟨h1,k⟩|⟨h1,h2,k⟩
 ·exact Tr pins s σ H x v vl vu lo hi sl Q I rx hs pl pu ⟨a,xs,e,h1,fun p hp=>k p _ (.of hp)⟩
 ·exact Tq pins s σ H x v vl vu lo hi sl Q I rx hs pl pu ⟨a,xs,e,h1,h2,fun p hp=>k p _ (.of hp)⟩
theorem cU(K:a5w)(h:X.K=K):ek X (.builtin "len") (fun xs H Q=>∃p ys,xs=[.ref p]/\(aw K H p ys\/aB K H p ys)/\Q (.int ys.length) H):=by subst h;exact a3s
theorem cT(K:a5w)(h:X.K=K):ek X (.builtin "isinstance") (fun xs H Q=>Kg K xs H Q\/Kf K xs H Q):=by subst h;exact a3u.or a3t
theorem cH(K:a5w)(h:X.K=K)(hu:X.A.units+64<cLine):cN X (compareOp .Eq) (fun x y H Q=>jh (fun i j=>.bl (decide (i=j))) x y H Q\/D7 K x y H Q):=by subst h;exact Wg hu
theorem jj(K:a5w)(h:X.K=K)(hu:X.A.units+64<cLine):cN X (compareOp .NotEq) (fun x y H Q=>jh (fun i j=>.bl (!decide (i=j))) x y H Q\/D6 K x y H Q):=by subst h;exact Wa hu
theorem nc(K:a5w)(h:X.K=K)(hc:X.calm=true):ek X (.builtin "all") (fun xs H Q=>∃(l:Addr)(bs:List Bool),xs=[.ref l]/\aw K H l (bs.map V.bl)/\Q (.bl (bs.all id)) H):=by subst h;exact a3w hc
theorem Of(K:a5w)(h:X.K=K)(hc:X.calm=true):ek X (.builtin "any") (fun xs H Q=>∃(l:Addr)(bs:List Bool),xs=[.ref l]/\aw K H l (bs.map V.bl)/\Q (.bl (bs.any id)) H):=by subst h;exact a3v hc
theorem DQ(K:a5w)(h:X.K=K):ek X (.type "list") (fun xs H Q=>∃p ys,xs=[.ref p]/\(aw K H p ys\/aB K H p ys)/\∀l H',Nw H H' l (.lst ys)->Q (.ref l) H'):=by subst h;intro pins s σ H xs us Q I r hq;obtain⟨p,ys,e,h1,k⟩:=hq;exact a3q pins s σ H xs us Q I r ⟨p,ys,e,h1,fun l hl=>k l _ (.of hl)⟩
theorem jB(K:a5w)(h:X.K=K):ek X (.type "tuple") (fun xs H Q=>∃p ys,xs=[.ref p]/\((aw K H p ys/\∀l H',Nw H H' l (.tup ys)->Q (.ref l) H')\/(aB K H p ys/\Q (.ref p) H))):=by subst h;intro pins s σ H xs us Q I r hq;obtain⟨p,ys,e,h1⟩:=hq;exact a3l pins s σ H xs us Q I r ⟨p,ys,e,h1.imp (fun⟨a,k⟩=>⟨a,fun l hl=>k l _ (.of hl)⟩) id⟩
def Sj(t:TA):TE:=fun σ H Q=>t σ H fun xs H1=>xs.length<=sizeLine/\∀p H',Nw H1 H' p (.tup xs)->Q (.ref p) H'
def Sy(t:TA):TE:=fun σ H Q=>t σ H fun xs H1=>xs.length<=sizeLine/\∀p H',Nw H1 H' p (.lst xs)->Q (.ref p) H'
theorem dH{es:List Expr}{t:TA}{pos:Pos} {x1}(h:PA X es t):PE X (.Tuple es x1 pos) (Sj t):=by intro pins s σ H Q I hq;refine wpAny_Tuple_spliced (aI (h pos pins s σ H _ I hq) fun us s1 ⟨xs,H1,I1,r,z,q⟩=>⟨by rw[<-r.length];exact z,?_⟩);have hf:H1 s1.heap.objs.size=none:=I1.hok.fresh (bp _);refine⟨.ref s1.heap.objs.size,upd H1 s1.heap.objs.size (.tup xs),I1.laid (t':=s1.toks) (fun b u e=>cg _ e) (bp _) ?_,rfl,q _ _ (.of hf)⟩;exact⟨z,us,r,⟨_,dU _ rfl,rfl,_,rfl⟩⟩
theorem dF{es:List Expr}{t:TA}{pos:Pos}(h:PA X es t):PE X (.List es pos) (Sy t):=by intro pins s σ H Q I hq;refine wpAny_List_spliced (aI (h pos pins s σ H _ I hq) fun us s1 ⟨xs,H1,I1,r,z,q⟩=>⟨by rw[<-r.length];exact z,?_⟩);have hf:H1 s1.heap.objs.size=none:=I1.hok.fresh (bp _);refine⟨.ref s1.heap.objs.size,upd H1 s1.heap.objs.size (.lst xs),I1.laid (t':=s1.toks) (fun b u e=>cg _ e) (bp _) ?_,rfl,q _ _ (.of hf)⟩;exact⟨z,us,0,r,dU _ rfl⟩
theorem yu(K:a5w)(h:X.K=K){l:Expr}{tl:TE}(hl:PE X l tl):PI X tg l (M4 K tl):=by subst h;exact VC hl
theorem o6(K:a5w)(h:X.K=K){l:Expr}{tl:TE}(hl:PE X l tl):PI X tg l (M1 K tl):=by subst h;exact Vy hl
theorem cS(K:a5w)(h:X.K=K){es:List Expr}{k:Nat}{t:lY}{n:Nat}{pos:Pos}(hc:X.calm=true)(hg:wZ X es t)(hn:(assignEach es X.env).length=n:=by rfl)(kJ:(assignEach es X.env).findIdx? (·.1)=none:=by rfl): PG X (.Tuple es k pos) (mT K n t):=by subst h;exact VE hc hg hn kJ
theorem iX(K:a5w)(h:X.K=K){o e:Expr}{to:TE}{t:TA}{apos cW:Pos}(ho:PE X o to)(ha:PA X [e] t) (jQ:attributeBase o "append" X.env (eval o X.env)=eval o X.env:=by rfl) (qy:((backTo cW (starEach [e] X.env)).all (fun x=>!x.1)&&(backToKw cW (keywordEach [] X.env)).all (fun x=>x.1.isSome) &&decide ([e].length+([]:List Keyword).length+(if([]:List Keyword).isEmpty then 0 else 1)<30))=true:=by rfl) (jN:(apos.endLine==cW.line)=true:=by rfl)(hs:starEach [e] X.env=(false,eval e X.env)::starEach [] X.env:=by rfl)(qi:(backTo cW (starEach [] X.env)).any (·.1)=false:=by rfl): PE X (.Call (.Attribute o "append" apos) [e] [] cW) (xT K "list" Kj to t):=by subst h;exact Dk Ag PySem.F.slot_list_append PySem.F.type_list_append DF ho ha jQ qy jN hs qi
theorem xF{j:Nat}{x:V}{σ:St}{H:Hp}{A B:St->Hp->Prop}(h:A (σ.set j (some x)) H):eQ j x σ H fun σ3 H3=>gJ σ3 H3 fun ok H4=>if ok=true then A σ3 H4 else B σ3 H4:=by show if true=true then A (σ.set j (some x)) H else B (σ.set j (some x)) H;rw[aP rfl];exact h
theorem yes{σ:St}{H:Hp}{Q:Bool->Hp->Prop}(h:Q true H):gJ σ H Q:=h
end
end L2
namespace L2
open PySem PySem.Spec PyProof.Rows
theorem aw.go{K:a5w}{H H':Hp}{a:Addr}{xs:List V}(s:ai H H')(h:aw K H a xs):aw K H' a xs:=h.imp (fun r=>r.imp (s _ _) fun⟨o,e⟩=>⟨o,s _ _ e⟩) id
theorem aB.go{K:a5w}{H H':Hp}{a:Addr}{xs:List V}(s:ai H H')(h:aB K H a xs):aB K H' a xs:=h.imp (fun r=>r.imp (s _ _) fun⟨o,e⟩=>⟨o,s _ _ e⟩) id
mutual
theorem RD.mono{K:a5w}{H H':Hp}(s:ai H H'):∀{x:V}(d:a5z),RD K H x d->RD K H' x d |x,.none,h=>by simpa[RD]using h |x,.bool b,h=>by simpa[RD]using h |x,.int i,h=>by simpa[RD]using h |x,.str y,h=>by simpa[RD]using h |x,.list ds,h=>by rw[RD]at h⊢;obtain⟨a,xs,e,h1,h2⟩:=h;exact⟨a,xs,e,h1.go s,ay.mono s ds h2⟩ |x,.tuple ds,h=>by rw[RD]at h⊢;obtain⟨a,xs,e,h1,h2⟩:=h;exact⟨a,xs,e,h1.go s,ay.mono s ds h2⟩ |x,.dict _,h=>by simp[RD]at h
theorem ay.mono {K:a5w}{H H':Hp}(s:ai H H'):∀{xs:List V}(ds:List a5z),ay K H xs ds->ay K H' xs ds |xs,[],h=>by simpa[ay]using h |xs,d::ds,h=>by rw[ay]at h⊢;obtain⟨y,ys,e,h1,h2⟩:=h;exact⟨y,ys,e,RD.mono s d h1,ay.mono s ds h2⟩
end
section
variable {K:a5w} {H H':Hp}
theorem ay.nil_inv{xs:List V}(h:ay K H xs []):xs=[]:=by simpa[ay]using h
theorem ay.cons_inv{xs:List V}{d:a5z}{ds:List a5z}(h:ay K H xs (d::ds)):∃y ys,xs=y::ys/\RD K H y d/\ay K H ys ds:=by rw[ay]at h;exact h
theorem RD.dv{x:V}{ds:List a5z}(h:RD K H x (.tuple ds)):∃a xs,x= .ref a/\aB K H a xs/\ay K H xs ds:=by rw[RD]at h;exact h
theorem RD.lst_inv{x:V}{ds:List a5z}(h:RD K H x (.list ds)):∃a xs,x= .ref a/\aw K H a xs/\ay K H xs ds:=by rw[RD]at h;exact h
theorem RD.int_inv{x:V}{i:Int}(h:RD K H x (.int i)):x= .int i:=by rw[RD]at h;exact h
theorem RD.a3C{x:V}{i:Bool}(h:RD K H x (.bool i)):x= .bl i:=by rw[RD]at h;exact h
theorem RD.str_inv{x:V}{i:Str}(h:RD K H x (.str i)):x= .str i:=by rw[RD]at h;exact h
theorem RD.KY{x:V}(h:RD K H x .none):x= .aW:=by rw[RD]at h;exact h
theorem ay.length:∀{xs:List V}{ds:List a5z},ay K H xs ds->xs.length=ds.length |xs,[],h=>by rw[h.nil_inv];rfl |xs,d::ds,h=>by obtain⟨y,ys,rfl,_,h2⟩:=h.cons_inv;rw[jw,jw,ay.length h2]
theorem ay.append:∀{xs ys:List V}{ds es:List a5z},ay K H xs ds->ay K H ys es->ay K H (xs++ys) (ds++es) |xs,ys,[],es,h,g=>by rw[h.nil_inv];exact g |xs,ys,d::ds,es,h,g=>by obtain⟨y,zs,rfl,h1,h2⟩:=h.cons_inv;exact cj h1 (ay.append h2 g)
theorem ay.drop:∀(n:Nat){xs:List V}{ds:List a5z},ay K H xs ds->ay K H (xs.drop n) (ds.drop n) |0,xs,ds,h=>h |n+1,xs,[],h=>by rw[h.nil_inv];exact cQ |n+1,xs,d::ds,h=>by obtain⟨y,zs,rfl,h1,h2⟩:=h.cons_inv;exact ay.drop n h2
theorem ay.get:∀(n:Nat){xs:List V}{ds:List a5z}{d:a5z},ay K H xs ds->ds[n]? =some d->∃x,xs[n]? =some x/\RD K H x d
  |n,xs,[],d,h,e=>by simp at e |0,xs,d'::ds,d,h,e=>by
    obtain⟨y,zs,rfl,h1,h2⟩:=h.cons_inv;have e':d'=d:=by simpa using e
    subst e';exact⟨y,rfl,h1⟩ |n+1,xs,d'::ds,d,h,e=>by obtain⟨y,zs,rfl,h1,h2⟩:=h.cons_inv;exact ay.get n h2 (by simpa using e)
theorem ay.get'(n:Nat){xs:List V}{ds:List a5z}{x:V}(h:ay K H xs ds)(e:xs[n]? =some x):∃d,ds[n]? =some d/\RD K H x d:=by
 have hl:n<ds.length:=by rw[<-h.length];exact(dC.mp e).1
 obtain⟨y,e1,r⟩:=h.get n (bO hl);rw[e]at e1;cases e1;exact⟨_,bO hl,r⟩
def lb:a5z->String | .none=>"NoneType" | .bool _=>"bool" | .int _=>"int" | .str _=>"str" | .list _=>"list" | .tuple _=>"tuple" | .dict _=>"dict"
theorem RD.ty{x:V}:∀{d:a5z},RD K H x d->qR K H x (lb d) | .none,h=>by rw[h.KY];rfl | .bool b,h=>by rw[h.a3C];rfl | .int b,h=>by rw[h.int_inv];rfl | .str b,h=>by rw[h.str_inv];rfl | .list ds,h=>by obtain⟨a,xs,rfl,h1,_⟩:=h.lst_inv;exact .inl ⟨rfl,xs,h1⟩ | .tuple ds,h=>by obtain⟨a,xs,rfl,h1,_⟩:=h.dv;exact .inr ⟨rfl,xs,h1⟩ | .dict _,h=>by simp[RD]at h
structure dk(n:Nat)(d:a5z):Prop where
 lay:d.canLay0=true
 dep:d.depth<=n
def fS(n:Nat)(ds:List a5z):Prop:=∀d∈ds,dk n d
theorem dk.le{n m:Nat}{d:a5z}(h:dk n d)(l:n<=m):dk m d:=⟨h.lay,gH h.dep l⟩
theorem sF{n:Nat}:∀{ds:List a5z},fS n ds↔(PyData.canLayAll0 ds=true/\PyData.depthAll ds<=n)
  |[]=>⟨fun _=>⟨rfl,fV _⟩,fun _ _ h=>nomatch h⟩ |d::ds=>by
    have ih:=sF (n:=n) (ds:=ds);simp only[PyData.canLayAll0,PyData.depthAll,fh];constructor
    · intro h
      have h1:=h d (.head _);have h2:=ih.mp fun x hx=>h x (.tail _ hx);exact⟨⟨h1.lay,h2.1⟩,Nat.max_le.mpr ⟨h1.dep,h2.2⟩⟩
    · rintro⟨⟨a,b⟩,c⟩ x hx
      have c':=Nat.max_le.mp c;rcases bW.mp hx with rfl|hx
      ·exact⟨a,c'.1⟩
      ·exact ih.mpr ⟨b,c'.2⟩ x hx
theorem fS.tup{n:Nat}{ds:List a5z}(h:fS n ds):dk (n+1) (.tuple ds):=⟨by simpa[PyData.canLay0]using(sF.mp h).1,by simpa[PyData.depth]using(sF.mp h).2⟩
theorem fS.lst{n:Nat}{ds:List a5z}(h:fS n ds):dk (n+1) (.list ds):=⟨by simpa[PyData.canLay0]using(sF.mp h).1,by simpa[PyData.depth]using(sF.mp h).2⟩
theorem dk.dv{n:Nat}{ds:List a5z}(h:dk (n+1) (.tuple ds)):fS n ds:=sF.mpr ⟨by simpa[PyData.canLay0]using h.lay,by simpa[PyData.depth]using h.dep⟩
theorem dk.int{n:Nat}(i:Int):dk n (.int i):=⟨rfl,fV _⟩
theorem fS.nil{n:Nat}:fS n []:=fun _ h=>nomatch h
theorem fS.cons{n:Nat}{d:a5z}{ds:List a5z}(h:dk n d)(g:fS n ds):fS n (d::ds):=fun x hx=>by
 rcases bW.mp hx with rfl|hx
 ·exact h
 ·exact g x hx
theorem dk.shaped{n:Nat}{d:a5z}(h:dk n d)(l:n<=64):SeqAt.shaped d=true:=by unfold SeqAt.shaped;rw[h.lay,jy];exact cw (gH h.dep l)
theorem dk.refl{n:Nat}{d:a5z}(h:dk n d):PyData.eqv d d=true:=eqv_refl d h.lay
variable {p:Addr}{n m:Nat}{v:V}{vs:List V}{d:a5z}{ds es:List a5z}
end
section
variable {X:Cx}
end
end L2
namespace HT
open PySem PySem.Spec PyProof.Rows
section
variable {prog:a5y}{w:World}{A:a5A}{E:Value->a5x->Prop}{s:a5x}
end
end HT
namespace L2
open PySem PySem.Spec PyProof.Rows
section
variable {X:Cx}
end
section
variable {X:Cx}
end
end L2
namespace L2
theorem cM{α:Type}{xs:List α}{i:Int}{v:α}(h0:0<=i)(h:xs[i.toNat]? =some v):fo xs i=some v:=by have hl:i.toNat<xs.length:=(dC.mp h).1;unfold fo iL;rw[aP h0,aP (by omega)];exact h
end L2
namespace L2
open PySem PySem.Spec PyProof.Rows
theorem bM(n:Nat)(h:n<=1000):n<=sizeLine:=gH h (by decide)
def GV(mg:Str->Option Value)(x:Str)(v:V):Prop:=∃u,mg x=some u/\RelV v u
def GT(K:a5w)(mg:Str->Option Value)(x:Str)(vs:List V):Prop:=∃a,GV mg x (.ref a)/\∀H,aB K H a vs
theorem gj{X:Cx}{x:Str}{v:V}{pos:Pos}(hg:Gl X x)(h:GV X.mg x v)(hd:(x==("__debug__":Str))=false:=by decide):PE X (.Name x pos) (tC v):=by obtain⟨u,hm,r⟩:=h;exact VJ hg hm r hd
section
variable {K:a5w}{mg:Str->Option Value}{h:Heap}
theorem oB{x:Str}{i:Int}{t:Tok}(X:K.In h)(G:h.Ns mainGlobals mg)(a:PySem.W.nsIn K mainGlobals x=some (some (.int i t))):GV mg x (.int i):=⟨_,Af X G a,t,rfl⟩
theorem MI{x:Str}{vs:List V}{b:Addr}{its:Array Value}{n:Nat}{od:Option Addr}{ip:Array (Option Value)}(X:K.In h)(G:h.Ns mainGlobals mg)(a:PySem.W.nsIn K mainGlobals x=some (some (.ref b))) (l:K.lookup b=some ⟨.type "tuple",od,.seq its n,ip⟩)(hz:its.size<=sizeLine)(r:Vals vs its.toList):GT K mg x vs:=⟨b,⟨_,Af X G a,rfl⟩,fun H=>.inr ⟨_,its,n,l,rfl,rfl,hz,r⟩⟩
end
section
variable {X:Cx}
end
theorem NP{J:It}{xs:List V}{bs:List Bool}{te:TE}{Q:VK}{D:Addr}{H H0:Hp}(rest:St)(nw:Nw H H0 D (.lst []))(hl:xs.length=bs.length)(hz:xs.length<=1000) (go:∀i x H2,xs[i]? =some x->ai H H2->J.go i H2/\∀y H3,J.yld i H2 y H3->H3=H2/\y=x)(stop:∀H2,ai H H2->J.stop xs.length H2) (hs:∀(i:Nat)(x:V)(b:Bool)(H2:Hp)(Q':VK),xs[i]? =some x->bs[i]? =some b->ai H H2->(∀H3,ai H2 H3->Q' (.bl b) H3)->te (some x::rest) H2 Q') (hq:∀H',ai H H'->H' D=some (.lst (bs.map V.bl))->Q (.ref D) H'):iz J (eQ 0) gJ te Q D (none::rest) H0:=by
  have hD:=nw.no;refine oJ xs.length (fun i σ H2=>ai H H2/\H2 D=some (.lst ((bs.take i).map V.bl))/\∃v,σ=v::rest) ?_ ?_ ?_
  ·exact⟨nw.same,nw.at',none,rfl⟩
  · rintro i σ H2 hi ⟨s2,d2,v,rfl⟩
    have mO:i<bs.length:=by rw[<-hl];exact hi
    have ex:=bO hi;have eb:=bO mO;obtain⟨g1,g2⟩:=go i _ H2 ex s2;refine⟨g1,fun y H3 hy=>?_⟩;obtain⟨rfl,rfl⟩:=g2 y H3 hy;refine xF ?_;refine hs i _ _ _ _ ex eb s2 fun H4 s4=>?_;refine⟨_,s4 _ _ d2,?_,xs.length-(i+1),by omega,rfl,by omega,fun b o e=>?_,?_,_,rfl⟩
    · rw[bS,m4]
      have:(1000:Nat)<sizeLine:=by decide
      omega
    ·rw[az (fw e hD)];exact s4 b o (s2 b o e)
    ·rw[aO,nK,eb,m3];rfl
  · rintro σ H2 ⟨s2,d2,v,rfl⟩
    refine⟨stop H2 s2,hq H2 s2 ?_⟩;rw[d2,hl,uv]
theorem NO{K:a5w}{a:Addr}{xs:List V}{bs:List Bool}{te:TE}{Q:VK}{D:Addr}{H H0:Hp}(rest:St)(hx:aB K H a xs)(nw:Nw H H0 D (.lst []))(hl:xs.length=bs.length)(hz:xs.length<=1000) (hs:∀(i:Nat)(x:V)(b:Bool)(H2:Hp)(Q':VK),xs[i]? =some x->bs[i]? =some b->ai H H2->(∀H3,ai H2 H3->Q' (.bl b) H3)->te (some x::rest) H2 Q') (hq:∀H',ai H H'->H' D=some (.lst (bs.map V.bl))->Q (.ref D) H'):iz (oQ K a) (eQ 0) gJ te Q D (none::rest) H0:=NP rest nw hl hz (fun i x H2 e s=>⟨⟨xs,x,hx.go s,e⟩,fun y H3 ⟨e3,y3⟩=>⟨e3,by have:=y3 _ (hx.go s);rw[e]at this;exact(eG this).symm⟩⟩) (fun H2 s=>⟨xs,hx.go s,bp _⟩) hs hq
theorem Lp{ds:List a5z}{f:a5z->Bool}{i:Nat}{b:Bool}(h:(ds.map f)[i]? =some b):∃d,ds[i]? =some d/\f d=b:=by rw[bU]at h;cases e:ds[i]? with |none=>rw[e]at h;cases h |some d=>rw[e]at h;exact⟨d,rfl,eG h⟩
theorem all_map{ds:List a5z}{f:a5z->Bool}:(ds.map f).all id=ds.all f:=by rw[List.all_map];rfl
section
variable {X:Cx}
inductive Qt(K:a5w)(x:V)(y:V)(H:Hp)(Q:VK):Prop |mk (a:_)(b:_)(xs:_)(ys:_)(h0:x= .ref a)(h1:y= .ref b)(h2:aw K H a xs)(h3:aw K H b ys)(h4:xs.length+ys.length<=sizeLine)(h5:∀p H',Nw H H' p (.lst (xs++ys))->Q (.ref p) H'):Qt K x y H Q
def Va(K:a5w):R2:=fun x y H Q=>Qt K x y H Q
theorem u9(K:a5w)(hK:X.K=K):cN X (binaryOp .Add) (Va K):=by
 subst hK;intro pins s σ H x y v u Q I rx ry h;obtain⟨a,b,xs,ys,rfl,rfl,ha,hb,hz,q⟩:=h;cases rx;cases ry;obtain⟨its,r1,p1,_⟩:=I.list ha;obtain⟨kI,r2,p2,_⟩:=I.list hb;obtain⟨⟨cls,dd,data,sl⟩,n,ho,hc,hdd,hd⟩:=id p1;obtain⟨⟨a5i,dd2,data2,Ts⟩,n2,tG,Mr,a56,hd2⟩:=id p2;simp only at hc hd Mr hd2;subst hc hd Mr hd2;have e:its.toArray++kI.toArray=(its++kI).toArray:=by simp
 refine concat_meets ⟨_,ho,rfl⟩ ⟨_,tG,rfl⟩ noFill_list_add seq_list_add PySem.F.slot_list_add PySem.F.entry_list_add (PySem.F.args_list_add_2 _ _) (list_addW a b its.toArray kI.toArray n n2 dd dd2 sl Ts (by rw[df,df,<-r1.length,<-r2.length];exact hz)) ⟨ho,tG,?_⟩;rw[e];have nw:Nw H (upd H s.heap.objs.size (.lst (xs++ys))) s.heap.objs.size (.lst (xs++ys)):=.of (I.hok.fresh (bp _));refine⟨.ref s.heap.objs.size,_,I.laid (t':=s.toks) (o:=.lst (xs++ys)) (fun b ob q=>cg _ q) (bp _) ?_,rfl,q _ _ nw⟩;exact⟨by rw[eZ];exact hz,_,0,r1.append r2,dU _ rfl⟩
open Classical in
noncomputable def qH(h:Heap)(d:a5z)(w:Value):Bool:=if q:∃e as,Reads h w e as then PyData.eqv q.choose d else false
theorem a2t{h:Heap}{d e:a5z}{w:Value}{as:List Addr}(r:Reads h w e as):qH h d w=PyData.eqv e d:=by have q:∃e as,Reads h w e as:=⟨e,as,r⟩;unfold qH;rw[dif_pos q];obtain⟨as',r'⟩:=q.choose_spec;rw[(Reads.unique r' e as r).1]
theorem N7{pins:List (Addr×Obj)}{s:a5x}{σ:St}{H:Hp}(I:Inv X pins σ H s)(hu:X.A.units+65<cLine){x:V}{u:Value}{d:a5z}(rx:RelV x u)(hd:RD X.K H x d)(sd:SeqAt.shaped d=true): ∀{xs:List V}{us:List Value}{ds:List a5z},Vals xs us->ay X.K H xs ds->(∀e∈ds,SeqAt.shaped e=true)->(∀w∈us,SeqAt.EqAt X.A.in1 s w u (qH s.heap d w))/\us.any (qH s.heap d)=ds.any fun e=>PyData.eqv e d |xs,us,[],rv,h,_=>by cases h.nil_inv;cases rv;exact⟨fun _ h=>(da h).elim,rfl⟩ |xs,us,e::ds,rv,h,se=>by obtain⟨y,ys,rfl,h1,h2⟩:=h.cons_inv;cases rv with |cons ra rb=>
      rename_i w ws;obtain⟨as,q1⟩:=RD.reads I e ra h1;obtain⟨bs,q2⟩:=RD.reads I d rx hd;have key:SeqAt.EqAt X.A.in1 s w u (PyData.eqv e d):=SeqAt.eqAt_reads e d X.A.in1 s w u as bs q1 q2 (QP (se e (.head _))) (QP sd) (SeqAt.room_of_shaped (se e (.head _)) (by show X.A.units+1+64<cLine;omega));obtain⟨k1,k2⟩:=N7 I hu rx hd sd rb h2 (fun e' he=>se e' (.tail _ he));have ew:qH s.heap d w=PyData.eqv e d:=a2t q1;refine⟨fun z hz=>?_,?_⟩
      · rcases bW.mp hz with rfl|hz
        ·rw[ew];exact key
        ·exact k1 z hz
      ·rw[qZ,qZ,ew,k2]
end
end L2
namespace L2
theorem cX.RU{k:Nat}{A:PySem.Around}(r:cX k A):A.units+65<PySem.cLine:=by have:=r.un;omega
end L2
namespace L2
open PySem PySem.Spec PyProof.Rows
def j8(b:Bool)(h:Heap)(it l:Addr)(k:Nat):Prop:=match b with|true=>h.IsListIter it l k|false=>h.IsTupleIter it l k
def fY(b:Bool)(h:Heap)(l:Addr)(xs:Array Value):Prop:=match b with|true=>h.IsList l xs|false=>h.IsTuple l xs
def oK(b:Bool):String:=match b with|true=>"list_iterator"|false=>"tuple_iterator"
theorem j8.to{b:Bool}{h g:Heap}{it l:Addr}{k:Nat}(x:j8 b h it l k)(e:∀o,h.get? it=some o->g.get? it=some o):j8 b g it l k:=by cases b<;>(obtain⟨o,ho,r⟩:=x;exact⟨o,e o ho,r⟩)
theorem fY.to{b:Bool}{h g:Heap}{l:Addr}{xs:Array Value}(x:fY b h l xs)(e:∀o,h.get? l=some o->g.get? l=some o):fY b g l xs:=by cases b<;>(obtain⟨o,ho,r⟩:=x;exact⟨o,e o ho,r⟩)
theorem j8.ob{b:Bool}{h:Heap}{it l:Addr}{k:Nat}(x:j8 b h it l k):∃o,h.get? it=some o/\o.cls= .type (oK b)/\∀v,o.data≠ .cell v:=by cases b<;>(obtain⟨o,ho,c,d⟩:=x;exact⟨o,ho,c,fun v z=>by rw[d]at z;cases z⟩)
section
variable {prog:a5y}{w:World}{A:a5A}{E:Value->a5x->Prop}{s:a5x}
theorem sP{b:Bool}{l:Addr}{xs:Array Value}{Q:Value->a5x->Prop}(x:fY b s.heap l xs) (q:Q (.ref s.heap.objs.size) {s with heap:=s.heap.push {cls:=.type (oK b),data:=.fields #[.ref l,.int 0 0]}}):wpAny (model prog w) A (pyIter (.ref l)) Q E s:=by
  cases b
  ·exact wpAny_pyIter_tuple x q
  ·exact A7 x q
theorem XO{it t:Addr}{k:Nat}{ts:Array Value}{x:Value}{Q:Value->a5x->Prop}(hi:s.heap.IsTupleIter it t k)(ht:s.heap.IsTuple t ts)(hx:ts[k]? =some x) (q:∀g,g.IsTupleIter it t (k+1)->Heap.SameBut it s.heap g->Q x {s with heap:=g}):wpAny (model prog w) A (Builtin.SmallTypes.nextOf (.ref it)) Q E s:=by obtain⟨oi,jM,ci,di⟩:=id hi;obtain⟨ot,Ed,_,nt,dt⟩:=ht;unfold Builtin.SmallTypes.nextOf;refine aF (A9 (name:=Str.ofString "__next__") hi.typeIs Ga (A8 Ga hi.typeIs a4g ?_ (a4h _)));show wpAny _ _ (field (.ref it) 0>>=_) _ _ s;refine aF (ka jM di (x:=.ref t) rfl ?_);show wpAny _ _ (if(Value.ref t==Value.none)=true then _ else _) _ _ s;rw[aV (show¬((Value.ref t==Value.none)=true)from jz)];show wpAny _ _ (field (.ref it) 1>>=_) _ _ s;refine aF (ka jM di (x:=.int k 0) rfl ?_);show wpAny _ _ (seqItems? (.ref t)>>=_) _ _ s;refine aF (qV Ed dt ?_);simp only[Rh,hx];refine aF (wpAny_setField jM di (by simp) (bT ⟨x,rfl,bT (q _ ?_ (Heap.SameBut.update ..))⟩));exact⟨_,Heap.get?_update_self _ jM (Obj.isFreed_of_fields (Obj.data_mapFields di _)),(Obj.cls_mapFields ..).trans ci,by rw[Obj.data_mapFields di];simp[rawInt]⟩
theorem a2y{it t:Addr}{k:Nat}{ts:Array Value}{Q:Value->a5x->Prop}(hh:A.handled=none)(hi:s.heap.IsTupleIter it t k)(ht:s.heap.IsTuple t ts)(hx:ts[k]? =none) (q:∀g e,Heap.ExtBut it s.heap g->(∃o,g.get? e=some o/\o.cls= .type "StopIteration")->E (.ref e) {s with heap:=g}):wpAny (model prog w) A (Builtin.SmallTypes.nextOf (.ref it)) Q E s:=by
  obtain⟨oi,jM,ci,di⟩:=id hi;obtain⟨ot,Ed,_,nt,dt⟩:=ht;unfold Builtin.SmallTypes.nextOf;refine aF (A9 (name:=Str.ofString "__next__") hi.typeIs Ga (A8 Ga hi.typeIs a4g ?_ (a4h _)));show wpAny _ _ (field (.ref it) 0>>=_) _ _ s;refine aF (ka jM di (x:=.ref t) rfl ?_);show wpAny _ _ (if(Value.ref t==Value.none)=true then _ else _) _ _ s;rw[aV (show¬((Value.ref t==Value.none)=true)from jz)];show wpAny _ _ (field (.ref it) 1>>=_) _ _ s;refine aF (ka jM di (x:=.int k 0) rfl ?_);show wpAny _ _ (seqItems? (.ref t)>>=_) _ _ s;refine aF (qV Ed dt ?_);simp only[Rh,hx];refine aF (wpAny_rule (aF (wpAny_setField jM di (by simp) ?_)));show wpAny _ _ (newExc (.type "StopIteration") []>>=_) _ _ _;refine aF ?_;simp only[newExc,newTuple];refine aF (oT ?_ (by size_fits));refine aF (m:=firstArgMember _ _) (xn (a:=Value.none) (by first|rfl|(simp only[firstArgMember];rfl)) ?_);refine oT ?_ (by size_fits);simp only[raiseNew];refine aF (wpAny_handled ?_)
  first|rw[show A.in1.handled=none from hh]|rw[hh]
  exact aF (bT (wpAny_throw (q _ _ (((Heap.SameBut.update ..).extBut.push _).push _) ⟨_,dU _ rfl,rfl⟩)))
theorem yI{b:Bool}{it l:Addr}{k:Nat}{xs:Array Value}{x:Value}{Q:Value->a5x->Prop}(hi:j8 b s.heap it l k)(hl:fY b s.heap l xs)(hx:xs[k]? =some x) (q:∀g,j8 b g it l (k+1)->Heap.SameBut it s.heap g->Q x {s with heap:=g}):wpAny (model prog w) A (Builtin.SmallTypes.nextOf (.ref it)) Q E s:=by
  cases b
  ·exact XO hi hl hx q
  ·exact wpAny_nextOf_list_item hi hl hx q
theorem F3{b:Bool}{it l:Addr}{k:Nat}{xs:Array Value}{Q:Value->a5x->Prop}(hh:A.handled=none)(hi:j8 b s.heap it l k)(hl:fY b s.heap l xs)(hx:xs[k]? =none) (q:∀g e,Heap.ExtBut it s.heap g->(∃o,g.get? e=some o/\o.cls= .type "StopIteration")->E (.ref e) {s with heap:=g}):wpAny (model prog w) A (Builtin.SmallTypes.nextOf (.ref it)) Q E s:=by
  cases b
  ·exact a2y hh hi hl hx q
  ·exact wpAny_nextOf_list_end hh hi hl hx q
structure Zp(b1 b2:Bool)(h:Heap)(z TI TO i1 i2 l1 l2:Addr)(f0:Value)(k:Nat):Prop where
 zz:IsZip h z TI TO f0
 ti:IsPair h TI (.ref i1) (.ref i2)
 to:∃a b,IsPair h TO a b
 n1:j8 b1 h i1 l1 k
 n2:j8 b2 h i2 l2 k
theorem KI{z TI TO:Addr}{Q:Bool->a5x->Prop}(hz:IsZip s.heap z TI TO .none)(q:Q true s):wpAny (model prog w) A (Builtin.SmallTypes.ownedTupleIsFree (.ref z)) Q E s:=by unfold Builtin.SmallTypes.ownedTupleIsFree;exact aF (ka hz rfl (x:=.none) rfl (bT q))
theorem Rx{b1 b2:Bool}{z TI TO i1 i2 l1 l2:Addr}{k:Nat}{xs ys:Array Value}{x y:Value}{Q:Value->a5x->Prop}(D:ZipApart z TI TO i1 i2 l1 l2)(Z:Zp b1 b2 s.heap z TI TO i1 i2 l1 l2 .none k) (qv:fY b1 s.heap l1 xs)(oj:fY b2 s.heap l2 ys)(hx:xs[k]? =some x)(hy:ys[k]? =some y) (q:∀g,Zp b1 b2 g z TI TO i1 i2 l1 l2 (rawInt s.heap.objs.size) (k+1)->IsPair g s.heap.objs.size x y->(∀c o,c≠z->c≠TO->c≠i1->c≠i2->s.heap.get? c=some o->g.get? c=some o)->Q (.ref s.heap.objs.size) {s with heap:=g}): wpAny (model prog w) A (Builtin.«zip.__next__» ⟨[.ref z],[]⟩) (fun r s'=>∃v,r= .done (.ret v)/\Q v s') E s:=by
  obtain⟨hz,kx,⟨a,b,kM⟩,h1,h2⟩:=Z;show wpAny _ _ (field (.ref z) 2>>=_) _ _ _;refine aF (ka hz rfl (x:=.bool false) rfl ?_);show wpAny _ _ (field (.ref z) 3>>=_) _ _ _;refine aF (ka hz rfl (x:=.ref TI) rfl (aF (qV kx rfl ?_)));show wpAny _ _ (Builtin.SmallTypes.ownedTupleIsFree (.ref z)>>=_) _ _ _;refine aF (KI hz ?_);simp only[if_true];refine aF (wpAny_rule (aF (ka hz rfl (x:=.ref TO) rfl (aF (xk hz (by simp) fun g1 z1 e1=>?_)))));replace z1:IsZip g1 z TI TO .ellipsis:=z1;refine aF ?_;simp only[List.zipIdx_cons,List.zipIdx_nil,Gq,List.forIn_nil];refine aF (aF (wpAny_onRaise ?_));show wpAny _ _ (Builtin.SmallTypes.nextOf (.ref i1)>>=_) _ _ _;refine aF (yI (h1.to fun o e=>e1.extBut _ _ D.i1z e) (qv.to fun o e=>e1.extBut _ _ D.l1z e) hx fun g2 n1 e2=>bT ?_);have t2:IsPair g2 TO a b:=e2.extBut _ _ D.TOi1 (e1.extBut _ _ D.TOz kM);refine aF (qV t2 rfl (aF (QM t2 fun g3 t3 e3=>?_)));replace t3:IsPair g3 TO x b:=t3;refine aF (wpAny_letGo (bT ?_));refine aF (aF (wpAny_onRaise ?_));show wpAny _ _ (Builtin.SmallTypes.nextOf (.ref i2)>>=_) _ _ _;refine aF (yI (h2.to fun o e=>e3.extBut _ _ D.TOi2.symm (e2.extBut _ _ D.i12.symm (e1.extBut _ _ D.i2z e))) (oj.to fun o e=>e3.extBut _ _ D.l2TO (e2.extBut _ _ D.l2i1 (e1.extBut _ _ D.l2z e))) hy fun g4 n2 e4=>bT ?_);have t4:IsPair g4 TO x b:=e4.extBut _ _ D.TOi2 t3;refine aF (qV t4 rfl (aF (QM t4 fun g5 t5 e5=>?_)));replace t5:IsPair g5 TO x y:=t5;refine aF (wpAny_letGo (bT (bT ?_)));refine aF (qV t5 rfl (aF (wpAny_newTuple ?_)));have sz:g5.objs.size=s.heap.objs.size:=by rw[e5.1,e4.1,e3.1,e2.1,e1.1]
  have z5:IsZip g5 z TI TO .ellipsis:=e5.extBut _ _ D.TOz.symm (e4.extBut _ _ D.i2z.symm (e3.extBut _ _ D.TOz.symm (e2.extBut _ _ D.i1z.symm z1)));have kp:∀c o,c≠z->c≠TO->c≠i1->c≠i2->s.heap.get? c=some o->g5.get? c=some o:=fun c o c1 c2 c3 c4 e=>e5.extBut _ _ c2 (e4.extBut _ _ c4 (e3.extBut _ _ c2 (e2.extBut _ _ c3 (e1.extBut _ _ c1 e))));have m1:j8 b1 g5 i1 l1 (k+1):=n1.to fun o e=>e5.extBut _ _ D.TOi1.symm (e4.extBut _ _ D.i12 (e3.extBut _ _ D.TOi1.symm e));have m2:j8 b2 g5 i2 l2 (k+1):=n2.to fun o e=>e5.extBut _ _ D.TOi2.symm e;have Ao:z<g5.objs.size:=ck z5;show wpAny _ _ (Builtin.SmallTypes.ownedTupleHandOut (.ref z) (.ref g5.objs.size)>>=_) _ _ _;refine aF ?_;unfold Builtin.SmallTypes.ownedTupleHandOut;have z6:IsZip (g5.push {cls:=.type "tuple",data:=.seq #[x,y]}) z TI TO .ellipsis:=cg _ z5;refine aF (xk z6 (by simp) fun g7 z7 e7=>?_);replace z7:IsZip g7 z TI TO (rawInt g5.objs.size):=z7;refine xk z7 (by simp) fun g8 z8 e8=>?_;replace z8:IsZip g8 z TI TO (rawInt g5.objs.size):=z8;have up:∀c o,c≠z->g5.get? c=some o->g8.get? c=some o:=fun c o c1 e=>e8.extBut _ _ c1 (e7.extBut _ _ c1 (cg _ e));have t8:IsPair g8 g5.objs.size x y:=e8.extBut _ _ (Ge Ao) (e7.extBut _ _ (Ge Ao) (dU _ rfl));rw[sz]at z8 t8;refine bT ⟨_,rfl,?_⟩;show Q (.ref g5.objs.size) _;rw[sz];exact q g8 ⟨z8,up _ _ D.TIz (kp _ _ D.TIz D.TITO D.TIi1 D.TIi2 kx),⟨_,_,up _ _ D.TOz t5⟩,m1.to fun o e=>up _ o D.i1z e,m2.to fun o e=>up _ o D.i2z e⟩ t8 fun c o c1 c2 c3 c4 e=>up c o c1 (kp c o c1 c2 c3 c4 e)
theorem Ry{b1 b2:Bool}{z TI TO i1 i2 l1 l2:Addr}{k:Nat}{xs ys:Array Value}{Q:Fin->a5x->Prop}(hh:A.handled=none)(D:ZipApart z TI TO i1 i2 l1 l2)(Z:Zp b1 b2 s.heap z TI TO i1 i2 l1 l2 .none k) (qv:fY b1 s.heap l1 xs)(oj:fY b2 s.heap l2 ys)(mQ:xs[k]? =none\/ys[k]? =none) (q:∀g e,(∀c o,c≠z->c≠TO->c≠i1->c≠i2->s.heap.get? c=some o->g.get? c=some o)->(∃o,g.get? e=some o/\o.cls= .type "StopIteration")->E (.ref e) {s with heap:=g}): wpAny (model prog w) A (Builtin.«zip.__next__» ⟨[.ref z],[]⟩) Q E s:=by obtain⟨hz,kx,⟨a,b,kM⟩,h1,h2⟩:=Z;show wpAny _ _ (field (.ref z) 2>>=_) _ _ _;refine aF (ka hz rfl (x:=.bool false) rfl ?_);show wpAny _ _ (field (.ref z) 3>>=_) _ _ _;refine aF (ka hz rfl (x:=.ref TI) rfl (aF (qV kx rfl ?_)));show wpAny _ _ (Builtin.SmallTypes.ownedTupleIsFree (.ref z)>>=_) _ _ _;refine aF (KI hz ?_);simp only[if_true];refine aF (wpAny_rule (aF (ka hz rfl (x:=.ref TO) rfl (aF (xk hz (by simp) fun g1 z1 e1=>?_)))));replace z1:IsZip g1 z TI TO .ellipsis:=z1;refine aF ?_;simp only[List.zipIdx_cons,List.zipIdx_nil,Gq,List.forIn_nil];refine aF (aF (wpAny_onRaise ?_));show wpAny _ _ (Builtin.SmallTypes.nextOf (.ref i1)>>=_) _ _ _;have j1:=h1.to fun o e=>e1.extBut _ _ D.i1z e;have k1:=qv.to fun o e=>e1.extBut _ _ D.l1z e;cases hx:xs[k]? with
  |none=>
    refine aF (F3 hh j1 k1 hx fun g2 er e2 ⟨oe,qm,wy⟩=>?_);have z2:IsZip g2 z TI TO .ellipsis:=e2 _ _ D.i1z.symm z1;have nz:er≠z:=fun v=>by subst v;rw[z2]at qm;cases qm;simp at wy
    refine xk z2 (by simp) fun g3 _ e3=>q g3 er (fun c o c1 _ c3 _ v=>e3.extBut _ _ c1 (e2 _ _ c3 (e1.extBut _ _ c1 v))) ⟨oe,e3.extBut _ _ nz qm,wy⟩ |some x=>
    have hy:ys[k]? =none:=by rcases mQ with h|h;rw[hx]at h;cases h;exact h
    refine aF (yI j1 k1 hx fun g2 n1 e2=>bT ?_);have t2:IsPair g2 TO a b:=e2.extBut _ _ D.TOi1 (e1.extBut _ _ D.TOz kM);refine aF (qV t2 rfl (aF (QM t2 fun g3 t3 e3=>?_)));refine aF (wpAny_letGo (bT ?_));refine aF (aF (wpAny_onRaise ?_));show wpAny _ _ (Builtin.SmallTypes.nextOf (.ref i2)>>=_) _ _ _;refine aF (F3 hh (h2.to fun o e=>e3.extBut _ _ D.TOi2.symm (e2.extBut _ _ D.i12.symm (e1.extBut _ _ D.i2z e))) (oj.to fun o e=>e3.extBut _ _ D.l2TO (e2.extBut _ _ D.l2i1 (e1.extBut _ _ D.l2z e))) hy fun g4 er e4 ⟨oe,qm,wy⟩=>?_);have z4:IsZip g4 z TI TO .ellipsis:=e4 _ _ D.i2z.symm (e3.extBut _ _ D.TOz.symm (e2.extBut _ _ D.i1z.symm z1));have nz:er≠z:=fun v=>by subst v;rw[z4]at qm;cases qm;simp at wy
    refine xk z4 (by simp) fun g5 _ e5=>q g5 er (fun c o c1 c2 c3 c4 v=>e5.extBut _ _ c1 (e4 _ _ c4 (e3.extBut _ _ c2 (e2.extBut _ _ c3 (e1.extBut _ _ c1 v))))) ⟨oe,e5.extBut _ _ nz qm,wy⟩
abbrev xE(b1:Bool)(h:Heap)(l1:Addr):Heap:=h.push {cls:=.type (oK b1),data:=.fields #[.ref l1,.int 0 0]}
abbrev xD(b1 b2:Bool)(h:Heap)(l1 l2:Addr):Heap:=(xE b1 h l1).push {cls:=.type (oK b2),data:=.fields #[.ref l2,.int 0 0]}
abbrev xC(b1 b2:Bool)(h:Heap)(l1 l2:Addr):Heap:=(xD b1 b2 h l1 l2).push {cls:=.type "tuple",data:=.seq #[.ref h.objs.size,.ref (xE b1 h l1).objs.size]}
abbrev xB(b1 b2:Bool)(h:Heap)(l1 l2:Addr):Heap:=(xC b1 b2 h l1 l2).push {cls:=.type "tuple",data:=.seq #[.none,.none]}
abbrev rj(b1 b2:Bool)(h:Heap)(l1 l2:Addr):Heap:=(xB b1 b2 h l1 l2).push {cls:=.type "zip",data:=.fields #[.none,.bool false,.bool false,.ref (xD b1 b2 h l1 l2).objs.size,.ref (xC b1 b2 h l1 l2).objs.size]}
theorem Rw(b1 b2:Bool)(l1 l2:Addr)(xs ys:Array Value):Meets (Builtin.«zip.__new__» ⟨[.type "zip",.ref l1,.ref l2],[]⟩) (fun _ R s=>fY b1 s.heap l1 xs/\fY b2 s.heap l2 ys/\R (.ok (.ret (.ref (xB b1 b2 s.heap l1 l2).objs.size))) {s with heap:=rj b1 b2 s.heap l1 l2}):=.of_wp fun prog w A R s h=>by
   obtain⟨hp,gg,d,tk,os⟩:=s;obtain⟨qv,oj,h⟩:=h;have ZM:=sub_zip;have hL1:fY b1 (Shared.heap ⟨hp,gg,d,tk,os⟩) l1 xs:=qv;have wz:fY b2 (Shared.heap ⟨hp.push {cls:=.type (oK b1),data:=.fields #[.ref l1,.int 0 0]},gg,d,tk,os⟩) l2 ys:=oj.to fun o e=>cg _ e
   wp_walk using sP hL1,sP wz;exact⟨_,rfl,h⟩
theorem Rz{b1 b2:Bool}{l1 l2:Addr}{xs ys:Array Value}{Q:Value->a5x->Prop}(qv:fY b1 s.heap l1 xs)(oj:fY b2 s.heap l2 ys) (q:∀g,Zp b1 b2 g (s.heap.objs.size+4) (s.heap.objs.size+2) (s.heap.objs.size+3) s.heap.objs.size (s.heap.objs.size+1) l1 l2 .none 0->(∀c o,s.heap.get? c=some o->g.get? c=some o)->Q (.ref (s.heap.objs.size+4)) {s with heap:=g}): wpAny (model prog w) A (call (.type "zip") [.ref l1,.ref l2]) Q E s:=by
  refine callType_new PySem.F.called_zip (by decide) (PySem.F.typeCall_zip_2 _ _) (PySem.F.newCall_zip_2 _ _) (fun obj=>PySem.F.args_object_init_3 obj _ _) PySem.F.entry_zip_new (Rw b1 b2 l1 l2 xs ys) ⟨qv,oj,?_⟩;have z1:(xE b1 s.heap l1).objs.size=s.heap.objs.size+1:=p5 ..;have z2:(xD b1 b2 s.heap l1 l2).objs.size=s.heap.objs.size+2:=by rw[p5,z1]
  have z3:(xC b1 b2 s.heap l1 l2).objs.size=s.heap.objs.size+3:=by rw[p5,z2]
  have z4:(xB b1 b2 s.heap l1 l2).objs.size=s.heap.objs.size+4:=by rw[p5,z3]
  have g5:(rj b1 b2 s.heap l1 l2).get? (xB b1 b2 s.heap l1 l2).objs.size=some _:=dU _ rfl;have g4:(rj b1 b2 s.heap l1 l2).get? (xC b1 b2 s.heap l1 l2).objs.size=some _:=cg _ (dU _ rfl);have g3:(rj b1 b2 s.heap l1 l2).get? (xD b1 b2 s.heap l1 l2).objs.size=some _:=cg _ (cg _ (dU _ rfl));have g2:(rj b1 b2 s.heap l1 l2).get? (xE b1 s.heap l1).objs.size=some _:=cg _ (cg _ (cg _ (dU _ rfl)));have g1:(rj b1 b2 s.heap l1 l2).get? s.heap.objs.size=some _:=cg _ (cg _ (cg _ (cg _ (dU _ rfl))));show _/\_;rw[z2,z3,z4]at g5;rw[z1,z2]at g3;rw[z3]at g4;rw[z1]at g2;rw[z4];refine⟨⟨_,g5,rfl⟩,q _ ⟨g5,g3,⟨_,_,g4⟩,?_,?_⟩ fun c o e=>cg _ (cg _ (cg _ (cg _ (cg _ e))))⟩
  ·cases b1<;>exact⟨_,g1,rfl,rfl⟩
  ·cases b2<;>exact⟨_,g2,rfl,rfl⟩
end
section
variable {X:Cx}{pins:List (Addr×Obj)}{σ:St}{H:Hp}{s:a5x}{h':Heap}
theorem Inv.uI{t':Nat}{fp:List Addr}(I:Inv X pins σ H s)(k:∀b o,b∉fp->s.heap.get? b=some o->h'.get? b=some o)(hf:∀b∈fp,jY X pins H b):Inv X pins σ H {s with heap:=h',toks:=t'}:=by
 have vG:∀b u,H b=some u->b∉fp:=fun b u e z=>by rw[(hf b z).1]at e;cases e
 have hL:X.env.locals∉fp:=fun z=>(hf _ z).2.1 rfl;refine I.step (g':=s.gens) (d':=s.drawn) (ch:=fp) (fun b hb=>?_) (fun b o _ _ hc e _=>k b o hc e) (fun b o _ _ hc e _=>⟨o.slots,k b o hc e⟩) (fun _ _ _ _ n=>n) (fun b o hc e=>⟨o,k b o hc e⟩) (fun _ _ e=>e) (fun _ _ _ e=>e) (fun b ps e=>⟨#[],by rw[e];simp⟩) (fun m hm=>?_) (fun b u e=>?_) I.bare
 · obtain⟨f0,f1,f2,f3,f4,f5⟩:=hf b hb
   exact⟨f3,f1,f4,f5⟩
 · obtain⟨o,es,ep,ho,r⟩:=hm
   exact⟨o,es,ep,k _ o hL ho,r⟩
 · refine(I.hok b u e).pE (fun c v hc q=>k c v ?_ q) (fun _ q=>q) fun _ _ q=>q
   rcases hc with z|z
   ·rw[z];exact vG b u e
   ·exact vG c _ z
end
def dy(b:Bool)(K:a5w)(H:Hp)(a:Addr)(xs:List V):Prop:=match b with|true=>aw K H a xs|false=>aB K H a xs
theorem dy.get{X:Cx}{pins:List (Addr×Obj)}{σ:St}{H:Hp}{s:a5x}{b:Bool}{a:Addr}{xs:List V}(I:Inv X pins σ H s)(h:dy b X.K H a xs):∃its:List Value,Vals xs its/\fY b s.heap a its.toArray:=by
 cases b
 ·obtain⟨its,r,p,_⟩:=I.tuple h;exact⟨its,r,p⟩
 ·obtain⟨its,r,p,_⟩:=I.list h;exact⟨its,r,p.isList⟩
theorem dy.inj{X:Cx}{pins:List (Addr×Obj)}{σ:St}{H:Hp}{s:a5x}{b:Bool}{a:Addr}{xs ys:List V}(I:Inv X pins σ H s)(h:dy b X.K H a xs)(g:dy b X.K H a ys):xs=ys:=by
 cases b
 ·exact I.GW h g
 ·exact I.LC h g
def kS(K:a5w)(b1 b2:Bool)(l1 l2:Addr):It:=⟨fun i H=>∃xs ys x y,dy b1 K H l1 xs/\dy b2 K H l2 ys/\xs[i]? =some x/\ys[i]? =some y,fun i H v H'=>∃T x y,v= .ref T/\(∀xs,dy b1 K H l1 xs->xs[i]? =some x)/\(∀ys,dy b2 K H l2 ys->ys[i]? =some y)/\Nw H H' T (.tup [x,y]),fun i H=>∃xs ys,dy b1 K H l1 xs/\dy b2 K H l2 ys/\(xs.length<=i\/ys.length<=i)⟩
theorem S0{P:a5y}{w:World}{K:a5w}{elts:List Expr}{kt:Nat}{pos:Pos}{b1 b2:Bool}{z TI TO i1 i2 l1 l2:Addr}(D:ZipApart z TI TO i1 i2 l1 l2): Turn P w K (.Tuple elts kt pos) (kS K b1 b2 l1 l2) [z,TI,TO,i1,i2] z (fun i h=>Zp b1 b2 h z TI TO i1 i2 l1 l2 .none i) where
  mem:=by simp
  obj:=fun i h st b hb=>by
   obtain⟨hz,kx,⟨a,c,kM⟩,h1,h2⟩:=st;simp only[bW,da,dB]at hb;rcases hb with rfl|rfl|rfl|rfl|rfl
   ·exact⟨_,hz,fun v e=>by cases e⟩
   ·exact⟨_,kx,fun v e=>by cases e⟩
   ·exact⟨_,kM,fun v e=>by cases e⟩
   ·obtain⟨o,e,_,n⟩:=h1.ob;exact⟨o,e,n⟩
   ·obtain⟨o,e,_,n⟩:=h2.ob;exact⟨o,e,n⟩
  keep:=fun i h h' st k=>by obtain⟨hz,kx,⟨a,c,kM⟩,h1,h2⟩:=st;exact⟨k z (by simp) _ hz,k TI (by simp) _ kx,⟨a,c,k TO (by simp) _ kM⟩,h1.to fun o e=>k i1 (by simp) o e,h2.to fun o e=>k i2 (by simp) o e⟩
  item:=by
   intro X hP hw hK hc i pins s σ H E I hf st hg;subst hP hw hK;obtain⟨xs,ys,x,y,q1,q2,e1,e2⟩:=hg;obtain⟨E1,r1,p1⟩:=q1.get I;obtain⟨kI,r2,p2⟩:=q2.get I;obtain⟨u1,bu,jE⟩:=r1.get e1;obtain⟨u2,ZH,pP⟩:=r2.get e2;have hT:s.TypeIs (.ref z) "zip":=⟨_,st.zz,rfl⟩;unfold pyNext;refine aF (wpAny_attempt (A9 (name:=Str.ofString "__next__") hT G9 (A8 G9 hT PySem.F.entry_zip_next (Rx D st p1 p2 (x:=u1) (y:=u2) (by simpa using bu) (by simpa using ZH) fun g zg tg kp=>bT ?_) (PySem.F.args_zip_next_1 _))));refine⟨_,rfl,?_⟩;refine wpAny_letOwnedTupleGo_zip zg.zz fun g' Rr sb=>?_;have hs:=sb.extBut;have Ao:z<s.heap.objs.size:=ck st.zz;have nw:Nw H (upd H s.heap.objs.size (.tup [x,y])) s.heap.objs.size (.tup [x,y]):=.of (I.hok.fresh (bp _));have I1:Inv X pins σ (upd H s.heap.objs.size (.tup [x,y])) {s with heap:=s.heap.push {cls:=.type "tuple",data:=.seq #[u1,u2]}}:=I.laid (t':=s.toks) (fun b ob q=>cg _ q) (bp _) ⟨by show 2<=sizeLine;decide,[u1,u2],.cons jE (.cons pP .nil),⟨_,dU _ rfl,rfl,_,rfl⟩⟩;have yR:∀b∈[z,TI,TO,i1,i2],b<s.heap.objs.size:=fun b hb=>by
    simp only[bW,da,dB]at hb;obtain⟨hz,kx,⟨a,c,kM⟩,h1,h2⟩:=st;rcases hb with rfl|rfl|rfl|rfl|rfl
    ·exact ck hz
    ·exact ck kx
    ·exact ck kM
    ·obtain⟨o,e,_⟩:=h1.ob;exact ck e
    ·obtain⟨o,e,_⟩:=h2.ob;exact ck e
   have hn:∀b∈[z,TI,TO,i1,i2],upd H s.heap.objs.size (.tup [x,y]) b=none:=fun b hb=>by rw[az (eV (yR b hb))];exact(hf b hb).1
   have I2:Inv X pins σ (upd H s.heap.objs.size (.tup [x,y])) {s with heap:=g'}:=Inv.uI (s:={s with heap:=s.heap.push {cls:=.type "tuple",data:=.seq #[u1,u2]}}) (t':=s.toks) (fp:=[z,TI,TO,i1,i2]) I1 (fun b o hb e=>by
    have e:(s.heap.push {cls:=.type "tuple",data:=.seq #[u1,u2]}).get? b=some o:=e;have nz:b≠z:=fun q=>hb (by simp[q]);rcases Heap.get?_push_cases e with⟨Ey,rfl⟩|e'
    · subst Ey
      exact hs _ _ nz tg
    ·exact hs _ _ nz (kp b o nz (fun q=>hb (by simp[q])) (fun q=>hb (by simp[q])) (fun q=>hb (by simp[q])) e')) (fun b hb=>by obtain⟨f0,f1,f2,f3,f4,f5⟩:=hf b hb;exact⟨hn b hb,f1,f2,f3,f4,f5⟩);refine⟨.ref s.heap.objs.size,_,I2,rfl,⟨s.heap.objs.size,x,y,rfl,fun zs hz=>?_,fun zs hz=>?_,nw⟩,?_,hn⟩
   ·rw[dy.inj I hz q1];exact e1
   ·rw[dy.inj I hz q2];exact e2
   · obtain⟨_,kx,⟨a,c,kM⟩,h1,h2⟩:=zg
     exact⟨Rr,hs _ _ D.TIz kx,⟨a,c,hs _ _ D.TOz kM⟩,h1.to fun o e=>hs _ o D.i1z e,h2.to fun o e=>hs _ o D.i2z e⟩
  done:=by intro X hP hw hK hc i pins s σ H E I hf st hg;subst hP hw hK;obtain⟨xs,ys,q1,q2,mQ⟩:=hg;obtain⟨E1,r1,p1⟩:=q1.get I;obtain⟨kI,r2,p2⟩:=q2.get I;have hT:s.TypeIs (.ref z) "zip":=⟨_,st.zz,rfl⟩;have l1:=r1.length;have l2:=r2.length;unfold pyNext;refine aF (wpAny_attempt (A9 (name:=Str.ofString "__next__") hT G9 (A8 G9 hT PySem.F.entry_zip_next (Ry (I.ok.hd hc) D st p1 p2 (mQ.imp (fun h=>by simp;omega) fun h=>by simp;omega) fun g e kp he=>?_) (PySem.F.args_zip_next_1 _))));obtain⟨o,ho,qz⟩:=he;refine aF (wpAny_isInstance (T:="StopIteration") (b:=true) ⟨o,ho,qz⟩ isSubtype_stop (bT ⟨rfl,?_⟩));exact I.uI (t':=s.toks) (fp:=[z,TI,TO,i1,i2]) (fun b o hb e=>kp b o (fun q=>hb (by simp[q])) (fun q=>hb (by simp[q])) (fun q=>hb (by simp[q])) (fun q=>hb (by simp[q])) e) hf
  self:=fun _ _ _ _ _ st h=>wpAny_pyIter_zip st.zz h
inductive Qw(K:a5w)(b1:Bool)(b2:Bool)(R:It->Hp->Prop)(vs:List V)(H1:Hp):Prop |mk (l1:_)(l2:_)(h0:vs=[.ref l1,.ref l2])(h1:(∃xs,dy b1 K H1 l1 xs))(h2:(∃ys,dy b2 K H1 l2 ys))(h3:R (kS K b1 b2 l1 l2) H1):Qw K b1 b2 R vs H1
def Zt(K:a5w)(b1 b2:Bool)(ta:TA):TI:=fun σ H R=>ta σ H fun vs H1=>Qw K b1 b2 R vs H1
theorem hW(K:a5w){X:Cx}(hK:X.K=K)(b1 b2:Bool){elts:List Expr}{kt:Nat}{pA:Pos}{a b:Expr}{ta:TA}{p pos:Pos}(hg:Gl X "zip")(hm:X.mg "zip"=none)(ha:PA X [a,b] ta)(hs:starEach [a,b] X.env=[(false,eval a X.env),(false,eval b X.env)]:=by rfl)(ir:starEach [b] X.env=[(false,eval b X.env)]:=by rfl): PI X (.Tuple elts kt pA) (.Call (.Name "zip" p) [a,b] [] pos) (Zt K b1 b2 ta):=by
  subst hK;intro pins s σ H R I h;refine Call_ (mD I hg hm PyProof.Rows.boot_zip (uu (aI (ha pos pins s σ H _ I h) fun us s1 ⟨vs,H1,I1,r1,q1⟩=>?_) (by rw[hs,ir]) (by rw[ir];rfl)));obtain⟨l1,l2,e,⟨xs,h1⟩,⟨ys,h2⟩,q⟩:=q1;subst e;obtain⟨u1,u2,rfl,jE,pP⟩:=vals2 r1;cases(show u1=Value.ref l1 from jE);cases(show u2=Value.ref l2 from pP);obtain⟨E1,v1,p1⟩:=h1.get I1;obtain⟨kI,v2,p2⟩:=h2.get I1;have a1:l1<s1.heap.objs.size:=by cases b1<;>(obtain⟨o,e,_⟩:=p1;exact ck e)
  have a2:l2<s1.heap.objs.size:=by cases b2<;>(obtain⟨o,e,_⟩:=p2;exact ck e)
  refine Rz p1 p2 fun g zg kp=>wpAny_pyIter_zip zg.zz ?_;refine⟨_,_,_,_,H1,rfl,I1.kept (t':=s1.toks) kp,S0 (zipApart_new a1 a2),zg,fun c hc=>?_,q⟩;have hle:s1.heap.objs.size<=c:=by simp only[bW,da,dB]at hc;rcases hc with rfl|rfl|rfl|rfl|rfl<;>first|exact bp _|exact Nat.le_add_right _ _
  exact I1.mU hle (I1.hok.fresh hle)
theorem dy.go{b:Bool}{K:a5w}{H H':Hp}{a:Addr}{xs:List V}(s:ai H H')(h:dy b K H a xs):dy b K H' a xs:=by
 cases b
 ·exact aB.go s h
 ·exact aw.go s h
theorem NN{K:a5w}{b1 b2:Bool}{l1 l2:Addr}{xs ys:List V}{bs:List Bool}{te:TE}{Q:VK}{D:Addr}{H H0:Hp}{n:Nat}(rest:St)(hn:n=2)(h1:dy b1 K H l1 xs)(h2:dy b2 K H l2 ys)(nw:Nw H H0 D (.lst [])) (hl:min xs.length ys.length=bs.length)(hz:bs.length<=1000) (hs:∀(i:Nat)(x y:V)(b:Bool)(H2:Hp)(Q':VK),xs[i]? =some x->ys[i]? =some y->bs[i]? =some b->ai H H2->(∀H3,ai H2 H3->Q' (.bl b) H3)->te (some x::some y::rest) H2 Q') (hq:∀H',ai H H'->H' D=some (.lst (bs.map V.bl))->Q (.ref D) H'):iz (kS K b1 b2 l1 l2) (mT K n (j0 (eQ 0) (j0 (eQ 1) oC))) gJ te Q D (none::none::rest) H0:=by
  subst hn;have hD:=nw.no;refine oJ bs.length (fun i σ H2=>ai H H2/\H2 D=some (.lst ((bs.take i).map V.bl))/\∃v v',σ=v::v'::rest) ?_ ?_ ?_
  ·exact⟨nw.same,nw.at',none,none,rfl⟩
  · rintro i σ H2 hi ⟨s2,d2,v,v',rfl⟩
    have hx:i<xs.length:=by omega
    have hy:i<ys.length:=by omega
    have ex:=bO hx;have ey:=bO hy;have eb:=bO hi;refine⟨⟨xs,ys,_,_,h1.go s2,h2.go s2,ex,ey⟩,fun y' H3 iY=>?_⟩;obtain⟨T,x0,y0,rfl,k1,k2,n3⟩:=iY;have e1:=k1 _ (h1.go s2);have e2:=k2 _ (h2.go s2);rw[ex]at e1;rw[ey]at e2;cases e1;cases e2;refine⟨T,_,rfl,aB.of n3.at',rfl,_,_,rfl,_,_,rfl,rfl,?_⟩;refine yes (bF ?_);refine hs i _ _ _ _ _ ex ey eb (s2.trans n3.same) fun H4 s4=>?_;refine⟨_,s4 _ _ (n3.same _ _ d2),?_,bs.length-(i+1),by omega,rfl,by omega,fun b o e=>?_,?_,_,_,rfl⟩
    · rw[bS,m4]
      have:(1000:Nat)<sizeLine:=by decide
      omega
    ·rw[az (fw e hD)];exact s4 b o (n3.same b o (s2 b o e))
    ·rw[aO,nK,eb,m3];rfl
  · rintro σ H2 ⟨s2,d2,v,v',rfl⟩
    refine⟨⟨xs,ys,h1.go s2,h2.go s2,by omega⟩,hq H2 s2 ?_⟩;rw[d2,uv]
section
variable {P:a5y}{w:World}{K:a5w}{mg:Str->Option Value}{base:Heap}{N:List Str}{qual:Str}{scope:Scope}{f:Addr}{cd:Value}{A:a5A}{outer:List Env}{s:a5x}{H:Hp}{E:XK}{pins:List (Addr×Obj)}{σ:St}{H1:Hp}{s1:a5x}{h2:Heap}{ex:Addr}{cls:Value}{vs:List Value}
end
section
variable {X:Cx}{x:Str}{C:Addr}{bmB:List Value}{newId a4R B:String}{e:Expr}{t:TA}{np cW pos:Pos}
end
end L2
namespace L2
open PySem PySem.Spec PyProof.Rows
section
variable {M:Model}{A:a5A}{Ex:Value->a5x->Prop}
end
section
variable {X:Cx}{k:Nat}{x:Str}{p pos:Pos}{e:Expr}{es:List Expr}{t:TA}{sp:Sp}
end
section
variable {X:Cx}{pins:List (Addr×Obj)}{σ:St}{H:Hp}{s:a5x}
end
section
variable {X:Cx}{i:Nat}{n y:Str}{Dc:Addr}{bmD:List Value}{newD:String}{body a4r:List Stmt}{b0:Stmt}{np Ec pos:Pos}{tb:XK->TS}{th:TS}{Cs:Addr->Prop}
end
end L2
namespace L2
open PySem PySem.Spec PyProof.Rows PySem.W Builtin.Getset_descriptor
section
variable {prog:a5y}{w:World}{A:a5A}{E:Value->a5x->Prop}{h:Heap}{g:Array GenState}{d:Drawn}{t:Nat}{os:OsState}{K:Frag}{x C:Addr}{o:Obj}
end
end L2
namespace L2
open PySem PySem.Spec PyProof.Rows
section
variable {X:Cx}
end
end L2
namespace L2
open PySem PySem.Spec PyProof.Rows
end L2
namespace Ar
theorem a21(a b:Int):Int.gcd b (a.fmod b)=Int.gcd a b:=by rw[Int.fmod_def,Int.gcd_sub_mul_left_right,Int.gcd_comm]
theorem MN{a b:Int}(h:0<b):Int.gcd b (a%b)=Int.gcd a b:=by rw[<-Int.fmod_eq_emod_of_nonneg a (Gw h)];exact a21 a b
def sg(p q:Int):Int:=if q<0 then-(Int.gcd p q:Int)else(Int.gcd p q:Int)
def lowP (p q:Int):Int:=p.fdiv (sg p q)
def fQ (p q:Int):Int:=q.fdiv (sg p q)
theorem zu{p q:Int}(h:q≠0):0<(Int.gcd p q:Int):=by have:Int.gcd p q≠0:=fun z=>h (Int.gcd_eq_zero_iff.mp z).2;omega
theorem uR{p q:Int}(h:q≠0):sg p q≠0:=by have:=zu (p:=p) h;unfold sg;split<;>omega
theorem Iz(p q:Int):sg p q∣p:=by
 unfold sg;split
 ·exact Int.neg_dvd.mpr (Int.gcd_dvd_left p q)
 ·exact Int.gcd_dvd_left p q
theorem Iy(p q:Int):sg p q∣q:=by
 unfold sg;split
 ·exact Int.neg_dvd.mpr (Int.gcd_dvd_right p q)
 ·exact Int.gcd_dvd_right p q
theorem DL(p q:Int):sg p q*lowP p q=p:=by unfold lowP;rw[Int.fdiv_eq_ediv_of_dvd (Iz p q)];exact Int.mul_ediv_cancel' (Iz p q)
theorem yU(p q:Int):sg p q*fQ p q=q:=by unfold fQ;rw[Int.fdiv_eq_ediv_of_dvd (Iy p q)];exact Int.mul_ediv_cancel' (Iy p q)
theorem IA(p q:Int):(sg p q).natAbs=Int.gcd p q:=by unfold sg;split<;>omega
theorem YE{p q:Int}(h:q≠0):Int.gcd (lowP p q) (fQ p q)=1:=by
 have e:Int.gcd (sg p q*lowP p q) (sg p q*fQ p q)=(sg p q).natAbs*Int.gcd (lowP p q) (fQ p q):=Int.gcd_mul_left _ _ _;rw[DL,yU,IA]at e;have g:=zu (p:=p) h;have g':0<Int.gcd p q:=by omega
 have e':Int.gcd p q*1=Int.gcd p q*Int.gcd (lowP p q) (fQ p q):=by omega
 exact(Nat.eq_of_mul_eq_mul_left g' e').symm
theorem YF{p q:Int}(h:q≠0):0<fQ p q:=by
 have e:=yU p q;have g:=zu (p:=p) h;by_cases hq:q<0
 · have es:sg p q=-(Int.gcd p q:Int):=by unfold sg;rw[aP hq]
   rw[es]at e;refine Int.not_le.mp fun hl=>?_;have:0<=-(Int.gcd p q:Int)*fQ p q:=Ri (by omega) hl;omega
 · have es:sg p q=(Int.gcd p q:Int):=by unfold sg;rw[aV hq]
   rw[es]at e;refine Int.not_le.mp fun hl=>?_;have:(Int.gcd p q:Int)*fQ p q<=0:=Int.mul_nonpos_of_nonneg_of_nonpos (by omega) hl;omega
theorem Oj{s x y:Int}(hs:s≠0)(e:s*x=y):x.natAbs<=y.natAbs:=by rw[<-e,fc];exact Nat.le_mul_of_pos_left _ (by omega)
theorem YG{p q:Int}(h:q≠0):(lowP p q).natAbs<=p.natAbs:=Oj (uR h) (DL p q)
theorem Lu{p q:Int}(h:q≠0):(fQ p q).natAbs<=q.natAbs:=Oj (uR h) (yU p q)
theorem Iw{p q:Int}(h:q≠0):(sg p q).natAbs<=q.natAbs:=by rw[IA];exact Nat.le_of_dvd (by omega) (Int.gcd_dvd_natAbs_right p q)
end Ar
namespace Rt
open Rat
theorem yT{a b:Int}(hb:b≠0):Ar.lowP a b=(Rat.divInt a b).num/\Ar.fQ a b=((Rat.divInt a b).den:Int):=by
 have hp:=Ar.YF (p:=a) hb;have hc:=Ar.YE (p:=a) hb;have Es:(Ar.fQ a b).natAbs≠0:=by omega
 have a0K:(Ar.lowP a b).natAbs.Coprime (Ar.fQ a b).natAbs:=hc;have e1:Rat.divInt a b=Rat.divInt (Ar.lowP a b) (Ar.fQ a b):=by have h:=Rat.divInt_mul_left (a:=Ar.sg a b) (n:=Ar.lowP a b) (d:=Ar.fQ a b) (Ar.uR hb);rw[Ar.DL,Ar.yU]at h;exact h
 have e2:(⟨Ar.lowP a b,(Ar.fQ a b).natAbs,Es,a0K⟩:Rat)=Rat.divInt (Ar.lowP a b) (((Ar.fQ a b).natAbs:Nat):Int):=Rat.mk_eq_divInt;have e3:(((Ar.fQ a b).natAbs:Nat):Int)=Ar.fQ a b:=by omega
 rw[e3]at e2;rw[e1,<-e2];exact⟨rfl,e3.symm⟩
theorem den_pos(r:Rat):(0:Int)<(r.den:Int):=by have:=r.den_pos;omega
structure Bd(n:Nat)(r:Rat):Prop where
 num:r.num.natAbs<2^n
 den:r.den<2^n
theorem Bd.mono{n m:Nat}{r:Rat}(h:Bd n r)(l:n<=m):Bd m r:=⟨fF h.num (oX (by decide) l),fF h.den (oX (by decide) l)⟩
theorem jI{a b n m:Nat}(h:a<2^n)(g:b<2^m):a*b<2^(n+m):=by rw[Nat.pow_add];exact Nat.mul_lt_mul'' h g
theorem ji{n:Nat}{a b:Int}(hb:b≠0)(h1:a.natAbs<2^n)(h2:b.natAbs<2^n):Bd n (Rat.divInt a b):=by
 obtain⟨e1,e2⟩:=yT (a:=a) hb;have l1:=Ar.YG (p:=a) hb;have l2:=Ar.Lu (p:=a) hb;refine⟨?_,?_⟩
 ·rw[<-e1];omega
 ·omega
theorem mX(r s:Rat):(r.den:Int)*(s.den:Int)≠0:=Int.ne_of_gt (gA (den_pos r) (den_pos s))
theorem add_div(r s:Rat):r+s=Rat.divInt (r.num*s.den+s.num*r.den) (r.den*s.den):=by have h:=Rat.divInt_add_divInt r.num s.num (d₁:=r.den) (d₂:=s.den) (by have:=den_pos r;omega) (by have:=den_pos s;omega);rw[oV,oV]at h;exact h
theorem SX(r s:Rat):r-s=Rat.divInt (r.num*s.den-s.num*r.den) (r.den*s.den):=by have h:=QR r.num s.num (d₁:=r.den) (d₂:=s.den) (by have:=den_pos r;omega) (by have:=den_pos s;omega);rw[oV,oV]at h;exact h
theorem mul_div(r s:Rat):r*s=Rat.divInt (r.num*s.num) (r.den*s.den):=by have h:=QS r.num s.num (d₁:=r.den) (d₂:=s.den);rw[oV,oV]at h;exact h
section
variable {n m:Nat} {r s:Rat}
theorem a3a(h:Bd n r)(g:Bd m s):(r.num*s.den).natAbs<2^(n+m):=by rw[fc];exact jI h.num (by have:=g.den;omega)
theorem a39(h:Bd n r)(g:Bd m s):(s.num*r.den).natAbs<2^(n+m):=by rw[fc,Nat.mul_comm];exact jI (by have:=h.den;omega) g.num
theorem Fg(h:Bd n r)(g:Bd m s):((r.den:Int)*(s.den:Int)).natAbs<2^(n+m):=by rw[fc];exact jI (by have:=h.den;omega) (by have:=g.den;omega)
theorem Bd.add(h:Bd n r)(g:Bd m s):Bd (n+m+1) (r+s):=by
 rw[add_div];have h1:=a3a h g;have h2:=a39 h g;have h3:=Fg h g;have e:2^(n+m+1)=2^(n+m)+2^(n+m):=by rw[Nat.pow_succ];omega
 exact ji (mX r s) (by omega) (by omega)
theorem Bd.mul(h:Bd n r)(g:Bd m s):Bd (n+m) (r*s):=by rw[mul_div];exact ji (mX r s) (by rw[fc];exact jI h.num g.num) (Fg h g)
end
end Rt
namespace L2
open PySem PySem.Spec PyProof.Rows
def iu(H H':Hp):Prop:=∀b o,(∀xs,o≠ .lst xs)->H b=some o->H' b=some o
section
variable {K:a5w} {H H' H2:Hp}
theorem iu.trans(a:iu H H')(b:iu H' H2):iu H H2:=fun c o n e=>b c o n (a c o n e)
theorem iu.nP{D:Addr}{xs ys:List V}(h:H D=some (.lst xs)):iu H (upd H D (.lst ys)):=fun b o n e=>by rw[az (vI e h (n xs))];exact e
theorem aB.t{a:Addr}{xs:List V}(s:iu H H')(h:aB K H a xs):aB K H' a xs:=h.imp (fun r=>r.imp (s _ _ fun _ z=>nomatch z) fun⟨o,e⟩=>⟨o,s _ _ (fun _ z=>nomatch z) e⟩) id
mutual
def dP:a5z->Bool | .list _=>false | .dict _=>false | .tuple ds=>cm ds | .none=>true | .bool _=>true | .int _=>true | .str _=>true
def cm:List a5z->Bool |[]=>true |d::ds=>dP d&&cm ds
end
theorem gq:∀{ds:List a5z},cm ds=true↔∀d∈ds,dP d=true
  |[]=>⟨fun _ _ h=>(nomatch h),fun _=>by simp[cm]⟩ |d::ds=>by
    rw[cm,fh,gq (ds:=ds)];constructor
    · rintro⟨a,b⟩ x hx
      rcases bW.mp hx with rfl|hx
      ·exact a
      ·exact b x hx
    · intro h
      exact⟨h d (.head _),fun x hx=>h x (.tail _ hx)⟩
theorem jG(ns:List Int):cm (ns.map PyData.int)=true:=gq.mpr fun d hd=>by obtain⟨i,_,rfl⟩:=kb.mp hd;simp[dP]
mutual
theorem RD.t(s:iu H H'):∀{x:V}(d:a5z),dP d=true->RD K H x d->RD K H' x d |x,.none,_,h=>by simpa[RD]using h |x,.bool b,_,h=>by simpa[RD]using h |x,.int i,_,h=>by simpa[RD]using h |x,.str y,_,h=>by simpa[RD]using h |x,.list ds,n,h=>by simp[dP]at n |x,.tuple ds,n,h=>by rw[RD]at h⊢;obtain⟨a,xs,e,h1,h2⟩:=h;exact⟨a,xs,e,h1.t s,ay.t s ds (by simpa[dP]using n) h2⟩ |x,.dict _,_,h=>by simp[RD]at h
theorem ay.t (s:iu H H'):∀{xs:List V}(ds:List a5z),cm ds=true->ay K H xs ds->ay K H' xs ds |xs,[],_,h=>by simpa[ay]using h |xs,d::ds,n,h=>by rw[ay]at h⊢;rw[cm,fh]at n;obtain⟨y,ys,e,h1,h2⟩:=h;exact⟨y,ys,e,RD.t s d n.1 h1,ay.t s ds n.2 h2⟩
end
theorem ay.gT:∀{xs:List V}{ns:List Int},ay K H xs (ns.map PyData.int)->xs=ns.map V.int |xs,[],h=>h.nil_inv |xs,n::ns,h=>by obtain⟨y,ys,rfl,h1,h2⟩:=h.cons_inv;rw[h1.int_inv,ay.gT h2];rfl
theorem rW:∀(ns:List Int),ay K H (ns.map V.int) (ns.map PyData.int) |[]=>cQ |n::ns=>cj (dG n) (rW ns)
theorem NK{J:It}{xs:List V}{ds:List a5z}{te:TE}{Q:VK}{D:Addr}{H0:Hp}(rest:St)(nw:Nw H H0 D (.lst []))(hl:xs.length=ds.length)(hz:xs.length<=1000)(hn:cm ds=true) (go:∀i x H2,xs[i]? =some x->ai H H2->J.go i H2/\∀y H3,J.yld i H2 y H3->H3=H2/\y=x)(stop:∀H2,ai H H2->J.stop xs.length H2) (hs:∀(i:Nat)(x:V)(d:a5z)(H2:Hp)(Q':VK),xs[i]? =some x->ds[i]? =some d->ai H H2->(∀y H3,ai H2 H3->RD K H3 y d->Q' y H3)->te (some x::rest) H2 Q') (hq:∀H' ys,ai H H'->H' D=some (.lst ys)->ay K H' ys ds->Q (.ref D) H'):iz J (eQ 0) gJ te Q D (none::rest) H0:=by
  have hD:=nw.no;refine oJ xs.length (fun i σ H2=>ai H H2/\(∃ys,H2 D=some (.lst ys)/\ay K H2 ys (ds.take i))/\∃v,σ=v::rest) ?_ ?_ ?_
  ·exact⟨nw.same,⟨[],nw.at',cQ⟩,none,rfl⟩
  · rintro i σ H2 hi ⟨s2,⟨ys,d2,r2⟩,v,rfl⟩
    have mO:i<ds.length:=by rw[<-hl];exact hi
    have ex:=bO hi;have eb:=bO mO;obtain⟨g1,g2⟩:=go i _ H2 ex s2;refine⟨g1,fun y H3 hy=>?_⟩;obtain⟨rfl,rfl⟩:=g2 y H3 hy;refine xF ?_;refine hs i _ _ _ _ ex eb s2 fun z H4 s4 r4=>?_;have d4:=s4 _ _ d2;have len:=r2.length;rw[m4]at len;refine⟨ys,d4,?_,xs.length-(i+1),by omega,rfl,by omega,fun b o e=>?_,⟨ys++[z],aO,?_⟩,_,rfl⟩
    · have:(1000:Nat)<sizeLine:=by decide
      omega
    ·rw[az (fw e hD)];exact s4 b o (s2 b o e)
    · have t:iu H4 (upd H4 D (.lst (ys++[z]))):=.nP d4
      rw[nK,eb];have n1:cm (ds.take i)=true:=gq.mpr fun d hd=>gq.mp hn d (Aj hd);exact(ay.t t _ n1 (ay.mono s4 _ r2)).append (cj (RD.t t _ (gq.mp hn _ (Ra mO)) r4) cQ)
  · rintro σ H2 ⟨s2,⟨ys,d2,r2⟩,v,rfl⟩
    refine⟨stop H2 s2,hq H2 ys s2 d2 ?_⟩;rw[hl,uv]at r2;exact r2
theorem zM{a:Addr}{xs:List V}{ds:List a5z}{te:TE}{Q:VK}{D:Addr}{H0:Hp}(rest:St)(hx:aB K H a xs)(nw:Nw H H0 D (.lst []))(hl:xs.length=ds.length)(hz:xs.length<=1000)(hn:cm ds=true) (hs:∀(i:Nat)(x:V)(d:a5z)(H2:Hp)(Q':VK),xs[i]? =some x->ds[i]? =some d->ai H H2->(∀y H3,ai H2 H3->RD K H3 y d->Q' y H3)->te (some x::rest) H2 Q') (hq:∀H' ys,ai H H'->H' D=some (.lst ys)->ay K H' ys ds->Q (.ref D) H'):iz (oQ K a) (eQ 0) gJ te Q D (none::rest) H0:=NK rest nw hl hz hn (fun i x H2 e s=>⟨⟨xs,x,hx.go s,e⟩,fun y H3 ⟨e3,y3⟩=>⟨e3,by have:=y3 _ (hx.go s);rw[e]at this;exact(eG this).symm⟩⟩) (fun H2 s=>⟨xs,hx.go s,bp _⟩) hs hq
theorem a3f{lo:Int}{n:Nat}{ds:List a5z}{te:TE}{Q:VK}{D:Addr}{H0:Hp}(rest:St)(nw:Nw H H0 D (.lst []))(hl:n=ds.length)(hz:n<=1000)(hn:cm ds=true) (hs:∀(i:Nat)(d:a5z)(H2:Hp)(Q':VK),ds[i]? =some d->ai H H2->(∀y H3,ai H2 H3->RD K H3 y d->Q' y H3)->te (some (.int (lo+i))::rest) H2 Q') (hq:∀H' ys,ai H H'->H' D=some (.lst ys)->ay K H' ys ds->Q (.ref D) H'):iz (nk lo n) (eQ 0) gJ te Q D (none::rest) H0:=by
  have hx:∀i x,((List.range n).map fun i:Nat=>V.int (lo+i))[i]? =some x->i<n/\x= .int (lo+i):=fun i x e=>by rw[bU]at e;cases h:(List.range n)[i]? with |none=>rw[h]at e;cases e |some j=>rw[h]at e;obtain⟨h1,h2⟩:=dC.mp h;rw[qX]at h2;subst h2;exact⟨by simpa using h1,(eG e).symm⟩
  refine NK (xs:=(List.range n).map fun i:Nat=>V.int (lo+i)) rest nw (by simpa using hl) (by simpa using hz) hn (fun i x H2 e s=>?_) (fun H2 s=>?_) (fun i x d H2 Q' e1 e2 s k=>?_) hq
  · obtain⟨h1,rfl⟩:=hx i x e
    exact⟨h1,fun y H3 ⟨e3,y3⟩=>⟨e3,y3⟩⟩
  · show n<=_
    simp
  · obtain⟨h1,rfl⟩:=hx i x e1
    exact hs i d H2 Q' e2 s k
theorem qO{b1 b2:Bool}{l1 l2:Addr}{xs ys:List V}{ds:List a5z}{te:TE}{Q:VK}{D:Addr}{H0:Hp}{n:Nat}(rest:St)(tH:n=2)(h1:dy b1 K H l1 xs)(h2:dy b2 K H l2 ys)(nw:Nw H H0 D (.lst [])) (hl:min xs.length ys.length=ds.length)(hz:ds.length<=1000)(hn:cm ds=true) (hs:∀(i:Nat)(x y:V)(d:a5z)(H2:Hp)(Q':VK),xs[i]? =some x->ys[i]? =some y->ds[i]? =some d->ai H H2->(∀z H3,ai H2 H3->RD K H3 z d->Q' z H3)->te (some x::some y::rest) H2 Q') (hq:∀H' zs,ai H H'->H' D=some (.lst zs)->ay K H' zs ds->Q (.ref D) H'):iz (kS K b1 b2 l1 l2) (mT K n (j0 (eQ 0) (j0 (eQ 1) oC))) gJ te Q D (none::none::rest) H0:=by
  subst tH;have hD:=nw.no;refine oJ ds.length (fun i σ H2=>ai H H2/\(∃zs,H2 D=some (.lst zs)/\ay K H2 zs (ds.take i))/\∃v v',σ=v::v'::rest) ?_ ?_ ?_
  ·exact⟨nw.same,⟨[],nw.at',cQ⟩,none,none,rfl⟩
  · rintro i σ H2 hi ⟨s2,⟨zs,d2,r2⟩,v,v',rfl⟩
    have hx:i<xs.length:=by omega
    have hy:i<ys.length:=by omega
    have ex:=bO hx;have ey:=bO hy;have eb:=bO hi;refine⟨⟨xs,ys,_,_,h1.go s2,h2.go s2,ex,ey⟩,fun y' H3 iY=>?_⟩;obtain⟨T,x0,y0,rfl,k1,k2,n3⟩:=iY;have e1:=k1 _ (h1.go s2);have e2:=k2 _ (h2.go s2);rw[ex]at e1;rw[ey]at e2;cases e1;cases e2;refine⟨T,_,rfl,aB.of n3.at',rfl,_,_,rfl,_,_,rfl,rfl,?_⟩;refine yes (bF ?_);refine hs i _ _ _ _ _ ex ey eb (s2.trans n3.same) fun z H4 s4 r4=>?_;have mi:=n3.same.trans s4;have d4:=mi _ _ d2;have len:=r2.length;rw[m4]at len;refine⟨zs,d4,?_,ds.length-(i+1),by omega,rfl,by omega,fun b o e=>?_,⟨zs++[z],aO,?_⟩,_,_,rfl⟩
    · have:(1000:Nat)<sizeLine:=by decide
      omega
    ·rw[az (fw e hD)];exact mi b o (s2 b o e)
    · have t:iu H4 (upd H4 D (.lst (zs++[z]))):=.nP d4
      rw[nK,eb];have n1:cm (ds.take i)=true:=gq.mpr fun d hd=>gq.mp hn d (Aj hd);exact(ay.t t _ n1 (ay.mono mi _ r2)).append (cj (RD.t t _ (gq.mp hn _ (Ra hi)) r4) cQ)
  · rintro σ H2 ⟨s2,⟨zs,d2,r2⟩,v,v',rfl⟩
    refine⟨⟨xs,ys,h1.go s2,h2.go s2,by omega⟩,hq H2 zs s2 d2 ?_⟩;rw[uv]at r2;exact r2
end
theorem LW:∀{ns:List Int}{us:List Value},Vals (ns.map V.int) us->(∀v∈us,∃a t,v=Value.int a t)/\numsOf us=ns
  |[],_,.nil=>⟨fun _ h=>(nomatch h),rfl⟩ |n::ns,_,.cons q r=>by
    obtain⟨t,rfl⟩:=(show∃t,_=Value.int n t from q);obtain⟨h1,h2⟩:=LW r;refine⟨fun v hv=>?_,?_⟩
    · rcases bW.mp hv with rfl|hv
      ·exact⟨n,t,rfl⟩
      ·exact h1 v hv
    · show n::numsOf _=_
      rw[h2]
section
variable {X:Cx}
theorem DH(K:a5w)(hK:X.K=K)(hc:X.calm=true):ek X (.builtin "max") (fun xs H Q=>∃(l:Addr)(ns:List Int),xs=[.ref l]/\aw K H l (ns.map V.int)/\ns≠[]/\∀M,M∈ns->(∀a∈ns,a<=M)->Q (.int M) H):=by
 subst hK;intro pins s σ H xs us Q I r h;obtain⟨l,ns,rfl,hl,cy,q⟩:=h;obtain⟨u,rfl,ru⟩:=vals1 r;cases(show u=Value.ref l from ru);obtain⟨its,rv,pl,hz⟩:=I.list hl;obtain⟨a1,a2⟩:=LW rv;have all:AllInts its.toArray:=fun v hv=>a1 v (by simpa using hv);obtain⟨ps,Me⟩:=all.items;have e0:numsOf (intItems ps).toList=ns:=by rw[<-Me];exact a2
 rw[nums_intItems]at e0;have hlen:ps.size=ns.length:=by rw[<-e0,bS,Gx]
 have Ec:0<ps.size:=by rw[hlen];exact Gk.mpr cy
 refine max_intList (I.ok.hd hc) (by rw[<-Me];exact pl.isList) Ec fun v h' tk hv hk=>?_;obtain⟨t,rfl⟩:=intItems_at hv;obtain⟨h1,h2⟩:=argBest_gt (numAt ps) (ps.size-1);refine⟨.int _,H,I.kept hk,⟨_,rfl⟩,q _ ?_ fun a ha=>?_⟩
 ·rw[numAt_eq,e0];exact getD_mem (by omega)
 · obtain⟨j,hj,rfl⟩:=mem_getD ha
   rw[<-e0,<-numAt_eq];exact h2 j (by omega)
theorem LX{ns:List Int}{us:List Value}(r:Vals (ns.map V.int) us){i:Nat}{v:Value}(h:us[i]? =some v):∃n t,ns[i]? =some n/\v=Value.int n t:=by
 have hl:=r.length;rw[bS]at hl;have hi:i<ns.length:=by rw[hl];exact(dC.mp h).1
 obtain⟨u,e,ru⟩:=r.get (i:=i) (x:=.int ns[i]) (by rw[bU,bO hi];rfl);rw[h]at e;cases e;obtain⟨t,rfl⟩:=(show∃t,v=Value.int ns[i] t from ru);exact⟨_,t,bO hi,rfl⟩
theorem V1(ns:List Int):((List.range ns.length).any fun i=>((ns.map (· !=0))[i]?).getD false)=ns.any (· !=0):=by have:=LSm.range_any (ns.map (· !=0));rw[bS]at this;rw[this,List.any_map];rfl
theorem a3P(K:a5w)(hK:X.K=K)(hc:X.calm=true):ek X (.builtin "any") (fun xs H Q=>∃(l:Addr)(ns:List Int),xs=[.ref l]/\(aw K H l (ns.map V.int)\/aB K H l (ns.map V.int))/\Q (.bl (ns.any (· !=0))) H):=by
 subst hK;intro pins s σ H xs us Q I r h;obtain⟨l,ns,rfl,hl,q⟩:=h;obtain⟨u,rfl,ru⟩:=vals1 r;cases(show u=Value.ref l from ru);have hh:=I.ok.hd hc;have fin:∀(its:List Value),Vals (ns.map V.int) its->((List.range its.toArray.size).any fun i=>((ns.map (· !=0))[i]?).getD false)=ns.any (· !=0):=fun its rv=>by rw[df,<-rv.length,bS];exact V1 ns
 rcases hl with hl|hl
 · obtain⟨its,rv,pl,hz⟩:=I.list hl
   have dw:=pl.isList;have bZ:l<s.heap.objs.size:=by obtain⟨_,e,_⟩:=dw;exact ck e
   refine call_any_walk (A7 dw ?_);refine⟨s.heap.objs.size,[s.heap.objs.size,l],[s.heap.objs.size],its.toArray.size,_,_,fun i=>((ns.map (· !=0))[i]?).getD false,rfl,Walks.list (A:=X.A.in1) hh _ l (eV bZ) its.toArray,⟨⟨_,dU _ rfl,rfl,rfl⟩,dw.push _⟩,fun i v s' Q' E' hP hQ=>?_,fun h' tk hk=>?_⟩
   · obtain⟨n,t,e,rfl⟩:=LX rv (i:=i) (v:=v) (by simpa using hP)
     simp only[bU,e]at hQ;exact truthy_int hQ
   · rw[fin its rv]
     exact⟨.bl _,H,I.kept (LSm.kept_iter hk),rfl,q⟩
 · obtain⟨its,rv,pl,hz⟩:=I.tuple hl
   have dw:s.heap.IsTuple l its.toArray:=by obtain⟨⟨cls,dd,data,sl⟩,ho,kL,n,hd⟩:=pl;exact⟨_,ho,kL,by simpa using⟨n,hd⟩⟩
   have bZ:l<s.heap.objs.size:=by obtain⟨_,e,_⟩:=dw;exact ck e
   refine call_any_walk (wpAny_pyIter_tuple dw ?_);refine⟨s.heap.objs.size,[s.heap.objs.size,l],[s.heap.objs.size],its.toArray.size,_,_,fun i=>((ns.map (· !=0))[i]?).getD false,rfl,Walks.tuple (A:=X.A.in1) hh _ l (eV bZ) its.toArray,⟨⟨_,dU _ rfl,rfl,rfl⟩,dw.push _⟩,fun i v s' Q' E' hP hQ=>?_,fun h' tk hk=>?_⟩
   · obtain⟨n,t,e,rfl⟩:=LX rv (i:=i) (v:=v) (by simpa using hP)
     simp only[bU,e]at hQ;exact truthy_int hQ
   · rw[fin its rv]
     exact⟨.bl _,H,I.kept (LSm.kept_iter hk),rfl,q⟩
end
end L2
set_option maxHeartbeats 1000000
namespace Lw
open PySem PySem.Spec PyProof.Rows L2
def Oz(c m:Int):Prop:=0<=c/\0<=m/\m<2147483648
def j9(H:Hp)(p:Addr):Prop:=∃c m,H p=some (.lst [.int c,.int m])/\Oz c m
structure bL(p:Addr)(H H':Hp):Prop where
 bag:j9 H' p
 same:∀b o,b≠p->H b=some o->H' b=some o
theorem bL.refl{p:Addr}{H:Hp}(h:j9 H p):bL p H H:=⟨h,fun _ _ _ e=>e⟩
theorem bL.trans{p:Addr}{H H1 H2:Hp}(a:bL p H H1)(b:bL p H1 H2):bL p H H2:=⟨b.bag,fun c o n e=>b.same c o n (a.same c o n e)⟩
theorem bL.upd{p:Addr}{H:Hp}{c m:Int}(h:Oz c m):bL p H (L2.upd H p (.lst [.int c,.int m])):=⟨⟨c,m,aO,h⟩,fun b o n e=>by rw[az n];exact e⟩
theorem bL.kG{p:Addr}{H H':Hp}(h:j9 H p)(s:ai H H'):bL p H H':=by obtain⟨c,m,e,ok⟩:=h;exact⟨⟨c,m,s _ _ e,ok⟩,fun b o _ e=>s b o e⟩
theorem GB{j:Int}(h0:0<=j)(h:j<=10^40):Wd j:=by
 have:j.natAbs<=10^40:=by omega
 exact oY this (by decide+kernel)
theorem j9.ne{H:Hp}{p:Addr}(h:j9 H p):H p≠none:=by obtain⟨c,m,e,_⟩:=h;rw[e];exact fun z=>nomatch z
theorem j9.Y9{H:Hp}{p:Addr}{q:Addr}{o:HO}(h:j9 H p)(e:H q=some o)(n:∀xs,o≠ .lst xs):q≠p:=by obtain⟨c,m,e',_⟩:=h;exact vI e e' (n _)
theorem bL.t{p:Addr}{H H':Hp}(bg:j9 H p)(b:bL p H H'):iu H H':=fun c o n e=>b.same c o (bg.Y9 e n) e
theorem bL.rO{p:Addr}{H0 H H':Hp}(s:ai H0 H)(hp:H0 p=none)(b:bL p H H'):ai H0 H':=fun c o e=>b.same c o (fw e hp) (s c o e)
section
variable {K:a5w}
theorem a3j{J:It}{te:TE}{Q:VK}{D p:Addr}{H H0:Hp}(n:Nat)(rest:L2.St)(nw:Nw H H0 D (.lst []))(bg:j9 H p)(hn:n<=1000)(xv:Nat->V) (go:∀i H2,i<n->bL p H H2->J.go i H2/\∀y H3,J.yld i H2 y H3->H3=H2/\y=xv i)(stop:∀H2,bL p H H2->J.stop n H2)(Pz:Int->Prop) (hs:∀i H2 (Q':VK),i<n->bL p H H2->(∀z H3,Pz z->bL p H2 H3->Q' (.int z) H3)->te (some (xv i)::rest) H2 Q') (hq:∀H' (is:List Int),bL p H H'->H' D=some (.lst (is.map V.int))->is.length=n->(∀z∈is,Pz z)->Q (.ref D) H'):iz J (eQ 0) gJ te Q D (none::rest) H0:=by
  have wB:D≠p:=fun e=>bg.ne (e▸nw.no);refine oJ n (fun i σ H3=>bL p H H3/\(∃is:List Int,H3 D=some (.lst (is.map V.int))/\is.length=i/\∀z∈is,Pz z)/\∃v,σ=v::rest) ?_ ?_ ?_
  ·exact⟨.kG bg nw.same,⟨[],nw.at',rfl,fun _ h=>(da h).elim⟩,none,rfl⟩
  · rintro i σ H3 hi ⟨b3,⟨is,d3,li,pi⟩,v,rfl⟩
    obtain⟨g1,g2⟩:=go i H3 hi b3;refine⟨g1,fun y H4 hy=>?_⟩;obtain⟨rfl,rfl⟩:=g2 y H4 hy;refine xF ?_;refine hs i _ _ hi b3 fun z H5 pz b5=>?_;refine⟨_,b5.same _ _ wB d3,?_,n-(i+1),by omega,rfl,by omega,?_,⟨is++[z],?_,?_,?_⟩,_,rfl⟩
    · rw[bS,li]
      have:(1000:Nat)<sizeLine:=by decide
      omega
    · have wR:=b3.trans b5
      refine⟨?_,fun b o n e=>?_⟩
      · obtain⟨c,m,e,ok⟩:=wR.bag
        exact⟨c,m,by rw[az wB.symm];exact e,ok⟩
      ·rw[az (fw e nw.no)];exact wR.same b o n e
    ·rw[aO,m3];rfl
    ·rw[eZ,li];rfl
    · intro y hy
      rcases xt.mp hy with h|h
      ·exact pi y h
      ·rw[cf.mp h];exact pz
  · rintro σ H3 ⟨b3,⟨is,d3,li,pi⟩,v,rfl⟩
    exact⟨stop H3 b3,hq H3 is b3 d3 li pi⟩
theorem Zk(ns:List Int){i:Int}(h0:0<=i)(h:i<ns.length):∃z,z∈ns/\fo (ns.map V.int) i=some (.int z):=by
 have hl:i.toNat<ns.length:=by omega
 exact⟨ns[i.toNat],Ra hl,cM h0 (by rw[bU,bO hl];rfl)⟩
theorem a3g{J:It}{te:TE}{Q:VK}{D p:Addr}{H H0:Hp}(n:Nat)(rest:L2.St)(nw:Nw H H0 D (.lst []))(bg:j9 H p)(hn:n<=1000)(xv:Nat->V) (go:∀i H2,i<n->bL p H H2->J.go i H2/\∀y H3,J.yld i H2 y H3->H3=H2/\y=xv i)(stop:∀H2,bL p H H2->J.stop n H2)(Pd:Nat->a5z->Prop) (hs:∀i H2 (Q':VK),i<n->bL p H H2->(∀y d H3,Pd i d->dP d=true->RD K H3 y d->bL p H2 H3->Q' y H3)->te (some (xv i)::rest) H2 Q') (hq:∀H' ys ds,bL p H H'->H' D=some (.lst ys)->ay K H' ys ds->ds.length=n->cm ds=true->(∀i d,ds[i]? =some d->Pd i d)->Q (.ref D) H'):iz J (eQ 0) gJ te Q D (none::rest) H0:=by
  have wB:D≠p:=fun e=>bg.ne (e▸nw.no);refine oJ n (fun i σ H3=>bL p H H3/\(∃ys ds,H3 D=some (.lst ys)/\ay K H3 ys ds/\ds.length=i/\cm ds=true/\∀j d,ds[j]? =some d->Pd j d)/\∃v,σ=v::rest) ?_ ?_ ?_
  ·exact⟨.kG bg nw.same,⟨[],[],nw.at',cQ,rfl,rfl,fun j d e=>by simp at e⟩,none,rfl⟩
  · rintro i σ H3 hi ⟨b3,⟨ys,ds,d3,r3,li,ni,pi⟩,v,rfl⟩
    obtain⟨g1,g2⟩:=go i H3 hi b3;refine⟨g1,fun y H4 hy=>?_⟩;obtain⟨rfl,rfl⟩:=g2 y H4 hy;refine xF ?_;refine hs i _ _ hi b3 fun z d H5 pz nz rz b5=>?_;have d5:=b5.same _ _ wB d3;have t:iu H5 (L2.upd H5 D (.lst (ys++[z]))):=.nP d5;refine⟨ys,d5,?_,n-(i+1),by omega,rfl,by omega,?_,⟨ys++[z],ds++[d],aO,?_,?_,?_,?_⟩,_,rfl⟩
    · rw[r3.length,li]
      have:(1000:Nat)<sizeLine:=by decide
      omega
    · have wR:=b3.trans b5
      refine⟨?_,fun b o n e=>?_⟩
      · obtain⟨c,m,e,ok⟩:=wR.bag
        exact⟨c,m,by rw[az wB.symm];exact e,ok⟩
      ·rw[az (fw e nw.no)];exact wR.same b o n e
    ·exact(ay.t ((bL.t b3.bag b5).trans t) _ ni r3).append (cj (RD.t t _ nz rz) cQ)
    ·rw[eZ,li];rfl
    ·exact gq.mpr fun x hx=>by
        rcases xt.mp hx with h|h
        ·exact gq.mp ni x h
        ·rw[cf.mp h];exact nz
    · intro j e he
      by_cases hj:j<ds.length
      · rw[uz hj]at he
        exact pi j e he
      · have qw:j=ds.length:=by have:=(dC.mp he).1;rw[eZ]at this;have:j<ds.length+1:=this;omega
        subst qw;rw[xx (bp _),Gd]at he;cases he;rw[li];exact pz
  · rintro σ H3 ⟨b3,⟨ys,ds,d3,r3,li,ni,pi⟩,v,rfl⟩
    exact⟨stop H3 b3,hq H3 ys ds b3 d3 r3 li ni pi⟩
end
end Lw
namespace Ln
open PySem L2
def gG(i:Int):Int:=if i<0 then-i else i
theorem wX(i:Int):gG i=(i.natAbs:Int):=by unfold gG;split<;>omega
def ak(ns:List Int):Nat:=ns.foldr (fun z m=>max z.natAbs m) 0
theorem DT:∀{ns:List Int}{z:Int},z∈ns->z.natAbs<=ak ns
  |n::ns,z,h=>by
    show z.natAbs<=max n.natAbs (ak ns);rcases bW.mp h with rfl|h
    ·exact Nat.le_max_left _ _
    ·exact gH (DT h) (Nat.le_max_right _ _)
theorem DS:∀{ns:List Int},ns≠[]->∃z∈ns,z.natAbs=ak ns
  |[],h=>absurd rfl h |[n],_=>⟨n,.head _,by show n.natAbs=max n.natAbs 0;omega⟩ |n::m::ns,_=>by
    obtain⟨z,hz,e⟩:=DS (ns:=m::ns) (by simp);by_cases h:n.natAbs<=ak (m::ns)
    ·exact⟨z,.tail _ hz,by show _=max n.natAbs (ak (m::ns));omega⟩
    ·exact⟨n,.head _,by show _=max n.natAbs (ak (m::ns));omega⟩
theorem lN{ns:List Int}{m:Nat}(h:∀z∈ns,z.natAbs<=m):ak ns<=m:=by cases ns with |nil=>exact fV _ |cons a r=>obtain⟨z,hz,e⟩:=DS (ns:=a::r) (by simp);rw[<-e];exact h z hz
theorem YQ{ns:List Int}(h:∃z∈ns,z≠0):0<ak ns:=by obtain⟨z,hz,h0⟩:=h;have:=DT hz;omega
theorem DR{ns:List Int}(cy:ns≠[]){M:Int}(h1:M∈ns.map gG)(h2:∀a∈ns.map gG,a<=M):M=(ak ns:Int):=by obtain⟨z,hz,e⟩:=kb.mp h1;obtain⟨y,hy,ey⟩:=DS cy;have a1:=DT hz;have a2:=h2 (gG y) (kb.mpr ⟨y,hy,rfl⟩);rw[wX]at e a2;omega
def jC(p q:Int):Int:=(2*(p.natAbs:Int)+q)/(2*q)
def gr(p q:Int):Int:=if p>=0 then jC p q else-jC p q
structure ug(x p q:Int):Prop where
 lo:-q<=2*(x*q-p)
 hi:2*(x*q-p)<=q
 far:2*(x*q-p)=q\/2*(x*q-p)=-q->p.natAbs<=(x*q).natAbs
theorem Tv{p q:Int}(hq:0<q):2*q*jC p q<=2*(p.natAbs:Int)+q/\2*(p.natAbs:Int)+q<2*q*jC p q+2*q:=by have h:=Int.mul_ediv_add_emod (2*(p.natAbs:Int)+q) (2*q);have h0:=m5 (2*(p.natAbs:Int)+q) (show 2*q≠0 by omega);have h1:=p4 (2*(p.natAbs:Int)+q) (show 0<2*q by omega);unfold jC;constructor<;>omega
theorem Tw{p q:Int}(hq:0<q):0<=jC p q:=Int.ediv_nonneg (by omega) (by omega)
theorem near_is{p q:Int}(hq:0<q):ug (gr p q) p q:=by
 obtain⟨h1,h2⟩:=Tv (p:=p) hq;have h0:=Tw (p:=p) hq;rw[r8,Gu q]at h1 h2;have hs0:0<=jC p q*q:=iS h0 (Gw hq);unfold gr;split
 ·refine⟨?_,?_,fun h=>?_⟩<;>(generalize jC p q*q=s at*;omega)
 ·refine⟨?_,?_,?_⟩<;>rw[Int.neg_mul]<;>(generalize jC p q*q=s at*;omega)
theorem vN{x y q:Int}(hq:0<q)(h:x<y):x*q+q<=y*q:=by have:(x+1)*q<=y*q:=Rj (by omega) (by omega);rw[Int.add_mul,jx]at this;exact this
theorem Y7{x y p q:Int}(hq:0<q)(a:ug x p q)(b:ug y p q):x=y:=by
 have key:∀{x y:Int},ug x p q->ug y p q->¬x<y:=fun{x y} a b h=>by
  have g:=vN hq h;have e1:=a.lo;have e2:=a.hi;have e3:=b.lo;have e4:=b.hi;have f1:=a.far;have f2:=b.far;have hx:x*q=0\/q<=x*q\/x*q<=-q:=by
   rcases Rm x 0 with h|h|h
   ·have:=vN hq h;omega
   ·left;rw[h,xA]
   ·have:=vN hq h;omega
  have hy:y*q=0\/q<=y*q\/y*q<=-q:=by
   rcases Rm y 0 with h|h|h
   ·have:=vN hq h;omega
   ·left;rw[h,xA]
   ·have:=vN hq h;omega
  generalize x*q=u at*;generalize y*q=v at*;have hu:=f1 (by omega);have hv:=f2 (by omega);omega
 rcases Rm x y with h|h|h
 ·exact absurd h (key a b)
 ·exact h
 ·exact absurd h (key b a)
theorem L9{x p q:Int}(hq:0<q)(a:ug x p q):x=gr p q:=Y7 hq a (near_is hq)
theorem DA{q:Int}(hq:0<q):gr 0 q=0:=(L9 hq ⟨by omega,by omega,fun h=>by omega⟩).symm
theorem Y8{n q:Int}(hq:0<q):gr (q*n) q=n:=by refine(L9 hq ⟨?_,?_,?_⟩).symm<;>rw[Gu n q]<;>omega
end Ln
namespace L2
open PySem PySem.Spec PyProof.Rows
abbrev zD(b:Bool)(h:Heap)(l:Addr):Heap:=h.push {cls:=.type (oK b),data:=.fields #[.ref l,.int 0 0]}
abbrev F4(b:Bool)(h:Heap)(l:Addr):Heap:=(zD b h l).push {cls:=.type "enumerate",data:=.fields #[.none,.bool false,.ref h.objs.size,rawInt 0,.none,.none]}
theorem a2z(b:Bool)(l:Addr)(xs:Array Value):Meets (Builtin.«enumerate.__new__» ⟨[.type "enumerate",.ref l],[]⟩) (fun _ R s=>fY b s.heap l xs/\R (.ok (.ret (.ref (zD b s.heap l).objs.size))) {s with heap:=F4 b s.heap l}):=.of_wp fun prog w A R s h=>by
   obtain⟨hp,gg,d,tk,os⟩:=s;obtain⟨hl,h⟩:=h;have ZM:=sub_enumerate;have hL:fY b (Shared.heap ⟨hp,gg,d,tk,os⟩) l xs:=hl
   wp_walk using sP hL;refine wpAny_stack_any fun st=>bT ?_;split
   · rename_i c _ _ _ _ _
     cases(c==Value.type "enumerate")
     · wp_walk using sP hL
       exact⟨_,rfl,h⟩
     · wp_walk using sP hL
       exact⟨_,rfl,h⟩
   · wp_walk using sP hL
     exact⟨_,rfl,h⟩
section
variable {prog:a5y}{w:World}{A:a5A}{E:Value->a5x->Prop}{s:a5x}
theorem a2A{b:Bool}{l:Addr}{xs:Array Value}{Q:Value->a5x->Prop}(hl:fY b s.heap l xs) (q:∀g,IsEnum g (s.heap.objs.size+1) s.heap.objs.size 0 .none->j8 b g s.heap.objs.size l 0->(∀c o,s.heap.get? c=some o->g.get? c=some o)->Q (.ref (s.heap.objs.size+1)) {s with heap:=g}): wpAny (model prog w) A (call (.type "enumerate") [.ref l]) Q E s:=by refine callType_new PySem.F.called_enumerate (by decide) (PySem.F.typeCall_enumerate_1 _) (PySem.F.newCall_enumerate_1 _) (fun obj=>PySem.F.args_object_init_2 obj _) PySem.F.entry_enumerate_new (a2z b l xs) ⟨hl,?_⟩;have z1:(zD b s.heap l).objs.size=s.heap.objs.size+1:=p5 ..;have g2:(F4 b s.heap l).get? (zD b s.heap l).objs.size=some _:=dU _ rfl;have g1:(F4 b s.heap l).get? s.heap.objs.size=some _:=cg _ (dU _ rfl);show _/\_;rw[z1]at g2⊢;refine⟨⟨_,g2,rfl⟩,q _ g2 ?_ fun c o e=>cg _ (cg _ e)⟩;cases b<;>exact⟨_,g1,rfl,rfl⟩
theorem Ng{b:Bool}{it l:Addr}{xs:Array Value}(hh:A.handled=none)(ne:l≠it):Draws prog w A it [it,l] xs.size (fun i x=>xs[i]? =some x) (fun i h=>j8 b h it l i/\fY b h l xs) where
 live:=fun i h st=>by obtain⟨o,e,_⟩:=st.1.ob;exact⟨o,e⟩
 frame:=fun i h h' st k=>⟨st.1.to fun o e=>k it (by simp) o e,st.2.to fun o e=>k l (by simp) o e⟩
 item:=fun i s Q E hi st hQ=>yI st.1 st.2 (x:=xs[i]) (by simp[hi]) fun g gi sb=>hQ _ g s.toks (by simp[hi]) ⟨gi,st.2.to fun o e=>sb.extBut _ _ ne e⟩ sb
 done:=fun s Q E st hE=>F3 hh st.1 st.2 (by simp) fun g e a b=>hE g e a b
end
def xi(K:a5w)(b:Bool)(l:Addr):It:=⟨fun i H=>∃xs x,dy b K H l xs/\xs[i]? =some x,fun i H v H'=>∃T x,v= .ref T/\(∀xs,dy b K H l xs->xs[i]? =some x)/\Nw H H' T (.tup [.int i,x]),fun i H=>∃xs,dy b K H l xs/\xs.length=i⟩
theorem S9{P:a5y}{w:World}{K:a5w}{elts:List Expr}{kt:Nat}{pos:Pos}{b:Bool}{e it l:Addr}(D:e≠it): Turn P w K (.Tuple elts kt pos) (xi K b l) [e,it] e (fun i h=>(∃old,IsEnum h e it i old)/\j8 b h it l i) where
  mem:=by simp
  obj:=fun i h st c hc=>by
   obtain⟨⟨old,he⟩,h1⟩:=st;simp only[bW,da,dB]at hc;rcases hc with rfl|rfl
   ·exact⟨_,he,fun v e=>by cases e⟩
   ·obtain⟨o,e,_,n⟩:=h1.ob;exact⟨o,e,n⟩
  keep:=fun i h h' st k=>by obtain⟨⟨old,he⟩,h1⟩:=st;exact⟨⟨old,k e (by simp) _ he⟩,h1.to fun o q=>k it (by simp) o q⟩
  item:=by
   intro X hP hw hK hc i pins s σ H E I hf st hg;subst hP hw hK;obtain⟨xs,x,q1,e1⟩:=hg;obtain⟨its,r1,p1⟩:=q1.get I;obtain⟨u1,bu,jE⟩:=r1.get e1;obtain⟨⟨old,he⟩,h1⟩:=st;obtain⟨oi,jM,ci,_⟩:=h1.ob;have DV:∃o,s.heap.get? l=some o/\(o.cls= .type "list"\/o.cls= .type "tuple"):=by cases b<;>(obtain⟨o,ho,cc,_⟩:=p1;first|exact⟨o,ho,.inl cc⟩|exact⟨o,ho,.inr cc⟩)
   obtain⟨ol,qk,cl⟩:=DV;have Y6:e≠l:=fun z=>by subst z;rw[he]at qk;cases qk;rcases cl with h|h<;>simp at h
   have nil:l≠it:=fun z=>by subst z;rw[jM]at qk;cases qk;rw[ci]at cl;cases b<;>(rcases cl with h|h<;>simp[oK]at h)
   have bZ:i<its.toArray.size:=by rw[df,<-r1.length];exact(dC.mp e1).1
   refine wpAny_pyNext_enum_itemD (Ng (I.ok.hd hc) nil) he ⟨h1,p1⟩ bZ D (by simp[D,Y6]) fun y h' tk hPy ho kJ hT hsz kp=>⟨_,rfl,?_⟩;have ey:y=u1:=by
    have a1:its.toArray[i]? =some y:=hPy;have a2:its.toArray[i]? =some u1:=by simpa using bu
    rw[a1]at a2;exact eG a2
   subst ey;refine wpAny_letOwnedTupleGo_enum ho fun g' Er sb=>?_;have hs:=sb.extBut;have elt:e<s.heap.objs.size:=ck he;have Zo:it<s.heap.objs.size:=ck jM;have nw:Nw H (upd H s.heap.objs.size (.tup [.int i,x])) s.heap.objs.size (.tup [.int i,x]):=.of (I.hok.fresh (bp _));have I1:Inv X pins σ (upd H s.heap.objs.size (.tup [.int i,x])) {s with heap:=s.heap.push {cls:=.type "tuple",data:=.seq #[.int i tk,y]},toks:=tk+1}:=I.laid (t':=tk+1) (fun b ob q=>cg _ q) (bp _) ⟨by show 2<=sizeLine;decide,[.int i tk,y],.cons ⟨tk,rfl⟩ (.cons jE .nil),⟨_,dU _ rfl,rfl,_,rfl⟩⟩;have yR:∀c∈[e,it],c<s.heap.objs.size:=fun c hc=>by
    simp only[bW,da,dB]at hc;rcases hc with rfl|rfl
    ·exact elt
    ·exact Zo
   have hn:∀c∈[e,it],upd H s.heap.objs.size (.tup [.int i,x]) c=none:=fun c hc=>by rw[az (eV (yR c hc))];exact(hf c hc).1
   have I2:Inv X pins σ (upd H s.heap.objs.size (.tup [.int i,x])) {s with heap:=g',toks:=tk+1}:=Inv.uI (s:={s with heap:=s.heap.push {cls:=.type "tuple",data:=.seq #[.int i tk,y]},toks:=tk+1}) (t':=tk+1) (fp:=[e,it]) I1 (fun c o hc q=>by
    have q:(s.heap.push {cls:=.type "tuple",data:=.seq #[.int i tk,y]}).get? c=some o:=q;have nz:c≠e:=fun z=>hc (by simp[z]);rcases Heap.get?_push_cases q with⟨Ey,rfl⟩|q'
    · subst Ey
      exact hs _ _ nz hT
    ·exact hs _ _ nz (kp c o nz (fun z=>hc (by simp[z])) q')) (fun c hc=>by obtain⟨f0,f1,f2,f3,f4,f5⟩:=hf c hc;exact⟨hn c hc,f1,f2,f3,f4,f5⟩);refine⟨.ref s.heap.objs.size,_,I2,rfl,⟨s.heap.objs.size,x,rfl,fun zs hz=>?_,nw⟩,⟨⟨_,by simpa using Er⟩,kJ.1.to fun o q=>hs _ o (cC D) q⟩,hn⟩;rw[dy.inj I hz q1];exact e1
  done:=by
   intro X hP hw hK hc i pins s σ H E I hf st hg;subst hP hw hK;obtain⟨xs,q1,mQ⟩:=hg;obtain⟨its,r1,p1⟩:=q1.get I;obtain⟨⟨old,he⟩,h1⟩:=st;obtain⟨oi,jM,ci,_⟩:=h1.ob;have DV:∃o,s.heap.get? l=some o/\(o.cls= .type "list"\/o.cls= .type "tuple"):=by cases b<;>(obtain⟨o,ho,cc,_⟩:=p1;first|exact⟨o,ho,.inl cc⟩|exact⟨o,ho,.inr cc⟩)
   obtain⟨ol,qk,cl⟩:=DV;have nil:l≠it:=fun z=>by subst z;rw[jM]at qk;cases qk;rw[ci]at cl;cases b<;>(rcases cl with h|h<;>simp[oK]at h)
   have hi:i=its.toArray.size:=by rw[df,<-r1.length];exact mQ.symm
   subst hi;refine wpAny_pyNext_enum_endD (Ng (I.ok.hd hc) nil) he ⟨h1,p1⟩ fun h' kp=>⟨rfl,?_⟩;exact I.uI (t':=s.toks) (fp:=[e,it]) (fun c o hc q=>kp c o (fun z=>hc (by simp[z])) q) hf
  self:=fun _ _ _ _ _ st h=>by obtain⟨⟨old,he⟩,_⟩:=st;exact wpAny_pyIter_enum he h
inductive QE(K:a5w)(b:Bool)(R:It->Hp->Prop)(vs:List V)(H1:Hp):Prop |mk (l:_)(h0:vs=[.ref l])(h1:(∃xs,dy b K H1 l xs))(h2:R (xi K b l) H1):QE K b R vs H1
def Zz(K:a5w)(b:Bool)(ta:TA):TI:=fun σ H R=>ta σ H fun vs H1=>QE K b R vs H1
theorem VD(K:a5w){X:Cx}(hK:X.K=K)(b:Bool){elts:List Expr}{kt:Nat}{pA:Pos}{a:Expr}{ta:TA}{p pos:Pos}(hg:Gl X "enumerate")(hm:X.mg "enumerate"=none)(ha:PA X [a] ta)(hs:starEach [a] X.env=[(false,eval a X.env)]:=by rfl)(ir:starEach [] X.env=[]:=by rfl): PI X (.Tuple elts kt pA) (.Call (.Name "enumerate" p) [a] [] pos) (Zz K b ta):=by
  subst hK;intro pins s σ H R I h;refine Call_ (mD I hg hm PyProof.Rows.boot_enumerate (uu (aI (ha pos pins s σ H _ I h) fun us s1 ⟨vs,H1,I1,r1,q1⟩=>?_) (by rw[hs,ir]) (by rw[ir];rfl)));obtain⟨l,e,⟨xs,h1⟩,q⟩:=q1;subst e;obtain⟨u1,rfl,jE⟩:=vals1 r1;cases(show u1=Value.ref l from jE);obtain⟨E1,v1,p1⟩:=h1.get I1;refine a2A p1 fun g zg ig kp=>wpAny_pyIter_enum zg ?_;refine⟨_,_,_,_,H1,rfl,I1.kept (t':=s1.toks) kp,S9 (Ge (QY _)),⟨⟨_,zg⟩,ig⟩,fun c hc=>?_,q⟩;have hle:s1.heap.objs.size<=c:=by simp only[bW,da,dB]at hc;rcases hc with rfl|rfl<;>first|exact bp _|exact Nat.le_add_right _ _
  exact I1.mU hle (I1.hok.fresh hle)
theorem a26{K:a5w}{b:Bool}{a:Addr}{xs:List V}{g:TG}{tb:TS}{D:Ends}{σ:St}{H:Hp}(Pv:Nat->St->Hp->Prop)(h0:Pv 0 σ H)(hl:∀i σ H,i<=xs.length->Pv i σ H->dy b K H a xs) (hs:∀i x σ H,xs[i]? =some x->Pv i σ H->∀T H',Nw H H' T (.tup [.int i,x])->g (.ref T) σ H' fun σ2 H2=>tb {D with nx:=Pv (i+1),ct:=Pv (i+1),bk:=D.nx} σ2 H2)(hd:∀σ H,Pv xs.length σ H->D.nx σ H): ∃W:Nat->Nat->St->Hp->Prop,(∃m,W 0 m σ H)/\∀i m σ H,W i m σ H->((xi K b a).stop i H/\D.nx σ H)\/((xi K b a).go i H/\∃N:St->Hp->Prop,(∀σ' H',N σ' H'->∃m',m'<m/\W (i+1) m' σ' H')/\∀x H',(xi K b a).yld i H x H'->g x σ H' fun σ2 H2=>tb {D with nx:=N,ct:=N,bk:=D.nx} σ2 H2):=by
  refine⟨fun i m σ H=>m=xs.length-i/\i<=xs.length/\Pv i σ H,⟨xs.length,by simp,fV _,h0⟩,?_⟩;rintro i m σ H ⟨rfl,hi,p⟩;have q:=hl i σ H hi p;by_cases bZ:i<xs.length
  · refine .inr ⟨⟨xs,xs[i],q,by simp[bZ]⟩,Pv (i+1),fun σ' H' p'=>⟨xs.length-(i+1),by omega,rfl,bZ,p'⟩,fun x H' y=>?_⟩
    obtain⟨T,z,rfl,ez,nw⟩:=y;exact hs i z σ H (ez xs q) p T H' nw
  · have e:i=xs.length:=by omega
    subst e;exact .inl ⟨⟨xs,q,rfl⟩,hd σ H p⟩
theorem a23{K:a5w}{b1 b2:Bool}{a1 a2:Addr}{xs ys:List V}{g:TG}{tb:TS}{D:Ends}{σ:St}{H:Hp}(n:Nat)(hn:n=min xs.length ys.length)(Pv:Nat->St->Hp->Prop)(h0:Pv 0 σ H)(hl:∀i σ H,i<=n->Pv i σ H->dy b1 K H a1 xs/\dy b2 K H a2 ys) (hs:∀i x y σ H,xs[i]? =some x->ys[i]? =some y->Pv i σ H->∀T H',Nw H H' T (.tup [x,y])->g (.ref T) σ H' fun σ2 H2=>tb {D with nx:=Pv (i+1),ct:=Pv (i+1),bk:=D.nx} σ2 H2)(hd:∀σ H,Pv n σ H->D.nx σ H): ∃W:Nat->Nat->St->Hp->Prop,(∃m,W 0 m σ H)/\∀i m σ H,W i m σ H->((kS K b1 b2 a1 a2).stop i H/\D.nx σ H)\/((kS K b1 b2 a1 a2).go i H/\∃N:St->Hp->Prop,(∀σ' H',N σ' H'->∃m',m'<m/\W (i+1) m' σ' H')/\∀x H',(kS K b1 b2 a1 a2).yld i H x H'->g x σ H' fun σ2 H2=>tb {D with nx:=N,ct:=N,bk:=D.nx} σ2 H2):=by
  refine⟨fun i m σ H=>m=n-i/\i<=n/\Pv i σ H,⟨n,by simp,fV _,h0⟩,?_⟩;rintro i m σ H ⟨rfl,hi,p⟩;obtain⟨q1,q2⟩:=hl i σ H hi p;by_cases bZ:i<n
  · have l1:i<xs.length:=by omega
    have l2:i<ys.length:=by omega
    refine .inr ⟨⟨xs,ys,xs[i],ys[i],q1,q2,by simp[l1],by simp[l2]⟩,Pv (i+1),fun σ' H' p'=>⟨n-(i+1),by omega,rfl,bZ,p'⟩,fun x H' y=>?_⟩;obtain⟨T,z1,z2,rfl,e1,e2,nw⟩:=y;exact hs i z1 z2 σ H (e1 xs q1) (e2 ys q2) p T H' nw
  · have e:i=n:=by omega
    subst e;exact .inl ⟨⟨xs,ys,q1,q2,by omega⟩,hd σ H p⟩
section
variable {X:Cx}
theorem VP(K:a5w)(h:X.K=K){o:Expr}{to:TE}{apos cW:Pos}(ho:PE X o to)(jQ:attributeBase o "clear" X.env (eval o X.env)=eval o X.env:=by rfl)(jN:(apos.endLine==cW.line)=true:=by rfl): PE X (.Call (.Attribute o "clear" apos) [] [] cW) (AF K "list" Ki to):=by subst h;exact Kw Ag PySem.F.slot_list_clear PySem.F.type_list_clear Yk ho jQ jN
theorem VN(K:a5w)(h:X.K=K){o:Expr}{to:TE}{apos cW:Pos}(ho:PE X o to)(jQ:attributeBase o "reverse" X.env (eval o X.env)=eval o X.env:=by rfl)(jN:(apos.endLine==cW.line)=true:=by rfl): PE X (.Call (.Attribute o "reverse" apos) [] [] cW) (AF K "list" Kb to):=by subst h;exact Kw Ag PySem.F.slot_list_reverse PySem.F.type_list_reverse Yh ho jQ jN
theorem Kx(K:a5w)(h:X.K=K){o e:Expr}{to:TE}{t:TA}{apos cW:Pos}(ho:PE X o to)(ha:PA X [e] t) (jQ:attributeBase o "pop" X.env (eval o X.env)=eval o X.env:=by rfl) (qy:((backTo cW (starEach [e] X.env)).all (fun x=>!x.1)&&(backToKw cW (keywordEach [] X.env)).all (fun x=>x.1.isSome) &&decide ([e].length+([]:List Keyword).length+(if([]:List Keyword).isEmpty then 0 else 1)<30))=true:=by rfl) (jN:(apos.endLine==cW.line)=true:=by rfl)(hs:starEach [e] X.env=(false,eval e X.env)::starEach [] X.env:=by rfl)(qi:(backTo cW (starEach [] X.env)).any (·.1)=false:=by rfl): PE X (.Call (.Attribute o "pop" apos) [e] [] cW) (xT K "list" Kc to t):=by subst h;exact Dk Ag PySem.F.slot_list_pop PySem.F.type_list_pop Yi ho ha jQ qy jN hs qi
end
end L2
namespace L2
open PySem PySem.Spec PyProof.Rows
set_option maxHeartbeats 1000000 in
theorem Df{X:Cx}{N:List Str}{js:List (Option Nat)}{elt tg iter:Expr}{ifs:List Expr}{scope:Scope}{pos:Pos}{wi:TI}{g:TG}{tt:TT}{te:TE}{i0:Nat}{x0:Str}{rX Ht:Pos}(hNd:X.N.Nodup)(hix:X.N[i0]? =some x0)(E6:Loc X.env.scope x0)(hc:X.calm=true)(hN:zN X N js scope=true)(hS:u7 X scope=true) (hi:PI X tg iter wi)(hg:∀cl s H fp pins,PG (fg X N scope cl s H fp pins) tg g)(ht:∀cl s H fp pins,FP (fg X N scope cl s H fp pins) ifs tt)(he:∀cl s H fp pins,PE (fg X N scope cl s H fp pins) elt te) (ZL:swapsWith (.ListComp elt [⟨tg,iter,ifs,0⟩] scope pos) (some (.Name x0 rX)) Ht.line X.env=pure true:=by rfl)(hf0:X.fn x0=true\/X.env.scope.names.lookup x0=some .local:=by first|exact .inl rfl|exact .inr rfl) (hs:∀x,foldedSetIterable iter X.env x=pure x:=by intro _;rfl):PS X (.Assign [.Name x0 rX] (.ListComp elt [⟨tg,iter,ifs,0⟩] scope pos) Ht) (AG (Hh js wi g tt te) (eQ i0)):=by
  intro pins s σ H D0 I h;have qB:=hS;unfold u7 at qB;rw[fh,fh]at qB;obtain⟨⟨k1,k2⟩,k3⟩:=qB;have mL:scope.kind= .function:=fT.mp k1;have tJ:∀x∈scope.names,x.2= .free->∃c,X.env.cells.lookup x.1=some c:=fun x hx e=>by have:=jc.mp k3 x hx;rw[e]at this;exact I.ok.has x.1 (.inl (fT.mp this))
  have ow:∀x∈scope.names,x.2≠ .cell:=fun x hx e=>by have:=jc.mp k3 x hx;rw[e]at this;exact jz this
  have Eh:∀x∈scope.names,x.2= .local->scope.names.lookup x.1=some .local:=fun x hx e=>by have:=jc.mp k3 x hx;rw[e]at this;exact fT.mp this
  obtain⟨cl,Et,c1,c2⟩:=NR tJ;rw[exec_Assign_Name_used _ _ _ _ ZL];refine aF (wpAny_standAt (aF ?_));show wpAny _ X.A (do let _<-comprehension (.ListComp elt [⟨tg,iter,ifs,0⟩] scope pos) scope X.env _ (newList []) false (eval iter X.env) (some (assign (.Name x0 rX) X.env))) _ _ s;refine aF (kB (wpAny_comprehension_free (use:=some (assign (.Name x0 rX) X.env)) (Q:=fun _ s'=>SP X pins D0 .next s') rfl hs Et mL Eh (aI (hi pins s σ H _ I h) fun v s1 h1=>aI h1 fun zc s2 h2=>?_)) (fun _ s' hq=>bT (bT hq)) fun _ _ e=>e);obtain⟨it,fp,tn,J,H2,e,I2,T,pF,f2,h2⟩:=h2;subst e;have hD:H2 s2.heap.objs.size=none:=I2.hok.fresh (bp _);obtain⟨W,⟨m0,w0⟩,turn⟩:=h2 _ _ (Nw.of hD);refine oT (wpAny_newFunctionEnv ow (by intro y hy;simp at hy) (fun h₁ wq wg=>?_) mL);have qG:∀b∈fp,b<s2.heap.objs.size:=fun b hb=>by obtain⟨o,e,_⟩:=T.obj _ _ pF b hb;exact ck e
  have I3:Inv X pins σ (upd H2 s2.heap.objs.size (.lst [])) {s2 with heap:=s2.heap.push {cls:=.type "list",dict:=none,data:=.seq ([]:List Value).toArray}}:=I2.LA (its:=[]) (t':=s2.toks) .nil (fV _);generalize wA:s2.heap.push {cls:=.type "list",dict:=none,data:=.seq ([]:List Value).toArray}=h3 at I3 wq wg;have uK:h3.objs.size=s2.heap.objs.size+1:=by rw[<-wA,p5]
  have DZ:∀b o,s2.heap.get? b=some o->h3.get? b=some o:=fun b o e=>by rw[<-wA];exact cg _ e
  have f3:∀b∈fp,jY X pins (upd H2 s2.heap.objs.size (.lst [])) b:=fun b hb=>⟨by rw[az (eV (qG b hb))];exact(f2 b hb).1,(f2 b hb).2⟩;have vW:∀b o,h3.get? b=some o->h₁.get? b=some o:=fun b o e=>(wg.2 b (eV (ck e))).trans (cg _ e);have I4:Inv (fg X N scope cl {s2 with heap:=h3} (upd H2 s2.heap.objs.size (.lst [])) fp pins) [] (stC js σ) (upd H2 s2.heap.objs.size (.lst [])) {s2 with heap:=h₁,toks:=s2.toks+([]:List (Str×Value)).length}:=I3.comp (s:={s2 with heap:=h3}) hN hS c1 c2 f3 (fun b hb=>by show b<h3.objs.size;rw[uK];exact Gg (qG b hb)) (by simpa using wq) vW;have uL:tn 0 h₁:=T.keep _ _ _ pF fun b _ o e=>vW b o (DZ b o e);have loop:codeAny (model X.prog X.w) X.A (.compLoop (.ListComp elt [⟨tg,iter,ifs,0⟩] scope pos) 0 (.ref it) (.ref s2.heap.objs.size) (compEnvC scope cl h3.objs.size X.env)) (compPost (model X.prog X.w) X.A X.xe (some (assign (.Name x0 rX) X.env)) (fun _ s'=>SP X pins D0 .next s') (.ref s2.heap.objs.size) h3.objs.size) {s2 with heap:=h₁,toks:=s2.toks+([]:List (Str×Value)).length}:=by
    refine NQ (fun n s'=>∃i σ' H',Inv (fg X N scope cl {s2 with heap:=h3} (upd H2 s2.heap.objs.size (.lst [])) fp pins) [] σ' H' s'/\tn i s'.heap/\(∀b∈fp,H' b=none)/\W i n σ' H') ?_ m0 ⟨0,_,_,I4,uL,fun b hb=>(f3 b hb).1,w0⟩;rintro n s5 ⟨i,σ5,H5,I5,me,qF,w5⟩;have kC:∀{H':Hp},(∀b∈fp,H' b=none)->∀b∈fp,jY (fg X N scope cl {s2 with heap:=h3} (upd H2 s2.heap.objs.size (.lst [])) fp pins) [] H' b:=fun{H'} hn b hb=>by
     obtain⟨_,q1,q2,q3,q4,q5⟩:=f3 b hb;refine⟨hn b hb,fun z=>?_,I4.ok.exfs b hb,.inl hb,fun x c e=>q4 x c (c1 x c e),fun p hp=>q5 p (by simpa[fg]using hp)⟩;have bZ:b<h3.objs.size:=by rw[uK];exact Gg (qG b hb)
     exact eV bZ z
    rcases turn i n σ5 H5 w5 with⟨stop,qn⟩|⟨go,step⟩
    · refine aI (T.done (fg X N scope cl {s2 with heap:=h3} (upd H2 s2.heap.objs.size (.lst [])) fp pins) rfl rfl rfl hc i [] s5 σ5 H5 _ I5 (kC qF) me stop) fun r s6 ⟨hr,I6⟩=>?_
      subst hr;obtain⟨m,hm,_⟩:=I6.loc;have u0:Un (jq X.stack) fp (upd H2 s2.heap.objs.size (.lst [])) H5 h3 s6.heap:=I6.base;have I7:Inv X pins σ H5 s6:=I3.NY (s':=s6) (ch:=fp) I6.os u0 I6.hok I6.bare fun b hb=>⟨(f3 b hb).2.2.2.1,(f3 b hb).2.1,(f3 b hb).2.2.2.2.1,(f3 b hb).2.2.2.2.2⟩;have hC:jY X pins H5 h3.objs.size:=I3.mU (bp _) I6.free;show wpAny _ X.A (assign (.Name x0 rX) X.env (.ref s2.heap.objs.size)) _ _ s6;refine wpAny_assign_Name (Hl I7 hNd hix E6 (show RelV (.ref s2.heap.objs.size) (.ref s2.heap.objs.size)from rfl) (fun s8 I8 ZR=>?_) hf0);obtain⟨a,sb,ha⟩:=ZR;have hCa:h3.objs.size≠a:=by
       rcases ha with rfl|ha
       ·exact hC.2.1
       ·exact fun z=>hC.2.2.2.2.1 x0 a ha z.symm
      refine⟨m,hm.sameBut sb hCa,fun h9 ZS=>⟨_,H5,?_,qn⟩⟩;exact I8.uI (t':=s8.toks) (fp:=[h3.objs.size]) (fun b o hb e=>ZS.extBut b o (fun z=>hb (by simp[z])) e) fun b hb=>by rw[cf.mp hb];exact hC
    · refine aI (T.item (fg X N scope cl {s2 with heap:=h3} (upd H2 s2.heap.objs.size (.lst [])) fp pins) rfl rfl rfl hc i [] s5 σ5 H5 _ I5 (kC qF) me go) fun r s6 ⟨u,hr,h6⟩=>?_
      subst hr;refine aI h6 fun _ s7 ⟨x,H7,I7,r7,y7,md,EH⟩=>?_;have FV:=I7.pinned (kC EH) (T.obj _ _ md);refine aI (hg _ _ _ _ _ _ s7 σ5 H7 x u _ FV r7 (step x H7 y7)) fun _ s8 ⟨σ8,H8,I8,q8⟩=>?_;refine aI (ht _ _ _ _ _ _ s8 σ8 H8 _ I8 q8) fun ok s9 ⟨H9,I9,q9⟩=>?_;have again:∀{s':a5x}{σ7:St}{H7:Hp},Inv (fg X N scope cl {s2 with heap:=h3} (upd H2 s2.heap.objs.size (.lst [])) fp pins) ([]++sf fp s7.heap) σ7 H7 s'->(∃m',m'<n/\W (i+1) m' σ7 H7)->∃m,m<n/\∃i σ' H',Inv (fg X N scope cl {s2 with heap:=h3} (upd H2 s2.heap.objs.size (.lst [])) fp pins) [] σ' H' s'/\tn i s'.heap/\(∀b∈fp,H' b=none)/\W i m σ' H':=fun{s' σ7 H7} J7 n7=>by obtain⟨m',hm,w7⟩:=n7;refine⟨m',hm,i+1,σ7,H7,J7.uE,T.keep _ _ _ md fun b hb o e=>(J7.pin (b,o) (kf _ (kf _ (sS hb e)))).1,fun b hb=>?_,w7⟩;obtain⟨o,e,d⟩:=T.obj _ _ md b hb;exact(J7.pin (b,o) (kf _ (kf _ (sS hb e)))).2.1
      cases ok with |false=>rw[aV jz]at q9⊢;exact again I9 q9 |true=>rw[aP rfl]at q9⊢;refine aI (he _ _ _ _ _ _ s9 σ8 H9 _ I9 q9) fun yv gC ⟨y,eR,FX,D8,ys,mH,hz,jA⟩=>?_;refine aI (DF _ gC σ8 eR (.ref s2.heap.objs.size) [y] (.ref s2.heap.objs.size) [yv] (fun _ fE=>∃m',m'<n/\W (i+1) m' σ8 fE) FX rfl (.cons D8 .nil) ⟨_,ys,y,rfl,rfl,mH,hz,jA⟩) fun _ pM ⟨v11,fE,FW,Vd,vi⟩=>?_;exact again FW vi
  exact codeAny_compStart_list loop (T.self _ 0 _ _ _ uL loop)
section
variable {X:Cx}
end
end L2
namespace L2
open PySem PySem.Spec PyProof.Rows
section
variable {X:Cx}{pins:List (Addr×Obj)}{σ:St}{H:Hp}{s:a5x}
end
end L2
namespace L2
open PySem PySem.Spec PyProof.Rows
section
variable {X:Cx}
theorem a3p:ek X (.type "range") (fun xs H Q=>∃n,xs=[.int n]/\∀p H',Nw H H' p (.rV 0 n)->Q (.ref p) H'):=by intro pins s σ H xs us Q I r h;obtain⟨n,rfl,q⟩:=h;obtain⟨u,rfl,t,rfl⟩:=vals1 r;refine call_range_1 ?_;have hf:H s.heap.objs.size=none:=I.hok.fresh (bp _);refine⟨.ref s.heap.objs.size,upd H s.heap.objs.size (.rV 0 n),I.laid (t':=s.toks+1+1) (fun b u e=>cg _ e) (bp _) ?_,rfl,q _ _ (.of hf)⟩;exact⟨_,_,_,dU _ rfl⟩
end
end L2
namespace L2
open PySem PySem.Spec PyProof.Rows
theorem SW:isSubtype (.type "range_iterator") (.type "reversed")=pure false:=by rw[isSubtype_type];kernel_rfl
section
variable {prog:a5y}{w:World}{A:a5A}{E:Value->a5x->Prop}{s:a5x}
abbrev vf(n:Nat):Obj:={cls:=.type "range_iterator",data:=.fields #[rawInt (0+((n:Int)-1)*1),rawInt (n:Int),rawInt (-1)]}
abbrev CI(n:Nat):Bool:=Builtin.Range.rangeFitsLong 0&&Builtin.Range.rangeFitsLong n&&Builtin.Range.rangeFitsLong 1&&Builtin.Range.rangeFitsLong (-1)&&Builtin.Range.rangeFitsLong (0-1)&&Builtin.Range.rangeFitsLong (Builtin.Range.rangeSize 0 n 1)
theorem JW{n:Nat}(h:n<2^62):CI n=true:=by unfold CI;rw[rangeSize_one];simp only[Builtin.Range.rangeFitsLong,fh,G3];split<;>omega
theorem UM(r:Addr)(a b c:Int)(t u v:Tok)(hc0:¬(!(Builtin.Range.rangeFitsLong a&&Builtin.Range.rangeFitsLong b&&Builtin.Range.rangeFitsLong c&&Builtin.Range.rangeFitsLong (-c)&&Builtin.Range.rangeFitsLong (a-c)&&Builtin.Range.rangeFitsLong (Builtin.Range.rangeSize a b c)))=true):Meets (Builtin.«range.__reversed__» ⟨[.ref r],[]⟩) (fun _ R s=>s.heap.get? r=some {cls:=.type "range",dict:=none,data:=.fields #[.int a t,.int b u,.int c v],slots:=#[]}/\R (.ok (.ret (.ref s.heap.objs.size))) {s with heap:=s.heap.push {cls:=.type (if(Builtin.Range.rangeFitsLong a&&Builtin.Range.rangeFitsLong b&&Builtin.Range.rangeFitsLong c&&Builtin.Range.rangeFitsLong (-c)&&Builtin.Range.rangeFitsLong (a-c)&&Builtin.Range.rangeFitsLong (Builtin.Range.rangeSize a b c))=true then "range_iterator" else "longrange_iterator"),data:=.fields #[rawInt (a+(Builtin.Range.rangeSize a b c-1)*c),rawInt (Builtin.Range.rangeSize a b c),rawInt (-c)]},toks:=s.toks}):=.of_wp fun prog w A R s h=>by
   obtain⟨hp,g,d,tk,os⟩:=s;obtain⟨hl,h⟩:=h
   wp_walk;exact⟨_,rfl,h⟩
theorem a3n{l:Addr}{n:Nat}{t u v:Tok}{Q:Value->a5x->Prop}(hn:n<2^62)(hl:s.heap.get? l=some {cls:=.type "range",data:=.fields #[.int 0 t,.int n u,.int 1 v]}) (h:Q (.ref s.heap.objs.size) {s with heap:=s.heap.push (vf n)}):wpAny (model prog w) A (call (.builtin "range.__reversed__") [.ref l]) Q E s:=by
  have hT:s.TypeIs (.ref l) "range":=⟨_,hl,rfl⟩;refine xo Rp hT F.entry_range_reversed (F.args_range_reversed_1 _) (UM l 0 n 1 t u v (by have:=JW hn;unfold CI at this;rw[this];decide)) ⟨hl,?_⟩;rw[aP (JW hn)];have e:Builtin.Range.rangeSize 0 n 1=n:=by rw[rangeSize_one];split<;>omega
  rw[e];exact h
theorem a3k{l:Addr}{n:Nat}{t u v:Tok}{Q₁:Value->a5x->Prop}(hn:n<2^62)(hl:s.heap.get? l=some {cls:=.type "range",data:=.fields #[.int 0 t,.int n u,.int 1 v]}) (h:Q₁ (.ref s.heap.objs.size) {s with heap:=s.heap.push (vf n)}): codeAny (model prog w) A (.call (.builtin "reversed.__new__") ⟨[.type "reversed",.ref l],[]⟩) (wants Q₁ E) s:=by
  have hT:s.TypeIs (.ref l) "range":=⟨_,hl,rfl⟩;refine codeAny_of_tree ?_;show wpAny _ A.in1 (do checkBuiltinCall "reversed.__new__" ⟨[.type "reversed",.ref l],[]⟩;again (.builtin "reversed.__new__" ⟨[.type "reversed",.ref l],[]⟩)) _ _ s;refine aF (xn (F.newCall_reversed_1 _) (bT ⟨plainId_quiet F.plain_reversed_new _,codeAny_builtin F.entry_reversed_new ?_⟩));rw[Around.under_plainId F.plain_reversed_new _];unfold Builtin.«reversed.__new__»;refine aF (xn (newClass_reversed _) ?_)
  try dsimp only
  refine aF (xn (a:=()) (by first|rfl|kernel_rfl) ?_);refine aF (xn (a:=()) (by first|rfl|kernel_rfl) ?_)
  try dsimp only
  refine aF (wpAny_specialOf hT Rp.lookup ?_)
  try dsimp only
  refine aF (xn (Rp.bind _) ?_)
  try dsimp only
  first |rw[aV (show¬((Value.builtin "range.__reversed__"==Value.none)=true)from jz)] |(show wpAny _ _ (if(Value.builtin "range.__reversed__"==Value.none)=true then _ else _) _ _ _;rw[aV (show¬((Value.builtin "range.__reversed__"==Value.none)=true)from jz)])
  refine aF (wpAny_rule ?_);refine aF (m:=runValue (.call (.builtin "range.__reversed__") ⟨[.ref l],[]⟩)) (show wpAny _ _ (call (.builtin "range.__reversed__") [.ref l]) _ _ _ from a3n hn hl ?_)
  first |exact bT h |exact aF (bT (bT h))
theorem a3o{l:Addr}{n:Nat}{t u v:Tok}{Q:Value->a5x->Prop}(hn:n<2^62)(hl:s.heap.get? l=some {cls:=.type "range",data:=.fields #[.int 0 t,.int n u,.int 1 v]}) (h:Q (.ref s.heap.objs.size) {s with heap:=s.heap.push (vf n)}):wpAny (model prog w) A (call (.type "reversed") [.ref l]) Q E s:=by refine callType_other (U:="range_iterator") (Q₁:=fun obj s₁=>obj= .ref s.heap.objs.size/\s₁={s with heap:=s.heap.push (vf n)}) (by decide+kernel) F.create_reversed ⟨_,_,F.mro_reversed⟩ F.made_reversed SW (F.typeCall_reversed_1 _) (a3k hn hl ⟨rfl,rfl⟩) ?_;rintro obj s₁ ⟨rfl,rfl⟩;exact⟨⟨_,dU _ rfl,rfl⟩,h⟩
end
def xh(n:Nat):It:=⟨fun i _=>i<n,fun i H x H'=>H'=H/\x= .int ((n:Int)-1-i),fun i _=>n<=i⟩
theorem S6{P:a5y}{w:World}{K:a5w}{tg:Expr}(it:Addr)(n:Nat):Turn P w K tg (xh n) [it] it (fun i h=>IsRangeIter h it ((0+((n:Int)-1)*1)+(i:Nat)*(-1)) ((n:Int)-(i:Nat)) (-1)) where
 mem:=by simp
 obj:=fun i h st b hb=>by
  have e:b=it:=by simpa using hb
  subst e;exact⟨_,st,fun v z=>by have z':Data.fields _=Data.cell v:=z;cases z'⟩
 keep:=fun i h h' st k=>k it (by simp) _ st
 item:=by
  intro X hP hw hK hc i pins s σ H E I hf st hg;subst hP hw hK;obtain⟨f0,f1,f2,f3,f4,f5⟩:=hf it (by simp);have W:=Walks.range (prog:=X.prog) (w:=X.w) (I.ok.hd hc) it (0+((n:Int)-1)*1) (-1) n;refine W.item i s _ _ hg st fun v h' tk hv gK kk=>?_;obtain⟨t,rfl⟩:=hv;have I1:Inv X pins σ H {s with heap:=h',toks:=tk}:=I.turned (fun b o hb e=>kk b o (by simpa using hb) e) f0 f1 f3 f4 f5;refine⟨_,rfl,tP (s:={s with heap:=h',toks:=tk}) (n:="range_iterator") gK rfl rfl (by decide) ⟨.int ((n:Int)-1-i),H,I1,⟨t,?_⟩,⟨rfl,rfl⟩,gK,fun b hb=>(hf b hb).1⟩⟩;have e:(0+((n:Int)-1)*1)+(i:Int)*(-1)=(n:Int)-1-i:=by omega
  rw[e]
 done:=by intro X hP hw hK hc i pins s σ H E I hf st hg;subst hP hw hK;obtain⟨f0,f1,f2,f3,f4,f5⟩:=hf it (by simp);exact QN (I.ok.hd hc) st (by have:n<=i:=hg;omega) fun h' eb=>⟨rfl,I.turned (t':=s.toks) (fun b o hb e=>eb b o hb e) f0 f1 f3 f4 f5⟩
 self:=fun _ _ _ _ _ st h=>G0 st h
inductive QC(R:It->Hp->Prop)(vs:List V)(H1:Hp):Prop |mk (p:_)(n:_)(h0:vs=[.ref p])(h1:H1 p=some (.rV 0 n))(h2:0<=n)(h3:n<2^62)(h4:R (xh n.toNat) H1):QC R vs H1
def Zy(ta:TA):TI:=fun σ H R=>ta σ H fun vs H1=>QC R vs H1
theorem VA{X:Cx}{tg:Expr}{a:Expr}{ta:TA}{p pos:Pos}(hg:Gl X "reversed")(hm:X.mg "reversed"=none)(ha:PA X [a] ta)(hs:starEach [a] X.env=[(false,eval a X.env)]:=by rfl)(ir:starEach [] X.env=[]:=by rfl): PI X tg (.Call (.Name "reversed" p) [a] [] pos) (Zy ta):=by
  intro pins s σ H R I h;refine Call_ (mD I hg hm PyProof.Rows.boot_reversed (uu (aI (ha pos pins s σ H _ I h) fun us s1 ⟨vs,H1,I1,r1,q1⟩=>?_) (by rw[hs,ir]) (by rw[ir];rfl)));obtain⟨l,n,e,hl,n0,n1,q⟩:=q1;subst e;obtain⟨u1,rfl,jE⟩:=vals1 r1;cases(show u1=Value.ref l from jE);obtain⟨t,u,v,e⟩:∃t u v,s1.heap.get? l=some {cls:=.type "range",data:=.fields #[.int 0 t,.int n u,.int 1 v]}:=I1.hok l _ hl;obtain⟨m,rfl⟩:∃m:Nat,n=m:=⟨n.toNat,by omega⟩;refine a3o (by omega) e ?_;have hit:IsRangeIter (s1.heap.push (vf m)) s1.heap.objs.size ((0+((m:Int)-1)*1)+((0:Nat):Int)*(-1)) ((m:Int)-((0:Nat):Int)) (-1):=by
   have e1:(0+((m:Int)-1)*1)+((0:Nat):Int)*(-1)=0+((m:Int)-1)*1:=by omega
   have e2:(m:Int)-((0:Nat):Int)=m:=by omega
   rw[e1,e2];exact dU _ rfl
  refine G0 hit ?_;refine⟨s1.heap.objs.size,[s1.heap.objs.size],_,_,H1,rfl,I1.kept (t':=s1.toks) fun b o e=>cg _ e,S6 _ m,hit,fun b hb=>?_,q⟩;have e:b=s1.heap.objs.size:=by simpa using hb
  subst e;exact I1.mU (bp _) (I1.hok.fresh (bp _))
theorem a25{n:Nat}{g:TG}{tb:TS}{D:Ends}{σ:St}{H:Hp}(Pv:Nat->St->Hp->Prop)(h0:Pv 0 σ H) (hs:∀i σ H,i<n->Pv i σ H->g (.int ((n:Int)-1-i)) σ H fun σ2 H2=>tb {D with nx:=Pv (i+1),ct:=Pv (i+1),bk:=D.nx} σ2 H2)(hd:∀σ H,Pv n σ H->D.nx σ H): ∃W:Nat->Nat->St->Hp->Prop,(∃m,W 0 m σ H)/\∀i m σ H,W i m σ H->((xh n).stop i H/\D.nx σ H)\/((xh n).go i H/\∃N:St->Hp->Prop,(∀σ' H',N σ' H'->∃m',m'<m/\W (i+1) m' σ' H')/\∀x H',(xh n).yld i H x H'->g x σ H' fun σ2 H2=>tb {D with nx:=N,ct:=N,bk:=D.nx} σ2 H2):=by
  refine⟨fun i m σ H=>m=n-i/\i<=n/\Pv i σ H,⟨n,by simp,fV _,h0⟩,?_⟩;rintro i m σ H ⟨rfl,hi,p⟩;by_cases bZ:i<n
  · refine .inr ⟨bZ,Pv (i+1),fun σ' H' q=>⟨n-(i+1),by omega,rfl,bZ,q⟩,fun x H' hy=>?_⟩
    obtain⟨rfl,rfl⟩:=hy;exact hs i σ _ bZ p
  · have e:i=n:=by omega
    subst e;exact .inl ⟨bp _,hd σ H p⟩
theorem D9(K:a5w){X:Cx}(hK:X.K=K){a:Expr}{ta:TE}(ha:PE X a ta)(he:∀whole,isTrue a X.env whole=(do let v<-whole;standAt a.pos;holding [v] (truthy v)):=by intro _;rfl): PT X a (fun σ H Q=>ta σ H fun x H'=>∃k,FL K x H' k/\Q k H'):=by subst hK;exact Vk ha he
end L2
namespace Cn
open Ln
def cK(ns ms:List Int):List Int:=(ns.zip ms).map fun p=>p.1*(ak ms:Int)-p.2*(ak ns:Int)
theorem Yp{ns ms:List Int}{z:Int}(h:z∈cK ns ms):∃a b,a∈ns/\b∈ms/\z=a*(ak ms:Int)-b*(ak ns:Int):=by obtain⟨⟨a,b⟩,hp,rfl⟩:=kb.mp h;exact⟨a,b,(Ai hp).1,(Ai hp).2,rfl⟩
theorem jJ{a b:Int}{m n:Nat}(h:a.natAbs<=m)(g:b.natAbs<=n):(a*b).natAbs<=m*n:=by rw[fc];exact kW h g
theorem zL{ns ms:List Int}(h1:∀z∈ns,z.natAbs<=1000)(h2:∀z∈ms,z.natAbs<=1000):∀z∈cK ns ms,z.natAbs<=2000000:=fun z hz=>by obtain⟨a,b,ha,hb,rfl⟩:=Yp hz;have l1:=lN h1;have l2:=lN h2;have e1:=jJ (b:=(ak ms:Int)) (n:=1000) (h1 a ha) (by omega);have e2:=jJ (b:=(ak ns:Int)) (n:=1000) (h2 b hb) (by omega);omega
def oo(zs:List Int)(i:Nat):Nat:=ak (zs.take i)
theorem LH:∀(xs ys:List Int),ak (xs++ys)=max (ak xs) (ak ys) |[],ys=>by simp[ak] |x::xs,ys=>by show max x.natAbs (ak (xs++ys))=max (max x.natAbs (ak xs)) (ak ys);rw[LH xs ys];omega
theorem a0y{zs:List Int}{i:Nat}{z:Int}(h:zs[i]? =some z):oo zs (i+1)=max (oo zs i) z.natAbs:=by unfold oo;rw[nK,h,LH];show max _ (max z.natAbs 0)=_;omega
def qQ(r:Rat):Rat:=if r.num<0 then-r else r
theorem a3X(r:Rat):(qQ r).num=gG r.num:=by
 unfold qQ gG;split
 ·rfl
 ·rfl
theorem a3Z(r:Rat):(qQ r).den=r.den:=by
 unfold qQ;split
 ·rfl
 ·rfl
theorem a2Y{a b:Int}(hb:0<b):0<=(Rat.divInt a b).num↔0<=a:=by rw[G5,ur hb]
theorem a3Y{c L:Int}(hL:0<L):qQ (Rat.divInt c L)=Rat.divInt (gG c) L:=by
 have h:=a2Y (a:=c) hL;unfold qQ gG;by_cases hc:c<0
 ·rw[aP hc,aP (by omega),Rat.neg_divInt]
 ·rw[aV hc,aV (by omega)]
theorem NF{a b L:Int}(hL:0<L):Rat.divInt a L<=Rat.divInt b L↔a<=b:=by
 rw[Rat.le_iff_sub_nonneg,QR _ _ (by omega) (by omega),ur (gA hL hL),<-Int.sub_mul];constructor
 · intro h
   have:=Int.nonneg_of_mul_nonneg_left h hL;omega
 · intro h
   exact iS (by omega) (by omega)
theorem ND{a b L:Int}(hL:0<L):Rat.divInt a L<Rat.divInt b L↔a<b:=by rw[<-Rat.not_le,NF hL];omega
theorem SV{a b l1 l2:Int}(h1:0<l1)(h2:0<l2):Rat.divInt b l2-Rat.divInt a l1=Rat.divInt (b*l1-a*l2) (l1*l2):=by rw[QR _ _ (by omega) (by omega),Gu l2 l1]
theorem a3b{j p q h L:Int}(hp:p≠0)(hh:h≠0)(e:p*L=h*q):Rat.divInt (j*j*q*q) (p*p)=Rat.divInt ((j*L)^2) (h^2):=by
 rw[Rat.divInt_eq_divInt_iff (Gs hp hp) (by rw[fb,fb,kh,jx];exact Gs hh hh)];have e2:(p*L)*(p*L)=(h*q)*(h*q):=by rw[e]
 rw[fb,fb,kh,jx,fb,fb,kh,jx];have a1:j*j*q*q*(h*h)=(j*j)*((h*q)*(h*q)):=by ac_rfl
 have a2:j*L*(j*L)*(p*p)=(j*j)*((p*L)*(p*L)):=by ac_rfl
 rw[a1,a2,e2]
end Cn
namespace Pn
def mn(a b:Rat):Rat:=if b<a then b else a
theorem fJ(a b:Rat):mn a b<=a:=by
 unfold mn;split
 ·next h=>exact G7 h
 ·exact nE
theorem jm(a b:Rat):mn a b<=b:=by
 unfold mn;split
 ·exact nE
 ·next h=>exact xp.mp h
theorem jK{a b c:Rat}(h1:c<=a)(h2:c<=b):c<=mn a b:=by unfold mn;split<;>assumption
theorem vO(a b:Rat):mn a b=a\/mn a b=b:=by
 unfold mn;split
 ·exact .inr rfl
 ·exact .inl rfl
theorem lK{a b c:Rat}(hc:c=a\/c=b)(h1:c<=a)(h2:c<=b):mn a b=c:=by
 rcases hc with rfl|rfl
 ·exact Ac (fJ _ _) (jK h1 h2)
 ·exact Ac (jm _ _) (jK h1 h2)
theorem LK{a b c:Rat}(h:a<=b)(hc:0<=c):a<=b+c:=dc h (by have:=(Rat.add_le_add_left (c:=b)).mpr hc;rwa [Rat.add_zero]at this)
section
variable (n:Nat)(own:Nat->Rat)(L:Nat->Option Nat)(r f:Int)
def Pz(g:Nat->Rat):Nat->Rat |0=>g n |k+1=>match L (n-(k+1))with |some m=>mn (g (n-(k+1))) (Pz g k+((f*(m:Int):Int):Rat)) |none=>g (n-(k+1))
def fl(g:Nat->Rat)(i:Nat):Rat:=Pz n L f g (n-i)
end
section
variable {n:Nat}{own g:Nat->Rat}{L:Nat->Option Nat}{r f:Int}
theorem tS:fl n L f g n=g n:=by unfold fl;rw[Gd];rfl
theorem tT{i m:Nat}(hi:i<n)(h:L i=some m):fl n L f g i=mn (g i) (fl n L f g (i+1)+((f*(m:Int):Int):Rat)):=by
 unfold fl;have e:n-i=(n-(i+1))+1:=by omega
 rw[e];show(match L (n-((n-(i+1))+1))with|some m=>_|none=>_)=_;have e2:n-((n-(i+1))+1)=i:=by omega
 rw[e2,h]
theorem tR{i:Nat}(hi:i<n)(h:L i=none):fl n L f g i=g i:=by
 unfold fl;have e:n-i=(n-(i+1))+1:=by omega
 rw[e];show(match L (n-((n-(i+1))+1))with|some m=>_|none=>_)=_;have e2:n-((n-(i+1))+1)=i:=by omega
 rw[e2,h]
theorem Yg{a:Int}{m:Nat}(h:0<=a):(0:Rat)<=((a*(m:Int):Int):Rat):=by have:((0:Int):Rat)<=((a*(m:Int):Int):Rat):=Rat.intCast_le_intCast.mpr (iS h (by omega));exact this
theorem down{C:Nat->Prop}(hn:C n)(hs:∀i,i<n->C (i+1)->C i):∀i,i<=n->C i:=by
 have key:∀k,k<=n->C (n-k):=fun k=>by induction k with |zero=>intro _;exact hn |succ k ih=>
    intro hk;refine hs _ (by omega) ?_;have e:n-(k+1)+1=n-k:=by omega
    rw[e];exact ih (by omega)
 intro i hi;have:=key (n-i) (by omega);have e:n-(n-i)=i:=by omega
 rwa [e]at this
end
open Rt
theorem vP{n:Nat}{a b:Rat}(h1:Bd n a)(h2:Bd n b):Bd n (mn a b):=by rcases vO a b with e|e<;>rw[e]<;>assumption
theorem zU{n:Nat}{q:Rat}{z:Int}(h:Bd n q)(hz:z.natAbs<2^24):Bd (n+25) (q+(z:Rat)):=by have b:Bd 24 (z:Rat):=⟨hz,by show 1<2^24;decide⟩;exact(h.add b).mono (by omega)
theorem MY{n b:Nat}{g:Nat->Rat}{L:Nat->Option Nat}{f:Int}(ho:∀i,i<=n->Bd b (g i))(hL:∀i m,L i=some m->(f*(m:Int)).natAbs<2^24):∀i,i<=n->Bd (b+25*(n-i)) (fl n L f g i):=by
 refine down ?_ fun i hi ih=>?_
 ·rw[tS];exact(ho n (bp _)).mono (by omega)
 ·cases h:L i with |none=>rw[tR hi h];exact(ho i (by omega)).mono (by omega) |some m=>rw[tT hi h];exact vP ((ho i (by omega)).mono (by omega)) ((zU ih (hL i m h)).mono (by omega))
def lst(n:Nat)(g:Nat->Rat):List Rat:=(List.range (n+1)).map g
theorem o9(n:Nat)(g:Nat->Rat):(lst n g).length=n+1:=by simp[lst]
theorem oa{n:Nat}(g:Nat->Rat){i:Nat}(h:i<=n):(lst n g)[i]? =some (g i):=by unfold lst;rw[bU,bO (by simp;omega),qX];rfl
theorem Yx{n:Nat}{g g':Nat->Rat}{i:Nat}(h:∀k,k<=n->k≠i->g' k=g k):(lst n g).set i (g' i)=lst n g':=by
 apply oZ;intro k;by_cases hk:k<=n
 · rw[oa g' hk,List.getElem?_set]
   by_cases e:i=k
   ·subst e;rw[aP rfl,aP (by rw[o9];omega)]
   ·rw[aV e,oa g hk,h k hk (fun z=>e z.symm)]
 ·rw[kg (by rw[qW,o9];omega),kg (by rw[o9];omega)]
theorem DJ{n:Nat}{g g':Nat->Rat}(h:∀k,k<=n->g' k=g k):lst n g=lst n g':=by
 apply oZ;intro k;by_cases hk:k<=n
 ·rw[oa g hk,oa g' hk,h k hk]
 ·rw[kg (by rw[o9];omega),kg (by rw[o9];omega)]
end Pn
namespace Ow
open Pn Cn Ln Rt
abbrev Itm:=Option (List Int × Int)
def topR(rate sp:Int):Rat:=Rat.divInt ((sp*rate)^2) 10000
def cornO(j:Int)(ns ms:List Int):Option Rat:=if ak (cK ns ms)=0 then none else some (Rat.divInt ((j*ak ns*ak ms)^2) ((ak (cK ns ms):Int)^2))
def mnO(a:Rat):Option Rat->Rat |none=>a |some c=>mn a c
def betR(j rate:Int):Itm->Itm->Rat |some (ns,sp),some (ms,sq)=>mnO (mn (topR rate sp) (topR rate sq)) (cornO j ns ms) |_,_=>0
def atO(os:List Itm)(i:Nat):Itm:=(os[i]?).join
def ownF(j rate:Int)(os:List Itm):Nat->Rat |0=>0 |i+1=>betR j rate (atO os i) (atO os (i+1))
def leadF(os:List Itm)(i:Nat):Option Nat:=(atO os i).map fun q=>ak q.1
def ownL(j rate:Int)(os:List Itm):List Rat:=(List.range (os.length+1)).map (ownF j rate os)
theorem mZ{os:List Itm}{i:Nat}{o:Itm}(h:os[i]? =some o):atO os i=o:=by unfold atO;rw[h];rfl
theorem a3L{os:List Itm}{i:Nat}(h:os.length<=i):atO os i=none:=by unfold atO;rw[kg h];rfl
theorem zR(j rate:Int)(o:Itm):betR j rate o none=0:=by unfold betR;split<;>simp_all
theorem O4(j rate:Int)(o:Itm):betR j rate none o=0:=by unfold betR;split<;>simp_all
theorem Dm(j rate:Int)(os:List Itm):∀n,n=os.length->ownF j rate os n=0 |0,_=>rfl |n+1,h=>by show betR j rate (atO os n) (atO os (n+1))=0;rw[a3L (i:=n+1) (by omega)];exact zR _ _ _
theorem KD(j rate:Int)(os:List Itm):(ownL j rate os).length=os.length+1:=by simp[ownL]
theorem KG(j rate:Int)(os:List Itm){i:Nat}(h:i<=os.length):(ownL j rate os)[i]? =some (ownF j rate os i):=by unfold ownL;rw[bU,bO (by simp;omega),qX];rfl
theorem KH(j rate:Int){os:List Itm}(h:os≠[]):ownL j rate os=[0]++(List.range (os.length-1)).map (fun i=>ownF j rate os (i+1))++[0]:=by
 have h0:0<os.length:=Gk.mpr h;apply oZ;intro i;by_cases hi:i<=os.length
 · rw[KG j rate os hi]
   rcases Nat.eq_zero_or_pos i with rfl|hp
   ·rfl
   · by_cases hl:i=os.length
     · rw[xx (by simp;omega),hl,Dm j rate os _ rfl]
       have:os.length-([0]++List.map (fun i=>ownF j rate os (i+1)) (List.range (os.length-1))).length=0:=by simp;omega
       rw[this];rfl
     · rw[uz (by simp;omega),xx (by simp;omega),bU]
       have e:i-[(0:Rat)].length=i-1:=rfl;rw[e,bO (by simp;omega),qX];show some _=some (ownF j rate os (i-1+1));rw[Nat.sub_add_cancel hp]
 ·rw[kg (by rw[KD];omega),kg (by simp;omega)]
theorem xR(rate sp:Int):0<=topR rate sp:=by
 unfold topR;rw[ur (by decide),fb,fb,kh,jx];rcases Int.le_total 0 (sp*rate)with h|h
 ·exact iS h h
 ·exact Ri h h
theorem Tf(a:Int):0<=a^2:=by
 rw[fb,fb,kh,jx];rcases Int.le_total 0 a with h|h
 ·exact iS h h
 ·exact Ri h h
theorem a3c{j:Int}{ns ms:List Int}{c:Rat}(h:cornO j ns ms=some c):0<=c:=by
 unfold cornO at h;split at h
 ·cases h
 ·next h0=>
   cases h;rw[ur]
   ·exact Tf _
   ·rw[fb,fb,kh,jx];exact gA (by omega) (by omega)
theorem a3E(j rate:Int)(o p:Itm):0<=betR j rate o p:=by
 unfold betR;split
 ·next ns sp ms sq=>
   have h:=jK (xR rate sp) (xR rate sq);unfold mnO;split
   ·exact h
   ·next c e=>exact jK h (a3c e)
 ·exact nE
theorem KJ(j rate:Int)(os:List Itm):∀i,0<=ownF j rate os i |0=>nE |i+1=>a3E _ _ _ _
def OkI(o:Itm):Prop:=∀ns sp,o=some (ns,sp)->(∀z∈ns,(z.natAbs:Int)<=100)/\1<=sp/\sp<=20
theorem AK{a:Int}{m:Nat}(h:a.natAbs<=m):(a^2).natAbs<=m*m:=by rw[fb,fb,kh,jx];exact jJ h h
theorem rB{rate sp:Int}(h1:1<=sp)(h2:sp<=20)(h3:10<=rate)(h4:rate<=200):Bd 64 (topR rate sp):=by
 have jS:(2:Nat)^64=18446744073709551616:=by decide
 have a:=AK (jJ (a:=sp) (b:=rate) (m:=20) (n:=200) (by omega) (by omega));exact ji (by decide) (by rw[jS];omega) (by decide)
theorem Fl{j:Int}{ns ms:List Int}{c:Rat}(h1:1<=j)(h2:j<=50)(hn:∀z∈ns,(z.natAbs:Int)<=100)(hm:∀z∈ms,(z.natAbs:Int)<=100)(h:cornO j ns ms=some c):Bd 64 c:=by
 have jS:(2:Nat)^64=18446744073709551616:=by decide
 have cb:=zL (fun z hz=>by have:=hn z hz;omega) (fun z hz=>by have:=hm z hz;omega) (ns:=ns) (ms:=ms);have hb:=lN cb;have l1:=lN (ns:=ns) (m:=100) fun z hz=>by have:=hn z hz;omega
 have l2:=lN (ns:=ms) (m:=100) fun z hz=>by have:=hm z hz;omega
 unfold cornO at h;split at h
 ·cases h
 ·next h0=>cases h;have a:=AK (jJ (jJ (a:=j) (b:=(ak ns:Int)) (m:=50) (n:=100) (by omega) (by omega)) (b:=(ak ms:Int)) (n:=100) (by omega));have b:=AK (a:=(ak (cK ns ms):Int)) (m:=2000000) (by omega);refine ji ?_ (by rw[jS];omega) (by rw[jS];omega);rw[fb,fb,kh,jx];exact Gs (by omega) (by omega)
theorem vP{n:Nat}{a b:Rat}(h1:Bd n a)(h2:Bd n b):Bd n (mn a b):=by rcases vO a b with e|e<;>rw[e]<;>assumption
theorem Gz:Bd 64 (0:Rat):=⟨by decide,by decide⟩
theorem a3F{j rate:Int}{o p:Itm}(h1:1<=j)(h2:j<=50)(h3:10<=rate)(h4:rate<=200)(ho:OkI o)(hp:OkI p):Bd 64 (betR j rate o p):=by
 unfold betR;split
 ·next ns sp ms sq=>
   obtain⟨a1,a2,a3⟩:=ho ns sp rfl;obtain⟨b1,b2,b3⟩:=hp ms sq rfl;have h:=vP (rB a2 a3 h3 h4) (rB b2 b3 h3 h4);unfold mnO;split
   ·exact h
   ·next c e=>exact vP h (Fl h1 h2 a1 b1 e)
 ·exact Gz
def OkIs(os:List Itm):Prop:=∀i,OkI (atO os i)
theorem Dn{j rate:Int}{os:List Itm}(h1:1<=j)(h2:j<=50)(h3:10<=rate)(h4:rate<=200)(ho:OkIs os):∀i,Bd 64 (ownF j rate os i) |0=>Gz |i+1=>a3F h1 h2 h3 h4 (ho i) (ho (i+1))
end Ow
namespace Wk
open PySem L2
def dS(pl ns:List Int):List Int:=List.zipWith (fun a b=>a+b) pl ns
theorem ng{pl ns:List Int}(h:ns.length=pl.length):(dS pl ns).length=pl.length:=by unfold dS;rw[List.length_zipWith,h];exact Nat.min_self _
theorem FI{pl ns:List Int}{i:Nat}{a b:Int}(h1:pl[i]? =some a)(h2:ns[i]? =some b):(dS pl ns)[i]? =some (a+b):=by unfold dS;rw[Am,h1,h2]
def lI(rs pl:List Int):Bool:=(pl.zip rs).all fun p=>decide (0<=p.1)&&decide (p.1<=p.2)
structure j7(rs pl:List Int):Prop where
 len:pl.length=rs.length
 at':∀(i:Nat)(x r:Int),pl[i]? =some x->rs[i]? =some r->0<=x/\x<=r
theorem Wj{rs pl:List Int}(h:pl.length=rs.length):lI rs pl=true↔j7 rs pl:=by
 unfold lI;rw[jc];constructor
 · intro a
   refine⟨h,fun i x r e1 e2=>?_⟩;have:=a (x,r) (g9 ((uy (z:=(x,r))).mpr ⟨e1,e2⟩));rw[fh,oU,oU]at this;exact this
 · rintro a ⟨x,r⟩ hp
   obtain⟨i,hi⟩:=uw.mp hp;obtain⟨e1,e2⟩:=(uy (z:=(x,r))).mp hi;have:=a.at' i x r e1 e2;rw[fh,oU,oU];exact this
end Wk
namespace L2
open PySem PySem.Spec PyProof.Rows
section
variable {X:Cx}
end
end L2
namespace L2
open PySem PySem.Spec PyProof.Rows
section
variable {X:Cx}
theorem VO(K:a5w)(h:X.K=K){o e:Expr}{to:TE}{t:TA}{apos cW:Pos}(ho:PE X o to)(ha:PA X [e] t) (jQ:attributeBase o "extend" X.env (eval o X.env)=eval o X.env:=by rfl) (qy:((backTo cW (starEach [e] X.env)).all (fun x=>!x.1)&&(backToKw cW (keywordEach [] X.env)).all (fun x=>x.1.isSome) &&decide ([e].length+([]:List Keyword).length+(if([]:List Keyword).isEmpty then 0 else 1)<30))=true:=by rfl) (jN:(apos.endLine==cW.line)=true:=by rfl)(hs:starEach [e] X.env=(false,eval e X.env)::starEach [] X.env:=by rfl)(qi:(backTo cW (starEach [] X.env)).any (·.1)=false:=by rfl): PE X (.Call (.Attribute o "extend" apos) [e] [] cW) (xT K "list" Kh to t):=by subst h;exact Dk Ag PySem.F.slot_list_extend PySem.F.type_list_extend Yj ho ha jQ qy jN hs qi
open PyProof
end
end L2
namespace L2
open PySem PySem.Spec PyProof.Rows
section
variable {K:a5w} {H H' H2:Hp}
end
end L2
namespace L2
open PySem PySem.Spec PyProof.Rows
def FT(z:Str):It:=⟨fun i _=>i<z.cps.size,fun i H x H'=>H'=H/\∃c,z.cps.toList[i]? =some c/\x= .str ⟨#[c]⟩,fun i _=>z.cps.size<=i⟩
theorem S5{P:a5y}{w:World}{K:a5w}{tg:Expr}(it:Addr)(z:Str)(t:Tok)(ty:String)(we:["enumerate","zip","dict_itemiterator","dict_reverseitemiterator","odict_iterator","itertools.zip_longest","itertools.pairwise"].contains ty=false) (W:∀A':a5A,A'.handled=none->Walks P w A' it [it] [it] z.cps.size (SignAt z) (fun i h=>h.IsStrIter it ty z t i)) (self:∀(A:a5A)(i:Nat)(s:a5x)(Q:Value->a5x->Prop)(E:Value->a5x->Prop),s.heap.IsStrIter it ty z t i->Q (.ref it) s->wpAny (model P w) A (pyIter (.ref it)) Q E s): Turn P w K tg (FT z) [it] it (fun i h=>h.IsStrIter it ty z t i/\i<=z.cps.size) where
  mem:=by simp
  obj:=fun i h st b hb=>by
   have e:b=it:=by simpa using hb
   subst e;obtain⟨⟨o,e,c,d⟩,_⟩:=st;exact⟨o,e,fun v z=>by rw[d]at z;cases z⟩
  keep:=fun i h h' st k=>⟨let⟨o,e,r⟩:=st.1;⟨o,k it (by simp) o e,r⟩,st.2⟩
  item:=by intro X hP hw hK hc i pins s σ H E I hf st hg;subst hP hw hK;obtain⟨f0,f1,f2,f3,f4,f5⟩:=hf it (by simp);refine(W X.A (I.ok.hd hc)).item i s _ _ hg st.1 fun v h' tk hv gK kk=>?_;obtain⟨c,u,ec,rfl⟩:=hv;have I1:Inv X pins σ H {s with heap:=h',toks:=tk}:=I.turned (fun b o hb e=>kk b o (by simpa using hb) e) f0 f1 f3 f4 f5;obtain⟨o,e,cl,d⟩:=id gK;exact⟨_,rfl,tP (s:={s with heap:=h',toks:=tk}) e cl d we ⟨.str ⟨#[c]⟩,H,I1,⟨u,rfl⟩,⟨rfl,c,by simpa using ec,rfl⟩,⟨gK,hg⟩,fun b hb=>(hf b hb).1⟩⟩
  done:=by intro X hP hw hK hc i pins s σ H E I hf st hg;subst hP hw hK;obtain⟨f0,f1,f2,f3,f4,f5⟩:=hf it (by simp);obtain⟨st,hle⟩:=st;have ei:i=z.cps.size:=Nat.le_antisymm hle hg;subst ei;exact(W X.A (I.ok.hd hc)).done s _ _ st fun h' tk eb=>⟨rfl,I.turned (fun b o hb e=>eb b o (by simpa using hb) e) f0 f1 f3 f4 f5⟩
  self:=fun A i s Q E st h=>self A i s Q E st.1 h
section
variable {X:Cx} {tg:Expr}
inductive Qy(R:It->Hp->Prop)(x:V)(H1:Hp):Prop |mk (z:_)(h0:x= .str z)(h1:R (FT z) H1):Qy R x H1
def Zu(tl:TE):TI:=fun σ H R=>tl σ H fun x H1=>Qy R x H1
theorem Vz{l:Expr}{tl:TE}(hl:PE X l tl):PI X tg l (Zu tl):=by
 intro pins s σ H R I h;refine aI (hl pins s σ H _ I h) fun v s1 ⟨x,H1,I1,r1,q1⟩=>?_;obtain⟨z,e,q⟩:=q1;subst e;obtain⟨t,rfl⟩:=r1;have fin:∀ty,["enumerate","zip","dict_itemiterator","dict_reverseitemiterator","odict_iterator","itertools.zip_longest","itertools.pairwise"].contains ty=false->(∀A':a5A,A'.handled=none->Walks X.prog X.w A' s1.heap.objs.size [s1.heap.objs.size] [s1.heap.objs.size] z.cps.size (SignAt z) (fun i h=>h.IsStrIter s1.heap.objs.size ty z t i))->(∀(A:a5A)(i:Nat)(s:a5x)(Q:Value->a5x->Prop)(E:Value->a5x->Prop),s.heap.IsStrIter s1.heap.objs.size ty z t i->Q (.ref s1.heap.objs.size) s->wpAny (model X.prog X.w) A (pyIter (.ref s1.heap.objs.size)) Q E s)->A2 X pins σ tg R (.ref s1.heap.objs.size) {s1 with heap:=s1.heap.push {cls:=.type ty,data:=.fields #[.str z t,.int 0 0]}}:=fun ty h1 h2 h3=>by
   refine⟨s1.heap.objs.size,[s1.heap.objs.size],_,_,H1,rfl,I1.kept (t':=s1.toks) fun b o e=>cg _ e,S5 _ z t ty h1 h2 h3,⟨⟨_,dU _ rfl,rfl,rfl⟩,fV _⟩,fun b hb=>?_,q⟩;have e:b=s1.heap.objs.size:=by simpa using hb
   subst e;exact I1.mU (bp _) (I1.hok.fresh (bp _))
 cases ha:z.cps.all (·<128)
 ·exact wpAny_pyIter_wide ha (fin "str_iterator" (by decide) (fun A' hA=>Walks.strWide hA _ z t) (fun _ _ _ _ _ st h=>wpAny_pyIter_striter_wide st h))
 ·exact wpAny_pyIter_ascii ha (fin "str_ascii_iterator" (by decide) (fun A' hA=>Walks.strAscii hA _ z t) (fun _ _ _ _ _ st h=>wpAny_pyIter_striter_ascii st h))
theorem a3h{z:Str}{f:Nat->Bool}{te:TE}{Q:VK}{D:Addr}{H H0:Hp}(rest:St)(nw:Nw H H0 D (.lst []))(hz:z.length<=1000) (hs:∀(c:Nat)(H2:Hp)(Q':VK),c∈z.cps.toList->ai H H2->(∀H3,ai H2 H3->Q' (.bl (f c)) H3)->te (some (.str ⟨#[c]⟩)::rest) H2 Q') (hq:∀H',ai H H'->H' D=some (.lst ((z.cps.toList.map f).map V.bl))->Q (.ref D) H'):iz (FT z) (eQ 0) gJ te Q D (none::rest) H0:=by
  have hl:z.cps.toList.length=z.cps.size:=by simp
  refine NP (xs:=z.cps.toList.map fun c=>V.str ⟨#[c]⟩) (bs:=z.cps.toList.map f) rest nw (by simp) (by simpa[Str.length]using hz) ?_ ?_ ?_ hq
  · intro i x H2 ex s2
    rw[bU]at ex;cases ec:z.cps.toList[i]? with |none=>rw[ec]at ex;cases ex |some c=>rw[ec]at ex;cases ex;refine⟨by have:=(dC.mp ec).1;show i<z.cps.size;omega,fun y H3 ⟨e3,c',Nm,e⟩=>⟨e3,?_⟩⟩;rw[ec]at Nm;cases Nm;exact e
  · intro H2 s2
    show z.cps.size<=(z.cps.toList.map _).length;rw[bS,hl];exact bp _
  · intro i x b H2 Q' ex eb s2 iZ
    rw[bU]at ex eb;cases ec:z.cps.toList[i]? with |none=>rw[ec]at ex;cases ex |some c=>rw[ec]at ex eb;cases ex;cases eb;exact hs c H2 Q' (g9 ec) s2 iZ
theorem Wc:cN X (compareOp .In) (fun x y H Q=>∃c j,x= .str ⟨#[c]⟩/\y= .str j/\Q (.bl (decide (c∈j.cps.toList))) H):=by intro pins s σ H x y v u Q I rx ry h;obtain⟨c,j,rfl,rfl,q⟩:=h;refine Wb pins s σ H _ _ v u Q I rx ry ⟨_,_,rfl,rfl,?_⟩;rw[PySem.StrLaws.found_one];exact q
inductive Qn(K:a5w)(x:V)(y:V)(H:Hp)(Q:VK):Prop |mk (p:_)(xs:_)(d:_)(ds:_)(h0:y= .ref p)(h1:aB K H p xs)(h2:RD K H x d)(h3:ay K H xs ds)(h4:SeqAt.shaped d=true)(h5:(∀e∈ds,SeqAt.shaped e=true))(h6:Q (.bl (ds.any fun e=>PyData.eqv e d)) H):Qn K x y H Q
def V9(K:a5w):R2:=fun x y H Q=>Qn K x y H Q
theorem Zn(K:a5w)(hK:X.K=K)(hu:X.A.units+65<cLine):cN X (compareOp .In) (V9 K):=by
 subst hK;intro pins s σ H x y v u Q I rx ry h;obtain⟨p,xs,d,ds,rfl,hx,hd,ou,sd,TM,q⟩:=h;cases ry;obtain⟨its,r,pl,hz⟩:=I.tuple hx;obtain⟨k1,k2⟩:=N7 I hu rx hd sd r ou TM;refine SeqAt.in_tupleAt (qH s.heap d) (show s.heap.IsTuple p its.toArray from pl) (fun w hw=>k1 w (by simpa using hw)) ⟨.bl _,H,I,rfl,?_⟩;have e:its.toArray.any (qH s.heap d)=ds.any fun e=>PyData.eqv e d:=by rw[<-k2];simp
 rw[e];exact q
end
end L2
namespace L2
open PySem PySem.Spec PyProof.Rows
def ui(lo:Int)(n:Nat):It:=⟨fun i _=>i<n,fun i H x H'=>H'=H/\x= .int (lo-i),fun i _=>n<=i⟩
theorem Sa{P:a5y}{w:World}{K:a5w}{tg:Expr}(it:Addr)(lo:Int)(n:Nat):Turn P w K tg (ui lo n) [it] it (fun i h=>IsRangeIter h it (lo+(i:Nat)*(-1)) ((n:Int)-(i:Nat)) (-1)) where
 mem:=by simp
 obj:=fun i h st b hb=>by
  have e:b=it:=by simpa using hb
  subst e;exact⟨_,st,fun v z=>by have z':Data.fields _=Data.cell v:=z;cases z'⟩
 keep:=fun i h h' st k=>k it (by simp) _ st
 item:=by
  intro X hP hw hK hc i pins s σ H E I hf st hg;subst hP hw hK;obtain⟨f0,f1,f2,f3,f4,f5⟩:=hf it (by simp);have W:=Walks.range (prog:=X.prog) (w:=X.w) (I.ok.hd hc) it lo (-1) n;refine W.item i s _ _ hg st fun v h' tk hv gK kk=>?_;obtain⟨t,rfl⟩:=hv;have I1:Inv X pins σ H {s with heap:=h',toks:=tk}:=I.turned (fun b o hb e=>kk b o (by simpa using hb) e) f0 f1 f3 f4 f5;refine⟨_,rfl,tP (s:={s with heap:=h',toks:=tk}) (n:="range_iterator") gK rfl rfl (by decide) ⟨.int (lo-i),H,I1,⟨t,?_⟩,⟨rfl,rfl⟩,gK,fun b hb=>(hf b hb).1⟩⟩;have e:lo+(i:Int)*(-1)=lo-i:=by omega
  rw[e]
 done:=by intro X hP hw hK hc i pins s σ H E I hf st hg;subst hP hw hK;obtain⟨f0,f1,f2,f3,f4,f5⟩:=hf it (by simp);exact QN (I.ok.hd hc) st (by have:n<=i:=hg;omega) fun h' eb=>⟨rfl,I.turned (t':=s.toks) (fun b o hb e=>eb b o hb e) f0 f1 f3 f4 f5⟩
 self:=fun _ _ _ _ _ st h=>G0 st h
theorem Ti{a b:Int}(ha:-(2^62)<=a)(Mz:a<2^62)(hb:-(2^62)<=b)(ox:b<2^62):Builtin.Range.small a b (-1)=true:=by unfold Builtin.Range.small Builtin.Range.rangeSize;rw[aV (by decide),show(-(-1):Int)=1 by decide,Int.ediv_one];simp only[Builtin.Range.rangeFitsLong,fh,Bool.or_eq_true,G3,fT,show¬((-1:Int)>0) by decide,if_false];split<;>omega
theorem Tx(a b:Int):Builtin.Range.rangeSize a b (-1)=(((a-b).toNat:Nat):Int):=by unfold Builtin.Range.rangeSize;rw[aV (by decide),show(-(-1):Int)=1 by decide,Int.ediv_one];split<;>omega
inductive Qz(R:It->Hp->Prop)(vs:List V)(H1:Hp):Prop |mk (i:Int)(j:Int)(h0:vs=[.int i,.int j,.int (-1)])(h1:(-(2^62)<=i/\i<2^62/\-(2^62)<=j/\j<2^62))(h2:R (ui i (i-j).toNat) H1):Qz R vs H1
def Zv(ta:TA):TI:=fun σ H R=>ta σ H fun vs H1=>Qz R vs H1
section
variable {X:Cx} {tg:Expr}
theorem V0{pins:List (Addr×Obj)}{σ:St}{H:Hp}{s:a5x}{R:It->Hp->Prop}{E:Value->a5x->Prop}{lo hi:Int}{t u v:Tok}{tk:Nat}(I:Inv X pins σ H s)(h1:-(2^62)<=lo)(h2:lo<2^62)(h3:-(2^62)<=hi)(h4:hi<2^62) (q:R (ui lo (lo-hi).toNat) H):wpAny (model X.prog X.w) X.A (pyIter (.ref s.heap.objs.size)) (A2 X pins σ tg R) E {s with heap:=s.heap.push {cls:=.type "range",data:=.fields #[.int lo t,.int hi u,.int (-1) v]},toks:=tk}:=by
  refine wpAny_pyIter_range (IsRange.new ..) (Ti h1 h2 h3 h4) ?_;have I1:Inv X pins σ H {s with heap:=s.heap.push {cls:=.type "range",data:=.fields #[.int lo t,.int hi u,.int (-1) v]},toks:=tk}:=I.kept fun b o e=>cg _ e;refine⟨(s.heap.push {cls:=.type "range",data:=.fields #[.int lo t,.int hi u,.int (-1) v]}).objs.size,[(s.heap.push {cls:=.type "range",data:=.fields #[.int lo t,.int hi u,.int (-1) v]}).objs.size],_,_,H,rfl,I1.kept (t':=tk) fun b o e=>cg _ e,Sa _ lo (lo-hi).toNat,?_,fun b hb=>?_,q⟩
  · have e1:lo+((0:Nat):Int)*(-1)=lo:=by simp
    have e2:(((lo-hi).toNat:Nat):Int)-((0:Nat):Int)=Builtin.Range.rangeSize lo hi (-1):=by rw[Tx];omega
    show IsRangeIter _ _ (lo+((0:Nat):Int)*(-1)) ((((lo-hi).toNat:Nat):Int)-((0:Nat):Int)) (-1);rw[e1,e2];exact dU _ rfl
  · have e:b=(s.heap.push {cls:=.type "range",data:=.fields #[.int lo t,.int hi u,.int (-1) v]}).objs.size:=by simpa using hb
    subst e;exact I1.mU (bp _) (I1.hok.fresh (bp _))
theorem VB{a b c:Expr}{ta:TA}{p pos:Pos}(hg:Gl X "range")(hm:X.mg "range"=none)(ha:PA X [a,b,c] ta)(hs:starEach [a,b,c] X.env=[(false,eval a X.env),(false,eval b X.env),(false,eval c X.env)]:=by rfl)(ir:starEach [b,c] X.env=[(false,eval b X.env),(false,eval c X.env)]:=by rfl): PI X tg (.Call (.Name "range" p) [a,b,c] [] pos) (Zv ta):=by intro pins s σ H R I h;refine Call_ (mD I hg hm boot_range (uu (aI (ha pos pins s σ H _ I h) fun us s1 ⟨vs,H1,I1,r1,q1⟩=>?_) (by rw[hs,ir]) (by rw[ir];rfl)));obtain⟨i,j,e,⟨q1,q2,q3,q4⟩,q⟩:=q1;subst e;cases r1 with |cons r rr=>cases rr with |cons r' rr=>cases rr with |cons Vf rr=>cases rr;obtain⟨t,rfl⟩:=r;obtain⟨t',rfl⟩:=r';obtain⟨t'',rfl⟩:=Vf;exact call_range_3 (by decide) (V0 I1 q1 q2 q3 q4 q) (Or.inl (PyProof.noPylong_small (by omega)))
theorem a27{lo:Int}{n:Nat}{g:TG}{tb:TS}{D:Ends}{σ:St}{H:Hp}(Pv:Nat->St->Hp->Prop)(h0:Pv 0 σ H) (hs:∀i σ H,i<n->Pv i σ H->g (.int (lo-i)) σ H fun σ2 H2=>tb {D with nx:=Pv (i+1),ct:=Pv (i+1),bk:=D.nx} σ2 H2)(hd:∀σ H,Pv n σ H->D.nx σ H): ∃W:Nat->Nat->St->Hp->Prop,(∃m,W 0 m σ H)/\∀i m σ H,W i m σ H->((ui lo n).stop i H/\D.nx σ H)\/((ui lo n).go i H/\∃N:St->Hp->Prop,(∀σ' H',N σ' H'->∃m',m'<m/\W (i+1) m' σ' H')/\∀x H',(ui lo n).yld i H x H'->g x σ H' fun σ2 H2=>tb {D with nx:=N,ct:=N,bk:=D.nx} σ2 H2):=by
  refine⟨fun i m σ H=>m=n-i/\i<=n/\Pv i σ H,⟨n,by simp,fV _,h0⟩,?_⟩;rintro i m σ H ⟨rfl,hi,hp⟩;by_cases h:i<n
  · refine .inr ⟨h,Pv (i+1),fun σ' H' tF=>⟨n-(i+1),by omega,rfl,by omega,tF⟩,?_⟩
    rintro x H' ⟨rfl,rfl⟩;exact hs i σ H' h hp
  · have e:i=n:=by omega
    subst e;exact .inl ⟨bp _,hd σ H hp⟩
end
theorem NM{K:a5w}{b1 b2:Bool}{l1 l2:Addr}{xs ys:List V}{bs:List Bool}{te:TE}{Q:VK}{D:Addr}{H H0:Hp}{n:Nat}(rest:St)(hn:n=2)(h1:dy b1 K H l1 xs)(h2:dy b2 K H l2 ys)(nw:Nw H H0 D (.lst [])) (hl:min xs.length ys.length=bs.length)(hz:bs.length<=100000) (hs:∀(i:Nat)(x y:V)(b:Bool)(H2:Hp)(Q':VK),xs[i]? =some x->ys[i]? =some y->bs[i]? =some b->ai H H2->(∀H3,ai H2 H3->Q' (.bl b) H3)->te (some x::some y::rest) H2 Q') (hq:∀H',ai H H'->H' D=some (.lst (bs.map V.bl))->Q (.ref D) H'):iz (kS K b1 b2 l1 l2) (mT K n (j0 (eQ 0) (j0 (eQ 1) oC))) gJ te Q D (none::none::rest) H0:=by
  subst hn;have hD:=nw.no;refine oJ bs.length (fun i σ H2=>ai H H2/\H2 D=some (.lst ((bs.take i).map V.bl))/\∃v v',σ=v::v'::rest) ?_ ?_ ?_
  ·exact⟨nw.same,nw.at',none,none,rfl⟩
  · rintro i σ H2 hi ⟨s2,d2,v,v',rfl⟩
    have hx:i<xs.length:=by omega
    have hy:i<ys.length:=by omega
    have ex:=bO hx;have ey:=bO hy;have eb:=bO hi;refine⟨⟨xs,ys,_,_,h1.go s2,h2.go s2,ex,ey⟩,fun y' H3 iY=>?_⟩;obtain⟨T,x0,y0,rfl,k1,k2,n3⟩:=iY;have e1:=k1 _ (h1.go s2);have e2:=k2 _ (h2.go s2);rw[ex]at e1;rw[ey]at e2;cases e1;cases e2;refine⟨T,_,rfl,aB.of n3.at',rfl,_,_,rfl,_,_,rfl,rfl,?_⟩;refine yes (bF ?_);refine hs i _ _ _ _ _ ex ey eb (s2.trans n3.same) fun H4 s4=>?_;refine⟨_,s4 _ _ (n3.same _ _ d2),?_,bs.length-(i+1),by omega,rfl,by omega,fun b o e=>?_,?_,_,_,rfl⟩
    · rw[bS,m4]
      have:(100000:Nat)<sizeLine:=by decide
      omega
    ·rw[az (fw e hD)];exact s4 b o (n3.same b o (s2 b o e))
    ·rw[aO,nK,eb,m3];rfl
  · rintro σ H2 ⟨s2,d2,v,v',rfl⟩
    refine⟨⟨xs,ys,h1.go s2,h2.go s2,by omega⟩,hq H2 s2 ?_⟩;rw[d2,uv]
structure MA(K:a5w)(C:Addr)(m qual:Str)(st:Stmt):Prop where ex:∃f fd,Meth K C m f/\kT K m qual st f fd
def cI(P:a5y)(w:World)(K:a5w)(mg:Str->Option Value)(base:Heap)(C:Addr)(m:Str)(k:Nat)(sp:Sp):Prop:=∃f fd ps,iR P w K mg base jZ k f fd ps sp/\Meth K C m f/\Binds K fd ps []
structure CA(K:a5w)(mg:Str->Option Value)(C:Addr)(x qual:Str)(st:Stmt):Prop where
 mgC:mg x=some (.ref C)
 ex:∃f fd,Mk K C f/\kT K "__init__" qual st f fd
def A3(P:a5y)(w:World)(K:a5w)(mg:Str->Option Value)(base:Heap)(C:Addr)(x:Str)(k:Nat)(sp:Sp):Prop:=∃f fd ps,iR P w K mg base jZ k f fd ps sp/\Mk K C f/\Binds K fd ps []/\mg x=some (.ref C)
section
variable {P:a5y}{w:World}{K:a5w}{mg:Str->Option Value}{base:Heap}
theorem gR{C:Addr}{m qual:Str}{st:Stmt}{f:Addr}{oc:Value}{od an:Option Addr}{ip:Array (Option Value)}{kV doc pm aD ct:Value} (a:PySem.W.findIn K (.ref C) m=some (some (.ref f)))(i:PySem.W.isFn K (.ref f)=true) (l:K.lookup f=some ⟨oc,od,.func (PySem.W.fnOf m qual (kP st) (j6 st) (aM st) .none kV doc pm an aD ct),ip⟩) (c:PySem.W.codeIn K aD qual=true)(k:PySem.W.keepIn K (.ref f)=true):MA K C m qual st:=⟨f,_,⟨a,i,k⟩,EF l c k⟩
theorem a3x{h:Heap}{C:Addr}{x qual:Str}{st:Stmt}{f:Addr}{oc:Value}{od an:Option Addr}{ip:Array (Option Value)}{kV doc pm aD ct:Value}(X:K.In h)(G:h.Ns mainGlobals mg) (aC:PySem.W.nsIn K mainGlobals x=some (some (.ref C)))(mk:PySem.W.makesIn K C=true)(kc:PySem.W.keepIn K (.ref C)=true) (a:PySem.W.findIn K (.ref C) "__init__"=some (some (.ref f)))(i:PySem.W.isFn K (.ref f)=true) (l:K.lookup f=some ⟨oc,od,.func (PySem.W.fnOf "__init__" qual (kP st) (j6 st) (aM st) .none kV doc pm an aD ct),ip⟩) (c:PySem.W.codeIn K aD qual=true)(k:PySem.W.keepIn K (.ref f)=true):CA K mg C x qual st:=⟨Af X G aC,f,_,⟨mk,a,i,kc⟩,EF l c k⟩
theorem MA.has{C:Addr}{m qual:Str}{st:Stmt}{N ps:List Str}{k:Nat}{sp:Sp}(F:MA K C m qual st)(S:bc N ps (aM st))(len:∀vs H Q E,sp vs H Q E->vs.length=ps.length) (hb:∀(kV doc pm:Value)(an:Option Addr)(aD ct:Value)(us:List Value),us.length=ps.length->bindArgs (PySem.W.fnOf m qual (kP st) (j6 st) (aM st) .none kV doc pm an aD ct) ⟨us,[]⟩=pure (ps.zip us)) (mS:∀(f:Addr)(aD:Value)(A:a5A)(outer:List Env)(s:a5x)(H:Hp)(vs:List V)(Q:VK)(E:XK),cX k (A.deeper (envOfC qual (aM st) s.heap.objs.size f aD))->sp vs H Q E->∃t,iQ (mY jZ P w K mg base N qual (aM st) f aD A outer s H E).pX (j6 st) t/\t {nx:=fun _ H'=>Q .aW H',rt:=Q} (start N vs) H):cI P w K mg base C m (k+1) sp:=by obtain⟨f,fd,hm,F⟩:=F.ex;exact⟨f,fd,ps,F.ok S len fun aD A outer s H vs Q E=>mS f aD A outer s H vs Q E,hm,F.binds hb⟩
theorem CA.has{C:Addr}{x qual:Str}{st:Stmt}{N ps:List Str}{k:Nat}{sp:Sp}(F:CA K mg C x qual st)(S:bc N ps (aM st))(len:∀vs H Q E,sp vs H Q E->vs.length=ps.length) (hb:∀(kV doc pm:Value)(an:Option Addr)(aD ct:Value)(us:List Value),us.length=ps.length->bindArgs (PySem.W.fnOf "__init__" qual (kP st) (j6 st) (aM st) .none kV doc pm an aD ct) ⟨us,[]⟩=pure (ps.zip us)) (mS:∀(f:Addr)(aD:Value)(A:a5A)(outer:List Env)(s:a5x)(H:Hp)(vs:List V)(Q:VK)(E:XK),cX k (A.deeper (envOfC qual (aM st) s.heap.objs.size f aD))->sp vs H Q E->∃t,iQ (mY jZ P w K mg base N qual (aM st) f aD A outer s H E).pX (j6 st) t/\t {nx:=fun _ H'=>Q .aW H',rt:=Q} (start N vs) H):A3 P w K mg base C x (k+1) sp:=by obtain⟨f,fd,hm,F'⟩:=F.ex;exact⟨f,fd,ps,F'.ok S len fun aD A outer s H vs Q E=>mS f aD A outer s H vs Q E,hm,F'.binds hb,F.mgC⟩
end
section
variable {X:Cx}{k:Nat}{x m:Str}{C:Addr}{p pos apos:Pos}{o e:Expr}{es:List Expr}{t:TA}{ta:TE}{sp:Sp}
inductive FU(C:Addr)(m:Str)(sp:Sp)(t:TA)(σ:St)(Q:VK)(x:V)(H1:Hp):Prop |mk (a:_)(dx:_)(fs:_)(h0:x= .ref a)(h1:H1 a=some (.ins C dx fs))(h2:fs.lookup m=none)(h3:t σ H1 fun vs H2=>sp (x::vs) H2 Q E0):FU C m sp t σ Q x H1
def He(C:Addr)(m:Str)(sp:Sp)(ta:TE)(t:TA):TE:=fun σ H Q=>ta σ H fun x H1=>FU C m sp t σ Q x H1
theorem Lh{σ:St}{Q:VK}{x:V}{H1:Hp}:xj C m sp [] E0 t σ Q x H1=FU C m sp t σ Q x H1:=by
 have e1:(fun(vs:List V) H1=>sp (x::(vs++[])) H1 Q E0)=fun vs H1=>sp (x::vs) H1 Q E0:=by funext vs H1;rw[Gr]
 refine propext ⟨fun⟨a,dx,fs,h0,h1,h2,h3⟩=>⟨a,dx,fs,h0,h1,h2,?_⟩,fun⟨a,dx,fs,h0,h1,h2,h3⟩=>⟨a,dx,fs,h0,h1,h2,?_⟩⟩
 ·rw[<-e1];exact h3
 ·rw[e1];exact h3
theorem vm{pl:Sem Bool}(F:cI X.prog X.w X.K X.mg X.base C m k sp)(c:jt X.K C)(hr:cX k X.A)(he:PE X o ta)(ha:PA X (e::es) t) (kJ:starEach (e::es) X.env=(false,eval e X.env)::starEach es X.env:=by rfl)(gU:(backTo pos (starEach es X.env)).any (·.1)=false:=by rfl) (ht:eval (.Call (.Attribute o m apos) (e::es) [] pos) X.env=(do
     let ov<-eval o X.env
     standAt apos.atName
     let(f,first)<-holding [ov] (getMethod ov m pl)
     callWith pos f first (backTo pos (starEach (e::es) X.env)) (backToKw pos (keywordEach [] X.env))):=by rfl): PE X (.Call (.Attribute o m apos) (e::es) [] pos) (He C m sp ta t):=by
  obtain⟨f,fd,ps,F,hm,hb⟩:=F;have h:=VH (pos:=pos) (apos:=apos) (pl:=pl) he c hm F hr hb .nil yz ha kJ gU ht;intro pins s σ H Q I hq;refine h pins s σ H Q I ?_;show ta σ H fun x H1=>xj C m sp [] E0 t σ Q x H1;simp only[Lh];exact hq
theorem iE{pl:Sem Bool}(F:cI X.prog X.w X.K X.mg X.base C m k sp)(c:jt X.K C)(hr:cX k X.A)(he:PE X o ta) (ht:eval (.Call (.Attribute o m apos) [] [] pos) X.env=(do
     let ov<-eval o X.env
     standAt apos.atName
     let(f,first)<-holding [ov] (getMethod ov m pl)
     callWith pos f first (backTo pos (starEach [] X.env)) (backToKw pos (keywordEach [] X.env))):=by rfl): PE X (.Call (.Attribute o m apos) [] [] pos) (He C m sp ta nS):=by
  obtain⟨f,fd,ps,F,hm,hb⟩:=F;have h:=VG (pos:=pos) (apos:=apos) (pl:=pl) he c hm F hr hb .nil yz ht;intro pins s σ H Q I hq;refine h pins s σ H Q I ?_;show ta σ H fun x H1=>xj C m sp [] E0 nS σ Q x H1;simp only[Lh];exact hq
def Sv(C:Addr)(sp:Sp)(t:TA):TE:=fun σ H Q=>t σ H fun vs H1=>∀x dx,H1 x=none->H1 dx=none->dx≠x->sp (.ref x::vs) (upd (upd H1 dx (.own x)) x (.ins C dx [])) (fun v H2=>v= .aW/\Q (.ref x) H2) E0
theorem Ku(F:A3 X.prog X.w X.K X.mg X.base C x k sp)(hr:cX (k+1) X.A)(hg:Gl X x)(ha:PA X (e::es) t)(jP:(x==("__debug__":Str))=false:=by decide) (he:starEach (e::es) X.env=(false,eval e X.env)::starEach es X.env:=by rfl)(gU:(backTo pos (starEach es X.env)).any (·.1)=false:=by rfl): PE X (.Call (.Name x p) (e::es) [] pos) (Sv C sp t):=by
  obtain⟨f,fd,ps,F,M,hb,hm⟩:=F;have h:=VI (pos:=pos) (p:=p) M F hr hg hm hb .nil yz ha jP he gU;intro pins s σ H Q I hq;refine h pins s σ H Q I ?_;have e1:(fun(vs:List V) H1=>∀x dx,H1 x=none->H1 dx=none->dx≠x->sp (.ref x::(vs++[])) (upd (upd H1 dx (.own x)) x (.ins C dx [])) (fun v H2=>v= .aW/\Q (.ref x) H2) E0) =fun vs H1=>∀x dx,H1 x=none->H1 dx=none->dx≠x->sp (.ref x::vs) (upd (upd H1 dx (.own x)) x (.ins C dx [])) (fun v H2=>v= .aW/\Q (.ref x) H2) E0:=by funext vs H1;rw[Gr]
  show t σ H fun vs H1=>∀x dx,H1 x=none->H1 dx=none->dx≠x->sp (.ref x::(vs++[])) (upd (upd H1 dx (.own x)) x (.ins C dx [])) (fun v H2=>v= .aW/\Q (.ref x) H2) E0;rw[e1];exact hq
inductive QK(C:Addr)(x:Str)(Q:VK)(v:V)(H1:Hp):Prop |mk (a dx:Addr)(fs:List (Str×V))(u:V)(h0:v= .ref a)(h1:H1 a=some (.ins C dx fs))(h2:fs.lookup x=some u)(h3:Q u H1):QK C x Q v H1
theorem cE(T:jt X.K C)(hn:iy X.K C x)(he:PE X e ta)(hb:attributeBase e x X.env (eval e X.env)=eval e X.env:=by rfl): PE X (.Attribute e x pos) (fun σ H Q=>ta σ H fun v H1=>QK C x Q v H1):=by intro pins s σ H Q I h;refine a3I hb (aI (he pins s σ H _ I h) fun u s1 ⟨v,H1,I1,rx,a,dx,fs,w,ex,ea,l,q⟩=>?_);subst ex;obtain rfl:u=Value.ref a:=rx;exact MM I1 ea T hn l fun u' s2 I2 ru=>⟨w,H1,I2,ru,q⟩
inductive QH(C:Addr)(x:Str)(D:Ends)(σ:St)(y v:V)(H2:Hp):Prop |mk (a dx:Addr)(fs:List (Str×V))(h0:v= .ref a)(h1:H2 a=some (.ins C dx fs))(h2:fs.length<1000)(h3:D.nx σ (upd H2 a (.ins C dx (hJ x y fs)))):QH C x D σ y v H2
inductive QI(C a:Addr)(x:Str)(D:Ends)(σ:St)(z:V)(H3:Hp):Prop |mk (qM:Addr)(lQ:List (Str×V))(h0:H3 a=some (.ins C qM lQ))(h1:lQ.length<1000)(h2:D.nx σ (upd H3 a (.ins C qM (hJ x z lQ)))):QI C a x D σ z H3
inductive QJ(C:Addr)(x:Str)(tv:TE)(rd:V->V->Hp->VK->Prop)(D:Ends)(σ:St)(v:V)(H1:Hp):Prop |mk (a dx:Addr)(fs:List (Str×V))(u:V)(h0:v= .ref a)(h1:H1 a=some (.ins C dx fs))(h2:fs.lookup x=some u)(h3:tv σ H1 fun y H2=>rd u y H2 fun z H3=>QI C a x D σ z H3):QJ C x tv rd D σ v H1
theorem gO{value:Expr}{tv:TE}{pos':Pos}(T:jt X.K C)(hn:iy X.K C x)(ha:PE X o ta)(hv:PE X value tv)(hs:swapsWith value (some (.Attribute o x pos')) pos.line X.env=pure false:=by rfl): PS X (.Assign [.Attribute o x pos'] value pos) (fun D σ H=>tv σ H fun y H1=>ta σ H1 fun v H2=>QH C x D σ y v H2):=by intro pins s σ H D I h;refine plainObj_wpAny_Assign_Attribute (aI (hv pins s σ H _ I h) fun u s1 ⟨y,H1,I1,ry,q⟩=>aI (ha pins s1 σ H1 _ I1 q) fun ov s2 ⟨v,H2,I2,rx,a,dx,fs,ex,ea,l,q2⟩=>?_) hs;subst ex;obtain rfl:ov=Value.ref a:=rx;exact IB I2 ea T hn l ry fun s3 I3=>⟨σ,_,I3,q2⟩
theorem Vo{op:Operator}{rd:V->V->Hp->VK->Prop}{value:Expr}{tv:TE}{pA:Pos}(T:jt X.K C)(hn:iy X.K C x)(ha:PE X o ta)(hv:PE X value tv)(hop:a4c X op rd): PS X (.AugAssign (.Attribute o x pA) op value pos) (fun D σ H=>ta σ H fun v H1=>QJ C x tv rd D σ v H1):=by intro pins s σ H D I h;refine wpAny_AugAssign_AttributeAny (aI (ha pins s σ H _ I h) fun ov s1 ⟨v,H1,I1,rx,a,dx,fs,u,ex,ea,l,q⟩=>?_);subst ex;obtain rfl:ov=Value.ref a:=rx;refine MM I1 ea T hn l fun u s2 I2 ru=>aI (hv pins s2 σ H1 _ I2 q) fun w3 s3 ⟨y,H2,I3,ry,q3⟩=>aI (hop pins s3 σ H2 _ y u w3 _ I3 ru ry q3) fun w4 s4 ⟨z,H3,I4,rz,qM,lQ,lU,l',q4⟩=>?_;exact IB I4 lU T hn l' rz fun s5 I5=>⟨σ,_,I5,q4⟩
end
def bI(S:List Addr)(H H':Hp):Prop:=∀b o,H b=some o->b∉S->H' b=some o
theorem bI.refl(S:List Addr)(H:Hp):bI S H H:=fun _ _ e _=>e
theorem bI.of{S:List Addr}{H H':Hp}(s:ai H H'):bI S H H':=fun b o e _=>s b o e
theorem bI.trans{S:List Addr}{H H1 H2:Hp}(a:bI S H H1)(b:bI S H1 H2):bI S H H2:=fun c o e n=>b c o (a c o e n) n
theorem bI.mono{S S':List Addr}{H H1:Hp}(h:∀x,x∈S->x∈S')(a:bI S H H1):bI S' H H1:=fun c o e n=>a c o e fun z=>n (h c z)
theorem qP{S:List Addr}{H:Hp}{a:Addr}{o:HO}(h:a∈S):bI S H (upd H a o):=fun b o' e n=>by have hb:b≠a:=fun z=>n (by rw[z];exact h);rw[az hb];exact e
def FZ:HO->Prop | .lst _=>True | .ins _ _ _=>True | .dK _=>True | .nR _=>True |_=>False
def bG(H H':Hp):Prop:=∀b o,¬FZ o->H b=some o->H' b=some o
section
variable {K:a5w} {H H' H2:Hp}
theorem bG.refl:bG H H:=fun _ _ _ e=>e
theorem bG.trans(a:bG H H')(b:bG H' H2):bG H H2:=fun c o n e=>b c o n (a c o n e)
theorem ai.v(s:ai H H'):bG H H':=fun b o _ e=>s b o e
theorem bI.v{S:List Addr}(s:bI S H H')(h:∀x∈S,∀o,H x=some o->FZ o):bG H H':=fun b o n e=>s b o e fun z=>n (h b z o e)
theorem bG.upd{a:Addr}{o o':HO}(h:H a=some o)(m:FZ o):bG H (upd H a o'):=fun b p n e=>by
 have hb:b≠a:=fun z=>by rw[z,h]at e;cases e;exact n m
 rw[az hb];exact e
theorem aB.v{a:Addr}{xs:List V}(s:bG H H')(h:aB K H a xs):aB K H' a xs:=h.imp (fun r=>r.imp (s _ _ (fun z=>z)) fun⟨o,e⟩=>⟨o,s _ _ (fun z=>z) e⟩) id
mutual
theorem RD.v(s:bG H H'):∀{x:V}(d:a5z),dP d=true->RD K H x d->RD K H' x d |x,.none,_,h=>by simpa[RD]using h |x,.bool b,_,h=>by simpa[RD]using h |x,.int i,_,h=>by simpa[RD]using h |x,.str y,_,h=>by simpa[RD]using h |x,.list ds,n,h=>by simp[dP]at n |x,.tuple ds,n,h=>by rw[RD]at h⊢;obtain⟨a,xs,e,h1,h2⟩:=h;exact⟨a,xs,e,h1.v s,ay.v s ds (by simpa[dP]using n) h2⟩ |x,.dict _,_,h=>by simp[RD]at h
theorem ay.v (s:bG H H'):∀{xs:List V}(ds:List a5z),cm ds=true->ay K H xs ds->ay K H' xs ds |xs,[],_,h=>by simpa[ay]using h |xs,d::ds,n,h=>by rw[ay]at h⊢;rw[cm,fh]at n;obtain⟨y,ys,e,h1,h2⟩:=h;exact⟨y,ys,e,RD.v s d n.1 h1,ay.v s ds n.2 h2⟩
end
end
end L2
namespace Pn
section
variable {n:Nat}{own:Nat->Rat}{L:Nat->Option Nat}{r f:Int}
end
end Pn
namespace Ow
open Pn Ln Cn
end Ow
namespace Pn
section
variable {n:Nat}{own Dp:Nat->Rat}{L L':Nat->Option Nat}{r f:Int}
end
end Pn
namespace Pn
section
variable {n:Nat}{own Dp q:Nat->Rat}{L:Nat->Option Nat}{r f r' f':Int}
end
end Pn
namespace Ow
open Pn Ln Cn
end Ow
namespace Pn
section
variable {n:Nat}{own Dp:Nat->Rat}{L L':Nat->Option Nat}{r f:Int}{c:Nat}
end
end Pn
namespace Ow
open Pn
section
variable (j rate:Int)(os1 os2:List Itm)
end
end Ow
namespace Pn
section
variable {n:Nat}{own:Nat->Rat}{L:Nat->Option Nat}{r f:Int}
theorem a2a{g:Nat->Rat}{i:Nat}(hi:i<=n):fl n L f g i<=g i:=by
 rcases Nat.lt_or_ge i n with h|h
 ·cases e:L i with |none=>rw[tR h e];exact nE |some m=>rw[tT h e];exact fJ _ _
 · have:i=n:=by omega
   subst this;rw[tS];exact nE
theorem a29{g:Nat->Rat}(hf:0<=f)(h0:∀i,i<=n->0<=g i):∀i,i<=n->0<=fl n L f g i:=by
 refine down ?_ ?_
 ·rw[tS];exact h0 n (bp _)
 · intro i hi ih
   cases e:L i with |none=>rw[tR hi e];exact h0 i (by omega) |some m=>rw[tT hi e];exact jK (h0 i (by omega)) (LK ih (Yg hf))
end
end Pn
namespace Rn
open Pn Rt Ln
open Ow (topR ownF leadF Itm OkIs)
theorem zJ{n:Nat}{a b:Int}(hb:b≠0)(h2:b.natAbs<2^n):(Rat.divInt a b).den<2^n:=by obtain⟨-,e⟩:=yT (a:=a) hb;have l2:=Ar.Lu (p:=a) hb;omega
structure Dd(D:Nat)(q:Rat):Prop where
 nn:0<=q
 den:q.den<2^D
theorem Dd.mono{D E:Nat}{q:Rat}(h:Dd D q)(l:D<=E):Dd E q:=⟨h.nn,fF h.den (oX (by decide) l)⟩
theorem Dd.bd{D:Nat}{q:Rat}(h:Dd D q)(hl:q<=2000):Bd (D+11) q:=by
 have h1:=G5.mpr h.nn;have qE:¬((2000:Rat)<q):=xp.mpr hl;rw[Ab]at qE;have e1:(2000:Rat).num=2000:=rfl;have e2:(2000:Rat).den=1:=rfl;rw[e1,e2]at qE;have h2:q.num<=2000*(q.den:Int):=by omega
 refine⟨?_,fF h.den (oX (by decide) (by omega))⟩;have h3:=h.den;have h4:q.num.natAbs<=2000*q.den:=by omega
 have h5:(2:Nat)^(D+11)=2^D*2048:=by rw[Nat.pow_add]
 rw[h5];have h6:2000*q.den<2000*2^D:=Nat.mul_lt_mul_of_pos_left h3 (by decide);omega
theorem Dd.mn{D:Nat}{a b:Rat}(h1:Dd D a)(h2:Dd D b):Dd D (mn a b):=by rcases vO a b with e|e<;>rw[e]<;>assumption
theorem Dd.add{D:Nat}{q:Rat}(h:Dd D q){z:Int}(hz:0<=z):Dd D (q+(z:Rat)):=by
 refine⟨LK h.nn (by have:=Rat.intCast_le_intCast.mpr hz;exact this),?_⟩;rw[add_div,G6,G8];have e:(q.den:Int)*((1:Nat):Int)=(q.den:Int):=by omega
 rw[e];have hd:=q.den_pos;exact zJ (by omega) (by have:=h.den;omega)
theorem NC{a b:Int}(ha:0<=a)(hb:0<b):0<=Rat.divInt a b:=(ur hb).mpr ha
theorem div_pos{a b:Int}(ha:0<a)(hb:0<b):0<Rat.divInt a b:=by
 have h0:=NC (Gw ha) hb;refine G4 h0 fun e=>?_;have h2:0<=Rat.divInt (-a) b:=by rw[<-Rat.neg_divInt,<-e];decide
 have:=(ur hb).mp h2;omega
theorem Dd.mul{D m:Nat}{q:Rat}(h:Dd D q){a s:Int}(ha:0<=a)(hs:0<s)(hm:s.natAbs<2^m):Dd (D+m) (q*Rat.divInt a s):=by refine⟨Rat.mul_nonneg h.nn (NC ha hs),?_⟩;have h1:(Rat.divInt a s).den<2^m:=zJ (by omega) hm;rw[mul_div];have hd:=q.den_pos;have hd2:=(Rat.divInt a s).den_pos;refine zJ (mX _ _) ?_;rw[fc];exact jI (by have:=h.den;omega) (by omega)
theorem AA(rate sp:Int):Dd 14 (topR rate sp):=⟨Ow.xR _ _,zJ (by decide) (by decide)⟩
theorem xQ{rate sp:Int}(h1:1<=sp)(h2:sp<=20)(h3:10<=rate)(h4:rate<=200):topR rate sp<=1600:=by
 have e:(1600:Rat)=Rat.divInt 16000000 10000:=by decide+kernel
 rw[e];refine(Cn.NF (by decide)).mpr ?_;have hp:sp*rate<=20*200:=An h2 h4 (by omega) (by omega);have zl:0<=sp*rate:=iS (by omega) (by omega);rw[fb,fb,kh,jx];have:=An hp hp zl (by decide);omega
theorem W4{j rate:Int}{os:List Itm}(h1:1<=j)(h2:j<=50)(h3:10<=rate)(h4:rate<=200)(ho:OkIs os)(i:Nat):Dd 64 (ownF j rate os i):=⟨Ow.KJ _ _ _ _,(Ow.Dn h1 h2 h3 h4 ho i).den⟩
theorem a2b{D n:Nat}{g:Nat->Rat}{L:Nat->Option Nat}{f:Int}(hf:0<=f)(h:∀i,i<=n->Dd D (g i)):∀i,i<=n->Dd D (fl n L f g i):=by
 refine down ?_ ?_
 ·rw[tS];exact h n (bp _)
 · intro i hi ih
   cases e:L i with |none=>rw[tR hi e];exact h i (by omega) |some m=>rw[tT hi e];exact(h i (by omega)).mn (ih.add (iS hf (by omega)))
theorem a3D{j rate:Int}{o p:Itm}(h3:10<=rate)(h4:rate<=200)(ho:Ow.OkI o):Ow.betR j rate o p<=1600:=by cases o with |none=>rw[Ow.O4];decide+kernel |some q=>cases p with |none=>rw[Ow.zR];decide+kernel |some q'=>obtain⟨ns,sp⟩:=q;obtain⟨ms,sq⟩:=q';obtain⟨-,a1,a2⟩:=ho ns sp rfl;have ht:=xQ a1 a2 h3 h4;show Ow.mnO (mn (topR rate sp) (topR rate sq)) (Ow.cornO j ns ms)<=1600;cases Ow.cornO j ns ms with |none=>exact dc (fJ _ _) ht |some c=>exact dc (fJ _ _) (dc (fJ _ _) ht)
theorem W3{j rate:Int}{os:List Itm}(h3:10<=rate)(h4:rate<=200)(ho:OkIs os):∀i,ownF j rate os i<=1600 |0=>by show(0:Rat)<=1600;decide+kernel |i+1=>a3D h3 h4 (ho i)
abbrev fD:=Option (Rat × Int × Int)
def kr(r f:Int)(pc top R:Rat)(left:Int):fD->Rat |none=>mn (mn (pc+(r:Rat)) top) (R+((f*(2*left-1):Int):Rat)) |some (sq,st,gn)=>mn (mn (mn (pc+(r:Rat)) top) (R+((f*(2*left-1):Int):Rat))) (sq*Rat.divInt (2*(st-gn-1)+1) (2*st))
def my(r f:Int)(pc top R:Rat)(left:Int):fD->Rat |none=>mn (mn (pc+((2*r:Int):Rat)) top) (R+((2*f*(left-1):Int):Rat)) |some (sq,st,gn)=>mn (mn (mn (pc+((2*r:Int):Rat)) top) (R+((2*f*(left-1):Int):Rat))) (sq*Rat.divInt (st-gn-1) st)
def yH:fD->fD |none=>none |some (sq,st,gn)=>some (sq,st,gn+1)
def oM(D:Nat)(pc:Rat):fD->Prop |none=>True |some (sq,st,gn)=>0<=gn/\gn<=st/\st<=1000/\Dd D sq/\sq<=2000/\(st=0->pc=0)/\pc*(st:Rat)<=sq*((st-gn:Int):Rat)
def Halt(pc:Rat)(stp:fD):Prop:=stp≠none/\pc=0
theorem sM{D:Nat}{pc:Rat}{sq:Rat}{st gn:Int}(h:oM D pc (some (sq,st,gn)))(hp:0<=pc)(hn:¬Halt pc (some (sq,st,gn))):gn<st/\0<sq/\0<pc:=by
 obtain⟨g0,g1,g2,hd,hl,hz,hh⟩:=h;have wo:0<pc:=G4 hp fun e=>hn ⟨by simp,e.symm⟩;have kJ:gn<st:=by
  rcases Gv gn st with h|h
  ·exact h
  · have e:st-gn=0:=by omega
    rw[e]at hh;have e0:sq*((0:Int):Rat)=0:=Rat.mul_zero sq;rw[e0]at hh;exfalso;rcases Gv 0 st with h3|h3
    · have h4:(0:Rat)<(st:Rat):=QQ.mpr h3
      have h5:=Rat.mul_pos wo h4;exact absurd (Std.lt_of_lt_of_le h5 hh) (Rat.lt_irrefl)
    ·rw[hz (by omega)]at wo;exact absurd wo (Rat.lt_irrefl)
 refine⟨kJ,?_,wo⟩;refine G4 hd.nn fun e=>?_;rw[<-e,Rat.zero_mul]at hh;have h4:(0:Rat)<(st:Rat):=QQ.mpr (show(0:Int)<st by omega);exact absurd (Std.lt_of_lt_of_le (Rat.mul_pos wo h4) hh) (Rat.lt_irrefl)
section
variable {D:Nat}{r f:Int}{pc top R:Rat}{left:Int}{stp:fD}
theorem a2w:my r f pc top R left stp<=top:=by cases stp with |none=>exact dc (fJ _ _) (jm _ _) |some q=>obtain⟨sq,st,gn⟩:=q;exact dc (fJ _ _) (dc (fJ _ _) (jm _ _))
theorem Ll:kr r f pc top R left stp<=top:=by cases stp with |none=>exact dc (fJ _ _) (jm _ _) |some q=>obtain⟨sq,st,gn⟩:=q;exact dc (fJ _ _) (dc (fJ _ _) (jm _ _))
theorem a2x(hr:0<=r)(hf:0<=f)(hl:1<=left)(hp:Dd (D+10) pc)(ht:Dd (D+10) top)(hR:Dd (D+10) R)(hs:oM D pc stp)(hn:¬Halt pc stp):Dd (D+10) (my r f pc top R left stp):=by have h1:=(hp.add (z:=2*r) (by omega)).mn ht;have h2:=hR.add (z:=2*f*(left-1)) (iS (by omega) (by omega));cases stp with |none=>exact h1.mn h2 |some q=>obtain⟨sq,st,gn⟩:=q;obtain⟨a,b,c⟩:=sM hs hp.nn hn;obtain⟨g0,g1,g2,hd,hl,hz,hh⟩:=hs;exact(h1.mn h2).mn (hd.mul (m:=10) (by omega) (by omega) (by omega))
theorem Lo(hr:0<=r)(hf:0<=f)(hl:1<=left)(hp:Dd (D+10) pc)(ht:Dd (D+10) top)(hR:Dd (D+10) R)(hs:oM D pc stp)(hn:¬Halt pc stp):Dd (D+11) (kr r f pc top R left stp):=by have h1:=((hp.add (z:=r) (by omega)).mn ht).mono (show D+10<=D+11 by omega);have h2:=(hR.add (z:=f*(2*left-1)) (iS (by omega) (by omega))).mono (show D+10<=D+11 by omega);cases stp with |none=>exact h1.mn h2 |some q=>obtain⟨sq,st,gn⟩:=q;obtain⟨a,b,c⟩:=sM hs hp.nn hn;obtain⟨g0,g1,g2,hd,hl,hz,hh⟩:=hs;exact(h1.mn h2).mn (hd.mul (m:=11) (by omega) (by omega) (by omega))
theorem add_pos{x:Rat}{z:Int}(hx:0<=x)(hz:0<z):0<x+(z:Rat):=by have h1:((0:Int):Rat)<(z:Rat):=QQ.mpr hz;have h2:x+((0:Int):Rat)<x+(z:Rat):=Rat.add_lt_add_left.mpr h1;rw[show((0:Int):Rat)=0 from rfl,Rat.add_zero]at h2;exact Std.lt_of_le_of_lt hx h2
theorem DG{a b:Rat}(ha:0<a)(hb:0<b):0<mn a b:=by rcases vO a b with e|e<;>rw[e]<;>assumption
theorem Lm(hr:1<=r)(hf:1<=f)(hl:1<=left)(hp:0<=pc)(ht:0<top)(hR:0<=R)(hs:oM D pc stp)(hn:¬Halt pc stp):0<kr r f pc top R left stp:=by have h1:=DG (DG (add_pos hp (show 0<r by omega)) ht) (add_pos hR (show 0<f*(2*left-1)from gA (by omega) (by omega)));cases stp with |none=>exact h1 |some q=>obtain⟨sq,st,gn⟩:=q;obtain⟨a,b,c⟩:=sM hs hp hn;obtain⟨g0,g1,g2,hd,hl,hz,hh⟩:=hs;exact DG h1 (Rat.mul_pos b (div_pos (by omega) (by omega)))
theorem NB(a:Int):Rat.divInt a 1=(a:Rat):=by
 conv=>rhs;rw[<-oV (a:Rat)]
 rfl
theorem a2Z{a s:Int}(hs:0<s):Rat.divInt a s*(s:Rat)=(a:Rat):=by
 have e:(s:Rat)=Rat.divInt s 1:=by rw[NB]
 rw[e,QS _ _,Int.mul_one,Gu a s];have e2:Rat.divInt (s*a) s=Rat.divInt (s*a) (s*1):=by rw[Int.mul_one]
 rw[e2,Rat.divInt_mul_left (by omega),NB]
theorem T5(hs:oM D pc stp)(hp:0<=pc)(hn:¬Halt pc stp):oM D (my r f pc top R left stp) (yH stp):=by cases stp with |none=>trivial |some q=>
   obtain⟨sq,st,gn⟩:=q;obtain⟨a,b,c⟩:=sM hs hp hn;obtain⟨g0,g1,g2,hd,hl,hz,hh⟩:=hs;refine⟨by omega,by omega,g2,hd,hl,fun e=>by omega,?_⟩;have h1:my r f pc top R left (some (sq,st,gn))<=sq*Rat.divInt (st-gn-1) st:=jm _ _;have h2:(0:Rat)<=(st:Rat):=Rat.intCast_nonneg.mpr (by omega);have h3:=Rat.mul_le_mul_of_nonneg_right h1 h2;have h4:sq*Rat.divInt (st-gn-1) st*(st:Rat)=sq*((st-(gn+1):Int):Rat):=by rw[Rat.mul_assoc,a2Z (by omega)];congr 2;omega
   rw[h4]at h3;exact h3
end
end Rn
namespace L2
open PySem PySem.Spec PyProof.Rows
section
variable {κ : Type} [DecidableEq κ]
def fH(aA:List (κ×V))(k:κ):Option V:=(aA.find? fun kv=>decide (kv.1=k)).map (·.2)
def putK(aA:List (κ×V))(k:κ)(v:V):List (κ×V):=if(aA.any fun kv=>decide (kv.1=k))=true then aA.map (fun kv=>if kv.1=k then(kv.1,v)else kv)else aA++[(k,v)]
theorem Ap{p:κ×V}{r:List (κ×V)}{k:κ}(e:p.1=k):fH (p::r) k=some p.2:=by simp[fH,xy,e]
theorem Aq{p:κ×V}{r:List (κ×V)}{k:κ}(e:¬p.1=k):fH (p::r) k=fH r k:=by simp[fH,xy,e]
theorem GF(k:κ):∀aA:List (κ×V),(aA.any fun kv=>decide (kv.1=k))=(fH aA k).isSome
  |[]=>rfl |p::r=>by
    rw[qZ];by_cases e:p.1=k
    ·simp only[Ap e,cw e,Bool.true_or,Option.isSome_some]
    ·rw[Aq e,eu e,Bool.false_or];exact GF k r
theorem yY(aA:List (κ×V))(k:κ)(v:V):(putK aA k v).length<=aA.length+1:=by
 unfold putK;split
 ·rw[bS];omega
 ·rw[eZ,jw,Gm];omega
theorem iP.Zd{o:Option V}{u:Option Value}(r:iP o u):o.isSome=u.isSome:=by cases o with
 |none=>cases u with |none=>rfl |some _=>exact(show False from r).elim
 |some _=>cases u with |none=>exact(show False from r).elim |some _=>rfl
theorem KV.val{aA:List (κ×V)}{vs:List (κ×Value)}(r:KV aA vs)(k:κ):iP (fH aA k) (valueAt vs k):=by unfold KV at r;induction r with |nil=>exact True.intro |@cons p q ps qs h t ih=>
   obtain⟨h1,h2⟩:=h;by_cases e:p.1=k
   · have e':q.1=k:=h1.symm.trans e
     have b:valueAt (q::qs) k=some q.2:=by simp[valueAt,xy,e']
     rw[Ap e,b];exact h2
   · have e':¬q.1=k:=fun z=>e (h1.trans z)
     have b:valueAt (q::qs) k=valueAt qs k:=by simp[valueAt,xy,e']
     rw[Aq e,b];exact ih
theorem KV.any{aA:List (κ×V)}{vs:List (κ×Value)}(r:KV aA vs)(k:κ):(aA.any fun kv=>decide (kv.1=k))=vs.any fun kv=>decide (kv.1=k):=by unfold KV at r;induction r with |nil=>rfl |cons h t ih=>rw[qZ,qZ,ih,h.1]
theorem KV.CU{aA:List (κ×V)}{vs:List (κ×Value)}(r:KV aA vs)(k:κ){y:V}{u:Value}(ry:RelV y u): KV (aA.map fun kv=>if kv.1=k then(kv.1,y)else kv) (vs.map fun kv=>if kv.1=k then(kv.1,u)else kv):=by unfold KV at r⊢;induction r with |nil=>exact .nil |@cons p q ps qs h t ih=>
    rw[nM,nM];refine .cons ?_ ih;obtain⟨h1,h2⟩:=h;by_cases e:p.1=k
    ·rw[aP e,aP (h1.symm.trans e)];exact⟨h1,ry⟩
    ·rw[aV e,aV (fun z=>e (h1.trans z))];exact⟨h1,h2⟩
theorem KV.put{aA:List (κ×V)}{vs:List (κ×Value)}(r:KV aA vs)(k:κ){y:V}{u:Value}(ry:RelV y u):KV (putK aA k y) (stored vs k u):=by
 unfold putK stored;rw[r.any k];by_cases e:(vs.any fun kv=>decide (kv.1=k))=true
 ·rw[aP e,aP e];exact r.CU k ry
 ·rw[aV e,aV e];exact Paired.snoc r ⟨rfl,ry⟩
theorem KV.length{aA:List (κ×V)}{vs:List (κ×Value)}(r:KV aA vs):aA.length=vs.length:=Paired.length r
end
theorem zb{P:a5y}{w:World}{k:Key}{u:Value}(r:RelV (kV k) u):(iJ P w).is k u=true:=by cases k with |inl i=>obtain⟨t,e⟩:=(show∃t,u=Value.int i t from r);subst e;exact Yo P w i t |inr x=>obtain⟨t,e⟩:=(show∃t,u=Value.str x t from r);subst e;exact Yn P w x t
theorem LU{P:a5y}{w:World}:∀{ks:List Key}{us:List Value},Vals (ks.map kV) us->ItemsAre (iJ P w) ks us |[],_,r=>by rw[List.map_nil]at r;cases r;exact .nil |k::ks,_,r=>by rw[nM]at r;cases r with |cons h t=>exact .cons (zb h) (LU t)
abbrev KT(H:Hp):List (List Key×V)->List (List Key×Addr×Value)->Prop:=Paired fun p q=>p.1=q.1/\H q.2.1=some (.tup (p.1.map kV))/\RelV p.2 q.2.2
theorem KT.val{H:Hp}{aA:List (List Key×V)}{xs:List (List Key×Addr×Value)}(r:KT H aA xs)(k:List Key):iP (fH aA k) ((atKey xs k).map (·.2)):=by induction r with |nil=>exact True.intro |@cons p q ps qs h t ih=>
   obtain⟨h1,_,h2⟩:=h;by_cases e:p.1=k
   · have e':q.1=k:=h1.symm.trans e
     have b:atKey (q::qs) k=some q.2:=by simp[atKey,xy,e']
     rw[Ap e,b];exact h2
   · have e':¬q.1=k:=fun z=>e (h1.trans z)
     have b:atKey (q::qs) k=atKey qs k:=by simp[atKey,xy,e']
     rw[Aq e,b];exact ih
theorem KT.CU{H:Hp}{aA:List (List Key×V)}{xs:List (List Key×Addr×Value)}(r:KT H aA xs)(k:List Key){y:V}{u:Value}(ry:RelV y u): KT H (aA.map fun kv=>if kv.1=k then(kv.1,y)else kv) (xs.map (putAt k u)):=by induction r with |nil=>exact .nil |@cons p q ps qs h t ih=>
    rw[nM,nM];refine .cons ?_ ih;obtain⟨h1,h2,h3⟩:=h;unfold putAt;by_cases e:p.1=k
    ·rw[aP e,aP (h1.symm.trans e)];exact⟨h1,h2,ry⟩
    ·rw[aV e,aV (fun z=>e (h1.trans z))];exact⟨h1,h2,h3⟩
theorem KT.put{H:Hp}{aA:List (List Key×V)}{xs:List (List Key×Addr×Value)}(r:KT H aA xs)(k:List Key){b:Addr}{y:V}{u:Value}(hb:H b=some (.tup (k.map kV)))(ry:RelV y u): KT H (putK aA k y) (storedH xs k b u):=by
  have e:(aA.any fun kv=>decide (kv.1=k))=(atKey xs k).isSome:=by rw[GF,(r.val k).Zd,Option.isSome_map]
  unfold putK storedH;rw[e];by_cases q:(atKey xs k).isSome=true
  ·rw[aP q,aP q];exact r.CU k ry
  ·rw[aV q,aV q];exact Paired.snoc r ⟨rfl,hb,ry⟩
theorem KT.keeps{H H':Hp}{aA:List (List Key×V)}{xs:List (List Key×Addr×Value)}(r:KT H aA xs)(ht:∀b ys,H b=some (.tup ys)->H' b=some (.tup ys)):KT H' aA xs:=Paired.DI r fun _ _ z=>⟨z.1,ht _ _ z.2.1,z.2.2⟩
section
variable {P:a5y}{w:World}{H:Hp}{h:Heap}{a:Addr}
theorem K4{u:HO}(ok:du P w H h)(e:Rd H a u):fN P w H h a u:=e.ok ok
theorem Ff{aA:List (Key×V)}(ok:du P w H h)(e:Rd H a (.dK aA)):aA.length<=sizeLine/\(a==sysModules)=false/\∃vs,KV aA vs/\h.DictOf (iJ P w) a vs:=show fN P w H h a (.dK aA)from K4 ok e
theorem Nz{aA:List (Key×V)}(ok:du P w H h)(e:H a=some (.dK aA)):aA.length<=sizeLine/\(a==sysModules)=false/\∃vs,KV aA vs/\h.DictOf (iJ P w) a vs:=Ff ok (.inl e)
theorem DY{ks:List Key}(ok:du P w H h)(e:H a=some (.tup (ks.map kV))):(tupleKind (iJ P w)).is h ks a:=by obtain⟨_,its,r,o,h1,h2,n,h3⟩:=(show fN P w H h a (.tup (ks.map kV))from ok a _ e);exact⟨o,its.toArray,n,h1,h2,h3,by simpa using LU r⟩
theorem Fb{aA:List (List Key×V)}(ok:du P w H h)(e:Rd H a (.dT aA)):aA.length<=sizeLine/\(a==sysModules)=false/\∃xs,KT H aA xs/\h.DictOfH (tupleKind (iJ P w)) a xs:=by
  obtain⟨z,y,xs,r,o,es,ep,h1,h2,h3,h4,h5⟩:=(show fN P w H h a (.dT aA)from K4 ok e);refine⟨z,y,xs,r,o,es,ep,h1,h2,h3,h4,fun x hx=>?_,h5⟩;have all:∀{l:List (List Key×V)}{m:List (List Key×Addr×Value)},KT H l m->∀x∈m,(tupleKind (iJ P w)).is h x.1 x.2.1:=by intro l m q;induction q with |nil=>intro x hx;exact nomatch hx |@cons p q ps qs hq t ih=>
     intro x hx;rcases bW.mp hx with e|hx
     · subst e
       exact DY ok (by rw[<-hq.1];exact hq.2.1)
     ·exact ih x hx
  exact all r x hx
theorem a2N{aA:List (List Key×V)}(ok:du P w H h)(e:H a=some (.dT aA)):aA.length<=sizeLine/\(a==sysModules)=false/\∃xs,KT H aA xs/\h.DictOfH (tupleKind (iJ P w)) a xs:=Fb ok (.inl e)
end
def qU(H:Hp)(a:Addr)(y:V)(r:Option V):Prop:=(∃aA k,Rd H a (.dK aA)/\y=kV k/\r=fH aA k)\/∃aA k b,Rd H a (.dT aA)/\y= .ref b/\H b=some (.tup (k.map kV))/\r=fH aA k
def oS(H:Hp)(a:Addr)(y v:V)(H':Hp):Prop:=(∃aA k,H a=some (.dK aA)/\y=kV k/\aA.length<sizeLine/\H'=upd H a (.dK (putK aA k v)))\/ ∃aA k b,H a=some (.dT aA)/\y= .ref b/\H b=some (.tup (k.map kV))/\aA.length<sizeLine/\H'=upd H a (.dT (putK aA k v))
theorem qU.k{H:Hp}{a:Addr}{aA:List (Key×V)}{k:Key}(e:H a=some (.dK aA)):qU H a (kV k) (fH aA k):=.inl ⟨aA,k,.inl e,rfl,rfl⟩
theorem oS.k{H:Hp}{a:Addr}{aA:List (Key×V)}{k:Key}{v:V}(e:H a=some (.dK aA))(hl:aA.length<sizeLine):oS H a (kV k) v (upd H a (.dK (putK aA k v))):=.inl ⟨aA,k,e,rfl,hl,rfl⟩
section
variable {X:Cx}{pins:List (Addr×Obj)}{σ:St}{H:Hp}{s:a5x}{a:Addr}{y v:V}{u r:Value}{o:Option V}{A:a5A}{E:Value->a5x->Prop}
theorem Inv.big(I:Inv X pins σ H s):sysModules<s.heap.objs.size:=by have h:mainGlobals<s.heap.objs.size:=(I.mod.glob.keeps I.bk).lt;exact Gf (by decide) h
theorem a35{Q:Value->a5x->Prop}(hu:A.units+1<cLine)(I:Inv X pins σ H s)(g:qU H a y (some v))(ry:RelV y u)(h:∀w' s',Inv X pins σ H s'->RelV v w'->Q w' s'): wpAny (model X.prog X.w) A (getItem (.ref a) u) Q E s:=by
  rcases g with⟨aA,k,e,ey,l⟩|⟨aA,k,b,e,ey,eb,l⟩
  · subst ey
    obtain⟨z,hd,vs,rel,dd⟩:=Ff I.hok e;obtain⟨w',hw,gZ⟩:=iP.some_of (v:=v) (o:=valueAt vs k) (by rw[l];exact rel.val k);exact wpAny_getItem_of (zb ry) dd.mapOf hw (h w' _ (I.tok _) gZ)
  · subst ey
    cases(show u=Value.ref b from ry);obtain⟨z,hd,xs,rel,dd⟩:=Fb I.hok e;obtain⟨w',hw,gZ⟩:=iP.some_of (v:=v) (o:=(atKey xs k).map (·.2)) (by rw[l];exact rel.val k);obtain⟨p,hp,ZZ⟩:=Option.map_eq_some_iff.mp hw;refine wpAny_getItem_heap (tupleKind_room_in1 hu) (DY I.hok eb) dd hp ?_;rw[ZZ];exact h w' _ (I.tok _) gZ
theorem Fi{h':Heap}{t':Nat}{ob:HO}(I:Inv X pins σ H s)(mu:xc (H a))(hs:Heap.SameBut a s.heap h')(he:∃q,h'.get? a=some q)(new:fN X.prog X.w (upd H a ob) h' a ob): Inv X pins σ (upd H a ob) {s with heap:=h',toks:=t'}:=I.write (x:=a) (e:=a) mu (.inl rfl) (fun b q hb z=>(hs.2 b hb).trans z) he new
theorem NA{P:a5y}{w:World}{H':Hp}{h':Heap}{aA:List (Key×V)}{vs:List (Key×Value)}(z:aA.length<=sizeLine)(hd:(a==sysModules)=false)(rel:KV aA vs)(dd:h'.DictOf (iJ P w) a vs): fN P w H' h' a (.dK aA):=⟨z,hd,vs,rel,dd⟩
theorem a34{H':Hp}{Q:Unit->a5x->Prop}(hu:A.units+1<cLine)(I:Inv X pins σ H s)(g:oS H a y v H')(ry:RelV y u)(rv:RelV v r)(h:∀s',Inv X pins σ H' s'->Q () s'): wpAny (model X.prog X.w) A (setItem (.ref a) u r) Q E s:=by
  rcases g with⟨aA,k,e,ey,l,eH⟩|⟨aA,k,b,e,ey,eb,l,eH⟩
  · subst ey eH
    obtain⟨z,hd,vs,rel,dd⟩:=Nz I.hok e;have hz:vs.length<=sizeLine:=by rw[<-rel.length];exact z
    have hl:(putK aA k v).length<=sizeLine:=by have:=yY aA k v;omega
    refine wpAny_setItem_pairs (hsz:=hz) (zb ry) dd fun h' qN hs=>h _ ?_;have he:∃q,h'.get? a=some q:=let⟨q,_,_,hq,_⟩:=qN;⟨q,hq⟩;exact Fi I (by rw[e];exact True.intro) hs he (NA hl hd (rel.put k rv) qN)
  · subst ey eH
    cases(show u=Value.ref b from ry);obtain⟨z,hd,xs,rel,dd⟩:=a2N I.hok e;have hz:xs.length<=sizeLine:=by rw[<-Paired.length rel];exact z
    have hl:(putK aA k v).length<=sizeLine:=by have:=yY aA k v;omega
    refine wpAny_setItem_heap (hsz:=hz) (tupleKind_room_in1 hu) (DY I.hok eb) dd fun h' qN hs=>h _ ?_;obtain⟨q,es,ep,hq,h2,h3,h4,_,h5⟩:=qN;refine Fi I (by rw[e];exact True.intro) hs ⟨q,hq⟩ ⟨hl,hd,_,(rel.put k eb rv).keeps fun c ys ec=>?_,q,es,ep,hq,h2,h3,h4,h5⟩;rw[az (vI ec e (fun z=>nomatch z))];exact ec
end
section
variable {X:Cx}{pins:List (Addr×Obj)}{σ:St}{H:Hp}{s:a5x}{a:Addr}{aA:List (Key×V)}{k:Key}{u:Value}{A:a5A}{E:Value->a5x->Prop}
end
def OA(i:Expr):Prop:=∀ov iv,subscripted i false ov iv=operate [ov,iv] (getItem ov iv)
theorem SY{prog:a5y}{w:World}{A:a5A}{E:Value->a5x->Prop}{s:a5x}{env:Env}{value slice:Expr}{pos:Pos}{T id:String}{Q:Value->a5x->Prop} (hl:typeLookup (.type T) "__getitem__"=pure (some (.builtin id)))(hs:OA slice) (h:wpAny (model prog w) A (eval value env) (fun o s₁=>wpAny (model prog w) A (eval slice env) (fun i s₂=>s₂.TypeIs o T/\wpAny (model prog w) A (getItem o i) Q E s₂) E s₁) E s): wpAny (model prog w) A (eval (.Subscript value slice pos) env) Q E s:=by
  refine Subscript_ (kB h (fun o s₁ h₁=>kB h₁ (fun i s₂ h₂=>?_) fun _ _ x=>x) fun _ _ x=>x);obtain⟨hT,h₂⟩:=h₂;unfold subscriptTail;refine aF ?_;rw[getitemInPython_of_ne hT.not_modules];refine aF (wpAny_specialOf hT hl ?_);have fin:wpAny (model prog w) A (subscripted slice false o i) (fun r s₃=>wpAny (model prog w) A (letTemporaryGo value o r>>=fun _=>pure r) Q E s₃) E s₂:=by rw[hs o i];exact wpAny_operating (kB h₂ (fun r s₃ h₃=>aF (wpAny_letTemporaryGo (bT h₃))) fun _ _ x=>x)
  first |exact bT (aF fin) |exact aF (bT (aF fin)) |exact aF fin
theorem a30{X:Cx}{pins:List (Addr×Obj)}{σ:St}{H:Hp}{s:a5x}{a:Addr}{y:V}{o:Option V}(I:Inv X pins σ H s)(g:qU H a y o):s.TypeIs (.ref a) "dict":=by
 rcases g with⟨aA,k,e,_,_⟩|⟨aA,k,b,e,_,_,_⟩
 · obtain⟨_,_,vs,_,dd⟩:=Ff I.hok e
   exact dd.typeIs
 · obtain⟨_,_,xs,_,dd⟩:=Fb I.hok e
   exact dd.typeIs
inductive OI(Q:VK)(x:V)(y:V)(H2:Hp):Prop |mk (a:_)(v:_)(h0:x= .ref a)(h1:qU H2 a y (some v))(h2:Q v H2):OI Q x y H2
def SF(td ty:TE):TE:=fun σ H Q=>td σ H fun x H1=>ty σ H1 fun y H2=>OI Q x y H2
inductive Qa(D:Ends)(σ:St)(v:V)(x:V)(y:V)(H3:Hp):Prop |mk (a:_)(H4:_)(h0:x= .ref a)(h1:oS H3 a y v H4)(h2:D.nx σ H4):Qa D σ v x y H3
def Ub(td ty tv:TE):TS:=fun D σ H=>tv σ H fun v H1=>td σ H1 fun x H2=>ty σ H2 fun y H3=>Qa D σ v x y H3
section
variable {X:Cx}{o i e value:Expr}{pos pos' pA:Pos}{td ty tv:TE}
theorem cu(hu:X.A.units+1<cLine)(ho:PE X o td)(hi:PE X i ty)(hs:OA i):PE X (.Subscript o i pos) (SF td ty):=by intro pins s σ H Q I h;refine SY PySem.F.slot_dict_getitem.lookup hs (aI (ho pins s σ H _ I h) fun u s1 ⟨x,H1,I1,rx,q1⟩=>aI (hi pins s1 σ H1 _ I1 q1) fun iv s2 ⟨y,H2,I2,ry,a,v,ex,g,q2⟩=>?_);subst ex;obtain rfl:u=Value.ref a:=rx;exact⟨a30 I2 g,a35 hu I2 g ry fun w' s3 I3 gZ=>⟨v,H2,I3,gZ,q2⟩⟩
theorem fI(hu:X.A.units+1<cLine)(ho:PE X o td)(hi:PE X i ty)(hv:PE X value tv)(hs:swapsWith value (some (.Subscript o i pos')) pos.line X.env=pure false): PS X (.Assign [.Subscript o i pos'] value pos) (Ub td ty tv):=by intro pins s σ H D I h;refine wpAny_Assign_Subscript (aI (hv pins s σ H _ I h) fun r s1 ⟨v,H1,I1,rv,q1⟩=>aI (ho pins s1 σ H1 _ I1 q1) fun u s2 ⟨x,H2,I2,rx,q2⟩=>aI (hi pins s2 σ H2 _ I2 q2) fun iv s3 ⟨y,H3,I3,ry,a,H4,ex,g,q3⟩=>?_) hs;subst ex;obtain rfl:u=Value.ref a:=rx;exact a34 hu I3 g ry rv fun s4 I4=>⟨σ,H4,I4,q3⟩
end
theorem a2X{P:a5y}{w:World}{H:Hp}(h:Heap)(hb:sysModules<h.objs.size):fN P w H (h.push {cls:=.type "dict",data:=.dict #[]}) h.objs.size (.dK []):=⟨fV _,Aa.mpr (cC (eV hb)),[],.nil,Heap.DictOf.new h⟩
section
variable {X:Cx} {pos:Pos}
end
def AD:List (TE×TE)->St->Hp->(List (V×V)->Hp->Prop)->Prop |[],_,H,Q=>Q [] H |(tk,tv)::r,σ,H,Q=>tk σ H fun x H1=>tv σ H1 fun y H2=>AD r σ H2 fun ps H3=>Q ((x,y)::ps) H3
abbrev VV:List (V×V)->List (Value×Value)->Prop:=Paired fun p q=>RelV p.1 q.1/\RelV p.2 q.2
def A1(X:Cx)(pos:Pos)(keys:List (Option Expr))(values:List Expr)(m8:List (TE×TE)):Prop:=∀(pins:List (Addr×Obj))(s:a5x)(σ:St)(H:Hp)(Q:List (V×V)->Hp->Prop),Inv X pins σ H s->AD m8 σ H Q->wpAny (model X.prog X.w) X.A (evalPairs (pairTrees keys values X.env pos)) (fun vs s'=>∃ps H',Inv X pins σ H' s'/\VV ps vs/\Q ps H') X.xe s
theorem Vp{X:Cx}{pos:Pos}:A1 X pos [] [] []:=fun pins s σ H Q I h=>pairTrees_nil_walk ⟨[],H,I,.nil,h⟩
theorem yt{X:Cx}{pos:Pos}{k v:Expr}{ks:List (Option Expr)}{vs:List Expr}{tk tv:TE}{m8:List (TE×TE)}(hk:PE X k tk)(hv:PE X v tv)(hr:A1 X pos ks vs m8): A1 X pos (some k::ks) (v::vs) ((tk,tv)::m8):=fun pins s σ H Q I h=>pairTrees_cons_walk (aI (hk pins s σ H _ I h) fun u s1 ⟨x,H1,I1,rx,q1⟩=>aI (hv pins s1 σ H1 _ I1 q1) fun w2 s2 ⟨y,H2,I2,ry,q2⟩=>aI (hr pins s2 σ H2 _ I2 q2) fun ws s3 ⟨ps,H3,I3,rel,q3⟩=>⟨(x,y)::ps,H3,I3,.cons ⟨rx,ry⟩ rel,q3⟩)
def o8(aA more:List (Key×V)):List (Key×V):=more.foldl (fun acc kv=>putK acc kv.1 kv.2) aA
theorem KV.merge:∀{more:List (Key×V)}{rs:List (Key×Value)}{aA:List (Key×V)}{vs:List (Key×Value)},KV more rs->KV aA vs->KV (o8 aA more) (merged vs rs):=by intro more rs aA vs r;unfold KV at r;induction r generalizing aA vs with |nil=>intro q;exact q |@cons p q ps qs h t ih=>
   intro r0;have e:KV (putK aA p.1 p.2) (stored vs q.1 q.2):=by have:=r0.put p.1 h.2;rw[<-h.1];exact this
   exact ih e
theorem LF:∀(more aA:List (Key×V)),(o8 aA more).length<=aA.length+more.length |[],aA=>by show aA.length<=aA.length+0;omega |p::r,aA=>by have h1:=LF r (putK aA p.1 p.2);have h2:=yY aA p.1 p.2;show(o8 (putK aA p.1 p.2) r).length<=_;rw[jw];omega
theorem NV{P:a5y}{w:World}:∀{aA:List (Key×V)}{ws:List (Value×Value)},VV (aA.map fun kv=>(kV kv.1,kv.2)) ws->∃rs,Carries (iJ P w) ws rs/\KV aA rs |[],_,r=>by rw[List.map_nil]at r;cases r;exact⟨[],True.intro,.nil⟩ |p::aA,_,r=>by rw[nM]at r;cases r with |@cons a b as bs h t=>obtain⟨rs,c,q⟩:=NV (P:=P) (w:=w) t;obtain⟨b1,b2⟩:=b;exact⟨(p.1,b2)::rs,⟨zb h.1,rfl,c⟩,.cons ⟨rfl,h.2⟩ q⟩
def SE(m8:List (TE×TE)):TE:=fun σ H Q=>∀p,H p=none->AD m8 σ (upd H p (.dK [])) fun ps H2=>H2 p=some (.dK [])/\∃aA:List (Key×V),ps=aA.map (fun kv=>(kV kv.1,kv.2))/\aA.length<=15/\Q (.ref p) (upd H2 p (.dK (o8 [] aA)))
theorem VL{X:Cx}{pos:Pos}{keys:List (Option Expr)}{values:List Expr}{m8:List (TE×TE)}(h:A1 X pos keys values m8)(Ez:keys.all (·.isSome)=true)(hl:keys.length=values.length)(h0:keys≠[]) (h15:keys.length<=15):PE X (.Dict keys values pos) (SE m8):=by
  intro pins s σ H Q I q;have hn:=I.hok.fresh (bp s.heap.objs.size);have I1:=I.laid (a:=s.heap.objs.size) (o:=.dK []) (h':=s.heap.push {cls:=.type "dict",data:=.dict #[]}) (t':=s.toks) (fun _ _ q=>cg _ q) (bp _) (a2X s.heap I.big);refine wpAny_Dict_walk (knd:=iJ X.prog X.w) Ez hl h0 h15 (aI (h pins _ σ _ _ I1 (q _ hn)) fun ws s2 ⟨ps,H2,I2,rel,e,aA,ep,lk,q2⟩=>?_);subst ep;obtain⟨rs,c,rk⟩:=NV (P:=X.prog) (w:=X.w) rel;obtain⟨z,hd,vs0,r0,dd⟩:=Nz I2.hok e;cases r0;refine⟨rs,c,dd,fun h' qN hs=>⟨.ref s.heap.objs.size,_,?_,rfl,q2⟩⟩;have hz:(o8 [] aA).length<=sizeLine:=by have h1:=LF aA [];rw[Gm]at h1;rw[sizeLine_eq];omega
  have he:∃q,h'.get? s.heap.objs.size=some q:=let⟨q,_,_,hq,_⟩:=qN;⟨q,hq⟩;exact Fi I2 (by rw[e];exact True.intro) hs he (NA hz hd (rk.merge .nil) qN)
section
variable {X:Cx}{pins:List (Addr×Obj)}{σ:St}{H:Hp}{s:a5x}{a:Addr}{y d:V}{u r:Value}{o:Option V}{A:a5A}{E:Value->a5x->Prop}
end
section
variable {X:Cx}{o e f:Expr}{apos cW:Pos}{td ty tx:TE}
end
section
variable {X:Cx}{pins:List (Addr×Obj)}{σ:St}{H:Hp}{s:a5x}{a:Addr}{aA:List (Key×V)}{A:a5A}{E:Value->a5x->Prop}
end
section
variable {X:Cx}{pins:List (Addr×Obj)}{σ:St}{H:Hp}{s:a5x}{a:Addr}{y:V}{u:Value}{A:a5A}{E:Value->a5x->Prop}
end
end L2
namespace L2
open PySem PySem.Spec PyProof.Rows
section
variable {X:Cx}
end
theorem a1W{K:a5w}{mg:Str->Option Value}{x z:Str}{t:Tok}{h:Heap}(X:K.In h)(G:h.Ns mainGlobals mg)(a:PySem.W.nsIn K mainGlobals x=some (some (.str z t))):GV mg x (.str z):=⟨_,Af X G a,t,rfl⟩
end L2
set_option exponentiation.threshold 6000
namespace L2
open PySem PySem.Spec PyProof.Rows
section
variable {X:Cx}
theorem a3m:ek X (.type "str") (fun xs H Q=>(∃i,xs=[.int i]/\i.natAbs.log2<1920/\Q (.str (toString i)) H)\/∃z,xs=[.str z]/\Q (.str z) H):=by
 intro pins s σ H xs us Q I r h;rcases h with⟨i,rfl,hz,q⟩|⟨z,rfl,q⟩
 · obtain⟨u,rfl,t,rfl⟩:=vals1 r
   exact PySem.P.str_of_int hz ⟨.str _,H,I.tok _,⟨_,rfl⟩,q⟩
 · obtain⟨u,rfl,t,rfl⟩:=vals1 r
   exact PySem.P.str_of_str ⟨.str _,H,I,⟨_,rfl⟩,q⟩
theorem RX{i:Int}(h:i.natAbs<10^40):(Str.ofString (toString i)).length<=41:=by rw[PySem.ofString_length];exact int_text_length_le10 (k:=40) (by decide) h
theorem YI{i:Int}(h:i.natAbs<10^40):i.natAbs.log2<1920:=by
 by_cases h0:i.natAbs=0
 ·rw[h0];decide
 ·exact(Nat.log2_lt h0).mpr (Gf h (by decide))
end
end L2
namespace Tu
open Ln
end Tu
namespace Pn
theorem Li(a b:Rat):mn a b=mn b a:=Ac (jK (jm _ _) (fJ _ _)) (jK (jm _ _) (fJ _ _))
section
variable {n:Nat}{own Dp:Nat->Rat}{L L':Nat->Option Nat}{r f:Int}
end
end Pn
namespace Ow
open Pn Ln Cn Tu
end Ow
namespace Lw
open PySem PySem.Spec PyProof.Rows L2
def top(i:Nat):Stmt:=PySem.Challenge.pw_glidequeue_k44_two_runners.main.body.getD i (.Pass ⟨0,0,0,0⟩)
section
variable {P:a5y}{w:World}{K:a5w}{mg:Str->Option Value}{base:Heap}
inductive OW(vs:List V)(H:Hp)(Q:VK):Prop |mk (p:_)(many:_)(h0:vs=[.ref p,.int many])(h1:j9 H p)(h2:1<=many)(h3:many<=10^40)(h4:∀d H',0<=d->d<many->bL p H H'->Q (.int d) H'):OW vs H Q
def rE:Sp:=fun vs H Q _=>OW vs H Q
abbrev Bi:Stmt:=top 65
theorem IM:bc ["_law_bag_here","_law_many","_law_digit","_law_number_here","_law_room"] ["_law_bag_here","_law_many"] (aM Bi):=bh (by decide+kernel)
theorem Ww(F:FA K mg "_law_take" Bi)(B:bB mg):aj P w K mg base "_law_take" 1 rE:=by
 refine F.has IM (fun vs H Q E h=>?_) (fun _ _ _ _ _ _=>cP fun _ _=>rfl) (fun f aD A outer s H vs Q E hr h=>?_)
 · obtain⟨p,many,rfl,_⟩:=h
   rfl
 · obtain⟨p,many,rfl,⟨c,m,hp,ok⟩,h1,h2,k⟩:=h
   obtain⟨c0,m0,m1⟩:=id ok;have nd:=IM.nd;refine⟨_,(ah (bj (bK pT (aJ (aK K rfl) (pv 0) ag (fun _ _=>rfl)) ag (aX _)) (ah (aH (i:=2) nd rfl (Or.inl rfl) (au mx (aJ (aK K rfl) (pv 0) ag (fun _ _=>rfl)) (pv 1))) (ah (fi (au kF (aJ (aK K rfl) (pv 0) ag (fun _ _=>rfl)) (pv 1)) (pS (pv 0) ag set_list)) (ao (aG (pv 2))))) bE) (ah (aH (i:=3) nd rfl (Or.inl rfl) ag) (ah (aH (i:=4) nd rfl (Or.inl rfl) ag) (ah (lG fU (bK iH (pv 4) (pv 1) (aX _)) (ah (fi (au mx (au sj (au cF (au ba (aJ (aK K rfl) (pv 0) ag (fun _ _=>rfl)) ag) ag) ag) ag) (pS (pv 0) ag set_list)) (ah (aH (i:=3) nd rfl (Or.inl rfl) (au cF (au ba (pv 3) ag) (au mx (au ba (au kF (aJ (aK K rfl) (pv 0) ag (fun _ _=>rfl)) ag) ag) ag))) (ao (aH (i:=4) nd rfl (Or.inl rfl) (au ba (pv 4) ag)))))) (ao (aG (au mx (pv 3) (pv 1)))))))),?_⟩;refine⟨_,rfl,.inl ⟨p,_,0,.int c,rfl,rfl,aw.of hp,rfl,_,_,rfl,rfl,_,rfl,?_⟩⟩;refine cV (fun hc=>?_) (fun _=>?_)
   · refine⟨_,rfl,.inl ⟨p,_,0,.int c,rfl,rfl,aw.of hp,rfl,_,rfl,_,_,rfl,rfl,h1,?_⟩⟩
     refine⟨_,rfl,.inl ⟨p,_,0,.int c,rfl,rfl,aw.of hp,rfl,_,rfl,_,_,rfl,rfl,⟨h1,GB (by omega) h2⟩,?_⟩⟩;refine⟨_,rfl,p,_,0,0,rfl,rfl,hp,rfl,?_⟩;refine⟨_,rfl,?_⟩;exact k _ _ (m5 _ (by omega)) (p4 _ (by omega)) (bL.upd ⟨Int.ediv_nonneg c0 (by omega),m0,m1⟩)
   · refine kY (fun σ H2=>∃(v:Option V)(n r:Int),σ=[some (.ref p),some (.int many),v,some (.int n),some (.int r)]/\bL p H H2/\1<=r) (fun σ _=>match σ with|[_,_,_,_,some (.int r)]=>(many-r).toNat|_=>0) ?_ ?_ ?_
     ·exact⟨none,0,1,rfl,.refl ⟨c,m,hp,ok⟩,fG _⟩
     · rintro σ H2 ⟨v,n,r,rfl,bx,zj⟩
       obtain⟨c',m',tF,c0',m0',m1'⟩:=id bx.bag;refine⟨_,rfl,_,rfl,_,_,rfl,rfl,_,rfl,?_⟩;refine cV (fun hc=>?_) (fun hc=>?_)
       · have bZ:r<many:=ja hc
         refine⟨_,rfl,.inl ⟨p,_,1,.int m',rfl,rfl,aw.of tF,rfl,_,_,rfl,rfl,.of_right (bJ (by decide) (by decide)),_,_,rfl,rfl,_,_,rfl,rfl,⟨by decide,by decide,?_⟩,_,_,rfl,rfl,(by show(0:Int)<2147483629;decide),?_⟩⟩
         · have jS:(2:Nat)^64=18446744073709551616:=by decide
           rw[jS];omega
         refine⟨_,rfl,p,_,1,1,rfl,rfl,tF,rfl,?_⟩;have g0:0<=((m'*48271+7919)^(5:Int).toNat)%2147483629:=m5 _ (by decide);have g1:((m'*48271+7919)^(5:Int).toNat)%2147483629<2147483629:=p4 _ (by decide);have bx2:bL p H (L2.upd H2 p (.lst [.int c',.int (((m'*48271+7919)^(5:Int).toNat)%2147483629)])):=bx.trans (.upd ⟨c0',g0,Int.lt_trans g1 (by decide)⟩);refine⟨_,rfl,_,_,rfl,rfl,.of_right (bJ (by decide) (by decide)),_,rfl,.inl ⟨p,_,1,.int _,rfl,rfl,aw.of aO,rfl,_,_,rfl,rfl,⟨by decide,GB (by decide) (by decide)⟩,_,_,rfl,rfl,.of_right (bJ (by decide) (by decide)),_,_,rfl,rfl,(by show(0:Int)<1073741789;decide),_,_,rfl,rfl,?_⟩⟩;refine⟨_,rfl,_,_,rfl,rfl,.of_right (bJ (by decide) (by decide)),?_⟩;refine⟨⟨v,_,_,rfl,bx2,?_⟩,?_⟩
         ·omega
         · show(many-r*1073741789).toNat<(many-r).toNat
           omega
       · refine⟨_,rfl,_,rfl,_,_,rfl,rfl,h1,?_⟩
         exact k _ _ (m5 _ (by omega)) (p4 _ (by omega)) bx
     · rintro σ H2 Q1 Q2 hq ⟨v1,e1,v2,e2,i,j,e3,e4,kk,e5,q⟩
       exact⟨v1,e1,v2,e2,i,j,e3,e4,kk,e5,hq _ _ q⟩
inductive Q8(K:a5w)(vs:List V)(H:Hp)(Q:VK):Prop |mk (a:Addr)(ns:List Int)(at':Int)(h0:vs=[.ref a,.int at'])(h1:aw K H a (ns.map V.int))(h2:ns.length<=63)(h3:0<=at')(h4:at'<=100)(h5:∀p H',H p=none->j9 H' p->ai H H'->Q (.ref p) H'):Q8 K vs H Q
def Iq(K:a5w):Sp:=fun vs H Q _=>Q8 K vs H Q
abbrev Ct:Stmt:=top 64
theorem JL:bc ["_law_script","_law_at","_law_cell","_law_mix","_law_k"] ["_law_script","_law_at"] (aM Ct):=bh (by decide+kernel)
theorem LY{ns:List Int}{j:Nat}(h:j<ns.length):∃z,fo (ns.map V.int) (j:Int)=some (.int z):=⟨ns[j],a3M (by simp[h])⟩
theorem XF(F:FA K mg "_law_bag" Ct)(B:bB mg):aj P w K mg base "_law_bag" 1 (Iq K):=by
 refine F.has JL (fun vs H Q E h=>?_) (fun _ _ _ _ _ _=>cP fun _ _=>rfl) (fun f aD A outer s H vs Q E hr h=>?_)
 · obtain⟨a,ns,at',rfl,_⟩:=h
   rfl
 · obtain⟨a,ns,at',rfl,hS,hlen,h0,h1,k⟩:=h
   obtain⟨j,rfl⟩:∃j:Nat,at'=(j:Int):=⟨at'.toNat,by omega⟩;have nd:=JL.nd;refine⟨_,(ah (aH (i:=2) nd rfl (Or.inl rfl) ag) (ah (fW (bj (bK iH (pv 1) (aL (x:="len") (cU K rfl) rfl (B.at "len") cY (aa (pv 0) af)) (aX _)) (ao (aH (i:=2) nd rfl (Or.inl rfl) (aL (x:="abs") lW rfl (B.at "abs") nI (aa (aJ (aK K rfl) (pv 0) (pv 1) (fun _ _=>rfl)) af)))) bE)) (ah (aH (i:=3) nd rfl (Or.inl rfl) (au cF (au cF (au ba (au ba ag (pv 1)) (pv 1)) (au ba ag (pv 1))) ag)) (ah (jF fU rfl (vj rfl (B.at "range") (aa (aL (x:="min") (Fp rfl) rfl (B.at "min") QW (aa (aL (x:="len") (cU K rfl) rfl (B.at "len") cY (aa (pv 0) af)) (aa ag af))) af)) (aQ (i:=4) nd rfl (Or.inl rfl)) (ao (aH (i:=3) nd rfl (Or.inl rfl) (au mx (au sj (au cF (au cF (au ba (pv 3) ag) (au mx (aJ (aK K rfl) (pv 0) (pv 4) (fun _ _=>rfl)) ag)) (au ba (pv 4) (pv 4))) ag) ag)))) (ah (fW (bj (bK iH (pv 2) (au sj ag ag) (aX _)) (ao (aH (i:=2) nd rfl (Or.inl rfl) ag)) bE)) (ao (aG (dF (aa (pv 2) (aa (pv 3) af)))))))))),?_⟩;refine⟨fun σ H'=>H'=H/\∃c:Int,σ=[some (.ref a),some (.int (j:Int)),some (.int c),none,none]/\0<=c,?_,?_⟩
   · refine⟨_,rfl,_,rfl,a,_,rfl,.inl hS,_,_,rfl,rfl,_,rfl,?_⟩
     refine cV (fun hc=>?_) (fun _=>?_)
     · have hj:(j:Int)<((ns.map V.int).length:Int):=ja hc
       rw[bS]at hj;obtain⟨z,hz⟩:=LY (ns:=ns) (j:=j) (by omega);refine⟨_,rfl,_,rfl,.inl ⟨a,_,_,_,rfl,rfl,hS,hz,z,rfl,?_⟩⟩;exact⟨rfl,_,rfl,by split<;>omega⟩
     ·exact⟨rfl,0,rfl,fG _⟩
   rintro σ H' ⟨rfl,c,rfl,c0⟩;refine⟨_,rfl,_,_,rfl,rfl,.of_left (bJ (by decide) (by decide)),_,rfl,_,_,rfl,rfl,.of_right (bJ (by omega) (by omega)),_,rfl,_,_,rfl,rfl,.of_left (bJ (by decide) (by decide)),_,_,rfl,rfl,_,_,rfl,rfl,?_⟩;refine⟨_,rfl,a,_,rfl,.inl hS,_,_,rfl,_,rfl,?_,?_,?_⟩
   ·split<;>omega
   ·split<;>(try rw[bS])<;>omega
   refine wD (Pv:=fun i σ H2=>H2=H'/\∃(m:Int)(v:Option V),σ=[some (.ref a),some (.int (j:Int)),some (.int c),some (.int m),v]/\0<=m/\m<2147483648) ?_ ?_ ?_
   · refine⟨rfl,_,none,rfl,?_,?_⟩
     · have:(0:Int)<=(j:Int)*(j:Int):=iS (by omega) (by omega)
       rw[r8];omega
     · have:(j:Int)*(j:Int)<=100*100:=An (by omega) (by omega) (by omega) (by omega)
       rw[r8];omega
   · rintro i σ H2 hi ⟨rfl,m,v,rfl,m0,m1⟩
     have Em:i<ns.length:=by rw[bS]at hi;split at hi<;>omega
     obtain⟨z,hz⟩:=LY (ns:=ns) (j:=i) Em;rw[<-Int.zero_add (i:Int)]at hz;have ZE:0<=z%2147483647:=m5 _ (by decide);have ZC:z%2147483647<2147483647:=p4 _ (by decide);have a0t:(0:Int)<=(0+(i:Int))*(0+(i:Int)):=iS (by omega) (by omega);have hii:(0+(i:Int))*(0+(i:Int))<=100*100:=An (by omega) (by omega) (by omega) (by omega);refine⟨_,rfl,_,_,rfl,rfl,.of_right (bJ (by decide) (by decide)),_,rfl,_,rfl,.inl ⟨a,_,_,_,rfl,rfl,hS,hz,_,_,rfl,rfl,(by show(0:Int)<2147483647;decide),_,_,rfl,rfl,_,rfl,_,rfl,_,_,rfl,rfl,.of_right (bJ (by omega) (by omega)),_,_,rfl,rfl,_,_,rfl,rfl,⟨by decide,by decide,?_⟩,_,_,rfl,rfl,(by show(0:Int)<2147483629;decide),?_⟩⟩
     · have jS:(2:Nat)^64=18446744073709551616:=by decide
       rw[jS];generalize(0+(i:Int))*(0+(i:Int))=ii at a0t hii⊢;generalize z%2147483647=zz at ZE ZC⊢;omega
     ·exact⟨rfl,_,_,rfl,m5 _ (by decide),Int.lt_trans (p4 _ (by decide)) (by decide)⟩
   · rintro σ H2 ⟨rfl,m,v,rfl,m0,m1⟩
     refine⟨fun σ H3=>H3=H2/\∃c:Int,σ=[some (.ref a),some (.int (j:Int)),some (.int c),some (.int m),v]/\0<=c,?_,?_⟩
     · refine⟨_,rfl,_,_,rfl,rfl,⟨by decide,by decide,by decide⟩,_,_,rfl,rfl,_,rfl,?_⟩
       refine cV (fun hc=>?_) (fun _=>?_)
       ·exact⟨rfl,0,rfl,fG _⟩
       ·exact⟨rfl,c,rfl,c0⟩
     rintro σ H3 ⟨rfl,c,rfl,c0⟩;refine⟨_,rfl,_,rfl,(by show 2<=sizeLine;decide),fun p H4 nw=>?_⟩;exact k p H4 nw.no ⟨c,m,nw.at',c0,m0,m1⟩ nw.same
inductive Q3(vs:List V)(H:Hp)(Q:VK):Prop |mk (a:Int)(b:Int)(h0:vs=[.int a,.int b])(h1:Q (.int (Int.gcd a b)) H):Q3 vs H Q
def AY:Sp:=fun vs H Q _=>Q3 vs H Q
inductive PJ(vs:List V)(H:Hp)(Q:VK):Prop |mk (a:Int)(b:Int)(h0:vs=[.int a,.int b])(h1:b≠0)(h2:Wd b)(h3:∀t H',Nw H H' t (.tup [.int (Ar.lowP a b),.int (Ar.fQ a b)])->Q (.ref t) H'):PJ vs H Q
def rH:Sp:=fun vs H Q _=>PJ vs H Q
def tm(T:String):Bool:=gI T "int"&& !gI T "bool"
inductive PR(K:a5w)(vs:List V)(H:Hp)(Q:VK):Prop |mk (v:_)(T:_)(h0:vs=[v])(h1:qR K H v T)(h2:Q (.bl (tm T)) H):PR K vs H Q
def rK(K:a5w):Sp:=fun vs H Q _=>PR K vs H Q
abbrev Co:Stmt:=top 20
theorem JH:bc ["p","q","high","low"] ["p","q"] (aM Co):=bh (by decide+kernel)
theorem XB(F:FA K mg "common_divisor" Co)(B:bB mg):aj P w K mg base "common_divisor" 1 AY:=by
 refine F.has JH (fun vs H Q E h=>?_) (fun _ _ _ _ _ _=>cP fun _ _=>rfl) (fun f aD A outer s H vs Q E hr h=>?_)
 · obtain⟨a,b,rfl,_⟩:=h
   rfl
 · obtain⟨a,b,rfl,k⟩:=h
   have nd:=JH.nd;refine⟨_,(ah (lH (i:=2) (j:=3) rfl nd rfl rfl (by decide) rfl rfl (aa (aL (x:="abs") lW rfl (B.at "abs") nI (aa (pv 0) af)) (aa (aL (x:="abs") lW rfl (B.at "abs") nI (aa (pv 1) af)) af)) rfl) (ah (lG fU (bK (jj K rfl hr.units) (pv 3) ag (aX _)) (ao (lH (i:=2) (j:=3) rfl nd rfl rfl (by decide) rfl rfl (aa (pv 3) (aa (au mx (pv 2) (pv 3)) af)) rfl))) (ao (aG (pv 2))))),?_⟩;refine⟨_,rfl,_,rfl,_,rfl,_,rfl,_,_,rfl,?_⟩;refine kY (fun σ H2=>H2=H/\∃(x y:Int),σ=[some (.int a),some (.int b),some (.int x),some (.int y)]/\0<=x/\0<=y/\Int.gcd x y=Int.gcd a b) (fun σ _=>match σ with|[_,_,_,some (.int y)]=>y.natAbs|_=>0) ?_ ?_ ?_
   · refine⟨rfl,_,_,rfl,by split<;>omega,by split<;>omega,?_⟩
     have h1:(if a<0 then-a else a).natAbs=a.natAbs:=by split<;>omega
     have h2:(if b<0 then-b else b).natAbs=b.natAbs:=by split<;>omega
     unfold Int.gcd;rw[h1,h2]
   · rintro σ H2 ⟨rfl,x,y,rfl,x0,y0,e⟩
     refine⟨_,rfl,.inl ⟨_,_,rfl,rfl,_,rfl,?_⟩⟩;refine cV (fun hc=>?_) (fun hc=>?_)
     · have hy:y≠0:=by simpa using hc
       have iY:0<y:=by omega
       refine⟨_,rfl,_,rfl,_,rfl,_,_,rfl,rfl,iY,_,_,rfl,?_⟩;refine⟨⟨rfl,_,_,rfl,y0,m5 _ hy,(Ar.MN iY).trans e⟩,?_⟩;show(x%y).natAbs<y.natAbs;have:=m5 x hy;have:=p4 x iY;omega
     · have hy:y=0:=by simpa using hc
       subst hy;refine⟨_,rfl,?_⟩;rw[Int.gcd_zero_right]at e;have e2:x=((Int.gcd a b:Nat):Int):=by omega
       rw[e2];exact k
   · rintro σ H2 Q1 Q2 hq ⟨v1,e1,h⟩
     refine⟨v1,e1,?_⟩;rcases h with⟨i,j,e3,e4,kk,e5,q⟩|⟨d,e,r1,r2,s1,s2,kk,e5,q⟩
     ·exact .inl ⟨i,j,e3,e4,kk,e5,hq _ _ q⟩
     ·exact .inr ⟨d,e,r1,r2,s1,s2,kk,e5,hq _ _ q⟩
abbrev Ca:Stmt:=top 9
theorem Jw:bc ["thing"] ["thing"] (aM Ca):=bh (by decide+kernel)
theorem Xo(F:FA K mg "is_whole" Ca)(B:bB mg):aj P w K mg base "is_whole" 1 (rK K):=by
 refine F.has Jw (fun vs H Q E h=>?_) (fun _ _ _ _ _ _=>dR fun _=>rfl) (fun f aD A outer s H vs Q E hr h=>?_)
 · obtain⟨v,T,rfl,_⟩:=h
   rfl
 · obtain⟨v,T,rfl,ty,k⟩:=h
   have nd:=Jw.nd;refine⟨_,(ao (aG (gm (aL (x:="isinstance") (cT K rfl) rfl (B.at "isinstance") cZ (aa (pv 0) (aa (cL (x:="int") (v:=.ty "int") rfl (B.at "int") Gb rfl) af))) (gD (Kt (aL (x:="isinstance") (cT K rfl) rfl (B.at "isinstance") cZ (aa (pv 0) (aa (cL (x:="bool") (v:=.ty "bool") rfl (B.at "bool") PyProof.Rows.boot_bool rfl) af)))))))),?_⟩;refine⟨_,rfl,.inl ⟨_,T,"int",_,rfl,ty,by decide,rfl,_,rfl,?_⟩⟩;unfold tm at k;refine cV (fun hc=>?_) (fun hc=>?_)
   · refine⟨_,rfl,.inl ⟨_,T,"bool",_,rfl,ty,by decide,rfl,_,rfl,?_⟩⟩
     rw[hc,jy]at k;exact k
   · rw[uA.mpr hc,jd]at k
     exact k
open Ln
def fy(ns:List Int)(sp:Int):a5z:=.tuple [.str "line",.tuple (ns.map PyData.int),.int sp]
theorem vU(ns:List Int)(sp:Int):dP (fy ns sp)=true:=by simp[fy,dP,cm,jG]
structure dN(ax:Nat)(m:Int)(ns:List Int):Prop where
 len:ns.length=ax
 bd:∀z∈ns,(z.natAbs:Int)<=m
 nz:∃z∈ns,z≠0
theorem dN.lead{ax:Nat}{m:Int}{ns:List Int}(h:dN ax m ns):0<ak ns/\(ak ns:Int)<=m:=by
 refine⟨YQ h.nz,?_⟩;have hm:0<=m:=by obtain⟨z,hz,_⟩:=h.nz;have:=h.bd z hz;omega
 have:=lN (ns:=ns) (m:=m.toNat) fun z hz=>by have:=h.bd z hz;omega
 omega
theorem dN.ne{ax:Nat}{m:Int}{ns:List Int}(h:dN ax m ns):ns≠[]:=by obtain⟨z,hz,_⟩:=h.nz;intro e;subst e;cases hz
theorem jo{H:Hp}{v:V}{ns:List Int}{sp:Int}(h:RD K H v (fy ns sp)):∃a b,v= .ref a/\aB K H a [.str "line",.ref b,.int sp]/\aB K H b (ns.map V.int):=by obtain⟨a,xs,rfl,h1,h2⟩:=h.dv;obtain⟨x1,r1,rfl,e1,h2⟩:=h2.cons_inv;obtain⟨x2,r2,rfl,e2,h2⟩:=h2.cons_inv;obtain⟨x3,r3,rfl,e3,h2⟩:=h2.cons_inv;cases h2.nil_inv;cases e1.str_inv;cases e3.int_inv;obtain⟨b,ys,rfl,h3,h4⟩:=e2.dv;rw[h4.gT]at h3;exact⟨a,b,rfl,h1,h3⟩
inductive PN(K:a5w)(vs:List V)(H:Hp)(Q:VK):Prop |mk (v:_)(ns:_)(sp:_)(h0:vs=[v])(h1:RD K H v (fy ns sp))(h2:ns≠[])(h3:ns.length<=1000)(h4:∀H',ai H H'->Q (.int (ak ns)) H'):PN K vs H Q
def ki(K:a5w):Sp:=fun vs H Q _=>PN K vs H Q
theorem kH{ns:List Int}{f:Int->a5z}{i:Nat}{d:a5z}(h:(ns.map f)[i]? =some d):∃n,ns[i]? =some n/\f n=d:=by rw[bU]at h;cases e:ns[i]? with |none=>rw[e]at h;cases h |some n=>rw[e]at h;exact⟨n,rfl,eG h⟩
theorem vQ{ns:List Int}{i:Nat}{x:V}{n:Int}(h:(ns.map V.int)[i]? =some x)(e:ns[i]? =some n):x= .int n:=by rw[bU,e]at h;exact(eG h).symm
abbrev C5:Stmt:=top 75
theorem Jq:bc ["_law_line_here"] ["_law_line_here"] (aM C5):=bh (by decide+kernel)
theorem Xm(F:FA K mg "_law_lead" C5)(B:bB mg):aj P w K mg base "_law_lead" 1 (ki K):=by
 refine F.has Jq (fun vs H Q E h=>?_) (fun _ _ _ _ _ _=>dR fun _=>rfl) (fun f aD A outer s H vs Q E hr h=>?_)
 · obtain⟨v,ns,sp,rfl,_⟩:=h
   rfl
 · obtain⟨v,ns,sp,rfl,rd,cy,hz,k⟩:=h
   have nd:=Jq.nd;obtain⟨a,b,rfl,ha,hb⟩:=jo rd;refine⟨_,(ao (aG (aL (x:="max") (DH K rfl rfl) rfl (B.at "max") Ah (aa (ft (N:=["_law_step"]) (js:=[none]) rfl rfl rfl (o6 K rfl (aJ (aK K rfl) (pv 0) ag (fun _ _=>rfl))) (fun _ _ _ _ _=>(aQ (i:=0) (show List.Nodup (["_law_step"]:List Str) by decide+kernel) rfl (Or.inl rfl))) (fun _ _ _ _ _=>eL) (fun _ _ _ _ _=>(aL (x:="abs") lW rfl (B.at "abs") nI (aa (pv 0) af)))) af)))),?_⟩;refine⟨_,rfl,.inr ⟨a,_,1,.ref b,rfl,rfl,ha,rfl,b,rfl,⟨_,hb⟩,fun D H0 nw=>?_⟩⟩;refine zM (K:=K) (xs:=ns.map V.int) (ds:=(ns.map gG).map PyData.int) [] hb nw (by simp) (by simpa using hz) (jG _) ?_ ?_
   · intro i x d H2 Q' ex ed s2 hq
     obtain⟨m,em,rfl⟩:=kH ed;rw[bU]at em;cases en:ns[i]? with |none=>rw[en]at em;cases em |some n=>rw[en]at em;cases em;cases vQ ex en;exact⟨_,rfl,n,rfl,hq _ _ (ai.refl _) (dG _)⟩
   · intro H' ys s2 d2 r2
     rw[r2.gT]at d2;refine⟨D,_,rfl,aw.of d2,by simpa using cy,fun M h1 h2=>?_⟩;rw[DR cy h1 h2];exact k H' s2
abbrev C4:Stmt:=top 22
theorem Jp:bc ["line"] ["line"] (aM C4):=bh (by decide+kernel)
theorem Xl(F:FA K mg "lead_of" C4)(B:bB mg):aj P w K mg base "lead_of" 1 (ki K):=by
 refine F.has Jp (fun vs H Q E h=>?_) (fun _ _ _ _ _ _=>dR fun _=>rfl) (fun f aD A outer s H vs Q E hr h=>?_)
 · obtain⟨v,ns,sp,rfl,_⟩:=h
   rfl
 · obtain⟨v,ns,sp,rfl,rd,cy,hz,k⟩:=h
   have nd:=Jp.nd;obtain⟨a,b,rfl,ha,hb⟩:=jo rd;refine⟨_,(ao (aG (aL (x:="max") (DH K rfl rfl) rfl (B.at "max") Ah (aa (ft (N:=["step"]) (js:=[none]) rfl rfl rfl (o6 K rfl (aJ (aK K rfl) (pv 0) ag (fun _ _=>rfl))) (fun _ _ _ _ _=>(aQ (i:=0) (show List.Nodup (["step"]:List Str) by decide+kernel) rfl (Or.inl rfl))) (fun _ _ _ _ _=>eL) (fun _ _ _ _ _=>(aL (x:="abs") lW rfl (B.at "abs") nI (aa (pv 0) af)))) af)))),?_⟩;refine⟨_,rfl,.inr ⟨a,_,1,.ref b,rfl,rfl,ha,rfl,b,rfl,⟨_,hb⟩,fun D H0 nw=>?_⟩⟩;refine zM (K:=K) (xs:=ns.map V.int) (ds:=(ns.map gG).map PyData.int) [] hb nw (by simp) (by simpa using hz) (jG _) ?_ ?_
   · intro i x d H2 Q' ex ed s2 hq
     obtain⟨m,em,rfl⟩:=kH ed;rw[bU]at em;cases en:ns[i]? with |none=>rw[en]at em;cases em |some n=>rw[en]at em;cases em;cases vQ ex en;exact⟨_,rfl,n,rfl,hq _ _ (ai.refl _) (dG _)⟩
   · intro H' ys s2 d2 r2
     rw[r2.gT]at d2;refine⟨D,_,rfl,aw.of d2,by simpa using cy,fun M h1 h2=>?_⟩;rw[DR cy h1 h2];exact k H' s2
open Rt
abbrev C6:Stmt:=top 19
theorem Js:bc ["p","q","divisor"] ["p","q"] (aM C6):=bh (by decide+kernel)
theorem Xf(F:FA K mg "lowest_terms" C6)(B:bB mg)(a0L:aj P w K mg base "common_divisor" 1 AY):aj P w K mg base "lowest_terms" 2 rH:=by
 refine F.has Js (fun vs H Q E h=>?_) (fun _ _ _ _ _ _=>cP fun _ _=>rfl) (fun f aD A outer s H vs Q E hr h=>?_)
 · obtain⟨a,b,rfl,_⟩:=h
   rfl
 · obtain⟨a,b,rfl,hb,wb,k⟩:=h
   have nd:=Js.nd;have sw:Wd (Ar.sg a b):=oY (Ar.Iw hb) wb;refine⟨_,(ah (aH (i:=2) nd rfl (Or.inl rfl) (pf a0L hr (aa (pv 0) (aa (pv 1) af)))) (ah (fW (bj (bK iH (pv 1) ag (aX _)) (ao (aH (i:=2) nd rfl (Or.inl rfl) (vk uF (pv 2)))) bE)) (ao (aG (dH (aa (au KP (pv 0) (pv 2)) (aa (au KP (pv 1) (pv 2)) af))))))),?_⟩;refine⟨_,rfl,_,rfl,a,b,rfl,?_⟩;refine⟨fun σ H'=>H'=H/\σ=[some (.int a),some (.int b),some (.int (Ar.sg a b))],?_,?_⟩
   · refine⟨_,rfl,_,_,rfl,rfl,_,rfl,?_⟩
     refine cV (fun hc=>?_) (fun hc=>?_)
     · have hd:b<0:=ja hc
       refine⟨_,rfl,_,rfl,?_⟩;refine⟨rfl,?_⟩;unfold Ar.sg;rw[aP hd];rfl
     · have hd:¬b<0:=fun z=>hc (cw z)
       refine⟨rfl,?_⟩;unfold Ar.sg;rw[aV hd];rfl
   rintro σ H' ⟨rfl,rfl⟩;refine⟨_,rfl,_,rfl,_,_,rfl,rfl,⟨Ar.uR hb,sw⟩,_,rfl,_,rfl,_,_,rfl,rfl,⟨Ar.uR hb,sw⟩,(by show 2<=sizeLine;decide),fun t H4 nw=>?_⟩;exact k t H4 nw
def aR(K:a5w)(H:Hp)(v:V)(r:Rat):Prop:=∃p,v= .ref p/\aB K H p [.int r.num,.int r.den]
theorem aR.go{H H':Hp}{v:V}{r:Rat}(h:aR K H v r)(s:ai H H'):aR K H' v r:=by obtain⟨p,e,q⟩:=h;exact⟨p,e,q.go s⟩
def cD(r:Rat):a5z:=.tuple [.int r.num,.int r.den]
theorem aR.rd{H:Hp}{v:V}{r:Rat}(h:aR K H v r):RD K H v (cD r):=by obtain⟨p,rfl,q⟩:=h;exact iW q (cj (dG _) (cj (dG _) cQ))
theorem K9(r:Rat):dk 1 (cD r):=fS.tup (.cons (.int _) (.cons (.int _) .nil))
theorem UZ(r:Rat):SeqAt.shaped (cD r)=true:=(K9 r).shaped (by decide)
theorem eqR{r s:Rat}(h:r=s):PyData.eqv (cD r) (cD s)=true:=by rw[h];exact(K9 s).refl
theorem gb{n:Nat}{i:Int}(h:i.natAbs<2^n)(l:n<=5000):Wd i:=fF h (oX (by decide) l)
theorem _root_.Rt.Bd.wn{r:Rat}(h:Bd 2000 r):Wd r.num:=gb h.num (by decide)
theorem _root_.Rt.Bd.wd{r:Rat}(h:Bd 2000 r):Wd (r.den:Int):=gb (n:=2000) (by have:=h.den;omega) (by decide)
theorem xH{r s:Rat}(h:Bd 2000 r)(g:Bd 2000 s):Wd ((r.den:Int)*(s.den:Int)):=gb (n:=4000) (Fg h g) (by decide)
theorem yl{H':Hp}{t:Addr}{a b:Int}{r:Rat}(hb:b≠0)(e:r=Rat.divInt a b)(h:H' t=some (.tup [.int (Ar.lowP a b),.int (Ar.fQ a b)])):aR K H' (.ref t) r:=by obtain⟨e1,e2⟩:=yT (a:=a) hb;rw[e1,e2,<-e]at h;exact⟨t,rfl,aB.of h⟩
inductive Pu(op:Rat->Rat->Rat)(K:a5w)(vs:List V)(H:Hp)(Q:VK):Prop |mk (v1:_)(v2:_)(r:_)(s:_)(h0:vs=[v1,v2])(h1:aR K H v1 r)(h2:aR K H v2 s)(h3:Bd 2000 r)(h4:Bd 2000 s)(h5:∀v H',aR K H' v (op r s)->ai H H'->Q v H'):Pu op K vs H Q
def lj(op:Rat->Rat->Rat)(K:a5w):Sp:=fun vs H Q _=>Pu op K vs H Q
abbrev BW:Stmt:=top 15
theorem Ji:bc ["one","other","p","q","r","s"] ["one","other"] (aM BW):=bh (by decide+kernel)
theorem Xc(F:FA K mg "minus" BW)(B:bB mg)(qq:aj P w K mg base "lowest_terms" 2 rH):aj P w K mg base "minus" 3 (lj (·-·) K):=by
 refine F.has Ji (fun vs H Q E h=>?_) (fun _ _ _ _ _ _=>cP fun _ _=>rfl) (fun f aD A outer s H vs Q E hr h=>?_)
 · obtain⟨v1,v2,r,s,rfl,_⟩:=h
   rfl
 · obtain⟨v1,v2,r,s,rfl,⟨p,rfl,hp⟩,⟨q,rfl,hq⟩,br,bs,k⟩:=h
   have nd:=Ji.nd;refine⟨_,(ah (fi (pv 0) (cS K rfl (n:=2) rfl (bo (aQ (i:=2) nd rfl (Or.inl rfl)) (bo (aQ (i:=3) nd rfl (Or.inl rfl)) cR)))) (ah (fi (pv 1) (cS K rfl (n:=2) rfl (bo (aQ (i:=4) nd rfl (Or.inl rfl)) (bo (aQ (i:=5) nd rfl (Or.inl rfl)) cR)))) (ao (aG (pf qq hr (aa (au fu (au ba (pv 2) (pv 5)) (au ba (pv 4) (pv 3))) (aa (au ba (pv 3) (pv 5)) af))))))),?_⟩;refine⟨_,rfl,_,_,rfl,hp,rfl,_,_,rfl,_,_,rfl,rfl,?_⟩;refine⟨_,rfl,_,_,rfl,hq,rfl,_,_,rfl,_,_,rfl,rfl,?_⟩;refine⟨_,rfl,_,rfl,_,_,rfl,rfl,gz br.wn.bits bs.wd.bits,_,rfl,_,rfl,_,_,rfl,rfl,gz bs.wn.bits br.wd.bits,_,_,rfl,rfl,_,rfl,_,rfl,_,_,rfl,rfl,gz br.wd.bits bs.wd.bits,?_⟩;exact⟨_,_,rfl,mX r s,xH br bs,fun t H' nw=>k _ _ (yl (mX r s) (SX r s) nw.at') nw.same⟩
abbrev Bf:Stmt:=top 16
theorem xr_dvd {a : Int} {b : Nat} {x : Rat} (hb : b ≠ 0) (hx : Rat.divInt a b = x) : ∃ g, a = x.num * g ∧ (b : Int) = x.den * g := by
  obtain ⟨g, _, p⟩ := Rat.divInt_num_den (z' := x.den_nz) (c := x.reduced) (by omega) hx
  exact ⟨g, p⟩
theorem xr_mul {r s x y : Rat} (hx : Rat.divInt r.num s.den = x) (hy : Rat.divInt s.num r.den = y) (m : r * s = Rat.divInt (r.num * s.num) (r.den * s.den)) : x.num * y.num = (r * s).num ∧ (y.den : Int) * x.den = (r * s).den := by
  obtain ⟨g, h1, h2⟩ := xr_dvd s.den_nz hx
  obtain ⟨h, h3, h4⟩ := xr_dvd r.den_nz hy
  have w : ∀ {q : Rat} {a b g h : Int}, q.num = a * g → q.den = b * h → a.natAbs.Coprime b.natAbs := fun {q a b g h} p z => by
    have c : Int.gcd q.num q.den = 1 := q.reduced
    rw [p, z, Int.gcd_eq_natAbs_gcd_natAbs, Int.natAbs_mul, Int.natAbs_mul] at c
    exact Nat.Coprime.coprime_mul_right_right (Nat.Coprime.coprime_mul_right c)
  have c : (x.num * y.num).natAbs.gcd (x.den * y.den) = 1 := by
    rw [Int.natAbs_mul]; exact Nat.Coprime.mul_left (Nat.Coprime.mul_right x.reduced (w h1 h4)) (Nat.Coprime.mul_right (w h3 h2) y.reduced)
  have e : r * s = x * y := by rw [m, ← hx, ← hy, Rat.divInt_mul_divInt, Int.mul_comm (s.den : Int)]
  rw [e, Rat.num_mul, Rat.den_mul, c, Nat.div_one, Nat.mul_comm x.den]
  exact ⟨(Int.ediv_one _).symm, rfl⟩
theorem IJ:bc ["one","other","p","s","r","q"] ["one","other"] (aM Bf):=bh (by decide+kernel)
theorem Wt(F:FA K mg "times" Bf)(B:bB mg)(qq:aj P w K mg base "lowest_terms" 2 rH):aj P w K mg base "times" 3 (lj (·*·) K):=by
 refine F.has IJ (fun vs H Q E h=>?_) (fun _ _ _ _ _ _=>cP fun _ _=>rfl) (fun f aD A outer s H vs Q E hr h=>?_)
 · obtain⟨v1,v2,r,s,rfl,_⟩:=h
   rfl
 · obtain⟨v1,v2,r,s,rfl,⟨p,rfl,hp⟩,⟨q,rfl,hq⟩,br,bs,k⟩:=h
   have nd:=IJ.nd;have nr:=Int.ne_of_gt (den_pos r);have ns:=Int.ne_of_gt (den_pos s)
   refine ⟨_,(ah (fi (pf qq hr (aa (aJ (aK K rfl) (pv 0) ag (fun _ _=>rfl)) (aa (aJ (aK K rfl) (pv 1) ag (fun _ _=>rfl)) af))) (cS K rfl (n:=2) rfl (bo (aQ (i:=2) nd rfl (Or.inl rfl)) (bo (aQ (i:=3) nd rfl (Or.inl rfl)) cR)))) (ah (fi (pf qq hr (aa (aJ (aK K rfl) (pv 1) ag (fun _ _=>rfl)) (aa (aJ (aK K rfl) (pv 0) ag (fun _ _=>rfl)) af))) (cS K rfl (n:=2) rfl (bo (aQ (i:=4) nd rfl (Or.inl rfl)) (bo (aQ (i:=5) nd rfl (Or.inl rfl)) cR)))) (ao (aG (dH (aa (au ba (pv 2) (pv 4)) (aa (au ba (pv 5) (pv 3)) af))))))),?_⟩
   refine ⟨_,rfl,Or.inr ⟨_,_,_,_,rfl,rfl,hp,rfl,_,rfl,Or.inr ⟨_,_,_,_,rfl,rfl,hq,rfl,_,_,rfl,ns,bs.wd,fun t1 H1 n1=>?_⟩⟩⟩
   obtain ⟨_,e,g1⟩:=yl ns rfl n1.at';cases e
   refine ⟨_,_,rfl,g1,rfl,_,_,rfl,_,_,rfl,rfl,?_⟩
   refine ⟨_,rfl,Or.inr ⟨_,_,_,_,rfl,rfl,hq.go n1.same,rfl,_,rfl,Or.inr ⟨_,_,_,_,rfl,rfl,hp.go n1.same,rfl,_,_,rfl,nr,br.wd,fun t2 H2 n2=>?_⟩⟩⟩
   obtain ⟨_,e,g2⟩:=yl nr rfl n2.at';cases e
   refine ⟨_,_,rfl,g2,rfl,_,_,rfl,_,_,rfl,rfl,?_⟩
   have b1:Bd 2000 _:=ji ns br.num (by have:=bs.den;omega)
   have b2:Bd 2000 _:=ji nr bs.num (by have:=br.den;omega)
   refine ⟨_,rfl,_,rfl,_,_,rfl,rfl,gz b1.wn.bits b2.wn.bits,_,rfl,_,rfl,_,_,rfl,rfl,gz b2.wd.bits b1.wd.bits,bM _ (bR rfl),fun t H' n=>k _ _ ⟨t,rfl,aB.of ?_⟩ (n1.same.trans (n2.same.trans n.same))⟩
   obtain ⟨e1,e2⟩:=xr_mul rfl rfl (mul_div r s)
   rw [← e1,← e2]; exact n.at'
inductive PL(K:a5w)(vs:List V)(H:Hp)(Q:VK):Prop |mk (v1:_)(v2:_)(r:_)(s:_)(h0:vs=[v1,v2])(h1:aR K H v1 r)(h2:aR K H v2 s)(h3:Bd 2000 r)(h4:Bd 2000 s)(h5:Q (.bl (decide (r<s))) H):PL K vs H Q
def rJ(K:a5w):Sp:=fun vs H Q _=>PL K vs H Q
abbrev C2:Stmt:=top 17
theorem Jn:bc ["one","other","p","q","r","s"] ["one","other"] (aM C2):=bh (by decide+kernel)
theorem Xj(F:FA K mg "is_less" C2)(B:bB mg):aj P w K mg base "is_less" 1 (rJ K):=by
 refine F.has Jn (fun vs H Q E h=>?_) (fun _ _ _ _ _ _=>cP fun _ _=>rfl) (fun f aD A outer s H vs Q E hr h=>?_)
 · obtain⟨v1,v2,r,s,rfl,_⟩:=h
   rfl
 · obtain⟨v1,v2,r,s,rfl,⟨p,rfl,hp⟩,⟨q,rfl,hq⟩,br,bs,k⟩:=h
   have nd:=Jn.nd;refine⟨_,(ah (fi (pv 0) (cS K rfl (n:=2) rfl (bo (aQ (i:=2) nd rfl (Or.inl rfl)) (bo (aQ (i:=3) nd rfl (Or.inl rfl)) cR)))) (ah (fi (pv 1) (cS K rfl (n:=2) rfl (bo (aQ (i:=4) nd rfl (Or.inl rfl)) (bo (aQ (i:=5) nd rfl (Or.inl rfl)) cR)))) (ao (aG (e9 iH (au ba (pv 2) (pv 5)) (au ba (pv 4) (pv 3)) (aX _)))))),?_⟩;refine⟨_,rfl,_,_,rfl,hp,rfl,_,_,rfl,_,_,rfl,rfl,?_⟩;refine⟨_,rfl,_,_,rfl,hq,rfl,_,_,rfl,_,_,rfl,rfl,?_⟩;refine⟨_,rfl,_,rfl,_,_,rfl,rfl,gz br.wn.bits bs.wd.bits,_,rfl,_,rfl,_,_,rfl,rfl,gz bs.wn.bits br.wd.bits,_,_,rfl,rfl,?_⟩;have e:decide (r.num*(s.den:Int)<s.num*(r.den:Int))=decide (r<s):=by rw[m6,oU,oU,Ab]
   show Q (.bl (decide (r.num*(s.den:Int)<s.num*(r.den:Int)))) H;rw[e];exact k
def oN(K:a5w)(H:Hp):List V->List Rat->Prop |[],[]=>True |v::vs,r::rs=>aR K H v r/\Bd 2000 r/\oN K H vs rs |_,_=>False
theorem oN.length{H:Hp}:∀{vs:List V}{rs:List Rat},oN K H vs rs->vs.length=rs.length |[],[],_=>rfl |v::vs,r::rs,h=>by rw[jw,jw,oN.length h.2.2] |[],_::_,h=>h.elim |_::_,[],h=>h.elim
theorem oN.get{H:Hp}:∀{vs:List V}{rs:List Rat}{i:Nat}{v:V},oN K H vs rs->vs[i]? =some v->∃r,rs[i]? =some r/\aR K H v r/\Bd 2000 r
  |[],[],i,v,_,e=>by simp at e |v::vs,r::rs,0,v',h,e=>by
    have e':v=v':=by simpa using e
    subst e';exact⟨r,rfl,h.1,h.2.1⟩ |v::vs,r::rs,i+1,v',h,e=>by obtain⟨r',e1,q⟩:=oN.get h.2.2 (show vs[i]? =some v' by simpa using e);exact⟨r',by simpa using e1,q⟩ |[],_::_,_,_,h,_=>h.elim |_::_,[],_,_,h,_=>h.elim
inductive PM(K:a5w)(vs:List V)(H:Hp)(Q:VK):Prop |mk (l:_)(xs:_)(rs:_)(h0:vs=[.ref l])(h1:aw K H l xs)(h2:oN K H xs rs)(h3:xs≠[])(h4:∀(i:Nat)(v:V)(r:Rat),xs[i]? =some v->rs[i]? =some r->(∀s∈rs,r<=s)->Q v H):PM K vs H Q
def iB(K:a5w):Sp:=fun vs H Q _=>PM K vs H Q
abbrev C3:Stmt:=top 18
theorem Jo:bc ["some","best","one"] ["some"] (aM C3):=bh (by decide+kernel)
theorem Xk(F:FA K mg "least" C3)(B:bB mg)(El:aj P w K mg base "is_less" 1 (rJ K)):aj P w K mg base "least" 2 (iB K):=by
 refine F.has Jo (fun vs H Q E h=>?_) (fun _ _ _ _ _ _=>dR fun _=>rfl) (fun f aD A outer s H vs Q E hr h=>?_)
 · obtain⟨l,xs,rs,rfl,_⟩:=h
   rfl
 · obtain⟨l,xs,rs,rfl,hl,mI,cy,k⟩:=h
   have nd:=Jo.nd;refine⟨_,(ah (aH (i:=1) nd rfl (Or.inl rfl) (aJ (aK K rfl) (pv 0) ag (fun _ _=>rfl))) (ah (jF fU rfl (yu K rfl (pv 0)) (aQ (i:=2) nd rfl (Or.inl rfl)) (ao (bj (cA (pf El hr (aa (pv 2) (aa (pv 1) af)))) (ao (aH (i:=1) nd rfl (Or.inl rfl) (pv 2))) bE))) (ao (aG (pv 1))))),?_⟩;have hlen:=mI.length;have h0:0<xs.length:=Gk.mpr cy;have e0:=bO h0;refine⟨_,rfl,.inl ⟨l,xs,0,xs[0],rfl,rfl,hl,cM (by decide) e0,?_⟩⟩;refine⟨_,rfl,l,rfl,⟨_,hl⟩,EI (K:=K) (a:=l) (xs:=xs) (fun i σ H2=>H2=H/\∃(j:Nat)(b:V)(r:Rat)(v:Option V),xs[j]? =some b/\rs[j]? =some r/\(∀(m:Nat)(s:Rat),m<i->rs[m]? =some s->r<=s)/\σ=[some (.ref l),some b,v]) ?_ (fun i σ H2 _ h=>by rw[h.1];exact hl) ?_ ?_⟩
   · obtain⟨r,e1,_⟩:=mI.get e0
     exact⟨rfl,0,_,r,none,e0,e1,fun m s hm=>absurd hm (Nat.not_lt_zero _),rfl⟩
   · rintro i x σ H2 hx ⟨rfl,j,b,r,v,eb,er,hm,rfl⟩
     obtain⟨t,et,rt,bt⟩:=mI.get hx;obtain⟨r2,wJ,rb,bb⟩:=mI.get eb;rw[er]at wJ;cases wJ;refine⟨_,rfl,_,rfl,x,b,t,r,rfl,rt,rb,bt,bb,_,rfl,?_⟩;refine cV (fun hc=>?_) (fun hc=>?_)
     · have bZ:t<r:=ja hc
       refine⟨_,rfl,?_⟩;refine⟨rfl,i,x,t,_,hx,et,fun m s qo es=>?_,rfl⟩;rcases Gh.mp qo with h|h
       ·exact dc (G7 bZ) (hm m s h es)
       · subst h
         rw[et]at es;cases es;exact nE
     · have Eg:¬t<r:=fun z=>hc (cw z)
       refine⟨rfl,j,b,r,_,eb,er,fun m s qo es=>?_,rfl⟩;rcases Gh.mp qo with h|h
       ·exact hm m s h es
       · subst h
         rw[et]at es;cases es;exact xp.mp Eg
   · rintro σ H2 ⟨rfl,j,b,r,v,eb,er,hm,rfl⟩
     refine⟨_,rfl,k j b r eb er fun s hs=>?_⟩;obtain⟨m,Ej,em⟩:=QZ.mp hs;exact hm m s (by omega) (by rw[bO Ej,em])
inductive PF(K:a5w)(vs:List V)(H:Hp)(Q:VK):Prop |mk (a:_)(b:_)(h0:vs=[.int a,.int b])(h1:b≠0)(h2:Wd b)(h3:∀v H',aR K H' v (Rat.divInt a b)->ai H H'->Q v H'):PF K vs H Q
def rF(K:a5w):Sp:=fun vs H Q _=>PF K vs H Q
abbrev Cg:Stmt:=top 13
theorem JC:bc ["p","q"] ["p","q"] (aM Cg):=bh (by decide+kernel)
theorem Xw(F:FA K mg "fraction" Cg)(B:bB mg)(zp:aj P w K mg base "is_whole" 1 (rK K))(qq:aj P w K mg base "lowest_terms" 2 rH):aj P w K mg base "fraction" 3 (rF K):=by
 refine F.has JC (fun vs H Q E h=>?_) (fun _ _ _ _ _ _=>cP fun _ _=>rfl) (fun f aD A outer s H vs Q E hr h=>?_)
 · obtain⟨a,b,rfl,_⟩:=h
   rfl
 · obtain⟨a,b,rfl,hb,wb,k⟩:=h
   have nd:=JC.nd;refine⟨_,(ah (bj (PW.pt (kn (dX (cA (pf zp hr (aa (pv 0) af)))) (kl (dX (cA (pf zp hr (aa (pv 1) af))))))) (ao rY) bE) (ah (bj (bK (cH K rfl hr.units) (pv 1) ag (aX _)) (ao rY) bE) (ao (aG (pf qq hr (aa (pv 0) (aa (pv 1) af))))))),?_⟩;have iw:tm "int"=true:=by decide
   refine⟨_,rfl,_,"int",rfl,rfl,_,rfl,?_⟩;rw[iw];refine bf ?_;refine⟨_,rfl,_,"int",rfl,rfl,_,rfl,?_⟩;rw[iw];refine bf ?_;refine⟨_,rfl,.inl ⟨_,_,rfl,rfl,_,rfl,?_⟩⟩;rw[eu hb];refine bf ?_;exact⟨_,rfl,_,rfl,_,_,rfl,hb,wb,fun t H' nw=>k _ _ (yl hb rfl nw.at') nw.same⟩
def gQ(rs:List Int)(r f j t:Int):a5z:=.tuple [.tuple (rs.map PyData.int),.int r,.int f,.int j,.int t]
theorem gP(rs:List Int)(r f j t:Int):dP (gQ rs r f j t)=true:=by simp[gQ,dP,cm,jG]
theorem jn{H:Hp}{v:V}{rs:List Int}{r f j t:Int}(h:RD K H v (gQ rs r f j t)):∃a b,v= .ref a/\aB K H a [.ref b,.int r,.int f,.int j,.int t]/\aB K H b (rs.map V.int):=by obtain⟨a,xs,rfl,h1,h2⟩:=h.dv;obtain⟨x1,r1,rfl,e1,h2⟩:=h2.cons_inv;obtain⟨x2,r2,rfl,e2,h2⟩:=h2.cons_inv;obtain⟨x3,r3,rfl,e3,h2⟩:=h2.cons_inv;obtain⟨x4,r4,rfl,e4,h2⟩:=h2.cons_inv;obtain⟨x5,r5,rfl,e5,h2⟩:=h2.cons_inv;cases h2.nil_inv;cases e2.int_inv;cases e3.int_inv;cases e4.int_inv;cases e5.int_inv;obtain⟨b,ys,rfl,h3,h4⟩:=e1.dv;rw[h4.gT]at h3;exact⟨a,b,rfl,h1,h3⟩
structure lZ(rs:List Int)(r f j t:Int):Prop where
 len:rs.length=2\/rs.length=3
 rl:∀z∈rs,1<=z/\z<=100
 r1:1<=r/\r<=50
 f1:1<=f/\f<=50
 j1:1<=j/\j<=50
 t1:1<=t/\t<=100
inductive PH(K:a5w)(vs:List V)(H:Hp)(Q:VK):Prop |mk (p:_)(h0:vs=[.ref p])(h1:j9 H p)(h2:∀v rs r f j t H',RD K H' v (gQ rs r f j t)->lZ rs r f j t->bL p H H'->Q v H'):PH K vs H Q
def Ik(K:a5w):Sp:=fun vs H Q _=>PH K vs H Q
abbrev BZ:Stmt:=top 71
theorem Jk:bc ["_law_bag_here","_law_kind","_law_most","_law_rails"] ["_law_bag_here"] (aM BZ):=bh (by decide+kernel)
theorem Xe(F:FA K mg "_law_machine" BZ)(B:bB mg)(fX:aj P w K mg base "_law_take" 1 rE):aj P w K mg base "_law_machine" 2 (Ik K):=by
 refine F.has Jk (fun vs H Q E h=>?_) (fun _ _ _ _ _ _=>dR fun _=>rfl) (fun f aD A outer s H vs Q E hr h=>?_)
 · obtain⟨p,rfl,_⟩:=h
   rfl
 · obtain⟨p,rfl,bg,k⟩:=h
   have nd:=Jk.nd;refine⟨_,(ah (aH (i:=1) nd rfl (Or.inl rfl) (pf fX hr (aa (pv 0) (aa ag af)))) (ah (aH (i:=2) nd rfl (Or.inr rfl) (aJ (aK K rfl) (dF (aa ag (aa ag (aa ag (aa ag (aa ag (aa ag (aa ag (aa ag af))))))))) (pv 1) (fun _ _=>rfl))) (ah (aH (i:=3) nd rfl (Or.inl rfl) (gk (x:="tuple") (jB K rfl) rfl (B.at "tuple") eU (aa (ft (N:=["_law_axis","_law_bag_here","_law_most"]) (js:=[none,some 0,some 2]) rfl rfl rfl (vj rfl (B.at "range") (aa (au cF ag (pf fX hr (aa (pv 0) (aa ag af)))) af)) (fun _ _ _ _ _=>(aQ (i:=0) (show List.Nodup (["_law_axis","_law_bag_here","_law_most"]:List Str) by decide+kernel) rfl (Or.inl rfl))) (fun _ _ _ _ _=>eL) (fun _ _ _ _ _=>(au cF ag (pf fX hr (aa (pv 1) (aa (pv 2) af)))))) af))) (ah (bj (bK (cH K rfl hr.units) (pv 1) ag (aX _)) (ao (aG (dH (aa (pv 3) (aa (au cF ag (au ba ag (pf fX hr (aa (pv 0) (aa ag af))))) (aa (au cF ag (au ba ag (pf fX hr (aa (pv 0) (aa ag af))))) (aa (au cF ag (au ba ag (pf fX hr (aa (pv 0) (aa ag af))))) (aa ag af)))))))) bE) (ao (aG (dH (aa (pv 3) (aa (au cF ag (pf fX hr (aa (pv 0) (aa ag af)))) (aa (au cF ag (pf fX hr (aa (pv 0) (aa ag af)))) (aa (au cF ag (pf fX hr (aa (pv 0) (aa ag af)))) (aa (au cF ag (pf fX hr (aa (pv 0) (aa ag af)))) af)))))))))))),?_⟩;refine⟨_,rfl,p,8,rfl,bg,by decide,by decide,fun kd H1 k0 k1 b1=>?_⟩;refine⟨bM _ (bR rfl),fun l H2 nw=>?_⟩;have b2:bL p H1 H2:=.kG b1.bag nw.same;obtain⟨far,mf,ef⟩:=Zk [100,100,100,60,60,20,5,100] k0 k1;have f1:1<=far/\far<=100:=by
    have h:∀z∈([100,100,100,60,60,20,5,100]:List Int),1<=z/\z<=100:=by decide
    exact h far mf
   refine⟨_,rfl,.inl ⟨l,_,_,_,rfl,rfl,aw.of nw.at',ef,?_⟩⟩;refine⟨_,rfl,p,2,rfl,b2.bag,by decide,by decide,fun ax H3 a0 a1 b3=>?_⟩;refine⟨_,_,rfl,rfl,_,rfl,by omega,by omega,fun D H4 n4=>?_⟩;refine a3j (J:=nk 0 (2+ax).toNat) (p:=p) (H:=H3) (2+ax).toNat _ n4 b3.bag (by omega) (fun i=>.int (0+(i:Int))) (fun i H5 hi _=>⟨hi,fun y H6 ⟨e,q⟩=>⟨e,q⟩⟩) (fun H5 _=>bp _) (fun z=>1<=z/\z<=100) ?_ ?_
   · intro i H5 Q' hi b5 hq
     refine⟨_,rfl,_,rfl,p,far,rfl,b5.bag,f1.1,by omega,fun d H6 d0 d1 b6=>?_⟩;exact⟨_,_,rfl,rfl,hq _ _ (by omega) b6⟩
   intro H5 is b5 d5 l5 O6;have Fy:=b1.trans (b2.trans (b3.trans b5));refine⟨D,_,rfl,.inl ⟨aw.of d5,fun q H6 n6=>?_⟩⟩;have b6:bL p H5 H6:=.kG Fy.bag n6.same;have q6:aB K H6 q (is.map V.int):=aB.of n6.at';refine⟨_,rfl,.inl ⟨_,_,rfl,rfl,_,rfl,?_⟩⟩;refine cV (fun hc=>?_) (fun hc=>?_)
   · refine⟨_,rfl,_,rfl,p,2,rfl,b6.bag,by decide,by decide,fun ri H7 UI UH b7=>?_⟩
     refine⟨_,_,rfl,rfl,.of_left (bJ (by decide) (by decide)),_,_,rfl,rfl,?_⟩;refine⟨_,rfl,p,2,rfl,b7.bag,by decide,by decide,fun fa H8 fa0 fa1 b8=>?_⟩;refine⟨_,_,rfl,rfl,.of_left (bJ (by decide) (by decide)),_,_,rfl,rfl,?_⟩;refine⟨_,rfl,p,2,rfl,b8.bag,by decide,by decide,fun ju H9 Z4 Z3 b9=>?_⟩;refine⟨_,_,rfl,rfl,.of_left (bJ (by decide) (by decide)),_,_,rfl,rfl,?_⟩;refine⟨bM _ (bR rfl),fun t eR jH=>?_⟩;have zT:bL p H9 eR:=.kG b9.bag jH.same;have O9:=b7.trans (b8.trans (b9.trans zT));have Vh:aB K eR q (is.map V.int):=aB.t (bL.t b6.bag O9) q6;exact k (.ref t) is (1+49*ri) (1+49*fa) (1+49*ju) 100 eR (iW (aB.of jH.at') (cj (iW Vh (rW is)) (cj (dG _) (cj (dG _) (cj (dG _) (cj (dG _) cQ)))))) ⟨by omega,O6,by omega,by omega,by omega,by omega⟩ (Fy.trans (b6.trans O9))
   · refine⟨_,rfl,_,rfl,p,50,rfl,b6.bag,by decide,by decide,fun ri H7 UI UH b7=>?_⟩
     refine⟨_,_,rfl,rfl,?_⟩;refine⟨_,rfl,p,50,rfl,b7.bag,by decide,by decide,fun fa H8 fa0 fa1 b8=>?_⟩;refine⟨_,_,rfl,rfl,?_⟩;refine⟨_,rfl,p,50,rfl,b8.bag,by decide,by decide,fun ju H9 Z4 Z3 b9=>?_⟩;refine⟨_,_,rfl,rfl,?_⟩;refine⟨_,rfl,p,100,rfl,b9.bag,by decide,by decide,fun ti eR ti0 ti1 zT=>?_⟩;refine⟨_,_,rfl,rfl,bM _ (bR rfl),fun t fE eg=>?_⟩;have b11:bL p eR fE:=.kG zT.bag eg.same;have O8:=b7.trans (b8.trans (b9.trans (zT.trans b11)));have vi:aB K fE q (is.map V.int):=aB.t (bL.t b6.bag O8) q6;exact k (.ref t) is (1+ri) (1+fa) (1+ju) (1+ti) fE (iW (aB.of eg.at') (cj (iW vi (rW is)) (cj (dG _) (cj (dG _) (cj (dG _) (cj (dG _) cQ)))))) ⟨by omega,O6,by omega,by omega,by omega,by omega⟩ (Fy.trans (b6.trans O8))
inductive PX(K:a5w)(vs:List V)(H:Hp)(Q:VK):Prop |mk (a:_)(b:_)(h0:vs=[.int a,.int b])(h1:0<b)(h2:Wd b)(h3:∀v H',aR K H' v (Rat.divInt a b)->ai H H'->Q v H'):PX K vs H Q
def uM(K:a5w):Sp:=fun vs H Q _=>PX K vs H Q
abbrev Cf:Stmt:=top 67
theorem JB:bc ["_law_p","_law_q","_law_one","_law_other_here"] ["_law_p","_law_q"] (aM Cf):=bh (by decide+kernel)
theorem Xv(F:FA K mg "_law_frac" Cf)(B:bB mg):aj P w K mg base "_law_frac" 1 (uM K):=by
 refine F.has JB (fun vs H Q E h=>?_) (fun _ _ _ _ _ _=>cP fun _ _=>rfl) (fun f aD A outer s H vs Q E hr h=>?_)
 · obtain⟨a,b,rfl,_⟩:=h
   rfl
 · obtain⟨a,b,rfl,hb,wb,k⟩:=h
   have nd:=JB.nd;refine⟨_,(ah (lH (i:=2) (j:=3) rfl nd rfl rfl (by decide) rfl rfl (aa (aL (x:="abs") lW rfl (B.at "abs") nI (aa (pv 0) af)) (aa (pv 1) af)) rfl) (ah (lG fU (bK pT (pv 3) ag (aX _)) (ao (lH (i:=2) (j:=3) rfl nd rfl rfl (by decide) rfl rfl (aa (pv 3) (aa (au mx (pv 2) (pv 3)) af)) rfl))) (ao (aG (dH (aa (au kF (pv 0) (pv 2)) (aa (au kF (pv 1) (pv 2)) af))))))),?_⟩;refine⟨_,rfl,_,rfl,_,rfl,_,_,rfl,?_⟩;refine kY (fun σ H2=>H2=H/\∃(x y:Int),σ=[some (.int a),some (.int b),some (.int x),some (.int y)]/\0<=x/\0<=y/\Int.gcd x y=Int.gcd a b) (fun σ _=>match σ with|[_,_,_,some (.int y)]=>y.natAbs|_=>0) ?_ ?_ ?_
   · refine⟨rfl,_,_,rfl,by split<;>omega,by omega,?_⟩
     have h1:(if a<0 then-a else a).natAbs=a.natAbs:=by split<;>omega
     unfold Int.gcd;rw[h1]
   · rintro σ H2 ⟨rfl,x,y,rfl,x0,y0,e⟩
     refine⟨_,rfl,_,_,rfl,rfl,_,rfl,?_⟩;refine cV (fun hc=>?_) (fun hc=>?_)
     · have iY:0<y:=ja hc
       have hy:y≠0:=by omega
       refine⟨_,rfl,_,rfl,_,rfl,_,_,rfl,rfl,iY,_,_,rfl,?_⟩;refine⟨⟨rfl,_,_,rfl,y0,m5 _ hy,(Ar.MN iY).trans e⟩,?_⟩;show(x%y).natAbs<y.natAbs;have:=m5 x hy;have:=p4 x iY;omega
     · have hy:y=0:=by have:¬y>0:=fun z=>hc (cw z);omega
       subst hy;rw[Int.gcd_zero_right]at e;have ex:x=((Int.gcd a b:Nat):Int):=by omega
       have Ew:b≠0:=by omega
       have gp:=Ar.zu (p:=a) Ew;have es:Ar.sg a b=(Int.gcd a b:Int):=by unfold Ar.sg;rw[aV (by omega)]
       have gw:Wd (Int.gcd a b:Int):=by rw[<-es];exact oY (Ar.Iw Ew) wb
       obtain⟨e1,e2⟩:=yT (a:=a) Ew;have f1:a/(Int.gcd a b:Int)=(Rat.divInt a b).num:=by rw[<-e1];unfold Ar.lowP;rw[es,Ro _ (by omega)]
       have f2:b/(Int.gcd a b:Int)=((Rat.divInt a b).den:Int):=by rw[<-e2];unfold Ar.fQ;rw[es,Ro _ (by omega)]
       subst ex;refine⟨_,rfl,_,rfl,_,_,rfl,rfl,⟨gp,gw⟩,_,rfl,_,rfl,_,_,rfl,rfl,⟨gp,gw⟩,bM _ (bR rfl),fun t H6 n6=>?_⟩;have Oe:=n6.at';simp only[f1,f2]at Oe;exact k _ _ ⟨t,rfl,aB.of Oe⟩ n6.same
   · rintro σ H2 Q1 Q2 hq ⟨v1,e1,i,j,e3,e4,kk,e5,q⟩
     exact⟨v1,e1,i,j,e3,e4,kk,e5,hq _ _ q⟩
abbrev C7:Stmt:=top 66
theorem Jt:bc ["_law_thing"] ["_law_thing"] (aM C7):=bh (by decide+kernel)
theorem Xg(F:FA K mg "_law_number" C7)(B:bB mg):aj P w K mg base "_law_number" 1 (rK K):=by
 refine F.has Jt (fun vs H Q E h=>?_) (fun _ _ _ _ _ _=>dR fun _=>rfl) (fun f aD A outer s H vs Q E hr h=>?_)
 · obtain⟨v,T,rfl,_⟩:=h
   rfl
 · obtain⟨v,T,rfl,ty,k⟩:=h
   have nd:=Jt.nd;refine⟨_,(ao (aG (gm (aL (x:="isinstance") (cT K rfl) rfl (B.at "isinstance") cZ (aa (pv 0) (aa (cL (x:="int") (v:=.ty "int") rfl (B.at "int") Gb rfl) af))) (gD (Kt (aL (x:="isinstance") (cT K rfl) rfl (B.at "isinstance") cZ (aa (pv 0) (aa (cL (x:="bool") (v:=.ty "bool") rfl (B.at "bool") PyProof.Rows.boot_bool rfl) af)))))))),?_⟩;refine⟨_,rfl,.inl ⟨_,T,"int",_,rfl,ty,by decide,rfl,_,rfl,?_⟩⟩;unfold tm at k;refine cV (fun hc=>?_) (fun hc=>?_)
   · refine⟨_,rfl,.inl ⟨_,T,"bool",_,rfl,ty,by decide,rfl,_,rfl,?_⟩⟩
     rw[hc,jy]at k;exact k
   · rw[uA.mpr hc,jd]at k
     exact k
theorem GQ:gI "tuple" "tuple"=true:=by decide
theorem GU:gI "list" "list"=true:=by decide
abbrev Itm:=Option (List Int × Int)
def itR(d:a5z)(o:Itm):Prop:=(∃ns sp,d=fy ns sp/\o=some (ns,sp))\/∃w x,d= .tuple [.str w,x]/\(w="wait"\/w="tool"\/w="mark")/\dP x=true/\o=none
theorem itR.no{d:a5z}{o:Itm}(h:itR d o):dP d=true:=by
 rcases h with⟨ns,sp,rfl,_⟩|⟨w,x,rfl,_,h,_⟩
 ·exact vU _ _
 ·simp[dP,cm,h]
theorem tj{H:Hp}{v:V}{d:a5z}{o:Itm}(h:RD K H v d)(i:itR d o):∃a w ys,v= .ref a/\aB K H a (.str w::ys)/\(PyData.eqv (.str w) (.str "line")=o.isSome)/\SeqAt.shaped (.str w)=true:=by
 rcases i with⟨ns,sp,rfl,rfl⟩|⟨w,x,rfl,hw,_,rfl⟩
 · obtain⟨a,b,rfl,h1,_⟩:=jo h
   exact⟨a,_,_,rfl,h1,(by show PyData.eqv (.str "line") (.str "line")=true;decide+kernel),by decide+kernel⟩
 · obtain⟨a,xs,rfl,h1,h2⟩:=h.dv
   obtain⟨x1,r1,rfl,e1,h2⟩:=h2.cons_inv;cases e1.str_inv;refine⟨a,w,r1,rfl,h1,?_,?_⟩
   · show PyData.eqv (.str w) (.str "line")=false
     rcases hw with rfl|rfl|rfl<;>decide+kernel
   ·rcases hw with rfl|rfl|rfl<;>decide+kernel
theorem sY:SeqAt.shaped (.str "line")=true:=by decide+kernel
theorem jL{d:a5z}{ns:List Int}{sp:Int}(h:itR d (some (ns,sp))):d=fy ns sp:=by
 rcases h with⟨vy,uP,e1,e2⟩|⟨_,_,_,_,_,e2⟩
 ·cases e2;exact e1
 ·cases e2
structure fR(ax:Nat)(ds:List a5z)(os:List Itm):Prop where
 len:ds.length=os.length
 it:∀(i:Nat)(d:a5z)(o:Itm),ds[i]? =some d->os[i]? =some o->itR d o
 ok:∀(i:Nat)(ns:List Int)(sp:Int),os[i]? =some (some (ns,sp))->dN ax 100 ns/\1<=sp/\sp<=20
theorem fR.nil{ax:Nat}:fR ax [] []:=⟨rfl,fun i d o e=>by simp at e,fun i ns sp e=>by simp at e⟩
theorem pJ{α:Type}{xs:List α}{x y:α}{j:Nat}(e:(xs++[x])[j]? =some y):xs[j]? =some y\/(j=xs.length/\y=x):=by
 by_cases hj:j<xs.length
 ·rw[uz hj]at e;exact .inl e
 · have qw:j=xs.length:=by have:=(dC.mp e).1;rw[eZ]at this;have:j<xs.length+1:=this;omega
   rw[qw,xx (bp _),Gd]at e;exact .inr ⟨qw,(eG e).symm⟩
theorem fR.snoc{ax:Nat}{ds:List a5z}{os:List Itm}{d:a5z}{o:Itm}(h:fR ax ds os)(i:itR d o)(g:∀ns sp,o=some (ns,sp)->dN ax 100 ns/\1<=sp/\sp<=20):fR ax (ds++[d]) (os++[o]):=by
 have hl:=h.len;refine⟨by rw[eZ,eZ,h.len];rfl,fun j d' o' e1 e2=>?_,fun j ns sp e=>?_⟩
 · rcases pJ e1 with e1|⟨j1,rfl⟩
   · rcases pJ e2 with e2|⟨j2,rfl⟩
     ·exact h.it j d' o' e1 e2
     ·have:=(dC.mp e1).1;omega
   · rcases pJ e2 with e2|⟨j2,rfl⟩
     ·have:=(dC.mp e2).1;omega
     ·exact i
 · rcases pJ e with e|⟨_,e⟩
   ·exact h.ok j ns sp e
   ·exact g ns sp e.symm
theorem fR.no{ax:Nat}{ds:List a5z}{os:List Itm}(h:fR ax ds os):cm ds=true:=gq.mpr fun d hd=>by obtain⟨i,hi⟩:=uw.mp hd;have hl:=(dC.mp hi).1;exact(h.it i d _ hi (bO (by rw[<-h.len];exact hl))).no
theorem fR.get{ax:Nat}{ds:List a5z}{os:List Itm}(h:fR ax ds os){i:Nat}{d:a5z}(e:ds[i]? =some d):∃o,os[i]? =some o/\itR d o:=by have hl:=(dC.mp e).1;have e2:=bO (show i<os.length by rw[<-h.len];exact hl);exact⟨_,e2,h.it i d _ e e2⟩
inductive PV(K:a5w)(vs:List V)(H:Hp)(Q:VK):Prop |mk (v:_)(d:_)(o:_)(h0:vs=[v])(h1:RD K H v d)(h2:itR d o)(h3:Q (.bl o.isSome) H):PV K vs H Q
def rL(K:a5w):Sp:=fun vs H Q _=>PV K vs H Q
abbrev C9:Stmt:=top 44
theorem Jv:bc ["item"] ["item"] (aM C9):=bh (by decide+kernel)
theorem Xq(F:FA K mg "is_line" C9)(B:bB mg):aj P w K mg base "is_line" 1 (rL K):=by
 refine F.has Jv (fun vs H Q E h=>?_) (fun _ _ _ _ _ _=>dR fun _=>rfl) (fun f aD A outer s H vs Q E hr h=>?_)
 · obtain⟨v,d,o,rfl,_⟩:=h
   rfl
 · obtain⟨v,d,o,rfl,ri,it,k⟩:=h
   have nd:=Jv.nd;refine⟨_,(ao (aG (e9 (cH K rfl hr.units) (aJ (aK K rfl) (pv 0) ag (fun _ _=>rfl)) aU (aX _)))),?_⟩;obtain⟨a,wd,ys,rfl,h1,ew,sw⟩:=tj ri it;refine⟨_,rfl,.inr ⟨a,_,0,.str wd,rfl,rfl,h1,cM (fG 0) rfl,.inr ⟨_,_,dD _,dD _,sw,sY,?_⟩⟩⟩;rw[ew];exact k
def ud:Str:="abcdefghijklmnopqrstuvwxyz"
def RH(ns:List Int):a5z:=.tuple (ns.map fun z=>cD (Rat.divInt z (Ln.ak ns)))
theorem o3(r:Rat):dP (cD r)=true:=by simp[cD,dP,cm]
theorem L1{α:Type}{f:α->a5z}(h:∀a,dP (f a)=true)(l:List α):cm (l.map f)=true:=gq.mpr fun d hd=>by obtain⟨a,_,rfl⟩:=kb.mp hd;exact h a
inductive OM(K:a5w)(vs:List V)(H:Hp)(Q:VK):Prop |mk (v:_)(ns:_)(sp:_)(h0:vs=[v])(h1:RD K H v (fy ns sp))(h2:dN ns.length 1000 ns)(h3:ns.length<=1000)(h4:∀v' H',RD K H' v' (RH ns)->ai H H'->Q v' H'):OM K vs H Q
def Hu(K:a5w):Sp:=fun vs H Q _=>OM K vs H Q
abbrev B9:Stmt:=top 23
theorem ID:bc ["line","lead"] ["line"] (aM B9):=bh (by decide+kernel)
theorem Wo(F:FA K mg "ways_of" B9)(B:bB mg)(mJ:aj P w K mg base "lead_of" 1 (ki K))(oq:aj P w K mg base "fraction" 3 (rF K)):aj P w K mg base "ways_of" 4 (Hu K):=by
 refine F.has ID (fun vs H Q E h=>?_) (fun _ _ _ _ _ _=>dR fun _=>rfl) (fun f aD A outer s H vs Q E hr h=>?_)
 · obtain⟨v,ns,sp,rfl,_⟩:=h
   rfl
 · obtain⟨v,ns,sp,rfl,rd,ok,hz,k⟩:=h
   have nd:=ID.nd;refine⟨_,(ah (aH (i:=1) nd rfl (Or.inr rfl) (pf mJ hr (aa (pv 0) af))) (ao (aG (gk (x:="tuple") (jB K rfl) rfl (B.at "tuple") eU (aa (ft (N:=["step","lead"]) (js:=[none,some 1]) rfl rfl rfl (o6 K rfl (aJ (aK K rfl) (pv 0) ag (fun _ _=>rfl))) (fun _ _ _ _ _=>(aQ (i:=0) (show List.Nodup (["step","lead"]:List Str) by decide+kernel) rfl (Or.inl rfl))) (fun _ _ _ _ _=>eL) (fun _ _ _ _ _=>(pf oq hr (aa (pv 0) (aa (pv 1) af))))) af))))),?_⟩;refine⟨_,rfl,v,ns,sp,rfl,rd,ok.ne,hz,fun H1 s1=>?_⟩;obtain⟨a,b,rfl,ha,hb⟩:=jo (RD.mono s1 _ rd);obtain⟨lp,lm⟩:=ok.lead;refine⟨_,rfl,.inr ⟨a,_,1,.ref b,rfl,rfl,ha,rfl,b,rfl,⟨_,hb⟩,fun D H0 nw=>?_⟩⟩;refine zM (K:=K) (xs:=ns.map V.int) (ds:=ns.map fun z=>cD (Rat.divInt z (Ln.ak ns))) _ hb nw (by simp) (by simpa using hz) (L1 (fun _=>o3 _) _) ?_ ?_
   · intro i x d H2 Q' ex ed s2 hq
     obtain⟨n,en,rfl⟩:=kH ed;cases vQ ex en;refine⟨_,rfl,_,rfl,n,_,rfl,by omega,gb (n:=20) (by omega) (by decide),fun v3 H3 r3 s3=>?_⟩;exact hq _ _ s3 r3.rd
   · intro H' ys s2 d2 r2
     refine⟨D,_,rfl,.inl ⟨aw.of d2,fun t H4 n4=>?_⟩⟩;exact k _ _ (iW (aB.of n4.at') (ay.mono n4.same _ r2)) (s1.trans (s2.trans n4.same))
theorem uH:gI "tuple" "tuple"=true:=by decide
theorem RG(d:a5z):(∃i,d= .int i/\tm (lb d)=true)\/(tm (lb d)=false/\∀i,d≠ .int i):=by cases d with |int i=>exact .inl ⟨i,rfl,by simp[lb];decide⟩ |_=>exact .inr ⟨by simp[lb];decide,fun _ z=>nomatch z⟩
theorem Az(d:a5z):(∃ds,d= .tuple ds)\/(gI (lb d) "tuple"=false/\∀ds,d≠ .tuple ds):=by cases d with |tuple ds=>exact .inl ⟨ds,rfl⟩ |_=>exact .inr ⟨by simp[lb];decide,fun _ z=>nomatch z⟩
def fK(lo hi:Int):a5z->Bool | .int i=>decide (lo<=i)&&decide (i<=hi) |_=>false
theorem Zl{lo hi:Int}{d:a5z}(h:∀i,d≠ .int i):fK lo hi d=false:=by cases d<;>first|rfl|exact absurd rfl (h _)
inductive ON(K:a5w)(vs:List V)(H:Hp)(Q:VK):Prop |mk (v:_)(d:_)(lo:_)(hi:_)(h0:vs=[v,.int lo,.int hi])(h1:RD K H v d)(h2:Q (.bl (fK lo hi d)) H):ON K vs H Q
def pI(K:a5w):Sp:=fun vs H Q _=>ON K vs H Q
abbrev Ba:Stmt:=top 10
theorem IE:bc ["thing","low","high"] ["thing","low","high"] (aM Ba):=bh (by decide+kernel)
theorem Wn(F:FA K mg "is_whole_within" Ba)(B:bB mg)(zp:aj P w K mg base "is_whole" 1 (rK K)):aj P w K mg base "is_whole_within" 2 (pI K):=by
 refine F.has IE (fun vs H Q E h=>?_) (fun _ _ _ _ _ _=>lX fun _ _ _=>rfl) (fun f aD A outer s H vs Q E hr h=>?_)
 · obtain⟨v,d,lo,hi,rfl,_⟩:=h
   rfl
 · obtain⟨v,d,lo,hi,rfl,rd,k⟩:=h
   have nd:=IE.nd;refine⟨_,(ao (aG (gm (pf zp hr (aa (pv 0) af)) (gD (Dj o7 o7 (pv 1) (pv 0) (pv 2)))))),?_⟩;refine⟨_,rfl,_,_,rfl,rd.ty,_,rfl,?_⟩;rcases RG d with⟨i,rfl,e⟩|⟨e,hn⟩
   · cases rd.int_inv
     rw[e];refine bF ?_;have k:Q (.bl (decide (lo<=i)&&decide (i<=hi))) H:=k;refine⟨_,rfl,_,rfl,_,_,rfl,rfl,_,rfl,?_⟩;refine cV (fun hc=>?_) (fun hc=>?_)
     · have kL:decide (lo<=i)=true:=hc
       rw[kL,jy]at k;exact⟨_,rfl,_,_,rfl,rfl,k⟩
     · have kL:decide (lo<=i)=false:=uA.mpr hc
       rw[kL,jd]at k;exact k
   · rw[e]
     refine bf ?_;rw[Zl hn]at k;exact k
open Cn
theorem Gy{ns ms:List Int}{i:Nat}{a b:Int}(h1:ns[i]? =some a)(h2:ms[i]? =some b):(cK ns ms)[i]? =some (a*(ak ms:Int)-b*(ak ns:Int)):=by unfold cK;rw[bU,(uy (z:=(a,b))).mpr ⟨h1,h2⟩];rfl
def wN(j:Int)(ns ms:List Int):a5z:=if ak (cK ns ms)=0 then .none else cD (Rat.divInt ((j*ak ns*ak ms)^2) ((ak (cK ns ms):Int)^2))
inductive Q4(K:a5w)(vs:List V)(H:Hp)(Q:VK):Prop |mk (v:_)(v1:_)(v2:_)(rs:_)(r:_)(f:_)(j:_)(t:_)(ns:_)(ms:_)(gd:_)(gL:_)(h0:vs=[v,v1,v2])(h1:RD K H v (gQ rs r f j t))(h2:RD K H v1 (fy ns gd))(h3:RD K H v2 (fy ms gL))(h4:dN ns.length 1000 ns)(h5:dN ns.length 1000 ms)(h6:ns.length<=1000)(h7:1<=j)(h8:j<=50)(h9:∀v' H',RD K H' v' (wN j ns ms)->ai H H'->Q v' H'):Q4 K vs H Q
def AZ(K:a5w):Sp:=fun vs H Q _=>Q4 K vs H Q
theorem zip2{ns ms:List Int}(h:ms.length=ns.length){i:Nat}{x y:V}(ex:(ns.map V.int)[i]? =some x)(ey:(ms.map V.int)[i]? =some y):∃a b,ns[i]? =some a/\ms[i]? =some b/\x= .int a/\y= .int b:=by rw[bU]at ex ey;cases e1:ns[i]? with |none=>rw[e1]at ex;cases ex |some a=>cases e2:ms[i]? with |none=>rw[e2]at ey;cases ey |some b=>rw[e1]at ex;rw[e2]at ey;exact⟨a,b,rfl,rfl,(eG ex).symm,(eG ey).symm⟩
inductive OP(K:a5w)(vs:List V)(H:Hp)(Q:VK):Prop |mk (v1:_)(v2:_)(ns:_)(ms:_)(gd:_)(gL:_)(h0:vs=[v1,v2])(h1:RD K H v1 (fy ns gd))(h2:RD K H v2 (fy ms gL))(h3:dN ns.length 1000 ns)(h4:dN ns.length 1000 ms)(h5:ns.length<=1000)(h6:∀v' H',aR K H' v' (Rat.divInt (ak (cK ns ms)) ((ak ns:Int)*ak ms))->ai H H'->Q v' H'):OP K vs H Q
def Hw(K:a5w):Sp:=fun vs H Q _=>OP K vs H Q
abbrev Bb:Stmt:=top 33
theorem IG:bc ["one","other","greatest","way","new_way","p","q","difference"] ["one","other"] (aM Bb):=bh (by decide+kernel)
theorem Wq(F:FA K mg "greatest_turn" Bb)(B:bB mg)(M7:aj P w K mg base "ways_of" 4 (Hu K))(a0e:aj P w K mg base "minus" 3 (lj (·-·) K))(El:aj P w K mg base "is_less" 1 (rJ K)):aj P w K mg base "greatest_turn" 5 (Hw K):=by
 refine F.has IG (fun vs H Q E h=>?_) (fun _ _ _ _ _ _=>cP fun _ _=>rfl) (fun f aD A outer s H vs Q E hr h=>?_)
 · obtain⟨v1,v2,ns,ms,gd,gL,rfl,_⟩:=h
   rfl
 · obtain⟨v1,v2,ns,ms,gd,gL,rfl,CY,nZ,fk,dM,hz,k⟩:=h
   have nd:=IG.nd;obtain⟨YD,YJ⟩:=fk.lead;obtain⟨YC,DP⟩:=dM.lead;have M5:ms.length<=1000:=by rw[dM.len];exact hz
   have XI:dN ms.length 1000 ms:=⟨rfl,dM.bd,dM.nz⟩;have cb:=zL (fun z hz=>by have:=fk.bd z hz;omega) (fun z hz=>by have:=dM.bd z hz;omega) (ns:=ns) (ms:=ms);have L0:(0:Int)<(ak ns:Int)*ak ms:=gA (by omega) (by omega);have Lb:((ak ns:Int)*ak ms).natAbs<=1000*1000:=jJ (by omega) (by omega);have a5j:(cK ns ms).length=ns.length:=by simp[cK,dM.len]
   have Ms:∀c:Int,c.natAbs<=2000000->Bd 2000 (Rat.divInt c ((ak ns:Int)*ak ms)):=fun c hc=>(ji (n:=30) (by omega) (by omega) (by omega)).mono (by decide);refine⟨_,(ah (aH (i:=2) nd rfl (Or.inl rfl) (dH (aa ag (aa ag af)))) (ah (jF fU rfl (hW K rfl false false rfl (B.at "zip") (aa (pf M7 hr (aa (pv 0) af)) (aa (pf M7 hr (aa (pv 1) af)) af))) (cS K rfl (n:=2) rfl (bo (aQ (i:=3) nd rfl (Or.inl rfl)) (bo (aQ (i:=4) nd rfl (Or.inl rfl)) cR))) (ah (fi (pf a0e hr (aa (pv 4) (aa (pv 3) af))) (cS K rfl (n:=2) rfl (bo (aQ (i:=5) nd rfl (Or.inl rfl)) (bo (aQ (i:=6) nd rfl (Or.inl rfl)) cR)))) (ah (aH (i:=7) nd rfl (Or.inl rfl) (dH (aa (aL (x:="abs") lW rfl (B.at "abs") nI (aa (pv 5) af)) (aa (pv 6) af)))) (ao (bj (cA (pf El hr (aa (pv 2) (aa (pv 7) af)))) (ao (aH (i:=2) nd rfl (Or.inl rfl) (pv 7))) bE))))) (ao (aG (pv 2))))),?_⟩;refine⟨bM _ (bR rfl),fun g0 H1 n1=>?_⟩;refine⟨_,rfl,v1,ns,gd,rfl,RD.mono n1.same _ CY,fk,hz,fun w1 H2 r2 s2=>?_⟩;have t2:=n1.same.trans s2;refine⟨_,rfl,v2,ms,gL,rfl,RD.mono t2 _ nZ,XI,M5,fun w2 H3 r3 s3=>?_⟩;have t3:=t2.trans s3;obtain⟨c1,xs1,rfl,h1,q1⟩:=(RD.mono s3 _ r2).dv;obtain⟨c2,xs2,rfl,h2,q2⟩:=r3.dv;have l1:=q1.length;have l2:=q2.length;rw[bS]at l1 l2;refine⟨c1,c2,rfl,⟨_,h1⟩,⟨_,h2⟩,?_⟩;refine a23 (K:=K) (b1:=false) (b2:=false) (xs:=xs1) (ys:=xs2) ns.length (by rw[l1,l2,dM.len];omega) (fun i σ H4=>ai H3 H4/\∃g u1 u2 u3 u4 u5,aR K H4 g (Rat.divInt (oo (cK ns ms) i) ((ak ns:Int)*ak ms))/\σ=[some v1,some v2,some g,u1,u2,u3,u4,u5]) ?_ (fun i σ H4 _ h=>⟨h1.go h.1,h2.go h.1⟩) ?_ ?_
   · refine⟨ai.refl _,.ref g0,none,none,none,none,none,⟨g0,rfl,?_⟩,rfl⟩
     have e0:Rat.divInt ((oo (cK ns ms) 0:Nat):Int) ((ak ns:Int)*ak ms)=0:=by show Rat.divInt 0 _=0;exact Rat.zero_divInt _
     rw[e0];exact aB.of (s3 _ _ (s2 _ _ n1.at'))
   · rintro i x y σ H4 ex ey ⟨s4,g,u1,u2,u3,u4,u5,rg,rfl⟩ T H5 n5
     obtain⟨d1,e1,rx⟩:=q1.get' i ex;obtain⟨d2,e2,ry⟩:=q2.get' i ey;obtain⟨a,ea,rfl⟩:=kH e1;obtain⟨b,eb,rfl⟩:=kH e2;have qa:=fk.bd a (g9 ea);have qb:=dM.bd b (g9 eb);have cz:=Gy ea eb;have czb:=cb _ (g9 cz);have t5:=s4.trans n5.same;refine⟨T,_,rfl,aB.of n5.at',rfl,_,_,rfl,_,_,rfl,rfl,?_⟩;have lE:∀{H':Hp}{v:V}{r:Rat},RD K H' v (cD r)->aR K H' v r:=fun{H' v r} h=>by obtain⟨p,xs,rfl,h1,h2⟩:=h.dv;have:=h2.gT (ns:=[r.num,r.den]);subst this;exact⟨p,rfl,h1⟩
     refine⟨_,rfl,_,rfl,y,x,_,_,rfl,lE (RD.mono t5 _ ry),lE (RD.mono t5 _ rx),(ji (n:=30) (by omega) (by omega) (by omega)).mono (by decide),(ji (n:=30) (by omega) (by omega) (by omega)).mono (by decide),fun v6 H6 r6 s6=>?_⟩;have ed:Rat.divInt b (ak ms)-Rat.divInt a (ak ns)=Rat.divInt (b*ak ns-a*ak ms) ((ak ns:Int)*ak ms):=SV (by omega) (by omega);have r6:aR K H6 v6 (Rat.divInt b (ak ms)-Rat.divInt a (ak ns)):=r6;rw[ed]at r6;obtain⟨p6,rfl,h6⟩:=r6;refine⟨p6,_,rfl,h6,rfl,_,_,rfl,_,_,rfl,rfl,?_⟩;refine⟨_,rfl,_,rfl,_,rfl,bM _ (bR rfl),fun dd H7 n7=>?_⟩;have pL:=s6.trans n7.same;have rD:aR K H7 (.ref dd) (Rat.divInt (((a*(ak ms:Int)-b*(ak ns:Int)).natAbs:Nat):Int) ((ak ns:Int)*ak ms)):=by
      have e:Rat.divInt (((a*(ak ms:Int)-b*(ak ns:Int)).natAbs:Nat):Int) ((ak ns:Int)*ak ms)=qQ (Rat.divInt (b*ak ns-a*ak ms) ((ak ns:Int)*ak ms)):=by rw[a3Y L0,wX];congr 1;omega
      rw[e];refine⟨dd,rfl,?_⟩;rw[a3X,a3Z];exact aB.of n7.at'
     have rG:aR K H7 g _:=(rg.go n5.same).go pL;have hG:oo (cK ns ms) i<=2000000:=lN fun z hz=>cb z (Aj hz);refine⟨_,rfl,_,rfl,g,.ref dd,_,_,rfl,rG,rD,Ms _ (by omega),Ms _ (by omega),_,rfl,?_⟩;have hs:=a0y cz;refine cV (fun hc=>?_) (fun hc=>?_)
     · have bZ:=(ND L0).mp (ja hc)
       refine⟨_,rfl,?_⟩;refine⟨t5.trans pL,_,_,_,_,_,_,?_,rfl⟩;rw[hs,Nat.max_eq_right (by omega)];exact rD
     · have hge:¬_:=fun z=>hc (cw ((ND L0).mpr z))
       refine⟨t5.trans pL,_,_,_,_,_,_,?_,rfl⟩;rw[hs,Nat.max_eq_left (by omega)];exact rG
   · rintro σ H4 ⟨s4,g,u1,u2,u3,u4,u5,rg,rfl⟩
     refine⟨_,rfl,k _ _ ?_ (t3.trans s4)⟩;have:oo (cK ns ms) ns.length=ak (cK ns ms):=by unfold oo;rw[Gi (by omega)]
     rw[this]at rg;exact rg
abbrev Cm:Stmt:=top 30
theorem JG:bc ["machine","one","other","jump","p","q"] ["machine","one","other"] (aM Cm):=bh (by decide+kernel)
theorem XA(F:FA K mg "corner_square" Cm)(B:bB mg)(a0A:aj P w K mg base "greatest_turn" 5 (Hw K))(oq:aj P w K mg base "fraction" 3 (rF K)):aj P w K mg base "corner_square" 6 (AZ K):=by
 refine F.has JG (fun vs H Q E h=>?_) (fun _ _ _ _ _ _=>lX fun _ _ _=>rfl) (fun f aD A outer s H vs Q E hr h=>?_)
 · obtain⟨v,v1,v2,rs,r,f',j,t,ns,ms,gd,gL,rfl,_⟩:=h
   rfl
 · obtain⟨v,v1,v2,rs,r,f',j,t,ns,ms,gd,gL,rfl,rd,CY,nZ,fk,dM,hz,j1,j2,k⟩:=h
   have nd:=JG.nd;obtain⟨YD,YJ⟩:=fk.lead;obtain⟨YC,DP⟩:=dM.lead;have L0:(0:Int)<(ak ns:Int)*ak ms:=gA (by omega) (by omega);have Lb:((ak ns:Int)*ak ms).natAbs<=1000*1000:=jJ (by omega) (by omega);have cb:=zL (fun z hz=>by have:=fk.bd z hz;omega) (fun z hz=>by have:=dM.bd z hz;omega) (ns:=ns) (ms:=ms);have hH:=lN cb;refine⟨_,(ah (aH (i:=3) nd rfl (Or.inl rfl) (aJ (aK K rfl) (pv 0) ag (fun _ _=>rfl))) (ah (fi (pf a0A hr (aa (pv 1) (aa (pv 2) af))) (cS K rfl (n:=2) rfl (bo (aQ (i:=4) nd rfl (Or.inl rfl)) (bo (aQ (i:=5) nd rfl (Or.inl rfl)) cR)))) (ah (bj (bK (cH K rfl hr.units) (pv 4) ag (aX _)) (ao (aG iD)) bE) (ao (aG (pf oq hr (aa (au ba (au ba (au ba (pv 3) (pv 3)) (pv 5)) (pv 5)) (aa (au ba (pv 4) (pv 4)) af)))))))),?_⟩;obtain⟨am,bm,rfl,fA,gE⟩:=jn rd;refine⟨_,rfl,.inr ⟨am,_,3,.int j,rfl,rfl,fA,rfl,?_⟩⟩;refine⟨_,rfl,_,rfl,v1,v2,ns,ms,gd,gL,rfl,CY,nZ,fk,dM,hz,fun v3 H3 r3 s3=>?_⟩;obtain⟨Fx⟩:Nonempty (Bd 30 (Rat.divInt (ak (cK ns ms)) ((ak ns:Int)*ak ms))):=⟨ji (n:=30) (by omega) (by omega) (by omega)⟩;have en:=oV (Rat.divInt (ak (cK ns ms)) ((ak ns:Int)*ak ms));obtain⟨R,hR⟩:∃R,Rat.divInt (ak (cK ns ms)) ((ak ns:Int)*ak ms)=R:=⟨_,rfl⟩;rw[hR]at r3 Fx en;have dp:=den_pos R;have wM:R.num*((ak ns:Int)*ak ms)=ak (cK ns ms)*R.den:=by rw[<-hR]at en;have:=(Rat.divInt_eq_divInt_iff (by rw[hR];omega) (by omega)).mp en;rw[hR]at this;exact this
   have nb:=Fx.num;have db:=Fx.den;obtain⟨p3,rfl,h3⟩:=r3;refine⟨p3,_,rfl,h3,rfl,_,_,rfl,_,_,rfl,rfl,?_⟩;refine⟨_,rfl,.inl ⟨_,_,rfl,rfl,_,rfl,?_⟩⟩;refine cV (fun hc=>?_) (fun hc=>?_)
   · have h0:R.num=0:=by simpa using hc
     have hl:ak (cK ns ms)=0:=by
      rw[h0,xA]at wM;rcases Int.mul_eq_zero.mp wM.symm with h|h
      ·omega
      ·omega
     refine k .aW H3 ?_ s3;unfold wN;rw[aP hl];exact UR
   · have h0:R.num≠0:=by simpa using hc
     have hl:ak (cK ns ms)≠0:=by
      intro z;rw[z]at wM;have:R.num*((ak ns:Int)*ak ms)=0:=by rw[wM];exact xA _
      rcases Int.mul_eq_zero.mp this with h|h
      ·exact h0 h
      ·omega
     have m1:(j*j).natAbs<=50*50:=jJ (by omega) (by omega);have jS:(2:Nat)^64=18446744073709551616:=by decide
     refine⟨_,rfl,_,rfl,_,_,rfl,rfl,.of_left (bJ (by omega) (by omega)),_,rfl,_,_,rfl,rfl,.of_left (bJ (by omega) (by omega)),_,rfl,_,_,rfl,rfl,.of_right (bJ (by omega) (by omega)),?_⟩;refine⟨_,rfl,_,rfl,_,_,rfl,rfl,.of_left (bJ (by omega) (by omega)),?_⟩;refine⟨_,_,rfl,Gs h0 h0,?_,fun v4 H4 r4 s4=>?_⟩
     · refine gb (n:=60) ?_ (by decide)
       rw[fc];exact jI (n:=30) (m:=30) nb nb
     · refine k _ _ ?_ (s3.trans s4)
       unfold wN;rw[aV hl];have e:=a3b (j:=j) (p:=R.num) (q:=R.den) (h:=ak (cK ns ms)) (L:=(ak ns:Int)*ak ms) h0 (by omega) wM;rw[e,<-r8]at r4;exact r4.rd
def K8 (d:a5z):Bool:=fK 10 200 d
inductive Pg(K:a5w)(vs:List V)(H:Hp)(Q:VK):Prop |mk (v:_)(d:_)(h0:vs=[v])(h1:RD K H v d)(h2:Q (.bl (K8 d)) H):Pg K vs H Q
def AQ(K:a5w):Sp:=fun vs H Q _=>Pg K vs H Q
abbrev C8:Stmt:=top 32
theorem Ju:bc ["thing"] ["thing"] (aM C8):=bh (by decide+kernel)
theorem Xp(F:FA K mg "is_rate" C8)(B:bB mg)(a19:GV mg "LEAST_RATE" (.int 10))(a1b:GV mg "GREATEST_RATE" (.int 200))(mM:aj P w K mg base "is_whole_within" 2 (pI K)):aj P w K mg base "is_rate" 3 (AQ K):=by
 refine F.has Ju (fun vs H Q E h=>?_) (fun _ _ _ _ _ _=>dR fun _=>rfl) (fun f aD A outer s H vs Q E hr h=>?_)
 · obtain⟨v,d,rfl,_⟩:=h
   rfl
 · obtain⟨v,d,rfl,rd,k⟩:=h
   have nd:=Ju.nd;refine⟨_,(ao (aG (pf mM hr (aa (pv 0) (aa (gj (x:="LEAST_RATE") rfl a19) (aa (gj (x:="GREATEST_RATE") rfl a1b) af)))))),?_⟩;exact⟨_,rfl,v,d,10,200,rfl,rd,k⟩
inductive OS(K:a5w)(vs:List V)(H:Hp)(Q:VK):Prop |mk (v:_)(ns:_)(sp:_)(r:_)(h0:vs=[v,.int r])(h1:RD K H v (fy ns sp))(h2:1<=sp)(h3:sp<=20)(h4:10<=r)(h5:r<=200)(h6:∀v' H',aR K H' v' (Rat.divInt ((sp*r)^2) 10000)->ai H H'->Q v' H'):OS K vs H Q
def xY(K:a5w):Sp:=fun vs H Q _=>OS K vs H Q
theorem Hs(a b:Int):a*a*b*b=(a*b)^2:=by rw[fb,fb,kh,jx];ac_rfl
theorem UW{r:Int}(h1:10<=r)(h2:r<=200):K8 (.int r)=true:=by show(decide (10<=r)&&decide (r<=200))=true;rw[cw h1,cw h2];rfl
abbrev Be:Stmt:=top 31
theorem II:bc ["line","rate","speed"] ["line","rate"] (aM Be):=bh (by decide+kernel)
theorem Ws(F:FA K mg "top_square" Be)(B:bB mg)(a0n:aj P w K mg base "is_rate" 3 (AQ K))(oq:aj P w K mg base "fraction" 3 (rF K)):aj P w K mg base "top_square" 4 (xY K):=by
 refine F.has II (fun vs H Q E h=>?_) (fun _ _ _ _ _ _=>cP fun _ _=>rfl) (fun f aD A outer s H vs Q E hr h=>?_)
 · obtain⟨v,ns,sp,r,rfl,_⟩:=h
   rfl
 · obtain⟨v,ns,sp,r,rfl,rd,s1,s2,r1,r2,k⟩:=h
   have nd:=II.nd;refine⟨_,(ah (bj (dX (cA (pf a0n hr (aa (pv 1) af)))) (ao rY) bE) (ah (aH (i:=2) nd rfl (Or.inl rfl) (aJ (aK K rfl) (pv 0) ag (fun _ _=>rfl))) (ao (aG (pf oq hr (aa (au ba (au ba (au ba (pv 2) (pv 2)) (pv 1)) (pv 1)) (aa (au ba ag ag) af))))))),?_⟩;refine⟨_,rfl,_,.int r,rfl,dG r,_,rfl,?_⟩;rw[UW r1 r2];refine bf ?_;obtain⟨a,b,rfl,ha,hb⟩:=jo rd;refine⟨_,rfl,.inr ⟨a,_,2,.int sp,rfl,rfl,ha,rfl,?_⟩⟩;have m1:(sp*sp).natAbs<=20*20:=by rw[fc];exact kW (by omega) (by omega)
   refine⟨_,rfl,_,rfl,_,_,rfl,rfl,.of_left (bJ (by omega) (by omega)),_,rfl,_,_,rfl,rfl,.of_left (bJ (by omega) (by omega)),_,rfl,_,_,rfl,rfl,.of_right (bJ (by omega) (by omega)),?_⟩;refine⟨_,_,rfl,rfl,.of_left (bJ (by decide) (by decide)),?_⟩;refine⟨_,_,rfl,by decide,gb (n:=20) (by decide) (by decide),fun v' H' r' s'=>k v' H' ?_ s'⟩;rw[Hs]at r';exact r'
inductive OQ(K:a5w)(vs:List V)(H:Hp)(Q:VK):Prop |mk (v:_)(ns:_)(sp:_)(r:_)(h0:vs=[v,.int r])(h1:RD K H v (fy ns sp))(h2:1<=sp)(h3:sp<=20)(h4:10<=r)(h5:r<=200)(h6:∀v' H',aR K H' v' (Rat.divInt ((sp*r)^2) 10000)->ai H H'->Q v' H'):OQ K vs H Q
def AL(K:a5w):Sp:=fun vs H Q _=>OQ K vs H Q
abbrev Bc:Stmt:=top 77
theorem IH:bc ["_law_line_here","_law_rate"] ["_law_line_here","_law_rate"] (aM Bc):=bh (by decide+kernel)
open Pn
open Ow (topR cornO mnO betR atO ownF leadF ownL OkI OkIs)
theorem Tj(n:Nat)(h:n<=1000):n<sizeLine:=oY h (by decide)
theorem lE{H:Hp}{v:V}{r:Rat}(h:RD K H v (cD r)):aR K H v r:=by obtain⟨p,xs,rfl,h1,h2⟩:=h.dv;have:=h2.gT (ns:=[r.num,r.den]);subst this;exact⟨p,rfl,h1⟩
theorem dN.up{ax:Nat}{ns:List Int}(h:dN ax 100 ns):dN ns.length 1000 ns:=⟨rfl,fun z hz=>by have:=h.bd z hz;omega,h.nz⟩
theorem fR.sH{ax:Nat}{ds:List a5z}{os:List Itm}(h:fR ax ds os):OkIs os:=fun i ns sp e=>by unfold atO at e;cases ho:os[i]? with |none=>rw[ho]at e;cases e |some o=>rw[ho]at e;have e':o=some (ns,sp):=e;subst e';obtain⟨a,b,c⟩:=h.ok i ns sp ho;exact⟨a.bd,b,c⟩
theorem sL{H:Hp}{a:Addr}(h:aB K H a [.int 0,.int 1]):aR K H (.ref a) 0:=⟨a,rfl,h⟩
theorem a3d(j:Int)(ns ms:List Int):wN j ns ms=match cornO j ns ms with|none=>.none|some c=>cD c:=by unfold wN cornO;split<;>rfl
inductive Q6(K:a5w)(vs:List V)(H:Hp)(Q:VK):Prop |mk (m:_)(v1:_)(v2:_)(rate:_)(rs:_)(r:_)(f:_)(j:_)(t:_)(d1:_)(d2:_)(o1:_)(o2:_)(ax:_)(h0:vs=[m,v1,v2,.int rate])(h1:RD K H m (gQ rs r f j t))(h2:1<=j)(h3:j<=50)(h4:RD K H v1 d1)(h5:RD K H v2 d2)(h6:itR d1 o1)(h7:itR d2 o2)(h8:(∀ns sp,o1=some (ns,sp)->dN ax 100 ns/\1<=sp/\sp<=20))(h9:(∀ns sp,o2=some (ns,sp)->dN ax 100 ns/\1<=sp/\sp<=20))(h10:ax<=100)(h11:10<=rate)(h12:rate<=200)(h13:∀v H',aR K H' v (betR j rate o1 o2)->ai H H'->Q v H'):Q6 K vs H Q
def y8(K:a5w):Sp:=fun vs H Q _=>Q6 K vs H Q
abbrev Cq:Stmt:=top 52
theorem JJ:bc ["machine","one","other","rate","squares","corner"] ["machine","one","other","rate"] (aM Cq):=bh (by decide+kernel)
theorem XD(F:FA K mg "bound_between" Cq)(B:bB mg)(gN:GT K mg "NOUGHT" [.int 0,.int 1])(om:aj P w K mg base "is_line" 1 (rL K))(ze:aj P w K mg base "top_square" 4 (xY K))(a0J:aj P w K mg base "corner_square" 6 (AZ K))(tI:aj P w K mg base "least" 2 (iB K)):aj P w K mg base "bound_between" 7 (y8 K):=by
 obtain⟨aN,jR,lg⟩:=gN;refine F.has JJ (fun vs H Q E h=>?_) (fun _ _ _ _ _ _=>FH fun _ _ _ _=>rfl) (fun f aD A outer s H vs Q E hr h=>?_)
 · obtain⟨m,v1,v2,rate,rs,r,f,j,t,d1,d2,o1,o2,ax,rfl,_⟩:=h
   rfl
 · obtain⟨m,v1,v2,rate,rs,r,f,j,t,d1,d2,o1,o2,ax,rfl,rm,j1,j2,r1,r2,i1,i2,k1,k2,Mx,rt1,rt2,k⟩:=h
   have nd:=JJ.nd;refine⟨_,(ah (bj (PW.pt (kn (dX (cA (pf om hr (aa (pv 1) af)))) (kl (dX (cA (pf om hr (aa (pv 2) af))))))) (ao (aG (gj (x:="NOUGHT") rfl jR))) bE) (ah (aH (i:=4) nd rfl (Or.inl rfl) (dF (aa (pf ze hr (aa (pv 1) (aa (pv 3) af))) (aa (pf ze hr (aa (pv 2) (aa (pv 3) af))) af)))) (ah (aH (i:=5) nd rfl (Or.inl rfl) (pf a0J hr (aa (pv 0) (aa (pv 1) (aa (pv 2) af))))) (ah (fW (bj (bK vo (pv 5) iD (aX _)) (ao (fP (iX K rfl (pv 4) (aa (pv 5) af)))) bE)) (ao (aG (pf tI hr (aa (pv 4) af)))))))),?_⟩;refine⟨_,rfl,v1,d1,o1,rfl,r1,i1,_,rfl,?_⟩;cases o1 with |none=>refine bF (bF ?_);have:=k _ H (sL (lg H)) (ai.refl _);exact this |some q1=>obtain⟨ns,sp⟩:=q1;refine bf ?_;refine⟨_,rfl,v2,d2,o2,rfl,r2,i2,_,rfl,?_⟩;cases o2 with |none=>refine bF ?_;exact k _ H (sL (lg H)) (ai.refl _) |some q2=>obtain⟨ms,sq⟩:=q2;refine bf ?_;have e1:=jL i1;have e2:=jL i2;subst e1 e2;obtain⟨fk,a1,a2⟩:=k1 ns sp rfl;obtain⟨dM,b1,b2⟩:=k2 ms sq rfl;refine⟨_,rfl,_,rfl,v1,ns,sp,rate,rfl,r1,a1,a2,rt1,rt2,fun t1 H1 CN s1=>?_⟩;refine⟨_,rfl,_,rfl,v2,ms,sq,rate,rfl,RD.mono s1 _ r2,b1,b2,rt1,rt2,fun t2 H2 CM s2=>?_⟩;refine⟨bM _ (bR rfl),fun l H3 n3=>?_⟩;have t3:=s1.trans (s2.trans n3.same);have iI:dN ns.length 1000 ms:=⟨by rw[fk.len,dM.len],dM.up.bd,dM.nz⟩;refine⟨_,rfl,_,rfl,_,rfl,m,v1,v2,rs,r,f,j,t,ns,ms,sp,sq,rfl,RD.mono t3 _ rm,RD.mono t3 _ r1,RD.mono t3 _ r2,fk.up,iI,by rw[fk.len];omega,j1,j2,fun c H4 rc s4=>?_⟩;have T1:Bd 2000 (topR rate sp):=(Ow.rB a1 a2 rt1 rt2).mono (by decide);have T2:Bd 2000 (topR rate sq):=(Ow.rB b1 b2 rt1 rt2).mono (by decide);have R1:aR K H4 t1 (topR rate sp):=((CN.go s2).go n3.same).go s4;have R2:aR K H4 t2 (topR rate sq):=(CM.go n3.same).go s4;have t4:=t3.trans s4;rw[a3d]at rc;cases hc:cornO j ns ms with
       |none=>
         rw[hc]at rc;cases rc.KY;refine⟨fun σ H5=>H5=H4/\σ=[some m,some v1,some v2,some (.int rate),some (.ref l),some .aW],?_,?_⟩
         · refine⟨_,rfl,rfl,_,rfl,bf ?_⟩
           exact⟨rfl,rfl⟩
         rintro σ H5 ⟨rfl,rfl⟩;refine⟨_,rfl,l,[t1,t2],[topR rate sp,topR rate sq],rfl,aw.of (s4 _ _ n3.at'),⟨R1,T1,R2,T2,trivial⟩,by simp,fun i v q e1 e2 hq=>?_⟩;have qh:betR j rate (some (ns,sp)) (some (ms,sq))=q:=by
          show mnO (mn _ _) (cornO j ns ms)=q;rw[hc];refine lK ?_ (hq _ (by simp)) (hq _ (by simp))
          match i,e2 with |0,e2=>cases e2;exact .inl rfl |1,e2=>cases e2;exact .inr rfl
         refine k v _ ?_ t4;rw[qh]
         match i,e1,e2 with |0,e1,e2=>cases e1;cases e2;exact R1 |1,e1,e2=>cases e1;cases e2;exact R2
       |some cq=>
         rw[hc]at rc;have Rc:aR K H4 c cq:=lE rc;have Tc:Bd 2000 cq:=(Ow.Fl j1 j2 fk.bd dM.bd hc).mono (by decide);have gW:=s4 _ _ n3.at';have tU:iu H4 (L2.upd H4 l (.lst ([t1,t2]++[c]))):=.nP gW;refine⟨fun σ H5=>H5=L2.upd H4 l (.lst ([t1,t2]++[c]))/\σ=[some m,some v1,some v2,some (.int rate),some (.ref l),some c],?_,?_⟩
         · obtain⟨pc,rfl,_⟩:=id Rc
           refine⟨_,rfl,rfl,_,rfl,bF ?_⟩;refine⟨_,rfl,.inl ⟨rfl,_,aw.of gW⟩,_,rfl,l,[t1,t2],_,rfl,rfl,gW,Tj _ (bR rfl),?_⟩;exact⟨rfl,rfl⟩
         rintro σ H5 ⟨rfl,rfl⟩;have up:∀{v:V}{q:Rat},aR K H4 v q->aR K (L2.upd H4 l (.lst ([t1,t2]++[c]))) v q:=fun{v q} h=>lE (RD.t tU _ (o3 q) h.rd);refine⟨_,rfl,l,[t1,t2,c],[topR rate sp,topR rate sq,cq],rfl,aw.of aO,⟨up R1,T1,up R2,T2,up Rc,Tc,trivial⟩,by simp,fun i v q e1 e2 hq=>?_⟩;have qh:betR j rate (some (ns,sp)) (some (ms,sq))=q:=by
          show mnO (mn _ _) (cornO j ns ms)=q;rw[hc];show mn (mn _ _) cq=q;have h1:=hq _ (show topR rate sp∈[topR rate sp,topR rate sq,cq] by simp);have h2:=hq _ (show topR rate sq∈[topR rate sp,topR rate sq,cq] by simp);have h3:=hq _ (show cq∈[topR rate sp,topR rate sq,cq] by simp);refine lK ?_ (jK h1 h2) h3
          match i,e2 with |0,e2=>cases e2;exact .inl (lK (.inl rfl) h1 h2).symm |1,e2=>cases e2;exact .inl (lK (.inr rfl) h1 h2).symm |2,e2=>cases e2;exact .inr rfl
         have sU:ai H (L2.upd H4 l (.lst ([t1,t2]++[c]))):=fun b o e=>by have h0:H2 l=none:=n3.no;have e2:=s2 b o (s1 b o e);rw[az (fw e2 h0)];exact t4 b o e
         refine k v _ ?_ sU;rw[qh]
         match i,e1,e2 with |0,e1,e2=>cases e1;cases e2;exact up R1 |1,e1,e2=>cases e1;cases e2;exact up R2 |2,e1,e2=>cases e1;cases e2;exact up Rc
theorem sN(qs:List Rat):cm (qs.map cD)=true:=L1 o3 qs
theorem ay.B6{H:Hp}{l:Addr}{ys:List V}{y:V}{ds:List a5z}{d:a5z}{i:Nat}(dl:H l=some (.lst ys))(r:ay K H ys ds)(rd:RD K H y d)(n1:cm ds=true)(n2:dP d=true):ay K (L2.upd H l (.lst (ys.set i y))) (ys.set i y) (ds.set i d):=by have t:iu H (L2.upd H l (.lst (ys.set i y))):=.nP dl;have r':=ay.t t _ n1 r;have K6:=RD.t t _ n2 rd;clear r rd dl t;generalize L2.upd H l (.lst (ys.set i y))=H' at r' K6;induction ds generalizing ys i with |nil=>cases r'.nil_inv;exact cQ |cons d0 ds ih=>
   obtain⟨y0,yr,rfl,h1,h2⟩:=r'.cons_inv;have Ye:cm ds=true:=by rw[cm,fh]at n1;exact n1.2
   cases i with |zero=>exact cj K6 h2 |succ i=>exact cj h1 (ih Ye h2)
theorem Fj(xs:List V):kQ xs (some 1) none=xs.drop 1:=by unfold kQ;have e:HT.bP xs.length 0 (some 1)=min 1 xs.length:=HT.JN _ _ 1;rw[e,HT.U9];cases xs with |nil=>rfl |cons x xs=>
   have e2:min 1 (x::xs).length=1:=by simp
   rw[e2,Gi (by simp)]
inductive PB(K:a5w)(vs:List V)(H:Hp)(Q:VK):Prop |mk (m:_)(iv:_)(rate:_)(rs:_)(r:_)(f:_)(j:_)(t:_)(ds:_)(os:_)(h0:vs=[m,iv,.int rate])(h1:RD K H m (gQ rs r f j t))(h2:lZ rs r f j t)(h3:RD K H iv (.tuple ds))(h4:fR rs.length ds os)(h5:ds.length<=100)(h6:10<=rate)(h7:rate<=200)(h8:∀l ys H',H l=none->H' l=some (.lst ys)->ay K H' ys ((ownL j rate os).map cD)->ai H H'->Q (.ref l) H'):PB K vs H Q
def Ij(K:a5w):Sp:=fun vs H Q _=>PB K vs H Q
abbrev yb:Stmt:=top 51
theorem y9:bc ["machine","items","rate","between"] ["machine","items","rate"] (aM yb):=bh (by decide+kernel)
theorem X9(F:FA K mg "own_bounds" yb)(B:bB mg)(gN:GT K mg "NOUGHT" [.int 0,.int 1])(Eu:aj P w K mg base "bound_between" 7 (y8 K)):aj P w K mg base "own_bounds" 8 (Ij K):=by
 obtain⟨aN,jR,lg⟩:=gN;refine F.has y9 (fun vs H Q E h=>?_) (fun _ _ _ _ _ _=>lX fun _ _ _=>rfl) (fun f aD A outer s H vs Q E hr h=>?_)
 · obtain⟨m,iv,rate,rs,r,f,j,t,ds,os,rfl,_⟩:=h
   rfl
 · obtain⟨m,iv,rate,rs,r,f,j,t,ds,os,rfl,rm,aE,ri,row,hz,rt1,rt2,k⟩:=h
   have nd:=y9.nd;have rN:∀H',RD K H' (.ref aN) (cD 0):=fun H'=>(sL (lg H')).rd;refine⟨_,(ah (bj (dX (D9 K rfl (pv 1))) (ao (aG (dF (aa (gj (x:="NOUGHT") rfl jR) af)))) bE) (ah (Df (i0:=3) nd rfl (Or.inl rfl) (N:=["one","other","machine","rate"]) (js:=[none,none,some 0,some 2]) rfl rfl rfl (hW K rfl false false rfl (B.at "zip") (aa (pv 1) (aa (Di (B0 K rfl) (pv 1) (Dg ag) Dh) af))) (fun _ _ _ _ _=>(cS K rfl (n:=2) rfl (bo (aQ (i:=0) (show List.Nodup (["one","other","machine","rate"]:List Str) by decide+kernel) rfl (Or.inl rfl)) (bo (aQ (i:=1) (show List.Nodup (["one","other","machine","rate"]:List Str) by decide+kernel) rfl (Or.inl rfl)) cR)))) (fun _ _ _ _ _=>eL) (fun _ _ _ _ _=>(pf Eu hr (aa (pv 2) (aa (pv 0) (aa (pv 1) (aa (pv 3) af))))))) (ao (aG (au (u9 K rfl) (au (u9 K rfl) (dF (aa (gj (x:="NOUGHT") rfl jR) af)) (pv 3)) (dF (aa (gj (x:="NOUGHT") rfl jR) af))))))),?_⟩;obtain⟨ia,xs,rfl,hi,gu⟩:=ri.dv;have lx:=gu.length;have ll:=row.len;refine⟨_,rfl,_,.inr (.inl ⟨_,hi,rfl⟩),?_⟩;cases hd:xs with
   |nil=>
     subst hd;refine bF ?_;refine⟨bM _ (bR rfl),fun l H1 n1=>?_⟩;refine k l [.ref aN] H1 n1.no n1.at' ?_ n1.same;have e:os=[]:=by
      have:os.length=0:=by rw[<-ll,<-lx];rfl
      exact Al.mp this
     rw[e];exact cj (rN H1) cQ |cons x0 xr=>
     refine bf ?_;have cy:os≠[]:=by intro e;rw[e]at ll;rw[hd]at lx;simp at ll lx;rw[ll]at lx;cases lx
     have E6:0<xs.length:=by rw[hd];simp
     refine⟨_,rfl,_,rfl,1,rfl,ia,xs,rfl,.inr ⟨hi,?_,fun tl H1 n1=>?_⟩⟩
     · rintro⟨h1,_⟩
       have e:HT.bP xs.length 0 (some 1)=min 1 xs.length:=HT.JN _ _ 1;rw[e]at h1;omega
     refine⟨ia,tl,rfl,⟨_,hi.go n1.same⟩,⟨_,aB.of n1.at'⟩,fun D H2 n2=>?_⟩;have et:=n1.at';rw[Fj]at et;have vq:∀(i:Nat)(o:Itm),os[i]? =some o->∀(ns:List Int)(sp:Int),o=some (ns,sp)->dN rs.length 100 ns/\1<=sp/\sp<=20:=fun i o e ns sp e'=>row.ok i ns sp (by rw[e,e']);have lr:=aE.len;refine qO (K:=K) (b1:=false) (b2:=false) (xs:=xs) (ys:=xs.drop 1) (ds:=((List.range (os.length-1)).map (fun i=>ownF j rate os (i+1))).map cD) _ rfl (hi.go n1.same) (aB.of et) n2 (by rw[Gn];simp;omega) (by simp;omega) (sN _) ?_ ?_
     · intro i x y d H3 Q' ex ey ed s3 hq
       have cJ:=n1.same.trans s3;rw[List.getElem?_drop]at ey;obtain⟨d1,e1,r1⟩:=gu.get' i ex;obtain⟨d2,e2,r2⟩:=gu.get' (1+i) ey;obtain⟨o1,lT,i1⟩:=row.get e1;obtain⟨o2,kA,i2⟩:=row.get e2;have Mn:1+i<os.length:=(dC.mp kA).1;have jW:d=cD (betR j rate o1 o2):=by rw[bU,bU,bO (by simp;omega),qX]at ed;have:=(eG ed).symm;rw[this];show cD (betR j rate (atO os i) (atO os (i+1)))=_;rw[Ow.mZ lT,Ow.mZ (show os[i+1]? =some o2 by rw[Nat.add_comm];exact kA)]
       subst jW;refine⟨_,rfl,_,rfl,_,rfl,_,rfl,m,x,y,rate,rs,r,f,j,t,d1,d2,o1,o2,rs.length,rfl,RD.mono cJ _ rm,aE.j1.1,aE.j1.2,RD.mono cJ _ r1,RD.mono cJ _ r2,i1,i2,vq _ _ lT,vq _ _ kA,by omega,rt1,rt2,fun v H4 rv s4=>?_⟩;exact hq _ _ s4 rv.rd
     · intro H3 zs s3 d3 r3
       have lz:=r3.length;simp at lz;refine⟨bM _ (bR rfl),fun l1 H4 n4=>?_⟩;refine⟨_,rfl,l1,D,_,zs,rfl,rfl,aw.of n4.at',aw.of (n4.same _ _ d3),bM _ (by simp;omega),fun l2 H5 n5=>?_⟩;refine⟨bM _ (bR rfl),fun l3 H6 n6=>?_⟩;refine⟨l2,l3,_,_,rfl,rfl,aw.of (n6.same _ _ n5.at'),aw.of n6.at',bM _ (by simp;omega),fun l H7 n7=>?_⟩;have vb:ai H H6:=n1.same.trans (s3.trans (n4.same.trans (n5.same.trans n6.same)));have nl:H l=none:=by cases e:H l with |none=>rfl |some o=>have:=vb _ _ e;rw[n7.no]at this;cases this
       refine k l _ H7 nl n7.at' ?_ (vb.trans n7.same);rw[Ow.KH j rate cy,m3,m3];exact((cj (rN H7) cQ).append (ay.mono (n4.same.trans (n5.same.trans (n6.same.trans n7.same))) _ r3)).append (cj (rN H7) cQ)
inductive Px(K:a5w)(vs:List V)(H:Hp)(Q:VK):Prop |mk (v:_)(r:_)(z:_)(h0:vs=[v,.int z])(h1:aR K H v r)(h2:Bd 2000 r)(h3:z.natAbs<2^24)(h4:∀v H',aR K H' v (r+(z:Rat))->ai H H'->Q v H'):Px K vs H Q
def y4(K:a5w):Sp:=fun vs H Q _=>Px K vs H Q
abbrev BS:Stmt:=top 14
theorem xr_addz {r : Rat} {z : Int} (m : r + (z : Rat) = Rat.divInt (r.num * (1:Nat) + z * r.den) (r.den * (1:Nat))) : r.num + z * r.den = (r + (z : Rat)).num ∧ (r.den : Int) = (r + (z : Rat)).den := by
  have c : (r.num + z * r.den).natAbs.Coprime r.den := (Int.gcd_add_mul_right_left (r.den : Int) r.num z).trans r.reduced
  have e : r + (z : Rat) = ⟨r.num + z * r.den, r.den, r.den_nz, c⟩ := by
    rw [m, Rat.mk_eq_divInt, Int.natCast_one, Int.mul_one, Int.mul_one]
  rw [e]
  exact ⟨rfl, rfl⟩
theorem Jf:bc ["one","more","p","q"] ["one","more"] (aM BS):=bh (by decide+kernel)
theorem X5(F:FA K mg "plus_whole" BS)(B:bB mg):aj P w K mg base "plus_whole" 4 (y4 K):=by
 refine F.has Jf (fun vs H Q E h=>?_) (fun _ _ _ _ _ _=>cP fun _ _=>rfl) (fun f aD A outer s H vs Q E hr h=>?_)
 · obtain⟨v,r,z,rfl,_⟩:=h
   rfl
 · obtain⟨v,r,z,rfl,rv,br,hz,k⟩:=h
   have nd:=Jf.nd
   obtain ⟨p,rfl,hp⟩:=rv
   refine ⟨_,(ah (fi (pv 0) (cS K rfl (n:=2) rfl (bo (aQ (i:=2) nd rfl (Or.inl rfl)) (bo (aQ (i:=3) nd rfl (Or.inl rfl)) cR)))) (ao (aG (dH (aa (au cF (pv 2) (au ba (pv 1) (pv 3))) (aa (pv 3) af)))))),?_⟩
   refine ⟨_,rfl,_,_,rfl,hp,rfl,_,_,rfl,_,_,rfl,rfl,?_⟩
   have bz:Bd 24 (z:Rat):=⟨hz,by show 1<2^24;decide⟩
   obtain ⟨e1,e2⟩:=xr_addz (add_div r z)
   refine ⟨_,rfl,_,rfl,_,rfl,_,_,rfl,rfl,gz (bz.mono (by decide)).wn.bits br.wd.bits,_,_,rfl,rfl,_,rfl,bM _ (bR rfl),fun t H' n=>k _ _ ⟨t,rfl,aB.of ?_⟩ n.same⟩
   rw [← e1,← e2]; exact n.at'
theorem za{os:List Itm}{i:Nat}{ns:List Int}{sp:Int}(h:os[i]? =some (some (ns,sp))):leadF os i=some (ak ns):=by unfold leadF;rw[Ow.mZ h];rfl
theorem LI{os:List Itm}{i:Nat}(h:os[i]? =some none):leadF os i=none:=by unfold leadF;rw[Ow.mZ h];rfl
theorem LJ{os:List Itm}(h:OkIs os){i m:Nat}(e:leadF os i=some m):m<=100:=by unfold leadF at e;cases ho:atO os i with |none=>rw[ho]at e;cases e |some q=>rw[ho]at e;cases e;obtain⟨a,_,_⟩:=h i q.1 q.2 ho;exact lN fun z hz=>by have:=a z hz;omega
theorem GO{r:Int}{m:Nat}(h1:1<=r)(h2:r<=50)(h3:m<=100):(2*r*(m:Int)).natAbs<2^24:=by
 have kz:(2:Nat)^24=16777216:=by decide
 have:=jJ (a:=2*r) (b:=(m:Int)) (m:=100) (n:=100) (by omega) (by omega);rw[kz];omega
abbrev Ci:Stmt:=top 53
theorem JD:bc ["machine","items","squares","fall","kept","i"] ["machine","items","squares"] (aM Ci):=bh (by decide+kernel)
abbrev Bj:Stmt:=top 68
theorem IP:bc ["_law_one","_law_other_here"] ["_law_one","_law_other_here"] (aM Bj):=bh (by decide+kernel)
theorem Wx(F:FA K mg "_law_sum" Bj)(B:bB mg)(oz:aj P w K mg base "_law_frac" 1 (uM K)):aj P w K mg base "_law_sum" 2 (lj (·+·) K):=by
 refine F.has IP (fun vs H Q E h=>?_) (fun _ _ _ _ _ _=>cP fun _ _=>rfl) (fun f aD A outer s H vs Q E hr h=>?_)
 · obtain⟨v1,v2,r,s,rfl,_⟩:=h
   rfl
 · obtain⟨v1,v2,r,s,rfl,⟨p,rfl,hp⟩,⟨q,rfl,hq⟩,br,bs,k⟩:=h
   have nd:=IP.nd;refine⟨_,(ao (aG (pf oz hr (aa (au cF (au ba (aJ (aK K rfl) (pv 0) ag (fun _ _=>rfl)) (aJ (aK K rfl) (pv 1) ag (fun _ _=>rfl))) (au ba (aJ (aK K rfl) (pv 1) ag (fun _ _=>rfl)) (aJ (aK K rfl) (pv 0) ag (fun _ _=>rfl)))) (aa (au ba (aJ (aK K rfl) (pv 0) ag (fun _ _=>rfl)) (aJ (aK K rfl) (pv 1) ag (fun _ _=>rfl))) af))))),?_⟩;refine⟨_,rfl,.inr ⟨p,_,0,.int r.num,rfl,rfl,hp,rfl,_,rfl,.inr ⟨q,_,1,.int s.den,rfl,rfl,hq,rfl,_,_,rfl,rfl,gz br.wn.bits bs.wd.bits,?_⟩⟩⟩;refine⟨_,rfl,.inr ⟨q,_,0,.int s.num,rfl,rfl,hq,rfl,_,rfl,.inr ⟨p,_,1,.int r.den,rfl,rfl,hp,rfl,_,_,rfl,rfl,gz bs.wn.bits br.wd.bits,?_⟩⟩⟩;refine⟨_,_,rfl,rfl,?_⟩;refine⟨_,rfl,.inr ⟨p,_,1,.int r.den,rfl,rfl,hp,rfl,_,rfl,.inr ⟨q,_,1,.int s.den,rfl,rfl,hq,rfl,_,_,rfl,rfl,gz br.wd.bits bs.wd.bits,?_⟩⟩⟩;refine⟨_,_,rfl,gA (den_pos r) (den_pos s),xH br bs,fun v H' r' s'=>k v H' ?_ s'⟩;show aR K H' v (r+s);rw[add_div];exact r'
abbrev C1:Stmt:=top 69
theorem Jm:bc ["_law_one","_law_other_here"] ["_law_one","_law_other_here"] (aM C1):=bh (by decide+kernel)
theorem Xi(F:FA K mg "_law_less" C1)(B:bB mg):aj P w K mg base "_law_less" 1 (rJ K):=by
 refine F.has Jm (fun vs H Q E h=>?_) (fun _ _ _ _ _ _=>cP fun _ _=>rfl) (fun f aD A outer s H vs Q E hr h=>?_)
 · obtain⟨v1,v2,r,s,rfl,_⟩:=h
   rfl
 · obtain⟨v1,v2,r,s,rfl,⟨p,rfl,hp⟩,⟨q,rfl,hq⟩,br,bs,k⟩:=h
   have nd:=Jm.nd;refine⟨_,(ao (aG (e9 iH (au ba (aJ (aK K rfl) (pv 0) ag (fun _ _=>rfl)) (aJ (aK K rfl) (pv 1) ag (fun _ _=>rfl))) (au ba (aJ (aK K rfl) (pv 1) ag (fun _ _=>rfl)) (aJ (aK K rfl) (pv 0) ag (fun _ _=>rfl))) (aX _)))),?_⟩;refine⟨_,rfl,.inr ⟨p,_,0,.int r.num,rfl,rfl,hp,rfl,_,rfl,.inr ⟨q,_,1,.int s.den,rfl,rfl,hq,rfl,_,_,rfl,rfl,gz br.wn.bits bs.wd.bits,?_⟩⟩⟩;refine⟨_,rfl,.inr ⟨q,_,0,.int s.num,rfl,rfl,hq,rfl,_,rfl,.inr ⟨p,_,1,.int r.den,rfl,rfl,hp,rfl,_,_,rfl,rfl,gz bs.wn.bits br.wd.bits,?_⟩⟩⟩;refine⟨_,_,rfl,rfl,?_⟩;have e:decide (r.num*(s.den:Int)<s.num*(r.den:Int))=decide (r<s):=by rw[m6,oU,oU,Ab]
   show Q (.bl (decide (r.num*(s.den:Int)<s.num*(r.den:Int)))) H;rw[e];exact k
abbrev BX:Stmt:=top 70
theorem Jj:bc ["_law_some","_law_best","_law_one"] ["_law_some"] (aM BX):=bh (by decide+kernel)
theorem Xd(F:FA K mg "_law_min" BX)(B:bB mg)(a1M:aj P w K mg base "_law_less" 1 (rJ K)):aj P w K mg base "_law_min" 2 (iB K):=by
 refine F.has Jj (fun vs H Q E h=>?_) (fun _ _ _ _ _ _=>dR fun _=>rfl) (fun f aD A outer s H vs Q E hr h=>?_)
 · obtain⟨l,xs,rs,rfl,_⟩:=h
   rfl
 · obtain⟨l,xs,rs,rfl,hl,mI,cy,k⟩:=h
   have nd:=Jj.nd;refine⟨_,(ah (aH (i:=1) nd rfl (Or.inl rfl) (aJ (aK K rfl) (pv 0) ag (fun _ _=>rfl))) (ah (jF fU rfl (yu K rfl (pv 0)) (aQ (i:=2) nd rfl (Or.inl rfl)) (ao (bj (cA (pf a1M hr (aa (pv 2) (aa (pv 1) af)))) (ao (aH (i:=1) nd rfl (Or.inl rfl) (pv 2))) bE))) (ao (aG (pv 1))))),?_⟩;have hlen:=mI.length;have h0:0<xs.length:=Gk.mpr cy;have e0:=bO h0;refine⟨_,rfl,.inl ⟨l,xs,0,xs[0],rfl,rfl,hl,cM (by decide) e0,?_⟩⟩;refine⟨_,rfl,l,rfl,⟨_,hl⟩,EI (K:=K) (a:=l) (xs:=xs) (fun i σ H2=>H2=H/\∃(j:Nat)(b:V)(r:Rat)(v:Option V),xs[j]? =some b/\rs[j]? =some r/\(∀(m:Nat)(s:Rat),m<i->rs[m]? =some s->r<=s)/\σ=[some (.ref l),some b,v]) ?_ (fun i σ H2 _ h=>by rw[h.1];exact hl) ?_ ?_⟩
   · obtain⟨r,e1,_⟩:=mI.get e0
     exact⟨rfl,0,_,r,none,e0,e1,fun m s hm=>absurd hm (Nat.not_lt_zero _),rfl⟩
   · rintro i x σ H2 hx ⟨rfl,j,b,r,v,eb,er,hm,rfl⟩
     obtain⟨t,et,rt,bt⟩:=mI.get hx;obtain⟨r2,wJ,rb,bb⟩:=mI.get eb;rw[er]at wJ;cases wJ;refine⟨_,rfl,_,rfl,x,b,t,r,rfl,rt,rb,bt,bb,_,rfl,?_⟩;refine cV (fun hc=>?_) (fun hc=>?_)
     · have bZ:t<r:=ja hc
       refine⟨_,rfl,?_⟩;refine⟨rfl,i,x,t,_,hx,et,fun m s qo es=>?_,rfl⟩;rcases Gh.mp qo with h|h
       ·exact dc (G7 bZ) (hm m s h es)
       · subst h
         rw[et]at es;cases es;exact nE
     · have Eg:¬t<r:=fun z=>hc (cw z)
       refine⟨rfl,j,b,r,_,eb,er,fun m s qo es=>?_,rfl⟩;rcases Gh.mp qo with h|h
       ·exact hm m s h es
       · subst h
         rw[et]at es;cases es;exact xp.mp Eg
   · rintro σ H2 ⟨rfl,j,b,r,v,eb,er,hm,rfl⟩
     refine⟨_,rfl,k j b r eb er fun s hs=>?_⟩;obtain⟨m,Ej,em⟩:=QZ.mp hs;exact hm m s (by omega) (by rw[bO Ej,em])
theorem Wr(F:FA K mg "_law_top" Bc)(B:bB mg)(oz:aj P w K mg base "_law_frac" 1 (uM K)):aj P w K mg base "_law_top" 2 (AL K):=by
 refine F.has IH (fun vs H Q E h=>?_) (fun _ _ _ _ _ _=>cP fun _ _=>rfl) (fun f aD A outer s H vs Q E hr h=>?_)
 · obtain⟨v,ns,sp,r,rfl,_⟩:=h
   rfl
 · obtain⟨v,ns,sp,r,rfl,rd,s1,s2,r1,r2,k⟩:=h
   have nd:=IH.nd;refine⟨_,(ao (aG (pf oz hr (aa (au ba (au ba (au ba (aJ (aK K rfl) (pv 0) ag (fun _ _=>rfl)) (aJ (aK K rfl) (pv 0) ag (fun _ _=>rfl))) (pv 1)) (pv 1)) (aa ag af))))),?_⟩;obtain⟨a,b,rfl,ha,hb⟩:=jo rd;have m1:(sp*sp).natAbs<=20*20:=by rw[fc];exact kW (by omega) (by omega)
   have m2:(sp*sp*r).natAbs<=400*200:=by rw[fc];exact kW (by omega) (by omega)
   refine⟨_,rfl,.inr ⟨a,_,2,.int sp,rfl,rfl,ha,rfl,_,rfl,.inr ⟨a,_,2,.int sp,rfl,rfl,ha,rfl,_,_,rfl,rfl,.of_left (bJ (by omega) (by omega)),?_⟩⟩⟩;refine⟨_,rfl,_,_,rfl,rfl,.of_left (bJ (by omega) (by omega)),_,rfl,_,_,rfl,rfl,.of_left (bJ (by omega) (by omega)),?_⟩;refine⟨_,_,rfl,by decide,gb (n:=20) (by decide) (by decide),fun v' H' r' s'=>k v' H' ?_ s'⟩;rw[Hs]at r';exact r'
theorem Ym{x y z q:Rat}(h:q=x\/q=y\/q=z)(h1:q<=x)(h2:q<=y)(h3:q<=z):mn (mn x y) z=q:=by
 refine Ac ?_ (jK (jK h1 h2) h3);rcases h with h|h|h
 ·rw[h];exact dc (fJ _ _) (fJ _ _)
 ·rw[h];exact dc (fJ _ _) (jm _ _)
 ·rw[h];exact jm _ _
theorem vV{n:Nat}{ns:List Int}(h:dN n 100 ns):ak ns<=100:=by have:=h.lead;omega
open Wk
def fj(pl:List Int):a5z:=.tuple (pl.map PyData.int)
theorem gh(pl:List Int):dP (fj pl)=true:=by rw[fj,dP];exact jG pl
theorem o5{H:Hp}{v:V}{pl:List Int}(h:RD K H v (fj pl)):∃a,v= .ref a/\aB K H a (pl.map V.int):=by obtain⟨a,xs,rfl,h1,h2⟩:=h.dv;rw[h2.gT]at h1;exact⟨a,rfl,h1⟩
theorem rZ{H:Hp}{a:Addr}{pl:List Int}(h:aB K H a (pl.map V.int)):RD K H (.ref a) (fj pl):=iW h (rW pl)
def gF(pl:List Int):Itm->List Int |none=>pl |some (ns,_)=>dS pl ns
theorem bL.putL{p l:Addr}{H H1:Hp}{xs:List V}(b:bL p H H1)(hp:l≠p)(nl:H l=none):bL p H (L2.upd H1 l (.lst xs)):=by
 refine⟨?_,fun c o n e=>?_⟩
 · obtain⟨c',m',e,ok⟩:=b.bag
   exact⟨c',m',by rw[az hp.symm];exact e,ok⟩
 ·rw[az (fw e nl)];exact b.same c o n e
inductive Pw(K:a5w)(vs:List V)(H:Hp)(Q:VK):Prop |mk (p:_)(m:_)(rs:_)(r:_)(f:_)(j:_)(t:_)(h0:vs=[.ref p,m])(h1:j9 H p)(h2:RD K H m (gQ rs r f j t))(h3:lZ rs r f j t)(h4:∀v pl H',RD K H' v (fj pl)->j7 rs pl->bL p H H'->Q v H'):Pw K vs H Q
def Ih(K:a5w):Sp:=fun vs H Q _=>Pw K vs H Q
abbrev BR:Stmt:=top 72
theorem Je:bc ["_law_bag_here","_law_machine_here"] ["_law_bag_here","_law_machine_here"] (aM BR):=bh (by decide+kernel)
theorem X7(F:FA K mg "_law_place" BR)(B:bB mg)(fX:aj P w K mg base "_law_take" 1 rE):aj P w K mg base "_law_place" 2 (Ih K):=by
 refine F.has Je (fun vs H Q E h=>?_) (fun _ _ _ _ _ _=>cP fun _ _=>rfl) (fun f aD A outer s H vs Q E hr h=>?_)
 · obtain⟨p,m,rs,r,f,j,t,rfl,_⟩:=h
   rfl
 · obtain⟨p,m,rs,r,f,j,t,rfl,bg,rm,sy,k⟩:=h
   have nd:=Je.nd;refine⟨_,(ao (aG (gk (x:="tuple") (jB K rfl) rfl (B.at "tuple") eU (aa (ft (N:=["_law_rail","_law_bag_here"]) (js:=[none,some 0]) rfl rfl rfl (o6 K rfl (aJ (aK K rfl) (pv 1) ag (fun _ _=>rfl))) (fun _ _ _ _ _=>(aQ (i:=0) (show List.Nodup (["_law_rail","_law_bag_here"]:List Str) by decide+kernel) rfl (Or.inl rfl))) (fun _ _ _ _ _=>eL) (fun _ _ _ _ _=>(pf fX hr (aa (pv 1) (aa (au cF (pv 0) ag) af))))) af)))),?_⟩;obtain⟨ma,mb,rfl,fA,gE⟩:=jn rm;have lr:=sy.len;refine⟨_,rfl,.inr ⟨ma,_,0,.ref mb,rfl,rfl,fA,cM (fG 0) rfl,mb,rfl,⟨_,gE⟩,fun D H1 n1=>?_⟩⟩;refine a3g (K:=K) (J:=oQ K mb) (p:=p) (H:=H) rs.length _ n1 bg (by omega) (fun i=>.int (rs.getD i 0)) (fun i H2 hi b2=>?_) (fun H2 b2=>?_) (fun i d=>∃z r,d= .int z/\rs[i]? =some r/\0<=z/\z<=r) ?_ ?_
   · have Mh:=gE.t (bL.t bg b2)
     have e:(rs.map V.int)[i]? =some (.int (rs.getD i 0)):=by rw[bU,List.getD_eq_getElem?_getD,bO hi];rfl
     exact⟨⟨_,_,Mh,e⟩,fun y H3 ⟨e3,y3⟩=>⟨e3,by have:=y3 _ Mh;rw[e]at this;exact(eG this).symm⟩⟩
   ·exact⟨_,gE.t (bL.t bg b2),by rw[bS];exact bp _⟩
   · intro i H2 Q' hi b2 hq
     have er:rs[i]? =some (rs.getD i 0):=by rw[List.getD_eq_getElem?_getD,bO hi];rfl
     obtain⟨r0,r1⟩:=sy.rl _ (g9 er);refine⟨_,rfl,_,rfl,_,_,rfl,rfl,p,_,rfl,b2.bag,by omega,by omega,fun z H3 z0 z1 b3=>?_⟩;exact hq _ _ _ ⟨z,_,rfl,er,z0,by omega⟩ rfl (dG z) b3
   · intro H2 ys ds b2 d2 r2 l2 nl pd
     have ou:∃pl:List Int,ds=pl.map PyData.int/\j7 rs pl:=by
      have key:∀(ds:List a5z),(∀d∈ds,∃z:Int,d= .int z)->∃pl:List Int,ds=pl.map PyData.int:=by intro ds;induction ds with |nil=>exact fun _=>⟨[],rfl⟩ |cons d ds ih=>intro h;obtain⟨z,rfl⟩:=h d (.head _);obtain⟨pl,rfl⟩:=ih fun x hx=>h x (.tail _ hx);exact⟨z::pl,rfl⟩
      obtain⟨pl,rfl⟩:=key ds fun d hd=>by obtain⟨i,hi⟩:=uw.mp hd;obtain⟨z,_,e,_⟩:=pd i d hi;exact⟨z,e⟩
      refine⟨pl,rfl,by simpa using l2,fun i x r e1 e2=>?_⟩;obtain⟨z,r',e,er,h0,h1⟩:=pd i (.int x) (by rw[bU,e1];rfl);cases e;rw[e2]at er;cases er;exact⟨h0,h1⟩
     obtain⟨pl,rfl,on⟩:=ou;refine⟨D,_,rfl,.inl ⟨aw.of d2,fun t H3 n3=>?_⟩⟩;have et:=n3.at';rw[r2.gT]at et;exact k (.ref t) pl H3 (rZ (aB.of et)) on (b2.trans (.kG b2.bag n3.same))
inductive PK(K:a5w)(vs:List V)(H:Hp)(Q:VK):Prop |mk (p:_)(m:_)(rs:_)(r:_)(f:_)(j:_)(t:_)(x:_)(pl:_)(mo:_)(h0:vs=[.ref p,m,x,.int mo])(h1:j9 H p)(h2:RD K H m (gQ rs r f j t))(h3:lZ rs r f j t)(h4:RD K H x (fj pl))(h5:j7 rs pl)(h6:1<=mo)(h7:mo<=100)(h8:∀v ns sp H',RD K H' v (fy ns sp)->dN rs.length 100 ns->1<=sp->sp<=20->j7 rs (dS pl ns)->bL p H H'->Q v H'):PK K vs H Q
def AU(K:a5w):Sp:=fun vs H Q _=>PK K vs H Q
def fD(rs pl is:List Int)(mo:Int):Prop:=∀(j:Nat)(z a r:Int),is[j]? =some z->pl[j]? =some a->rs[j]? =some r->0<=a+z/\a+z<=r/\(z.natAbs:Int)<=mo
theorem fD.on{rs pl is:List Int}{mo:Int}(h:fD rs pl is mo)(lp:pl.length=rs.length)(ls:is.length=pl.length):j7 rs (dS pl is):=by
 refine⟨by rw[ng ls];exact lp,?_⟩;intro j x r ej lS;have hj:j<pl.length:=by have:=(dC.mp ej).1;rw[ng ls]at this;exact this
 have Ni:=FI (bO hj) (bO (show j<is.length by omega));rw[ej]at Ni;have ej3:=eG Ni;have:=h j _ _ r (bO (show j<is.length by omega)) (bO hj) lS;omega
theorem fD.bd{rs pl is:List Int}{mo:Int}(h:fD rs pl is mo)(lp:pl.length=rs.length)(ls:is.length=pl.length):∀z∈is,(z.natAbs:Int)<=mo:=fun z qg=>by obtain⟨j,hj⟩:=uw.mp qg;have hjl:=(dC.mp hj).1;exact(h j z _ _ hj (bO (show j<pl.length by omega)) (bO (show j<rs.length by omega))).2.2
theorem fD.snoc{rs pl is:List Int}{mo z a r:Int}(h:fD rs pl is mo)(ea:pl[is.length]? =some a)(er:rs[is.length]? =some r)(hz:0<=a+z/\a+z<=r/\(z.natAbs:Int)<=mo):fD rs pl (is++[z]) mo:=by
 intro j z' a' r' ej lU lS;by_cases hj:j<is.length
 · rw[uz hj]at ej
   exact h j z' a' r' ej lU lS
 · have qw:j=is.length:=by have:=(dC.mp ej).1;rw[eZ]at this;have:j<is.length+1:=this;omega
   rw[qw,xx (bp _),Gd]at ej;cases ej;rw[qw]at lU lS;rw[ea]at lU;rw[er]at lS;cases lU;cases lS;exact hz
theorem fD.set{rs pl is:List Int}{mo z a r:Int}{i:Nat}(h:fD rs pl is mo)(ea:pl[i]? =some a)(er:rs[i]? =some r)(hz:0<=a+z/\a+z<=r/\(z.natAbs:Int)<=mo):fD rs pl (is.set i z) mo:=by
 intro j z' a' r' ej lU lS;by_cases hj:j=i
 · subst hj
   rw[ea]at lU;rw[er]at lS;cases lU;cases lS;have hl:j<is.length:=by have:=(dC.mp ej).1;rwa [qW]at this
   rw[Gp hl]at ej;cases ej;exact hz
 · rw[Rb (cC hj)]at ej
   exact h j z' a' r' ej lU lS
abbrev C0:Stmt:=top 73
theorem Jl:bc ["_law_bag_here","_law_machine_here","_law_place_here","_law_most","_law_steps","_law_flat","_law_axis","_law_stand_here","_law_low","_law_high"] ["_law_bag_here","_law_machine_here","_law_place_here","_law_most"] (aM C0):=bh (by decide+kernel)
theorem Xh(F:FA K mg "_law_line" C0)(B:bB mg)(fX:aj P w K mg base "_law_take" 1 rE):aj P w K mg base "_law_line" 2 (AU K):=by
 refine F.has Jl (fun vs H Q E h=>?_) (fun _ _ _ _ _ _=>FH fun _ _ _ _=>rfl) (fun fa aD A outer s H vs Q E hr h=>?_)
 · obtain⟨p,m,rs,r,f,j,t,x,pl,mo,rfl,_⟩:=h
   rfl
 · obtain⟨p,m,rs,r,f,j,t,x,pl,mo,rfl,bg,rm,sy,rx,on,mo1,mo2,k⟩:=h
   have nd:=Jl.nd;refine⟨_,(ah (aH (i:=4) nd rfl (Or.inl rfl) (dF af)) (ah (aH (i:=5) nd rfl (Or.inl rfl) (pf fX hr (aa (pv 0) (aa ag af)))) (ah (jF fU rfl (VD K rfl false rfl (B.at "enumerate") (aa (pv 2) af)) (cS K rfl (n:=2) rfl (bo (aQ (i:=6) nd rfl (Or.inl rfl)) (bo (aQ (i:=7) nd rfl (Or.inl rfl)) cR))) (ah (aH (i:=8) nd rfl (Or.inl rfl) (aL (x:="max") (NW rfl) rfl (B.at "max") Ah (aa ag (aa (au fu (pv 7) (pv 3)) af)))) (ah (aH (i:=9) nd rfl (Or.inl rfl) (aL (x:="min") (Fp rfl) rfl (B.at "min") QW (aa (aJ (aK K rfl) (aJ (aK K rfl) (pv 1) ag (fun _ _=>rfl)) (pv 6) (fun _ _=>rfl)) (aa (au cF (pv 7) (pv 3)) af)))) (ah (fP (iX K rfl (pv 4) (aa (au fu (au cF (pv 8) (pf fX hr (aa (pv 0) (aa (au cF (au fu (pv 9) (pv 8)) ag) af)))) (pv 7)) af))) (ao (bj (bK (cH K rfl hr.units) (pv 5) (pv 6) (aX _)) (ao (fi ag (pS (pv 4) (pv 6) set_list))) bE)))))) (ah (fW (bj (dX (cA (aL (x:="any") (a3P K rfl rfl) rfl (B.at "any") QX (aa (pv 4) af)))) (ah (aH (i:=6) nd rfl (Or.inl rfl) (pf fX hr (aa (pv 0) (aa (aL (x:="len") (cU K rfl) rfl (B.at "len") cY (aa (pv 4) af)) af)))) (ao (fi (au fu ag (au ba ag (gk (x:="int") NX rfl (B.at "int") Gb (aa (e9 pT (aJ (aK K rfl) (pv 2) (pv 6) (fun _ _=>rfl)) ag (aX _)) af)))) (pS (pv 4) (pv 6) set_list)))) bE)) (ao (aG (dH (aa aU (aa (gk (x:="tuple") (jB K rfl) rfl (B.at "tuple") eU (aa (pv 4) af)) (aa (au cF ag (pf fX hr (aa (pv 0) (aa ag af)))) af)))))))))),?_⟩;have lr:=sy.len;have lp:=on.len;obtain⟨ma,mb,rfl,fA,gE⟩:=jn rm;obtain⟨xa,rfl,E5⟩:=o5 rx;refine⟨bM _ (bR rfl),fun l H1 n1=>?_⟩;have b1:bL p H H1:=.kG bg n1.same;have sX:l≠p:=fun z=>bg.ne (z▸n1.no);refine⟨_,rfl,p,4,rfl,b1.bag,by decide,by decide,fun fl H2 f0 f1 b2=>?_⟩;have Ob:=b1.trans b2;have SQ:=bL.t bg Ob;refine⟨_,rfl,xa,rfl,⟨_,E5.t SQ⟩,a26 (K:=K) (b:=false) (a:=xa) (xs:=pl.map V.int) (fun i σ H3=>bL p H H3/\∃(is:List Int)(v1 v2 v3 v4:Option V),H3 l=some (.lst (is.map V.int))/\is.length=i/\fD rs pl is mo/\σ=[some (.ref p),some (.ref ma),some (.ref xa),some (.int mo),some (.ref l),some (.int fl),v1,v2,v3,v4]) ?_ (fun i σ H3 _ h=>E5.t (bL.t bg h.1)) ?_ ?_⟩
   ·exact⟨Ob,[],none,none,none,none,b2.same _ _ sX n1.at',rfl,fun j z a r e=>by simp at e,rfl⟩
   · rintro i y σ H3 hy ⟨b3,is,v1,v2,v3,v4,dl,li,hz,rfl⟩ T H4 n4
     rw[bU]at hy;obtain⟨a,ea,rfl⟩:=Option.map_eq_some_iff.mp hy;have Ml:i<pl.length:=(dC.mp ea).1;obtain⟨rl,er⟩:∃rl,rs[i]? =some rl:=⟨_,bO (show i<rs.length by omega)⟩;obtain⟨a0,a1⟩:=on.at' i a rl ea er;obtain⟨r0,r1⟩:=sy.rl rl (g9 er);have b4:bL p H H4:=b3.trans (.kG b3.bag n4.same);have t4:=bL.t bg b4;have gW:=n4.same _ _ dl;have atr:fo (rs.map V.int) (i:Int)=some (.int rl):=cM (by omega) (by rw[bU];simp[er]);refine⟨T,_,rfl,aB.of n4.at',rfl,_,_,rfl,_,_,rfl,rfl,?_⟩;refine⟨_,rfl,_,rfl,_,_,rfl,rfl,_,_,rfl,?_⟩;obtain⟨low,a2C,lo0,lo1,lo2⟩:∃low:Int,(if a-mo>0 then a-mo else 0)=low/\0<=low/\a-mo<=low/\low<=a:=⟨_,rfl,by split<;>omega,by split<;>omega,by split<;>omega⟩;rw[a2C];refine⟨_,rfl,.inr ⟨ma,_,0,.ref mb,rfl,rfl,fA.t t4,rfl,_,rfl,.inr ⟨mb,_,_,.int rl,rfl,rfl,gE.t t4,atr,_,rfl,_,rfl,_,_,rfl,rfl,_,_,rfl,?_⟩⟩⟩;obtain⟨hi,qI,hi0,hi1,Mn⟩:∃hi:Int,(if a+mo<rl then a+mo else rl)=hi/\a<=hi/\hi<=rl/\hi<=a+mo:=⟨_,rfl,by split<;>omega,by split<;>omega,by split<;>omega⟩;rw[qI];refine⟨_,rfl,.inl ⟨rfl,_,aw.of gW⟩,?_⟩;refine⟨_,rfl,_,rfl,_,rfl,_,rfl,_,_,rfl,rfl,_,_,rfl,rfl,p,hi-low+1,rfl,b4.bag,by omega,by omega,fun d H5 d0 d1 b5=>?_⟩;refine⟨_,_,rfl,rfl,_,rfl,_,_,rfl,rfl,l,_,_,rfl,rfl,b5.same _ _ sX gW,?_,?_⟩
     · rw[bS,li]
       have:(1000:Nat)<sizeLine:=by decide
       omega
     have b6:bL p H (L2.upd H5 l (.lst (is.map V.int++[.int (low+d-a)]))):=(b4.trans b5).putL sX n1.no;have e6:(L2.upd H5 l (.lst (is.map V.int++[.int (low+d-a)]))) l=some (.lst ((is++[low+d-a]).map V.int)):=by rw[aO,m3];rfl
     generalize L2.upd H5 l (.lst (is.map V.int++[.int (low+d-a)]))=H6 at b6 e6⊢;rw[<-li]at ea er;have Hq:=hz.snoc ea er (z:=low+d-a) (by omega);refine⟨_,rfl,_,rfl,.inl ⟨_,_,rfl,rfl,_,rfl,?_⟩⟩;refine cV (fun hc=>?_) (fun hc=>?_)
     · have ix:iL ((is++[low+d-a]).map V.int).length (i:Int)=some i:=by unfold iL;rw[aP (by omega),aP (by rw[bS,eZ];show(i:Int)<((is.length+1:Nat):Int);omega)];simp
       refine⟨_,rfl,_,rfl,l,_,_,_,rfl,rfl,e6,ix,?_⟩;refine⟨b6.putL sX n1.no,(is++[low+d-a]).set i 0,_,_,_,_,by rw[aO,xu],by rw[qW,eZ,li];rfl,?_,rfl⟩;rw[li]at ea er;exact Hq.set ea er (by omega)
     ·exact⟨b6,is++[low+d-a],_,_,_,_,e6,by rw[eZ,li];rfl,Hq,rfl⟩
   · rintro σ H3 ⟨b3,is,v1,v2,v3,v4,dl,li,hz,rfl⟩
     rw[bS]at li;have t3:=bL.t bg b3;refine⟨fun σ H4=>bL p H H4/\∃(is:List Int)(v1:Option V),H4 l=some (.lst (is.map V.int))/\dN rs.length 100 is/\j7 rs (dS pl is)/\σ=[some (.ref p),some (.ref ma),some (.ref xa),some (.int mo),some (.ref l),some (.int fl),v1,v2,v3,v4],?_,?_⟩
     · refine⟨_,rfl,l,is,rfl,.inl (aw.of dl),_,rfl,?_⟩
       cases ha:is.any (· !=0)with |false=>
         refine bF ?_;refine⟨_,rfl,_,rfl,l,_,rfl,.inl (aw.of dl),p,_,rfl,b3.bag,(by rw[bS];omega),(by rw[bS];omega),fun ax H4 a0 a1 b4=>?_⟩;rw[bS]at a1;have Oa:=b3.trans b4;have Mx:ax.toNat<pl.length:=by omega
         have ea:=bO Mx;have er:=bO (show ax.toNat<rs.length by omega);obtain⟨q0,q1⟩:=on.at' _ _ _ ea er;obtain⟨r0,r1⟩:=sy.rl _ (g9 er);have Oc:fo (pl.map V.int) ax=some (.int pl[ax.toNat]):=cM a0 (by rw[bU,ea];rfl);generalize pl[ax.toNat]=qa at ea q0 q1 Oc;generalize rs[ax.toNat]=qr at er q1 r0 r1;refine⟨_,rfl,_,rfl,.inr ⟨xa,_,_,_,rfl,rfl,E5.t (bL.t bg Oa),Oc,?_⟩⟩;refine⟨_,_,rfl,rfl,.inr ⟨_,rfl,?_⟩⟩;refine⟨_,_,rfl,rfl,.of_left (bJ (by decide) (by decide)),_,_,rfl,rfl,?_⟩;obtain⟨y,ey,y1,y2,y3⟩:∃y:Int,(1-2*(if decide (qa>0)=true then 1 else 0):Int)=y/\y.natAbs=1/\0<=qa+y/\qa+y<=qr:=by
          by_cases h:qa>0
          ·rw[cw h];exact⟨-1,rfl,rfl,by omega,by omega⟩
          ·rw[eu h];exact⟨1,rfl,rfl,by omega,by omega⟩
         have gW:=b4.same _ _ sX dl;have ix:iL (is.map V.int).length ax=some ax.toNat:=by unfold iL;rw[aP a0,aP (by rw[bS];omega)]
         refine⟨_,rfl,_,rfl,l,_,_,_,rfl,rfl,gW,ix,?_⟩;have st:=hz.set (i:=ax.toNat) ea er (z:=y) (by omega);have ls:(is.set ax.toNat y).length=pl.length:=by rw[qW];omega
         refine⟨Oa.putL sX n1.no,is.set ax.toNat y,_,?_,⟨by omega,fun z qg=>?_,?_⟩,st.on lp ls,rfl⟩
         · rw[aO,<-xu]
           simp only[ey]
         ·have:=st.bd lp ls z qg;omega
         ·exact⟨y,QZ.mpr ⟨ax.toNat,by rw[qW];omega,by rw[List.getElem_set_self]⟩,by omega⟩ |true=>
         refine bf ?_;have ls:is.length=pl.length:=by omega
         refine⟨b3,is,_,dl,⟨by omega,fun z qg=>?_,?_⟩,hz.on lp ls,rfl⟩
         ·have:=hz.bd lp ls z qg;omega
         · obtain⟨z,qg,h0⟩:=List.any_eq_true.mp ha
           exact⟨z,qg,by simpa using h0⟩
     rintro σ H4 ⟨b4,is,v1,dl,ok,Wl,rfl⟩;refine⟨_,rfl,l,_,rfl,.inl ⟨aw.of dl,fun q H5 n5=>?_⟩⟩;have b5:bL p H H5:=b4.trans (.kG b4.bag n5.same);have qp:q≠p:=fun e=>b4.bag.ne (e▸n5.no);refine⟨_,rfl,p,20,rfl,b5.bag,by decide,by decide,fun sp H6 p0 p1 b6=>?_⟩;refine⟨_,_,rfl,rfl,bM _ (bR rfl),fun t H7 n7=>?_⟩;have b7:=b5.trans (b6.trans (.kG b6.bag n7.same));exact k (.ref t) is (1+sp) H7 (iW (aB.of n7.at') (cj (dD _) (cj (iW (aB.of (n7.same _ _ (b6.same _ _ qp n5.at'))) (rW is)) (cj (dG _) cQ)))) ok (by omega) (by omega) Wl b7
def Yv(c:Nat):Bool:=decide (97<=c)&&decide (c<=122)
def DD(s:Str):Bool:=(decide (1<=s.length)&&decide (s.length<=8))&&s.cps.toList.all Yv
def W7(w s:Str):Prop:=(w="tool"/\(s="up"\/s="down"))\/(w="mark"/\DD s=true)
def xb(d:a5z):Prop:=(∃n,d= .tuple [.str "wait",.int n]/\1<=n/\n<=1000)\/∃w s,d= .tuple [.str w,.str s]/\(w="tool"\/w="mark")/\dk 0 (.str s)/\W7 w s
def RowW(ds:List a5z)(os:List Itm):Prop:=∀(i:Nat)(d:a5z),os[i]? =some none->ds[i]? =some d->xb d
theorem RowW.snoc{ds:List a5z}{os:List Itm}{d:a5z}{o:Itm}(h:RowW ds os)(hl:ds.length=os.length)(hd:o=none->xb d):RowW (ds++[d]) (os++[o]):=by
 intro i x e1 e2;rcases pJ e1 with h1|⟨h1,h1'⟩
 · rcases pJ e2 with h2|⟨h2,_⟩
   ·exact h i x h1 h2
   ·have:=(dC.mp h1).1;omega
 · rcases pJ e2 with h2|⟨_,qE⟩
   ·have:=(dC.mp h2).1;omega
   ·subst qE;exact hd h1'.symm
theorem GA{j:Int}(h:j.natAbs<2^64):Wd j:=Gf h (by decide+kernel)
inductive PC(vs:List V)(H:Hp)(Q:VK):Prop |mk (p:Int)(q:Int)(h0:vs=[.int p,.int q])(h1:0<q)(h2:q<=10^6)(h3:p.natAbs<=10^9)(h4:Q (.int (gr p q)) H):PC vs H Q
def AS:Sp:=fun vs H Q _=>PC vs H Q
abbrev BU:Stmt:=top 26
theorem Jg:bc ["p","q","size"] ["p","q"] (aM BU):=bh (by decide+kernel)
theorem Xa(F:FA K mg "nearest" BU)(B:bB mg):aj P w K mg base "nearest" 1 AS:=by
 refine F.has Jg (fun vs H Q E h=>?_) (fun _ _ _ _ _ _=>cP fun _ _=>rfl) (fun f aD A outer s H vs Q E hr h=>?_)
 · obtain⟨p,q,rfl,_⟩:=h
   rfl
 · obtain⟨p,q,rfl,q0,q1,p1,k⟩:=h
   have nd:=Jg.nd;refine⟨_,(ah (aH (i:=2) nd rfl (Or.inl rfl) (au kF (au cF (au ba ag (aL (x:="abs") lW rfl (B.at "abs") nI (aa (pv 0) af))) (pv 1)) (au ba ag (pv 1)))) (ao (aG (Kv (bK Dq (pv 0) ag (aX _)) (pv 2) (vk uF (pv 2)))))),?_⟩;refine⟨_,rfl,p,rfl,_,_,rfl,rfl,.of_left (bJ (by decide) (by decide)),_,rfl,_,_,rfl,rfl,_,rfl,_,_,rfl,rfl,.of_left (bJ (by decide) (by decide)),_,_,rfl,rfl,⟨by omega,GA (by omega)⟩,?_⟩;have e:(2*(if p<0 then-p else p)+q)/(2*q)=jC p q:=by unfold jC;rw[<-wX];rfl
   refine⟨_,rfl,_,_,rfl,rfl,_,rfl,?_⟩;unfold gr at k;rw[<-e]at k;refine cV (fun hc=>?_) (fun hc=>?_)
   · have hp:p>=0:=ja hc
     rw[aP hp]at k;exact⟨_,rfl,k⟩
   · have hp:¬p>=0:=fun z=>hc (cw z)
     rw[aV hp]at k;exact⟨_,rfl,_,rfl,k⟩
def AJ(ns:List Int)(k:Int):a5z:=.tuple ((ns.map fun z=>gr (k*z) (ak ns)).map PyData.int)
theorem Kn{k z:Int}(h:k.natAbs<=10^6)(g:(z.natAbs:Int)<=1000):(k*z).natAbs<=10^9:=by rw[fc];exact gH (kW h (show z.natAbs<=1000 by omega)) (by decide)
inductive OY(K:a5w)(vs:List V)(H:Hp)(Q:VK):Prop |mk (v:_)(ns:_)(sp:_)(k:_)(h0:vs=[v,.int k])(h1:RD K H v (fy ns sp))(h2:dN ns.length 1000 ns)(h3:ns.length<=1000)(h4:k.natAbs<=10^6)(h5:∀v' H',RD K H' v' (AJ ns k)->ai H H'->Q v' H'):OY K vs H Q
def xZ(K:a5w):Sp:=fun vs H Q _=>OY K vs H Q
abbrev Bl:Stmt:=top 24
theorem IS:bc ["line","k","lead"] ["line","k"] (aM Bl):=bh (by decide+kernel)
theorem Wz(F:FA K mg "stand_at" Bl)(B:bB mg)(mJ:aj P w K mg base "lead_of" 1 (ki K))(a0a:aj P w K mg base "nearest" 1 AS):aj P w K mg base "stand_at" 2 (xZ K):=by
 refine F.has IS (fun vs H Q E h=>?_) (fun _ _ _ _ _ _=>cP fun _ _=>rfl) (fun f aD A outer s H vs Q E hr h=>?_)
 · obtain⟨v,ns,sp,k,rfl,_⟩:=h
   rfl
 · obtain⟨v,ns,sp,kk,rfl,rd,ok,hz,hk,k⟩:=h
   have nd:=IS.nd;refine⟨_,(ah (aH (i:=2) nd rfl (Or.inr rfl) (pf mJ hr (aa (pv 0) af))) (ao (aG (gk (x:="tuple") (jB K rfl) rfl (B.at "tuple") eU (aa (ft (N:=["step","lead","k"]) (js:=[none,some 2,some 1]) rfl rfl rfl (o6 K rfl (aJ (aK K rfl) (pv 0) ag (fun _ _=>rfl))) (fun _ _ _ _ _=>(aQ (i:=0) (show List.Nodup (["step","lead","k"]:List Str) by decide+kernel) rfl (Or.inl rfl))) (fun _ _ _ _ _=>eL) (fun _ _ _ _ _=>(pf a0a hr (aa (au ba (pv 2) (pv 0)) (aa (pv 1) af))))) af))))),?_⟩;refine⟨_,rfl,v,ns,sp,rfl,rd,ok.ne,hz,fun H1 s1=>?_⟩;obtain⟨a,b,rfl,ha,hb⟩:=jo (RD.mono s1 _ rd);obtain⟨lp,lm⟩:=ok.lead;refine⟨_,rfl,.inr ⟨a,_,1,.ref b,rfl,rfl,ha,rfl,b,rfl,⟨_,hb⟩,fun D H0 nw=>?_⟩⟩;refine zM (K:=K) (xs:=ns.map V.int) (ds:=(ns.map fun z=>gr (kk*z) (ak ns)).map PyData.int) _ hb nw (by simp) (by simpa using hz) (jG _) ?_ ?_
   · intro i x d H2 Q' ex ed s2 hq
     rw[List.map_map]at ed;obtain⟨n,en,rfl⟩:=kH ed;cases vQ ex en;refine⟨_,rfl,_,rfl,_,_,rfl,rfl,.of_left (bJ (by omega) (by omega)),_,rfl,_,_,rfl,by omega,by omega,Kn hk (ok.bd n (g9 en)),?_⟩;exact hq _ _ (ai.refl _) (dG _)
   · intro H' ys s2 d2 r2
     refine⟨D,_,rfl,.inl ⟨aw.of d2,fun t H4 n4=>?_⟩⟩;exact k _ _ (iW (aB.of n4.at') (ay.mono n4.same _ r2)) (s1.trans (s2.trans n4.same))
def gf(ns:List Int)(j:Nat):List Int:=ns.map fun z=>gr (((j:Int)+1)*z) (ak ns)-gr ((j:Int)*z) (ak ns)
def ml(ns:List Int):List a5z:=(List.range (ak ns)).map fun j=>.tuple ((gf ns j).map PyData.int)
theorem CQ(zs:List Int):dP (.tuple (zs.map PyData.int))=true:=by rw[dP];exact jG zs
theorem CO(ns:List Int):cm (ml ns)=true:=gq.mpr fun d hd=>by obtain⟨j,_,rfl⟩:=kb.mp hd;exact CQ _
theorem JX{ns:List Int}{i:Nat}(h:i<ak ns):(ml ns)[i]? =some (.tuple ((gf ns i).map PyData.int)):=by unfold ml;rw[bU,bO (by simpa using h),qX];rfl
theorem CP(ns:List Int):(ml ns).length=ak ns:=by simp[ml]
inductive Pc(K:a5w)(vs:List V)(H:Hp)(Q:VK):Prop |mk (v:_)(ns:_)(sp:_)(h0:vs=[v])(h1:RD K H v (fy ns sp))(h2:dN ns.length 1000 ns)(h3:ns.length<=1000)(h4:∀l ys H',H l=none->H' l=some (.lst ys)->ay K H' ys (ml ns)->ai H H'->Q (.ref l) H'):Pc K vs H Q
def AM(K:a5w):Sp:=fun vs H Q _=>Pc K vs H Q
abbrev Bt:Stmt:=top 25
theorem J0:bc ["line","rows","before","k","behind"] ["line"] (aM Bt):=bh (by decide+kernel)
theorem WR(F:FA K mg "step_rows" Bt)(B:bB mg)(mJ:aj P w K mg base "lead_of" 1 (ki K))(zh:aj P w K mg base "stand_at" 2 (xZ K)):aj P w K mg base "step_rows" 3 (AM K):=by
 refine F.has J0 (fun vs H Q E h=>?_) (fun _ _ _ _ _ _=>dR fun _=>rfl) (fun f aD A outer s H vs Q E hr h=>?_)
 · obtain⟨v,ns,sp,rfl,_⟩:=h
   rfl
 · obtain⟨v,ns,sp,rfl,rd,ok,hz,k⟩:=h
   have nd:=J0.nd;obtain⟨lp,lm⟩:=ok.lead;refine⟨_,(ah (aH (i:=1) nd rfl (Or.inl rfl) (dF af)) (ah (aH (i:=2) nd rfl (Or.inl rfl) (pf zh hr (aa (pv 0) (aa ag af)))) (ah (jF fU rfl (Ks rfl (B.at "range") (aa ag (aa (au cF (pf mJ hr (aa (pv 0) af)) ag) af))) (aQ (i:=3) nd rfl (Or.inl rfl)) (ah (aH (i:=4) nd rfl (Or.inl rfl) (pf zh hr (aa (pv 0) (aa (pv 3) af)))) (ah (fP (iX K rfl (pv 1) (aa (gk (x:="tuple") (jB K rfl) rfl (B.at "tuple") eU (aa (ft (N:=["new","old"]) (js:=[none,none]) rfl rfl rfl (hW K rfl false false rfl (B.at "zip") (aa (pv 4) (aa (pv 2) af))) (fun _ _ _ _ _=>(cS K rfl (n:=2) rfl (bo (aQ (i:=0) (show List.Nodup (["new","old"]:List Str) by decide+kernel) rfl (Or.inl rfl)) (bo (aQ (i:=1) (show List.Nodup (["new","old"]:List Str) by decide+kernel) rfl (Or.inl rfl)) cR)))) (fun _ _ _ _ _=>eL) (fun _ _ _ _ _=>(au fu (pv 0) (pv 1)))) af)) af))) (ao (aH (i:=2) nd rfl (Or.inl rfl) (pv 4)))))) (ao (aG (pv 1)))))),?_⟩;refine⟨bM _ (bR rfl),fun l H1 n1=>?_⟩;refine⟨_,rfl,v,ns,sp,0,rfl,RD.mono n1.same _ rd,ok,hz,by decide,fun u H2 ru s2=>?_⟩;have t2:=n1.same.trans s2;refine⟨_,rfl,v,ns,sp,rfl,RD.mono t2 _ rd,ok.ne,hz,fun H3 s3=>?_⟩;refine⟨_,_,rfl,rfl,_,_,rfl,⟨by omega,by omega,by omega,by omega⟩,?_⟩;have t3:=t2.trans s3;have e3:((ak ns:Int)+1-1).toNat=ak ns:=by omega
   refine wD (Pv:=fun i σ H4=>ai H H4/\(∃ys,H4 l=some (.lst ys)/\ay K H4 ys ((ml ns).take i))/\∃b v1 v2,RD K H4 b (AJ ns i)/\σ=[some v,some (.ref l),some b,v1,v2]) ?_ ?_ ?_
   ·exact⟨t3,⟨[],s3 _ _ (s2 _ _ n1.at'),cQ⟩,u,none,none,RD.mono s3 _ ru,rfl⟩
   · rintro i σ H4 hi ⟨t4,⟨ys,dl,ry⟩,b,v1,v2,rb,rfl⟩
     have Em:i<ak ns:=by omega
     refine⟨_,rfl,_,rfl,v,ns,sp,_,rfl,RD.mono t4 _ rd,ok,hz,by omega,fun b2 H5 D5 s5=>?_⟩;refine⟨_,rfl,.inl ⟨rfl,_,aw.of (s5 _ _ dl)⟩,?_⟩;obtain⟨a1,xs1,rfl,h1,q1⟩:=D5.dv;have e1:=q1.gT;subst e1;obtain⟨a0,xs0,rfl,h0,q0⟩:=(RD.mono s5 _ rb).dv;have e0:=q0.gT;subst e0;refine⟨_,rfl,_,rfl,a1,a0,rfl,⟨_,h1⟩,⟨_,h0⟩,fun D H6 nw=>?_⟩;refine qO (K:=K) (b1:=false) (b2:=false) (ds:=(gf ns i).map PyData.int) [] rfl h1 h0 nw (by simp[gf]) (by simpa[gf]using hz) (jG _) ?_ ?_
     · intro j x y d H7 Q' ex ey ed s7 hq
       obtain⟨m,em,rfl⟩:=kH ed;unfold gf at em;rw[bU]at em ex ey;rw[bU]at ex ey;cases en:ns[j]? with |none=>rw[en]at em;cases em |some n=>
         rw[en]at em ex ey;cases em;cases ex;cases ey;refine⟨_,rfl,_,rfl,_,_,rfl,rfl,?_⟩;have ee:(1:Int)+(i:Int)=(i:Int)+1:=by omega
         rw[ee];exact hq _ _ (ai.refl _) (dG _)
     · intro H7 zs s7 d7 r7
       refine⟨D,_,rfl,.inl ⟨aw.of d7,fun t H8 n8=>?_⟩⟩;have CC:=s5.trans (s7.trans n8.same);have oH:=CC _ _ dl;have len:=ry.length;rw[m4,CP]at len;refine⟨l,ys,_,rfl,rfl,oH,?_,?_⟩
       · have:(1000:Nat)<sizeLine:=by decide
         omega
       refine⟨_,rfl,?_⟩;have tt:iu H8 (L2.upd H8 l (.lst (ys++[.ref t]))):=.nP oH;refine⟨fun b o e=>?_,⟨_,aO,?_⟩,_,_,_,?_,rfl⟩
       ·rw[az (fw e n1.no)];exact CC b o (t4 b o e)
       · rw[nK,JX Em]
         have nt:cm ((ml ns).take i)=true:=gq.mpr fun d hd=>gq.mp (CO ns) d (Aj hd);exact(ay.t tt _ nt (ay.mono CC _ ry)).append (cj (RD.t tt _ (CQ _) (iW (aB.of n8.at') (ay.mono n8.same _ r7))) cQ)
       · have ee:(1:Int)+(i:Int)=((i+1:Nat):Int):=by omega
         rw[ee]at D5;exact RD.t tt _ (CQ _) (RD.mono (s7.trans n8.same) _ D5)
   · rintro σ H4 ⟨t4,⟨ys,dl,ry⟩,b,v1,v2,rb,rfl⟩
     rw[e3,Gi (by rw[CP];exact bp _)]at ry;exact⟨_,rfl,k l ys H4 n1.no dl ry t4⟩
def fm(ti:Int)(q:Rat)(t:Int):Bool:=decide (ti*ti*(q.den:Int)<=t*t*q.num)
inductive Q0(K:a5w)(vs:List V)(H:Hp)(Q:VK):Prop |mk (m:_)(sq:_)(t:_)(rs:_)(r:_)(f:_)(j:_)(ti:_)(q:_)(h0:vs=[m,sq,.int t])(h1:RD K H m (gQ rs r f j ti))(h2:aR K H sq q)(h3:Bd 2000 q)(h4:1<=ti)(h5:ti<=100)(h6:0<=t)(h7:t.natAbs<2^2400)(h8:Q (.bl (fm ti q t)) H):Q0 K vs H Q
def Io(K:a5w):Sp:=fun vs H Q _=>Q0 K vs H Q
abbrev Ck:Stmt:=top 56
theorem JF:bc ["machine","square","t","p","q","ticks"] ["machine","square","t"] (aM Ck):=bh (by decide+kernel)
theorem Xz(F:FA K mg "are_enough" Ck)(B:bB mg):aj P w K mg base "are_enough" 1 (Io K):=by
 refine F.has JF (fun vs H Q E h=>?_) (fun _ _ _ _ _ _=>lX fun _ _ _=>rfl) (fun f aD A outer s H vs Q E hr h=>?_)
 · obtain⟨m,sq,t,rs,r,f,j,ti,q,rfl,_⟩:=h
   rfl
 · obtain⟨m,sq,t,rs,r,f,j,ti,q,rfl,rm,⟨p,rfl,hp⟩,bq,t1,t2,t0,tw,k⟩:=h
   have nd:=JF.nd;refine⟨_,(ah (fi (pv 1) (cS K rfl (n:=2) rfl (bo (aQ (i:=3) nd rfl (Or.inl rfl)) (bo (aQ (i:=4) nd rfl (Or.inl rfl)) cR)))) (ah (aH (i:=5) nd rfl (Or.inl rfl) (aJ (aK K rfl) (pv 0) ag (fun _ _=>rfl))) (ao (aG (e9 Dq (au ba (au ba (pv 2) (pv 2)) (pv 3)) (au ba (au ba (pv 5) (pv 5)) (pv 4)) (aX _)))))),?_⟩;obtain⟨a,b,rfl,ha,hb⟩:=jn rm;have wt:Wd t:=gb tw (by decide);have xG:Wd (t*t):=gb (n:=4800) (by rw[fc];exact jI (n:=2400) (m:=2400) tw tw) (by decide);have m1:(ti*ti).natAbs<=100*100:=by rw[fc];exact kW (by omega) (by omega)
   refine⟨_,rfl,_,_,rfl,hp,rfl,_,_,rfl,_,_,rfl,rfl,?_⟩;refine⟨_,rfl,.inr ⟨a,_,4,.int ti,rfl,rfl,ha,rfl,?_⟩⟩;refine⟨_,rfl,_,rfl,_,_,rfl,rfl,gz wt.bits wt.bits,_,rfl,_,_,rfl,rfl,gz xG.bits bq.wn.bits,?_⟩;refine⟨_,rfl,_,rfl,_,_,rfl,rfl,.of_left (bJ (by omega) (by omega)),_,rfl,_,_,rfl,rfl,.of_left (bJ (by omega) (by omega)),?_⟩;exact⟨_,_,rfl,rfl,k⟩
theorem Nf{ti t:Int}{q:Rat}(hq:0<q.num)(h0:0<=t)(h:ti*ti*(q.den:Int)<=t):fm ti q t=true:=by
 refine cw (Int.le_trans h ?_);by_cases ht:t=0
 ·subst ht;simp
 · have e1:t*1<=t*t:=Rk (by omega) h0
   have e2:t*t*1<=t*t*q.num:=Rk (by omega) (iS h0 h0);omega
theorem Nc{ti:Int}{q:Rat}(h1:1<=ti):fm ti q 0=false:=by refine eu fun h=>?_;have:=gA (gA (show 0<ti by omega) (show 0<ti by omega)) (den_pos q);simp only[xA]at h;omega
inductive OU(K:a5w)(vs:List V)(H:Hp)(Q:VK):Prop |mk (m:_)(sq:_)(rs:_)(r:_)(f:_)(j:_)(ti:_)(q:_)(h0:vs=[m,sq])(h1:RD K H m (gQ rs r f j ti))(h2:aR K H sq q)(h3:Bd 2000 q)(h4:1<=ti)(h5:ti<=100)(h6:0<q.num)(h7:∀T,1<=T->T.natAbs<2^2400->fm ti q T=true->fm ti q (T-1)=false->Q (.int T) H):OU K vs H Q
def Hy(K:a5w):Sp:=fun vs H Q _=>OU K vs H Q
abbrev Bh:Stmt:=top 55
theorem IL:bc ["machine","square","enough","too_few","between"] ["machine","square"] (aM Bh):=bh (by decide+kernel)
theorem Wv(F:FA K mg "ticks_of" Bh)(B:bB mg)(My:aj P w K mg base "are_enough" 1 (Io K)):aj P w K mg base "ticks_of" 2 (Hy K):=by
 refine F.has IL (fun vs H Q E h=>?_) (fun _ _ _ _ _ _=>cP fun _ _=>rfl) (fun f aD A outer s H vs Q E hr h=>?_)
 · obtain⟨m,sq,rs,r,f,j,ti,q,rfl,_⟩:=h
   rfl
 · obtain⟨m,sq,rs,r,f,j,ti,q,rfl,rm,rq,bq,t1,t2,hq,k⟩:=h
   have nd:=IL.nd;refine⟨_,(ah (aH (i:=2) nd rfl (Or.inl rfl) ag) (ah (lG fU (dX (cA (pf My hr (aa (pv 0) (aa (pv 1) (aa (pv 2) af)))))) (ao (aH (i:=2) nd rfl (Or.inl rfl) (au ba ag (pv 2))))) (ah (aH (i:=3) nd rfl (Or.inl rfl) (au kF (pv 2) ag)) (ah (lG fU (bK pT (au fu (pv 2) (pv 3)) ag (aX _)) (ah (aH (i:=4) nd rfl (Or.inl rfl) (au kF (au cF (pv 3) (pv 2)) ag)) (ao (bj (cA (pf My hr (aa (pv 0) (aa (pv 1) (aa (pv 4) af))))) (ao (aH (i:=2) nd rfl (Or.inl rfl) (pv 4))) (ao (aH (i:=3) nd rfl (Or.inl rfl) (pv 4))))))) (ao (aG (pv 2))))))),?_⟩;have lim:(ti*ti*(q.den:Int)).natAbs<2^2399:=by
    have m1:(ti*ti).natAbs<=100*100:=by rw[fc];exact kW (by omega) (by omega)
    have hd:=bq.den;rw[fc];have:(q.den:Int).natAbs=q.den:=rfl;rw[this];have:=jI (n:=14) (m:=2000) (a:=(ti*ti).natAbs) (b:=q.den) (oY m1 (by decide)) hd;exact fF this (oX (by decide) (by decide))
   have p0:0<ti*ti*(q.den:Int):=gA (gA (by omega) (by omega)) (den_pos q);have e2:(2:Nat)^2400=2^2399*2:=Nat.pow_succ 2 2399;generalize hL:ti*ti*(q.den:Int)=L at lim p0;refine kY (fun σ H2=>H2=H/\∃(x:Int),σ=[some m,some sq,some (.int x),none,none]/\1<=x/\x<=2*L/\fm ti q (x/2)=false) (fun σ _=>match σ with|[_,_,some (.int x),_,_]=>(L-x).toNat|_=>0) ?_ ?_ ?_
   ·exact⟨rfl,1,rfl,by omega,by omega,Nc t1⟩
   · rintro σ H2 ⟨rfl,x,rfl,x1,xL,hx⟩
     have xw:x.natAbs<2^2400:=by omega
     refine⟨_,rfl,_,rfl,_,rfl,m,sq,x,rs,r,f,j,ti,q,rfl,rm,rq,bq,t1,t2,by omega,xw,_,rfl,?_⟩;cases mR:fm ti q x with
     |false=>
       have bZ:x<L:=by
        by_cases bZ:x<L
        ·exact bZ
        ·rw[Nf hq (by omega) (by omega)]at mR;cases mR
       refine cV (fun hc=>?_) (fun hc=>(hc rfl).elim);refine⟨_,rfl,_,_,rfl,rfl,.of_left (bJ (by decide) (by decide)),?_⟩;refine⟨⟨rfl,_,rfl,by omega,by omega,?_⟩,?_⟩
       · have:2*x/2=x:=by omega
         rw[this];exact mR
       · show(L-2*x).toNat<(L-x).toNat
         omega |true=>
       refine cV (fun hc=>nomatch hc) (fun hc=>?_);refine⟨_,rfl,_,_,rfl,rfl,⟨by decide,gb (n:=2) (by decide) (by decide)⟩,?_⟩;refine kY (fun σ H3=>H3=H2/\∃(lo hi:Int)(v:Option V),σ=[some m,some sq,some (.int hi),some (.int lo),v]/\0<=lo/\lo<hi/\hi<=2*L/\fm ti q lo=false/\fm ti q hi=true) (fun σ _=>match σ with|[_,_,some (.int x),some (.int y),_]=>(x-y).toNat|_=>0) ?_ ?_ ?_
       ·exact⟨rfl,x/2,x,none,rfl,by omega,by omega,xL,hx,mR⟩
       · rintro σ H3 ⟨rfl,lo,hi,v,rfl,l0,lh,wz,wK,qI⟩
         refine⟨_,rfl,_,rfl,_,_,rfl,rfl,_,_,rfl,rfl,_,rfl,?_⟩;refine cV (fun hc=>?_) (fun hc=>?_)
         · have hgt:hi-lo>1:=ja hc
           refine⟨_,rfl,_,rfl,_,_,rfl,rfl,_,_,rfl,rfl,⟨by decide,gb (n:=2) (by decide) (by decide)⟩,?_⟩;have mw:((lo+hi)/2).natAbs<2^2400:=by omega
           refine⟨_,rfl,_,rfl,_,rfl,m,sq,(lo+hi)/2,rs,r,f,j,ti,q,rfl,rm,rq,bq,t1,t2,by omega,mw,_,rfl,?_⟩;cases hm:fm ti q ((lo+hi)/2)with |true=>refine bF ?_;refine⟨_,rfl,⟨rfl,lo,_,_,rfl,l0,by omega,by omega,wK,hm⟩,?_⟩;show((lo+hi)/2-lo).toNat<(hi-lo).toNat;omega |false=>refine bf ?_;refine⟨_,rfl,⟨rfl,_,hi,_,rfl,by omega,by omega,wz,hm,qI⟩,?_⟩;show(hi-(lo+hi)/2).toNat<(hi-lo).toNat;omega
         · have hle:¬hi-lo>1:=fun z=>hc (cw z)
           have e:lo=hi-1:=by omega
           subst e;exact⟨_,rfl,k hi (by omega) (by omega) qI wK⟩
       · rintro σ H2 Q1 Q2 hq ⟨v1,e1,v2,e2,i,j,e3,e4,i2,j2,e5,e6,kk,e7,q⟩
         exact⟨v1,e1,v2,e2,i,j,e3,e4,i2,j2,e5,e6,kk,e7,hq _ _ q⟩
   · rintro σ H2 Q1 Q2 hq ⟨v1,e1,v2,e2,v3,e3,m',Th,x',Uq,r',f',j',Se,q',e4,h1,h2,h3,h4,h5,h6,h7,b,eb,q⟩
     exact⟨v1,e1,v2,e2,v3,e3,m',Th,x',Uq,r',f',j',Se,q',e4,h1,h2,h3,h4,h5,h6,h7,b,eb,hq _ _ q⟩
def wY(ti:Int)(q:Rat)(T:Int):Prop:=1<=T/\fm ti q T=true/\fm ti q (T-1)=false
open Classical in
noncomputable def AB(ti:Int)(q:Rat):Int:=if h:∃T,wY ti q T then h.choose else 0
theorem Nd{ti:Int}{q:Rat}{s t:Int}(hq:0<=q.num)(h0:0<=s)(h:s<=t)(e:fm ti q s=true):fm ti q t=true:=by refine cw (Int.le_trans (ja e) ?_);exact Rj (An h h h0 (by omega)) hq
theorem Sg{ti:Int}{q:Rat}{S T:Int}(hq:0<=q.num)(h1:wY ti q S)(h2:wY ti q T):S=T:=by
 obtain⟨a1,a2,a3⟩:=h1;obtain⟨b1,b2,b3⟩:=h2;by_cases h:S<=T-1
 · have:=Nd hq (by omega) h a2
   rw[b3]at this;cases this
 · by_cases h':T<=S-1
   · have:=Nd hq (by omega) h' b2
     rw[a3]at this;cases this
   ·omega
theorem GY{ti:Int}{q:Rat}{T:Int}(hq:0<=q.num)(h:wY ti q T):AB ti q=T:=by have hx:∃T,wY ti q T:=⟨T,h⟩;unfold AB;rw[dif_pos hx];exact Sg hq hx.choose_spec h
theorem Du{q:Rat}(h:0<q):0<q.num:=by
 have h1:=G5.mpr (G7 h);have h2:q.num≠0:=fun e=>by rw[Rat.num_eq_zero.mp e]at h;exact absurd h (by decide)
 omega
noncomputable def m9(ti:Int)(zs:List Int)(q:Rat):a5z:=.tuple [.str "step",.tuple (zs.map PyData.int),.int (AB ti q),cD q]
theorem AI(ti:Int)(zs:List Int)(q:Rat):dP (m9 ti zs q)=true:=by simp[m9,dP,cm,jG,o3]
inductive PZ(K:a5w)(vs:List V)(H:Hp)(Q:VK):Prop |mk (m:_)(rv:_)(sq:_)(rs:_)(r:_)(f:_)(j:_)(ti:_)(zs:_)(q:_)(h0:vs=[m,rv,sq])(h1:RD K H m (gQ rs r f j ti))(h2:lZ rs r f j ti)(h3:RD K H rv (.tuple (zs.map PyData.int)))(h4:aR K H sq q)(h5:Bd 2000 q)(h6:0<q)(h7:∀v H',RD K H' v (m9 ti zs q)->ai H H'->Q v H'):PZ K vs H Q
def AX(K:a5w):Sp:=fun vs H Q _=>PZ K vs H Q
abbrev Cj:Stmt:=top 57
theorem JE:bc ["machine","row","square"] ["machine","row","square"] (aM Cj):=bh (by decide+kernel)
theorem Xy(F:FA K mg "step_entry" Cj)(B:bB mg)(ZJ:aj P w K mg base "ticks_of" 2 (Hy K)):aj P w K mg base "step_entry" 3 (AX K):=by
 refine F.has JE (fun vs H Q E h=>?_) (fun _ _ _ _ _ _=>lX fun _ _ _=>rfl) (fun f aD A outer s H vs Q E hr h=>?_)
 · obtain⟨m,rv,sq,rs,r,f,j,ti,zs,q,rfl,_⟩:=h
   rfl
 · obtain⟨m,rv,sq,rs,r,f,j,ti,zs,q,rfl,rm,aE,rr,Rq,bq,q0,k⟩:=h
   have nd:=JE.nd;refine⟨_,(ao (aG (dH (aa aU (aa (pv 1) (aa (pf ZJ hr (aa (pv 0) (aa (pv 2) af))) (aa (pv 2) af))))))),?_⟩;have t1:=aE.t1;have qn:0<q.num:=Du q0;refine⟨_,rfl,_,rfl,_,rfl,m,sq,rs,r,f,j,ti,q,rfl,rm,Rq,bq,t1.1,t1.2,qn,fun T T1 _ T2 T3=>?_⟩;refine⟨_,rfl,bM _ (bR rfl),fun t H1 n1=>k (.ref t) H1 ?_ n1.same⟩;have e:=GY (by omega) ⟨T1,T2,T3⟩;unfold m9;rw[e];exact iW (aB.of n1.at') (cj (dD _) (cj (RD.mono n1.same _ rr) (cj (dG _) (cj (Rq.go n1.same).rd cQ))))
theorem GX{rate sp:Int}(h1:1<=sp)(h2:10<=rate):0<topR rate sp:=by
 have h0:=Ow.xR rate sp;refine G4 h0 fun e=>?_;have hp:0<(sp*rate)^2:=by rw[fb,fb,kh,jx];exact gA (gA (by omega) (by omega)) (gA (by omega) (by omega))
 have h2:0<=Rat.divInt (-((sp*rate)^2)) 10000:=by rw[<-Rat.neg_divInt];show 0<=-(topR rate sp);rw[<-e];decide
 have:=(ur (by decide)).mp h2;omega
inductive Py(K:a5w)(vs:List V)(H:Hp)(Q:VK):Prop |mk (m:_)(iv:_)(rate:_)(rs:_)(r:_)(f:_)(j:_)(t:_)(ds:_)(os:_)(h0:vs=[m,iv,.int rate])(h1:RD K H m (gQ rs r f j t))(h2:lZ rs r f j t)(h3:RD K H iv (.list ds))(h4:fR rs.length ds os)(h5:ds.length<=100)(h6:10<=rate)(h7:rate<=200)(h8:∀l ys H',H l=none->H' l=some (.lst ys)->ay K H' ys ((ownL j rate os).map cD)->ai H H'->Q (.ref l) H'):Py K vs H Q
def Ii(K:a5w):Sp:=fun vs H Q _=>Py K vs H Q
theorem X8(F:FA K mg "own_bounds" yb)(B:bB mg)(gN:GT K mg "NOUGHT" [.int 0,.int 1])(Eu:aj P w K mg base "bound_between" 7 (y8 K)):aj P w K mg base "own_bounds" 8 (Ii K):=by
 obtain⟨aN,jR,lg⟩:=gN;refine F.has y9 (fun vs H Q E h=>?_) (fun _ _ _ _ _ _=>lX fun _ _ _=>rfl) (fun f aD A outer s H vs Q E hr h=>?_)
 · obtain⟨m,iv,rate,rs,r,f,j,t,ds,os,rfl,_⟩:=h
   rfl
 · obtain⟨m,iv,rate,rs,r,f,j,t,ds,os,rfl,rm,aE,ri,row,hz,rt1,rt2,k⟩:=h
   have nd:=y9.nd;have rN:∀H',RD K H' (.ref aN) (cD 0):=fun H'=>(sL (lg H')).rd;refine⟨_,(ah (bj (dX (D9 K rfl (pv 1))) (ao (aG (dF (aa (gj (x:="NOUGHT") rfl jR) af)))) bE) (ah (Df (i0:=3) nd rfl (Or.inl rfl) (N:=["one","other","machine","rate"]) (js:=[none,none,some 0,some 2]) rfl rfl rfl (hW K rfl true true rfl (B.at "zip") (aa (pv 1) (aa (Di (B0 K rfl) (pv 1) (Dg ag) Dh) af))) (fun _ _ _ _ _=>(cS K rfl (n:=2) rfl (bo (aQ (i:=0) (show List.Nodup (["one","other","machine","rate"]:List Str) by decide+kernel) rfl (Or.inl rfl)) (bo (aQ (i:=1) (show List.Nodup (["one","other","machine","rate"]:List Str) by decide+kernel) rfl (Or.inl rfl)) cR)))) (fun _ _ _ _ _=>eL) (fun _ _ _ _ _=>(pf Eu hr (aa (pv 2) (aa (pv 0) (aa (pv 1) (aa (pv 3) af))))))) (ao (aG (au (u9 K rfl) (au (u9 K rfl) (dF (aa (gj (x:="NOUGHT") rfl jR) af)) (pv 3)) (dF (aa (gj (x:="NOUGHT") rfl jR) af))))))),?_⟩;obtain⟨ia,xs,rfl,hi,gu⟩:=ri.lst_inv;have lx:=gu.length;have ll:=row.len;refine⟨_,rfl,_,.inl ⟨_,hi,rfl⟩,?_⟩;cases hd:xs with
   |nil=>
     subst hd;refine bF ?_;refine⟨bM _ (bR rfl),fun l H1 n1=>?_⟩;refine k l [.ref aN] H1 n1.no n1.at' ?_ n1.same;have e:os=[]:=by
      have:os.length=0:=by rw[<-ll,<-lx];rfl
      exact Al.mp this
     rw[e];exact cj (rN H1) cQ |cons x0 xr=>
     refine bf ?_;have cy:os≠[]:=by intro e;rw[e]at ll;rw[hd]at lx;simp at ll lx;rw[ll]at lx;cases lx
     have E6:0<xs.length:=by rw[hd];simp
     refine⟨_,rfl,_,rfl,1,rfl,ia,xs,rfl,.inl ⟨hi,fun tl H1 n1=>?_⟩⟩;refine⟨ia,tl,rfl,⟨_,hi.go n1.same⟩,⟨_,aw.of n1.at'⟩,fun D H2 n2=>?_⟩;have et:=n1.at';rw[Fj]at et;have vq:∀(i:Nat)(o:Itm),os[i]? =some o->∀(ns:List Int)(sp:Int),o=some (ns,sp)->dN rs.length 100 ns/\1<=sp/\sp<=20:=fun i o e ns sp e'=>row.ok i ns sp (by rw[e,e']);have lr:=aE.len;refine qO (K:=K) (b1:=true) (b2:=true) (xs:=xs) (ys:=xs.drop 1) (ds:=((List.range (os.length-1)).map (fun i=>ownF j rate os (i+1))).map cD) _ rfl (hi.go n1.same) (aw.of et) n2 (by rw[Gn];simp;omega) (by simp;omega) (sN _) ?_ ?_
     · intro i x y d H3 Q' ex ey ed s3 hq
       have cJ:=n1.same.trans s3;rw[List.getElem?_drop]at ey;obtain⟨d1,e1,r1⟩:=gu.get' i ex;obtain⟨d2,e2,r2⟩:=gu.get' (1+i) ey;obtain⟨o1,lT,i1⟩:=row.get e1;obtain⟨o2,kA,i2⟩:=row.get e2;have Mn:1+i<os.length:=(dC.mp kA).1;have jW:d=cD (betR j rate o1 o2):=by rw[bU,bU,bO (by simp;omega),qX]at ed;have:=(eG ed).symm;rw[this];show cD (betR j rate (atO os i) (atO os (i+1)))=_;rw[Ow.mZ lT,Ow.mZ (show os[i+1]? =some o2 by rw[Nat.add_comm];exact kA)]
       subst jW;refine⟨_,rfl,_,rfl,_,rfl,_,rfl,m,x,y,rate,rs,r,f,j,t,d1,d2,o1,o2,rs.length,rfl,RD.mono cJ _ rm,aE.j1.1,aE.j1.2,RD.mono cJ _ r1,RD.mono cJ _ r2,i1,i2,vq _ _ lT,vq _ _ kA,by omega,rt1,rt2,fun v H4 rv s4=>?_⟩;exact hq _ _ s4 rv.rd
     · intro H3 zs s3 d3 r3
       have lz:=r3.length;simp at lz;refine⟨bM _ (bR rfl),fun l1 H4 n4=>?_⟩;refine⟨_,rfl,l1,D,_,zs,rfl,rfl,aw.of n4.at',aw.of (n4.same _ _ d3),bM _ (by simp;omega),fun l2 H5 n5=>?_⟩;refine⟨bM _ (bR rfl),fun l3 H6 n6=>?_⟩;refine⟨l2,l3,_,_,rfl,rfl,aw.of (n6.same _ _ n5.at'),aw.of n6.at',bM _ (by simp;omega),fun l H7 n7=>?_⟩;have vb:ai H H6:=n1.same.trans (s3.trans (n4.same.trans (n5.same.trans n6.same)));have nl:H l=none:=by cases e:H l with |none=>rfl |some o=>have:=vb _ _ e;rw[n7.no]at this;cases this
       refine k l _ H7 nl n7.at' ?_ (vb.trans n7.same);rw[Ow.KH j rate cy,m3,m3];exact((cj (rN H7) cQ).append (ay.mono (n4.same.trans (n5.same.trans (n6.same.trans n7.same))) _ r3)).append (cj (rN H7) cQ)
inductive PY(K:a5w)(vs:List V)(H:Hp)(Q:VK):Prop |mk (m:_)(iv:_)(l:_)(ys:_)(rs:_)(r:_)(f:_)(j:_)(t:_)(ds:_)(os:_)(g:_)(h0:vs=[m,iv,.ref l])(h1:RD K H m (gQ rs r f j t))(h2:lZ rs r f j t)(h3:RD K H iv (.list ds))(h4:fR rs.length ds os)(h5:ds.length<=30)(h6:H l=some (.lst ys))(h7:ay K H ys ((lst os.length g).map cD))(h8:(∀i,i<=os.length->Bd 900 (g i)))(h9:∀l ys H',H l=none->H' l=some (.lst ys)->ay K H' ys ((lst os.length (fl os.length (leadF os) (2*f) g)).map cD)->ai H H'->Q (.ref l) H'):PY K vs H Q
def Im(K:a5w):Sp:=fun vs H Q _=>PY K vs H Q
theorem Xx(F:FA K mg "kept_by_fall" Ci)(B:bB mg)(om:aj P w K mg base "is_line" 1 (rL K))(mJ:aj P w K mg base "lead_of" 1 (ki K))(tE:aj P w K mg base "plus_whole" 4 (y4 K))(tI:aj P w K mg base "least" 2 (iB K)):aj P w K mg base "kept_by_fall" 5 (Im K):=by
 refine F.has JD (fun vs H Q E h=>?_) (fun _ _ _ _ _ _=>lX fun _ _ _=>rfl) (fun fa aD A outer s H vs Q E hr h=>?_)
 · obtain⟨m,iv,l,ys,rs,r,f,j,t,ds,os,g,rfl,_⟩:=h
   rfl
 · obtain⟨m,iv,l,ys,rs,r,f,j,t,ds,os,g,rfl,rm,aE,ri,row,hz,dl,nX,bg,k⟩:=h
   have nd:=JD.nd;refine⟨_,(ah (aH (i:=3) nd rfl (Or.inl rfl) (aJ (aK K rfl) (pv 0) ag (fun _ _=>rfl))) (ah (aH (i:=4) nd rfl (Or.inl rfl) (gk (x:="list") (DQ K rfl) rfl (B.at "list") jv (aa (pv 2) af))) (ah (jF fU rfl (VA rfl (B.at "reversed") (aa (gk (x:="range") a3p rfl (B.at "range") PyProof.Rows.boot_range (aa (aL (x:="len") (cU K rfl) rfl (B.at "len") cY (aa (pv 1) af)) af)) af)) (aQ (i:=5) nd rfl (Or.inl rfl)) (ao (bj (cA (pf om hr (aa (aJ (aK K rfl) (pv 1) (pv 5) (fun _ _=>rfl)) af))) (ao (fi (pf tI hr (aa (dF (aa (aJ (aK K rfl) (pv 4) (pv 5) (fun _ _=>rfl)) (aa (pf tE hr (aa (aJ (aK K rfl) (pv 4) (au cF (pv 5) ag) (fun _ _=>rfl)) (aa (au ba (au ba ag (pv 3)) (pf mJ hr (aa (aJ (aK K rfl) (pv 1) (pv 5) (fun _ _=>rfl)) af))) af))) af))) af)) (pS (pv 4) (pv 5) set_list))) bE))) (ao (aG (pv 4)))))),?_⟩;obtain⟨ma,mb,rfl,fA,gE⟩:=jn rm;obtain⟨ia,xs,rfl,hi,gu⟩:=ri.lst_inv;have lx:=gu.length;have ll:=row.len;have lr:=aE.len;have hL:∀i m,leadF os i=some m->(2*f*(m:Int)).natAbs<2^24:=fun i m e=>GO aE.f1.1 aE.f1.2 (LJ row.sH e);have FB:∀i,i<=os.length->Bd 1700 (fl os.length (leadF os) (2*f) g i):=fun i hi=>(MY bg hL i hi).mono (by omega);refine⟨_,rfl,.inr ⟨ma,_,2,.int f,rfl,rfl,fA,rfl,?_⟩⟩;refine⟨_,rfl,l,ys,rfl,.inl (aw.of dl),fun D H1 n1=>?_⟩;refine⟨_,rfl,ia,_,rfl,.inl (hi.go n1.same),_,rfl,fun pr H2 n2=>?_⟩;refine⟨pr,_,rfl,n2.at',by omega,by omega,?_⟩;have eN:((xs.length:Int)).toNat=os.length:=by omega
   rw[eN];refine a25 (Pv:=fun i σ H5=>ai H H5/\∃zs v1,H5 D=some (.lst zs)/\ay K H5 zs ((lst os.length fun k=>if os.length<=k+i then fl os.length (leadF os) (2*f) g k else g k).map cD)/\σ=[some (.ref ma),some (.ref ia),some (.ref l),some (.int f),some (.ref D),v1]) ?_ ?_ ?_
   · refine⟨n1.same.trans n2.same,ys,none,n2.same _ _ n1.at',?_,rfl⟩
     rw[DJ (g:=fun k=>if os.length<=k+0 then fl os.length (leadF os) (2*f) g k else g k) (g':=g)]
     ·exact ay.mono (n1.same.trans n2.same) _ nX
     · intro k hk
       show g k=if os.length<=k+0 then _ else g k;split
       · next h => have:k=os.length:=by omega
                   subst this;exact tS.symm
       ·rfl
   · rintro i σ H3 Mj ⟨s3,zs,v1,dz,rz,rfl⟩
     obtain⟨x,hx⟩:∃x,xs[os.length-1-i]? =some x:=⟨_,bO (show os.length-1-i<xs.length by omega)⟩;generalize hc:os.length-1-i=c at hx;have qz:c<os.length:=by omega
     have eI:((os.length:Int)-1-(i:Int))=(c:Int):=by omega
     rw[eI];obtain⟨d,ed,rd⟩:=gu.get' c hx;obtain⟨o,eo,it⟩:=row.get ed;have lz:=rz.length;rw[bS,o9]at lz;have wV:fo xs (c:Int)=some x:=cM (by omega) (by simpa using hx);refine⟨_,rfl,_,rfl,.inl ⟨ia,_,_,_,rfl,rfl,hi.go s3,wV,?_⟩⟩;refine⟨x,d,o,rfl,RD.mono s3 _ rd,it,_,rfl,?_⟩;cases o with
     |none=>
       refine bf ?_;refine⟨s3,zs,_,dz,?_,rfl⟩;rw[DJ (g:=fun k=>if os.length<=k+(i+1)then fl os.length (leadF os) (2*f) g k else g k) (g':=fun k=>if os.length<=k+i then fl os.length (leadF os) (2*f) g k else g k)]
       ·exact rz
       · intro k _
         show(if os.length<=k+i then _ else g k)=if os.length<=k+(i+1)then _ else g k;by_cases h1:os.length<=k+i
         ·rw[aP h1,aP (by omega)]
         · rw[aV h1]
           by_cases h2:k=c
           ·subst h2;rw[aP (by omega),tR qz (LI eo)]
           ·rw[aV (by omega)] |some q=>
       obtain⟨ns,sp⟩:=q;refine bF ?_;have jW:=jL it;subst jW;obtain⟨dJ,_,_⟩:=row.ok c ns sp eo;obtain⟨z1,MZ⟩:∃z,zs[c+1]? =some z:=⟨_,bO (show c+1<zs.length by omega)⟩;obtain⟨z0,wI⟩:∃z,zs[c]? =some z:=⟨_,bO (show c<zs.length by omega)⟩;have R1:aR K H3 z1 (fl os.length (leadF os) (2*f) g (c+1)):=by
        obtain⟨d1,e1,r1⟩:=rz.get' (c+1) MZ;rw[bU,oa _ (show c+1<=os.length by omega)]at e1;cases e1;have:os.length<=c+1+i:=by omega
        simp only[aP this]at r1;exact lE r1
       have R0:aR K H3 z0 (g c):=by
        obtain⟨d1,e1,r1⟩:=rz.get' c wI;rw[bU,oa _ (show c<=os.length by omega)]at e1;cases e1;have:¬os.length<=c+i:=by omega
        simp only[aV this]at r1;exact lE r1
       have F8:((c:Int)+1).toNat=c+1:=by omega
       have FD:fo zs ((c:Int)+1)=some z1:=cM (by omega) (by rw[F8];exact MZ);have FE:fo zs (c:Int)=some z0:=cM (by omega) (by simpa using wI);refine⟨_,rfl,_,rfl,.inl ⟨D,_,_,_,rfl,rfl,aw.of dz,FE,?_⟩⟩;refine⟨_,rfl,_,rfl,_,_,rfl,rfl,.inl ⟨D,_,_,_,rfl,rfl,aw.of dz,FD,?_⟩⟩;refine⟨_,rfl,_,_,rfl,rfl,.of_left (bJ (by decide) (by decide)),?_⟩;refine⟨_,rfl,_,rfl,.inl ⟨ia,_,_,_,rfl,rfl,hi.go s3,wV,?_⟩⟩;refine⟨x,ns,sp,rfl,RD.mono s3 _ rd,dJ.ne,by rw[dJ.len];omega,fun H4 s4=>?_⟩;have oE:=aE.f1;refine⟨_,_,rfl,rfl,.of_left (bJ (by omega) (by omega)),?_⟩;have us:=hL c _ (za eo);refine⟨z1,_,_,rfl,R1.go s4,(FB (c+1) (by omega)).mono (by decide),us,fun u H5 ru s5=>?_⟩;refine⟨bM _ (bR rfl),fun l2 H6 n6=>?_⟩;have nV:=s4.trans (s5.trans n6.same);have Oq:=R0.go nV;have Ru:=ru.go n6.same;have B1:Bd 2000 (g c):=(bg _ (by omega)).mono (by decide);have B2:Bd 2000 (fl os.length (leadF os) (2*f) g (c+1)+((2*f*(ak ns:Int):Int):Rat)):=(zU (FB (c+1) (by omega)) us).mono (by decide);refine⟨l2,[z0,u],[_,_],rfl,aw.of n6.at',⟨Oq,B1,Ru,B2,trivial⟩,by simp,fun c' v q e1 e2 hq=>?_⟩;have qh:mn (g c) (fl os.length (leadF os) (2*f) g (c+1)+((2*f*(ak ns:Int):Int):Rat))=q:=by
        refine lK ?_ (hq _ (by simp)) (hq _ (by simp))
        match c',e2 with |0,e2=>cases e2;exact .inl rfl |1,e2=>cases e2;exact .inr rfl
       have Rv:aR K H6 v q:=by match c',e1,e2 with |0,e1,e2=>cases e1;cases e2;exact Oq |1,e1,e2=>cases e1;cases e2;exact Ru
       have Np:=nV _ _ dz;have vZ:iL zs.length (c:Int)=some c:=by unfold iL;rw[aP (by omega),aP (by omega)];simp
       refine⟨_,rfl,_,rfl,D,zs,_,_,rfl,rfl,Np,vZ,?_⟩;refine⟨fun b o e=>?_,_,_,aO,?_,rfl⟩
       ·rw[az (fw e n1.no)];exact nV b o (s3 b o e)
       · have h:=ay.B6 (i:=c) Np (ay.mono nV _ rz) Rv.rd (sN _) (o3 _)
         rw[<-xu]at h;have e:(lst os.length fun k=>if os.length<=k+i then fl os.length (leadF os) (2*f) g k else g k).set c q=lst os.length fun k=>if os.length<=k+(i+1)then fl os.length (leadF os) (2*f) g k else g k:=by
          rw[<-Yx (g:=fun k=>if os.length<=k+i then fl os.length (leadF os) (2*f) g k else g k) (g':=fun k=>if os.length<=k+(i+1)then fl os.length (leadF os) (2*f) g k else g k) (i:=c)]
          · have:os.length<=c+(i+1):=by omega
            simp only[aP this];rw[tT qz (za eo),qh]
          · intro k _ hk
            show(if os.length<=k+(i+1)then _ else g k)=if os.length<=k+i then _ else g k;by_cases h1:os.length<=k+i
            ·rw[aP h1,aP (by omega)]
            ·rw[aV h1,aV (by omega)]
         rw[e]at h;exact h
   · rintro σ H3 ⟨s3,zs,v1,dz,rz,rfl⟩
     rw[DJ (g:=fun k=>if os.length<=k+os.length then fl os.length (leadF os) (2*f) g k else g k) (g':=fl os.length (leadF os) (2*f) g) (fun k hk=>by show _=if os.length<=k+os.length then _ else _;rw[aP (by omega)])]at rz;exact⟨_,rfl,k D zs H3 n1.no dz rz s3⟩
def K2(f j rate:Int)(os:List Itm):Rat:=fl os.length (leadF os) (2*f) (ownF j rate os) 1
inductive Pf(K:a5w)(vs:List V)(H:Hp)(Q:VK):Prop |mk (m:_)(iv:_)(rate:_)(rs:_)(r:_)(f:_)(j:_)(t:_)(ds:_)(os:_)(h0:vs=[m,iv,.int rate])(h1:RD K H m (gQ rs r f j t))(h2:lZ rs r f j t)(h3:RD K H iv (.list ds))(h4:fR rs.length ds os)(h5:ds.length<=30)(h6:1<=ds.length)(h7:10<=rate)(h8:rate<=200)(h9:∀v H',aR K H' v (K2 f j rate os)->ai H H'->Q v H'):Pf K vs H Q
def AO(K:a5w):Sp:=fun vs H Q _=>Pf K vs H Q
abbrev Bv:Stmt:=top 62
theorem J2:bc ["machine","items","rate"] ["machine","items","rate"] (aM Bv):=bh (by decide+kernel)
theorem X4(F:FA K mg "reach_behind_first" Bv)(B:bB mg)(a00:aj P w K mg base "own_bounds" 8 (Ii K))(a0j:aj P w K mg base "kept_by_fall" 5 (Im K)):aj P w K mg base "reach_behind_first" 9 (AO K):=by
 refine F.has J2 (fun vs H Q E h=>?_) (fun _ _ _ _ _ _=>lX fun _ _ _=>rfl) (fun fa aD A outer s H vs Q E hr h=>?_)
 · obtain⟨m,iv,rate,rs,r,f,j,t,ds,os,rfl,_⟩:=h
   rfl
 · obtain⟨m,iv,rate,rs,r,f,j,t,ds,os,rfl,rm,aE,ri,row,hz,h1,rt1,rt2,k⟩:=h
   have nd:=J2.nd;refine⟨_,(ao (aG (aJ (aK K rfl) (pf a0j hr (aa (pv 0) (aa (pv 1) (aa (pf a00 hr (aa (pv 0) (aa (pv 1) (aa (pv 2) af)))) af)))) ag (fun _ _=>rfl)))),?_⟩;have ll:=row.len;have hB:=Ow.Dn aE.j1.1 aE.j1.2 rt1 rt2 row.sH;refine⟨_,rfl,_,rfl,_,rfl,_,rfl,_,rfl,m,iv,rate,rs,r,f,j,t,ds,os,rfl,rm,aE,ri,row,by omega,rt1,rt2,fun l1 y1 H1 nl1 d1 r1 s1=>?_⟩;refine⟨m,iv,l1,y1,rs,r,f,j,t,ds,os,ownF j rate os,rfl,RD.mono s1 _ rm,aE,RD.mono s1 _ ri,row,hz,d1,r1,fun i _=>(hB i).mono (by decide),fun l2 y2 H2 L4 d2 r2 s2=>?_⟩;have ly:=r2.length;rw[bS,o9]at ly;obtain⟨z,ez⟩:∃z,y2[1]? =some z:=⟨_,bO (show 1<y2.length by omega)⟩;refine .inl ⟨l2,_,1,z,rfl,rfl,aw.of d2,cM (by decide) ez,?_⟩;obtain⟨d,ed,rd⟩:=r2.get' 1 ez;rw[bU,oa _ (show 1<=os.length by omega)]at ed;cases ed;exact k z H2 (lE rd) (s1.trans s2)
open Ow (Itm)
theorem Yu{H:Hp}{v:V}{rs:List Int}{es:List a5z}(h:RD K H v (.tuple (.tuple (rs.map PyData.int)::es))):∃a b ys,v= .ref a/\aB K H a (.ref b::ys)/\aB K H b (rs.map V.int):=by obtain⟨a,xs,rfl,h1,h2⟩:=h.dv;obtain⟨x1,r1,rfl,e1,h2⟩:=h2.cons_inv;obtain⟨b,ys,rfl,h3,h4⟩:=e1.dv;rw[h4.gT]at h3;exact⟨a,b,r1,rfl,h1,h3⟩
def gs(z:Str):a5z->Bool | .str x=>x==z |_=>false
theorem zB(z:Str)(d:a5z):PyData.eqv d (.str z)=gs z d:=by cases d<;>simp[PyData.eqv,gs]
theorem N5(z:Str)(d:a5z):PyData.eqv (.str z) d=gs z d:=by cases d<;>simp[PyData.eqv,gs];rw[m6];simp;exact eq_comm
theorem T4(d:a5z):(∃z,d= .str z)\/(gI (lb d) "str"=false/\∀z,d≠ .str z):=by cases d with |str z=>exact .inl ⟨z,rfl⟩ |_=>exact .inr ⟨by simp[lb];decide,fun _ z=>nomatch z⟩
theorem RW:gI "str" "str"=true:=by decide
def E2(d:a5z):Bool:=gs "up" d||gs "down" d
def sJ(c:Nat):Bool:=decide (97<=c)&&decide (c<=122)
def isNm:a5z->Bool | .str x=>(decide (1<=x.length)&&decide (x.length<=8))&&x.cps.toList.all sJ |_=>false
def mF(wd v:a5z):Bool:=if gs "wait" wd then fK 1 1000 v else if gs "tool" wd then E2 v else gs "mark" wd&&isNm v
def vv:a5z->Bool | .int i=>i !=0 |_=>true
def pV(n:Nat):a5z->Bool | .tuple ds=>(ds.length==n&&ds.all (fK (-100) 100))&&ds.any vv |_=>false
def qf(n:Nat):a5z->Bool | .tuple [wd,a,b]=>gs "line" wd&&(pV n a&&fK 1 20 b) | .tuple [wd,v]=>mF wd v |_=>false
def nU:a5z->Bool | .str x=>decide (x.length<=900) |_=>true
def B5:a5z->Bool | .tuple ds=>ds.all nU |_=>true
inductive OO(f:a5z->Bool)(K:a5w)(vs:List V)(H:Hp)(Q:VK):Prop |mk (v:_)(d:_)(h0:vs=[v])(h1:RD K H v d)(h2:nU d=true)(h3:∀H',ai H H'->Q (.bl (f d)) H'):OO f K vs H Q
def Hv(f:a5z->Bool)(K:a5w):Sp:=fun vs H Q _=>OO f K vs H Q
theorem TF{z:Str}(h:nU (.str z)=true):z.length<=900:=ja h
theorem Le(n:Nat):decide ((1:Int)<=(n:Int))=decide (1<=n):=by rw[m6];simp;omega
theorem Yc(n:Nat):decide ((n:Int)<=8)=decide (n<=8):=by rw[m6];simp;omega
theorem a3Q{l:List Nat}{f:Nat->Bool}:(l.map f).all id=l.all f:=by rw[List.all_map];rfl
theorem a40:∀c<128,decide (c∈ud.cps.toList)=sJ c:=by decide+kernel
theorem a42:∀c∈ud.cps.toList,c<128:=by decide+kernel
theorem a41(c:Nat):decide (c∈ud.cps.toList)=sJ c:=by
 by_cases h:c<128
 ·exact a40 c h
 ·rw[eu (fun hc=>h (a42 c hc)),sJ,eu (show¬c<=122 by omega),Bool.and_false]
abbrev Cd:Stmt:=top 49
theorem Jz:bc ["thing"] ["thing"] (aM Cd):=bh (by decide+kernel)
theorem Xt(F:FA K mg "is_name" Cd)(B:bB mg)(a0Z:GV mg "LONGEST_NAME" (.int 8))(a18:GV mg "LETTERS" (.str ud)):aj P w K mg base "is_name" 1 (Hv isNm K):=by
 refine F.has Jz (fun vs H Q E h=>?_) (fun _ _ _ _ _ _=>dR fun _=>rfl) (fun f aD A outer s H vs Q E hr h=>?_)
 · obtain⟨v,d,rfl,_⟩:=h
   rfl
 · obtain⟨v,d,rfl,rd,sh,k⟩:=h
   have nd:=Jz.nd;refine⟨_,(ah (bj (PW.pt (kn (dX (cA (aL (x:="isinstance") (cT K rfl) rfl (B.at "isinstance") cZ (aa (pv 0) (aa (cL (x:="str") (v:=.ty "str") rfl (B.at "str") nH rfl) af))))) (kl (dX (Vl o7 o7 ag (aL (x:="len") a3r rfl (B.at "len") cY (aa (pv 0) af)) (gj (x:="LONGEST_NAME") rfl a0Z)))))) (ao (aG ie)) bE) (ao (aG (aL (x:="all") (nc K rfl rfl) rfl (B.at "all") oW (aa (ft (N:=["letter"]) (js:=[none]) rfl rfl rfl (Vz (pv 0)) (fun _ _ _ _ _=>(aQ (i:=0) (show List.Nodup (["letter"]:List Str) by decide+kernel) rfl (Or.inl rfl))) (fun _ _ _ _ _=>eL) (fun _ _ _ _ _=>(e9 Wc (pv 0) (gj (x:="LETTERS") rfl a18) (by with_unfolding_all rfl)))) af))))),?_⟩;rcases T4 d with⟨z,rfl⟩|⟨ht,hn⟩
   · refine⟨_,rfl,.inl ⟨_,_,"str",true,rfl,rd.ty,by decide,RW,_,rfl,bf ?_⟩⟩
     cases rd.str_inv;have hl:=TF sh;have k:∀H',ai H H'->Q (.bl ((decide (1<=z.length)&&decide (z.length<=8))&&z.cps.toList.all sJ)) H':=k;refine⟨_,rfl,z,rfl,gH hl (by decide),_,_,rfl,rfl,_,rfl,?_⟩;refine cV (fun h1=>?_) (fun h1=>?_)
     · rw[<-Le,show decide ((1:Int)<=(z.length:Int))=true from h1,jy]at k
       refine⟨_,_,rfl,rfl,_,rfl,?_⟩;rw[Yc];cases e8:decide (z.length<=8)with |false=>rw[e8,jd]at k;exact bF (k H (ai.refl _)) |true=>
         rw[e8,jy]at k;refine bf ⟨_,rfl,z,rfl,fun D H0 nw=>?_⟩;refine a3h (f:=sJ) [] nw (by omega) (fun c H2 Q' hc s2 hq=>?_) (fun H2 s2 d2=>?_)
         · refine⟨_,rfl,c,ud,rfl,rfl,?_⟩
           rw[a41];exact hq _ (ai.refl _)
         · refine⟨D,_,rfl,aw.of d2,?_⟩
           rw[a3Q];exact k H2 s2
     · rw[<-Le,show decide ((1:Int)<=(z.length:Int))=false from uA.mpr h1,jd,jd]at k
       exact⟨_,rfl,bF (k H (ai.refl _))⟩
   · have e:isNm d=false:=by cases d<;>first|rfl|exact absurd rfl (hn _)
     rw[e]at k;refine⟨_,rfl,.inl ⟨_,_,"str",false,rfl,rd.ty,by decide,ht,_,rfl,bF ?_⟩⟩;exact k H (ai.refl _)
inductive P1(K:a5w)(vs:List V)(H:Hp)(Q:VK):Prop |mk (x:_)(v:_)(wd:_)(d:_)(h0:vs=[x,v])(h1:RD K H x wd)(h2:RD K H v d)(h3:dk 8 wd)(h4:dk 8 d)(h5:nU d=true)(h6:∀H',ai H H'->Q (.bl (mF wd d)) H'):P1 K vs H Q
def HL(K:a5w):Sp:=fun vs H Q _=>P1 K vs H Q
theorem uQ{d:a5z}(h:dk 8 d):SeqAt.shaped d=true:=h.shaped (by decide)
abbrev Cb:Stmt:=top 48
theorem Jx:bc ["word","value"] ["word","value"] (aM Cb):=bh (by decide+kernel)
theorem Xr(F:FA K mg "is_short_item" Cb)(B:bB mg)(a0Y:GV mg "LONGEST_WAIT" (.int 1000))(gS:GT K mg "SIDES" [.str "up",.str "down"])(mM:aj P w K mg base "is_whole_within" 2 (pI K))(a0p:aj P w K mg base "is_name" 1 (Hv isNm K)):aj P w K mg base "is_short_item" 3 (HL K):=by
 refine F.has Jx (fun vs H Q E h=>?_) (fun _ _ _ _ _ _=>cP fun _ _=>rfl) (fun f aD A outer s H vs Q E hr h=>?_)
 · obtain⟨x,v,wd,d,rfl,_⟩:=h
   rfl
 · obtain⟨x,v,wd,d,rfl,CH,rd,Dr,vt,sh,k⟩:=h
   have nd:=Jx.nd;obtain⟨aS,a0W,Tg⟩:=gS;refine⟨_,(ah (bj (bK (cH K rfl hr.units) (pv 0) aU (aX _)) (ao (aG (pf mM hr (aa (pv 1) (aa ag (aa (gj (x:="LONGEST_WAIT") rfl a0Y) af)))))) bE) (ah (bj (bK (cH K rfl hr.units) (pv 0) aU (aX _)) (ao (aG (e9 (Zn K rfl (hr.RU)) (pv 1) (gj (x:="SIDES") rfl a0W) (by with_unfolding_all rfl)))) bE) (ao (aG (gm (e9 (cH K rfl hr.units) (pv 0) aU (aX _)) (gD (pf a0p hr (aa (pv 1) af)))))))),?_⟩;have k:∀H',ai H H'->Q (.bl (if gs "wait" wd then fK 1 1000 d else if gs "tool" wd then E2 d else gs "mark" wd&&isNm d)) H':=k;refine⟨_,rfl,.inr ⟨_,_,CH,dD _,uQ Dr,by decide+kernel,_,rfl,?_⟩⟩;rw[zB];cases e1:gs "wait" wd with |true=>rw[e1,aP rfl]at k;exact bF ⟨_,rfl,_,d,1,1000,rfl,rd,k H (ai.refl _)⟩ |false=>rw[e1,aV jz]at k;refine bf ⟨_,rfl,.inr ⟨_,_,CH,dD _,uQ Dr,by decide+kernel,_,rfl,?_⟩⟩;rw[zB];cases e2:gs "tool" wd with
     |true=>
       rw[e2,aP rfl]at k;refine bF ⟨_,rfl,aS,_,d,[.str "up",.str "down"],rfl,Tg H,rd,cj (dD _) (cj (dD _) cQ),uQ vt,?_,?_⟩
       · intro e he
         rcases bW.mp he with rfl|he
         ·decide+kernel
         rcases bW.mp he with rfl|he
         ·decide+kernel
         ·exact(da he).elim
       · have e:([.str "up",.str "down"]:List a5z).any (fun e=>PyData.eqv e d)=E2 d:=by rw[qZ,qZ,List.any_nil,N5,N5,Bool.or_false];rfl
         rw[e];exact k H (ai.refl _) |false=>rw[e2,aV jz]at k;refine bf ⟨_,rfl,.inr ⟨_,_,CH,dD _,uQ Dr,by decide+kernel,_,rfl,?_⟩⟩;rw[zB];cases e3:gs "mark" wd with |true=>rw[e3,jy]at k;exact bF ⟨_,rfl,_,d,rfl,rd,sh,k⟩ |false=>rw[e3,jd]at k;exact bf (k H (ai.refl _))
theorem XN(i:Int):(!decide (i=0))=(i !=0):=by rw[m6];simp
theorem Zm{lo hi:Int}{d:a5z}(h:fK lo hi d=true):∃i,d= .int i:=by cases d<;>simp[fK]at h;exact⟨_,rfl⟩
theorem any_map'{ds:List a5z}{f:a5z->Bool}:(ds.map f).any id=ds.any f:=by rw[List.any_map];rfl
inductive OZ(K:a5w)(vs:List V)(H:Hp)(Q:VK):Prop |mk (m:V)(v:V)(rs:List Int)(es:List a5z)(d:a5z)(h0:vs=[m,v])(h1:RD K H m ((.tuple (.tuple (rs.map PyData.int)::es))))(h2:RD K H v d)(h3:rs.length<=3)(h4:∀H',ai H H'->Q (.bl (pV rs.length d)) H'):OZ K vs H Q
def HH(K:a5w):Sp:=fun vs H Q _=>OZ K vs H Q
abbrev Cu:Stmt:=top 47
theorem JM:bc ["machine","thing","rails"] ["machine","thing"] (aM Cu):=bh (by decide+kernel)
theorem XG(F:FA K mg "are_steps" Cu)(B:bB mg)(MB:GV mg "MOST_STEPS" (.int 100))(mM:aj P w K mg base "is_whole_within" 2 (pI K)):aj P w K mg base "are_steps" 3 (HH K):=by
 refine F.has JM (fun vs H Q E h=>?_) (fun _ _ _ _ _ _=>cP fun _ _=>rfl) (fun f aD A outer s H vs Q E hr h=>?_)
 · obtain⟨m,v,rs,es,d,rfl,_⟩:=h
   rfl
 · obtain⟨m,v,rs,es,d,rfl,rm,rd,l3,k⟩:=h
   have nd:=JM.nd;refine⟨_,(ah (aH (i:=2) nd rfl (Or.inl rfl) (aJ (aK K rfl) (pv 0) ag (fun _ _=>rfl))) (ah (bj (PW.pt (kn (dX (cA (aL (x:="isinstance") (cT K rfl) rfl (B.at "isinstance") cZ (aa (pv 1) (aa (cL (x:="tuple") (v:=.ty "tuple") rfl (B.at "tuple") eU rfl) af))))) (kl (bK (jj K rfl hr.units) (aL (x:="len") (cU K rfl) rfl (B.at "len") cY (aa (pv 1) af)) (aL (x:="len") (cU K rfl) rfl (B.at "len") cY (aa (pv 2) af)) (aX _))))) (ao (aG ie)) bE) (ah (bj (dX (cA (aL (x:="all") (nc K rfl rfl) rfl (B.at "all") oW (aa (ft (N:=["step"]) (js:=[none]) rfl rfl rfl (o6 K rfl (pv 1)) (fun _ _ _ _ _=>(aQ (i:=0) (show List.Nodup (["step"]:List Str) by decide+kernel) rfl (Or.inl rfl))) (fun _ _ _ _ _=>eL) (fun _ _ _ _ _=>(pf mM hr (aa (pv 0) (aa (vk uF (gj (x:="MOST_STEPS") rfl MB)) (aa (gj (x:="MOST_STEPS") rfl MB) af)))))) af)))) (ao (aG ie)) bE) (ao (aG (aL (x:="any") (Of K rfl rfl) rfl (B.at "any") QX (aa (ft (N:=["step"]) (js:=[none]) rfl rfl rfl (o6 K rfl (pv 1)) (fun _ _ _ _ _=>(aQ (i:=0) (show List.Nodup (["step"]:List Str) by decide+kernel) rfl (Or.inl rfl))) (fun _ _ _ _ _=>eL) (fun _ _ _ _ _=>(e9 (jj K rfl hr.units) (pv 0) ag (aX _)))) af))))))),?_⟩;obtain⟨am,ar,ym,rfl,hm,har⟩:=Yu rm;refine⟨_,rfl,.inr ⟨am,_,0,_,rfl,rfl,hm,cM (fG 0) rfl,?_⟩⟩;rcases Az d with⟨ds,rfl⟩|⟨ht,hn⟩
   · refine⟨_,rfl,.inl ⟨_,_,"tuple",true,rfl,rd.ty,by decide,uH,_,rfl,bf ?_⟩⟩
     obtain⟨av,xs,rfl,hx,hd⟩:=rd.dv;have hl:=hd.length;refine⟨_,rfl,av,_,rfl,.inr hx,_,rfl,ar,_,rfl,.inr har,.inl ⟨_,_,rfl,rfl,_,rfl,?_⟩⟩;have k:∀H',ai H H'->Q (.bl ((ds.length==rs.length&&ds.all (fK (-100) 100))&&ds.any vv)) H':=k;have e0:(!decide ((xs.length:Int)=((rs.map V.int).length:Int)))= !(ds.length==rs.length):=by rw[hl,bS];congr 1;rw[m6];simp;omega
     rw[e0];cases e:(ds.length==rs.length)with |false=>rw[e,jd,jd]at k;exact bF (k H (ai.refl _)) |true=>
       rw[e,jy]at k;refine bf ?_;have el:ds.length=rs.length:=fT.mp e;refine⟨_,rfl,av,rfl,⟨_,hx⟩,fun D H0 nw=>?_⟩;refine NO (xs:=xs) (bs:=ds.map (fK (-100) 100)) [] hx nw (by rw[bS,hl]) (by omega) ?_ ?_
       · intro i x b H2 Q' ex eb s2 hq
         obtain⟨d,ed,rfl⟩:=Lp eb;obtain⟨x',mV,rx⟩:=hd.get i ed;rw[ex]at mV;cases mV;exact⟨_,rfl,_,rfl,_,d,-100,100,rfl,RD.mono s2 _ rx,hq _ (ai.refl _)⟩
       · intro H2 s2 d2
         refine⟨D,_,rfl,aw.of d2,_,rfl,?_⟩;rw[all_map];cases e1:ds.all (fK (-100) 100)with |false=>rw[e1,jd]at k;exact bF (k H2 s2) |true=>
           rw[e1,jy]at k;refine bf ⟨_,rfl,av,rfl,⟨_,hx.go s2⟩,fun D2 H3 n3=>?_⟩;refine NO (xs:=xs) (bs:=ds.map vv) [] (hx.go s2) n3 (by rw[bS,hl]) (by omega) ?_ ?_
           · intro i x b H4 Q' ex eb s4 hq
             obtain⟨d,ed,rfl⟩:=Lp eb;obtain⟨x',mV,rx⟩:=hd.get i ed;rw[ex]at mV;cases mV;obtain⟨z,rfl⟩:=Zm (jc.mp e1 d (g9 ed));cases rx.int_inv;refine⟨_,rfl,.inl ⟨_,_,rfl,rfl,?_⟩⟩;show Q' (.bl (!decide (z=0))) H4;rw[XN];exact hq _ (ai.refl _)
           · intro H4 s4 d4
             refine⟨D2,_,rfl,aw.of d4,?_⟩;rw[any_map'];exact k H4 (s2.trans s4)
   · have e:pV rs.length d=false:=by cases d<;>first|rfl|exact absurd rfl (hn _)
     rw[e]at k;refine⟨_,rfl,.inl ⟨_,_,"tuple",false,rfl,rd.ty,by decide,ht,_,rfl,bF ?_⟩⟩;exact k H (ai.refl _)
theorem item_cases(n:Nat)(d:a5z):(∃wd a b,d= .tuple [wd,a,b])\/(∃wd v,d= .tuple [wd,v])\/(∃ds,d= .tuple ds/\ds.length≠3/\ds.length≠2/\qf n d=false)\/(gI (lb d) "tuple"=false/\qf n d=false):=by
 rcases Az d with⟨ds,rfl⟩|⟨ht,hn⟩
 ·match ds with |[r,a,b]=>exact .inl ⟨r,a,b,rfl⟩ |[r,a]=>exact .inr (.inl ⟨r,a,rfl⟩) |[]=>exact .inr (.inr (.inl ⟨_,rfl,by simp,by simp,by simp[qf]⟩)) |[_]=>exact .inr (.inr (.inl ⟨_,rfl,by simp,by simp,by simp[qf]⟩)) |_::_::_::_::_=>exact .inr (.inr (.inl ⟨_,rfl,by simp,by simp,by simp[qf]⟩))
 ·exact .inr (.inr (.inr ⟨ht,by cases d<;>first|rfl|exact absurd rfl (hn _)⟩))
inductive PQ(K:a5w)(vs:List V)(H:Hp)(Q:VK):Prop |mk (m:V)(v:V)(rs:List Int)(es:List a5z)(d:a5z)(h0:vs=[m,v])(h1:RD K H m ((.tuple (.tuple (rs.map PyData.int)::es))))(h2:RD K H v d)(h3:rs.length<=3)(h4:dk 8 d)(h5:B5 d=true)(h6:∀H',ai H H'->Q (.bl (qf rs.length d)) H'):PQ K vs H Q
def AV(K:a5w):Sp:=fun vs H Q _=>PQ K vs H Q
theorem Ds{ds:List a5z}(h:dk 8 (.tuple ds)){d:a5z}(hd:d∈ds):dk 8 d:=((dk.dv (n:=7) h) d hd).le (by decide)
theorem TH{ds:List a5z}(h:B5 (.tuple ds)=true){d:a5z}(hd:d∈ds):nU d=true:=jc.mp (show ds.all nU=true from h) d hd
abbrev Ce:Stmt:=top 43
theorem JA:bc ["machine","thing","word","steps","speed","value"] ["machine","thing"] (aM Ce):=bh (by decide+kernel)
theorem Xu(F:FA K mg "is_item" Ce)(B:bB mg)(a1a:GV mg "GREATEST_SPEED" (.int 20))(mM:aj P w K mg base "is_whole_within" 2 (pI K))(a0R:aj P w K mg base "are_steps" 3 (HH K))(a0m:aj P w K mg base "is_short_item" 3 (HL K)):aj P w K mg base "is_item" 4 (AV K):=by
 refine F.has JA (fun vs H Q E h=>?_) (fun _ _ _ _ _ _=>cP fun _ _=>rfl) (fun f aD A outer s H vs Q E hr h=>?_)
 · obtain⟨m,v,rs,es,d,rfl,_⟩:=h
   rfl
 · obtain⟨m,v,rs,es,d,rfl,rm,rd,l3,vt,sh,k⟩:=h
   have nd:=JA.nd;refine⟨_,(ah (bj (dX (cA (aL (x:="isinstance") (cT K rfl) rfl (B.at "isinstance") cZ (aa (pv 1) (aa (cL (x:="tuple") (v:=.ty "tuple") rfl (B.at "tuple") eU rfl) af))))) (ao (aG ie)) bE) (ah (bj (bK (cH K rfl hr.units) (aL (x:="len") (cU K rfl) rfl (B.at "len") cY (aa (pv 1) af)) ag (aX _)) (ah (fi (pv 1) (cS K rfl (n:=3) rfl (bo (aQ (i:=2) nd rfl (Or.inl rfl)) (bo (aQ (i:=3) nd rfl (Or.inl rfl)) (bo (aQ (i:=4) nd rfl (Or.inl rfl)) cR))))) (ao (aG (gm (e9 (cH K rfl hr.units) (pv 2) aU (aX _)) (gm (pf a0R hr (aa (pv 0) (aa (pv 3) af))) (gD (pf mM hr (aa (pv 4) (aa ag (aa (gj (x:="GREATEST_SPEED") rfl a1a) af)))))))))) bE) (ah (bj (bK (cH K rfl hr.units) (aL (x:="len") (cU K rfl) rfl (B.at "len") cY (aa (pv 1) af)) ag (aX _)) (ah (fi (pv 1) (cS K rfl (n:=2) rfl (bo (aQ (i:=2) nd rfl (Or.inl rfl)) (bo (aQ (i:=5) nd rfl (Or.inl rfl)) cR)))) (ao (aG (pf a0m hr (aa (pv 2) (aa (pv 5) af)))))) bE) (ao (aG ie))))),?_⟩;rcases item_cases rs.length d with⟨wd,a,b,rfl⟩|⟨wd,a,rfl⟩|⟨ds,rfl,h3,h2,hf⟩|⟨ht,hf⟩
   · refine⟨_,rfl,.inl ⟨_,_,"tuple",true,rfl,rd.ty,by decide,uH,_,rfl,bf ?_⟩⟩
     obtain⟨p,xs,rfl,hx,hd⟩:=rd.dv;obtain⟨u1,ys,rfl,r1,hd⟩:=hd.cons_inv;obtain⟨u2,ys,rfl,r2,hd⟩:=hd.cons_inv;obtain⟨u3,ys,rfl,r3,hd⟩:=hd.cons_inv;cases hd.nil_inv;have k:∀H',ai H H'->Q (.bl (gs "line" wd&&(pV rs.length a&&fK 1 20 b))) H':=k;refine⟨_,rfl,p,_,rfl,.inr hx,.inl ⟨_,_,rfl,rfl,_,rfl,bF ?_⟩⟩;refine⟨_,rfl,p,_,rfl,hx,rfl,_,_,rfl,_,_,rfl,_,_,rfl,rfl,?_⟩;refine⟨_,rfl,.inr ⟨_,_,r1,dD _,uQ (Ds vt (by simp)),by decide+kernel,_,rfl,?_⟩⟩;rw[zB];cases e1:gs "line" wd with |false=>rw[e1,jd]at k;exact bf (k H (ai.refl _)) |true=>rw[e1,jy]at k;refine bF ⟨_,rfl,_,rfl,_,_,rs,es,a,rfl,rm,r2,l3,fun H1 s1=>⟨_,rfl,?_⟩⟩;cases e2:pV rs.length a with |false=>rw[e2,jd]at k;exact bf (k H1 s1) |true=>rw[e2,jy]at k;exact bF ⟨_,rfl,_,b,1,20,rfl,RD.mono s1 _ r3,k H1 s1⟩
   · refine⟨_,rfl,.inl ⟨_,_,"tuple",true,rfl,rd.ty,by decide,uH,_,rfl,bf ?_⟩⟩
     obtain⟨p,xs,rfl,hx,hd⟩:=rd.dv;obtain⟨u1,ys,rfl,r1,hd⟩:=hd.cons_inv;obtain⟨u2,ys,rfl,r2,hd⟩:=hd.cons_inv;cases hd.nil_inv;have k:∀H',ai H H'->Q (.bl (mF wd a)) H':=k;refine⟨_,rfl,p,_,rfl,.inr hx,.inl ⟨_,_,rfl,rfl,_,rfl,bf ?_⟩⟩;refine⟨_,rfl,p,_,rfl,.inr hx,.inl ⟨_,_,rfl,rfl,_,rfl,bF ?_⟩⟩;refine⟨_,rfl,p,_,rfl,hx,rfl,_,_,rfl,_,_,rfl,rfl,?_⟩;exact⟨_,rfl,_,rfl,_,_,wd,a,rfl,r1,r2,Ds vt (by simp),Ds vt (by simp),TH sh (by simp),k⟩
   · rw[hf]at k
     refine⟨_,rfl,.inl ⟨_,_,"tuple",true,rfl,rd.ty,by decide,uH,_,rfl,bf ?_⟩⟩;obtain⟨p,xs,rfl,hx,hd⟩:=rd.dv;have hl:=hd.length;refine⟨_,rfl,p,_,rfl,.inr hx,.inl ⟨_,_,rfl,rfl,_,rfl,?_⟩⟩;rw[show decide ((xs.length:Int)=3)=false from eu (by omega)];refine bf ⟨_,rfl,p,_,rfl,.inr hx,.inl ⟨_,_,rfl,rfl,_,rfl,?_⟩⟩;rw[show decide ((xs.length:Int)=2)=false from eu (by omega)];exact bf (k H (ai.refl _))
   · rw[hf]at k
     refine⟨_,rfl,.inl ⟨_,_,"tuple",false,rfl,rd.ty,by decide,ht,_,rfl,bF ?_⟩⟩;exact k H (ai.refl _)
def E3(rs:List Int):a5z->Bool | .tuple es=>es.length==rs.length&&((es.zip rs).map fun p=>fK 0 p.2 p.1).all id |_=>false
inductive PU(K:a5w)(vs:List V)(H:Hp)(Q:VK):Prop |mk (m:V)(v:V)(rs:List Int)(ds:List a5z)(d:a5z)(h0:vs=[m,v])(h1:RD K H m (.tuple (.tuple (rs.map PyData.int)::ds)))(h2:RD K H v d)(h3:rs.length<=3)(h4:∀H',ai H H'->Q (.bl (E3 rs d)) H'):PU K vs H Q
def AW(K:a5w):Sp:=fun vs H Q _=>PU K vs H Q
theorem zip_get{es:List a5z}{rs:List Int}{i:Nat}{b:Bool}(h:((es.zip rs).map fun p=>fK 0 p.2 p.1)[i]? =some b):∃e r,es[i]? =some e/\rs[i]? =some r/\fK 0 r e=b:=by rw[bU]at h;cases q:(es.zip rs)[i]? with |none=>rw[q]at h;cases h |some p=>rw[q]at h;obtain⟨e1,e2⟩:=uy.mp q;exact⟨p.1,p.2,e1,e2,eG h⟩
theorem ints_get{rs:List Int}{i:Nat}{r:Int}(h:rs[i]? =some r):(rs.map V.int)[i]? =some (.int r):=by rw[bU,h];rfl
abbrev Cc:Stmt:=top 35
theorem Jy:bc ["machine","thing","rails"] ["machine","thing"] (aM Cc):=bh (by decide+kernel)
theorem Xs(F:FA K mg "is_place" Cc)(B:bB mg)(mM:aj P w K mg base "is_whole_within" 2 (pI K)):aj P w K mg base "is_place" 3 (AW K):=by
 refine F.has Jy (fun vs H Q E h=>?_) (fun _ _ _ _ _ _=>cP fun _ _=>rfl) (fun f aD A outer s H vs Q E hr h=>?_)
 · obtain⟨m,v,rs,ds,d,rfl,_⟩:=h
   rfl
 · obtain⟨m,v,rs,ds,d,rfl,rm,rd,l3,k⟩:=h
   have nd:=Jy.nd;refine⟨_,(ah (aH (i:=2) nd rfl (Or.inl rfl) (aJ (aK K rfl) (pv 0) ag (fun _ _=>rfl))) (ah (bj (PW.pt (kn (dX (cA (aL (x:="isinstance") (cT K rfl) rfl (B.at "isinstance") cZ (aa (pv 1) (aa (cL (x:="tuple") (v:=.ty "tuple") rfl (B.at "tuple") eU rfl) af))))) (kl (bK (jj K rfl hr.units) (aL (x:="len") (cU K rfl) rfl (B.at "len") cY (aa (pv 1) af)) (aL (x:="len") (cU K rfl) rfl (B.at "len") cY (aa (pv 2) af)) (aX _))))) (ao (aG ie)) bE) (ao (aG (aL (x:="all") (nc K rfl rfl) rfl (B.at "all") oW (aa (ft (N:=["number","rail"]) (js:=[none,none]) rfl rfl rfl (hW K rfl false false rfl (B.at "zip") (aa (pv 1) (aa (pv 2) af))) (fun _ _ _ _ _=>(cS K rfl (n:=2) rfl (bo (aQ (i:=0) (show List.Nodup (["number","rail"]:List Str) by decide+kernel) rfl (Or.inl rfl)) (bo (aQ (i:=1) (show List.Nodup (["number","rail"]:List Str) by decide+kernel) rfl (Or.inl rfl)) cR)))) (fun _ _ _ _ _=>eL) (fun _ _ _ _ _=>(pf mM hr (aa (pv 0) (aa ag (aa (pv 1) af)))))) af)))))),?_⟩;obtain⟨am,xm,rfl,hm,hdm⟩:=rm.dv;obtain⟨yr,ym,rfl,r1,a55⟩:=hdm.cons_inv;obtain⟨ar,xr,rfl,zj,hdr⟩:=r1.dv;cases hdr.gT;refine⟨_,rfl,.inr ⟨am,_,0,_,rfl,rfl,hm,cM (fG 0) rfl,?_⟩⟩;rcases Az d with⟨es,rfl⟩|⟨ht,hn⟩
   · refine⟨_,rfl,.inl ⟨_,_,"tuple",true,rfl,rd.ty,by decide,uH,_,rfl,bf ?_⟩⟩
     obtain⟨av,xs,rfl,hx,hd⟩:=rd.dv;have hl:=hd.length;refine⟨_,rfl,av,_,rfl,.inr hx,_,rfl,ar,_,rfl,.inr zj,.inl ⟨_,_,rfl,rfl,_,rfl,?_⟩⟩;have k:∀H',ai H H'->Q (.bl (es.length==rs.length&&((es.zip rs).map fun p=>fK 0 p.2 p.1).all id)) H':=k;have e0:(decide ((xs.length:Int)=((rs.map V.int).length:Int)))=(es.length==rs.length):=by rw[hl,bS,m6];simp;omega
     rw[e0];cases e:(es.length==rs.length)with |false=>rw[e,jd]at k;exact bF (k H (ai.refl _)) |true=>
       rw[e,jy]at k;refine bf ?_;have el:es.length=rs.length:=fT.mp e;refine⟨_,rfl,_,rfl,av,ar,rfl,⟨_,hx⟩,⟨_,zj⟩,fun D H0 nw=>?_⟩;refine NN (b1:=false) (b2:=false) (xs:=xs) (ys:=rs.map V.int) (bs:=(es.zip rs).map fun p=>fK 0 p.2 p.1) [] rfl hx zj nw (by rw[bS,bS,List.length_zip,hl]) (by rw[bS,List.length_zip];omega) ?_ ?_
       · intro i x y b H2 Q' ex ey eb s2 hq
         obtain⟨e',r,ee,er,rfl⟩:=zip_get eb;obtain⟨x',mV,rx⟩:=hd.get i ee;rw[ex]at mV;cases mV;rw[ints_get er]at ey;cases ey;exact⟨_,rfl,_,rfl,_,e',0,r,rfl,RD.mono s2 _ rx,hq _ (ai.refl _)⟩
       · intro H2 s2 d2
         exact⟨D,_,rfl,aw.of d2,k H2 s2⟩
   · have e:E3 rs d=false:=by cases d<;>first|rfl|exact absurd rfl (hn _)
     rw[e]at k;refine⟨_,rfl,.inl ⟨_,_,"tuple",false,rfl,rd.ty,by decide,ht,_,rfl,bF ?_⟩⟩;exact k H (ai.refl _)
inductive PD(K:a5w)(vs:List V)(H:Hp)(Q:VK):Prop |mk (pw:_)(b:_)(pl:_)(ns:_)(h0:vs=[pw,.ref b])(h1:RD K H pw (fj pl))(h2:aB K H b (ns.map V.int))(h3:ns.length=pl.length)(h4:pl.length<=1000)(h5:∀v' H',RD K H' v' (fj (dS pl ns))->ai H H'->Q v' H'):PD K vs H Q
def y6(K:a5w):Sp:=fun vs H Q _=>PD K vs H Q
abbrev BV:Stmt:=top 46
theorem Jh:bc ["place","steps"] ["place","steps"] (aM BV):=bh (by decide+kernel)
theorem Xb(F:FA K mg "moved" BV)(B:bB mg):aj P w K mg base "moved" 1 (y6 K):=by
 refine F.has Jh (fun vs H Q E h=>?_) (fun _ _ _ _ _ _=>cP fun _ _=>rfl) (fun f aD A outer s H vs Q E hr h=>?_)
 · obtain⟨pw,b,pl,ns,rfl,_⟩:=h
   rfl
 · obtain⟨pw,b,pl,ns,rfl,rp,hb,ln,hz,k⟩:=h
   have nd:=Jh.nd;refine⟨_,(ao (aG (gk (x:="tuple") (jB K rfl) rfl (B.at "tuple") eU (aa (ft (N:=["number","step"]) (js:=[none,none]) rfl rfl rfl (hW K rfl false false rfl (B.at "zip") (aa (pv 0) (aa (pv 1) af))) (fun _ _ _ _ _=>(cS K rfl (n:=2) rfl (bo (aQ (i:=0) (show List.Nodup (["number","step"]:List Str) by decide+kernel) rfl (Or.inl rfl)) (bo (aQ (i:=1) (show List.Nodup (["number","step"]:List Str) by decide+kernel) rfl (Or.inl rfl)) cR)))) (fun _ _ _ _ _=>eL) (fun _ _ _ _ _=>(au cF (pv 0) (pv 1)))) af)))),?_⟩;obtain⟨pa,rfl,hp⟩:=o5 rp;refine⟨_,rfl,_,rfl,pa,b,rfl,⟨_,hp⟩,⟨_,hb⟩,fun D H1 n1=>?_⟩;refine qO (K:=K) (b1:=false) (b2:=false) (xs:=pl.map V.int) (ys:=ns.map V.int) (ds:=(dS pl ns).map PyData.int) [] rfl hp hb n1 (by simp[ng ln,ln]) (by rw[bS,ng ln];exact hz) (jG _) ?_ ?_
   · intro i x y d H2 Q' ex ey ed s2 hq
     obtain⟨m,em,rfl⟩:=kH ed;rw[bU]at ex ey;cases e1:pl[i]? with |none=>rw[e1]at ex;cases ex |some u=>cases e2:ns[i]? with |none=>rw[e2]at ey;cases ey |some v=>rw[e1]at ex;rw[e2]at ey;cases ex;cases ey;rw[FI e1 e2]at em;cases em;exact⟨_,rfl,_,rfl,_,_,rfl,rfl,hq _ _ (ai.refl _) (dG _)⟩
   · intro H2 zs s2 d2 r2
     refine⟨D,_,rfl,.inl ⟨aw.of d2,fun t H3 n3=>?_⟩⟩;have et:=n3.at';rw[r2.gT]at et;exact k (.ref t) H3 (rZ (aB.of et)) (s2.trans n3.same)
inductive Q7(K:a5w)(vs:List V)(H:Hp)(Q:VK):Prop |mk (pw:_)(iv:_)(pl:_)(d:_)(o:_)(h0:vs=[pw,iv])(h1:RD K H pw (fj pl))(h2:RD K H iv d)(h3:itR d o)(h4:(∀ns sp,o=some (ns,sp)->ns.length=pl.length))(h5:pl.length<=1000)(h6:∀v' H',RD K H' v' (fj (gF pl o))->ai H H'->Q v' H'):Q7 K vs H Q
def uN(K:a5w):Sp:=fun vs H Q _=>Q7 K vs H Q
abbrev Cr:Stmt:=top 45
theorem JK:bc ["place","item"] ["place","item"] (aM Cr):=bh (by decide+kernel)
theorem XE(F:FA K mg "place_behind" Cr)(B:bB mg)(om:aj P w K mg base "is_line" 1 (rL K))(Ei:aj P w K mg base "moved" 1 (y6 K)):aj P w K mg base "place_behind" 2 (uN K):=by
 refine F.has JK (fun vs H Q E h=>?_) (fun _ _ _ _ _ _=>cP fun _ _=>rfl) (fun f aD A outer s H vs Q E hr h=>?_)
 · obtain⟨pw,iv,pl,d,o,rfl,_⟩:=h
   rfl
 · obtain⟨pw,iv,pl,d,o,rfl,rp,ri,it,hl,hz,k⟩:=h
   have nd:=JK.nd;refine⟨_,(ao (aG (Kv (cA (pf om hr (aa (pv 1) af))) (pf Ei hr (aa (pv 0) (aa (aJ (aK K rfl) (pv 1) ag (fun _ _=>rfl)) af))) (pv 0)))),?_⟩;refine⟨_,rfl,iv,d,o,rfl,ri,it,_,rfl,?_⟩;cases o with |some q=>obtain⟨ns,sp⟩:=q;refine bF ?_;have ed:=jL it;subst ed;obtain⟨a,b,rfl,ha,hb⟩:=jo ri;exact⟨_,rfl,_,rfl,.inr ⟨a,_,1,.ref b,rfl,rfl,ha,rfl,pw,b,pl,ns,rfl,rp,hb,hl ns sp rfl,hz,fun v' H' r s=>k v' H' r s⟩⟩ |none=>refine bf ?_;exact⟨_,rfl,k pw H rp (ai.refl _)⟩
open Rn
def fq(m b d q p r s k t:V):List (Str×V):=[("machine",m),("begun_at",b),("done",d),("queue",q),("pace",p),("rate_now",r),("side",s),("mark",k),("stopping",t)]
structure fM(K:a5w)(C:Addr):Prop where
 cl:jt K C
 n_machine:iy K C "machine"
 n_begun_at:iy K C "begun_at"
 n_done:iy K C "done"
 n_queue:iy K C "queue"
 n_pace:iy K C "pace"
 n_rate_now:iy K C "rate_now"
 n_side:iy K C "side"
 n_mark:iy K C "mark"
 n_stopping:iy K C "stopping"
structure bw where
 rs:List Int
 r:Int
 f:Int
 j:Int
 t:Int
abbrev bw.D(M:bw):a5z:=gQ M.rs M.r M.f M.j M.t
abbrev bw.Ok(M:bw):Prop:=lZ M.rs M.r M.f M.j M.t
structure aZ where
 pl:List Int
 dn:Nat
 ds:List a5z
 os:List Itm
 pc:Rat
 rate:Int
 side:Str
 mark:Str
 stp:Rn.fD
def uf(K:a5w)(H:Hp)(v:V):Rn.fD->Prop |none=>v= .aW |some (sq,st,gn)=>∃a u,v= .ref a/\aB K H a [u,.int st,.int gn]/\aR K H u sq
structure bQ(M:bw)(D:Nat)(S:aZ):Prop where
 row:fR M.rs.length S.ds S.os
 rw:RowW S.ds S.os
 len:S.ds.length<=20
 rt1:10<=S.rate
 rt2:S.rate<=200
 dn:S.dn=0\/∃ns sp,S.os[0]? =some (some (ns,sp))/\S.dn<ak ns
 pl:S.pl.length=M.rs.length
 pd:Dd (D+10) S.pc
 pm:S.pc<=1600
 stp:oM D S.pc S.stp
 D1:64<=D
 D2:D<=1500
structure cn(K:a5w)(C:Addr)(H:Hp)(a q:Addr)(M:bw)(S:aZ):Prop where
 ob:∃dx mv bv bV tv,H a=some (.ins C dx (fq mv bv (.int S.dn) (.ref q) bV (.int S.rate) (.str S.side) (.str S.mark) tv))/\RD K H mv M.D/\RD K H bv (fj S.pl)/\aR K H bV S.pc/\uf K H tv S.stp
 qu:∃ys,H q=some (.lst ys)/\ay K H ys S.ds
theorem aR.v{H H':Hp}{v:V}{q:Rat}(s:bG H H')(h:aR K H v q):aR K H' v q:=by obtain⟨p,rfl,hp⟩:=h;exact⟨p,rfl,aB.v s hp⟩
theorem uf.v{H H':Hp}{v:V}{t:Rn.fD}(s:bG H H')(h:uf K H v t):uf K H' v t:=by cases t with |none=>exact h |some q=>obtain⟨sq,st,gn⟩:=q;obtain⟨a,u,rfl,h1,h2⟩:=h;exact⟨a,u,rfl,aB.v s h1,aR.v s h2⟩
theorem cn.go{C:Addr}{H H':Hp}{a q:Addr}{M:bw}{S:aZ}(h:cn K C H a q M S)(hn:cm S.ds=true)(s:bG H H')(ea:∀o,H a=some o->H' a=some o)(eq:∀o,H q=some o->H' q=some o):cn K C H' a q M S:=by obtain⟨⟨dx,mv,bv,bV,tv,e,r1,r2,r3,r4⟩,ys,jV,rq⟩:=h;exact⟨⟨dx,mv,bv,bV,tv,ea _ e,RD.v s _ (gP _ _ _ _ _) r1,RD.v s _ (gh _) r2,r3.v s,r4.v s⟩,ys,eq _ jV,ay.v s _ hn rq⟩
theorem cn.same{C:Addr}{H H':Hp}{a q:Addr}{M:bw}{S:aZ}(h:cn K C H a q M S)(hn:cm S.ds=true)(s:ai H H'):cn K C H' a q M S:=h.go hn s.v (fun o e=>s _ _ e) (fun o e=>s _ _ e)
theorem cn.ne{C:Addr}{H:Hp}{a q:Addr}{M:bw}{S:aZ}(h:cn K C H a q M S):a≠q:=by obtain⟨⟨dx,mv,bv,bV,tv,e,_⟩,ys,jV,_⟩:=h;exact vI e jV (by intro z;cases z)
theorem cn.v{C:Addr}{H H':Hp}{a q:Addr}{M:bw}{S:aZ}(h:cn K C H a q M S)(b:bI [a,q] H H'):bG H H':=by
 obtain⟨⟨dx,mv,bv,bV,tv,e,_⟩,ys,jV,_⟩:=h;refine b.v fun x hx o eo=>?_;simp only[bW,da,dB]at hx;rcases hx with rfl|rfl
 ·rw[e]at eo;cases eo;trivial
 ·rw[jV]at eo;cases eo;trivial
inductive OV(K:a5w)(C:Addr)(G:bw->aZ->Hp->VK->Prop)(vs:List V)(H:Hp)(Q:VK):Prop |mk (a:_)(q:_)(M:_)(D:_)(S:_)(h0:vs=[.ref a])(h1:cn K C H a q M S)(h2:bQ M D S)(h3:M.Ok)(h4:G M S H Q):OV K C G vs H Q
def fO(K:a5w)(C:Addr)(G:bw->aZ->Hp->VK->Prop):Sp:=fun vs H Q _=>OV K C G vs H Q
abbrev Bz:Stmt:=inClass (top 61) 3
theorem TV:bc ["self"] ["self"] (aM Bz):=bh (by decide+kernel)
def MT(K:a5w):bw->aZ->Hp->VK->Prop:=fun _ S H Q=>∀v,aR K H v S.pc->Q v H
theorem WK{C:Addr}(F:MA K C "square" "Runner.square" Bz)(TC:fM K C):cI P w K mg base C "square" 1 (fO K C (MT K)):=by
 refine F.has TV (fun vs H Q E h=>?_) (fun _ _ _ _ _ _=>dR fun _=>rfl) (fun f aD A outer s H vs Q E hr h=>?_)
 · obtain⟨a,q,M,D,S,rfl,_⟩:=h
   rfl
 · obtain⟨a,q,M,D,S,rfl,R,ok,aE,k⟩:=h
   obtain⟨dx,mv,bv,bV,tv,e,r1,r2,r3,r4⟩:=R.ob;exact⟨_,(ao (aG (cE TC.cl TC.n_pace (pv 0)))),_,rfl,a,dx,_,_,rfl,e,rfl,k bV r3⟩
abbrev BD:Stmt:=inClass (top 61) 4
theorem TY:bc ["self"] ["self"] (aM BD):=bh (by decide+kernel)
theorem WO{C:Addr}(F:MA K C "rate" "Runner.rate" BD)(TC:fM K C):cI P w K mg base C "rate" 1 (fO K C fun _ S H Q=>Q (.int S.rate) H):=by
 refine F.has TY (fun vs H Q E h=>?_) (fun _ _ _ _ _ _=>dR fun _=>rfl) (fun f aD A outer s H vs Q E hr h=>?_)
 · obtain⟨a,q,M,D,S,rfl,_⟩:=h
   rfl
 · obtain⟨a,q,M,D,S,rfl,R,ok,aE,k⟩:=h
   obtain⟨dx,mv,bv,bV,tv,e,r1,r2,r3,r4⟩:=R.ob;exact⟨_,(ao (aG (cE TC.cl TC.n_rate_now (pv 0)))),_,rfl,a,dx,_,_,rfl,e,rfl,k⟩
abbrev Bx:Stmt:=inClass (top 61) 5
theorem TU:bc ["self"] ["self"] (aM Bx):=bh (by decide+kernel)
theorem WJ{C:Addr}(F:MA K C "tool" "Runner.tool" Bx)(TC:fM K C):cI P w K mg base C "tool" 1 (fO K C fun _ S H Q=>Q (.str S.side) H):=by
 refine F.has TU (fun vs H Q E h=>?_) (fun _ _ _ _ _ _=>dR fun _=>rfl) (fun f aD A outer s H vs Q E hr h=>?_)
 · obtain⟨a,q,M,D,S,rfl,_⟩:=h
   rfl
 · obtain⟨a,q,M,D,S,rfl,R,ok,aE,k⟩:=h
   obtain⟨dx,mv,bv,bV,tv,e,r1,r2,r3,r4⟩:=R.ob;exact⟨_,(ao (aG (cE TC.cl TC.n_side (pv 0)))),_,rfl,a,dx,_,_,rfl,e,rfl,k⟩
abbrev Bw:Stmt:=inClass (top 61) 7
theorem TR:bc ["self"] ["self"] (aM Bw):=bh (by decide+kernel)
theorem WI{C:Addr}(F:MA K C "waiting" "Runner.waiting" Bw)(TC:fM K C)(B:bB mg):cI P w K mg base C "waiting" 1 (fO K C fun _ S H Q=>∀l ys H',H l=none->H' l=some (.lst ys)->ay K H' ys S.ds->ai H H'->Q (.ref l) H'):=by
 refine F.has TR (fun vs H Q E h=>?_) (fun _ _ _ _ _ _=>dR fun _=>rfl) (fun f aD A outer s H vs Q E hr h=>?_)
 · obtain⟨a,q,M,D,S,rfl,_⟩:=h
   rfl
 · obtain⟨a,q,M,D,S,rfl,R,ok,aE,k⟩:=h
   obtain⟨dx,mv,bv,bV,tv,e,r1,r2,r3,r4⟩:=R.ob;obtain⟨ys,eq,rq⟩:=R.qu;refine⟨_,(ao (aG (gk (x:="list") (DQ K rfl) rfl (B.at "list") jv (aa (cE TC.cl TC.n_queue (pv 0)) af)))),_,rfl,a,dx,_,_,rfl,e,rfl,q,ys,rfl,.inl (aw.of eq),fun l H1 n1=>?_⟩;exact k l ys H1 n1.no n1.at' (ay.mono n1.same _ rq) n1.same
abbrev BK:Stmt:=inClass (top 61) 8
theorem U6:bc ["self"] ["self"] (aM BK):=bh (by decide+kernel)
theorem WX{C:Addr}(F:MA K C "is_held" "Runner.is_held" BK)(TC:fM K C):cI P w K mg base C "is_held" 1 (fO K C fun _ S H Q=>Q (.bl S.stp.isSome) H):=by
 refine F.has U6 (fun vs H Q E h=>?_) (fun _ _ _ _ _ _=>dR fun _=>rfl) (fun f aD A outer s H vs Q E hr h=>?_)
 · obtain⟨a,q,M,D,S,rfl,_⟩:=h
   rfl
 · obtain⟨a,q,M,D,S,rfl,R,ok,aE,k⟩:=h
   obtain⟨dx,mv,bv,bV,tv,e,r1,r2,r3,r4⟩:=R.ob;refine⟨_,(ao (aG (e9 vo (cE TC.cl TC.n_stopping (pv 0)) iD (aX _)))),_,rfl,a,dx,_,_,rfl,e,rfl,?_⟩;cases hs:S.stp with |none=>rw[hs]at r4 k;cases(show tv= .aW from r4);exact⟨rfl,k⟩ |some z=>rw[hs]at r4 k;obtain⟨sq,st,gn⟩:=z;obtain⟨b,u,rfl,_⟩:=r4;exact⟨rfl,k⟩
theorem UX(q:Rat):PyData.eqv (cD q) (cD 0)=decide (q=0):=by
 by_cases h:q=0
 ·rw[cw h];exact eqR h
 · rw[eu h]
   cases e:PyData.eqv (cD q) (cD 0)with |false=>rfl |true=>
     exfalso;apply h;have e':(PyData.eqv (.int q.num) (.int (0:Rat).num)&&(PyData.eqv (.int (q.den:Int)) (.int ((0:Rat).den:Int))&&true))=true:=e;rw[Bool.and_true,fh]at e';obtain⟨a,b⟩:=e';have h1:q.num=(0:Rat).num:=by simpa[PyData.eqv]using a
     have h2:(q.den:Int)=((0:Rat).den:Int):=by simpa[PyData.eqv]using b
     exact Rat.ext h1 (by omega)
abbrev BC:Stmt:=inClass (top 61) 9
theorem TX:bc ["self"] ["self"] (aM BC):=bh (by decide+kernel)
theorem WN{C:Addr}(F:MA K C "stands" "Runner.stands" BC)(TC:fM K C)(gN:GT K mg "NOUGHT" [.int 0,.int 1]):cI P w K mg base C "stands" 1 (fO K C fun _ S H Q=>Q (.bl (decide (S.pc=0))) H):=by
 obtain⟨aN,jR,lg⟩:=gN;refine F.has TX (fun vs H Q E h=>?_) (fun _ _ _ _ _ _=>dR fun _=>rfl) (fun f aD A outer s H vs Q E hr h=>?_)
 · obtain⟨a,q,M,D,S,rfl,_⟩:=h
   rfl
 · obtain⟨a,q,M,D,S,rfl,R,ok,aE,k⟩:=h
   obtain⟨dx,mv,bv,bV,tv,e,r1,r2,r3,r4⟩:=R.ob;refine⟨_,(ao (aG (e9 (cH K rfl hr.units) (cE TC.cl TC.n_pace (pv 0)) (gj (x:="NOUGHT") rfl jR) (aX _)))),_,rfl,a,dx,_,_,rfl,e,rfl,.inr ⟨_,_,r3.rd,(sL (lg H)).rd,rfl,rfl,?_⟩⟩;rw[UX];exact k
abbrev BJ:Stmt:=inClass (top 61) 10
theorem U5:bc ["self"] ["self"] (aM BJ):=bh (by decide+kernel)
theorem WW{C:Addr}(F:MA K C "is_halted" "Runner.is_halted" BJ)(TC:fM K C)(qC:cI P w K mg base C "is_held" 1 (fO K C fun _ S H Q=>Q (.bl S.stp.isSome) H))(a1h:cI P w K mg base C "stands" 1 (fO K C fun _ S H Q=>Q (.bl (decide (S.pc=0))) H)):cI P w K mg base C "is_halted" 2 (fO K C fun _ S H Q=>Q (.bl (S.stp.isSome&&decide (S.pc=0))) H):=by
 refine F.has U5 (fun vs H Q E h=>?_) (fun _ _ _ _ _ _=>dR fun _=>rfl) (fun f aD A outer s H vs Q E hr h=>?_)
 · obtain⟨a,q,M,D,S,rfl,_⟩:=h
   rfl
 · obtain⟨a,q,M,D,S,rfl,R,ok,aE,k⟩:=h
   obtain⟨dx,mv,bv,bV,tv,e,r1,r2,r3,r4⟩:=R.ob;refine⟨_,(ao (aG (gm (iE qC TC.cl (hr.mono (by decide)) (pv 0)) (gD (iE a1h TC.cl (hr.mono (by decide)) (pv 0)))))),_,rfl,a,dx,_,rfl,e,rfl,a,q,M,D,S,rfl,R,ok,aE,_,rfl,?_⟩;cases hs:S.stp.isSome with |false=>rw[hs]at k;exact bf k |true=>rw[hs]at k;refine bF ⟨_,rfl,a,dx,_,rfl,e,rfl,a,q,M,D,S,rfl,R,ok,aE,?_⟩;exact k
structure uj(n:Nat)(d:a5z)(o:Itm):Prop where
 it:itR d o
 ln:∀ns sp,o=some (ns,sp)->dN n 100 ns/\1<=sp/\sp<=20
 ot:o=none->xb d
theorem Yd{z:Str}(h:DD z=true):isNm (.str z)=true:=h
theorem a3O:∀{ns:List Int},(∃z∈ns,z≠0)->(ns.map PyData.int).any vv=true:=fun{ns} ⟨z,hz,h⟩=>List.any_eq_true.mpr ⟨.int z,kb.mpr ⟨z,hz,rfl⟩,by show(z !=0)=true;simpa using h⟩
theorem a3S{ns:List Int}(h:∀z∈ns,(z.natAbs:Int)<=100):(ns.map PyData.int).all (fK (-100) 100)=true:=by rw[jc];intro d hd;obtain⟨z,hz,rfl⟩:=kb.mp hd;have:=h z hz;show(decide (-100<=z)&&decide (z<=100))=true;rw[cw (by omega),cw (by omega)];rfl
theorem uj.is{n:Nat}{d:a5z}{o:Itm}(h:uj n d o):qf n d=true/\dk 8 d/\B5 d=true:=by cases o with
 |some q=>
   obtain⟨ns,sp⟩:=q;have ed:=jL h.it;subst ed;obtain⟨dJ,s1,s2⟩:=h.ln ns sp rfl;refine⟨?_,?_,rfl⟩
   · show(gs "line" (.str "line")&&(pV n (.tuple (ns.map PyData.int))&&fK 1 20 (.int sp)))=true
     have e1:gs "line" (.str "line")=true:=by decide+kernel
     have e2:pV n (.tuple (ns.map PyData.int))=true:=by show(((ns.map PyData.int).length==n&&(ns.map PyData.int).all (fK (-100) 100))&&(ns.map PyData.int).any vv)=true;rw[a3S dJ.bd,a3O dJ.nz,bS,dJ.len,QO];rfl
     have e3:fK 1 20 (.int sp)=true:=by show(decide (1<=sp)&&decide (sp<=20))=true;rw[cw s1,cw s2];rfl
     rw[e1,e2,e3];rfl
   · refine(fS.tup (n:=1) (.cons ⟨by decide+kernel,fV _⟩ (.cons (fS.tup (n:=0) fun d hd=>?_) (.cons (.int _) .nil)))).le (by decide)
     obtain⟨a,_,rfl⟩:=kb.mp hd;exact .int _ |none=>
   rcases h.ot rfl with⟨z,rfl,z1,z2⟩|⟨w,s,rfl,hw,sx,on⟩
   · refine⟨?_,(fS.tup (n:=0) (.cons ⟨by decide+kernel,fV _⟩ (.cons (.int _) .nil))).le (by decide),rfl⟩
     show mF (.str "wait") (.int z)=true;unfold mF;rw[aP (by decide+kernel)];show(decide (1<=z)&&decide (z<=1000))=true;rw[cw z1,cw z2];rfl
   · have YT:nU (.str s)=true:=by
       refine cw ?_;rcases on with⟨_,rfl|rfl⟩|⟨_,hn⟩
       ·decide+kernel
       ·decide+kernel
       · unfold DD at hn
         simp only[fh,G3]at hn;omega
     refine⟨?_,(fS.tup (n:=0) (.cons ?_ (.cons sx .nil))).le (by decide),?_⟩
     · rcases on with⟨rfl,hs⟩|⟨rfl,hn⟩
       · show mF (.str "tool") (.str s)=true
         unfold mF;rw[aV (by decide+kernel),aP (by decide+kernel)];rcases hs with rfl|rfl<;>decide+kernel
       · show mF (.str "mark") (.str s)=true
         unfold mF;rw[aV (by decide+kernel),aV (by decide+kernel)];rw[Yd hn];decide+kernel
     ·rcases hw with rfl|rfl<;>exact⟨by decide+kernel,fV _⟩
     · show([.str w,.str s]:List a5z).all nU=true
       rw[List.all_cons,List.all_cons,List.all_nil,YT];rcases hw with rfl|rfl<;>decide+kernel
def gB(ns:List Int)(k:Int):List Int:=ns.map fun z=>gr (k*z) (ak ns)
def dZ(S:aZ):List Int:=if S.dn=0 then S.pl else match S.os[0]? with |some (some (ns,_))=>dS S.pl (gB ns S.dn) |_=>S.pl
def cG(S:aZ):List Int:=S.os.foldl gF S.pl
theorem Fv{n:Nat}{pl:List Int}{o:Itm}(h:pl.length=n)(ho:∀ns sp,o=some (ns,sp)->ns.length=n):(gF pl o).length=n:=by cases o with |none=>exact h |some q=>obtain⟨ns,sp⟩:=q;show(dS pl ns).length=n;rw[ng (by rw[ho ns sp rfl,h])];exact h
theorem zx{n:Nat}:∀(os:List Itm)(pl:List Int),pl.length=n->(∀o∈os,∀ns sp,o=some (ns,sp)->ns.length=n)->(os.foldl gF pl).length=n |[],pl,h,_=>h |o::os,pl,h,ho=>zx os (gF pl o) (Fv h (ho o (.head _))) fun x hx=>ho x (.tail _ hx)
theorem bQ.sx{M:bw}{D:Nat}{S:aZ}(h:bQ M D S):∀o∈S.os,∀ns sp,o=some (ns,sp)->ns.length=M.rs.length:=fun o ho ns sp e=>by obtain⟨i,hi⟩:=uw.mp ho;rw[e]at hi;exact(h.row.ok i ns sp hi).1.len
theorem bQ.first{M:bw}{D:Nat}{S:aZ}(h:bQ M D S)(hn:S.dn≠0):∃ns sp,S.os[0]? =some (some (ns,sp))/\S.dn<ak ns:=by
 rcases h.dn with e|e
 ·exact(hn e).elim
 ·exact e
abbrev BE:Stmt:=inClass (top 61) 1
theorem TZ:bc ["self"] ["self"] (aM BE):=bh (by decide+kernel)
theorem WQ{C:Addr}(F:MA K C "place" "Runner.place" BE)(TC:fM K C)(Ei:aj P w K mg base "moved" 1 (y6 K))(zh:aj P w K mg base "stand_at" 2 (xZ K)):cI P w K mg base C "place" 3 (fO K C fun _ S H Q=>∀v H',RD K H' v (fj (dZ S))->ai H H'->Q v H'):=by
 refine F.has TZ (fun vs H Q E h=>?_) (fun _ _ _ _ _ _=>dR fun _=>rfl) (fun f aD A outer s H vs Q E hr h=>?_)
 · obtain⟨a,q,M,D,S,rfl,_⟩:=h
   rfl
 · obtain⟨a,q,M,D,S,rfl,R,ok,aE,k⟩:=h
   obtain⟨dx,mv,bv,bV,tv,e,r1,r2,r3,r4⟩:=R.ob;obtain⟨ys,eq,rq⟩:=R.qu;refine⟨_,(ah (bj (bK (cH K rfl hr.units) (cE TC.cl TC.n_done (pv 0)) ag (aX _)) (ao (aG (cE TC.cl TC.n_begun_at (pv 0)))) bE) (ao (aG (pf Ei hr (aa (cE TC.cl TC.n_begun_at (pv 0)) (aa (pf zh hr (aa (aJ (aK K rfl) (cE TC.cl TC.n_queue (pv 0)) ag (fun _ _=>rfl)) (aa (cE TC.cl TC.n_done (pv 0)) af))) af)))))),_,rfl,a,dx,_,_,rfl,e,rfl,.inl ⟨_,_,rfl,rfl,_,rfl,?_⟩⟩;by_cases h0:S.dn=0
   · rw[cw (by omega)]
     have ep:dZ S=S.pl:=by unfold dZ;rw[aP h0]
     rw[ep]at k;exact bF ⟨_,rfl,a,dx,_,_,rfl,e,rfl,k bv H r2 (ai.refl _)⟩
   · rw[eu (by omega)]
     refine bf ?_;obtain⟨ns,sp,eo,hd⟩:=ok.first h0;obtain⟨dJ,gd,gL⟩:=ok.row.ok 0 ns sp eo;have ep:dZ S=dS S.pl (gB ns S.dn):=by unfold dZ;rw[aV h0,eo]
     rw[ep]at k;have ll:=ok.row.len;have mK:0<S.os.length:=(dC.mp eo).1;obtain⟨d,ed⟩:∃d,S.ds[0]? =some d:=⟨_,bO (show 0<S.ds.length by omega)⟩;obtain⟨y,ey,ry⟩:=rq.get 0 ed;have it:=ok.row.it 0 d _ ed eo;have jW:=jL it;subst jW;have LM:=vV dJ;have lr:=aE.len;refine⟨_,rfl,a,dx,_,_,rfl,e,rfl,?_⟩;refine⟨_,rfl,a,dx,_,_,rfl,e,rfl,.inl ⟨q,_,0,y,rfl,rfl,aw.of eq,cM (fG 0) ey,?_⟩⟩;refine⟨_,rfl,a,dx,_,_,rfl,e,rfl,y,ns,sp,_,rfl,ry,⟨rfl,fun z hz=>by have:=dJ.bd z hz;omega,dJ.nz⟩,by rw[dJ.len];omega,by omega,fun u H1 ru s1=>?_⟩;obtain⟨b,xs,rfl,hb,hx⟩:=ru.dv;rw[hx.gT]at hb;exact⟨bv,b,S.pl,_,rfl,RD.mono s1 _ r2,hb,by rw[bS,dJ.len,ok.pl],by rw[ok.pl];omega,fun v H2 rv s2=>k v H2 rv (s1.trans s2)⟩
abbrev BG:Stmt:=inClass (top 61) 2
theorem J6:bc ["self","here","item"] ["self"] (aM BG):=bh (by decide+kernel)
theorem WT{C:Addr}(F:MA K C "leads_to" "Runner.leads_to" BG)(TC:fM K C)(wm:aj P w K mg base "place_behind" 2 (uN K)):cI P w K mg base C "leads_to" 3 (fO K C fun _ S H Q=>∀v H',RD K H' v (fj (cG S))->ai H H'->Q v H'):=by
 refine F.has J6 (fun vs H Q E h=>?_) (fun _ _ _ _ _ _=>dR fun _=>rfl) (fun f aD A outer s H vs Q E hr h=>?_)
 · obtain⟨a,q,M,D,S,rfl,_⟩:=h
   rfl
 · obtain⟨a,q,M,D,S,rfl,R,ok,aE,k⟩:=h
   obtain⟨dx,mv,bv,bV,tv,e,r1,r2,r3,r4⟩:=R.ob;obtain⟨ys,eq,rq⟩:=R.qu;have nd:=J6.nd;have ll:=ok.row.len;have ly:=rq.length;have lr:=aE.len;refine⟨_,(ah (aH (i:=1) nd rfl (Or.inl rfl) (cE TC.cl TC.n_begun_at (pv 0))) (ah (jF fU rfl (yu K rfl (cE TC.cl TC.n_queue (pv 0))) (aQ (i:=2) nd rfl (Or.inl rfl)) (ao (aH (i:=1) nd rfl (Or.inl rfl) (pf wm hr (aa (pv 1) (aa (pv 2) af)))))) (ao (aG (pv 1))))),_,rfl,a,dx,_,_,rfl,e,rfl,_,rfl,a,dx,_,_,rfl,e,rfl,q,rfl,⟨_,aw.of eq⟩,?_⟩;refine EI (K:=K) (a:=q) (xs:=ys) (fun i σ H1=>ai H H1/\∃hv v2,RD K H1 hv (fj ((S.os.take i).foldl gF S.pl))/\σ=[some (.ref a),some hv,v2]) ⟨ai.refl _,bv,none,r2,rfl⟩ (fun i σ H1 _ h=>aw.of (h.1 _ _ eq)) ?_ ?_
   · rintro i x σ H1 hx ⟨s1,hv,v2,rh,rfl⟩
     obtain⟨d,ed,rd⟩:=rq.get' i hx;obtain⟨o,eo,it⟩:=ok.row.get ed;have lp:((S.os.take i).foldl gF S.pl).length=M.rs.length:=zx _ _ ok.pl fun o ho=>ok.sx o (Aj ho);refine⟨_,rfl,_,rfl,hv,x,_,d,o,rfl,rh,RD.mono s1 _ rd,it,fun ns sp e'=>by rw[lp];exact ok.sx o (g9 eo) ns sp e',by omega,fun v H2 rv s2=>?_⟩;refine⟨s1.trans s2,v,_,?_,rfl⟩;rw[nK,eo,List.foldl_append];exact rv
   · rintro σ H1 ⟨s1,hv,v2,rh,rfl⟩
     rw[ly,ll,uv]at rh;exact⟨_,rfl,k hv H1 rh s1⟩
structure Mv(a q:Addr)(H:Hp)(q':Addr)(H':Hp):Prop where
 but:bI [a,q] H H'
 nq:q'=q\/H q'=none
abbrev BH:Stmt:=inClass (top 61) 0
theorem U0:bc ["self","machine","place"] ["self","machine","place"] (aM BH):=bh (by decide+kernel)
def kD(pl:List Int):aZ:=⟨pl,0,[],[],0,100,"up","",none⟩
inductive Pk(K:a5w)(C:Addr)(vs:List V)(H:Hp)(Q:VK):Prop |mk (a:_)(dx:_)(mv:_)(mm:_)(M:_)(pl:_)(h0:vs=[.ref a,mv,mm])(h1:H a=some (.ins C dx []))(h2:RD K H mv (bw.D M))(h3:RD K H mm (fj pl))(h4:∀q H',cn K C H' a q M (kD pl)->H q=none->bI [a] H H'->Q .aW H'):Pk K C vs H Q
def I0(K:a5w)(C:Addr):Sp:=fun vs H Q _=>Pk K C vs H Q
theorem WU{C:Addr}(F:CA K mg C "Runner" "Runner.__init__" BH)(TC:fM K C)(gN:GT K mg "NOUGHT" [.int 0,.int 1])(a1c:GV mg "FIRST_RATE" (.int 100)):A3 P w K mg base C "Runner" 1 (I0 K C):=by
 obtain⟨aN,jR,lg⟩:=gN;refine F.has U0 (fun vs H Q E h=>?_) (fun _ _ _ _ _ _=>lX fun _ _ _=>rfl) (fun f aD A outer s H vs Q E hr h=>?_)
 · obtain⟨a,dx,mv,mm,M,pl,rfl,_⟩:=h
   rfl
 · obtain⟨a,dx,mv,mm,M,pl,rfl,e,rm,rp,k⟩:=h
   refine⟨_,(ah (gO TC.cl TC.n_machine (pv 0) (pv 1)) (ah (gO TC.cl TC.n_begun_at (pv 0) (pv 2)) (ah (gO TC.cl TC.n_done (pv 0) ag) (ah (gO TC.cl TC.n_queue (pv 0) (dF af)) (ah (gO TC.cl TC.n_pace (pv 0) (gj (x:="NOUGHT") rfl jR)) (ah (gO TC.cl TC.n_rate_now (pv 0) (gj (x:="FIRST_RATE") rfl a1c)) (ah (gO TC.cl TC.n_side (pv 0) aU) (ah (gO TC.cl TC.n_mark (pv 0) aU) (ao (gO TC.cl TC.n_stopping (pv 0) iD)))))))))),?_⟩;refine⟨_,rfl,_,rfl,a,dx,_,rfl,e,by decide,?_⟩;refine⟨_,rfl,_,rfl,a,dx,_,rfl,aO,by show 1<1000;decide,?_⟩;refine⟨_,rfl,a,dx,_,rfl,aO,by show 2<1000;decide,?_⟩;refine⟨bM _ (bR rfl),fun q H1 n1=>?_⟩;have aq:a≠q:=fun z=>by have:=n1.no;rw[<-z,aO]at this;cases this
   have e1:=n1.same _ _ (aO (a:=a));refine⟨_,rfl,a,dx,_,rfl,e1,by show 3<1000;decide,?_⟩;refine⟨_,rfl,a,dx,_,rfl,aO,by show 4<1000;decide,?_⟩;refine⟨_,rfl,a,dx,_,rfl,aO,by show 5<1000;decide,?_⟩;refine⟨_,rfl,a,dx,_,rfl,aO,by show 6<1000;decide,?_⟩;refine⟨_,rfl,a,dx,_,rfl,aO,by show 7<1000;decide,?_⟩;refine⟨_,rfl,a,dx,_,rfl,aO,by show 8<1000;decide,?_⟩;have key:∀X:Hp,(∀b,b≠a->X b=H1 b)->Q .aW (L2.upd X a (.ins C dx (fq mv mm (.int 0) (.ref q) (.ref aN) (.int 100) (.str "up") (.str "") .aW))):=by
    intro X hX;have bt:bI [a] H (L2.upd X a (.ins C dx (fq mv mm (.int 0) (.ref q) (.ref aN) (.int 100) (.str "up") (.str "") .aW))):=fun b o eb hb=>by have ha:b≠a:=fun z=>hb (by rw[z];exact .head _);rw[az ha,hX b ha];exact n1.same _ _ (by rw[az ha,az ha,az ha];exact eb)
    have sv:=bt.v fun x hx o eo=>by rw[cf]at hx;rw[hx,e]at eo;cases eo;trivial
    refine k q _ ⟨⟨dx,mv,mm,.ref aN,.aW,aO,RD.v sv _ (gP _ _ _ _ _) rm,RD.v sv _ (gh _) rp,sL (lg _),rfl⟩,[],?_,cQ⟩ ?_ bt
    ·rw[az aq.symm,hX q aq.symm];exact n1.at'
    · have:=n1.no
      rw[az aq.symm,az aq.symm,az aq.symm]at this;exact this
   exact key _ (fun b hb=>by rw[az hb,az hb,az hb,az hb,az hb])
theorem Uy{M:bw}{pl:List Int}(hp:pl.length=M.rs.length):bQ M 64 (kD pl):=⟨.nil,fun i d e=>by simp[kD]at e,by simp[kD],(show(10:Int)<=100 by decide),(show(100:Int)<=200 by decide),.inl rfl,hp,⟨(show(0:Rat)<=0 by decide),(show(0:Rat).den<2^74 by decide+kernel)⟩,(show(0:Rat)<=1600 by decide+kernel),trivial,by decide,by decide⟩
theorem Wi{rs pl:List Int}(h:j7 rs pl):E3 rs (fj pl)=true:=by show((pl.map PyData.int).length==rs.length&&(((pl.map PyData.int).zip rs).map fun p=>fK 0 p.2 p.1).all id)=true;rw[bS,h.len,QO,jy,jc];intro b hb;obtain⟨⟨d,r⟩,hm,rfl⟩:=kb.mp hb;obtain⟨i,hi⟩:=uw.mp hm;obtain⟨e1,e2⟩:=(uy (z:=(d,r))).mp hi;rw[bU]at e1;cases e:pl[i]? with |none=>rw[e]at e1;cases e1 |some x=>rw[e]at e1;cases e1;obtain⟨a1,a2⟩:=h.at' i x r e e2;show(decide (0<=x)&&decide (x<=r))=true;rw[cw a1,cw a2];rfl
def kO(S:aZ)(d:a5z)(o:Itm):aZ:={S with ds:=S.ds++[d],os:=S.os++[o]}
theorem bQ.fed{M:bw}{D:Nat}{S:aZ}{d:a5z}{o:Itm}(h:bQ M D S)(it:uj M.rs.length d o)(hl:S.ds.length<20):bQ M D (kO S d o):=by
 have ll:=h.row.len;refine⟨h.row.snoc it.it it.ln,RowW.snoc h.rw ll it.ot,by show(S.ds++[d]).length<=20;rw[eZ];show _+1<=20;omega,h.rt1,h.rt2,?_,h.pl,h.pd,h.pm,h.stp,h.D1,h.D2⟩;rcases h.dn with e|⟨ns,sp,e,e2⟩
 ·exact .inl e
 · refine .inr ⟨ns,sp,?_,e2⟩
   show(S.os++[o])[0]? =_;rw[uz (dC.mp e).1];exact e
abbrev BM:Stmt:=inClass (top 61) 11
theorem J9:bc ["self","item"] ["self","item"] (aM BM):=bh (by decide+kernel)
inductive Po(K:a5w)(C:Addr)(vs:List V)(H:Hp)(Q:VK):Prop |mk (a:_)(q:_)(M:_)(D:_)(S:_)(v:_)(d:_)(o:_)(h0:vs=[.ref a,v])(h1:cn K C H a q M S)(h2:bQ M D S)(h3:M.Ok)(h4:RD K H v d)(h5:uj M.rs.length d o)(h6:j7 M.rs (gF (cG S) o))(h7:S.ds.length<20)(h8:∀H',cn K C H' a q M (kO S d o)->bI [a,q] H H'->Q (.int (S.ds.length+1:Nat)) H'):Po K C vs H Q
def Ic(K:a5w)(C:Addr):Sp:=fun vs H Q _=>Po K C vs H Q
theorem X0{C:Addr}(F:MA K C "feed" "Runner.feed" BM)(TC:fM K C)(B:bB mg)(a0X:GV mg "MOST_WAITING" (.int 20))(a0q:aj P w K mg base "is_item" 4 (AV K))(a0o:aj P w K mg base "is_place" 3 (AW K))(wm:aj P w K mg base "place_behind" 2 (uN K))(a1l:cI P w K mg base C "leads_to" 3 (fO K C fun _ S H Q=>∀v H',RD K H' v (fj (cG S))->ai H H'->Q v H')):cI P w K mg base C "feed" 5 (Ic K C):=by
 refine F.has J9 (fun vs H Q E h=>?_) (fun _ _ _ _ _ _=>cP fun _ _=>rfl) (fun f aD A outer s H vs Q E hr h=>?_)
 · obtain⟨a,q,M,D,S,v,d,o,rfl,_⟩:=h
   rfl
 · obtain⟨a,q,M,D,S,v,d,o,rfl,R,ok,aE,rd,it,yB,hl,k⟩:=h
   obtain⟨dx,mv,bv,bV,tv,e,r1,r2,r3,r4⟩:=R.ob;obtain⟨ys,eq,rq⟩:=R.qu;have nd:=J9.nd;have lr:=aE.len;have ly:=rq.length;obtain⟨i1,i2,i3⟩:=it.is;refine⟨_,(ah (bj (dX (cA (pf a0q hr (aa (cE TC.cl TC.n_machine (pv 0)) (aa (pv 1) af))))) (ao rY) bE) (ah (bj (dX (cA (pf a0o hr (aa (cE TC.cl TC.n_machine (pv 0)) (aa (pf wm hr (aa (iE a1l TC.cl (hr.mono (by decide)) (pv 0)) (aa (pv 1) af))) af))))) (ao rY) bE) (ah (bj (bK Dq (aL (x:="len") (cU K rfl) rfl (B.at "len") cY (aa (cE TC.cl TC.n_queue (pv 0)) af)) (gj (x:="MOST_WAITING") rfl a0X) (aX _)) (ao rY) bE) (ah (fP (iX K rfl (cE TC.cl TC.n_queue (pv 0)) (aa (pv 1) af))) (ao (aG (aL (x:="len") (cU K rfl) rfl (B.at "len") cY (aa (cE TC.cl TC.n_queue (pv 0)) af)))))))),?_⟩;refine⟨_,rfl,a,dx,_,_,rfl,e,rfl,_,rfl,mv,v,M.rs,_,d,rfl,r1,rd,by omega,i2,i3,fun H1 s1=>⟨_,rfl,?_⟩⟩;rw[i1];refine bf ?_;have e1:=s1 _ _ e;have R1:=R.same ok.row.no s1;refine⟨_,rfl,a,dx,_,_,rfl,e1,rfl,?_⟩;refine⟨_,rfl,a,dx,_,rfl,e1,rfl,a,q,M,D,S,rfl,R1,ok,aE,fun g H2 rg s2=>?_⟩;have iV:=s1.trans s2;have gl:(cG S).length=M.rs.length:=zx _ _ ok.pl ok.sx;refine⟨_,rfl,g,v,cG S,d,o,rfl,rg,RD.mono iV _ rd,it.it,fun ns sp e'=>by rw[gl];exact(it.ln ns sp e').1.len,by omega,fun u H3 ru s3=>?_⟩;have cJ:=iV.trans s3;refine⟨mv,u,M.rs,_,_,rfl,RD.mono cJ _ r1,ru,by omega,fun H4 s4=>⟨_,rfl,?_⟩⟩;rw[Wi yB];refine bf ?_;have gY:=cJ.trans s4;have e4:=gY _ _ e;have eq4:=gY _ _ eq;refine⟨_,rfl,a,dx,_,_,rfl,e4,rfl,q,_,rfl,.inl (aw.of eq4),_,_,rfl,rfl,_,rfl,?_⟩;rw[show decide ((ys.length:Int)>=20)=false from eu (by omega)];refine bf ?_;have kz:sizeLine=16777216:=by decide
   refine⟨_,rfl,a,dx,_,_,rfl,e4,rfl,.inl ⟨rfl,_,aw.of eq4⟩,_,rfl,q,ys,_,rfl,rfl,eq4,by omega,?_⟩;have aq:=R.ne;have tu:bG H4 (L2.upd H4 q (.lst (ys++[v]))):=.upd eq4 trivial;have e5:(L2.upd H4 q (.lst (ys++[v]))) a=some (.ins C dx (fq mv bv (.int S.dn) (.ref q) bV (.int S.rate) (.str S.side) (.str S.mark) tv)):=by rw[az aq];exact e4
   refine⟨_,rfl,a,dx,_,_,rfl,e5,rfl,q,_,rfl,.inl (aw.of aO),?_⟩;have sv:bG H (L2.upd H4 q (.lst (ys++[v]))):=gY.v.trans tu;have el:((ys++[v]).length:Int)=((S.ds.length+1:Nat):Int):=by rw[eZ,ly];rfl
   rw[el];refine k _ ⟨⟨dx,mv,bv,bV,tv,e5,RD.v sv _ (gP _ _ _ _ _) r1,RD.v sv _ (gh _) r2,r3.v sv,r4.v sv⟩,_,aO,?_⟩ fun b o' eb hb=>?_
   ·exact(ay.v sv _ ok.row.no rq).append (cj (RD.v sv _ it.it.no rd) cQ)
   · have ox:b≠q:=fun z=>hb (by rw[z];simp)
     rw[az ox];exact gY _ _ eb
def j5(S:aZ):aZ:=match S.os with |o::os=>{S with pl:=gF S.pl o,ds:=S.ds.tail,os:=os,dn:=0} |[]=>S
theorem fR.tail{n:Nat}{d:a5z}{ds:List a5z}{o:Itm}{os:List Itm}(h:fR n (d::ds) (o::os)):fR n ds os:=⟨by have:=h.len;simpa using this,fun i d' o' e1 e2=>h.it (i+1) d' o' (by simpa using e1) (by simpa using e2),fun i ns sp e=>h.ok (i+1) ns sp (by simpa using e)⟩
theorem RowW.tail{d:a5z}{ds:List a5z}{o:Itm}{os:List Itm}(h:RowW (d::ds) (o::os)):RowW ds os:=fun i d' e1 e2=>h (i+1) d' (by simpa using e1) (by simpa using e2)
structure jr(M:bw)(D:Nat)(S:aZ):Prop where
 row:fR M.rs.length S.ds S.os
 rw:RowW S.ds S.os
 len:S.ds.length<=20
 rt1:10<=S.rate
 rt2:S.rate<=200
 pl:S.pl.length=M.rs.length
 pd:Dd (D+10) S.pc
 pm:S.pc<=1600
 stp:oM D S.pc S.stp
 D1:64<=D
 D2:D<=1500
theorem bQ.raw{M:bw}{D:Nat}{S:aZ}(h:bQ M D S):jr M D S:=⟨h.row,h.rw,h.len,h.rt1,h.rt2,h.pl,h.pd,h.pm,h.stp,h.D1,h.D2⟩
theorem jr.ok{M:bw}{D:Nat}{S:aZ}(h:jr M D S)(hd:S.dn=0\/∃ns sp,S.os[0]? =some (some (ns,sp))/\S.dn<ak ns):bQ M D S:=⟨h.row,h.rw,h.len,h.rt1,h.rt2,hd,h.pl,h.pd,h.pm,h.stp,h.D1,h.D2⟩
theorem jr.end{M:bw}{D:Nat}{S:aZ}(h:jr M D S)(hn:S.os≠[]):bQ M D (j5 S):=by obtain⟨pl,dn,ds,os,pc,rate,side,mark,stp⟩:=S;cases os with |nil=>exact(hn rfl).elim |cons o os=>have ll:=h.row.len;cases ds with |nil=>simp at ll |cons d ds=>
     refine⟨h.row.tail,h.rw.tail,?_,h.rt1,h.rt2,.inl rfl,?_,h.pd,h.pm,h.stp,h.D1,h.D2⟩
     · have:=h.len
       simp only[jw]at this;show ds.length<=20;omega
     ·exact Fv h.pl fun ns sp e=>(h.row.ok 0 ns sp (by rw[<-e];rfl)).1.len
theorem a38(xs:List V):kQ xs (some 1) none=xs.drop 1:=Fj xs
abbrev BP:Stmt:=inClass (top 61) 16
theorem Jc:bc ["self"] ["self"] (aM BP):=bh (by decide+kernel)
inductive Pt(K:a5w)(C:Addr)(vs:List V)(H:Hp)(Q:VK):Prop |mk (a:_)(q:_)(M:_)(D:_)(S:_)(h0:vs=[.ref a])(h1:cn K C H a q M S)(h2:jr M D S)(h3:M.Ok)(h4:S.os≠[])(h5:∀q' H',cn K C H' a q' M (j5 S)->H q'=none->bI [a] H H'->Q .aW H'):Pt K C vs H Q
def AR(K:a5w)(C:Addr):Sp:=fun vs H Q _=>Pt K C vs H Q
theorem X3{C:Addr}(F:MA K C "end_first" "Runner.end_first" BP)(TC:fM K C)(wm:aj P w K mg base "place_behind" 2 (uN K)):cI P w K mg base C "end_first" 3 (AR K C):=by
 refine F.has Jc (fun vs H Q E h=>?_) (fun _ _ _ _ _ _=>dR fun _=>rfl) (fun f aD A outer s H vs Q E hr h=>?_)
 · obtain⟨a,q,M,D,S,rfl,_⟩:=h
   rfl
 · obtain⟨a,q,M,D,S,rfl,R,ok,aE,hn,k⟩:=h
   obtain⟨dx,mv,bv,bV,tv,e,r1,r2,r3,r4⟩:=R.ob;obtain⟨ys,eq,rq⟩:=R.qu;have aq:=R.ne;have nd:=Jc.nd;have lr:=aE.len;have ll:=ok.row.len;refine⟨_,(ah (gO TC.cl TC.n_begun_at (pv 0) (pf wm hr (aa (cE TC.cl TC.n_begun_at (pv 0)) (aa (aJ (aK K rfl) (cE TC.cl TC.n_queue (pv 0)) ag (fun _ _=>rfl)) af)))) (ah (gO TC.cl TC.n_queue (pv 0) (Di (B0 K rfl) (cE TC.cl TC.n_queue (pv 0)) (Dg ag) Dh)) (ao (gO TC.cl TC.n_done (pv 0) ag)))),?_⟩;obtain⟨pl,dn,ds,os,pc,rate,side,mark,stp⟩:=S;cases os with |nil=>exact(hn rfl).elim |cons o os=>cases ds with |nil=>simp at ll |cons d ds=>
       obtain⟨y,yr,rfl,ry,rr⟩:=rq.cons_inv;have it:itR d o:=ok.row.it 0 d o rfl rfl;have lp:pl.length=M.rs.length:=ok.pl;refine⟨_,rfl,a,dx,_,_,rfl,e,rfl,?_⟩;refine⟨_,rfl,a,dx,_,_,rfl,e,rfl,.inl ⟨q,_,0,y,rfl,rfl,aw.of eq,cM (fG 0) rfl,?_⟩⟩;refine⟨bv,y,pl,d,o,rfl,r2,ry,it,fun ns sp e'=>by rw[lp];exact(ok.row.ok 0 ns sp (by rw[<-e'];rfl)).1.len,by omega,fun u H1 ru s1=>?_⟩;have e1:=s1 _ _ e;refine⟨_,rfl,a,dx,_,rfl,e1,by show 9<1000;decide,?_⟩;have eq1:(L2.upd H1 a (.ins C dx (fq mv u (.int dn) (.ref q) bV (.int rate) (.str side) (.str mark) tv))) q=some (.lst (y::yr)):=by rw[az aq.symm];exact s1 _ _ eq
       refine⟨_,rfl,a,dx,_,_,rfl,aO,rfl,_,rfl,q,_,rfl,.inl ⟨aw.of eq1,fun q' H2 n2=>?_⟩⟩;have e2:=n2.same _ _ (aO (a:=a));refine⟨_,rfl,a,dx,_,rfl,e2,by show 9<1000;decide,?_⟩;refine⟨_,rfl,a,dx,_,rfl,aO,by show 9<1000;decide,?_⟩;have FF:a≠q':=fun z=>by have:=n2.no;rw[<-z,aO]at this;cases this
       have key:∀X:Hp,(∀b,b≠a->X b=H2 b)->Q .aW (L2.upd X a (.ins C dx (fq mv u (.int 0) (.ref q') bV (.int rate) (.str side) (.str mark) tv))):=by
        intro X hX;have bt:bI [a] H (L2.upd X a (.ins C dx (fq mv u (.int 0) (.ref q') bV (.int rate) (.str side) (.str mark) tv))):=fun b o' eb hb=>by have ha:b≠a:=fun z=>hb (by rw[z];exact .head _);rw[az ha,hX b ha];exact n2.same _ _ (by rw[az ha];exact s1 _ _ eb)
        have sv:=bt.v fun x hx o' eo=>by rw[cf]at hx;rw[hx,e]at eo;cases eo;trivial
        have xV:bG H1 (L2.upd X a (.ins C dx (fq mv u (.int 0) (.ref q') bV (.int rate) (.str side) (.str mark) tv))):=fun b o' nb eb=>by
         have ha:b≠a:=fun z=>by rw[z,e1]at eb;cases eb;exact nb trivial
         rw[az ha,hX b ha];exact n2.same _ _ (by rw[az ha];exact eb)
        have iZ:=n2.at';rw[a38]at iZ;refine k q' _ ⟨⟨dx,mv,u,bV,tv,aO,RD.v sv _ (gP _ _ _ _ _) r1,RD.v xV _ (gh _) ru,r3.v sv,r4.v sv⟩,yr,?_,?_⟩ ?_ bt
        ·rw[az FF.symm,hX q' FF.symm];exact iZ
        ·exact ay.v sv _ ok.row.tail.no rr
        ·cases e':H q' with |none=>rfl |some o'=>have h1:=s1 _ _ e';have h2:=n2.no;rw[az FF.symm,h1]at h2;cases h2
       exact key _ (fun b hb=>by rw[az hb])
theorem Yl{x y z u q:Rat}(h:q=x\/q=y\/q=z\/q=u)(h1:q<=x)(h2:q<=y)(h3:q<=z)(h4:q<=u):mn (mn (mn x y) z) u=q:=by
 refine Ac ?_ (jK (jK (jK h1 h2) h3) h4);rcases h with h|h|h|h
 ·rw[h];exact dc (fJ _ _) (dc (fJ _ _) (fJ _ _))
 ·rw[h];exact dc (fJ _ _) (dc (fJ _ _) (jm _ _))
 ·rw[h];exact dc (fJ _ _) (jm _ _)
 ·rw[h];exact jm _ _
theorem z9{H:Hp}{Q:VK}{l:Addr}{u1 u2 u3:V}{x y z:Rat}(dl:H l=some (.lst [u1,u2,u3]))(R1:aR K H u1 x)(R2:aR K H u2 y)(R3:aR K H u3 z)(b1:Bd 2000 x)(b2:Bd 2000 y)(b3:Bd 2000 z)(k:∀v,aR K H v (mn (mn x y) z)->Q v H):iB K [.ref l] H Q E0:=by
 refine⟨l,[u1,u2,u3],[x,y,z],rfl,aw.of dl,⟨R1,b1,R2,b2,R3,b3,trivial⟩,by simp,fun c v q e1 e2 hq=>k v ?_⟩;have e:mn (mn x y) z=q:=by
  refine Ym ?_ (hq _ (by simp)) (hq _ (by simp)) (hq _ (by simp))
  match c,e2 with |0,e2=>cases e2;exact .inl rfl |1,e2=>cases e2;exact .inr (.inl rfl) |2,e2=>cases e2;exact .inr (.inr rfl)
 rw[e]
 match c,e1,e2 with |0,e1,e2=>cases e1;cases e2;exact R1 |1,e1,e2=>cases e1;cases e2;exact R2 |2,e1,e2=>cases e1;cases e2;exact R3
theorem yZ{H:Hp}{Q:VK}{l:Addr}{u1 u2 u3 u4:V}{x y z t:Rat}(dl:H l=some (.lst [u1,u2,u3,u4]))(R1:aR K H u1 x)(R2:aR K H u2 y)(R3:aR K H u3 z)(R4:aR K H u4 t)(b1:Bd 2000 x)(b2:Bd 2000 y)(b3:Bd 2000 z)(b4:Bd 2000 t)(k:∀v,aR K H v (mn (mn (mn x y) z) t)->Q v H):iB K [.ref l] H Q E0:=by
 refine⟨l,[u1,u2,u3,u4],[x,y,z,t],rfl,aw.of dl,⟨R1,b1,R2,b2,R3,b3,R4,b4,trivial⟩,by simp,fun c v q e1 e2 hq=>k v ?_⟩;have e:mn (mn (mn x y) z) t=q:=by
  refine Yl ?_ (hq _ (by simp)) (hq _ (by simp)) (hq _ (by simp)) (hq _ (by simp))
  match c,e2 with |0,e2=>cases e2;exact .inl rfl |1,e2=>cases e2;exact .inr (.inl rfl) |2,e2=>cases e2;exact .inr (.inr (.inl rfl)) |3,e2=>cases e2;exact .inr (.inr (.inr rfl))
 rw[e]
 match c,e1,e2 with |0,e1,e2=>cases e1;cases e2;exact R1 |1,e1,e2=>cases e1;cases e2;exact R2 |2,e1,e2=>cases e1;cases e2;exact R3 |3,e1,e2=>cases e1;cases e2;exact R4
theorem oI{D:Nat}{q:Rat}{z:Int}(h:Dd D q)(hl:q<=1600)(hz:0<=z)(M5:z<2^24)(hD:D<=1700):Bd 2000 (q+(z:Rat)):=by have b:Bd (D+11) q:=h.bd (dc hl (by decide+kernel));exact(zU b (by omega)).mono (by omega)
abbrev BF:Stmt:=inClass (top 61) 15
theorem J5:bc ["self","top","reach","left","rise","fall","middles","ends","square","steps","gone","still"] ["self","top","reach","left"] (aM BF):=bh (by decide+kernel)
def Dt(M:bw)(S:aZ)(top R:Rat)(left:Int):aZ:={S with pc:=my M.r M.f S.pc top R left S.stp,stp:=yH S.stp}
inductive Pj(K:a5w)(C:Addr)(vs:List V)(H:Hp)(Q:VK):Prop |mk (a:_)(q:_)(M:_)(D:_)(S:_)(tv:_)(Rv:_)(top:_)(R:_)(left:_)(h0:vs=[.ref a,tv,Rv,.int left])(h1:cn K C H a q M S)(h2:bQ M D S)(h3:M.Ok)(h4:aR K H tv top)(h5:Dd 14 top)(h6:top<=1600)(h7:aR K H Rv R)(h8:Dd 64 R)(h9:R<=1600)(h10:1<=left)(h11:left<=100)(h12:¬Halt S.pc S.stp)(h13:∀v H',aR K H' v (kr M.r M.f S.pc top R left S.stp)->cn K C H' a q M (Dt M S top R left)->bI [a] H H'->Q v H'):Pj K C vs H Q
def HV(K:a5w)(C:Addr):Sp:=fun vs H Q _=>Pj K C vs H Q
theorem WS{C:Addr}(F:MA K C "next_square" "Runner.next_square" BF)(TC:fM K C)(tE:aj P w K mg base "plus_whole" 4 (y4 K))(M8:aj P w K mg base "times" 3 (lj (·*·) K))(oq:aj P w K mg base "fraction" 3 (rF K))(tI:aj P w K mg base "least" 2 (iB K))(qC:cI P w K mg base C "is_held" 1 (fO K C fun _ S H Q=>Q (.bl S.stp.isSome) H)):cI P w K mg base C "next_square" 5 (HV K C):=by
 refine F.has J5 (fun vs H Q E h=>?_) (fun _ _ _ _ _ _=>FH fun _ _ _ _=>rfl) (fun f aD A outer s H vs Q E hr h=>?_)
 · obtain⟨a,q,M,D,S,tv,Rv,top,R,left,rfl,_⟩:=h
   rfl
 · obtain⟨a,q,M,D,S,tv,Rv,top,R,left,rfl,R0,ok,aE,rt,td,tl,rR,Rd,Rl,l1,l2,nh,k⟩:=h
   obtain⟨dx,mv,bv,bV,sv,e,r1,r2,r3,r4⟩:=R0.ob;obtain⟨ys,eq,rq⟩:=R0.qu;have aq:=R0.ne;have nd:=J5.nd;have yn:=aE.r1;have oE:=aE.f1;have D1:=ok.D1;have D2:=ok.D2;have kz:(2:Int)^24=16777216:=by decide
   obtain⟨ma,mb,rfl,fA,gE⟩:=jn r1;refine⟨_,(ah (lH (i:=4) (j:=5) rfl nd rfl rfl (by decide) rfl rfl (aa (aJ (aK K rfl) (cE TC.cl TC.n_machine (pv 0)) ag (fun _ _=>rfl)) (aa (aJ (aK K rfl) (cE TC.cl TC.n_machine (pv 0)) ag (fun _ _=>rfl)) af)) rfl) (ah (aH (i:=6) nd rfl (Or.inl rfl) (dF (aa (pf tE hr (aa (cE TC.cl TC.n_pace (pv 0)) (aa (pv 4) af))) (aa (pv 1) (aa (pf tE hr (aa (pv 2) (aa (au ba (pv 5) (au fu (au ba ag (pv 3)) ag)) af))) af))))) (ah (aH (i:=7) nd rfl (Or.inl rfl) (dF (aa (pf tE hr (aa (cE TC.cl TC.n_pace (pv 0)) (aa (au ba ag (pv 4)) af))) (aa (pv 1) (aa (pf tE hr (aa (pv 2) (aa (au ba (au ba ag (pv 5)) (au fu (pv 3) ag)) af))) af))))) (ah (fW (bj (cA (iE qC TC.cl (hr.mono (by decide)) (pv 0))) (ah (fi (cE TC.cl TC.n_stopping (pv 0)) (cS K rfl (n:=3) rfl (bo (aQ (i:=8) nd rfl (Or.inl rfl)) (bo (aQ (i:=9) nd rfl (Or.inl rfl)) (bo (aQ (i:=10) nd rfl (Or.inl rfl)) cR))))) (ah (aH (i:=11) nd rfl (Or.inl rfl) (au fu (au fu (pv 9) (pv 10)) ag)) (ah (fP (iX K rfl (pv 6) (aa (pf M8 hr (aa (pv 8) (aa (pf oq hr (aa (au cF (au ba ag (pv 11)) ag) (aa (au ba ag (pv 9)) af))) af))) af))) (ah (fP (iX K rfl (pv 7) (aa (pf M8 hr (aa (pv 8) (aa (pf oq hr (aa (pv 11) (aa (pv 9) af))) af))) af))) (ao (gO TC.cl TC.n_stopping (pv 0) (dH (aa (pv 8) (aa (pv 9) (aa (au cF (pv 10) ag) af)))))))))) bE)) (ah (gO TC.cl TC.n_pace (pv 0) (pf tI hr (aa (pv 7) af))) (ao (aG (pf tI hr (aa (pv 6) af))))))))),?_⟩;refine⟨_,rfl,a,dx,_,_,rfl,e,rfl,.inr ⟨ma,_,1,.int M.r,rfl,rfl,fA,rfl,?_⟩⟩;refine⟨_,rfl,a,dx,_,_,rfl,e,rfl,.inr ⟨ma,_,2,.int M.f,rfl,rfl,fA,rfl,_,_,rfl,?_⟩⟩;have fl1:(M.f*(2*left-1)).natAbs<=50*200:=by rw[fc];exact kW (by omega) (by omega)
   have EK:0<=M.f*(2*left-1):=iS (by omega) (by omega);have fl2:(2*M.f*(left-1)).natAbs<=100*100:=by rw[fc];exact kW (by omega) (by omega)
   have EJ:0<=2*M.f*(left-1):=iS (by omega) (by omega);have vn:Bd 2000 S.pc:=(ok.pd.bd (dc ok.pm (by decide+kernel))).mono (by omega);have RB:Bd 2000 R:=(Rd.bd (dc Rl (by decide+kernel))).mono (by decide);have tB:Bd 2000 top:=(td.bd (dc tl (by decide+kernel))).mono (by decide);have B1:Bd 2000 (S.pc+(M.r:Rat)):=oI ok.pd ok.pm (by omega) (by omega) (by omega);have B2:Bd 2000 (R+((M.f*(2*left-1):Int):Rat)):=oI Rd Rl EK (by omega) (by omega);have B3:Bd 2000 (S.pc+((2*M.r:Int):Rat)):=oI ok.pd ok.pm (by omega) (by omega) (by omega);have B4:Bd 2000 (R+((2*M.f*(left-1):Int):Rat)):=oI Rd Rl EJ (by omega) (by omega);refine⟨_,rfl,a,dx,_,_,rfl,e,rfl,_,rfl,bV,_,_,rfl,r3,vn,by omega,fun u1 H1 jE s1=>?_⟩;refine⟨_,rfl,_,rfl,_,rfl,_,rfl,_,_,rfl,rfl,.of_left (bJ (by decide) (by decide)),_,_,rfl,rfl,_,_,rfl,rfl,.of_left (bJ (by omega) (by omega)),Rv,_,_,rfl,rR.go s1,RB,by omega,fun u2 H2 pP s2=>?_⟩;refine⟨bM _ (bR rfl),fun lm H3 n3=>?_⟩;have cJ:=s1.trans (s2.trans n3.same);refine⟨_,rfl,a,dx,_,_,rfl,cJ _ _ e,rfl,_,rfl,_,_,rfl,rfl,.of_left (bJ (by decide) (by decide)),bV,_,_,rfl,r3.go cJ,vn,by omega,fun u3 H4 CL s4=>?_⟩;have gY:=cJ.trans s4;refine⟨_,rfl,_,rfl,_,rfl,_,_,rfl,rfl,.of_left (bJ (by decide) (by decide)),_,rfl,_,_,rfl,rfl,_,_,rfl,rfl,.of_left (bJ (by omega) (by omega)),Rv,_,_,rfl,rR.go gY,RB,by omega,fun u4 H5 CK s5=>?_⟩;refine⟨bM _ (bR rfl),fun le H6 n6=>?_⟩;have mj:=gY.trans (s5.trans n6.same);have nV:=s4.trans (s5.trans n6.same);have e6:=mj _ _ e;have R6:=R0.same ok.row.no mj;have U1:=jE.go (s2.trans (n3.same.trans nV));have U2:=pP.go (n3.same.trans nV);have U3:=CL.go (s5.trans n6.same);have U4:=CK.go n6.same;have T6:=rt.go mj;have dm:=nV _ _ n3.at';have de:=n6.at';have FG:a≠lm:=fun z=>by have:=n3.no;rw[<-z,(s1.trans s2) _ _ e]at this;cases this
   have Oi:a≠le:=fun z=>by have:=n6.no;rw[<-z,(gY.trans s5) _ _ e]at this;cases this
   have vS:lm≠le:=fun z=>by have:=n6.no;rw[<-z,(s4.trans s5) _ _ n3.at']at this;cases this
   have yK:H lm=none:=by cases e':H lm with |none=>rfl |some o=>have:=(s1.trans s2) _ _ e';rw[n3.no]at this;cases this
   have Dx:H le=none:=by cases e':H le with |none=>rfl |some o=>have:=(gY.trans s5) _ _ e';rw[n6.no]at this;cases this
   refine⟨fun σ H7=>∃pD w8 w9 jA m7 um ue,σ=[some (.ref a),some tv,some Rv,some (.int left),some (.int M.r),some (.int M.f),some (.ref lm),some (.ref le),w8,w9,jA,m7]/\bI [a,lm,le] H6 H7/\H7 a=some (.ins C dx (fq (.ref ma) bv (.int S.dn) (.ref q) bV (.int S.rate) (.str S.side) (.str S.mark) pD))/\uf K H7 pD (yH S.stp)/\H7 lm=some (.lst um)/\H7 le=some (.lst ue)/\(∀H8 Q',bG H7 H8->H8 lm=some (.lst um)->(∀v,aR K H8 v (kr M.r M.f S.pc top R left S.stp)->Q' v H8)->iB K [.ref lm] H8 Q' E0)/\(∀H8 Q',bG H7 H8->H8 le=some (.lst ue)->(∀v,aR K H8 v (my M.r M.f S.pc top R left S.stp)->Q' v H8)->iB K [.ref le] H8 Q' E0),?_,?_⟩
   · refine⟨_,rfl,a,dx,_,rfl,e6,rfl,a,q,M,D,S,rfl,R6,ok,aE,_,rfl,?_⟩
     cases hs:S.stp with |none=>rw[hs]at r4;refine bf ⟨sv,_,_,_,_,_,_,rfl,bI.refl _ _,e6,r4,dm,de,fun H8 Q' sV d8 kq=>z9 d8 (U1.v sV) (T6.v sV) (U2.v sV) B1 tB B2 kq,fun H8 Q' sV d8 kq=>z9 d8 (U3.v sV) (T6.v sV) (U4.v sV) B3 tB B4 kq⟩ |some z=>
       obtain⟨sq,st,gn⟩:=z;rw[hs]at r4;have sk:=ok.stp;rw[hs]at sk nh;obtain⟨g1,g2,g3⟩:=sM sk ok.pd.nn nh;obtain⟨gn0,gn1,Tb,pH,pG,_,_⟩:=sk;obtain⟨ta,su,rfl,tD,ZN⟩:=r4;refine bF ?_;have ZK:=tD.go mj;have E9:=ZN.go mj;have xX:Bd 2000 sq:=(pH.bd pG).mono (by omega);refine⟨_,rfl,a,dx,_,_,rfl,e6,rfl,ta,_,rfl,ZK,rfl,_,_,rfl,_,_,rfl,_,_,rfl,rfl,?_⟩;refine⟨_,rfl,_,rfl,_,_,rfl,rfl,_,_,rfl,rfl,?_⟩;have kz:sizeLine=16777216:=by decide
       refine⟨_,rfl,.inl ⟨rfl,_,aw.of dm⟩,_,rfl,_,rfl,_,_,rfl,rfl,.of_left (bJ (by decide) (by decide)),_,_,rfl,rfl,_,rfl,_,_,rfl,rfl,.of_left (bJ (by decide) (by decide)),_,_,rfl,by omega,gb (n:=64) (by omega) (by decide),fun fv H7 rf s7=>?_⟩;have fB:Bd 2000 (Rat.divInt (2*(st-gn-1)+1) (2*st)):=(ji (n:=12) (by omega) (by omega) (by omega)).mono (by decide);have fB2:Bd 2000 (Rat.divInt (st-gn-1) st):=(ji (n:=12) (by omega) (by omega) (by omega)).mono (by decide);have pB:Bd 2000 (sq*Rat.divInt (2*(st-gn-1)+1) (2*st)):=((pH.bd pG).mul (ji (n:=12) (by omega) (by omega) (by omega))).mono (by omega);have Dl:Bd 2000 (sq*Rat.divInt (st-gn-1) st):=((pH.bd pG).mul (ji (n:=12) (by omega) (by omega) (by omega))).mono (by omega);refine⟨su,fv,sq,_,rfl,E9.go s7,rf,xX,fB,fun x1 H8 vd s8=>?_⟩;have iU:=s7.trans s8;have Nt:=iU _ _ dm;refine⟨lm,_,_,rfl,rfl,Nt,by show 3<sizeLine;omega,?_⟩;have v8:bG H8 (L2.upd H8 lm (.lst ([u1,tv,u2]++[x1]))):=.upd Nt trivial;have NH:(L2.upd H8 lm (.lst ([u1,tv,u2]++[x1]))) le=some (.lst [u3,tv,u4]):=by rw[az vS.symm];exact iU _ _ de
       refine⟨_,rfl,.inl ⟨rfl,_,aw.of NH⟩,_,rfl,_,rfl,_,rfl,_,_,rfl,by omega,gb (n:=64) (by omega) (by decide),fun gv H9 rg s9=>?_⟩;refine⟨su,gv,sq,_,rfl,((E9.go iU).v v8).go s9,rg,xX,fB2,fun x2 eR vc gC=>?_⟩;have rQ:=s9.trans gC;have NI:=rQ _ _ NH;refine⟨le,_,_,rfl,rfl,NI,by show 3<sizeLine;omega,?_⟩;have v10:bG eR (L2.upd eR le (.lst ([u3,tv,u4]++[x2]))):=.upd NI trivial;refine⟨_,rfl,_,rfl,_,rfl,_,_,rfl,rfl,bM _ (bR rfl),fun tn fE eg=>?_⟩;have RN:bG H6 eR:=(iU.v.trans v8).trans rQ.v;have RM:bG H6 fE:=(RN.trans v10).trans eg.same.v;have e8:(L2.upd H8 lm (.lst ([u1,tv,u2]++[x1]))) a=some (.ins C dx (fq (.ref ma) bv (.int S.dn) (.ref q) bV (.int S.rate) (.str S.side) (.str S.mark) (.ref ta))):=by rw[az FG];exact iU _ _ e6
       have Nn:fE a=some (.ins C dx (fq (.ref ma) bv (.int S.dn) (.ref q) bV (.int S.rate) (.str S.side) (.str S.mark) (.ref ta))):=eg.same _ _ (by rw[az Oi];exact rQ _ _ e8);refine⟨_,rfl,a,dx,_,rfl,Nn,by show 9<1000;decide,?_⟩;have iA:bG fE (L2.upd fE a (.ins C dx (fq (.ref ma) bv (.int S.dn) (.ref q) bV (.int S.rate) (.str S.side) (.str S.mark) (.ref tn)))):=.upd Nn trivial;have p8:=RM.trans iA;have RL:=(((v8.trans rQ.v).trans v10).trans eg.same.v).trans iA;have RQ:=(v10.trans eg.same.v).trans iA;refine⟨.ref tn,_,_,_,_,[u1,tv,u2,x1],[u3,tv,u4,x2],rfl,fun b o' eb hb=>?_,aO,⟨tn,su,rfl,aB.v iA (aB.of eg.at'),E9.v p8⟩,?_,?_,fun H' Q' sV d' kq=>?_,fun H' Q' sV d' kq=>?_⟩
       · have ha:b≠a:=fun z=>hb (by rw[z];simp)
         have Ek:b≠lm:=fun z=>hb (by rw[z];simp);have hle:b≠le:=fun z=>hb (by rw[z];simp);rw[az ha];exact eg.same _ _ (by rw[az hle];exact rQ _ _ (by rw[az Ek];exact iU _ _ eb))
       · rw[az FG.symm]
         exact eg.same _ _ (by rw[az vS];exact rQ _ _ aO)
       · rw[az Oi.symm]
         exact eg.same _ _ aO
       ·exact yZ d' ((U1.v p8).v sV) ((T6.v p8).v sV) ((U2.v p8).v sV) ((vd.v RL).v sV) B1 tB B2 pB kq
       ·exact yZ d' ((U3.v p8).v sV) ((T6.v p8).v sV) ((U4.v p8).v sV) ((vc.v RQ).v sV) B3 tB B4 Dl kq
   · rintro σ H7 ⟨pD,w8,w9,jA,m7,um,ue,rfl,bt,e7,md,dm7,de7,km,ke⟩
     refine⟨_,rfl,?_⟩;dsimp only[nS];refine ke H7 _ .refl de7 fun pe yj=>?_;refine⟨_,rfl,a,dx,_,rfl,e7,by show 9<1000;decide,?_⟩;have v8:bG H7 (L2.upd H7 a (.ins C dx (fq (.ref ma) bv (.int S.dn) (.ref q) pe (.int S.rate) (.str S.side) (.str S.mark) pD))):=.upd e7 trivial;refine⟨_,rfl,?_⟩;dsimp only[nS];refine km _ _ v8 (by rw[az FG.symm];exact dm7) fun v rv=>?_;have bH:bI [a] H (L2.upd H7 a (.ins C dx (fq (.ref ma) bv (.int S.dn) (.ref q) pe (.int S.rate) (.str S.side) (.str S.mark) pD))):=fun b o' eb hb=>by
      have ha:b≠a:=fun z=>hb (by rw[z];simp);rw[az ha];refine bt b o' (mj _ _ eb) fun hm=>?_;simp only[bW,da,dB]at hm;rcases hm with h|h|h
      ·exact ha h
      ·rw[h,yK]at eb;cases eb
      ·rw[h,Dx]at eb;cases eb
     have vH:bG H (L2.upd H7 a (.ins C dx (fq (.ref ma) bv (.int S.dn) (.ref q) pe (.int S.rate) (.str S.side) (.str S.mark) pD))):=bH.v fun x hx o' eo=>by rw[cf]at hx;rw[hx,e]at eo;cases eo;trivial
     refine k v _ rv ⟨⟨dx,.ref ma,bv,pe,pD,aO,RD.v vH _ (gP _ _ _ _ _) r1,RD.v vH _ (gh _) r2,yj.v v8,md.v v8⟩,ys,bH _ _ eq (by rw[cf];exact aq.symm),ay.v vH _ ok.row.no rq⟩ bH
end
end Lw
set_option maxHeartbeats 2000000
namespace Lw
open PySem PySem.Spec PyProof.Rows L2 Rt Ln Cn Pn Wk Rn
open Ow (topR cornO mnO betR atO ownF leadF ownL OkI OkIs)
section
variable {P:a5y}{w:World}{K:a5w}{mg:Str->Option Value}{base:Heap}
noncomputable def eK(M:bw)(S:aZ):Rat:=K2 M.f M.j S.rate S.os
noncomputable def DM(M:bw)(S:aZ)(ns:List Int)(sp:Int):Rat:=kr M.r M.f S.pc (topR S.rate sp) (eK M S) ((ak ns:Int)-S.dn) S.stp
noncomputable def lM(M:bw)(S:aZ)(ns:List Int)(sp:Int):a5z:=m9 M.t (gf ns S.dn) (DM M S ns sp)
noncomputable def eO(M:bw)(S:aZ)(ns:List Int)(sp:Int):aZ:={Dt M S (topR S.rate sp) (eK M S) ((ak ns:Int)-S.dn)with dn:=S.dn+1}
def ff(ns:List Int)(S:aZ):aZ:=if S.dn=ak ns then j5 S else S
def bN(d:a5z)(S:aZ):aZ:=match d with | .tuple [.str w,.str s]=>if w="tool" then{S with side:=s}else if w="mark" then{S with mark:=s}else S |_=>S
inductive One(M:bw):aZ->a5z->aZ->Prop |line {S:aZ}{ns:List Int}{sp:Int}:S.os[0]? =some (some (ns,sp))->¬Halt S.pc S.stp->One M S (lM M S ns sp) (ff ns (eO M S ns sp)) |ij {S:aZ}{d:a5z}:S.os[0]? =some none->S.ds[0]? =some d->¬Halt S.pc S.stp->One M S d (j5 (bN d S))
inductive Run(M:bw):aZ->List a5z->aZ->Prop |nil (S:aZ):Run M S [] S |cons {S S1 S2:aZ}{e:a5z}{es:List a5z}:One M S e S1->Run M S1 es S2->Run M S (e::es) S2
theorem Run.trans{M:bw}{S S1 S2:aZ}{es fs:List a5z}(h:Run M S es S1)(g:Run M S1 fs S2):Run M S (es++fs) S2:=by induction h with |nil=>exact g |cons o _ ih=>exact .cons o (ih g)
theorem Run.snoc{M:bw}{S S1 S2:aZ}{es:List a5z}{e:a5z}(h:Run M S es S1)(g:One M S1 e S2):Run M S (es++[e]) S2:=h.trans (.cons g (.nil _))
theorem B7{M:bw}{D:Nat}{S:aZ}(h:jr M D S)(d:a5z):jr M D (bN d S)/\(bN d S).os=S.os/\(bN d S).ds=S.ds/\(bN d S).dn=S.dn/\(bN d S).pl=S.pl:=by
 unfold bN;split
 · split
   ·exact⟨⟨h.row,h.rw,h.len,h.rt1,h.rt2,h.pl,h.pd,h.pm,h.stp,h.D1,h.D2⟩,rfl,rfl,rfl,rfl⟩
   · split
     ·exact⟨⟨h.row,h.rw,h.len,h.rt1,h.rt2,h.pl,h.pd,h.pm,h.stp,h.D1,h.D2⟩,rfl,rfl,rfl,rfl⟩
     ·exact⟨h,rfl,rfl,rfl,rfl⟩
 ·exact⟨h,rfl,rfl,rfl,rfl⟩
theorem CZ{M:bw}{D:Nat}{S:aZ}(h:jr M D S)(aE:M.Ok)(hn:S.os≠[]):Dd 64 (eK M S)/\eK M S<=1600:=by
 have h1:1<=S.os.length:=by cases e:S.os with|nil=>exact(hn e).elim|cons _ _=>simp
 refine⟨a2b (by have:=aE.f1;omega) (fun i _=>W4 aE.j1.1 aE.j1.2 h.rt1 h.rt2 h.row.sH i) 1 h1,?_⟩;exact dc (a2a h1) (W3 h.rt1 h.rt2 h.row.sH 1)
theorem LB{M:bw}{D:Nat}{S:aZ}{ns:List Int}{sp:Int}(h:jr M D S)(aE:M.Ok)(eo:S.os[0]? =some (some (ns,sp)))(hd:S.dn<ak ns)(nh:¬Halt S.pc S.stp):jr M D (eO M S ns sp):=by
 have hn:S.os≠[]:=fun e=>by rw[e]at eo;simp at eo
 obtain⟨R1,R2⟩:=CZ h aE hn;obtain⟨dJ,s1,s2⟩:=h.row.ok 0 ns sp eo;have D1:=h.D1;have yn:=aE.r1;have oE:=aE.f1;refine⟨h.row,h.rw,h.len,h.rt1,h.rt2,h.pl,?_,?_,?_,h.D1,h.D2⟩
 ·exact a2x (by omega) (by omega) (by omega) h.pd ((AA _ _).mono (by omega)) (R1.mono (by omega)) h.stp nh
 ·exact dc a2w (xQ s1 s2 h.rt1 h.rt2)
 ·exact T5 h.stp h.pd.nn nh
theorem One.ok{M:bw}{D:Nat}{S S1:aZ}{e:a5z}(h:bQ M D S)(aE:M.Ok)(o:One M S e S1):bQ M D S1:=by cases o with
 |@line ns sp eo nh=>
   have hd:S.dn<ak ns:=by
    rcases h.dn with e|⟨vy,uP,e1,e2⟩
    ·rw[e];exact(h.row.ok 0 ns sp eo).1.lead.1
    ·rw[eo]at e1;cases e1;exact e2
   have raw:=LB h.raw aE eo hd nh;have hn:S.os≠[]:=fun e=>by rw[e]at eo;simp at eo
   unfold ff;split
   ·exact raw.end hn
   ·next cy=>refine raw.ok (.inr ⟨ns,sp,eo,?_⟩);have:(eO M S ns sp).dn=S.dn+1:=rfl;omega |ij eo ed nh=>obtain⟨h1,h2,_⟩:=B7 h.raw e;refine h1.end ?_;rw[h2];intro z;rw[z]at eo;simp at eo
theorem Run.ok{M:bw}{D:Nat}{S S1:aZ}{es:List a5z}(h:bQ M D S)(aE:M.Ok)(r:Run M S es S1):bQ M D S1:=by induction r with |nil=>exact h |cons o _ ih=>exact ih (o.ok h aE)
theorem One.no{M:bw}{D:Nat}{S S1:aZ}{e:a5z}(h:bQ M D S)(o:One M S e S1):dP e=true:=by cases o with |line _ _=>exact AI _ _ _ |ij eo ed _=>exact gq.mp h.row.no _ (g9 ed)
theorem Run.no{M:bw}{D:Nat}{S S1:aZ}{es:List a5z}(h:bQ M D S)(aE:M.Ok)(r:Run M S es S1):cm es=true:=by induction r with |nil=>rfl |cons o _ ih=>rw[cm,fh];exact⟨o.no h,ih (o.ok h aE)⟩
theorem wa{b:Bool}{A B A' B':Prop}(h1:A->A')(h2:B->B'):(if b=true then A else B)->(if b=true then A' else B'):=by
 cases b
 ·exact h2
 ·exact h1
abbrev BB:Stmt:=inClass (top 61) 14
theorem J4:bc ["self","most","line","lead","rows","top","reach","told","middle"] ["self","most"] (aM BB):=bh (by decide+kernel)
inductive Ph(K:a5w)(C:Addr)(vs:List V)(H:Hp)(Q:VK):Prop |mk (a:_)(q:_)(M:_)(D:_)(S:_)(ns:_)(sp:_)(most:_)(h0:vs=[.ref a,.int most])(h1:cn K C H a q M S)(h2:bQ M D S)(h3:M.Ok)(h4:S.os[0]? =some (some (ns,sp)))(h5:¬Halt S.pc S.stp)(h6:1<=most)(h7:most<=1000)(h8:∀l ys es S' q' H',H l=none->H' l=some (.lst ys)->ay K H' ys es->Run M S es S'->1<=es.length->(es.length:Int)<=most->cn K C H' a q' M S'->Mv a q H q' H'->l≠q'->Q (.ref l) H'):Ph K C vs H Q
def HU(K:a5w)(C:Addr):Sp:=fun vs H Q _=>Ph K C vs H Q
theorem WM{C:Addr}(F:MA K C "steps_of_first" "Runner.steps_of_first" BB)(TC:fM K C)(B:bB mg)(mJ:aj P w K mg base "lead_of" 1 (ki K))(ZO:aj P w K mg base "step_rows" 3 (AM K))(ze:aj P w K mg base "top_square" 4 (xY K))(ZU:aj P w K mg base "reach_behind_first" 9 (AO K))(ZP:aj P w K mg base "step_entry" 3 (AX K))(EB:cI P w K mg base C "is_halted" 2 (fO K C fun _ S H Q=>Q (.bl (S.stp.isSome&&decide (S.pc=0))) H))(a1k:cI P w K mg base C "next_square" 5 (HV K C))(EC:cI P w K mg base C "end_first" 3 (AR K C)):cI P w K mg base C "steps_of_first" 10 (HU K C):=by
 refine F.has J4 (fun vs H Q E h=>?_) (fun _ _ _ _ _ _=>cP fun _ _=>rfl) (fun f aD A outer s H vs Q E hr h=>?_)
 · obtain⟨a,q,M,D,S,ns,sp,most,rfl,_⟩:=h
   rfl
 · obtain⟨a,q,M,D,S,ns,sp,most,rfl,R0,ok,aE,eo,nh,m1,m2,k⟩:=h
   obtain⟨dx,mv,bv,bV,tv,e,r1,r2,r3,r4⟩:=R0.ob;obtain⟨ys,eq,rq⟩:=R0.qu;have aq:=R0.ne;have nd:=J4.nd;have lr:=aE.len;have yn:=aE.r1;have oE:=aE.f1;have ll:=ok.row.len;have oA:=ok.len;have mK:0<S.os.length:=(dC.mp eo).1;have cy:S.os≠[]:=fun z=>by rw[z]at mK;exact absurd mK (by decide)
   obtain⟨d,ed⟩:∃d,S.ds[0]? =some d:=⟨_,bO (show 0<S.ds.length by omega)⟩;obtain⟨y,ey,ry⟩:=rq.get 0 ed;have jW:=jL (ok.row.it 0 d _ ed eo);subst jW;obtain⟨dJ,gd,gL⟩:=ok.row.ok 0 ns sp eo;have yC:dN ns.length 1000 ns:=⟨rfl,fun z hz=>by have:=dJ.bd z hz;omega,dJ.nz⟩;have DK:=dJ.lead.1;have LM:=vV dJ;have nl3:ns.length<=3:=by rw[dJ.len];omega
   have hd0:S.dn<ak ns:=by
    rcases ok.dn with e'|⟨vy,uP,e1,e2⟩
    ·omega
    ·rw[eo]at e1;cases e1;exact e2
   obtain⟨Rd,Rl⟩:=CZ ok.raw aE cy;refine⟨_,(ah (aH (i:=2) nd rfl (Or.inl rfl) (aJ (aK K rfl) (cE TC.cl TC.n_queue (pv 0)) ag (fun _ _=>rfl))) (ah (aH (i:=3) nd rfl (Or.inl rfl) (pf mJ hr (aa (pv 2) af))) (ah (aH (i:=4) nd rfl (Or.inl rfl) (pf ZO hr (aa (pv 2) af))) (ah (aH (i:=5) nd rfl (Or.inl rfl) (pf ze hr (aa (pv 2) (aa (cE TC.cl TC.n_rate_now (pv 0)) af)))) (ah (aH (i:=6) nd rfl (Or.inl rfl) (pf ZU hr (aa (cE TC.cl TC.n_machine (pv 0)) (aa (cE TC.cl TC.n_queue (pv 0)) (aa (cE TC.cl TC.n_rate_now (pv 0)) af))))) (ah (aH (i:=7) nd rfl (Or.inl rfl) (dF af)) (ah (fW (lG fU (PW.pt (lF (bK iH (aL (x:="len") (cU K rfl) rfl (B.at "len") cY (aa (pv 7) af)) (pv 1) (aX _)) (lF (bK iH (cE TC.cl TC.n_done (pv 0)) (pv 3) (aX _)) (pR (dX (cA (iE EB TC.cl (hr.mono (by decide)) (pv 0)))))))) (ah (aH (i:=8) nd rfl (Or.inl rfl) (vm a1k TC.cl (hr.mono (by decide)) (pv 0) (aa (pv 5) (aa (pv 6) (aa (au fu (pv 3) (cE TC.cl TC.n_done (pv 0))) af))))) (ah (fP (iX K rfl (pv 7) (aa (pf ZP hr (aa (cE TC.cl TC.n_machine (pv 0)) (aa (aJ (aK K rfl) (pv 4) (cE TC.cl TC.n_done (pv 0)) (fun _ _=>rfl)) (aa (pv 8) af)))) af))) (ao (Vo TC.cl TC.n_done (pv 0) ag Zg)))))) (ah (fW (bj (bK (cH K rfl hr.units) (cE TC.cl TC.n_done (pv 0)) (pv 3) (aX _)) (ao (fP (iE EC TC.cl (hr.mono (by decide)) (pv 0)))) bE)) (ao (aG (pv 7))))))))))),?_⟩;refine⟨_,rfl,a,dx,_,_,rfl,e,rfl,.inl ⟨q,_,0,y,rfl,rfl,aw.of eq,cM (fG 0) ey,?_⟩⟩;refine⟨_,rfl,y,ns,sp,rfl,ry,dJ.ne,by omega,fun H1 s1=>?_⟩;refine⟨_,rfl,y,ns,sp,rfl,RD.mono s1 _ ry,yC,by omega,fun lL yr H2 Y5 Nu JY s2=>?_⟩;have iV:=s1.trans s2;refine⟨_,rfl,_,rfl,a,dx,_,_,rfl,iV _ _ e,rfl,y,ns,sp,S.rate,rfl,RD.mono iV _ ry,gd,gL,ok.rt1,ok.rt2,fun pk H3 Uk s3=>?_⟩;have cJ:=iV.trans s3;have e3:=cJ _ _ e;refine⟨_,rfl,a,dx,_,_,rfl,e3,rfl,_,rfl,a,dx,_,_,rfl,e3,rfl,_,rfl,a,dx,_,_,rfl,e3,rfl,mv,.ref q,S.rate,M.rs,M.r,M.f,M.j,M.t,S.ds,S.os,rfl,RD.mono cJ _ r1,aE,nY (aw.of (cJ _ _ eq)) (ay.mono cJ _ rq),ok.row,by omega,by omega,ok.rt1,ok.rt2,fun pQ H4 Us s4=>?_⟩;have gY:=cJ.trans s4;refine⟨bM _ (bR rfl),fun l H5 n5=>?_⟩;have lB:=gY.trans n5.same;have kE:ai H2 H5:=s3.trans (s4.trans n5.same);have nl:H l=none:=by cases e':H l with |none=>rfl |some o=>have:=gY _ _ e';rw[n5.no]at this;cases this
   have L3:H lL=none:=by cases e':H lL with |none=>rfl |some o=>have:=s1 _ _ e';rw[Y5]at this;cases this
   have al:a≠l:=fun z=>by rw[<-z,e]at nl;cases nl
   have ql:q≠l:=fun z=>by rw[<-z,eq]at nl;cases nl
   have Og:a≠lL:=fun z=>by rw[<-z,e]at L3;cases L3
   have YK:l≠lL:=fun z=>by have:=n5.no;rw[z,(s3.trans s4) _ _ Nu]at this;cases this
   have RC:=JY.length;rw[CP]at RC;have td:=AA S.rate sp;have tl:=xQ gd gL ok.rt1 ok.rt2;have tp:=GX gd ok.rt1;have XT:ff ns S=S:=by unfold ff;rw[aV (by omega)]
   have kz:sizeLine=16777216:=by decide
   refine⟨fun σ H6=>∃T es us w8,σ=[some (.ref a),some (.int most),some y,some (.int (ak ns)),some (.ref lL),some pk,some pQ,some (.ref l),w8]/\bI [a,l] H5 H6/\cn K C H6 a q M T/\jr M D T/\T.os=S.os/\T.ds=S.ds/\T.rate=S.rate/\T.dn<=ak ns/\1<=es.length/\(es.length:Int)<=most/\H6 l=some (.lst us)/\ay K H6 us es/\cm es=true/\Run M S es (ff ns T),?_,?_⟩
   · refine kY (fun σ H6=>∃T es us w8,σ=[some (.ref a),some (.int most),some y,some (.int (ak ns)),some (.ref lL),some pk,some pQ,some (.ref l),w8]/\bI [a,l] H5 H6/\cn K C H6 a q M T/\jr M D T/\T.os=S.os/\T.ds=S.ds/\T.rate=S.rate/\T.dn=S.dn+es.length/\T.dn<=ak ns/\(es.length:Int)<=most/\H6 l=some (.lst us)/\ay K H6 us es/\cm es=true/\Run M S es (ff ns T)/\(es=[]->¬Halt T.pc T.stp)) (fun _ H6=>match H6 l with|some (.lst us)=>2000-us.length|_=>0) ?_ ?_ ?_
     ·exact⟨S,[],[],none,rfl,bI.refl _ _,R0.same ok.row.no lB,ok.raw,rfl,rfl,rfl,rfl,by omega,by simp;omega,n5.at',cQ,rfl,by rw[XT];exact .nil _,fun _=>nh⟩
     · rintro σ H6 ⟨T,es,us,w8,rfl,bt,RT,raw,gy,zE,tV,edn,Mo,jO,dl,rd,gx,run,hnh⟩
       have lu:=rd.length;obtain⟨qK,Yf,bv6,VU,RZ,e6,t1,t2,t3,t4⟩:=RT.ob;have nO:bG H5 H6:=bt.v fun x hx o' cB=>by
        simp only[bW,da,dB]at hx;rcases hx with rfl|rfl
        ·rw[lB _ _ e]at cB;cases cB;trivial
        ·rw[n5.at']at cB;cases cB;trivial
       have XZ:cm T.ds=true:=by rw[zE];exact ok.row.no
       have oF:1<=es.length->∃T' j4 gc xI,[some (.ref a),some (.int most),some y,some (.int (ak ns)),some (.ref lL),some pk,some pQ,some (.ref l),w8]=[some (.ref a),some (.int most),some y,some (.int (ak ns)),some (.ref lL),some pk,some pQ,some (.ref l),xI]/\bI [a,l] H5 H6/\cn K C H6 a q M T'/\jr M D T'/\T'.os=S.os/\T'.ds=S.ds/\T'.rate=S.rate/\T'.dn<=ak ns/\1<=j4.length/\(j4.length:Int)<=most/\H6 l=some (.lst gc)/\ay K H6 gc j4/\cm j4=true/\Run M S j4 (ff ns T'):=fun h1=>⟨T,es,us,w8,rfl,bt,RT,raw,gy,zE,tV,Mo,h1,jO,dl,rd,gx,run⟩;refine⟨_,rfl,l,us,rfl,.inl (aw.of dl),_,rfl,_,_,rfl,rfl,_,rfl,?_⟩;show if decide ((us.length:Int)<most)=true then _ else _;by_cases c1:(us.length:Int)<most
       · rw[cw c1]
         refine bF ?_;refine⟨_,rfl,a,qK,_,_,rfl,e6,rfl,_,rfl,_,_,rfl,rfl,_,rfl,?_⟩;show if decide ((T.dn:Int)<(ak ns:Int))=true then _ else _;by_cases c2:T.dn<ak ns
         · rw[cw (by omega)]
           refine bF ?_;have KU:bQ M D T:=raw.ok (.inr ⟨ns,sp,by rw[gy];exact eo,c2⟩);have XS:ff ns T=T:=by unfold ff;rw[aV (by omega)]
           refine⟨_,rfl,a,qK,_,rfl,e6,rfl,a,q,M,D,T,rfl,RT,KU,aE,_,rfl,?_⟩;by_cases c3:Halt T.pc T.stp
           · have hb:(T.stp.isSome&&decide (T.pc=0))=true:=by obtain⟨h1,h2⟩:=c3;rw[cw h2,Bool.and_true];cases hs:T.stp with |none=>exact(h1 hs).elim |some _=>rfl
             rw[hb];refine bf ?_;refine oF ?_;cases es with |nil=>exact(hnh rfl c3).elim |cons _ _=>simp
           · have hb:(T.stp.isSome&&decide (T.pc=0))=false:=by cases hs:T.stp with |none=>rfl |some _=>show decide (T.pc=0)=false;exact eu fun h2=>c3 ⟨by rw[hs];simp,h2⟩
             rw[hb];refine bF ?_;have rT:eK M T=eK M S:=by unfold eK;rw[gy,tV]
             refine⟨_,rfl,a,qK,_,rfl,e6,rfl,?_⟩;refine⟨_,rfl,_,rfl,_,rfl,_,rfl,a,qK,_,_,rfl,e6,rfl,_,_,rfl,rfl,?_⟩;have Uj:aR K H6 pk (topR S.rate sp):=((Uk.go s4).go n5.same).v nO;have Ur:aR K H6 pQ (eK M S):=(Us.go n5.same).v nO;refine⟨a,q,M,D,T,pk,pQ,topR S.rate sp,eK M S,_,rfl,RT,KU,aE,Uj,td,tl,Ur,Rd,Rl,by omega,by omega,c3,fun mid H7 UA R7 b7=>?_⟩;obtain⟨oG,jk,zO,yx,xN,e7',Hk,SN,SM,SK⟩:=R7.ob;have e7:H7 a=some (.ins C oG (fq jk zO (.int T.dn) (.ref q) yx (.int T.rate) (.str T.side) (.str T.mark) xN)):=e7';have kZ:bG H6 H7:=b7.v fun x hx o' cB=>by rw[cf]at hx;rw[hx,e6]at cB;cases cB;trivial
             have zI:=b7 _ _ dl (by rw[cf];exact al.symm);have a2T:=kE _ _ Nu;have a2S:=bt _ _ a2T (by simp;exact⟨Og.symm,YK.symm⟩);have a2R:=b7 _ _ a2S (by rw[cf];exact Og.symm);have UD:ay K H7 yr (ml ns):=ay.v kZ _ (CO ns) (ay.v nO _ (CO ns) (ay.mono kE _ JY));obtain⟨rv,N3⟩:∃rv,yr[T.dn]? =some rv:=⟨_,bO (show T.dn<yr.length by omega)⟩;obtain⟨dr,Nj,UQ⟩:=UD.get' T.dn N3;rw[JX c2]at Nj;cases Nj;have mB:Bd 2000 (kr M.r M.f T.pc (topR S.rate sp) (eK M S) ((ak ns:Int)-T.dn) T.stp):=by have D1:=raw.D1;have D2:=raw.D2;exact((Lo (by omega) (by omega) (by omega) raw.pd (td.mono (by omega)) (Rd.mono (by omega)) raw.stp c3).bd (dc Ll (dc tl (by decide+kernel)))).mono (by omega)
             have mP:0<kr M.r M.f T.pc (topR S.rate sp) (eK M S) ((ak ns:Int)-T.dn) T.stp:=Lm yn.1 oE.1 (by omega) raw.pd.nn tp Rd.nn raw.stp c3;refine⟨_,rfl,.inl ⟨rfl,_,aw.of zI⟩,?_⟩;refine⟨_,rfl,a,oG,_,_,rfl,e7,rfl,?_⟩;refine⟨_,rfl,_,rfl,a,oG,_,_,rfl,e7,rfl,.inl ⟨lL,_,_,_,rfl,rfl,aw.of a2R,cM (show(0:Int)<=(T.dn:Int) by omega) (by simpa using N3),?_⟩⟩;refine⟨_,rfl,jk,rv,mid,M.rs,M.r,M.f,M.j,M.t,gf ns T.dn,_,rfl,Hk,aE,UQ,UA,mB,mP,fun ent H8 UO s8=>?_⟩;have oH:=s8 _ _ zI;refine⟨l,us,_,rfl,rfl,oH,by omega,?_⟩;have e8:(L2.upd H8 l (.lst (us++[ent]))) a=some (.ins C oG (fq jk zO (.int T.dn) (.ref q) yx (.int T.rate) (.str T.side) (.str T.mark) xN)):=by rw[az al];exact s8 _ _ e7
             refine⟨_,rfl,a,oG,_,_,rfl,e8,rfl,_,_,rfl,rfl,oG,_,e8,by show 9<1000;decide,?_⟩;have vl:bG H8 (L2.upd H8 l (.lst (us++[ent]))):=.upd oH trivial;have va:bG (L2.upd H8 l (.lst (us++[ent]))) (L2.upd (L2.upd H8 l (.lst (us++[ent]))) a (.ins C oG (fq jk zO (.int ((T.dn:Int)+1)) (.ref q) yx (.int T.rate) (.str T.side) (.str T.mark) xN))):=.upd e8 trivial;have v7:=(s8.v.trans vl).trans va;have eS:eO M T ns sp={Dt M T (topR S.rate sp) (eK M S) ((ak ns:Int)-T.dn)with dn:=T.dn+1}:=by unfold eO;rw[rT,tV]
             have eE:lM M T ns sp=m9 M.t (gf ns T.dn) (kr M.r M.f T.pc (topR S.rate sp) (eK M S) ((ak ns:Int)-T.dn) T.stp):=by unfold lM DM;rw[rT,tV]
             have a02:One M T (lM M T ns sp) (ff ns (eO M T ns sp)):=.line (by rw[gy];exact eo) c3;obtain⟨yq,eq7,Uu⟩:=R7.qu;have Dw:cm (es++[lM M T ns sp])=true:=gq.mpr fun d hd=>by
              rcases xt.mp hd with h|h
              ·exact gq.mp gx d h
              ·rw[cf]at h;rw[h];exact AI _ _ _
             have q7l:q≠l:=ql;refine⟨⟨eO M T ns sp,es++[lM M T ns sp],us++[ent],_,rfl,fun b o' eb hb=>?_,?_,LB raw aE (by rw[gy];exact eo) c2 c3,gy,zE,tV,?_,?_,?_,?_,?_,?_,?_,fun z=>by simp at z⟩,?_⟩
             · have ha:b≠a:=fun z=>hb (by rw[z];simp)
               have dw:b≠l:=fun z=>hb (by rw[z];simp);rw[az ha,az dw];exact s8 _ _ (b7 _ _ (bt _ _ eb hb) (by rw[cf];exact ha))
             · rw[eS]
               refine⟨⟨oG,jk,zO,yx,xN,?_,RD.v v7 _ (gP _ _ _ _ _) Hk,RD.v v7 _ (gh _) SN,SM.v v7,SK.v v7⟩,yq,?_,ay.v v7 _ XZ Uu⟩
               ·exact aO
               ·rw[az aq.symm,az ql];exact s8 _ _ eq7
             · show T.dn+1=_
               rw[eZ];show _=_+(_+1);omega
             · show T.dn+1<=_
               omega
             ·rw[eZ];show((es.length+1:Nat):Int)<=most;omega
             ·rw[az al.symm,aO]
             · refine ay.v va _ Dw (ay.v vl _ Dw ?_)
               have r7:ay K H8 us es:=ay.mono s8 _ (ay.v kZ _ gx rd);refine r7.append (cj ?_ cQ);rw[eE];exact UO
             ·exact Dw
             · rw[XS]at run
               exact run.snoc a02
             · show(match(L2.upd (L2.upd H8 l (.lst (us++[ent]))) a _) l with|some (.lst us)=>2000-us.length|_=>0)<(match H6 l with|some (.lst us)=>2000-us.length|_=>0)
               rw[az al.symm,aO,dl];show 2000-(us++[ent]).length<2000-us.length;rw[eZ];show 2000-(us.length+1)<_;omega
         · rw[eu (by omega)]
           refine bf ?_;exact oF (by omega)
       · rw[eu c1]
         refine bf ?_;exact oF (by omega)
     · rintro σ H6 Q1 Q2 hq ⟨v1,f1,l',gc,f2,f3,v2,f4,i1,i2,f5,f6,b1,f7,h⟩
       refine⟨v1,f1,l',gc,f2,f3,v2,f4,i1,i2,f5,f6,b1,f7,wa ?_ (hq _ _) h⟩;rintro⟨v3,f8,a',qM,lQ,u',f9,wH,wG,v4,EZ,i3,i4,EY,EX,b2,wF,h⟩;refine⟨v3,f8,a',qM,lQ,u',f9,wH,wG,v4,EZ,i3,i4,EY,EX,b2,wF,wa ?_ (hq _ _) h⟩;rintro⟨v5,EW,a2,qL,EG,EV,EU,ET,a3,q3,M3,D3,S3,ES,ER,EO,EN,b3,EM,h⟩;exact⟨v5,EW,a2,qL,EG,EV,EU,ET,a3,q3,M3,D3,S3,ES,ER,EO,EN,b3,EM,hq _ _ h⟩
   · rintro σ H6 ⟨T,es,us,w8,rfl,bt,RT,raw,gy,zE,tV,Mo,h1,jO,dl,rd,gx,run⟩
     obtain⟨qK,Yf,bv6,VU,RZ,e6,t1,t2,t3,t4⟩:=RT.ob;have a0b:T.os≠[]:=by rw[gy];exact cy
     have bH:∀{H7:Hp},bI [a] H6 H7->bI [a,q] H H7:=fun{H7} b7 b o' eb hb=>by
      have ha:b≠a:=fun z=>hb (by rw[z];simp);refine b7 _ _ (bt _ _ (lB _ _ eb) fun hm=>?_) (by rw[cf];exact ha);simp only[bW,da,dB]at hm;rcases hm with h|h
      ·exact ha h
      ·rw[h,nl]at eb;cases eb
     refine⟨fun σ H7=>∃q' xI,σ=[some (.ref a),some (.int most),some y,some (.int (ak ns)),some (.ref lL),some pk,some pQ,some (.ref l),xI]/\cn K C H7 a q' M (ff ns T)/\Mv a q H q' H7/\l≠q'/\∃gc,H7 l=some (.lst gc)/\ay K H7 gc es,?_,?_⟩
     · refine⟨_,rfl,a,qK,_,_,rfl,e6,rfl,_,rfl,.inl ⟨_,_,rfl,rfl,_,rfl,?_⟩⟩
       show if decide ((T.dn:Int)=(ak ns:Int))=true then _ else _;by_cases c:T.dn=ak ns
       · rw[cw (by omega)]
         refine bF ?_;refine⟨_,rfl,a,qK,_,rfl,e6,rfl,a,q,M,D,T,rfl,RT,raw,aE,a0b,fun q' H7 R7 nq b7=>?_⟩;have kZ:bG H6 H7:=b7.v fun x hx o' cB=>by rw[cf]at hx;rw[hx,e6]at cB;cases cB;trivial
         refine⟨q',_,rfl,by unfold ff;rw[aP c];exact R7,⟨bH b7,.inr ?_⟩,fun z=>?_,us,b7 _ _ dl (by rw[cf];exact al.symm),ay.v kZ _ gx rd⟩
         ·cases e':H q' with |none=>rfl |some o'=>
             have h5:=lB _ _ e';by_cases ha:q'=a
             ·rw[ha,e6]at nq;cases nq
             · by_cases dw:q'=l
               ·rw[dw,nl]at e';cases e'
               · have:=bt _ _ h5 (by simp;exact⟨ha,dw⟩)
                 rw[nq]at this;cases this
         ·rw[<-z,dl]at nq;cases nq
       · rw[eu (by omega)]
         refine bf ?_;exact⟨q,_,rfl,by unfold ff;rw[aV c];exact RT,⟨bH (bI.refl _ _),.inl rfl⟩,ql.symm,us,dl,rd⟩
     · rintro σ H7 ⟨q',xI,rfl,R7,jk,lq,gc,zI,UT⟩
       exact⟨_,rfl,k l gc es (ff ns T) q' H7 nl zI UT run h1 jO R7 jk lq⟩
theorem Mv.trans{a q q1 q2:Addr}{H H1 H2:Hp}(m1:Mv a q H q1 H1)(m2:Mv a q1 H1 q2 H2)(ha:H1 a≠none):Mv a q H q2 H2:=by
 refine⟨fun b o e hb=>?_,?_⟩
 · refine m2.but _ _ (m1.but _ _ e hb) fun hm=>?_
   simp only[bW,da,dB]at hm hb;rcases hm with h|h
   ·exact hb (.inl h)
   · rcases m1.nq with h1|h1
     ·exact hb (.inr (h.trans h1))
     ·rw[<-h]at h1;rw[h1]at e;cases e
 · rcases m2.nq with h|h
   ·rw[h];exact m1.nq
   ·cases e:H q2 with |none=>exact .inr rfl |some o=>
       by_cases h1:q2=q
       ·exact .inl h1
       · by_cases h2:q2=a
         ·rw[h2]at h;exact(ha h).elim
         · have:=m1.but _ _ e (by simp;exact⟨h2,h1⟩)
           rw[h]at this;cases this
inductive Pp(K:a5w)(C:Addr)(vs:List V)(H:Hp)(Q:VK):Prop |mk (a:_)(q:_)(M:_)(D:_)(S:_)(most:_)(h0:vs=[.ref a,.int most])(h1:cn K C H a q M S)(h2:bQ M D S)(h3:M.Ok)(h4:S.os≠[])(h5:¬Halt S.pc S.stp)(h6:1<=most)(h7:most<=1000)(h8:∀l ys es S' q' H',H l=none->H' l=some (.lst ys)->ay K H' ys es->Run M S es S'->1<=es.length->(es.length:Int)<=most->cn K C H' a q' M S'->Mv a q H q' H'->l≠q'->Q (.ref l) H'):Pp K C vs H Q
def Ie(K:a5w)(C:Addr):Sp:=fun vs H Q _=>Pp K C vs H Q
abbrev BN:Stmt:=inClass (top 61) 13
theorem Ja:bc ["self","most","item"] ["self","most"] (aM BN):=bh (by decide+kernel)
theorem X1{C:Addr}(F:MA K C "entries_of_first" "Runner.entries_of_first" BN)(TC:fM K C)(om:aj P w K mg base "is_line" 1 (rL K))(a1g:cI P w K mg base C "steps_of_first" 10 (HU K C))(EC:cI P w K mg base C "end_first" 3 (AR K C)):cI P w K mg base C "entries_of_first" 11 (Ie K C):=by
 refine F.has Ja (fun vs H Q E h=>?_) (fun _ _ _ _ _ _=>cP fun _ _=>rfl) (fun f aD A outer s H vs Q E hr h=>?_)
 · obtain⟨a,q,M,D,S,most,rfl,_⟩:=h
   rfl
 · obtain⟨a,q,M,D,S,most,rfl,R0,ok,aE,cy,nh,m1,m2,k⟩:=h
   obtain⟨dx,mv,bv,bV,tv,e,r1,r2,r3,r4⟩:=R0.ob;obtain⟨ys,eq,rq⟩:=R0.qu;have aq:=R0.ne;have nd:=Ja.nd;have ll:=ok.row.len;have mK:0<S.os.length:=by cases h:S.os with|nil=>exact(cy h).elim|cons _ _=>simp
   obtain⟨d,ed⟩:∃d,S.ds[0]? =some d:=⟨_,bO (show 0<S.ds.length by omega)⟩;obtain⟨y,ey,ry⟩:=rq.get 0 ed;obtain⟨o,eo,it⟩:=ok.row.get ed;refine⟨_,(ah (aH (i:=2) nd rfl (Or.inl rfl) (aJ (aK K rfl) (cE TC.cl TC.n_queue (pv 0)) ag (fun _ _=>rfl))) (ah (bj (cA (pf om hr (aa (pv 2) af))) (ao (aG (vm a1g TC.cl (hr.mono (by decide)) (pv 0) (aa (pv 1) af)))) bE) (ah (fW (bj (bK (cH K rfl hr.units) (aJ (aK K rfl) (pv 2) ag (fun _ _=>rfl)) aU (aX _)) (ao (gO TC.cl TC.n_side (pv 0) (aJ (aK K rfl) (pv 2) ag (fun _ _=>rfl)))) bE)) (ah (fW (bj (bK (cH K rfl hr.units) (aJ (aK K rfl) (pv 2) ag (fun _ _=>rfl)) aU (aX _)) (ao (gO TC.cl TC.n_mark (pv 0) (aJ (aK K rfl) (pv 2) ag (fun _ _=>rfl)))) bE)) (ah (fP (iE EC TC.cl (hr.mono (by decide)) (pv 0))) (ao (aG (dF (aa (pv 2) af))))))))),?_⟩;refine⟨_,rfl,a,dx,_,_,rfl,e,rfl,.inl ⟨q,_,0,y,rfl,rfl,aw.of eq,cM (fG 0) ey,?_⟩⟩;refine⟨_,rfl,y,d,o,rfl,ry,it,_,rfl,?_⟩;cases o with |some z=>obtain⟨ns,sp⟩:=z;refine bF ?_;exact⟨_,rfl,a,dx,_,rfl,e,rfl,_,rfl,a,q,M,D,S,ns,sp,most,rfl,R0,ok,aE,eo,nh,m1,m2,k⟩ |none=>
     refine bf ?_;have ij:=ok.rw 0 d eo ed;have wd:∃z u ya yr,d= .tuple [.str z,u]/\y= .ref ya/\aB K H ya (.str z::[yr])/\RD K H yr u/\SeqAt.shaped (.str z)=true:=by
      rcases ij with⟨n,rfl,_⟩|⟨w',s',rfl,hw,_⟩
      · obtain⟨ya,xs,rfl,h1,h2⟩:=ry.dv
        obtain⟨x1,rr,rfl,e1,h2⟩:=h2.cons_inv;obtain⟨x2,rr,rfl,e2,h2⟩:=h2.cons_inv;cases h2.nil_inv;cases e1.str_inv;exact⟨_,_,ya,x2,rfl,rfl,h1,e2,by decide+kernel⟩
      · obtain⟨ya,xs,rfl,h1,h2⟩:=ry.dv
        obtain⟨x1,rr,rfl,e1,h2⟩:=h2.cons_inv;obtain⟨x2,rr,rfl,e2,h2⟩:=h2.cons_inv;cases h2.nil_inv;cases e1.str_inv;exact⟨_,_,ya,x2,rfl,rfl,h1,e2,by rcases hw with rfl|rfl<;>decide+kernel⟩
     obtain⟨z,u,ya,yr,rfl,rfl,wc,JU,sz⟩:=wd;have tU:SeqAt.shaped (.str "tool")=true:=by decide+kernel
     have tM:SeqAt.shaped (.str "mark")=true:=by decide+kernel
     have eqT:∀(x y:Str),PyData.eqv (.str x) (.str y)=decide (x=y):=fun x y=>by show(x==y)=decide (x=y);rw[m6];simp
     refine⟨fun σ H1=>σ=[some (.ref a),some (.int most),some (.ref ya)]/\bI [a] H H1/\H1 a=some (.ins C dx (fq mv bv (.int S.dn) (.ref q) bV (.int S.rate) (.str (if z="tool" then(bN (.tuple [.str z,u]) S).side else S.side)) (.str S.mark) tv)),?_,?_⟩
     · refine⟨_,rfl,.inr ⟨ya,_,0,.str z,rfl,rfl,wc,cM (fG 0) rfl,.inr ⟨_,_,dD _,dD _,sz,tU,_,rfl,?_⟩⟩⟩
       rw[eqT];by_cases c:z="tool"
       · rw[cw c]
         refine bF ?_;have hu:∃s',u= .str s':=by
          rcases ij with⟨n,h,_⟩|⟨w',s',h,hw,_⟩
          ·cases h;exact absurd c (by decide+kernel)
          ·cases h;exact⟨_,rfl⟩
         obtain⟨s',rfl⟩:=hu;cases JU.str_inv;refine⟨_,rfl,.inr ⟨ya,_,1,.str s',rfl,rfl,wc,cM (by decide) rfl,_,rfl,a,dx,_,rfl,e,by show 9<1000;decide,?_⟩⟩;refine⟨rfl,qP (by simp),?_⟩;rw[aP c];have es:(bN (.tuple [.str z,.str s']) S).side=s':=by unfold bN;simp only[aP c]
         rw[es];exact aO
       · rw[eu c]
         refine bf ⟨rfl,bI.refl _ _,?_⟩;rw[aV c];exact e
     rintro σ H1 ⟨rfl,b1,e1⟩;have RS:bG H H1:=b1.v fun x hx o' cB=>by rw[cf]at hx;rw[hx,e]at cB;cases cB;trivial
     have M6:=aB.v RS wc;refine⟨fun σ H2=>σ=[some (.ref a),some (.int most),some (.ref ya)]/\bI [a] H H2/\H2 a=some (.ins C dx (fq mv bv (.int S.dn) (.ref q) bV (.int S.rate) (.str (bN (.tuple [.str z,u]) S).side) (.str (bN (.tuple [.str z,u]) S).mark) tv)),?_,?_⟩
     · refine⟨_,rfl,.inr ⟨ya,_,0,.str z,rfl,rfl,M6,cM (fG 0) rfl,.inr ⟨_,_,dD _,dD _,sz,tM,_,rfl,?_⟩⟩⟩
       rw[eqT];by_cases c:z="mark"
       · rw[cw c]
         refine bF ?_;have nt:¬z="tool":=by rw[c];decide+kernel
         rw[aV nt]at e1;have hu:∃s',u= .str s':=by
          rcases ij with⟨n,h,_⟩|⟨w',s',h,hw,_⟩
          ·cases h;exact absurd c (by decide+kernel)
          ·cases h;exact⟨_,rfl⟩
         obtain⟨s',rfl⟩:=hu;cases JU.str_inv;refine⟨_,rfl,.inr ⟨ya,_,1,.str s',rfl,rfl,M6,cM (by decide) rfl,_,rfl,a,dx,_,rfl,e1,by show 9<1000;decide,?_⟩⟩;refine⟨rfl,b1.trans (qP (by simp)),?_⟩;have es:(bN (.tuple [.str z,.str s']) S).side=S.side/\(bN (.tuple [.str z,.str s']) S).mark=s':=by constructor<;>(unfold bN;simp only[aV nt,aP c])
         rw[es.1,es.2];exact aO
       · rw[eu c]
         refine bf ⟨rfl,b1,?_⟩;have em:(bN (.tuple [.str z,u]) S).mark=S.mark:=by
          unfold bN;split
          · next h => cases h;split
                      ·rfl
                      ·first|rfl|rw[aV c]
          ·rfl
         have es:(if z="tool" then(bN (.tuple [.str z,u]) S).side else S.side)=(bN (.tuple [.str z,u]) S).side:=by
          by_cases c2:z="tool"
          ·rw[aP c2]
          · rw[aV c2]
            unfold bN;split
            ·next h=>cases h;first|rfl|rw[aV c2,aV c]
            ·rfl
         rw[es]at e1;rw[em];exact e1
     rintro σ H2 ⟨rfl,b2,e2⟩;have uD:bG H H2:=b2.v fun x hx o' cB=>by rw[cf]at hx;rw[hx,e]at cB;cases cB;trivial
     obtain⟨K7,fe,ds',dn',Vw⟩:=B7 ok.raw (.tuple [.str z,u]);have fx:(bN (.tuple [.str z,u]) S).pc=S.pc/\(bN (.tuple [.str z,u]) S).rate=S.rate/\(bN (.tuple [.str z,u]) S).stp=S.stp:=by
      unfold bN;split
      · split
        ·exact⟨rfl,rfl,rfl⟩
        ·split<;>exact⟨rfl,rfl,rfl⟩
      ·exact⟨rfl,rfl,rfl⟩
     have R2:cn K C H2 a q M (bN (.tuple [.str z,u]) S):=by
      refine⟨⟨dx,mv,bv,bV,tv,?_,RD.v uD _ (gP _ _ _ _ _) r1,?_,?_,?_⟩,ys,b2 _ _ eq (by rw[cf];exact aq.symm),?_⟩
      ·rw[dn',fx.2.1];exact e2
      ·rw[Vw];exact RD.v uD _ (gh _) r2
      ·rw[fx.1];exact r3.v uD
      ·rw[fx.2.2];exact r4.v uD
      ·rw[ds'];exact ay.v uD _ ok.row.no rq
     refine⟨_,rfl,a,dx,_,rfl,e2,rfl,a,q,M,D,_,rfl,R2,K7,aE,by rw[fe];exact cy,fun q' H3 R3 nq b3=>?_⟩;have Fz:=b2.trans b3;have RR:bG H H3:=Fz.v fun x hx o' cB=>by rw[cf]at hx;rw[hx,e]at cB;cases cB;trivial
     have vz:H q'=none:=by cases e':H q' with |none=>rfl |some o'=>
        by_cases ha:q'=a
        ·rw[ha,e2]at nq;cases nq
        · have:=b2 _ _ e' (by rw[cf];exact ha)
          rw[nq]at this;cases this
     refine⟨_,rfl,bM _ (bR rfl),fun l H4 n4=>?_⟩;have nl:H l=none:=by cases e':H l with |none=>rfl |some o'=>
        by_cases ha:l=a
        · obtain⟨dx3,_,_,_,_,e3,_⟩:=R3.ob
          have:=n4.no;rw[ha,e3]at this;cases this
        · have:=Fz _ _ e' (by rw[cf];exact ha)
          rw[n4.no]at this;cases this
     have ko:bQ M D (j5 (bN (.tuple [.str z,u]) S)):=K7.end (by rw[fe];exact cy);refine k l [.ref ya] [.tuple [.str z,u]] _ q' H4 nl n4.at' (cj (RD.v (RR.trans n4.same.v) _ (gq.mp ok.row.no _ (g9 ed)) ry) cQ) (.cons (.ij eo ed nh) (.nil _)) (by simp) (by simpa using m1) (R3.same ko.row.no n4.same) ⟨fun b o' eb hb=>n4.same _ _ (Fz _ _ eb (by rw[cf];intro h;exact hb (by rw[h];simp))),.inr vz⟩ ?_;intro h;have:=n4.no;obtain⟨yq,eq3,_⟩:=R3.qu;rw[h,eq3]at this;cases this
inductive Pq(K:a5w)(C:Addr)(vs:List V)(H:Hp)(Q:VK):Prop |mk (a:_)(q:_)(M:_)(D:_)(S:_)(n:_)(h0:vs=[.ref a,.int n])(h1:cn K C H a q M S)(h2:bQ M D S)(h3:M.Ok)(h4:0<=n)(h5:n<=1000)(h6:∀l ys es S' q' H',H l=none->H' l=some (.lst ys)->ay K H' ys es->Run M S es S'->(es.length:Int)<=n->((es.length:Int)=n\/S'.os=[]\/Halt S'.pc S'.stp)->cn K C H' a q' M S'->Mv a q H q' H'->l≠q'->Q (.ref l) H'):Pq K C vs H Q
def Ig(K:a5w)(C:Addr):Sp:=fun vs H Q _=>Pq K C vs H Q
abbrev BO:Stmt:=inClass (top 61) 12
theorem Jb:bc ["self","n","told"] ["self","n"] (aM BO):=bh (by decide+kernel)
theorem X2{C:Addr}(F:MA K C "entries" "Runner.entries" BO)(TC:fM K C)(B:bB mg)(EB:cI P w K mg base C "is_halted" 2 (fO K C fun _ S H Q=>Q (.bl (S.stp.isSome&&decide (S.pc=0))) H))(a1p:cI P w K mg base C "entries_of_first" 11 (Ie K C)):cI P w K mg base C "entries" 12 (Ig K C):=by
 refine F.has Jb (fun vs H Q E h=>?_) (fun _ _ _ _ _ _=>cP fun _ _=>rfl) (fun f aD A outer s H vs Q E hr h=>?_)
 · obtain⟨a,q,M,D,S,n,rfl,_⟩:=h
   rfl
 · obtain⟨a,q,M,D,S,n,rfl,R0,ok,aE,n0,n1,k⟩:=h
   have nd:=Jb.nd;refine⟨_,(ah (aH (i:=2) nd rfl (Or.inl rfl) (dF af)) (ah (fW (lG fU (PW.pt (lF (bK iH (aL (x:="len") (cU K rfl) rfl (B.at "len") cY (aa (pv 2) af)) (pv 1) (aX _)) (lF (D9 K rfl (cE TC.cl TC.n_queue (pv 0))) (pR (dX (cA (iE EB TC.cl (hr.mono (by decide)) (pv 0)))))))) (ao (fP (VO K rfl (pv 2) (aa (vm a1p TC.cl (hr.mono (by decide)) (pv 0) (aa (au fu (pv 1) (aL (x:="len") (cU K rfl) rfl (B.at "len") cY (aa (pv 2) af))) af)) af)))))) (ao (aG (pv 2))))),?_⟩;refine⟨bM _ (bR rfl),fun l H1 nw=>?_⟩;obtain⟨dx,mv,bv,bV,tv,e,r1,r2,r3,r4⟩:=R0.ob;obtain⟨ys,eq,rq⟩:=R0.qu;have al:a≠l:=fun z=>by have:=nw.no;rw[<-z,e]at this;cases this
   have ql:q≠l:=fun z=>by have:=nw.no;rw[<-z,eq]at this;cases this
   have hq0:H q≠none:=by rw[eq];simp
   have ha0:H a≠none:=by rw[e];simp
   refine⟨fun σ H2=>∃es S' q' us,σ=[some (.ref a),some (.int n),some (.ref l)]/\cn K C H2 a q' M S'/\H2 l=some (.lst us)/\ay K H2 us es/\Run M S es S'/\(es.length:Int)<=n/\((es.length:Int)=n\/S'.os=[]\/Halt S'.pc S'.stp)/\Mv a q H q' H2/\l≠q',?_,?_⟩
   · refine kY (fun σ H2=>∃es S' q' us,σ=[some (.ref a),some (.int n),some (.ref l)]/\cn K C H2 a q' M S'/\H2 l=some (.lst us)/\ay K H2 us es/\Run M S es S'/\(es.length:Int)<=n/\Mv a q H q' H2/\l≠q') (fun _ H2=>match H2 l with|some (.lst us)=>2000-us.length|_=>0) ?_ ?_ ?_
     ·exact⟨[],S,q,[],rfl,R0.same ok.row.no nw.same,nw.at',cQ,.nil _,by simpa using n0,⟨.of nw.same,.inl rfl⟩,ql.symm⟩
     · rintro σ H2 ⟨es,S',q',us,rfl,R2,dl,rd,run,jO,sR,lq⟩
       have iq:=run.ok ok aE;have gx:=run.no ok aE;have lu:=rd.length;obtain⟨qL,mv2,bv2,a4w,tv2,e2,t1,t2,t3,t4⟩:=R2.ob;obtain⟨yq,eq2,Uv⟩:=R2.qu;have sT:=Uv.length;have vT:=iq.row.len;refine⟨_,rfl,l,us,rfl,.inl (aw.of dl),_,rfl,_,_,rfl,rfl,_,rfl,?_⟩;show if decide ((us.length:Int)<n)=true then _ else _;by_cases c1:(us.length:Int)<n
       · rw[cw c1]
         refine bF ?_;refine⟨_,rfl,a,qL,_,_,rfl,e2,rfl,_,.inl ⟨_,aw.of eq2,rfl⟩,?_⟩;cases iM:S'.os with |nil=>have:yq=[]:=Al.mp (by rw[sT,vT,iM];rfl);subst this;refine bf ?_;exact⟨es,S',q',us,rfl,R2,dl,rd,run,jO,.inr (.inl iM),sR,lq⟩ |cons o os=>
           have cy:S'.os≠[]:=by rw[iM];simp
           have:∃y yr,yq=y::yr:=by cases yq with |nil=>rw[vT,iM]at sT;simp at sT |cons y yr=>exact⟨y,yr,rfl⟩
           obtain⟨y,yr,rfl⟩:=this;refine bF ?_;refine⟨_,rfl,a,qL,_,rfl,e2,rfl,a,q',M,D,S',rfl,R2,iq,aE,_,rfl,?_⟩;by_cases c3:Halt S'.pc S'.stp
           · have hb:(S'.stp.isSome&&decide (S'.pc=0))=true:=by obtain⟨h1,h2⟩:=c3;rw[cw h2,Bool.and_true];cases hs:S'.stp with |none=>exact(h1 hs).elim |some _=>rfl
             rw[hb];exact bf ⟨es,S',q',us,rfl,R2,dl,rd,run,jO,.inr (.inr c3),sR,lq⟩
           · have hb:(S'.stp.isSome&&decide (S'.pc=0))=false:=by cases hs:S'.stp with |none=>rfl |some _=>show decide (S'.pc=0)=false;exact eu fun h2=>c3 ⟨by rw[hs];simp,h2⟩
             rw[hb];refine bF ?_;refine⟨_,rfl,.inl ⟨rfl,_,aw.of dl⟩,?_⟩;refine⟨_,rfl,a,qL,_,rfl,e2,rfl,_,rfl,_,rfl,l,us,rfl,.inl (aw.of dl),_,_,rfl,rfl,?_⟩;refine⟨a,q',M,D,S',_,rfl,R2,iq,aE,cy,c3,by omega,by omega,fun l2 y2 fs S2 q2 H3 L4 Fd nZ ve f1 f2 R3 yQ YA=>?_⟩;have RO:=R2.v yQ.but;have u6:=yQ.but _ _ dl (by simp;exact⟨al.symm,lq⟩);have CW:=ay.v RO _ gx rd;have ly2:=nZ.length;have kz:sizeLine=16777216:=by decide
             refine⟨l,l2,us,y2,rfl,rfl,u6,Fd,by omega,?_⟩;have vu:bG H3 (L2.upd H3 l (.lst (us++y2))):=.upd u6 trivial;have a08:=ve.no iq aE;have dM:=ve.ok iq aE;have Ls:l≠q2:=fun z=>by
              rcases yQ.nq with h|h
              ·exact lq (z.trans h)
              ·rw[<-z,dl]at h;cases h
             refine⟨⟨es++fs,S2,q2,us++y2,rfl,R3.go dM.row.no vu (fun o' cB=>by rw[az al];exact cB) (fun o' cB=>by rw[az Ls.symm];exact cB),aO,(ay.v vu _ gx CW).append (ay.v vu _ a08 nZ),run.trans ve,by rw[eZ];omega,?_,Ls⟩,?_⟩
             · have m:=sR.trans yQ (by rw[e2];simp)
               exact⟨fun b o' eb hb=>by
                have dw:b≠l:=fun z=>by have:=nw.no;rw[<-z,eb]at this;cases this
                rw[az dw];exact m.but _ _ eb hb,m.nq⟩
             · show(match(L2.upd H3 l (.lst (us++y2))) l with|some (.lst us)=>2000-us.length|_=>0)<(match H2 l with|some (.lst us)=>2000-us.length|_=>0)
               rw[aO,dl];show 2000-(us++y2).length<2000-us.length;rw[eZ];omega
       · rw[eu c1]
         refine bf ?_;exact⟨es,S',q',us,rfl,R2,dl,rd,run,jO,.inl (by omega),sR,lq⟩
     · rintro σ H6 Q1 Q2 hq ⟨v1,f1,l',gc,f2,f3,v2,f4,i1,i2,f5,f6,b1,f7,h⟩
       refine⟨v1,f1,l',gc,f2,f3,v2,f4,i1,i2,f5,f6,b1,f7,wa ?_ (hq _ _) h⟩;rintro⟨v3,f8,a',qM,lQ,u',f9,wH,wG,b2,wF,h⟩;refine⟨v3,f8,a',qM,lQ,u',f9,wH,wG,b2,wF,wa ?_ (hq _ _) h⟩;rintro⟨v5,EW,a2,qL,EG,EV,EU,ET,a3,q3,M3,D3,S3,ES,ER,EO,EN,b3,EM,h⟩;exact⟨v5,EW,a2,qL,EG,EV,EU,ET,a3,q3,M3,D3,S3,ES,ER,EO,EN,b3,EM,hq _ _ h⟩
   · rintro σ H2 ⟨es,S',q',us,rfl,R2,dl,rd,run,jO,mQ,sR,lq⟩
     exact⟨_,rfl,k l us es S' q' H2 nw.no dl rd run jO mQ R2 sR lq⟩
theorem cn.Km{C:Addr}{H:Hp}{a q dx:Addr}{M:bw}{S S':aZ}{mv bv bV tv:V}(R:cn K C H a q M S)(e:H a=some (.ins C dx (fq mv bv (.int S.dn) (.ref q) bV (.int S.rate) (.str S.side) (.str S.mark) tv))){zP yy xO:V}(hn:cm S.ds=true)(hd:S'.ds=S.ds) (r1:RD K H mv M.D)(r2:RD K H zP (fj S'.pl))(r3:aR K H yy S'.pc)(r4:uf K H xO S'.stp):cn K C (L2.upd H a (.ins C dx (fq mv zP (.int S'.dn) (.ref q) yy (.int S'.rate) (.str S'.side) (.str S'.mark) xO))) a q M S':=by
  have v:bG H (L2.upd H a (.ins C dx (fq mv zP (.int S'.dn) (.ref q) yy (.int S'.rate) (.str S'.side) (.str S'.mark) xO))):=.upd e trivial;obtain⟨ys,eq,rq⟩:=R.qu;refine⟨⟨dx,mv,zP,yy,xO,aO,RD.v v _ (gP _ _ _ _ _) r1,RD.v v _ (gh _) r2,r3.v v,r4.v v⟩,ys,?_,?_⟩
  ·rw[az R.ne.symm];exact eq
  ·rw[hd];exact ay.v v _ hn rq
abbrev BL:Stmt:=inClass (top 61) 19
theorem U7:bc ["self"] ["self"] (aM BL):=bh (by decide+kernel)
inductive Pm(K:a5w)(C:Addr)(vs:List V)(H:Hp)(Q:VK):Prop |mk (a:_)(q:_)(M:_)(D:_)(S:_)(h0:vs=[.ref a])(h1:cn K C H a q M S)(h2:bQ M D S)(h3:∀H',cn K C H' a q M {S with stp:=none}->bI [a] H H'->Q (.int (S.ds.length:Nat)) H'):Pm K C vs H Q
def Ib(K:a5w)(C:Addr):Sp:=fun vs H Q _=>Pm K C vs H Q
theorem WZ{C:Addr}(F:MA K C "go" "Runner.go" BL)(TC:fM K C)(B:bB mg):cI P w K mg base C "go" 1 (Ib K C):=by
 refine F.has U7 (fun vs H Q E h=>?_) (fun _ _ _ _ _ _=>dR fun _=>rfl) (fun f aD A outer s H vs Q E hr h=>?_)
 · obtain⟨a,q,M,D,S,rfl,_⟩:=h
   rfl
 · obtain⟨a,q,M,D,S,rfl,R,ok,k⟩:=h
   obtain⟨dx,mv,bv,bV,tv,e,r1,r2,r3,r4⟩:=R.ob;obtain⟨ys,eq,rq⟩:=R.qu;refine⟨_,(ah (gO TC.cl TC.n_stopping (pv 0) iD) (ao (aG (aL (x:="len") (cU K rfl) rfl (B.at "len") cY (aa (cE TC.cl TC.n_queue (pv 0)) af))))),?_⟩;refine⟨_,rfl,a,dx,_,rfl,e,by show 9<1000;decide,?_⟩;have jV:(L2.upd H a (.ins C dx (fq mv bv (.int S.dn) (.ref q) bV (.int S.rate) (.str S.side) (.str S.mark) .aW))) q=some (.lst ys):=by rw[az R.ne.symm];exact eq
   refine⟨_,rfl,a,dx,_,_,rfl,aO,rfl,q,_,rfl,.inl (aw.of jV),?_⟩;rw[rq.length];exact k _ (R.Km (S':={S with stp:=none}) e ok.row.no rfl r1 r2 r3 rfl) (qP (by simp))
def gX(f:Int)(pc:Rat):Int:=(pc.num+2*f*(pc.den:Int)-1)/(2*f*(pc.den:Int))
theorem T7{f:Int}(hf:1<=f){pc:Rat}(h:0<=pc):(0<=gX f pc)/\(gX f pc=0->pc=0)/\pc<=((2*f*gX f pc:Int):Rat)/\(pc<=1600->gX f pc<=1000):=by
 have hn:=G5.mpr h;have hd:0<2*f*(pc.den:Int):=gA (by omega) (den_pos pc);have hd1:2*(pc.den:Int)<=2*f*(pc.den:Int):=by have:2*1*(pc.den:Int)<=2*f*(pc.den:Int):=Rj (by omega) (by omega);omega
 unfold gX;generalize hD:2*f*(pc.den:Int)=dd at hd hd1;have q1:=Int.mul_ediv_add_emod (pc.num+dd-1) dd;have q2:=m5 (pc.num+dd-1) (show dd≠0 by omega);have q3:=p4 (pc.num+dd-1) hd;have q0:0<=(pc.num+dd-1)/dd:=Int.ediv_nonneg (by omega) (by omega);generalize hQ:(pc.num+dd-1)/dd=Q at q0 q1;generalize(pc.num+dd-1)%dd=R at q1 q2 q3;have hle:pc.num<=dd*Q:=by omega
 refine⟨q0,fun e=>?_,?_,fun hm=>?_⟩
 · rw[e,Int.mul_zero]at hle
   have:pc.num=0:=by omega
   exact Rat.num_eq_zero.mp this
 · refine xp.mp fun bZ=>?_
   rw[Ab,G6,G8]at bZ;have e1:2*f*Q*(pc.den:Int)=dd*Q:=by rw[<-hD,Int.mul_right_comm]
   rw[e1]at bZ;omega
 · have qE:¬((1600:Rat)<pc):=xp.mpr hm
   rw[Ab]at qE;have e1:(1600:Rat).num=1600:=rfl;have e2:(1600:Rat).den=1:=rfl;rw[e1,e2]at qE;have h3:pc.num<=1600*(pc.den:Int):=by omega
   refine Int.not_lt.mp fun bZ=>?_;have h4:dd*1001<=dd*Q:=Rk (by omega) (by omega);omega
abbrev BA:Stmt:=inClass (top 61) 17
theorem J3:bc ["self","p","q","in_one"] ["self"] (aM BA):=bh (by decide+kernel)
theorem WL{C:Addr}(F:MA K C "stops_in" "Runner.stops_in" BA)(TC:fM K C):cI P w K mg base C "stops_in" 1 (fO K C fun M S H Q=>Q (.int (gX M.f S.pc)) H):=by
 refine F.has J3 (fun vs H Q E h=>?_) (fun _ _ _ _ _ _=>dR fun _=>rfl) (fun f aD A outer s H vs Q E hr h=>?_)
 · obtain⟨a,q,M,D,S,rfl,_⟩:=h
   rfl
 · obtain⟨a,q,M,D,S,rfl,R,ok,aE,k⟩:=h
   obtain⟨dx,mv,bv,bV,tv,e,r1,r2,⟨pa,rfl,qj⟩,r4⟩:=R.ob;have nd:=J3.nd;have oE:=aE.f1;obtain⟨ma,mb,rfl,fA,gE⟩:=jn r1;have bd:Bd 1600 S.pc:=(ok.pd.bd (dc ok.pm (by decide+kernel))).mono (by have:=ok.D2;omega);have hd:0<2*M.f*(S.pc.den:Int):=gA (by omega) (den_pos S.pc);have wd:Wd (2*M.f*(S.pc.den:Int)):=by
    refine gb (n:=1700) ?_ (by decide);rw[fc];have h1:(2*M.f).natAbs<2^7:=by omega
    have:=jI h1 bd.den;exact fF this (oX (by decide) (by decide))
   refine⟨_,(ah (fi (cE TC.cl TC.n_pace (pv 0)) (cS K rfl (n:=2) rfl (bo (aQ (i:=1) nd rfl (Or.inl rfl)) (bo (aQ (i:=2) nd rfl (Or.inl rfl)) cR)))) (ah (aH (i:=3) nd rfl (Or.inl rfl) (au ba (au ba ag (aJ (aK K rfl) (cE TC.cl TC.n_machine (pv 0)) ag (fun _ _=>rfl))) (pv 2))) (ao (aG (au kF (au fu (au cF (pv 1) (pv 3)) ag) (pv 3)))))),?_⟩;refine⟨_,rfl,a,dx,_,_,rfl,e,rfl,pa,_,rfl,qj,rfl,_,_,rfl,_,_,rfl,rfl,?_⟩;refine⟨_,rfl,a,dx,_,_,rfl,e,rfl,.inr ⟨ma,_,2,.int M.f,rfl,rfl,fA,rfl,_,_,rfl,rfl,.of_left (bJ (by decide) (by decide)),?_⟩⟩;refine⟨_,rfl,_,_,rfl,rfl,.of_left (bJ (by omega) (by omega)),?_⟩;refine⟨_,rfl,_,rfl,_,_,rfl,rfl,_,_,rfl,rfl,_,rfl,_,_,rfl,rfl,⟨hd,wd⟩,?_⟩;exact k
abbrev BI:Stmt:=inClass (top 61) 18
theorem J8:bc ["self","steps"] ["self"] (aM BI):=bh (by decide+kernel)
def iO(M:bw)(S:aZ):aZ:=match S.stp with |none=>{S with stp:=some (S.pc,gX M.f S.pc,0)} |some _=>S
inductive Pl(K:a5w)(C:Addr)(vs:List V)(H:Hp)(Q:VK):Prop |mk (a:_)(q:_)(M:_)(D:_)(S:_)(h0:vs=[.ref a])(h1:cn K C H a q M S)(h2:bQ M D S)(h3:M.Ok)(h4:∀H',cn K C H' a q M (iO M S)->bI [a] H H'->Q (.int (gX M.f S.pc)) H'):Pl K C vs H Q
def Ia(K:a5w)(C:Addr):Sp:=fun vs H Q _=>Pl K C vs H Q
theorem bQ.hold{M:bw}{D:Nat}{S:aZ}(h:bQ M D S)(aE:M.Ok)(hD:D<=1490):bQ M (D+10) (iO M S):=by have D1:=h.D1;unfold iO;cases hs:S.stp with |some z=>show bQ M (D+10) S;have st:=h.stp;refine⟨h.row,h.rw,h.len,h.rt1,h.rt2,h.dn,h.pl,h.pd.mono (by omega),h.pm,?_,by omega,by omega⟩;rw[hs]at st⊢;obtain⟨sq,gK,gn⟩:=z;obtain⟨a1,a2,a3,a4,a5⟩:=st;exact⟨a1,a2,a3,a4.mono (by omega),a5⟩ |none=>obtain⟨z1,z2,z3,z4⟩:=T7 aE.f1.1 h.pd.nn;refine⟨h.row,h.rw,h.len,h.rt1,h.rt2,h.dn,h.pl,h.pd.mono (by omega),h.pm,?_,by omega,by omega⟩;refine⟨fG _,z1,z4 h.pm,h.pd,dc h.pm (by decide+kernel),z2,?_⟩;show S.pc*(gX M.f S.pc:Rat)<=S.pc*((gX M.f S.pc-0:Int):Rat);rw[Int.sub_zero];exact nE
theorem WV{C:Addr}(F:MA K C "hold" "Runner.hold" BI)(TC:fM K C)(a1f:cI P w K mg base C "stops_in" 1 (fO K C fun M S H Q=>Q (.int (gX M.f S.pc)) H))(qC:cI P w K mg base C "is_held" 1 (fO K C fun _ S H Q=>Q (.bl S.stp.isSome) H)):cI P w K mg base C "hold" 2 (Ia K C):=by
 refine F.has J8 (fun vs H Q E h=>?_) (fun _ _ _ _ _ _=>dR fun _=>rfl) (fun f aD A outer s H vs Q E hr h=>?_)
 · obtain⟨a,q,M,D,S,rfl,_⟩:=h
   rfl
 · obtain⟨a,q,M,D,S,rfl,R,ok,aE,k⟩:=h
   obtain⟨dx,mv,bv,bV,tv,e,r1,r2,r3,r4⟩:=R.ob;have nd:=J8.nd;refine⟨_,(ah (aH (i:=1) nd rfl (Or.inl rfl) (iE a1f TC.cl (hr.mono (by decide)) (pv 0))) (ah (fW (bj (dX (cA (iE qC TC.cl (hr.mono (by decide)) (pv 0)))) (ao (gO TC.cl TC.n_stopping (pv 0) (dH (aa (cE TC.cl TC.n_pace (pv 0)) (aa (pv 1) (aa ag af)))))) bE)) (ao (aG (pv 1))))),?_⟩;refine⟨_,rfl,a,dx,_,rfl,e,rfl,a,q,M,D,S,rfl,R,ok,aE,?_⟩;refine⟨fun σ H1=>σ=[some (.ref a),some (.int (gX M.f S.pc))]/\cn K C H1 a q M (iO M S)/\bI [a] H H1,?_,?_⟩
   · refine⟨_,rfl,a,dx,_,rfl,e,rfl,a,q,M,D,S,rfl,R,ok,aE,_,rfl,?_⟩
     cases hs:S.stp with |some z=>refine bf ⟨rfl,?_,bI.refl _ _⟩;unfold iO;rw[hs];exact R |none=>
       refine bF ?_;refine⟨_,rfl,a,dx,_,_,rfl,e,rfl,_,rfl,bM _ (bR rfl),fun t H1 n1=>?_⟩;have e1:=n1.same _ _ e;refine⟨_,rfl,a,dx,_,rfl,e1,by show 9<1000;decide,?_⟩;have eh:iO M S={S with stp:=some (S.pc,gX M.f S.pc,0)}:=by unfold iO;rw[hs]
       refine⟨rfl,?_,fun b o' eb hb=>?_⟩
       · rw[eh]
         exact(R.same ok.row.no n1.same).Km (S':={S with stp:=some (S.pc,gX M.f S.pc,0)}) e1 ok.row.no rfl (RD.mono n1.same _ r1) (RD.mono n1.same _ r2) (r3.go n1.same) ⟨t,bV,rfl,aB.of n1.at',r3.go n1.same⟩
       · have ha:b≠a:=fun z=>hb (by rw[z];simp)
         rw[az ha];exact n1.same _ _ eb
   · rintro σ H1 ⟨rfl,R1,b1⟩
     exact⟨_,rfl,k H1 R1 b1⟩
end
end Lw
set_option maxHeartbeats 1000000
namespace Lw
open PySem PySem.Spec PyProof.Rows L2 Rt Ln Cn Pn
open Ow (topR cornO mnO betR atO ownF leadF ownL OkI OkIs)
section
variable {P:a5y}{w:World}{K:a5w}{mg:Str->Option Value}{base:Heap}
inductive Q5(K:a5w)(vs:List V)(H:Hp)(Q:VK):Prop |mk (m:_)(iv:_)(rate:_)(rs:_)(r:_)(f:_)(j:_)(t:_)(ds:_)(os:_)(h0:vs=[m,iv,.int rate])(h1:RD K H m (gQ rs r f j t))(h2:lZ rs r f j t)(h3:RD K H iv (.list ds))(h4:fR rs.length ds os)(h5:ds.length<=100)(h6:10<=rate)(h7:rate<=200)(h8:∀l ys H',H l=none->H' l=some (.lst ys)->ay K H' ys ((ownL j rate os).map cD)->ai H H'->Q (.ref l) H'):Q5 K vs H Q
def Ip(K:a5w):Sp:=fun vs H Q _=>Q5 K vs H Q
def iG(j rate:Int)(os:List Itm)(i:Nat):List Rat:=(List.range (os.length+1)).map fun k=>if k<=i then ownF j rate os k else 0
theorem si(j rate:Int)(os:List Itm)(i:Nat){k:Nat}(h:k<=os.length):(iG j rate os i)[k]? =some (if k<=i then ownF j rate os k else 0):=by unfold iG;rw[bU,bO (by simp;omega),qX];rfl
theorem mr(j rate:Int)(os:List Itm)(i:Nat):(iG j rate os i).length=os.length+1:=by simp[iG]
theorem KC(j rate:Int)(os:List Itm)(i:Nat)(h:i+1<=os.length):(iG j rate os i).set (i+1) (ownF j rate os (i+1))=iG j rate os (i+1):=by
 apply oZ;intro k;by_cases hk:k<=os.length
 · rw[si j rate os (i+1) hk,List.getElem?_set]
   by_cases e:i+1=k
   · subst e
     rw[aP rfl,aP (by rw[mr];omega),aP (bp _)]
   · rw[aV e,si j rate os i hk]
     congr 1;by_cases h1:k<=i
     ·rw[aP h1,aP (by omega)]
     ·rw[aV h1,aV (by omega)]
 ·rw[kg (by rw[qW,mr];omega),kg (by rw[mr];omega)]
theorem W5(j rate:Int)(os:List Itm)(i:Nat)(h:i+1<=os.length)(e:ownF j rate os (i+1)=0):iG j rate os (i+1)=iG j rate os i:=by
 apply oZ;intro k;by_cases hk:k<=os.length
 · rw[si j rate os (i+1) hk,si j rate os i hk]
   congr 1;by_cases h1:k<=i
   ·rw[aP h1,aP (by omega)]
   · rw[aV h1]
     by_cases h2:k=i+1
     ·subst h2;rw[aP (bp _),e]
     ·rw[aV (by omega)]
 ·rw[kg (by rw[mr];omega),kg (by rw[mr];omega)]
abbrev Cp:Stmt:=top 78
theorem JI:bc ["_law_machine_here","_law_items","_law_rate","_law_found","_law_border","_law_one","_law_other_here","_law_a","_law_b","_law_gap","_law_corner"] ["_law_machine_here","_law_items","_law_rate"] (aM Cp):=bh (by decide+kernel)
theorem XC(F:FA K mg "_law_bounds" Cp)(B:bB mg)(oy:aj P w K mg base "_law_lead" 1 (ki K))(qD:aj P w K mg base "_law_min" 2 (iB K))(zr:aj P w K mg base "_law_top" 2 (AL K))(oz:aj P w K mg base "_law_frac" 1 (uM K)):aj P w K mg base "_law_bounds" 3 (Ip K):=by
 refine F.has JI (fun vs H Q E h=>?_) (fun _ _ _ _ _ _=>lX fun _ _ _=>rfl) (fun f aD A outer s H vs Q E hr h=>?_)
 · obtain⟨m,iv,rate,rs,r,f,j,t,ds,os,rfl,_⟩:=h
   rfl
 · obtain⟨m,iv,rate,rs,r,f,j,t,ds,os,rfl,rm,aE,ri,row,hz,rt1,rt2,k⟩:=h
   have nd:=JI.nd;refine⟨_,(ah (Df (i0:=3) nd rfl (Or.inl rfl) (N:=["_law_border"]) (js:=[none]) rfl rfl rfl (vj rfl (B.at "range") (aa (au cF (aL (x:="len") (cU K rfl) rfl (B.at "len") cY (aa (pv 1) af)) ag) af)) (fun _ _ _ _ _=>(aQ (i:=0) (show List.Nodup (["_law_border"]:List Str) by decide+kernel) rfl (Or.inl rfl))) (fun _ _ _ _ _=>eL) (fun _ _ _ _ _=>(dH (aa ag (aa ag af))))) (ah (jF fU rfl (Ks rfl (B.at "range") (aa ag (aa (aL (x:="len") (cU K rfl) rfl (B.at "len") cY (aa (pv 1) af)) af))) (aQ (i:=4) nd rfl (Or.inl rfl)) (ah (lH (i:=5) (j:=6) rfl nd rfl rfl (by decide) rfl rfl (aa (aJ (aK K rfl) (pv 1) (au fu (pv 4) ag) (fun _ _=>rfl)) (aa (aJ (aK K rfl) (pv 1) (pv 4) (fun _ _=>rfl)) af)) rfl) (ao (bj (PW.pt (lF (bK (cH K rfl hr.units) (aJ (aK K rfl) (pv 5) ag (fun _ _=>rfl)) aU (aX _)) (pR (bK (cH K rfl hr.units) (aJ (aK K rfl) (pv 6) ag (fun _ _=>rfl)) aU (aX _))))) (ah (fi (dH (aa (pf oy hr (aa (pv 5) af)) (aa (pf oy hr (aa (pv 6) af)) af))) (cS K rfl (n:=2) rfl (bo (aQ (i:=7) nd rfl (Or.inr rfl)) (bo (aQ (i:=8) nd rfl (Or.inr rfl)) cR)))) (ah (aH (i:=9) nd rfl (Or.inl rfl) (aL (x:="max") (DH K rfl rfl) rfl (B.at "max") Ah (aa (ft (N:=["_law_x","_law_y","_law_b","_law_a"]) (js:=[none,none,some 8,some 7]) rfl rfl rfl (hW K rfl false false rfl (B.at "zip") (aa (aJ (aK K rfl) (pv 5) ag (fun _ _=>rfl)) (aa (aJ (aK K rfl) (pv 6) ag (fun _ _=>rfl)) af))) (fun _ _ _ _ _=>(cS K rfl (n:=2) rfl (bo (aQ (i:=0) (show List.Nodup (["_law_x","_law_y","_law_b","_law_a"]:List Str) by decide+kernel) rfl (Or.inl rfl)) (bo (aQ (i:=1) (show List.Nodup (["_law_x","_law_y","_law_b","_law_a"]:List Str) by decide+kernel) rfl (Or.inl rfl)) cR)))) (fun _ _ _ _ _=>eL) (fun _ _ _ _ _=>(aL (x:="abs") lW rfl (B.at "abs") nI (aa (au fu (au ba (pv 0) (pv 2)) (au ba (pv 1) (pv 3))) af)))) af))) (ah (fi (pf qD hr (aa (dF (aa (pf zr hr (aa (pv 5) (aa (pv 2) af))) (aa (pf zr hr (aa (pv 6) (aa (pv 2) af))) af))) af)) (pS (pv 3) (pv 4) set_list)) (ao (bj (bK pT (pv 9) ag (aX _)) (ah (aH (i:=10) nd rfl (Or.inl rfl) (pf oz hr (aa (au sj (au ba (au ba (aJ (aK K rfl) (pv 0) ag (fun _ _=>rfl)) (pv 7)) (pv 8)) ag) (aa (au sj (pv 9) ag) af)))) (ao (fi (pf qD hr (aa (dF (aa (aJ (aK K rfl) (pv 3) (pv 4) (fun _ _=>rfl)) (aa (pv 10) af))) af)) (pS (pv 3) (pv 4) set_list)))) bE))))) bE)))) (ao (aG (pv 3))))),?_⟩;obtain⟨ia,xs,rfl,hi,gu⟩:=ri.lst_inv;obtain⟨ma,mb,rfl,fA,gE⟩:=jn rm;have lx:=gu.length;have ll:=row.len;have lr:=aE.len;refine⟨_,rfl,ia,_,rfl,.inl hi,_,_,rfl,rfl,_,rfl,by omega,by omega,fun D H1 n1=>?_⟩;have eN:((xs.length:Int)+1).toNat=os.length+1:=by omega
   rw[eN];refine a3f (K:=K) (lo:=0) (n:=os.length+1) (ds:=(iG j rate os 0).map cD) _ n1 (by rw[bS,mr]) (by omega) (sN _) ?_ ?_
   · intro i d H2 Q' ed s2 hq
     have Ml:i<=os.length:=by have:=(dC.mp ed).1;rw[bS,mr]at this;omega
     have e0:d=cD 0:=by
      rw[bU,si j rate os 0 Ml]at ed;have:=(eG ed).symm;rw[this];congr 1;split
      · next h => have:i=0:=by omega
                  subst this;rfl
      ·rfl
     subst e0;refine⟨bM _ (bR rfl),fun z H3 n3=>?_⟩;exact hq _ _ n3.same (aR.rd ⟨z,rfl,aB.of n3.at'⟩)
   intro H2 ys s2 d2 r2;refine⟨_,rfl,ia,_,rfl,.inl (hi.go s2),_,_,rfl,⟨by decide,by decide,by omega,by omega⟩,?_⟩;refine wD (Pv:=fun i σ H5=>ai H H5/\∃(ys:List V)(v1 v2 v3 v4 v5 v6 v7:Option V),H5 D=some (.lst ys)/\ay K H5 ys ((iG j rate os i).map cD)/\σ=[some (.ref ma),some (.ref ia),some (.int rate),some (.ref D),v1,v2,v3,v4,v5,v6,v7]) ?_ ?_ ?_
   ·exact⟨s2,ys,none,none,none,none,none,none,none,d2,r2,rfl⟩
   · rintro i σ H5 Mj ⟨s5,ys,v1,v2,v3,v4,v5,v6,v7,dl,nX,rfl⟩
     have hio:i+1<os.length:=by omega
     have lT:=bO (show i<os.length by omega);have kA:=bO hio;obtain⟨x1,oF⟩:∃x,xs[i]? =some x:=⟨_,bO (show i<xs.length by omega)⟩;obtain⟨x2,zA⟩:∃x,xs[i+1]? =some x:=⟨_,bO (show i+1<xs.length by omega)⟩;obtain⟨d1,e1,r1⟩:=gu.get' i oF;obtain⟨d2,e2,r2⟩:=gu.get' (i+1) zA;have i1:=row.it i d1 _ e1 lT;have i2:=row.it (i+1) d2 _ e2 kA;have zm:ownF j rate os (i+1)=betR j rate os[i] os[i+1]:=by show betR j rate (atO os i) (atO os (i+1))=_;rw[Ow.mZ lT,Ow.mZ kA]
     have F8:((1:Int)+(i:Int)-1).toNat=i:=by omega
     have F7:((1:Int)+(i:Int)).toNat=i+1:=by omega
     have FD:fo xs ((1:Int)+(i:Int)-1)=some x1:=cM (by omega) (by rw[F8];exact oF);have at2:fo xs ((1:Int)+(i:Int))=some x2:=cM (by omega) (by rw[F7];exact zA);have Mm:=hi.go s5;obtain⟨a1,w1,y1,rfl,h1,ew1,SU⟩:=tj (RD.mono s5 _ r1) i1;obtain⟨a2,w2,y2,rfl,h2,ew2,SS⟩:=tj (RD.mono s5 _ r2) i2;have same:os[i]=none\/os[i+1]=none->ay K H5 ys ((iG j rate os (i+1)).map cD):=fun hn=>by
      rw[W5 j rate os i (by omega)]
      ·exact nX
      · rw[zm]
        rcases hn with e|e
        ·rw[e];exact Ow.O4 _ _ _
        ·rw[e];exact Ow.zR _ _ _
     refine⟨_,rfl,_,rfl,_,_,rfl,rfl,.inl ⟨ia,_,_,_,rfl,rfl,Mm,FD,_,rfl,_,rfl,.inl ⟨ia,_,_,_,rfl,rfl,Mm,at2,_,_,rfl,?_⟩⟩⟩;refine⟨_,rfl,.inr ⟨a1,_,0,.str w1,rfl,rfl,h1,cM (fG 0) rfl,.inr ⟨_,_,dD _,dD _,SU,sY,_,rfl,?_⟩⟩⟩;rw[ew1];cases Ef:os[i]with |none=>exact bf ⟨s5,ys,_,_,_,_,_,_,_,dl,same (.inl Ef),rfl⟩ |some q1=>refine bF ?_;refine⟨_,rfl,.inr ⟨a2,_,0,.str w2,rfl,rfl,h2,cM (fG 0) rfl,.inr ⟨_,_,dD _,dD _,SS,sY,_,rfl,?_⟩⟩⟩;rw[ew2];cases tG:os[i+1]with |none=>exact bf ⟨s5,ys,_,_,_,_,_,_,_,dl,same (.inr tG),rfl⟩ |some q2=>
         refine bF ?_;obtain⟨ns,sp⟩:=q1;obtain⟨ms,sq⟩:=q2;rw[Ef]at i1 lT;rw[tG]at i2 kA;have ed1:=jL i1;have ed2:=jL i2;subst ed1 ed2;obtain⟨fk,p1,p2⟩:=row.ok i ns sp lT;obtain⟨dM,q1,q2⟩:=row.ok (i+1) ms sq kA;have T1:Bd 2000 (topR rate sp):=(Ow.rB p1 p2 rt1 rt2).mono (by decide);have T2:Bd 2000 (topR rate sq):=(Ow.rB q1 q2 rt1 rt2).mono (by decide);have l1:=vV fk;have l2:=vV dM;have lq1:=fk.lead.1;have YA:=dM.lead.1;have ln1:ns.length<=3:=by rw[fk.len];omega
         have ln2:ms.length<=3:=by rw[dM.len];omega
         have Lz:ms.length=ns.length:=by rw[fk.len,dM.len]
         refine⟨_,rfl,_,ns,sp,rfl,RD.mono s5 _ r1,fk.ne,by omega,fun H6 s6=>?_⟩;have JP:=s5.trans s6;refine⟨_,rfl,_,ms,sq,rfl,RD.mono JP _ r2,dM.ne,by omega,fun H7 s7=>?_⟩;refine⟨bM _ (bR rfl),fun tq H7' DE=>?_⟩;refine⟨tq,_,rfl,aB.of DE.at',rfl,_,_,rfl,_,_,rfl,rfl,?_⟩;have pL:=JP.trans (s7.trans DE.same);have Ud:=s6.trans (s7.trans DE.same);obtain⟨a1',b1,ea1,ha1,Mw⟩:=jo (RD.mono pL _ r1);obtain⟨a2',b2,ea2,ha2,Mu⟩:=jo (RD.mono pL _ r2);cases ea1;cases ea2;refine⟨_,rfl,.inr ⟨a1,_,1,.ref b1,rfl,rfl,ha1,rfl,_,rfl,.inr ⟨a2,_,1,.ref b2,rfl,rfl,ha2,rfl,b1,b2,rfl,⟨_,Mw⟩,⟨_,Mu⟩,fun D4 H8 n8=>?_⟩⟩⟩;refine qO (K:=K) (b1:=false) (b2:=false) (xs:=ns.map V.int) (ys:=ms.map V.int) (ds:=((cK ns ms).map gG).map PyData.int) _ rfl Mw Mu n8 (by simp[cK]) (by simp[cK];omega) (jG _) ?_ ?_
         · intro i x y d H9 Q' ex ey ed s9 hq
           obtain⟨a,b,e1,e2,rfl,rfl⟩:=zip2 Lz ex ey;obtain⟨m,em,rfl⟩:=kH ed;rw[bU,Gy e1 e2]at em;cases em;have q1:=fk.bd a (g9 e1);have q2:=dM.bd b (g9 e2);refine⟨_,rfl,_,rfl,_,_,rfl,rfl,.of_left (bJ (by omega) (by omega)),?_⟩;refine⟨_,rfl,_,rfl,_,_,rfl,rfl,.of_left (bJ (by omega) (by omega)),?_⟩;exact⟨_,_,rfl,rfl,_,rfl,hq _ _ (ai.refl _) (dG _)⟩
         intro H9 zs s9 d9 r9;rw[r9.gT]at d9;have lV:cK ns ms≠[]:=by
          have hl:(cK ns ms).length=ns.length:=by simp[cK,Lz]
          intro e;rw[e]at hl;exact fk.ne (Al.mp hl.symm)
         refine⟨D4,_,rfl,aw.of d9,by simpa using lV,fun M h1 h2=>?_⟩;have eM:=DR lV h1 h2;subst eM;have JO:=pL.trans s9;have uW:=Ud.trans s9;refine⟨_,rfl,_,rfl,_,ns,sp,rate,rfl,RD.mono JO _ r1,p1,p2,rt1,rt2,fun t1 eR CN gC=>?_⟩;refine⟨_,rfl,_,rfl,_,ms,sq,rate,rfl,RD.mono (JO.trans gC) _ r2,q1,q2,rt1,rt2,fun t2 fE CM pM=>?_⟩;refine⟨bM _ (bR rfl),fun lm nv yP=>?_⟩;have R1:aR K nv t1 (topR rate sp):=(CN.go pM).go yP.same;have R2:aR K nv t2 (topR rate sq):=CM.go yP.same;refine⟨lm,[t1,t2],[topR rate sp,topR rate sq],rfl,aw.of yP.at',⟨R1,T1,R2,T2,trivial⟩,by simp,fun c lv q F5 Nl hq=>?_⟩;have qh:mn (topR rate sp) (topR rate sq)=q:=by
          refine lK ?_ (hq _ (by simp)) (hq _ (by simp))
          match c,Nl with |0,e2=>cases e2;exact .inl rfl |1,e2=>cases e2;exact .inr rfl
         have rl:aR K nv lv (mn (topR rate sp) (topR rate sq)):=by
          rw[qh]
          match c,F5,Nl with |0,e1,e2=>cases e1;cases e2;exact R1 |1,e1,e2=>cases e1;cases e2;exact R2
         have Uc:=gC.trans (pM.trans yP.same);have Cy:=uW.trans Uc;have Fe:=Cy _ _ dl;have ly:=nX.length;rw[bS,mr]at ly;have LS:iL ys.length ((1:Int)+(i:Int))=some (i+1):=by unfold iL;rw[aP (by omega),aP (by omega),F7]
         refine⟨_,rfl,_,rfl,D,ys,_,_,rfl,rfl,Fe,LS,?_⟩;have CV:=ay.B6 (i:=i+1) Fe (ay.mono Cy _ nX) rl.rd (sN _) (o3 _);have sD:∀{o:HO},ai H (L2.upd nv D o):=fun{o} b o' e=>by rw[az (fw e n1.no)];exact Cy b o' (s5 b o' e)
         have tU:iu nv (L2.upd nv D (.lst (ys.set (i+1) lv))):=.nP Fe;refine⟨_,rfl,_,_,rfl,rfl,_,rfl,?_⟩;rw[Ef,tG]at zm;have cO:cornO j ns ms=if ak (cK ns ms)=0 then none else some (Rat.divInt ((j*ak ns*ak ms)^2) ((ak (cK ns ms):Int)^2)):=rfl;show if decide ((ak (cK ns ms):Int)>0)=true then _ else _;by_cases h0:ak (cK ns ms)=0
         · rw[eu (by omega)]
           refine bf ?_;rw[aP h0]at cO;refine⟨sD,ys.set (i+1) lv,_,_,_,_,_,_,_,aO,?_,rfl⟩;rw[<-xu]at CV;have e:(iG j rate os i).set (i+1) (mn (topR rate sp) (topR rate sq))=iG j rate os (i+1):=by rw[<-KC j rate os i (by omega),zm];show _=List.set _ _ (mnO _ (cornO j ns ms));rw[cO];rfl
           rw[<-e];exact CV
         · rw[cw (by omega)]
           refine bF ?_;rw[aV h0]at cO;have jl:(j*ak ns).natAbs<=50*100:=jJ (by have:=aE.j1;omega) (by omega);have jl2:(j*ak ns*ak ms).natAbs<=50*100*100:=jJ jl (by omega);have cb:=zL (fun z hz=>by have:=fk.bd z hz;omega) (fun z hz=>by have:=dM.bd z hz;omega) (ns:=ns) (ms:=ms);have ox:=lN cb;have jS:(2:Nat)^64=18446744073709551616:=by decide
           refine⟨_,rfl,.inr ⟨ma,_,3,.int j,rfl,rfl,fA.go sD,rfl,?_⟩⟩;refine⟨_,rfl,_,_,rfl,rfl,.of_left (bJ (by have:=aE.j1;omega) (by have:=aE.j1;omega)),_,rfl,_,_,rfl,rfl,.of_right (bJ (by omega) (by omega)),?_⟩;refine⟨_,_,rfl,rfl,⟨by decide,by decide,by rw[jS];omega⟩,_,rfl,_,_,rfl,rfl,⟨by decide,by decide,by rw[jS];omega⟩,_,_,rfl,?_,?_,fun v6 A4 r6 cJ=>?_⟩
           · show 0<(ak (cK ns ms):Int)^2
             rw[fb,fb,kh,jx];exact gA (by omega) (by omega)
           · refine gb (n:=64) ?_ (by decide)
             show((ak (cK ns ms):Int)^2).natAbs<_;rw[fb,fb,kh,jx,jS];have:=jJ (a:=(ak (cK ns ms):Int)) (b:=(ak (cK ns ms):Int)) (m:=2000000) (n:=2000000) (by omega) (by omega);omega
           have Rc:aR K A4 v6 (Rat.divInt ((j*ak ns*ak ms)^2) ((ak (cK ns ms):Int)^2)):=r6;have Tc:Bd 2000 (Rat.divInt ((j*ak ns*ak ms)^2) ((ak (cK ns ms):Int)^2)):=(Ow.Fl aE.j1.1 aE.j1.2 fk.bd dM.bd cO).mono (by decide);generalize Rat.divInt ((j*ak ns*ak ms)^2) ((ak (cK ns ms):Int)^2)=cq at Rc Tc cO;have Ny:=cJ _ _ (aO (H:=nv) (a:=D) (o:=.lst (ys.set (i+1) lv)));have at3:fo (ys.set (i+1) lv) ((1:Int)+(i:Int))=some lv:=cM (by omega) (by rw[F7,Gp (by omega)]);have a45:aR K A4 lv (mn (topR rate sp) (topR rate sq)):=lE (RD.mono cJ _ (RD.t tU _ (o3 _) rl.rd));refine⟨_,rfl,_,rfl,.inl ⟨D,_,_,_,rfl,rfl,aw.of Ny,at3,_,rfl,?_⟩⟩;refine⟨bM _ (bR rfl),fun DP FY sQ=>?_⟩;have Ox:=a45.go sQ.same;have Ou:=Rc.go sQ.same;refine⟨DP,[lv,v6],[mn (topR rate sp) (topR rate sq),cq],rfl,aw.of sQ.at',⟨Ox,Ow.vP T1 T2,Ou,Tc,trivial⟩,by simp,fun c' Yw q' a2F Nk iZ=>?_⟩;have ZW:mn (mn (topR rate sp) (topR rate sq)) cq=q':=by
            refine lK ?_ (iZ _ (by simp)) (iZ _ (by simp))
            match c',Nk with |0,e2=>cases e2;exact .inl rfl |1,e2=>cases e2;exact .inr rfl
           have UE:aR K FY Yw (mn (mn (topR rate sp) (topR rate sq)) cq):=by
            rw[ZW]
            match c',a2F,Nk with |0,e1,e2=>cases e1;cases e2;exact Ox |1,e1,e2=>cases e1;cases e2;exact Ou
           have Nv:=sQ.same _ _ Ny;refine⟨_,rfl,_,rfl,D,_,_,_,rfl,rfl,Nv,(by rw[qW];exact LS),?_⟩;have K3:=ay.B6 (i:=i+1) Nv (ay.mono (cJ.trans sQ.same) _ CV) UE.rd (by rw[<-xu];exact sN _) (o3 _);refine⟨fun b o' e=>by rw[az (fw e n1.no)];exact sQ.same b o' (cJ b o' (sD b o' e)),_,_,_,_,_,_,_,_,aO,?_,rfl⟩;rw[List.set_set,List.set_set,<-xu]at K3;have e:(iG j rate os i).set (i+1) (mn (mn (topR rate sp) (topR rate sq)) cq)=iG j rate os (i+1):=by rw[<-KC j rate os i (by omega),zm];show _=List.set _ _ (mnO _ (cornO j ns ms));rw[cO];rfl
           rw[<-e,List.set_set];exact K3
   · rintro σ H5 ⟨s5,ys,v1,v2,v3,v4,v5,v6,v7,dl,nX,rfl⟩
     have e:iG j rate os ((xs.length:Int)-1).toNat=ownL j rate os:=by
      apply oZ;intro k;by_cases hk:k<=os.length
      · rw[si j rate os _ hk,Ow.KG j rate os hk]
        congr 1;split
        ·rfl
        · have:k=os.length:=by omega
          exact(Ow.Dm j rate os k this).symm
      ·rw[kg (by rw[mr];omega),kg (by rw[Ow.KD];omega)]
     rw[e]at nX;exact⟨_,rfl,k D ys H5 n1.no dl nX s5⟩
inductive OT(K:a5w)(vs:List V)(H:Hp)(Q:VK):Prop |mk (m:_)(sq:_)(rs:_)(r:_)(f:_)(j:_)(ti:_)(q:_)(h0:vs=[m,sq])(h1:RD K H m (gQ rs r f j ti))(h2:aR K H sq q)(h3:Bd 2000 q)(h4:1<=ti)(h5:ti<=100)(h6:0<q.num)(h7:∀T,1<=T->T.natAbs<2^2400->fm ti q T=true->fm ti q (T-1)=false->∀H',ai H H'->Q (.int T) H'):OT K vs H Q
def Hx(K:a5w):Sp:=fun vs H Q _=>OT K vs H Q
abbrev Bg:Stmt:=top 79
theorem IK:bc ["_law_machine_here","_law_square","_law_wanted","_law_low","_law_high","_law_half"] ["_law_machine_here","_law_square"] (aM Bg):=bh (by decide+kernel)
theorem Wu(F:FA K mg "_law_ticks" Bg)(B:bB mg):aj P w K mg base "_law_ticks" 1 (Hx K):=by
 refine F.has IK (fun vs H Q E h=>?_) (fun _ _ _ _ _ _=>cP fun _ _=>rfl) (fun f aD A outer s H vs Q E hr h=>?_)
 · obtain⟨m,sq,rs,r,f,j,ti,q,rfl,_⟩:=h
   rfl
 · obtain⟨m,sq,rs,r,f,j,ti,q,rfl,rm,⟨p,rfl,hp⟩,bq,t1,t2,hq,k⟩:=h
   have nd:=IK.nd;refine⟨_,(ah (aH (i:=2) nd rfl (Or.inl rfl) (au ba (au sj (aJ (aK K rfl) (pv 0) ag (fun _ _=>rfl)) ag) (aJ (aK K rfl) (pv 1) ag (fun _ _=>rfl)))) (ah (fi (dH (aa ag (aa ag af))) (cS K rfl (n:=2) rfl (bo (aQ (i:=3) nd rfl (Or.inl rfl)) (bo (aQ (i:=4) nd rfl (Or.inl rfl)) cR)))) (ah (lG fU (bK iH (au ba (au ba (pv 4) (pv 4)) (aJ (aK K rfl) (pv 1) ag (fun _ _=>rfl))) (pv 2) (aX _)) (ao (lH (i:=3) (j:=4) rfl nd rfl rfl (by decide) rfl rfl (aa (pv 4) (aa (au ba ag (pv 4)) af)) rfl))) (ah (lG fU (bK pT (au fu (pv 4) (pv 3)) ag (aX _)) (ah (aH (i:=5) nd rfl (Or.inl rfl) (au kF (au cF (pv 3) (pv 4)) ag)) (ao (bj (bK iH (au ba (au ba (pv 5) (pv 5)) (aJ (aK K rfl) (pv 1) ag (fun _ _=>rfl))) (pv 2) (aX _)) (ao (aH (i:=3) nd rfl (Or.inl rfl) (pv 5))) (ao (aH (i:=4) nd rfl (Or.inl rfl) (pv 5))))))) (ao (aG (pv 4))))))),?_⟩;obtain⟨a,b,rfl,ha,hb⟩:=jn rm;have m1:(ti*ti).natAbs<=100*100:=by rw[fc];exact kW (by omega) (by omega)
   have eP:ti^(2:Int).toNat=ti*ti:=by show ti^2=ti*ti;rw[fb,fb,kh,jx]
   have lim:(ti*ti*(q.den:Int)).natAbs<2^2399:=by have hd:=bq.den;rw[fc];have:(q.den:Int).natAbs=q.den:=rfl;rw[this];have:=jI (n:=14) (m:=2000) (a:=(ti*ti).natAbs) (b:=q.den) (oY m1 (by decide)) hd;exact fF this (oX (by decide) (by decide))
   have p0:0<ti*ti*(q.den:Int):=gA (gA (by omega) (by omega)) (den_pos q);have e2:(2:Nat)^2400=2^2399*2:=Nat.pow_succ 2 2399;have xG:∀{t:Int},t.natAbs<2^2400->Wd (t*t):=fun{t} tw=>gb (n:=4800) (by rw[fc];exact jI (n:=2400) (m:=2400) tw tw) (by decide);have wt:∀{t:Int},t.natAbs<2^2400->Wd t:=fun{t} tw=>gb tw (by decide);refine⟨_,rfl,.inr ⟨a,_,4,.int ti,rfl,rfl,ha,rfl,?_⟩⟩
   refine ⟨_, _, rfl, rfl, ⟨by decide, by decide, by have:(2:Nat)^64=18446744073709551616:=by decide
                                                     omega⟩,?_⟩;refine⟨_,rfl,.inr ⟨p,_,1,.int q.den,rfl,rfl,hp,rfl,?_⟩⟩;refine⟨_,_,rfl,rfl,by rw[eP];exact .of_left (bJ (by omega) (by omega)),?_⟩;have eW:ti^(2:Int).toNat*(q.den:Int)=ti*ti*(q.den:Int):=by rw[eP]
   have Nh:∀t:Int,decide (t*t*q.num<ti^(2:Int).toNat*(q.den:Int))= !fm ti q t:=fun t=>by unfold fm;rw[eW,<-decide_not];exact decide_eq_decide.mpr (by omega)
   refine⟨bM _ (bR rfl),fun c0 H0 n0=>?_⟩;refine⟨c0,_,rfl,aB.of n0.at',rfl,_,_,rfl,_,_,rfl,rfl,?_⟩;have zl:=hp.go n0.same;have k':∀T:Int,1<=T->T.natAbs<2^2400->fm ti q T=true->fm ti q (T-1)=false->Q (.int T) H0:=fun T a1 a2 a3 a4=>(k T a1 a2 a3 a4) H0 n0.same;generalize hL:ti*ti*(q.den:Int)=L at lim p0;refine kY (fun σ H2=>H2=H0/\∃(lo x:Int),σ=[some (.ref a),some (.ref p),some (.int (ti^(2:Int).toNat*(q.den:Int))),some (.int lo),some (.int x),none]/\0<=lo/\lo<x/\x<=2*L/\fm ti q lo=false) (fun σ _=>match σ with|[_,_,_,_,some (.int x),_]=>(L-x).toNat|_=>0) ?_ ?_ ?_
   ·exact⟨rfl,0,1,rfl,by omega,by omega,by omega,Nc t1⟩
   · rintro σ H2 ⟨rfl,lo,x,rfl,l0,lx,xL,hx⟩
     have xw:x.natAbs<2^2400:=by omega
     refine⟨_,rfl,_,rfl,_,_,rfl,rfl,gz (wt xw).bits (wt xw).bits,_,rfl,.inr ⟨p,_,0,.int q.num,rfl,rfl,zl,rfl,_,_,rfl,rfl,gz (xG xw).bits bq.wn.bits,?_⟩⟩;refine⟨_,rfl,_,_,rfl,rfl,_,rfl,?_⟩;show if decide (x*x*q.num<ti^(2:Int).toNat*(q.den:Int))=true then _ else _;rw[Nh];cases mR:fm ti q x with
     |false=>
       have bZ:x<L:=by
        by_cases bZ:x<L
        ·exact bZ
        ·rw[Nf hq (by omega) (by omega)]at mR;cases mR
       refine bF ?_;refine⟨_,rfl,_,rfl,_,_,rfl,rfl,.of_left (bJ (by decide) (by decide)),_,_,rfl,?_⟩;refine⟨⟨rfl,x,2*x,rfl,by omega,by omega,by omega,mR⟩,?_⟩;show(L-2*x).toNat<(L-x).toNat;omega |true=>
       refine bf ?_;refine kY (fun σ H3=>H3=H2/\∃(lo hi:Int)(v:Option V),σ=[some (.ref a),some (.ref p),some (.int (ti^(2:Int).toNat*(q.den:Int))),some (.int lo),some (.int hi),v]/\0<=lo/\lo<hi/\hi<=2*L/\fm ti q lo=false/\fm ti q hi=true) (fun σ _=>match σ with|[_,_,_,some (.int y),some (.int x),_]=>(x-y).toNat|_=>0) ?_ ?_ ?_
       ·exact⟨rfl,lo,x,none,rfl,by omega,by omega,xL,hx,mR⟩
       · rintro σ H3 ⟨rfl,lo,hi,v,rfl,l0,lh,wz,wK,qI⟩
         refine⟨_,rfl,_,rfl,_,_,rfl,rfl,_,_,rfl,rfl,_,rfl,?_⟩;refine cV (fun hc=>?_) (fun hc=>?_)
         · have hgt:hi-lo>1:=ja hc
           refine⟨_,rfl,_,rfl,_,_,rfl,rfl,_,_,rfl,rfl,⟨by decide,gb (n:=2) (by decide) (by decide)⟩,?_⟩;have mw:((lo+hi)/2).natAbs<2^2400:=by omega
           refine⟨_,rfl,_,rfl,_,_,rfl,rfl,gz (wt mw).bits (wt mw).bits,_,rfl,.inr ⟨p,_,0,.int q.num,rfl,rfl,zl,rfl,_,_,rfl,rfl,gz (xG mw).bits bq.wn.bits,?_⟩⟩;refine⟨_,rfl,_,_,rfl,rfl,_,rfl,?_⟩;show if decide ((lo+hi)/2*((lo+hi)/2)*q.num<ti^(2:Int).toNat*(q.den:Int))=true then _ else _;rw[Nh];cases hm:fm ti q ((lo+hi)/2)with |true=>refine bf ?_;refine⟨_,rfl,⟨rfl,lo,_,_,rfl,l0,by omega,by omega,wK,hm⟩,?_⟩;show((lo+hi)/2-lo).toNat<(hi-lo).toNat;omega |false=>refine bF ?_;refine⟨_,rfl,⟨rfl,_,hi,_,rfl,by omega,by omega,wz,hm,qI⟩,?_⟩;show(hi-(lo+hi)/2).toNat<(hi-lo).toNat;omega
         · have hle:¬hi-lo>1:=fun z=>hc (cw z)
           have e:lo=hi-1:=by omega
           subst e;exact⟨_,rfl,k' hi (by omega) (by omega) qI wK⟩
       · rintro σ H2 Q1 Q2 hq ⟨v1,e1,v2,e2,i,j,e3,e4,i2,j2,e5,e6,kk,e7,q⟩
         exact⟨v1,e1,v2,e2,i,j,e3,e4,i2,j2,e5,e6,kk,e7,hq _ _ q⟩
   · rintro σ H2 Q1 Q2 hq ⟨v1,e1,v2,e2,i,j,e3,e4,mo,v3,e5,h⟩
     refine⟨v1,e1,v2,e2,i,j,e3,e4,mo,v3,e5,?_⟩;rcases h with⟨a,xs,ii,x,f1,f2,f3,f4,i2,j2,g1,g2,g3,v4,g4,i3,j3,g5,g6,kk,g7,q⟩|⟨a,xs,ii,x,f1,f2,f3,f4,i2,j2,g1,g2,g3,v4,g4,i3,j3,g5,g6,kk,g7,q⟩
     ·exact .inl ⟨a,xs,ii,x,f1,f2,f3,f4,i2,j2,g1,g2,g3,v4,g4,i3,j3,g5,g6,kk,g7,hq _ _ q⟩
     ·exact .inr ⟨a,xs,ii,x,f1,f2,f3,f4,i2,j2,g1,g2,g3,v4,g4,i3,j3,g5,g6,kk,g7,hq _ _ q⟩
inductive OX(K:a5w)(vs:List V)(H:Hp)(Q:VK):Prop |mk (v:_)(ns:_)(sp:_)(k:_)(h0:vs=[v,.int k])(h1:RD K H v (fy ns sp))(h2:dN ns.length 1000 ns)(h3:ns.length<=1000)(h4:0<=k)(h5:k<=10^6)(h6:∀v' H',RD K H' v' (AJ ns k)->ai H H'->Q v' H'):OX K vs H Q
def Hz(K:a5w):Sp:=fun vs H Q _=>OX K vs H Q
theorem a2f{k n q:Int}(hk:0<=k)(hq:0<q):(if n<0 then-((2*k*gG n+q)/(2*q))else(2*k*gG n+q)/(2*q))=gr (k*n) q:=by
 have e:2*k*gG n=2*((k*n).natAbs:Int):=by rw[wX,fc,Int.natCast_mul,r8,Int.natAbs_of_nonneg hk]
 rw[e];show(if n<0 then-(jC (k*n) q)else jC (k*n) q)=gr (k*n) q;rcases Gv n 0 with hn|hn
 · rw[aP hn]
   rcases Gv 0 k with h0|h0
   · have:k*n<0:=Int.mul_neg_of_pos_of_neg h0 hn
     unfold gr;rw[aV (by omega)]
   · have e0:k=0:=by omega
     rw[e0,xA,DA hq];have:=DA hq;unfold gr at this;rw[aP (by omega)]at this;omega
 · rw[aV (by omega)]
   have:0<=k*n:=iS hk hn;unfold gr;rw[aP this]
abbrev Bk:Stmt:=top 76
theorem IQ:bc ["_law_line_here","_law_k","_law_lead_here","_law_found","_law_step","_law_far"] ["_law_line_here","_law_k"] (aM Bk):=bh (by decide+kernel)
theorem Wy(F:FA K mg "_law_stand" Bk)(B:bB mg)(oy:aj P w K mg base "_law_lead" 1 (ki K)):aj P w K mg base "_law_stand" 2 (Hz K):=by
 refine F.has IQ (fun vs H Q E h=>?_) (fun _ _ _ _ _ _=>cP fun _ _=>rfl) (fun f aD A outer s H vs Q E hr h=>?_)
 · obtain⟨v,ns,sp,k,rfl,_⟩:=h
   rfl
 · obtain⟨v,ns,sp,kk,rfl,rd,ok,hz,hk,hk2,k⟩:=h
   have nd:=IQ.nd;refine⟨_,(ah (aH (i:=2) nd rfl (Or.inl rfl) (pf oy hr (aa (pv 0) af))) (ah (aH (i:=3) nd rfl (Or.inl rfl) (dF af)) (ah (jF fU rfl (o6 K rfl (aJ (aK K rfl) (pv 0) ag (fun _ _=>rfl))) (aQ (i:=4) nd rfl (Or.inl rfl)) (ah (aH (i:=5) nd rfl (Or.inl rfl) (au kF (au cF (au ba (au ba ag (pv 1)) (aL (x:="abs") lW rfl (B.at "abs") nI (aa (pv 4) af))) (pv 2)) (au ba ag (pv 2)))) (ao (fP (iX K rfl (pv 3) (aa (aJ (aK K rfl) (dF (aa (pv 5) (aa (vk uF (pv 5)) af))) (gk (x:="int") NX rfl (B.at "int") Gb (aa (e9 iH (pv 4) ag (aX _)) af)) (fun _ _=>rfl)) af)))))) (ao (aG (gk (x:="tuple") (jB K rfl) rfl (B.at "tuple") eU (aa (pv 3) af))))))),?_⟩;refine⟨_,rfl,v,ns,sp,rfl,rd,ok.ne,hz,fun H1 s1=>?_⟩;obtain⟨lp,lm⟩:=ok.lead;refine⟨bM _ (bR rfl),fun l H2 n2=>?_⟩;obtain⟨a,b,rfl,ha,hb⟩:=jo (RD.mono (s1.trans n2.same) _ rd);refine⟨_,rfl,.inr ⟨a,_,1,.ref b,rfl,rfl,ha,rfl,b,rfl,⟨_,hb⟩,a24 (K:=K) (a:=b) (xs:=ns.map V.int) (fun i σ H3=>ai H1 H3/\aB K H3 b (ns.map V.int)/\H3 l=some (.lst (((ns.map fun z=>gr (kk*z) (ak ns)).take i).map V.int))/\∃v1 v2,σ=[some (.ref a),some (.int kk),some (.int (ak ns)),some (.ref l),v1,v2]) ⟨n2.same,hb,n2.at',none,none,rfl⟩ (fun i σ H3 _ h=>h.2.1) ?_ ?_⟩⟩
   · rintro i x σ H3 hx ⟨s3,Mt,dl,v1,v2,rfl⟩
     obtain⟨n,en⟩:∃n,ns[i]? =some n:=by rw[bU]at hx;cases e:ns[i]? with |none=>rw[e]at hx;cases hx |some n=>exact⟨n,rfl⟩
     cases vQ hx en;have nb:=ok.bd n (g9 en);have hi:i<ns.length:=(dC.mp en).1;have ab:gG n=(n.natAbs:Int):=wX n;have pb:=Kn (k:=kk) (z:=n) (by omega) nb;have eA:2*kk*gG n=2*((kk*n).natAbs:Int):=by rw[ab,fc,Int.natCast_mul,r8,Int.natAbs_of_nonneg hk]
     refine⟨_,rfl,_,_,rfl,rfl,.of_left (bJ (by decide) (by decide)),_,rfl,_,rfl,_,_,rfl,rfl,.of_left (bJ (by omega) (by omega)),_,rfl,_,_,rfl,rfl,_,rfl,_,_,rfl,rfl,.of_left (bJ (by decide) (by decide)),_,_,rfl,rfl,⟨by omega,GA (by omega)⟩,?_⟩;have fn:=a2f (n:=n) hk (show(0:Int)<ak ns by omega);refine⟨_,rfl,.inl ⟨rfl,_,aw.of dl⟩,_,rfl,_,rfl,_,rfl,bM _ (bR rfl),fun c H4 n4=>?_⟩;refine⟨_,rfl,_,_,rfl,rfl,.inr ⟨_,rfl,?_⟩⟩;have Ld:=n4.same _ _ dl;have hat:fo ([.int ((2*kk*gG n+(ak ns:Int))/(2*(ak ns:Int))),.int (-((2*kk*gG n+(ak ns:Int))/(2*(ak ns:Int))))]:List V) (if decide (n<0)=true then 1 else 0)=some (.int (gr (kk*n) (ak ns))):=by
      rw[<-fn];by_cases hn:n<0
      ·rw[aP (cw hn),aP hn];rfl
      ·rw[aV (fun z=>hn (ja z)),aV hn];rfl
     refine .inl ⟨c,_,_,_,rfl,rfl,aw.of n4.at',hat,?_⟩;refine⟨l,_,_,rfl,rfl,Ld,?_,?_⟩
     · have:(1000:Nat)<sizeLine:=by decide
       rw[bS,m4,bS];omega
     refine⟨fun b o e=>?_,aB.t (.nP Ld) (Mt.go n4.same),?_,_,_,rfl⟩
     ·rw[az (fw e n2.no)];exact n4.same b o (s3 b o e)
     ·rw[aO,nK,bU,en,m3];rfl
   · rintro σ H3 ⟨s3,Mt,dl,v1,v2,rfl⟩
     rw[Gi (by simp)]at dl;refine⟨_,rfl,l,_,rfl,.inl ⟨aw.of dl,fun t H4 n4=>?_⟩⟩;exact k _ _ (iW (aB.of n4.at') (rW _)) (s1.trans (s3.trans n4.same))
end
end Lw
set_option maxHeartbeats 2000000
namespace Lw
open PySem PySem.Spec PyProof.Rows L2 Rt Ln Cn Pn Wk Rn
open Ow (topR cornO mnO betR atO ownF leadF ownL OkI OkIs)
section
variable {P:a5y}{w:World}{K:a5w}{mg:Str->Option Value}{base:Heap}
theorem bu{n:Nat}(h:n+64<cLine):n+1<cLine:=oY (Nat.add_le_add_left (by decide) n) h
def aY(m p g s r t k q n b c re td:V):List (Key×V):=[(.inr "machine",m),(.inr "place",p),(.inr "goal",g),(.inr "square",s),(.inr "rate",r),(.inr "tool",t),(.inr "mark",k),(.inr "queue",q),(.inr "gone",n),(.inr "brake",b),(.inr "braked",c),(.inr "reach",re),(.inr "told",td)]
section
variable {H:Hp}{a:Addr}{m p g s r t k q n b c re td x:V}
theorem dg{aA:List (Key×V)}{z:Str}{v:V}(h:H a=some (.dK aA))(e:fH aA (.inr z)=some v):qU H a (.str z) (some v):=by rw[<-e];exact qU.k (k:=Sum.inr z) h
theorem dp{aA LN:List (Key×V)}{z:Str}{v:V}(h:H a=some (.dK aA))(e:putK aA (.inr z) v=LN)(hl:aA.length<=13):oS H a (.str z) v (L2.upd H a (.dK LN)):=by rw[<-e];exact oS.k (k:=Sum.inr z) h (oY hl (by decide))
theorem zv:fH (aY m p g s r t k q n b c re td) (.inr "machine")=some m:=by kernel_rfl
theorem MR:fH (aY m p g s r t k q n b c re td) (.inr "place")=some p:=by kernel_rfl
theorem EE:fH (aY m p g s r t k q n b c re td) (.inr "goal")=some g:=by kernel_rfl
theorem tQ:fH (aY m p g s r t k q n b c re td) (.inr "square")=some s:=by kernel_rfl
theorem MQ:fH (aY m p g s r t k q n b c re td) (.inr "rate")=some r:=by kernel_rfl
theorem jT:fH (aY m p g s r t k q n b c re td) (.inr "queue")=some q:=by kernel_rfl
theorem zw:fH (aY m p g s r t k q n b c re td) (.inr "gone")=some n:=by kernel_rfl
theorem wC:fH (aY m p g s r t k q n b c re td) (.inr "brake")=some b:=by kernel_rfl
theorem MS:fH (aY m p g s r t k q n b c re td) (.inr "braked")=some c:=by kernel_rfl
theorem MP:fH (aY m p g s r t k q n b c re td) (.inr "reach")=some re:=by kernel_rfl
theorem MO:fH (aY m p g s r t k q n b c re td) (.inr "told")=some td:=by kernel_rfl
theorem VY:putK (aY m p g s r t k q n b c re td) (.inr "place") x=aY m x g s r t k q n b c re td:=by kernel_rfl
theorem W0:putK (aY m p g s r t k q n b c re td) (.inr "goal") x=aY m p x s r t k q n b c re td:=by kernel_rfl
theorem VX:putK (aY m p g s r t k q n b c re td) (.inr "square") x=aY m p g x r t k q n b c re td:=by kernel_rfl
theorem VW:putK (aY m p g s r t k q n b c re td) (.inr "tool") x=aY m p g s r x k q n b c re td:=by kernel_rfl
theorem VZ:putK (aY m p g s r t k q n b c re td) (.inr "mark") x=aY m p g s r t x q n b c re td:=by kernel_rfl
theorem Ky:putK (aY m p g s r t k q n b c re td) (.inr "gone") x=aY m p g s r t k q x b c re td:=by kernel_rfl
theorem KA:putK (aY m p g s r t k q n b c re td) (.inr "brake") x=aY m p g s r t k q n x c re td:=by kernel_rfl
theorem Kz:putK (aY m p g s r t k q n b c re td) (.inr "braked") x=aY m p g s r t k q n b x re td:=by kernel_rfl
theorem yA:putK (aY m p g s r t k q n b c re td) (.inr "reach") x=aY m p g s r t k q n b c x td:=by kernel_rfl
theorem iT:(aY m p g s r t k q n b c re td).length<=13:=bp _
end
def uo(K:a5w)(H:Hp)(bv cv:V):Rn.fD->Prop |none=>bv= .aW/\∃c,cv= .int c |some (sq,st,gn)=>∃a u,bv= .ref a/\aB K H a [u,.int st]/\aR K H u sq/\cv= .int gn
theorem uo.v{H H':Hp}{bv cv:V}{t:Rn.fD}(s:bG H H')(h:uo K H bv cv t):uo K H' bv cv t:=by cases t with |none=>exact h |some q=>obtain⟨sq,st,gn⟩:=q;obtain⟨a,u,rfl,h1,h2,h3⟩:=h;exact⟨a,u,rfl,aB.v s h1,aR.v s h2,h3⟩
def zZ(K:a5w)(H:Hp)(M:bw)(S:aZ)(rv:V):Prop:=rv= .aW\/aR K H rv (eK M S)
theorem zZ.v{H H':Hp}{M:bw}{S:aZ}{rv:V}(s:bG H H')(h:zZ K H M S rv):zZ K H' M S rv:=h.imp id (aR.v s)
structure dh(K:a5w)(H:Hp)(d q td:Addr)(M:bw)(S:aZ):Prop where
 ob:∃mv lv gv sv bv cv rv,H d=some (.dK (aY mv lv gv sv (.int S.rate) (.str S.side) (.str S.mark) (.ref q) (.int S.dn) bv cv rv (.ref td)))/\RD K H mv M.D/\RD K H lv (fj (dZ S))/\RD K H gv (fj (cG S))/\aR K H sv S.pc/\uo K H bv cv S.stp/\zZ K H M S rv
 qu:∃ys,H q=some (.lst ys)/\ay K H ys S.ds
theorem dh.go{H H':Hp}{d q td:Addr}{M:bw}{S:aZ}(h:dh K H d q td M S)(hn:cm S.ds=true)(s:bG H H')(ea:∀o,H d=some o->H' d=some o)(eq:∀o,H q=some o->H' q=some o):dh K H' d q td M S:=by obtain⟨⟨mv,lv,gv,sv,bv,cv,rv,e,r1,r2,r3,r4,r5,r6⟩,ys,jV,rq⟩:=h;exact⟨⟨mv,lv,gv,sv,bv,cv,rv,ea _ e,RD.v s _ (gP _ _ _ _ _) r1,RD.v s _ (gh _) r2,RD.v s _ (gh _) r3,r4.v s,r5.v s,r6.v s⟩,ys,eq _ jV,ay.v s _ hn rq⟩
theorem dh.same{H H':Hp}{d q td:Addr}{M:bw}{S:aZ}(h:dh K H d q td M S)(hn:cm S.ds=true)(s:ai H H'):dh K H' d q td M S:=h.go hn s.v (fun o e=>s _ _ e) (fun o e=>s _ _ e)
theorem dh.ne{H:Hp}{d q td:Addr}{M:bw}{S:aZ}(h:dh K H d q td M S):d≠q:=by obtain⟨⟨mv,lv,gv,sv,bv,cv,rv,e,_⟩,ys,jV,_⟩:=h;exact vI e jV (by intro z;cases z)
theorem dh.v{H H':Hp}{d q td:Addr}{M:bw}{S:aZ}(h:dh K H d q td M S)(b:bI [d,q] H H'):bG H H':=by
 obtain⟨⟨mv,lv,gv,sv,bv,cv,rv,e,_⟩,ys,jV,_⟩:=h;refine b.v fun x hx o eo=>?_;simp only[bW,da,dB]at hx;rcases hx with rfl|rfl
 ·rw[e]at eo;cases eo;trivial
 ·rw[jV]at eo;cases eo;trivial
inductive P2(K:a5w)(vs:List V)(H:Hp)(Q:VK):Prop |mk (d:_)(q:_)(td:_)(M:_)(D:_)(S:_)(h0:vs=[.ref d])(h1:dh K H d q td M S)(h2:bQ M D S)(h3:M.Ok)(h4:Q (.int (gX M.f S.pc)) H):P2 K vs H Q
def HM(K:a5w):Sp:=fun vs H Q _=>P2 K vs H Q
abbrev Bn:Stmt:=top 86
theorem IU:bc ["_law_sim_here","_law_each"] ["_law_sim_here"] (aM Bn):=bh (by decide+kernel)
theorem WA(F:FA K mg "_law_sim_stops" Bn)(B:bB mg):aj P w K mg base "_law_sim_stops" 1 (HM K):=by
 refine F.has IU (fun vs H Q E h=>?_) (fun _ _ _ _ _ _=>dR fun _=>rfl) (fun f aD A outer s H vs Q E hr h=>?_)
 · obtain⟨d,q,td,M,D,S,rfl,_⟩:=h
   rfl
 · obtain⟨d,q,td,M,D,S,rfl,R,ok,aE,k⟩:=h
   obtain⟨mv,lv,gv,sv,bv,cv,rv,e,r1,r2,r3,⟨pa,rfl,qj⟩,r5,r6⟩:=R.ob;have nd:=IU.nd;have oE:=aE.f1;obtain⟨ma,mb,rfl,fA,gE⟩:=jn r1;have bd:Bd 1600 S.pc:=(ok.pd.bd (dc ok.pm (by decide+kernel))).mono (by have:=ok.D2;omega);have hd:0<2*M.f*(S.pc.den:Int):=gA (by omega) (den_pos S.pc);have wd:Wd (2*M.f*(S.pc.den:Int)):=by
    refine gb (n:=1700) ?_ (by decide);rw[fc];have h1:(2*M.f).natAbs<2^7:=by omega
    have:=jI h1 bd.den;exact fF this (oX (by decide) (by decide))
   refine⟨_,(ah (aH (i:=1) nd rfl (Or.inl rfl) (au ba (au ba ag (aJ (aK K rfl) (cu (bu hr.units) (pv 0) aU (fun _ _=>rfl)) ag (fun _ _=>rfl))) (aJ (aK K rfl) (cu (bu hr.units) (pv 0) aU (fun _ _=>rfl)) ag (fun _ _=>rfl)))) (ao (aG (au kF (au fu (au cF (aJ (aK K rfl) (cu (bu hr.units) (pv 0) aU (fun _ _=>rfl)) ag (fun _ _=>rfl)) (pv 1)) ag) (pv 1))))),?_⟩;refine⟨_,rfl,d,_,rfl,dg e zv,.inr ⟨ma,_,2,.int M.f,rfl,rfl,fA,rfl,_,_,rfl,rfl,.of_left (bJ (by decide) (by decide)),?_⟩⟩;refine⟨_,rfl,d,_,rfl,dg e tQ,.inr ⟨pa,_,1,_,rfl,rfl,qj,rfl,_,_,rfl,rfl,.of_left (bJ (by omega) (by omega)),?_⟩⟩;refine⟨_,rfl,d,_,rfl,dg e tQ,.inr ⟨pa,_,0,_,rfl,rfl,qj,rfl,_,rfl,_,_,rfl,rfl,_,_,rfl,rfl,_,rfl,_,_,rfl,rfl,⟨hd,wd⟩,?_⟩⟩;exact k
inductive P8(K:a5w)(vs:List V)(H:Hp)(Q:VK):Prop |mk (d:_)(q:_)(td:_)(M:_)(D:_)(S:_)(h0:vs=[.ref d])(h1:dh K H d q td M S)(h2:bQ M D S)(h3:M.Ok)(h4:∀H',dh K H' d q td M (iO M S)->bI [d] H H'->Q (.int (gX M.f S.pc)) H'):P8 K vs H Q
def HQ(K:a5w):Sp:=fun vs H Q _=>P8 K vs H Q
abbrev Bq:Stmt:=top 87
theorem IX:bc ["_law_sim_here","_law_many"] ["_law_sim_here"] (aM Bq):=bh (by decide+kernel)
theorem WE(F:FA K mg "_law_sim_hold" Bq)(B:bB mg)(a1D:aj P w K mg base "_law_sim_stops" 1 (HM K)):aj P w K mg base "_law_sim_hold" 2 (HQ K):=by
 refine F.has IX (fun vs H Q E h=>?_) (fun _ _ _ _ _ _=>dR fun _=>rfl) (fun f aD A outer s H vs Q E hr h=>?_)
 · obtain⟨d,q,td,M,D,S,rfl,_⟩:=h
   rfl
 · obtain⟨d,q,td,M,D,S,rfl,R,ok,aE,k⟩:=h
   obtain⟨mv,lv,gv,sv,bv,cv,rv,e,r1,r2,r3,r4,r5,r6⟩:=R.ob;obtain⟨ys,eq,rq⟩:=R.qu;have dq:=R.ne;have nd:=IX.nd;refine⟨_,(ah (aH (i:=1) nd rfl (Or.inl rfl) (pf a1D hr (aa (pv 0) af))) (ah (fW (bj (bK KO (cu (bu hr.units) (pv 0) aU (fun _ _=>rfl)) iD (aX _)) (ah (fI (bu hr.units) (pv 0) aU (dH (aa (cu (bu hr.units) (pv 0) aU (fun _ _=>rfl)) (aa (pv 1) af))) rfl) (ao (fI (bu hr.units) (pv 0) aU ag rfl))) bE)) (ao (aG (pv 1))))),?_⟩;refine⟨_,rfl,d,q,td,M,D,S,rfl,R,ok,aE,?_⟩;refine⟨fun σ H1=>σ=[some (.ref d),some (.int (gX M.f S.pc))]/\dh K H1 d q td M (iO M S)/\bI [d] H H1,?_,?_⟩
   · refine⟨_,rfl,d,_,rfl,dg e wC,rfl,_,rfl,?_⟩
     cases hs:S.stp with |some z=>obtain⟨sq,st,gn⟩:=z;have gM:=r5;rw[hs]at gM;obtain⟨a,u,rfl,_⟩:=gM;refine bf ⟨rfl,?_,bI.refl _ _⟩;unfold iO;rw[hs];exact R |none=>
       have gM:=r5;rw[hs]at gM;obtain⟨rfl,_⟩:=gM;refine bF ?_;refine⟨_,rfl,d,_,rfl,dg e tQ,_,rfl,bM _ (bR rfl),fun t H1 n1=>?_⟩;have e1:=n1.same _ _ e;refine⟨_,rfl,d,_,rfl,dp e1 KA iT,?_⟩;refine⟨_,rfl,d,_,rfl,dp aO Kz iT,rfl,?_,fun b o eb hb=>?_⟩
       · have key:∀X:Hp,(∀b,b≠d->X b=H1 b)->dh K (L2.upd X d (.dK (aY mv lv gv sv (.int S.rate) (.str S.side) (.str S.mark) (.ref q) (.int S.dn) (.ref t) (.int 0) rv (.ref td)))) d q td M (iO M S):=by
           intro X hX;have xV:bG H1 (L2.upd X d (.dK (aY mv lv gv sv (.int S.rate) (.str S.side) (.str S.mark) (.ref q) (.int S.dn) (.ref t) (.int 0) rv (.ref td)))):=fun b o nb eb=>by
            have hb:b≠d:=fun z=>by rw[z,e1]at eb;cases eb;exact nb trivial
            rw[az hb,hX b hb];exact eb
           have pO:=n1.same.v.trans xV;unfold iO;rw[hs];refine⟨⟨mv,lv,gv,sv,.ref t,.int 0,rv,aO,RD.v pO _ (gP _ _ _ _ _) r1,RD.v pO _ (gh _) r2,RD.v pO _ (gh _) r3,r4.v pO,⟨t,sv,rfl,aB.v xV (aB.of n1.at'),r4.v pO,rfl⟩,r6.v pO⟩,ys,?_,ay.v pO _ ok.row.no rq⟩;rw[az dq.symm,hX q dq.symm];exact n1.same _ _ eq
         exact key _ (fun b hb=>by rw[az hb])
       · have ox:b≠d:=fun z=>hb (by rw[z];exact .head _)
         rw[az ox,az ox];exact n1.same _ _ eb
   · rintro σ H1 ⟨rfl,R1,b1⟩
     exact⟨_,rfl,k _ R1 b1⟩
theorem mW{H:Hp}{a:Addr}{aA:List (Key×V)}{z:Str}{v:V}{n:Nat}(h:H a=some (.dK aA))(hl:aA.length<=n)(hn:n<=13):oS H a (.str z) v (L2.upd H a (.dK (putK aA (.inr z) v)))/\(putK aA (.inr z) v).length<=n+1:=⟨oS.k (k:=Sum.inr z) h (oY (gH hl hn) (by decide)),gH (yY _ _ _) (Nat.succ_le_succ hl)⟩
theorem Tz{mv lv s q' t':V}:putK (putK (putK (putK (putK (putK (putK (putK (putK (o8 [] [(Sum.inr "machine",mv),(.inr "place",lv),(.inr "goal",lv),(.inr "square",s)]) (.inr "rate") (.int 100)) (.inr "tool") (.str "up")) (.inr "mark") (.str "")) (.inr "queue") q') (.inr "gone") (.int 0)) (.inr "brake") .aW) (.inr "braked") (.int 0)) (.inr "reach") .aW) (.inr "told") t'=aY mv lv lv s (.int 100) (.str "up") (.str "") q' (.int 0) .aW (.int 0) .aW t':=by kernel_rfl
theorem TB{mv lv s:V}:(o8 [] [(Sum.inr "machine",mv),(.inr "place",lv),(.inr "goal",lv),(.inr "square",s)]).length<=4:=by rw[show o8 [] [(Sum.inr "machine",mv),(.inr "place",lv),(.inr "goal",lv),(.inr "square",s)]=([(.inr "machine",mv),(.inr "place",lv),(.inr "goal",lv),(.inr "square",s)]:List (Key×V)) by kernel_rfl];exact bp _
inductive P0(K:a5w)(vs:List V)(H:Hp)(Q:VK):Prop |mk (mv:_)(lv:_)(M:_)(pl:_)(h0:vs=[mv,lv])(h1:RD K H mv (bw.D M))(h2:RD K H lv (fj pl))(h3:∀d q td H',dh K H' d q td M (kD pl)->H' td=some (.lst [])->H d=none->H q=none->H td=none->d≠td->q≠td->ai H H'->Q (.ref d) H'):P0 K vs H Q
def HK(K:a5w):Sp:=fun vs H Q _=>P0 K vs H Q
abbrev Bm:Stmt:=top 81
theorem IT:bc ["_law_machine_here","_law_place_here","_law_sim_here"] ["_law_machine_here","_law_place_here"] (aM Bm):=bh (by decide+kernel)
theorem WD(F:FA K mg "_law_sim" Bm)(B:bB mg):aj P w K mg base "_law_sim" 1 (HK K):=by
 refine F.has IT (fun vs H Q E h=>?_) (fun _ _ _ _ _ _=>cP fun _ _=>rfl) (fun f aD A outer s H vs Q E hr h=>?_)
 · obtain⟨mv,lv,M,pl,rfl,_⟩:=h
   rfl
 · obtain⟨mv,lv,M,pl,rfl,rm,rl,k⟩:=h
   have nd:=IT.nd;refine⟨_,(ah (aH (i:=2) nd rfl (Or.inl rfl) (VL (yt aU (pv 0) (yt aU (pv 1) (yt aU (pv 1) (yt aU (dH (aa ag (aa ag af))) Vp)))) rfl rfl (by simp) (by decide))) (ah (fI (bu hr.units) (pv 2) aU ag rfl) (ah (fI (bu hr.units) (pv 2) aU aU rfl) (ah (fI (bu hr.units) (pv 2) aU aU rfl) (ah (fI (bu hr.units) (pv 2) aU (dF af) rfl) (ah (fI (bu hr.units) (pv 2) aU ag rfl) (ah (fI (bu hr.units) (pv 2) aU iD rfl) (ah (fI (bu hr.units) (pv 2) aU ag rfl) (ah (fI (bu hr.units) (pv 2) aU iD rfl) (ah (fI (bu hr.units) (pv 2) aU (dF af) rfl) (ao (aG (pv 2))))))))))))),fun d mC=>?_⟩;refine⟨_,rfl,_,rfl,_,rfl,bM _ (bR rfl),fun t H1 n1=>?_⟩;have td:t≠d:=fun z=>by have:=n1.no;rw[z,aO]at this;cases this
   have e1:=n1.same _ _ (aO (a:=d) (o:=HO.dK []));refine⟨e1,[(.inr "machine",mv),(.inr "place",lv),(.inr "goal",lv),(.inr "square",.ref t)],rfl,(by show 4<=15;decide),?_⟩;obtain⟨d1,l1⟩:=mW (z:="rate") (v:=.int 100) (H:=L2.upd H1 d _) (a:=d) aO TB (by decide);refine⟨_,rfl,d,_,rfl,d1,?_⟩;obtain⟨d2,l2⟩:=mW (z:="tool") (v:=.str "up") (a:=d) aO l1 (by decide);refine⟨_,rfl,d,_,rfl,d2,?_⟩;obtain⟨d3,l3⟩:=mW (z:="mark") (v:=.str "") (a:=d) aO l2 (by decide);refine⟨_,rfl,d,_,rfl,d3,?_⟩;refine⟨fV _,fun q H2 n2=>?_⟩;obtain⟨d4,l4⟩:=mW (z:="queue") (v:=.ref q) (a:=d) (n2.same _ _ aO) l3 (by decide);refine⟨_,rfl,d,_,rfl,d4,?_⟩;obtain⟨d5,l5⟩:=mW (z:="gone") (v:=.int 0) (a:=d) aO l4 (by decide);refine⟨_,rfl,d,_,rfl,d5,?_⟩;obtain⟨d6,l6⟩:=mW (z:="brake") (v:=.aW) (a:=d) aO l5 (by decide);refine⟨_,rfl,d,_,rfl,d6,?_⟩;obtain⟨d7,l7⟩:=mW (z:="braked") (v:=.int 0) (a:=d) aO l6 (by decide);refine⟨_,rfl,d,_,rfl,d7,?_⟩;obtain⟨d8,l8⟩:=mW (z:="reach") (v:=.aW) (a:=d) aO l7 (by decide);refine⟨_,rfl,d,_,rfl,d8,?_⟩;refine⟨fV _,fun tl H3 n3=>?_⟩;obtain⟨d9,l9⟩:=mW (z:="told") (v:=.ref tl) (a:=d) (n3.same _ _ aO) l8 (by decide);refine⟨_,rfl,d,_,rfl,d9,_,rfl,?_⟩;rw[Tz];have s1:∀b o,H b=some o->H1 b=some o:=fun b o eb=>n1.same _ _ (by rw[az (fw eb mC)];exact eb);have sU:∀{X:Hp}{o':HO},(∀b o,H b=some o->X b=some o)->∀b o,H b=some o->(L2.upd X d o') b=some o:=fun h b o eb=>by rw[az (fw eb mC)];exact h b o eb
   have s2:∀b o,H b=some o->H2 b=some o:=fun b o eb=>n2.same _ _ (sU (sU (sU (sU s1))) b o eb);have s3:∀b o,H b=some o->H3 b=some o:=fun b o eb=>n3.same _ _ (sU (sU (sU (sU (sU s2)))) b o eb);have s4:ai H (L2.upd H3 d (.dK (aY mv lv lv (.ref t) (.int 100) (.str "up") (.str "") (.ref q) (.int 0) .aW (.int 0) .aW (.ref tl)))):=fun b o eb=>sU s3 b o eb;have nu:∀{X:Hp}{o':HO}{y:Addr},(L2.upd X d o') y=none->y≠d/\X y=none:=fun{X o' y} h=>by
    have hy:y≠d:=fun z=>by rw[z,aO]at h;cases h
    exact⟨hy,by rw[az hy]at h;exact h⟩
   have no:∀{X:Hp}{y:Addr},(∀b o,H b=some o->X b=some o)->X y=none->H y=none:=fun{X y} h hy=>by cases e:H y with |none=>rfl |some o=>rw[h y o e]at hy;cases hy
   obtain⟨qd,q0⟩:=nu n2.no;have q1:=(nu (nu (nu q0).2).2).2;obtain⟨Ha,t0⟩:=nu n3.no;have t1:=(nu (nu (nu (nu t0).2).2).2).2;have qt:q≠tl:=fun z=>by rw[<-z,n2.at']at t1;cases t1
   have ht:∀{X:Hp},X t=some (.tup [.int 0,.int 1])->(L2.upd X d (.dK (aY mv lv lv (.ref t) (.int 100) (.str "up") (.str "") (.ref q) (.int 0) .aW (.int 0) .aW (.ref tl)))) t=some (.tup [.int 0,.int 1]):=fun h=>by rw[az td];exact h
   refine k d q tl _ ⟨⟨mv,lv,lv,.ref t,.aW,.int 0,.aW,aO,RD.mono s4 _ rm,?_,?_,⟨t,rfl,?_⟩,⟨rfl,_,rfl⟩,.inl rfl⟩,[],?_,cQ⟩ ?_ mC (no s1 q1) (no s2 t1) Ha.symm qt s4
   ·exact RD.mono s4 _ rl
   ·exact RD.mono s4 _ rl
   · refine aB.of (ht (n3.same _ _ ?_))
     rw[az td,az td,az td,az td,az td];refine n2.same _ _ ?_;rw[az td,az td,az td,az td];exact n1.at'
   · rw[az qd]
     refine n3.same _ _ ?_;rw[az qd,az qd,az qd,az qd,az qd];exact n2.at'
   ·rw[az Ha];exact n3.at'
theorem Fm{pa b:Addr}{pl ns:List Int}{te:TE}{Q:VK}{D:Addr}{H H1:Hp}(hp:aB K H pa (pl.map V.int))(hb:aB K H b (ns.map V.int))(ln:ns.length=pl.length)(hz:pl.length<=1000)(n1:Nw H H1 D (.lst [])) (ht:∀(x y:Int)(H:Hp)(Q:VK),Q (.int (x+y)) H->te [some (.int x),some (.int y)] H Q)(k:∀H2,ai H H2->H2 D=some (.lst ((dS pl ns).map V.int))->Q (.ref D) H2):iz (kS K false false pa b) (mT K 2 (j0 (eQ 0) (j0 (eQ 1) oC))) gJ te Q D [none,none] H1:=by
  refine qO (K:=K) (b1:=false) (b2:=false) (xs:=pl.map V.int) (ys:=ns.map V.int) (ds:=(dS pl ns).map PyData.int) [] rfl hp hb n1 (by simp[ng ln,ln]) (by rw[bS,ng ln];exact hz) (jG _) ?_ ?_
  · intro i x y d H2 Q' ex ey ed s2 hq
    obtain⟨m,em,rfl⟩:=kH ed;rw[bU]at ex ey;cases e1:pl[i]? with |none=>rw[e1]at ex;cases ex |some u=>cases e2:ns[i]? with |none=>rw[e2]at ey;cases ey |some v=>rw[e1]at ex;rw[e2]at ey;cases ex;cases ey;rw[FI e1 e2]at em;cases em;exact ht _ _ _ _ (hq _ _ (ai.refl _) (dG _))
  · intro H2 zs s2 d2 r2
    rw[r2.gT]at d2;exact k H2 s2 d2
theorem NL{pa b:Addr}{pl rs:List Int}{te:TE}{Q:VK}{D:Addr}{H H1:Hp}(hp:aB K H pa (pl.map V.int))(hb:aB K H b (rs.map V.int))(ln:pl.length=rs.length)(hz:pl.length<=1000)(n1:Nw H H1 D (.lst [])) (ht:∀(x y:Int)(H:Hp)(Q:VK),Q (.bl (decide (0<=x)&&decide (x<=y))) H->te [some (.int x),some (.int y)] H Q)(k:∀(H2:Hp)(bs:List Bool),ai H H2->H2 D=some (.lst (bs.map V.bl))->bs.all id=lI rs pl->Q (.ref D) H2):iz (kS K false false pa b) (mT K 2 (j0 (eQ 0) (j0 (eQ 1) oC))) gJ te Q D [none,none] H1:=by
  refine NN (K:=K) (b1:=false) (b2:=false) (xs:=pl.map V.int) (ys:=rs.map V.int) (bs:=(pl.zip rs).map fun p=>decide (0<=p.1)&&decide (p.1<=p.2)) [] rfl hp hb n1 (by simp) (by simp;omega) (fun i x y b' H2 Q' ex ey eb s2 hq=>?_) (fun H2 s2 d2=>?_)
  · rw[bU]at ex ey
    cases e1:pl[i]? with |none=>rw[e1]at ex;cases ex |some u=>cases e2:rs[i]? with |none=>rw[e2]at ey;cases ey |some v=>rw[e1]at ex;rw[e2]at ey;cases ex;cases ey;rw[bU,uy.mpr (show pl[i]? =some (u,v).1/\rs[i]? =some (u,v).2 from⟨e1,e2⟩)]at eb;cases eb;exact ht _ _ _ _ (hq _ (ai.refl _))
  ·exact k H2 _ s2 d2 (by unfold lI;rw[List.all_map];rfl)
theorem MK(S:aZ)(d:a5z)(o:Itm):cG (kO S d o)=gF (cG S) o:=by unfold cG kO;rw[List.foldl_append];rfl
theorem Vt{M:bw}{D:Nat}{S:aZ}(h:bQ M D S)(d:a5z)(o:Itm):dZ (kO S d o)=dZ S:=by
 unfold dZ;by_cases h0:S.dn=0
 ·rw[aP h0,aP (show(kO S d o).dn=0 from h0)];rfl
 · obtain⟨ns,sp,eo,_⟩:=h.first h0
   rw[aV h0,aV (show¬(kO S d o).dn=0 from h0),eo];have e2:(kO S d o).os[0]? =some (some (ns,sp)):=by show(S.os++[o])[0]? =_;rw[uz (dC.mp eo).1];exact eo
   rw[e2];rfl
inductive Pa(K:a5w)(vs:List V)(H:Hp)(Q:VK):Prop |mk (d:_)(q:_)(td:_)(M:_)(D:_)(S:_)(v:_)(it:_)(o:_)(h0:vs=[.ref d,v])(h1:dh K H d q td M S)(h2:bQ M D S)(h3:M.Ok)(h4:RD K H v it)(h5:uj M.rs.length it o)(h6:(lI M.rs (gF (cG S) o)=false->∀H',ai H H'->Q (.str ("rails "++Str.ofString (toString (S.ds.length:Int)))) H'))(h7:(lI M.rs (gF (cG S) o)=true->S.ds.length=20->∀H',ai H H'->Q (.str "full") H'))(h8:(lI M.rs (gF (cG S) o)=true->S.ds.length<20->∀H',dh K H' d q td M (kO S it o)->bI [d,q] H H'->Q (.int (S.ds.length+1:Nat)) H')):Pa K vs H Q
def HR(K:a5w):Sp:=fun vs H Q _=>Pa K vs H Q
abbrev Br:Stmt:=top 82
theorem IY:bc ["_law_sim_here","_law_item","_law_goal"] ["_law_sim_here","_law_item"] (aM Br):=bh (by decide+kernel)
theorem WG(F:FA K mg "_law_sim_feed" Br)(B:bB mg):aj P w K mg base "_law_sim_feed" 1 (HR K):=by
 refine F.has IY (fun vs H Q E h=>?_) (fun _ _ _ _ _ _=>cP fun _ _=>rfl) (fun f aD A outer s H vs Q E hr h=>?_)
 · obtain⟨d,q,td,M,D,S,v,it,o,rfl,_⟩:=h
   rfl
 · obtain⟨d,q,td,M,D,S,v,it,o,rfl,R,ok,aE,rv,mG,k1,k2,k3⟩:=h
   obtain⟨mv,lv,gv,sv,bv,cv,re,e,r1,r2,r3,r4,r5,r6⟩:=R.ob;obtain⟨ys,eq,rq⟩:=R.qu;have dq:=R.ne;have nd:=IY.nd;have ly:=rq.length;have DW:=ok.len;have yS:=aE.len;have gl:(cG S).length=M.rs.length:=zx _ _ ok.pl ok.sx;have bl:(gF (cG S) o).length=M.rs.length:=Fv gl fun ns sp eo=>(mG.ln ns sp eo).1.len;obtain⟨ma,mb,rfl,fA,gE⟩:=jn r1;refine⟨_,(ah (aH (i:=2) nd rfl (Or.inl rfl) (cu (bu hr.units) (pv 0) aU (fun _ _=>rfl))) (ah (fW (bj (bK (cH K rfl hr.units) (aJ (aK K rfl) (pv 1) ag (fun _ _=>rfl)) aU (aX _)) (ao (aH (i:=2) nd rfl (Or.inl rfl) (gk (x:="tuple") (jB K rfl) rfl (B.at "tuple") eU (aa (ft (N:=["_law_stand_here","_law_step"]) (js:=[none,none]) rfl rfl rfl (hW K rfl false false rfl (B.at "zip") (aa (pv 2) (aa (aJ (aK K rfl) (pv 1) ag (fun _ _=>rfl)) af))) (fun _ _ _ _ _=>(cS K rfl (n:=2) rfl (bo (aQ (i:=0) (show List.Nodup (["_law_stand_here","_law_step"]:List Str) by decide+kernel) rfl (Or.inl rfl)) (bo (aQ (i:=1) (show List.Nodup (["_law_stand_here","_law_step"]:List Str) by decide+kernel) rfl (Or.inl rfl)) cR)))) (fun _ _ _ _ _=>eL) (fun _ _ _ _ _=>(au cF (pv 0) (pv 1)))) af)))) bE)) (ah (bj (dX (cA (aL (x:="all") (nc K rfl rfl) rfl (B.at "all") oW (aa (ft (N:=["_law_stand_here","_law_rail"]) (js:=[none,none]) rfl rfl rfl (hW K rfl false false rfl (B.at "zip") (aa (pv 2) (aa (aJ (aK K rfl) (cu (bu hr.units) (pv 0) aU (fun _ _=>rfl)) ag (fun _ _=>rfl)) af))) (fun _ _ _ _ _=>(cS K rfl (n:=2) rfl (bo (aQ (i:=0) (show List.Nodup (["_law_stand_here","_law_rail"]:List Str) by decide+kernel) rfl (Or.inl rfl)) (bo (aQ (i:=1) (show List.Nodup (["_law_stand_here","_law_rail"]:List Str) by decide+kernel) rfl (Or.inl rfl)) cR)))) (fun _ _ _ _ _=>eL) (fun _ _ _ _ _=>(Dj o7 o7 ag (pv 0) (pv 1)))) af)))) (ao (aG (au Wh aU (gk (x:="str") a3m rfl (B.at "str") nH (aa (aL (x:="len") (cU K rfl) rfl (B.at "len") cY (aa (cu (bu hr.units) (pv 0) aU (fun _ _=>rfl)) af)) af))))) bE) (ah (bj (bK (cH K rfl hr.units) (aL (x:="len") (cU K rfl) rfl (B.at "len") cY (aa (cu (bu hr.units) (pv 0) aU (fun _ _=>rfl)) af)) ag (aX _)) (ao (aG aU)) bE) (ah (fI (bu hr.units) (pv 0) aU (pv 2) rfl) (ah (fI (bu hr.units) (pv 0) aU iD rfl) (ah (fP (iX K rfl (cu (bu hr.units) (pv 0) aU (fun _ _=>rfl)) (aa (pv 1) af))) (ao (aG (aL (x:="len") (cU K rfl) rfl (B.at "len") cY (aa (cu (bu hr.units) (pv 0) aU (fun _ _=>rfl)) af))))))))))),?_⟩;refine⟨_,rfl,d,_,rfl,dg e EE,?_⟩;refine⟨fun σ H1=>∃ga,σ=[some (.ref d),some v,some (.ref ga)]/\aB K H1 ga ((gF (cG S) o).map V.int)/\ai H H1,?_,?_⟩
   · obtain⟨a,wd,zs,rfl,ha,ew,sw⟩:=tj rv mG.it
     refine⟨_,rfl,.inr ⟨a,_,0,.str wd,rfl,rfl,ha,cM (fG 0) rfl,.inr ⟨_,_,dD _,dD _,sw,by decide+kernel,?_⟩⟩⟩;rw[ew];refine⟨_,rfl,?_⟩;cases o with |none=>obtain⟨ga,rfl,hg⟩:=o5 r3;exact bf ⟨ga,rfl,hg,ai.refl _⟩ |some z=>
       obtain⟨ns,sp⟩:=z;refine bF ?_;have ed:=jL mG.it;subst ed;obtain⟨a',b,ea,Mz,hb⟩:=jo rv;cases ea;obtain⟨ga,rfl,hg⟩:=o5 r3;have ln:ns.length=(cG S).length:=by rw[gl];exact(mG.ln ns sp rfl).1.len
       refine⟨_,rfl,_,rfl,.inr ⟨a,_,1,.ref b,rfl,rfl,Mz,rfl,ga,b,rfl,⟨_,hg⟩,⟨_,hb⟩,fun D1 H1 n1=>?_⟩⟩;refine Fm hg hb ln (by omega) n1 (fun x y H Q h=>⟨_,rfl,_,rfl,_,_,rfl,rfl,h⟩) fun H2 s2 d2=>?_;refine⟨D1,_,rfl,.inl ⟨aw.of d2,fun t H3 n3=>?_⟩⟩;exact⟨t,rfl,aB.of n3.at',s2.trans n3.same⟩
   · rintro σ H1 ⟨ga,rfl,hg,s1⟩
     have e1:=s1 _ _ e;refine⟨_,rfl,_,rfl,d,_,rfl,dg e1 zv,.inr ⟨ma,_,0,.ref mb,rfl,rfl,fA.go s1,rfl,ga,mb,rfl,⟨_,hg⟩,⟨_,gE.go s1⟩,fun D1 H2 n2=>?_⟩⟩;refine NL hg (gE.go s1) bl (by omega) n2 (fun x y H Q h=>?_) fun H3 bs s3 d3 eb=>?_
     · refine⟨_,rfl,_,_,rfl,rfl,_,rfl,?_⟩
       refine cV (fun h0=>?_) (fun h0=>?_)
       · rw[h0,jy]at h
         exact⟨_,rfl,_,_,rfl,rfl,h⟩
       · rw[uA.mpr h0,jd]at h
         exact h
     refine⟨D1,_,rfl,aw.of d3,?_⟩;rw[eb];refine⟨_,rfl,?_⟩;have cJ:=s1.trans s3;have e3:=cJ _ _ e;have eq3:=cJ _ _ eq;have kz:sizeLine=16777216:=by decide
     cases ho:lI M.rs (gF (cG S) o)with
     |false=>
       refine bF ?_;refine⟨_,rfl,d,_,rfl,dg e3 jT,q,_,rfl,.inl (aw.of eq3),.inl ⟨_,rfl,?_,?_⟩⟩
       · have:ys.length<=20:=by omega
         exact YI (by show(ys.length:Int).natAbs<10^40;omega)
       · have el:((ys.length:Nat):Int)=(S.ds.length:Int):=by rw[ly]
         refine⟨_,_,rfl,rfl,?_,?_⟩
         · rw[el]
           have e6:Str.length "rails "=6:=by decide+kernel
           have:(Str.ofString (toString (S.ds.length:Int))).length<=41:=RX (by omega);omega
         ·rw[el];exact k1 ho H3 cJ |true=>
       refine bf ?_;refine⟨_,rfl,d,_,rfl,dg e3 jT,q,_,rfl,.inl (aw.of eq3),.inl ⟨_,_,rfl,rfl,_,rfl,?_⟩⟩;refine cV (fun oA=>?_) (fun oA=>?_)
       · have oA:((ys.length:Nat):Int)=20:=ja oA
         exact k2 ho (by omega) H3 cJ
       · have oA:¬((ys.length:Nat):Int)=20:=fun z=>oA (cw z)
         refine⟨_,rfl,_,rfl,d,_,rfl,dp e3 W0 iT,?_⟩;refine⟨_,rfl,d,_,rfl,dp aO yA iT,?_⟩;have Na:∀{X:Hp}{o':HO},X q=some (.lst ys)->(L2.upd X d o') q=some (.lst ys):=fun h=>by rw[az dq.symm];exact h
         have eq5:=Na (o':=.dK (aY (.ref ma) lv (.ref ga) sv (.int S.rate) (.str S.side) (.str S.mark) (.ref q) (.int S.dn) bv cv .aW (.ref td))) (Na (o':=.dK (aY (.ref ma) lv (.ref ga) sv (.int S.rate) (.str S.side) (.str S.mark) (.ref q) (.int S.dn) bv cv re (.ref td))) eq3);refine⟨_,rfl,d,_,rfl,dg aO jT,.inl ⟨rfl,_,aw.of eq5⟩,_,rfl,q,ys,_,rfl,rfl,eq5,by omega,?_⟩;have key:∀X:Hp,(∀b,b≠d->X b=H3 b)->X d=some (.dK (aY (.ref ma) lv (.ref ga) sv (.int S.rate) (.str S.side) (.str S.mark) (.ref q) (.int S.dn) bv cv .aW (.ref td)))->Q (.int (S.ds.length+1:Nat)) (L2.upd X q (.lst (ys++[v]))):=by
          intro X hX eX;have b3:bI [d,q] H (L2.upd X q (.lst (ys++[v]))):=fun b o' eb hb=>by have hd:b≠d:=fun z=>hb (by rw[z];simp);have hq:b≠q:=fun z=>hb (by rw[z];simp);rw[az hq,hX b hd];exact cJ _ _ eb
          have v0:=R.v b3;have v3:bG H1 (L2.upd X q (.lst (ys++[v]))):=fun b o' nb eb=>by
           have hd:b≠d:=fun z=>by rw[z,e1]at eb;cases eb;exact nb trivial
           have hq:b≠q:=fun z=>by rw[z,s1 _ _ eq]at eb;cases eb;exact nb trivial
           rw[az hq,hX b hd];exact s3 _ _ eb
          have iv:=mG.it.no;refine k3 ho (by omega) _ ⟨⟨.ref ma,lv,.ref ga,sv,bv,cv,.aW,by rw[az dq];exact eX,RD.v v0 _ (gP _ _ _ _ _) r1,?_,?_,r4.v v0,r5.v v0,.inl rfl⟩,ys++[v],aO,?_⟩ b3
          ·rw[Vt ok];exact RD.v v0 _ (gh _) r2
          ·rw[MK];exact rZ (aB.v v3 hg)
          ·exact(ay.v v0 _ ok.row.no rq).append (cj (RD.v v0 _ iv rv) cQ)
         refine⟨_,rfl,d,_,rfl,dg (by rw[az dq];exact aO) jT,q,_,rfl,.inl (aw.of aO),?_⟩;rw[eZ,List.length_singleton,ly];exact key _ (fun b hb=>by rw[az hb,az hb]) aO
theorem uB{z:Int}(h:z.natAbs<2^24):Bd 100 (z:Rat):=⟨by rw[G6];exact Gf h (by decide),by rw[G8];decide⟩
theorem vh{H:Hp}{a:Addr}{z:Int}(h:aB K H a [.int z,.int 1]):aR K H (.ref a) (z:Rat):=by refine⟨a,rfl,?_⟩;rw[G6,G8];exact h
theorem YO{H:Hp}{Q:VK}{l:Addr}{u1 u2:V}{x y:Rat}(dl:H l=some (.lst [u1,u2]))(R1:aR K H u1 x)(R2:aR K H u2 y)(b1:Bd 2000 x)(b2:Bd 2000 y)(k:∀v,aR K H v (mn x y)->Q v H):iB K [.ref l] H Q E0:=by
 refine⟨l,[u1,u2],[x,y],rfl,aw.of dl,⟨R1,b1,R2,b2,trivial⟩,by simp,fun c v q e1 e2 hq=>k v ?_⟩;have e:mn x y=q:=by
  refine lK ?_ (hq _ (by simp)) (hq _ (by simp))
  match c,e2 with |0,e2=>cases e2;exact .inl rfl |1,e2=>cases e2;exact .inr rfl
 rw[e]
 match c,e1,e2 with |0,e1,e2=>cases e1;cases e2;exact R1 |1,e1,e2=>cases e1;cases e2;exact R2
inductive P5(K:a5w)(vs:List V)(H:Hp)(Q:VK):Prop |mk (d:_)(q:_)(td:_)(M:_)(D:_)(S:_)(h0:vs=[.ref d])(h1:dh K H d q td M S)(h2:bQ M D S)(h3:M.Ok)(h4:S.os≠[])(h5:∀v H',aR K H' v (eK M S)->ai H H'->Q v H'):P5 K vs H Q
def HP(K:a5w):Sp:=fun vs H Q _=>P5 K vs H Q
abbrev Bp:Stmt:=top 83
theorem IW:bc ["_law_sim_here","_law_machine_here","_law_items","_law_bounds_here","_law_reach_here","_law_border"] ["_law_sim_here"] (aM Bp):=bh (by decide+kernel)
theorem WC(F:FA K mg "_law_reach" Bp)(B:bB mg)(a1N:aj P w K mg base "_law_bounds" 3 (Ip K))(tN:aj P w K mg base "_law_sum" 2 (lj (·+·) K))(oy:aj P w K mg base "_law_lead" 1 (ki K))(qD:aj P w K mg base "_law_min" 2 (iB K)):aj P w K mg base "_law_reach" 4 (HP K):=by
 refine F.has IW (fun vs H Q E h=>?_) (fun _ _ _ _ _ _=>dR fun _=>rfl) (fun fa aD A outer s H vs Q E hr h=>?_)
 · obtain⟨d,q,td,M,D,S,rfl,_⟩:=h
   rfl
 · obtain⟨d,q,td,M,D,S,rfl,R,ok,aE,cy,k⟩:=h
   obtain⟨mv,lv,gv,sv,bv,cv,re,e,r1,r2,r3,r4,r5,r6⟩:=R.ob;obtain⟨ys,eq,rq⟩:=R.qu;have nd:=IW.nd;have ly:=rq.length;have DW:=ok.len;have ll:=ok.row.len;have Ec:1<=S.os.length:=by cases e:S.os with|nil=>exact(cy e).elim|cons _ _=>simp
   have oE:=aE.f1;have yS:=aE.len;have hB:=Ow.Dn aE.j1.1 aE.j1.2 ok.rt1 ok.rt2 ok.row.sH;have hN:=Ow.KJ M.j S.rate S.os;have h0:=Ow.Dm M.j S.rate S.os S.os.length rfl;have hL:∀i m,leadF S.os i=some m->(2*M.f*(m:Int)).natAbs<2^24:=fun i m e=>GO aE.f1.1 aE.f1.2 (LJ ok.row.sH e);have FB:∀i,i<=S.os.length->Bd 1700 (fl S.os.length (leadF S.os) (2*M.f) (ownF M.j S.rate S.os) i):=fun i hi=>(MY (fun i _=>hB i) hL i hi).mono (by omega);have FN:=a29 (n:=S.os.length) (L:=leadF S.os) (f:=2*M.f) (g:=ownF M.j S.rate S.os) (by omega) (fun i _=>hN i);obtain⟨ma,mb,rfl,fA,gE⟩:=jn r1;refine⟨_,(ah (lH (i:=1) (j:=2) rfl nd rfl rfl (by decide) rfl rfl (aa (cu (bu hr.units) (pv 0) aU (fun _ _=>rfl)) (aa (cu (bu hr.units) (pv 0) aU (fun _ _=>rfl)) af)) rfl) (ah (aH (i:=3) nd rfl (Or.inl rfl) (pf a1N hr (aa (pv 1) (aa (pv 2) (aa (cu (bu hr.units) (pv 0) aU (fun _ _=>rfl)) af))))) (ah (aH (i:=4) nd rfl (Or.inl rfl) (dH (aa ag (aa ag af)))) (ah (jF fU rfl (VB rfl (B.at "range") (aa (au fu (aL (x:="len") (cU K rfl) rfl (B.at "len") cY (aa (pv 2) af)) ag) (aa ag (aa (vk uF ag) af)))) (aQ (i:=5) nd rfl (Or.inl rfl)) (ah (fW (bj (bK (cH K rfl hr.units) (aJ (aK K rfl) (aJ (aK K rfl) (pv 2) (pv 5) (fun _ _=>rfl)) ag (fun _ _=>rfl)) aU (aX _)) (ao (aH (i:=4) nd rfl (Or.inl rfl) (pf tN hr (aa (pv 4) (aa (dH (aa (au ba (au ba ag (aJ (aK K rfl) (pv 1) ag (fun _ _=>rfl))) (pf oy hr (aa (aJ (aK K rfl) (pv 2) (pv 5) (fun _ _=>rfl)) af))) (aa ag af))) af))))) bE)) (ao (aH (i:=4) nd rfl (Or.inl rfl) (pf qD hr (aa (dF (aa (pv 4) (aa (aJ (aK K rfl) (pv 3) (pv 5) (fun _ _=>rfl)) af))) af)))))) (ao (aG (pv 4))))))),?_⟩;refine⟨_,rfl,d,_,rfl,dg e zv,_,rfl,d,_,rfl,dg e jT,_,_,rfl,?_⟩;refine⟨_,rfl,_,rfl,_,rfl,d,_,rfl,dg e MQ,?_⟩;refine⟨.ref ma,.ref q,S.rate,M.rs,M.r,M.f,M.j,M.t,S.ds,S.os,rfl,r1,aE,nY (aw.of eq) rq,ok.row,by omega,ok.rt1,ok.rt2,fun l zs H1 nl dl rz s1=>?_⟩;refine⟨bM _ (bR rfl),fun t H2 n2=>?_⟩;have s2:=s1.trans n2.same;refine⟨_,rfl,q,_,rfl,.inl (aw.of (s2 _ _ eq)),_,_,rfl,rfl,_,rfl,_,_,rfl,⟨by omega,by omega,by decide,by decide⟩,?_⟩;have eN:((ys.length:Int)-1-0).toNat=S.os.length-1:=by omega
   rw[eN];have rz:ay K H1 zs ((lst S.os.length (ownF M.j S.rate S.os)).map cD):=rz;have lz:=rz.length;rw[bS,o9]at lz;refine a27 (Pv:=fun i σ H5=>ai H2 H5/\∃v w5,aR K H5 v (fl S.os.length (leadF S.os) (2*M.f) (ownF M.j S.rate S.os) (S.os.length-i))/\σ=[some (.ref d),some (.ref ma),some (.ref q),some (.ref l),some v,w5]) ?_ ?_ ?_
   · refine⟨ai.refl _,.ref t,none,?_,rfl⟩
     rw[Nat.sub_zero,tS,h0];exact⟨t,rfl,aB.of n2.at'⟩
   · rintro i σ H5 Mj ⟨s5,v,w5,rv,rfl⟩
     obtain⟨c,hc⟩:∃c,S.os.length-1-i=c:=⟨_,rfl⟩;have qz:c<S.os.length:=by omega
     have eI:((ys.length:Int)-1-(i:Int))=(c:Int):=by omega
     rw[eI];have kE:=s2.trans s5;have F5:S.os.length-i=c+1:=by omega
     rw[F5]at rv;obtain⟨x,hx⟩:∃x,ys[c]? =some x:=⟨_,bO (show c<ys.length by omega)⟩;obtain⟨dd,ed,rd⟩:=rq.get' c hx;obtain⟨o,eo,it⟩:=ok.row.get ed;have wV:fo ys (c:Int)=some x:=cM (by omega) (by simpa using hx);obtain⟨z0,wI⟩:∃z,zs[c]? =some z:=⟨_,bO (show c<zs.length by omega)⟩;have R0:aR K H1 z0 (ownF M.j S.rate S.os c):=by obtain⟨d1,e1,Ve⟩:=rz.get' c wI;rw[bU,oa _ (show c<=S.os.length by omega)]at e1;cases e1;exact lE Ve
     have FE:fo zs (c:Int)=some z0:=cM (by omega) (by simpa using wI);have eq5:=kE _ _ eq;obtain⟨a,wd,yw,rfl,h1,ew,sw⟩:=tj (RD.mono kE _ rd) it;have ei:S.os.length-(i+1)=c:=by omega
     refine⟨fun σ H6=>ai H5 H6/\∃v' x',aR K H6 v' x'/\Bd 2000 x'/\mn x' (ownF M.j S.rate S.os c)=fl S.os.length (leadF S.os) (2*M.f) (ownF M.j S.rate S.os) c/\σ=[some (.ref d),some (.ref ma),some (.ref q),some (.ref l),some v',some (.int c)],?_,?_⟩
     · refine⟨_,rfl,_,rfl,.inl ⟨q,_,_,_,rfl,rfl,aw.of eq5,wV,.inr ⟨a,_,0,.str wd,rfl,rfl,h1,cM (fG 0) rfl,.inr ⟨_,_,dD _,dD _,sw,sY,_,rfl,?_⟩⟩⟩⟩
       rw[ew];cases o with |none=>
         refine bf ⟨ai.refl _,v,_,rv,(FB (c+1) (by omega)).mono (by decide),?_,rfl⟩;have hz:ownF M.j S.rate S.os c=0:=by cases c with |zero=>rfl |succ c'=>show betR M.j S.rate (atO S.os c') (atO S.os (c'+1))=0;rw[Ow.mZ eo,Ow.zR]
         rw[tR qz (LI eo),hz];exact lK (.inr rfl) (FN (c+1) (by omega)) (nE) |some z=>obtain⟨ns,sp⟩:=z;refine bF ?_;have jW:=jL it;subst jW;obtain⟨dJ,_,_⟩:=ok.row.ok c ns sp eo;have us:=hL c _ (za eo);refine⟨_,rfl,_,rfl,.inr ⟨ma,_,2,.int M.f,rfl,rfl,fA.go kE,rfl,_,_,rfl,rfl,.of_left (bJ (by decide) (by decide)),?_⟩⟩;refine⟨_,rfl,_,rfl,.inl ⟨q,_,_,_,rfl,rfl,aw.of eq5,wV,?_⟩⟩;refine⟨_,ns,sp,rfl,RD.mono kE _ rd,dJ.ne,by rw[dJ.len];omega,fun H6 s6=>?_⟩;refine⟨_,_,rfl,rfl,.of_left (bJ (by omega) (by omega)),?_⟩;refine⟨bM _ (bR rfl),fun tq H7 n7=>?_⟩;refine⟨v,.ref tq,_,_,rfl,(rv.go s6).go n7.same,vh (aB.of n7.at'),(FB (c+1) (by omega)).mono (by decide),(uB us).mono (by decide),fun u H8 ru s8=>?_⟩;refine⟨s6.trans (n7.same.trans s8),u,_,ru,(zU (FB (c+1) (by omega)) us).mono (by decide),?_,rfl⟩;rw[tT qz (za eo)];exact lK ((vO _ _).symm.imp id id) (jm _ _) (fJ _ _)
     · rintro σ H6 ⟨s6,v',x',cx,bx,ex,rfl⟩
       have mj:=n2.same.trans (s5.trans s6);refine⟨_,rfl,_,rfl,_,rfl,.inl ⟨l,_,_,_,rfl,rfl,aw.of (mj _ _ dl),FE,?_⟩⟩;refine⟨bM _ (bR rfl),fun l2 H7 n7=>?_⟩;refine YO n7.at' (cx.go n7.same) (R0.go (mj.trans n7.same)) bx ((hB c).mono (by decide)) fun u ru=>?_;refine⟨s5.trans (s6.trans n7.same),u,_,?_,rfl⟩;rw[ei,<-ex];exact ru
   · rintro σ H5 ⟨s5,v,w5,rv,rfl⟩
     have e1:S.os.length-(S.os.length-1)=1:=by omega
     rw[e1]at rv;exact⟨_,rfl,k v H5 rv (s2.trans s5)⟩
theorem a3V{pl ns:List Int}(h:ns.length=pl.length)(k:Nat):dS (dS pl (gB ns k)) (gf ns k)=dS pl (gB ns (k+1)):=by apply oZ;intro i;unfold dS gB gf;simp only[Am,bU];cases pl[i]? <;>cases ns[i]? <;>simp;omega
theorem a3U{pl ns:List Int}(h:ns.length=pl.length)(hq:0<ak ns):dS pl (gB ns 0)=pl:=by
 apply oZ;intro i;unfold dS gB;simp only[Am,bU];by_cases hi:i<pl.length
 · rw[bO hi,bO (show i<ns.length by omega)]
   simp[DA (show(0:Int)<(ak ns:Int) by omega)]
 ·rw[kg (by omega)]
theorem Ta{ns:List Int}(hq:0<ak ns):gB ns (ak ns)=ns:=by
 unfold gB;have:(fun z=>gr ((ak ns:Int)*z) (ak ns:Int))=fun z=>z:=by funext z;exact Y8 (by omega)
 rw[this,List.map_id']
theorem Vu{S:aZ}{ns:List Int}{sp:Int}(eo:S.os[0]? =some (some (ns,sp)))(h:ns.length=S.pl.length)(hq:0<ak ns):dZ S=dS S.pl (gB ns S.dn):=by
 unfold dZ;by_cases h0:S.dn=0
 ·rw[aP h0,h0];exact(a3U h hq).symm
 ·rw[aV h0,eo]
theorem Vs{M:bw}{S:aZ}{ns:List Int}{sp:Int}(eo:S.os[0]? =some (some (ns,sp)))(h:ns.length=S.pl.length)(hq:0<ak ns)(hd:S.dn<ak ns):dS (dZ S) (gf ns S.dn)=dZ (ff ns (eO M S ns sp)):=by
 rw[Vu eo h hq,a3V h];unfold ff;by_cases he:S.dn+1=ak ns
 · rw[aP (show(eO M S ns sp).dn=ak ns from he)]
   obtain⟨fe,gy⟩:∃fe,S.os=some (ns,sp)::fe:=by cases e:S.os with |nil=>rw[e]at eo;simp at eo |cons a r=>rw[e]at eo;cases eo;exact⟨r,rfl⟩
   have e1:((S.dn:Int)+1)=(ak ns:Int):=by omega
   rw[e1,Ta hq];unfold dZ j5;have:(eO M S ns sp).os=some (ns,sp)::fe:=gy;rw[this];rfl
 · rw[aV (show¬(eO M S ns sp).dn=ak ns from he)]
   unfold dZ;rw[aV (show¬(eO M S ns sp).dn=0 from Nat.succ_ne_zero _)];have:(eO M S ns sp).os[0]? =some (some (ns,sp)):=eo;rw[this];show _=dS S.pl (gB ns ((S.dn+1:Nat):Int));rfl
theorem MJ{M:bw}{S:aZ}{ns:List Int}{sp:Int}(eo:S.os[0]? =some (some (ns,sp))):cG (ff ns (eO M S ns sp))=cG S:=by
 unfold ff;split
 · obtain⟨fe,gy⟩:∃fe,S.os=some (ns,sp)::fe:=by cases e:S.os with |nil=>rw[e]at eo;simp at eo |cons a r=>rw[e]at eo;cases eo;exact⟨r,rfl⟩
   unfold cG j5;have:(eO M S ns sp).os=some (ns,sp)::fe:=gy;rw[this,gy];rfl
 ·rfl
theorem Lk(a b c:Rat):mn (mn b a) c=mn (mn a b) c:=by rw[Li b a]
theorem Lj(a b c d:Rat):mn (mn (mn b a) c) d=mn (mn (mn a b) c) d:=by rw[Li b a]
theorem MW{sq:Rat}{a b:Int}(hb:b≠0):Rat.divInt (sq.num*a) ((sq.den:Int)*b)=sq*Rat.divInt a b:=by
 conv=>rhs;rw[<-oV sq]
 rw[QS]
end
end Lw
set_option maxHeartbeats 4000000
namespace Lw
open PySem PySem.Spec PyProof.Rows L2 Rt Ln Cn Pn Wk Rn
open Ow (topR cornO mnO betR atO ownF leadF ownL OkI OkIs)
section
variable {P:a5y}{w:World}{K:a5w}{mg:Str->Option Value}{base:Heap}
theorem a3e{pa b:Addr}{xs ys:List Int}{te:TE}{Q:VK}{D:Addr}{H H1:Hp}(hp:aB K H pa (xs.map V.int))(hb:aB K H b (ys.map V.int))(ln:ys.length=xs.length)(hz:xs.length<=1000)(n1:Nw H H1 D (.lst [])) (ht:∀(x y:Int)(H:Hp)(Q:VK),Q (.int (y-x)) H->te [some (.int x),some (.int y)] H Q)(k:∀H2,ai H H2->H2 D=some (.lst ((List.zipWith (fun x y=>y-x) xs ys).map V.int))->Q (.ref D) H2):iz (kS K false false pa b) (mT K 2 (j0 (eQ 0) (j0 (eQ 1) oC))) gJ te Q D [none,none] H1:=by
  refine qO (K:=K) (b1:=false) (b2:=false) (xs:=xs.map V.int) (ys:=ys.map V.int) (ds:=(List.zipWith (fun x y=>y-x) xs ys).map PyData.int) [] rfl hp hb n1 (by simp[ln]) (by rw[bS,List.length_zipWith];omega) (jG _) ?_ ?_
  · intro i x y d H2 Q' ex ey ed s2 hq
    obtain⟨m,em,rfl⟩:=kH ed;rw[bU]at ex ey;cases e1:xs[i]? with |none=>rw[e1]at ex;cases ex |some u=>cases e2:ys[i]? with |none=>rw[e2]at ey;cases ey |some v=>rw[e1]at ex;rw[e2]at ey;cases ex;cases ey;rw[Am,e1,e2]at em;cases em;exact ht _ _ _ _ (hq _ _ (ai.refl _) (dG _))
  · intro H2 zs s2 d2 r2
    rw[r2.gT]at d2;exact k H2 s2 d2
theorem Uw(ns:List Int)(k:Nat):List.zipWith (fun x y=>y-x) (gB ns (k:Int)) (gB ns ((k:Int)+1))=gf ns k:=by apply oZ;intro i;unfold gB gf;simp only[Am,bU];cases ns[i]? <;>simp
theorem N4{H:Hp}{ys:List V}{ds:List a5z}(h:ay K H ys ds):ay K H (ys.eraseIdx 0) ds.tail:=by have:=h.drop 1;rw[List.drop_one,List.drop_one]at this;rw[List.eraseIdx_zero];exact this
theorem Kp{M:bw}{D:Nat}{S:aZ}(ok:bQ M D S):(dZ S).length=M.rs.length:=by
 unfold dZ;split
 ·exact ok.pl
 · split
   ·next ns sp eo=>rw[ng (by rw[ok.pl];simp[gB];exact(ok.row.ok 0 ns sp eo).1.len)];exact ok.pl
   ·exact ok.pl
inductive P4(K:a5w)(vs:List V)(H:Hp)(Q:VK):Prop |mk (d:_)(q:_)(td:_)(M:_)(D:_)(S:_)(ns:_)(sp:_)(h0:vs=[.ref d])(h1:dh K H d q td M S)(h2:bQ M D S)(h3:M.Ok)(h4:S.os[0]? =some (some (ns,sp)))(h5:¬Halt S.pc S.stp)(h6:∀v H',RD K H' v (lM M S ns sp)->dh K H' d q td M (ff ns (eO M S ns sp))->bI [d,q] H H'->Q v H'):P4 K vs H Q
def HN(K:a5w):Sp:=fun vs H Q _=>P4 K vs H Q
abbrev Bo:Stmt:=top 84
theorem IV:bc ["_law_sim_here","_law_machine_here","_law_line_here","_law_w","_law_rest","_law_reach_here","_law_tops","_law_square","_law_behind","_law_start","_law_many","_law_more","_law_row"] ["_law_sim_here"] (aM Bo):=bh (by decide+kernel)
theorem WB(F:FA K mg "_law_sim_step" Bo)(B:bB mg)(oy:aj P w K mg base "_law_lead" 1 (ki K))(a1I:aj P w K mg base "_law_reach" 4 (HP K))(zr:aj P w K mg base "_law_top" 2 (AL K))(tN:aj P w K mg base "_law_sum" 2 (lj (·+·) K))(oz:aj P w K mg base "_law_frac" 1 (uM K))(MD:aj P w K mg base "_law_stand" 2 (Hz K))(qD:aj P w K mg base "_law_min" 2 (iB K))(a1C:aj P w K mg base "_law_ticks" 1 (Hx K)):aj P w K mg base "_law_sim_step" 5 (HN K):=by
 refine F.has IV (fun vs H Q E h=>?_) (fun _ _ _ _ _ _=>dR fun _=>rfl) (fun fa aD A outer s H vs Q E hr h=>?_)
 · obtain⟨d,q,td,M,D,S,ns,sp,rfl,_⟩:=h
   rfl
 · obtain⟨d,q,td,M,D,S,ns,sp,rfl,R,ok,aE,eo,nh,k⟩:=h
   obtain⟨mv,lv,gv,sv,bv,cv,rv,e,r1,r2,r3,r4,r5,r6⟩:=R.ob;obtain⟨ys,eq,rq⟩:=R.qu;have dq:=R.ne;have nd:=IV.nd;have ll:=ok.row.len;have DW:=ok.len;have yS:=aE.len;have D1:=ok.D1;have D2:=ok.D2;have yn:=aE.r1;have oE:=aE.f1;have mK:0<S.os.length:=(dC.mp eo).1;have cy:S.os≠[]:=fun z=>by rw[z]at mK;simp at mK
   obtain⟨dd,ed⟩:∃dd,S.ds[0]? =some dd:=⟨_,bO (show 0<S.ds.length by omega)⟩;obtain⟨y,ey,ry⟩:=rq.get 0 ed;have jW:=jL (ok.row.it 0 dd _ ed eo);subst jW;obtain⟨dJ,gd,gL⟩:=ok.row.ok 0 ns sp eo;have LM:=vV dJ;have DK:=dJ.lead.1;have hd:S.dn<ak ns:=by
    rcases ok.dn with z|⟨vy,uP,e1,e2⟩
    ·rw[z];exact DK
    ·rw[eo]at e1;cases e1;exact e2
   obtain⟨Rd,Rl⟩:=CZ ok.raw aE cy;have GZ:=AA S.rate sp;have tl:=xQ gd gL ok.rt1 ok.rt2;obtain⟨ma,mb,rfl,fA,gE⟩:=jn r1;refine⟨_,(ah (lH (i:=1) (j:=2) rfl nd rfl rfl (by decide) rfl rfl (aa (cu (bu hr.units) (pv 0) aU (fun _ _=>rfl)) (aa (aJ (aK K rfl) (cu (bu hr.units) (pv 0) aU (fun _ _=>rfl)) ag (fun _ _=>rfl)) af)) rfl) (ah (aH (i:=3) nd rfl (Or.inl rfl) (cu (bu hr.units) (pv 0) aU (fun _ _=>rfl))) (ah (aH (i:=4) nd rfl (Or.inl rfl) (au fu (pf oy hr (aa (pv 2) af)) (cu (bu hr.units) (pv 0) aU (fun _ _=>rfl)))) (ah (fW (bj (bK KO (cu (bu hr.units) (pv 0) aU (fun _ _=>rfl)) iD (aX _)) (ao (fI (bu hr.units) (pv 0) aU (pf a1I hr (aa (pv 0) af)) rfl)) bE)) (ah (aH (i:=5) nd rfl (Or.inl rfl) (cu (bu hr.units) (pv 0) aU (fun _ _=>rfl))) (ah (aH (i:=6) nd rfl (Or.inl rfl) (dF (aa (pf zr hr (aa (pv 2) (aa (cu (bu hr.units) (pv 0) aU (fun _ _=>rfl)) af))) af))) (ah (aH (i:=7) nd rfl (Or.inl rfl) (au (u9 K rfl) (pv 6) (dF (aa (pf tN hr (aa (pv 3) (aa (dH (aa (aJ (aK K rfl) (pv 1) ag (fun _ _=>rfl)) (aa ag af))) af))) (aa (pf tN hr (aa (pv 5) (aa (dH (aa (au ba (aJ (aK K rfl) (pv 1) ag (fun _ _=>rfl)) (au fu (au ba ag (pv 4)) ag)) (aa ag af))) af))) af))))) (ah (aH (i:=8) nd rfl (Or.inl rfl) (au (u9 K rfl) (pv 6) (dF (aa (pf tN hr (aa (pv 3) (aa (dH (aa (au ba ag (aJ (aK K rfl) (pv 1) ag (fun _ _=>rfl))) (aa ag af))) af))) (aa (pf tN hr (aa (pv 5) (aa (dH (aa (au ba (au ba ag (aJ (aK K rfl) (pv 1) ag (fun _ _=>rfl))) (au fu (pv 4) ag)) (aa ag af))) af))) af))))) (ah (fW (bj (bK vo (cu (bu hr.units) (pv 0) aU (fun _ _=>rfl)) iD (aX _)) (ah (fi (cu (bu hr.units) (pv 0) aU (fun _ _=>rfl)) (cS K rfl (n:=2) rfl (bo (aQ (i:=9) nd rfl (Or.inl rfl)) (bo (aQ (i:=10) nd rfl (Or.inl rfl)) cR)))) (ah (fI (bu hr.units) (pv 0) aU (au cF (cu (bu hr.units) (pv 0) aU (fun _ _=>rfl)) ag) rfl) (ah (aH (i:=11) nd rfl (Or.inl rfl) (au fu (pv 10) (cu (bu hr.units) (pv 0) aU (fun _ _=>rfl)))) (ah (fP (iX K rfl (pv 7) (aa (pf oz hr (aa (au ba (aJ (aK K rfl) (pv 9) ag (fun _ _=>rfl)) (au cF (au ba ag (pv 11)) ag)) (aa (au ba (au ba (aJ (aK K rfl) (pv 9) ag (fun _ _=>rfl)) ag) (pv 10)) af))) af))) (ao (fP (iX K rfl (pv 8) (aa (pf oz hr (aa (au ba (aJ (aK K rfl) (pv 9) ag (fun _ _=>rfl)) (pv 11)) (aa (au ba (aJ (aK K rfl) (pv 9) ag (fun _ _=>rfl)) (pv 10)) af))) af)))))))) bE)) (ah (aH (i:=12) nd rfl (Or.inl rfl) (gk (x:="tuple") (jB K rfl) rfl (B.at "tuple") eU (aa (ft (N:=["_law_a","_law_b"]) (js:=[none,none]) rfl rfl rfl (hW K rfl false false rfl (B.at "zip") (aa (pf MD hr (aa (pv 2) (aa (cu (bu hr.units) (pv 0) aU (fun _ _=>rfl)) af))) (aa (pf MD hr (aa (pv 2) (aa (au cF (cu (bu hr.units) (pv 0) aU (fun _ _=>rfl)) ag) af))) af))) (fun _ _ _ _ _=>(cS K rfl (n:=2) rfl (bo (aQ (i:=0) (show List.Nodup (["_law_a","_law_b"]:List Str) by decide+kernel) rfl (Or.inl rfl)) (bo (aQ (i:=1) (show List.Nodup (["_law_a","_law_b"]:List Str) by decide+kernel) rfl (Or.inl rfl)) cR)))) (fun _ _ _ _ _=>eL) (fun _ _ _ _ _=>(au fu (pv 1) (pv 0)))) af))) (ah (fI (bu hr.units) (pv 0) aU (gk (x:="tuple") (jB K rfl) rfl (B.at "tuple") eU (aa (ft (N:=["_law_stand_here","_law_step"]) (js:=[none,none]) rfl rfl rfl (hW K rfl false false rfl (B.at "zip") (aa (cu (bu hr.units) (pv 0) aU (fun _ _=>rfl)) (aa (pv 12) af))) (fun _ _ _ _ _=>(cS K rfl (n:=2) rfl (bo (aQ (i:=0) (show List.Nodup (["_law_stand_here","_law_step"]:List Str) by decide+kernel) rfl (Or.inl rfl)) (bo (aQ (i:=1) (show List.Nodup (["_law_stand_here","_law_step"]:List Str) by decide+kernel) rfl (Or.inl rfl)) cR)))) (fun _ _ _ _ _=>eL) (fun _ _ _ _ _=>(au cF (pv 0) (pv 1)))) af)) rfl) (ah (fI (bu hr.units) (pv 0) aU (pf qD hr (aa (pv 8) af)) rfl) (ah (fI (bu hr.units) (pv 0) aU (au cF (cu (bu hr.units) (pv 0) aU (fun _ _=>rfl)) ag) rfl) (ah (fW (bj (bK (cH K rfl hr.units) (pv 4) ag (aX _)) (ah (fP (Kx K rfl (cu (bu hr.units) (pv 0) aU (fun _ _=>rfl)) (aa ag af))) (ah (fI (bu hr.units) (pv 0) aU ag rfl) (ao (fI (bu hr.units) (pv 0) aU iD rfl)))) bE)) (ah (aH (i:=7) nd rfl (Or.inl rfl) (pf qD hr (aa (pv 7) af))) (ao (aG (dH (aa aU (aa (pv 12) (aa (pf a1C hr (aa (pv 1) (aa (pv 7) af))) (aa (pv 7) af)))))))))))))))))))))),?_⟩;refine⟨_,rfl,d,_,rfl,dg e zv,_,rfl,d,_,rfl,dg e jT,.inl ⟨q,_,0,y,rfl,rfl,aw.of eq,cM (fG 0) ey,_,_,rfl,?_⟩⟩;refine⟨_,rfl,d,_,rfl,dg e tQ,?_⟩;refine⟨_,rfl,y,ns,sp,rfl,ry,dJ.ne,by rw[dJ.len];omega,fun H1 s1=>?_⟩;refine⟨_,rfl,d,_,rfl,dg (s1 _ _ e) zw,_,_,rfl,rfl,?_⟩;refine⟨fun σ H2=>∃cx w5 w6 w7 w8 w9 jA m7 xJ,σ=[some (.ref d),some (.ref ma),some y,some sv,some (.int ((ak ns:Int)-S.dn)),w5,w6,w7,w8,w9,jA,m7,xJ]/\bI [d] H H2/\H2 d=some (.dK (aY (.ref ma) lv gv sv (.int S.rate) (.str S.side) (.str S.mark) (.ref q) (.int S.dn) bv cv cx (.ref td)))/\aR K H2 cx (eK M S),?_,?_⟩
   · refine⟨_,rfl,d,_,rfl,dg (s1 _ _ e) MP,rfl,_,rfl,?_⟩
     rcases r6 with rfl|r6
     · refine bF ?_
       refine⟨_,rfl,d,q,td,M,D,S,rfl,R.same ok.row.no s1,ok,aE,cy,fun v H2 Vc s2=>?_⟩;have e2:=s2 _ _ (s1 _ _ e);refine⟨_,rfl,d,_,rfl,dp e2 yA iT,?_⟩;have v2:bG H2 (L2.upd H2 d (.dK (aY (.ref ma) lv gv sv (.int S.rate) (.str S.side) (.str S.mark) (.ref q) (.int S.dn) bv cv v (.ref td)))):=.upd e2 trivial;refine⟨v,_,_,_,_,_,_,_,_,rfl,fun b o eb hb=>?_,aO,Vc.v v2⟩;have ox:b≠d:=fun z=>hb (by rw[z];exact .head _);rw[az ox];exact s2 _ _ (s1 _ _ eb)
     · obtain⟨ra,rfl,ZV⟩:=r6
       refine bf ⟨_,_,_,_,_,_,_,_,_,rfl,.of s1,s1 _ _ e,ra,rfl,ZV.go s1⟩
   · rintro σ H2 ⟨cx,w5,w6,w7,w8,w9,jA,m7,xJ,rfl,En⟩
     have b2:=En.1;have e2:=En.2.1;have rR:=En.2.2;have v2:bG H H2:=b2.v fun x hx o' cB=>by rw[cf]at hx;rw[hx,e]at cB;cases cB;trivial
     have R0:=r4.v v2;have Ug:=RD.v v2 _ (vU ns sp) ry;have zo:=aB.v v2 fA;have l1:1<=(ak ns:Int)-S.dn:=by omega
     obtain⟨left,el⟩:∃left,(ak ns:Int)-S.dn=left:=⟨_,rfl⟩;have l2:left<=100:=by omega
     rw[el]at l1⊢;have kz:(2:Int)^24=16777216:=by decide
     have fl1:(M.f*(2*left-1)).natAbs<=50*200:=by rw[fc];exact kW (by omega) (by omega)
     have EK:0<=M.f*(2*left-1):=iS (by omega) (by omega);have fl2:(2*M.f*(left-1)).natAbs<=100*100:=by rw[fc];exact kW (by omega) (by omega)
     have EJ:0<=2*M.f*(left-1):=iS (by omega) (by omega);have vn:Bd 2000 S.pc:=(ok.pd.bd (dc ok.pm (by decide+kernel))).mono (by omega);have RB:Bd 2000 (eK M S):=(Rd.bd (dc Rl (by decide+kernel))).mono (by decide);have tB:Bd 2000 (topR S.rate sp):=(GZ.bd (dc tl (by decide+kernel))).mono (by decide);have B1:Bd 2000 (S.pc+(M.r:Rat)):=oI ok.pd ok.pm (by omega) (by omega) (by omega);have B2:Bd 2000 (eK M S+((M.f*(2*left-1):Int):Rat)):=oI Rd Rl EK (by omega) (by omega);have B3:Bd 2000 (S.pc+((2*M.r:Int):Rat)):=oI ok.pd ok.pm (by omega) (by omega) (by omega);have B4:Bd 2000 (eK M S+((2*M.f*(left-1):Int):Rat)):=oI Rd Rl EJ (by omega) (by omega);refine⟨_,rfl,d,_,rfl,dg e2 MP,?_⟩;refine⟨_,rfl,_,rfl,d,_,rfl,dg e2 MQ,y,ns,sp,S.rate,rfl,Ug,gd,gL,ok.rt1,ok.rt2,fun tv H3 rt s3=>?_⟩;have rt:aR K H3 tv (topR S.rate sp):=rt;refine⟨bM _ (bR rfl),fun lt H4 n4=>?_⟩;have mi:=s3.trans n4.same;refine⟨_,rfl,_,rfl,_,rfl,.inr ⟨ma,_,1,.int M.r,rfl,rfl,zo.go mi,rfl,bM _ (bR rfl),fun t5 H5 n5=>?_⟩⟩;refine⟨sv,.ref t5,_,_,rfl,(R0.go mi).go n5.same,vh (aB.of n5.at'),vn,(uB (by omega)).mono (by decide),fun u1 H6 jE s6=>?_⟩;have JR:=mi.trans (n5.same.trans s6);refine⟨_,rfl,_,rfl,.inr ⟨ma,_,2,.int M.f,rfl,rfl,zo.go JR,rfl,_,rfl,_,_,rfl,rfl,.of_left (bJ (by decide) (by decide)),_,_,rfl,rfl,_,_,rfl,rfl,.of_left (bJ (by omega) (by omega)),bM _ (bR rfl),fun t7 H7 n7=>?_⟩⟩;refine⟨cx,.ref t7,_,_,rfl,(rR.go JR).go n7.same,vh (aB.of n7.at'),RB,(uB (by omega)).mono (by decide),fun u2 H8 pP s8=>?_⟩;refine⟨bM _ (bR rfl),fun l9 H9 n9=>?_⟩;have CB:=(n5.same.trans s6).trans ((n7.same.trans s8).trans n9.same);refine⟨lt,l9,_,_,rfl,rfl,aw.of (CB _ _ n4.at'),aw.of n9.at',by show 3<=sizeLine;decide,fun lm eR jH=>?_⟩;have CD:=CB.trans jH.same;have uY:=mi.trans CD;refine⟨_,rfl,_,rfl,_,rfl,.inr ⟨ma,_,1,.int M.r,rfl,rfl,zo.go uY,rfl,_,_,rfl,rfl,.of_left (bJ (by decide) (by decide)),bM _ (bR rfl),fun SR fE eg=>?_⟩⟩;refine⟨sv,.ref SR,_,_,rfl,(R0.go uY).go eg.same,vh (aB.of eg.at'),vn,(uB (by omega)).mono (by decide),fun u3 nv CL iV=>?_⟩;have JT:=uY.trans (eg.same.trans iV);refine⟨_,rfl,_,rfl,.inr ⟨ma,_,2,.int M.f,rfl,rfl,zo.go JT,rfl,_,_,rfl,rfl,.of_left (bJ (by decide) (by decide)),_,rfl,_,_,rfl,rfl,_,_,rfl,rfl,.of_left (bJ (by omega) (by omega)),bM _ (bR rfl),fun SO A4 yO=>?_⟩⟩;refine⟨cx,.ref SO,_,_,rfl,(rR.go JT).go yO.same,vh (aB.of yO.at'),RB,(uB (by omega)).mono (by decide),fun u4 FY CK gY=>?_⟩;refine⟨bM _ (bR rfl),fun l15 H15 yN=>?_⟩;have yg:=(eg.same.trans iV).trans ((yO.same.trans gY).trans yN.same);refine⟨lt,l15,_,_,rfl,rfl,aw.of ((CD.trans yg) _ _ n4.at'),aw.of yN.at',by show 3<=sizeLine;decide,fun le jX pZ=>?_⟩;have uZ:=yg.trans pZ.same;have yf:=uY.trans uZ;have qJ:=yf _ _ e2;have zV:=rt.go (n4.same.trans (CD.trans uZ));have U1:=jE.go ((n7.same.trans s8).trans (n9.same.trans (jH.same.trans uZ)));have U2:=pP.go (n9.same.trans (jH.same.trans uZ));have U3:=CL.go ((yO.same.trans gY).trans (yN.same.trans pZ.same));have U4:=CK.go (yN.same.trans pZ.same);have dm:jX lm=some (.lst [tv,u1,u2]):=uZ _ _ jH.at';have de:jX le=some (.lst [tv,u3,u4]):=pZ.at';have JQ:=mi.trans CB;have JS:=uY.trans yg;have tZ:d≠lm:=fun z=>by have:=jH.no;rw[<-z,JQ _ _ e2]at this;cases this
     have zG:d≠le:=fun z=>by have:=pZ.no;rw[<-z,JS _ _ e2]at this;cases this
     have vS:lm≠le:=fun z=>by have:=pZ.no;rw[<-z,yg _ _ jH.at']at this;cases this
     have yK:H lm=none:=by cases e':H lm with |none=>rfl |some o=>have:=JQ _ _ (b2 _ _ e' (by rw[cf];exact tZ.symm));rw[jH.no]at this;cases this
     have Dx:H le=none:=by cases e':H le with |none=>rfl |some o=>have:=JS _ _ (b2 _ _ e' (by rw[cf];exact zG.symm));rw[pZ.no]at this;cases this
     have GG:bG H jX:=v2.trans yf.v;refine⟨fun σ HA=>∃dQ w9 jA m7 xJ um ue,σ=[some (.ref d),some (.ref ma),some y,some sv,some (.int left),some cx,some (.ref lt),some (.ref lm),some (.ref le),w9,jA,m7,xJ]/\bI [d,lm,le] jX HA/\HA d=some (.dK (aY (.ref ma) lv gv sv (.int S.rate) (.str S.side) (.str S.mark) (.ref q) (.int S.dn) bv dQ cx (.ref td)))/\uo K HA bv dQ (yH S.stp)/\HA lm=some (.lst um)/\HA le=some (.lst ue)/\(∀H8 Q',bG HA H8->H8 lm=some (.lst um)->(∀v,aR K H8 v (kr M.r M.f S.pc (topR S.rate sp) (eK M S) left S.stp)->Q' v H8)->iB K [.ref lm] H8 Q' E0)/\(∀H8 Q',bG HA H8->H8 le=some (.lst ue)->(∀v,aR K H8 v (my M.r M.f S.pc (topR S.rate sp) (eK M S) left S.stp)->Q' v H8)->iB K [.ref le] H8 Q' E0),?_,?_⟩
     · refine⟨_,rfl,d,_,rfl,dg qJ wC,rfl,_,rfl,?_⟩
       cases hs:S.stp with |none=>
         have gM:=r5.v GG;rw[hs]at gM;have Vb:=gM;obtain⟨rfl,_⟩:=gM;refine bf ⟨cv,_,_,_,_,_,_,rfl,bI.refl _ _,qJ,Vb,dm,de,fun H8 Q' sV d8 kq=>z9 d8 (zV.v sV) (U1.v sV) (U2.v sV) tB B1 B2 fun v rv=>kq v ?_,fun H8 Q' sV d8 kq=>z9 d8 (zV.v sV) (U3.v sV) (U4.v sV) tB B3 B4 fun v rv=>kq v ?_⟩
         ·rw[Lk]at rv;exact rv
         ·rw[Lk]at rv;exact rv |some z=>
         obtain⟨sq,st,gn⟩:=z;have gM:=r5.v GG;rw[hs]at gM;have sk:=ok.stp;rw[hs]at sk nh;obtain⟨g1,g2,g3⟩:=sM sk ok.pd.nn nh;obtain⟨gn0,gn1,Tb,pH,pG,_,_⟩:=sk;obtain⟨ta,su,rfl,tD,⟨sa,rfl,Ma⟩,rfl⟩:=gM;refine bF ?_;have xX:Bd 2000 sq:=(pH.bd pG).mono (by omega);refine⟨_,rfl,d,_,rfl,dg qJ wC,ta,_,rfl,tD,rfl,_,_,rfl,_,_,rfl,rfl,?_⟩;refine⟨_,rfl,d,_,rfl,dg qJ MS,_,_,rfl,rfl,_,rfl,d,_,rfl,dp qJ Kz iT,?_⟩;refine⟨_,rfl,_,rfl,d,_,rfl,dg aO MS,_,_,rfl,rfl,?_⟩;have vA:bG jX (L2.upd jX d (.dK (aY (.ref ma) lv gv sv (.int S.rate) (.str S.side) (.str S.mark) (.ref q) (.int S.dn) (.ref ta) (.int (gn+1)) cx (.ref td)))):=.upd qJ trivial;have tY:(L2.upd jX d (.dK (aY (.ref ma) lv gv sv (.int S.rate) (.str S.side) (.str S.mark) (.ref q) (.int S.dn) (.ref ta) (.int (gn+1)) cx (.ref td)))) lm=some (.lst [tv,u1,u2]):=by rw[az tZ.symm];exact dm
         have zK:(L2.upd jX d (.dK (aY (.ref ma) lv gv sv (.int S.rate) (.str S.side) (.str S.mark) (.ref q) (.int S.dn) (.ref ta) (.int (gn+1)) cx (.ref td)))) le=some (.lst [tv,u3,u4]):=by rw[az zG.symm];exact de
         have eA:(L2.upd jX d (.dK (aY (.ref ma) lv gv sv (.int S.rate) (.str S.side) (.str S.mark) (.ref q) (.int S.dn) (.ref ta) (.int (gn+1)) cx (.ref td)))) d=some (.dK (aY (.ref ma) lv gv sv (.int S.rate) (.str S.side) (.str S.mark) (.ref q) (.int S.dn) (.ref ta) (.int (gn+1)) cx (.ref td))):=aO;have bA:∀b o,b≠d->jX b=some o->(L2.upd jX d (.dK (aY (.ref ma) lv gv sv (.int S.rate) (.str S.side) (.str S.mark) (.ref q) (.int S.dn) (.ref ta) (.int (gn+1)) cx (.ref td)))) b=some o:=fun b o hb eb=>by rw[az hb];exact eb
         generalize L2.upd jX d (.dK (aY (.ref ma) lv gv sv (.int S.rate) (.str S.side) (.str S.mark) (.ref q) (.int S.dn) (.ref ta) (.int (gn+1)) cx (.ref td)))=HA at vA tY zK eA bA⊢;have Ea:=aB.v vA Ma;have Es:=den_pos sq;have dW:∀z:Int,0<z->z<=2000->0<(sq.den:Int)*z/\Wd ((sq.den:Int)*z):=fun z h1 h2=>by refine⟨gA Es h1,gb (n:=2011) ?_ (by decide)⟩;rw[fc];exact jI xX.den (show z.natAbs<2^11 by omega)
         have kz:sizeLine=16777216:=by decide
         refine⟨_,rfl,.inl ⟨rfl,_,aw.of tY⟩,_,rfl,.inr ⟨sa,_,0,_,rfl,rfl,Ea,rfl,_,rfl,_,_,rfl,rfl,.of_left (bJ (by decide) (by decide)),_,_,rfl,rfl,_,_,rfl,rfl,.of_right (bJ (by omega) (by omega)),?_⟩⟩;refine⟨_,rfl,.inr ⟨sa,_,1,_,rfl,rfl,Ea,rfl,_,_,rfl,rfl,.of_right (bJ (by decide) (by decide)),_,rfl,_,_,rfl,rfl,.of_right (bJ (by omega) (by omega)),?_⟩⟩;have W1:=dW (2*st) (by omega) (by omega);rw[<-r8]at W1;refine⟨_,_,rfl,W1.1,W1.2,fun x1 HB vd sB=>?_⟩;have oF:Rat.divInt (sq.num*(2*(st-(gn+1))+1)) ((sq.den:Int)*2*st)=sq*Rat.divInt (2*(st-gn-1)+1) (2*st):=by rw[r8,MW (show(2*st:Int)≠0 by omega),show st-(gn+1)=st-gn-1 by omega]
         have zA:Rat.divInt (sq.num*(st-(gn+1))) ((sq.den:Int)*st)=sq*Rat.divInt (st-gn-1) st:=by rw[MW (show(st:Int)≠0 by omega),show st-(gn+1)=st-gn-1 by omega]
         have vd:aR K HB x1 (sq*Rat.divInt (2*(st-gn-1)+1) (2*st)):=by rw[<-oF];exact vd
         have pB:Bd 2000 (sq*Rat.divInt (2*(st-gn-1)+1) (2*st)):=((pH.bd pG).mul (ji (n:=12) (by omega) (by omega) (by omega))).mono (by omega);have Dl:Bd 2000 (sq*Rat.divInt (st-gn-1) st):=((pH.bd pG).mul (ji (n:=12) (by omega) (by omega) (by omega))).mono (by omega);have Nr:=sB _ _ tY;refine⟨lm,_,_,rfl,rfl,Nr,by show 3<sizeLine;omega,?_⟩;have vC:bG HB (L2.upd HB lm (.lst ([tv,u1,u2]++[x1]))):=.upd Nr trivial;have Fh:(L2.upd HB lm (.lst ([tv,u1,u2]++[x1]))) le=some (.lst [tv,u3,u4]):=by rw[az vS.symm];exact sB _ _ zK
         have Nq:(L2.upd HB lm (.lst ([tv,u1,u2]++[x1]))) lm=some (.lst [tv,u1,u2,x1]):=aO;have eC:(L2.upd HB lm (.lst ([tv,u1,u2]++[x1]))) d=some (.dK (aY (.ref ma) lv gv sv (.int S.rate) (.str S.side) (.str S.mark) (.ref q) (.int S.dn) (.ref ta) (.int (gn+1)) cx (.ref td))):=by rw[az tZ];exact sB _ _ eA
         have bC:∀b o,b≠lm->HB b=some o->(L2.upd HB lm (.lst ([tv,u1,u2]++[x1]))) b=some o:=fun b o hb eb=>by rw[az hb];exact eb
         generalize L2.upd HB lm (.lst ([tv,u1,u2]++[x1]))=HC at vC Fh Nq eC bC⊢;have Mb:=aB.v vC (Ea.go sB);refine⟨_,rfl,.inl ⟨rfl,_,aw.of Fh⟩,_,rfl,.inr ⟨sa,_,0,_,rfl,rfl,Mb,rfl,_,rfl,_,_,rfl,rfl,.of_right (bJ (by omega) (by omega)),?_⟩⟩;refine⟨_,rfl,.inr ⟨sa,_,1,_,rfl,rfl,Mb,rfl,_,rfl,_,_,rfl,rfl,.of_right (bJ (by omega) (by omega)),?_⟩⟩;have W2:=dW st (by omega) (by omega);refine⟨_,_,rfl,W2.1,W2.2,fun x2 HD vc sD=>?_⟩;have vc:aR K HD x2 (sq*Rat.divInt (st-gn-1) st):=by rw[<-zA];exact vc
         have NG:=sD _ _ Fh;refine⟨le,_,_,rfl,rfl,NG,by show 3<sizeLine;omega,?_⟩;have vE:bG HD (L2.upd HD le (.lst ([tv,u3,u4]++[x2]))):=.upd NG trivial;have RK:=sB.v.trans vC;have GH:=sD.v.trans vE;have nN:=vA.trans (RK.trans GH);refine⟨.int (gn+1),_,_,_,_,[tv,u1,u2,x1],[tv,u3,u4,x2],rfl,fun b o' eb hb=>?_,?_,⟨ta,.ref sa,rfl,aB.v nN tD,⟨sa,rfl,aB.v nN Ma⟩,rfl⟩,?_,aO,fun H' Q' sV d' kq=>?_,fun H' Q' sV d' kq=>?_⟩
         · have ha:b≠d:=fun z=>hb (by rw[z];simp)
           have Ek:b≠lm:=fun z=>hb (by rw[z];simp);have hle:b≠le:=fun z=>hb (by rw[z];simp);rw[az hle];exact sD _ _ (bC _ _ Ek (sB _ _ (bA _ _ ha eb)))
         ·rw[az zG];exact sD _ _ eC
         ·rw[az vS];exact sD _ _ Nq
         · refine yZ d' ((zV.v nN).v sV) ((U1.v nN).v sV) ((U2.v nN).v sV) (((vd.v vC).v GH).v sV) tB B1 B2 pB fun v rv=>kq v ?_
           rw[Lj]at rv;exact rv
         · refine yZ d' ((zV.v nN).v sV) ((U3.v nN).v sV) ((U4.v nN).v sV) ((vc.v vE).v sV) tB B3 B4 Dl fun v rv=>kq v ?_
           rw[Lj]at rv;exact rv
     · rintro σ HA ⟨dQ,w9,jA,m7,a4i,um,ue,rfl,qx⟩
       have bt:=qx.1;have eA:=qx.2.1;have Ho:=qx.2.2.1;have tY:=qx.2.2.2.1;have zK:=qx.2.2.2.2.1;have km:=qx.2.2.2.2.2.1;have ke:=qx.2.2.2.2.2.2;have zS:bI [d] H HA:=fun b o' eb hb=>by
        have ha:b≠d:=fun z=>hb (by rw[z];simp);refine bt b o' (yf _ _ (b2 _ _ eb hb)) fun hm=>?_;simp only[bW,da,dB]at hm;rcases hm with h|h|h
        ·exact ha h
        ·rw[h,yK]at eb;cases eb
        ·rw[h,Dx]at eb;cases eb
       have Au:bG H HA:=zS.v fun x hx o' cB=>by rw[cf]at hx;rw[hx,e]at cB;cases cB;trivial
       have RP:bG jX HA:=bt.v fun x hx o' cB=>by
        simp only[bW,da,dB]at hx;rcases hx with h|h|h
        ·rw[h,qJ]at cB;cases cB;trivial
        ·rw[h,dm]at cB;cases cB;trivial
        ·rw[h,de]at cB;cases cB;trivial
       have V8:aR K HA cx (eK M S):=(rR.go yf).v RP;have JV:=RD.v Au _ (vU ns sp) ry;have yC:dN ns.length 1000 ns:=dJ.up;have Ly:ns.length=M.rs.length:=dJ.len;refine⟨_,rfl,_,rfl,d,_,rfl,dg eA zw,y,ns,sp,_,rfl,JV,yC,by omega,by omega,by omega,fun a1 HB V3 sB=>?_⟩;refine⟨_,rfl,_,rfl,d,_,rfl,dg (sB _ _ eA) zw,_,_,rfl,rfl,y,ns,sp,_,rfl,RD.mono sB _ JV,yC,by omega,by omega,by omega,fun a2 HC V2 sC=>?_⟩;obtain⟨p1,rfl,h1⟩:=o5 (pl:=gB ns (S.dn:Int)) V3;obtain⟨p2,rfl,h2⟩:=o5 (pl:=gB ns ((S.dn:Int)+1)) V2;refine⟨p1,p2,rfl,⟨_,h1.go sC⟩,⟨_,h2⟩,fun D1 HD nD=>?_⟩;refine a3e (h1.go sC) h2 (by simp[gB]) (by simp[gB];omega) nD (fun x y H Q h=>⟨_,rfl,_,rfl,_,_,rfl,rfl,h⟩) fun HE sE dE=>?_;refine⟨D1,_,rfl,.inl ⟨aw.of dE,fun gZ HF nF=>?_⟩⟩;have Eb:aB K HF gZ ((gf ns S.dn).map V.int):=by rw[<-Uw];exact aB.of nF.at'
       have uT:=sB.trans (sC.trans (sE.trans nF.same));have eF:=uT _ _ eA;have hlv:=(r2:RD K H lv (fj (dZ S)));obtain⟨pa,rfl,qj⟩:=o5 (RD.v Au _ (gh _) r2);have YB:(dZ S).length=M.rs.length:=Kp ok;have Yz:(gf ns S.dn).length=(dZ S).length:=by rw[YB];simp[gf,Ly]
       refine⟨_,rfl,d,_,rfl,dg eF MR,_,rfl,pa,gZ,rfl,⟨_,qj.go uT⟩,⟨_,Eb⟩,fun D2 HG nG=>?_⟩;refine Fm (qj.go uT) Eb Yz (by omega) nG (fun x y H Q h=>⟨_,rfl,_,rfl,_,_,rfl,rfl,h⟩) fun HI sI dI=>?_;refine⟨D2,_,rfl,.inl ⟨aw.of dI,fun pt HJ nJ=>?_⟩⟩;have yc:=sI.trans nJ.same;have eJ:=yc _ _ eF;have Md:aB K HJ pt ((dS (dZ S) (gf ns S.dn)).map V.int):=aB.of nJ.at';refine⟨_,rfl,d,_,rfl,dp eJ VY iT,?_⟩;have GI:bG HA HJ:=(uT.trans yc).v;have As:bG HJ (L2.upd HJ d (.dK (aY (.ref ma) (.ref pt) gv sv (.int S.rate) (.str S.side) (.str S.mark) (.ref q) (.int S.dn) bv dQ cx (.ref td)))):=.upd eJ trivial;have e1:(L2.upd HJ d (.dK (aY (.ref ma) (.ref pt) gv sv (.int S.rate) (.str S.side) (.str S.mark) (.ref q) (.int S.dn) bv dQ cx (.ref td)))) d=some (.dK (aY (.ref ma) (.ref pt) gv sv (.int S.rate) (.str S.side) (.str S.mark) (.ref q) (.int S.dn) bv dQ cx (.ref td))):=aO;have b1:∀b o,b≠d->HA b=some o->(L2.upd HJ d (.dK (aY (.ref ma) (.ref pt) gv sv (.int S.rate) (.str S.side) (.str S.mark) (.ref q) (.int S.dn) bv dQ cx (.ref td)))) b=some o:=fun b o hb eb=>by rw[az hb];exact yc _ _ (uT _ _ eb)
       generalize L2.upd HJ d (.dK (aY (.ref ma) (.ref pt) gv sv (.int S.rate) (.str S.side) (.str S.mark) (.ref q) (.int S.dn) bv dQ cx (.ref td)))=uk at As e1 b1⊢;refine⟨_,rfl,?_⟩;dsimp only[nS];refine ke uk _ (GI.trans As) (b1 _ _ zG.symm zK) fun pe yj=>?_;refine⟨_,rfl,d,_,rfl,dp e1 VX iT,?_⟩;refine⟨_,rfl,d,_,rfl,dg aO zw,_,_,rfl,rfl,_,rfl,d,_,rfl,dp aO Ky iT,?_⟩;have vX:bG uk (L2.upd (L2.upd uk d (.dK (aY (.ref ma) (.ref pt) gv pe (.int S.rate) (.str S.side) (.str S.mark) (.ref q) (.int S.dn) bv dQ cx (.ref td)))) d (.dK (aY (.ref ma) (.ref pt) gv pe (.int S.rate) (.str S.side) (.str S.mark) (.ref q) (.int ((S.dn:Int)+1)) bv dQ cx (.ref td)))):=fun b o nb eb=>by
        have hb:b≠d:=fun z=>by rw[z,e1]at eb;cases eb;exact nb trivial
        rw[az hb,az hb];exact eb
       have eX:(L2.upd (L2.upd uk d (.dK (aY (.ref ma) (.ref pt) gv pe (.int S.rate) (.str S.side) (.str S.mark) (.ref q) (.int S.dn) bv dQ cx (.ref td)))) d (.dK (aY (.ref ma) (.ref pt) gv pe (.int S.rate) (.str S.side) (.str S.mark) (.ref q) (.int ((S.dn:Int)+1)) bv dQ cx (.ref td)))) d=some (.dK (aY (.ref ma) (.ref pt) gv pe (.int S.rate) (.str S.side) (.str S.mark) (.ref q) (.int ((S.dn:Int)+1)) bv dQ cx (.ref td))):=aO;have bX:∀b o,b≠d->HA b=some o->(L2.upd (L2.upd uk d (.dK (aY (.ref ma) (.ref pt) gv pe (.int S.rate) (.str S.side) (.str S.mark) (.ref q) (.int S.dn) bv dQ cx (.ref td)))) d (.dK (aY (.ref ma) (.ref pt) gv pe (.int S.rate) (.str S.side) (.str S.mark) (.ref q) (.int ((S.dn:Int)+1)) bv dQ cx (.ref td)))) b=some o:=fun b o hb eb=>by rw[az hb,az hb];exact b1 _ _ hb eb
       generalize(L2.upd (L2.upd uk d (.dK (aY (.ref ma) (.ref pt) gv pe (.int S.rate) (.str S.side) (.str S.mark) (.ref q) (.int S.dn) bv dQ cx (.ref td)))) d (.dK (aY (.ref ma) (.ref pt) gv pe (.int S.rate) (.str S.side) (.str S.mark) (.ref q) (.int ((S.dn:Int)+1)) bv dQ cx (.ref td))))=HX at vX eX bX⊢;have xK:=As.trans vX;have uC:=GI.trans xK;have p7:=Au.trans uC;have zC:HX q=some (.lst ys):=bX _ _ dq.symm (zS _ _ eq (by rw[cf];exact dq.symm));have Vg:q≠lm:=fun z=>by rw[z,yK]at eq;cases eq
       have Lf:0<kr M.r M.f S.pc (topR S.rate sp) (eK M S) left S.stp:=Lm (by omega) (by omega) l1 ok.pd.nn (GX gd ok.rt1) Rd.nn ok.stp nh;have zW:dZ (ff ns (eO M S ns sp))=dS (dZ S) (gf ns S.dn):=(Vs eo (by rw[Ly,ok.pl]) DK hd).symm;have zY:cG (ff ns (eO M S ns sp))=cG S:=MJ eo;refine⟨fun σ HY=>σ=[some (.ref d),some (.ref ma),some y,some sv,some (.int left),some cx,some (.ref lt),some (.ref lm),some (.ref le),w9,jA,m7,some (.ref gZ)]/\dh K HY d q td M (ff ns (eO M S ns sp))/\bI [d,q] H HY/\bG HX HY/\HY lm=some (.lst um),?_,?_⟩
       · refine⟨_,rfl,.inl ⟨_,_,rfl,rfl,_,rfl,?_⟩⟩
         refine cV (fun h0=>?_) (fun h0=>?_)
         · have hl:left=1:=ja h0
           have Er:(eO M S ns sp).dn=ak ns:=by show S.dn+1=ak ns;omega
           obtain⟨fe,gy⟩:∃fe,S.os=some (ns,sp)::fe:=by cases e:S.os with |nil=>rw[e]at eo;simp at eo |cons a r=>rw[e]at eo;cases eo;exact⟨r,rfl⟩
           have eN:ff ns (eO M S ns sp)={eO M S ns sp with pl:=gF S.pl (some (ns,sp)),ds:=S.ds.tail,os:=fe,dn:=0}:=by unfold ff;rw[aP Er];unfold j5;rw[show(eO M S ns sp).os=some (ns,sp)::fe from gy];rfl
           rw[eN]at zW zY⊢;have vZ:seqIndex? 0 ys.length=some 0:=by have:0<ys.length:=(dC.mp ey).1;unfold seqIndex?;simp[this]
           refine⟨_,rfl,d,_,rfl,dg eX jT,.inl ⟨rfl,_,aw.of zC⟩,q,ys,0,0,y,rfl,rfl,zC,by decide,by decide,vZ,ey,?_⟩;have e3:(L2.upd HX q (.lst (ys.eraseIdx 0))) d=some (.dK (aY (.ref ma) (.ref pt) gv pe (.int S.rate) (.str S.side) (.str S.mark) (.ref q) (.int ((S.dn:Int)+1)) bv dQ cx (.ref td))):=by rw[az dq];exact eX
           refine⟨_,rfl,d,_,rfl,dp e3 Ky iT,?_⟩;refine⟨_,rfl,d,_,rfl,dp aO yA iT,?_⟩;have vY:bG HX (L2.upd (L2.upd (L2.upd HX q (.lst (ys.eraseIdx 0))) d (.dK (aY (.ref ma) (.ref pt) gv pe (.int S.rate) (.str S.side) (.str S.mark) (.ref q) (.int 0) bv dQ cx (.ref td)))) d (.dK (aY (.ref ma) (.ref pt) gv pe (.int S.rate) (.str S.side) (.str S.mark) (.ref q) (.int 0) bv dQ .aW (.ref td)))):=fun b o nb eb=>by
            have hb:b≠d:=fun z=>by rw[z,eX]at eb;cases eb;exact nb trivial
            have hq:b≠q:=fun z=>by rw[z,zC]at eb;cases eb;exact nb trivial
            rw[az hb,az hb,az hq];exact eb
           have bY:∀b o,b≠d->b≠q->HX b=some o->(L2.upd (L2.upd (L2.upd HX q (.lst (ys.eraseIdx 0))) d (.dK (aY (.ref ma) (.ref pt) gv pe (.int S.rate) (.str S.side) (.str S.mark) (.ref q) (.int 0) bv dQ cx (.ref td)))) d (.dK (aY (.ref ma) (.ref pt) gv pe (.int S.rate) (.str S.side) (.str S.mark) (.ref q) (.int 0) bv dQ .aW (.ref td)))) b=some o:=fun b o hb hq eb=>by rw[az hb,az hb,az hq];exact eb
           have eY:(L2.upd (L2.upd (L2.upd HX q (.lst (ys.eraseIdx 0))) d (.dK (aY (.ref ma) (.ref pt) gv pe (.int S.rate) (.str S.side) (.str S.mark) (.ref q) (.int 0) bv dQ cx (.ref td)))) d (.dK (aY (.ref ma) (.ref pt) gv pe (.int S.rate) (.str S.side) (.str S.mark) (.ref q) (.int 0) bv dQ .aW (.ref td)))) d=some (.dK (aY (.ref ma) (.ref pt) gv pe (.int S.rate) (.str S.side) (.str S.mark) (.ref q) (.int 0) bv dQ .aW (.ref td))):=aO;have qY:(L2.upd (L2.upd (L2.upd HX q (.lst (ys.eraseIdx 0))) d (.dK (aY (.ref ma) (.ref pt) gv pe (.int S.rate) (.str S.side) (.str S.mark) (.ref q) (.int 0) bv dQ cx (.ref td)))) d (.dK (aY (.ref ma) (.ref pt) gv pe (.int S.rate) (.str S.side) (.str S.mark) (.ref q) (.int 0) bv dQ .aW (.ref td)))) q=some (.lst (ys.eraseIdx 0)):=by rw[az dq.symm,az dq.symm];exact aO
           refine⟨rfl,⟨⟨.ref ma,.ref pt,gv,pe,bv,dQ,.aW,eY,RD.v (p7.trans vY) _ (gP _ _ _ _ _) r1,?_,?_,?_,Ho.v (uC.trans vY),.inl rfl⟩,ys.eraseIdx 0,qY,?_⟩,fun b o eb hb=>?_,vY,bY _ _ tZ.symm Vg.symm (bX _ _ tZ.symm tY)⟩
           ·rw[zW];exact rZ (aB.v vY (aB.v xK Md))
           ·rw[zY];exact RD.v (p7.trans vY) _ (gh _) r3
           · show aR K _ pe (my M.r M.f S.pc (topR S.rate sp) (eK M S) ((ak ns:Int)-S.dn) S.stp)
             rw[el];exact(yj.v vX).v vY
           ·exact N4 (ay.v (p7.trans vY) _ ok.row.no rq)
           · have ha:b≠d:=fun z=>hb (by rw[z];simp)
             have hq:b≠q:=fun z=>hb (by rw[z];simp);exact bY _ _ ha hq (bX _ _ ha (zS _ _ eb (by rw[cf];exact ha)))
         · have hl:left≠1:=fun z=>h0 (cw z)
           have a0c:¬(eO M S ns sp).dn=ak ns:=fun z=>hl (by have:S.dn+1=ak ns:=z;omega);have eN:ff ns (eO M S ns sp)=eO M S ns sp:=aV a0c;rw[eN]at zW zY⊢;refine⟨rfl,⟨⟨.ref ma,.ref pt,gv,pe,bv,dQ,cx,eX,RD.v p7 _ (gP _ _ _ _ _) r1,?_,?_,?_,Ho.v uC,.inr (show aR K HX cx (eK M S)from V8.v uC)⟩,ys,zC,ay.v p7 _ ok.row.no rq⟩,fun b o eb hb=>?_,.refl,bX _ _ tZ.symm tY⟩
           ·rw[zW];exact rZ (aB.v xK Md)
           ·rw[zY];exact RD.v p7 _ (gh _) r3
           · show aR K HX pe (my M.r M.f S.pc (topR S.rate sp) (eK M S) ((ak ns:Int)-S.dn) S.stp)
             rw[el];exact yj.v vX
           · have ha:b≠d:=fun z=>hb (by rw[z];simp)
             exact bX _ _ ha (zS _ _ eb (by rw[cf];exact ha))
       · rintro σ HY ⟨rfl,zq⟩
         have RY:=zq.1;have bY:=zq.2.1;have vY:=zq.2.2.1;have dY:=zq.2.2.2;refine⟨_,rfl,?_⟩;dsimp only[nS];refine km HY _ (uC.trans vY) dY fun v rv=>?_;have t1:=aE.t1;have nB:Bd 2000 (kr M.r M.f S.pc (topR S.rate sp) (eK M S) left S.stp):=((Lo (D:=D) (by omega) (by omega) l1 ok.pd (GZ.mono (by omega)) (Rd.mono (by omega)) ok.stp nh).bd (dc Ll (dc tl (by decide+kernel)))).mono (by omega);refine⟨_,rfl,_,rfl,_,rfl,.ref ma,v,M.rs,M.r,M.f,M.j,M.t,_,rfl,RD.v (p7.trans vY) _ (gP _ _ _ _ _) r1,rv,nB,t1.1,t1.2,Du Lf,fun T T1 _ T2 T3 HZ sZ=>?_⟩;refine⟨_,rfl,bM _ (bR rfl),fun tt HW nW=>k (.ref tt) HW ?_ (RY.same (One.ok ok aE (.line eo nh)).row.no (sZ.trans nW.same)) (fun b o eb hb=>(sZ.trans nW.same) _ _ (bY b o eb hb))⟩;have etk:=GY (Gw (Du Lf)) ⟨T1,T2,T3⟩;unfold lM DM m9;rw[el,etk];exact iW (aB.of nW.at') (cj (dD _) (cj (RD.mono (sZ.trans nW.same) _ (rZ (aB.v (yc.v.trans (xK.trans vY)) Eb))) (cj (dG _) (cj (rv.go (sZ.trans nW.same)).rd cQ))))
theorem a2v(q:Rat):PyData.eqv (cD q) (.tuple [.int 0,.int 1])=decide (q=0):=by have h:(q.num=0/\(q.den:Int)=1)↔q=0:=⟨fun h=>Rat.num_eq_zero.mp h.1,fun h=>by rw[h];exact⟨rfl,rfl⟩⟩;rw[m6,oU,<-h];simp[cD,PyData.eqv,PyData.eqvAll]
theorem TL(d:a5z)(S:aZ):(bN d S).pc=S.pc/\(bN d S).rate=S.rate/\(bN d S).stp=S.stp:=by
 unfold bN;split
 · split
   ·exact⟨rfl,rfl,rfl⟩
   ·split<;>exact⟨rfl,rfl,rfl⟩
 ·exact⟨rfl,rfl,rfl⟩
theorem KL{M:bw}{D:Nat}{S:aZ}{d:a5z}(ok:bQ M D S)(eo:S.os[0]? =some none):∃fe,S.os=none::fe/\j5 (bN d S)={bN d S with pl:=S.pl,ds:=S.ds.tail,os:=fe,dn:=0}/\dZ (j5 (bN d S))=dZ S/\cG (j5 (bN d S))=cG S:=by
 obtain⟨fe,gy⟩:∃fe,S.os=none::fe:=by cases e:S.os with |nil=>rw[e]at eo;simp at eo |cons a r=>rw[e]at eo;cases eo;exact⟨r,rfl⟩
 obtain⟨_,e1,e2,e3,e4⟩:=B7 ok.raw d;have Fc:S.dn=0:=by
  rcases ok.dn with z|⟨vy,uP,e1,e2⟩
  ·exact z
  ·rw[eo]at e1;cases e1
 have eE:j5 (bN d S)={bN d S with pl:=S.pl,ds:=S.ds.tail,os:=fe,dn:=0}:=by unfold j5;rw[e1,gy,e2,e4];rfl
 refine⟨fe,gy,eE,?_,?_⟩
 · rw[eE]
   unfold dZ;rw[aP rfl,aP Fc]
 · rw[eE]
   unfold cG;rw[gy];rfl
theorem Zq{c:TT}{ts rest:TS}{D:Ends}{σ:L2.St}{H:Hp}(G:Hp->Prop)(hr:∀H',G H'->rest D σ H')(h:(∀H',G H'->rest D σ H')->uJ (pC c ts AE) rest D σ H):uJ (pC c ts AE) rest D σ H:=h hr
inductive Pb(K:a5w)(vs:List V)(H:Hp)(Q:VK):Prop |mk (d:_)(q:_)(td:_)(M:_)(D:_)(S:_)(n:_)(h0:vs=[.ref d,.int n])(h1:dh K H d q td M S)(h2:bQ M D S)(h3:M.Ok)(h4:0<=n)(h5:n<=1000)(h6:∀l ys es S' H',H l=none->H' l=some (.lst ys)->ay K H' ys es->Run M S es S'->(es.length:Int)<=n->((es.length:Int)=n\/S'.os=[]\/Halt S'.pc S'.stp)->dh K H' d q td M S'->bI [d,q] H H'->Q (.ref l) H'):Pb K vs H Q
def HS(K:a5w):Sp:=fun vs H Q _=>Pb K vs H Q
abbrev Bs:Stmt:=top 85
theorem IZ:bc ["_law_sim_here","_law_n","_law_found","_law_item"] ["_law_sim_here","_law_n"] (aM Bs):=bh (by decide+kernel)
theorem WH(F:FA K mg "_law_sim_entries" Bs)(B:bB mg)(a1E:aj P w K mg base "_law_sim_step" 5 (HN K)):aj P w K mg base "_law_sim_entries" 6 (HS K):=by
 refine F.has IZ (fun vs H Q E h=>?_) (fun _ _ _ _ _ _=>cP fun _ _=>rfl) (fun fa aD A outer s H vs Q E hr h=>?_)
 · obtain⟨d,q,td,M,D,S,n,rfl,_⟩:=h
   rfl
 · obtain⟨d,q,td,M,D,S,n,rfl,R,ok,aE,n0,n1,k⟩:=h
   have dq:=R.ne;have nd:=IZ.nd;refine⟨_,(ah (aH (i:=2) nd rfl (Or.inl rfl) (dF af)) (ah (lG fU (PW.pt (lF (bK iH (aL (x:="len") (cU K rfl) rfl (B.at "len") cY (aa (pv 2) af)) (pv 1) (aX _)) (pR (bK pT (aL (x:="len") (cU K rfl) rfl (B.at "len") cY (aa (cu (bu hr.units) (pv 0) aU (fun _ _=>rfl)) af)) ag (aX _))))) (ah (bj (PW.pt (lF (bK vo (cu (bu hr.units) (pv 0) aU (fun _ _=>rfl)) iD (aX _)) (pR (bK (cH K rfl hr.units) (cu (bu hr.units) (pv 0) aU (fun _ _=>rfl)) (dH (aa ag (aa ag af))) (aX _))))) (ao (aG (pv 2))) bE) (ah (aH (i:=3) nd rfl (Or.inl rfl) (aJ (aK K rfl) (cu (bu hr.units) (pv 0) aU (fun _ _=>rfl)) ag (fun _ _=>rfl))) (ao (bj (bK (cH K rfl hr.units) (aJ (aK K rfl) (pv 3) ag (fun _ _=>rfl)) aU (aX _)) (ao (fP (iX K rfl (pv 2) (aa (pf a1E hr (aa (pv 0) af)) af)))) (ah (fW (bj (bK (jj K rfl hr.units) (aJ (aK K rfl) (pv 3) ag (fun _ _=>rfl)) aU (aX _)) (ao (fI (bu hr.units) (pv 0) (aJ (aK K rfl) (pv 3) ag (fun _ _=>rfl)) (aJ (aK K rfl) (pv 3) ag (fun _ _=>rfl)) rfl)) bE)) (ah (fP (iX K rfl (pv 2) (aa (Kx K rfl (cu (bu hr.units) (pv 0) aU (fun _ _=>rfl)) (aa ag af)) af))) (ao (fI (bu hr.units) (pv 0) aU iD rfl))))))))) (ao (aG (pv 2))))),?_⟩;refine⟨bM _ (bR rfl),fun l H1 nw=>?_⟩;obtain⟨mv,lv,gv,sv,bv,cv,rv,e,r1,r2,r3,r4,r5,r6⟩:=R.ob;obtain⟨ys,eq,rq⟩:=R.qu;have wL:d≠l:=fun z=>by have:=nw.no;rw[<-z,e]at this;cases this
   have ql:q≠l:=fun z=>by have:=nw.no;rw[<-z,eq]at this;cases this
   refine kY (fun σ H2=>∃es S' us w3,σ=[some (.ref d),some (.int n),some (.ref l),w3]/\dh K H2 d q td M S'/\H2 l=some (.lst us)/\ay K H2 us es/\Run M S es S'/\(es.length:Int)<=n/\bI [d,q] H H2) (fun _ H2=>match H2 l with|some (.lst us)=>2000-us.length|_=>0) ?_ ?_ ?_
   ·exact⟨[],S,[],none,rfl,R.same ok.row.no nw.same,nw.at',cQ,.nil _,by simpa using n0,.of nw.same⟩
   · rintro σ H2 ⟨es,S',us,w3,rfl,R2,dl,rd,run,jO,bt⟩
     have iq:=run.ok ok aE;have gx:=run.no ok aE;have lu:=rd.length;obtain⟨mv,lv,gv,sv,bv,cv,rv,e,r1,r2,r3,r4,r5,r6⟩:=R2.ob;obtain⟨yq,eq2,rq⟩:=R2.qu;have sT:=rq.length;have vT:=iq.row.len;have kz:sizeLine=16777216:=by decide
     refine⟨_,rfl,l,us,rfl,.inl (aw.of dl),_,rfl,_,_,rfl,rfl,_,rfl,?_⟩;show if decide ((us.length:Int)<n)=true then _ else _;by_cases c1:(us.length:Int)<n
     · rw[cw c1]
       refine bF ?_;refine⟨_,rfl,d,_,rfl,dg e jT,q,yq,rfl,.inl (aw.of eq2),_,_,rfl,rfl,_,rfl,?_⟩;cases iM:S'.os with |nil=>have:yq=[]:=Al.mp (by rw[sT,vT,iM];rfl);subst this;refine bf ?_;exact⟨_,rfl,k l us es S' H2 nw.no dl rd run jO (.inr (.inl iM)) R2 bt⟩ |cons o os=>
         have cy:S'.os≠[]:=by rw[iM];simp
         have mK:0<yq.length:=by rw[sT,vT,iM];simp
         rw[cw (show(0:Int)<(yq.length:Int) by omega)];refine bF ?_;have eo:S'.os[0]? =some o:=by rw[iM];rfl
         refine Zq (fun H3=>¬Halt S'.pc S'.stp/\ai H2 H3) (fun H3 g=>?_) (fun Mc=>?_)
         · obtain⟨nh,s3⟩:=g
           have R3:=R2.same iq.row.no s3;have e3:=s3 _ _ e;have eq3:=s3 _ _ eq2;have u6:=s3 _ _ dl;have CW:=ay.mono s3 _ rd;have NZ:bI [d,q] H H3:=fun b o' eb hb=>s3 _ _ (bt b o' eb hb);have dlq:l∉[d,q]:=by simp;exact⟨wL.symm,ql.symm⟩
           obtain⟨dd,ed⟩:∃dd,S'.ds[0]? =some dd:=⟨_,bO (show 0<S'.ds.length by omega)⟩;obtain⟨y,ey,ry⟩:=rq.get 0 ed;have it:=iq.row.it 0 dd _ ed eo;have yi:=RD.mono s3 _ ry;refine⟨_,rfl,d,_,rfl,dg e3 jT,.inl ⟨q,_,0,y,rfl,rfl,aw.of eq3,cM (fG 0) ey,?_⟩⟩;obtain⟨ya,wd,zs,rfl,wc,ew,sw⟩:=tj yi it;refine⟨_,rfl,.inr ⟨ya,_,0,.str wd,rfl,rfl,wc,cM (fG 0) rfl,.inr ⟨_,_,dD _,dD _,sw,sY,_,rfl,?_⟩⟩⟩;rw[ew];cases o with
           |some z=>
             obtain⟨ns,sp⟩:=z;refine bF ?_;refine⟨_,rfl,.inl ⟨rfl,_,aw.of u6⟩,_,rfl,d,q,td,M,D,S',ns,sp,rfl,R3,iq,aE,eo,nh,fun v H4 cx R4 b4=>?_⟩;have Aw:=R3.v b4;have gW:=b4 _ _ u6 dlq;refine⟨l,us,_,rfl,rfl,gW,by omega,?_⟩;have vu:bG H4 (L2.upd H4 l (.lst (us++[v]))):=.upd gW trivial;have one:One M S' (lM M S' ns sp) (ff ns (eO M S' ns sp)):=.line eo nh;have dM:=One.ok iq aE one;refine⟨⟨es++[lM M S' ns sp],_,us++[v],_,rfl,R4.go dM.row.no vu (fun o' cB=>by rw[az wL];exact cB) (fun o' cB=>by rw[az ql];exact cB),aO,(ay.v (Aw.trans vu) _ gx CW).append (cj (RD.v vu _ (AI _ _ _) cx) cQ),run.snoc one,by rw[eZ];show((es.length+1:Nat):Int)<=n;omega,fun b o' eb hb=>?_⟩,?_⟩
             · have dw:b≠l:=fun z=>by have:=nw.no;rw[<-z,eb]at this;cases this
               rw[az dw];exact b4 _ _ (NZ _ _ eb hb) hb
             · show(match(L2.upd H4 l (.lst (us++[v]))) l with|some (.lst us)=>2000-us.length|_=>0)<(match H2 l with|some (.lst us)=>2000-us.length|_=>0)
               rw[aO,dl];show 2000-(us++[v]).length<2000-us.length;rw[eZ];show 2000-(us.length+1)<2000-us.length;omega |none=>
             refine bf ?_;have ij:=iq.rw 0 dd eo ed;have tW:SeqAt.shaped (.str "wait")=true:=by decide+kernel
             have eqT:∀(x y:Str),PyData.eqv (.str x) (.str y)=decide (x=y):=fun x y=>by show(x==y)=decide (x=y);rw[m6];simp
             refine⟨fun σ H4=>σ=[some (.ref d),some (.int n),some (.ref l),some (.ref ya)]/\bI [d] H3 H4/\H4 d=some (.dK (aY mv lv gv sv (.int S'.rate) (.str (bN dd S').side) (.str (bN dd S').mark) (.ref q) (.int S'.dn) bv cv rv (.ref td))),?_,?_⟩
             · rcases ij with⟨m,rfl,_⟩|⟨w',s',rfl,hw,_⟩
               · obtain⟨RE,xs,ea,h1,h2⟩:=yi.dv
                 cases ea;obtain⟨x1,rr,rfl,e1,h2⟩:=h2.cons_inv;cases e1.str_inv;refine⟨_,rfl,.inr ⟨ya,_,0,.str "wait",rfl,rfl,h1,cM (fG 0) rfl,.inr ⟨_,_,dD _,dD _,tW,tW,_,rfl,?_⟩⟩⟩;rw[eqT,cw rfl];exact bf ⟨rfl,bI.refl _ _,e3⟩
               · obtain⟨RE,xs,ea,h1,h2⟩:=yi.dv
                 cases ea;obtain⟨x1,rr,rfl,e1,h2⟩:=h2.cons_inv;obtain⟨x2,rr,rfl,e2,h2⟩:=h2.cons_inv;cases h2.nil_inv;cases e1.str_inv;cases e2.str_inv;have sz:SeqAt.shaped (.str w')=true:=by rcases hw with rfl|rfl<;>decide+kernel
                 have XQ:¬w'="wait":=by rcases hw with rfl|rfl<;>decide+kernel
                 refine⟨_,rfl,.inr ⟨ya,_,0,.str w',rfl,rfl,h1,cM (fG 0) rfl,.inr ⟨_,_,dD _,dD _,sz,tW,_,rfl,?_⟩⟩⟩;rw[eqT,eu XQ];refine bF ?_;rcases hw with rfl|rfl
                 · refine⟨_,rfl,.inr ⟨ya,_,1,.str s',rfl,rfl,h1,cM (by decide) rfl,_,rfl,_,rfl,.inr ⟨ya,_,0,.str "tool",rfl,rfl,h1,cM (fG 0) rfl,d,_,rfl,dp e3 VW iT,?_⟩⟩⟩
                   exact⟨rfl,qP (by simp),aO⟩
                 · refine⟨_,rfl,.inr ⟨ya,_,1,.str s',rfl,rfl,h1,cM (by decide) rfl,_,rfl,_,rfl,.inr ⟨ya,_,0,.str "mark",rfl,rfl,h1,cM (fG 0) rfl,d,_,rfl,dp e3 VZ iT,?_⟩⟩⟩
                   exact⟨rfl,qP (by simp),aO⟩
             rintro σ H4 ⟨rfl,b4,e4⟩;have Aw:bG H3 H4:=b4.v fun x hx o' cB=>by rw[cf]at hx;rw[hx,e3]at cB;cases cB;trivial
             have eq4:=b4 _ _ eq3 (by rw[cf];exact dq.symm);have gW:=b4 _ _ u6 (by rw[cf];exact wL.symm);have vZ:seqIndex? 0 yq.length=some 0:=by unfold seqIndex?;simp[mK]
             have dl5:(L2.upd H4 q (.lst (yq.eraseIdx 0))) l=some (.lst us):=by rw[az ql.symm];exact gW
             refine⟨_,rfl,.inl ⟨rfl,_,aw.of gW⟩,_,rfl,d,_,rfl,dg e4 jT,.inl ⟨rfl,_,aw.of eq4⟩,q,yq,0,0,.ref ya,rfl,rfl,eq4,by decide,by decide,vZ,ey,?_⟩;refine⟨l,us,_,rfl,rfl,dl5,by omega,?_⟩;have e6:(L2.upd (L2.upd H4 q (.lst (yq.eraseIdx 0))) l (.lst (us++[.ref ya]))) d=some (.dK (aY mv lv gv sv (.int S'.rate) (.str (bN dd S').side) (.str (bN dd S').mark) (.ref q) (.int S'.dn) bv cv rv (.ref td))):=by rw[az wL,az dq];exact e4
             refine⟨_,rfl,d,_,rfl,dp e6 yA iT,?_⟩;have GL:bG H4 (L2.upd (L2.upd (L2.upd H4 q (.lst (yq.eraseIdx 0))) l (.lst (us++[.ref ya]))) d (.dK (aY mv lv gv sv (.int S'.rate) (.str (bN dd S').side) (.str (bN dd S').mark) (.ref q) (.int S'.dn) bv cv .aW (.ref td)))):=fun b o nb eb=>by
              have hb:b≠d:=fun z=>by rw[z,e4]at eb;cases eb;exact nb trivial
              have hq:b≠q:=fun z=>by rw[z,eq4]at eb;cases eb;exact nb trivial
              have dw:b≠l:=fun z=>by rw[z,gW]at eb;cases eb;exact nb trivial
              rw[az hb,az dw,az hq];exact eb
             have b7:∀b o,b≠d->b≠q->b≠l->H4 b=some o->(L2.upd (L2.upd (L2.upd H4 q (.lst (yq.eraseIdx 0))) l (.lst (us++[.ref ya]))) d (.dK (aY mv lv gv sv (.int S'.rate) (.str (bN dd S').side) (.str (bN dd S').mark) (.ref q) (.int S'.dn) bv cv .aW (.ref td)))) b=some o:=fun b o hb hq dw eb=>by rw[az hb,az dw,az hq];exact eb
             have e7:(L2.upd (L2.upd (L2.upd H4 q (.lst (yq.eraseIdx 0))) l (.lst (us++[.ref ya]))) d (.dK (aY mv lv gv sv (.int S'.rate) (.str (bN dd S').side) (.str (bN dd S').mark) (.ref q) (.int S'.dn) bv cv .aW (.ref td)))) d=some (.dK (aY mv lv gv sv (.int S'.rate) (.str (bN dd S').side) (.str (bN dd S').mark) (.ref q) (.int S'.dn) bv cv .aW (.ref td))):=aO;have q7:(L2.upd (L2.upd (L2.upd H4 q (.lst (yq.eraseIdx 0))) l (.lst (us++[.ref ya]))) d (.dK (aY mv lv gv sv (.int S'.rate) (.str (bN dd S').side) (.str (bN dd S').mark) (.ref q) (.int S'.dn) bv cv .aW (.ref td)))) q=some (.lst (yq.eraseIdx 0)):=by rw[az dq.symm,az ql];exact aO
             have l7:(L2.upd (L2.upd (L2.upd H4 q (.lst (yq.eraseIdx 0))) l (.lst (us++[.ref ya]))) d (.dK (aY mv lv gv sv (.int S'.rate) (.str (bN dd S').side) (.str (bN dd S').mark) (.ref q) (.int S'.dn) bv cv .aW (.ref td)))) l=some (.lst (us++[.ref ya])):=by rw[az wL.symm];exact aO
             generalize(L2.upd (L2.upd (L2.upd H4 q (.lst (yq.eraseIdx 0))) l (.lst (us++[.ref ya]))) d (.dK (aY mv lv gv sv (.int S'.rate) (.str (bN dd S').side) (.str (bN dd S').mark) (.ref q) (.int S'.dn) bv cv .aW (.ref td))))=H7 at GL b7 e7 q7 l7⊢;have GN:=Aw.trans GL;have p9:=s3.v.trans GN;obtain⟨fe,gy,eE,ePl,eGo⟩:=KL (d:=dd) iq eo;have fx:=TL dd S';have one:One M S' dd (j5 (bN dd S')):=.ij eo ed nh;have Fc:S'.dn=0:=by
              rcases iq.dn with z|⟨vy,uP,e1,e2⟩
              ·exact z
              ·rw[eo]at e1;cases e1
             have Y2:dP dd=true:=gq.mp iq.row.no _ (g9 ed);refine⟨⟨es++[dd],j5 (bN dd S'),us++[.ref ya],_,rfl,?_,l7,(ay.v p9 _ gx rd).append (cj (RD.v GN _ Y2 yi) cQ),run.snoc one,by rw[eZ];show((es.length+1:Nat):Int)<=n;omega,fun b o' eb hb=>?_⟩,?_⟩
             · refine⟨⟨mv,lv,gv,sv,bv,cv,.aW,?_,RD.v p9 _ (gP _ _ _ _ _) r1,?_,?_,?_,?_,.inl rfl⟩,yq.eraseIdx 0,q7,?_⟩
               · rw[eE]
                 show H7 d=some (.dK (aY mv lv gv sv (.int (bN dd S').rate) (.str (bN dd S').side) (.str (bN dd S').mark) (.ref q) (.int 0) bv cv .aW (.ref td)));rw[fx.2.1,e7,Fc];rfl
               ·rw[ePl];exact RD.v p9 _ (gh _) r2
               ·rw[eGo];exact RD.v p9 _ (gh _) r3
               · rw[eE]
                 show aR K H7 sv (bN dd S').pc;rw[fx.1];exact r4.v p9
               · rw[eE]
                 show uo K H7 bv cv (bN dd S').stp;rw[fx.2.2];exact r5.v p9
               · rw[eE]
                 exact N4 (ay.v p9 _ iq.row.no rq)
             · have dw:b≠l:=fun z=>by have:=nw.no;rw[<-z,eb]at this;cases this
               have tL:b≠d:=fun z=>hb (by rw[z];simp);have iZ:b≠q:=fun z=>hb (by rw[z];simp);exact b7 _ _ tL iZ dw (b4 _ _ (NZ _ _ eb hb) (by rw[cf];exact tL))
             · show(match H7 l with|some (.lst us)=>2000-us.length|_=>0)<(match H2 l with|some (.lst us)=>2000-us.length|_=>0)
               rw[l7,dl];show 2000-(us++[V.ref ya]).length<2000-us.length;rw[eZ];show 2000-(us.length+1)<2000-us.length;omega
         · refine⟨_,rfl,d,_,rfl,dg e wC,rfl,_,rfl,?_⟩
           cases hs:S'.stp with |none=>have gM:=r5;rw[hs]at gM;obtain⟨rfl,_⟩:=gM;refine bf ?_;exact Mc H2 ⟨fun h=>h.1 hs,ai.refl _⟩ |some z=>
             obtain⟨sq,st,gn⟩:=z;have gM:=r5;rw[hs]at gM;obtain⟨ta,su,rfl,_⟩:=gM;refine bF ?_;refine⟨_,rfl,d,_,rfl,dg e tQ,bM _ (bR rfl),fun t H3 n3=>?_⟩;have TJ:SeqAt.shaped (.tuple [.int 0,.int 1])=true:=by decide+kernel
             refine .inr ⟨_,_,(r4.go n3.same).rd,iW (aB.of n3.at') (cj (dG _) (cj (dG _) cQ)),UZ _,TJ,_,rfl,?_⟩;rw[a2v];by_cases c3:S'.pc=0
             · rw[cw c3]
               refine bF ?_;have R3:=R2.same iq.row.no n3.same;exact⟨_,rfl,k l us es S' H3 nw.no (n3.same _ _ dl) (ay.mono n3.same _ rd) run jO (.inr (.inr ⟨by rw[hs];simp,c3⟩)) R3 fun b o' eb hb=>n3.same _ _ (bt b o' eb hb)⟩
             · rw[eu c3]
               refine bf ?_;exact Mc H3 ⟨fun h=>c3 h.2,n3.same⟩
     · rw[eu c1]
       refine bf ?_;exact⟨_,rfl,k l us es S' H2 nw.no dl rd run jO (.inl (by omega)) R2 bt⟩
   · rintro σ H6 Q1 Q2 hq ⟨v1,f1,l',gc,f2,f3,v2,f4,i1,i2,f5,f6,b1,f7,h⟩
     refine⟨v1,f1,l',gc,f2,f3,v2,f4,i1,i2,f5,f6,b1,f7,wa ?_ (hq _ _) h⟩;rintro⟨v3,f8,a',k',f9,wH,p',y',wG,EZ,i3,i4,EY,EX,b2,wF,h⟩;exact⟨v3,f8,a',k',f9,wH,p',y',wG,EZ,i3,i4,EY,EX,b2,wF,hq _ _ h⟩
end
end Lw
set_option maxHeartbeats 1000000
namespace Lw
open PySem PySem.Spec PyProof.Rows L2 Rt Ln
section
variable {P:a5y}{w:World}{K:a5w}{mg:Str->Option Value}{base:Heap}
theorem GR:gI "tuple" "list"=false:=by decide
theorem GS:gI "list" "tuple"=false:=by decide
theorem Oh(n:Nat):(List.replicate n true).all id=true:=by induction n with |zero=>rfl |succ n ih=>rw[List.replicate_succ,List.all_cons,ih];rfl
def a4b(D:a5z):Prop:=(∃z,D= .int z)\/∃s,D= .str s/\SeqAt.shaped (.str s)=true/\PyData.eqv (.str s) (.str s)=true
def Nx(A:a5z->Prop)(D:a5z):Prop:=a4b D\/∃ds,(D= .tuple ds\/D= .list ds)/\ds.length<=100000/\∀x∈ds,A x
inductive Q9(A:a5z->Prop)(K:a5w)(vs:List V)(H:Hp)(Q:VK):Prop |mk (v:_)(u:_)(D:_)(h0:vs=[v,u])(h1:RD K H v D)(h2:RD K H u D)(h3:A D)(h4:∀H',ai H H'->Q (.bl true) H'):Q9 A K vs H Q
def uO(A:a5z->Prop)(K:a5w):Sp:=fun vs H Q _=>Q9 A K vs H Q
abbrev yd:Stmt:=top 80
theorem B8:bc ["_law_found","_law_due"] ["_law_found","_law_due"] (aM yd):=bh (by decide+kernel)
theorem XH(F:FA K mg "_law_alike" yd)(B:bB mg):aj P w K mg base "_law_alike" 1 (uO (fun _=>False) K):=by
 refine F.has B8 (fun vs H Q E h=>?_) (fun _ _ _ _ _ _=>cP fun _ _=>rfl) (fun f aD A outer s H vs Q E hr h=>?_)
 · obtain⟨v,u,D,rfl,_,_,h,_⟩:=h
   exact h.elim
 · obtain⟨v,u,D,rfl,_,_,h,_⟩:=h
   exact h.elim
theorem yF{A:a5z->Prop}{n:Nat}(hn:1<=n)(F:FA K mg "_law_alike" yd)(B:bB mg)(zt:aj P w K mg base "_law_number" 1 (rK K))(ky:aj P w K mg base "_law_alike" n (uO A K)):aj P w K mg base "_law_alike" (n+1) (uO (Nx A) K):=by
 refine F.has B8 (fun vs H Q E h=>?_) (fun _ _ _ _ _ _=>cP fun _ _=>rfl) (fun f aD A' outer s H vs Q E hr h=>?_)
 · obtain⟨v,u,D,rfl,_⟩:=h
   rfl
 · obtain⟨v,u,D,rfl,rv,ru,hD,k⟩:=h
   have nd:=B8.nd;rcases hD with(⟨z,rfl⟩|⟨z,rfl,sh,eq⟩)|⟨ds,rfl|rfl,hz,hA⟩
   · refine⟨_,(ah (bj (cA (aL (x:="isinstance") (cT K rfl) rfl (B.at "isinstance") cZ (aa (pv 1) (aa (dH (aa (cL (x:="list") (v:=.ty "list") rfl (B.at "list") jv rfl) (aa (cL (x:="tuple") (v:=.ty "tuple") rfl (B.at "tuple") eU rfl) af))) af)))) (ah (bj (PW.pt (kn (bK (jj K rfl hr.units) (aL (x:="isinstance") (cT K rfl) rfl (B.at "isinstance") cZ (aa (pv 1) (aa (cL (x:="list") (v:=.ty "list") rfl (B.at "list") jv rfl) af))) (aL (x:="isinstance") (cT K rfl) rfl (B.at "isinstance") cZ (aa (pv 0) (aa (cL (x:="list") (v:=.ty "list") rfl (B.at "list") jv rfl) af))) (aX _)) (kl (bK (jj K rfl hr.units) (aL (x:="isinstance") (cT K rfl) rfl (B.at "isinstance") cZ (aa (pv 1) (aa (cL (x:="tuple") (v:=.ty "tuple") rfl (B.at "tuple") eU rfl) af))) (aL (x:="isinstance") (cT K rfl) rfl (B.at "isinstance") cZ (aa (pv 0) (aa (cL (x:="tuple") (v:=.ty "tuple") rfl (B.at "tuple") eU rfl) af))) (aX _))))) (ao (aG ie)) bE) (ao (aG (gm (e9 (cH K rfl hr.units) (aL (x:="len") (cU K rfl) rfl (B.at "len") cY (aa (pv 0) af)) (aL (x:="len") (cU K rfl) rfl (B.at "len") cY (aa (pv 1) af)) (aX _)) (gD (aL (x:="all") (nc K rfl rfl) rfl (B.at "all") oW (aa (ft (N:=["_law_one","_law_two"]) (js:=[none,none]) rfl rfl rfl (hW K rfl false false rfl (B.at "zip") (aa (pv 0) (aa (pv 1) af))) (fun _ _ _ _ _=>(cS K rfl (n:=2) rfl (bo (aQ (i:=0) (show List.Nodup (["_law_one","_law_two"]:List Str) by decide+kernel) rfl (Or.inl rfl)) (bo (aQ (i:=1) (show List.Nodup (["_law_one","_law_two"]:List Str) by decide+kernel) rfl (Or.inl rfl)) cR)))) (fun _ _ _ _ _=>eL) (fun _ _ _ _ _=>(mq ky (hr.mono (by omega)) rfl (aa (pv 0) (aa (pv 1) af))))) af))))))) bE) (ah (bj (cA (aL (x:="isinstance") (cT K rfl) rfl (B.at "isinstance") cZ (aa (pv 1) (aa (cL (x:="str") (v:=.ty "str") rfl (B.at "str") nH rfl) af)))) (ao (aG (gm (aL (x:="isinstance") (cT K rfl) rfl (B.at "isinstance") cZ (aa (pv 0) (aa (cL (x:="str") (v:=.ty "str") rfl (B.at "str") nH rfl) af))) (gD (e9 (cH K rfl hr.units) (pv 0) (pv 1) (aX _)))))) bE) (ao (aG (gm (mq zt (hr.mono (by omega)) rfl (aa (pv 0) af)) (gD (e9 (cH K rfl hr.units) (pv 0) (pv 1) (aX _)))))))),?_⟩
     cases rv.int_inv;cases ru.int_inv;refine⟨_,rfl,bM _ (bR rfl),fun tt H1 n1=>.inr ⟨_,"int",tt,["list","tuple"],_,rfl,n1.at',rfl,by decide,rfl,_,rfl,bf ?_⟩⟩;refine⟨_,rfl,.inl ⟨_,"int","str",_,rfl,rfl,by decide,rfl,_,rfl,bf ?_⟩⟩;refine⟨_,rfl,_,"int",rfl,rfl,_,rfl,bF ?_⟩;refine⟨_,rfl,_,rfl,.inl ⟨_,_,rfl,rfl,?_⟩⟩;show Q (.bl (decide (z=z))) H1;rw[cw rfl];exact k H1 n1.same
   · refine⟨_,(ah (bj (cA (aL (x:="isinstance") (cT K rfl) rfl (B.at "isinstance") cZ (aa (pv 1) (aa (dH (aa (cL (x:="list") (v:=.ty "list") rfl (B.at "list") jv rfl) (aa (cL (x:="tuple") (v:=.ty "tuple") rfl (B.at "tuple") eU rfl) af))) af)))) (ah (bj (PW.pt (kn (bK (jj K rfl hr.units) (aL (x:="isinstance") (cT K rfl) rfl (B.at "isinstance") cZ (aa (pv 1) (aa (cL (x:="list") (v:=.ty "list") rfl (B.at "list") jv rfl) af))) (aL (x:="isinstance") (cT K rfl) rfl (B.at "isinstance") cZ (aa (pv 0) (aa (cL (x:="list") (v:=.ty "list") rfl (B.at "list") jv rfl) af))) (aX _)) (kl (bK (jj K rfl hr.units) (aL (x:="isinstance") (cT K rfl) rfl (B.at "isinstance") cZ (aa (pv 1) (aa (cL (x:="tuple") (v:=.ty "tuple") rfl (B.at "tuple") eU rfl) af))) (aL (x:="isinstance") (cT K rfl) rfl (B.at "isinstance") cZ (aa (pv 0) (aa (cL (x:="tuple") (v:=.ty "tuple") rfl (B.at "tuple") eU rfl) af))) (aX _))))) (ao (aG ie)) bE) (ao (aG (gm (e9 (cH K rfl hr.units) (aL (x:="len") (cU K rfl) rfl (B.at "len") cY (aa (pv 0) af)) (aL (x:="len") (cU K rfl) rfl (B.at "len") cY (aa (pv 1) af)) (aX _)) (gD (aL (x:="all") (nc K rfl rfl) rfl (B.at "all") oW (aa (ft (N:=["_law_one","_law_two"]) (js:=[none,none]) rfl rfl rfl (hW K rfl false false rfl (B.at "zip") (aa (pv 0) (aa (pv 1) af))) (fun _ _ _ _ _=>(cS K rfl (n:=2) rfl (bo (aQ (i:=0) (show List.Nodup (["_law_one","_law_two"]:List Str) by decide+kernel) rfl (Or.inl rfl)) (bo (aQ (i:=1) (show List.Nodup (["_law_one","_law_two"]:List Str) by decide+kernel) rfl (Or.inl rfl)) cR)))) (fun _ _ _ _ _=>eL) (fun _ _ _ _ _=>(mq ky (hr.mono (by omega)) rfl (aa (pv 0) (aa (pv 1) af))))) af))))))) bE) (ah (bj (cA (aL (x:="isinstance") (cT K rfl) rfl (B.at "isinstance") cZ (aa (pv 1) (aa (cL (x:="str") (v:=.ty "str") rfl (B.at "str") nH rfl) af)))) (ao (aG (gm (aL (x:="isinstance") (cT K rfl) rfl (B.at "isinstance") cZ (aa (pv 0) (aa (cL (x:="str") (v:=.ty "str") rfl (B.at "str") nH rfl) af))) (gD (e9 (cH K rfl hr.units) (pv 0) (pv 1) (aX _)))))) bE) (ao (aG (gm (mq zt (hr.mono (by omega)) rfl (aa (pv 0) af)) (gD (e9 (cH K rfl hr.units) (pv 0) (pv 1) (aX _)))))))),?_⟩
     cases rv.str_inv;cases ru.str_inv;refine⟨_,rfl,bM _ (bR rfl),fun tt H1 n1=>.inr ⟨_,"str",tt,["list","tuple"],_,rfl,n1.at',rfl,by decide,rfl,_,rfl,bf ?_⟩⟩;refine⟨_,rfl,.inl ⟨_,"str","str",_,rfl,rfl,by decide,rfl,_,rfl,bF ?_⟩⟩;refine⟨_,rfl,.inl ⟨_,"str","str",_,rfl,rfl,by decide,rfl,_,rfl,bF ?_⟩⟩;refine⟨_,rfl,_,rfl,.inr ⟨_,_,dD _,dD _,sh,sh,?_⟩⟩;rw[eq];exact k H1 n1.same
   · refine⟨_,(ah (bj (cA (aL (x:="isinstance") (cT K rfl) rfl (B.at "isinstance") cZ (aa (pv 1) (aa (dH (aa (cL (x:="list") (v:=.ty "list") rfl (B.at "list") jv rfl) (aa (cL (x:="tuple") (v:=.ty "tuple") rfl (B.at "tuple") eU rfl) af))) af)))) (ah (bj (PW.pt (kn (bK (jj K rfl hr.units) (aL (x:="isinstance") (cT K rfl) rfl (B.at "isinstance") cZ (aa (pv 1) (aa (cL (x:="list") (v:=.ty "list") rfl (B.at "list") jv rfl) af))) (aL (x:="isinstance") (cT K rfl) rfl (B.at "isinstance") cZ (aa (pv 0) (aa (cL (x:="list") (v:=.ty "list") rfl (B.at "list") jv rfl) af))) (aX _)) (kl (bK (jj K rfl hr.units) (aL (x:="isinstance") (cT K rfl) rfl (B.at "isinstance") cZ (aa (pv 1) (aa (cL (x:="tuple") (v:=.ty "tuple") rfl (B.at "tuple") eU rfl) af))) (aL (x:="isinstance") (cT K rfl) rfl (B.at "isinstance") cZ (aa (pv 0) (aa (cL (x:="tuple") (v:=.ty "tuple") rfl (B.at "tuple") eU rfl) af))) (aX _))))) (ao (aG ie)) bE) (ao (aG (gm (e9 (cH K rfl hr.units) (aL (x:="len") (cU K rfl) rfl (B.at "len") cY (aa (pv 0) af)) (aL (x:="len") (cU K rfl) rfl (B.at "len") cY (aa (pv 1) af)) (aX _)) (gD (aL (x:="all") (nc K rfl rfl) rfl (B.at "all") oW (aa (ft (N:=["_law_one","_law_two"]) (js:=[none,none]) rfl rfl rfl (hW K rfl false false rfl (B.at "zip") (aa (pv 0) (aa (pv 1) af))) (fun _ _ _ _ _=>(cS K rfl (n:=2) rfl (bo (aQ (i:=0) (show List.Nodup (["_law_one","_law_two"]:List Str) by decide+kernel) rfl (Or.inl rfl)) (bo (aQ (i:=1) (show List.Nodup (["_law_one","_law_two"]:List Str) by decide+kernel) rfl (Or.inl rfl)) cR)))) (fun _ _ _ _ _=>eL) (fun _ _ _ _ _=>(mq ky (hr.mono (by omega)) rfl (aa (pv 0) (aa (pv 1) af))))) af))))))) bE) (ah (bj (cA (aL (x:="isinstance") (cT K rfl) rfl (B.at "isinstance") cZ (aa (pv 1) (aa (cL (x:="str") (v:=.ty "str") rfl (B.at "str") nH rfl) af)))) (ao (aG (gm (aL (x:="isinstance") (cT K rfl) rfl (B.at "isinstance") cZ (aa (pv 0) (aa (cL (x:="str") (v:=.ty "str") rfl (B.at "str") nH rfl) af))) (gD (e9 (cH K rfl hr.units) (pv 0) (pv 1) (aX _)))))) bE) (ao (aG (gm (mq zt (hr.mono (by omega)) rfl (aa (pv 0) af)) (gD (e9 (cH K rfl hr.units) (pv 0) (pv 1) (aX _)))))))),?_⟩
     obtain⟨va,xs,rfl,hV,gu⟩:=rv.dv;obtain⟨ua,ys,rfl,hU,mH⟩:=ru.dv;have lx:=gu.length;have ly:=mH.length;refine⟨_,rfl,bM _ (bR rfl),fun tt H1 n1=>.inr ⟨_,"tuple",tt,["list","tuple"],_,rfl,n1.at',.inr ⟨rfl,_,hU.go n1.same⟩,by decide,rfl,_,rfl,bF ?_⟩⟩;have s1:=n1.same;refine⟨_,rfl,.inl ⟨_,"tuple","list",_,rfl,.inr ⟨rfl,_,hU.go s1⟩,by decide,GR,_,rfl,.inl ⟨_,"tuple","list",_,rfl,.inr ⟨rfl,_,hV.go s1⟩,by decide,GR,.inr ⟨.bool false,.bool false,lD _,lD _,rfl,rfl,_,rfl,bf ?_⟩⟩⟩⟩;refine⟨_,rfl,.inl ⟨_,"tuple","tuple",_,rfl,.inr ⟨rfl,_,hU.go s1⟩,by decide,GQ,_,rfl,.inl ⟨_,"tuple","tuple",_,rfl,.inr ⟨rfl,_,hV.go s1⟩,by decide,GQ,.inr ⟨.bool true,.bool true,lD _,lD _,rfl,rfl,_,rfl,bf ?_⟩⟩⟩⟩;refine⟨_,rfl,va,_,rfl,.inr (hV.go s1),_,rfl,ua,_,rfl,.inr (hU.go s1),.inl ⟨_,_,rfl,rfl,_,rfl,?_⟩⟩;rw[cw (show(xs.length:Int)=(ys.length:Int) by omega)];refine bF ?_;refine⟨_,rfl,_,rfl,va,ua,rfl,⟨_,hV.go s1⟩,⟨_,hU.go s1⟩,fun D2 H2 n2=>?_⟩;refine NM (K:=K) (b1:=false) (b2:=false) (xs:=xs) (ys:=ys) (bs:=List.replicate ds.length true) _ rfl (hV.go s1) (hU.go s1) n2 (by rw[Ak];omega) (by rw[Ak];omega) ?_ ?_
     · intro q x y b H3 Q' ex ey eb s3 hq
       have F6:b=true:=by
        rw[Rf]at eb;split at eb
        ·exact(eG eb).symm
        ·cases eb
       subst F6;have cJ:=s1.trans s3;obtain⟨d1,e1,r1⟩:=gu.get' q ex;obtain⟨d2,e2,r2⟩:=mH.get' q ey;rw[e1]at e2;cases e2;exact⟨_,rfl,_,rfl,x,y,d1,rfl,RD.mono cJ _ r1,RD.mono cJ _ r2,hA d1 (g9 e1),fun H4 s4=>hq H4 s4⟩
     · intro H3 s3 d3
       refine⟨D2,_,rfl,aw.of d3,?_⟩;rw[Oh];exact k H3 (s1.trans s3)
   · refine⟨_,(ah (bj (cA (aL (x:="isinstance") (cT K rfl) rfl (B.at "isinstance") cZ (aa (pv 1) (aa (dH (aa (cL (x:="list") (v:=.ty "list") rfl (B.at "list") jv rfl) (aa (cL (x:="tuple") (v:=.ty "tuple") rfl (B.at "tuple") eU rfl) af))) af)))) (ah (bj (PW.pt (kn (bK (jj K rfl hr.units) (aL (x:="isinstance") (cT K rfl) rfl (B.at "isinstance") cZ (aa (pv 1) (aa (cL (x:="list") (v:=.ty "list") rfl (B.at "list") jv rfl) af))) (aL (x:="isinstance") (cT K rfl) rfl (B.at "isinstance") cZ (aa (pv 0) (aa (cL (x:="list") (v:=.ty "list") rfl (B.at "list") jv rfl) af))) (aX _)) (kl (bK (jj K rfl hr.units) (aL (x:="isinstance") (cT K rfl) rfl (B.at "isinstance") cZ (aa (pv 1) (aa (cL (x:="tuple") (v:=.ty "tuple") rfl (B.at "tuple") eU rfl) af))) (aL (x:="isinstance") (cT K rfl) rfl (B.at "isinstance") cZ (aa (pv 0) (aa (cL (x:="tuple") (v:=.ty "tuple") rfl (B.at "tuple") eU rfl) af))) (aX _))))) (ao (aG ie)) bE) (ao (aG (gm (e9 (cH K rfl hr.units) (aL (x:="len") (cU K rfl) rfl (B.at "len") cY (aa (pv 0) af)) (aL (x:="len") (cU K rfl) rfl (B.at "len") cY (aa (pv 1) af)) (aX _)) (gD (aL (x:="all") (nc K rfl rfl) rfl (B.at "all") oW (aa (ft (N:=["_law_one","_law_two"]) (js:=[none,none]) rfl rfl rfl (hW K rfl true true rfl (B.at "zip") (aa (pv 0) (aa (pv 1) af))) (fun _ _ _ _ _=>(cS K rfl (n:=2) rfl (bo (aQ (i:=0) (show List.Nodup (["_law_one","_law_two"]:List Str) by decide+kernel) rfl (Or.inl rfl)) (bo (aQ (i:=1) (show List.Nodup (["_law_one","_law_two"]:List Str) by decide+kernel) rfl (Or.inl rfl)) cR)))) (fun _ _ _ _ _=>eL) (fun _ _ _ _ _=>(mq ky (hr.mono (by omega)) rfl (aa (pv 0) (aa (pv 1) af))))) af))))))) bE) (ah (bj (cA (aL (x:="isinstance") (cT K rfl) rfl (B.at "isinstance") cZ (aa (pv 1) (aa (cL (x:="str") (v:=.ty "str") rfl (B.at "str") nH rfl) af)))) (ao (aG (gm (aL (x:="isinstance") (cT K rfl) rfl (B.at "isinstance") cZ (aa (pv 0) (aa (cL (x:="str") (v:=.ty "str") rfl (B.at "str") nH rfl) af))) (gD (e9 (cH K rfl hr.units) (pv 0) (pv 1) (aX _)))))) bE) (ao (aG (gm (mq zt (hr.mono (by omega)) rfl (aa (pv 0) af)) (gD (e9 (cH K rfl hr.units) (pv 0) (pv 1) (aX _)))))))),?_⟩
     obtain⟨va,xs,rfl,hV,gu⟩:=rv.lst_inv;obtain⟨ua,ys,rfl,hU,mH⟩:=ru.lst_inv;have lx:=gu.length;have ly:=mH.length;refine⟨_,rfl,bM _ (bR rfl),fun tt H1 n1=>.inr ⟨_,"list",tt,["list","tuple"],_,rfl,n1.at',.inl ⟨rfl,_,hU.go n1.same⟩,by decide,rfl,_,rfl,bF ?_⟩⟩;have s1:=n1.same;refine⟨_,rfl,.inl ⟨_,"list","list",_,rfl,.inl ⟨rfl,_,hU.go s1⟩,by decide,GU,_,rfl,.inl ⟨_,"list","list",_,rfl,.inl ⟨rfl,_,hV.go s1⟩,by decide,GU,.inr ⟨.bool true,.bool true,lD _,lD _,rfl,rfl,_,rfl,bf ?_⟩⟩⟩⟩;refine⟨_,rfl,.inl ⟨_,"list","tuple",_,rfl,.inl ⟨rfl,_,hU.go s1⟩,by decide,GS,_,rfl,.inl ⟨_,"list","tuple",_,rfl,.inl ⟨rfl,_,hV.go s1⟩,by decide,GS,.inr ⟨.bool false,.bool false,lD _,lD _,rfl,rfl,_,rfl,bf ?_⟩⟩⟩⟩;refine⟨_,rfl,va,_,rfl,.inl (hV.go s1),_,rfl,ua,_,rfl,.inl (hU.go s1),.inl ⟨_,_,rfl,rfl,_,rfl,?_⟩⟩;rw[cw (show(xs.length:Int)=(ys.length:Int) by omega)];refine bF ?_;refine⟨_,rfl,_,rfl,va,ua,rfl,⟨_,hV.go s1⟩,⟨_,hU.go s1⟩,fun D2 H2 n2=>?_⟩;refine NM (K:=K) (b1:=true) (b2:=true) (xs:=xs) (ys:=ys) (bs:=List.replicate ds.length true) _ rfl (hV.go s1) (hU.go s1) n2 (by rw[Ak];omega) (by rw[Ak];omega) ?_ ?_
     · intro q x y b H3 Q' ex ey eb s3 hq
       have F6:b=true:=by
        rw[Rf]at eb;split at eb
        ·exact(eG eb).symm
        ·cases eb
       subst F6;have cJ:=s1.trans s3;obtain⟨d1,e1,r1⟩:=gu.get' q ex;obtain⟨d2,e2,r2⟩:=mH.get' q ey;rw[e1]at e2;cases e2;exact⟨_,rfl,_,rfl,x,y,d1,rfl,RD.mono cJ _ r1,RD.mono cJ _ r2,hA d1 (g9 e1),fun H4 s4=>hq H4 s4⟩
     · intro H3 s3 d3
       refine⟨D2,_,rfl,aw.of d3,?_⟩;rw[Oh];exact k H3 (s1.trans s3)
end
end Lw
set_option maxHeartbeats 4000000
namespace Lw
open PySem PySem.Spec PyProof.Rows L2 Rt Ln Cn Pn Wk Rn
open Ow (topR cornO mnO betR atO ownF leadF ownL OkI OkIs)
section
variable {P:a5y}{w:World}{K:a5w}{mg:Str->Option Value}{base:Heap}
theorem sG{z:Str}{n:Nat}(h:SeqAt.shaped (.str z)=true):dk n (.str z):=⟨QP h,fV _⟩
theorem rM{z:Str}(h:z="step"\/z="wait"\/z="tool"\/z="mark"):SeqAt.shaped (.str z)=true:=by rcases h with rfl|rfl|rfl|rfl<;>decide+kernel
abbrev A0:a5z->Prop:=fun _=>False
theorem lJ{A:a5z->Prop}(z:Int):Nx A (.int z):=.inl (.inl ⟨z,rfl⟩)
theorem yG{A:a5z->Prop}{s:Str}{n:Nat}(hn:n<=8)(h:dk n (.str s)):Nx A (.str s):=.inl (.inr ⟨s,rfl,h.shaped (by omega),h.refl⟩)
theorem T9(ti:Int)(zs:List Int)(q:Rat)(hz:zs.length<=1000):Nx (Nx (Nx A0)) (m9 ti zs q):=by
 refine .inr ⟨_,.inl rfl,(by simp),fun x hx=>?_⟩;simp only[bW,da,dB]at hx;rcases hx with rfl|rfl|rfl|rfl
 ·exact yG (n:=0) (by decide) (sG (rM (.inl rfl)))
 · refine .inr ⟨_,.inl rfl,by rw[bS];omega,fun y hy=>?_⟩
   obtain⟨z,_,rfl⟩:=kb.mp hy;exact lJ z
 ·exact lJ _
 · refine .inr ⟨_,.inl rfl,(by simp),fun y hy=>?_⟩
   simp only[bW,da,dB]at hy;rcases hy with rfl|rfl<;>exact lJ _
theorem KN{d:a5z}(h:xb d):Nx (Nx (Nx A0)) d:=by
 rcases h with⟨n,rfl,_⟩|⟨w,s,rfl,hw,h,_⟩
 · refine .inr ⟨_,.inl rfl,(by simp),fun x hx=>?_⟩
   simp only[bW,da,dB]at hx;rcases hx with rfl|rfl
   ·exact yG (n:=0) (by decide) (sG (rM (.inr (.inl rfl))))
   ·exact lJ _
 · refine .inr ⟨_,.inl rfl,(by simp),fun x hx=>?_⟩
   simp only[bW,da,dB]at hx;rcases hx with rfl|rfl
   ·exact yG (n:=0) (by decide) (sG (rM (.inr (.inr hw))))
   ·exact yG (by decide) h
theorem YL{n:Nat}{ns:List Int}{sp:Int}(h:dN n 100 ns)(hn:n<=1000):Nx (Nx (Nx A0)) (fy ns sp):=by
 refine .inr ⟨_,.inl rfl,(by simp),fun x hx=>?_⟩;simp only[bW,da,dB]at hx;rcases hx with rfl|rfl|rfl
 ·exact .inl (.inr ⟨_,rfl,sY,by decide+kernel⟩)
 · refine .inr ⟨_,.inl rfl,by rw[bS,h.len];omega,fun y hy=>?_⟩
   obtain⟨z,_,rfl⟩:=kb.mp hy;exact lJ z
 ·exact lJ _
theorem Ux{n:Nat}{ds:List a5z}{os:List Itm}(h:fR n ds os)(hw:RowW ds os)(hn:n<=1000)(hl:ds.length<=1000):Nx (Nx (Nx (Nx A0))) (.list ds):=by refine .inr ⟨_,.inr rfl,by omega,fun x hx=>?_⟩;obtain⟨i,hi⟩:=uw.mp hx;obtain⟨o,eo,it⟩:=h.get hi;cases o with |none=>exact KN (hw i x eo hi) |some z=>obtain⟨ns,sp⟩:=z;rw[jL it];exact YL (h.ok i ns sp eo).1 hn
theorem Vv{pl:List Int}(h:pl.length<=1000):Nx (Nx (Nx (Nx A0))) (fj pl):=by refine .inr ⟨_,.inl rfl,by rw[bS];omega,fun y hy=>?_⟩;obtain⟨z,_,rfl⟩:=kb.mp hy;exact lJ z
theorem UY(q:Rat):Nx (Nx (Nx (Nx A0))) (cD q):=by refine .inr ⟨_,.inl rfl,(by simp),fun y hy=>?_⟩;simp only[bW,da,dB]at hy;rcases hy with rfl|rfl<;>exact lJ _
theorem a3i{a:Addr}{xs:List V}{bs:List Bool}{te:TE}{Q:VK}{D:Addr}{H H0:Hp}{n:Nat}(Pr:V->V->Prop)(rest:L2.St)(hn:n=2)(hx:aw K H a xs)(nw:Nw H H0 D (.lst []))(hl:xs.length=bs.length)(hz:xs.length<=1000) (hp:∀(i:Nat)(x:V),xs[i]? =some x->∃p y z,x= .ref p/\aB K H p [y,z]/\Pr y z) (hs:∀(i:Nat)(y z:V)(b:Bool)(H2:Hp)(Q':VK),Pr y z->bs[i]? =some b->ai H H2->(∀H3,ai H2 H3->Q' (.bl b) H3)->te (some y::some z::rest) H2 Q') (hq:∀H',ai H H'->H' D=some (.lst (bs.map V.bl))->Q (.ref D) H'):iz (uh K a) (mT K n (j0 (eQ 0) (j0 (eQ 1) oC))) gJ te Q D (none::none::rest) H0:=by
  subst hn;have hD:=nw.no;refine oJ xs.length (fun i σ H2=>ai H H2/\H2 D=some (.lst ((bs.take i).map V.bl))/\∃v v',σ=v::v'::rest) ?_ ?_ ?_
  ·exact⟨nw.same,nw.at',none,none,rfl⟩
  · rintro i σ H2 hi ⟨s2,d2,v,v',rfl⟩
    have mO:i<bs.length:=by rw[<-hl];exact hi
    have ex:=bO hi;have eb:=bO mO;refine⟨⟨xs,_,hx.go s2,ex⟩,fun y' H3 iY=>?_⟩;obtain⟨rfl,k1⟩:=iY;have e1:=k1 _ (hx.go s2);rw[ex]at e1;cases e1;obtain⟨p,y,z,ep,ZX,pr⟩:=hp i _ ex;rw[ep]at ex⊢;refine⟨p,_,rfl,ZX.go s2,rfl,_,_,rfl,_,_,rfl,rfl,?_⟩;refine yes (bF ?_);refine hs i y z _ _ _ pr eb s2 fun H4 s4=>?_;refine⟨_,s4 _ _ d2,?_,xs.length-(i+1),by omega,rfl,by omega,fun b o e=>?_,?_,_,_,rfl⟩
    · rw[bS,m4]
      have:(1000:Nat)<sizeLine:=by decide
      omega
    ·rw[az (fw e hD)];exact s4 b o (s2 b o e)
    ·rw[aO,nK,eb,m3];rfl
  · rintro σ H2 ⟨s2,d2,v,v',rfl⟩
    refine⟨⟨xs,hx.go s2,bp _⟩,hq H2 s2 ?_⟩;rw[d2,hl,uv]
def A5(es:List a5z):Prop:=SeqAt.shaped (.list es)=true/\PyData.eqv (.list es) (.list es)=true/\cm es=true
def Om(K:a5w)(H:Hp)(td:Addr):Prop:=∃ts,H td=some (.lst ts)/\ts.length<=100/\∀t∈ts,∃p l ta us es,t=V.ref p/\aB K H p [.ref l,.ref ta]/\H l=some (.lst us)/\aB K H ta us/\ay K H us es/\A5 es
inductive Pe(K:a5w)(C:Addr)(vs:List V)(H:Hp)(Q:VK):Prop |mk (a:_)(q:_)(d:_)(qd:_)(td:_)(M:_)(D:_)(S:_)(h0:vs=[.ref a,.ref d])(h1:cn K C H a q M S)(h2:dh K H d qd td M S)(h3:bQ M D S)(h4:M.Ok)(h5:Om K H td)(h6:∀H',ai H H'->Q (.bl true) H'):Pe K C vs H Q
def AN(K:a5w)(C:Addr):Sp:=fun vs H Q _=>Pe K C vs H Q
abbrev Bu:Stmt:=top 88
theorem J1:bc ["_law_runner","_law_sim_here","_law_found"] ["_law_runner","_law_sim_here"] (aM Bu):=bh (by decide+kernel)
theorem WY{C:Addr}(F:FA K mg "_law_right" Bu)(B:bB mg)(TC:fM K C)(ky:aj P w K mg base "_law_alike" 5 (uO (Nx (Nx (Nx (Nx A0)))) K))(a1e:cI P w K mg base C "waiting" 1 (fO K C fun _ S H Q=>∀l ys H',H l=none->H' l=some (.lst ys)->ay K H' ys S.ds->ai H H'->Q (.ref l) H'))(a1j:cI P w K mg base C "place" 3 (fO K C fun _ S H Q=>∀v H',RD K H' v (fj (dZ S))->ai H H'->Q v H'))(a1i:cI P w K mg base C "square" 1 (fO K C (MT K)))(qC:cI P w K mg base C "is_held" 1 (fO K C fun _ S H Q=>Q (.bl S.stp.isSome) H)):aj P w K mg base "_law_right" 6 (AN K C):=by
 refine F.has J1 (fun vs H Q E h=>?_) (fun _ _ _ _ _ _=>cP fun _ _=>rfl) (fun fa aD A outer s H vs Q E hr h=>?_)
 · obtain⟨a,q,d,qd,td,M,D,S,rfl,_⟩:=h
   rfl
 · obtain⟨a,q,d,qd,td,M,D,S,rfl,R,Z,ok,aE,T,k⟩:=h
   have nd:=J1.nd;have no:=ok.row.no;have DW:=ok.len;have yS:=aE.len;obtain⟨dx,vM,wO,bV,tv,e,q1,q2,q3,q4⟩:=R.ob;obtain⟨mv,lv,gv,sv,bv,cv,rv,ez,r1,r2,r3,r4,r5,r6⟩:=Z.ob;obtain⟨ys,eq,rq⟩:=Z.qu;obtain⟨ts,et,lt,ht⟩:=T;refine⟨_,(ah (aH (i:=2) nd rfl (Or.inl rfl) (iE a1e TC.cl (hr.mono (by decide)) (pv 0))) (ah (bj (PW.pt (kn (dX (cA (pf ky hr (aa (pv 2) (aa (cu (bu hr.units) (pv 1) aU (fun _ _=>rfl)) af))))) (kl (dX (cA (pf ky hr (aa (iE a1j TC.cl (hr.mono (by decide)) (pv 0)) (aa (cu (bu hr.units) (pv 1) aU (fun _ _=>rfl)) af)))))))) (ao (aG ie)) bE) (ah (fP (VN K rfl (pv 2))) (ah (fP (iX K rfl (pv 2) (aa (dH (aa aU (aa ag af))) af))) (ah (bj (cA (aL (x:="any") (Of K rfl rfl) rfl (B.at "any") QX (aa (ft (N:=["_law_one","_law_kept"]) (js:=[none,none]) rfl rfl rfl (yu K rfl (cu (bu hr.units) (pv 1) aU (fun _ _=>rfl))) (fun _ _ _ _ _=>(cS K rfl (n:=2) rfl (bo (aQ (i:=0) (show List.Nodup (["_law_one","_law_kept"]:List Str) by decide+kernel) rfl (Or.inl rfl)) (bo (aQ (i:=1) (show List.Nodup (["_law_one","_law_kept"]:List Str) by decide+kernel) rfl (Or.inl rfl)) cR)))) (fun _ _ _ _ _=>eL) (fun _ _ _ _ _=>(e9 (jj K rfl hr.units) (pv 0) (gk (x:="list") (DQ K rfl) rfl (B.at "list") jv (aa (pv 1) af)) (aX _)))) af))) (ao (aG ie)) bE) (ao (aG (gm (pf ky hr (aa (iE a1i TC.cl (hr.mono (by decide)) (pv 0)) (aa (cu (bu hr.units) (pv 1) aU (fun _ _=>rfl)) af))) (gD (e9 (cH K rfl hr.units) (iE qC TC.cl (hr.mono (by decide)) (pv 0)) (e9 vo (cu (bu hr.units) (pv 1) aU (fun _ _=>rfl)) iD (aX _)) (aX _))))))))))),?_⟩;refine⟨_,rfl,a,dx,_,rfl,e,rfl,a,q,M,D,S,rfl,R,ok,aE,fun l zs H1 nl dl rl s1=>?_⟩;refine⟨_,rfl,_,rfl,d,_,rfl,dg (s1 _ _ ez) jT,.ref l,.ref qd,.list S.ds,rfl,nY (aw.of dl) rl,nY (aw.of (s1 _ _ eq)) (ay.mono s1 _ rq),Ux ok.row ok.rw (by omega) (by omega),fun H2 s2=>?_⟩;have iV:=s1.trans s2;refine⟨_,rfl,bf ?_⟩;refine⟨_,rfl,a,dx,_,rfl,iV _ _ e,rfl,a,q,M,D,S,rfl,R.same no iV,ok,aE,fun mm H3 rp s3=>?_⟩;have cJ:=iV.trans s3;refine⟨_,rfl,d,_,rfl,dg (cJ _ _ ez) MR,mm,lv,fj (dZ S),rfl,rp,RD.mono cJ _ r2,Vv (by rw[Kp ok];omega),fun H4 s4=>?_⟩;refine⟨_,rfl,bf ?_⟩;have gY:=cJ.trans s4;have gW:=(s2.trans (s3.trans s4)) _ _ dl;refine⟨_,rfl,.inl ⟨rfl,_,aw.of gW⟩,l,zs,rfl,rfl,gW,?_⟩;have kz:sizeLine=16777216:=by decide
   have lz:=rl.length;refine⟨_,rfl,.inl ⟨rfl,_,aw.of aO⟩,bM _ (bR rfl),fun t6 H6 n6=>?_⟩;have dl6:=n6.same _ _ (aO (H:=H4) (a:=l) (o:=.lst zs.reverse));refine⟨l,_,_,rfl,rfl,dl6,by rw[List.length_reverse];omega,?_⟩;have pN:ai H (L2.upd H6 l (.lst (zs.reverse++[.ref t6]))):=fun b o' eb=>by
    have hb:b≠l:=fun z=>by rw[z,nl]at eb;cases eb
    rw[az hb];exact n6.same _ _ (by rw[az hb];exact gY _ _ eb)
   generalize L2.upd H6 l (.lst (zs.reverse++[.ref t6]))=H7 at pN⊢;refine⟨_,rfl,d,_,rfl,dg (pN _ _ ez) MO,td,rfl,⟨_,aw.of (pN _ _ et)⟩,fun D1 H8 n8=>?_⟩;refine a3i (K:=K) (bs:=ts.map fun _=>false) (fun y z=>∃l ta us es,y= .ref l/\z= .ref ta/\H l=some (.lst us)/\aB K H ta us/\ay K H us es/\A5 es) [] rfl (aw.of (pN _ _ et)) n8 (by rw[bS]) (by omega) (fun i x ex=>?_) (fun i y z b H9 Q' pr eb s9 kq=>?_) fun H9 s9 d9=>?_
   · obtain⟨p,l',ta,us,es,rfl,hp,h1,h2,h3,h4⟩:=ht x (g9 ex)
     exact⟨p,_,_,rfl,hp.go pN,l',ta,us,es,rfl,rfl,h1,h2,h3,h4⟩
   · obtain⟨l',ta,us,es,rfl,rfl,dw,tD,res,F2⟩:=pr
     have lC:=pN.trans s9;have eb:b=false:=by rw[bU]at eb;cases h:ts[i]? with |none=>rw[h]at eb;cases eb |some c=>rw[h]at eb;cases eb;rfl
     subst eb;refine⟨_,rfl,_,rfl,ta,us,rfl,.inr (tD.go lC),fun l2 HA nA=>?_⟩;refine .inr ⟨.list es,.list es,nY (aw.of (nA.same _ _ (lC _ _ dw))) (ay.mono (lC.trans nA.same) _ res),nY (aw.of nA.at') (ay.mono (lC.trans nA.same) _ res),F2.1,F2.1,?_⟩;rw[F2.2.1];exact kq _ nA.same
   · refine⟨D1,_,rfl,aw.of d9,_,rfl,?_⟩
     have ef:(ts.map fun _=>false).any id=false:=by rw[List.any_map,List.any_eq_false];simp
     rw[ef];refine bf ?_;have lC:=pN.trans s9;refine⟨_,rfl,a,dx,_,rfl,lC _ _ e,rfl,a,q,M,D,S,rfl,R.same no lC,ok,aE,fun v cx=>?_⟩;refine⟨_,rfl,d,_,rfl,dg (lC _ _ ez) tQ,v,sv,cD S.pc,rfl,cx.rd,(r4.go lC).rd,UY _,fun HA sA=>?_⟩;have yh:=lC.trans sA;refine⟨_,rfl,bF ?_⟩;refine⟨_,rfl,a,dx,_,rfl,yh _ _ e,rfl,a,q,M,D,S,rfl,R.same no yh,ok,aE,?_⟩;refine⟨_,rfl,d,_,rfl,dg (yh _ _ ez) wC,rfl,?_⟩;have eB:(!decide (bv= .aW))=S.stp.isSome:=by cases hs:S.stp with |none=>rw[hs]at r5;rw[r5.1];rfl |some z=>obtain⟨sq,st,gn⟩:=z;rw[hs]at r5;obtain⟨ta,su,rfl,_⟩:=r5;rfl
     refine .inr ⟨.bool _,.bool _,lD _,lD _,rfl,rfl,?_⟩;rw[eB];have:PyData.eqv (.bool S.stp.isSome) (.bool S.stp.isSome)=true:=by cases S.stp.isSome<;>rfl
     rw[this];exact k _ yh
structure Ad where
 a:Addr
 q:Addr
 d:Addr
 e:Addr
 t:Addr
def Ad.all(x:Ad):List Addr:=[x.a,x.q,x.d,x.e,x.t]
def nj(K:a5w)(H:Hp)(td:Addr)(n:Nat)(X:Addr->Prop):Prop:=∃ts,H td=some (.lst ts)/\ts.length<=n/\∀t∈ts,∃p l ta us es,t=V.ref p/\aB K H p [.ref l,.ref ta]/\H l=some (.lst us)/\aB K H ta us/\ay K H us es/\A5 es/\¬X l
theorem nj.at{H:Hp}{td:Addr}{n:Nat}{X:Addr->Prop}(h:nj K H td n X)(hn:n<=100):Om K H td:=by obtain⟨ts,e,l,ht⟩:=h;refine⟨ts,e,by omega,fun t m=>?_⟩;obtain⟨p,l,ta,us,es,h1,h2,h3,h4,h5,h6,_⟩:=ht t m;exact⟨p,l,ta,us,es,h1,h2,h3,h4,h5,h6⟩
theorem nj.go{H H':Hp}{td:Addr}{n m:Nat}{X X':Addr->Prop}(h:nj K H td n X)(hm:n<=m)(s:bG H H')(et:∀o,H td=some o->H' td=some o)(hl:∀l us,¬X l->H l=some (.lst us)->H' l=some (.lst us)/\¬X' l):nj K H' td m X':=by obtain⟨ts,e,l,ht⟩:=h;refine⟨ts,et _ e,by omega,fun t m=>?_⟩;obtain⟨p,l,ta,us,es,h1,h2,h3,h4,h5,h6,h7⟩:=ht t m;obtain⟨g1,g2⟩:=hl l us h7 h3;exact⟨p,l,ta,us,es,h1,aB.v s h2,g1,aB.v s h4,ay.v s _ h6.2.2 h5,h6,g2⟩
structure kR(K:a5w)(C:Addr)(H:Hp)(M:bw)(n:Nat)(A:Nat->Ad)(S:Nat->aZ):Prop where
 run:∀i,i<2->cn K C H (A i).a (A i).q M (S i)
 sim:∀i,i<2->dh K H (A i).d (A i).e (A i).t M (S i)
 ok:∀i,i<2->bQ M (64+10*n) (S i)
 told:∀i,i<2->nj K H (A i).t n (fun l=>∃j,j<2/\l∈(A j).all)
 nd:∀i,i<2->(A i).all.Nodup
 dj:∀i j,i<2->j<2->i≠j->∀x∈(A i).all,x∉(A j).all
theorem kR.same{C:Addr}{H H':Hp}{M:bw}{n:Nat}{A:Nat->Ad}{S:Nat->aZ}(h:kR K C H M n A S)(s:ai H H'):kR K C H' M n A S:=⟨fun i hi=>(h.run i hi).same (h.ok i hi).row.no s,fun i hi=>(h.sim i hi).same (h.ok i hi).row.no s,h.ok,fun i hi=>(h.told i hi).go (bp _) s.v (fun o e=>s _ _ e) fun l us hx e=>⟨s _ _ e,hx⟩,h.nd,h.dj⟩
theorem bQ.mono{M:bw}{D D':Nat}{S:aZ}(h:bQ M D S)(h1:D<=D')(h2:D'<=1500):bQ M D' S:=by refine⟨h.row,h.rw,h.len,h.rt1,h.rt2,h.dn,h.pl,h.pd.mono (by omega),h.pm,?_,by have:=h.D1;omega,h2⟩;have:=h.stp;cases hs:S.stp with |none=>trivial |some z=>obtain⟨sq,st,gn⟩:=z;rw[hs]at this;obtain⟨g0,g1,g2,hd,hl,hz,hh⟩:=this;exact⟨g0,g1,g2,hd.mono h1,hl,hz,hh⟩
theorem kR.here{C:Addr}{H:Hp}{M:bw}{n:Nat}{A:Nat->Ad}{S:Nat->aZ}(h:kR K C H M n A S){i:Nat}(hi:i<2):∀x∈(A i).all,H x≠none:=by
 intro x hx;obtain⟨dx,vM,wO,bV,tv,e,_⟩:=(h.run i hi).ob;obtain⟨zs,eq,_⟩:=(h.run i hi).qu;obtain⟨mv,lv,gv,sv,bv,cv,rv,ez,_⟩:=(h.sim i hi).ob;obtain⟨ys,ee,_⟩:=(h.sim i hi).qu;obtain⟨ts,et,_⟩:=h.told i hi;simp only[Ad.all,bW,da,dB]at hx;rcases hx with rfl|rfl|rfl|rfl|rfl
 ·rw[e];simp
 ·rw[eq];simp
 ·rw[ez];simp
 ·rw[ee];simp
 ·rw[et];simp
theorem kR.v{C:Addr}{H H':Hp}{M:bw}{n:Nat}{A:Nat->Ad}{S:Nat->aZ}(h:kR K C H M n A S){i:Nat}(hi:i<2)(b:bI (A i).all H H'):bG H H':=by
 obtain⟨dx,vM,wO,bV,tv,e,_⟩:=(h.run i hi).ob;obtain⟨zs,eq,_⟩:=(h.run i hi).qu;obtain⟨mv,lv,gv,sv,bv,cv,rv,ez,_⟩:=(h.sim i hi).ob;obtain⟨ys,ee,_⟩:=(h.sim i hi).qu;obtain⟨ts,et,_⟩:=h.told i hi;refine b.v fun x hx o eo=>?_;simp only[Ad.all,bW,da,dB]at hx;rcases hx with rfl|rfl|rfl|rfl|rfl
 ·rw[e]at eo;cases eo;trivial
 ·rw[eq]at eo;cases eo;trivial
 ·rw[ez]at eo;cases eo;trivial
 ·rw[ee]at eo;cases eo;trivial
 ·rw[et]at eo;cases eo;trivial
def kj{α:Type}(f:Nat->α)(i:Nat)(x:α):Nat->α:=fun j=>if j=i then x else f j
theorem jD{α:Type}{f:Nat->α}{i:Nat}{x:α}:kj f i x i=x:=aP rfl
theorem jg{α:Type}{f:Nat->α}{i j:Nat}{x:α}(h:j≠i):kj f i x j=f j:=aV h
theorem kR.upd{C:Addr}{H H':Hp}{M:bw}{n:Nat}{A:Nat->Ad}{S:Nat->aZ}(h:kR K C H M n A S){i:Nat}(hi:i<2)(q':Addr)(S':aZ)(b:bI (A i).all H H')(nq:q'=(A i).q\/H q'=none) (R:cn K C H' (A i).a q' M S')(Z:dh K H' (A i).d (A i).e (A i).t M S')(ok:bQ M (64+10*(n+1)) S')(hn:n<=100) (T:nj K H' (A i).t (n+1) (fun l=>(∃j,j<2/\l∈(A j).all)\/l=q'))(hq:q'≠(A i).t/\q'≠(A i).e):kR K C H' M (n+1) (kj A i {A i with q:=q'}) (kj S i S'):=by
  have sv:=h.v hi b;have eo:∀j,j<2->j≠i->∀x∈(A j).all,∀o,H x=some o->H' x=some o:=fun j hj cy x hx o e=>b x o e (h.dj j i hj hi cy x hx);have XX:∀j,j<2->q'∈(A j).all->q'=(A i).q:=fun j hj m=>nq.elim id fun z=>absurd z (h.here hj _ m);refine⟨fun j hj=>?_,fun j hj=>?_,fun j hj=>?_,fun j hj=>?_,fun j hj=>?_,?_⟩
  · by_cases c:j=i
    ·subst c;rw[jD,jD];exact R
    · rw[jg c,jg c]
      exact(h.run j hj).go (h.ok j hj).row.no sv (fun o e=>eo j hj c _ (by simp[Ad.all]) o e) (fun o e=>eo j hj c _ (by simp[Ad.all]) o e)
  · by_cases c:j=i
    ·subst c;rw[jD,jD];exact Z
    · rw[jg c,jg c]
      exact(h.sim j hj).go (h.ok j hj).row.no sv (fun o e=>eo j hj c _ (by simp[Ad.all]) o e) (fun o e=>eo j hj c _ (by simp[Ad.all]) o e)
  · by_cases c:j=i
    ·subst c;rw[jD];exact ok
    ·rw[jg c];exact(h.ok j hj).mono (by omega) (by omega)
  · have nx:∀l,¬((∃j,j<2/\l∈(A j).all)\/l=q')->¬∃j,j<2/\l∈(kj A i {A i with q:=q'} j).all:=by
      rintro l hx ⟨m,hm,hl⟩;by_cases c:m=i
      · subst c
        rw[jD]at hl;simp only[Ad.all,bW,da,dB]at hl;rcases hl with z|z|z|z|z
        ·exact hx (.inl ⟨m,hm,by rw[z];simp[Ad.all]⟩)
        ·exact hx (.inr z)
        ·exact hx (.inl ⟨m,hm,by rw[z];simp[Ad.all]⟩)
        ·exact hx (.inl ⟨m,hm,by rw[z];simp[Ad.all]⟩)
        ·exact hx (.inl ⟨m,hm,by rw[z];simp[Ad.all]⟩)
      · rw[jg c]at hl
        exact hx (.inl ⟨m,hm,hl⟩)
    by_cases c:j=i
    · subst c;rw[jD]
      exact T.go (bp _) (fun _ _ _ e=>e) (fun _ e=>e) fun l us hx e=>⟨e,nx l hx⟩
    · rw[jg c]
      refine(h.told j hj).go (by omega) sv (fun o e=>eo j hj c _ (by simp[Ad.all]) o e) fun l us hx e=>⟨b l _ e fun m=>hx ⟨i,hi,m⟩,nx l fun z=>z.elim hx fun z=>?_⟩;rcases nq with z2|z2
      ·exact hx ⟨i,hi,by rw[z,z2];simp[Ad.all]⟩
      ·rw[<-z,e]at z2;cases z2
  · by_cases c:j=i
    · subst c;rw[jD]
      have:=h.nd j hj;have e1:=R.ne;have e2:q'≠(A j).d:=fun z=>by obtain⟨mv,lv,gv,sv,bv,cv,rv,ez,_⟩:=Z.ob;obtain⟨zs,eq,_⟩:=R.qu;rw[z,ez]at eq;cases eq
      simp only[Ad.all,nL,bW,da,dB,not_or]at this⊢;obtain⟨⟨t1,t2,t3,t4⟩,⟨t5,t6,t7⟩,t8⟩:=this;exact⟨⟨e1,t2,t3,t4⟩,⟨e2,hq.2,hq.1⟩,t8⟩
    ·rw[jg c];exact h.nd j hj
  · have key:∀j,j<2->j≠i->∀x,x∈(A j).all->x∉({A i with q:=q'}:Ad).all:=fun j hj cy x hx m=>by
      have h0:=h.dj j i hj hi cy x hx;have:x∈(A i).all\/x=q':=by simp only[Ad.all,bW,da,dB]at m⊢;rcases m with z|z|z|z|z<;>simp[z]
      rcases this with z|z
      ·exact h0 z
      · rw[z]at hx h0
        rw[XX j hj hx]at h0;exact h0 (by simp[Ad.all])
    intro j m hj hm cy x hx;by_cases c1:j=i
    · subst c1
      rw[jD]at hx;rw[jg (cC cy)];exact fun z=>key m hm (cC cy) x z hx
    · rw[jg c1]at hx
      by_cases c2:m=i
      · subst c2
        rw[jD];exact key j hj c1 x hx
      · rw[jg c2]
        exact h.dj j m hj hm cy x hx
theorem Zr{c:TT}{ta tb:TS}{D:Ends}{σ:L2.St}{H:Hp}(hb:tb D σ H)(h:tb D σ H->pC c ta tb D σ H):pC c ta tb D σ H:=h hb
theorem Zs{c:TT}{ta tb:TS}{D:Ends}{σ:L2.St}{H:Hp}(p:Prop)(ha:p->ta D σ H)(hb:tb D σ H)(h:(p->ta D σ H)->tb D σ H->pC c ta tb D σ H):pC c ta tb D σ H:=h ha hb
theorem a03(M:bw)(S:aZ):cG (iO M S)=cG S:=by unfold iO;split<;>rfl
theorem One.goal{M:bw}{D:Nat}{S S1:aZ}{e:a5z}(ok:bQ M D S)(o:One M S e S1):cG S1=cG S:=by cases o with |line eo nh=>exact MJ eo |ij eo ed nh=>obtain⟨_,_,_,_,h⟩:=KL (d:=e) ok eo;exact h
theorem Run.goal{M:bw}{D:Nat}{S S1:aZ}{es:List a5z}(ok:bQ M D S)(aE:M.Ok)(r:Run M S es S1):cG S1=cG S:=by induction r with |nil=>rfl |cons o _ ih=>rw[ih (One.ok ok aE o),o.goal ok]
theorem One.det{M:bw}{S S1 S2:aZ}{e f:a5z}(h:One M S e S1)(g:One M S f S2):e=f/\S1=S2:=by cases h with
 |line h1 _=>cases g with |line g1 _=>rw[h1]at g1;cases g1;exact⟨rfl,rfl⟩ |ij g1 _ _=>rw[h1]at g1;cases g1
 |ij h1 h2 _=>cases g with |line g1 _=>rw[h1]at g1;cases g1 |ij g1 g2 _=>rw[h2]at g2;cases g2;exact⟨rfl,rfl⟩
theorem One.go{M:bw}{S S1:aZ}{e:a5z}(h:One M S e S1):¬(S.os=[]\/Halt S.pc S.stp):=by
 rintro(z|z)
 ·cases h with |line h1 _=>rw[z]at h1;simp at h1 |ij h1 _ _=>rw[z]at h1;simp at h1
 ·cases h with |line _ nh=>exact nh z |ij _ _ nh=>exact nh z
theorem Run.a31{M:bw}{S S1 S2:aZ}{es fs:List a5z}(h:Run M S es S1){n:Int}(l1:(es.length:Int)<=n)(c1:(es.length:Int)=n\/S1.os=[]\/Halt S1.pc S1.stp)(g:Run M S fs S2)(l2:(fs.length:Int)<=n)(c2:(fs.length:Int)=n\/S2.os=[]\/Halt S2.pc S2.stp):es=fs/\S1=S2:=by induction h generalizing fs n with
 |nil=>cases g with |nil=>exact⟨rfl,rfl⟩ |cons o r=>
     rcases c1 with z|z
     ·simp only[jw,Gm]at z l2;omega
     ·exact(o.go z).elim
 |cons o r ih=>cases g with
   |nil=>
     rcases c2 with z|z
     ·simp only[jw,Gm]at z l1;omega
     ·exact(o.go z).elim |cons o2 r2=>obtain⟨e,z⟩:=o.det o2;subst e z;simp only[jw]at l1 c1 l2 c2;obtain⟨e1,e2⟩:=ih (n:=n-1) (by omega) (c1.imp (fun h=>by omega) id) r2 (by omega) (c2.imp (fun h=>by omega) id);exact⟨by rw[e1],e2⟩
theorem T8(ti:Int)(zs:List Int)(q:Rat):dk 2 (m9 ti zs q):=by refine fS.tup (.cons (sG (rM (.inl rfl))) (.cons (fS.tup fun d hd=>?_) (.cons (.int _) (.cons (fS.tup (.cons (.int _) (.cons (.int _) .nil))) .nil))));obtain⟨a,_,rfl⟩:=kb.mp hd;exact .int _
theorem W6{d:a5z}(h:xb d):dk 2 d:=by
 rcases h with⟨n,rfl,_⟩|⟨w,s,rfl,hw,h,_⟩
 ·exact fS.tup (.cons (sG (rM (.inr (.inl rfl)))) (.cons (.int _) .nil))
 ·exact fS.tup (.cons (sG (rM (.inr (.inr hw)))) (.cons (h.le (by decide)) .nil))
theorem Run.ent{M:bw}{D:Nat}{S S1:aZ}{es:List a5z}(ok:bQ M D S)(aE:M.Ok)(r:Run M S es S1):∀d∈es,dk 2 d/\Nx (Nx (Nx A0)) d:=by induction r with |nil=>exact nofun |@cons S S1 S2 e es o r ih=>
   intro d hd;rcases bW.mp hd with rfl|hd
   ·cases o with |@line ns sp eo nh=>refine⟨T8 _ _ _,T9 _ _ _ ?_⟩;have h1:=(ok.row.ok 0 ns sp eo).1.len;have h2:=aE.len;simp only[gf,bS];omega |ij eo ed nh=>have:=ok.rw 0 d eo ed;exact⟨W6 this,KN this⟩
   ·exact ih (One.ok ok aE o) d hd
theorem a2q{es:List a5z}(h:∀d∈es,dk 2 d)(hn:cm es=true):A5 es:=by have:dk 3 (.list es):=fS.lst h;exact⟨this.shaped (by decide),this.refl,hn⟩
structure fZ(K:a5w)(C:Addr)(a lr ls:Addr)(mv:V)(iC:List Int)(M:bw)(H:Hp)(n:Nat)(A:Nat->Ad)(S:Nat->aZ):Prop where
 two:kR K C H M n A S
 hr:H lr=some (.lst [.ref (A 0).a,.ref (A 1).a])
 hs:H ls=some (.lst [.ref (A 0).d,.ref (A 1).d])
 sc:(∀H2,aw K H2 a (iC.map V.int))\/((∃o,H a=some o)/\aw K H a (iC.map V.int)/\∀j,j<2->a∉(A j).all)
 rm:RD K H mv M.D
 on:∀i,i<2->j7 M.rs (cG (S i))
 nx:∀y,y=lr\/y=ls->∀j,j<2->y∉(A j).all
section
variable {C a lr ls:Addr}{mv:V}{iC:List Int}{M:bw}{H H':Hp}{n:Nat}{A:Nat->Ad}{S:Nat->aZ}
theorem fZ.same(h:fZ K C a lr ls mv iC M H n A S)(s:ai H H'):fZ K C a lr ls mv iC M H' n A S:=⟨h.two.same s,s _ _ h.hr,s _ _ h.hs,h.sc.imp id fun⟨⟨o,e⟩,h1,h2⟩=>⟨⟨o,s _ _ e⟩,s.seq h1,h2⟩,RD.mono s _ h.rm,h.on,h.nx⟩
theorem fZ.upd(h:fZ K C a lr ls mv iC M H n A S){i:Nat}(hi:i<2)(q':Addr)(S':aZ)(b:bI (A i).all H H')(nq:q'=(A i).q\/H q'=none) (R:cn K C H' (A i).a q' M S')(Z:dh K H' (A i).d (A i).e (A i).t M S')(ok:bQ M (64+10*(n+1)) S')(hn:n<=100) (T:nj K H' (A i).t (n+1) (fun l=>(∃j,j<2/\l∈(A j).all)\/l=q'))(hq:q'≠(A i).t/\q'≠(A i).e)(on:j7 M.rs (cG S')):fZ K C a lr ls mv iC M H' (n+1) (kj A i {A i with q:=q'}) (kj S i S'):=by
  have eA:∀j,(kj A i {A i with q:=q'} j).a=(A j).a/\(kj A i {A i with q:=q'} j).d=(A j).d:=fun j=>by
   by_cases c:j=i
   ·subst c;rw[jD];exact⟨rfl,rfl⟩
   ·rw[jg c];exact⟨rfl,rfl⟩
  have out:∀y o,H y=some o->(∀j,j<2->y∉(A j).all)->∀j,j<2->y∉(kj A i {A i with q:=q'} j).all:=fun y o ey hy j hj m=>by
   by_cases c:j=i
   · subst c
     rw[jD]at m;have:y∈(A j).all\/y=q':=by simp only[Ad.all,bW,da,dB]at m⊢;rcases m with z|z|z|z|z<;>simp[z]
     rcases this with z|z
     ·exact hy j hj z
     · rcases nq with z2|z2
       ·exact hy j hj (by rw[z,z2];simp[Ad.all])
       ·rw[<-z,ey]at z2;cases z2
   · rw[jg c]at m
     exact hy j hj m
  refine⟨h.two.upd hi q' S' b nq R Z ok hn T hq,?_,?_,?_,RD.v (h.two.v hi b) _ (gP _ _ _ _ _) h.rm,fun j hj=>?_,fun y hy j hj m=>?_⟩
  ·rw[(eA 0).1,(eA 1).1];exact b _ _ h.hr (h.nx _ (.inl rfl) i hi)
  ·rw[(eA 0).2,(eA 1).2];exact b _ _ h.hs (h.nx _ (.inr rfl) i hi)
  · rcases h.sc with h1|⟨⟨o,e⟩,h1,h2⟩
    ·exact .inl h1
    · have e':=b _ _ e (h2 i hi)
      refine .inr ⟨⟨o,e'⟩,h1.imp (fun r=>r.imp (fun z=>?_) fun⟨o',z⟩=>?_) id,out a o e h2⟩
      ·exact b _ _ z (h2 i hi)
      ·exact⟨o',b _ _ z (h2 i hi)⟩
  · by_cases c:j=i
    ·subst c;rw[jD];exact on
    ·rw[jg c];exact h.on j hj
  · rcases hy with rfl|rfl
    ·exact out _ _ h.hr (h.nx _ (.inl rfl)) j hj m
    ·exact out _ _ h.hs (h.nx _ (.inr rfl)) j hj m
theorem fZ.Ax(h:fZ K C a lr ls mv iC M H n A S){i:Nat}(hi:i<2)(S':aZ)(b:bI (A i).all H H')(et:∀o,H (A i).t=some o->H' (A i).t=some o) (R:cn K C H' (A i).a (A i).q M S')(Z:dh K H' (A i).d (A i).e (A i).t M S')(ok:bQ M (64+10*(n+1)) S')(hn:n<=100)(on:j7 M.rs (cG S')):fZ K C a lr ls mv iC M H' (n+1) (kj A i {A i with q:=(A i).q}) (kj S i S'):=by have fz:=h.two.nd i hi;simp only[Ad.all,nL,bW,da,dB,not_or]at fz;obtain⟨⟨t1,t2,t3,t4⟩,⟨t5,t6,t7⟩,t8⟩:=fz;refine h.upd hi _ S' b (.inl rfl) R Z ok hn ((h.two.told i hi).go (by omega) (h.two.v hi b) et fun l us hx e=>⟨b _ _ e fun m=>hx ⟨i,hi,m⟩,fun z=>z.elim hx fun z=>hx ⟨i,hi,by rw[z];simp[Ad.all]⟩⟩) ⟨t7,t6⟩ on
theorem fZ.IC(h:fZ K C a lr ls mv iC M H n A S):aw K H a (iC.map V.int):=h.sc.elim (fun z=>z H) fun z=>z.2.1
theorem fZ.mono(h:fZ K C a lr ls mv iC M H n A S){m:Nat}(h1:n<=m)(h2:m<=140):fZ K C a lr ls mv iC M H m A S:=⟨⟨h.two.run,h.two.sim,fun i hi=>(h.two.ok i hi).mono (by omega) (by omega),fun i hi=>(h.two.told i hi).go h1 (fun _ _ _ e=>e) (fun _ e=>e) fun l us hx e=>⟨e,hx⟩,h.two.nd,h.two.dj⟩,h.hr,h.hs,h.sc,h.rm,h.on,h.nx⟩
end
def Il(K:a5w):Sp:=fun vs H Q _=>∃(a:Addr)(ns:List Int),vs=[.ref a]/\aw K H a (ns.map V.int)/\ns.length<=63/\∀H',Q (.bl true) H'
theorem ai.but{S:List Addr}{H0 H H':Hp}(s:ai H0 H)(b:bI S H H')(hn:∀x∈S,H0 x=none):ai H0 H':=fun b' o e=>b _ _ (s _ _ e) (fun hm=>by rw[hn _ hm]at e;cases e)
theorem ai.none{H0 H:Hp}{x:Addr}(s:ai H0 H)(h:H x=none):H0 x=none:=by cases e:H0 x with |none=>rfl |some o=>have:=s _ _ e;rw[h]at this;cases this
theorem nn{H H':Hp}{x y:Addr}(s:ai H H')(hx:H x≠none)(hy:H' y=none):x≠y:=fun e=>by cases h:H x with |none=>exact hx h |some o=>have:=s _ _ h;rw[e,hy]at this;cases this
theorem vF{H:Hp}{x y:Addr}(hx:H x≠none)(hy:H y=none):x≠y:=fun e=>hx (by rw[e];exact hy)
theorem U8{H H':Hp}{x:Addr}(s:ai H H')(hx:H x≠none):H' x≠none:=by cases h:H x with |none=>exact(hx h).elim |some o=>rw[s _ _ h];simp
theorem fZ.first{C a lr ls x q0 d0 e0 t0 x1 q1 d1 e1 t1:Addr}{mv:V}{iC:List Int}{M:bw}{pl:List Int}{H H5 H6 H7 H8 H9 eR fE:Hp}(nx:H5 x=none)(vz:H5 q0=none)(R6:cn K C H6 x q0 M (kD pl))(s6:ai H5 H6)(pW:H6 x1=none)(Dv:H6 q1=none)(R7:cn K C H7 x1 q1 M (kD pl))(s7:ai H6 H7)(n8:Nw H7 H8 lr (.lst [.ref x,.ref x1]))(Z0:dh K H9 d0 e0 t0 M (kD pl))(T0:H9 t0=some (.lst []))(mC:H8 d0=none)(vJ:H8 e0=none)(vx:H8 t0=none)(g1:d0≠t0)(g2:e0≠t0)(s9:ai H8 H9)(Z1:dh K eR d1 e1 t1 M (kD pl))(T1:eR t1=some (.lst []))(vK:H9 d1=none)(ne1:H9 e1=none)(vw:H9 t1=none)(g3:d1≠t1)(g4:e1≠t1)(gC:ai H9 eR)(eg:Nw eR fE ls (.lst [.ref d0,.ref d1]))(s5:ai H H5)(hS:aw K H a (iC.map V.int))(rm:RD K H5 mv M.D)(on:j7 M.rs pl)(hl:pl.length=M.rs.length): fZ K C a lr ls mv iC M fE 0 (fun i=>if i=0 then⟨x,q0,d0,e0,t0⟩else⟨x1,q1,d1,e1,t1⟩) (fun _=>kD pl):=by
  have px:H6 x≠none:=by obtain⟨_,_,_,_,_,e,_⟩:=R6.ob;rw[e];simp
  have pq:H6 q0≠none:=by obtain⟨_,e,_⟩:=R6.qu;rw[e];simp
  have yo:H7 x1≠none:=by obtain⟨_,_,_,_,_,e,_⟩:=R7.ob;rw[e];simp
  have yp:H7 q1≠none:=by obtain⟨_,e,_⟩:=R7.qu;rw[e];simp
  have VT:H9 d0≠none:=by obtain⟨_,_,_,_,_,_,_,e,_⟩:=Z0.ob;rw[e];simp
  have VR:H9 e0≠none:=by obtain⟨_,e,_⟩:=Z0.qu;rw[e];simp
  have Vn:H9 t0≠none:=by rw[T0];simp
  have VS:eR d1≠none:=by obtain⟨_,_,_,_,_,_,_,e,_⟩:=Z1.ob;rw[e];simp
  have VQ:eR e1≠none:=by obtain⟨_,e,_⟩:=Z1.qu;rw[e];simp
  have Vm:eR t1≠none:=by rw[T1];simp
  have ye:=n8.same;have iU:=s7.trans ye;have uW:=iU.trans s9;have pK:=ye.trans s9;have CF:=eg.same;have uU:=gC.trans CF;have uV:=s9.trans uU;have Cw:=ye.trans uV;have Cz:=s7.trans Cw;have P6:∀u∈[x,q0],H6 u≠none:=by simp[px,pq]
  have N6:∀v∈[x1,q1],H6 v=none:=by simp[pW,Dv]
  have P7:∀v∈[x1,q1],H7 v≠none:=by simp[yo,yp]
  have N8:∀u∈[d0,e0,t0],H8 u=none:=by simp[mC,vJ,vx]
  have P9:∀u∈[d0,e0,t0],H9 u≠none:=by simp[VT,VR,Vn]
  have N9:∀v∈[d1,e1,t1],H9 v=none:=by simp[vK,ne1,vw]
  have P10:∀v∈[d1,e1,t1],eR v≠none:=by simp[VS,VQ,Vm]
  have nT:∀{u a b c d e:Addr},u∈[a,b,c,d,e]->u∈[a,b]\/u∈[c,d,e]:=fun h=>by simp only[bW,da,dB]at h⊢;rcases h with h|h|h|h|h<;>simp[h]
  have QL:∀u∈[x,q0,d0,e0,t0],∀v∈[x1,q1,d1,e1,t1],u≠v:=fun u hu v hv=>by
   rcases nT hu with h|h<;>rcases nT hv with g|g
   ·exact vF (P6 u h) (N6 v g)
   ·exact nn uW (P6 u h) (N9 v g)
   ·exact(nn ye (P7 v g) (N8 u h)).symm
   ·exact vF (P9 u h) (N9 v g)
  have Yb:([x,q0,d0,e0,t0]:List Addr).Nodup:=by simp only[nL,bW,da,dB,not_or,List.nodup_nil,not_false_eq_true,and_true];exact⟨⟨R6.ne,nn iU px mC,nn iU px vJ,nn iU px vx⟩,⟨nn iU pq mC,nn iU pq vJ,nn iU pq vx⟩,⟨Z0.ne,g1⟩,g2⟩
  have Ya:([x1,q1,d1,e1,t1]:List Addr).Nodup:=by simp only[nL,bW,da,dB,not_or,List.nodup_nil,not_false_eq_true,and_true];exact⟨⟨R7.ne,nn pK yo vK,nn pK yo ne1,nn pK yo vw⟩,⟨nn pK yp vK,nn pK yp ne1,nn pK yp vw⟩,⟨Z1.ne,g3⟩,g4⟩
  have two:∀{i:Nat},i<2->i=0\/i=1:=fun h=>by omega
  refine⟨⟨fun i hi=>?_,fun i hi=>?_,fun i hi=>Uy hl,fun i hi=>?_,fun i hi=>?_,fun i j hi hj cy u hu hv=>?_⟩,uV _ _ n8.at',eg.at',?_,RD.mono (s6.trans Cz) _ rm,fun i hi=>?_,fun y hy j hj m=>?_⟩
  · rcases two hi with rfl|rfl
    ·exact R6.same rfl Cz
    ·exact R7.same rfl Cw
  · rcases two hi with rfl|rfl
    ·exact Z0.same rfl uU
    ·exact Z1.same rfl CF
  · rcases two hi with rfl|rfl
    ·exact⟨[],uU _ _ T0,bp _,nofun⟩
    ·exact⟨[],CF _ _ T1,bp _,nofun⟩
  · rcases two hi with rfl|rfl
    ·exact Yb
    ·exact Ya
  · rcases two hi with rfl|rfl<;>rcases two hj with rfl|rfl
    ·exact cy rfl
    ·exact QL u hu u hv rfl
    ·exact QL u hv u hu rfl
    ·exact cy rfl
  · rcases hS with hS|hS
    · have ho:H a≠none:=by rcases hS with h|⟨o,h⟩<;>(rw[h];simp)
      have pM:=s5.trans (s6.trans Cz);obtain⟨o,eo⟩:∃o,fE a=some o:=Option.ne_none_iff_exists'.mp (U8 pM ho);refine .inr ⟨⟨o,eo⟩,pM.seq (.inl hS),fun j hj m=>?_⟩;rcases two hj with rfl|rfl
      · rcases nT (show a∈[x,q0,d0,e0,t0]from m)with h|h
        · simp only[bW,da,dB]at h
          rcases h with z|z
          ·exact nn s5 ho nx z
          ·exact nn s5 ho vz z
        ·exact nn ((s5.trans s6).trans iU) ho (N8 a h) rfl
      · rcases nT (show a∈[x1,q1,d1,e1,t1]from m)with h|h
        ·exact nn (s5.trans s6) ho (N6 a h) rfl
        ·exact nn ((s5.trans s6).trans uW) ho (N9 a h) rfl
    ·exact .inl fun H2=>.inr hS
  ·exact on
  · have Ko:H8 lr≠none:=by rw[n8.at'];simp
    rcases hy with rfl|rfl
    · rcases two hj with rfl|rfl
      · rcases nT (show y∈[x,q0,d0,e0,t0]from m)with h|h
        ·exact nn s7 (P6 y h) n8.no rfl
        ·exact vF Ko (N8 y h) rfl
      · rcases nT (show y∈[x1,q1,d1,e1,t1]from m)with h|h
        ·exact vF (P7 y h) n8.no rfl
        ·exact nn s9 Ko (N9 y h) rfl
    · rcases two hj with rfl|rfl
      · rcases nT (show y∈[x,q0,d0,e0,t0]from m)with h|h
        ·exact nn (uW.trans gC) (P6 y h) eg.no rfl
        ·exact nn gC (P9 y h) eg.no rfl
      · rcases nT (show y∈[x1,q1,d1,e1,t1]from m)with h|h
        ·exact nn (pK.trans gC) (P7 y h) eg.no rfl
        ·exact vF (P10 y h) eg.no rfl
theorem mh{t u:TS}{D:Ends}{σ:L2.St}{H:Hp}(h:∀R:TS,(∀D' σ' H',u D' σ' H'->R D' σ' H')->uJ t R D σ H):uJ t u D σ H:=h u fun _ _ _ z=>z
abbrev uS:Stmt:=top 89
theorem Jr:bc ["_law_script","_law_bag_here","_law_machine_here","_law_place_here","_law_runners","_law_sims","_law_k","_law_which","_law_kind","_law_runner","_law_sim_here","_law_item","_law_turn","_law_end","_law_fits","_law_n","_law_found"] ["_law_script"] (aM uS):=bh (by decide+kernel)
theorem Xn{f C:Addr}{fd:FuncData}(F:kT K "law" "law" uS f fd)(TC:fM K C)(B:bB mg)(MG:aj P w K mg base "_law_bag" 1 (Iq K))(fX:aj P w K mg base "_law_take" 1 rE)(a1K:aj P w K mg base "_law_machine" 2 (Ik K))(a1J:aj P w K mg base "_law_place" 2 (Ih K))(a1L:aj P w K mg base "_law_line" 2 (AU K))(MC:A3 P w K mg base C "Runner" 1 (I0 K C))(ME:aj P w K mg base "_law_sim" 1 (HK K))(a1o:cI P w K mg base C "feed" 5 (Ic K C))(a1G:aj P w K mg base "_law_sim_feed" 1 (HR K))(a1m:cI P w K mg base C "hold" 2 (Ia K C))(a1F:aj P w K mg base "_law_sim_hold" 2 (HQ K))(a1n:cI P w K mg base C "go" 1 (Ib K C))(a1q:cI P w K mg base C "entries" 12 (Ig K C))(a1H:aj P w K mg base "_law_sim_entries" 6 (HS K))(ky:aj P w K mg base "_law_alike" 5 (uO (Nx (Nx (Nx (Nx A0)))) K))(MF:aj P w K mg base "_law_right" 6 (AN K C)):iR P w K mg base jZ 13 f fd ["_law_script"] (Il K):=by
 refine F.ok Jr (fun vs H Q E h=>?_) (fun aD A outer s H vs Q E hr h=>?_)
 · obtain⟨a,ns,rfl,_⟩:=h
   rfl
 · obtain⟨a,ns,rfl,hS,hlen,k⟩:=h
   have nd:=Jr.nd;refine⟨_,(ah (aH (i:=1) nd rfl (Or.inl rfl) (pf MG hr (aa (pv 0) (aa ag af)))) (ah (aH (i:=2) nd rfl (Or.inl rfl) (pf a1K hr (aa (pv 1) af))) (ah (aH (i:=3) nd rfl (Or.inl rfl) (pf a1J hr (aa (pv 1) (aa (pv 2) af)))) (ah (aH (i:=4) nd rfl (Or.inl rfl) (dF (aa (Ku MC (hr.mono (by decide)) rfl (aa (pv 2) (aa (pv 3) af))) (aa (Ku MC (hr.mono (by decide)) rfl (aa (pv 2) (aa (pv 3) af))) af)))) (ah (aH (i:=5) nd rfl (Or.inl rfl) (dF (aa (pf ME hr (aa (pv 2) (aa (pv 3) af))) (aa (pf ME hr (aa (pv 2) (aa (pv 3) af))) af)))) (ah (jF fU rfl (vj rfl (B.at "range") (aa (aL (x:="max") (NW rfl) rfl (B.at "max") Ah (aa ag (aa (aL (x:="min") (Fp rfl) rfl (B.at "min") QW (aa (aL (x:="len") (cU K rfl) rfl (B.at "len") cY (aa (pv 0) af)) (aa ag af))) af))) af)) (aQ (i:=6) nd rfl (Or.inl rfl)) (ah (aH (i:=1) nd rfl (Or.inl rfl) (pf MG hr (aa (pv 0) (aa (au cF (pv 6) ag) af)))) (ah (aH (i:=7) nd rfl (Or.inl rfl) (pf fX hr (aa (pv 1) (aa ag af)))) (ah (aH (i:=8) nd rfl (Or.inl rfl) (pf fX hr (aa (pv 1) (aa ag af)))) (ah (lH (i:=9) (j:=10) rfl nd rfl rfl (by decide) rfl rfl (aa (aJ (aK K rfl) (pv 4) (pv 7) (fun _ _=>rfl)) (aa (aJ (aK K rfl) (pv 5) (pv 7) (fun _ _=>rfl)) af)) rfl) (ah (fW (bj (PW.pt (lF (bK iH (pv 8) ag (aX _)) (pR (bK iH (aL (x:="len") (cU K rfl) rfl (B.at "len") cY (aa (cu (bu hr.units) (pv 10) aU (fun _ _=>rfl)) af)) ag (aX _))))) (ah (aH (i:=11) nd rfl (Or.inl rfl) (pf a1L hr (aa (pv 1) (aa (pv 2) (aa (cu (bu hr.units) (pv 10) aU (fun _ _=>rfl)) (aa ag af)))))) (ao (jF fU rfl (vj rfl (B.at "range") (aa ag af)) (aQ (i:=12) nd rfl (Or.inl rfl)) (ah (aH (i:=13) nd rfl (Or.inl rfl) (gk (x:="tuple") (jB K rfl) rfl (B.at "tuple") eU (aa (ft (N:=["_law_stand_here","_law_step"]) (js:=[none,none]) rfl rfl rfl (hW K rfl false false rfl (B.at "zip") (aa (cu (bu hr.units) (aJ (aK K rfl) (pv 5) (pv 12) (fun _ _=>rfl)) aU (fun _ _=>rfl)) (aa (aJ (aK K rfl) (pv 11) ag (fun _ _=>rfl)) af))) (fun _ _ _ _ _=>(cS K rfl (n:=2) rfl (bo (aQ (i:=0) (show List.Nodup (["_law_stand_here","_law_step"]:List Str) by decide+kernel) rfl (Or.inl rfl)) (bo (aQ (i:=1) (show List.Nodup (["_law_stand_here","_law_step"]:List Str) by decide+kernel) rfl (Or.inl rfl)) cR)))) (fun _ _ _ _ _=>eL) (fun _ _ _ _ _=>(au cF (pv 0) (pv 1)))) af))) (ah (aH (i:=14) nd rfl (Or.inl rfl) (aL (x:="all") (nc K rfl rfl) rfl (B.at "all") oW (aa (ft (N:=["_law_stand_here","_law_rail"]) (js:=[none,none]) rfl rfl rfl (hW K rfl false false rfl (B.at "zip") (aa (pv 13) (aa (aJ (aK K rfl) (pv 2) ag (fun _ _=>rfl)) af))) (fun _ _ _ _ _=>(cS K rfl (n:=2) rfl (bo (aQ (i:=0) (show List.Nodup (["_law_stand_here","_law_rail"]:List Str) by decide+kernel) rfl (Or.inl rfl)) (bo (aQ (i:=1) (show List.Nodup (["_law_stand_here","_law_rail"]:List Str) by decide+kernel) rfl (Or.inl rfl)) cR)))) (fun _ _ _ _ _=>eL) (fun _ _ _ _ _=>(Dj o7 o7 ag (pv 0) (pv 1)))) af))) (ao (bj (PW.pt (lF (cA (pv 14)) (lF (bK iH (aL (x:="len") (cU K rfl) rfl (B.at "len") cY (aa (cu (bu hr.units) (aJ (aK K rfl) (pv 5) (pv 12) (fun _ _=>rfl)) aU (fun _ _=>rfl)) af)) ag (aX _)) (pR (PW.pt (kn (bK (cH K rfl hr.units) (pv 12) (pv 7) (aX _)) (kl (bK (cH K rfl hr.units) (pv 8) ag (aX _))))))))) (ao (bj (dX (cA (pf ky hr (aa (vm a1o TC.cl (hr.mono (by decide)) (aJ (aK K rfl) (pv 4) (pv 12) (fun _ _=>rfl)) (aa (pv 11) af)) (aa (pf a1G hr (aa (aJ (aK K rfl) (pv 5) (pv 12) (fun _ _=>rfl)) (aa (pv 11) af))) af))))) (ao (aG ie)) bE)) bE))))))) (ao (bj (bK (cH K rfl hr.units) (pv 8) ag (aX _)) (ao (bj (dX (cA (pf ky hr (aa (iE a1m TC.cl (hr.mono (by decide)) (pv 9)) (aa (pf a1F hr (aa (pv 10) af)) af))))) (ao (aG ie)) bE)) (ao (bj (bK (cH K rfl hr.units) (pv 8) ag (aX _)) (ah (fI (bu hr.units) (pv 10) aU iD rfl) (ao (fP (iE a1n TC.cl (hr.mono (by decide)) (pv 9))))) (ah (aH (i:=15) nd rfl (Or.inl rfl) (pf fX hr (aa (pv 1) (aa ag af)))) (ah (aH (i:=16) nd rfl (Or.inl rfl) (vm a1q TC.cl (hr.mono (by decide)) (pv 9) (aa (pv 15) af))) (ah (bj (dX (cA (pf ky hr (aa (pv 16) (aa (pf a1H hr (aa (pv 10) (aa (pv 15) af))) af))))) (ao (aG ie)) bE) (ah (fW (bj (bK (cH K rfl hr.units) (au mx (pv 15) ag) ag (aX _)) (ao (fP (VP K rfl (pv 16)))) bE)) (ao (fP (iX K rfl (cu (bu hr.units) (pv 10) aU (fun _ _=>rfl)) (aa (dH (aa (pv 16) (aa (gk (x:="tuple") (jB K rfl) rfl (B.at "tuple") eU (aa (pv 16) af)) af))) af)))))))))))))) (ao (bj (PW.pt (kn (dX (cA (pf MF hr (aa (aJ (aK K rfl) (pv 4) ag (fun _ _=>rfl)) (aa (aJ (aK K rfl) (pv 5) ag (fun _ _=>rfl)) af))))) (kl (dX (cA (pf MF hr (aa (aJ (aK K rfl) (pv 4) ag (fun _ _=>rfl)) (aa (aJ (aK K rfl) (pv 5) ag (fun _ _=>rfl)) af)))))))) (ao (aG ie)) bE)))))))) (ao (aG ie)))))))),?_⟩;refine mh fun R1 hR1=>?_;refine⟨_,rfl,a,ns,_,rfl,hS,hlen,by omega,by omega,fun p H3 np Fu s3=>?_⟩;refine hR1 _ _ _ ?_;refine mh fun R2 hR2=>?_;refine⟨_,rfl,p,rfl,Fu,fun mv rs r f j ti H4 rm aE b4=>?_⟩;have nm:=gP rs r f j ti;refine hR2 _ _ _ ?_;refine mh fun R3 hR3=>?_;refine⟨_,rfl,_,rfl,p,mv,rs,r,f,j,ti,rfl,b4.bag,rm,aE,fun o4 pl H5 rS on b5=>?_⟩;have UB:=RD.t (bL.t b4.bag b5) _ nm rm;obtain⟨M,vg,iI,eRs⟩:∃M:bw,RD K H5 mv M.D/\M.Ok/\M.rs=rs:=⟨⟨rs,r,f,j,ti⟩,UB,aE,rfl⟩;have KR:j7 M.rs pl:=by rw[eRs];exact on
   have s5:ai H H5:=bL.rO (bL.rO s3 np b4) np b5;refine hR3 _ _ _ ?_;refine mh fun R4 hR4=>?_;refine⟨_,rfl,_,rfl,fun x dx nx DC Dz=>⟨x,dx,mv,o4,M,pl,rfl,aO,?_,?_,fun q0 H6 R6 vz b6=>?_⟩⟩
   ·exact RD.mono (ai.new DC|>.trans (ai.new (by rw[az Dz.symm];exact nx))) _ vg
   ·exact RD.mono (ai.new DC|>.trans (ai.new (by rw[az Dz.symm];exact nx))) _ rS
   have Iu:ai H5 (L2.upd (L2.upd H5 dx (.own x)) x (.ins C dx [])):=ai.new DC|>.trans (ai.new (by rw[az Dz.symm];exact nx));have s6:ai H5 H6:=ai.but Iu b6 (by simpa using nx);have XW:H5 q0=none:=ai.none Iu vz;refine⟨rfl,_,rfl,_,rfl,fun x1 F9 pW DB Dy=>⟨x1,F9,mv,o4,M,pl,rfl,aO,?_,?_,fun q1 H7 R7 Dv b7=>?_⟩⟩
   ·exact RD.mono (s6.trans (ai.new DB|>.trans (ai.new (by rw[az Dy.symm];exact pW)))) _ vg
   ·exact RD.mono (s6.trans (ai.new DB|>.trans (ai.new (by rw[az Dy.symm];exact pW)))) _ rS
   have Ir:ai H6 (L2.upd (L2.upd H6 F9 (.own x1)) x1 (.ins C F9 [])):=ai.new DB|>.trans (ai.new (by rw[az Dy.symm];exact pW));have s7:ai H6 H7:=ai.but Ir b7 (by simpa using pW);have XU:H6 q1=none:=ai.none Ir Dv;refine⟨rfl,bM _ (bR rfl),fun lr H8 n8=>?_⟩;have uX:=s6.trans (s7.trans n8.same);refine hR4 _ _ _ ?_;refine mh fun R5 hR5=>?_;refine⟨_,rfl,_,rfl,mv,o4,M,pl,rfl,RD.mono uX _ vg,RD.mono uX _ rS,fun d0 e0 t0 H9 Z0 T0 mC vJ vx g1 g2 s9=>?_⟩;refine⟨_,rfl,_,rfl,mv,o4,M,pl,rfl,RD.mono (uX.trans s9) _ vg,RD.mono (uX.trans s9) _ rS,fun d1 e1 t1 eR Z1 T1 vK ne1 vw g3 g4 gC=>?_⟩;refine⟨bM _ (bR rfl),fun ls fE eg=>?_⟩;have uU:=gC.trans eg.same;have uV:=s9.trans uU;have Ue:=uX.trans uV;have Cw:=n8.same.trans uV;have L:fZ K C a lr ls mv ns M fE 0 (fun i=>if i=0 then⟨x,q0,d0,e0,t0⟩else⟨x1,q1,d1,e1,t1⟩) (fun _=>kD pl):=fZ.first nx XW R6 s6 pW XU R7 s7 n8 Z0 T0 mC vJ vx g1 g2 s9 Z1 T1 vK ne1 vw g3 g4 gC eg s5 hS vg KR KR.len;have TQ:aw K fE a (ns.map V.int):=(s5.trans Ue).seq hS;refine hR5 _ _ _ ?_;refine⟨_,rfl,a,_,rfl,.inl TQ,_,_,rfl,_,_,rfl,_,rfl,?_,?_,?_⟩
   ·split<;>omega
   ·rw[bS];split<;>(try split)<;>omega
   have hN:(if(if(30:Int)<((ns.map V.int).length:Int)then(30:Int)else((ns.map V.int).length:Int))>8 then(if(30:Int)<((ns.map V.int).length:Int)then(30:Int)else((ns.map V.int).length:Int))else(8:Int)).toNat<=30:=by split<;>(try split)<;>omega
   refine wD (Pv:=fun i σ H2=>∃A S,fZ K C a lr ls mv ns M H2 (3*i) A S/\∃v1 v6 v7 v8 v9 v10 v11 iA jf je pj ph,σ=[some (.ref a),v1,some mv,some o4,some (.ref lr),some (.ref ls),v6,v7,v8,v9,v10,v11,iA,jf,je,pj,ph]) ?_ ?_ ?_
   ·exact⟨_,_,L,_,none,none,none,none,none,none,none,none,none,none,none,rfl⟩
   · rintro i σ H2 hi ⟨A,S,xg,v1,v6,v7,v8,v9,v10,v11,iA,jf,je,pj,ph,rfl⟩
     have hi8:i<30:=fF hi hN;refine mh fun R10 a1y=>?_;refine⟨_,rfl,_,rfl,_,_,rfl,rfl,a,ns,_,rfl,xg.IC,hlen,by omega,by omega,fun p H3 np Fu s3=>?_⟩;refine a1y _ _ _ ?_;refine mh fun R11 a1x=>?_;refine⟨_,rfl,p,2,rfl,Fu,by decide,by decide,fun wh H4 w0 w1 b4=>?_⟩;refine a1x _ _ _ ?_;refine mh fun R12 a1w=>?_;refine⟨_,rfl,p,7,rfl,b4.bag,by decide,by decide,fun kd H5 k0 k1 b5=>?_⟩;have kE:ai H2 H5:=bL.rO (bL.rO s3 np b4) np b5;have L5:=xg.same kE;obtain⟨c,hc,rfl⟩:∃c:Nat,c<2/\wh=(c:Int):=⟨wh.toNat,by omega,by omega⟩;have FC:fo [V.ref (A 0).a,.ref (A 1).a] (c:Int)=some (.ref (A c).a):=by rcases(show c=0\/c=1 by omega)with rfl|rfl<;>rfl
     have wW:fo [V.ref (A 0).d,.ref (A 1).d] (c:Int)=some (.ref (A c).d):=by rcases(show c=0\/c=1 by omega)with rfl|rfl<;>rfl
     refine a1w _ _ _ ?_;refine mh fun Ov a1v=>?_;refine⟨_,rfl,_,rfl,.inl ⟨lr,_,_,_,rfl,rfl,aw.of L5.hr,FC,_,rfl,_,rfl,.inl ⟨ls,_,_,_,rfl,rfl,aw.of L5.hs,wW,_,_,rfl,?_⟩⟩⟩;refine a1v _ _ _ ?_;refine⟨fun σ H6=>∃A S,fZ K C a lr ls mv ns M H6 (3*i+2) A S/\∃v1 v6 v7 v8 v9 v10 v11 iA jf je pj ph,σ=[some (.ref a),v1,some mv,some o4,some (.ref lr),some (.ref ls),v6,v7,v8,v9,v10,v11,iA,jf,je,pj,ph],?_,?_⟩
     · have hR:=L5.two.run c hc
       have hZ:=L5.two.sim c hc;have hok:=L5.two.ok c hc;have hT:=L5.two.told c hc;have gx:=hok.row.no;have fz:=L5.two.nd c hc;simp only[Ad.all,nL,bW,da,dB,not_or]at fz;have ad:=fz.1.2.1;have ae:=fz.1.2.2.1;have at':=fz.1.2.2.2;have qd:=fz.2.1.1;have qe:=fz.2.1.2.1;have qt:=fz.2.1.2.2;have de:=fz.2.2.1.1;have dt:=fz.2.2.1.2;have et:=fz.2.2.2.1;obtain⟨dx,vM,wO,bV,tv,wj⟩:=hR.ob;have er:=wj.1;obtain⟨qc,lv,gv,sv,bv,cv,rv,fL⟩:=hZ.ob;have ez:=fL.1;have r1:=fL.2.1;have r2:=fL.2.2.1;have r3:=fL.2.2.2.1;have r4:=fL.2.2.2.2.1;have r5:=fL.2.2.2.2.2.1;have r6:=fL.2.2.2.2.2.2;obtain⟨ys,wk⟩:=hZ.qu;have eq:=wk.1;have rq:=wk.2;refine Zr ?_ fun Ep=>?_
       · refine⟨_,rfl,.inl ⟨_,_,rfl,rfl,_,rfl,?_⟩⟩
         refine cV (fun h3=>?_) (fun h3=>?_)
         ·--hold
           refine⟨_,rfl,(A c).a,dx,_,rfl,er,rfl,(A c).a,(A c).q,M,_,S c,rfl,hR,hok,iI,fun H6 R6 b6=>?_⟩;have nO:=hR.v (b6.mono (S':=[(A c).a,(A c).q]) fun x hx=>by rw[cf]at hx;rw[hx];simp);have Z6:=hZ.go gx nO (fun o e=>b6 _ _ e (by rw[cf];exact cC ad)) (fun o e=>b6 _ _ e (by rw[cf];exact cC ae));refine⟨_,rfl,(A c).d,(A c).e,(A c).t,M,_,S c,rfl,Z6,hok,iI,fun H7 Z7 b7=>?_⟩;refine⟨_,_,.int _,rfl,dG _,dG _,lJ _,fun H8 s8=>⟨_,rfl,bf ?_⟩⟩;have yD:bQ M (64+10*(3*i+1)) (iO M (S c)):=by have:=hok.hold iI (by omega);rw[show 64+10*(3*i+1)=64+10*(3*i)+10 by omega];exact this
           have kZ:=Z6.v (b7.mono (S':=[(A c).d,(A c).e]) fun x hx=>by rw[cf]at hx;rw[hx];simp);have R7:=R6.go yD.row.no kZ (fun o e=>b7 _ _ e (by rw[cf];exact ad)) (fun o e=>b7 _ _ e (by rw[cf];exact qd));refine⟨_,_,(L5.Ax hc (iO M (S c)) (fun b o eb hb=>s8 _ _ (b7 _ _ (b6 _ _ eb ?_) ?_)) (fun o e=>s8 _ _ (b7 _ _ (b6 _ _ e ?_) ?_)) (R7.same yD.row.no s8) (Z7.same yD.row.no s8) yD (by omega) (by rw[a03];exact L5.on c hc)).mono (by omega) (by omega),_,_,_,_,_,_,_,_,_,_,_,_,rfl⟩
           ·rw[cf];exact fun z=>hb (by rw[z];simp[Ad.all])
           ·rw[cf];exact fun z=>hb (by rw[z];simp[Ad.all])
           ·rw[cf];exact cC at'
           ·rw[cf];exact cC dt
         · refine⟨_,rfl,.inl ⟨_,_,rfl,rfl,_,rfl,?_⟩⟩
           refine cV (fun h4=>?_) (fun h4=>?_)
           ·--go
             refine⟨_,rfl,(A c).d,_,rfl,dp ez KA iT,?_⟩;have b6:bI [(A c).d] H5 (L2.upd H5 (A c).d (.dK (aY qc lv gv sv (.int (S c).rate) (.str (S c).side) (.str (S c).mark) (.ref (A c).e) (.int (S c).dn) .aW cv rv (.ref (A c).t)))):=qP (by simp);have e6:(L2.upd H5 (A c).d (.dK (aY qc lv gv sv (.int (S c).rate) (.str (S c).side) (.str (S c).mark) (.ref (A c).e) (.int (S c).dn) .aW cv rv (.ref (A c).t)))) (A c).d=some (.dK (aY qc lv gv sv (.int (S c).rate) (.str (S c).side) (.str (S c).mark) (.ref (A c).e) (.int (S c).dn) .aW cv rv (.ref (A c).t))):=aO;generalize L2.upd H5 (A c).d (.dK (aY qc lv gv sv (.int (S c).rate) (.str (S c).side) (.str (S c).mark) (.ref (A c).e) (.int (S c).dn) .aW cv rv (.ref (A c).t)))=H6 at b6 e6⊢;have nO:=hZ.v (b6.mono (S':=[(A c).d,(A c).e]) fun x hx=>by rw[cf]at hx;rw[hx];simp);have sO:∀{x},x≠(A c).d->x∉[(A c).d]:=fun h=>by rw[cf];exact h
             have R6:=hR.go gx nO (fun o e=>b6 _ _ e (sO ad)) (fun o e=>b6 _ _ e (sO qd));have Wm:bQ M (64+10*(3*i+1)) {S c with stp:=none}:=bQ.mono (D:=64+10*(3*i)) ⟨hok.row,hok.rw,hok.len,hok.rt1,hok.rt2,hok.dn,hok.pl,hok.pd,hok.pm,trivial,hok.D1,hok.D2⟩ (by omega) (by omega);have cvI:∃z,cv= .int z:=by cases hs:(S c).stp with |none=>rw[hs]at r5;exact r5.2 |some z=>obtain⟨sq,st,gn⟩:=z;rw[hs]at r5;obtain⟨_,_,_,_,_,h⟩:=r5;exact⟨_,h⟩
             refine⟨_,rfl,(A c).a,dx,_,rfl,b6 _ _ er (sO ad),rfl,(A c).a,(A c).q,M,_,S c,rfl,R6,hok,fun H7 R7 b7=>?_⟩;have kZ:=R6.v (b7.mono (S':=[(A c).a,(A c).q]) fun x hx=>by rw[cf]at hx;rw[hx];simp);have rn:=nO.trans kZ;have yL:∀{x},x≠(A c).a->x∉[(A c).a]:=fun h=>by rw[cf];exact h
             have Z7:dh K H7 (A c).d (A c).e (A c).t M {S c with stp:=none}:=⟨⟨qc,lv,gv,sv,.aW,cv,rv,b7 _ _ e6 (yL (cC ad)),RD.v rn _ (gP _ _ _ _ _) r1,RD.v rn _ (gh _) r2,RD.v rn _ (gh _) r3,r4.v rn,⟨rfl,cvI⟩,r6.v rn⟩,ys,b7 _ _ (b6 _ _ eq (sO (cC de))) (yL (cC ae)),ay.v rn _ gx rq⟩;refine⟨_,_,(L5.Ax hc {S c with stp:=none} (fun b o eb hb=>b7 _ _ (b6 _ _ eb (sO ?_)) (yL ?_)) (fun o e=>b7 _ _ (b6 _ _ e (sO (cC dt))) (yL (cC at'))) R7 Z7 Wm (by omega) (L5.on c hc)).mono (by omega) (by omega),_,_,_,_,_,_,_,_,_,_,_,_,rfl⟩
             ·exact fun z=>hb (by rw[z];simp[Ad.all])
             ·exact fun z=>hb (by rw[z];simp[Ad.all])
           ·--entries
             refine⟨_,rfl,p,12,rfl,b5.bag,by decide,by decide,fun n H6 n0 n1 b6=>?_⟩;have L6:=xg.same (bL.rO kE np b6);have hR:=L6.two.run c hc;have hZ:=L6.two.sim c hc;have hok:=L6.two.ok c hc;have hT:=L6.two.told c hc;obtain⟨dx,vM,wO,bV,tv,wj⟩:=hR.ob;have er:=wj.1;obtain⟨qc,lv,gv,sv,bv,cv,rv,fL⟩:=hZ.ob;have ez:=fL.1;have r1:=fL.2.1;have r2:=fL.2.2.1;have r3:=fL.2.2.2.1;have r4:=fL.2.2.2.2.1;have r5:=fL.2.2.2.2.2.1;have r6:=fL.2.2.2.2.2.2;obtain⟨ts,EA⟩:=hT;have F0:=EA.1;have yR:=EA.2.1;have ZI:=EA.2.2;refine⟨_,rfl,(A c).a,dx,_,rfl,er,rfl,_,rfl,(A c).a,(A c).q,M,_,S c,n,rfl,hR,hok,iI,n0,by omega,fun l us es S' q' H7 nl dl rd run he mQ R7 jk lq=>?_⟩;have wQ:=jk.but;have kZ:=hR.v wQ;have mz:∀{x},x≠(A c).a->x≠(A c).q->x∉[(A c).a,(A c).q]:=fun h1 h2=>by simp[h1,h2]
             have Z7:=hZ.go gx kZ (fun o e=>wQ _ _ e (mz (cC ad) (cC qd))) (fun o e=>wQ _ _ e (mz (cC ae) (cC qe)));refine⟨_,rfl,_,rfl,_,rfl,(A c).d,(A c).e,(A c).t,M,_,S c,n,rfl,Z7,hok,iI,n0,by omega,fun l2 us2 es2 S2 H8 L4 Fd nZ ve he2 a0D Z8 b8=>?_⟩;obtain⟨e1,e2⟩:=run.a31 he mQ ve he2 a0D;subst e1 e2;have ent:=run.ent hok iI;have N2:=run.no hok iI;have ko:=run.ok hok iI;have YN:es.length<=11:=by omega
             have ld:l≠(A c).d:=fun z=>by rw[z,ez]at nl;cases nl
             have LL:l≠(A c).e:=fun z=>by obtain⟨_,e,_⟩:=hZ.qu;rw[z,e]at nl;cases nl
             have lt':l≠(A c).t:=fun z=>by rw[z,F0]at nl;cases nl
             have la:l≠(A c).a:=fun z=>by rw[z,er]at nl;cases nl
             have lO:∀{x},x≠(A c).d->x≠(A c).e->x∉[(A c).d,(A c).e]:=fun h1 h2=>by simp[h1,h2]
             have GK:=Z7.v b8;have oH:=b8 _ _ dl (lO ld LL);have K5:=ay.v GK _ N2 rd;refine⟨.ref l,.ref l2,.list es,rfl,nY (aw.of oH) K5,nY (aw.of Fd) nZ,.inr ⟨_,.inr rfl,by omega,fun d hd=>(ent d hd).2⟩,fun H9 s9=>⟨_,rfl,bf ?_⟩⟩;have Vj:q'≠(A c).d:=fun z=>by
              rcases jk.nq with h|h
              ·exact qd (h▸z)
              ·rw[z,ez]at h;cases h
             have Kl:q'≠(A c).e:=fun z=>by
              rcases jk.nq with h|h
              ·exact qe (h▸z)
              ·obtain⟨_,e,_⟩:=hZ.qu;rw[z,e]at h;cases h
             have Kk:q'≠(A c).t:=fun z=>by
              rcases jk.nq with h|h
              ·exact qt (h▸z)
              ·rw[z,F0]at h;cases h
             have R8:=R7.go ko.row.no GK (fun o e=>b8 _ _ e (lO ad ae)) (fun o e=>b8 _ _ e (lO Vj Kl));have R9:=R8.same ko.row.no s9;have Z9:=Z8.same ko.row.no s9;have zH:=s9 _ _ oH;have US:=ay.mono s9 _ K5;have b69:∀x o,x∉(A c).all->H6 x=some o->H9 x=some o:=fun x o hx e=>s9 _ _ (b8 _ _ (wQ _ _ e (mz (fun z=>hx (by rw[z];simp[Ad.all])) (fun z=>hx (by rw[z];simp[Ad.all])))) (lO (fun z=>hx (by rw[z];simp[Ad.all])) (fun z=>hx (by rw[z];simp[Ad.all]))));have et9:H9 (A c).t=some (.lst ts):=s9 _ _ (b8 _ _ (wQ _ _ F0 (mz (cC at') (cC qt))) (lO (cC dt) (cC et)));have kz:sizeLine=16777216:=by decide
             refine⟨fun σ HA=>∃gc j4,σ=[some (.ref a),some (.ref p),some mv,some o4,some (.ref lr),some (.ref ls),some (.int (0+(i:Int))),some (.int (c:Int)),some (.int kd),some (.ref (A c).a),some (.ref (A c).d),v11,iA,jf,je,some (.int n),some (.ref l)]/\bI [l] H9 HA/\HA l=some (.lst gc)/\ay K HA gc j4/\(∀d∈j4,dk 2 d)/\cm j4=true/\gc.length<=11,?_,?_⟩
             · refine⟨_,rfl,_,_,rfl,rfl,?_,.inl ⟨_,_,rfl,rfl,_,rfl,?_⟩⟩
               ·exact(by decide:(0:Int)<2)
               refine cV (fun h1=>?_) (fun h1=>?_)
               · refine⟨_,rfl,.inl ⟨rfl,_,aw.of zH⟩,l,us,rfl,rfl,zH,?_⟩
                 exact⟨[],[],rfl,qP (by simp),aO,cQ,nofun,rfl,by simp⟩
               ·exact⟨us,es,rfl,bI.refl _ _,zH,US,fun d hd=>(ent d hd).1,N2,by rw[rd.length];exact YN⟩
             · rintro σ HA ⟨gc,j4,rfl,tO⟩
               have bA:=tO.1;have dA:=tO.2.1;have rA:=tO.2.2.1;have eA:=tO.2.2.2.1;have nA:=tO.2.2.2.2.1;have lA:=tO.2.2.2.2.2;have GJ:bG H9 HA:=bA.v fun x hx o eo=>by rw[cf]at hx;rw[hx,zH]at eo;cases eo;trivial
               have pY:∀{x},x≠l->x∉[l]:=fun h=>by rw[cf];exact h
               obtain⟨m',l',g',s',b',c',rr',ezA,_⟩:=Z9.ob;have Vi:q'≠l:=cC lq;have RA:=R9.go ko.row.no GJ (fun o e=>bA _ _ e (pY (cC la))) (fun o e=>bA _ _ e (pY Vi));have ZA:=Z9.go ko.row.no GJ (fun o e=>bA _ _ e (pY (cC ld))) (fun o e=>bA _ _ e (pY (cC LL)));have N1:=bA _ _ et9 (pY (cC lt'));refine⟨_,rfl,(A c).d,_,rfl,dg (bA _ _ ezA (pY (cC ld))) MO,.inl ⟨rfl,_,aw.of N1⟩,?_⟩;refine⟨_,rfl,_,rfl,l,gc,rfl,.inl ⟨aw.of dA,fun tt HB nB=>?_⟩⟩;refine⟨bM _ (bR rfl),fun tp HC nC=>?_⟩;have rP:=nB.same.trans nC.same;have N0:=rP _ _ N1;refine⟨(A c).t,ts,_,rfl,rfl,N0,by omega,?_⟩;have vD:bG HC (L2.upd HC (A c).t (.lst (ts++[.ref tp]))):=.upd N0 trivial;have bD:∀x o,x≠(A c).t->HC x=some o->(L2.upd HC (A c).t (.lst (ts++[.ref tp]))) x=some o:=fun x o hx e=>by rw[az hx];exact e
               have eD:(L2.upd HC (A c).t (.lst (ts++[.ref tp]))) (A c).t=some (.lst (ts++[.ref tp])):=aO;generalize L2.upd HC (A c).t (.lst (ts++[.ref tp]))=HD at vD bD eD⊢;have RD':=(RA.same ko.row.no rP).go ko.row.no vD (fun o e=>bD _ _ at' e) (fun o e=>bD _ _ Kk e);have ZD:=(ZA.same ko.row.no rP).go ko.row.no vD (fun o e=>bD _ _ dt e) (fun o e=>bD _ _ et e);have Fw:∀x o,x∉(A c).all->H6 x=some o->HD x=some o:=fun x o hx e=>by
                have xl:x≠l:=fun z=>by rw[z,nl]at e;cases e
                exact bD _ _ (fun z=>hx (by rw[z];simp[Ad.all])) (rP _ _ (bA _ _ (b69 x o hx e) (pY xl)))
               have Av:=L6.two.v hc (H':=HD) fun x o e hx=>Fw x o hx e;have RJ:=rP.v.trans vD;have Y4:¬((∃j,j<2/\l∈(A j).all)\/l=q'):=by
                rintro(⟨j,hj,m⟩|z)
                ·exact L6.two.here hj l m nl
                ·exact lq z
               have T:nj K HD (A c).t (3*i+1) (fun l=>(∃j,j<2/\l∈(A j).all)\/l=q'):=by
                refine⟨ts++[.ref tp],eD,by rw[eZ];show ts.length+1<=_;omega,fun t ht=>?_⟩;rcases xt.mp ht with ht|ht
                · obtain⟨p0,l0,ta,u0,e0,h1,h2,h3,h4,h5,h6,h7⟩:=ZI t ht
                  refine⟨p0,l0,ta,u0,e0,h1,aB.v Av h2,Fw _ _ (fun m=>h7 ⟨c,hc,m⟩) h3,aB.v Av h4,ay.v Av _ h6.2.2 h5,h6,fun z=>z.elim h7 fun z=>?_⟩;rcases jk.nq with g|g
                  ·exact h7 ⟨c,hc,by rw[z,g];simp[Ad.all]⟩
                  ·rw[<-z,h3]at g;cases g
                · rw[cf]at ht
                  exact⟨tp,l,tt,gc,j4,ht,aB.v vD (aB.of nC.at'),bD _ _ lt' (rP _ _ dA),aB.v vD ((aB.of nB.at').go nC.same),ay.v RJ _ nA rA,a2q eA nA,Y4⟩
               have fk:bQ M (64+10*(3*i+1)) S':=ko.mono (by omega) (by omega);exact⟨_,_,(L6.upd hc q' S' (fun x o e hx=>Fw x o hx e) jk.nq RD' ZD fk (by omega) T ⟨Kk,Kl⟩ (by rw[run.goal hok iI];exact L6.on c hc)).mono (by omega) (by omega),_,_,_,_,_,_,_,_,_,_,_,_,rfl⟩
       · refine⟨_,rfl,_,_,rfl,rfl,_,rfl,?_⟩
         refine cV (fun h3=>?_) (fun h3=>Ep);refine⟨_,rfl,(A c).d,_,rfl,dg ez jT,(A c).e,ys,rfl,.inl (aw.of eq),_,_,rfl,rfl,_,rfl,?_⟩;refine cV (fun oA=>?_) (fun oA=>Ep);clear Ep;refine⟨_,rfl,_,rfl,_,rfl,(A c).d,_,rfl,dg ez EE,p,mv,M.rs,M.r,M.f,M.j,M.t,gv,cG (S c),12,rfl,b5.bag,L5.rm,iI,r3,L5.on c hc,by decide,by decide,fun iv ms sp H6 rl KS gd gL onl b6=>?_⟩;obtain⟨A6,eA0⟩:∃A6,A6=A:=⟨_,rfl⟩;have L6:=xg.same (bL.rO kE np b6);obtain⟨ia,ib,rfl,_,_⟩:=jo rl;refine⟨_,rfl,by decide,by decide,?_⟩;refine wD (Pv:=fun t σ H7=>∃A S,fZ K C a lr ls mv ns M H7 (3*i+t) A S/\RD K H7 (.ref ia) (fy ms sp)/\∃iA jf je,σ=[some (.ref a),some (.ref p),some mv,some o4,some (.ref lr),some (.ref ls),some (.int (0+(i:Int))),some (.int (c:Int)),some (.int kd),some (.ref (A6 c).a),some (.ref (A6 c).d),some (.ref ia),iA,jf,je,pj,ph]) ?_ ?_ ?_
         ·exact⟨A,S,L6,rl,_,_,_,by rw[eA0];rfl⟩
         · rintro t σ H7 ht ⟨A,S,L7,CT,iA,jf,je,rfl⟩
           have og:t<2:=ht;have eT:(0:Int)+(t:Int)=(t:Int):=by omega
           have FC:fo [V.ref (A 0).a,.ref (A 1).a] (0+(t:Int))=some (.ref (A t).a):=by rcases(show t=0\/t=1 by omega)with rfl|rfl<;>rfl
           have wW:fo [V.ref (A 0).d,.ref (A 1).d] (0+(t:Int))=some (.ref (A t).d):=by rcases(show t=0\/t=1 by omega)with rfl|rfl<;>rfl
           have hok:=L7.two.ok t og;obtain⟨qc,lv,gv,sv,bv,cv,rv,fL⟩:=(L7.two.sim t og).ob;have ez:=fL.1;have r1:=fL.2.1;have r2:=fL.2.2.1;have r3:=fL.2.2.2.1;have r4:=fL.2.2.2.2.1;have r5:=fL.2.2.2.2.2.1;have r6:=fL.2.2.2.2.2.2;obtain⟨ia',M0,ei,hia,mO⟩:=jo CT;cases ei;obtain⟨ga,rfl,hg⟩:=o5 r3;have yS:=iI.len;have gl:(cG (S t)).length=M.rs.length:=(L7.on t og).len;have ln:ms.length=(cG (S t)).length:=by rw[gl];exact KS.len
           refine⟨_,rfl,_,rfl,.inl ⟨ls,_,_,_,rfl,rfl,aw.of L7.hs,wW,(A t).d,_,rfl,dg ez EE,_,rfl,.inr ⟨ia,_,1,.ref M0,rfl,rfl,hia,rfl,ga,M0,rfl,⟨_,hg⟩,⟨_,mO⟩,fun D1 H8 n8=>?_⟩⟩⟩;refine Fm hg mO ln (by omega) n8 (fun x y H Q h=>⟨_,rfl,_,rfl,_,_,rfl,rfl,h⟩) fun H9 s9 d9=>?_;refine⟨D1,_,rfl,.inl ⟨aw.of d9,fun te eR jH=>?_⟩⟩;have gC:=s9.trans jH.same;obtain⟨ma,mb,emv,fA,gE⟩:=jn (RD.mono gC _ L7.rm);have M9:aB K eR te ((dS (cG (S t)) ms).map V.int):=aB.of jH.at';have la:(dS (cG (S t)) ms).length=M.rs.length:=by rw[ng ln];exact gl
           subst emv;refine⟨_,rfl,_,rfl,.inr ⟨ma,_,0,.ref mb,rfl,rfl,fA,rfl,te,mb,rfl,⟨_,M9⟩,⟨_,gE⟩,fun D2 fE eg=>?_⟩⟩;refine NL M9 gE la (by omega) eg (fun x y H Q h=>?_) fun nv bs iV d12 eb=>?_
           · refine⟨_,rfl,_,_,rfl,rfl,_,rfl,?_⟩
             refine cV (fun h0=>?_) (fun h0=>?_)
             · rw[h0,jy]at h
               exact⟨_,rfl,_,_,rfl,rfl,h⟩
             · rw[uA.mpr h0,jd]at h
               exact h
           refine⟨D2,_,rfl,aw.of d12,?_⟩;rw[eb];have Cv:=gC.trans iV;have L8:=L7.same Cv;have CS:=RD.mono Cv _ CT;have hR:=L8.two.run t og;have hZ:=L8.two.sim t og;have gx:=hok.row.no;have fz:=L8.two.nd t og;simp only[Ad.all,nL,bW,da,dB,not_or]at fz;have ad:=fz.1.2.1;have ae:=fz.1.2.2.1;have at':=fz.1.2.2.2;have qd:=fz.2.1.1;have qe:=fz.2.1.2.1;have qt:=fz.2.1.2.2;have de:=fz.2.2.1.1;have dt:=fz.2.2.1.2;have et:=fz.2.2.2.1;obtain⟨dx,vM,wO,bV,tv,wj⟩:=hR.ob;have er:=wj.1;obtain⟨zs,wk⟩:=hZ.qu;have eqz:=wk.1;have Ut:=wk.2;have lz:=Ut.length;have ez8:=Cv _ _ ez;have mG:uj M.rs.length (fy ms sp) (some (ms,sp)):=⟨.inl ⟨ms,sp,rfl,rfl⟩,fun n' s' e=>by cases e;exact⟨KS,gd,gL⟩,fun e=>by cases e⟩;dsimp only[eQ];refine Zs (lI M.rs (dS (cG (S t)) ms)=true/\(S t).ds.length<20) (fun g=>?_) ?_ (fun hy hn=>?_)
           · have yB:j7 M.rs (gF (cG (S t)) (some (ms,sp))):=(Wj la).mp g.1
             refine⟨_,rfl,_,rfl,.inl ⟨lr,_,_,_,rfl,rfl,aw.of L8.hr,FC,(A t).a,dx,_,rfl,er,rfl,_,rfl,(A t).a,(A t).q,M,_,S t,.ref ia,fy ms sp,some (ms,sp),rfl,hR,hok,iI,CS,mG,yB,g.2,fun A4 Ov uc=>?_⟩⟩;have jf:=hR.v uc;have mz:∀{x},x≠(A t).a->x≠(A t).q->x∉[(A t).a,(A t).q]:=fun h1 h2=>by simp[h1,h2]
             have lO:∀{x},x≠(A t).d->x≠(A t).e->x∉[(A t).d,(A t).e]:=fun h1 h2=>by simp[h1,h2]
             have Ol:=hZ.go gx jf (fun o e=>uc _ _ e (mz (cC ad) (cC qd))) (fun o e=>uc _ _ e (mz (cC ae) (cC qe)));have ZT:=uc _ _ L8.hs (fun m=>L8.nx _ (.inr rfl) t og (by simp[Ad.all]at m⊢;rcases m with m|m<;>simp[m]));have JZ:=RD.v jf _ (vU _ _) CS;refine⟨_,rfl,_,rfl,.inl ⟨ls,_,_,_,rfl,rfl,aw.of ZT,wW,_,rfl,(A t).d,(A t).e,(A t).t,M,_,S t,.ref ia,fy ms sp,some (ms,sp),rfl,Ol,hok,iI,JZ,mG,fun ho=>?_,fun _ hl=>?_,fun _ _ FY Z14 wU=>?_⟩⟩
             ·rw[show lI M.rs (gF (cG (S t)) (some (ms,sp)))=true from g.1]at ho;cases ho
             ·exact absurd hl (by omega)
             refine⟨_,_,.int _,rfl,dG _,dG _,lJ _,fun H15 lB=>⟨_,rfl,bf ?_⟩⟩;have yE:bQ M (64+10*(3*i+t+1)) (kO (S t) (fy ms sp) (some (ms,sp))):=(hok.fed mG g.2).mono (by omega) (by omega);have je:=Ol.v wU;have R14:=Ov.go yE.row.no je (fun o e=>wU _ _ e (lO ad ae)) (fun o e=>wU _ _ e (lO qd qe));have UG:=RD.mono lB _ (RD.v je _ (vU _ _) JZ);refine⟨_,_,L8.Ax og (kO (S t) (fy ms sp) (some (ms,sp))) (fun b o eb hb=>lB _ _ (wU _ _ (uc _ _ eb (mz ?_ ?_)) (lO ?_ ?_))) (fun o e=>lB _ _ (wU _ _ (uc _ _ e (mz (cC at') (cC qt))) (lO (cC dt) (cC et)))) (R14.same yE.row.no lB) (Z14.same yE.row.no lB) yE (by omega) (by rw[MK];exact yB),UG,_,_,_,rfl⟩;all_goals exact fun z=>hb (by rw[z];simp[Ad.all])
           ·exact⟨A,S,L8.mono (by omega) (by omega),CS,_,_,_,rfl⟩
           · refine⟨_,rfl,_,rfl,?_⟩
             refine cV (fun c1=>?_) (fun c1=>hn);refine⟨_,rfl,_,rfl,.inl ⟨ls,_,_,_,rfl,rfl,aw.of L8.hs,wW,(A t).d,_,rfl,dg ez8 jT,(A t).e,zs,rfl,.inl (aw.of eqz),_,_,rfl,rfl,_,rfl,?_⟩⟩;refine cV (fun c2=>?_) (fun c2=>hn);have c2':((zs.length:Nat):Int)<20:=ja c2;have hy:=hy ⟨c1,by omega⟩;refine⟨_,rfl,_,rfl,.inl ⟨_,_,rfl,rfl,_,rfl,?_⟩⟩;refine cV (fun c3=>hy) (fun c3=>?_);refine⟨_,rfl,.inl ⟨_,_,rfl,rfl,_,rfl,?_⟩⟩;exact cV (fun c4=>hy) (fun c4=>hn)
         · rintro σ H7 ⟨A,S,L7,CT,iA,jf,je,rfl⟩
           exact⟨A,S,L7.mono (by show 3*i+2<=_;omega) (by omega),_,_,_,_,_,_,_,_,_,_,_,_,rfl⟩
     · rintro σ H6 ⟨A,S,L6,v1,v6,v7,v8,v9,v10,v11,iA,jf,je,pj,ph,rfl⟩
       have rt:∀{H7:Hp}(j:Nat)(Q':VK),j<2->ai H6 H7->(∀H8,ai H7 H8->Q' (.bl true) H8)->AN K C [.ref (A j).a,.ref (A j).d] H7 Q' E0:=fun{H7} j Q' hj s7 kq=>by have T:=L6.two.same s7;exact⟨_,_,_,_,_,M,_,_,rfl,T.run j hj,T.sim j hj,T.ok j hj,iI,(T.told j hj).at (by omega),kq⟩
       refine⟨_,rfl,.inl ⟨lr,_,0,_,rfl,rfl,aw.of L6.hr,rfl,_,rfl,.inl ⟨ls,_,0,_,rfl,rfl,aw.of L6.hs,rfl,?_⟩⟩⟩;refine rt 0 _ (by decide) (ai.refl _) fun H7 s7=>⟨_,rfl,bf ?_⟩;refine⟨_,rfl,.inl ⟨lr,_,1,_,rfl,rfl,aw.of (s7 _ _ L6.hr),rfl,_,rfl,.inl ⟨ls,_,1,_,rfl,rfl,aw.of (s7 _ _ L6.hs),rfl,?_⟩⟩⟩;refine rt 1 _ (by decide) s7 fun H8 s8=>⟨_,rfl,bf ?_⟩;exact⟨A,S,(L6.same (s7.trans s8)).mono (by omega) (by omega),_,_,_,_,_,_,_,_,_,_,_,_,rfl⟩
   · rintro σ H2 ⟨A,S,xg,v1,v6,v7,v8,v9,v10,v11,iA,jf,je,pj,ph,rfl⟩
     exact k _
end
end Lw
namespace Lw
open PySem PySem.Spec PyProof.Rows L2
structure Ot(K:a5w)(mg:Str->Option Value)(C:Addr):Prop where
 tc:fM K C
 init:CA K mg C "Runner" "Runner.__init__" BH
 m_place:MA K C "place" "Runner.place" BE
 m_leads_to:MA K C "leads_to" "Runner.leads_to" BG
 m_square:MA K C "square" "Runner.square" Bz
 m_rate:MA K C "rate" "Runner.rate" BD
 m_tool:MA K C "tool" "Runner.tool" Bx
 m_waiting:MA K C "waiting" "Runner.waiting" Bw
 m_is_held:MA K C "is_held" "Runner.is_held" BK
 m_stands:MA K C "stands" "Runner.stands" BC
 m_is_halted:MA K C "is_halted" "Runner.is_halted" BJ
 m_feed:MA K C "feed" "Runner.feed" BM
 m_entries:MA K C "entries" "Runner.entries" BO
 m_entries_of_first:MA K C "entries_of_first" "Runner.entries_of_first" BN
 m_steps_of_first:MA K C "steps_of_first" "Runner.steps_of_first" BB
 m_next_square:MA K C "next_square" "Runner.next_square" BF
 m_end_first:MA K C "end_first" "Runner.end_first" BP
 m_stops_in:MA K C "stops_in" "Runner.stops_in" BA
 m_hold:MA K C "hold" "Runner.hold" BI
 m_go:MA K C "go" "Runner.go" BL
structure All(K:a5w)(mg:Str->Option Value):Prop where
 B:bB mg
 g_NOUGHT:GT K mg "NOUGHT" [.int 0,.int 1]
 g_SIDES:GT K mg "SIDES" [.str "up",.str "down"]
 g_LEAST_RATE:GV mg "LEAST_RATE" (.int 10)
 g_GREATEST_RATE:GV mg "GREATEST_RATE" (.int 200)
 g_FIRST_RATE:GV mg "FIRST_RATE" (.int 100)
 g_MOST_WAITING:GV mg "MOST_WAITING" (.int 20)
 g_MOST_STEPS:GV mg "MOST_STEPS" (.int 100)
 g_GREATEST_SPEED:GV mg "GREATEST_SPEED" (.int 20)
 g_LONGEST_WAIT:GV mg "LONGEST_WAIT" (.int 1000)
 g_LONGEST_NAME:GV mg "LONGEST_NAME" (.int 8)
 g_LETTERS:GV mg "LETTERS" (.str ud)
 f_is_whole:FA K mg "is_whole" Ca
 f_is_whole_within:FA K mg "is_whole_within" Ba
 f_fraction:FA K mg "fraction" Cg
 f_plus_whole:FA K mg "plus_whole" BS
 f_minus:FA K mg "minus" BW
 f_times:FA K mg "times" Bf
 f_is_less:FA K mg "is_less" C2
 f_least:FA K mg "least" C3
 f_lowest_terms:FA K mg "lowest_terms" C6
 f_common_divisor:FA K mg "common_divisor" Co
 f_lead_of:FA K mg "lead_of" C4
 f_ways_of:FA K mg "ways_of" B9
 f_stand_at:FA K mg "stand_at" Bl
 f_step_rows:FA K mg "step_rows" Bt
 f_nearest:FA K mg "nearest" BU
 f_corner_square:FA K mg "corner_square" Cm
 f_top_square:FA K mg "top_square" Be
 f_is_rate:FA K mg "is_rate" C8
 f_greatest_turn:FA K mg "greatest_turn" Bb
 f_is_place:FA K mg "is_place" Cc
 f_is_item:FA K mg "is_item" Ce
 f_is_line:FA K mg "is_line" C9
 f_place_behind:FA K mg "place_behind" Cr
 f_moved:FA K mg "moved" BV
 f_are_steps:FA K mg "are_steps" Cu
 f_is_short_item:FA K mg "is_short_item" Cb
 f_is_name:FA K mg "is_name" Cd
 f_own_bounds:FA K mg "own_bounds" yb
 f_bound_between:FA K mg "bound_between" Cq
 f_kept_by_fall:FA K mg "kept_by_fall" Ci
 f_ticks_of:FA K mg "ticks_of" Bh
 f_are_enough:FA K mg "are_enough" Ck
 f_step_entry:FA K mg "step_entry" Cj
 f_reach_behind_first:FA K mg "reach_behind_first" Bv
 f__law_bag:FA K mg "_law_bag" Ct
 f__law_take:FA K mg "_law_take" Bi
 f__law_number:FA K mg "_law_number" C7
 f__law_frac:FA K mg "_law_frac" Cf
 f__law_sum:FA K mg "_law_sum" Bj
 f__law_less:FA K mg "_law_less" C1
 f__law_min:FA K mg "_law_min" BX
 f__law_machine:FA K mg "_law_machine" BZ
 f__law_place:FA K mg "_law_place" BR
 f__law_line:FA K mg "_law_line" C0
 f__law_lead:FA K mg "_law_lead" C5
 f__law_stand:FA K mg "_law_stand" Bk
 f__law_top:FA K mg "_law_top" Bc
 f__law_bounds:FA K mg "_law_bounds" Cp
 f__law_ticks:FA K mg "_law_ticks" Bg
 f__law_alike:FA K mg "_law_alike" yd
 f__law_sim:FA K mg "_law_sim" Bm
 f__law_sim_feed:FA K mg "_law_sim_feed" Br
 f__law_reach:FA K mg "_law_reach" Bp
 f__law_sim_step:FA K mg "_law_sim_step" Bo
 f__law_sim_entries:FA K mg "_law_sim_entries" Bs
 f__law_sim_stops:FA K mg "_law_sim_stops" Bn
 f__law_sim_hold:FA K mg "_law_sim_hold" Bq
 f__law_right:FA K mg "_law_right" Bu
 law:FA K mg "law" uS
 rc:∃C,Ot K mg C
theorem a3R{P:a5y}{w:World}{K:a5w}{mg:Str->Option Value}{base:Heap}{f:Addr}{fd:FuncData}(A:All K mg)(F:kT K "law" "law" uS f fd):iR P w K mg base jZ 13 f fd ["_law_script"] (Il K):=by have tk:aj P w K mg base "_law_take" 1 rE:=Ww A.f__law_take A.B;have cd:aj P w K mg base "common_divisor" 1 AY:=XB A.f_common_divisor A.B;have lt:aj P w K mg base "lowest_terms" 2 rH:=Xf A.f_lowest_terms A.B cd;have iw:aj P w K mg base "is_whole" 1 (rK K):=Xo A.f_is_whole A.B;have ww:aj P w K mg base "is_whole_within" 2 (pI K):=Wn A.f_is_whole_within A.B iw;have fn:aj P w K mg base "fraction" 3 (rF K):=Xw A.f_fraction A.B iw lt;have ld:aj P w K mg base "lead_of" 1 (ki K):=Xl A.f_lead_of A.B;have ls:aj P w K mg base "is_less" 1 (rJ K):=Xj A.f_is_less A.B;have cp:aj P w K mg base "corner_square" 6 (AZ K):=XA A.f_corner_square A.B (Wq A.f_greatest_turn A.B (Wo A.f_ways_of A.B ld fn) (Xc A.f_minus A.B lt) ls) fn;have Zf:aj P w K mg base "is_rate" 3 (AQ K):=Xp A.f_is_rate A.B A.g_LEAST_RATE A.g_GREATEST_RATE ww;have tp:aj P w K mg base "top_square" 4 (xY K):=Ws A.f_top_square A.B Zf fn;have zd:aj P w K mg base "is_line" 1 (rL K):=Xq A.f_is_line A.B;have lst:aj P w K mg base "least" 2 (iB K):=Xk A.f_least A.B ls;have O5:aj P w K mg base "bound_between" 7 (y8 K):=XD A.f_bound_between A.B A.g_NOUGHT zd tp cp lst;have own:aj P w K mg base "own_bounds" 8 (Ij K):=X9 A.f_own_bounds A.B A.g_NOUGHT O5;have pw:aj P w K mg base "plus_whole" 4 (y4 K):=X5 A.f_plus_whole A.B;have nr:aj P w K mg base "nearest" 1 AS:=Xa A.f_nearest A.B;have Hm:aj P w K mg base "stand_at" 2 (xZ K):=Wz A.f_stand_at A.B ld nr;have sr:aj P w K mg base "step_rows" 3 (AM K):=WR A.f_step_rows A.B ld Hm;have ent:aj P w K mg base "step_entry" 3 (AX K):=Xy A.f_step_entry A.B (Wv A.f_ticks_of A.B (Xz A.f_are_enough A.B));have ln:aj P w K mg base "_law_line" 2 (AU K):=Xh A.f__law_line A.B tk;have Zb:aj P w K mg base "is_item" 4 (AV K):=Xu A.f_is_item A.B A.g_GREATEST_SPEED ww (XG A.f_are_steps A.B A.g_MOST_STEPS ww) (Xr A.f_is_short_item A.B A.g_LONGEST_WAIT A.g_SIDES ww (Xt A.f_is_name A.B A.g_LONGEST_NAME A.g_LETTERS));have Zc:aj P w K mg base "is_place" 3 (AW K):=Xs A.f_is_place A.B ww;have Lg:aj P w K mg base "moved" 1 (y6 K):=Xb A.f_moved A.B;have Ft:aj P w K mg base "place_behind" 2 (uN K):=XE A.f_place_behind A.B zd Lg;have Sd:aj P w K mg base "times" 3 (lj (·*·) K):=Wt A.f_times A.B lt;have UU:aj P w K mg base "reach_behind_first" 9 (AO K):=X4 A.f_reach_behind_first A.B (X8 A.f_own_bounds A.B A.g_NOUGHT O5) (Xx A.f_kept_by_fall A.B zd ld pw lst);obtain⟨C,R⟩:=A.rc;have TC:=R.tc;have yk:=WX (P:=P) (w:=w) (mg:=mg) (base:=base) R.m_is_held TC;have Up:=WN (P:=P) (w:=w) (base:=base) R.m_stands TC A.g_NOUGHT;have K0:=WW R.m_is_halted TC yk Up;have UC:=WT R.m_leads_to TC Ft;have UL:=X0 R.m_feed TC A.B A.g_MOST_WAITING Zb Zc Ft UC;have Uz:=WS R.m_next_square TC pw Sd fn lst yk;have ref:=X3 R.m_end_first TC Ft;have Uo:=WM R.m_steps_of_first TC A.B ld sr tp UU ent K0 Uz ref;have UN:=X1 R.m_entries_of_first TC zd Uo ref;have UP:=X2 R.m_entries TC A.B K0 UN;have Um:=WL (P:=P) (w:=w) (mg:=mg) (base:=base) R.m_stops_in TC;have UJ:=WV R.m_hold TC Um yk;have UK:=WZ (P:=P) (w:=w) (base:=base) R.m_go TC A.B;have rS:=WQ R.m_place TC Lg Hm;have Uh:=WI (P:=P) (w:=w) (base:=base) R.m_waiting TC A.B;have Ul:=WK (P:=P) (w:=w) (mg:=mg) (base:=base) R.m_square TC;have rrt:=WO (P:=P) (w:=w) (mg:=mg) (base:=base) R.m_rate TC;have rto:=WJ (P:=P) (w:=w) (mg:=mg) (base:=base) R.m_tool TC;have yX:=Xv (P:=P) (w:=w) (base:=base) A.f__law_frac A.B;have DN:=Xd A.f__law_min A.B (Xi (P:=P) (w:=w) (base:=base) A.f__law_less A.B);have Lr:=Wx A.f__law_sum A.B yX;have Lq:=Wr A.f__law_top A.B yX;have yW:=Xm (P:=P) (w:=w) (base:=base) A.f__law_lead A.B;have Td:=WA (P:=P) (w:=w) (base:=base) A.f__law_sim_stops A.B;have Te:=WB A.f__law_sim_step A.B yW (WC A.f__law_reach A.B (XC A.f__law_bounds A.B yW DN Lq yX) Lr yW DN) Lq Lr yX (Wy A.f__law_stand A.B yW) DN (Wu A.f__law_ticks A.B);have yV:=Xg (P:=P) (w:=w) (base:=base) A.f__law_number A.B;have al:=yF (by decide) A.f__law_alike A.B yV (yF (by decide) A.f__law_alike A.B yV (yF (by decide) A.f__law_alike A.B yV (yF (by decide) A.f__law_alike A.B yV (XH (P:=P) (w:=w) (base:=base) A.f__law_alike A.B))));exact Xn F TC A.B (XF A.f__law_bag A.B) tk (Xe A.f__law_machine A.B tk) (X7 A.f__law_place A.B tk) ln (WU R.init TC A.g_NOUGHT A.g_FIRST_RATE) (WD A.f__law_sim A.B) UL (WG A.f__law_sim_feed A.B) UJ (WE A.f__law_sim_hold A.B Td) UK UP (WH A.f__law_sim_entries A.B Te) al (WY A.f__law_right A.B TC al Uh rS Ul yk)
end Lw
def PySem.W.Fast.tw4606897854939335726:PySem.Program:=PySem.Challenge.pw_glidequeue_k44_two_runners
theorem PySem.W.Fast.te4606897854939335726:PySem.Challenge.pw_glidequeue_k44_two_runners=PySem.W.Fast.tw4606897854939335726:=rfl
local macro_rules|`(command|universe $x:ident)=>return Lean.mkNullNode (<-((x.getId.toString.splitOn "_").drop 1).toArray.mapM fun i=>`(command|theorem $(Lean.mkIdent (`_root_.PySem.W.Fast++Lean.Name.mkSimple s!"tw{(`PySem.Challenge.cw_glidequeue_k44_two_runners_holds++Lean.Name.mkSimple ((match i.front with|'h'=>"heap"|'t'=>"tree"|'v'=>"view"|'s'=>"sts"|'e'=>"env"|_=>"o")++"_"++(i.drop 1).toString)).hash}")):ident:True:=True.intro))
universe t_h808_h39_t800_t717_t807_v39_t629_t543_t373_t331_t266_s718_s374_o801_o718_s633_t188_o633_s189_o807_o805_s801_o772_o332_o374_o774_s332_o267_t137_o189_t115_o738_o736_o705_o760_s267_o494_o487_o767_o492_o485_o707_s138_o762_t100_o779_o750_o800_o798_o538_o769_o466_o378_o710_o295_o345_o712_o464_o245_o781_o748_o352_o350_o243_o317_o757_o138_o293_o285_t85_o755_o287_o558_o695_o319_o282_o556_o280_o693_o343_o480_o726_o745_o338_o648_o724_o336_o646_o329_o264_o166_o478_o473_o116_o515_o565_o326_o240_o471_o331_o101_o238_t70_o359_o259_o743_o235_o653_o547_o86_o197_o314_o324_o257_o312_o186_o172_o188_o357_o655_o667_o195_o572_o71_o252_o490_o266_o233_o700_o174_o49_o366_o501_o159_o394_o669_o371_o508_o225_o795_o698_o204_o506_o641_o513_o202_o364_o717_o793_o309_o570_o639_o373_o230_o223_o228_o520_o662_o499_o537_o715_o690_o788_o218_o181_o628_o211_o522_o703_o786_o216_o586_o250_o179_o164_o209_o688_o452_o660_o307_o676_o275_o83_o157_o483_o273_o683_o438_o733_o121_o536_o674_o445_o278_o457_o731
open PySem PySem.W PyProof.Rows
set_option maxRecDepth 100000 in
set_option maxHeartbeats 0 in
theorem PySem.Challenge.cw_glidequeue_k44_two_runners_holds : PySem.Challenge.rw_glidequeue_k44_two_runners.Holds := by
 w_on; o_law; k_head; (case hw=>w_witness2)
 k_fill
 refine L2.YR (l:=PySem.Challenge.rw_glidequeue_k44_two_runners) (k:=13) (x:="_law_script") (st:=Lw.uS) rfl rfl ⟨rfl,by decide,by decide⟩ (fun w h Y=>PySem.W.kIn_of Y) Lw.All ?F (fun _ _ A=>A.law) (fun _ _ _ _ _ _ _=>rfl) (fun _ _ _ _ _ _ _ A F=>Lw.a3R A F)
 case F=>
  intro w mg h KX G
  refine⟨L2.a3B KX G ?b,?x1,?x2,?x3,?x4,?x5,?x6,?x7,?x8,?x9,?x10,?x11,?x12,?x13,?x14,?x16,?x17,?x18,?x19,?x20,?x21,?x22,?x23,?x24,?x25,?x26,?x27,?x28,?x29,?x30,?x31,?x32,?x33,?x34,?x35,?x36,?x37,?x38,?x39,?x40,?x41,?x42,?x43,?x44,?x45,?x46,?x47,?x48,?x49,?x50,?x51,?x52,?x53,?x54,?x55,?x56,?x57,?x58,?x59,?x60,?x61,?x62,?x63,?x64,?x65,?x66,?x67,?x68,?x69,?x70,?x71,?x72⟩
  case b=>(unfold L2.zQ; repeat (refine L2.oO.cons ?z ?_; (case z=>k_is))); exact L2.oO.nil
  case x1=>refine' L2.MI KX G ?a ?l ?z ?r; (case a=>k_is); (case l=>k_is); (case z=>decide); (case r=>exact .cons ⟨_,rfl⟩ (.cons ⟨_,rfl⟩ .nil))
  case x2=>refine' L2.MI KX G ?a ?l ?z ?r; (case a=>k_is); (case l=>k_is); (case z=>decide); (case r=>exact .cons ⟨_,rfl⟩ (.cons ⟨_,rfl⟩ .nil))
  case x3=>(refine' L2.oB KX G ?z; (case z=>k_is))
  case x4=>(refine' L2.oB KX G ?z; (case z=>k_is))
  case x5=>(refine' L2.oB KX G ?z; (case z=>k_is))
  case x6=>(refine' L2.oB KX G ?z; (case z=>k_is))
  case x7=>(refine' L2.oB KX G ?z; (case z=>k_is))
  case x8=>(refine' L2.oB KX G ?z; (case z=>k_is))
  case x9=>(refine' L2.oB KX G ?z; (case z=>k_is))
  case x10=>(refine' L2.oB KX G ?z; (case z=>k_is))
  case x11=>(refine' L2.a1W KX G ?z; (case z=>k_is))
  case x72=>
   refine' Exists.intro _ (Lw.Ot.mk (Lw.fM.mk (L2.jt.mk ?pg ?hd ?po ?sa) ?n1 ?n2 ?n3 ?n4 ?n5 ?n6 ?n7 ?n8 ?n9) (L2.a3x KX G ?aC ?mk ?kc ?ia ?ii ?il ?ic ?ik) (L2.gR ?a0 ?i0 ?l0 ?c0 ?k0) (L2.gR ?a1 ?i1 ?l1 ?c1 ?k1) (L2.gR ?a2 ?i2 ?l2 ?c2 ?k2) (L2.gR ?a3 ?i3 ?l3 ?c3 ?k3) (L2.gR ?a4 ?i4 ?l4 ?c4 ?k4) (L2.gR ?a5 ?i5 ?l5 ?c5 ?k5) (L2.gR ?a6 ?i6 ?l6 ?c6 ?k6) (L2.gR ?a7 ?i7 ?l7 ?c7 ?k7) (L2.gR ?a8 ?i8 ?l8 ?c8 ?k8) (L2.gR ?a9 ?i9 ?l9 ?c9 ?k9) (L2.gR ?a10 ?i10 ?l10 ?c10 ?k10) (L2.gR ?a11 ?i11 ?l11 ?c11 ?k11) (L2.gR ?a12 ?i12 ?l12 ?c12 ?k12) (L2.gR ?a13 ?i13 ?l13 ?c13 ?k13) (L2.gR ?a14 ?i14 ?l14 ?c14 ?k14) (L2.gR ?a15 ?i15 ?l15 ?c15 ?k15) (L2.gR ?a16 ?i16 ?l16 ?c16 ?k16) (L2.gR ?a17 ?i17 ?l17 ?c17 ?k17))
   (case aC=>k_is)
   case n1 | n2 | n3 | n4 | n5 | n6 | n7 | n8 | n9=>(unfold L2.iy; k_is)
   case pg | hd | po | sa | mk | kc | ia | ii | il | ic | ik | a0 | i0 | l0 | c0 | k0 | a1 | i1 | l1 | c1 | k1 | a2 | i2 | l2 | c2 | k2 | a3 | i3 | l3 | c3 | k3 | a4 | i4 | l4 | c4 | k4 | a5 | i5 | l5 | c5 | k5 | a6 | i6 | l6 | c6 | k6 | a7 | i7 | l7 | c7 | k7 | a8 | i8 | l8 | c8 | k8 | a9 | i9 | l9 | c9 | k9 | a10 | i10 | l10 | c10 | k10 | a11 | i11 | l11 | c11 | k11 | a12 | i12 | l12 | c12 | k12 | a13 | i13 | l13 | c13 | k13 | a14 | i14 | l14 | c14 | k14 | a15 | i15 | l15 | c15 | k15 | a16 | i16 | l16 | c16 | k16 | a17 | i17 | l17 | c17 | k17=>k_is
  all_goals (refine' L2.a2g KX G ?a ?l ?c ?k; (case a=>k_is); (case l=>k_is); (case c=>k_is); (case k=>k_is))
#print axioms PySem.Challenge.cw_glidequeue_k44_two_runners_holds
