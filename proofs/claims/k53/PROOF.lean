import PyProof.Rows.All
import Wide.All
import OpenK.AllK
import Wide.FinOn
import Lean
import PyProof.EqAt
import PyProof.EqKinds
import PyProof.TupleCall
import PySem.Challenge.RW_glidequeue_k53_items_read
set_option Elab.async false
set_option linter.all false
set_option maxRecDepth 100000
abbrev a7:=@PySem.wpAny_bind
abbrev ak:=@Nat.le_refl
abbrev aw:=@PySem.Heap.lt_size
abbrev aA:=@PySem.wpAny_pure
abbrev aC:=@PySem.Heap.get?_push_of_some
abbrev aD:=@if_pos
abbrev aE:=@if_neg
abbrev aG:=@List.length_map
abbrev aW:=@List.mem_cons
abbrev bf:=@List.size_toArray
abbrev bh:=@PySem.Heap.get?_push_size
abbrev bw:=@Nat.ne_of_lt
abbrev bz:=@List.mem_map
abbrev bC:=@List.getElem?_map
abbrev bE:=@PySem.strLen_append
abbrev bF:=@Bool.false_ne_true
abbrev bH:=@decide_eq_true
abbrev bI:=@Nat.zero_le
abbrev bK:=@List.all_eq_true
abbrev bL:=@Bool.and_eq_true
abbrev bP:=@Option.some.inj
abbrev bQ:=@decide_eq_false
abbrev bR:=@List.mem_singleton
abbrev c8:=@Nat.lt_of_lt_of_le
abbrev cD:=@beq_iff_eq
abbrev cE:=@Nat.le_trans
abbrev cF:=@List.mem_of_getElem?
abbrev cG:=@List.lookup_cons
abbrev cR:=@List.mem_append_right
abbrev dc:=@PySem.wpAny_field
abbrev de:=@Bool.true_and
abbrev df:=@Bool.false_and
abbrev dw:=@List.not_mem_nil
abbrev dy:=@List.length_append
abbrev dz:=@List.getElem?_eq_getElem
abbrev dA:=@Int.le_refl
abbrev dU:=@List.mem_append
abbrev dW:=@List.getElem?_eq_some_iff
abbrev dX:=@Array.length_toList
abbrev eF:=@PySem.wpAny_truthy_bool
abbrev eG:=@PyProof.Rows.boot_tuple
abbrev eH:=@Bool.eq_iff_iff
abbrev ff:=@PySem.wpAny_mono
abbrev fg:=@PySem.wpAny_holding
abbrev fh:=@PySem.intBits_le_64
abbrev fi:=@congrArg
abbrev fj:=@List.map_append
abbrev fk:=@List.length_cons
abbrev fm:=@Array.toList_append
abbrev fF:=@PySem.wpAny_newObj_type
abbrev fG:=@or_false
abbrev fH:=@PySem.StrLaws.glued_eq_join
abbrev fI:=@PyProof.Rows.boot_str
abbrev gG:=@PySem.wpAny_seqItems
abbrev gH:=@PySem.Str.cps_append
abbrev gI:=@PySem.Heap.size_push
abbrev ie:=@PySem.wpAny_passesOwn
abbrev ij:=@of_decide_eq_true
abbrev ik:=@PySem.PassesOwn.never
abbrev il:=@Nat.lt_irrefl
abbrev ip:=@List.map_cons
abbrev iq:=@List.length_take
abbrev jk:=@PySem.wpAny_setField_rec
abbrev jl:=@PySem.wpAny_pyIter_list
abbrev jm:=@PySem.wpAny_call_entry
abbrev jn:=@PySem.wpAny_callSpecial?_slot
abbrev jo:=@PySem.typeIs_str
abbrev jq:=@PySem.F.plainAttrs_str
abbrev jr:=@PyProof.Rows.slot_tuple_getitem
abbrev jt:=@Nat.pow_succ
abbrev ju:=@Nat.ne_of_gt
abbrev jv:=@Nat.lt_trans
abbrev jw:=@List.length_singleton
abbrev kW:=@PySem.wpAny_typeOf
abbrev kX:=@PySem.sizeLine_eq
abbrev kY:=@PySem.mem_of_lookup
abbrev kZ:=@PyProof.Rows.callWith_type1
abbrev l4:=@PyProof.Rows.boot_all
abbrev l5:=@Nat.le_of_lt
abbrev l8:=@List.mem_cons_of_mem
abbrev l9:=@List.any_cons
abbrev la:=@List.all_cons
abbrev lh:=@Int.emod_nonneg
abbrev lj:=@Int.emod_lt_of_pos
abbrev lq:=@Bool.not_eq_true'
abbrev lu:=@Bool.eq_false_iff
abbrev oT:=@PySem.wpAny_execs_nil
abbrev oU:=@PySem.intText_digits
abbrev oW:=@decide_eq_true_eq
abbrev oX:=@PySem.W.mg_of
abbrev oY:=@PySem.F.slot_zip_next
abbrev oZ:=@PySem.F.slot_tuple_iterator_next
abbrev p4:=@Option.map_eq_some_iff
abbrev p5:=@Nat.lt_succ_of_lt
abbrev p6:=@List.take_succ
abbrev p7:=@List.take_length
abbrev p8:=@List.nodup_cons
abbrev p9:=@List.mem_cons_self
abbrev pe:=@List.map_map
abbrev pg:=@List.getElem_mem
abbrev ph:=@List.forIn_cons
abbrev pj:=@List.all_nil
abbrev pk:=@Array.getElem?_eq_getElem
abbrev we:=@PySem.wpAny_updateSeq_pair
abbrev wg:=@ne_true_of_eq_false
abbrev wj:=@beq_self_eq_true
abbrev wk:=@PySem.F.slot_tuple_add
abbrev wm:=@PySem.F.entry_tuple_add
abbrev wo:=@PySem.F.args_tuple_add_2
abbrev wq:=@PyProof.Rows.boot_int
abbrev wt:=@Nat.toDigits_of_lt_base
abbrev wu:=@List.take_of_length_le
abbrev wx:=@List.mem_of_mem_take
abbrev wy:=@List.mem_append_left
abbrev wz:=@List.map_reverse
abbrev wA:=@List.length_replicate
abbrev wB:=@List.getLastD_eq_getLast?
abbrev wC:=@List.getLast?_eq_some_getLast
abbrev wD:=@List.getElem?_replicate
abbrev wF:=@List.getElem?_append_left
abbrev wG:=@List.filterMap_cons
abbrev wH:=@List.append_assoc
abbrev wI:=@Int.natAbs_natCast
abbrev wJ:=@Bool.beq_eq_decide_eq
abbrev wK:=@Array.getElem?_toList
abbrev wL:=@Array.all_eq_true_iff_forall_mem
abbrev Ei:=@PySem.F.entry_tuple_iterator_next
abbrev Ej:=@PySem.F.args_tuple_iterator_next_1
abbrev EY:=PySem.W.Frag
abbrev EZ:=PySem.Shared
abbrev F0:=PySem.Program
abbrev F1:=PySem.PyData
abbrev F2:=PySem.Around
namespace L2
open PySem PySem.Spec PyProof.Rows
abbrev Key:=Sum Int Str
def sH:Key->Value->Bool | .inl k,v=>Value.isInt k v | .inr x,v=>Value.isStrOf x v
def B7(w:World):Key->Int | .inl k=>hashInt k | .inr x=>hashStr w x
theorem eR:∀{k:Key}{v:Value},sH k v=true->(∃i t,k=Sum.inl i/\v=Value.int i t)\/(∃x t,k=Sum.inr x/\v=Value.str x t) | .inl i,v,h=>by obtain⟨t,e⟩:=Value.isInt_shape (k:=i) (v:=v) h;exact .inl ⟨i,t,rfl,e⟩ | .inr x,v,h=>by obtain⟨t,e⟩:=Value.isStrOf_shape (x:=x) (v:=v) h;exact .inr ⟨x,t,rfl,e⟩
theorem B6(a b:Int):decide ((Sum.inl a:Key)=Sum.inl b)=(a==b):=by
 by_cases e:a=b
 ·subst e;simp
 · have h:¬(Sum.inl a:Key)=Sum.inl b:=fun q=>e (Sum.inl.inj q)
   rw[bQ h];exact(beq_eq_false_iff_ne.mpr e).symm
theorem B3(a b:Str):decide ((Sum.inr a:Key)=Sum.inr b)=decide (a=b):=by
 by_cases e:a=b
 ·subst e;simp
 · have h:¬(Sum.inr a:Key)=Sum.inr b:=fun q=>e (Sum.inr.inj q)
   rw[bQ h,bQ e]
theorem B5(a:Int)(b:Str):decide ((Sum.inl a:Key)=Sum.inr b)=false:=bQ (fun q=>nomatch q)
theorem B4(a:Str)(b:Int):decide ((Sum.inr a:Key)=Sum.inl b)=false:=bQ (fun q=>nomatch q)
def nj(prog:F0)(w:World):PySem.KeyKind prog w Key where
 is:=sH
 hash:=B7 w
 inj:=fun v a b ha hb=>by
  rcases eR ha with⟨i,t,rfl,rfl⟩|⟨x,t,rfl,rfl⟩
  · rcases eR hb with⟨j,u,rfl,e⟩|⟨y,u,rfl,e⟩
    ·injection e with e1 _;rw[e1]
    ·exact nomatch e
  · rcases eR hb with⟨j,u,rfl,e⟩|⟨y,u,rfl,e⟩
    ·exact nomatch e
    ·injection e with e1 _;rw[e1]
 byValue:=fun k v h=>by rcases eR h with⟨i,t,rfl,rfl⟩|⟨x,t,rfl,rfl⟩<;>rfl
 pyHash:=fun hv h=>by
  rcases eR hv with⟨i,t,rfl,rfl⟩|⟨x,t,rfl,rfl⟩
  ·exact wpAny_pyHash_int h
  ·exact wpAny_pyHash_str h
 eqBool:=fun hu hv h=>by
  rcases eR hu with⟨i,t,rfl,rfl⟩|⟨x,t,rfl,rfl⟩
  · rcases eR hv with⟨j,u,rfl,rfl⟩|⟨y,u,rfl,rfl⟩
    ·rw[B6]at h;exact wpAny_eqBool_int h
    ·rw[B5]at h;exact SeqAt.EqAt.int_str i t y u _ _ _ _ h
  · rcases eR hv with⟨j,u,rfl,rfl⟩|⟨y,u,rfl,rfl⟩
    ·rw[B4]at h;exact SeqAt.EqAt.str_int x t j u _ _ _ _ h
    ·rw[B3]at h;exact wpAny_eqBool_str h
 «strs»:=fun k x t v h=>by
  rcases eR h with⟨i,u,rfl,e⟩|⟨y,u,rfl,e⟩
  ·exact nomatch e
  · injection e with e1 _
    subst e1;cases v<;>rfl
inductive V where |ay|bl (b:Bool)|int (i:Int)|str (x:Str)|cZ (b:Array UInt8)|o7 (b:UInt64)|ref (a:Addr)|ty (n:String) deriving DecidableEq
def RelV:V->Value->Prop | .ay,u=>u=Value.none | .bl b,u=>u=Value.bool b | .int i,u=>∃t,u=Value.int i t | .str x,u=>∃t,u=Value.str x t | .cZ b,u=>∃t,u=Value.bytes b t | .o7 b,u=>∃t,u=Value.float b t | .ref a,u=>u=Value.ref a | .ty n,u=>u=Value.type n
abbrev Vals:List V->List Value->Prop:=Paired RelV
theorem Vals.length{xs:List V}{us:List Value}(r:Vals xs us):xs.length=us.length:=Paired.length r
theorem Vals.get:∀{xs:List V}{us:List Value}{i:Nat}{x:V},Vals xs us->xs[i]? =some x->∃u,us[i]? =some u/\RelV x u |_,_,_,_,.nil,e=>by simp at e |_,_,0,_,.cons r _,e=>by simp at e;subst e;exact⟨_,rfl,r⟩ |_,_,i+1,x,.cons _ t,e=>by obtain⟨u,h1,h2⟩:=Vals.get (i:=i) (x:=x) t (by simpa using e);exact⟨u,by simpa using h1,h2⟩
theorem Vals.set{x:V}{u:Value}(r:RelV x u):∀{xs:List V}{us:List Value}(i:Nat),Vals xs us->Vals (xs.set i x) (us.set i u) |_,_,_,.nil=>.nil |_,_,0,.cons _ t=>.cons r t |_,_,i+1,.cons q t=>.cons q (Vals.set r i t)
theorem Vals.append:∀{xs ys:List V}{us ws:List Value},Vals xs us->Vals ys ws->Vals (xs++ys) (us++ws) |_,_,_,_,.nil,s=>s |_,_,_,_,.cons r t,s=>.cons r (Vals.append t s)
theorem Vals.take:∀{xs:List V}{us:List Value}(n:Nat),Vals xs us->Vals (xs.take n) (us.take n) |_,_,0,_=>.nil |_,_,_+1,.nil=>.nil |_,_,n+1,.cons r t=>.cons r (Vals.take n t)
theorem Vals.drop:∀{xs:List V}{us:List Value}(n:Nat),Vals xs us->Vals (xs.drop n) (us.drop n) |_,_,0,r=>r |_,_,_+1,.nil=>.nil |_,_,n+1,.cons _ t=>Vals.drop n t
def uH:Option V->Option Value->Prop |some v,some u=>RelV v u |none,none=>True |_,_=>False
def KV{κ:Type}:List (κ×V)->List (κ×Value)->Prop:=Paired fun(p:κ×V)(q:κ×Value)=>p.1=q.1/\RelV p.2 q.2
def kV:Key->V | .inl i=>.int i | .inr x=>.str x
inductive HO where /--a list -/ |lst (xs:List V) /--a tuple (never changes) -/ |tup (xs:List V) /--a dict wV keys are ints and texts; one wV keys are tuples of ints and texts (gL empty one is both) -/ |dK (aX:List (Key×V))|dT (aX:List (List Key×V)) /--a set of ints: its members,its size -/ |set (S:Int->Bool)(n:Nat) /--an instance of gL class at C,its dict at dx,its attributes -/ |ins (C dx:Addr)(fs:List (Str×V)) /--gL dict of gL instance at x -/ |own (x:Addr) /--gL dict of an exception -/ |xd (fs:List (Str×V)) /--a bound method,f of x -/ |met (f x:Addr) /--a range object lo,lo+1,.. below hi -/ |mr (lo hi:Int) /--a xm Ek is known to gL object (gL Er; a dict while a loop walks it): read,never written while it is so -/ |ek (o:Obj)(u:HO) /--a code Et table -/ |fJ (ps:Array Value) /--any other xm,by what is true of its one object (a def of Es own: EU a S n:=HO.ext fun h=>..) -/ |ext (φ:Heap->Prop)
abbrev Hp:=Addr->Option HO
def upd(H:Hp)(a:Addr)(o:HO):Hp:=fun b=>if b=a then some o else H b
theorem cH{H:Hp}{a:Addr}{o:HO}:upd H a o a=some o:=by unfold upd;rw[aD rfl]
theorem aO{H:Hp}{a b:Addr}{o:HO}(h:b≠a):upd H a o b=H b:=by unfold upd;rw[aE h]
theorem sa{H:Hp}{a b:Addr}{o u:HO}(h:H a=some o)(h':H b=some u)(d:o≠u):a≠b:=by intro e;subst e;rw[h]at h';exact d (bP h')
theorem ck{H:Hp}{a b:Addr}{o:HO}(h:H a=some o)(h':H b=none):a≠b:=by intro e;subst e;rw[h]at h';cases h'
section
variable (P:F0) (w:World)
def cQ(H:Hp)(h:Heap)(a:Addr):HO->Prop | .lst xs=>xs.length<=sizeLine/\∃(its:List Value)(n:Nat),Vals xs its/\h.get? a=some {cls:=.type "list",data:=.seq its.toArray n} | .tup xs=>xs.length<=sizeLine/\∃its:List Value,Vals xs its/\IsTup h a its.toArray | .dK aX=>aX.length<=sizeLine/\(a==sysModules)=false/\∃vs,KV aX vs/\h.DictOf (nj P w) a vs | .dT aX=>aX.length<=sizeLine/\(a==sysModules)=false/\∃xs:List (List Key×Addr×Value),Paired (fun(p:List Key×V)(q:List Key×Addr×Value)=>p.1=q.1/\H q.2.1=some (.tup (p.1.map kV))/\RelV p.2 q.2.2) aX xs/\∃o es ep,h.get? a=some o/\o.ExactDict/\o.data= .dict es ep/\es.toList=xs.map (entryOfKey (tupleKind (nj P w)))/\(xs.map (·.1)).Nodup | .set S n=>h.SetOf (intKind P w) a S n | .ins C dx fs=>H dx=some (.own a)/\fs.length<=1000/\dx≠a/\h.get? a=some (PySem.W.instObj C dx)/\∃mA,h.Ns1 dx mA/\(∀f,uH (fs.lookup f) (mA f))/\PySem.Within mA (fs.map (·.1)) | .own _=>∃o,h.get? a=some o | .xd fs=>∃mA,h.Ns1 a mA/\∀f,uH (fs.lookup f) (mA f) | .mr lo hi=>∃t u v,h.get? a=some {cls:=.type "range",data:=.fields #[.int lo t,.int hi u,.int 1 v]} | .ek o u=>h.get? a=some o/\cQ H h a u | .fJ ps=>h.get? a=some {cls:=.none,data:=.fields ps} | .met f x=>h.get? a=some (PySem.W.methodObj (.ref f) (.ref x)) | .ext φ=>φ h/\(∃o,h.get? a=some o)/\∀h1 h2:Heap,φ h1->(∀o,h1.get? a=some o->h2.get? a=some o)->φ h2
def br(H:Hp)(h:Heap):Prop:=∀a o,H a=some o->cQ P w H h a o
end
section
variable {P:F0}{w:World}{H H':Hp}{h h':Heap}{a:Addr}{o:HO}
theorem cQ.lt(x:cQ P w H h a o):a<h.objs.size:=by cases o with |lst xs=>obtain⟨_,_,_,_,e⟩:=x;exact aw e |tup xs=>obtain⟨_,_,_,p⟩:=x;exact p.lt |dK aX=>obtain⟨_,_,_,_,o,_,_,e,_⟩:=x;exact aw e |dT aX=>obtain⟨_,_,_,_,o,_,_,e,_⟩:=x;exact aw e |set S n=>obtain⟨o,_,_,_,e,_⟩:=x;exact aw e |ins C dx fs=>obtain⟨_,_,_,e,_⟩:=x;exact aw e |own y=>obtain⟨_,e⟩:=x;exact aw e |xd fs=>obtain⟨_,⟨_,_,_,e,_⟩,_⟩:=x;exact aw e |mr lo hi=>obtain⟨_,_,_,e⟩:=x;exact aw e |ek ob u=>obtain⟨e,_⟩:=x;exact aw e |fJ ps=>exact aw (show h.get? a=some _ from x) |met f y=>exact aw (show h.get? a=some _ from x) |ext φ=>obtain⟨_,⟨_,e⟩,_⟩:=x;exact aw e
theorem Paired.sr{α β:Type}{F G:α->β->Prop}:∀{l₁:List α}{l₂:List β},Paired F l₁ l₂->(∀a b,F a b->G a b)->Paired G l₁ l₂ |_,_,.nil,_=>.nil |_,_,.cons r t,f=>.cons (f _ _ r) (Paired.sr t f)
theorem cQ.fL(x:cQ P w H h a o)(k:∀b u,(b=a\/H b=some (.own a))->h.get? b=some u->h'.get? b=some u) (ho:∀b,H b=some (.own a)->H' b=some (.own a))(ht:∀b xs,H b=some (.tup xs)->H' b=some (.tup xs)):cQ P w H' h' a o:=by induction o with |lst xs=>obtain⟨z,its,n,r,e⟩:=x;exact⟨z,its,n,r,k _ _ (.inl rfl) e⟩ |tup xs=>obtain⟨z,its,r,ob,e,c⟩:=x;exact⟨z,its,r,ob,k _ _ (.inl rfl) e,c⟩ |dK aX=>obtain⟨z,y,vs,r,ob,es,ep,e,c⟩:=x;exact⟨z,y,vs,r,ob,es,ep,k _ _ (.inl rfl) e,c⟩ |dT aX=>obtain⟨z,y,xs,r,ob,es,ep,e,c⟩:=x;exact⟨z,y,xs,Paired.sr r fun p q z=>⟨z.1,ht _ _ z.2.1,z.2.2⟩,ob,es,ep,k _ _ (.inl rfl) e,c⟩ |set S n=>obtain⟨ob,es,ep,t,e,c⟩:=x;exact⟨ob,es,ep,t,k _ _ (.inl rfl) e,c⟩ |ins C dx fs=>obtain⟨d,z,ne,e,mA,⟨od,es,ep,e2,c⟩,r⟩:=x;exact⟨ho _ d,z,ne,k _ _ (.inl rfl) e,mA,⟨od,es,ep,k _ _ (.inr d) e2,c⟩,r⟩ |own y=>obtain⟨ob,e⟩:=x;exact⟨ob,k _ _ (.inl rfl) e⟩ |xd fs=>obtain⟨mA,⟨od,es,ep,e,c⟩,r⟩:=x;exact⟨mA,⟨od,es,ep,k _ _ (.inl rfl) e,c⟩,r⟩ |mr lo hi=>obtain⟨t,u,v,e⟩:=x;exact⟨t,u,v,k _ _ (.inl rfl) e⟩ |ek ob u ih=>obtain⟨e,q⟩:=x;exact⟨k _ _ (.inl rfl) e,ih q⟩ |fJ ps=>have e:h.get? a=some {cls:=.none,data:=.fields ps}:=x;show h'.get? a=some {cls:=.none,data:=.fields ps};exact k a _ (.inl rfl) e |met f y=>have e:h.get? a=some (PySem.W.methodObj (.ref f) (.ref y)):=x;show h'.get? a=some (PySem.W.methodObj (.ref f) (.ref y));exact k a _ (.inl rfl) e |ext φ=>obtain⟨p,⟨o,e⟩,st⟩:=x;exact⟨st _ _ p fun o q=>k _ _ (.inl rfl) q,⟨o,k _ _ (.inl rfl) e⟩,st⟩
theorem br.lt(x:br P w H h)(e:H a=some o):a<h.objs.size:=(x a o e).lt
theorem br.fresh(x:br P w H h)(e:h.objs.size<=a):H a=none:=by cases q:H a with |none=>rfl |some u=>exact absurd (c8 (x.lt q) e) (il _)
theorem br.kept(x:br P w H h)(k:∀b u,h.get? b=some u->h'.get? b=some u):br P w H h':=fun a o e=>(x a o e).fL (fun b u _ q=>k b u q) (fun _ q=>q) fun _ _ q=>q
theorem br.laid(x:br P w H h)(k:∀b u,h.get? b=some u->h'.get? b=some u)(hp:h.objs.size<=a)(new:cQ P w (upd H a o) h' a o):br P w (upd H a o) h':=fun b u e=>by
 have hn:=x.fresh hp;by_cases hb:b=a
 ·subst hb;rw[cH]at e;cases e;exact new
 · rw[aO hb]at e
   exact(x b u e).fL (fun c v _ q=>k c v q) (fun c q=>by rw[aO (ck q hn)];exact q) fun c xs q=>by rw[aO (ck q hn)];exact q
end
def Rd(H:Hp)(a:Addr)(u:HO):Prop:=H a=some u\/∃o,H a=some (.ek o u)
theorem Rd.ok{P:F0}{w:World}{H:Hp}{h:Heap}{a:Addr}{u:HO}(r:Rd H a u)(x:br P w H h):cQ P w H h a u:=by
 rcases r with r|⟨o,r⟩
 ·exact x a u r
 · obtain⟨_,q⟩:=x a _ r
   exact q
def kQ:Option HO->Prop |some (.lst _)=>True |some (.dK _)=>True |some (.dT _)=>True |some (.set _ _)=>True |some (.ins _ _ _)=>True |some (.ext _)=>True |_=>False
section
variable {P:F0}{w:World}{H:Hp}{h h':Heap}{x e:Addr}{o':HO}
theorem br.write(ok:br P w H h)(mu:kQ (H x))(he:e=x\/H e=some (.own x))(k:∀b u,b≠e->h.get? b=some u->h'.get? b=some u)(hW:∃u,h'.get? e=some u) (new:cQ P w (upd H x o') h' x o'):br P w (upd H x o') h':=fun b u q=>by
  have rT:∀c y,H c=some (.own y)->c≠x:=fun c y r z=>by subst z;rw[r]at mu;exact mu
  have An:∀c xs,H c=some (.tup xs)->c≠x:=fun c xs r z=>by subst z;rw[r]at mu;exact mu
  by_cases hb:b=x
  ·subst hb;rw[cH]at q;cases q;exact new
  · rw[aO hb]at q
    by_cases gr:b=e
    · have q':H b=some (.own x):=by
        rcases he with z|z
        ·exact absurd (gr.trans z) hb
        ·rw[gr];exact z
      rw[q]at q';cases q';obtain⟨v,hv⟩:=hW;exact⟨v,by rw[gr];exact hv⟩
    · refine(ok b u q).fL (fun c v hc r=>k c v ?_ r) (fun c r=>by rw[aO (rT c b r)];exact r) fun c xs r=>by rw[aO (An c xs r)];exact r
      rcases hc with rfl|hc
      ·exact gr
      · rintro rfl
        rcases he with z|z
        ·exact rT c b hc z
        ·rw[hc]at z;cases z;exact hb rfl
end
structure Un(fs ex:List Addr)(H H':Hp)(h h':Heap):Prop where
 keep:∀b o,h.get? b=some o->H b=none->b∉fs->b∉ex->h'.get? b=some o
 slot:∀b o,h.get? b=some o->H b=none->b∈fs->b∉ex->∃sl,h'.get? b=some {o with slots:=sl}
 free:∀b o,h.get? b=some o->H b=none->b∉ex->H' b=none
 there:∀b o,h.get? b=some o->b∉ex->∃o',h'.get? b=some o'
 tups:∀b xs,H b=some (.tup xs)->H' b=some (.tup xs)
 frzs:∀b o u,H b=some (.ek o u)->H' b=some (.ek o u)
 tbls:∀b ps,H b=some (.fJ ps)->∃more,H' b=some (.fJ (ps++more))
section
variable {fs D3 ex i5:List Addr}{H H1 H2:Hp}{h h1 h2 h':Heap}{a x e:Addr}{o:HO}
theorem Un.any(u:Un fs ex H H1 h h1){b:Addr}{ob:Obj}(q:h.get? b=some ob)(n:H b=none)(hx:b∉ex):∃sl,h1.get? b=some {ob with slots:=sl}:=by
 by_cases hb:b∈fs
 ·exact u.slot b ob q n hb hx
 ·exact⟨ob.slots,u.keep b ob q n hb hx⟩
theorem Un.kept(k:∀b u,h.get? b=some u->h'.get? b=some u):Un fs ex H H h h':=⟨fun b ob q _ _ _=>k b ob q,fun b ob q _ _ _=>⟨ob.slots,k b ob q⟩,fun _ _ _ n _=>n,fun b ob q _=>⟨ob,k b ob q⟩,fun _ _ q=>q,fun _ _ _ q=>q,fun _ ps q=>⟨#[],by rw[q];simp⟩⟩
theorem Un.refl:Un fs ex H H h h:=Un.kept fun _ _ q=>q
theorem Un.laid(k:∀b u,h.get? b=some u->h'.get? b=some u)(hp:h.objs.size<=a)(hn:H a=none):Un fs ex H (upd H a o) h h' where
 keep:=fun b u q _ _ _=>k b u q
 slot:=fun b u q _ _ _=>⟨u.slots,k b u q⟩
 free:=fun b u q n _=>by rw[aO (bw (c8 (aw q) hp))];exact n
 there:=fun b u q _=>⟨u,k b u q⟩
 tups:=fun b xs q=>by rw[aO (ck q hn)];exact q
 frzs:=fun b u xs q=>by rw[aO (ck q hn)];exact q
 tbls:=fun b ps q=>⟨#[],by rw[aO (ck q hn),q];simp⟩
theorem Un.write(mu:kQ (H x))(he:e=x\/H e=some (.own x))(k:∀b u,b≠e->h.get? b=some u->h'.get? b=some u)(hW:∃u,h'.get? e=some u):Un fs ex H (upd H x o) h h':=by
 have hx:∀b,H b=none->b≠x:=fun b n z=>by subst z;rw[n]at mu;exact mu
 have hb:∀b,H b=none->b≠e:=fun b n z=>by
  subst z;rcases he with r|r
  ·exact hx b n r
  ·rw[n]at r;cases r
 have hm:∀b u,H b=some u->¬kQ (some u)->b≠x:=fun b u q nm z=>by subst z;rw[q]at mu;exact nm mu
 refine⟨fun b u q n _ _=>k b u (hb b n) q,fun b u q n _ _=>⟨u.slots,k b u (hb b n) q⟩,fun b u q n _=>by rw[aO (hx b n)];exact n,fun b u q _=>?_,fun b xs q=>by rw[aO (hm b _ q fun z=>z)];exact q,fun b u xs q=>by rw[aO (hm b _ q fun z=>z)];exact q,fun b ps q=>⟨#[],by rw[aO (hm b _ q fun z=>z),q];simp⟩⟩;by_cases gr:b=e
 ·subst gr;exact hW
 ·exact⟨u,k b u gr q⟩
end
def jG(h:Heap)(H:Hp):List Addr:=(List.range h.objs.size).filter fun a=>(H a).isSome
def eW(h:Heap)(H:Hp):Heap:=PySem.W.hideAll h (jG h H)
theorem Cb(h:Heap)(H:Hp):(eW h H).objs.size=h.objs.size:=PySem.W.hideAll_size _ _
theorem Cc{h:Heap}{H:Hp}{b:Addr}{o:Obj}(e:h.get? b=some o)(n:H b=none):(eW h H).get? b=some o:=PySem.W.hideAll_get _ e fun hm=>by have q:(H b).isSome=true:=(List.mem_filter.mp hm).2;rw[n]at q;simp at q
theorem Ae{h:Heap}{H:Hp}{b:Addr}{o:Obj}(e:(eW h H).get? b=some o):h.get? b=some o/\H b=none:=by have e':h.get? b=some o:=PySem.W.of_hideAll (jG h H) e;refine⟨e',?_⟩;cases q:H b with |none=>rfl |some x=>have hm:b∈jG h H:=List.mem_filter.mpr ⟨List.mem_range.mpr (aw e'),by simp[q]⟩;have z:(eW h H).get? b=none:=PySem.W.hideAll_none (jG h H) hm;rw[z]at e;cases e
structure Mod(K:EY)(mg:Str->Option Value)(base:Heap):Prop where
 kin:K.In base
 glob:base.Ns mainGlobals mg
 blt:∃mb,base.Ns builtinsNs mb/\∀x:Str,x≠"__name__"->mb x=bootBuiltins x
 nolimit:base.NoLimit
structure Cx where
 prog:F0
 w:World
 K:EY
 mg:Str->Option Value
 base:Heap
 A:F2
 N:List Str
 s₀:EZ
 H₀:Hp
 env:Env
 outer:List Env
 stack:List Env
 ex:List Addr
 fn:Str->Bool
 calm:Bool
 pn:List (Addr×Obj)
 xe:Value->EZ->Prop
def cN(l:List Env):List Addr:=l.filterMap (·.frame)
abbrev Cx.fs(X:Cx):List Addr:=cN X.outer
def oE(sc:Scope)(x:Str):Prop:=sc.names.lookup x=some .local\/sc.names.lookup x=some .cell\/sc.names.lookup x=some .free
def Loc(sc:Scope)(x:Str):Prop:=sc.names.lookup x=some .local\/sc.names.lookup x=some .cell
def Look(env:Env)(h:Heap)(m:Str->Option Value)(x:Str)(u:Value):Prop:=(env.kindOf x=some .local/\m x=some u)\/((env.kindOf x=some .cell\/env.kindOf x=some .free)/\∃c,env.cells.lookup x=some c/\h.IsCell c (some u))
structure Cx.Ok(X:Cx):Prop where
 mod:Mod X.K X.mg X.base
 kind:X.env.scope.kind= .function
 glob:X.env.globals=mainGlobals
 blt:X.env.builtins=builtinsNs
 above:X.s₀.heap.objs.size<=X.env.locals
 inj:∀x y c,X.env.cells.lookup x=some c->X.env.cells.lookup y=some c->x=y
 has:∀x,(X.env.kindOf x=some .cell\/X.env.kindOf x=some .free)->∃c,X.env.cells.lookup x=some c
 cab:∀x c,X.fn x=true->X.env.cells.lookup x=some c->X.s₀.heap.objs.size<=c
 hd:X.calm=true->X.A.handled=none
 frames:X.A.frames=some X.stack
 stk:X.stack=X.outer\/(X.stack=X.env::X.outer/\X.env.frame=some X.env.locals)
 exf:∀b∈X.ex,b≠X.env.locals/\∀x c,X.env.cells.lookup x=some c->c≠b
 bs:∀b o,X.base.get? b=some o->X.s₀.heap.get? b=some o/\X.H₀ b=none
 bsz:X.base.objs.size<=X.s₀.heap.objs.size
 noex:∀b o,X.base.get? b=some o->b∉X.ex
 exfs:∀b∈X.ex,b∉X.fs
 dv:X.s₀.heap.FunFrames X.base X.outer
 frf:∀b∈X.fs,X.H₀ b=none
structure Inv(X:Cx)(pins:List (Addr×Obj))(σ:List (Option V))(H:Hp)(s:EZ):Prop where
 ok:X.Ok
 os:s.os=X.s₀.os
 bare:AllBare s.gens
 base:Un X.fs X.ex X.H₀ H X.s₀.heap s.heap
 loc:∃m,s.heap.Ns X.env.locals m/\∀(i:Nat)(x:Str)(v:V),X.N[i]? =some x->σ[i]? =some (some v)->oE X.env.scope x->∃u,RelV v u/\Look X.env s.heap m x u
 cell:∀x c,X.env.cells.lookup x=some c->∃v,s.heap.IsCell c v
 free:H X.env.locals=none
 freeC:∀x c,X.env.cells.lookup x=some c->H c=none
 pin:∀p∈X.pn++pins,s.heap.get? p.1=some p.2/\H p.1=none/\p.1≠X.env.locals/\p.1∉X.fs/\∀v,p.2.data≠ .cell v
 hok:br X.prog X.w H s.heap
 len:σ.length=X.N.length
section
variable {X:Cx}{pins:List (Addr×Obj)}{σ:List (Option V)}{H H':Hp}{s:EZ}{h':Heap}
theorem Cx.Ok.Ap(ok:X.Ok){b:Addr}{o:Obj}(e:X.base.get? b=some o):b∉X.fs:=fun hb=>by have:=(ok.dv.mem hb).1;rw[e]at this;cases this
theorem Inv.bs(I:Inv X pins σ H s):∀b o,X.base.get? b=some o->s.heap.get? b=some o/\H b=none:=fun b o e=>⟨I.base.keep b o (I.ok.bs b o e).1 (I.ok.bs b o e).2 (I.ok.Ap e) (I.ok.noex b o e),I.base.free b o (I.ok.bs b o e).1 (I.ok.bs b o e).2 (I.ok.noex b o e)⟩
theorem Inv.bk(I:Inv X pins σ H s):∀b o,X.base.get? b=some o->s.heap.get? b=some o:=fun b o e=>(I.bs b o e).1
theorem Inv.mod(I:Inv X pins σ H s):Mod X.K X.mg X.base:=I.ok.mod
theorem Inv.fw(I:Inv X pins σ H s):X.K.In s.heap:=I.ok.mod.kin.keeps I.bk
theorem Inv.lt(I:Inv X pins σ H s):X.env.locals<s.heap.objs.size:=let⟨_,hn,_⟩:=I.loc;hn.lt
theorem Inv.sz(I:Inv X pins σ H s):X.s₀.heap.objs.size<=s.heap.objs.size:=cE I.ok.above (l5 I.lt)
theorem Inv.Ao(I:Inv X pins σ H s){a:Addr}(h:s.heap.objs.size<=a):a∉X.fs:=fun hb=>by obtain⟨_,o,ho,_⟩:=I.ok.dv.mem hb;exact absurd (c8 (aw ho) (cE I.sz h)) (il _)
theorem Inv.gA(I:Inv X pins σ H s):∀x c,X.env.cells.lookup x=some c->c≠X.env.locals:=fun x c e z=>by obtain⟨v,o,ho,hd⟩:=I.cell x c e;obtain⟨m,⟨o',es,ep,dJ,nS,_⟩,_⟩:=I.loc;rw[z,dJ]at ho;cases ho;rw[nS]at hd;cases hd
theorem Inv.dv(I:Inv X pins σ H s):s.heap.FunFrames X.base X.outer:=by
 have all:∀(l:List Env),(∀b∈cN l,b∈X.fs)->X.s₀.heap.FunFrames X.base l->s.heap.FunFrames X.base l:=by intro l;induction l with |nil=>intro _ _;trivial |cons env r ih=>intro hs hl;obtain⟨hk,⟨L,o,hf,hn,ho,hd⟩,hr⟩:=hl;have hL:L∈X.fs:=hs L (by unfold cN;rw[wG,hf];exact p9);obtain⟨sl,e⟩:=I.base.slot L o ho (I.ok.frf L hL) hL fun z=>I.ok.exfs L z hL;exact⟨hk,⟨L,_,hf,hn,e,hd⟩,ih (fun b hb=>hs b (by unfold cN;rw[wG,hf];exact l8 _ hb)) hr⟩
 exact all X.outer (fun _ hb=>hb) I.ok.dv
theorem Inv.stack(I:Inv X pins σ H s):s.heap.FunFrames X.base X.stack:=by
 rcases I.ok.stk with e|⟨e,hf⟩
 ·rw[e];exact I.dv
 · rw[e]
   obtain⟨m,hn,_⟩:=I.loc;refine .cons (by rw[I.ok.kind];decide) hf hn ?_ I.dv;exact Heap.get?_none_of_le (cE I.ok.bsz I.ok.above)
theorem Inv.lF(I:Inv X pins σ H s):∀b∈cN X.stack,b∈X.env.locals::X.fs:=fun b hb=>by
 rcases I.ok.stk with e|⟨e,hf⟩
 ·rw[e]at hb;exact l8 _ hb
 · rw[e]at hb
   unfold cN at hb;rw[wG,hf]at hb;exact hb
theorem Inv.pT(I:Inv X pins σ H s):∀b∈cN X.stack,H b=none:=fun b hb=>by
 rcases aW.mp (I.lF b hb)with e|hb
 ·rw[e];exact I.free
 · obtain⟨_,o,ho,_⟩:=I.ok.dv.mem hb
   exact I.base.free b o ho (I.ok.frf b hb) fun z=>I.ok.exfs b z hb
theorem Inv.step{g':Array GenState}{t':Nat}{d':Drawn}{ch:List Addr}(I:Inv X pins σ H s) (dn:∀b∈ch,(b∈X.ex\/X.s₀.heap.objs.size<=b)/\b≠X.env.locals/\(∀x c,X.env.cells.lookup x=some c->c≠b)/\∀p∈X.pn++pins,p.1≠b) (keep:∀b o,b≠X.env.locals->b∉X.fs->b∉ch->s.heap.get? b=some o->H b=none->h'.get? b=some o) (slot:∀b o,b≠X.env.locals->b∈X.fs->b∉ch->s.heap.get? b=some o->H b=none->∃sl,h'.get? b=some {o with slots:=sl})(free:∀b o,b∉ch->s.heap.get? b=some o->H b=none->H' b=none) (there:∀b o,b∉ch->s.heap.get? b=some o->∃o',h'.get? b=some o') (tups:∀b xs,H b=some (.tup xs)->H' b=some (.tup xs))(frzs:∀b o u,H b=some (.ek o u)->H' b=some (.ek o u))(tbls:∀b ps,H b=some (.fJ ps)->∃more,H' b=some (.fJ (ps++more))) (ns:∀m,s.heap.Ns X.env.locals m->h'.Ns X.env.locals m)(hok:br X.prog X.w H' h')(hg:AllBare g'): Inv X pins σ H' {s with heap:=h',gens:=g',drawn:=d',toks:=t'}:=by
  have sg:∀b o,X.s₀.heap.get? b=some o->b≠X.env.locals:=fun b o e=>bw (c8 (aw e) I.ok.above);have kd:∀b o,X.s₀.heap.get? b=some o->b∉X.ex->b∉ch:=fun b o e hx hb=>by
   rcases(dn b hb).1 with z|z
   ·exact hx z
   ·exact absurd (c8 (aw e) z) (il _)
  have cellK:∀x c,X.env.cells.lookup x=some c->∀v,s.heap.IsCell c v->h'.IsCell c v:=fun x c e v ⟨o,ho,hd⟩=>by
   have iT:c∉ch:=fun z=>(dn c z).2.2.1 x c e rfl;by_cases hc:c∈X.fs
   · obtain⟨sl,q⟩:=slot c o (I.gA x c e) hc iT ho (I.freeC x c e)
     exact⟨_,q,hd⟩
   ·exact⟨o,keep c o (I.gA x c e) hc iT ho (I.freeC x c e),hd⟩
  refine⟨I.ok,I.os,hg,⟨fun b o e n hb hx=>?_,fun b o e n hb hx=>?_,fun b o e n hx=>?_,fun b o e hx=>?_,fun b xs e=>tups b xs (I.base.tups b xs e),fun b o xs e=>frzs b o xs (I.base.frzs b o xs e),fun b ps e=>?_⟩,?_,fun x c e=>?_,?_,fun x c e=>?_,fun p hp=>?_,hok,I.len⟩
  ·exact keep b o (sg b o e) hb (kd b o e hx) (I.base.keep b o e n hb hx) (I.base.free b o e n hx)
  · obtain⟨sl,e1⟩:=I.base.slot b o e n hb hx
    obtain⟨y4,e2⟩:=slot b _ (sg b o e) hb (kd b o e hx) e1 (I.base.free b o e n hx);exact⟨y4,e2⟩
  · obtain⟨o',e1⟩:=I.base.there b o e hx
    exact free b o' (kd b o e hx) e1 (I.base.free b o e n hx)
  · obtain⟨o',e1⟩:=I.base.there b o e hx
    exact there b o' (kd b o e hx) e1
  · obtain⟨m1,e1⟩:=I.base.tbls b ps e
    obtain⟨m2,e2⟩:=tbls b _ e1;exact⟨m1++m2,by rw[e2,Array.append_assoc]⟩
  · obtain⟨m,hn,hl⟩:=I.loc
    refine⟨m,ns m hn,fun i x v e1 e2 e3=>?_⟩;obtain⟨u,r,l⟩:=hl i x v e1 e2 e3;refine⟨u,r,?_⟩;rcases l with l|⟨k,c,e,z⟩
    ·exact .inl l
    ·exact .inr ⟨k,c,e,cellK x c e _ z⟩
  · obtain⟨v,z⟩:=I.cell x c e
    exact⟨v,cellK x c e v z⟩
  · obtain⟨m,⟨o,_,_,ho,_⟩,_⟩:=I.loc
    exact free _ o (fun z=>(dn _ z).2.1 rfl) ho I.free
  · obtain⟨v,o,ho,hd⟩:=I.cell x c e
    exact free c o (fun z=>(dn c z).2.2.1 x c e rfl) ho (I.freeC x c e)
  · obtain⟨e,n,ne,nf,d⟩:=I.pin p hp
    have iT:p.1∉ch:=fun z=>(dn p.1 z).2.2.2 p hp rfl;exact⟨keep p.1 p.2 ne nf iT e n,free p.1 p.2 iT e n,ne,nf,d⟩
theorem Inv.un{t':Nat}(I:Inv X pins σ H s)(u:Un X.fs [] H H' s.heap h')(hok:br X.prog X.w H' h'):Inv X pins σ H' {s with heap:=h',toks:=t'}:=by obtain⟨m,⟨o,es,ep,ho,r⟩,_⟩:=id I.loc;obtain⟨sl,hL⟩:=u.any ho I.free (by simp);exact I.step (g':=s.gens) (d':=s.drawn) (ch:=[]) (fun _ z=>nomatch z) (fun b o _ hb _ e n=>u.keep b o e n hb (by simp)) (fun b o _ hb _ e n=>u.slot b o e n hb (by simp)) (fun b o _ e n=>u.free b o e n (by simp)) (fun b o _ e=>u.there b o e (by simp)) u.tups u.frzs u.tbls (fun m' hm=>by obtain⟨o',i6,o8,dJ,r'⟩:=hm;rw[ho]at dJ;cases dJ;exact⟨_,i6,o8,hL,r'⟩) hok I.bare
theorem Inv.call{g':Array GenState}{t':Nat}{d':Drawn}{ch:List Addr}(I:Inv X pins σ H s)(u:Un (cN X.stack) ch H H' s.heap h')(hok:br X.prog X.w H' h')(hg:AllBare g') (dn:∀b∈ch,(b∈X.ex\/X.s₀.heap.objs.size<=b)/\b≠X.env.locals/\(∀x c,X.env.cells.lookup x=some c->c≠b)/\∀p∈X.pn++pins,p.1≠b): Inv X pins σ H' {s with heap:=h',gens:=g',drawn:=d',toks:=t'}:=by obtain⟨m,⟨o,es,ep,ho,r⟩,_⟩:=id I.loc;obtain⟨sl,hL⟩:=u.any ho I.free fun z=>(dn _ z).2.1 rfl;exact I.step (ch:=ch) dn (fun b o hL hb hc e n=>u.keep b o e n (fun z=>(aW.mp (I.lF b z)).elim hL hb) hc) (fun b o _ _ hc e n=>u.any e n hc) (fun b o hc e n=>u.free b o e n hc) (fun b o hc e=>u.there b o e hc) u.tups u.frzs u.tbls (fun m' hm=>by obtain⟨o',i6,o8,dJ,r'⟩:=hm;rw[ho]at dJ;cases dJ;exact⟨_,i6,o8,hL,r'⟩) hok hg
theorem Inv.turned{t':Nat}{it:Addr}(I:Inv X pins σ H s)(k:∀b o,b≠it->s.heap.get? b=some o->h'.get? b=some o)(hn:H it=none)(hL:it≠X.env.locals) (h1:it∈X.ex\/X.s₀.heap.objs.size<=it)(h2:∀x c,X.env.cells.lookup x=some c->c≠it)(h3:∀p∈X.pn++pins,p.1≠it):Inv X pins σ H {s with heap:=h',toks:=t'}:=by
  have iS:∀b u,H b=some u->b≠it:=fun b u e z=>by rw[z,hn]at e;cases e
  refine I.step (g':=s.gens) (d':=s.drawn) (ch:=[it]) (fun b hb=>?_) (fun b o _ _ hc e _=>k b o (fun z=>hc (by simp[z])) e) (fun b o _ _ hc e _=>⟨o.slots,k b o (fun z=>hc (by simp[z])) e⟩) (fun _ _ _ _ n=>n) (fun b o hc e=>⟨o,k b o (fun z=>hc (by simp[z])) e⟩) (fun _ _ e=>e) (fun _ _ _ e=>e) (fun b ps e=>⟨#[],by rw[e];simp⟩) (fun m hm=>?_) (fun b u e=>?_) I.bare
  · have e:b=it:=by simpa using hb
    subst e;exact⟨h1,hL,h2,h3⟩
  · obtain⟨o,es,ep,ho,r⟩:=hm
    exact⟨o,es,ep,k _ o (Ne.symm hL) ho,r⟩
  · refine(I.hok b u e).fL (fun c v hc q=>k c v ?_ q) (fun _ q=>q) fun _ _ q=>q
    rcases hc with z|z
    ·rw[z];exact iS b u e
    ·exact iS c _ z
theorem Inv.tok(I:Inv X pins σ H s)(t:Nat):Inv X pins σ H {s with toks:=t}:=I.un (h':=s.heap) (t':=t) Un.refl I.hok
theorem Inv.kept{t':Nat}(I:Inv X pins σ H s)(k:∀b u,s.heap.get? b=some u->h'.get? b=some u):Inv X pins σ H {s with heap:=h',toks:=t'}:=I.un (Un.kept k) (I.hok.kept k)
theorem Inv.laid{a:Addr}{o:HO}{t':Nat}(I:Inv X pins σ H s)(k:∀b u,s.heap.get? b=some u->h'.get? b=some u)(hp:s.heap.objs.size<=a)(new:cQ X.prog X.w (upd H a o) h' a o): Inv X pins σ (upd H a o) {s with heap:=h',toks:=t'}:=I.un (Un.laid k hp (I.hok.fresh hp)) (I.hok.laid k hp new)
theorem Inv.write{x e:Addr}{o:HO}{t':Nat}(I:Inv X pins σ H s)(mu:kQ (H x))(he:e=x\/H e=some (.own x))(k:∀b u,b≠e->s.heap.get? b=some u->h'.get? b=some u)(hW:∃u,h'.get? e=some u) (new:cQ X.prog X.w (upd H x o) h' x o):Inv X pins σ (upd H x o) {s with heap:=h',toks:=t'}:=I.un (Un.write mu he k hW) (I.hok.write mu he k hW new)
theorem Inv.rB{rC:List (Addr×Obj)}(I:Inv X pins σ H s)(h:∀p∈rC,s.heap.get? p.1=some p.2/\H p.1=none/\p.1≠X.env.locals/\p.1∉X.fs/\∀v,p.2.data≠ .cell v):Inv X rC σ H s:=⟨I.ok,I.os,I.bare,I.base,I.loc,I.cell,I.free,I.freeC,fun p hp=>(dU.mp hp).elim (fun z=>I.pin p (wy _ z)) (h p),I.hok,I.len⟩
theorem rW{N:List Str}(hN:N.Nodup){i j:Nat}{x:Str}(a:N[i]? =some x)(b:N[j]? =some x):i=j:=by obtain⟨h1,e1⟩:=dW.mp a;obtain⟨h2,e2⟩:=dW.mp b;exact(List.getElem_inj hN).mp (e1.trans e2.symm)
theorem pQ{M:Model}{A:F2}{E:Value->EZ->Prop}{i:Nat}{x:Str}{v:V}{u:Value}{Q:Unit->EZ->Prop}(I:Inv X pins σ H s)(hN:X.N.Nodup)(hi:X.N[i]? =some x)(hx:Loc X.env.scope x)(r:RelV v u) (h:∀s',Inv X pins (σ.set i (some v)) H s'->(∃a,Heap.SameBut a s.heap s'.heap/\(a=X.env.locals\/X.env.cells.lookup x=some a))->Q () s')(hf:X.fn x=true\/X.env.scope.names.lookup x=some .local:=by first|exact .inl rfl|exact .inr rfl|assumption):wpAny M A (storeName X.env x u) Q E s:=by
  obtain⟨m,hn,hl⟩:=id I.loc;have Cg:(X.env.scope.kind== .class||(X.env.scope.kind== .module&&X.env.locals !=X.env.globals))=false:=by rw[I.ok.kind];rfl
  have tm:i<σ.length:=by rw[I.len];exact(dW.mp hi).1
  have gA:=I.gA;have tracked:∀{a:Addr}{h':Heap},(∃o,s.heap.get? a=some o/\H a=none)->Heap.SameBut a s.heap h'->br X.prog X.w H h':=fun{a h'} ha hs b ob e=>by
   obtain⟨_,_,hV⟩:=ha;refine(I.hok b ob e).fL (fun c w' hc q=>(hs.2 c ?_).trans q) (fun _ q=>q) fun _ _ q=>q;rintro rfl;rcases hc with rfl|hc
   ·rw[hV]at e;cases e
   ·rw[hV]at hc;cases hc
  rcases hx with hk|hk
  · refine wpAny_storeName_local hk hn (fun h' nO hs=>?_) Cg
    obtain⟨oL,_,_,BM,_⟩:=id hn;refine h _ ⟨I.ok,I.os,I.bare,⟨fun b o e n hb hx=>?_,fun b o e n hb hx=>?_,I.base.free,fun b o e hx=>?_,I.base.tups,I.base.frzs,I.base.tbls⟩,⟨_,nO,fun j y v' e1 e2 e3=>?_⟩,fun y c e=>?_,I.free,I.freeC,fun p hp=>?_,tracked ⟨oL,BM,I.free⟩ hs,by simpa using I.len⟩ ⟨_,hs,.inl rfl⟩
    ·exact(hs.2 b (bw (c8 (aw e) I.ok.above))).trans (I.base.keep b o e n hb hx)
    · obtain⟨sl,e1⟩:=I.base.slot b o e n hb hx
      exact⟨sl,(hs.2 b (bw (c8 (aw e) I.ok.above))).trans e1⟩
    · obtain⟨o',e1⟩:=I.base.there b o e hx
      exact⟨o',(hs.2 b (bw (c8 (aw e) I.ok.above))).trans e1⟩
    · by_cases hj:j=i
      · subst hj
        rw[hi]at e1;cases e1;rw[List.getElem?_set_self tm]at e2;cases e2;exact⟨u,r,.inl ⟨hk,by simp⟩⟩
      · rw[List.getElem?_set_ne (Ne.symm hj)]at e2
        obtain⟨u',r',q⟩:=hl j y v' e1 e2 e3;refine⟨u',r',?_⟩;rcases q with⟨k,e⟩|⟨k,c,e,z⟩
        · refine .inl ⟨k,?_⟩
          have:y≠x:=fun e=>hj (rW hN e1 (e▸hi));simp[this,e]
        ·exact .inr ⟨k,c,e,z.sameBut hs (gA y c e)⟩
    · obtain⟨w',z⟩:=I.cell y c e
      exact⟨w',z.sameBut hs (gA y c e)⟩
    · obtain⟨e,n,ne,nf,d⟩:=I.pin p hp
      exact⟨(hs.2 p.1 ne).trans e,n,ne,nf,d⟩
  · have nQ:X.fn x=true:=by
      rcases hf with z|z
      ·exact z
      ·rw[z]at hk;cases hk
    obtain⟨c,hc⟩:=I.ok.has x (.inl hk);obtain⟨w',z⟩:=I.cell x c hc;refine wpAny_storeName_cell I.ok.kind hk hc z (fun h' cX hs=>?_);obtain⟨oc,t6,BL⟩:=id z;refine h {s with heap:=h'} ⟨I.ok,I.os,I.bare,⟨fun b o e n hb hx=>?_,fun b o e n hb hx=>?_,I.base.free,fun b o e hx=>?_,I.base.tups,I.base.frzs,I.base.tbls⟩,⟨m,hn.sameBut hs (Ne.symm (gA x c hc)),fun j y v' e1 e2 e3=>?_⟩,fun y c' e=>?_,I.free,I.freeC,fun p hp=>?_,tracked ⟨oc,t6,I.freeC x c hc⟩ hs,by simpa using I.len⟩ ⟨c,hs,.inr hc⟩
    ·exact(hs.2 b (bw (c8 (aw e) (I.ok.cab x c nQ hc)))).trans (I.base.keep b o e n hb hx)
    · obtain⟨sl,e1⟩:=I.base.slot b o e n hb hx
      exact⟨sl,(hs.2 b (bw (c8 (aw e) (I.ok.cab x c nQ hc)))).trans e1⟩
    · obtain⟨o',e1⟩:=I.base.there b o e hx
      exact⟨o',(hs.2 b (bw (c8 (aw e) (I.ok.cab x c nQ hc)))).trans e1⟩
    · by_cases hj:j=i
      · subst hj
        rw[hi]at e1;cases e1;rw[List.getElem?_set_self tm]at e2;cases e2;exact⟨u,r,.inr ⟨.inl hk,c,hc,cX⟩⟩
      · rw[List.getElem?_set_ne (Ne.symm hj)]at e2
        obtain⟨u',r',q⟩:=hl j y v' e1 e2 e3;refine⟨u',r',?_⟩;rcases q with q|⟨k,c',e,z'⟩
        ·exact .inl q
        · refine .inr ⟨k,c',e,z'.sameBut hs ?_⟩
          rintro rfl;exact hj (rW hN e1 (I.ok.inj _ _ _ e hc▸hi))
    · by_cases tq:c'=c
      ·subst tq;exact⟨_,cX⟩
      · obtain⟨w2,z2⟩:=I.cell y c' e
        exact⟨w2,z2.sameBut hs tq⟩
    · obtain⟨e,n,ne,nf,d⟩:=I.pin p hp
      refine⟨(hs.2 p.1 ?_).trans e,n,ne,nf,d⟩;intro q;rw[q,t6]at e;have q':oc=p.2:=bP e;exact d w' (by rw[<-q'];exact BL)
theorem pR{M:Model}{A:F2}{E:Value->EZ->Prop}{i:Nat}{x:Str}{v:V}{u:Value}{Q:Unit->EZ->Prop}(I:Inv X pins σ H s)(hN:X.N.Nodup)(hi:X.N[i]? =some x)(hx:Loc X.env.scope x)(r:RelV v u) (h:∀s',Inv X pins (σ.set i (some v)) H s'->Q () s')(hf:X.fn x=true\/X.env.scope.names.lookup x=some .local:=by first|exact .inl rfl|exact .inr rfl|assumption):wpAny M A (storeName X.env x u) Q E s:=pQ I hN hi hx r (fun s' I' _=>h s' I') hf
theorem Inv.uv{s':EZ}{ch:List Addr}(I:Inv X pins σ H s)(ho:s'.os=s.os)(u:Un (cN X.stack) ch H H' s.heap s'.heap)(hok:br X.prog X.w H' s'.heap)(hg:AllBare s'.gens) (dn:∀b∈ch,(b∈X.ex\/X.s₀.heap.objs.size<=b)/\b≠X.env.locals/\(∀x c,X.env.cells.lookup x=some c->c≠b)/\∀p∈X.pn++pins,p.1≠b):Inv X pins σ H' s':=by obtain⟨h',g',d',t',o'⟩:=s';have e:o'=s.os:=ho;subst e;exact I.call (g':=g') (t':=t') (d':=d') u hok hg dn
end
abbrev XK:=Value->Option Addr->Hp->Prop
abbrev St:=List (Option V)
abbrev VK:=V->Hp->Prop
abbrev TE:=St->Hp->VK->Prop
abbrev TT:=St->Hp->(Bool->Hp->Prop)->Prop
abbrev TA:=St->Hp->(List V->Hp->Prop)->Prop
structure Ends where
 nx:St->Hp->Prop
 rt:VK
 bk:St->Hp->Prop:=fun _ _=>False
 ct:St->Hp->Prop:=fun _ _=>False
abbrev TS:=Ends->St->Hp->Prop
def EP(X:Cx)(pins:List (Addr×Obj))(σ:St)(Q:VK)(u:Value)(s':EZ):Prop:=∃v H',Inv X pins σ H' s'/\RelV v u/\Q v H'
def TP(X:Cx)(pins:List (Addr×Obj))(σ:St)(Q:Bool->Hp->Prop)(b:Bool)(s':EZ):Prop:=∃H',Inv X pins σ H' s'/\Q b H'
def AP(X:Cx)(pins:List (Addr×Obj))(σ:St)(Q:List V->Hp->Prop)(us:List Value)(s':EZ):Prop:=∃vs H',Inv X pins σ H' s'/\Vals vs us/\Q vs H'
def SP(X:Cx)(pins:List (Addr×Obj))(D:Ends)(f:Flow)(s':EZ):Prop:=match f with | .next=>∃σ' H',Inv X pins σ' H' s'/\D.nx σ' H' | .brk=>∃σ' H',Inv X pins σ' H' s'/\D.bk σ' H' | .cont=>∃σ' H',Inv X pins σ' H' s'/\D.ct σ' H' | .ret u=>∃v σ' H',Inv X pins σ' H' s'/\RelV v u/\D.rt v H'
def PE(X:Cx)(e:Expr)(t:TE):Prop:=∀(pins:List (Addr×Obj))(s:EZ)(σ:St)(H:Hp)(Q:VK),Inv X pins σ H s->t σ H Q->wpAny (model X.prog X.w) X.A (eval e X.env) (EP X pins σ Q) X.xe s
def PT(X:Cx)(e:Expr)(t:TT):Prop:=∀(pins:List (Addr×Obj))(s:EZ)(σ:St)(H:Hp)(Q:Bool->Hp->Prop),Inv X pins σ H s->t σ H Q->wpAny (model X.prog X.w) X.A (isTrue e X.env (eval e X.env)) (TP X pins σ Q) X.xe s
def PW(X:Cx)(e:Expr)(t:TT):Prop:=∀(whole:Sem Value)(pins:List (Addr×Obj))(s:EZ)(σ:St)(H:Hp)(Q:Bool->Hp->Prop),Inv X pins σ H s->t σ H Q->wpAny (model X.prog X.w) X.A (isTrue e X.env whole) (TP X pins σ Q) X.xe s
theorem PW.pt{X:Cx}{e:Expr}{t:TT}(h:PW X e t):PT X e t:=h _
def PA(X:Cx)(es:List Expr)(t:TA):Prop:=∀(pos:Pos)(pins:List (Addr×Obj))(s:EZ)(σ:St)(H:Hp)(Q:List V->Hp->Prop),Inv X pins σ H s->t σ H Q->wpAny (model X.prog X.w) X.A (spliced (backTo pos (starEach es X.env))) (AP X pins σ Q) X.xe s
def PS(X:Cx)(st:Stmt)(t:TS):Prop:=∀(pins:List (Addr×Obj))(s:EZ)(σ:St)(H:Hp)(D:Ends),Inv X pins σ H s->t D σ H->wpAny (model X.prog X.w) X.A (exec st X.env) (SP X pins D) X.xe s
def cP(X:Cx)(st:List Stmt)(t:TS):Prop:=∀(pins:List (Addr×Obj))(s:EZ)(σ:St)(H:Hp)(D:Ends),Inv X pins σ H s->t D σ H->wpAny (model X.prog X.w) X.A (execs st X.env) (SP X pins D) X.xe s
theorem ab{α:Type}{t:Sem α}{Q Q':α->EZ->Prop}{M:Model}{A:F2}{E:Value->EZ->Prop}{s:EZ}(h:wpAny M A t Q E s)(hQ:∀a s,Q a s->Q' a s):wpAny M A t Q' E s:=ff h hQ fun _ _ x=>x
section
variable {X:Cx}
inductive uN(i:Nat)(σ:St)(H:Hp)(Q:VK):Prop |mk (v:_)(h0:σ[i]? =some (some v))(h1:Q v H):uN i σ H Q
def pK(i:Nat):TE:=fun σ H Q=>uN i σ H Q
def tC (v:V):TE:=fun _ H Q=>Q v H
theorem zf{i:Nat}{x:Str}{pos:Pos}(hN:X.N[i]? =some x)(hv:oE X.env.scope x)(hd:(x==("__debug__":Str))=false:=by decide)(dr:(x==("__classdict__":Str))=false:=by decide):PE X (.Name x pos) (pK i):=by
 intro pins s σ H Q I h;obtain⟨v,e,h⟩:=h;obtain⟨m,hn,hl⟩:=I.loc;obtain⟨u,r,l⟩:=hl i x v hN e hv;have fin:EP X pins σ Q u s:=⟨v,H,I,r,h⟩;rcases l with⟨hk,hm⟩|⟨hk,c,hc,fy⟩
 ·exact wpAny_Name (wpAny_loadName_local I.ok.kind hk hn hm fin) hd
 · rcases hk with hk|hk
   ·exact wpAny_Name (wpAny_loadName_cell I.ok.kind hk hc fy fin) hd
   ·exact wpAny_Name (wpAny_loadName_free I.ok.kind hk hc fy fin dr) hd
theorem a9{i j pos}:PE X (.Constant (.int i) j pos) (tC (.int i)):=fun _ _ _ H _ I h=>wpAny_Constant_int ⟨.int i,H,I.tok _,⟨_,rfl⟩,h⟩
theorem eM{b j pos}:PE X (.Constant (.bool b) j pos) (tC (.bl b)):=fun _ _ _ H _ I h=>Constant_bool ⟨.bl b,H,I,rfl,h⟩
theorem gT{j pos}:PE X (.Constant .none j pos) (tC .ay):=fun _ _ _ H _ I h=>Constant_none ⟨.ay,H,I,rfl,h⟩
theorem aI{x j pos}:PE X (.Constant (.str x) j pos) (tC (.str x)):=fun _ _ _ H _ I h=>Calls.Constant_str ⟨.str x,H,I.tok _,⟨_,rfl⟩,h⟩
def Gl(X:Cx)(x:Str):Prop:=X.env.kindOf x=some .globalImplicit
theorem sD{E:Value->EZ->Prop}{pins:List (Addr×Obj)}{s:EZ}{σ:St}{H:Hp}{x:Str}{u:Value}{pos:Pos}{Q:Value->EZ->Prop}(I:Inv X pins σ H s)(hg:Gl X x)(hm:X.mg x=some u)(h:Q u s) (hd:(x==("__debug__":Str))=false:=by decide):wpAny (model X.prog X.w) X.A (eval (.Name x pos) X.env) Q E s:=Calls.Name_function_global I.ok.kind hg (Calls.loadGlobal_global (by rw[I.ok.glob];exact I.mod.glob.keeps I.bk) hm h) hd
theorem gd{E:Value->EZ->Prop}{pins:List (Addr×Obj)}{s:EZ}{σ:St}{H:Hp}{x:Str}{u:Value}{pos:Pos}{Q:Value->EZ->Prop}(I:Inv X pins σ H s)(hg:Gl X x)(hm:X.mg x=none)(hv:bootBuiltins x=some u)(h:Q u s) (hn:x≠"__name__":=by decide)(hd:(x==("__debug__":Str))=false:=by decide):wpAny (model X.prog X.w) X.A (eval (.Name x pos) X.env) Q E s:=by obtain⟨mb,h1,h2⟩:=I.mod.blt;exact Calls.Name_function_global I.ok.kind hg (Calls.loadGlobal_builtin (by rw[I.ok.glob];exact I.mod.glob.keeps I.bk) hm (by rw[I.ok.blt];exact h1.keeps I.bk) ((h2 x hn).trans hv) h) hd
theorem zi{x:Str}{v:V}{u:Value}{pos:Pos}(hg:Gl X x)(hm:X.mg x=some u)(r:RelV v u)(hd:(x==("__debug__":Str))=false:=by decide):PE X (.Name x pos) (tC v):=fun _ _ _ H _ I h=>sD I hg hm ⟨v,H,I,r,h⟩ hd
theorem cU{x:Str}{v:V}{u:Value}{pos:Pos}(hg:Gl X x)(hm:X.mg x=none)(hv:bootBuiltins x=some u)(r:RelV v u)(hn:x≠"__name__":=by decide)(hd:(x==("__debug__":Str))=false:=by decide):PE X (.Name x pos) (tC v):=fun _ _ _ H _ I h=>gd I hg hm hv ⟨v,H,I,r,h⟩ hn hd
variable {a b:Expr}{ta tb:TE}{pos:Pos}
inductive uU(Q:Bool->Hp->Prop)(x:V)(H1:Hp):Prop |mk (c:_)(h0:x= .bl c)(h1:Q c H1):uU Q x H1
def tB(t:TE):TT:=fun σ H Q=>t σ H fun x H1=>uU Q x H1
theorem cL{e:Expr}{t:TE}(h:PE X e t)(he:∀whole,isTrue e X.env whole=(do let v<-whole;standAt e.pos;holding [v] (truthy v)):=by intro _;rfl):PT X e (tB t):=by intro pins s σ H Q I hw;refine isTrue_plain (ab (h pins s σ H _ I hw) fun v s1 ⟨x,H1,I1,r1,q1⟩=>?_) (he _);obtain⟨d,rfl,q⟩:=q1;cases r1;exact eF ⟨H1,I1,q⟩
variable {tA jM:TT} {rest:List Expr}
def xQ(t u:TT):TT:=fun σ H Q=>t σ H fun c H1=>if c=true then u σ H1 Q else Q false H1
def xx(t u:TT):TT:=fun σ H Q=>t σ H fun c H1=>if c=true then Q true H1 else u σ H1 Q
def xA(t:TT):TT:=fun σ H Q=>t σ H fun c H1=>Q (!c) H1
theorem yP(ha:PT X a tA):PW X (.BoolOp .And [a] pos) tA:=by intro wh pins s σ H Q I h;refine isTrue_and (ab (ha pins s σ H Q I h) fun c s1 e=>?_);cases c with |true=>exact isTrue_and_nil e |false=>exact e
theorem gQ(ha:PT X a tA):PW X (.BoolOp .Or [a] pos) tA:=by intro wh pins s σ H Q I h;refine isTrue_or (ab (ha pins s σ H Q I h) fun c s1 e=>?_);cases c with |false=>exact isTrue_or_nil e |true=>exact e
theorem yQ(ha:PT X a tA)(hb:PW X (.BoolOp .And (b::rest) pos) jM):PW X (.BoolOp .And (a::b::rest) pos) (xQ tA jM):=by intro wh pins s σ H Q I h;refine isTrue_and (ab (ha pins s σ H _ I h) fun c s1 ⟨H1,I1,q1⟩=>?_);cases c with |true=>exact hb wh pins s1 σ H1 Q I1 q1 |false=>exact⟨H1,I1,q1⟩
theorem fR(ha:PT X a tA)(hb:PW X (.BoolOp .Or (b::rest) pos) jM):PW X (.BoolOp .Or (a::b::rest) pos) (xx tA jM):=by intro wh pins s σ H Q I h;refine isTrue_or (ab (ha pins s σ H _ I h) fun c s1 ⟨H1,I1,q1⟩=>?_);cases c with |true=>exact⟨H1,I1,q1⟩ |false=>exact hb wh pins s1 σ H1 Q I1 q1
theorem dh(ha:PT X a tA):PT X (.UnaryOp .Not a pos) (xA tA):=by intro pins s σ H Q I h;exact isTrue_not (ha pins s σ H (fun c H1=>Q (!c) H1) I h)
inductive uV(tb:TE)(σ:St)(Q:VK)(x:V)(H1:Hp):Prop |mk (c:_)(h0:x= .bl c)(h1:if c=true then tb σ H1 Q else Q (.bl false) H1):uV tb σ Q x H1
def xP(ta tb:TE):TE:=fun σ H Q=>ta σ H fun x H1=>uV tb σ Q x H1
inductive uQ(tb:TE)(σ:St)(Q:VK)(x:V)(H1:Hp):Prop |mk (c:_)(h0:x= .bl c)(h1:if c=true then Q (.bl true) H1 else tb σ H1 Q):uQ tb σ Q x H1
def xw(ta tb:TE):TE:=fun σ H Q=>ta σ H fun x H1=>uQ tb σ Q x H1
inductive uR(Q:VK)(x:V)(H1:Hp):Prop |mk (c:_)(h0:x= .bl c)(h1:Q (.bl (!c)) H1):uR Q x H1
def xy(ta:TE):TE:=fun σ H Q=>ta σ H fun x H1=>uR Q x H1
theorem fW{op}{t:TE}(h:PE X a t):PE X (.BoolOp op [a] pos) t:=fun pins s σ H Q I hw=>BoolOp_one (h pins s σ H Q I hw)
theorem fY(ha:PE X a ta)(hb:PE X (.BoolOp .And (b::rest) pos) tb):PE X (.BoolOp .And (a::b::rest) pos) (xP ta tb):=by intro pins s σ H Q I h;refine BoolOp_and (ab (ha pins s σ H _ I h) fun v s1 ⟨x,H1,I1,r1,q1⟩=>?_);obtain⟨c,rfl,q1⟩:=q1;cases r1;refine eF ?_;cases c with |true=>exact hb pins s1 σ H1 Q I1 q1 |false=>exact⟨.bl false,H1,I1,rfl,q1⟩
theorem zh(ha:PE X a ta)(hb:PE X (.BoolOp .Or (b::rest) pos) tb):PE X (.BoolOp .Or (a::b::rest) pos) (xw ta tb):=by intro pins s σ H Q I h;refine BoolOp_or (ab (ha pins s σ H _ I h) fun v s1 ⟨x,H1,I1,r1,q1⟩=>?_);obtain⟨c,rfl,q1⟩:=q1;cases r1;refine eF ?_;cases c with |false=>exact hb pins s1 σ H1 Q I1 q1 |true=>exact⟨.bl true,H1,I1,rfl,q1⟩
theorem rF(ha:PE X a ta):PE X (.UnaryOp .Not a pos) (xy ta):=by intro pins s σ H Q I h;refine UnaryOp_ (ab (ha pins s σ H _ I h) fun v s1 ⟨x,H1,I1,r1,q1⟩=>?_);obtain⟨c,rfl,q1⟩:=q1;cases r1;exact not_of (eF ⟨.bl (!c),H1,I1,rfl,q1⟩)
def xJ(t:TT)(ta tb:TE):TE:=fun σ H Q=>t σ H fun c H1=>if c=true then ta σ H1 Q else tb σ H1 Q
theorem gU{c:Expr}(hc:PT X c tA)(ha:PE X a ta)(hb:PE X b tb):PE X (.IfExp c a b pos) (xJ tA ta tb):=by intro pins s σ H Q I h;refine wpAny_IfExp (ab (hc pins s σ H _ I h) fun d s1 ⟨H1,I1,q1⟩=>?_);cases d with |true=>exact ha pins s1 σ H1 Q I1 q1 |false=>exact hb pins s1 σ H1 Q I1 q1
end
end L2
namespace L2
open PySem PySem.Spec PyProof.Rows
def aa(K:EY)(H:Hp)(a:Addr)(xs:List V):Prop:=Rd H a (.lst xs)\/ ∃(o:Obj)(its:Array Value)(n:Nat),K.lookup a=some o/\o.cls= .type "list"/\o.dict=none/\o.data= .seq its n/\its.size<=sizeLine/\Vals xs its.toList
def af(K:EY)(H:Hp)(a:Addr)(xs:List V):Prop:=Rd H a (.tup xs)\/ ∃(o:Obj)(its:Array Value)(n:Nat),K.lookup a=some o/\o.cls= .type "tuple"/\o.data= .seq its n/\its.size<=sizeLine/\Vals xs its.toList
def E4:Value->Option V | .none=>some .ay | .bool b=>some (.bl b) | .int i _=>some (.int i) | .str x _=>some (.str x) | .bytes b _=>some (.cZ b) | .float b _=>some (.o7 b) | .ref a=>some (.ref a) | .type n=>some (.ty n) |_=>none
theorem RelV.abs{x:V}{u:Value}(r:RelV x u):E4 u=some x:=by cases x with |ay=>cases r;rfl |bl _=>cases r;rfl |int _=>obtain⟨t,rfl⟩:=r;rfl |str _=>obtain⟨t,rfl⟩:=r;rfl |cZ _=>obtain⟨t,rfl⟩:=r;rfl |o7 _=>obtain⟨t,rfl⟩:=r;rfl |ref _=>cases r;rfl |ty _=>cases r;rfl
theorem RelV.inj{x y:V}{u:Value}(r:RelV x u)(q:RelV y u):x=y:=bP (r.abs.symm.trans q.abs)
theorem Vals.inj:∀{xs ys:List V}{us:List Value},Vals xs us->Vals ys us->xs=ys |_,_,_,.nil,.nil=>rfl |_,_,_,.cons r t,.cons r' t'=>by rw[r.inj r',Vals.inj t t']
section
variable {X:Cx}{pins:List (Addr×Obj)}{σ:St}{H:Hp}{s:EZ}{a:Addr}{xs ys:List V}
theorem aa.of{K:EY}(h:H a=some (.lst xs)):aa K H a xs:=.inl (.inl h)
theorem af.of{K:EY}(h:H a=some (.tup xs)):af K H a xs:=.inl (.inl h)
theorem Inv.list(I:Inv X pins σ H s)(h:aa X.K H a xs):∃its:List Value,Vals xs its/\PlainL s.heap a its.toArray/\xs.length<=sizeLine:=by
 rcases h with h|⟨o,its,n,hk,hc,hd,hs,hz,r⟩
 · obtain⟨z,its,n,r,e⟩:=h.ok I.hok
   exact⟨its,r,⟨_,n,e,rfl,rfl,rfl⟩,z⟩
 · refine⟨its.toList,r,⟨o,n,I.fw a o hk,hc,hd,by simpa using hs⟩,?_⟩
   have e:=r.length;simp only[dX]at e;omega
theorem Inv.tuple(I:Inv X pins σ H s)(h:af X.K H a xs):∃its:List Value,Vals xs its/\IsTup s.heap a its.toArray/\xs.length<=sizeLine:=by
 rcases h with h|⟨o,its,n,hk,hc,hs,hz,r⟩
 · obtain⟨z,its,r,p⟩:=h.ok I.hok
   exact⟨its,r,p,z⟩
 · refine⟨its.toList,r,⟨o,I.fw a o hk,hc,n,by simpa using hs⟩,?_⟩
   have e:=r.length;simp only[dX]at e;omega
theorem Inv.sy(I:Inv X pins σ H s)(h:aa X.K H a xs)(h':aa X.K H a ys):xs=ys:=by
 obtain⟨its,r,⟨o,n,e,_,_,d⟩,_⟩:=I.list h;obtain⟨its',r',⟨o',n',e',_,_,d'⟩,_⟩:=I.list h';rw[e]at e';cases e';rw[d]at d';injection d' with d1 _;have:its=its':=by simpa using fi Array.toList d1
 subst this;exact r.inj r'
theorem Inv.pF(I:Inv X pins σ H s)(h:af X.K H a xs)(h':af X.K H a ys):xs=ys:=by
 obtain⟨its,r,⟨o,e,_,n,d⟩,_⟩:=I.tuple h;obtain⟨its',r',⟨o',e',_,n',d'⟩,_⟩:=I.tuple h';rw[e]at e';cases e';rw[d]at d';injection d' with d1 _;have:its=its':=by simpa using fi Array.toList d1
 subst this;exact r.inj r'
end
abbrev Cx.dY(X:Cx)(E:Value->EZ->Prop):Cx:={X with xe:=E}
abbrev Cx.iQ(X:Cx):Cx:=X.dY fun _ _=>False
theorem Cx.Ok.dY{X:Cx}(ok:X.Ok)(E:Value->EZ->Prop):(X.dY E).Ok:=⟨ok.mod,ok.kind,ok.glob,ok.blt,ok.above,ok.inj,ok.has,ok.cab,ok.hd,ok.frames,ok.stk,ok.exf,ok.bs,ok.bsz,ok.noex,ok.exfs,ok.dv,ok.frf⟩
theorem Cx.Ok.fo{X:Cx}{E:Value->EZ->Prop}(ok:(X.dY E).Ok):X.Ok:=⟨ok.mod,ok.kind,ok.glob,ok.blt,ok.above,ok.inj,ok.has,ok.cab,ok.hd,ok.frames,ok.stk,ok.exf,ok.bs,ok.bsz,ok.noex,ok.exfs,ok.dv,ok.frf⟩
section
variable {X:Cx}{pins:List (Addr×Obj)}{σ:St}{H:Hp}{s:EZ}{E:Value->EZ->Prop}
theorem Inv.dY(I:Inv X pins σ H s)(E:Value->EZ->Prop):Inv (X.dY E) pins σ H s:=⟨I.ok.dY E,I.os,I.bare,I.base,I.loc,I.cell,I.free,I.freeC,I.pin,I.hok,I.len⟩
theorem Inv.fo(I:Inv (X.dY E) pins σ H s):Inv X pins σ H s:=⟨I.ok.fo,I.os,I.bare,I.base,I.loc,I.cell,I.free,I.freeC,I.pin,I.hok,I.len⟩
theorem SP.fo{D:Ends}{f:Flow}{s':EZ}(h:SP (X.dY E) pins D f s'):SP X pins D f s':=by cases f with |next=>obtain⟨σ',H',I,q⟩:=h;exact⟨σ',H',I.fo,q⟩ |brk=>obtain⟨σ',H',I,q⟩:=h;exact⟨σ',H',I.fo,q⟩ |cont=>obtain⟨σ',H',I,q⟩:=h;exact⟨σ',H',I.fo,q⟩ |ret u=>obtain⟨v,σ',H',I,r,q⟩:=h;exact⟨v,σ',H',I.fo,r,q⟩
theorem cP.iQ{st:List Stmt}{t:TS}(h:cP X.iQ st t):cP X st t:=fun pins s σ H D I hw=>ff (h pins s σ H D (I.dY _) hw) (fun _ _ q=>q.fo) fun _ _ z=>False.elim z
end
section
variable {X:Cx}{st:Stmt}{rest:List Stmt}{t u:TS}{e:Expr}{te:TE}{pos:Pos}
def xD:TS:=fun D σ H=>D.nx σ H
def xr(t u:TS):TS:=fun D σ H=>t {D with nx:=u D} σ H
theorem bo:cP X [] xD:=fun _ _ σ H _ I h=>oT ⟨σ,H,I,h⟩
theorem ag(h1:PS X st t)(h2:cP X rest u):cP X (st::rest) (xr t u):=by intro pins s σ H D I h;refine wpAny_execs_cons (ab (h1 pins s σ H {D with nx:=u D} I h) fun f s1 q=>?_);cases f with |next=>obtain⟨σ',H',I',q⟩:=q;exact h2 pins s1 σ' H' D I' q |ret v=>exact q |brk=>exact q |cont=>exact q
theorem ao(h1:PS X st t):cP X [st] t:=by intro pins s σ H D I h;refine wpAny_execs_cons (ab (h1 pins s σ H D I h) fun f s1 q=>?_);cases f with |next=>exact oT q |ret v=>exact q |brk=>exact q |cont=>exact q
theorem Inv.quiet{pins:List (Addr×Obj)}{σ:St}{H:Hp}{s:EZ}(I:Inv X pins σ H s):interactive X.env=false:=by simp[interactive,I.ok.kind]
def xM(te:TE):TS:=fun D σ H=>te σ H fun _ H1=>D.nx σ H1
theorem mH(he:PE X e te)(hs:swapsWith e none pos.line X.env=pure false:=by rfl):PS X (.Expr e pos) (xM te):=by intro pins s σ H D I h;exact wpAny_Expr_any (ab (he pins s σ H _ I h) fun v s1 ⟨x,H1,I1,r1,q1⟩=>⟨σ,H1,I1,q1⟩) I.quiet hs
def xt(te:TE):TS:=fun D σ H=>te σ H D.rt
theorem az(he:PE X e te):PS X (.Return (some e) pos) (xt te):=by intro pins s σ H D I h;exact wpAny_Return_some (ab (he pins s σ H _ I h) fun v s1 ⟨x,H1,I1,r1,q1⟩=>⟨x,σ,H1,I1,r1,q1⟩)
def xI(c:TT)(t u:TS):TS:=fun D σ H=>c σ H fun b H1=>if b=true then t D σ H1 else u D σ H1
theorem bb{c:Expr}{a b:List Stmt}{tc:TT}(hc:PT X c tc)(ha:cP X a t)(hb:cP X b u):PS X (.If c a b pos) (xI tc t u):=by intro pins s σ H D I h;refine wpAny_If (ab (hc pins s σ H _ I h) fun d s1 ⟨H1,I1,q1⟩=>?_);cases d with |true=>exact ha pins s1 σ H1 D I1 q1 |false=>exact hb pins s1 σ H1 D I1 q1
def xE:TS:=fun _ _ _=>False
theorem rp:PS X st xE:=fun _ _ _ _ _ _ h=>h.elim
end
abbrev TG:=V->St->Hp->(St->Hp->Prop)->Prop
abbrev eD:=List V->St->Hp->(St->Hp->Prop)->Prop
def PG(X:Cx)(target:Expr)(t:TG):Prop:=∀(pins:List (Addr×Obj))(s:EZ)(σ:St)(H:Hp)(v:V)(u:Value)(Q:St->Hp->Prop),Inv X pins σ H s->RelV v u->t v σ H Q->wpAny (model X.prog X.w) X.A (assign target X.env u) (fun _ s'=>∃σ' H',Inv X pins σ' H' s'/\Q σ' H') X.xe s
def jh(X:Cx)(ts:List Expr)(t:eD):Prop:=∀(pins:List (Addr×Obj))(s:EZ)(σ:St)(H:Hp)(vs:List V)(us:List Value)(Q:St->Hp->Prop),Inv X pins σ H s->Vals vs us->t vs σ H Q->wpAny (model X.prog X.w) X.A (assignInOrder ((assignEach ts X.env).map (·.2)) us) (fun _ s'=>∃σ' H',Inv X pins σ' H' s'/\Q σ' H') X.xe s
abbrev oH:=V->V->V->Hp->(Hp->Prop)->Prop
def uJ(X:Cx)(t:oH):Prop:=∀(pins:List (Addr×Obj))(s:EZ)(σ:St)(H:Hp)(o i v:V)(ov iv u:Value)(Q:Hp->Prop),Inv X pins σ H s->RelV o ov->RelV i iv->RelV v u->t o i v H Q->wpAny (model X.prog X.w) X.A (setItem ov iv u) (fun _ s'=>∃H',Inv X pins σ H' s'/\Q H') X.xe s
section
variable {X:Cx} {pos:Pos}
def c5(i:Nat):TG:=fun v σ H Q=>Q (σ.set i (some v)) H
theorem zd{i:Nat}{x:Str}(hN:X.N.Nodup)(hi:X.N[i]? =some x)(hx:Loc X.env.scope x)(hf:X.fn x=true\/X.env.scope.names.lookup x=some .local:=by first|exact .inl rfl|exact .inr rfl|assumption):PG X (.Name x pos) (c5 i):=by intro pins s σ H v u Q I r h;exact wpAny_assign_Name (pR I hN hi hx r (fun s' I'=>⟨_,H,I',h⟩) hf)
def tL:eD:=fun vs σ H Q=>vs=[]/\Q σ H
inductive wc(t:TG)(u:eD)(vs:List V)(σ:St)(H:Hp)(Q:St->Hp->Prop):Prop |mk (v:_)(r:_)(h0:vs=v::r)(h1:t v σ H fun σ' H'=>u r σ' H' Q):wc t u vs σ H Q
def o5(t:TG)(u:eD):eD:=fun vs σ H Q=>wc t u vs σ H Q
theorem fU:jh X [] tL:=by intro pins s σ H vs us Q I r h;obtain⟨e,h⟩:=h;subst e;cases r;exact assignInOrder_nil ⟨σ,H,I,h⟩
theorem bU{e:Expr}{es:List Expr}{t:TG}{u:eD}(h1:PG X e t)(h2:jh X es u) (hs:(assignEach (e::es) X.env).map (·.2)=assign e X.env::(assignEach es X.env).map (·.2):=by rfl):jh X (e::es) (o5 t u):=by intro pins s σ H vs us Q I r h;obtain⟨v,vr,e1,h⟩:=h;subst e1;cases r with |cons r rr=>rw[hs];refine assignInOrder_cons (ab (h1 pins s σ H _ _ _ I r h) fun _ s1 ⟨σ1,H1,I1,q1⟩=>?_);exact h2 pins s1 σ1 H1 _ _ Q I1 rr q1
inductive wa(K:EY)(n:Nat)(t:eD)(v:V)(σ:St)(H:Hp)(Q:St->Hp->Prop):Prop |mk (a:_)(xs:_)(h0:v= .ref a)(h1:af K H a xs)(h2:xs.length=n)(h3:t xs σ H Q):wa K n t v σ H Q
def o4(K:EY)(n:Nat)(t:eD):TG:=fun v σ H Q=>wa K n t v σ H Q
theorem zc{es:List Expr}{k:Nat}{t:eD}{n:Nat}(hc:X.calm=true)(h:jh X es t) (hn:(assignEach es X.env).length=n:=by rfl)(iW:(assignEach es X.env).findIdx? (·.1)=none:=by rfl):PG X (.Tuple es k pos) (o4 X.K n t):=by intro pins s σ H v u Q I r hw;obtain⟨a,xs,e1,hq,hl,hw⟩:=hw;subst e1;cases r;obtain⟨its,rv,ht,hz⟩:=I.tuple hq;refine assign_Tuple_tuple (I.ok.hd hc) ht (by simp[hn,<-hl,rv.length]) iW fun h' hx=>?_;have I1:Inv X pins σ H {s with heap:=h'}:=I.kept (t':=s.toks) fun b o e=>hx b o (bw (aw e)) e;exact h pins _ σ H xs _ Q I1 (by simpa using rv) hw
def CY(to ti:TE)(t:oH):TG:=fun v σ H Q=>to σ H fun o H1=>ti σ H1 fun i H2=>t o i v H2 fun H3=>Q σ H3
theorem mJ{o i:Expr}{to ti:TE}{t:oH}(ho:PE X o to)(hi:PE X i ti)(hs:uJ X t) (ha:∀v,assign (.Subscript o i pos) X.env v=(do
     let ov<-holding [v] (eval o X.env)
     let iv<-holding [v,ov] (eval i X.env)
     standAt pos
     holding [v,ov,iv] (setItem ov iv v)
     release [v,ov,iv] []):=by intro _;rfl):PG X (.Subscript o i pos) (CY to ti t):=by
  intro pins s σ H v u Q I r h;rw[ha];refine a7 (fg (ab (ho pins s σ H _ I h) fun ov s1 ⟨x,H1,I1,r1,q1⟩=>?_));refine a7 (fg (ab (hi pins s1 σ H1 _ I1 q1) fun iv s2 ⟨y,H2,I2,r2,q2⟩=>?_));refine a7 (wpAny_standAt (a7 (fg (ab (hs pins s2 σ H2 x y v ov iv u _ I2 r1 r2 r q2) fun _ s3 ⟨H3,I3,q3⟩=>?_))));exact wpAny_release ⟨σ,H3,I3,q3⟩
def jN(te:TE)(g:TG):TS:=fun D σ H=>te σ H fun x H1=>g x σ H1 D.nx
theorem eK{tg e:Expr}{te:TE}{g:TG}(he:PE X e te)(hg:PG X tg g)(hs:swapsWithSole [tg] e pos.line X.env=pure false:=by rfl)(hw:swappedStores [tg] e X.env=pure none:=by rfl) (h1:(assignEach [tg] X.env).map (·.2)=[assign tg X.env]:=by rfl):PS X (.Assign [tg] e pos) (jN te g):=by intro pins s σ H D I h;refine wpAny_Assign_stores (ab (he pins s σ H _ I h) fun v s1 ⟨x,H1,I1,r1,q1⟩=>?_) hs hw;rw[h1];exact ab (hg pins s1 σ H1 x v _ I1 r1 q1) fun _ s2 q=>q
theorem yV{i:Nat}{x:Str}{e:Expr}{te:TE}{pos':Pos}(hN:X.N.Nodup)(hi:X.N[i]? =some x)(hx:Loc X.env.scope x)(he:PE X e te)(hs:swapsWith e (some (.Name x pos')) pos.line X.env=pure false:=by rfl)(hf:X.fn x=true\/X.env.scope.names.lookup x=some .local:=by first|exact .inl rfl|exact .inr rfl|assumption): PS X (.Assign [.Name x pos'] e pos) (jN te (c5 i)):=by intro pins s σ H D I h;refine wpAny_Assign_Name (ab (he pins s σ H _ I h) fun v s1 ⟨y,H1,I1,r1,q1⟩=>?_) hs;exact pR I1 hN hi hx r1 (fun s2 I2=>⟨_,H1,I2,q1⟩) hf
end
section
variable {X:Cx} {pos:Pos}
def pJ(c:TT)(tb:TS):TS:=fun D σ H=>∃W:Nat->St->Hp->Prop,(∃m,W m σ H)/\∀m σ H,W m σ H->c σ H fun b H1=>if b=true then∃N:St->Hp->Prop,(∀σ' H',N σ' H'->∃m',m'<m/\W m' σ' H')/\tb {D with nx:=N,ct:=N,bk:=D.nx} σ H1 else D.nx σ H1
theorem rn{c:Expr}{body:List Stmt}{tc:TT}{tb:TS}(hp:PassesOwn (model X.prog X.w) X.A X.env X.xe)(hc:PT X c tc)(hb:cP X body tb):PS X (.While c body [] pos) (pJ tc tb):=by intro pins s σ H D I h;obtain⟨W,⟨m0,w0⟩,turn⟩:=h;refine wpAny_While (codeAny_whileLoop (fun n s'=>∃σ' H',Inv X pins σ' H' s'/\W n σ' H') ?_ m0 ⟨σ,H,I,w0⟩);rintro n s1 ⟨σ1,H1,I1,w1⟩;refine ie hp (ab (hc pins s1 σ1 H1 _ I1 (turn n σ1 H1 w1)) fun b s2 ⟨H2,I2,q2⟩=>?_);cases b with
 |true=>obtain⟨N,hN,q2⟩:=q2;rw[aD rfl];refine ie hp (ab (hb pins s2 σ1 H2 _ I2 q2) fun f s3 q3=>?_);cases f with |next=>obtain⟨σ3,H3,I3,n3⟩:=q3;obtain⟨m',hm,w3⟩:=hN σ3 H3 n3;exact⟨m',hm,σ3,H3,I3,w3⟩ |cont=>obtain⟨σ3,H3,I3,n3⟩:=q3;obtain⟨m',hm,w3⟩:=hN σ3 H3 n3;exact⟨m',hm,σ3,H3,I3,w3⟩ |brk=>exact q3 |ret v=>exact q3
 |false=>rw[aE bF];exact oT ⟨σ1,H2,I2,q2⟩
end
structure It where
 go:Nat->Hp->Prop
 yld:Nat->Hp->V->Hp->Prop
 stop:Nat->Hp->Prop
def da(X:Cx)(pins:List (Addr×Obj))(H:Hp)(b:Addr):Prop:=H b=none/\b≠X.env.locals/\b∉X.fs/\(b∈X.ex\/X.s₀.heap.objs.size<=b)/\(∀x c,X.env.cells.lookup x=some c->c≠b)/\∀p∈X.pn++pins,p.1≠b
theorem Inv.fz{X:Cx}{pins:List (Addr×Obj)}{σ:St}{H H':Hp}{s:EZ}{b:Addr}(I:Inv X pins σ H s)(hb:s.heap.objs.size<=b)(hn:H' b=none):da X pins H' b:=by
 refine⟨hn,ju (c8 I.lt hb),I.Ao hb,.inr (cE I.sz hb),fun x c e z=>?_,fun p hp z=>?_⟩
 · obtain⟨v,q⟩:=I.cell x c e
   exact absurd (c8 q.lt (by rw[z];exact hb)) (il _)
 ·exact absurd (c8 (aw (I.pin p hp).1) (by rw[z];exact hb)) (il _)
structure Turn(P:F0)(w:World)(K:EY)(tg:Expr)(J:It)(fp:List Addr)(it:Addr)(tn:Nat->Heap->Prop):Prop where
 mem:it∈fp
 obj:∀i h,tn i h->∀b∈fp,∃o,h.get? b=some o/\∀v,o.data≠ .cell v
 keep:∀i h h',tn i h->(∀b∈fp,∀o,h.get? b=some o->h'.get? b=some o)->tn i h'
 item:∀(X:Cx),X.prog=P->X.w=w->X.K=K->X.calm=true->∀(i:Nat)(pins:List (Addr×Obj))(s:EZ)(σ:St)(H:Hp)(E:Value->EZ->Prop),Inv X pins σ H s->(∀b∈fp,da X pins H b)->tn i s.heap->J.go i H->wpAny (model P w) X.A (pyNext (.ref it)) (fun r s1=>∃u,r=some u/\wpAny (model P w) X.A (letOwnedTupleGo tg (.ref it) u) (fun _ s2=>∃x H',Inv X pins σ H' s2/\RelV x u/\J.yld i H x H'/\tn (i+1) s2.heap/\∀b∈fp,H' b=none) E s1) E s
 done:∀(X:Cx),X.prog=P->X.w=w->X.K=K->X.calm=true->∀(i:Nat)(pins:List (Addr×Obj))(s:EZ)(σ:St)(H:Hp)(E:Value->EZ->Prop),Inv X pins σ H s->(∀b∈fp,da X pins H b)->tn i s.heap->J.stop i H->wpAny (model P w) X.A (pyNext (.ref it)) (fun r s1=>r=none/\Inv X pins σ H s1) E s
 self:∀(A:F2)(i:Nat)(s:EZ)(Q:Value->EZ->Prop)(E:Value->EZ->Prop),tn i s.heap->Q (.ref it) s->wpAny (model P w) A (pyIter (.ref it)) Q E s
abbrev TI:=St->Hp->(It->Hp->Prop)->Prop
def oJ(X:Cx)(pins:List (Addr×Obj))(σ:St)(tg:Expr)(R:It->Hp->Prop)(kj:Value)(s2:EZ):Prop:=∃(it:Addr)(fp:List Addr)(tn:Nat->Heap->Prop)(J:It)(H':Hp),kj= .ref it/\Inv X pins σ H' s2/\Turn X.prog X.w X.K tg J fp it tn/\tn 0 s2.heap/\(∀b∈fp,da X pins H' b)/\R J H'
def PI(X:Cx)(tg iter:Expr)(wi:TI):Prop:=∀(pins:List (Addr×Obj))(s:EZ)(σ:St)(H:Hp)(R:It->Hp->Prop),Inv X pins σ H s->wi σ H R->wpAny (model X.prog X.w) X.A (eval iter X.env) (fun v s1=>wpAny (model X.prog X.w) X.A (pyIter v) (oJ X pins σ tg R) X.xe s1) X.xe s
theorem kA{M:Model}{A:F2}{E:Value->EZ->Prop}{s:EZ}{tg:Expr}{it:Addr}{u:Value}{o:Obj}{n:String}{vs:Array Value}{Q:Unit->EZ->Prop}(ho:s.heap.get? it=some o)(hc:o.cls= .type n)(hd:o.data= .fields vs) (hn:["enumerate","zip","dict_itemiterator","dict_reverseitemiterator","odict_iterator","itertools.zip_longest","itertools.pairwise"].contains n=false)(hQ:Q () s):wpAny M A (letOwnedTupleGo tg (.ref it) u) Q E s:=by unfold letOwnedTupleGo;cases tg<;>first |exact aA hQ |(cases u<;>first
        |exact aA hQ
        | (refine a7 (wpAny_load ho ?_)
           rw[hc,hd];show wpAny M A (if(["enumerate","zip","dict_itemiterator","dict_reverseitemiterator","odict_iterator","itertools.zip_longest","itertools.pairwise"].contains n&&vs[0]? ==some (rawInt _))=true then _ else _) Q E s;rw[aE (by intro h;rw[hn,df]at h;cases h)];exact aA hQ))
def ib(K:EY)(a:Addr):It:=⟨fun i H=>∃xs x,aa K H a xs/\xs[i]? =some x,fun i H x H'=>H'=H/\∀xs,aa K H a xs->xs[i]? =some x,fun i H=>∃xs,aa K H a xs/\xs.length<=i⟩
def kR(K:EY)(a:Addr):It:=⟨fun i H=>∃xs x,af K H a xs/\xs[i]? =some x,fun i H x H'=>H'=H/\∀xs,af K H a xs->xs[i]? =some x,fun i H=>∃xs,af K H a xs/\xs.length<=i⟩
def fb(lo:Int)(n:Nat):It:=⟨fun i _=>i<n,fun i H x H'=>H'=H/\x= .int (lo+i),fun i _=>n<=i⟩
theorem xi{P:F0}{w:World}{K:EY}{tg:Expr}(a it:Addr):Turn P w K tg (ib K a) [it] it (fun i h=>h.IsListIter it a i) where
 mem:=by simp
 obj:=fun i h st b hb=>by
  have e:b=it:=by simpa using hb
  subst e;obtain⟨o,e,c,d⟩:=st;exact⟨o,e,fun v z=>by rw[d]at z;cases z⟩
 keep:=fun i h h' st k=>st.at fun o e=>k it (by simp) o e
 item:=by intro X hP hw hK hc i pins s σ H E I hf st hg;subst hP hw hK;obtain⟨xs,x,hq,hx⟩:=hg;obtain⟨its,rv,p,hz⟩:=I.list hq;obtain⟨u,hu,ru⟩:=rv.get hx;obtain⟨f0,f1,f2,f3,f4,f5⟩:=hf it (by simp);refine wpAny_pyNext_list_item st p.isList (x:=u) (by simpa using hu) fun h' dC sb=>?_;have I1:Inv X pins σ H {s with heap:=h'}:=I.turned (t':=s.toks) (fun b o hb e=>(sb.2 b hb).trans e) f0 f1 f3 f4 f5;obtain⟨o,e,c,d⟩:=id dC;exact⟨u,rfl,kA (s:={s with heap:=h'}) e c d (by decide) ⟨x,H,I1,ru,⟨rfl,fun ys hy=>by rw[I.sy hy hq];exact hx⟩,dC,fun b hb=>(hf b hb).1⟩⟩
 done:=by intro X hP hw hK hc i pins s σ H E I hf st hg;subst hP hw hK;obtain⟨xs,hq,hx⟩:=hg;obtain⟨its,rv,p,hz⟩:=I.list hq;obtain⟨f0,f1,f2,f3,f4,f5⟩:=hf it (by simp);have hl:=rv.length;exact wpAny_pyNext_list_end (I.ok.hd hc) st p.isList (by simp;omega) fun h' eb=>⟨rfl,I.turned (t':=s.toks) (fun b o hb e=>eb b o hb e) f0 f1 f3 f4 f5⟩
 self:=fun _ _ _ _ _ st h=>wpAny_pyIter_listiter st h
theorem xf{P:F0}{w:World}{K:EY}{tg:Expr}(a it:Addr):Turn P w K tg (kR K a) [it] it (fun i h=>h.IsTupleIter it a i) where
 mem:=by simp
 obj:=fun i h st b hb=>by
  have e:b=it:=by simpa using hb
  subst e;obtain⟨o,e,c,d⟩:=st;exact⟨o,e,fun v z=>by rw[d]at z;cases z⟩
 keep:=fun i h h' st k=>st.at fun o e=>k it (by simp) o e
 item:=by intro X hP hw hK hc i pins s σ H E I hf st hg;subst hP hw hK;obtain⟨xs,x,hq,hx⟩:=hg;obtain⟨its,rv,p,hz⟩:=I.tuple hq;obtain⟨u,hu,ru⟩:=rv.get hx;obtain⟨f0,f1,f2,f3,f4,f5⟩:=hf it (by simp);refine wpAny_pyNext_tuple_item st (show s.heap.IsTuple a its.toArray from p) (x:=u) (by simpa using hu) fun h' dC sb=>?_;have I1:Inv X pins σ H {s with heap:=h'}:=I.turned (t':=s.toks) (fun b o hb e=>(sb.2 b hb).trans e) f0 f1 f3 f4 f5;obtain⟨o,e,c,d⟩:=id dC;exact⟨u,rfl,kA (s:={s with heap:=h'}) e c d (by decide) ⟨x,H,I1,ru,⟨rfl,fun ys hy=>by rw[I.pF hy hq];exact hx⟩,dC,fun b hb=>(hf b hb).1⟩⟩
 done:=by intro X hP hw hK hc i pins s σ H E I hf st hg;subst hP hw hK;obtain⟨xs,hq,hx⟩:=hg;obtain⟨its,rv,p,hz⟩:=I.tuple hq;obtain⟨f0,f1,f2,f3,f4,f5⟩:=hf it (by simp);have hl:=rv.length;exact wpAny_pyNext_tuple_end (I.ok.hd hc) st (show s.heap.IsTuple a its.toArray from p) (by simp;omega) fun h' eb=>⟨rfl,I.turned (t':=s.toks) (fun b o hb e=>eb b o hb e) f0 f1 f3 f4 f5⟩
 self:=fun _ _ _ _ _ st h=>wpAny_pyIter_tupleiter st h
theorem xh{P:F0}{w:World}{K:EY}{tg:Expr}(it:Addr)(lo:Int)(n:Nat):Turn P w K tg (fb lo n) [it] it (fun i h=>IsRangeIter h it (lo+(i:Nat)*1) ((n:Int)-(i:Nat)) 1) where
 mem:=by simp
 obj:=fun i h st b hb=>by
  have e:b=it:=by simpa using hb
  subst e;exact⟨_,st,fun v z=>by have z':Data.fields _=Data.cell v:=z;cases z'⟩
 keep:=fun i h h' st k=>k it (by simp) _ st
 item:=by intro X hP hw hK hc i pins s σ H E I hf st hg;subst hP hw hK;obtain⟨f0,f1,f2,f3,f4,f5⟩:=hf it (by simp);have W:=Walks.range (prog:=X.prog) (w:=X.w) (I.ok.hd hc) it lo 1 n;refine W.item i s _ _ hg st fun v h' tk hv dC kk=>?_;obtain⟨t,rfl⟩:=hv;have I1:Inv X pins σ H {s with heap:=h',toks:=tk}:=I.turned (fun b o hb e=>kk b o (by simpa using hb) e) f0 f1 f3 f4 f5;refine⟨_,rfl,kA (s:={s with heap:=h',toks:=tk}) (n:="range_iterator") dC rfl rfl (by decide) ⟨.int (lo+i),H,I1,⟨t,?_⟩,⟨rfl,rfl⟩,dC,fun b hb=>(hf b hb).1⟩⟩;rw[Int.mul_one]
 done:=by intro X hP hw hK hc i pins s σ H E I hf st hg;subst hP hw hK;obtain⟨f0,f1,f2,f3,f4,f5⟩:=hf it (by simp);exact wpAny_pyNext_range_end (I.ok.hd hc) st (by have:n<=i:=hg;omega) fun h' eb=>⟨rfl,I.turned (t':=s.toks) (fun b o hb e=>eb b o hb e) f0 f1 f3 f4 f5⟩
 self:=fun _ _ _ _ _ st h=>wpAny_pyIter_rangeiter st h
section
variable {X:Cx} {tg:Expr}
inductive w8(K:EY)(R:It->Hp->Prop)(x:V)(H1:Hp):Prop |mk (a:_)(h0:x= .ref a)(h1:(∃xs,aa K H1 a xs))(h2:R (ib K a) H1):w8 K R x H1
def sU(K:EY)(tl:TE):TI:=fun σ H R=>tl σ H fun x H1=>w8 K R x H1
inductive vX(K:EY)(R:It->Hp->Prop)(x:V)(H1:Hp):Prop |mk (a:_)(h0:x= .ref a)(h1:(∃xs,af K H1 a xs))(h2:R (kR K a) H1):vX K R x H1
def sS(K:EY)(tl:TE):TI:=fun σ H R=>tl σ H fun x H1=>vX K R x H1
theorem za{l:Expr}{tl:TE}(hl:PE X l tl):PI X tg l (sU X.K tl):=by
 intro pins s σ H R I h;refine ab (hl pins s σ H _ I h) fun v s1 ⟨x,H1,I1,r1,q1⟩=>?_;obtain⟨a,e,⟨xs,hq⟩,q⟩:=q1;subst e;cases r1;obtain⟨its,rv,p,hz⟩:=I1.list hq;refine jl p.isList ?_;refine⟨s1.heap.objs.size,[s1.heap.objs.size],_,_,H1,rfl,I1.kept (t':=s1.toks) fun b o e=>aC _ e,xi a _,⟨_,bh _ rfl,rfl,rfl⟩,fun b hb=>?_,q⟩;have e:b=s1.heap.objs.size:=by simpa using hb
 subst e;exact I1.fz (ak _) (I1.hok.fresh (ak _))
theorem z9{l:Expr}{tl:TE}(hl:PE X l tl):PI X tg l (sS X.K tl):=by
 intro pins s σ H R I h;refine ab (hl pins s σ H _ I h) fun v s1 ⟨x,H1,I1,r1,q1⟩=>?_;obtain⟨a,e,⟨xs,hq⟩,q⟩:=q1;subst e;cases r1;obtain⟨its,rv,p,hz⟩:=I1.tuple hq;refine wpAny_pyIter_tuple (show s1.heap.IsTuple a its.toArray from p) ?_;refine⟨s1.heap.objs.size,[s1.heap.objs.size],_,_,H1,rfl,I1.kept (t':=s1.toks) fun b o e=>aC _ e,xf a _,⟨_,bh _ rfl,rfl,rfl⟩,fun b hb=>?_,q⟩;have e:b=s1.heap.objs.size:=by simpa using hb
 subst e;exact I1.fz (ak _) (I1.hok.fresh (ak _))
theorem yx{pins:List (Addr×Obj)}{σ:St}{H:Hp}{s:EZ}{R:It->Hp->Prop}{E:Value->EZ->Prop}{lo hi:Int}{t u v:Tok}{tk:Nat}(I:Inv X pins σ H s)(h1:-(2^62)<=lo)(h2:lo<2^62)(h3:-(2^62)<=hi)(h4:hi<2^62) (q:R (fb lo (hi-lo).toNat) H):wpAny (model X.prog X.w) X.A (pyIter (.ref s.heap.objs.size)) (oJ X pins σ tg R) E {s with heap:=s.heap.push {cls:=.type "range",data:=.fields #[.int lo t,.int hi u,.int 1 v]},toks:=tk}:=by
  refine wpAny_pyIter_range (IsRange.new ..) (small_one h1 h2 h3 h4) ?_;have I1:Inv X pins σ H {s with heap:=s.heap.push {cls:=.type "range",data:=.fields #[.int lo t,.int hi u,.int 1 v]},toks:=tk}:=I.kept fun b o e=>aC _ e;refine⟨(s.heap.push {cls:=.type "range",data:=.fields #[.int lo t,.int hi u,.int 1 v]}).objs.size,[(s.heap.push {cls:=.type "range",data:=.fields #[.int lo t,.int hi u,.int 1 v]}).objs.size],_,_,H,rfl,I1.kept (t':=tk) fun b o e=>aC _ e,xh _ lo (hi-lo).toNat,?_,fun b hb=>?_,q⟩
  · have e1:lo+((0:Nat):Int)*1=lo:=by simp
    have e2:(((hi-lo).toNat:Nat):Int)-((0:Nat):Int)=Builtin.Range.rangeSize lo hi 1:=by rw[rangeSize_one];split<;>omega
    show IsRangeIter _ _ (lo+((0:Nat):Int)*1) ((((hi-lo).toNat:Nat):Int)-((0:Nat):Int)) 1;rw[e1,e2];exact bh _ rfl
  · have e:b=(s.heap.push {cls:=.type "range",data:=.fields #[.int lo t,.int hi u,.int 1 v]}).objs.size:=by simpa using hb
    subst e;exact I1.fz (ak _) (I1.hok.fresh (ak _))
inductive vZ(R:It->Hp->Prop)(vs:List V)(H1:Hp):Prop |mk (j:Int)(h0:vs=[.int j])(h1:-(2^62)<=j)(h2:j<2^62)(h3:R (fb 0 j.toNat) H1):vZ R vs H1
def Bq(ta:TA):TI:=fun σ H R=>ta σ H fun vs H1=>vZ R vs H1
theorem fS{a:Expr}{ta:TA}{p pos:Pos}(hg:Gl X "range")(hm:X.mg "range"=none)(ha:PA X [a] ta)(hs:starEach [a] X.env=[(false,eval a X.env)]:=by rfl):PI X tg (.Call (.Name "range" p) [a] [] pos) (Bq ta):=by intro pins s σ H R I h;refine Call_ (gd I hg hm boot_range (kZ (ab (ha pos pins s σ H _ I h) fun us s1 ⟨vs,H1,I1,r1,q1⟩=>?_) hs rfl));obtain⟨j,e,q1,q2,q⟩:=q1;subst e;cases r1 with |cons r rr=>cases rr;obtain⟨t,rfl⟩:=r;exact call_range_1 (yx I1 (by omega) (by omega) q1 q2 (by simpa using q))
def xK(wi:TI)(g:TG)(tb:TS):TS:=fun D σ H=>wi σ H fun J H1=>∃W:Nat->Nat->St->Hp->Prop,(∃m,W 0 m σ H1)/\∀i m σ H,W i m σ H->(J.stop i H/\D.nx σ H)\/(J.go i H/\∃N:St->Hp->Prop,(∀σ' H',N σ' H'->∃m',m'<m/\W (i+1) m' σ' H')/\∀x H',J.yld i H x H'->g x σ H' fun σ2 H2=>tb {D with nx:=N,ct:=N,bk:=D.nx} σ2 H2)
def gR(fp:List Addr)(h:Heap):List (Addr×Obj):=fp.filterMap fun b=>(h.get? b).map fun o=>(b,o)
theorem hU{fp:List Addr}{h:Heap}{b:Addr}{o:Obj}(hb:b∈fp)(e:h.get? b=some o):(b,o)∈gR fp h:=List.mem_filterMap.mpr ⟨b,hb,by rw[e];rfl⟩
theorem Ad{fp:List Addr}{h:Heap}{p:Addr×Obj}(hp:p∈gR fp h):p.1∈fp/\h.get? p.1=some p.2:=by obtain⟨b,hb,e⟩:=List.mem_filterMap.mp hp;cases q:h.get? b with |none=>rw[q]at e;cases e |some o=>rw[q]at e;have e':(b,o)=p:=bP e;subst e';exact⟨hb,q⟩
theorem Inv.pinned{pins:List (Addr×Obj)}{σ:St}{H:Hp}{s:EZ}{fp:List Addr}(I:Inv X pins σ H s)(hf:∀b∈fp,da X pins H b)(ho:∀b∈fp,∃o,s.heap.get? b=some o/\∀v,o.data≠ .cell v):Inv X (pins++gR fp s.heap) σ H s:=I.rB fun p hp=>(dU.mp hp).elim (fun z=>I.pin p (cR _ z)) fun z=>by obtain⟨hb,e⟩:=Ad z;obtain⟨f0,f1,f2,_⟩:=hf p.1 hb;obtain⟨o,e',d⟩:=ho p.1 hb;rw[e]at e';cases e';exact⟨e,f0,f1,f2,d⟩
theorem Inv.iy{pins pl:List (Addr×Obj)}{σ:St}{H:Hp}{s:EZ}(I:Inv X (pins++pl) σ H s):Inv X pins σ H s:=I.rB fun p hp=>I.pin p (cR _ (wy _ hp))
theorem iL{iter:Expr}{body:List Stmt}{wi:TI}{g:TG}{tb:TS}{pos:Pos}(hp:PassesOwn (model X.prog X.w) X.A X.env X.xe)(hc:X.calm=true)(hi:PI X tg iter wi)(hg:PG X tg g)(hb:cP X body tb) (hs:∀x,foldedSetIterable iter X.env x=pure x:=by intro _;rfl):PS X (.For tg iter body [] pos) (xK wi g tb):=by
  intro pins s σ H D I h;refine wpAny_For (ab (hi pins s σ H _ I h) fun v s1 h1=>ab h1 fun kj s2 h2=>?_) hs;obtain⟨it,fp,tn,J,H2,e,I2,T,fN,f2,W,⟨m0,w0⟩,turn⟩:=h2;subst e;have dB:∀{H':Hp},(∀b∈fp,H' b=none)->∀b∈fp,da X pins H' b:=fun hn b hb=>⟨hn b hb,(f2 b hb).2⟩;refine codeAny_forLoop_any (fun n s'=>∃i σ' H',Inv X pins σ' H' s'/\tn i s'.heap/\(∀b∈fp,H' b=none)/\W i n σ' H') ?_ m0 ⟨0,σ,H2,I2,fN,fun b hb=>(f2 b hb).1,w0⟩;rintro n s3 ⟨i,σ3,H3,I3,pU,tQ,w3⟩;rcases turn i n σ3 H3 w3 with⟨stop,qn⟩|⟨go,N,hN,step⟩
  · refine ie hp (ab (T.done X rfl rfl rfl hc i pins s3 σ3 H3 X.xe I3 (dB tQ) pU stop) fun r s4 ⟨hr,I4⟩=>?_)
    subst hr;exact oT ⟨σ3,H3,I4,qn⟩
  · refine ie hp (ab (T.item X rfl rfl rfl hc i pins s3 σ3 H3 X.xe I3 (dB tQ) pU go) fun r s4 ⟨u,hr,h4⟩=>?_)
    subst hr;refine ie hp (ab h4 fun _ s5 ⟨x,H5,I5,r5,y5,eI,gu⟩=>?_);have Ef:=I5.pinned (dB gu) (T.obj _ _ eI);refine ie hp (ab (hg _ s5 σ3 H5 x u _ Ef r5 (step x H5 y5)) fun _ s6 ⟨σ6,H6,I6,q6⟩=>?_);refine ie hp (ab (hb _ s6 σ6 H6 _ I6 q6) fun f s7 q7=>?_);have again:∀{σ7:St}{H7:Hp},Inv X (pins++gR fp s5.heap) σ7 H7 s7->N σ7 H7->∃m,m<n/\∃i σ' H',Inv X pins σ' H' s7/\tn i s7.heap/\(∀b∈fp,H' b=none)/\W i m σ' H':=fun{σ7 H7} I7 n7=>by obtain⟨m',hm,w7⟩:=hN σ7 H7 n7;refine⟨m',hm,i+1,σ7,H7,I7.iy,T.keep _ _ _ eI fun b hb o e=>(I7.pin (b,o) (cR _ (cR _ (hU hb e)))).1,fun b hb=>?_,w7⟩;obtain⟨o,e,d⟩:=T.obj _ _ eI b hb;exact(I7.pin (b,o) (cR _ (cR _ (hU hb e)))).2.1
    cases f with |next=>obtain⟨σ7,H7,I7,n7⟩:=q7;exact again I7 n7 |cont=>obtain⟨σ7,H7,I7,n7⟩:=q7;exact again I7 n7 |brk=>obtain⟨σ7,H7,I7,q7⟩:=q7;exact⟨σ7,H7,I7.iy,q7⟩ |ret v=>obtain⟨x7,σ7,H7,I7,r7,q7⟩:=q7;exact⟨x7,σ7,H7,I7.iy,r7,q7⟩
end
theorem D5{K:EY}{a:Addr}{xs:List V}{g:TG}{tb:TS}{D:Ends}{σ:St}{H:Hp}(Pv:Nat->St->Hp->Prop)(h0:Pv 0 σ H)(hl:∀i σ H,i<=xs.length->Pv i σ H->aa K H a xs) (hs:∀i x σ H,xs[i]? =some x->Pv i σ H->g x σ H fun σ2 H2=>tb {D with nx:=Pv (i+1),ct:=Pv (i+1),bk:=D.nx} σ2 H2)(hd:∀σ H,Pv xs.length σ H->D.nx σ H): ∃W:Nat->Nat->St->Hp->Prop,(∃m,W 0 m σ H)/\∀i m σ H,W i m σ H->((ib K a).stop i H/\D.nx σ H)\/((ib K a).go i H/\∃N:St->Hp->Prop,(∀σ' H',N σ' H'->∃m',m'<m/\W (i+1) m' σ' H')/\∀x H',(ib K a).yld i H x H'->g x σ H' fun σ2 H2=>tb {D with nx:=N,ct:=N,bk:=D.nx} σ2 H2):=by
  refine⟨fun i m σ H=>m=xs.length-i/\i<=xs.length/\Pv i σ H,⟨xs.length,by simp,bI _,h0⟩,?_⟩;rintro i m σ H ⟨rfl,hi,p⟩;have q:=hl i σ H hi p;by_cases aM:i<xs.length
  · refine .inr ⟨⟨xs,xs[i],q,by simp[aM]⟩,Pv (i+1),fun σ' H' p'=>⟨xs.length-(i+1),by omega,rfl,aM,p'⟩,fun x H' y=>?_⟩
    obtain⟨e,y⟩:=y;subst e;exact hs i x σ _ (y xs q) p
  · have e:i=xs.length:=by omega
    subst e;exact .inl ⟨⟨xs,q,ak _⟩,hd σ H p⟩
theorem tR{lo:Int}{n:Nat}{g:TG}{tb:TS}{D:Ends}{σ:St}{H:Hp}(Pv:Nat->St->Hp->Prop)(h0:Pv 0 σ H) (hs:∀i σ H,i<n->Pv i σ H->g (.int (lo+i)) σ H fun σ2 H2=>tb {D with nx:=Pv (i+1),ct:=Pv (i+1),bk:=D.nx} σ2 H2)(hd:∀σ H,Pv n σ H->D.nx σ H): ∃W:Nat->Nat->St->Hp->Prop,(∃m,W 0 m σ H)/\∀i m σ H,W i m σ H->((fb lo n).stop i H/\D.nx σ H)\/((fb lo n).go i H/\∃N:St->Hp->Prop,(∀σ' H',N σ' H'->∃m',m'<m/\W (i+1) m' σ' H')/\∀x H',(fb lo n).yld i H x H'->g x σ H' fun σ2 H2=>tb {D with nx:=N,ct:=N,bk:=D.nx} σ2 H2):=by
  refine⟨fun i m σ H=>m=n-i/\i<=n/\Pv i σ H,⟨n,by simp,bI _,h0⟩,?_⟩;rintro i m σ H ⟨rfl,hi,p⟩;by_cases aM:i<n
  · refine .inr ⟨aM,Pv (i+1),fun σ' H' p'=>⟨n-(i+1),by omega,rfl,aM,p'⟩,fun x H' y=>?_⟩
    obtain⟨e,y⟩:=y;subst e y;exact hs i σ _ aM p
  · have e:i=n:=by omega
    subst e;exact .inl ⟨ak _,hd σ H p⟩
theorem pw{c:TT}{tb:TS}{D:Ends}{σ:St}{H:Hp}(Pv:St->Hp->Prop)(μ:St->Hp->Nat)(h0:Pv σ H) (hs:∀σ H,Pv σ H->c σ H fun b H1=>if b=true then tb {D with nx:=fun σ' H'=>Pv σ' H'/\μ σ' H'<μ σ H,ct:=fun σ' H'=>Pv σ' H'/\μ σ' H'<μ σ H,bk:=D.nx} σ H1 else D.nx σ H1) (mono:∀σ H Q Q',(∀b H1,Q b H1->Q' b H1)->c σ H Q->c σ H Q'):pJ c tb D σ H:=by refine⟨fun m σ H=>m=μ σ H/\Pv σ H,⟨_,rfl,h0⟩,?_⟩;rintro m σ H ⟨rfl,p⟩;refine mono σ H _ _ (fun b H1 q=>?_) (hs σ H p);cases b with |true=>exact⟨_,fun σ' H' ⟨p',l⟩=>⟨_,l,rfl,p'⟩,q⟩ |false=>exact q
abbrev R2:=V->V->Hp->VK->Prop
def aK(X:Cx)(f:Value->Value->Sem Value)(r:R2):Prop:=∀(pins:List (Addr×Obj))(s:EZ)(σ:St)(H:Hp)(x y:V)(v u:Value)(Q:VK),Inv X pins σ H s->RelV x v->RelV y u->r x y H Q->wpAny (model X.prog X.w) X.A (f v u) (EP X pins σ Q) X.xe s
def oF(X:Cx)(f:Value->Sem Value)(r:V->Hp->VK->Prop):Prop:=∀(pins:List (Addr×Obj))(s:EZ)(σ:St)(H:Hp)(x:V)(v:Value)(Q:VK),Inv X pins σ H s->RelV x v->r x H Q->wpAny (model X.prog X.w) X.A (f v) (EP X pins σ Q) X.xe s
def bu(X:Cx)(f:Value)(r:List V->Hp->VK->Prop):Prop:=∀(pins:List (Addr×Obj))(s:EZ)(σ:St)(H:Hp)(xs:List V)(us:List Value)(Q:VK),Inv X pins σ H s->Vals xs us->r xs H Q->wpAny (model X.prog X.w) X.A (call f us) (EP X pins σ Q) X.xe s
def Ec(X:Cx)(r:V->Hp->(Bool->Hp->Prop)->Prop):Prop:=∀(pins:List (Addr×Obj))(s:EZ)(σ:St)(H:Hp)(x:V)(v:Value)(Q:Bool->Hp->Prop),Inv X pins σ H s->RelV x v->r x H Q->wpAny (model X.prog X.w) X.A (truthy v) (TP X pins σ Q) X.xe s
def iC(r:R2)(ta tb:TE):TE:=fun σ H Q=>ta σ H fun x H1=>tb σ H1 fun y H2=>r x y H2 Q
def xo(r:V->Hp->VK->Prop)(ta:TE):TE:=fun σ H Q=>ta σ H fun x H1=>r x H1 Q
inductive vR(C:Int->Int->Prop)(g:Int->Int->V)(x:V)(y:V)(H:Hp)(Q:VK):Prop |mk (i:_)(j:_)(h0:x= .int i)(h1:y= .int j)(h2:C i j)(h3:Q (g i j) H):vR C g x y H Q
def rI(C:Int->Int->Prop)(g:Int->Int->V):R2:=fun x y H Q=>vR C g x y H Q
inductive vQ(g:Int->Int->V)(x:V)(y:V)(H:Hp)(Q:VK):Prop |mk (i:_)(j:_)(h0:x= .int i)(h1:y= .int j)(h2:Q (g i j) H):vQ g x y H Q
def cK(g:Int->Int->V):R2:=fun x y H Q=>vQ g x y H Q
inductive vx(g:Int->V)(x:V)(H:Hp)(Q:VK):Prop |mk (i:_)(h0:x= .int i)(h1:Q (g i) H):vx g x H Q
def rU(g:Int->V):V->Hp->VK->Prop:=fun x H Q=>vx g x H Q
section
variable {X:Cx}{a b c:Expr}{ta tb tc:TE}{pos:Pos}
theorem oy(ha:PE X a ta)(hb:PE X b tb){pins:List (Addr×Obj)}{s:EZ}{σ:St}{H:Hp}{R:V->V->Hp->Prop}(I:Inv X pins σ H s) (h:ta σ H fun x H1=>tb σ H1 fun y H2=>R x y H2){Q:Value->EZ->Prop}{f:Value->Value->Sem Value} (hf:∀v u s2 x y H2,Inv X pins σ H2 s2->RelV x v->RelV y u->R x y H2->wpAny (model X.prog X.w) X.A (f v u) Q X.xe s2): wpAny (model X.prog X.w) X.A (eval a X.env) (fun v s₁=>wpAny (model X.prog X.w) X.A (eval b X.env) (fun u s₂=>wpAny (model X.prog X.w) X.A (f v u) Q X.xe s₂) X.xe s₁) X.xe s:=by refine ab (ha pins s σ H _ I h) fun v s1 ⟨x,H1,I1,r1,q1⟩=>?_;refine ab (hb pins s1 σ H1 _ I1 q1) fun u s2 ⟨y,H2,I2,r2,q2⟩=>?_;exact hf v u s2 x y H2 I2 r1 r2 q2
theorem aB{op:Operator}{r:R2}(ho:aK X (binaryOp op) r)(ha:PE X a ta)(hb:PE X b tb):PE X (.BinOp a op b pos) (iC r ta tb):=by intro pins s σ H Q I h;exact wpAny_BinOp (oy ha hb I h fun v u s2 x y H2 I2 rx ry q=>ho pins s2 σ H2 x y v u Q I2 rx ry q)
theorem jZ{op:UnaryOp}{r:V->Hp->VK->Prop}(ho:oF X (unaryOp op) r)(ha:PE X a ta):PE X (.UnaryOp op a pos) (xo r ta):=by intro pins s σ H Q I h;exact UnaryOp_ (ab (ha pins s σ H _ I h) fun v s1 ⟨x,H1,I1,r1,q1⟩=>ho pins s1 σ H1 x v Q I1 r1 q1)
theorem k6{f:Value->Value->Sem Value}{C:Int->Int->Prop}{g:Int->Int->Int} (rule:∀(i j:Int)(t u:Tok)(s:EZ)(Q:Value->EZ->Prop)(E:Value->EZ->Prop),C i j->Q (.int (g i j) s.toks) {s with toks:=s.toks+1}->wpAny (model X.prog X.w) X.A (f (.int i t) (.int j u)) Q E s): aK X f (rI C fun i j=>.int (g i j)):=by intro pins s σ H x y v u Q I rx ry h;obtain⟨i,j,rfl,rfl,hc,q⟩:=h;obtain⟨t,rfl⟩:=rx;obtain⟨t',rfl⟩:=ry;exact rule i j t t' s _ _ hc ⟨.int (g i j),H,I.tok _,⟨_,rfl⟩,q⟩
theorem rO{f:Value->Value->Sem Value}{g:Int->Int->Int} (rule:∀(i j:Int)(t u:Tok)(s:EZ)(Q:Value->EZ->Prop)(E:Value->EZ->Prop),Q (.int (g i j) s.toks) {s with toks:=s.toks+1}->wpAny (model X.prog X.w) X.A (f (.int i t) (.int j u)) Q E s): aK X f (cK fun i j=>.int (g i j)):=by intro pins s σ H x y v u Q I rx ry h;obtain⟨i,j,rfl,rfl,q⟩:=h;obtain⟨t,rfl⟩:=rx;obtain⟨t',rfl⟩:=ry;exact rule i j t t' s _ _ ⟨.int (g i j),H,I.tok _,⟨_,rfl⟩,q⟩
theorem gY{f:Value->Value->Sem Value}{g:Int->Int->Bool} (rule:∀(i j:Int)(t u:Tok)(s:EZ)(Q:Value->EZ->Prop)(E:Value->EZ->Prop),Q (.bool (g i j)) s->wpAny (model X.prog X.w) X.A (f (.int i t) (.int j u)) Q E s): aK X f (cK fun i j=>.bl (g i j)):=by intro pins s σ H x y v u Q I rx ry h;obtain⟨i,j,rfl,rfl,q⟩:=h;obtain⟨t,rfl⟩:=rx;obtain⟨t',rfl⟩:=ry;exact rule i j t t' s _ _ ⟨.bl (g i j),H,I,rfl,q⟩
def Eh(i j:Int):Prop:=0<=j/\j<=1000000/\i.natAbs<2^64
theorem cg:aK X (binaryOp .Add) (cK fun i j=>.int (i+j)):=rO fun _ _ _ _ _ _ _ q=>add_int q
theorem zu:aK X (binaryOp .Sub) (cK fun i j=>.int (i-j)):=rO fun _ _ _ _ _ _ _ q=>sub_int q
theorem gX:aK X (binaryOp .Mod) (rI (fun _ j=>0<j) fun i j=>.int (i%j)):=k6 fun i j _ _ _ _ _ hc q=>by have h1:(0:Int)<j:=hc;exact mod_int' (by omega) (by rw[Int.fmod_eq_emod_of_nonneg i (by omega)];exact q)
theorem mO:aK X (binaryOp .Pow) (rI Eh fun i j=>.int (i^j.toNat)):=k6 fun _ _ _ _ _ _ _ hc q=>pow_int_small hc.1 hc.2.1 hc.2.2 q
theorem xa{f:Value->Sem Value}{g:Int->Int} (rule:∀(i:Int)(t:Tok)(s:EZ)(Q:Value->EZ->Prop)(E:Value->EZ->Prop),Q (.int (g i) s.toks) {s with toks:=s.toks+1}->wpAny (model X.prog X.w) X.A (f (.int i t)) Q E s): oF X f (rU fun i=>.int (g i)):=by intro pins s σ H x v Q I rx h;obtain⟨i,rfl,q⟩:=h;obtain⟨t,rfl⟩:=rx;exact rule i t s _ _ ⟨.int (g i),H,I.tok _,⟨_,rfl⟩,q⟩
theorem jE:oF X (unaryOp .USub) (rU fun i=>.int (-i)):=xa fun _ _ _ _ _ q=>neg_int q
end
def qt:V->V->Bool | .ay,.ay=>true| .ay,.int _=>true| .int _,.ay=>true| .ay,.bl _=>true| .bl _,.ay=>true| .ay,.str _=>true| .str _,.ay=>true | .int _,.int _=>true| .bl _,.bl _=>true| .str _,.str _=>true| .cZ _,.cZ _=>true | .int _,.str _=>true| .str _,.int _=>true| .bl _,.str _=>true| .str _,.bl _=>true |_,_=>false
def yI:R2:=fun x y H Q=>qt x y=true/\Q (.bl (decide (x=y))) H
def yE:R2:=fun x y H Q=>qt x y=true/\Q (.bl (!decide (x=y))) H
theorem u7{i j:Int}:decide (V.int i=V.int j)=(i==j):=by rw[eH];simp
theorem ua{i j:Bool}:decide (V.bl i=V.bl j)=(i==j):=by rw[eH];simp
theorem u6{i j:Str}:decide (V.str i=V.str j)=(i==j):=by rw[eH];simp
theorem u9{i j:Array UInt8}:decide (V.cZ i=V.cZ j)=(i.toList==j.toList):=by rw[eH];cases i;cases j;simp
section
variable {X:Cx}{a b c:Expr}{ta tb tc:TE}{pos:Pos}
theorem aU{pins:List (Addr×Obj)}{σ:St}{H:Hp}{s:EZ}{Q:VK}{k k':Bool}(I:Inv X pins σ H s)(q:Q (.bl k) H)(e:k=k'):EP X pins σ Q (.bool k') s:=by subst e;exact⟨.bl k,H,I,rfl,q⟩
theorem fZ:aK X (compareOp .Eq) yI:=by intro pins s σ H x y v u Q I rx ry h;obtain⟨hs,q⟩:=h;cases x with
 |ay=>cases rx;cases y with |ay=>cases ry;exact PySem.EqNone.eq_none_none (aU I q (by simp)) |bl j=>cases ry;exact PySem.EqNone.eq_none_bool (aU I q (by simp)) |int j=>obtain⟨t',rfl⟩:=ry;exact PySem.EqNone.eq_none_int (aU I q (by simp)) |str j=>obtain⟨t',rfl⟩:=ry;exact PySem.EqNone.eq_none_str (aU I q (by simp)) |_=>exact absurd (show false=true from hs) bF
 |bl i=>cases rx;cases y with |ay=>cases ry;exact PySem.EqNone.eq_bool_none (aU I q (by simp)) |bl j=>cases ry;exact eq_bool (aU I q ua) |str j=>obtain⟨t',rfl⟩:=ry;exact PySem.EqMixed.eq_bool_str (aU I q (by simp)) |_=>exact absurd (show false=true from hs) bF
 |int i=>obtain⟨t,rfl⟩:=rx;cases y with |ay=>cases ry;exact PySem.EqNone.eq_int_none (aU I q (by simp)) |int j=>obtain⟨t',rfl⟩:=ry;exact eq_int (aU I q u7) |str j=>obtain⟨t',rfl⟩:=ry;exact PySem.EqMixed.eq_int_str (aU I q (by simp)) |_=>exact absurd (show false=true from hs) bF
 |str i=>obtain⟨t,rfl⟩:=rx;cases y with |ay=>cases ry;exact PySem.EqNone.eq_str_none (aU I q (by simp)) |bl j=>cases ry;exact PySem.EqMixed.eq_str_bool (aU I q (by simp)) |int j=>obtain⟨t',rfl⟩:=ry;exact PySem.EqMixed.eq_str_int (aU I q (by simp)) |str j=>obtain⟨t',rfl⟩:=ry;exact eq_str (aU I q u6) |_=>exact absurd (show false=true from hs) bF
 |cZ i=>obtain⟨t,rfl⟩:=rx;cases y with |cZ j=>obtain⟨t',rfl⟩:=ry;exact PySem.W.eq_bytes (aU I q u9) |_=>exact absurd (show false=true from hs) bF
 |_=>cases y<;>exact absurd (show false=true from hs) bF
theorem zy:aK X (compareOp .NotEq) yE:=by intro pins s σ H x y v u Q I rx ry h;obtain⟨hs,q⟩:=h;cases x with
 |ay=>cases rx;cases y with |ay=>cases ry;exact PySem.EqNone.ne_none_none (aU I q (by simp)) |bl j=>cases ry;exact PySem.EqNone.ne_none_bool (aU I q (by simp)) |int j=>obtain⟨t',rfl⟩:=ry;exact PySem.EqNone.ne_none_int (aU I q (by simp)) |str j=>obtain⟨t',rfl⟩:=ry;exact PySem.EqNone.ne_none_str (aU I q (by simp)) |_=>exact absurd (show false=true from hs) bF
 |bl i=>cases rx;cases y with |ay=>cases ry;exact PySem.EqNone.ne_bool_none (aU I q (by simp)) |bl j=>cases ry;exact ne_bool (aU I q (fi not ua)) |str j=>obtain⟨t',rfl⟩:=ry;exact PySem.EqMixed.ne_bool_str (aU I q (by simp)) |_=>exact absurd (show false=true from hs) bF
 |int i=>obtain⟨t,rfl⟩:=rx;cases y with |ay=>cases ry;exact PySem.EqNone.ne_int_none (aU I q (by simp)) |int j=>obtain⟨t',rfl⟩:=ry;exact ne_int (aU I q (fi not u7)) |str j=>obtain⟨t',rfl⟩:=ry;exact PySem.EqMixed.ne_int_str (aU I q (by simp)) |_=>exact absurd (show false=true from hs) bF
 |str i=>obtain⟨t,rfl⟩:=rx;cases y with |ay=>cases ry;exact PySem.EqNone.ne_str_none (aU I q (by simp)) |bl j=>cases ry;exact PySem.EqMixed.ne_str_bool (aU I q (by simp)) |int j=>obtain⟨t',rfl⟩:=ry;exact PySem.EqMixed.ne_str_int (aU I q (by simp)) |str j=>obtain⟨t',rfl⟩:=ry;exact ne_str (aU I q (fi not u6)) |_=>exact absurd (show false=true from hs) bF
 |cZ i=>obtain⟨t,rfl⟩:=rx;cases y with |cZ j=>obtain⟨t',rfl⟩:=ry;exact PySem.W.ne_bytes (aU I q (fi not u9)) |_=>exact absurd (show false=true from hs) bF
 |_=>cases y<;>exact absurd (show false=true from hs) bF
theorem k4:aK X (compareOp .Lt) (cK fun i j=>.bl (decide (i<j))):=gY fun _ _ _ _ _ _ _ q=>lt_int q
theorem k5:aK X (compareOp .LtE) (cK fun i j=>.bl (decide (i<=j))):=gY fun _ _ _ _ _ _ _ q=>le_int q
theorem zC:aK X (compareOp .Gt) (cK fun i j=>.bl (decide (j<i))):=gY fun _ _ _ _ _ _ _ q=>gt_int q
theorem zD:aK X (compareOp .GtE) (cK fun i j=>.bl (decide (j<=i))):=gY fun _ _ _ _ _ _ _ q=>ge_int q
theorem zB:aK X (compareOp .In) (fun x y H Q=>∃i j,x= .str i/\y= .str j/\Q (.bl (!(Builtin.Str.occurrences j i 0 j.length 1).isEmpty)) H):=by intro pins s σ H x y v u Q I rx ry h;obtain⟨i,j,rfl,rfl,q⟩:=h;obtain⟨t,rfl⟩:=rx;obtain⟨t',rfl⟩:=ry;exact in_str (aU I q rfl)
theorem zA:aK X (compareOp .Is) (fun x y H Q=>y= .ay/\Q (.bl (decide (x= .ay))) H):=by intro pins s σ H x y v u Q I rx ry h;obtain⟨rfl,q⟩:=h;cases ry;refine is_none_gen (aU I q ?_);cases x<;>first |(cases rx;rfl) |(obtain⟨t,rfl⟩:=rx;rfl)
theorem aK.or{f:Value->Value->Sem Value}{r r':R2}(h:aK X f r)(h':aK X f r'):aK X f (fun x y H Q=>r x y H Q\/r' x y H Q):=by
 intro pins s σ H x y v u Q I rx ry q;rcases q with q|q
 ·exact h pins s σ H x y v u Q I rx ry q
 ·exact h' pins s σ H x y v u Q I rx ry q
theorem aP(b:Expr){op:CmpOp}(h:op≠ .In:=by decide)(h2:op≠ .NotIn:=by decide):behindInMarks op b=false:=by
 have e1:(op==CmpOp.In)=false:=by cases op<;>first|rfl|exact absurd rfl h
 have e2:(op==CmpOp.NotIn)=false:=by cases op<;>first|rfl|exact absurd rfl h2
 cases b<;>simp[behindInMarks,e1,e2]
theorem fu{op:CmpOp}{r:R2}(ho:aK X (compareOp op) r)(ha:PE X a ta)(hb:PE X b tb)(hm:behindInMarks op b=false):PE X (.Compare a [op] [b] pos) (iC r ta tb):=by intro pins s σ H Q I h;exact wpAny_Compare1 (oy ha hb I h fun v u s2 x y H2 I2 rx ry q=>ho pins s2 σ H2 x y v u Q I2 rx ry q) hm
inductive uO(Q:Bool->Hp->Prop)(x:V)(H':Hp):Prop |mk (k:_)(h0:x= .bl k)(h1:Q k H'):uO Q x H'
def pL(t:TE):TT:=fun σ H Q=>t σ H fun x H'=>uO Q x H'
theorem ba{op:CmpOp}{r:R2}(ho:aK X (compareOp op) r)(ha:PE X a ta)(hb:PE X b tb)(hm:behindInMarks op b=false):PT X (.Compare a [op] [b] pos) (pL (iC r ta tb)):=by intro pins s σ H Q I h;refine wpAny_isTrue_Compare1 (ab (ha pins s σ H _ I h) fun v s1 ⟨x,H1,I1,r1,q1⟩=>ab (hb pins s1 σ H1 _ I1 q1) fun u s2 ⟨y,H2,I2,r2,q2⟩=>ab (ho pins s2 σ H2 x y v u _ I2 r1 r2 q2) fun c s3 ⟨z,H3,I3,r3,k,e,q3⟩=>?_) hm;subst e;cases r3;exact eF ⟨H3,I3,q3⟩
inductive uT(r':R2)(tc:TE)(σ:St)(Q:VK)(y:V)(z:V)(H3:Hp):Prop |mk (k:_)(h0:z= .bl k)(h1:(if k=true then tc σ H3 fun w' H4=>r' y w' H4 Q else Q (.bl false) H3)):uT r' tc σ Q y z H3
def pO(r r':R2)(ta tb tc:TE):TE:=fun σ H Q=>ta σ H fun x H1=>tb σ H1 fun y H2=>r x y H2 fun z H3=>uT r' tc σ Q y z H3
theorem zk{op g6:CmpOp}{r r':R2}(ho:aK X (compareOp op) r)(dJ:aK X (compareOp g6) r')(ha:PE X a ta)(hb:PE X b tb)(hc:PE X c tc) (hm:lastMarks [op,g6] [b,c]=false:=by with_unfolding_all rfl):PE X (.Compare a [op,g6] [b,c] pos) (pO r r' ta tb tc):=by intro pins s σ H Q I h;refine Compare_chain (ab (ha pins s σ H _ I h) fun v s1 ⟨x,H1,I1,r1,q1⟩=>chain_link (ab (hb pins s1 σ H1 _ I1 q1) fun u s2 ⟨y,H2,I2,r2,q2⟩=>ab (ho pins s2 σ H2 x y v u _ I2 r1 r2 q2) fun d s3 ⟨z,H3,I3,r3,k,e,q3⟩=>?_)) hm;subst e;cases r3;refine eF ?_;cases k with |false=>exact ite_ff ⟨.bl false,H3,I3,rfl,q3⟩ |true=>exact ite_tt (chain_last (ab (hc pins s3 σ H3 _ I3 q3) fun w' s4 ⟨z',H4,I4,r4,q4⟩=>dJ pins s4 σ H4 y z' u w' Q I4 r2 r4 q4))
theorem yT{op g6:CmpOp}{r r':R2}(ho:aK X (compareOp op) r)(dJ:aK X (compareOp g6) r')(ha:PE X a ta)(hb:PE X b tb)(hc:PE X c tc) (hm:lastMarks [op,g6] [b,c]=false:=by with_unfolding_all rfl):PT X (.Compare a [op,g6] [b,c] pos) (pL (pO r r' ta tb tc)):=by intro pins s σ H Q I h;refine isTrue_chain (ab (ha pins s σ H _ I h) fun v s1 ⟨x,H1,I1,r1,q1⟩=>test_link (ab (hb pins s1 σ H1 _ I1 q1) fun u s2 ⟨y,H2,I2,r2,q2⟩=>ab (ho pins s2 σ H2 x y v u _ I2 r1 r2 q2) fun d s3 ⟨z,H3,I3,r3,k,e,q3⟩=>?_)) hm;subst e;cases r3;refine eF ?_;cases k with |false=>obtain⟨k',e',q'⟩:=q3;cases e';exact ite_ff ⟨H3,I3,q'⟩ |true=>refine ite_tt (test_last (ab (hc pins s3 σ H3 _ I3 q3) fun w' s4 ⟨z',H4,I4,r4,q4⟩=>ab (dJ pins s4 σ H4 y z' u w' _ I4 r2 r4 q4) fun d' s5 ⟨z2,H5,I5,r5,k2,e2,q5⟩=>?_));subst e2;cases r5;exact eF ⟨H5,I5,q5⟩
def oG(K:EY)(x:V)(H:Hp)(k:Bool):Prop:=match x with | .ay=>k=false | .bl b=>k=b | .int i=>k=(i !=0) | .str y=>y.length<=sizeLine/\k=((y.length:Int) !=0) | .cZ y=>y.size<=sizeLine/\k=((y.size:Int) !=0) | .ref p=>(∃xs,aa K H p xs/\k= !xs.isEmpty)\/(∃xs,af K H p xs/\k= !xs.isEmpty)\/∃aX,H p=some (.dK aX)/\k= !aX.isEmpty |_=>False
theorem Bf{κ:Type}{aX:List (κ×V)}{vs:List (κ×Value)}(r:KV aX vs):(!vs.isEmpty)= !aX.isEmpty:=by cases r<;>rfl
theorem sO{xs:List V}{its:List Value}(r:Vals xs its):(!its.toArray.isEmpty)= !xs.isEmpty:=by cases r<;>simp
theorem gc:(sizeLine:Nat)<2^63:=by rw[kX];decide
theorem xk:Ec X (fun x H Q=>∃k,oG X.K x H k/\Q k H):=by intro pins s σ H x v Q I rx h;obtain⟨k,e,q⟩:=h;have hl:=gc;have hs:sizeLine=16777216:=kX;cases x with |ay=>cases rx;have e':k=false:=e;subst e';exact truthy_none ⟨H,I,q⟩ |bl b=>cases rx;have e':k=b:=e;subst e';exact eF ⟨H,I,q⟩ |int i=>obtain⟨t,rfl⟩:=rx;have e':k=(i !=0):=e;subst e';exact PySem.P.truthy_int ⟨H,I,q⟩ |str y=>obtain⟨t,rfl⟩:=rx;obtain⟨hy,e'⟩:y.length<=sizeLine/\k=((y.length:Int) !=0):=e;subst e';exact PySem.P.truthy_str (by omega) ⟨H,I.tok _,q⟩ |cZ y=>obtain⟨t,rfl⟩:=rx;obtain⟨hy,e'⟩:y.size<=sizeLine/\k=((y.size:Int) !=0):=e;subst e';exact PySem.W.truthy_bytes (by omega) ⟨H,I.tok _,q⟩ |ref p=>
   cases rx;have e':(∃xs,aa X.K H p xs/\k= !xs.isEmpty)\/(∃xs,af X.K H p xs/\k= !xs.isEmpty)\/∃aX,H p=some (.dK aX)/\k= !aX.isEmpty:=e;rcases e' with⟨xs,hx,e'⟩|⟨xs,hx,e'⟩|⟨aX,hx,e'⟩
   · subst e'
     obtain⟨its,r,pl,hz⟩:=I.list hx;have hlen:=r.length;exact wpAny_truthy_list pl.isList (by simp only[bf];omega) ⟨H,I.tok _,by rw[sO r];exact q⟩
   · subst e'
     obtain⟨its,r,pl,hz⟩:=I.tuple hx;have hlen:=r.length;exact truthy_tuple pl (by simp only[bf];omega) ⟨H,I.tok _,by rw[sO r];exact q⟩
   · subst e'
     obtain⟨hz,hS,vs,r,m⟩:aX.length<=sizeLine/\(p==sysModules)=false/\∃vs,KV aX vs/\s.heap.DictOf (nj X.prog X.w) p vs:=I.hok p _ hx;have hlen:aX.length=vs.length:=Paired.length r;exact wpAny_truthy_dict hS m (by omega) ⟨H,I.tok _,by rw[Bf r];exact q⟩ |_=>exact(show False from e).elim
theorem yR(ha:PE X a ta)(he:∀whole,isTrue a X.env whole=(do let v<-whole;standAt a.pos;holding [v] (truthy v))): PT X a (fun σ H Q=>ta σ H fun x H'=>∃k,oG X.K x H' k/\Q k H'):=by intro pins s σ H Q I h;exact isTrue_plain (ab (ha pins s σ H _ I h) fun v s1 ⟨x,H1,I1,r1,q1⟩=>xk pins s1 σ H1 x v Q I1 r1 q1) (he _)
theorem iO:aK X (binaryOp .Add) (fun x y H Q=>∃i j,x= .str i/\y= .str j/\i.length+j.length<=sizeLine/\Q (.str (i++j)) H):=by intro pins s σ H x y v u Q I rx ry h;obtain⟨i,j,rfl,rfl,hz,q⟩:=h;obtain⟨t,rfl⟩:=rx;obtain⟨t',rfl⟩:=ry;exact add_str (fun t' tk=>⟨.str (i++j),H,I.tok _,⟨_,rfl⟩,q⟩) hz
theorem vals1{x:V}{us:List Value}(r:Vals [x] us):∃u,us=[u]/\RelV x u:=by cases r with |cons r1 r2=>cases r2;exact⟨_,rfl,r1⟩
theorem vals2{x y:V}{us:List Value}(r:Vals [x,y] us):∃u w',us=[u,w']/\RelV x u/\RelV y w':=by cases r with |cons r1 r2=>cases r2 with |cons r3 r4=>cases r4;exact⟨_,_,rfl,r1,r3⟩
theorem uu:bu X (.builtin "abs") (fun xs H Q=>∃i,xs=[.int i]/\Q (.int (if i<0 then-i else i)) H):=by intro pins s σ H xs us Q I r h;obtain⟨i,rfl,q⟩:=h;obtain⟨u,rfl,t,rfl⟩:=vals1 r;exact call_abs_int fun u tk=>⟨.int (if i<0 then-i else i),H,I.tok _,⟨_,rfl⟩,q⟩
theorem DC(hc:X.calm=true):bu X (.builtin "max") (fun xs H Q=>∃i j,xs=[.int i,.int j]/\Q (.int (if j>i then j else i)) H):=by
 intro pins s σ H xs us Q I r h;obtain⟨i,j,rfl,q⟩:=h;obtain⟨u,w',rfl,⟨t,rfl⟩,⟨t',rfl⟩⟩:=vals2 r;refine max_two_ints (I.ok.hd hc) fun h' tk k=>⟨_,H,I.kept k,?_,q⟩;by_cases hj:j>i
 ·rw[aD hj,aD hj];exact⟨_,rfl⟩
 ·rw[aE hj,aE hj];exact⟨_,rfl⟩
theorem ur(hc:X.calm=true):bu X (.builtin "min") (fun xs H Q=>∃i j,xs=[.int i,.int j]/\Q (.int (if j<i then j else i)) H):=by
 intro pins s σ H xs us Q I r h;obtain⟨i,j,rfl,q⟩:=h;obtain⟨u,w',rfl,⟨t,rfl⟩,⟨t',rfl⟩⟩:=vals2 r;refine min_two_ints (I.ok.hd hc) fun h' tk k=>⟨_,H,I.kept k,?_,q⟩;by_cases hj:j<i
 ·rw[aD hj,aD hj];exact⟨_,rfl⟩
 ·rw[aE hj,aE hj];exact⟨_,rfl⟩
end
end L2
namespace L2
open PySem PySem.Spec PyProof.Rows
section
variable {prog:F0}{w:World}{A:F2}{E:Value->EZ->Prop}{s:EZ}{K:EY}{x dx C f:Addr}{mA:Str->Option Value}{name:Str}{v:Value}
end
section
variable {P:F0}{w:World}{H H':Hp}{h h':Heap}{a C dx:Addr}{fs D3:List (Str×V)}
end
section
variable {X:Cx}{pins:List (Addr×Obj)}{σ:St}{H:Hp}{s:EZ}{a C dx:Addr}{fs:List (Str×V)}{f:Str}{v:V}{A:F2}{E:Value->EZ->Prop}
end
section
variable {X:Cx}{o e value:Expr}{f:Str}{pos pos' jH:Pos}{ta tv:TE}
end
section
variable {X:Cx}{pins:List (Addr×Obj)}{σ:St}{H:Hp}{s:EZ}{A:F2}{E:Value->EZ->Prop}{Q:Value->EZ->Prop}{c:Value}{b:Bool}
end
end L2
namespace L2
open PySem PySem.Spec PyProof.Rows
structure bB(k:Nat)(A:F2):Prop where
 hd:A.handled=none
 dp:A.depth+3*k+5<recursionLimit
 un:A.units+16*k+200<cLine
theorem bB.mono{j k:Nat}{A:F2}(r:bB k A)(h:j<=k):bB j A:=⟨r.hd,by have:=r.dp;omega,by have:=r.un;omega⟩
theorem bB.deeper{k:Nat}{A:F2}(r:bB (k+1) A)(env:Env):bB k (A.deeper env):=⟨r.hd,by have:=r.dp;show A.depth+1+3*k+5<_;omega,by have:=r.un;show A.units+3+16*k+200<_;omega⟩
theorem bB.depth{k:Nat}{A:F2}(r:bB k A):A.depth<recursionLimit:=by have:=r.dp;omega
theorem bB.units{k:Nat}{A:F2}(r:bB k A):A.units+64<cLine:=by have:=r.un;omega
def xC:TA:=fun _ H Q=>Q [] H
def xN(ta:TE)(tr:TA):TA:=fun σ H Q=>ta σ H fun x H1=>tr σ H1 fun xs H2=>Q (x::xs) H2
section
variable {X:Cx}{e:Expr}{es:List Expr}{te:TE}{t:TA}{pos:Pos}
theorem a6:PA X [] xC:=fun _ _ _ _ H Q I h=>Calls.spliced_nil ⟨[],H,I,.nil,h⟩
theorem a0(ha:PE X e te)(hr:PA X es t)(hs:starEach (e::es) X.env=(false,eval e X.env)::starEach es X.env:=by rfl):PA X (e::es) (xN te t):=by intro pos pins s σ H Q I h;rw[hs];show wpAny _ _ (spliced ((false,eval e X.env)::backTo pos (starEach es X.env))) _ _ s;refine Calls.spliced_cons (ab (ha pins s σ H _ I h) fun u s1 ⟨x,H1,I1,r1,q1⟩=>?_);exact ab (hr pos pins s1 σ H1 _ I1 q1) fun us s2 ⟨xs,H2,I2,r2,q2⟩=>⟨x::xs,H2,I2,.cons r1 r2,q2⟩
end
abbrev Sp:=List V->Hp->VK->XK->Prop
abbrev dS:=List Env->Hp->EZ->XK->Value->EZ->Prop
structure kU(P:F0)(w:World)(K:EY)(mg:Str->Option Value)(base:Heap)(A:F2)(outer:List Env)(s:EZ)(H:Hp):Prop where
 frames:A.frames=some outer
 mod:Mod K mg base
 bs:∀b o,base.get? b=some o->s.heap.get? b=some o/\H b=none
 bsz:base.objs.size<=s.heap.objs.size
 dv:s.heap.FunFrames base outer
 frf:∀b∈cN outer,H b=none
 hok:br P w H s.heap
 bare:AllBare s.gens
def CE(outer:List Env)(P:F0)(w:World)(H:Hp)(s:EZ)(Q:VK)(u:Value)(s':EZ):Prop:=∃v H',s'.os=s.os/\AllBare s'.gens/\Un (cN outer) [] H H' s.heap s'.heap/\br P w H' s'.heap/\RelV v u/\Q v H'
def CR(CX:dS)(outer:List Env)(P:F0)(w:World)(H:Hp)(s:EZ)(Q:VK)(E:XK)(r:Result)(s':EZ):Prop:=match r with | .ok (.ret u)=>CE outer P w H s Q u s' | .ok _=>False | .error e=>CX outer H s E e s'
structure eE(P:F0)(w:World)(K:EY)(mg:Str->Option Value)(base:Heap)(CX:dS)(k:Nat)(f:Addr)(fd:FuncData)(ps:List Str)(sp:Sp):Prop where
 len:∀vs H Q E,sp vs H Q E->vs.length=ps.length
 run:∀(A:F2)(outer:List Env)(s:EZ)(H:Hp)(args:Args)(us:List Value)(vs:List V)(Q:VK)(E:XK),bB k A->kU P w K mg base A outer s H->BindsTo s fd args (ps.zip us)->Vals vs us->sp vs H Q E->codeAny (model P w) A (.call (.ref f) args) (CR CX outer P w H s Q E) s
section
variable {X:Cx}{pins:List (Addr×Obj)}{σ:St}{H:Hp}{s s':EZ}
theorem Inv.Dk(I:Inv X pins σ H s):kU X.prog X.w X.K X.mg X.base X.A X.stack s H:=⟨I.ok.frames,I.ok.mod,I.bs,cE I.ok.bsz I.sz,I.stack,I.pT,I.hok,I.bare⟩
theorem Inv.after{Q:VK}{u:Value}(I:Inv X pins σ H s)(h:CE X.stack X.prog X.w H s Q u s'):EP X pins σ Q u s':=by obtain⟨v,H',os,bare,un,hok,r,q⟩:=h;obtain⟨hh,g,d,t,zt⟩:=s';obtain rfl:zt=s.os:=os;exact⟨v,H',I.call (h':=hh) (g':=g) (d':=d) (t':=t) (ch:=[]) un hok bare (fun b z=>absurd z (by simp)),r,q⟩
end
def xO(sp:Sp)(fB:List V)(E:XK)(t:TA):TE:=fun σ H Q=>t σ H fun vs H1=>sp (vs++fB) H1 Q E
def Binds(K:EY)(fd:FuncData)(ps:List Str)(ds:List Value):Prop:=∀(s:EZ)(us:List Value),K.In s.heap->(us++ds).length=ps.length->BindsTo s fd ⟨us,[]⟩ (ps.zip (us++ds))
theorem Binds.all{K:EY}{fd:FuncData}{ps:List Str}(h:∀us:List Value,us.length=ps.length->bindArgs fd ⟨us,[]⟩=pure (ps.zip us)):Binds K fd ps []:=fun s us _ hl=>by rw[List.append_nil]at hl⊢;exact .of_eq (h us hl)
def Passes(CX:dS)(X:Cx)(E:XK):Prop:=∀(pins:List (Addr×Obj))(σ:St)(H:Hp)(s:EZ)(e:Value)(s':EZ),Inv X pins σ H s->CX X.stack H s E e s'->X.xe e s'
section
variable {X:Cx}{CX:dS}{k:Nat}{f C:Addr}{fd:FuncData}{ps:List Str}{sp:Sp}{fB:List V}{ds:List Value}{E:XK}{x m:Str}{p pos apos:Pos}{e o:Expr}{es:List Expr}{ta:TE}{t:TA}
theorem yp{pins:List (Addr×Obj)}{σ:St}{H:Hp}{s:EZ}{Q:VK}{us:List Value}{vs:List V}(F:eE X.prog X.w X.K X.mg X.base CX k f fd ps sp)(hr:bB k X.A)(hb:Binds X.K fd ps ds)(hd:Vals fB ds)(hx:Passes CX X E) (I:Inv X pins σ H s)(r:Vals vs us)(h:sp (vs++fB) H Q E):wpAny (model X.prog X.w) X.A (call (.ref f) us) (EP X pins σ Q) X.xe s:=by
  have r2:Vals (vs++fB) (us++ds):=r.append hd;have hl:(us++ds).length=ps.length:=by rw[<-r2.length];exact F.len _ _ _ _ h
  refine wpAny_call (codeAny_mono (F.run X.A X.stack s H ⟨us,[]⟩ (us++ds) (vs++fB) Q E hr I.Dk (hb s us I.fw hl) r2 h) fun r s' hq=>?_);cases r with |error e=>exact hx pins σ H s e s' I hq |ok fl=>cases fl with |ret u=>exact I.after hq |next=>exact False.elim hq |brk=>exact False.elim hq |cont=>exact False.elim hq
theorem zl(F:eE X.prog X.w X.K X.mg X.base CX k f fd ps sp)(hr:bB k X.A)(hg:Gl X x)(hm:X.mg x=some (.ref f))(hk:PySem.W.keepIn X.K (.ref f)=true)(hb:Binds X.K fd ps ds)(hd:Vals fB ds)(hx:Passes CX X E) (ha:PA X (e::es) t)(eX:(x==("__debug__":Str))=false:=by decide)(he:starEach (e::es) X.env=(false,eval e X.env)::starEach es X.env:=by rfl)(cM:(backTo pos (starEach es X.env)).any (·.1)=false:=by rfl): PE X (.Call (.Name x p) (e::es) [] pos) (xO sp fB E t):=by intro pins s σ H Q I h;refine wpAny_Call_Name_kw (sD I hg hm ?_ eX);refine PySem.W.callWith_K (h₀:=X.base) I.ok.mod.kin hk (ab (ha pos pins s σ H _ I h) fun us s1 ⟨vs,H1,I1,r,q⟩=>⟨I1.fw,?_⟩) he cM;exact yp F hr hb hd hx I1 r q
end
section
variable {X:Cx}{CX:dS}{k:Nat}{f C:Addr}{fd:FuncData}{ps ks:List Str}{sp:Sp}{E:XK}{x m:Str}{p pos apos EB:Pos}{e o:Expr}{es:List Expr}{EA:List Keyword}{te ta:TE}{t tk:TA}{nm:Option Str}
variable {g:List Value->List Value->List Value}{gV:List V->List V->List V}
end
structure aV(N P:List Str)(sc:Scope):Prop where
 kind:sc.kind= .function
 co:sc.isCoroutine=false
 gen:sc.isGenerator=false
 nd:N.Nodup
 pre:N.take P.length=P
 par:∀x∈P,sc.names.lookup x=some .local\/sc.names.lookup x=some .cell
 nofree:∀y∈sc.names,y.2≠ .free
theorem uy{kindOf:Str->Option NameKind}{x:Str}:∀{binds:List (Str×Value)}{m:Str->Option Value},(∀v,(x,v)∉binds)->bindL kindOf binds m x=m x
  |[],_,_=>rfl |(n,v)::r,m,h=>by
    unfold bindL;rw[uy fun w hw=>h w (l8 _ hw)];split
    · have:x≠n:=by rintro rfl;exact h v p9
      simp[this]
    ·rfl
theorem uA{kindOf:Str->Option NameKind}{x:Str}:∀{binds:List (Str×Value)}{m:Str->Option Value},(∀v,(x,v)∉binds)->bindC kindOf binds m x=m x
  |[],_,_=>rfl |(n,v)::r,m,h=>by
    unfold bindC;rw[uA fun w hw=>h w (l8 _ hw)];split
    ·rfl
    · have:x≠n:=by rintro rfl;exact h v p9
      simp[this]
theorem uz{kindOf:Str->Option NameKind}{x:Str}{v:Value}:∀{P:List Str}{vs:List Value}{i:Nat}{m:Str->Option Value},P.Nodup->P[i]? =some x->vs[i]? =some v->kindOf x=some .local->bindL kindOf (P.zip vs) m x=some v |[],_,_,_,_,h,_,_=>by simp at h |_::_,[],_,_,_,_,h,_=>by simp at h |p::P,w::vs,0,m,nd,h1,h2,hk=>by simp at h1 h2;subst h1;subst h2;show bindL kindOf ((p,w)::P.zip vs) m p=_;unfold bindL;rw[uy fun v hv=>(p8.mp nd).1 (List.of_mem_zip hv).1,aD hk];simp |p::P,w::vs,i+1,m,nd,h1,h2,hk=>by show bindL kindOf ((p,w)::P.zip vs) m x=_;unfold bindL;exact uz (i:=i) (p8.mp nd).2 (by simpa using h1) (by simpa using h2) hk
theorem uB{kindOf:Str->Option NameKind}{x:Str}{v:Value}:∀{P:List Str}{vs:List Value}{i:Nat}{m:Str->Option Value},P.Nodup->P[i]? =some x->vs[i]? =some v->kindOf x≠some .local->bindC kindOf (P.zip vs) m x=some v |[],_,_,_,_,h,_,_=>by simp at h |_::_,[],_,_,_,_,h,_=>by simp at h |p::P,w::vs,0,m,nd,h1,h2,hk=>by simp at h1 h2;subst h1;subst h2;show bindC kindOf ((p,w)::P.zip vs) m p=_;unfold bindC;rw[uA fun v hv=>(p8.mp nd).1 (List.of_mem_zip hv).1,aE hk];simp |p::P,w::vs,i+1,m,nd,h1,h2,hk=>by show bindC kindOf ((p,w)::P.zip vs) m x=_;unfold bindC;exact uB (i:=i) (p8.mp nd).2 (by simpa using h1) (by simpa using h2) hk
def start(N:List Str)(vs:List V):St:=vs.map some++List.replicate (N.length-vs.length) none
def gz(CX:dS)(P:F0)(w:World)(K:EY)(mg:Str->Option Value)(base:Heap)(N:List Str)(qual:Str)(scope:Scope)(f:Addr)(cd:Value)(A:F2)(outer:List Env)(s:EZ)(H:Hp)(E:XK):Cx where
 prog:=P
 w:=w
 K:=K
 mg:=mg
 base:=base
 A:=A.deeper (envOfC qual scope s.heap.objs.size f cd)
 N:=N
 s₀:=s
 H₀:=H
 env:=envOfC qual scope s.heap.objs.size f cd
 outer:=outer
 stack:=envOfC qual scope s.heap.objs.size f cd::outer
 ex:=[]
 calm:=true
 fn:=fun _=>true
 pn:=[]
 xe:=fun e s'=>wpAny (model P w) (A.deeper (envOfC qual scope s.heap.objs.size f cd)) (leaving (envOfC qual scope s.heap.objs.size f cd) e) (fun _ ml=>CX outer H s E e ml) (fun e' ml=>CX outer H s E e' ml) s'
theorem um{sc:Scope}{n:Nat}{x:Str}(h:sc.names.lookup x=some .cell):∃c,(cellsFrom n sc.names []).lookup x=some c:=by have q:=PySem.W.cellsFrom_some sc.names n [] (.inl h);exact Option.isSome_iff_exists.mp q
theorem Bg{CX:dS}{P:F0}{w:World}{K:EY}{mg:Str->Option Value}{base:Heap}{N ps:List Str}{qual:Str}{scope:Scope}{f:Addr}{cd:Value}{A:F2}{outer:List Env}{s s1:EZ}{H:Hp}{E:XK}{us:List Value}{vs:List V} (S:aV N ps scope)(hd:A.handled=none)(e0:kU P w K mg base A outer s H)(hl:vs.length=ps.length)(r:Vals vs us) (x:InCallC s s.heap.objs.size (bindL (envOfC qual scope s.heap.objs.size f cd).kindOf (ps.zip us) fun _=>none) (cellsFrom (s.heap.objs.size+1) scope.names []) (bindC (envOfC qual scope s.heap.objs.size f cd).kindOf (ps.zip us) fun _=>none) s1): Inv (gz CX P w K mg base N qual scope f cd A outer s H E) [] (start N vs) H s1:=by
  have cM:ps.length<=N.length:=by have:=fi List.length S.pre;rw[iq]at this;omega
  obtain⟨h1,tk,rfl,hk⟩:=x.done;have iR:∀b:Addr,b∉(gz CX P w K mg base N qual scope f cd A outer s H E).ex:=fun b z=>absurd (show b∈([]:List Addr)from z) (by simp);refine⟨⟨e0.mod,S.kind,rfl,rfl,ak _,fun y z c h1 h2=>?_,fun y hy=>?_,fun y c _ h=>?_,fun _=>hd,Around.frames_deeper e0.frames,.inr ⟨rfl,rfl⟩,fun b z=>absurd z (iR b),e0.bs,e0.bsz,fun b _ _=>iR b,fun b z=>absurd z (iR b),e0.dv,e0.frf⟩,rfl,e0.bare,Un.kept hk,⟨_,x.toInCall.ns,fun i y v h1 h2 h3=>?_⟩,fun y c h=>⟨_,x.cell y c h⟩,e0.hok.fresh (ak _),fun y c h=>?_,fun p hp=>absurd (show p∈([]:List (Addr×Obj))from hp) (by simp),e0.hok.kept hk,?_⟩
  ·exact name_of_addr x.apart (kY h1) (kY h2)
  · have hy:scope.names.lookup y=some .cell\/scope.names.lookup y=some .free:=hy
    rcases hy with hy|hy
    ·exact um hy
    ·exact absurd rfl (S.nofree _ (kY hy))
  ·exact l5 (x.above y c (kY h))
  · have hi:i<vs.length:=by
      unfold start at h2;by_cases hi:i<vs.length
      ·exact hi
      · rw[List.getElem?_append_right (by simpa using hi)]at h2
        rw[wD]at h2;split at h2<;>cases h2
    have ha:vs[i]? =some v:=by unfold start at h2;rw[wF (by simpa using hi),bC]at h2;cases e:vs[i]? with |none=>rw[e]at h2;cases h2 |some a=>rw[e]at h2;cases h2;rfl
    obtain⟨u,hu,rv⟩:=r.get ha;have hp:ps[i]? =some y:=by rw[<-S.pre,List.getElem?_take_of_lt (by omega)];exact h1
    have si:ps.Nodup:=by rw[<-S.pre];exact S.nd.sublist (List.take_sublist _ _)
    refine⟨u,rv,?_⟩;rcases S.par y (cF hp)with k|k
    ·exact .inl ⟨k,uz si hp hu k⟩
    · obtain⟨c,e⟩:=um (n:=s.heap.objs.size+1) k
      refine .inr ⟨.inl k,c,e,?_⟩;have q:=x.cell y c e;rw[uB si hp hu (by show scope.names.lookup y≠_;rw[k];decide)]at q;exact q
  ·exact e0.hok.fresh (l5 (x.above y c (kY h)))
  · unfold start
    show _=N.length;rw[dy,aG,wA];omega
theorem D7{CX:dS}{P:F0}{w:World}{K:EY}{mg:Str->Option Value}{base:Heap}{k:Nat}{f:Addr}{name qual:Str}{params:Arguments}{body:List Stmt}{scope:Scope}{dV kV doc pm aj ct oc:Value}{an od:Option Addr} {cW:Array (Option Value)}{N ps:List Str}{sp:Sp}(lk:K.lookup f=some ⟨oc,od,.func (PySem.W.fnOf name qual params body scope dV kV doc pm an aj ct),cW⟩)(dr:PySem.W.codeIn K aj qual=true)(S:aV N ps scope) (len:∀vs H Q E,sp vs H Q E->vs.length=ps.length) (j6:∀(A:F2)(outer:List Env)(s:EZ)(H:Hp)(vs:List V)(Q:VK)(E:XK),bB k (A.deeper (envOfC qual scope s.heap.objs.size f aj))->sp vs H Q E->∃t,cP (gz CX P w K mg base N qual scope f aj A outer s H E) body t/\t {nx:=fun _ H'=>Q .ay H',rt:=Q} (start N vs) H): eE P w K mg base CX (k+1) f (PySem.W.fnOf name qual params body scope dV kV doc pm an aj ct) ps sp:=by
  refine⟨len,fun A outer s H args us vs Q E hr e0 hb r dI=>?_⟩;have hl:=len _ _ _ _ dI;have KX:K.In s.heap:=e0.mod.kin.keeps fun b o e=>(e0.bs b o e).1;have lim:s.heap.NoLimit:=e0.mod.nolimit.keeps fun b o e=>(e0.bs b o e).1;have eV:∀y∈ps.zip us,scope.names.lookup y.1=some .local\/(scope.names.lookup y.1=some .cell/\((cellsFrom (s.heap.objs.size+1) scope.names []).lookup y.1).isSome=true):=fun⟨n,v⟩ hy=>by
   rcases S.par n (List.of_mem_zip hy).1 with q|q
   ·exact .inl q
   ·exact .inr ⟨q,PySem.W.cellsFrom_some _ _ _ (.inl q)⟩
  refine codeAny_call_function hr.depth (KX _ _ lk) rfl S.co S.gen rfl (PySem.W.codeRec_of KX dr) (hb _ _ _ _ ?_);refine wpAny_newFunctionEnv_cells S.kind eV fun env he s1 x=>?_;subst he;refine⟨lim.keeps x.toInCall.keep,codeAny_func ?_⟩;obtain⟨t,ht,hq⟩:=j6 A outer s H vs Q E (hr.deeper _) dI;have I:Inv (gz CX P w K mg base N qual scope f aj A outer s H E) [] (start N vs) H s1:=Bg S hr.hd e0 hl r x;refine ff (ht [] s1 (start N vs) H _ I hq) (fun fl s' hs=>?_) fun e s' hs=>hs;have fin:∀{σ':St}{H':Hp}{v:V}{u:Value},Inv (gz CX P w K mg base N qual scope f aj A outer s H E) [] σ' H' s'->RelV v u->Q v H'->CE outer P w H s Q u s':=fun{σ' H' v u} J rv q=>⟨v,H',J.os,J.bare,J.base,J.hok,rv,q⟩;cases fl with |ret u=>obtain⟨v,σ',H',J,rv,q⟩:=hs;exact fin J rv q |next=>obtain⟨σ',H',J,q⟩:=hs;exact fin (v:=V.ay) (u:=Value.none) J rfl q |brk=>obtain⟨_,_,_,q⟩:=hs;exact False.elim q |cont=>obtain⟨_,_,_,q⟩:=hs;exact False.elim q
section
variable {X:Cx}{x:Str}{p pos:Pos}{e:Expr}{es:List Expr}{t:TA}{id T:String}{r:List V->Hp->VK->Prop}
def jL(r:List V->Hp->VK->Prop)(t:TA):TE:=fun σ H Q=>t σ H fun vs H1=>r vs H1 Q
theorem bV(hc:bu X (.builtin id) r)(hg:Gl X x)(hm:X.mg x=none)(hv:bootBuiltins x=some (.builtin id))(ha:PA X (e::es) t)(hn:x≠"__name__":=by decide)(eX:(x==("__debug__":Str))=false:=by decide) (he:starEach (e::es) X.env=(false,eval e X.env)::starEach es X.env:=by rfl)(cM:(backTo pos (starEach es X.env)).any (·.1)=false:=by rfl):PE X (.Call (.Name x p) (e::es) [] pos) (jL r t):=by intro pins s σ H Q I h;refine wpAny_Call_Name_kw (gd I hg hm hv ?_ hn eX);exact PyProof.Rows.callWith_builtin1 (ab (ha pos pins s σ H _ I h) fun us s1 ⟨vs,H1,I1,r1,q1⟩=>hc pins s1 σ H1 vs us Q I1 r1 q1) he cM
theorem dk(hc:bu X (.type T) r)(hg:Gl X x)(hm:X.mg x=none)(hv:bootBuiltins x=some (.type T))(ha:PA X (e::es) t)(hn:x≠"__name__":=by decide)(eX:(x==("__debug__":Str))=false:=by decide) (he:starEach (e::es) X.env=(false,eval e X.env)::starEach es X.env:=by rfl)(cM:(backTo pos (starEach es X.env)).any (·.1)=false:=by rfl):PE X (.Call (.Name x p) (e::es) [] pos) (jL r t):=by intro pins s σ H Q I h;refine wpAny_Call_Name_kw (gd I hg hm hv ?_ hn eX);exact kZ (ab (ha pos pins s σ H _ I h) fun us s1 ⟨vs,H1,I1,r1,q1⟩=>hc pins s1 σ H1 vs us Q I1 r1 q1) he cM
end
end L2
namespace HT
open PySem PyProof.Rows
section
open PySem.SeqAt
open PySem.AutoSeq1 (wpAny_loadPart')
open PySem.MeetsSeq PySem.MeetsSeq2 PySem.MeetsSeq3
end
section
variable {prog:F0}{w:World}{A:F2}{E:Value->EZ->Prop}{s:EZ}
theorem Dz{t b:Addr}{vs ws:List Value}{Q:Value->EZ->Prop}(ht:IsTup s.heap t vs.toArray)(hb:IsTup s.heap b ws.toArray)(hv:vs≠[]) (h1:ws=[]->Q (.ref t) s)(h2:ws≠[]->Q (.ref s.heap.objs.size) {s with heap:=s.heap.push {cls:=.type "tuple",data:=.seq (vs++ws).toArray}}) (hsz:vs.length+ws.length<=sizeLine):wpAny (model prog w) A (binaryOp .Add (.ref t) (.ref b)) Q E s:=by
  obtain⟨⟨cls,dd,data,sl⟩,ho,hc,n,hd⟩:=id ht;obtain⟨⟨Dy,kH,data2,jR⟩,gm,gq,n2,hd2⟩:=id hb;simp only at hc hd gq hd2;subst hc hd gq hd2;have e:vs.toArray++ws.toArray=(vs++ws).toArray:=by simp
  by_cases hw:ws=[]
  ·exact concat_meets ⟨_,ho,rfl⟩ ⟨_,gm,rfl⟩ noFill_tuple_add seq_tuple_add wk wm (wo _ _) (tuple_addW1 t b vs.toArray ws.toArray n n2 dd kH sl jR (by simpa using hv) (by simp[hw])) ⟨ho,gm,h1 hw⟩
  · refine concat_meets ⟨_,ho,rfl⟩ ⟨_,gm,rfl⟩ noFill_tuple_add seq_tuple_add wk wm (wo _ _) (tuple_addW2 t b vs.toArray ws.toArray n n2 dd kH sl jR (by simpa using hv) (by simpa using hw) (by rw[bf,bf];exact hsz)) ⟨ho,gm,?_⟩;rw[e];exact h2 hw
def ai(n d:Nat):Option Int->Nat |none=>d |some v=>if v<0 then(v+(n:Int)).toNat else min v.toNat n
theorem yd (n d:Nat):ai n d none=d:=rfl
theorem ye(n d:Nat)(hd:d<=n)(o:Option Int):ai n d o<=n:=by cases o with |none=>exact hd |some v=>
   show(if v<0 then(v+(n:Int)).toNat else min v.toNat n)<=n;by_cases hv:v<0
   ·rw[aD hv];omega
   ·rw[aE hv];exact Nat.min_le_right _ _
theorem oq(v:Int)(n d:Nat):(if v<0 then max (v+(n:Int)) 0 else min v (n:Int))=((ai n d (some v):Nat):Int):=by
 show(if v<0 then max (v+(n:Int)) 0 else min v (n:Int))=(((if v<0 then(v+(n:Int)).toNat else min v.toNat n):Nat):Int);by_cases hv:v<0
 ·simp only[aD hv];omega
 ·simp only[aE hv];omega
theorem E1(lo hi:Option Int)(n:Nat):Builtin.Slice.sliceAdjust lo hi 1 (n:Int)=(((ai n 0 lo:Nat):Int),((ai n n hi:Nat):Int)):=by
 have h1:¬((1:Int)<0):=by omega
 unfold Builtin.Slice.sliceAdjust;simp only[h1,if_false];refine Prod.ext ?_ ?_
 ·cases lo with |none=>rfl |some v=>exact oq v n 0
 ·cases hi with |none=>rfl |some v=>exact oq v n n
theorem yX(i j:Nat):Builtin.Slice.slicePlaces (i:Int) (j:Int) 1=j-i:=by
 unfold Builtin.Slice.slicePlaces;have h1:(1:Int)>0:=by omega
 simp only[h1,if_true,Int.ediv_one];split<;>omega
theorem qq{v:Value}{o:Option Int}{Q:Option Int->EZ->Prop}(p:IsPart v o)(h:Q o s):wpAny (model prog w) A (Builtin.Slice.slicePartIndex v) Q E s:=by cases p with |none=>exact slicePart_none h |int i t=>exact slicePart_int h
theorem qr{sl:Addr}{vl vu:Value}{lo hi:Option Int}{n:Nat}{Q:Int×Int×Nat->EZ->Prop}(hs:s.heap.IsSliceOf sl vl vu .none)(pl:IsPart vl lo)(pu:IsPart vu hi) (h:Q (((ai n 0 lo:Nat):Int),1,ai n n hi-ai n 0 lo) s):wpAny (model prog w) A (Builtin.Slice.sliceApplied (.ref sl) (pure (n:Int))) Q E s:=by obtain⟨os,gj,hX,gp⟩:=id hs;unfold Builtin.Slice.sliceApplied Builtin.Slice.sliceFields;refine a7 (a7 (dc gj gp (x:=vl) rfl (a7 (dc gj gp (x:=vu) rfl (a7 (dc gj gp (x:=.none) rfl (aA ?_)))))));refine a7 (slicePart_none ?_);show wpAny _ _ (if((1:Int)==0)=true then _ else _) _ _ s;rw[aE (by decide)];refine a7 (qq pl (a7 (qq pu (a7 (aA ?_)))));show wpAny _ _ (match Builtin.Slice.sliceAdjust lo hi 1 (n:Int)with|(lo,hi)=>pure (lo,(1:Int),Builtin.Slice.slicePlaces lo hi 1)) _ _ s;rw[E1 lo hi n];show wpAny _ _ (pure (((ai n 0 lo:Nat):Int),(1:Int),Builtin.Slice.slicePlaces ((ai n 0 lo:Nat):Int) ((ai n n hi:Nat):Int) 1)) _ _ s;rw[yX];exact aA h
theorem yY(xs:Array Value)(i k:Nat):((List.range k).filterMap fun(m:Nat)=>xs[((i:Int)+(m:Int)*1).toNat]?).toArray=((xs.toList.drop i).take k).toArray:=by
 have e:(fun(m:Nat)=>xs[((i:Int)+(m:Int)*1).toNat]?)=fun m=>xs[i+m]?:=by
  funext m;have:((i:Int)+(m:Int)*1).toNat=i+m:=by omega
  rw[this]
 rw[e];have:=pick_run xs i k;rw[List.filterMap_map]at this;have e2:((fun x=>xs[x]?)∘fun x=>i+x)=fun m=>xs[i+m]?:=rfl;rw[e2]at this;rw[this]
theorem CW{t sl:Addr}{items:Array Value}{vl vu:Value}{lo hi:Option Int}{Q:Value->EZ->Prop}(ht:IsTup s.heap t items)(hs:s.heap.IsSliceOf sl vl vu .none)(pl:IsPart vl lo)(pu:IsPart vu hi) (hw:¬(ai items.size 0 lo=0/\ai items.size items.size hi=items.size)) (h:Q (.ref s.heap.objs.size) {s with heap:=s.heap.push {cls:=.type "tuple",data:=.seq ((items.toList.drop (ai items.size 0 lo)).take (ai items.size items.size hi-ai items.size 0 lo)).toArray}}) (hsz:items.size<=sizeLine):wpAny (model prog w) A (getItem (.ref t) (.ref sl)) Q E s:=by
  have kr:sizeOk (.seq ((items.toList.drop (ai items.size 0 lo)).take (ai items.size items.size hi-ai items.size 0 lo)).toArray):=by show((items.toList.drop (ai items.size 0 lo)).take (ai items.size items.size hi-ai items.size 0 lo)).toArray.size<=sizeLine;rw[bf,iq,List.length_drop,dX];omega
  have hj:ai items.size items.size hi<=items.size:=ye _ _ (ak _) hi;obtain⟨os,gj,hX,gp⟩:=id hs;have nW:s.TypeIs (.ref sl) "slice":=⟨os,gj,hX⟩;unfold getItem
  try with_reducible refine fg ?_
  first|refine a7 (aA ?_)|skip
  refine a7 (wpAny_sequenceKey ht.typeIs (by decide) ?_);refine a7 (jn (name:=Str.ofString "__getitem__") ht.typeIs jr (jm jr ht.typeIs entry_tuple_getitem ?_ (args_tuple_getitem _ _)));show wpAny _ _ (Builtin.Tuple.tupleItemsOf (.ref t)>>=_) _ _ s;refine a7 (tupleItemsOf_ ht ?_);refine a7 (kW nW ?_);rw[aD (by decide)];refine a7 (qr hs pl pu ?_);have gn:¬((((ai items.size 0 lo:Nat):Int)==0&&(1:Int)==1&&(ai items.size items.size hi-ai items.size 0 lo)==items.size)=true):=by intro q;rw[bL,bL]at q;have q1:((ai items.size 0 lo:Nat):Int)=0:=eq_of_beq q.1.1;have q2:ai items.size items.size hi-ai items.size 0 lo=items.size:=eq_of_beq q.2;exact hw ⟨by omega,by omega⟩
  show wpAny _ _ (if(((ai items.size 0 lo:Nat):Int)==0&&(1:Int)==1&&(ai items.size items.size hi-ai items.size 0 lo)==items.size)=true then _ else _) _ _ s;rw[aE gn,yY]
  first |exact a7 (m:=Builtin.Tuple.tupleExact _) (fF (aA ⟨_,rfl,aA h⟩) kr) |exact a7 (m:=Builtin.Tuple.tupleExact _) (fF (a7 (aA (aA ⟨_,rfl,aA h⟩))) kr) |exact a7 (a7 (m:=Builtin.Tuple.tupleExact _) (fF (aA (aA ⟨_,rfl,aA h⟩)) kr)) |exact a7 (a7 (m:=Builtin.Tuple.tupleExact _) (fF (aA ⟨_,rfl,aA h⟩) kr))
end
end HT
namespace L2
open PySem PySem.Spec PyProof.Rows
abbrev TO:=St->Hp->(Option Int->Hp->Prop)->Prop
def PO(X:Cx)(e:Option Expr)(t:TO):Prop:=∀(pins:List (Addr×Obj))(s:EZ)(σ:St)(H:Hp)(Q:Option Int->Hp->Prop),Inv X pins σ H s->t σ H Q->wpAny (model X.prog X.w) X.A (evalPart e X.env) (fun u s'=>∃o H',Inv X pins σ H' s'/\IsPart u o/\Q o H') X.xe s
def xB:TO:=fun _ H Q=>Q none H
inductive uP(Q:Option Int->Hp->Prop)(x:V)(H1:Hp):Prop |mk (i:_)(h0:x= .int i)(h1:Q (some i) H1):uP Q x H1
def xu(t:TE):TO:=fun σ H Q=>t σ H fun x H1=>uP Q x H1
section
variable {X:Cx}{e:Expr}{te:TE}{lo hi:Option Expr}{tl th:TO}{pos p2:Pos}
theorem rA:PO X none xB:=by intro pins s σ H Q I h;rw[evalPart_none];exact aA ⟨none,H,I,.none,h⟩
theorem rq(h:PE X e te):PO X (some e) (xu te):=by intro pins s σ H Q I hw;rw[evalPart_some];refine ab (h pins s σ H _ I hw) fun u s1 ⟨x,H1,I1,r1,q1⟩=>?_;obtain⟨i,rfl,q⟩:=q1;obtain⟨t,rfl⟩:=r1;exact⟨some i,H1,I1,.int i t,q⟩
def jg(X:Cx)(r:V->Option Int->Option Int->Hp->VK->Prop):Prop:=∀(pins:List (Addr×Obj))(s:EZ)(σ:St)(H:Hp)(x:V)(v vl vu:Value)(lo hi:Option Int)(sl:Addr)(Q:VK),Inv X pins σ H s->RelV x v->s.heap.IsSliceOf sl vl vu .none->IsPart vl lo->IsPart vu hi->r x lo hi H Q->∃T id,typeLookup (.type T) "__getitem__"=pure (some (.builtin id))/\s.TypeIs v T/\wpAny (model X.prog X.w) X.A (getItem v (.ref sl)) (EP X pins σ Q) X.xe s
def xq(r:V->Option Int->Option Int->Hp->VK->Prop)(te:TE)(tl th:TO):TE:=fun σ H Q=>te σ H fun x H1=>tl σ H1 fun l H2=>th σ H2 fun u H3=>r x l u H3 Q
theorem rE{r:V->Option Int->Option Int->Hp->VK->Prop}(hr:jg X r)(he:PE X e te)(hl:PO X lo tl)(hu:PO X hi th):PE X (.Subscript e (.Slice lo hi none p2) pos) (xq r te tl th):=by intro pins s σ H Q I h;refine Subscript_ (ab (he pins s σ H _ I h) fun v s1 ⟨x,H1,I1,r1,q1⟩=>?_);refine wpAny_Slice (ab (hl pins s1 σ H1 _ I1 q1) fun vl s2 ⟨l,H2,I2,pl,q2⟩=>ab (hu pins s2 σ H2 _ I2 q2) fun vu s3 ⟨u,H3,I3,pu,q3⟩=>?_);rw[evalPart_none];refine aA ?_;have I4:Inv X pins σ H3 {s3 with heap:=s3.heap.push {cls:=.type "slice",data:=.fields #[vl,vu,.none]}}:=I3.kept (t':=s3.toks) fun b ob q=>aC _ q;obtain⟨T,id,hT,ht,hg⟩:=hr pins {s3 with heap:=s3.heap.push {cls:=.type "slice",data:=.fields #[vl,vu,.none]}} σ H3 x v vl vu l u s3.heap.objs.size Q I4 r1 (Heap.IsSliceOf.new ..) pl pu q3;show wpAny (model X.prog X.w) X.A (subscriptTail e (.Slice lo hi none p2) v (.ref s3.heap.objs.size)) (EP X pins σ Q) X.xe {s3 with heap:=s3.heap.push {cls:=.type "slice",data:=.fields #[vl,vu,.none]}};exact tail_any (ops:=[.ref s3.heap.objs.size,v]) ht hT hg (by with_unfolding_all rfl)
def cx(xs:List V)(lo hi:Option Int):List V:=(xs.drop (HT.ai xs.length 0 lo)).take (HT.ai xs.length xs.length hi-HT.ai xs.length 0 lo)
theorem ud(xs:List V)(lo hi:Option Int):(cx xs lo hi).length<=xs.length:=by unfold cx;rw[iq,List.length_drop];omega
inductive vB(K:EY)(x:V)(lo:Option Int)(hi:Option Int)(H:Hp)(Q:VK):Prop |mk (a:_)(xs:_)(h0:x= .ref a)(h1:af K H a xs)(h2:¬(HT.ai xs.length 0 lo=0/\HT.ai xs.length xs.length hi=xs.length))(h3:∀p,H p=none->Q (.ref p) (upd H p (.tup (cx xs lo hi)))):vB K x lo hi H Q
def yA(K:EY):V->Option Int->Option Int->Hp->VK->Prop:=fun x lo hi H Q=>vB K x lo hi H Q
theorem qs:jg X (yA X.K):=by
 intro pins s σ H x v vl vu lo hi sl Q I rx hs pl pu h;obtain⟨a,xs,rfl,hx,hw,q⟩:=h;cases rx;obtain⟨its,r,ht,hz⟩:=I.tuple hx;have hlen:its.toArray.size=xs.length:=by rw[bf];exact r.length.symm
 refine⟨"tuple",_,jr.lookup,ht.typeIs,?_⟩;refine HT.CW ht hs pl pu (by rw[hlen];exact hw) ?_ (by rw[hlen];exact hz);rw[hlen];refine⟨.ref s.heap.objs.size,_,I.laid (t':=s.toks) (o:=.tup (cx xs lo hi)) (fun b ob q=>aC _ q) (ak _) ?_,rfl,q _ (I.hok.fresh (ak _))⟩;exact⟨cE (ud xs lo hi) hz,_,(r.drop (HT.ai xs.length 0 lo)).take (HT.ai xs.length xs.length hi-HT.ai xs.length 0 lo),IsTup.new _ _⟩
theorem Vals.mW{xs:List V}{us:List Value}(r:Vals xs us):us=[]↔xs=[]:=by cases r with |nil=>simp |cons _ _=>simp
end
end L2
namespace L2
open PySem PySem.Spec PyProof.Rows
def ee(n:Nat)(i:Int):Option Nat:=if 0<=i then(if i<n then some i.toNat else none)else if-(n:Int)<=i then some (i+n).toNat else none
def cz{α:Type}(xs:List α)(i:Int):Option α:=(ee xs.length i).bind fun j=>xs[j]?
theorem sL{n:Nat}{i:Int}{j:Nat}(h:ee n i=some j):seqIndex? i n=some j/\j<n/\-(n:Int)<=i/\i<n:=by
 unfold ee at h;by_cases h0:0<=i
 · rw[aD h0]at h
   by_cases h1:i<n
   · rw[aD h1]at h
     have e:i.toNat=j:=bP h;exact⟨by rw[seqIndex_of h0 h1,e],by omega,by omega,h1⟩
   ·rw[aE h1]at h;cases h
 · rw[aE h0]at h
   by_cases h1:-(n:Int)<=i
   · rw[aD h1]at h
     have e:(i+n).toNat=j:=bP h;exact⟨by rw[seqIndex_neg (by omega) h1,e],by omega,h1,by omega⟩
   ·rw[aE h1]at h;cases h
theorem oC{α:Type}{xs:List α}{i:Int}{v:α}(h:cz xs i=some v):∃j,seqIndex? i xs.length=some j/\xs[j]? =some v/\j<xs.length/\-(xs.length:Int)<=i/\i<xs.length:=by unfold cz at h;cases e:ee xs.length i with |none=>rw[e]at h;cases h |some j=>rw[e]at h;obtain⟨h1,h2,h3,h4⟩:=sL e;exact⟨j,h1,h,h2,h3,h4⟩
theorem DT{α:Type}{xs:List α}{j:Nat}{v:α}(h:xs[j]? =some v):cz xs (j:Int)=some v:=by
 have hj:j<xs.length:=(dW.mp h).1;have e:ee xs.length (j:Int)=some j:=by unfold ee;rw[aD (by omega),aD (by omega)];simp
 unfold cz;rw[e];exact h
def uI(b:Expr):Prop:=∀o i,subscripted b false o i=operate [o,i] (getItem o i)
def f9(X:Cx)(r:R2):Prop:=∀(value slice:Expr)(pins:List (Addr×Obj))(s:EZ)(σ:St)(H:Hp)(x y:V)(v u:Value)(Q:VK),Inv X pins σ H s->RelV x v->RelV y u->r x y H Q->subscripted slice false v u=operate [v,u] (getItem v u)->wpAny (model X.prog X.w) X.A (subscriptTail value slice v u) (EP X pins σ Q) X.xe s
def i9(X:Cx)(id:String)(r:V->List V->Hp->VK->Prop):Prop:=∀(pins:List (Addr×Obj))(s:EZ)(σ:St)(H:Hp)(x:V)(xs:List V)(v:Value)(us:List Value)(Q:VK),Inv X pins σ H s->RelV x v->Vals xs us->r x xs H Q->wpAny (model X.prog X.w) X.A (call (.builtin id) (v::us)) (EP X pins σ Q) X.xe s
section
variable {X:Cx}{a b:Expr}{ta tb:TE}{pos:Pos}
theorem f9.or{r r':R2}(h:f9 X r)(h':f9 X r'):f9 X (fun x y H Q=>r x y H Q\/r' x y H Q):=by
 intro value slice pins s σ H x y v u Q I rx ry q hs;rcases q with q|q
 ·exact h value slice pins s σ H x y v u Q I rx ry q hs
 ·exact h' value slice pins s σ H x y v u Q I rx ry q hs
theorem mK{r:R2}(hr:f9 X r)(ha:PE X a ta)(hb:PE X b tb)(hs:uI b):PE X (.Subscript a b pos) (iC r ta tb):=by intro pins s σ H Q I h;exact Subscript_ (oy ha hb I h fun v u s2 x y H2 I2 rx ry q=>hr a b pins s2 σ H2 x y v u Q I2 rx ry q (hs _ _))
inductive vL(K:EY)(x:V)(y:V)(H:Hp)(Q:VK):Prop |mk (p:_)(xs:_)(i:_)(v:_)(h0:x= .ref p)(h1:y= .int i)(h2:aa K H p xs)(h3:cz xs i=some v)(h4:Q v H):vL K x y H Q
def mB(K:EY):R2:=fun x y H Q=>vL K x y H Q
inductive vJ(K:EY)(x:V)(y:V)(H:Hp)(Q:VK):Prop |mk (p:_)(xs:_)(i:_)(v:_)(h0:x= .ref p)(h1:y= .int i)(h2:af K H p xs)(h3:cz xs i=some v)(h4:Q v H):vJ K x y H Q
def mz(K:EY):R2:=fun x y H Q=>vJ K x y H Q
inductive vK(x:V)(y:V)(H:Hp)(Q:VK):Prop |mk (z:_)(i:_)(c:_)(h0:x= .str z)(h1:y= .int i)(h2:z.length<=sizeLine)(h3:cz z.cps.toList i=some c)(h4:Q (.str ⟨#[c]⟩) H):vK x y H Q
def yF:R2:=fun x y H Q=>vK x y H Q
theorem B9:f9 X (mB X.K):=by
 intro value slice pins s σ H x y v u Q I rx ry h hs;obtain⟨p,xs,i,z,rfl,rfl,hq,he,q⟩:=h;cases rx;obtain⟨t,rfl⟩:=ry;obtain⟨its,r,pl,hz⟩:=I.list hq;obtain⟨j,h1,h2,h3,h4,h5⟩:=oC he;obtain⟨w,ew,mn⟩:=r.get h2;have hl:=r.length;have hn:=gc;have fin:EP X pins σ Q w s:=⟨z,H,I,mn,q⟩;by_cases h0:0<=i
 · have hj:i.toNat=j:=by rw[seqIndex_of h0 h5]at h1;exact bP h1
   exact item_listR pl.isList h0 (by omega) (by rw[hj];simpa using ew) fin hs
 · have hj:(i+(its.toArray.size:Int)).toNat=j:=by rw[seqIndex_neg (by omega) h4]at h1;rw[bf,<-hl];exact bP h1
   exact subscriptTail_builtinR (x:=w) pl.isList.typeIs slot_list_getitem.lookup (wpAny_getItem_list_neg (Q:=fun r s'=>r=w/\EP X pins σ Q r s') pl.isList (by omega) (by rw[bf]<;>omega) (by omega) (by rw[hj];simpa using ew) ⟨rfl,fin⟩) hs
theorem B8:f9 X (mz X.K):=by intro value slice pins s σ H x y v u Q I rx ry h hs;obtain⟨p,xs,i,z,rfl,rfl,hq,he,q⟩:=h;cases rx;obtain⟨t,rfl⟩:=ry;obtain⟨its,r,pl,hz⟩:=I.tuple hq;obtain⟨j,h1,h2,h3,h4,h5⟩:=oC he;obtain⟨w,ew,mn⟩:=r.get h2;have hl:=r.length;have hn:=gc;have fin:EP X pins σ Q w s:=⟨z,H,I,mn,q⟩;exact subscriptTail_builtinR (x:=w) pl.typeIs slot_tuple_getitem.lookup (getItem_tuple (j:=j) (Q:=fun r s'=>r=w/\EP X pins σ Q r s') pl (by omega) (by omega) (by rw[bf,<-hl];exact h1) (by simpa using ew) ⟨rfl,fin⟩) hs
theorem sJ:f9 X yF:=by
 intro value slice pins s σ H x y v u Q I rx ry h hs;obtain⟨z,i,c,rfl,rfl,hz,he,q⟩:=h;obtain⟨t,rfl⟩:=rx;obtain⟨t',rfl⟩:=ry;obtain⟨j,h1,h2,h3,h4,h5⟩:=oC he;have hl:z.cps.toList.length=z.length:=by simp[Str.length]
 rw[hl]at h1 h4 h5;have hn:=gc;exact tail_any (jo s z t) slot_str_getitem.lookup (getItem_str (c:=c) (by have e1:decide (i< -(2^63:Int))=false:=bQ (by omega);have e2:decide (i>=2^63)=false:=bQ (by omega);rw[e1,e2,Bool.or_false]) (by rw[h1];simpa using h2) ⟨.str ⟨#[c]⟩,H,I.tok _,⟨_,rfl⟩,q⟩) hs
theorem AK(its:List Value)(n j:Nat)(u:Value):Obj.mapSeq (·.setIfInBounds j u) {cls:=.type "list",data:=.seq its.toArray n}={cls:=.type "list",data:=.seq (its.set j u).toArray n}:=by simp[Obj.mapSeq]
theorem Inv.lst{pins:List (Addr×Obj)}{σ:St}{H:Hp}{s:EZ}{p:Addr}{xs:List V}(I:Inv X pins σ H s)(h:H p=some (.lst xs)): ∃(its:List Value)(n:Nat),Vals xs its/\s.heap.get? p=some {cls:=.type "list",data:=.seq its.toArray n}/\xs.length<=sizeLine:=by obtain⟨z,its,n,r,e⟩:=I.hok p _ h;exact⟨its,n,r,e,z⟩
theorem Inv.AN{pins:List (Addr×Obj)}{σ:St}{H:Hp}{s:EZ}{p:Addr}{xs ys:List V}{its its':List Value}{n n':Nat}{f:Obj->Obj}(I:Inv X pins σ H s)(h:H p=some (.lst xs)) (ho:s.heap.get? p=some {cls:=.type "list",data:=.seq its.toArray n})(hf:f {cls:=.type "list",data:=.seq its.toArray n}={cls:=.type "list",data:=.seq its'.toArray n'})(r:Vals ys its')(hz:ys.length<=sizeLine)(t:Nat): Inv X pins σ (upd H p (.lst ys)) {s with heap:=s.heap.update p f,toks:=t}:=by
  have e:(s.heap.update p f).get? p=some {cls:=.type "list",data:=.seq its'.toArray n'}:=by rw[Heap.get?_update_self f ho (by rw[hf]<;>rfl),hf]
  refine I.write (x:=p) (e:=p) (by rw[h];trivial) (.inl rfl) (fun b u hb q=>(Heap.get?_update_other _ _ (Ne.symm hb)).trans q) ⟨_,e⟩ ?_;exact⟨hz,its',n',r,e⟩
inductive vE(o:V)(i:V)(v:V)(H:Hp)(Q:Hp->Prop):Prop |mk (p:_)(xs:_)(k:_)(j:_)(h0:o= .ref p)(h1:i= .int k)(h2:H p=some (.lst xs))(h3:ee xs.length k=some j)(h4:Q (upd H p (.lst (xs.set j v)))):vE o i v H Q
def yD:V->V->V->Hp->(Hp->Prop)->Prop:=fun o i v H Q=>vE o i v H Q
theorem set_list:uJ X yD:=by
 intro pins s σ H o i v ov iv u Q I ro ri rv h;obtain⟨p,xs,k,j,rfl,rfl,hp,hj,q⟩:=h;cases ro;obtain⟨t,rfl⟩:=ri;obtain⟨its,n,r,ho,hz⟩:=I.lst hp;obtain⟨h1,h2,h3,h4⟩:=sL hj;have hl:=r.length;have hn:=gc;have I':Inv X pins σ (upd H p (.lst (xs.set j v))) {s with heap:=s.heap.update p (Obj.mapSeq (·.setIfInBounds j u))}:=I.AN hp ho (AK its n j u) (r.set rv j) (by rw[List.length_set];exact hz) s.toks;by_cases h0:0<=k
 · have hk:k.toNat=j:=by rw[seqIndex_of h0 h4]at h1;exact bP h1
   exact PySem.W.ki_setAt ho h0 (by omega) (by rw[bf,<-hl];exact h4) (by rw[hk];exact⟨_,I',q⟩)
 · have hk:(k+(its.toArray.size:Int)).toNat=j:=by rw[seqIndex_neg (by omega) h3]at h1;rw[bf,<-hl];exact bP h1
   exact PySem.W.ki_setBack ho (by omega) (by rw[bf,<-hl];exact h3) (by omega) (by rw[hk];exact⟨_,I',q⟩)
theorem xW(lo hi:Option Int)(n:Nat):(sliceBounds lo hi none n).1=((HT.ai n 0 lo:Nat):Int)/\(sliceBounds lo hi none n).2.1=((HT.ai n n hi:Nat):Int)/\(sliceBounds lo hi none n).2.2=1:=by
 refine⟨?_,?_,rfl⟩
 ·cases lo with |none=>simp[sliceBounds,HT.ai] |some i=>
     simp only[sliceBounds,HT.ai,Option.getD_none,show(1:Int)>0 by decide,if_true];by_cases h:i<0
     ·simp only[h,if_true]<;>omega
     ·simp only[h,if_false]<;>omega
 ·cases hi with |none=>simp[sliceBounds,HT.ai] |some i=>
     simp only[sliceBounds,HT.ai,Option.getD_none,show(1:Int)>0 by decide,if_true];by_cases h:i<0
     ·simp only[h,if_true]<;>omega
     ·simp only[h,if_false]<;>omega
theorem xX(its:List Value)(lo hi:Option Int):slicePick its.toArray lo hi none=((its.drop (HT.ai its.length 0 lo)).take (HT.ai its.length its.length hi-HT.ai its.length 0 lo)).toArray:=by obtain⟨h1,h2,h3⟩:=xW lo hi its.toArray.size;unfold slicePick;rw[h1,h2,h3];simp only[sliceRange_one,pick_run,bf]<;>rfl
inductive vC(K:EY)(x:V)(lo:Option Int)(hi:Option Int)(H:Hp)(Q:VK):Prop |mk (a:_)(xs:_)(h0:x= .ref a)(h1:aa K H a xs)(h2:∀p,H p=none->Q (.ref p) (upd H p (.lst (cx xs lo hi)))):vC K x lo hi H Q
def yB(K:EY):V->Option Int->Option Int->Hp->VK->Prop:=fun x lo hi H Q=>vC K x lo hi H Q
theorem xY:jg X (yB X.K):=by intro pins s σ H x v vl vu lo hi sl Q I rx hs pl pu h;obtain⟨a,xs,rfl,hx,q⟩:=h;cases rx;obtain⟨its,r,ht,hz⟩:=I.list hx;have hlen:=r.length;refine⟨"list",_,slot_list_getitem.lookup,ht.isList.typeIs,?_⟩;refine wpAny_getItem_list_slice ht.isList hs pl pu .none (by simp) ?_ (by rw[bf]<;>omega);rw[xX,<-hlen];refine⟨.ref s.heap.objs.size,_,I.laid (t':=s.toks) (o:=.lst (cx xs lo hi)) (fun b ob q=>aC _ q) (ak _) ?_,rfl,q _ (I.hok.fresh (ak _))⟩;exact⟨cE (ud xs lo hi) hz,_,0,(r.drop (HT.ai xs.length 0 lo)).take (HT.ai xs.length xs.length hi-HT.ai xs.length 0 lo),bh _ rfl⟩
theorem DE:bu X (.builtin "len") (fun xs H Q=>∃p ys,xs=[.ref p]/\(aa X.K H p ys\/af X.K H p ys)/\Q (.int ys.length) H):=by
 intro pins s σ H xs us Q I r h;obtain⟨p,ys,rfl,hq,q⟩:=h;obtain⟨u,rfl,rx⟩:=vals1 r;cases rx;have hn:=gc;rcases hq with hq|hq
 · obtain⟨its,r',pl,hz⟩:=I.list hq
   have hlen:=r'.length;exact Calls.call_len_list pl.isList (by simp only[bf]<;>omega) ⟨.int ys.length,H,I.tok _,⟨s.toks+1,by rw[bf,hlen]⟩,q⟩
 · obtain⟨its,r',pl,hz⟩:=I.tuple hq
   have hlen:=r'.length;exact len_tuple pl (by simp only[bf]<;>omega) ⟨.int ys.length,H,I.tok _,⟨s.toks+1,by rw[bf,hlen]⟩,q⟩
theorem DD:bu X (.builtin "len") (fun xs H Q=>∃z,xs=[.str z]/\z.length<=sizeLine/\Q (.int z.length) H):=by intro pins s σ H xs us Q I r h;obtain⟨z,rfl,hz,q⟩:=h;obtain⟨u,rfl,t,rfl⟩:=vals1 r;have hn:=gc;exact len_str (by omega) ⟨.int z.length,H,I.tok _,⟨_,rfl⟩,q⟩
theorem bu.or{f:Value}{r r':List V->Hp->VK->Prop}(h:bu X f r)(h':bu X f r'):bu X f (fun xs H Q=>r xs H Q\/r' xs H Q):=by
 intro pins s σ H xs us Q I rs q;rcases q with q|q
 ·exact h pins s σ H xs us Q I rs q
 ·exact h' pins s σ H xs us Q I rs q
theorem DB:bu X (.type "tuple") (fun xs H Q=>∃p ys,xs=[.ref p]/\((aa X.K H p ys/\∀l,H l=none->Q (.ref l) (upd H l (.tup ys)))\/(af X.K H p ys/\Q (.ref p) H))):=by
 intro pins s σ H xs us Q I r h;obtain⟨p,ys,rfl,h⟩:=h;obtain⟨u,rfl,rx⟩:=vals1 r;cases rx;rcases h with⟨hq,q⟩|⟨hq,q⟩
 · obtain⟨its,r',pl,hz⟩:=I.list hq
   have hlen:=r'.length;refine call_tuple_list pl.isList (fun h' kp=>?_) (by simp only[bf]<;>omega);have I1:Inv X pins σ H {s with heap:=h'}:=I.kept (t':=s.toks) kp;have I2:Inv X pins σ (upd H h'.objs.size (.tup ys)) {s with heap:=h'.push {cls:=.type "tuple",data:=.seq its.toArray}}:=I1.laid (t':=s.toks) (fun b o e=>aC _ e) (ak _) (show cQ X.prog X.w _ _ _ (.tup ys)from⟨hz,its,r',IsTup.new _ _⟩);exact⟨.ref h'.objs.size,_,I2,rfl,q _ (I1.hok.fresh (ak _))⟩
 · obtain⟨its,r',pl,hz⟩:=I.tuple hq
   exact call_tuple_same pl ⟨.ref p,H,I,rfl,q⟩
def lD(K:EY)(T:String)(x:V)(H:Hp):Prop:=match x with | .str _=>T="str" | .int _=>T="int" | .ref p=>(T="list"/\∃xs,aa K H p xs)\/(T="tuple"/\∃o,K.lookup p=some o/\o.cls= .type "tuple"/\o.dict=none)\/ (T="dict"/\((∃aX,H p=some (.dK aX))\/∃aX,H p=some (.dT aX)))\/(T="set"/\∃S n,H p=some (.set S n)) |_=>False
theorem pD{pins:List (Addr×Obj)}{σ:St}{H:Hp}{s:EZ}{T:String}{x:V}{v:Value}(I:Inv X pins σ H s)(r:RelV x v)(ty:lD X.K T x H): s.TypeIs v T/\∀a,v= .ref a->∃ob,s.heap.get? a=some ob/\ob.dict=none:=by cases x with
  |str z=>obtain⟨t,rfl⟩:=r;cases(show T="str" from ty);exact⟨jo s z t,fun _ e=>nomatch e⟩ |int i=>obtain⟨t,rfl⟩:=r;cases(show T="int" from ty);exact⟨typeIs_int s i t,fun _ e=>nomatch e⟩ |ref p=>
    cases r;rcases ty with⟨rfl,xs,hq⟩|⟨rfl,o,hk,hc,hd⟩|⟨rfl,hk⟩|⟨rfl,S,n,hk⟩
    · obtain⟨its,_,pl,_⟩:=I.list hq
      refine⟨pl.isList.typeIs,fun a e=>?_⟩;cases e;obtain⟨o,n,e,c,hd,_⟩:=pl;exact⟨o,e,hd⟩
    · refine⟨⟨o,I.fw p o hk,hc⟩,fun a e=>?_⟩
      cases e;exact⟨o,I.fw _ o hk,hd⟩
    · have z:∃o,s.heap.get? p=some o/\o.ExactDict:=by
        rcases hk with⟨aX,hk⟩|⟨aX,hk⟩
        · obtain⟨_,_,_,_,o,_,_,e,ex,_⟩:=I.hok p _ hk
          exact⟨o,e,ex⟩
        · obtain⟨_,_,_,_,o,_,_,e,ex,_⟩:=I.hok p _ hk
          exact⟨o,e,ex⟩
      obtain⟨o,e,ex⟩:=z;refine⟨⟨o,e,ex.1⟩,fun a e2=>?_⟩;cases e2;exact⟨o,e,ex.2.1⟩
    · obtain⟨o,_,_,_,e,ex,_⟩:=I.hok p _ hk
      refine⟨⟨o,e,ex.1⟩,fun a e2=>?_⟩;cases e2;exact⟨o,e,ex.2.1⟩ |_=>exact False.elim ty
def fK(K:EY)(T:String)(r:V->List V->Hp->VK->Prop)(to:TE)(t:TA):TE:=fun σ H Q=>to σ H fun x H1=>lD K T x H1/\t σ H1 fun xs H2=>r x xs H2 Q
variable {o e:Expr}{es:List Expr}{to:TE}{t:TA}{name:Str}{apos aq:Pos}{T id:String}{r:V->List V->Hp->VK->Prop}
theorem gW(pa:PlainAttrs T)(slot:Slot T name id)(nG:typeOf (.builtin id)=pure (.type "method_descriptor"))(hm:i9 X id r)(ho:PE X o to)(ha:PA X (e::es) t) (cw:attributeBase o name X.env (eval o X.env)=eval o X.env:=by rfl) (cv:((backTo aq (starEach (e::es) X.env)).all (fun x=>!x.1)&&(backToKw aq (keywordEach [] X.env)).all (fun x=>x.1.isSome) &&decide ((e::es).length+([]:List Keyword).length+(if([]:List Keyword).isEmpty then 0 else 1)<30))=true:=by rfl) (cq:(apos.endLine==aq.line)=true:=by rfl)(hs:starEach (e::es) X.env=(false,eval e X.env)::starEach es X.env:=by rfl)(cm:(backTo aq (starEach es X.env)).any (·.1)=false:=by rfl): PE X (.Call (.Attribute o name apos) (e::es) [] aq) (fK X.K T r to t):=by intro pins s σ H Q I h;refine wpAny_Call_method_late cw cv cq rfl (ab (ho pins s σ H _ I h) fun v s1 ⟨x,H1,I1,r1,ty,q1⟩=>?_);obtain⟨h1,h2⟩:=pD I1 r1 ty;refine⟨T,id,pa,slot,nG,h1,h2,?_⟩;have hA:=ha aq pins s1 σ H1 _ I1 q1;rw[hs]at hA⊢;refine Calls.callWith_builtin (by show(false||(backTo aq (starEach es X.env)).any (·.1))=false;rw[cm]<;>rfl) (Calls.evalArgs_plain ?_);exact ab hA fun us s2 ⟨vs,H2,I2,r2,q2⟩=>hm pins s2 σ H2 x vs v us Q I2 r1 r2 q2
end
end L2
namespace L2
open PySem PySem.Spec PyProof.Rows
def Ee(X:Cx)(id:String)(r:V->List V->Hp->VK->Prop):Prop:=∀(pins:List (Addr×Obj))(s:EZ)(σ:St)(H:Hp)(x:V)(xs:List V)(v:Value)(us:List Value)(Q:VK),Inv X pins σ H s->RelV x v->Vals xs us->r x xs H Q->wpAny (model X.prog X.w) X.A (call (.builtin id) (v::us)) (EP X pins σ Q) X.xe s
theorem Vals.one:∀{x:V}{us:List Value},Vals [x] us->∃u,us=[u]/\RelV x u |_,_,.cons r .nil=>⟨_,rfl,r⟩
section
variable {X:Cx}{pins:List (Addr×Obj)}{σ:St}{H:Hp}{s:EZ}{l b:Addr}{xs ys zs:List V}
theorem Inv.AQ{its its':List Value}{n:Nat}{f:Array Value->Array Value}{t':Nat}(I:Inv X pins σ H s)(hH:H l=some (.lst xs)) (e:s.heap.get? l=some {cls:=.type "list",data:=.seq its.toArray n})(hf:f its.toArray=its'.toArray)(hv:Vals ys its')(hz:ys.length<=sizeLine): Inv X pins σ (upd H l (.lst ys)) {s with heap:=s.heap.update l (Obj.mapSeq f),toks:=t'}:=by have q:=PySem.IsL.update e f;rw[hf]at q;refine I.write (x:=l) (e:=l) (by rw[hH];exact trivial) (.inl rfl) (fun b' u hb hu=>(Heap.get?_update_other s.heap (Obj.mapSeq f) (Ne.symm hb)).trans hu) ⟨_,q⟩ ?_;exact⟨hz,its',_,hv,q⟩
theorem Inv.sx{its:List Value}{t':Nat}(I:Inv X pins σ H s)(hv:Vals ys its)(hz:ys.length<=sizeLine): Inv X pins σ (upd H s.heap.objs.size (.lst ys)) {s with heap:=s.heap.push {cls:=.type "list",data:=.seq its.toArray},toks:=t'}:=I.laid (fun _ _ q=>aC _ q) (ak _) ⟨hz,its,0,hv,bh _ rfl⟩
theorem Inv.AO(I:Inv X pins σ H s)(hH:H l=some (.lst xs)):xs.length<=sizeLine/\∃(its:List Value)(n:Nat),Vals xs its/\xs.length=its.length/\s.heap.get? l=some {cls:=.type "list",data:=.seq its.toArray n}:=by obtain⟨z,its,n,r,e⟩:=I.hok l _ hH;exact⟨z,its,n,r,r.length,e⟩
end
section
variable {X:Cx}
inductive vV(x:V)(vs:List V)(H:Hp)(Q:VK):Prop |mk (l:_)(xs:_)(y:_)(h0:x= .ref l)(h1:vs=[y])(h2:H l=some (.lst xs))(h3:xs.length<sizeLine)(h4:Q .ay (upd H l (.lst (xs++[y])))):vV x vs H Q
def rk:V->List V->Hp->VK->Prop:=fun x vs H Q=>vV x vs H Q
theorem nh:Ee X "list.append" rk:=by intro pins s σ H x vs v us Q I rx rv h;obtain⟨l,xs,y,rfl,rfl,hH,hz,q⟩:=h;cases rx;obtain⟨u,rfl,ru⟩:=rv.one;obtain⟨z,its,n,r,hl,e⟩:=I.AO hH;refine call_meets F.slot_list_append ⟨_,e,rfl⟩ F.entry_list_append (F.args_list_append_2 _ _) (PySem.list_append l its.toArray n u (by rw[bf];omega)) ⟨e,?_⟩;refine⟨.ay,_,I.AQ (its':=its++[u]) hH e (by simp) (r.append (.cons ru .nil)) ?_,rfl,q⟩;rw[dy,jw];omega
end
section
variable {prog:F0}{w:World}{A:F2}{E:Value->EZ->Prop}{s:EZ}
end
section
variable {X:Cx}
end
end L2
namespace Att
open PySem PySem.W PySem.Calls PyProof.Rows
theorem Bh{P:Params}{h:Heap}:∀(ns:List Int)(vs:List Value),WellAll P h vs (ns.map WData.int)->IntsAre vs ns:=by intro ns;induction ns with |nil=>intro vs w;rw[List.map_nil]at w;cases w;exact .nil |cons n ns ih=>intro vs w;rw[ip]at w;cases w with |cons a b=>cases a;exact .cons _ _ (ih _ b)
theorem yb{l:OpenLaw}{n:Nat}(hn:l.most=some n){P:Params}{h:Heap}{args:List WData}{vals:List Value} (kx:l.row.toRowW.claim.pre args=true)(gh:WellAll P h vals args): ∃a vs ns,vals=[Value.ref a]/\args=[WData.list (ns.map WData.int)]/\h.get? a=some {cls:=.type "list",data:=.seq vs.toArray}/\IntsAre vs ns/\ns.length<=n:=by
  have BE:WShape.hasAll [] args [.list .int]=true:=(pre_splitW kx).1;have hc:l.pre.holds [] {args:=args}=true:=(pre_splitW kx).2;obtain⟨d,r,rfl,h1,h2⟩:=hasAllW_cons BE;obtain rfl:=hasAllW_nil h2;obtain⟨xs,rfl,h3⟩:=hasW_list h1;obtain⟨ns,rfl⟩:=items_int h3;have hlen:ns.length<=n:=by
   unfold OpenLaw.pre at hc;have h4:(WTm.not (.lt (.lit (.int (n:Int))) (.len (.arg 0)))).holds [] {args:=[.list (ns.map .int)]}=true:=by have h4:=(holds_andW hc).1;rw[hn]at h4;exact h4
   have h5:=condW_of h4 (w_not (w_lt w_lit (w_len_list (w_arg rfl))));rw[aG]at h5;refine Nat.le_of_not_lt fun q=>?_;have q':(n:Int)<((ns.length:Nat):Int):=by omega
   first |(rw[bH q']at h5;exact absurd h5 (by decide)) |(simp at h5;omega)
  cases gh with |cons w1 w2=>cases w2;cases w1 with |list ho Cr=>exact⟨_,_,ns,rfl,rfl,ho,Bh ns _ Cr,hlen⟩
theorem yW(l:OpenLaw)(args:List WData):l.row.toRowW.claim.post args (.bool true) args=true:=postW_of (r:=l.row.toRowW) (X:=(true==true)) (show WShape.has [] (.bool true) .bool=true by first|rfl|decide|simp[WShape.has,WShape.arms,WShape.armsAll]) (show(WTm.eq .res (.lit (.bool true))).value [] {args:=args,res:=some (.bool true),after:=args}=some (.bool (true==true))from w_eq_bool (w_res rfl) w_lit) rfl
theorem DR{l:OpenLaw}{n:Nat}{q:F0}{loose:List Str}{XP:(Str->Option Value)->Heap->Prop}{YP:World->Heap->Prop}{d:DefRec} (hn:l.most=some n)(j4:d.params.defaults=[]) (call:∀(w:World)(s₀ s₁:EZ)(mg mb:Str->Option Value)(fa:Addr)(o:Obj)(pm cd doc:Value)(a:Addr)(vs:List Value)(ns:List Int),Ground q loose [] XP w s₀ mg mb s₁.heap->YP w s₁.heap->s₁.heap.get? fa=some o->o.data= .func (docDef d.name d.params d.body d.scope pm cd doc)->s₁.heap.CodeRec cd d.name->mg d.name=some (.ref fa)->s₁.heap.get? a=some {cls:=.type "list",data:=.seq vs.toArray}->IntsAre vs ns->ns.length<=n->s₁.gens=#[]->codeAny (model l.prog w) callerA (.call (.ref fa) ⟨[.ref a],[]⟩) (fun r s'=>r= .ok (.ret (.bool true))/\OldK s₁.heap s'.heap/\s'.os=s₁.os/\AllBare s'.gens) s₁): WalkO q loose XP YP l.row.toRowW d [] (fun f vs=>PySem.call f vs):=by intro w s₀ s₁ mg mb G Y fa o pm cd doc dV kV ho hd dr hD iZ hg args vals as kx EK EF gh EJ;obtain rfl:dV= .none:=Dflts.none hD j4;obtain rfl:kV= .none:=Dflts.noKw hD;obtain⟨a,vs,ns,rfl,rfl,nL,hints,hlen⟩:=yb hn kx gh;refine enter_call (codeAny_mono (call w s₀ s₁ mg mb fa o pm cd doc a vs ns G Y ho (fd_plain hd) dr iZ nL hints hlen hg) fun r s' hq=>?_);obtain⟨rfl,h2,h3,h4⟩:=hq;exact⟨.inl ⟨.bool true,.bool true,[],rfl,fun _=>rfl,.bool true,yW l _,fun _=>⟨List.Pairwise.nil,fun _ hm=>(nomatch hm)⟩⟩,h2,h3,h4⟩
section
variable {prog:F0}{w:World}{A:F2}{E:Value->EZ->Prop}{s:EZ}{K:Frag}
end
end Att
namespace L2
open PySem PySem.Spec PyProof.Rows
theorem pC:∀{vs:List Value}{ns:List Int},IntsAre vs ns->Vals (ns.map V.int) vs |_,_,.nil=>.nil |_,_,.cons n t h=>.cons ⟨t,rfl⟩ (pC h)
def oK(H:Hp):Prop:=∀b,H b=none\/∃o xs,H b=some (.ek o (.lst xs))
theorem B0{P:F0}{w:World}{K:EY}{mg mb:Str->Option Value}{CX:dS}{k:Nat}{fa a:Addr}{fd:FuncData}{x:Str}{sp:Sp}{s₁:EZ}{vs:List Value}{ns:List Int} (KX:K.In s₁.heap)(t9:s₁.heap.Ns mainGlobals mg)(hb:s₁.heap.Ns builtinsNs mb)(Cm:∀x:Str,x≠"__name__"->mb x=bootBuiltins x)(BV:s₁.heap.NoLimit)(hg:s₁.gens=#[]) (ha:s₁.heap.get? a=some {cls:=.type "list",data:=.seq vs.toArray})(hi:IntsAre vs ns)(hl:ns.length<=sizeLine)(hr:bB k callerA) (F:∀base:Heap,K.In base->base.Ns mainGlobals mg->eE P w K mg base CX k fa fd [x] sp)(Ck:∀(s:EZ)(u:Value),BindsTo s fd ⟨[u],[]⟩ [(x,u)]) (dI:∀H:Hp,oK H->aa K H a (ns.map V.int)->sp [.ref a] H (fun v _=>v= .bl true) fun _ _ _=>False) (nX:∀H e s',CX [] H s₁ (fun _ _ _=>False) e s'->False): codeAny (model P w) callerA (.call (.ref fa) ⟨[.ref a],[]⟩) (fun r s'=>r= .ok (.ret (.bool true))/\OldK s₁.heap s'.heap/\s'.os=s₁.os/\AllBare s'.gens) s₁:=by
  have rv:=pC hi;have AX:=hi.length;have core:∀H:Hp,oK H->aa K H a (ns.map V.int)->br P w H s₁.heap->(∀b,H b≠none->b=a)->(H a≠none->K.lookup a=none)->codeAny (model P w) callerA (.call (.ref fa) ⟨[.ref a],[]⟩) (fun r s'=>r= .ok (.ret (.bool true))/\OldK s₁.heap s'.heap/\s'.os=s₁.os/\AllBare s'.gens) s₁:=by
    intro H hO hS hok hA hK;have uD:∀{b:Addr}{o:Obj},s₁.heap.get? b=some o->H b=none->(eW s₁.heap H).get? b=some o:=fun e n=>Cc e n;have iR:∀{b:Addr}{o:Obj}{es:Array DictEntry}{ep:Nat},s₁.heap.get? b=some o->o.data= .dict es ep->H b=none:=fun{b o es ep} e d=>by cases q:H b with |none=>rfl |some u=>have e':b=a:=hA b (by rw[q];simp);subst e';rw[ha]at e;cases e;have d':Data.seq vs.toArray _=Data.dict es ep:=d;cases d'
    have ka:∀{b:Addr}{m:Str->Option Value},s₁.heap.Ns b m->(eW s₁.heap H).Ns b m:=fun{b m} ⟨o,es,ep,e,d,r⟩=>⟨o,es,ep,uD e (iR e d),d,r⟩;have tF:K.In (eW s₁.heap H):=fun b o e=>uD (KX b o e) (by cases q:H b with |none=>rfl |some u=>have e':b=a:=hA b (by rw[q];simp);subst e';rw[hK (by rw[q];simp)]at e;cases e);have hM:Mod K mg (eW s₁.heap H):=⟨tF,ka t9,⟨mb,ka hb,Cm⟩,let⟨mc,h1,h2⟩:=BV;⟨mc,ka h1,h2⟩⟩;have e0:kU P w K mg (eW s₁.heap H) callerA [] s₁ H:=⟨rfl,hM,fun b o e=>Ae e,Nat.le_of_eq (Cb _ _),trivial,fun b hb=>absurd (show b∈([]:List Addr)from hb) (by simp),hok,.of_eq hg⟩;refine codeAny_mono ((F _ tF (ka t9)).run callerA [] s₁ H ⟨[.ref a],[]⟩ [.ref a] [.ref a] _ _ hr e0 (Ck s₁ (.ref a)) (.cons rfl .nil) (dI H hO hS)) fun r s' h=>?_;cases r with |error e=>exact(nX H e s' h).elim |ok fl=>cases fl with |next=>exact False.elim h |brk=>exact False.elim h |cont=>exact False.elim h |ret u=>obtain⟨v,H',os,bare,un,BK,r',q⟩:=h;have q':v= .bl true:=q;subst q';obtain rfl:u=Value.bool true:=r';refine⟨rfl,OldK.of_keep fun b o e=>?_,os,bare⟩;cases q:H b with |none=>exact un.keep b o e q (by intro z;exact absurd (show b∈([]:List Addr)from z) (by simp)) (by simp) |some u=>
          rcases hO b with z|⟨ob,xs,z⟩
          ·rw[q]at z;cases z
          · have z2:=un.frzs b ob _ z
            obtain⟨e1,_⟩:=hok b _ z;obtain⟨e2,_⟩:=BK b _ z2;rw[e]at e1;cases e1;exact e2
  cases hk:K.lookup a with |some o=>have e:=KX a o hk;rw[ha]at e;cases e;refine core (fun _=>none) (fun _=>.inl rfl) (.inr ⟨_,vs.toArray,_,hk,rfl,rfl,rfl,by rw[bf,AX];exact hl,by simpa using rv⟩) (fun b u z=>by have z':(none:Option HO)=some u:=z;cases z') (fun b z=>absurd rfl z) fun z=>absurd rfl z |none=>
    refine core (fun b=>if b=a then some (.ek {cls:=.type "list",data:=.seq vs.toArray} (.lst (ns.map V.int)))else none) (fun b=>?_) (.inl (.inr ⟨{cls:=.type "list",data:=.seq vs.toArray},aD rfl⟩)) (fun b u z=>?_) (fun b z=>?_) fun _=>hk
    · by_cases hb:b=a
      ·exact .inr ⟨_,_,aD hb⟩
      ·exact .inl (aE hb)
    · by_cases hb:b=a
      · have z':=(aD hb).symm.trans z
        cases z';subst hb;exact⟨ha,by rw[aG];exact hl,vs,_,rv,ha⟩
      · have z':=(aE hb).symm.trans z
        cases z'
    · by_cases hb:b=a
      ·exact hb
      ·exact absurd (aE hb) z
theorem wX{l:PySem.W.OpenLaw}{n k:Nat}{q:F0}{loose:List Str}{XP:(Str->Option Value)->Heap->Prop}{YP:World->Heap->Prop}{d:DefRec}{K:Params->EY}{CX:World->dS}{sp:World->Sp}{x:Str} (hn:l.most=some n)(BO:n<=sizeLine)(j4:d.params.defaults=[])(hr:bB k callerA) (hY:∀(w:World)(h:Heap),YP w h->(K w.params).In h) (F:∀(w:World)(mg:Str->Option Value)(fa:Addr)(h:Heap),(K w.params).In h->h.Ns mainGlobals mg->mg d.name=some (.ref fa)->∃fd:FuncData,(∀(s:EZ)(u:Value),BindsTo s fd ⟨[u],[]⟩ [(x,u)])/\∀base:Heap,(K w.params).In base->base.Ns mainGlobals mg->eE l.prog w (K w.params) mg base (CX w) k fa fd [x] (sp w)) (dI:∀(w:World)(H:Hp)(a:Addr)(ns:List Int),ns.length<=n->oK H->aa (K w.params) H a (ns.map V.int)->sp w [.ref a] H (fun v _=>v= .bl true) fun _ _ _=>False) (nX:∀(w:World)(H:Hp)(s:EZ)(e:Value)(s':EZ),CX w [] H s (fun _ _ _=>False) e s'->False): PySem.W.WalkO q loose XP YP l.row.toRowW d [] (fun f vs=>PySem.call f vs):=by refine Att.DR hn j4 fun w s₀ s₁ mg mb fa o pm cd doc a vs ns G Y ho hd dr iZ nL hints hlen hg=>?_;have KX:=hY w _ Y;obtain⟨fd,hb,hF⟩:=F w mg fa _ KX G.T.g iZ;exact B0 KX G.T.g G.T.b G.T.builtins G.T.nolimit hg nL hints (cE hlen BO) hr hF hb (fun H hO hS=>dI w H a ns hlen hO hS) fun H e s'=>nX w H s₁ e s'
def gy(s:Stmt):Arguments:=match s with | .FunctionDef _ a _ _ _ _ _ _ _ _=>a |_=>{posonlyargs:=[],args:=[],vararg:=none,kwonlyargs:=[],kw_defaults:=[],kwarg:=none,defaults:=[]}
def eZ(s:Stmt):List Stmt:=match s with | .FunctionDef _ _ b _ _ _ _ _ _ _=>b |_=>[]
def aJ(s:Stmt):Scope:=match s with | .FunctionDef _ _ _ _ _ _ sc _ _ _=>sc |_=>{kind:=.function,names:=[],isGenerator:=false,isCoroutine:=false}
abbrev fe:dS:=fun _ _ _ _ _ _=>False
abbrev E0:XK:=fun _ _ _=>False
theorem zr{X:Cx}:Passes fe X E0:=fun _ _ _ _ _ _ _ h=>h.elim
structure fc(K:EY)(x qual:Str)(st:Stmt)(f:Addr)(fd:FuncData):Prop where
 ex:∃(oc:Value)(od:Option Addr)(kV doc pm:Value)(an:Option Addr)(aj ct:Value)(cW:Array (Option Value)),fd=PySem.W.fnOf x qual (gy st) (eZ st) (aJ st) .none kV doc pm an aj ct/\K.lookup f=some ⟨oc,od,.func fd,cW⟩/\PySem.W.codeIn K aj qual=true
 kp:PySem.W.keepIn K (.ref f)=true
section
variable {P:F0}{w:World}{K:EY}{mg:Str->Option Value}{base:Heap}
theorem fc.ok{x qual:Str}{st:Stmt}{f:Addr}{fd:FuncData}{N ps:List Str}{k:Nat}{sp:Sp}(F:fc K x qual st f fd)(S:aV N ps (aJ st))(len:∀vs H Q E,sp vs H Q E->vs.length=ps.length) (j6:∀(aj:Value)(A:F2)(outer:List Env)(s:EZ)(H:Hp)(vs:List V)(Q:VK)(E:XK),bB k (A.deeper (envOfC qual (aJ st) s.heap.objs.size f aj))->sp vs H Q E->∃t,cP (gz fe P w K mg base N qual (aJ st) f aj A outer s H E).iQ (eZ st) t/\t {nx:=fun _ H'=>Q .ay H',rt:=Q} (start N vs) H):eE P w K mg base fe (k+1) f fd ps sp:=by obtain⟨oc,od,kV,doc,pm,an,aj,ct,cW,rfl,lk,dr⟩:=F.ex;refine D7 lk dr S len fun A outer s H vs Q E hr dI=>?_;obtain⟨t,h,q⟩:=j6 aj A outer s H vs Q E hr dI;exact⟨t,h.iQ,q⟩
theorem fc.binds{x qual:Str}{st:Stmt}{f:Addr}{fd:FuncData}{ps:List Str}(F:fc K x qual st f fd) (h:∀(kV doc pm:Value)(an:Option Addr)(aj ct:Value)(us:List Value),us.length=ps.length->bindArgs (PySem.W.fnOf x qual (gy st) (eZ st) (aJ st) .none kV doc pm an aj ct) ⟨us,[]⟩=pure (ps.zip us)):Binds K fd ps []:=by obtain⟨oc,od,kV,doc,pm,an,aj,ct,cW,rfl,lk,dr⟩:=F.ex;exact .all (h kV doc pm an aj ct)
theorem D1{x qual:Str}{st:Stmt}{f:Addr}{oc:Value}{od an:Option Addr}{cW:Array (Option Value)}{kV doc pm aj ct:Value}(l:K.lookup f=some ⟨oc,od,.func (PySem.W.fnOf x qual (gy st) (eZ st) (aJ st) .none kV doc pm an aj ct),cW⟩) (c:PySem.W.codeIn K aj qual=true)(k:PySem.W.keepIn K (.ref f)=true):fc K x qual st f (PySem.W.fnOf x qual (gy st) (eZ st) (aJ st) .none kV doc pm an aj ct):=⟨⟨oc,od,kV,doc,pm,an,aj,ct,cW,rfl,l,c⟩,k⟩
end
section
variable {X:Cx}
theorem pv(i:Nat){x:Str}{pos:Pos}(hN:X.N[i]? =some x:=by rfl)(hv:oE X.env.scope x:=by first|exact Or.inl rfl|exact Or.inr (Or.inl rfl)|exact Or.inr (Or.inr rfl))(hd:(x==("__debug__":Str))=false:=by decide) (dr:(x==("__classdict__":Str))=false:=by decide):PE X (.Name x pos) (pK i):=zf hN hv hd dr
end
theorem aF{A B:Prop}(h:B):if false=true then A else B:=by rw[aE bF];exact h
theorem aR{A B:Prop}(h:A):if true=true then A else B:=by rw[aD rfl];exact h
theorem bN{c A B:Prop}[Decidable c](h1:c->A)(h2:¬c->B):if c then A else B:=by
 by_cases h:c
 · rw[aD h]
   exact h1 h
 · rw[aE h]
   exact h2 h
def a8(H H':Hp):Prop:=∀b o,H b=some o->H' b=some o
theorem a8.refl(H:Hp):a8 H H:=fun _ _ h=>h
theorem a8.trans{H H1 H2:Hp}(a:a8 H H1)(b:a8 H1 H2):a8 H H2:=fun c o h=>b c o (a c o h)
theorem a8.seq{K:EY}{H H':Hp}{a:Addr}{xs:List V}(e:a8 H H')(h:aa K H a xs):aa K H' a xs:=by
 rcases h with(h|⟨o,h⟩)|h
 ·exact .inl (.inl (e _ _ h))
 ·exact .inl (.inr ⟨o,e _ _ h⟩)
 ·exact .inr h
def Wd (i:Int):Prop:=i.natAbs<2^5000
theorem Wd.bits{i:Int}(h:Wd i):Builtin.Int.intBits i<=2^20:=cE (PyProof.Rows.intBits_le h) (by decide)
theorem Wd.log{i:Int}(h:Wd i):i.natAbs.log2<9000:=by
 by_cases e:i.natAbs=0
 ·rw[e];decide
 · have h1:i.natAbs.log2<5000:=(Nat.log2_lt e).mpr h
   omega
section
variable {X:Cx}
theorem rN:aK X (binaryOp .FloorDiv) (rI (fun _ j=>0<j/\Wd j) fun i j=>.int (i/j)):=k6 fun i j _ _ _ _ _ hc q=>by have h1:(0:Int)<j:=hc.1;exact floordiv_int (by omega) (by rw[Int.fdiv_eq_ediv_of_nonneg i (by omega)];exact q) (.inl (PyProof.noPylong_of_log2 hc.2.log))
end
def gE(K:EY)(H:Hp)(x:V)(T:String):Prop:=match x with | .ay=>T="NoneType" | .bl _=>T="bool" | .int _=>T="int" | .str _=>T="str" | .ref a=>(T="list"/\∃xs,aa K H a xs)\/(T="tuple"/\∃xs,af K H a xs) |_=>False
def c9(T n:String):Bool:=T==n||(T=="bool"&&n=="int")
def jF:List String:=["NoneType","bool","int","str","list","tuple"]
def iz:List String:=["bool","int","str","list","tuple"]
theorem sF{K:EY}{T n:String}(h1:T∈jF)(h2:n∈iz):PySem.W.kitOne K (.type T) (.type n)=some (c9 T n):=by
 have all:jF.all (fun T=>iz.all fun n=>PySem.W.kitOne [] (.type T) (.type n)==some (c9 T n))=true:=by decide+kernel
 have a1:=bK.mp all T h1;have a2:=bK.mp a1 n h2;have e:PySem.W.kitOne K (.type T) (.type n)=PySem.W.kitOne [] (.type T) (.type n):=by unfold PySem.W.kitOne PySem.W.kitCls PySem.W.subIn;rfl
 rw[e];exact cD.mp a2
section
variable {X:Cx}
theorem gE.mem{K:EY}{H:Hp}{x:V}{T:String}(h:gE K H x T):T∈jF:=by cases x with |ay=>cases(show T="NoneType" from h);decide |bl b=>cases(show T="bool" from h);decide |int b=>cases(show T="int" from h);decide |str b=>cases(show T="str" from h);decide |ref a=>rcases(show(T="list"/\∃xs,aa K H a xs)\/(T="tuple"/\∃xs,af K H a xs)from h)with⟨e,_⟩|⟨e,_⟩<;>cases e<;>decide |_=>exact(show False from h).elim
theorem sG{pins:List (Addr×Obj)}{s:EZ}{σ:St}{H:Hp}{x:V}{u:Value}{T:String}(I:Inv X pins σ H s)(rx:RelV x u)(ty:gE X.K H x T): ∃P:Heap->Prop,PySem.W.KitX X.K u (.type T) P/\P s.heap/\u≠ .builtin "__main__.__loader__#opaque":=by cases x with
  |ay=>cases(show T="NoneType" from ty);cases(show u=Value.none from rx);exact⟨_,PySem.W.kitx_none,True.intro,fun z=>nomatch z⟩ |bl b=>cases(show T="bool" from ty);cases(show u=Value.bool b from rx);exact⟨_,PySem.W.kitx_bool,True.intro,fun z=>nomatch z⟩ |int b=>cases(show T="int" from ty);obtain⟨t,q⟩:=(show∃t,u=Value.int b t from rx);cases q;exact⟨_,PySem.W.kitx_int,True.intro,fun z=>nomatch z⟩ |str b=>cases(show T="str" from ty);obtain⟨t,q⟩:=(show∃t,u=Value.str b t from rx);cases q;exact⟨_,PySem.W.kitx_str,True.intro,fun z=>nomatch z⟩ |ref a=>
    cases(show u=Value.ref a from rx);rcases(show(T="list"/\∃xs,aa X.K H a xs)\/(T="tuple"/\∃xs,af X.K H a xs)from ty)with⟨e,xs,hx⟩|⟨e,xs,hx⟩
    · cases e
      obtain⟨its,r,⟨o,n,h1,h2,_⟩,_⟩:=I.list hx;exact⟨_,PySem.W.kitx_list,⟨o,h1,h2⟩,fun z=>nomatch z⟩
    · cases e
      obtain⟨its,r,⟨o,h1,h2,_⟩,_⟩:=I.tuple hx;exact⟨_,PySem.W.kitx_tuple,⟨o,h1,h2⟩,fun z=>nomatch z⟩ |_=>exact(show False from ty).elim
inductive vN(K:EY)(xs:List V)(H:Hp)(Q:VK):Prop |mk (x:_)(T:_)(n:_)(b:_)(h0:xs=[x,.ty n])(h1:gE K H x T)(h2:n∈iz)(h3:c9 T n=b)(h4:Q (.bl b) H):vN K xs H Q
def mD(K:EY):List V->Hp->VK->Prop:=fun xs H Q=>vN K xs H Q
theorem DG:bu X (.builtin "isinstance") (mD X.K):=by intro pins s σ H xs us Q I r h;obtain⟨x,T,n,b,rfl,ty,hn,rfl,q⟩:=h;obtain⟨u,c,rfl,rx,rc⟩:=vals2 r;cases(show c=Value.type n from rc);obtain⟨P,Z,p,hx⟩:=sG I rx ty;exact PySem.W.kia_one Z I.fw p (sF ty.mem hn) hx fun tk=>⟨.bl (c9 T n),H,I.tok _,rfl,q⟩
inductive vM(K:EY)(xs:List V)(H:Hp)(Q:VK):Prop |mk (x:V)(T:String)(p:Addr)(ns:List String)(b:Bool)(h0:xs=[x,.ref p])(h1:H p=some (.tup (ns.map V.ty)))(h2:gE K H x T)(h3:(∀n∈ns,n∈iz))(h4:ns.any (c9 T)=b)(h5:Q (.bl b) H):vM K xs H Q
def mC(K:EY):List V->Hp->VK->Prop:=fun xs H Q=>vM K xs H Q
theorem sE{K:EY}{T:String}(h1:T∈jF):∀{ns:List String},(∀n∈ns,n∈iz)->PySem.W.kitAny K (.type T) (ns.map Value.type)=some (ns.any (c9 T)) |[],_=>rfl |n::r,h=>by have e:=sF (K:=K) h1 (h n (p9 ..));have ih:=sE (K:=K) h1 (ns:=r) fun m hm=>h m (l8 _ hm);rw[ip,PySem.W.kitAny,e,l9];cases c9 T n with |true=>rfl |false=>simpa using ih
theorem pB:∀{ns:List String}{us:List Value},Vals (ns.map V.ty) us->us=ns.map Value.type |[],_,.nil=>rfl |n::r,_,.cons q t=>by cases(show _=Value.type n from q);rw[pB t];rfl
theorem DF:bu X (.builtin "isinstance") (mC X.K):=by intro pins s σ H xs us Q I r h;obtain⟨x,T,p,ns,b,rfl,hp,ty,hn,rfl,q⟩:=h;obtain⟨u,c,rfl,rx,rc⟩:=vals2 r;cases(show c=Value.ref p from rc);obtain⟨P,Z,pp,hx⟩:=sG I rx ty;obtain⟨_,its,rv,⟨cls,dd,dt,sl⟩,h1,h2,n,h3⟩:=(show cQ X.prog X.w H s.heap p (.tup (ns.map V.ty))from I.hok p _ hp);simp only at h2 h3;subst h2 h3;have e:=pB rv;subst e;exact PySem.W.kia_tup Z I.fw pp h1 (sE ty.mem hn) hx fun tk=>⟨.bl _,H,I.tok _,rfl,q⟩
end
mutual
def RD(K:EY)(H:Hp):V->F1->Prop |x,.none=>x= .ay |x,.bool b=>x= .bl b |x,.int i=>x= .int i |x,.str y=>x= .str y |x,.list ds=>∃a xs,x= .ref a/\aa K H a xs/\ae K H xs ds |x,.tuple ds=>∃a xs,x= .ref a/\af K H a xs/\ae K H xs ds |_,.dict _=>False
def ae (K:EY)(H:Hp):List V->List F1->Prop |xs,[]=>xs=[] |xs,d::ds=>∃y ys,xs=y::ys/\RD K H y d/\ae K H ys ds
end
section
variable {X:Cx}
mutual
theorem RD.reads{pins:List (Addr×Obj)}{s:EZ}{σ:St}{H:Hp}(I:Inv X pins σ H s):∀{x:V}{u:Value}(d:F1),RelV x u->RD X.K H x d->∃as,Reads s.heap u d as |x,u,.none,r,h=>by cases(show x= .ay from by simpa[RD]using h);cases(show u=Value.none from r);exact⟨_,.none⟩ |x,u,.bool b,r,h=>by cases(show x= .bl b from by simpa[RD]using h);cases(show u=Value.bool b from r);exact⟨_,.bool b⟩ |x,u,.int i,r,h=>by cases(show x= .int i from by simpa[RD]using h);obtain⟨t,q⟩:=(show∃t,u=Value.int i t from r);cases q;exact⟨_,.int i t⟩ |x,u,.str y,r,h=>by cases(show x= .str y from by simpa[RD]using h);obtain⟨t,q⟩:=(show∃t,u=Value.str y t from r);cases q;exact⟨_,.str y t⟩ |x,u,.list ds,r,h=>by rw[RD]at h;obtain⟨a,xs,rfl,hx,hd⟩:=h;cases(show u=Value.ref a from r);obtain⟨its,rv,⟨o,n,h1,h2,h3,h4⟩,_⟩:=I.list hx;obtain⟨as,q⟩:=ae.reads I ds rv hd;exact⟨_,.list h1 h2 h4 (by simpa using q)⟩ |x,u,.tuple ds,r,h=>by rw[RD]at h;obtain⟨a,xs,rfl,hx,hd⟩:=h;cases(show u=Value.ref a from r);obtain⟨its,rv,⟨o,h1,h2,n,h4⟩,_⟩:=I.tuple hx;obtain⟨as,q⟩:=ae.reads I ds rv hd;exact⟨_,.tuple h1 h2 h4 (by simpa using q)⟩ |x,u,.dict _,r,h=>by simp[RD]at h
theorem ae.reads {pins:List (Addr×Obj)}{s:EZ}{σ:St}{H:Hp}(I:Inv X pins σ H s):∀{xs:List V}{us:List Value}(ds:List F1),Vals xs us->ae X.K H xs ds->∃as,ReadsAll s.heap us ds as |xs,us,[],r,h=>by cases(show xs=[]from by simpa[ae]using h);cases r;exact⟨_,.nil⟩ |xs,us,d::ds,r,h=>by rw[ae]at h;obtain⟨y,ys,rfl,h1,h2⟩:=h;cases r with |cons ra rb=>obtain⟨as,q⟩:=RD.reads I d ra h1;obtain⟨bs,q'⟩:=ae.reads I ds rb h2;exact⟨_,.cons q q'⟩
end
inductive vS(K:EY)(x:V)(y:V)(H:Hp)(Q:VK):Prop |mk (d:_)(e:_)(h0:RD K H x d)(h1:RD K H y e)(h2:SeqAt.shaped d=true)(h3:SeqAt.shaped e=true)(h4:Q (.bl (PyData.eqv d e)) H):vS K x y H Q
def mE(K:EY):R2:=fun x y H Q=>vS K x y H Q
inductive vG(K:EY)(x:V)(y:V)(H:Hp)(Q:VK):Prop |mk (d:_)(e:_)(h0:RD K H x d)(h1:RD K H y e)(h2:SeqAt.shaped d=true)(h3:SeqAt.shaped e=true)(h4:Q (.bl (!PyData.eqv d e)) H):vG K x y H Q
def my(K:EY):R2:=fun x y H Q=>vG K x y H Q
theorem zF(hu:X.A.units+64<cLine):aK X (compareOp .Eq) (mE X.K):=by intro pins s σ H x y v u Q I rx ry h;obtain⟨d,e,hd,he,sd,se,q⟩:=h;obtain⟨as,ra⟩:=RD.reads I d rx hd;obtain⟨bs,rb⟩:=RD.reads I e ry he;exact eq_dataH ra rb sd se hu ⟨.bl _,H,I,rfl,q⟩
theorem zw(hu:X.A.units+64<cLine):aK X (compareOp .NotEq) (my X.K):=by intro pins s σ H x y v u Q I rx ry h;obtain⟨d,e,hd,he,sd,se,q⟩:=h;obtain⟨as,ra⟩:=RD.reads I d rx hd;obtain⟨bs,rb⟩:=RD.reads I e ry he;exact ne_dataH ra rb sd se hu ⟨.bl _,H,I,rfl,q⟩
end
end L2
namespace L2
open PySem PySem.Spec PyProof.Rows
theorem a8.new{H:Hp}{t:Addr}{o:HO}(ht:H t=none):a8 H (upd H t o):=fun b o' e=>by rw[aO (ck e ht)];exact e
structure Nw(H H':Hp)(p:Addr)(o:HO):Prop where
 no:H p=none
 at':H' p=some o
 same:a8 H H'
 eq:H'=upd H p o
theorem Nw.of{H:Hp}{p:Addr}{o:HO}(h:H p=none):Nw H (upd H p o) p o:=⟨h,cH,.new h,rfl⟩
def kL:List Str:=["len","abs","min","max","range","isinstance","int","bool","str","tuple","list","any","all","sum","zip","enumerate","sorted","reversed","ord","chr","divmod","repr","dict","set"]
def aQ(mg:Str->Option Value):Prop:=∀x∈kL,mg x=none
theorem aQ.at{mg:Str->Option Value}(B:aQ mg)(x:Str)(h:x∈kL:=by decide):mg x=none:=B x h
theorem cA{α:Type}{C:List α->Prop}(h:∀a,C [a]):∀us:List α,us.length=1->C us |[_],_=>h _
theorem eC{α:Type}{C:List α->Prop}(h:∀a b,C [a,b]):∀us:List α,us.length=2->C us |[_,_],_=>h _ _
theorem DZ{α:Type}{C:List α->Prop}(h:∀a b c,C [a,b,c]):∀us:List α,us.length=3->C us |[_,_,_],_=>h _ _ _
def tO(N P:List Str)(sc:Scope):Bool:=decide (sc.kind= .function)&& !sc.isCoroutine&& !sc.isGenerator&&decide N.Nodup&&decide (N.take P.length=P)&&P.all (fun x=>decide (sc.names.lookup x=some .local\/sc.names.lookup x=some .cell))&&sc.names.all fun y=>decide (y.2≠ .free)
theorem bj{N P:List Str}{sc:Scope}(h:tO N P sc=true):aV N P sc:=by unfold tO at h;simp only[bL,oW,lq,bK]at h;obtain⟨⟨⟨⟨⟨⟨h1,h2⟩,h3⟩,h4⟩,h5⟩,h6⟩,h7⟩:=h;exact⟨h1,h2,h3,h4,h5,h6,h7⟩
structure FA(K:EY)(mg:Str->Option Value)(x:Str)(st:Stmt):Prop where ex:∃f fd,mg x=some (.ref f)/\fc K x x st f fd
def ah(P:F0)(w:World)(K:EY)(mg:Str->Option Value)(base:Heap)(x:Str)(k:Nat)(sp:Sp):Prop:=∃f fd ps,eE P w K mg base fe k f fd ps sp/\mg x=some (.ref f)/\PySem.W.keepIn K (.ref f)=true/\Binds K fd ps []
section
variable {P:F0}{w:World}{K:EY}{mg:Str->Option Value}{base:Heap}
theorem Dh{h:Heap}{x:Str}{st:Stmt}{f:Addr}{oc:Value}{od an:Option Addr}{cW:Array (Option Value)}{kV doc pm aj ct:Value}(X:K.In h)(G:h.Ns mainGlobals mg) (a:PySem.W.nsIn K mainGlobals x=some (some (.ref f))) (l:K.lookup f=some ⟨oc,od,.func (PySem.W.fnOf x x (gy st) (eZ st) (aJ st) .none kV doc pm an aj ct),cW⟩) (c:PySem.W.codeIn K aj x=true)(k:PySem.W.keepIn K (.ref f)=true):FA K mg x st:=⟨f,_,oX X G a,D1 l c k⟩
theorem FA.has{x:Str}{st:Stmt}{N ps:List Str}{k:Nat}{sp:Sp}(F:FA K mg x st)(S:aV N ps (aJ st))(len:∀vs H Q E,sp vs H Q E->vs.length=ps.length) (hb:∀(kV doc pm:Value)(an:Option Addr)(aj ct:Value)(us:List Value),us.length=ps.length->bindArgs (PySem.W.fnOf x x (gy st) (eZ st) (aJ st) .none kV doc pm an aj ct) ⟨us,[]⟩=pure (ps.zip us)) (j6:∀(f:Addr)(aj:Value)(A:F2)(outer:List Env)(s:EZ)(H:Hp)(vs:List V)(Q:VK)(E:XK),bB k (A.deeper (envOfC x (aJ st) s.heap.objs.size f aj))->sp vs H Q E->∃t,cP (gz fe P w K mg base N x (aJ st) f aj A outer s H E).iQ (eZ st) t/\t {nx:=fun _ H'=>Q .ay H',rt:=Q} (start N vs) H):ah P w K mg base x (k+1) sp:=by obtain⟨f,fd,hm,F⟩:=F.ex;exact⟨f,fd,ps,F.ok S len fun aj A outer s H vs Q E=>j6 f aj A outer s H vs Q E,hm,F.kp,F.binds hb⟩
end
section
variable {X:Cx}{k:Nat}{x:Str}{p pos:Pos}{e:Expr}{es:List Expr}{t:TA}{sp:Sp}
def pM(sp:Sp)(t:TA):TE:=fun σ H Q=>t σ H fun vs H1=>sp vs H1 Q E0
theorem zj(F:ah X.prog X.w X.K X.mg X.base x k sp)(hr:bB k X.A)(hg:Gl X x)(ha:PA X (e::es) t)(eX:(x==("__debug__":Str))=false:=by decide) (he:starEach (e::es) X.env=(false,eval e X.env)::starEach es X.env:=by rfl)(cM:(backTo pos (starEach es X.env)).any (·.1)=false:=by rfl): PE X (.Call (.Name x p) (e::es) [] pos) (pM sp t):=by
  obtain⟨f,fd,ps,F,hm,hk,hb⟩:=F;have h:=zl (pos:=pos) (p:=p) F hr hg hm hk hb .nil zr ha eX he cM;intro pins s σ H Q I hq;refine h pins s σ H Q I ?_;have e1:(fun(vs:List V) H1=>sp (vs++[]) H1 Q E0)=fun vs H1=>sp vs H1 Q E0:=by funext vs H1;rw[List.append_nil]
  show t σ H fun vs H1=>sp (vs++[]) H1 Q E0;rw[e1];exact hq
theorem pf{j:Nat}(F:ah X.prog X.w X.K X.mg X.base x j sp)(hr:bB k X.A)(ha:PA X (e::es) t)(BX:j<=k:=by decide)(hg:Gl X x:=by rfl)(eX:(x==("__debug__":Str))=false:=by decide)(he:starEach (e::es) X.env=(false,eval e X.env)::starEach es X.env:=by rfl)(cM:(backTo pos (starEach es X.env)).any (·.1)=false:=by rfl):PE X (.Call (.Name x p) (e::es) [] pos) (pM sp t):=zj F (hr.mono BX) hg ha eX he cM
theorem dH:aK X (binaryOp .Mult) (rI (fun i j=>IntMulOk i j) fun i j=>.int (i*j)):=k6 fun _ _ _ _ _ _ _ hc q=>mul_int q hc
theorem zE:aK X (compareOp .Eq) (cK fun i j=>.bl (decide (i=j))):=gY fun _ _ _ _ _ _ _ q=>eq_int (by rw[wJ];exact q)
theorem zv:aK X (compareOp .NotEq) (cK fun i j=>.bl (!decide (i=j))):=gY fun _ _ _ _ _ _ _ q=>ne_int (by rw[bne,wJ];exact q)
theorem zG(hu:X.A.units+64<cLine):aK X (compareOp .Eq) (fun x y H Q=>cK (fun i j=>.bl (decide (i=j))) x y H Q\/mE X.K x y H Q):=zE.or (zF hu)
theorem zx(hu:X.A.units+64<cLine):aK X (compareOp .NotEq) (fun x y H Q=>cK (fun i j=>.bl (!decide (i=j))) x y H Q\/my X.K x y H Q):=zv.or (zw hu)
mutual
theorem eqv_refl:∀d:F1,d.canLay0=true->PyData.eqv d d=true | .none,_=>by simp[PyData.eqv] | .bool b,_=>by simp[PyData.eqv] | .int i,_=>by simp[PyData.eqv] | .str x,_=>by simp[PyData.eqv] | .list ds,h=>by simp only[PyData.eqv];exact eqvAll_refl ds (by simpa[PyData.canLay0]using h) | .tuple ds,h=>by simp only[PyData.eqv];exact eqvAll_refl ds (by simpa[PyData.canLay0]using h) | .dict _,h=>by simp[PyData.canLay0]at h
theorem eqvAll_refl:∀ds:List F1,PyData.canLayAll0 ds=true->PyData.eqvAll ds ds=true |[],_=>by simp[PyData.eqvAll] |d::ds,h=>by simp only[PyData.canLayAll0,bL]at h;simp only[PyData.eqvAll,bL];exact⟨eqv_refl d h.1,eqvAll_refl ds h.2⟩
end
theorem dE{K:EY}{H:Hp}(i:Int):RD K H (.int i) (.int i):=by simp[RD]
theorem aH{K:EY}{H:Hp}(x:Str):RD K H (.str x) (.str x):=by simp[RD]
theorem jW{K:EY}{H:Hp}:RD K H .ay .none:=by simp[RD]
theorem cJ{K:EY}{H:Hp}{p:Addr}{xs:List V}{ds:List F1}(h:af K H p xs)(r:ae K H xs ds):RD K H (.ref p) (.tuple ds):=by rw[RD];exact⟨p,xs,rfl,h,r⟩
theorem cb{K:EY}{H:Hp}:ae K H [] []:=by simp[ae]
theorem bD{K:EY}{H:Hp}{x:V}{xs:List V}{d:F1}{ds:List F1}(h:RD K H x d)(r:ae K H xs ds):ae K H (x::xs) (d::ds):=by rw[ae];exact⟨x,xs,rfl,h,r⟩
inductive uS(t:TS)(D:Ends)(σ:St)(H:Hp):Prop |mk (oM:St->Hp->Prop)(h0:t {D with nx:=oM} σ H)(h1:∀σ' H',oM σ' H'->D.nx σ' H'):uS t D σ H
def xF (t:TS):TS:=fun D σ H=>uS t D σ H
theorem jX{st:Stmt}{t:TS}(h:PS X st t):PS X st (xF t):=by intro pins s σ H D I hq;obtain⟨oM,q,m⟩:=hq;refine ab (h pins s σ H _ I q) fun f s1 q1=>?_;cases f with |next=>obtain⟨σ',H',I',q'⟩:=q1;exact⟨σ',H',I',m _ _ q'⟩ |brk=>exact q1 |cont=>exact q1 |ret u=>exact q1
end
end L2
namespace L2
open PySem PySem.Spec PyProof.Rows
def fD(K:EY)(xs:List Str):Prop:=∀x∈xs,PySem.W.nsIn K mainGlobals x=some none
theorem fD.nil{K:EY}:fD K []:=fun _ h=>nomatch h
theorem fD.cons{K:EY}{x:Str}{xs:List Str}(a:PySem.W.nsIn K mainGlobals x=some none)(r:fD K xs):fD K (x::xs):=fun y hy=>by
 rcases aW.mp hy with e|e
 ·rw[e];exact a
 ·exact r y e
theorem DN{K:EY}{mg:Str->Option Value}{h:Heap}(X:K.In h)(G:h.Ns mainGlobals mg)(a:fD K kL):aQ mg:=fun x hx=>PySem.W.mg_none_of X G (a x hx)
theorem AZ{l:PySem.W.OpenLaw}{q:F0}{loose:List Str}{XP:(Str->Option Value)->Heap->Prop}{YP:World->Heap->Prop}{d:DefRec}{K:Params->EY}{k:Nat}{x:Str}{st:Stmt}(hn:l.most=some 63)(j4:d.params.defaults=[]) (hr:bB k callerA)(hY:∀(w:World)(h:Heap),YP w h->(K w.params).In h)(All:EY->(Str->Option Value)->Prop) (F:∀(w:World)(mg:Str->Option Value)(h:Heap),(K w.params).In h->h.Ns mainGlobals mg->All (K w.params) mg) (L:∀(K:EY)(mg:Str->Option Value),All K mg->FA K mg d.name st) (hb:∀(kV doc pm:Value)(an:Option Addr)(aj ct u:Value),bindArgs (PySem.W.fnOf d.name d.name (gy st) (eZ st) (aJ st) .none kV doc pm an aj ct) ⟨[u],[]⟩=pure [(x,u)]) (ok:∀(P:F0)(w:World)(K:EY)(mg:Str->Option Value)(base:Heap)(f:Addr)(fd:FuncData),All K mg->fc K d.name d.name st f fd->eE P w K mg base fe k f fd [x] (fun vs H Q _=>∃(a:Addr)(ns:List Int),vs=[.ref a]/\aa K H a (ns.map V.int)/\ns.length<=63/\∀H',Q (.bl true) H')): PySem.W.WalkO q loose XP YP l.row.toRowW d [] (fun f vs=>PySem.call f vs):=L2.wX (n:=63) (k:=k) (x:=x) (CX:=fun _=>fe) (sp:=fun w=>fun vs H Q _=>∃(a:Addr)(ns:List Int),vs=[.ref a]/\aa (K w.params) H a (ns.map V.int)/\ns.length<=63/\∀H',Q (.bl true) H') hn (by decide) j4 hr hY (fun w mg fa h KX G iZ=>by
     have A:=F w mg h KX G;obtain⟨f,fd,hm,Fn⟩:=(L _ _ A).ex;have e:fa=f:=by rw[iZ]at hm;injection (bP hm)
     subst e;refine⟨fd,fun s u=>?_,fun base _ _=>ok l.prog w _ mg base fa fd A Fn⟩;obtain⟨oc,od,kV,doc,pm,an,aj,ct,cW,rfl,lk,dr⟩:=Fn.ex;exact .of_eq (hb kV doc pm an aj ct u)) (fun _ _ a ns hl _ hS=>⟨a,ns,rfl,hS,hl,fun _=>rfl⟩) fun _ _ _ _ _ z=>z
theorem oo{env:Env}:∀(ns:List (Str×NameKind))(cs:List (Str×Addr)),(∀x∈ns,x.2= .free->∃c,env.cells.lookup x.1=some c)->(∀x c,cs.lookup x=some c->env.cells.lookup x=some c)->∃cl,(forIn ns cs (fun x r=>if(x.2==NameKind.free)=true then do let a<-cellOf env x.1;pure (ForInStep.yield ((x.1,a)::r))else pure (ForInStep.yield r)):Sem (List (Str×Addr)))=pure cl/\(∀x c,cl.lookup x=some c->env.cells.lookup x=some c)/\(∀x c,cs.lookup x=some c->∃c',cl.lookup x=some c')/\∀x∈ns,x.2= .free->∃c,cl.lookup x.1=some c
  |[],cs,_,h2=>⟨cs,rfl,h2,fun x c e=>⟨c,e⟩,fun _ h=>nomatch h⟩ |(n,k)::r,cs,h1,h2=>by
    by_cases hk:k= .free
    · subst hk
      obtain⟨c,hc⟩:=h1 (n,.free) (.head _) rfl;have e1:cellOf env n=pure c:=by unfold cellOf;rw[show env.cells.lookup n=some c from hc]
      obtain⟨cl,a1,a2,a3,a4⟩:=oo r ((n,c)::cs) (fun x hx=>h1 x (.tail _ hx)) (fun x d e=>by rw[cG]at e;cases z:x==n with |true=>rw[z]at e;cases e;rw[cD.mp z];exact hc |false=>rw[z]at e;exact h2 x d e);refine⟨cl,?_,a2,fun x d e=>?_,fun x hx hf=>?_⟩
      · rw[ph]
        show(do let r'<-(if(NameKind.free==NameKind.free)=true then do let a<-cellOf env n;pure (ForInStep.yield ((n,a)::cs))else pure (ForInStep.yield cs));_)=_;rw[aD (by rfl),e1];exact a1
      · by_cases z:x==n
        ·exact a3 x c (by rw[cG,z])
        ·exact a3 x d (by rw[cG,lu.mpr z];exact e)
      · rcases aW.mp hx with rfl|hx
        ·exact a3 n c (by rw[cG,wj])
        ·exact a4 x hx hf
    · obtain⟨cl,a1,a2,a3,a4⟩:=oo r cs (fun x hx=>h1 x (.tail _ hx)) h2
      refine⟨cl,?_,a2,a3,fun x hx hf=>?_⟩
      · rw[ph]
        show(do let r'<-(if(k==NameKind.free)=true then do let a<-cellOf env n;pure (ForInStep.yield ((n,a)::cs))else pure (ForInStep.yield cs));_)=_;rw[aE (by simpa using hk)];exact a1
      · rcases aW.mp hx with rfl|hx
        ·exact absurd hf hk
        ·exact a4 x hx hf
theorem uj{env:Env}{scope:Scope}(h1:∀x∈scope.names,x.2= .free->∃c,env.cells.lookup x.1=some c): ∃cl,closureFor scope env=pure cl/\(∀x c,cl.lookup x=some c->env.cells.lookup x=some c)/\∀x∈scope.names,x.2= .free->∃c,cl.lookup x.1=some c:=by
  obtain⟨cl,a1,a2,_,a4⟩:=oo (env:=env) scope.names [] h1 (fun x c e=>nomatch e);refine⟨cl,?_,a2,a4⟩;unfold closureFor;show(forIn scope.names ([]:List (Str×Addr)) (fun(x:Str×NameKind) r=>match x with|(name,kind)=>if(kind==NameKind.free)=true then do let a<-cellOf env name;pure (ForInStep.yield ((name,a)::r))else pure (ForInStep.yield r))>>=fun r=>(pure r:Sem (List (Str×Addr))))=pure cl;have ef:(fun(x:Str×NameKind)(r:List (Str×Addr))=>match x with|(name,kind)=>(if(kind==NameKind.free)=true then do let a<-cellOf env name;pure (ForInStep.yield ((name,a)::r))else pure (ForInStep.yield r):Sem (ForInStep (List (Str×Addr))))) =fun x r=>if(x.2==NameKind.free)=true then do let a<-cellOf env x.1;pure (ForInStep.yield ((x.1,a)::r))else pure (ForInStep.yield r):=by funext x r;obtain⟨n,k⟩:=x;rfl
  rw[ef,a1];rfl
theorem sv{env:Env}(hk:env.scope.kind= .function){x:Str}(hx:env.kindOf x=some .cell):∀{names:List (Str×NameKind)},names.lookup x=some .free->(names.map fun(n,k)=>if(k==NameKind.free&&env.scope.kind== .function&&env.kindOf n==some .cell)then(n,NameKind.cell)else(n,k)).lookup x=some .cell |[],h=>nomatch h |(n,k)::r,h=>by have ih:=@sv env hk x hx r;show List.lookup x ((if(k==NameKind.free&&env.scope.kind== .function&&env.kindOf n==some .cell)=true then(n,NameKind.cell)else(n,k))::_)=_;cases z:x==n with |true=>simp only[cG,z]at h;cases h;have e:=cD.mp z;subst e;rw[aD (by rw[hk,hx];rfl),cG,z] |false=>simp only[cG,z]at h;split<;>(simp only[cG,z];exact ih h)
def bp(X:Cx)(N:List Str)(scope:Scope)(cl:List (Str×Addr))(s:EZ)(H:Hp)(fp:List Addr)(pins:List (Addr×Obj)):Cx:={prog:=X.prog,w:=X.w,K:=X.K,mg:=X.mg,base:=X.base,A:=X.A,N:=N,s₀:=s,H₀:=H,env:=compEnvC scope cl s.heap.objs.size X.env,outer:=X.stack,stack:=X.stack,ex:=fp,fn:=fun _=>false,calm:=X.calm,pn:=X.pn++pins,xe:=fun _ _=>False}
def stC(js:List (Option Nat))(σ:St):St:=js.map fun|none=>none|some j=>(σ[j]?).join
def kK(X:Cx)(N:List Str)(js:List (Option Nat))(scope:Scope):Bool:=N.length==js.length&&(N.zip js).all fun p=>match p.2 with|none=>true|some j=>X.N[j]? ==some p.1&&scope.names.lookup p.1==some NameKind.free&&X.env.kindOf p.1==some NameKind.cell
def i8(X:Cx)(scope:Scope):Bool:=scope.kind== .function&&X.env.scope.kind== .function&&scope.names.all fun x=>match x.2 with | .free=>X.env.kindOf x.1==some NameKind.cell | .cell=>false | .local=>scope.names.lookup x.1==some NameKind.local |_=>true
section
variable {X:Cx}{pins:List (Addr×Obj)}{σ:St}{H:Hp}{s:EZ}
theorem lookup_mem{α β:Type}[BEq α][LawfulBEq α]:∀{l:List (α×β)}{x:α}{b:β},l.lookup x=some b->(x,b)∈l |[],_,_,h=>nomatch h |(n,k)::r,x,b,h=>by rw[cG]at h;cases z:x==n with |true=>rw[z]at h;cases h;rw[cD.mp z];exact .head _ |false=>rw[z]at h;exact .tail _ (lookup_mem h)
theorem r8{env:Env}{x:Str}{k:NameKind}:∀{names:List (Str×NameKind)},(names.map fun(n,k)=>if(k==NameKind.free&&env.scope.kind== .function&&env.kindOf n==some .cell)then(n,NameKind.cell)else(n,k)).lookup x=some k->names.lookup x=some k\/(k= .cell/\names.lookup x=some .free) |[],h=>nomatch h |(n,k')::r,h=>by have ih:=@r8 env x k r;have h':List.lookup x ((if(k'==NameKind.free&&env.scope.kind== .function&&env.kindOf n==some .cell)=true then(n,NameKind.cell)else(n,k'))::(r.map fun(n,k)=>if(k==NameKind.free&&env.scope.kind== .function&&env.kindOf n==some .cell)then(n,NameKind.cell)else(n,k)))=some k:=h;cases z:x==n with
    |true=>
      split at h'
      · rename_i hc
        simp only[cG,z]at h';cases h';rw[bL,bL]at hc;have e:k'= .free:=cD.mp hc.1.1;subst e;exact .inr ⟨rfl,by rw[cG,z]⟩
      · simp only[cG,z]at h'
        cases h';exact .inl (by rw[cG,z]) |false=>
      rw[cG,z];refine ih ?_;split at h'
      ·simpa only[cG,z]using h'
      ·simpa only[cG,z]using h'
theorem Inv.comp{N:List Str}{js:List (Option Nat)}{scope:Scope}{cl:List (Str×Addr)}{fp:List Addr}{h':Heap}{tk:Nat}(I:Inv X pins σ H s)(hN:kK X N js scope=true)(hS:i8 X scope=true) (c1:∀x c,cl.lookup x=some c->X.env.cells.lookup x=some c)(c2:∀x∈scope.names,x.2= .free->∃c,cl.lookup x.1=some c)(hf:∀b∈fp,da X pins H b)(Ce:∀b∈fp,b<s.heap.objs.size) (hn:h'.Ns s.heap.objs.size fun _=>none)(hk:∀b o,s.heap.get? b=some o->h'.get? b=some o):Inv (bp X N scope cl s H fp pins) [] (stC js σ) H {s with heap:=h',toks:=tk}:=by
  unfold i8 at hS;rw[bL,bL]at hS;obtain⟨⟨s1,s2⟩,s3⟩:=hS;have eV:scope.kind= .function:=cD.mp s1;have BW:X.env.scope.kind= .function:=cD.mp s2;unfold kK at hN;rw[bL]at hN;obtain⟨n1,n2⟩:=hN;have hlen:N.length=js.length:=cD.mp n1;have sR:∀x k,(relabel scope X.env).names.lookup x=some k->scope.names.lookup x=some k\/(k= .cell/\scope.names.lookup x=some .free):=fun x k e=>r8 e;have Aq:∀x,scope.names.lookup x≠some .cell:=fun x e=>by have:=bK.mp s3 _ (lookup_mem e);exact bF this
  have tN:∀b∈(bp X N scope cl s H fp pins).fs,b∈X.env.locals::X.fs:=I.lF;have ok:(bp X N scope cl s H fp pins).Ok:={
    mod:=I.ok.mod
    kind:=eV
    glob:=I.ok.glob
    blt:=I.ok.blt
    above:=ak _
    inj:=fun x y c e1 e2=>I.ok.inj x y c (c1 x c e1) (c1 y c e2)
    has:=fun x hx=>by
     have fr:scope.names.lookup x=some .free->∃c,cl.lookup x=some c:=fun e=>c2 (x,.free) (lookup_mem e) rfl;rcases hx with e|e
     · rcases sR x _ e with e|⟨_,e⟩
       ·exact absurd e (Aq x)
       ·exact fr e
     · rcases sR x _ e with e|⟨z,_⟩
       ·exact fr e
       ·cases z
    cab:=fun x c e=>nomatch e
    hd:=I.ok.hd
    frames:=I.ok.frames
    stk:=.inl rfl
    exf:=fun b hb=>⟨bw (Ce b hb),fun x c e=>(hf b hb).2.2.2.2.1 x c (c1 x c e)⟩
    bs:=I.bs
    bsz:=cE I.ok.bsz I.sz
    noex:=fun b o e hb=>by
     rcases(hf b hb).2.2.2.1 with z|z
     ·exact I.ok.noex b o e z
     ·exact absurd (c8 (aw e) (cE I.ok.bsz z)) (il _)
    exfs:=fun b hb z=>by
     obtain⟨_,q1,q2,_⟩:=hf b hb;rcases aW.mp (tN b z)with e|e
     ·exact q1 e
     ·exact q2 e
    dv:=I.stack
    frf:=I.pT};refine⟨ok,rfl,I.bare,Un.kept hk,⟨_,hn,fun i x v e1 e2 e3=>?_⟩,fun x c e=>?_,I.hok.fresh (ak _),fun x c e=>I.freeC x c (c1 x c e),fun p hp=>?_,I.hok.kept hk,?_⟩
  · have i7:(js.map fun|none=>none|some j=>(σ[j]?).join)[i]? =some (some v):=e2
    rw[bC]at i7;cases hj:js[i]? with |none=>rw[hj]at i7;cases i7 |some o=>rw[hj]at i7;cases o with |none=>cases i7 |some j=>
        have hz:(N.zip js)[i]? =some (x,some j):=by rw[List.getElem?_zip_eq_some];exact⟨e1,hj⟩
        have uk:=bK.mp n2 _ (cF hz);simp only[bL,cD]at uk;obtain⟨⟨h1,h2⟩,h3⟩:=uk;have kF:(σ[j]?).join=some v:=by simpa using i7
        have hσ:σ[j]? =some (some v):=by cases q:σ[j]? with |none=>rw[q]at kF;cases kF |some o=>
           rw[q]at kF;have:o=some v:=by simpa using kF
           rw[this]
        obtain⟨m,hm,hl⟩:=I.loc;obtain⟨u,r,l⟩:=hl j x v h1 hσ (.inr (.inl h3));refine⟨u,r,?_⟩;rcases l with⟨k,_⟩|⟨_,c,hc,fy⟩
        ·rw[h3]at k;cases k
        · obtain⟨c',cX⟩:=c2 (x,.free) (lookup_mem h2) rfl
          have:=c1 x c' cX;rw[hc]at this;cases this;refine .inr ⟨.inl (sv BW h3 h2),c,cX,?_⟩;obtain⟨ob,ho,hd⟩:=fy;exact⟨ob,hk _ _ ho,hd⟩
  · obtain⟨v,ob,ho,hd⟩:=I.cell x c (c1 x c e)
    exact⟨v,ob,hk _ _ ho,hd⟩
  · have ky:p∈X.pn++pins:=by simpa[bp]using hp
    obtain⟨a1,a2,a3,a4,a5⟩:=I.pin p ky;refine⟨hk _ _ a1,a2,bw (aw a1),fun z=>?_,a5⟩;rcases aW.mp (tN p.1 z)with e|e
    ·exact a3 e
    ·exact a4 e
  · show(js.map _).length=N.length
    rw[aG,hlen]
end
theorem ui{prog:F0}{w:World}{A:F2}{R:Result->EZ->Prop}{s:EZ}{elt target iter:Expr}{ifs:List Expr}{scope:Scope}{pos:Pos}{it acc:Value}{env:Env}(I:Nat->EZ->Prop) (turn:∀n s,I n s->wpAny (model prog w) A (pyNext it) (fun r s₁=>match r with |none=>R (.ok .next) s₁ |some v=>wpAny (model prog w) A (letOwnedTupleGo target it v) (fun _ s₁=>wpAny (model prog w) A (assign target env v) (fun _ s₂=>wpAny (model prog w) A (forIn ifs true fun c r=>if r=true then do let ok<-isTrue c env (eval c env);pure (ForInStep.yield ok)else pure (ForInStep.yield r)) (fun ok s₃=>if ok=true then wpAny (model prog w) A (eval elt env) (fun x s₄=>wpAny (model prog w) A (call (.builtin "list.append") [acc,x]) (fun _ s₅=>∃m,m<n/\I m s₅) (fun _ _=>False) s₄) (fun _ _=>False) s₃ else∃m,m<n/\I m s₃) (fun _ _=>False) s₂) (fun _ _=>False) s₁) (fun _ _=>False) s₁) (fun _ _=>False) s) (n:Nat)(h:I n s):codeAny (model prog w) A (.compLoop (.ListComp elt [⟨target,iter,ifs,0⟩] scope pos) 0 it acc env) R s:=by refine codeAny_loop rfl I (fun n s hI=>?_) n h;show wpAny _ A ((compTurn (.ListComp elt [⟨target,iter,ifs,0⟩] scope pos) 0 it acc env).onRaise (fun x=>do noteFrame x env;theTreesLotGoes x)) _ _ s;refine wpAny_noted ?_;rw[compTurn_list];refine a7 (wpAny_standAt (a7 (ff (turn n s hI) (fun r s₁ h₁=>?_) fun _ _ h'=>h'.elim)));cases r with |none=>exact aA h₁ |some v=>refine a7 (ff h₁ (fun _ En h₁=>?_) fun _ _ h'=>h'.elim);refine a7 (ff h₁ (fun _ s₂ h₂=>a7 (ff h₂ (fun ok s₃ h₃=>?_) fun _ _ h'=>h'.elim)) fun _ _ h'=>h'.elim);cases ok with |false=>exact aA ⟨rfl,h₃⟩ |true=>exact a7 (a7 (ff h₃ (fun x s₄ h₄=>a7 (ff h₄ (fun _ s₅ h₅=>aA (aA ⟨rfl,h₅⟩)) fun _ _ h'=>h'.elim)) fun _ _ h'=>h'.elim))
def oI(X:Cx)(ifs:List Expr)(t:TT):Prop:=∀(pins:List (Addr×Obj))(s:EZ)(σ:St)(H:Hp)(Q:Bool->Hp->Prop),Inv X pins σ H s->t σ H Q->wpAny (model X.prog X.w) X.A (forIn ifs true fun c r=>if r=true then do let ok<-isTrue c X.env (eval c X.env);pure (ForInStep.yield ok)else pure (ForInStep.yield r)) (TP X pins σ Q) X.xe s
def dg:TT:=fun _ H Q=>Q true H
theorem bT{X:Cx}:oI X [] dg:=fun _ _ _ H _ I h=>wpAny_tests_nil ⟨H,I,h⟩
def dR(J:It)(g:TG)(tt:TT)(te:TE)(Q:VK)(D:Addr)(σ:St)(H:Hp):Prop:=∃W:Nat->Nat->St->Hp->Prop,(∃m,W 0 m σ H)/\∀i m σ' H',W i m σ' H'->(J.stop i H'/\Q (.ref D) H')\/(J.go i H'/\∀x H2,J.yld i H' x H2->g x σ' H2 fun σ3 H3=>tt σ3 H3 fun ok H4=>if ok=true then te σ3 H4 fun y H5=>∃ys,H5 D=some (.lst ys)/\ys.length<sizeLine/\∃m',m'<m/\W (i+1) m' σ3 (upd H5 D (.lst (ys++[y]))) else∃m',m'<m/\W (i+1) m' σ3 H4)
def pN(js:List (Option Nat))(wi:TI)(g:TG)(tt:TT)(te:TE):TE:=fun σ H Q=>wi σ H fun J H1=>∀D H2,Nw H1 H2 D (.lst [])->dR J g tt te Q D (stC js σ) H2
theorem br.but{P:F0}{w:World}{H:Hp}{h h':Heap}{C:Addr}(ok:br P w H h)(hn:H C=none)(hs:Heap.SameBut C h h'):br P w H h':=fun b ob e=>by
 refine(ok b ob e).fL (fun c w' hc q=>(hs.2 c ?_).trans q) (fun _ q=>q) fun _ _ q=>q;rintro rfl;rcases hc with rfl|hc
 ·rw[hn]at e;cases e
 ·rw[hn]at hc;cases hc
set_option maxHeartbeats 1000000 in
theorem cf{X:Cx}{N:List Str}{js:List (Option Nat)}{elt tg iter:Expr}{ifs:List Expr}{scope:Scope}{pos:Pos}{wi:TI}{g:TG}{tt:TT}{te:TE}(hc:X.calm=true)(hN:kK X N js scope=true)(hS:i8 X scope=true) (hi:PI X tg iter wi)(hg:∀cl s H fp pins,PG (bp X N scope cl s H fp pins) tg g)(ht:∀cl s H fp pins,oI (bp X N scope cl s H fp pins) ifs tt)(he:∀cl s H fp pins,PE (bp X N scope cl s H fp pins) elt te) (hs:∀x,foldedSetIterable iter X.env x=pure x:=by intro _;rfl):PE X (.ListComp elt [⟨tg,iter,ifs,0⟩] scope pos) (pN js wi g tt te):=by
  intro pins s σ H Q I h;have eY:=hS;unfold i8 at eY;rw[bL,bL]at eY;obtain⟨⟨k1,k2⟩,k3⟩:=eY;have eV:scope.kind= .function:=cD.mp k1;have hV:∀x∈scope.names,x.2= .free->∃c,X.env.cells.lookup x.1=some c:=fun x hx e=>by have:=bK.mp k3 x hx;rw[e]at this;exact I.ok.has x.1 (.inl (cD.mp this))
  have fy:∀x∈scope.names,x.2≠ .cell:=fun x hx e=>by have:=bK.mp k3 x hx;rw[e]at this;exact bF this
  have nN:∀x∈scope.names,x.2= .local->scope.names.lookup x.1=some .local:=fun x hx e=>by have:=bK.mp k3 x hx;rw[e]at this;exact cD.mp this
  obtain⟨cl,nT,c1,c2⟩:=uj hV;rw[eval_ListComp];refine wpAny_comprehension_free (use:=none) rfl hs nT eV nN (ab (hi pins s σ H _ I h) fun v s1 h1=>ab h1 fun kj s2 h2=>?_);obtain⟨it,fp,tn,J,H2,e,I2,T,fN,f2,h2⟩:=h2;subst e;have hD:H2 s2.heap.objs.size=none:=I2.hok.fresh (ak _);obtain⟨W,⟨m0,w0⟩,turn⟩:=h2 _ _ (Nw.of hD);refine fF (wpAny_newFunctionEnv fy (by intro y hy;simp at hy) (fun h₁ iY iX=>?_) eV);have gv:∀b∈fp,b<s2.heap.objs.size:=fun b hb=>by obtain⟨o,e,_⟩:=T.obj _ _ fN b hb;exact aw e
  have I3:Inv X pins σ (upd H2 s2.heap.objs.size (.lst [])) {s2 with heap:=s2.heap.push {cls:=.type "list",dict:=none,data:=.seq ([]:List Value).toArray}}:=I2.sx (its:=[]) (t':=s2.toks) .nil (bI _);generalize j7:s2.heap.push {cls:=.type "list",dict:=none,data:=.seq ([]:List Value).toArray}=h3 at I3 iY iX;have iD:h3.objs.size=s2.heap.objs.size+1:=by rw[<-j7,gI]
  have ny:∀b o,s2.heap.get? b=some o->h3.get? b=some o:=fun b o e=>by rw[<-j7];exact aC _ e
  have f3:∀b∈fp,da X pins (upd H2 s2.heap.objs.size (.lst [])) b:=fun b hb=>⟨by rw[aO (bw (gv b hb))];exact(f2 b hb).1,(f2 b hb).2⟩;have iU:∀b o,h3.get? b=some o->h₁.get? b=some o:=fun b o e=>(iX.2 b (bw (aw e))).trans (aC _ e);have I4:Inv (bp X N scope cl {s2 with heap:=h3} (upd H2 s2.heap.objs.size (.lst [])) fp pins) [] (stC js σ) (upd H2 s2.heap.objs.size (.lst [])) {s2 with heap:=h₁,toks:=s2.toks+([]:List (Str×Value)).length}:=I3.comp (s:={s2 with heap:=h3}) hN hS c1 c2 f3 (fun b hb=>by show b<h3.objs.size;rw[iD];exact p5 (gv b hb)) (by simpa using iY) iU;have iE:tn 0 h₁:=T.keep _ _ _ fN fun b _ o e=>iU b o (ny b o e);have loop:codeAny (model X.prog X.w) X.A (.compLoop (.ListComp elt [⟨tg,iter,ifs,0⟩] scope pos) 0 (.ref it) (.ref s2.heap.objs.size) (compEnvC scope cl h3.objs.size X.env)) (compPost (model X.prog X.w) X.A X.xe none (EP X pins σ Q) (.ref s2.heap.objs.size) h3.objs.size) {s2 with heap:=h₁,toks:=s2.toks+([]:List (Str×Value)).length}:=by
    refine ui (fun n s'=>∃i σ' H',Inv (bp X N scope cl {s2 with heap:=h3} (upd H2 s2.heap.objs.size (.lst [])) fp pins) [] σ' H' s'/\tn i s'.heap/\(∀b∈fp,H' b=none)/\W i n σ' H') ?_ m0 ⟨0,_,_,I4,iE,fun b hb=>(f3 b hb).1,w0⟩;rintro n s5 ⟨i,σ5,H5,I5,eI,gu,w5⟩;have dB:∀{H':Hp},(∀b∈fp,H' b=none)->∀b∈fp,da (bp X N scope cl {s2 with heap:=h3} (upd H2 s2.heap.objs.size (.lst [])) fp pins) [] H' b:=fun{H'} hn b hb=>by
     obtain⟨_,q1,q2,q3,q4,q5⟩:=f3 b hb;refine⟨hn b hb,fun z=>?_,I4.ok.exfs b hb,.inl hb,fun x c e=>q4 x c (c1 x c e),fun p hp=>q5 p (by simpa[bp]using hp)⟩;have aM:b<h3.objs.size:=by rw[iD];exact p5 (gv b hb)
     exact bw aM z
    rcases turn i n σ5 H5 w5 with⟨stop,qn⟩|⟨go,step⟩
    · refine ab (T.done (bp X N scope cl {s2 with heap:=h3} (upd H2 s2.heap.objs.size (.lst [])) fp pins) rfl rfl rfl hc i [] s5 σ5 H5 _ I5 (dB gu) eI stop) fun r s6 ⟨hr,I6⟩=>?_
      subst hr;obtain⟨m,hm,_⟩:=I6.loc;refine⟨m,hm,fun h7 kv=>?_⟩;have u0:Un (cN X.stack) fp (upd H2 s2.heap.objs.size (.lst [])) H5 h3 s6.heap:=I6.base;have ne:∀b o,h3.get? b=some o->b≠h3.objs.size:=fun b o e=>bw (aw e);have u:Un (cN X.stack) fp (upd H2 s2.heap.objs.size (.lst [])) H5 h3 h7:=⟨fun b o e n hb hx=>(kv.2 b (ne b o e)).trans (u0.keep b o e n hb hx),fun b o e n hb hx=>let⟨sl,q⟩:=u0.slot b o e n hb hx;⟨sl,(kv.2 b (ne b o e)).trans q⟩,u0.free,fun b o e hx=>let⟨o',q⟩:=u0.there b o e hx;⟨o',(kv.2 b (ne b o e)).trans q⟩,u0.tups,u0.frzs,u0.tbls⟩;have I7:Inv X pins σ H5 {s6 with heap:=h7}:=I3.uv (s':={s6 with heap:=h7}) (ch:=fp) I6.os u (I6.hok.but I6.free kv) I6.bare fun b hb=>⟨(f3 b hb).2.2.2.1,(f3 b hb).2.1,(f3 b hb).2.2.2.2.1,(f3 b hb).2.2.2.2.2⟩;exact⟨.ref s2.heap.objs.size,H5,I7,rfl,qn⟩
    · refine ab (T.item (bp X N scope cl {s2 with heap:=h3} (upd H2 s2.heap.objs.size (.lst [])) fp pins) rfl rfl rfl hc i [] s5 σ5 H5 _ I5 (dB gu) eI go) fun r s6 ⟨u,hr,h6⟩=>?_
      subst hr;refine ab h6 fun _ s7 ⟨x,H7,I7,r7,y7,fM,o6⟩=>?_;have oO:=I7.pinned (dB o6) (T.obj _ _ fM);refine ab (hg _ _ _ _ _ _ s7 σ5 H7 x u _ oO r7 (step x H7 y7)) fun _ s8 ⟨σ8,H8,I8,q8⟩=>?_;refine ab (ht _ _ _ _ _ _ s8 σ8 H8 _ I8 q8) fun ok s9 ⟨H9,I9,q9⟩=>?_;have again:∀{s':EZ}{σ7:St}{H7:Hp},Inv (bp X N scope cl {s2 with heap:=h3} (upd H2 s2.heap.objs.size (.lst [])) fp pins) ([]++gR fp s7.heap) σ7 H7 s'->(∃m',m'<n/\W (i+1) m' σ7 H7)->∃m,m<n/\∃i σ' H',Inv (bp X N scope cl {s2 with heap:=h3} (upd H2 s2.heap.objs.size (.lst [])) fp pins) [] σ' H' s'/\tn i s'.heap/\(∀b∈fp,H' b=none)/\W i m σ' H':=fun{s' σ7 H7} J7 n7=>by obtain⟨m',hm,w7⟩:=n7;refine⟨m',hm,i+1,σ7,H7,J7.iy,T.keep _ _ _ fM fun b hb o e=>(J7.pin (b,o) (cR _ (cR _ (hU hb e)))).1,fun b hb=>?_,w7⟩;obtain⟨o,e,d⟩:=T.obj _ _ fM b hb;exact(J7.pin (b,o) (cR _ (cR _ (hU hb e)))).2.1
      cases ok with |false=>rw[aE bF]at q9⊢;exact again I9 q9 |true=>rw[aD rfl]at q9⊢;refine ab (he _ _ _ _ _ _ s9 σ8 H9 _ I9 q9) fun yv mj ⟨y,ic,oQ,mF,ys,eh,hz,ir⟩=>?_;refine ab (nh _ mj σ8 ic (.ref s2.heap.objs.size) [y] (.ref s2.heap.objs.size) [yv] (fun _ fE=>∃m',m'<n/\W (i+1) m' σ8 fE) oQ rfl (.cons mF .nil) ⟨_,ys,y,rfl,rfl,eh,hz,ir⟩) fun _ mi ⟨v11,fE,oP,yO,mG⟩=>?_;exact again oP mG
  exact codeAny_compStart_list loop (T.self _ 0 _ _ _ iE loop)
theorem ox:∀{bs:List Bool}{us:List Value},Vals (bs.map V.bl) us->us=bs.map Value.bool |[],_,.nil=>rfl |b::r,_,.cons q t=>by cases(show _=Value.bool b from q);rw[ox t];rfl
section
variable {X:Cx}
theorem DK(hc:X.calm=true):bu X (.builtin "all") (fun xs H Q=>∃(l:Addr)(bs:List Bool),xs=[.ref l]/\aa X.K H l (bs.map V.bl)/\Q (.bl (bs.all id)) H):=by
 intro pins s σ H xs us Q I r h;obtain⟨l,bs,rfl,hl,q⟩:=h;obtain⟨u,rfl,ru⟩:=vals1 r;cases(show u=Value.ref l from ru);obtain⟨its,rv,pl,hz⟩:=I.list hl;have e:=ox rv;subst e;have cu:=pl.isList;have aM:l<s.heap.objs.size:=by obtain⟨_,e,_⟩:=cu;exact aw e
 have hh:=I.ok.hd hc;refine call_all_walk (jl cu ?_);refine⟨s.heap.objs.size,[s.heap.objs.size,l],[s.heap.objs.size],(bs.map Value.bool).toArray.size,_,_,fun i=>(bs[i]?).getD true,rfl,Walks.list (A:=X.A.in1) hh _ l (bw aM) (bs.map Value.bool).toArray,⟨⟨_,bh _ rfl,rfl,rfl⟩,cu.push _⟩,fun i v s' Q' E' hP hQ=>?_,fun h' tk hk=>?_⟩
 · have dP:(bs.map Value.bool)[i]? =some v:=by simpa using hP
   rw[bC]at dP;cases e:bs[i]? with |none=>rw[e]at dP;cases dP |some b=>rw[e]at dP;cases dP;simp only[e,Option.getD_some]at hQ;exact eF hQ
 · have e:((List.range (bs.map Value.bool).toArray.size).all fun i=>(bs[i]?).getD true)=bs.all id:=by rw[bf,aG];exact LSm.range_all bs
   rw[e];exact⟨.bl _,H,I.kept (LSm.kept_iter hk),rfl,q⟩
theorem DJ(hc:X.calm=true):bu X (.builtin "any") (fun xs H Q=>∃(l:Addr)(bs:List Bool),xs=[.ref l]/\aa X.K H l (bs.map V.bl)/\Q (.bl (bs.any id)) H):=by
 intro pins s σ H xs us Q I r h;obtain⟨l,bs,rfl,hl,q⟩:=h;obtain⟨u,rfl,ru⟩:=vals1 r;cases(show u=Value.ref l from ru);obtain⟨its,rv,pl,hz⟩:=I.list hl;have e:=ox rv;subst e;have cu:=pl.isList;have aM:l<s.heap.objs.size:=by obtain⟨_,e,_⟩:=cu;exact aw e
 have hh:=I.ok.hd hc;refine call_any_walk (jl cu ?_);refine⟨s.heap.objs.size,[s.heap.objs.size,l],[s.heap.objs.size],(bs.map Value.bool).toArray.size,_,_,fun i=>(bs[i]?).getD false,rfl,Walks.list (A:=X.A.in1) hh _ l (bw aM) (bs.map Value.bool).toArray,⟨⟨_,bh _ rfl,rfl,rfl⟩,cu.push _⟩,fun i v s' Q' E' hP hQ=>?_,fun h' tk hk=>?_⟩
 · have dP:(bs.map Value.bool)[i]? =some v:=by simpa using hP
   rw[bC]at dP;cases e:bs[i]? with |none=>rw[e]at dP;cases dP |some b=>rw[e]at dP;cases dP;simp only[e,Option.getD_some]at hQ;exact eF hQ
 · have e:((List.range (bs.map Value.bool).toArray.size).any fun i=>(bs[i]?).getD false)=bs.any id:=by rw[bf,aG];exact LSm.range_any bs
   rw[e];exact⟨.bl _,H,I.kept (LSm.kept_iter hk),rfl,q⟩
end
theorem jb{J:It}{g:TG}{tt:TT}{te:TE}{Q:VK}{D:Addr}{σ:St}{H:Hp}(n:Nat)(Pv:Nat->St->Hp->Prop)(h0:Pv 0 σ H) (hs:∀i σ H,i<n->Pv i σ H->J.go i H/\∀x H2,J.yld i H x H2->g x σ H2 fun σ3 H3=>tt σ3 H3 fun ok H4=>if ok=true then te σ3 H4 fun y H5=>∃ys,H5 D=some (.lst ys)/\ys.length<sizeLine/\∃m',m'<n-i/\m'=n-(i+1)/\i+1<=n/\Pv (i+1) σ3 (upd H5 D (.lst (ys++[y]))) else∃m',m'<n-i/\m'=n-(i+1)/\i+1<=n/\Pv (i+1) σ3 H4) (hd:∀σ H,Pv n σ H->J.stop n H/\Q (.ref D) H): dR J g tt te Q D σ H:=by
  refine⟨fun i m σ H=>m=n-i/\i<=n/\Pv i σ H,⟨n,by simp,bI _,h0⟩,?_⟩;rintro i m σ H ⟨rfl,hi,p⟩;by_cases aM:i<n
  ·exact .inr (hs i σ H aM p)
  · have e:i=n:=by omega
    subst e;exact .inl (hd σ H p)
section
variable {X:Cx} {tg:Expr}
theorem Ba(K:EY)(h:X.K=K):f9 X (fun x y H Q=>mB K x y H Q\/mz K x y H Q):=by subst h;exact B9.or B8
inductive vD(K:EY)(x:V)(lo:Option Int)(hi:Option Int)(H:Hp)(Q:VK):Prop |mk (a:_)(xs:_)(h0:x= .ref a)(h1:((aa K H a xs/\∀p H',Nw H H' p (.lst (cx xs lo hi))->Q (.ref p) H')\/ (af K H a xs/\¬(HT.ai xs.length 0 lo=0/\HT.ai xs.length xs.length hi=xs.length)/\∀p H',Nw H H' p (.tup (cx xs lo hi))->Q (.ref p) H'))):vD K x lo hi H Q
def yC(K:EY):V->Option Int->Option Int->Hp->VK->Prop:=fun x lo hi H Q=>vD K x lo hi H Q
theorem y2(K:EY)(h:X.K=K):jg X (yC K):=by
 subst h;intro pins s σ H x v vl vu lo hi sl Q I rx hs pl pu hq;obtain⟨a,xs,e,hq⟩:=hq;rcases hq with⟨h1,k⟩|⟨h1,h2,k⟩
 ·exact xY pins s σ H x v vl vu lo hi sl Q I rx hs pl pu ⟨a,xs,e,h1,fun p hp=>k p _ (.of hp)⟩
 ·exact qs pins s σ H x v vl vu lo hi sl Q I rx hs pl pu ⟨a,xs,e,h1,h2,fun p hp=>k p _ (.of hp)⟩
theorem AY(K:EY)(h:X.K=K):bu X (.builtin "len") (fun xs H Q=>∃p ys,xs=[.ref p]/\(aa K H p ys\/af K H p ys)/\Q (.int ys.length) H):=by subst h;exact DE
theorem Be(K:EY)(h:X.K=K):bu X (.builtin "isinstance") (fun xs H Q=>mD K xs H Q\/mC K xs H Q):=by subst h;exact DG.or DF
theorem cO(K:EY)(h:X.K=K)(hu:X.A.units+64<cLine):aK X (compareOp .Eq) (fun x y H Q=>cK (fun i j=>.bl (decide (i=j))) x y H Q\/mE K x y H Q):=by subst h;exact zG hu
theorem kc(K:EY)(h:X.K=K)(hu:X.A.units+64<cLine):aK X (compareOp .NotEq) (fun x y H Q=>cK (fun i j=>.bl (!decide (i=j))) x y H Q\/my K x y H Q):=by subst h;exact zx hu
theorem je(K:EY)(h:X.K=K)(hc:X.calm=true):bu X (.builtin "all") (fun xs H Q=>∃(l:Addr)(bs:List Bool),xs=[.ref l]/\aa K H l (bs.map V.bl)/\Q (.bl (bs.all id)) H):=by subst h;exact DK hc
theorem DV(K:EY)(h:X.K=K)(hc:X.calm=true):bu X (.builtin "any") (fun xs H Q=>∃(l:Addr)(bs:List Bool),xs=[.ref l]/\aa K H l (bs.map V.bl)/\Q (.bl (bs.any id)) H):=by subst h;exact DJ hc
theorem gK(K:EY)(h:X.K=K):bu X (.type "tuple") (fun xs H Q=>∃p ys,xs=[.ref p]/\((aa K H p ys/\∀l H',Nw H H' l (.tup ys)->Q (.ref l) H')\/(af K H p ys/\Q (.ref p) H))):=by subst h;intro pins s σ H xs us Q I r hq;obtain⟨p,ys,e,h1⟩:=hq;exact DB pins s σ H xs us Q I r ⟨p,ys,e,h1.imp (fun⟨a,k⟩=>⟨a,fun l hl=>k l _ (.of hl)⟩) id⟩
def xp(t:TA):TE:=fun σ H Q=>t σ H fun xs H1=>xs.length<=sizeLine/\∀p H',Nw H1 H' p (.tup xs)->Q (.ref p) H'
def xG(t:TA):TE:=fun σ H Q=>t σ H fun xs H1=>xs.length<=sizeLine/\∀p H',Nw H1 H' p (.lst xs)->Q (.ref p) H'
theorem eL{es:List Expr}{t:TA}{pos:Pos} {x1}(h:PA X es t):PE X (.Tuple es x1 pos) (xp t):=by intro pins s σ H Q I hq;refine wpAny_Tuple_spliced (ab (h pos pins s σ H _ I hq) fun us s1 ⟨xs,H1,I1,r,z,q⟩=>⟨by rw[<-r.length];exact z,?_⟩);have hf:H1 s1.heap.objs.size=none:=I1.hok.fresh (ak _);refine⟨.ref s1.heap.objs.size,upd H1 s1.heap.objs.size (.tup xs),I1.laid (t':=s1.toks) (fun b u e=>aC _ e) (ak _) ?_,rfl,q _ _ (.of hf)⟩;exact⟨z,us,r,⟨_,bh _ rfl,rfl,_,rfl⟩⟩
theorem fX{es:List Expr}{t:TA}{pos:Pos}(h:PA X es t):PE X (.List es pos) (xG t):=by intro pins s σ H Q I hq;refine wpAny_List_spliced (ab (h pos pins s σ H _ I hq) fun us s1 ⟨xs,H1,I1,r,z,q⟩=>⟨by rw[<-r.length];exact z,?_⟩);have hf:H1 s1.heap.objs.size=none:=I1.hok.fresh (ak _);refine⟨.ref s1.heap.objs.size,upd H1 s1.heap.objs.size (.lst xs),I1.laid (t':=s1.toks) (fun b u e=>aC _ e) (ak _) ?_,rfl,q _ _ (.of hf)⟩;exact⟨z,us,0,r,bh _ rfl⟩
theorem rD(K:EY)(h:X.K=K){l:Expr}{tl:TE}(hl:PE X l tl):PI X tg l (sU K tl):=by subst h;exact za hl
theorem fT(K:EY)(h:X.K=K){l:Expr}{tl:TE}(hl:PE X l tl):PI X tg l (sS K tl):=by subst h;exact z9 hl
theorem fV(K:EY)(h:X.K=K){es:List Expr}{k:Nat}{t:eD}{n:Nat}{pos:Pos}(hc:X.calm=true)(hg:jh X es t)(hn:(assignEach es X.env).length=n:=by rfl)(iW:(assignEach es X.env).findIdx? (·.1)=none:=by rfl): PG X (.Tuple es k pos) (o4 K n t):=by subst h;exact zc hc hg hn iW
theorem mL(K:EY)(h:X.K=K){o e:Expr}{to:TE}{t:TA}{apos aq:Pos}(ho:PE X o to)(ha:PA X [e] t) (cw:attributeBase o "append" X.env (eval o X.env)=eval o X.env:=by rfl) (cv:((backTo aq (starEach [e] X.env)).all (fun x=>!x.1)&&(backToKw aq (keywordEach [] X.env)).all (fun x=>x.1.isSome) &&decide ([e].length+([]:List Keyword).length+(if([]:List Keyword).isEmpty then 0 else 1)<30))=true:=by rfl) (cq:(apos.endLine==aq.line)=true:=by rfl)(hs:starEach [e] X.env=(false,eval e X.env)::starEach [] X.env:=by rfl)(cm:(backTo aq (starEach [] X.env)).any (·.1)=false:=by rfl): PE X (.Call (.Attribute o "append" apos) [e] [] aq) (fK K "list" rk to t):=by subst h;exact gW PySem.F.plainAttrs_list PySem.F.slot_list_append PySem.F.type_list_append nh ho ha cw cv cq hs cm
theorem jB{j:Nat}{x:V}{σ:St}{H:Hp}{A B:St->Hp->Prop}(h:A (σ.set j (some x)) H):c5 j x σ H fun σ3 H3=>dg σ3 H3 fun ok H4=>if ok=true then A σ3 H4 else B σ3 H4:=by show if true=true then A (σ.set j (some x)) H else B (σ.set j (some x)) H;rw[aD rfl];exact h
theorem yes{σ:St}{H:Hp}{Q:Bool->Hp->Prop}(h:Q true H):dg σ H Q:=h
end
end L2
namespace L2
open PySem PySem.Spec PyProof.Rows
theorem aa.go{K:EY}{H H':Hp}{a:Addr}{xs:List V}(s:a8 H H')(h:aa K H a xs):aa K H' a xs:=h.imp (fun r=>r.imp (s _ _) fun⟨o,e⟩=>⟨o,s _ _ e⟩) id
theorem af.go{K:EY}{H H':Hp}{a:Addr}{xs:List V}(s:a8 H H')(h:af K H a xs):af K H' a xs:=h.imp (fun r=>r.imp (s _ _) fun⟨o,e⟩=>⟨o,s _ _ e⟩) id
mutual
theorem RD.mono{K:EY}{H H':Hp}(s:a8 H H'):∀{x:V}(d:F1),RD K H x d->RD K H' x d |x,.none,h=>by simpa[RD]using h |x,.bool b,h=>by simpa[RD]using h |x,.int i,h=>by simpa[RD]using h |x,.str y,h=>by simpa[RD]using h |x,.list ds,h=>by rw[RD]at h⊢;obtain⟨a,xs,e,h1,h2⟩:=h;exact⟨a,xs,e,h1.go s,ae.mono s ds h2⟩ |x,.tuple ds,h=>by rw[RD]at h⊢;obtain⟨a,xs,e,h1,h2⟩:=h;exact⟨a,xs,e,h1.go s,ae.mono s ds h2⟩ |x,.dict _,h=>by simp[RD]at h
theorem ae.mono {K:EY}{H H':Hp}(s:a8 H H'):∀{xs:List V}(ds:List F1),ae K H xs ds->ae K H' xs ds |xs,[],h=>by simpa[ae]using h |xs,d::ds,h=>by rw[ae]at h⊢;obtain⟨y,ys,e,h1,h2⟩:=h;exact⟨y,ys,e,RD.mono s d h1,ae.mono s ds h2⟩
end
section
variable {K:EY} {H H':Hp}
theorem ae.nil_inv{xs:List V}(h:ae K H xs []):xs=[]:=by simpa[ae]using h
theorem ae.cons_inv{xs:List V}{d:F1}{ds:List F1}(h:ae K H xs (d::ds)):∃y ys,xs=y::ys/\RD K H y d/\ae K H ys ds:=by rw[ae]at h;exact h
theorem RD.aZ{x:V}{ds:List F1}(h:RD K H x (.tuple ds)):∃a xs,x= .ref a/\af K H a xs/\ae K H xs ds:=by rw[RD]at h;exact h
theorem RD.lst_inv{x:V}{ds:List F1}(h:RD K H x (.list ds)):∃a xs,x= .ref a/\aa K H a xs/\ae K H xs ds:=by rw[RD]at h;exact h
theorem RD.int_inv{x:V}{i:Int}(h:RD K H x (.int i)):x= .int i:=by rw[RD]at h;exact h
theorem RD.uw{x:V}{i:Bool}(h:RD K H x (.bool i)):x= .bl i:=by rw[RD]at h;exact h
theorem RD.str_inv{x:V}{i:Str}(h:RD K H x (.str i)):x= .str i:=by rw[RD]at h;exact h
theorem RD.rV{x:V}(h:RD K H x .none):x= .ay:=by rw[RD]at h;exact h
theorem ae.length:∀{xs:List V}{ds:List F1},ae K H xs ds->xs.length=ds.length |xs,[],h=>by rw[h.nil_inv];rfl |xs,d::ds,h=>by obtain⟨y,ys,rfl,_,h2⟩:=h.cons_inv;rw[fk,fk,ae.length h2]
theorem ae.append:∀{xs ys:List V}{ds es:List F1},ae K H xs ds->ae K H ys es->ae K H (xs++ys) (ds++es) |xs,ys,[],es,h,g=>by rw[h.nil_inv];exact g |xs,ys,d::ds,es,h,g=>by obtain⟨y,zs,rfl,h1,h2⟩:=h.cons_inv;exact bD h1 (ae.append h2 g)
theorem ae.take:∀(n:Nat){xs:List V}{ds:List F1},ae K H xs ds->ae K H (xs.take n) (ds.take n) |0,xs,ds,h=>by rw[List.take_zero,List.take_zero];exact cb |n+1,xs,[],h=>by rw[h.nil_inv];exact cb |n+1,xs,d::ds,h=>by obtain⟨y,zs,rfl,h1,h2⟩:=h.cons_inv;exact bD h1 (ae.take n h2)
theorem ae.get:∀(n:Nat){xs:List V}{ds:List F1}{d:F1},ae K H xs ds->ds[n]? =some d->∃x,xs[n]? =some x/\RD K H x d
  |n,xs,[],d,h,e=>by simp at e |0,xs,d'::ds,d,h,e=>by
    obtain⟨y,zs,rfl,h1,h2⟩:=h.cons_inv;have e':d'=d:=by simpa using e
    subst e';exact⟨y,rfl,h1⟩ |n+1,xs,d'::ds,d,h,e=>by obtain⟨y,zs,rfl,h1,h2⟩:=h.cons_inv;exact ae.get n h2 (by simpa using e)
theorem ae.get'(n:Nat){xs:List V}{ds:List F1}{x:V}(h:ae K H xs ds)(e:xs[n]? =some x):∃d,ds[n]? =some d/\RD K H x d:=by
 have hl:n<ds.length:=by rw[<-h.length];exact(dW.mp e).1
 obtain⟨y,e1,r⟩:=h.get n (dz hl);rw[e]at e1;cases e1;exact⟨_,dz hl,r⟩
def dZ:F1->String | .none=>"NoneType" | .bool _=>"bool" | .int _=>"int" | .str _=>"str" | .list _=>"list" | .tuple _=>"tuple" | .dict _=>"dict"
theorem RD.ty{x:V}:∀{d:F1},RD K H x d->gE K H x (dZ d) | .none,h=>by rw[h.rV];rfl | .bool b,h=>by rw[h.uw];rfl | .int b,h=>by rw[h.int_inv];rfl | .str b,h=>by rw[h.str_inv];rfl | .list ds,h=>by obtain⟨a,xs,rfl,h1,_⟩:=h.lst_inv;exact .inl ⟨rfl,xs,h1⟩ | .tuple ds,h=>by obtain⟨a,xs,rfl,h1,_⟩:=h.aZ;exact .inr ⟨rfl,xs,h1⟩ | .dict _,h=>by simp[RD]at h
structure aN(n:Nat)(d:F1):Prop where
 lay:d.canLay0=true
 dep:d.depth<=n
def c7(n:Nat)(ds:List F1):Prop:=∀d∈ds,aN n d
theorem aN.le{n m:Nat}{d:F1}(h:aN n d)(l:n<=m):aN m d:=⟨h.lay,cE h.dep l⟩
theorem k7{n:Nat}:∀{ds:List F1},c7 n ds↔(PyData.canLayAll0 ds=true/\PyData.depthAll ds<=n)
  |[]=>⟨fun _=>⟨rfl,bI _⟩,fun _ _ h=>nomatch h⟩ |d::ds=>by
    have ih:=k7 (n:=n) (ds:=ds);simp only[PyData.canLayAll0,PyData.depthAll,bL];constructor
    · intro h
      have h1:=h d (.head _);have h2:=ih.mp fun x hx=>h x (.tail _ hx);exact⟨⟨h1.lay,h2.1⟩,Nat.max_le.mpr ⟨h1.dep,h2.2⟩⟩
    · rintro⟨⟨a,b⟩,c⟩ x hx
      have c':=Nat.max_le.mp c;rcases aW.mp hx with rfl|hx
      ·exact⟨a,c'.1⟩
      ·exact ih.mpr ⟨b,c'.2⟩ x hx
theorem c7.tup{n:Nat}{ds:List F1}(h:c7 n ds):aN (n+1) (.tuple ds):=⟨by simpa[PyData.canLay0]using(k7.mp h).1,by simpa[PyData.depth]using(k7.mp h).2⟩
theorem aN.aZ{n:Nat}{ds:List F1}(h:aN (n+1) (.tuple ds)):c7 n ds:=k7.mpr ⟨by simpa[PyData.canLay0]using h.lay,by simpa[PyData.depth]using h.dep⟩
theorem aN.int{n:Nat}(i:Int):aN n (.int i):=⟨rfl,bI _⟩
theorem aN.ay{n:Nat}:aN n .none:=⟨rfl,bI _⟩
theorem c7.nil{n:Nat}:c7 n []:=fun _ h=>nomatch h
theorem c7.cons{n:Nat}{d:F1}{ds:List F1}(h:aN n d)(g:c7 n ds):c7 n (d::ds):=fun x hx=>by
 rcases aW.mp hx with rfl|hx
 ·exact h
 ·exact g x hx
theorem aN.shaped{n:Nat}{d:F1}(h:aN n d)(l:n<=64):SeqAt.shaped d=true:=by unfold SeqAt.shaped;rw[h.lay,de];exact bH (cE h.dep l)
variable {p:Addr}{n m:Nat}{v:V}{vs:List V}{d:F1}{ds es:List F1}
end
section
variable {X:Cx}
end
end L2
namespace HT
open PySem PySem.Spec PyProof.Rows
section
variable {prog:F0}{w:World}{A:F2}{E:Value->EZ->Prop}{s:EZ}
theorem CV{t sl:Addr}{items:Array Value}{vl vu:Value}{lo hi:Option Int}{Q:Value->EZ->Prop}(ht:IsTup s.heap t items)(hs:s.heap.IsSliceOf sl vl vu .none)(pl:IsPart vl lo)(pu:IsPart vu hi) (hw:ai items.size 0 lo=0/\ai items.size items.size hi=items.size)(h:Q (.ref t) s):wpAny (model prog w) A (getItem (.ref t) (.ref sl)) Q E s:=by
  obtain⟨os,gj,hX,gp⟩:=id hs;have nW:s.TypeIs (.ref sl) "slice":=⟨os,gj,hX⟩;unfold getItem
  try with_reducible refine fg ?_
  first|refine a7 (aA ?_)|skip
  refine a7 (wpAny_sequenceKey ht.typeIs (by decide) ?_);refine a7 (jn (name:=Str.ofString "__getitem__") ht.typeIs jr (jm jr ht.typeIs entry_tuple_getitem ?_ (args_tuple_getitem _ _)));show wpAny _ _ (Builtin.Tuple.tupleItemsOf (.ref t)>>=_) _ _ s;refine a7 (tupleItemsOf_ ht ?_);refine a7 (kW nW ?_);rw[aD (by decide)];refine a7 (qr hs pl pu ?_);have Bu:(((ai items.size 0 lo:Nat):Int)==0&&(1:Int)==1&&(ai items.size items.size hi-ai items.size 0 lo)==items.size)=true:=by rw[hw.1,hw.2];simp
  show wpAny _ _ (if(((ai items.size 0 lo:Nat):Int)==0&&(1:Int)==1&&(ai items.size items.size hi-ai items.size 0 lo)==items.size)=true then _ else _) _ _ s;rw[aD Bu];show wpAny _ _ (Builtin.Tuple.tupleIsExact (.ref t)>>=_) _ _ s;refine a7 (m:=Builtin.Tuple.tupleIsExact _) (a7 (kW ht.typeIs (aA ?_)));rw[aD (by decide)]
  wp_walk;exact⟨_,rfl,aA h⟩
end
end HT
namespace L2
open PySem PySem.Spec PyProof.Rows
section
variable {X:Cx}
end
section
variable {X:Cx}
end
end L2
namespace L2
theorem cy{α:Type}{xs:List α}{i:Int}{v:α}(h0:0<=i)(h:xs[i.toNat]? =some v):cz xs i=some v:=by have hl:i.toNat<xs.length:=(dW.mp h).1;unfold cz ee;rw[aD h0,aD (by omega)];exact h
end L2
namespace L2
open PySem PySem.Spec PyProof.Rows
theorem xV(n:Nat)(h:n<=1000):n<=sizeLine:=cE h (by decide)
section
variable {X:Cx}{p pos pos':Pos}{a b e:Expr}{es:List Expr}{ta tb te:TE}{t:TA}{x:Str}
theorem px(K:EY)(ha:PE X a ta)(hb:PE X b tb)(hK:X.K=K:=by rfl)(hp:uI b:=by exact fun _ _=>rfl):PE X (.Subscript a b pos) (iC (fun x y H Q=>mB K x y H Q\/mz K x y H Q) ta tb):=mK (Ba K hK) ha hb hp
theorem cV(K:EY)(B:aQ X.mg)(ha:PA X (e::es) t)(hK:X.K=K:=by rfl)(hg:Gl X "isinstance":=by rfl)(he:starEach (e::es) X.env=(false,eval e X.env)::starEach es X.env:=by rfl)(cM:(backTo pos (starEach es X.env)).any (·.1)=false:=by rfl):PE X (.Call (.Name "isinstance" p) (e::es) [] pos) (jL (fun xs H Q=>mD K xs H Q\/mC K xs H Q) t):=bV (Be K hK) hg (B.at "isinstance") PyProof.Rows.boot_isinstance ha (by decide) (by decide) he cM
theorem dG(K:EY)(B:aQ X.mg)(ha:PA X (e::es) t)(hK:X.K=K:=by rfl)(hg:Gl X "len":=by rfl)(he:starEach (e::es) X.env=(false,eval e X.env)::starEach es X.env:=by rfl)(cM:(backTo pos (starEach es X.env)).any (·.1)=false:=by rfl):PE X (.Call (.Name "len" p) (e::es) [] pos) (jL (fun xs H Q=>∃p ys,xs=[.ref p]/\(aa K H p ys\/af K H p ys)/\Q (.int ys.length) H) t):=bV (AY K hK) hg (B.at "len") PySem.boot_len ha (by decide) (by decide) he cM
theorem pS(i:Nat)(hN:X.N.Nodup)(he:PE X e te)(hi:X.N[i]? =some x:=by rfl)(hx:Loc X.env.scope x:=by first|exact Or.inl rfl|exact Or.inr rfl)(hs:swapsWith e (some (.Name x pos')) pos.line X.env=pure false:=by rfl)(hf:X.fn x=true\/X.env.scope.names.lookup x=some .local:=by first|exact .inl rfl|exact .inr rfl|assumption):PS X (.Assign [.Name x pos'] e pos) (jN te (c5 i)):=yV hN hi hx he hs hf
theorem aL(i:Nat)(hN:X.N.Nodup)(hi:X.N[i]? =some x:=by rfl)(hx:Loc X.env.scope x:=by first|exact Or.inl rfl|exact Or.inr rfl)(hf:X.fn x=true\/X.env.scope.names.lookup x=some .local:=by first|exact .inl rfl|exact .inr rfl|assumption):PG X (.Name x pos) (c5 i):=zd hN hi hx hf
theorem e9 (a:Str):[a].Nodup:=by simp
theorem ke{a b:Str}(h:(a==b)=false):[a,b].Nodup:=by
 have:a≠b:=fun z=>by rw[z,wj]at h;cases h
 simp[this]
theorem cS{n:Nat}(h:Nat.ble n 1000=true):n<=sizeLine:=xV n (Nat.le_of_ble_eq_true h)
end
end L2
namespace L2
open PySem PySem.Spec PyProof.Rows
def GV(mg:Str->Option Value)(x:Str)(v:V):Prop:=∃u,mg x=some u/\RelV v u
def GT(K:EY)(mg:Str->Option Value)(x:Str)(vs:List V):Prop:=∃a,GV mg x (.ref a)/\∀H,af K H a vs
theorem dj{X:Cx}{x:Str}{v:V}{pos:Pos}(hg:Gl X x)(h:GV X.mg x v)(hd:(x==("__debug__":Str))=false:=by decide):PE X (.Name x pos) (tC v):=by obtain⟨u,hm,r⟩:=h;exact zi hg hm r hd
section
variable {K:EY}{mg:Str->Option Value}{h:Heap}
theorem gs{x:Str}{i:Int}{t:Tok}(X:K.In h)(G:h.Ns mainGlobals mg)(a:PySem.W.nsIn K mainGlobals x=some (some (.int i t))):GV mg x (.int i):=⟨_,oX X G a,t,rfl⟩
theorem CU{x:Str}{vs:List V}{b:Addr}{its:Array Value}{n:Nat}{od:Option Addr}{cW:Array (Option Value)}(X:K.In h)(G:h.Ns mainGlobals mg)(a:PySem.W.nsIn K mainGlobals x=some (some (.ref b))) (l:K.lookup b=some ⟨.type "tuple",od,.seq its n,cW⟩)(hz:its.size<=sizeLine)(r:Vals vs its.toList):GT K mg x vs:=⟨b,⟨_,oX X G a,rfl⟩,fun H=>.inr ⟨_,its,n,l,rfl,rfl,hz,r⟩⟩
end
section
variable {X:Cx}
end
theorem uh{J:It}{xs:List V}{bs:List Bool}{te:TE}{Q:VK}{D:Addr}{H H0:Hp}(rest:St)(nw:Nw H H0 D (.lst []))(hl:xs.length=bs.length)(hz:xs.length<=1000) (go:∀i x H2,xs[i]? =some x->a8 H H2->J.go i H2/\∀y H3,J.yld i H2 y H3->H3=H2/\y=x)(stop:∀H2,a8 H H2->J.stop xs.length H2) (hs:∀(i:Nat)(x:V)(b:Bool)(H2:Hp)(Q':VK),xs[i]? =some x->bs[i]? =some b->a8 H H2->(∀H3,a8 H2 H3->Q' (.bl b) H3)->te (some x::rest) H2 Q') (hq:∀H',a8 H H'->H' D=some (.lst (bs.map V.bl))->Q (.ref D) H'):dR J (c5 0) dg te Q D (none::rest) H0:=by
  have hD:=nw.no;refine jb xs.length (fun i σ H2=>a8 H H2/\H2 D=some (.lst ((bs.take i).map V.bl))/\∃v,σ=v::rest) ?_ ?_ ?_
  ·exact⟨nw.same,nw.at',none,rfl⟩
  · rintro i σ H2 hi ⟨s2,d2,v,rfl⟩
    have kz:i<bs.length:=by rw[<-hl];exact hi
    have ex:=dz hi;have eb:=dz kz;obtain⟨g1,g2⟩:=go i _ H2 ex s2;refine⟨g1,fun y H3 hy=>?_⟩;obtain⟨rfl,rfl⟩:=g2 y H3 hy;refine jB ?_;refine hs i _ _ _ _ ex eb s2 fun H4 s4=>?_;refine⟨_,s4 _ _ d2,?_,xs.length-(i+1),by omega,rfl,by omega,fun b o e=>?_,?_,_,rfl⟩
    · rw[aG,iq]
      have:(1000:Nat)<sizeLine:=by decide
      omega
    ·rw[aO (ck e hD)];exact s4 b o (s2 b o e)
    ·rw[cH,p6,eb,fj];rfl
  · rintro σ H2 ⟨s2,d2,v,rfl⟩
    refine⟨stop H2 s2,hq H2 s2 ?_⟩;rw[d2,hl,p7]
theorem oj{K:EY}{a:Addr}{xs:List V}{bs:List Bool}{te:TE}{Q:VK}{D:Addr}{H H0:Hp}(rest:St)(hx:af K H a xs)(nw:Nw H H0 D (.lst []))(hl:xs.length=bs.length)(hz:xs.length<=1000) (hs:∀(i:Nat)(x:V)(b:Bool)(H2:Hp)(Q':VK),xs[i]? =some x->bs[i]? =some b->a8 H H2->(∀H3,a8 H2 H3->Q' (.bl b) H3)->te (some x::rest) H2 Q') (hq:∀H',a8 H H'->H' D=some (.lst (bs.map V.bl))->Q (.ref D) H'):dR (kR K a) (c5 0) dg te Q D (none::rest) H0:=uh rest nw hl hz (fun i x H2 e s=>⟨⟨xs,x,hx.go s,e⟩,fun y H3 ⟨e3,y3⟩=>⟨e3,by have:=y3 _ (hx.go s);rw[e]at this;exact(bP this).symm⟩⟩) (fun H2 s=>⟨xs,hx.go s,ak _⟩) hs hq
theorem sm{ds:List F1}{f:F1->Bool}{i:Nat}{b:Bool}(h:(ds.map f)[i]? =some b):∃d,ds[i]? =some d/\f d=b:=by rw[bC]at h;cases e:ds[i]? with |none=>rw[e]at h;cases h |some d=>rw[e]at h;exact⟨d,rfl,bP h⟩
theorem all_map{ds:List F1}{f:F1->Bool}:(ds.map f).all id=ds.all f:=by rw[List.all_map];rfl
section
variable {X:Cx}
open Classical in
noncomputable def gx(h:Heap)(d:F1)(w:Value):Bool:=if q:∃e as,Reads h w e as then PyData.eqv q.choose d else false
theorem Dj{h:Heap}{d e:F1}{w:Value}{as:List Addr}(r:Reads h w e as):gx h d w=PyData.eqv e d:=by have q:∃e as,Reads h w e as:=⟨e,as,r⟩;unfold gx;rw[dif_pos q];obtain⟨ET,r'⟩:=q.choose_spec;rw[(Reads.unique r' e as r).1]
theorem tT{pins:List (Addr×Obj)}{s:EZ}{σ:St}{H:Hp}(I:Inv X pins σ H s)(hu:X.A.units+65<cLine){x:V}{u:Value}{d:F1}(rx:RelV x u)(hd:RD X.K H x d)(sd:SeqAt.shaped d=true): ∀{xs:List V}{us:List Value}{ds:List F1},Vals xs us->ae X.K H xs ds->(∀e∈ds,SeqAt.shaped e=true)->(∀w∈us,SeqAt.EqAt X.A.in1 s w u (gx s.heap d w))/\us.any (gx s.heap d)=ds.any fun e=>PyData.eqv e d |xs,us,[],rv,h,_=>by cases h.nil_inv;cases rv;exact⟨fun _ h=>(dw h).elim,rfl⟩ |xs,us,e::ds,rv,h,se=>by obtain⟨y,ys,rfl,h1,h2⟩:=h.cons_inv;cases rv with |cons ra rb=>
      rename_i w ws;obtain⟨as,q1⟩:=RD.reads I e ra h1;obtain⟨bs,q2⟩:=RD.reads I d rx hd;have key:SeqAt.EqAt X.A.in1 s w u (PyData.eqv e d):=SeqAt.eqAt_reads e d X.A.in1 s w u as bs q1 q2 (SeqAt.canLay_of_shaped (se e (.head _))) (SeqAt.canLay_of_shaped sd) (SeqAt.room_of_shaped (se e (.head _)) (by show X.A.units+1+64<cLine;omega));obtain⟨k1,k2⟩:=tT I hu rx hd sd rb h2 (fun e' he=>se e' (.tail _ he));have ew:gx s.heap d w=PyData.eqv e d:=Dj q1;refine⟨fun z hz=>?_,?_⟩
      · rcases aW.mp hz with rfl|hz
        ·rw[ew];exact key
        ·exact k1 z hz
      ·rw[l9,l9,ew,k2]
end
end L2
namespace L2
theorem bB.wZ{k:Nat}{A:PySem.Around}(r:bB k A):A.units+65<PySem.cLine:=by have:=r.un;omega
end L2
namespace L2
open PySem PySem.Spec PyProof.Rows
def cB(b:Bool)(h:Heap)(it l:Addr)(k:Nat):Prop:=match b with|true=>h.IsListIter it l k|false=>h.IsTupleIter it l k
def bG(b:Bool)(h:Heap)(l:Addr)(xs:Array Value):Prop:=match b with|true=>h.IsList l xs|false=>h.IsTuple l xs
def fC(b:Bool):String:=match b with|true=>"list_iterator"|false=>"tuple_iterator"
theorem cB.to{b:Bool}{h g:Heap}{it l:Addr}{k:Nat}(x:cB b h it l k)(e:∀o,h.get? it=some o->g.get? it=some o):cB b g it l k:=by cases b<;>(obtain⟨o,ho,r⟩:=x;exact⟨o,e o ho,r⟩)
theorem bG.to{b:Bool}{h g:Heap}{l:Addr}{xs:Array Value}(x:bG b h l xs)(e:∀o,h.get? l=some o->g.get? l=some o):bG b g l xs:=by cases b<;>(obtain⟨o,ho,r⟩:=x;exact⟨o,e o ho,r⟩)
theorem cB.ob{b:Bool}{h:Heap}{it l:Addr}{k:Nat}(x:cB b h it l k):∃o,h.get? it=some o/\o.cls= .type (fC b)/\∀v,o.data≠ .cell v:=by cases b<;>(obtain⟨o,ho,c,d⟩:=x;exact⟨o,ho,c,fun v z=>by rw[d]at z;cases z⟩)
section
variable {prog:F0}{w:World}{A:F2}{E:Value->EZ->Prop}{s:EZ}
theorem hJ{b:Bool}{l:Addr}{xs:Array Value}{Q:Value->EZ->Prop}(x:bG b s.heap l xs) (q:Q (.ref s.heap.objs.size) {s with heap:=s.heap.push {cls:=.type (fC b),data:=.fields #[.ref l,.int 0 0]}}):wpAny (model prog w) A (pyIter (.ref l)) Q E s:=by
  cases b
  ·exact wpAny_pyIter_tuple x q
  ·exact jl x q
theorem Ai{it t:Addr}{k:Nat}{ts:Array Value}{x:Value}{Q:Value->EZ->Prop}(hi:s.heap.IsTupleIter it t k)(ht:s.heap.IsTuple t ts)(hx:ts[k]? =some x) (q:∀g,g.IsTupleIter it t (k+1)->Heap.SameBut it s.heap g->Q x {s with heap:=g}):wpAny (model prog w) A (Builtin.SmallTypes.nextOf (.ref it)) Q E s:=by obtain⟨oi,cn,ci,di⟩:=id hi;obtain⟨ot,nK,_,nt,dt⟩:=ht;unfold Builtin.SmallTypes.nextOf;refine a7 (jn (name:=Str.ofString "__next__") hi.typeIs oZ (jm oZ hi.typeIs Ei ?_ (Ej _)));show wpAny _ _ (field (.ref it) 0>>=_) _ _ s;refine a7 (dc cn di (x:=.ref t) rfl ?_);show wpAny _ _ (if(Value.ref t==Value.none)=true then _ else _) _ _ s;rw[aE (show¬((Value.ref t==Value.none)=true)from bF)];show wpAny _ _ (field (.ref it) 1>>=_) _ _ s;refine a7 (dc cn di (x:=.int k 0) rfl ?_);show wpAny _ _ (seqItems? (.ref t)>>=_) _ _ s;refine a7 (gG nK dt ?_);simp only[Int.toNat_natCast,hx];refine a7 (wpAny_setField cn di (by simp) (aA ⟨x,rfl,aA (q _ ?_ (Heap.SameBut.update ..))⟩));exact⟨_,Heap.get?_update_self _ cn (Obj.isFreed_of_fields (Obj.data_mapFields di _)),(Obj.cls_mapFields ..).trans ci,by rw[Obj.data_mapFields di];simp[rawInt]⟩
theorem Dl{it t:Addr}{k:Nat}{ts:Array Value}{Q:Value->EZ->Prop}(hh:A.handled=none)(hi:s.heap.IsTupleIter it t k)(ht:s.heap.IsTuple t ts)(hx:ts[k]? =none) (q:∀g e,Heap.ExtBut it s.heap g->(∃o,g.get? e=some o/\o.cls= .type "StopIteration")->E (.ref e) {s with heap:=g}):wpAny (model prog w) A (Builtin.SmallTypes.nextOf (.ref it)) Q E s:=by
  obtain⟨oi,cn,ci,di⟩:=id hi;obtain⟨ot,nK,_,nt,dt⟩:=ht;unfold Builtin.SmallTypes.nextOf;refine a7 (jn (name:=Str.ofString "__next__") hi.typeIs oZ (jm oZ hi.typeIs Ei ?_ (Ej _)));show wpAny _ _ (field (.ref it) 0>>=_) _ _ s;refine a7 (dc cn di (x:=.ref t) rfl ?_);show wpAny _ _ (if(Value.ref t==Value.none)=true then _ else _) _ _ s;rw[aE (show¬((Value.ref t==Value.none)=true)from bF)];show wpAny _ _ (field (.ref it) 1>>=_) _ _ s;refine a7 (dc cn di (x:=.int k 0) rfl ?_);show wpAny _ _ (seqItems? (.ref t)>>=_) _ _ s;refine a7 (gG nK dt ?_);simp only[Int.toNat_natCast,hx];refine a7 (wpAny_rule (a7 (wpAny_setField cn di (by simp) ?_)));show wpAny _ _ (newExc (.type "StopIteration") []>>=_) _ _ _;refine a7 ?_;simp only[newExc,newTuple];refine a7 (fF ?_ (by size_fits));refine a7 (m:=firstArgMember _ _) (wpAny_of_eq (a:=Value.none) (by first|rfl|(simp only[firstArgMember];rfl)) ?_);refine fF ?_ (by size_fits);simp only[raiseNew];refine a7 (wpAny_handled ?_)
  first|rw[show A.in1.handled=none from hh]|rw[hh]
  exact a7 (aA (wpAny_throw (q _ _ (((Heap.SameBut.update ..).extBut.push _).push _) ⟨_,bh _ rfl,rfl⟩)))
theorem k9{b:Bool}{it l:Addr}{k:Nat}{xs:Array Value}{x:Value}{Q:Value->EZ->Prop}(hi:cB b s.heap it l k)(hl:bG b s.heap l xs)(hx:xs[k]? =some x) (q:∀g,cB b g it l (k+1)->Heap.SameBut it s.heap g->Q x {s with heap:=g}):wpAny (model prog w) A (Builtin.SmallTypes.nextOf (.ref it)) Q E s:=by
  cases b
  ·exact Ai hi hl hx q
  ·exact wpAny_nextOf_list_item hi hl hx q
theorem o9{b:Bool}{it l:Addr}{k:Nat}{xs:Array Value}{Q:Value->EZ->Prop}(hh:A.handled=none)(hi:cB b s.heap it l k)(hl:bG b s.heap l xs)(hx:xs[k]? =none) (q:∀g e,Heap.ExtBut it s.heap g->(∃o,g.get? e=some o/\o.cls= .type "StopIteration")->E (.ref e) {s with heap:=g}):wpAny (model prog w) A (Builtin.SmallTypes.nextOf (.ref it)) Q E s:=by
  cases b
  ·exact Dl hh hi hl hx q
  ·exact wpAny_nextOf_list_end hh hi hl hx q
structure Zp(b1 b2:Bool)(h:Heap)(z TI TO i1 i2 l1 l2:Addr)(f0:Value)(k:Nat):Prop where
 zz:IsZip h z TI TO f0
 ti:IsPair h TI (.ref i1) (.ref i2)
 to:∃a b,IsPair h TO a b
 n1:cB b1 h i1 l1 k
 n2:cB b2 h i2 l2 k
theorem rK{z TI TO:Addr}{Q:Bool->EZ->Prop}(hz:IsZip s.heap z TI TO .none)(q:Q true s):wpAny (model prog w) A (Builtin.SmallTypes.ownedTupleIsFree (.ref z)) Q E s:=by unfold Builtin.SmallTypes.ownedTupleIsFree;exact a7 (dc hz rfl (x:=.none) rfl (aA q))
theorem wO{b1 b2:Bool}{z TI TO i1 i2 l1 l2:Addr}{k:Nat}{xs ys:Array Value}{x y:Value}{Q:Value->EZ->Prop}(D:ZipApart z TI TO i1 i2 l1 l2)(Z:Zp b1 b2 s.heap z TI TO i1 i2 l1 l2 .none k) (dM:bG b1 s.heap l1 xs)(eU:bG b2 s.heap l2 ys)(hx:xs[k]? =some x)(hy:ys[k]? =some y) (q:∀g,Zp b1 b2 g z TI TO i1 i2 l1 l2 (rawInt s.heap.objs.size) (k+1)->IsPair g s.heap.objs.size x y->(∀c o,c≠z->c≠TO->c≠i1->c≠i2->s.heap.get? c=some o->g.get? c=some o)->Q (.ref s.heap.objs.size) {s with heap:=g}): wpAny (model prog w) A (Builtin.«zip.__next__» ⟨[.ref z],[]⟩) (fun r s'=>∃v,r= .done (.ret v)/\Q v s') E s:=by
  obtain⟨hz,du,⟨a,b,dN⟩,h1,h2⟩:=Z;show wpAny _ _ (field (.ref z) 2>>=_) _ _ _;refine a7 (dc hz rfl (x:=.bool false) rfl ?_);show wpAny _ _ (field (.ref z) 3>>=_) _ _ _;refine a7 (dc hz rfl (x:=.ref TI) rfl (a7 (gG du rfl ?_)));show wpAny _ _ (Builtin.SmallTypes.ownedTupleIsFree (.ref z)>>=_) _ _ _;refine a7 (rK hz ?_);simp only[if_true];refine a7 (wpAny_rule (a7 (dc hz rfl (x:=.ref TO) rfl (a7 (jk hz (by simp) fun g1 z1 e1=>?_)))));replace z1:IsZip g1 z TI TO .ellipsis:=z1;refine a7 ?_;simp only[List.zipIdx_cons,List.zipIdx_nil,ph,List.forIn_nil];refine a7 (a7 (wpAny_onRaise ?_));show wpAny _ _ (Builtin.SmallTypes.nextOf (.ref i1)>>=_) _ _ _;refine a7 (k9 (h1.to fun o e=>e1.extBut _ _ D.i1z e) (dM.to fun o e=>e1.extBut _ _ D.l1z e) hx fun g2 n1 e2=>aA ?_);have t2:IsPair g2 TO a b:=e2.extBut _ _ D.TOi1 (e1.extBut _ _ D.TOz dN);refine a7 (gG t2 rfl (a7 (we t2 fun g3 t3 e3=>?_)));replace t3:IsPair g3 TO x b:=t3;refine a7 (wpAny_letGo (aA ?_));refine a7 (a7 (wpAny_onRaise ?_));show wpAny _ _ (Builtin.SmallTypes.nextOf (.ref i2)>>=_) _ _ _;refine a7 (k9 (h2.to fun o e=>e3.extBut _ _ D.TOi2.symm (e2.extBut _ _ D.i12.symm (e1.extBut _ _ D.i2z e))) (eU.to fun o e=>e3.extBut _ _ D.l2TO (e2.extBut _ _ D.l2i1 (e1.extBut _ _ D.l2z e))) hy fun g4 n2 e4=>aA ?_);have t4:IsPair g4 TO x b:=e4.extBut _ _ D.TOi2 t3;refine a7 (gG t4 rfl (a7 (we t4 fun g5 t5 e5=>?_)));replace t5:IsPair g5 TO x y:=t5;refine a7 (wpAny_letGo (aA (aA ?_)));refine a7 (gG t5 rfl (a7 (wpAny_newTuple ?_)));have sz:g5.objs.size=s.heap.objs.size:=by rw[e5.1,e4.1,e3.1,e2.1,e1.1]
  have z5:IsZip g5 z TI TO .ellipsis:=e5.extBut _ _ D.TOz.symm (e4.extBut _ _ D.i2z.symm (e3.extBut _ _ D.TOz.symm (e2.extBut _ _ D.i1z.symm z1)));have kp:∀c o,c≠z->c≠TO->c≠i1->c≠i2->s.heap.get? c=some o->g5.get? c=some o:=fun c o c1 c2 c3 c4 e=>e5.extBut _ _ c2 (e4.extBut _ _ c4 (e3.extBut _ _ c2 (e2.extBut _ _ c3 (e1.extBut _ _ c1 e))));have m1:cB b1 g5 i1 l1 (k+1):=n1.to fun o e=>e5.extBut _ _ D.TOi1.symm (e4.extBut _ _ D.i12 (e3.extBut _ _ D.TOi1.symm e));have m2:cB b2 g5 i2 l2 (k+1):=n2.to fun o e=>e5.extBut _ _ D.TOi2.symm e;have lA:z<g5.objs.size:=aw z5;show wpAny _ _ (Builtin.SmallTypes.ownedTupleHandOut (.ref z) (.ref g5.objs.size)>>=_) _ _ _;refine a7 ?_;unfold Builtin.SmallTypes.ownedTupleHandOut;have z6:IsZip (g5.push {cls:=.type "tuple",data:=.seq #[x,y]}) z TI TO .ellipsis:=aC _ z5;refine a7 (jk z6 (by simp) fun g7 z7 e7=>?_);replace z7:IsZip g7 z TI TO (rawInt g5.objs.size):=z7;refine jk z7 (by simp) fun g8 z8 e8=>?_;replace z8:IsZip g8 z TI TO (rawInt g5.objs.size):=z8;have up:∀c o,c≠z->g5.get? c=some o->g8.get? c=some o:=fun c o c1 e=>e8.extBut _ _ c1 (e7.extBut _ _ c1 (aC _ e));have t8:IsPair g8 g5.objs.size x y:=e8.extBut _ _ (ju lA) (e7.extBut _ _ (ju lA) (bh _ rfl));rw[sz]at z8 t8;refine aA ⟨_,rfl,?_⟩;show Q (.ref g5.objs.size) _;rw[sz];exact q g8 ⟨z8,up _ _ D.TIz (kp _ _ D.TIz D.TITO D.TIi1 D.TIi2 du),⟨_,_,up _ _ D.TOz t5⟩,m1.to fun o e=>up _ o D.i1z e,m2.to fun o e=>up _ o D.i2z e⟩ t8 fun c o c1 c2 c3 c4 e=>up c o c1 (kp c o c1 c2 c3 c4 e)
theorem wQ{b1 b2:Bool}{z TI TO i1 i2 l1 l2:Addr}{k:Nat}{xs ys:Array Value}{Q:Fin->EZ->Prop}(hh:A.handled=none)(D:ZipApart z TI TO i1 i2 l1 l2)(Z:Zp b1 b2 s.heap z TI TO i1 i2 l1 l2 .none k) (dM:bG b1 s.heap l1 xs)(eU:bG b2 s.heap l2 ys)(j3:xs[k]? =none\/ys[k]? =none) (q:∀g e,(∀c o,c≠z->c≠TO->c≠i1->c≠i2->s.heap.get? c=some o->g.get? c=some o)->(∃o,g.get? e=some o/\o.cls= .type "StopIteration")->E (.ref e) {s with heap:=g}): wpAny (model prog w) A (Builtin.«zip.__next__» ⟨[.ref z],[]⟩) Q E s:=by obtain⟨hz,du,⟨a,b,dN⟩,h1,h2⟩:=Z;show wpAny _ _ (field (.ref z) 2>>=_) _ _ _;refine a7 (dc hz rfl (x:=.bool false) rfl ?_);show wpAny _ _ (field (.ref z) 3>>=_) _ _ _;refine a7 (dc hz rfl (x:=.ref TI) rfl (a7 (gG du rfl ?_)));show wpAny _ _ (Builtin.SmallTypes.ownedTupleIsFree (.ref z)>>=_) _ _ _;refine a7 (rK hz ?_);simp only[if_true];refine a7 (wpAny_rule (a7 (dc hz rfl (x:=.ref TO) rfl (a7 (jk hz (by simp) fun g1 z1 e1=>?_)))));replace z1:IsZip g1 z TI TO .ellipsis:=z1;refine a7 ?_;simp only[List.zipIdx_cons,List.zipIdx_nil,ph,List.forIn_nil];refine a7 (a7 (wpAny_onRaise ?_));show wpAny _ _ (Builtin.SmallTypes.nextOf (.ref i1)>>=_) _ _ _;have j1:=h1.to fun o e=>e1.extBut _ _ D.i1z e;have k1:=dM.to fun o e=>e1.extBut _ _ D.l1z e;cases hx:xs[k]? with
  |none=>
    refine a7 (o9 hh j1 k1 hx fun g2 er e2 ⟨oe,gk,j5⟩=>?_);have z2:IsZip g2 z TI TO .ellipsis:=e2 _ _ D.i1z.symm z1;have nz:er≠z:=fun v=>by subst v;rw[z2]at gk;cases gk;simp at j5
    refine jk z2 (by simp) fun g3 _ e3=>q g3 er (fun c o c1 _ c3 _ v=>e3.extBut _ _ c1 (e2 _ _ c3 (e1.extBut _ _ c1 v))) ⟨oe,e3.extBut _ _ nz gk,j5⟩ |some x=>
    have hy:ys[k]? =none:=by rcases j3 with h|h;rw[hx]at h;cases h;exact h
    refine a7 (k9 j1 k1 hx fun g2 n1 e2=>aA ?_);have t2:IsPair g2 TO a b:=e2.extBut _ _ D.TOi1 (e1.extBut _ _ D.TOz dN);refine a7 (gG t2 rfl (a7 (we t2 fun g3 t3 e3=>?_)));refine a7 (wpAny_letGo (aA ?_));refine a7 (a7 (wpAny_onRaise ?_));show wpAny _ _ (Builtin.SmallTypes.nextOf (.ref i2)>>=_) _ _ _;refine a7 (o9 hh (h2.to fun o e=>e3.extBut _ _ D.TOi2.symm (e2.extBut _ _ D.i12.symm (e1.extBut _ _ D.i2z e))) (eU.to fun o e=>e3.extBut _ _ D.l2TO (e2.extBut _ _ D.l2i1 (e1.extBut _ _ D.l2z e))) hy fun g4 er e4 ⟨oe,gk,j5⟩=>?_);have z4:IsZip g4 z TI TO .ellipsis:=e4 _ _ D.i2z.symm (e3.extBut _ _ D.TOz.symm (e2.extBut _ _ D.i1z.symm z1));have nz:er≠z:=fun v=>by subst v;rw[z4]at gk;cases gk;simp at j5
    refine jk z4 (by simp) fun g5 _ e5=>q g5 er (fun c o c1 c2 c3 c4 v=>e5.extBut _ _ c1 (e4 _ _ c4 (e3.extBut _ _ c2 (e2.extBut _ _ c3 (e1.extBut _ _ c1 v))))) ⟨oe,e5.extBut _ _ nz gk,j5⟩
abbrev jA(b1:Bool)(h:Heap)(l1:Addr):Heap:=h.push {cls:=.type (fC b1),data:=.fields #[.ref l1,.int 0 0]}
abbrev jz(b1 b2:Bool)(h:Heap)(l1 l2:Addr):Heap:=(jA b1 h l1).push {cls:=.type (fC b2),data:=.fields #[.ref l2,.int 0 0]}
abbrev jy(b1 b2:Bool)(h:Heap)(l1 l2:Addr):Heap:=(jz b1 b2 h l1 l2).push {cls:=.type "tuple",data:=.seq #[.ref h.objs.size,.ref (jA b1 h l1).objs.size]}
abbrev jx(b1 b2:Bool)(h:Heap)(l1 l2:Addr):Heap:=(jy b1 b2 h l1 l2).push {cls:=.type "tuple",data:=.seq #[.none,.none]}
abbrev gJ(b1 b2:Bool)(h:Heap)(l1 l2:Addr):Heap:=(jx b1 b2 h l1 l2).push {cls:=.type "zip",data:=.fields #[.none,.bool false,.bool false,.ref (jz b1 b2 h l1 l2).objs.size,.ref (jy b1 b2 h l1 l2).objs.size]}
theorem wN(b1 b2:Bool)(l1 l2:Addr)(xs ys:Array Value):Meets (Builtin.«zip.__new__» ⟨[.type "zip",.ref l1,.ref l2],[]⟩) (fun _ R s=>bG b1 s.heap l1 xs/\bG b2 s.heap l2 ys/\R (.ok (.ret (.ref (jx b1 b2 s.heap l1 l2).objs.size))) {s with heap:=gJ b1 b2 s.heap l1 l2}):=.of_wp fun prog w A R s h=>by
   obtain⟨hp,gg,d,tk,os⟩:=s;obtain⟨dM,eU,h⟩:=h;have Bz:=sub_zip;have CP:bG b1 (Shared.heap ⟨hp,gg,d,tk,os⟩) l1 xs:=dM;have CO:bG b2 (Shared.heap ⟨hp.push {cls:=.type (fC b1),data:=.fields #[.ref l1,.int 0 0]},gg,d,tk,os⟩) l2 ys:=eU.to fun o e=>aC _ e
   wp_walk using hJ CP,hJ CO;exact⟨_,rfl,h⟩
theorem wR{b1 b2:Bool}{l1 l2:Addr}{xs ys:Array Value}{Q:Value->EZ->Prop}(dM:bG b1 s.heap l1 xs)(eU:bG b2 s.heap l2 ys) (q:∀g,Zp b1 b2 g (s.heap.objs.size+4) (s.heap.objs.size+2) (s.heap.objs.size+3) s.heap.objs.size (s.heap.objs.size+1) l1 l2 .none 0->(∀c o,s.heap.get? c=some o->g.get? c=some o)->Q (.ref (s.heap.objs.size+4)) {s with heap:=g}): wpAny (model prog w) A (call (.type "zip") [.ref l1,.ref l2]) Q E s:=by
  refine callType_new PySem.F.called_zip (by decide) (PySem.F.typeCall_zip_2 _ _) (PySem.F.newCall_zip_2 _ _) (fun obj=>PySem.F.args_object_init_3 obj _ _) PySem.F.entry_zip_new (wN b1 b2 l1 l2 xs ys) ⟨dM,eU,?_⟩;have z1:(jA b1 s.heap l1).objs.size=s.heap.objs.size+1:=gI ..;have z2:(jz b1 b2 s.heap l1 l2).objs.size=s.heap.objs.size+2:=by rw[gI,z1]
  have z3:(jy b1 b2 s.heap l1 l2).objs.size=s.heap.objs.size+3:=by rw[gI,z2]
  have z4:(jx b1 b2 s.heap l1 l2).objs.size=s.heap.objs.size+4:=by rw[gI,z3]
  have g5:(gJ b1 b2 s.heap l1 l2).get? (jx b1 b2 s.heap l1 l2).objs.size=some _:=bh _ rfl;have g4:(gJ b1 b2 s.heap l1 l2).get? (jy b1 b2 s.heap l1 l2).objs.size=some _:=aC _ (bh _ rfl);have g3:(gJ b1 b2 s.heap l1 l2).get? (jz b1 b2 s.heap l1 l2).objs.size=some _:=aC _ (aC _ (bh _ rfl));have g2:(gJ b1 b2 s.heap l1 l2).get? (jA b1 s.heap l1).objs.size=some _:=aC _ (aC _ (aC _ (bh _ rfl)));have g1:(gJ b1 b2 s.heap l1 l2).get? s.heap.objs.size=some _:=aC _ (aC _ (aC _ (aC _ (bh _ rfl))));show _/\_;rw[z2,z3,z4]at g5;rw[z1,z2]at g3;rw[z3]at g4;rw[z1]at g2;rw[z4];refine⟨⟨_,g5,rfl⟩,q _ ⟨g5,g3,⟨_,_,g4⟩,?_,?_⟩ fun c o e=>aC _ (aC _ (aC _ (aC _ (aC _ e))))⟩
  ·cases b1<;>exact⟨_,g1,rfl,rfl⟩
  ·cases b2<;>exact⟨_,g2,rfl,rfl⟩
end
section
variable {X:Cx}{pins:List (Addr×Obj)}{σ:St}{H:Hp}{s:EZ}{h':Heap}
theorem Inv.iB{t':Nat}{fp:List Addr}(I:Inv X pins σ H s)(k:∀b o,b∉fp->s.heap.get? b=some o->h'.get? b=some o)(hf:∀b∈fp,da X pins H b):Inv X pins σ H {s with heap:=h',toks:=t'}:=by
 have iS:∀b u,H b=some u->b∉fp:=fun b u e z=>by rw[(hf b z).1]at e;cases e
 have hL:X.env.locals∉fp:=fun z=>(hf _ z).2.1 rfl;refine I.step (g':=s.gens) (d':=s.drawn) (ch:=fp) (fun b hb=>?_) (fun b o _ _ hc e _=>k b o hc e) (fun b o _ _ hc e _=>⟨o.slots,k b o hc e⟩) (fun _ _ _ _ n=>n) (fun b o hc e=>⟨o,k b o hc e⟩) (fun _ _ e=>e) (fun _ _ _ e=>e) (fun b ps e=>⟨#[],by rw[e];simp⟩) (fun m hm=>?_) (fun b u e=>?_) I.bare
 · obtain⟨f0,f1,f2,f3,f4,f5⟩:=hf b hb
   exact⟨f3,f1,f4,f5⟩
 · obtain⟨o,es,ep,ho,r⟩:=hm
   exact⟨o,es,ep,k _ o hL ho,r⟩
 · refine(I.hok b u e).fL (fun c v hc q=>k c v ?_ q) (fun _ q=>q) fun _ _ q=>q
   rcases hc with z|z
   ·rw[z];exact iS b u e
   ·exact iS c _ z
end
def bq(b:Bool)(K:EY)(H:Hp)(a:Addr)(xs:List V):Prop:=match b with|true=>aa K H a xs|false=>af K H a xs
theorem bq.get{X:Cx}{pins:List (Addr×Obj)}{σ:St}{H:Hp}{s:EZ}{b:Bool}{a:Addr}{xs:List V}(I:Inv X pins σ H s)(h:bq b X.K H a xs):∃its:List Value,Vals xs its/\bG b s.heap a its.toArray:=by
 cases b
 ·obtain⟨its,r,p,_⟩:=I.tuple h;exact⟨its,r,p⟩
 ·obtain⟨its,r,p,_⟩:=I.list h;exact⟨its,r,p.isList⟩
theorem bq.inj{X:Cx}{pins:List (Addr×Obj)}{σ:St}{H:Hp}{s:EZ}{b:Bool}{a:Addr}{xs ys:List V}(I:Inv X pins σ H s)(h:bq b X.K H a xs)(g:bq b X.K H a ys):xs=ys:=by
 cases b
 ·exact I.pF h g
 ·exact I.sy h g
def oN(K:EY)(b1 b2:Bool)(l1 l2:Addr):It:=⟨fun i H=>∃xs ys x y,bq b1 K H l1 xs/\bq b2 K H l2 ys/\xs[i]? =some x/\ys[i]? =some y,fun i H v H'=>∃T x y,v= .ref T/\(∀xs,bq b1 K H l1 xs->xs[i]? =some x)/\(∀ys,bq b2 K H l2 ys->ys[i]? =some y)/\Nw H H' T (.tup [x,y]),fun i H=>∃xs ys,bq b1 K H l1 xs/\bq b2 K H l2 ys/\(xs.length<=i\/ys.length<=i)⟩
theorem xc{P:F0}{w:World}{K:EY}{elts:List Expr}{kt:Nat}{pos:Pos}{b1 b2:Bool}{z TI TO i1 i2 l1 l2:Addr}(D:ZipApart z TI TO i1 i2 l1 l2): Turn P w K (.Tuple elts kt pos) (oN K b1 b2 l1 l2) [z,TI,TO,i1,i2] z (fun i h=>Zp b1 b2 h z TI TO i1 i2 l1 l2 .none i) where
  mem:=by simp
  obj:=fun i h st b hb=>by
   obtain⟨hz,du,⟨a,c,dN⟩,h1,h2⟩:=st;simp only[aW,dw,fG]at hb;rcases hb with rfl|rfl|rfl|rfl|rfl
   ·exact⟨_,hz,fun v e=>by cases e⟩
   ·exact⟨_,du,fun v e=>by cases e⟩
   ·exact⟨_,dN,fun v e=>by cases e⟩
   ·obtain⟨o,e,_,n⟩:=h1.ob;exact⟨o,e,n⟩
   ·obtain⟨o,e,_,n⟩:=h2.ob;exact⟨o,e,n⟩
  keep:=fun i h h' st k=>by obtain⟨hz,du,⟨a,c,dN⟩,h1,h2⟩:=st;exact⟨k z (by simp) _ hz,k TI (by simp) _ du,⟨a,c,k TO (by simp) _ dN⟩,h1.to fun o e=>k i1 (by simp) o e,h2.to fun o e=>k i2 (by simp) o e⟩
  item:=by
   intro X hP hw hK hc i pins s σ H E I hf st hg;subst hP hw hK;obtain⟨xs,ys,x,y,q1,q2,e1,e2⟩:=hg;obtain⟨nA,r1,p1⟩:=q1.get I;obtain⟨kl,r2,p2⟩:=q2.get I;obtain⟨u1,nF,fP⟩:=r1.get e1;obtain⟨u2,Bw,mq⟩:=r2.get e2;have hT:s.TypeIs (.ref z) "zip":=⟨_,st.zz,rfl⟩;unfold pyNext;refine a7 (wpAny_attempt (jn (name:=Str.ofString "__next__") hT oY (jm oY hT PySem.F.entry_zip_next (wO D st p1 p2 (x:=u1) (y:=u2) (by simpa using nF) (by simpa using Bw) fun g zg tg kp=>aA ?_) (PySem.F.args_zip_next_1 _))));refine⟨_,rfl,?_⟩;refine wpAny_letOwnedTupleGo_zip zg.zz fun g' wM sb=>?_;have hs:=sb.extBut;have lA:z<s.heap.objs.size:=aw st.zz;have nw:Nw H (upd H s.heap.objs.size (.tup [x,y])) s.heap.objs.size (.tup [x,y]):=.of (I.hok.fresh (ak _));have I1:Inv X pins σ (upd H s.heap.objs.size (.tup [x,y])) {s with heap:=s.heap.push {cls:=.type "tuple",data:=.seq #[u1,u2]}}:=I.laid (t':=s.toks) (fun b ob q=>aC _ q) (ak _) ⟨by show 2<=sizeLine;decide,[u1,u2],.cons fP (.cons mq .nil),⟨_,bh _ rfl,rfl,_,rfl⟩⟩;have nk:∀b∈[z,TI,TO,i1,i2],b<s.heap.objs.size:=fun b hb=>by
    simp only[aW,dw,fG]at hb;obtain⟨hz,du,⟨a,c,dN⟩,h1,h2⟩:=st;rcases hb with rfl|rfl|rfl|rfl|rfl
    ·exact aw hz
    ·exact aw du
    ·exact aw dN
    ·obtain⟨o,e,_⟩:=h1.ob;exact aw e
    ·obtain⟨o,e,_⟩:=h2.ob;exact aw e
   have hn:∀b∈[z,TI,TO,i1,i2],upd H s.heap.objs.size (.tup [x,y]) b=none:=fun b hb=>by rw[aO (bw (nk b hb))];exact(hf b hb).1
   have I2:Inv X pins σ (upd H s.heap.objs.size (.tup [x,y])) {s with heap:=g'}:=Inv.iB (s:={s with heap:=s.heap.push {cls:=.type "tuple",data:=.seq #[u1,u2]}}) (t':=s.toks) (fp:=[z,TI,TO,i1,i2]) I1 (fun b o hb e=>by
    have e:(s.heap.push {cls:=.type "tuple",data:=.seq #[u1,u2]}).get? b=some o:=e;have nz:b≠z:=fun q=>hb (by simp[q]);rcases Heap.get?_push_cases e with⟨nU,rfl⟩|e'
    · subst nU
      exact hs _ _ nz tg
    ·exact hs _ _ nz (kp b o nz (fun q=>hb (by simp[q])) (fun q=>hb (by simp[q])) (fun q=>hb (by simp[q])) e')) (fun b hb=>by obtain⟨f0,f1,f2,f3,f4,f5⟩:=hf b hb;exact⟨hn b hb,f1,f2,f3,f4,f5⟩);refine⟨.ref s.heap.objs.size,_,I2,rfl,⟨s.heap.objs.size,x,y,rfl,fun zs hz=>?_,fun zs hz=>?_,nw⟩,?_,hn⟩
   ·rw[bq.inj I hz q1];exact e1
   ·rw[bq.inj I hz q2];exact e2
   · obtain⟨_,du,⟨a,c,dN⟩,h1,h2⟩:=zg
     exact⟨wM,hs _ _ D.TIz du,⟨a,c,hs _ _ D.TOz dN⟩,h1.to fun o e=>hs _ o D.i1z e,h2.to fun o e=>hs _ o D.i2z e⟩
  done:=by intro X hP hw hK hc i pins s σ H E I hf st hg;subst hP hw hK;obtain⟨xs,ys,q1,q2,j3⟩:=hg;obtain⟨nA,r1,p1⟩:=q1.get I;obtain⟨kl,r2,p2⟩:=q2.get I;have hT:s.TypeIs (.ref z) "zip":=⟨_,st.zz,rfl⟩;have l1:=r1.length;have l2:=r2.length;unfold pyNext;refine a7 (wpAny_attempt (jn (name:=Str.ofString "__next__") hT oY (jm oY hT PySem.F.entry_zip_next (wQ (I.ok.hd hc) D st p1 p2 (j3.imp (fun h=>by simp;omega) fun h=>by simp;omega) fun g e kp he=>?_) (PySem.F.args_zip_next_1 _))));obtain⟨o,ho,Ci⟩:=he;refine a7 (wpAny_isInstance (T:="StopIteration") (b:=true) ⟨o,ho,Ci⟩ isSubtype_stop (aA ⟨rfl,?_⟩));exact I.iB (t':=s.toks) (fp:=[z,TI,TO,i1,i2]) (fun b o hb e=>kp b o (fun q=>hb (by simp[q])) (fun q=>hb (by simp[q])) (fun q=>hb (by simp[q])) (fun q=>hb (by simp[q])) e) hf
  self:=fun _ _ _ _ _ st h=>wpAny_pyIter_zip st.zz h
inductive vW(K:EY)(b1:Bool)(b2:Bool)(R:It->Hp->Prop)(vs:List V)(H1:Hp):Prop |mk (l1:_)(l2:_)(h0:vs=[.ref l1,.ref l2])(h1:(∃xs,bq b1 K H1 l1 xs))(h2:(∃ys,bq b2 K H1 l2 ys))(h3:R (oN K b1 b2 l1 l2) H1):vW K b1 b2 R vs H1
def Bo(K:EY)(b1 b2:Bool)(ta:TA):TI:=fun σ H R=>ta σ H fun vs H1=>vW K b1 b2 R vs H1
theorem yZ(K:EY){X:Cx}(hK:X.K=K)(b1 b2:Bool){elts:List Expr}{kt:Nat}{jH:Pos}{a b:Expr}{ta:TA}{p pos:Pos}(hg:Gl X "zip")(hm:X.mg "zip"=none)(ha:PA X [a,b] ta)(hs:starEach [a,b] X.env=[(false,eval a X.env),(false,eval b X.env)]:=by rfl)(fx:starEach [b] X.env=[(false,eval b X.env)]:=by rfl): PI X (.Tuple elts kt jH) (.Call (.Name "zip" p) [a,b] [] pos) (Bo K b1 b2 ta):=by
  subst hK;intro pins s σ H R I h;refine Call_ (gd I hg hm PyProof.Rows.boot_zip (kZ (ab (ha pos pins s σ H _ I h) fun us s1 ⟨vs,H1,I1,r1,q1⟩=>?_) (by rw[hs,fx]) (by rw[fx];rfl)));obtain⟨l1,l2,e,⟨xs,h1⟩,⟨ys,h2⟩,q⟩:=q1;subst e;obtain⟨u1,u2,rfl,fP,mq⟩:=vals2 r1;cases(show u1=Value.ref l1 from fP);cases(show u2=Value.ref l2 from mq);obtain⟨nA,v1,p1⟩:=h1.get I1;obtain⟨kl,v2,p2⟩:=h2.get I1;have a1:l1<s1.heap.objs.size:=by cases b1<;>(obtain⟨o,e,_⟩:=p1;exact aw e)
  have a2:l2<s1.heap.objs.size:=by cases b2<;>(obtain⟨o,e,_⟩:=p2;exact aw e)
  refine wR p1 p2 fun g zg kp=>wpAny_pyIter_zip zg.zz ?_;refine⟨_,_,_,_,H1,rfl,I1.kept (t':=s1.toks) kp,xc (zipApart_new a1 a2),zg,fun c hc=>?_,q⟩;have hle:s1.heap.objs.size<=c:=by simp only[aW,dw,fG]at hc;rcases hc with rfl|rfl|rfl|rfl|rfl<;>first|exact ak _|exact Nat.le_add_right _ _
  exact I1.fz hle (I1.hok.fresh hle)
theorem bq.go{b:Bool}{K:EY}{H H':Hp}{a:Addr}{xs:List V}(s:a8 H H')(h:bq b K H a xs):bq b K H' a xs:=by
 cases b
 ·exact af.go s h
 ·exact aa.go s h
theorem Dx{K:EY}{b1 b2:Bool}{l1 l2:Addr}{xs ys:List V}{bs:List Bool}{te:TE}{Q:VK}{D:Addr}{H H0:Hp}{n:Nat}(rest:St)(hn:n=2)(h1:bq b1 K H l1 xs)(h2:bq b2 K H l2 ys)(nw:Nw H H0 D (.lst [])) (hl:min xs.length ys.length=bs.length)(hz:bs.length<=1000) (hs:∀(i:Nat)(x y:V)(b:Bool)(H2:Hp)(Q':VK),xs[i]? =some x->ys[i]? =some y->bs[i]? =some b->a8 H H2->(∀H3,a8 H2 H3->Q' (.bl b) H3)->te (some x::some y::rest) H2 Q') (hq:∀H',a8 H H'->H' D=some (.lst (bs.map V.bl))->Q (.ref D) H'):dR (oN K b1 b2 l1 l2) (o4 K n (o5 (c5 0) (o5 (c5 1) tL))) dg te Q D (none::none::rest) H0:=by
  subst hn;have hD:=nw.no;refine jb bs.length (fun i σ H2=>a8 H H2/\H2 D=some (.lst ((bs.take i).map V.bl))/\∃v v',σ=v::v'::rest) ?_ ?_ ?_
  ·exact⟨nw.same,nw.at',none,none,rfl⟩
  · rintro i σ H2 hi ⟨s2,d2,v,v',rfl⟩
    have hx:i<xs.length:=by omega
    have hy:i<ys.length:=by omega
    have ex:=dz hx;have ey:=dz hy;have eb:=dz hi;refine⟨⟨xs,ys,_,_,h1.go s2,h2.go s2,ex,ey⟩,fun y' H3 ko=>?_⟩;obtain⟨T,x0,y0,rfl,k1,k2,n3⟩:=ko;have e1:=k1 _ (h1.go s2);have e2:=k2 _ (h2.go s2);rw[ex]at e1;rw[ey]at e2;cases e1;cases e2;refine⟨T,_,rfl,af.of n3.at',rfl,_,_,rfl,_,_,rfl,rfl,?_⟩;refine yes (aR ?_);refine hs i _ _ _ _ _ ex ey eb (s2.trans n3.same) fun H4 s4=>?_;refine⟨_,s4 _ _ (n3.same _ _ d2),?_,bs.length-(i+1),by omega,rfl,by omega,fun b o e=>?_,?_,_,_,rfl⟩
    · rw[aG,iq]
      have:(1000:Nat)<sizeLine:=by decide
      omega
    ·rw[aO (ck e hD)];exact s4 b o (n3.same b o (s2 b o e))
    ·rw[cH,p6,eb,fj];rfl
  · rintro σ H2 ⟨s2,d2,v,v',rfl⟩
    refine⟨⟨xs,ys,h1.go s2,h2.go s2,by omega⟩,hq H2 s2 ?_⟩;rw[d2,p7]
section
variable {P:F0}{w:World}{K:EY}{mg:Str->Option Value}{base:Heap}{N:List Str}{qual:Str}{scope:Scope}{f:Addr}{cd:Value}{A:F2}{outer:List Env}{s:EZ}{H:Hp}{E:XK}{pins:List (Addr×Obj)}{σ:St}{H1:Hp}{s1:EZ}{h2:Heap}{ex:Addr}{cls:Value}{vs:List Value}
end
section
variable {X:Cx}{x:Str}{C:Addr}{EO:List Value}{newId ED B:String}{e:Expr}{t:TA}{np aq pos:Pos}
end
end L2
namespace L2
open PySem PySem.Spec PyProof.Rows
section
variable {M:Model}{A:F2}{Ex:Value->EZ->Prop}
end
section
variable {X:Cx}{k:Nat}{x:Str}{p pos:Pos}{e:Expr}{es:List Expr}{t:TA}{sp:Sp}
end
section
variable {X:Cx}{pins:List (Addr×Obj)}{σ:St}{H:Hp}{s:EZ}
end
section
variable {X:Cx}{i:Nat}{n y:Str}{Dc:Addr}{EN:List Value}{newD:String}{body Eo:List Stmt}{b0:Stmt}{np EG pos:Pos}{tb:XK->TS}{th:TS}{Cs:Addr->Prop}
end
end L2
namespace L2
open PySem PySem.Spec PyProof.Rows PySem.W Builtin.Getset_descriptor
section
variable {prog:F0}{w:World}{A:F2}{E:Value->EZ->Prop}{h:Heap}{g:Array GenState}{d:Drawn}{t:Nat}{os:OsState}{K:Frag}{x C:Addr}{o:Obj}
end
end L2
namespace L2
open PySem PySem.Spec PyProof.Rows
section
variable {X:Cx}
end
end L2
namespace L2
open PySem PySem.Spec PyProof.Rows
end L2
namespace Ar
end Ar
namespace Rt
open Rat
section
variable {n m:Nat} {r s:Rat}
end
end Rt
namespace L2
open PySem PySem.Spec PyProof.Rows
def d9(H H':Hp):Prop:=∀b o,(∀xs,o≠ .lst xs)->H b=some o->H' b=some o
section
variable {K:EY} {H H' H2:Hp}
theorem d9.trans(a:d9 H H')(b:d9 H' H2):d9 H H2:=fun c o n e=>b c o n (a c o n e)
theorem d9.lC{D:Addr}{xs ys:List V}(h:H D=some (.lst xs)):d9 H (upd H D (.lst ys)):=fun b o n e=>by rw[aO (sa e h (n xs))];exact e
theorem af.t{a:Addr}{xs:List V}(s:d9 H H')(h:af K H a xs):af K H' a xs:=h.imp (fun r=>r.imp (s _ _ fun _ z=>nomatch z) fun⟨o,e⟩=>⟨o,s _ _ (fun _ z=>nomatch z) e⟩) id
mutual
def cj:F1->Bool | .list _=>false | .dict _=>false | .tuple ds=>bA ds | .none=>true | .bool _=>true | .int _=>true | .str _=>true
def bA:List F1->Bool |[]=>true |d::ds=>cj d&&bA ds
end
theorem e6:∀{ds:List F1},bA ds=true↔∀d∈ds,cj d=true
  |[]=>⟨fun _ _ h=>(nomatch h),fun _=>by simp[bA]⟩ |d::ds=>by
    rw[bA,bL,e6 (ds:=ds)];constructor
    · rintro⟨a,b⟩ x hx
      rcases aW.mp hx with rfl|hx
      ·exact a
      ·exact b x hx
    · intro h
      exact⟨h d (.head _),fun x hx=>h x (.tail _ hx)⟩
theorem rX(ns:List Int):bA (ns.map PyData.int)=true:=e6.mpr fun d hd=>by obtain⟨i,_,rfl⟩:=bz.mp hd;simp[cj]
mutual
theorem RD.t(s:d9 H H'):∀{x:V}(d:F1),cj d=true->RD K H x d->RD K H' x d |x,.none,_,h=>by simpa[RD]using h |x,.bool b,_,h=>by simpa[RD]using h |x,.int i,_,h=>by simpa[RD]using h |x,.str y,_,h=>by simpa[RD]using h |x,.list ds,n,h=>by simp[cj]at n |x,.tuple ds,n,h=>by rw[RD]at h⊢;obtain⟨a,xs,e,h1,h2⟩:=h;exact⟨a,xs,e,h1.t s,ae.t s ds (by simpa[cj]using n) h2⟩ |x,.dict _,_,h=>by simp[RD]at h
theorem ae.t (s:d9 H H'):∀{xs:List V}(ds:List F1),bA ds=true->ae K H xs ds->ae K H' xs ds |xs,[],_,h=>by simpa[ae]using h |xs,d::ds,n,h=>by rw[ae]at h⊢;rw[bA,bL]at n;obtain⟨y,ys,e,h1,h2⟩:=h;exact⟨y,ys,e,RD.t s d n.1 h1,ae.t s ds n.2 h2⟩
end
theorem ae.gf:∀{xs:List V}{ns:List Int},ae K H xs (ns.map PyData.int)->xs=ns.map V.int |xs,[],h=>h.nil_inv |xs,n::ns,h=>by obtain⟨y,ys,rfl,h1,h2⟩:=h.cons_inv;rw[h1.int_inv,ae.gf h2];rfl
theorem mx:∀(ns:List Int),ae K H (ns.map V.int) (ns.map PyData.int) |[]=>cb |n::ns=>bD (dE n) (mx ns)
theorem uf{J:It}{xs:List V}{ds:List F1}{te:TE}{Q:VK}{D:Addr}{H0:Hp}(rest:St)(nw:Nw H H0 D (.lst []))(hl:xs.length=ds.length)(hz:xs.length<=1000)(hn:bA ds=true) (go:∀i x H2,xs[i]? =some x->a8 H H2->J.go i H2/\∀y H3,J.yld i H2 y H3->H3=H2/\y=x)(stop:∀H2,a8 H H2->J.stop xs.length H2) (hs:∀(i:Nat)(x:V)(d:F1)(H2:Hp)(Q':VK),xs[i]? =some x->ds[i]? =some d->a8 H H2->(∀y H3,a8 H2 H3->RD K H3 y d->Q' y H3)->te (some x::rest) H2 Q') (hq:∀H' ys,a8 H H'->H' D=some (.lst ys)->ae K H' ys ds->Q (.ref D) H'):dR J (c5 0) dg te Q D (none::rest) H0:=by
  have hD:=nw.no;refine jb xs.length (fun i σ H2=>a8 H H2/\(∃ys,H2 D=some (.lst ys)/\ae K H2 ys (ds.take i))/\∃v,σ=v::rest) ?_ ?_ ?_
  ·exact⟨nw.same,⟨[],nw.at',cb⟩,none,rfl⟩
  · rintro i σ H2 hi ⟨s2,⟨ys,d2,r2⟩,v,rfl⟩
    have kz:i<ds.length:=by rw[<-hl];exact hi
    have ex:=dz hi;have eb:=dz kz;obtain⟨g1,g2⟩:=go i _ H2 ex s2;refine⟨g1,fun y H3 hy=>?_⟩;obtain⟨rfl,rfl⟩:=g2 y H3 hy;refine jB ?_;refine hs i _ _ _ _ ex eb s2 fun z H4 s4 r4=>?_;have d4:=s4 _ _ d2;have len:=r2.length;rw[iq]at len;refine⟨ys,d4,?_,xs.length-(i+1),by omega,rfl,by omega,fun b o e=>?_,⟨ys++[z],cH,?_⟩,_,rfl⟩
    · have:(1000:Nat)<sizeLine:=by decide
      omega
    ·rw[aO (ck e hD)];exact s4 b o (s2 b o e)
    · have t:d9 H4 (upd H4 D (.lst (ys++[z]))):=.lC d4
      rw[p6,eb];have n1:bA (ds.take i)=true:=e6.mpr fun d hd=>e6.mp hn d (wx hd);exact(ae.t t _ n1 (ae.mono s4 _ r2)).append (bD (RD.t t _ (e6.mp hn _ (pg kz)) r4) cb)
  · rintro σ H2 ⟨s2,⟨ys,d2,r2⟩,v,rfl⟩
    refine⟨stop H2 s2,hq H2 ys s2 d2 ?_⟩;rw[hl,p7]at r2;exact r2
theorem kJ{a:Addr}{xs:List V}{ds:List F1}{te:TE}{Q:VK}{D:Addr}{H0:Hp}(rest:St)(hx:af K H a xs)(nw:Nw H H0 D (.lst []))(hl:xs.length=ds.length)(hz:xs.length<=1000)(hn:bA ds=true) (hs:∀(i:Nat)(x:V)(d:F1)(H2:Hp)(Q':VK),xs[i]? =some x->ds[i]? =some d->a8 H H2->(∀y H3,a8 H2 H3->RD K H3 y d->Q' y H3)->te (some x::rest) H2 Q') (hq:∀H' ys,a8 H H'->H' D=some (.lst ys)->ae K H' ys ds->Q (.ref D) H'):dR (kR K a) (c5 0) dg te Q D (none::rest) H0:=uf rest nw hl hz hn (fun i x H2 e s=>⟨⟨xs,x,hx.go s,e⟩,fun y H3 ⟨e3,y3⟩=>⟨e3,by have:=y3 _ (hx.go s);rw[e]at this;exact(bP this).symm⟩⟩) (fun H2 s=>⟨xs,hx.go s,ak _⟩) hs hq
theorem Dw{a:Addr}{xs:List V}{ds:List F1}{te:TE}{Q:VK}{D:Addr}{H0:Hp}(rest:St)(hx:aa K H a xs)(nw:Nw H H0 D (.lst []))(hl:xs.length=ds.length)(hz:xs.length<=1000)(hn:bA ds=true) (hs:∀(i:Nat)(x:V)(d:F1)(H2:Hp)(Q':VK),xs[i]? =some x->ds[i]? =some d->a8 H H2->(∀y H3,a8 H2 H3->RD K H3 y d->Q' y H3)->te (some x::rest) H2 Q') (hq:∀H' ys,a8 H H'->H' D=some (.lst ys)->ae K H' ys ds->Q (.ref D) H'):dR (ib K a) (c5 0) dg te Q D (none::rest) H0:=uf rest nw hl hz hn (fun i x H2 e s=>⟨⟨xs,x,hx.go s,e⟩,fun y H3 ⟨e3,y3⟩=>⟨e3,by have:=y3 _ (hx.go s);rw[e]at this;exact(bP this).symm⟩⟩) (fun H2 s=>⟨xs,hx.go s,ak _⟩) hs hq
end
section
variable {X:Cx}
theorem sP{ns:List Int}{us:List Value}(r:Vals (ns.map V.int) us){i:Nat}{v:Value}(h:us[i]? =some v):∃n t,ns[i]? =some n/\v=Value.int n t:=by
 have hl:=r.length;rw[aG]at hl;have hi:i<ns.length:=by rw[hl];exact(dW.mp h).1
 obtain⟨u,e,ru⟩:=r.get (i:=i) (x:=.int ns[i]) (by rw[bC,dz hi];rfl);rw[h]at e;cases e;obtain⟨t,rfl⟩:=(show∃t,v=Value.int ns[i] t from ru);exact⟨_,t,dz hi,rfl⟩
theorem yy(ns:List Int):((List.range ns.length).any fun i=>((ns.map (· !=0))[i]?).getD false)=ns.any (· !=0):=by have:=LSm.range_any (ns.map (· !=0));rw[aG]at this;rw[this,List.any_map];rfl
theorem DW(K:EY)(hK:X.K=K)(hc:X.calm=true):bu X (.builtin "any") (fun xs H Q=>∃(l:Addr)(ns:List Int),xs=[.ref l]/\(aa K H l (ns.map V.int)\/af K H l (ns.map V.int))/\Q (.bl (ns.any (· !=0))) H):=by
 subst hK;intro pins s σ H xs us Q I r h;obtain⟨l,ns,rfl,hl,q⟩:=h;obtain⟨u,rfl,ru⟩:=vals1 r;cases(show u=Value.ref l from ru);have hh:=I.ok.hd hc;have fin:∀(its:List Value),Vals (ns.map V.int) its->((List.range its.toArray.size).any fun i=>((ns.map (· !=0))[i]?).getD false)=ns.any (· !=0):=fun its rv=>by rw[bf,<-rv.length,aG];exact yy ns
 rcases hl with hl|hl
 · obtain⟨its,rv,pl,hz⟩:=I.list hl
   have cu:=pl.isList;have aM:l<s.heap.objs.size:=by obtain⟨_,e,_⟩:=cu;exact aw e
   refine call_any_walk (jl cu ?_);refine⟨s.heap.objs.size,[s.heap.objs.size,l],[s.heap.objs.size],its.toArray.size,_,_,fun i=>((ns.map (· !=0))[i]?).getD false,rfl,Walks.list (A:=X.A.in1) hh _ l (bw aM) its.toArray,⟨⟨_,bh _ rfl,rfl,rfl⟩,cu.push _⟩,fun i v s' Q' E' hP hQ=>?_,fun h' tk hk=>?_⟩
   · obtain⟨n,t,e,rfl⟩:=sP rv (i:=i) (v:=v) (by simpa using hP)
     simp only[bC,e]at hQ;exact truthy_int hQ
   · rw[fin its rv]
     exact⟨.bl _,H,I.kept (LSm.kept_iter hk),rfl,q⟩
 · obtain⟨its,rv,pl,hz⟩:=I.tuple hl
   have cu:s.heap.IsTuple l its.toArray:=by obtain⟨⟨cls,dd,data,sl⟩,ho,cX,n,hd⟩:=pl;exact⟨_,ho,cX,by simpa using⟨n,hd⟩⟩
   have aM:l<s.heap.objs.size:=by obtain⟨_,e,_⟩:=cu;exact aw e
   refine call_any_walk (wpAny_pyIter_tuple cu ?_);refine⟨s.heap.objs.size,[s.heap.objs.size,l],[s.heap.objs.size],its.toArray.size,_,_,fun i=>((ns.map (· !=0))[i]?).getD false,rfl,Walks.tuple (A:=X.A.in1) hh _ l (bw aM) its.toArray,⟨⟨_,bh _ rfl,rfl,rfl⟩,cu.push _⟩,fun i v s' Q' E' hP hQ=>?_,fun h' tk hk=>?_⟩
   · obtain⟨n,t,e,rfl⟩:=sP rv (i:=i) (v:=v) (by simpa using hP)
     simp only[bC,e]at hQ;exact truthy_int hQ
   · rw[fin its rv]
     exact⟨.bl _,H,I.kept (LSm.kept_iter hk),rfl,q⟩
end
end L2
set_option maxHeartbeats 1000000
namespace Lw
open PySem PySem.Spec PyProof.Rows L2
def uL(c m:Int):Prop:=0<=c/\0<=m/\m<2147483648
def cC(H:Hp)(p:Addr):Prop:=∃c m,H p=some (.lst [.int c,.int m])/\uL c m
structure au(p:Addr)(H H':Hp):Prop where
 bag:cC H' p
 same:∀b o,b≠p->H b=some o->H' b=some o
theorem au.refl{p:Addr}{H:Hp}(h:cC H p):au p H H:=⟨h,fun _ _ _ e=>e⟩
theorem au.trans{p:Addr}{H H1 H2:Hp}(a:au p H H1)(b:au p H1 H2):au p H H2:=⟨b.bag,fun c o n e=>b.same c o n (a.same c o n e)⟩
theorem au.upd{p:Addr}{H:Hp}{c m:Int}(h:uL c m):au p H (L2.upd H p (.lst [.int c,.int m])):=⟨⟨c,m,cH,h⟩,fun b o n e=>by rw[aO n];exact e⟩
theorem au.bW{p:Addr}{H H':Hp}(h:cC H p)(s:a8 H H'):au p H H':=by obtain⟨c,m,e,ok⟩:=h;exact⟨⟨c,m,s _ _ e,ok⟩,fun b o _ e=>s b o e⟩
theorem pA{j:Int}(h0:0<=j)(h:j<=10^40):Wd j:=by
 have:j.natAbs<=10^40:=by omega
 exact Nat.lt_of_le_of_lt this (by decide+kernel)
theorem cC.ne{H:Hp}{p:Addr}(h:cC H p):H p≠none:=by obtain⟨c,m,e,_⟩:=h;rw[e];exact fun z=>nomatch z
theorem cC.Av{H:Hp}{p:Addr}{q:Addr}{o:HO}(h:cC H p)(e:H q=some o)(n:∀xs,o≠ .lst xs):q≠p:=by obtain⟨c,m,e',_⟩:=h;exact sa e e' (n _)
theorem au.t{p:Addr}{H H':Hp}(bg:cC H p)(b:au p H H'):d9 H H':=fun c o n e=>b.same c o (bg.Av e n) e
theorem au.yc{p:Addr}{H0 H H':Hp}(s:a8 H0 H)(hp:H0 p=none)(b:au p H H'):a8 H0 H':=fun c o e=>b.same c o (ck e hp) (s c o e)
section
variable {K:EY}
theorem om{J:It}{te:TE}{Q:VK}{D p:Addr}{H H0:Hp}(n:Nat)(rest:L2.St)(nw:Nw H H0 D (.lst []))(bg:cC H p)(hn:n<=1000)(xv:Nat->V) (go:∀i H2,i<n->au p H H2->J.go i H2/\∀y H3,J.yld i H2 y H3->H3=H2/\y=xv i)(stop:∀H2,au p H H2->J.stop n H2)(Pz:Int->Prop) (hs:∀i H2 (Q':VK),i<n->au p H H2->(∀z H3,Pz z->au p H2 H3->Q' (.int z) H3)->te (some (xv i)::rest) H2 Q') (hq:∀H' (is:List Int),au p H H'->H' D=some (.lst (is.map V.int))->is.length=n->(∀z∈is,Pz z)->Q (.ref D) H'):dR J (c5 0) dg te Q D (none::rest) H0:=by
  have j8:D≠p:=fun e=>bg.ne (e▸nw.no);refine jb n (fun i σ H3=>au p H H3/\(∃is:List Int,H3 D=some (.lst (is.map V.int))/\is.length=i/\∀z∈is,Pz z)/\∃v,σ=v::rest) ?_ ?_ ?_
  ·exact⟨.bW bg nw.same,⟨[],nw.at',rfl,fun _ h=>(dw h).elim⟩,none,rfl⟩
  · rintro i σ H3 hi ⟨b3,⟨is,d3,li,pi⟩,v,rfl⟩
    obtain⟨g1,g2⟩:=go i H3 hi b3;refine⟨g1,fun y H4 hy=>?_⟩;obtain⟨rfl,rfl⟩:=g2 y H4 hy;refine jB ?_;refine hs i _ _ hi b3 fun z H5 pz b5=>?_;refine⟨_,b5.same _ _ j8 d3,?_,n-(i+1),by omega,rfl,by omega,?_,⟨is++[z],?_,?_,?_⟩,_,rfl⟩
    · rw[aG,li]
      have:(1000:Nat)<sizeLine:=by decide
      omega
    · have jd:=b3.trans b5
      refine⟨?_,fun b o n e=>?_⟩
      · obtain⟨c,m,e,ok⟩:=jd.bag
        exact⟨c,m,by rw[aO j8.symm];exact e,ok⟩
      ·rw[aO (ck e nw.no)];exact jd.same b o n e
    ·rw[cH,fj];rfl
    ·rw[dy,li];rfl
    · intro y hy
      rcases dU.mp hy with h|h
      ·exact pi y h
      ·rw[bR.mp h];exact pz
  · rintro σ H3 ⟨b3,⟨is,d3,li,pi⟩,v,rfl⟩
    exact⟨stop H3 b3,hq H3 is b3 d3 li pi⟩
theorem Bi(ns:List Int){i:Int}(h0:0<=i)(h:i<ns.length):∃z,z∈ns/\cz (ns.map V.int) i=some (.int z):=by
 have hl:i.toNat<ns.length:=by omega
 exact⟨ns[i.toNat],pg hl,cy h0 (by rw[bC,dz hl];rfl)⟩
theorem ue{J:It}{te:TE}{Q:VK}{D p:Addr}{H H0:Hp}(n:Nat)(rest:L2.St)(nw:Nw H H0 D (.lst []))(bg:cC H p)(hn:n<=1000)(xv:Nat->V) (go:∀i H2,i<n->au p H H2->J.go i H2/\∀y H3,J.yld i H2 y H3->H3=H2/\y=xv i)(stop:∀H2,au p H H2->J.stop n H2)(Pd:Nat->F1->Prop) (hs:∀i H2 (Q':VK),i<n->au p H H2->(∀y d H3,Pd i d->cj d=true->RD K H3 y d->au p H2 H3->Q' y H3)->te (some (xv i)::rest) H2 Q') (hq:∀H' ys ds,au p H H'->H' D=some (.lst ys)->ae K H' ys ds->ds.length=n->bA ds=true->(∀i d,ds[i]? =some d->Pd i d)->Q (.ref D) H'):dR J (c5 0) dg te Q D (none::rest) H0:=by
  have j8:D≠p:=fun e=>bg.ne (e▸nw.no);refine jb n (fun i σ H3=>au p H H3/\(∃ys ds,H3 D=some (.lst ys)/\ae K H3 ys ds/\ds.length=i/\bA ds=true/\∀j d,ds[j]? =some d->Pd j d)/\∃v,σ=v::rest) ?_ ?_ ?_
  ·exact⟨.bW bg nw.same,⟨[],[],nw.at',cb,rfl,rfl,fun j d e=>by simp at e⟩,none,rfl⟩
  · rintro i σ H3 hi ⟨b3,⟨ys,ds,d3,r3,li,ni,pi⟩,v,rfl⟩
    obtain⟨g1,g2⟩:=go i H3 hi b3;refine⟨g1,fun y H4 hy=>?_⟩;obtain⟨rfl,rfl⟩:=g2 y H4 hy;refine jB ?_;refine hs i _ _ hi b3 fun z d H5 pz nz rz b5=>?_;have d5:=b5.same _ _ j8 d3;have t:d9 H5 (L2.upd H5 D (.lst (ys++[z]))):=.lC d5;refine⟨ys,d5,?_,n-(i+1),by omega,rfl,by omega,?_,⟨ys++[z],ds++[d],cH,?_,?_,?_,?_⟩,_,rfl⟩
    · rw[r3.length,li]
      have:(1000:Nat)<sizeLine:=by decide
      omega
    · have jd:=b3.trans b5
      refine⟨?_,fun b o n e=>?_⟩
      · obtain⟨c,m,e,ok⟩:=jd.bag
        exact⟨c,m,by rw[aO j8.symm];exact e,ok⟩
      ·rw[aO (ck e nw.no)];exact jd.same b o n e
    ·exact(ae.t ((au.t b3.bag b5).trans t) _ ni r3).append (bD (RD.t t _ nz rz) cb)
    ·rw[dy,li];rfl
    ·exact e6.mpr fun x hx=>by
        rcases dU.mp hx with h|h
        ·exact e6.mp ni x h
        ·rw[bR.mp h];exact nz
    · intro j e he
      by_cases hj:j<ds.length
      · rw[wF hj]at he
        exact pi j e he
      · have BZ:j=ds.length:=by have:=(dW.mp he).1;rw[dy]at this;have:j<ds.length+1:=this;omega
        subst BZ;rw[List.getElem?_append_right (ak _),Nat.sub_self]at he;cases he;rw[li];exact pz
  · rintro σ H3 ⟨b3,⟨ys,ds,d3,r3,li,ni,pi⟩,v,rfl⟩
    exact⟨stop H3 b3,hq H3 ys ds b3 d3 r3 li ni pi⟩
end
end Lw
namespace Ln
open PySem L2
end Ln
namespace L2
open PySem PySem.Spec PyProof.Rows
abbrev kE(b:Bool)(h:Heap)(l:Addr):Heap:=h.push {cls:=.type (fC b),data:=.fields #[.ref l,.int 0 0]}
abbrev oa(b:Bool)(h:Heap)(l:Addr):Heap:=(kE b h l).push {cls:=.type "enumerate",data:=.fields #[.none,.bool false,.ref h.objs.size,rawInt 0,.none,.none]}
theorem Dm(b:Bool)(l:Addr)(xs:Array Value):Meets (Builtin.«enumerate.__new__» ⟨[.type "enumerate",.ref l],[]⟩) (fun _ R s=>bG b s.heap l xs/\R (.ok (.ret (.ref (kE b s.heap l).objs.size))) {s with heap:=oa b s.heap l}):=.of_wp fun prog w A R s h=>by
   obtain⟨hp,gg,d,tk,os⟩:=s;obtain⟨hl,h⟩:=h;have Bz:=sub_enumerate;have hL:bG b (Shared.heap ⟨hp,gg,d,tk,os⟩) l xs:=hl
   wp_walk using hJ hL;refine wpAny_stack_any fun st=>aA ?_;split
   · rename_i c _ _ _ _ _
     cases(c==Value.type "enumerate")
     · wp_walk using hJ hL
       exact⟨_,rfl,h⟩
     · wp_walk using hJ hL
       exact⟨_,rfl,h⟩
   · wp_walk using hJ hL
     exact⟨_,rfl,h⟩
section
variable {prog:F0}{w:World}{A:F2}{E:Value->EZ->Prop}{s:EZ}
theorem Dn{b:Bool}{l:Addr}{xs:Array Value}{Q:Value->EZ->Prop}(hl:bG b s.heap l xs) (q:∀g,IsEnum g (s.heap.objs.size+1) s.heap.objs.size 0 .none->cB b g s.heap.objs.size l 0->(∀c o,s.heap.get? c=some o->g.get? c=some o)->Q (.ref (s.heap.objs.size+1)) {s with heap:=g}): wpAny (model prog w) A (call (.type "enumerate") [.ref l]) Q E s:=by refine callType_new PySem.F.called_enumerate (by decide) (PySem.F.typeCall_enumerate_1 _) (PySem.F.newCall_enumerate_1 _) (fun obj=>PySem.F.args_object_init_2 obj _) PySem.F.entry_enumerate_new (Dm b l xs) ⟨hl,?_⟩;have z1:(kE b s.heap l).objs.size=s.heap.objs.size+1:=gI ..;have g2:(oa b s.heap l).get? (kE b s.heap l).objs.size=some _:=bh _ rfl;have g1:(oa b s.heap l).get? s.heap.objs.size=some _:=aC _ (bh _ rfl);show _/\_;rw[z1]at g2⊢;refine⟨⟨_,g2,rfl⟩,q _ g2 ?_ fun c o e=>aC _ (aC _ e)⟩;cases b<;>exact⟨_,g1,rfl,rfl⟩
theorem tU{b:Bool}{it l:Addr}{xs:Array Value}(hh:A.handled=none)(ne:l≠it):Draws prog w A it [it,l] xs.size (fun i x=>xs[i]? =some x) (fun i h=>cB b h it l i/\bG b h l xs) where
 live:=fun i h st=>by obtain⟨o,e,_⟩:=st.1.ob;exact⟨o,e⟩
 frame:=fun i h h' st k=>⟨st.1.to fun o e=>k it (by simp) o e,st.2.to fun o e=>k l (by simp) o e⟩
 item:=fun i s Q E hi st hQ=>k9 st.1 st.2 (x:=xs[i]) (by simp[hi]) fun g gi sb=>hQ _ g s.toks (by simp[hi]) ⟨gi,st.2.to fun o e=>sb.extBut _ _ ne e⟩ sb
 done:=fun s Q E st hE=>o9 hh st.1 st.2 (by simp) fun g e a b=>hE g e a b
end
def ji(K:EY)(b:Bool)(l:Addr):It:=⟨fun i H=>∃xs x,bq b K H l xs/\xs[i]? =some x,fun i H v H'=>∃T x,v= .ref T/\(∀xs,bq b K H l xs->xs[i]? =some x)/\Nw H H' T (.tup [.int i,x]),fun i H=>∃xs,bq b K H l xs/\xs.length=i⟩
theorem xj{P:F0}{w:World}{K:EY}{elts:List Expr}{kt:Nat}{pos:Pos}{b:Bool}{e it l:Addr}(D:e≠it): Turn P w K (.Tuple elts kt pos) (ji K b l) [e,it] e (fun i h=>(∃old,IsEnum h e it i old)/\cB b h it l i) where
  mem:=by simp
  obj:=fun i h st c hc=>by
   obtain⟨⟨old,he⟩,h1⟩:=st;simp only[aW,dw,fG]at hc;rcases hc with rfl|rfl
   ·exact⟨_,he,fun v e=>by cases e⟩
   ·obtain⟨o,e,_,n⟩:=h1.ob;exact⟨o,e,n⟩
  keep:=fun i h h' st k=>by obtain⟨⟨old,he⟩,h1⟩:=st;exact⟨⟨old,k e (by simp) _ he⟩,h1.to fun o q=>k it (by simp) o q⟩
  item:=by
   intro X hP hw hK hc i pins s σ H E I hf st hg;subst hP hw hK;obtain⟨xs,x,q1,e1⟩:=hg;obtain⟨its,r1,p1⟩:=q1.get I;obtain⟨u1,nF,fP⟩:=r1.get e1;obtain⟨⟨old,he⟩,h1⟩:=st;obtain⟨oi,cn,ci,_⟩:=h1.ob;have nu:∃o,s.heap.get? l=some o/\(o.cls= .type "list"\/o.cls= .type "tuple"):=by cases b<;>(obtain⟨o,ho,cc,_⟩:=p1;first|exact⟨o,ho,.inl cc⟩|exact⟨o,ho,.inr cc⟩)
   obtain⟨ol,eT,cl⟩:=nu;have Au:e≠l:=fun z=>by subst z;rw[he]at eT;cases eT;rcases cl with h|h<;>simp at h
   have nil:l≠it:=fun z=>by subst z;rw[cn]at eT;cases eT;rw[ci]at cl;cases b<;>(rcases cl with h|h<;>simp[fC]at h)
   have aM:i<its.toArray.size:=by rw[bf,<-r1.length];exact(dW.mp e1).1
   refine wpAny_pyNext_enum_itemD (tU (I.ok.hd hc) nil) he ⟨h1,p1⟩ aM D (by simp[D,Au]) fun y h' tk CF ho iW hT hsz kp=>⟨_,rfl,?_⟩;have ey:y=u1:=by
    have a1:its.toArray[i]? =some y:=CF;have a2:its.toArray[i]? =some u1:=by simpa using nF
    rw[a1]at a2;exact bP a2
   subst ey;refine wpAny_letOwnedTupleGo_enum ho fun g' nR sb=>?_;have hs:=sb.extBut;have elt:e<s.heap.objs.size:=aw he;have Bn:it<s.heap.objs.size:=aw cn;have nw:Nw H (upd H s.heap.objs.size (.tup [.int i,x])) s.heap.objs.size (.tup [.int i,x]):=.of (I.hok.fresh (ak _));have I1:Inv X pins σ (upd H s.heap.objs.size (.tup [.int i,x])) {s with heap:=s.heap.push {cls:=.type "tuple",data:=.seq #[.int i tk,y]},toks:=tk+1}:=I.laid (t':=tk+1) (fun b ob q=>aC _ q) (ak _) ⟨by show 2<=sizeLine;decide,[.int i tk,y],.cons ⟨tk,rfl⟩ (.cons fP .nil),⟨_,bh _ rfl,rfl,_,rfl⟩⟩;have nk:∀c∈[e,it],c<s.heap.objs.size:=fun c hc=>by
    simp only[aW,dw,fG]at hc;rcases hc with rfl|rfl
    ·exact elt
    ·exact Bn
   have hn:∀c∈[e,it],upd H s.heap.objs.size (.tup [.int i,x]) c=none:=fun c hc=>by rw[aO (bw (nk c hc))];exact(hf c hc).1
   have I2:Inv X pins σ (upd H s.heap.objs.size (.tup [.int i,x])) {s with heap:=g',toks:=tk+1}:=Inv.iB (s:={s with heap:=s.heap.push {cls:=.type "tuple",data:=.seq #[.int i tk,y]},toks:=tk+1}) (t':=tk+1) (fp:=[e,it]) I1 (fun c o hc q=>by
    have q:(s.heap.push {cls:=.type "tuple",data:=.seq #[.int i tk,y]}).get? c=some o:=q;have nz:c≠e:=fun z=>hc (by simp[z]);rcases Heap.get?_push_cases q with⟨nU,rfl⟩|q'
    · subst nU
      exact hs _ _ nz hT
    ·exact hs _ _ nz (kp c o nz (fun z=>hc (by simp[z])) q')) (fun c hc=>by obtain⟨f0,f1,f2,f3,f4,f5⟩:=hf c hc;exact⟨hn c hc,f1,f2,f3,f4,f5⟩);refine⟨.ref s.heap.objs.size,_,I2,rfl,⟨s.heap.objs.size,x,rfl,fun zs hz=>?_,nw⟩,⟨⟨_,by simpa using nR⟩,iW.1.to fun o q=>hs _ o (Ne.symm D) q⟩,hn⟩;rw[bq.inj I hz q1];exact e1
  done:=by
   intro X hP hw hK hc i pins s σ H E I hf st hg;subst hP hw hK;obtain⟨xs,q1,j3⟩:=hg;obtain⟨its,r1,p1⟩:=q1.get I;obtain⟨⟨old,he⟩,h1⟩:=st;obtain⟨oi,cn,ci,_⟩:=h1.ob;have nu:∃o,s.heap.get? l=some o/\(o.cls= .type "list"\/o.cls= .type "tuple"):=by cases b<;>(obtain⟨o,ho,cc,_⟩:=p1;first|exact⟨o,ho,.inl cc⟩|exact⟨o,ho,.inr cc⟩)
   obtain⟨ol,eT,cl⟩:=nu;have nil:l≠it:=fun z=>by subst z;rw[cn]at eT;cases eT;rw[ci]at cl;cases b<;>(rcases cl with h|h<;>simp[fC]at h)
   have hi:i=its.toArray.size:=by rw[bf,<-r1.length];exact j3.symm
   subst hi;refine wpAny_pyNext_enum_endD (tU (I.ok.hd hc) nil) he ⟨h1,p1⟩ fun h' kp=>⟨rfl,?_⟩;exact I.iB (t':=s.toks) (fp:=[e,it]) (fun c o hc q=>kp c o (fun z=>hc (by simp[z])) q) hf
  self:=fun _ _ _ _ _ st h=>by obtain⟨⟨old,he⟩,_⟩:=st;exact wpAny_pyIter_enum he h
inductive w9(K:EY)(b:Bool)(R:It->Hp->Prop)(vs:List V)(H1:Hp):Prop |mk (l:_)(h0:vs=[.ref l])(h1:(∃xs,bq b K H1 l xs))(h2:R (ji K b l) H1):w9 K b R vs H1
def Br(K:EY)(b:Bool)(ta:TA):TI:=fun σ H R=>ta σ H fun vs H1=>w9 K b R vs H1
theorem zb(K:EY){X:Cx}(hK:X.K=K)(b:Bool){elts:List Expr}{kt:Nat}{jH:Pos}{a:Expr}{ta:TA}{p pos:Pos}(hg:Gl X "enumerate")(hm:X.mg "enumerate"=none)(ha:PA X [a] ta)(hs:starEach [a] X.env=[(false,eval a X.env)]:=by rfl)(fx:starEach [] X.env=[]:=by rfl): PI X (.Tuple elts kt jH) (.Call (.Name "enumerate" p) [a] [] pos) (Br K b ta):=by
  subst hK;intro pins s σ H R I h;refine Call_ (gd I hg hm PyProof.Rows.boot_enumerate (kZ (ab (ha pos pins s σ H _ I h) fun us s1 ⟨vs,H1,I1,r1,q1⟩=>?_) (by rw[hs,fx]) (by rw[fx];rfl)));obtain⟨l,e,⟨xs,h1⟩,q⟩:=q1;subst e;obtain⟨u1,rfl,fP⟩:=vals1 r1;cases(show u1=Value.ref l from fP);obtain⟨nA,v1,p1⟩:=h1.get I1;refine Dn p1 fun g zg ig kp=>wpAny_pyIter_enum zg ?_;refine⟨_,_,_,_,H1,rfl,I1.kept (t':=s1.toks) kp,xj (ju (Nat.lt_succ_self _)),⟨⟨_,zg⟩,ig⟩,fun c hc=>?_,q⟩;have hle:s1.heap.objs.size<=c:=by simp only[aW,dw,fG]at hc;rcases hc with rfl|rfl<;>first|exact ak _|exact Nat.le_add_right _ _
  exact I1.fz hle (I1.hok.fresh hle)
theorem D6{K:EY}{b:Bool}{a:Addr}{xs:List V}{g:TG}{tb:TS}{D:Ends}{σ:St}{H:Hp}(Pv:Nat->St->Hp->Prop)(h0:Pv 0 σ H)(hl:∀i σ H,i<=xs.length->Pv i σ H->bq b K H a xs) (hs:∀i x σ H,xs[i]? =some x->Pv i σ H->∀T H',Nw H H' T (.tup [.int i,x])->g (.ref T) σ H' fun σ2 H2=>tb {D with nx:=Pv (i+1),ct:=Pv (i+1),bk:=D.nx} σ2 H2)(hd:∀σ H,Pv xs.length σ H->D.nx σ H): ∃W:Nat->Nat->St->Hp->Prop,(∃m,W 0 m σ H)/\∀i m σ H,W i m σ H->((ji K b a).stop i H/\D.nx σ H)\/((ji K b a).go i H/\∃N:St->Hp->Prop,(∀σ' H',N σ' H'->∃m',m'<m/\W (i+1) m' σ' H')/\∀x H',(ji K b a).yld i H x H'->g x σ H' fun σ2 H2=>tb {D with nx:=N,ct:=N,bk:=D.nx} σ2 H2):=by
  refine⟨fun i m σ H=>m=xs.length-i/\i<=xs.length/\Pv i σ H,⟨xs.length,by simp,bI _,h0⟩,?_⟩;rintro i m σ H ⟨rfl,hi,p⟩;have q:=hl i σ H hi p;by_cases aM:i<xs.length
  · refine .inr ⟨⟨xs,xs[i],q,by simp[aM]⟩,Pv (i+1),fun σ' H' p'=>⟨xs.length-(i+1),by omega,rfl,aM,p'⟩,fun x H' y=>?_⟩
    obtain⟨T,z,rfl,ez,nw⟩:=y;exact hs i z σ H (ez xs q) p T H' nw
  · have e:i=xs.length:=by omega
    subst e;exact .inl ⟨⟨xs,q,rfl⟩,hd σ H p⟩
section
variable {X:Cx}
end
end L2
namespace L2
open PySem PySem.Spec PyProof.Rows
set_option maxHeartbeats 1000000 in
theorem yU{X:Cx}{N:List Str}{js:List (Option Nat)}{elt tg iter:Expr}{ifs:List Expr}{scope:Scope}{pos:Pos}{wi:TI}{g:TG}{tt:TT}{te:TE}{i0:Nat}{x0:Str}{gP pV:Pos}(CG:X.N.Nodup)(C0:X.N[i0]? =some x0)(Bv:Loc X.env.scope x0)(hc:X.calm=true)(hN:kK X N js scope=true)(hS:i8 X scope=true) (hi:PI X tg iter wi)(hg:∀cl s H fp pins,PG (bp X N scope cl s H fp pins) tg g)(ht:∀cl s H fp pins,oI (bp X N scope cl s H fp pins) ifs tt)(he:∀cl s H fp pins,PE (bp X N scope cl s H fp pins) elt te) (Bx:swapsWith (.ListComp elt [⟨tg,iter,ifs,0⟩] scope pos) (some (.Name x0 gP)) pV.line X.env=pure true:=by rfl)(Cf:X.fn x0=true\/X.env.scope.names.lookup x0=some .local:=by first|exact .inl rfl|exact .inr rfl) (hs:∀x,foldedSetIterable iter X.env x=pure x:=by intro _;rfl):PS X (.Assign [.Name x0 gP] (.ListComp elt [⟨tg,iter,ifs,0⟩] scope pos) pV) (jN (pN js wi g tt te) (c5 i0)):=by
  intro pins s σ H D0 I h;have eY:=hS;unfold i8 at eY;rw[bL,bL]at eY;obtain⟨⟨k1,k2⟩,k3⟩:=eY;have eV:scope.kind= .function:=cD.mp k1;have hV:∀x∈scope.names,x.2= .free->∃c,X.env.cells.lookup x.1=some c:=fun x hx e=>by have:=bK.mp k3 x hx;rw[e]at this;exact I.ok.has x.1 (.inl (cD.mp this))
  have fy:∀x∈scope.names,x.2≠ .cell:=fun x hx e=>by have:=bK.mp k3 x hx;rw[e]at this;exact bF this
  have nN:∀x∈scope.names,x.2= .local->scope.names.lookup x.1=some .local:=fun x hx e=>by have:=bK.mp k3 x hx;rw[e]at this;exact cD.mp this
  obtain⟨cl,nT,c1,c2⟩:=uj hV;rw[exec_Assign_Name_used _ _ _ _ Bx];refine a7 (wpAny_standAt (a7 ?_));show wpAny _ X.A (do let _<-comprehension (.ListComp elt [⟨tg,iter,ifs,0⟩] scope pos) scope X.env _ (newList []) false (eval iter X.env) (some (assign (.Name x0 gP) X.env))) _ _ s;refine a7 (ff (wpAny_comprehension_free (use:=some (assign (.Name x0 gP) X.env)) (Q:=fun _ s'=>SP X pins D0 .next s') rfl hs nT eV nN (ab (hi pins s σ H _ I h) fun v s1 h1=>ab h1 fun kj s2 h2=>?_)) (fun _ s' hq=>aA (aA hq)) fun _ _ e=>e);obtain⟨it,fp,tn,J,H2,e,I2,T,fN,f2,h2⟩:=h2;subst e;have hD:H2 s2.heap.objs.size=none:=I2.hok.fresh (ak _);obtain⟨W,⟨m0,w0⟩,turn⟩:=h2 _ _ (Nw.of hD);refine fF (wpAny_newFunctionEnv fy (by intro y hy;simp at hy) (fun h₁ iY iX=>?_) eV);have gv:∀b∈fp,b<s2.heap.objs.size:=fun b hb=>by obtain⟨o,e,_⟩:=T.obj _ _ fN b hb;exact aw e
  have I3:Inv X pins σ (upd H2 s2.heap.objs.size (.lst [])) {s2 with heap:=s2.heap.push {cls:=.type "list",dict:=none,data:=.seq ([]:List Value).toArray}}:=I2.sx (its:=[]) (t':=s2.toks) .nil (bI _);generalize j7:s2.heap.push {cls:=.type "list",dict:=none,data:=.seq ([]:List Value).toArray}=h3 at I3 iY iX;have iD:h3.objs.size=s2.heap.objs.size+1:=by rw[<-j7,gI]
  have ny:∀b o,s2.heap.get? b=some o->h3.get? b=some o:=fun b o e=>by rw[<-j7];exact aC _ e
  have f3:∀b∈fp,da X pins (upd H2 s2.heap.objs.size (.lst [])) b:=fun b hb=>⟨by rw[aO (bw (gv b hb))];exact(f2 b hb).1,(f2 b hb).2⟩;have iU:∀b o,h3.get? b=some o->h₁.get? b=some o:=fun b o e=>(iX.2 b (bw (aw e))).trans (aC _ e);have I4:Inv (bp X N scope cl {s2 with heap:=h3} (upd H2 s2.heap.objs.size (.lst [])) fp pins) [] (stC js σ) (upd H2 s2.heap.objs.size (.lst [])) {s2 with heap:=h₁,toks:=s2.toks+([]:List (Str×Value)).length}:=I3.comp (s:={s2 with heap:=h3}) hN hS c1 c2 f3 (fun b hb=>by show b<h3.objs.size;rw[iD];exact p5 (gv b hb)) (by simpa using iY) iU;have iE:tn 0 h₁:=T.keep _ _ _ fN fun b _ o e=>iU b o (ny b o e);have loop:codeAny (model X.prog X.w) X.A (.compLoop (.ListComp elt [⟨tg,iter,ifs,0⟩] scope pos) 0 (.ref it) (.ref s2.heap.objs.size) (compEnvC scope cl h3.objs.size X.env)) (compPost (model X.prog X.w) X.A X.xe (some (assign (.Name x0 gP) X.env)) (fun _ s'=>SP X pins D0 .next s') (.ref s2.heap.objs.size) h3.objs.size) {s2 with heap:=h₁,toks:=s2.toks+([]:List (Str×Value)).length}:=by
    refine ui (fun n s'=>∃i σ' H',Inv (bp X N scope cl {s2 with heap:=h3} (upd H2 s2.heap.objs.size (.lst [])) fp pins) [] σ' H' s'/\tn i s'.heap/\(∀b∈fp,H' b=none)/\W i n σ' H') ?_ m0 ⟨0,_,_,I4,iE,fun b hb=>(f3 b hb).1,w0⟩;rintro n s5 ⟨i,σ5,H5,I5,eI,gu,w5⟩;have dB:∀{H':Hp},(∀b∈fp,H' b=none)->∀b∈fp,da (bp X N scope cl {s2 with heap:=h3} (upd H2 s2.heap.objs.size (.lst [])) fp pins) [] H' b:=fun{H'} hn b hb=>by
     obtain⟨_,q1,q2,q3,q4,q5⟩:=f3 b hb;refine⟨hn b hb,fun z=>?_,I4.ok.exfs b hb,.inl hb,fun x c e=>q4 x c (c1 x c e),fun p hp=>q5 p (by simpa[bp]using hp)⟩;have aM:b<h3.objs.size:=by rw[iD];exact p5 (gv b hb)
     exact bw aM z
    rcases turn i n σ5 H5 w5 with⟨stop,qn⟩|⟨go,step⟩
    · refine ab (T.done (bp X N scope cl {s2 with heap:=h3} (upd H2 s2.heap.objs.size (.lst [])) fp pins) rfl rfl rfl hc i [] s5 σ5 H5 _ I5 (dB gu) eI stop) fun r s6 ⟨hr,I6⟩=>?_
      subst hr;obtain⟨m,hm,_⟩:=I6.loc;have u0:Un (cN X.stack) fp (upd H2 s2.heap.objs.size (.lst [])) H5 h3 s6.heap:=I6.base;have I7:Inv X pins σ H5 s6:=I3.uv (s':=s6) (ch:=fp) I6.os u0 I6.hok I6.bare fun b hb=>⟨(f3 b hb).2.2.2.1,(f3 b hb).2.1,(f3 b hb).2.2.2.2.1,(f3 b hb).2.2.2.2.2⟩;have hC:da X pins H5 h3.objs.size:=I3.fz (ak _) I6.free;show wpAny _ X.A (assign (.Name x0 gP) X.env (.ref s2.heap.objs.size)) _ _ s6;refine wpAny_assign_Name (pQ I7 CG C0 Bv (show RelV (.ref s2.heap.objs.size) (.ref s2.heap.objs.size)from rfl) (fun s8 I8 BF=>?_) Cf);obtain⟨a,sb,ha⟩:=BF;have CQ:h3.objs.size≠a:=by
       rcases ha with rfl|ha
       ·exact hC.2.1
       ·exact fun z=>hC.2.2.2.2.1 x0 a ha z.symm
      refine⟨m,hm.sameBut sb CQ,fun h9 BG=>⟨_,H5,?_,qn⟩⟩;exact I8.iB (t':=s8.toks) (fp:=[h3.objs.size]) (fun b o hb e=>BG.extBut b o (fun z=>hb (by simp[z])) e) fun b hb=>by rw[bR.mp hb];exact hC
    · refine ab (T.item (bp X N scope cl {s2 with heap:=h3} (upd H2 s2.heap.objs.size (.lst [])) fp pins) rfl rfl rfl hc i [] s5 σ5 H5 _ I5 (dB gu) eI go) fun r s6 ⟨u,hr,h6⟩=>?_
      subst hr;refine ab h6 fun _ s7 ⟨x,H7,I7,r7,y7,fM,o6⟩=>?_;have oO:=I7.pinned (dB o6) (T.obj _ _ fM);refine ab (hg _ _ _ _ _ _ s7 σ5 H7 x u _ oO r7 (step x H7 y7)) fun _ s8 ⟨σ8,H8,I8,q8⟩=>?_;refine ab (ht _ _ _ _ _ _ s8 σ8 H8 _ I8 q8) fun ok s9 ⟨H9,I9,q9⟩=>?_;have again:∀{s':EZ}{σ7:St}{H7:Hp},Inv (bp X N scope cl {s2 with heap:=h3} (upd H2 s2.heap.objs.size (.lst [])) fp pins) ([]++gR fp s7.heap) σ7 H7 s'->(∃m',m'<n/\W (i+1) m' σ7 H7)->∃m,m<n/\∃i σ' H',Inv (bp X N scope cl {s2 with heap:=h3} (upd H2 s2.heap.objs.size (.lst [])) fp pins) [] σ' H' s'/\tn i s'.heap/\(∀b∈fp,H' b=none)/\W i m σ' H':=fun{s' σ7 H7} J7 n7=>by obtain⟨m',hm,w7⟩:=n7;refine⟨m',hm,i+1,σ7,H7,J7.iy,T.keep _ _ _ fM fun b hb o e=>(J7.pin (b,o) (cR _ (cR _ (hU hb e)))).1,fun b hb=>?_,w7⟩;obtain⟨o,e,d⟩:=T.obj _ _ fM b hb;exact(J7.pin (b,o) (cR _ (cR _ (hU hb e)))).2.1
      cases ok with |false=>rw[aE bF]at q9⊢;exact again I9 q9 |true=>rw[aD rfl]at q9⊢;refine ab (he _ _ _ _ _ _ s9 σ8 H9 _ I9 q9) fun yv mj ⟨y,ic,oQ,mF,ys,eh,hz,ir⟩=>?_;refine ab (nh _ mj σ8 ic (.ref s2.heap.objs.size) [y] (.ref s2.heap.objs.size) [yv] (fun _ fE=>∃m',m'<n/\W (i+1) m' σ8 fE) oQ rfl (.cons mF .nil) ⟨_,ys,y,rfl,rfl,eh,hz,ir⟩) fun _ mi ⟨v11,fE,oP,yO,mG⟩=>?_;exact again oP mG
  exact codeAny_compStart_list loop (T.self _ 0 _ _ _ iE loop)
theorem ow:∀{zs:List Str}{us:List Value},Vals (zs.map V.str) us->CarriedAll us (zs.map PyData.str) |[],_,.nil=>.nil |z::zs,_,.cons q r=>by obtain⟨t,rfl⟩:=(show∃t,_=Value.str z t from q);exact .cons (.str z t) (ow r)
section
variable {X:Cx}
end
end L2
namespace L2
open PySem PySem.Spec PyProof.Rows
section
variable {X:Cx}{pins:List (Addr×Obj)}{σ:St}{H:Hp}{s:EZ}
end
end L2
namespace L2
open PySem PySem.Spec PyProof.Rows
section
variable {X:Cx}
end
end L2
namespace L2
open PySem PySem.Spec PyProof.Rows
section
variable {prog:F0}{w:World}{A:F2}{E:Value->EZ->Prop}{s:EZ}
end
end L2
namespace L2
open PySem PySem.Spec PyProof.Rows
theorem yS(K:EY){X:Cx}(hK:X.K=K){a:Expr}{ta:TE}(ha:PE X a ta)(he:∀whole,isTrue a X.env whole=(do let v<-whole;standAt a.pos;holding [v] (truthy v)):=by intro _;rfl): PT X a (fun σ H Q=>ta σ H fun x H'=>∃k,oG K x H' k/\Q k H'):=by subst hK;exact yR ha he
inductive vU(K:EY)(x:V)(y:V)(H:Hp)(Q:VK):Prop |mk (a:_)(b:_)(xs:_)(ys:_)(h0:x= .ref a)(h1:y= .ref b)(h2:af K H a xs)(h3:af K H b ys)(h4:xs.length+ys.length<=sizeLine)(h5:∀c H',a8 H H'->af K H' c (xs++ys)->Q (.ref c) H'):vU K x y H Q
def yJ(K:EY):R2:=fun x y H Q=>vU K x y H Q
inductive vA(K:EY)(x:V)(lo:Option Int)(hi:Option Int)(H:Hp)(Q:VK):Prop |mk (a:_)(xs:_)(h0:x= .ref a)(h1:af K H a xs)(h2:∀c H',a8 H H'->af K H' c (cx xs lo hi)->Q (.ref c) H'):vA K x lo hi H Q
def yz(K:EY):V->Option Int->Option Int->Hp->VK->Prop:=fun x lo hi H Q=>vA K x lo hi H Q
theorem Dv{xs:List V}{lo hi:Option Int}(h1:HT.ai xs.length 0 lo=0)(h2:HT.ai xs.length xs.length hi=xs.length):cx xs lo hi=xs:=by unfold cx;rw[h1,h2];simp
section
variable {X:Cx}
theorem ou(K:EY)(hK:X.K=K):aK X (binaryOp .Add) (yJ K):=by
 subst hK;intro pins s σ H x y v u Q I rx ry h;obtain⟨a,b,xs,ys,rfl,rfl,ha,hb,hz,q⟩:=h;cases rx;cases ry;obtain⟨its,r1,p1,_⟩:=I.tuple ha;obtain⟨kl,r2,p2,_⟩:=I.tuple hb;by_cases e0:xs=[]
 · subst e0
   have i0:its=[]:=r1.mW.mpr rfl;subst i0;obtain⟨⟨cls,dd,data,sl⟩,ho,hc,n,hd⟩:=id p1;obtain⟨⟨Dy,kH,data2,jR⟩,gm,gq,n2,hd2⟩:=id p2;simp only at hc hd gq hd2;subst hc hd gq hd2;exact concat_meets ⟨_,ho,rfl⟩ ⟨_,gm,rfl⟩ noFill_tuple_add seq_tuple_add wk wm (wo _ _) (tuple_addW0 a b _ kl.toArray n n2 dd kH sl jR (by simp)) ⟨ho,gm,⟨.ref b,H,I,rfl,q _ _ (a8.refl H) hb⟩⟩
 · refine HT.Dz p1 p2 (fun z=>e0 (r1.mW.mp z)) (fun z=>⟨.ref a,H,I,rfl,?_⟩) (fun z=>?_) (by rw[<-r1.length,<-r2.length];exact hz)
   · have e1:ys=[]:=r2.mW.mp z
     subst e1;exact q _ _ (a8.refl H) (by rw[List.append_nil];exact ha)
   · have hf:H s.heap.objs.size=none:=I.hok.fresh (ak _)
     have nw:Nw H (upd H s.heap.objs.size (.tup (xs++ys))) s.heap.objs.size (.tup (xs++ys)):=.of hf;refine⟨.ref s.heap.objs.size,_,I.laid (t':=s.toks) (o:=.tup (xs++ys)) (fun b ob q=>aC _ q) (ak _) ?_,rfl,q _ _ nw.same (af.of nw.at')⟩;exact⟨by rw[dy];exact hz,_,r1.append r2,IsTup.new _ _⟩
theorem xZ(K:EY)(hK:X.K=K):jg X (yz K):=by
 subst hK;intro pins s σ H x v vl vu lo hi sl Q I rx hs pl pu h;obtain⟨a,xs,rfl,nV,q⟩:=h;by_cases hw:HT.ai xs.length 0 lo=0/\HT.ai xs.length xs.length hi=xs.length
 · cases rx
   obtain⟨its,r,ht,hz⟩:=I.tuple nV;have hlen:its.toArray.size=xs.length:=by rw[bf];exact r.length.symm
   refine⟨"tuple",_,jr.lookup,ht.typeIs,?_⟩;refine HT.CV ht hs pl pu (by rw[hlen];exact hw) ⟨.ref a,H,I,rfl,q _ _ (a8.refl H) ?_⟩;rw[Dv hw.1 hw.2];exact nV
 · refine qs pins s σ H _ v vl vu lo hi sl Q I rx hs pl pu ⟨a,xs,rfl,nV,hw,fun r hr=>?_⟩
   have nw:Nw H (upd H r (.tup (cx xs lo hi))) r (.tup (cx xs lo hi)):=.of hr;exact q _ _ nw.same (af.of nw.at')
end
theorem Du(xs:List V):cx xs none (some (-1))=xs.take (xs.length-1):=by
 unfold cx;have e:=HT.oq (-1) xs.length xs.length;rw[HT.yd];have e2:HT.ai xs.length xs.length (some (-1))=xs.length-1:=by simp at e;omega
 rw[e2];simp
section
variable {X:Cx}
open PyProof
end
end L2
namespace L2
open PySem PySem.Spec PyProof.Rows
section
variable {K:EY} {H H' H2:Hp}
end
end L2
namespace L2
open PySem PySem.Spec PyProof.Rows
section
variable {X:Cx} {tg:Expr}
end
end L2
namespace L2
open PySem PySem.Spec PyProof.Rows
section
variable {P:F0}{w:World}{K:EY}{mg:Str->Option Value}{base:Heap}
end
section
variable {X:Cx}{k:Nat}{x m:Str}{C:Addr}{p pos apos:Pos}{o e:Expr}{es:List Expr}{t:TA}{ta:TE}{sp:Sp}
end
section
variable {K:EY} {H H' H2:Hp}
end
end L2
namespace L2
open PySem PySem.Spec PyProof.Rows
section
variable {X:Cx}
end
theorem tG{K:EY}{mg:Str->Option Value}{x z:Str}{t:Tok}{h:Heap}(X:K.In h)(G:h.Ns mainGlobals mg)(a:PySem.W.nsIn K mainGlobals x=some (some (.str z t))):GV mg x (.str z):=⟨_,oX X G a,t,rfl⟩
end L2
set_option exponentiation.threshold 6000
namespace L2
open PySem PySem.Spec PyProof.Rows
section
variable {X:Cx}
theorem jc:bu X (.type "str") (fun xs H Q=>(∃i,xs=[.int i]/\i.natAbs.log2<1920/\Q (.str (toString i)) H)\/∃z,xs=[.str z]/\Q (.str z) H):=by
 intro pins s σ H xs us Q I r h;rcases h with⟨i,rfl,hz,q⟩|⟨z,rfl,q⟩
 · obtain⟨u,rfl,t,rfl⟩:=vals1 r
   exact PySem.P.str_of_int hz ⟨.str _,H,I.tok _,⟨_,rfl⟩,q⟩
 · obtain⟨u,rfl,t,rfl⟩:=vals1 r
   exact PySem.P.str_of_str ⟨.str _,H,I,⟨_,rfl⟩,q⟩
def yH(x:V)(H:Hp)(Q:VK):Prop:=(∃i,x= .int i/\i.natAbs.log2<1920/\Q (.str (toString i)) H)\/∃z,x= .str z/\z.length<=sizeLine/\Q (.str z) H
theorem ft{e:Expr}{te:TE}{pos:Pos}(h:PE X e te):PE X (.FormattedValue e (-1) none pos) (fun σ H Q=>te σ H fun x H'=>yH x H' Q):=by
 intro pins s σ H Q I ht;refine wpAny_FormattedValue_plain (ab (h pins s σ H _ I ht) fun v s1 ⟨x,H1,I1,r1,q1⟩=>?_);rcases q1 with⟨i,rfl,hz,q⟩|⟨z,rfl,hz,q⟩
 · obtain⟨t,rfl⟩:=r1
   exact wpAny_formatField_int hz ⟨.str _,H1,I1.tok _,⟨_,rfl⟩,q⟩
 · obtain⟨t,rfl⟩:=r1
   exact wpAny_formatField_str ⟨.str _,H1,I1,⟨_,rfl⟩,q⟩ ⟨.str _,H1,I1.tok _,⟨_,rfl⟩,q⟩ hz
abbrev TJ:=Str->St->Hp->VK->Prop
def PJ(X:Cx)(es:List Expr)(t:TJ):Prop:=∀(pins:List (Addr×Obj))(s:EZ)(σ:St)(H:Hp)(Q:VK)(acc:Str),Inv X pins σ H s->t acc σ H Q->Joins (model X.prog X.w) X.A X.xe (evalEach es X.env) acc (fun out s₁=>out.length<=sizeLine/\EP X pins σ Q (.str out s₁.toks) {s₁ with toks:=s₁.toks+1}) s
theorem jY:PJ X [] (fun acc σ H Q=>acc.length<=sizeLine/\Q (.str acc) H):=by intro pins s σ H Q acc I h;exact⟨h.1,.str _,H,I.tok _,⟨_,rfl⟩,h.2⟩
theorem cT{e:Expr}{es:List Expr}{te:TE}{tj:TJ}(h:PE X e te)(hj:PJ X es tj)(he:evalEach (e::es) X.env=eval e X.env::evalEach es X.env:=by rfl): PJ X (e::es) (fun acc σ H Q=>te σ H fun x H'=>∃y,x= .str y/\(acc++y).length<=sizeLine/\tj (acc++y) σ H' Q):=by intro pins s σ H Q acc I ht;rw[he];refine ab (h pins s σ H _ I ht) fun v s1 ⟨x,H1,I1,r1,q1⟩=>?_;obtain⟨y,rfl,hl,q⟩:=q1;obtain⟨t,rfl⟩:=r1;exact⟨y,t,rfl,hl,hj pins s1 σ H1 Q _ I1 q⟩
theorem k0{e1 e2:Expr}{es:List Expr}{t:TJ}{pos:Pos}(h:PJ X (e1::e2::es) t):PE X (.JoinedStr (e1::e2::es) pos) (fun σ H Q=>t Str.empty σ H Q):=fun pins s σ H Q I ht=>wpAny_JoinedStr (h pins s σ H Q _ I ht)
theorem sI(sep:Str){B:Nat}:∀(zs:List Str),(∀z∈zs,z.length<=B)->(Txt.join sep zs).length<=zs.length*(B+sep.length)
  |[],_=>bI _ |a::r,h=>by
    show(Builtin.Str.glued sep (a::r)).length<=_;rw[fH,len_join_cons];have:=sumLen_le_of_bound id B (a::r) h;rw[List.map_id]at this;rw[fk]at this⊢;have e1:(r.length+1)*(B+sep.length)=B*(r.length+1)+(r.length*sep.length+sep.length):=by rw[Nat.mul_add,Nat.mul_comm (r.length+1) B,Nat.add_mul r.length 1 sep.length,Nat.one_mul]
    omega
inductive vH(K:EY)(x:V)(vs:List V)(H:Hp)(Q:VK):Prop |mk (sep:Str)(l:Addr)(zs:List Str)(h0:x= .str sep)(h1:vs=[.ref l])(h2:aa K H l (zs.map V.str))(h3:(∀z∈zs,z.length<=4000))(h4:sep.length<=8)(h5:zs.length<=1000)(h6:Q (.str (Txt.join sep zs)) H):vH K x vs H Q
def rj(K:EY):V->List V->Hp->VK->Prop:=fun x vs H Q=>vH K x vs H Q
theorem AI(K:EY)(hK:X.K=K):i9 X "str.join" (rj K):=by subst hK;intro pins s σ H x vs v us Q I rx rv h;obtain⟨sep,l,zs,rfl,rfl,hl,hz,hs,hn,q⟩:=h;obtain⟨t,rfl⟩:=rx;obtain⟨u,rfl,ru⟩:=vals1 rv;cases(show u=Value.ref l from ru);obtain⟨its,r,pl,_⟩:=I.list hl;have nH:=sumLen_le_of_bound id 4000 zs hz;rw[List.map_id]at nH;have h1:zs.length*sep.length<=1000*8:=Nat.mul_le_mul hn hs;refine join_list (ys:=zs) pl.isList (StrsAre.of_carried (ow r)) (by omega) fun t' k=>?_;exact⟨.str _,H,I.tok _,⟨_,rfl⟩,q⟩
theorem iM(K:EY)(h:X.K=K){o e:Expr}{to:TE}{t:TA}{apos aq:Pos}(ho:PE X o to)(ha:PA X [e] t) (cw:attributeBase o "join" X.env (eval o X.env)=eval o X.env:=by rfl) (cv:((backTo aq (starEach [e] X.env)).all (fun x=>!x.1)&&(backToKw aq (keywordEach [] X.env)).all (fun x=>x.1.isSome) &&decide ([e].length+([]:List Keyword).length+(if([]:List Keyword).isEmpty then 0 else 1)<30))=true:=by rfl) (cq:(apos.endLine==aq.line)=true:=by rfl)(hs:starEach [e] X.env=(false,eval e X.env)::starEach [] X.env:=by rfl)(cm:(backTo aq (starEach [] X.env)).any (·.1)=false:=by rfl): PE X (.Call (.Attribute o "join" apos) [e] [] aq) (fK K "str" (rj K) to t):=by subst h;exact gW jq PySem.F.slot_str_join PySem.F.type_str_join (AI X.K rfl) ho ha cw cv cq hs cm
theorem pE{i:Int}(h:i.natAbs<10^40):(Str.ofString (toString i)).length<=41:=by rw[PySem.ofString_length];exact int_text_length_le10 (k:=40) (by decide) h
theorem kh{i:Int}(h:i.natAbs<10^40):i.natAbs.log2<1920:=by
 by_cases h0:i.natAbs=0
 ·rw[h0];decide
 ·exact(Nat.log2_lt h0).mpr (jv h (by decide))
theorem uq:∀(l:List (Str×Tok)),Vals ((l.map (·.1)).map V.str) (strValues l) |[]=>.nil |(z,t)::l=>.cons ⟨t,rfl⟩ (uq l)
theorem split_len(x y:Str):(Txt.split x y).length<=x.length+2:=by
 unfold Txt.split;split
 ·simp
 · split
   ·simp
   · have e1:=StrLaws.occ_length_le x y 0 x.length (x.length+1)
     rw[length_partsBetween];omega
inductive vz(x:V)(vs:List V)(H:Hp)(Q:VK):Prop |mk (z y:Str)(h0:x= .str z)(h1:vs=[.str y])(h2:(y.length==0)=false)(h3:z.length+2<=sizeLine)(h4:∀p H',Nw H H' p (.lst ((Txt.split z y).map V.str))->Q (.ref p) H'):vz x vs H Q
def rg:V->List V->Hp->VK->Prop:=fun x vs H Q=>vz x vs H Q
theorem AG:i9 X "str.split" rg:=by
 intro pins s σ H x0 vs v us Q I rx rv h;obtain⟨x,y,rfl,rfl,hy,hz,q⟩:=h;obtain⟨t,rfl⟩:=rx;obtain⟨u0,rfl,u,rfl⟩:=vals1 rv;have key:∀(l:List (Str×Tok))(k:Nat),l.map (·.1)=Txt.split x y->EP X pins σ Q (.ref s.heap.objs.size) {s with toks:=k,heap:=s.heap.push {cls:=.type "list",data:=.seq (strValues l).toArray}}:=fun l k e=>by have nw:Nw H (upd H s.heap.objs.size (.lst ((Txt.split x y).map V.str))) s.heap.objs.size (.lst ((Txt.split x y).map V.str)):=.of (I.hok.fresh (ak _));refine⟨.ref s.heap.objs.size,_,I.laid (t':=k) (o:=.lst ((Txt.split x y).map V.str)) (fun b ob q=>aC _ q) (ak _) ?_,rfl,q _ _ nw⟩;have:=split_len x y;exact⟨by rw[aG];omega,_,0,by rw[<-e];exact uq l,bh _ rfl⟩
 cases h1:(decide (x.length<y.length)||decide (Builtin.Str.strKind x<Builtin.Str.strKind y))
 · cases hf:(Builtin.Str.occurrences x y 0 x.length (x.length+1)).isEmpty
   · have e1:=StrLaws.occ_length_le x y 0 x.length (x.length+1)
     refine call_meets F.slot_str_split (jo _ _ _) F.entry_str_split (F.args_str_split_2 _ _) (meets_str_split_sep x y t u h1 hy hf (by omega) (by rw[length_partsBetween];omega)) ?_;show wants _ _ _ {s with toks:=_,heap:=s.heap.push {cls:=.type "list",data:=.seq (strsFrom s.toks (Builtin.Str.partsBetween x (Builtin.Str.occurrences x y 0 x.length (x.length+1)) y.length)).toArray}};rw[strsFrom_eq];exact key (numbered s.toks _) _ ((numbered_texts _ _).trans ((aE (wg h1)).trans (aE (wg hf))).symm)
   ·exact call_meets F.slot_str_split (jo _ _ _) F.entry_str_split (F.args_str_split_2 _ _) (meets_str_split_not_found x y t u h1 hy hf) (key [(x,t)] s.toks ((aE (wg h1)).trans (aD hf)).symm)
 ·exact call_meets F.slot_str_split (jo _ _ _) F.entry_str_split (F.args_str_split_2 _ _) (meets_str_split_cannot_occur x y t u h1) (key [(x,t)] s.toks (aD h1).symm)
theorem rG(K:EY)(h:X.K=K){o e:Expr}{to:TE}{t:TA}{apos aq:Pos}(ho:PE X o to)(ha:PA X [e] t) (cw:attributeBase o "split" X.env (eval o X.env)=eval o X.env:=by rfl) (cv:((backTo aq (starEach [e] X.env)).all (fun x=>!x.1)&&(backToKw aq (keywordEach [] X.env)).all (fun x=>x.1.isSome) &&decide ([e].length+([]:List Keyword).length+(if([]:List Keyword).isEmpty then 0 else 1)<30))=true:=by rfl) (cq:(apos.endLine==aq.line)=true:=by rfl)(hs:starEach [e] X.env=(false,eval e X.env)::starEach [] X.env:=by rfl)(cm:(backTo aq (starEach [] X.env)).any (·.1)=false:=by rfl): PE X (.Call (.Attribute o "split" apos) [e] [] aq) (fK K "str" rg to t):=by subst h;exact gW jq PySem.F.slot_str_split PySem.F.type_str_split AG ho ha cw cv cq hs cm
inductive vF(x:V)(vs:List V)(H:Hp)(Q:VK):Prop |mk (z y:Str)(h0:x= .str z)(h1:vs=[.str y])(h3:z.length<=sizeLine)(h4:Q (.str (Txt.removeprefix z y)) H):vF x vs H Q
def rh:V->List V->Hp->VK->Prop:=fun x vs H Q=>vF x vs H Q
theorem AH:i9 X "str.removeprefix" rh:=by intro pins s σ H x0 vs v us Q I rx rv h;obtain⟨x,y,rfl,rfl,hz,q⟩:=h;obtain⟨t,rfl⟩:=rx;obtain⟨u0,rfl,u,rfl⟩:=vals1 rv;exact SC.removeprefix (fun t' k=>⟨.str _,H,I.kept (t':=k) (fun _ _ e=>e),⟨_,rfl⟩,q⟩) (hsz:=hz)
theorem zp(K:EY)(h:X.K=K){o e:Expr}{to:TE}{t:TA}{apos aq:Pos}(ho:PE X o to)(ha:PA X [e] t) (cw:attributeBase o "removeprefix" X.env (eval o X.env)=eval o X.env:=by rfl) (cv:((backTo aq (starEach [e] X.env)).all (fun x=>!x.1)&&(backToKw aq (keywordEach [] X.env)).all (fun x=>x.1.isSome) &&decide ([e].length+([]:List Keyword).length+(if([]:List Keyword).isEmpty then 0 else 1)<30))=true:=by rfl) (cq:(apos.endLine==aq.line)=true:=by rfl)(hs:starEach [e] X.env=(false,eval e X.env)::starEach [] X.env:=by rfl)(cm:(backTo aq (starEach [] X.env)).any (·.1)=false:=by rfl): PE X (.Call (.Attribute o "removeprefix" apos) [e] [] aq) (fK K "str" rh to t):=by subst h;exact gW jq PySem.F.slot_str_removeprefix PySem.F.type_str_removeprefix AH ho ha cw cv cq hs cm
inductive vO(xs:List V)(H:Hp)(Q:VK):Prop |mk (z:Str)(n:Int)(h0:xs=[.str z])(h1:PySem.intText? z=some n)(h2:z.length<=640)(h3:Q (.int n) H):vO xs H Q
theorem DH:bu X (.type "int") (fun xs H Q=>vO xs H Q):=by intro pins s σ H xs us Q I r h;obtain⟨z,n,rfl,hn,hl,q⟩:=h;obtain⟨u,rfl,t,rfl⟩:=vals1 r;exact PySem.W.KIN.call_text hn hl ⟨.int _,H,I.tok _,⟨_,rfl⟩,q⟩
end
section
variable {X:Cx}
inductive wb(K:EY)(t1 t2:TG)(v:V)(σ:St)(H:Hp)(Q:St->Hp->Prop):Prop |mk (a:Addr)(x:V)(xs:List V)(h0:v= .ref a)(h1:aa K H a (x::xs))(h2:xs.length<=16000)(h3:∀p H',Nw H H' p (.lst xs)->t1 x σ H' fun σ1 H1=>t2 (.ref p) σ1 H1 Q):wb K t1 t2 v σ H Q
def CZ(K:EY)(t1 t2:TG):TG:=fun v σ H Q=>wb K t1 t2 v σ H Q
theorem ze(K:EY)(hK:X.K=K){e1 e2:Expr}{k:Nat}{t1 t2:TG}{sp pos:Pos}(hc:X.calm=true)(h1:PG X e1 t1)(h2:PG X e2 t2) (hs:assignEach [e1,.Starred e2 sp] X.env=[(false,assign e1 X.env),(true,assign e2 X.env)]:=by rfl):PG X (.Tuple [e1,.Starred e2 sp] k pos) (CZ K t1 t2):=by subst hK;intro pins s σ H v u Q I r hw;obtain⟨a,x,xs,e,hq,hl,hw⟩:=hw;subst e;cases r;obtain⟨its,rv,ht,hz⟩:=I.list hq;have hh:X.A.handled=none:=I.ok.hd hc;have j0:=ht.isList;cases rv with |cons r1 rr=>
    rename_i ux bM;have hlen:=rr.length;have aM:a≠s.heap.objs.size:=by obtain⟨o,ho,_⟩:=j0;exact bw (aw ho)
    rw[assign_Tuple];refine a7 (wpAny_standAt ?_);unfold unpack;rw[hs];refine a7 (fg ?_);show wpAny _ _ (unpackItems (.ref a) 2 (some 1)) _ _ _;unfold unpackItems;refine a7 ?_;unfold notIterableAtAll;refine a7 (wpAny_specialOf j0.typeIs slot_list_iter.lookup ?_);refine aA ?_;simp only[Bool.false_eq_true,if_false];refine a7 (fg (jl j0 ?_));have sz:(ux::bM).toArray.size=xs.length+1:=by rw[bf,fk,hlen]
    refine a7 (fg (PySem.W.kun_draw aM 1 0 _ _ ⟨_,bh _ rfl,rfl,rfl⟩ (j0.push _) (by omega) fun h₁ nP sW=>?_));have td:h₁.IsList a (ux::bM).toArray:=(j0.push _).extBut sW.extBut aM;rw[Nat.zero_add]at nP;have C1:=nP;obtain⟨oi,cn,_⟩:=C1;have BU:=td;obtain⟨ol,eT,_⟩:=BU;rw[aE (by simp)];refine a7 (fg (PySem.W.kun_collect (s:={s with heap:=h₁}) (T:="list_iterator") (.inr (.inr (.inl rfl))) (Walks.list (A:=X.A.in1) hh s.heap.objs.size a aM (ux::bM).toArray) (fun j u st=>st.1.typeIs) (k:=1) (by omega) ⟨nP,td⟩ (aw cn) (aw eT) (fun h₂ tk hk=>?_) (by rw[kX];omega)));have ea:(ux::bM).toArray.toList.drop 1=bM:=by simp
    rw[ea];show wpAny _ _ (if bM.length<2-1-1 then _ else _) _ _ _;rw[aE (by omega)];show wpAny _ _ (newList (bM.take (bM.length-(2-1-1)))>>=fun d=>pure ((ux::bM).toArray.toList.take 1++[d]++bM.drop (bM.length-(2-1-1)))) _ _ _;have eb:bM.take (bM.length-(2-1-1))=bM:=wu (by omega);have ec:bM.drop (bM.length-(2-1-1))=[]:=List.drop_eq_nil_of_le (by omega);rw[eb,ec];have he:Heap.ExtBut s.heap.objs.size s.heap h₂:=fun b o hb e=>hk b o hb (sW.extBut b o hb (aC _ e));refine a7 (wpAny_newList (s:={s with heap:=h₂,toks:=tk}) (aA ?_) ?_)
    · have I2:Inv X pins σ H {s with heap:=h₂,toks:=tk}:=I.kept (t':=tk) fun b o e=>he b o (bw (aw e)) e
      have nw:Nw H (upd H h₂.objs.size (.lst xs)) h₂.objs.size (.lst xs):=.of (I2.hok.fresh (ak _));have I3:Inv X pins σ (upd H h₂.objs.size (.lst xs)) {s with heap:=h₂.push {cls:=.type "list",data:=.seq bM.toArray},toks:=tk}:=I2.laid (t':=tk) (o:=.lst xs) (fun b ob q=>aC _ q) (ak _) ⟨by rw[fk]at hz;omega,bM,0,rr,bh _ rfl⟩;show wpAny _ _ (assignInOrder (assign e1 X.env::[assign e2 X.env]) (ux::[Value.ref h₂.objs.size])) _ _ _;refine assignInOrder_cons (ab (h1 pins _ σ _ _ _ _ I3 r1 (hw _ _ nw)) fun _ s1 ⟨σ1,H1,I1,q1⟩=>?_);refine assignInOrder_cons (ab (h2 pins s1 σ1 H1 (.ref h₂.objs.size) _ _ I1 rfl q1) fun _ s2 ⟨σ2,H2,I2,q2⟩=>?_);exact assignInOrder_nil ⟨σ2,H2,I2,q2⟩
    ·rw[<-hlen,kX];omega
end
end L2
namespace L2
open PySem PySem.Spec PyProof.Rows
def ia(z:Str):It:=⟨fun i _=>i<z.cps.size,fun i H x H'=>H'=H/\∃c,z.cps.toList[i]? =some c/\x= .str ⟨#[c]⟩,fun i _=>z.cps.size<=i⟩
theorem xg{P:F0}{w:World}{K:EY}{tg:Expr}(it:Addr)(z:Str)(t:Tok)(ty:String)(nG:["enumerate","zip","dict_itemiterator","dict_reverseitemiterator","odict_iterator","itertools.zip_longest","itertools.pairwise"].contains ty=false) (W:∀A':F2,A'.handled=none->Walks P w A' it [it] [it] z.cps.size (SignAt z) (fun i h=>h.IsStrIter it ty z t i)) (self:∀(A:F2)(i:Nat)(s:EZ)(Q:Value->EZ->Prop)(E:Value->EZ->Prop),s.heap.IsStrIter it ty z t i->Q (.ref it) s->wpAny (model P w) A (pyIter (.ref it)) Q E s): Turn P w K tg (ia z) [it] it (fun i h=>h.IsStrIter it ty z t i/\i<=z.cps.size) where
  mem:=by simp
  obj:=fun i h st b hb=>by
   have e:b=it:=by simpa using hb
   subst e;obtain⟨⟨o,e,c,d⟩,_⟩:=st;exact⟨o,e,fun v z=>by rw[d]at z;cases z⟩
  keep:=fun i h h' st k=>⟨let⟨o,e,r⟩:=st.1;⟨o,k it (by simp) o e,r⟩,st.2⟩
  item:=by intro X hP hw hK hc i pins s σ H E I hf st hg;subst hP hw hK;obtain⟨f0,f1,f2,f3,f4,f5⟩:=hf it (by simp);refine(W X.A (I.ok.hd hc)).item i s _ _ hg st.1 fun v h' tk hv dC kk=>?_;obtain⟨c,u,ec,rfl⟩:=hv;have I1:Inv X pins σ H {s with heap:=h',toks:=tk}:=I.turned (fun b o hb e=>kk b o (by simpa using hb) e) f0 f1 f3 f4 f5;obtain⟨o,e,cl,d⟩:=id dC;exact⟨_,rfl,kA (s:={s with heap:=h',toks:=tk}) e cl d nG ⟨.str ⟨#[c]⟩,H,I1,⟨u,rfl⟩,⟨rfl,c,by simpa using ec,rfl⟩,⟨dC,hg⟩,fun b hb=>(hf b hb).1⟩⟩
  done:=by intro X hP hw hK hc i pins s σ H E I hf st hg;subst hP hw hK;obtain⟨f0,f1,f2,f3,f4,f5⟩:=hf it (by simp);obtain⟨st,hle⟩:=st;have ei:i=z.cps.size:=Nat.le_antisymm hle hg;subst ei;exact(W X.A (I.ok.hd hc)).done s _ _ st fun h' tk eb=>⟨rfl,I.turned (fun b o hb e=>eb b o (by simpa using hb) e) f0 f1 f3 f4 f5⟩
  self:=fun A i s Q E st h=>self A i s Q E st.1 h
section
variable {X:Cx} {tg:Expr}
inductive vY(R:It->Hp->Prop)(x:V)(H1:Hp):Prop |mk (z:_)(h0:x= .str z)(h1:R (ia z) H1):vY R x H1
def Bp(tl:TE):TI:=fun σ H R=>tl σ H fun x H1=>vY R x H1
theorem mI{l:Expr}{tl:TE}(hl:PE X l tl):PI X tg l (Bp tl):=by
 intro pins s σ H R I h;refine ab (hl pins s σ H _ I h) fun v s1 ⟨x,H1,I1,r1,q1⟩=>?_;obtain⟨z,e,q⟩:=q1;subst e;obtain⟨t,rfl⟩:=r1;have fin:∀ty,["enumerate","zip","dict_itemiterator","dict_reverseitemiterator","odict_iterator","itertools.zip_longest","itertools.pairwise"].contains ty=false->(∀A':F2,A'.handled=none->Walks X.prog X.w A' s1.heap.objs.size [s1.heap.objs.size] [s1.heap.objs.size] z.cps.size (SignAt z) (fun i h=>h.IsStrIter s1.heap.objs.size ty z t i))->(∀(A:F2)(i:Nat)(s:EZ)(Q:Value->EZ->Prop)(E:Value->EZ->Prop),s.heap.IsStrIter s1.heap.objs.size ty z t i->Q (.ref s1.heap.objs.size) s->wpAny (model X.prog X.w) A (pyIter (.ref s1.heap.objs.size)) Q E s)->oJ X pins σ tg R (.ref s1.heap.objs.size) {s1 with heap:=s1.heap.push {cls:=.type ty,data:=.fields #[.str z t,.int 0 0]}}:=fun ty h1 h2 h3=>by
   refine⟨s1.heap.objs.size,[s1.heap.objs.size],_,_,H1,rfl,I1.kept (t':=s1.toks) fun b o e=>aC _ e,xg _ z t ty h1 h2 h3,⟨⟨_,bh _ rfl,rfl,rfl⟩,bI _⟩,fun b hb=>?_,q⟩;have e:b=s1.heap.objs.size:=by simpa using hb
   subst e;exact I1.fz (ak _) (I1.hok.fresh (ak _))
 cases ha:z.cps.all (·<128)
 ·exact wpAny_pyIter_wide ha (fin "str_iterator" (by decide) (fun A' hA=>Walks.strWide hA _ z t) (fun _ _ _ _ _ st h=>wpAny_pyIter_striter_wide st h))
 ·exact wpAny_pyIter_ascii ha (fin "str_ascii_iterator" (by decide) (fun A' hA=>Walks.strAscii hA _ z t) (fun _ _ _ _ _ st h=>wpAny_pyIter_striter_ascii st h))
theorem ug{z:Str}{f:Nat->Bool}{te:TE}{Q:VK}{D:Addr}{H H0:Hp}(rest:St)(nw:Nw H H0 D (.lst []))(hz:z.length<=1000) (hs:∀(c:Nat)(H2:Hp)(Q':VK),c∈z.cps.toList->a8 H H2->(∀H3,a8 H2 H3->Q' (.bl (f c)) H3)->te (some (.str ⟨#[c]⟩)::rest) H2 Q') (hq:∀H',a8 H H'->H' D=some (.lst ((z.cps.toList.map f).map V.bl))->Q (.ref D) H'):dR (ia z) (c5 0) dg te Q D (none::rest) H0:=by
  have hl:z.cps.toList.length=z.cps.size:=by simp
  refine uh (xs:=z.cps.toList.map fun c=>V.str ⟨#[c]⟩) (bs:=z.cps.toList.map f) rest nw (by simp) (by simpa[Str.length]using hz) ?_ ?_ ?_ hq
  · intro i x H2 ex s2
    rw[bC]at ex;cases ec:z.cps.toList[i]? with |none=>rw[ec]at ex;cases ex |some c=>rw[ec]at ex;cases ex;refine⟨by have:=(dW.mp ec).1;show i<z.cps.size;omega,fun y H3 ⟨e3,c',tX,e⟩=>⟨e3,?_⟩⟩;rw[ec]at tX;cases tX;exact e
  · intro H2 s2
    show z.cps.size<=(z.cps.toList.map _).length;rw[aG,hl];exact ak _
  · intro i x b H2 Q' ex eb s2 BJ
    rw[bC]at ex eb;cases ec:z.cps.toList[i]? with |none=>rw[ec]at ex;cases ex |some c=>rw[ec]at ex eb;cases ex;cases eb;exact hs c H2 Q' (cF ec) s2 BJ
theorem rM:aK X (compareOp .In) (fun x y H Q=>∃c j,x= .str ⟨#[c]⟩/\y= .str j/\Q (.bl (decide (c∈j.cps.toList))) H):=by intro pins s σ H x y v u Q I rx ry h;obtain⟨c,j,rfl,rfl,q⟩:=h;refine zB pins s σ H _ _ v u Q I rx ry ⟨_,_,rfl,rfl,?_⟩;rw[PySem.StrLaws.found_one];exact q
inductive vP(K:EY)(x:V)(y:V)(H:Hp)(Q:VK):Prop |mk (p:_)(xs:_)(d:_)(ds:_)(h0:y= .ref p)(h1:af K H p xs)(h2:RD K H x d)(h3:ae K H xs ds)(h4:SeqAt.shaped d=true)(h5:(∀e∈ds,SeqAt.shaped e=true))(h6:Q (.bl (ds.any fun e=>PyData.eqv e d)) H):vP K x y H Q
def yG(K:EY):R2:=fun x y H Q=>vP K x y H Q
theorem Bm(K:EY)(hK:X.K=K)(hu:X.A.units+65<cLine):aK X (compareOp .In) (yG K):=by
 subst hK;intro pins s σ H x y v u Q I rx ry h;obtain⟨p,xs,d,ds,rfl,hx,hd,gp,sd,y9,q⟩:=h;cases ry;obtain⟨its,r,pl,hz⟩:=I.tuple hx;obtain⟨k1,k2⟩:=tT I hu rx hd sd r gp y9;refine SeqAt.in_tupleAt (gx s.heap d) (show s.heap.IsTuple p its.toArray from pl) (fun w hw=>k1 w (by simpa using hw)) ⟨.bl _,H,I,rfl,?_⟩;have e:its.toArray.any (gx s.heap d)=ds.any fun e=>PyData.eqv e d:=by rw[<-k2];simp
 rw[e];exact q
end
end L2
namespace L2
open PySem PySem.Spec PyProof.Rows
theorem yk:typeLookup (.type "list_reverseiterator") "__len__"=pure none:=by rw[typeLookup_type,builtinLookup_eq_fast];kernel_rfl
theorem yn:typeLookup (.type "list_reverseiterator") "__length_hint__"=pure (some (.builtin "list_reverseiterator.__length_hint__")):=by rw[typeLookup_type,builtinLookup_eq_fast];kernel_rfl
section
variable {prog:F0}{w:World}{A:F2}{E:Value->EZ->Prop}{s:EZ}
def kO(I l:Addr)(its:Array Value)(i:Nat)(s:EZ):Prop:=i<=its.size/\s.heap.IsRevIter I l ((its.size:Int)-1-(i:Int))/\s.heap.IsList l its
theorem yi(hh:A.handled=none)(I l:Addr)(bt:l≠I)(its:Array Value): WalksS prog w A I [I,l] [I] Eq its.size (fun i v=>its[its.size-1-i]? =some v) (kO I l its) where
  sub:=fun b hb=>aW.mpr (.inl (bR.mp hb))
  grefl:=fun _=>rfl
  gtrans:=fun _ _ _=>Eq.trans
  frame:=fun i s h' tk x _ hk=>⟨x.1,x.2.1.at fun o e=>hk I (by simp) o e,x.2.2.at fun o e=>hk l (by simp) o e⟩
  item:=fun i s Q E hi x hQ=>by
   have e:(its.size:Int)-1-(i:Int)=((its.size-1-i:Nat):Int):=by omega
   have hit:=x.2.1;rw[e]at hit;refine wpAny_pyNext_rev_item hit x.2.2 (pk (i:=its.size-1-i) (by omega)) fun h' C3 sY=>?_;refine hQ _ {s with heap:=h'} (pk (by omega)) ⟨hi,?_,x.2.2.at fun o eo=>(sY.2 l bt).trans eo⟩ ⟨fun b o hb eo=>sY.extBut b o (fun z=>hb (bR.mpr z)) eo,rfl,rfl,rfl,ak _⟩;have e2:((its.size-1-i:Nat):Int)-1=(its.size:Int)-1-((i+1:Nat):Int):=by omega
   rw[<-e2];exact C3
  done:=fun s Q E x hQ=>by have hit:=x.2.1;rw[show(its.size:Int)-1-(its.size:Int)=-1 by omega]at hit;exact wpAny_pyNext_rev_end hh hit fun h' nR=>hQ {s with heap:=h'} ⟨fun b o hb eo=>nR b o (fun z=>hb (bR.mpr z)) eo,rfl,rfl,rfl,ak _⟩
  self:=fun _ _ _ _ x hQ=>wpAny_pyIter_revIter x.2.1 hQ
theorem yo{I l:Addr}{its:Array Value}{Q:List Value->EZ->Prop}(hh:A.handled=none)(bt:l≠I)(x:kO I l its 0 s)(hI:I<s.heap.objs.size)(hl:l<s.heap.objs.size)(hn:its.size<=sizeLine) (hQ:∀s' acc,Moved [I] Eq s s'->ItemsOf (fun i v=>its[its.size-1-i]? =some v) acc its.size->Q acc.toList s'):wpAny (model prog w) A (collect (.ref I)) Q E s:=by
  have W:=yi (prog:=prog) (w:=w) (A:=A.in1) hh I l bt its;have hT:∀{i s},kO I l its i s->s.TypeIs (.ref I) "list_reverseiterator":=fun y=>y.2.1.typeIs;obtain⟨S,hS⟩:∃S,s.heap.objs.size=S:=⟨_,rfl⟩;let nw:Obj:={cls:=.type "list",data:=.seq ([]:List Value).toArray};have tD:S≠I:=ju (hS▸hI);have CC:S≠l:=ju (hS▸hl);have CD:S∉[I,l]:=by simp[tD,CC]
  have sf:Builtin.List.listSameRef (.ref S) (.ref I)=false:=by simp[Builtin.List.listSameRef,tD]
  have y:=W.frame 0 s (s.heap.push nw) s.toks x (ak _) fun b _ o e=>aC _ e;have aS:(s.heap.push nw).get? S=some nw:=by rw[<-hS];exact bh _ rfl
  unfold collect;apply a7;apply wpAny_runValue;apply codeAny_builtin F.entry_proto_collect;rw[Around.under_plainId F.plain_proto_collect _];apply a7 (m:=newList []);refine fF ?_;rw[hS];refine aA ⟨plainId_quiet F.plain_list_iadd _,codeAny_builtin F.entry_list_iadd ?_⟩;rw[Around.under_plainId F.plain_list_iadd _];show wpAny _ A.in1 (Builtin.List.listExtendWith (.ref S) (.ref I) (.ref S)) _ _ _;unfold Builtin.List.listExtendWith;apply a7;apply kW (hT y);rw[aE (by rw[sf];decide)];apply a7;apply W.self 0 _ _ _ y;apply a7;apply fg;unfold Builtin.List.listLengthHint;apply a7;apply wpAny_specialOf (hT y) yk;apply a7 (m:=specialOf (Value.ref I) (Str.ofString "__length_hint__"));apply wpAny_specialOf (hT y) yn
  (generalize tp:("list_reverseiterator.__length_hint__":String)=z0;wp_delta;rw[show splitId z0=some ("list_reverseiterator","__length_hint__")from by subst tp;decide+kernel];subst tp);apply a7;apply wpAny_isInstance (b:=true) (hT y) (by rw[isSubtype_type];kernel_rfl);apply aA;rw[aE (by decide)];refine aA ⟨plainId_quiet F.plain_extend_loop _,codeAny_extend_loopS W hn _ CD _ its.size 0 _ _ _ rfl (bI _) y aS (ItemsOf.nil _) fun s' E2 c' hm eY hZ=>?_⟩;apply a7 (m:=load S);apply wpAny_load eY;exact aA (hQ s' E2 (Moved.drop_new (o:=nw) (tk:=s.toks) (hS▸hm) (ak _)) hZ)
theorem yj(sep:Str):∀(ps:List (Str×Tok)),JoinOk sep (ps.map (·.1))=true->Gives (PySem.joinTail sep (strValues ps)) (joinMade sep ps) |[],h=>gives_joinTail sep [] ((lq _).mp h) |[p],h=>gives_joinTail sep [p] ((lq _).mp h) |p::q::r,h=>gives_joinTail sep (p::q::r) ((lq _).mp h)
theorem yl{I l:Addr}{its:Array Value}{zs:List Str}{sep:Str}{t:Tok}{Q:Value->EZ->Prop}(hh:A.handled=none)(bt:l≠I)(x:kO I l its 0 s)(hI:I<s.heap.objs.size)(hl:l<s.heap.objs.size) (hz:StrsAre its.toList zs)(hn:its.size<=sizeLine)(hok:(zs.map (·.length)).sum+zs.length*sep.length<=16777216) (hQ:∀h' t' k,(∀b o,b≠I->s.heap.get? b=some o->h'.get? b=some o)->Q (.str (Txt.join sep zs.reverse) t') {s with heap:=h',toks:=k}): wpAny (model prog w) A (call (.builtin "str.join") [.str sep t,.ref I]) Q E s:=by
  have hT:s.TypeIs (.ref I) "list_reverseiterator":=x.2.1.typeIs;apply wpAny_call;refine codeAny_call_builtin F.slot_str_join.plain F.entry_str_join (F.slot_str_join.check _ _ _ _ _ _ _ _ (jo _ _ _) (F.args_str_join_2 _ _) ?_);rw[join_tree_other];refine a7 (kW hT ?_);show wpAny _ A.in1 ((pyIter (.ref I)).tryCatch _>>=fun it=>collect it>>=fun vs=>PySem.joinTail sep vs) _ _ s;refine a7 (wpAny_tryCatch (wpAny_pyIter_revIter x.2.1 ?_));refine a7 (yo hh bt x hI hl hn fun s' acc hm hZ=>?_);have ea:acc.toList=its.toList.reverse:=by
   refine List.ext_getElem? fun j=>?_;by_cases hj:j<its.size
   · have h1:=hZ.2 j _ (pk (by rw[hZ.1];exact hj))
     rw[List.getElem?_reverse (by simpa using hj),dX,wK,wK];exact(pk (by rw[hZ.1];exact hj)).trans h1.symm
   ·exact(List.getElem?_eq_none (by rw[dX,hZ.1];omega)).trans (List.getElem?_eq_none (by rw[List.length_reverse,dX];omega)).symm
  obtain⟨ps,hv,ht⟩:=strsAre_values hz;have ev:strValues ps.reverse=acc.toList:=by rw[ea,hv];unfold strValues;rw[wz]
  have et:(ps.reverse).map (·.1)=zs.reverse:=by rw[wz,ht]
  have ok:JoinOk sep (ps.reverse.map (·.1))=true:=joinOk_of (by rw[et,wz,List.sum_reverse,List.length_reverse];exact hok);rw[<-ev];have Ac:=(lq _).mp ok;have post:(Txt.join sep (ps.reverse.map (·.1))).length<=sizeLine/\∀t' k,Q (.str (Txt.join sep (ps.reverse.map (·.1))) t') {s' with toks:=k}:=by
   refine⟨joinFit_length Ac,fun t' k=>?_⟩;rw[et];have e:({s' with toks:=k}:EZ)={s with heap:=s'.heap,toks:=k}:=by rcases s' with⟨a,b,c,d,f⟩;have e1:_=b:=hm.gens;have e2:c=_:=hm.drawn;have e3:f=_:=hm.os;subst e1 e2 e3;rfl
   rw[e];exact hQ _ t' k fun b o hb eo=>hm.heap b o (fun z=>hb (bR.mp z)) eo
  exact yj sep ps.reverse ok prog w A (wants Q E) s' (post_join ps.reverse post)
end
section
variable {X:Cx}
inductive vI(K:EY)(x:V)(vs:List V)(H:Hp)(Q:VK):Prop |mk (sep:Str)(l:Addr)(zs:List Str)(h0:x= .str sep)(h1:vs=[.ref l])(h2:aa K H l (zs.map V.str))(h3:(∀z∈zs,z.length<=4000))(h4:sep.length<=8)(h5:zs.length<=1000)(h6:Q (.str (Txt.join sep zs.reverse)) H):vI K x vs H Q
def xH(K:EY)(to:TE)(t:TA):TE:=fun σ H Q=>to σ H fun x H1=>lD K "str" x H1/\t σ H1 fun vs H2=>vI K x vs H2 Q
theorem zq(K:EY)(h:X.K=K){o a:Expr}{to:TE}{t:TA}{apos aq p pos:Pos}(hg:Gl X "reversed")(hm:X.mg "reversed"=none)(ho:PE X o to)(ha:PA X [a] t)(hc:X.calm=true:=by rfl) (cw:attributeBase o "join" X.env (eval o X.env)=eval o X.env:=by rfl) (cv:((backTo aq (starEach [.Call (.Name "reversed" p) [a] [] pos] X.env)).all (fun x=>!x.1)&&(backToKw aq (keywordEach [] X.env)).all (fun x=>x.1.isSome) &&decide ([Expr.Call (.Name "reversed" p) [a] [] pos].length+([]:List Keyword).length+(if([]:List Keyword).isEmpty then 0 else 1)<30))=true:=by rfl) (cq:(apos.endLine==aq.line)=true:=by rfl)(hs:starEach [.Call (.Name "reversed" p) [a] [] pos] X.env=(false,eval (.Call (.Name "reversed" p) [a] [] pos) X.env)::starEach [] X.env:=by rfl) (cm:(backTo aq (starEach [] X.env)).any (·.1)=false:=by rfl)(BH:starEach [a] X.env=[(false,eval a X.env)]:=by rfl)(fx:starEach [] X.env=[]:=by rfl): PE X (.Call (.Attribute o "join" apos) [.Call (.Name "reversed" p) [a] [] pos] [] aq) (xH K to t):=by
  subst h;intro pins s σ H Q I h;refine wpAny_Call_method_late cw cv cq rfl (ab (ho pins s σ H _ I h) fun v s1 ⟨x,H1,I1,r1,ty,q1⟩=>?_);obtain⟨h1,h2⟩:=pD I1 r1 ty;refine⟨"str","str.join",jq,PySem.F.slot_str_join,PySem.F.type_str_join,h1,h2,?_⟩;rw[hs];refine Calls.callWith_builtin (by show(false||(backTo aq (starEach [] X.env)).any (·.1))=false;rw[cm]<;>rfl) (Calls.evalArgs_plain ?_);show wpAny _ _ (spliced ((false,eval (.Call (.Name "reversed" p) [a] [] pos) X.env)::backTo aq (starEach [] X.env))) _ _ s1;refine Calls.spliced_cons ?_;refine Call_ (gd I1 hg hm PyProof.Rows.boot_reversed (kZ (ab (ha pos pins s1 σ H1 _ I1 q1) fun us s2 ⟨vs,H2,I2,r2,q2⟩=>?_) (by rw[BH,fx]) (by rw[fx];rfl)));obtain⟨sep,l,zs,rfl,rfl,hl,hz,hb,hn,q⟩:=q2;obtain⟨tk,rfl⟩:=r1;obtain⟨u,rfl,ru⟩:=vals1 r2;cases(show u=Value.ref l from ru);obtain⟨its,r,pl,_⟩:=I2.list hl;have hlen:=r.length;rw[aG]at hlen;have nH:=sumLen_le_of_bound id 4000 zs hz;rw[List.map_id]at nH;have hle:zs.length*sep.length<=1000*8:=Nat.mul_le_mul hn hb;refine call_reversed_list pl.isList ?_;have fresh:=I2.hok.fresh (ak s2.heap.objs.size);have I3:Inv X pins σ H2 {s2 with heap:=s2.heap.push (revObj l ((its.toArray.size:Int)-1))}:=I2.kept (t':=s2.toks) fun b o e=>aC _ e;obtain⟨f0,f1,f2,f3,f4,f5⟩:=I2.fz (pins:=pins) (ak s2.heap.objs.size) fresh;refine Calls.spliced_nil ?_;have bt:l≠s2.heap.objs.size:=fun z=>by obtain⟨o,ho,_⟩:=pl.isList;exact absurd (aw ho) (by rw[z];exact il _)
  have eU:l<s2.heap.objs.size:=by obtain⟨o,ho,_⟩:=pl.isList;exact aw ho
  have aM:∀{b},b<=s2.heap.objs.size->b<(s2.heap.push (revObj l ((its.toArray.size:Int)-1))).objs.size:=fun{b} e=>by rw[gI];exact Nat.lt_succ_of_le e
  refine yl (its:=its.toArray) (zs:=zs) (I2.ok.hd hc) bt ⟨bI _,⟨_,bh _ rfl,rfl,by show Data.fields _=Data.fields _;simp⟩,Heap.IsList.at pl.isList fun o e=>aC _ e⟩ (aM (ak _)) (aM (l5 eU)) (StrsAre.of_carried (ow r)) (by rw[bf,<-hlen,kX];omega) (by omega) fun h' t' k kk=>?_;exact⟨.str _,H2,I3.turned (t':=k) kk f0 f1 f3 f4 f5,⟨_,rfl⟩,q⟩
inductive vw(x:V)(vs:List V)(H:Hp)(Q:VK):Prop |mk (z:Str)(i:Int)(h0:x= .str z)(h1:vs=[.int i])(h3:PadOk i=true)(h4:Q (.str (Txt.zfill z i)) H):vw x vs H Q
def r9:V->List V->Hp->VK->Prop:=fun x vs H Q=>vw x vs H Q
theorem AE:i9 X "str.zfill" r9:=by intro pins s σ H x0 vs v us Q I rx rv h;obtain⟨x,i,rfl,rfl,hp,q⟩:=h;obtain⟨t,rfl⟩:=rx;obtain⟨u0,rfl,u,rfl⟩:=vals1 rv;exact SC.zfill hp fun t' k=>⟨.str _,H,I.tok k,⟨_,rfl⟩,q⟩
theorem zm(K:EY)(h:X.K=K){o e:Expr}{to:TE}{t:TA}{apos aq:Pos}(ho:PE X o to)(ha:PA X [e] t) (cw:attributeBase o "zfill" X.env (eval o X.env)=eval o X.env:=by rfl) (cv:((backTo aq (starEach [e] X.env)).all (fun x=>!x.1)&&(backToKw aq (keywordEach [] X.env)).all (fun x=>x.1.isSome) &&decide ([e].length+([]:List Keyword).length+(if([]:List Keyword).isEmpty then 0 else 1)<30))=true:=by rfl) (cq:(apos.endLine==aq.line)=true:=by rfl)(hs:starEach [e] X.env=(false,eval e X.env)::starEach [] X.env:=by rfl)(cm:(backTo aq (starEach [] X.env)).any (·.1)=false:=by rfl): PE X (.Call (.Attribute o "zfill" apos) [e] [] aq) (fK K "str" r9 to t):=by subst h;exact gW jq PySem.F.slot_str_zfill PySem.F.type_str_zfill AE ho ha cw cv cq hs cm
inductive vy(x:V)(vs:List V)(H:Hp)(Q:VK):Prop |mk (z y:Str)(h0:x= .str z)(h1:vs=[.str y])(h4:Q (.bl (Txt.startswith z y)) H):vy x vs H Q
def rf:V->List V->Hp->VK->Prop:=fun x vs H Q=>vy x vs H Q
theorem AF:i9 X "str.startswith" rf:=by intro pins s σ H x0 vs v us Q I rx rv h;obtain⟨x,y,rfl,rfl,q⟩:=h;obtain⟨t,rfl⟩:=rx;obtain⟨u0,rfl,u,rfl⟩:=vals1 rv;exact SC.startswith ⟨.bl _,H,I,rfl,q⟩
theorem zo(K:EY)(h:X.K=K){o e:Expr}{to:TE}{t:TA}{apos aq:Pos}(ho:PE X o to)(ha:PA X [e] t) (cw:attributeBase o "startswith" X.env (eval o X.env)=eval o X.env:=by rfl) (cv:((backTo aq (starEach [e] X.env)).all (fun x=>!x.1)&&(backToKw aq (keywordEach [] X.env)).all (fun x=>x.1.isSome) &&decide ([e].length+([]:List Keyword).length+(if([]:List Keyword).isEmpty then 0 else 1)<30))=true:=by rfl) (cq:(apos.endLine==aq.line)=true:=by rfl)(hs:starEach [e] X.env=(false,eval e X.env)::starEach [] X.env:=by rfl)(cm:(backTo aq (starEach [] X.env)).any (·.1)=false:=by rfl): PE X (.Call (.Attribute o "startswith" apos) [e] [] aq) (fK K "str" rf to t):=by subst h;exact gW jq PySem.F.slot_str_startswith PySem.F.type_str_startswith AF ho ha cw cv cq hs cm
inductive vT(xs:List V)(H:Hp)(Q:VK):Prop |mk (i j:Int)(h0:xs=[.int i,.int j])(h1:0<j)(h2:Wd j)(h3:∀p H',Nw H H' p (.tup [.int (i/j),.int (i%j)])->Q (.ref p) H'):vT xs H Q
theorem DI:bu X (.builtin "divmod") (fun xs H Q=>vT xs H Q):=by intro pins s σ H xs us Q I r h;obtain⟨i,j,rfl,h1,h2,q⟩:=h;obtain⟨u,w',rfl,⟨t,rfl⟩,⟨t',rfl⟩⟩:=vals2 r;refine divmod_int (by omega) ?_ (.inl (PyProof.noPylong_of_log2 h2.log));rw[Int.fdiv_eq_ediv_of_nonneg i (by omega),Int.fmod_eq_emod_of_nonneg i (by omega)];have hn:H s.heap.objs.size=none:=I.hok.fresh (ak _);refine⟨.ref s.heap.objs.size,upd H s.heap.objs.size (.tup [.int (i/j),.int (i%j)]),?_,rfl,q _ _ (Nw.of hn)⟩;exact I.laid (fun b o e=>aC _ e) (ak _) ⟨by show 2<=sizeLine;decide,[.int (i/j) s.toks,.int (i%j) (s.toks+1)],.cons ⟨_,rfl⟩ (.cons ⟨_,rfl⟩ .nil),_,bh s.heap rfl,rfl,0,rfl⟩
end
theorem D4{z:Str}{g:TG}{tb:TS}{D:Ends}{σ:St}{H:Hp}(Pv:Nat->St->Hp->Prop)(h0:Pv 0 σ H) (hs:∀i c σ H,z.cps.toList[i]? =some c->Pv i σ H->g (.str ⟨#[c]⟩) σ H fun σ2 H2=>tb {D with nx:=Pv (i+1),ct:=Pv (i+1),bk:=D.nx} σ2 H2)(hd:∀σ H,Pv z.cps.size σ H->D.nx σ H): ∃W:Nat->Nat->St->Hp->Prop,(∃m,W 0 m σ H)/\∀i m σ H,W i m σ H->((ia z).stop i H/\D.nx σ H)\/((ia z).go i H/\∃N:St->Hp->Prop,(∀σ' H',N σ' H'->∃m',m'<m/\W (i+1) m' σ' H')/\∀x H',(ia z).yld i H x H'->g x σ H' fun σ2 H2=>tb {D with nx:=N,ct:=N,bk:=D.nx} σ2 H2):=by
  refine⟨fun i m σ H=>m=z.cps.size-i/\i<=z.cps.size/\Pv i σ H,⟨z.cps.size,by simp,bI _,h0⟩,?_⟩;rintro i m σ H ⟨rfl,hi,p⟩;by_cases aM:i<z.cps.size
  · refine .inr ⟨aM,Pv (i+1),fun σ' H' q=>⟨z.cps.size-(i+1),by omega,rfl,aM,q⟩,fun x H' hy=>?_⟩
    obtain⟨rfl,c,hc,rfl⟩:=hy;exact hs i c σ _ hc p
  · have e:i=z.cps.size:=by omega
    subst e;exact .inl ⟨ak _,hd σ H p⟩
end L2
namespace Tm
open PySem PySem.Spec PyProof.Rows PySem.NumText
def Free(c:Nat)(z:Str):Prop:=c∉z.cps.toList
def gl(c:Nat):List (List Nat)->List Nat |[]=>[] |[x]=>x |x::y::r=>x++c::gl c (y::r)
theorem o3(c:Nat):∀zs:List Str,(PySem.Str.join ⟨#[c]⟩ zs).cps.toList=gl c (zs.map fun z=>z.cps.toList) |[]=>by simp[PySem.Str.join,PySem.Str.empty,gl] |[x]=>rfl |x::y::r=>by show((x++⟨#[c]⟩)++PySem.Str.join ⟨#[c]⟩ (y::r)).cps.toList=_;rw[gH,gH,fm,fm,o3 c (y::r)];show(x.cps.toList++[c])++gl c _=x.cps.toList++c::gl c _;rw[wH];rfl
theorem uc{c:Nat}:∀{a b r s:List Nat},c∉a->c∉b->a++c::r=b++c::s->a=b/\r=s |[],[],r,s,_,_,e=>by simpa using e |[],y::b,r,s,_,h,e=>by simp at e;exact(h (by rw[e.1];exact .head _)).elim |x::a,[],r,s,h,_,e=>by simp at e;exact(h (by rw[<-e.1];exact .head _)).elim |x::a,y::b,r,s,h1,h2,e=>by simp only[List.cons_append,List.cons.injEq]at e;obtain⟨e1,e2⟩:=uc (fun z=>h1 (.tail _ z)) (fun z=>h2 (.tail _ z)) e.2;exact⟨by rw[e.1,e1],e2⟩
theorem tK{c:Nat}:∀{as bs:List (List Nat)},as≠[]->bs≠[]->(∀a∈as,c∉a)->(∀b∈bs,c∉b)->gl c as=gl c bs->as=bs
  |[],_,h,_,_,_,_=>(h rfl).elim |_,[],_,h,_,_,_=>(h rfl).elim |[a],[b],_,_,_,_,e=>by rw[show a=b from e] |[a],b::b'::r,_,_,ha,_,e=>by
    have:c∈a:=by rw[show a=b++c::gl c (b'::r)from e];simp
    exact(ha a (.head _) this).elim |a::a'::r,[b],_,_,_,hb,e=>by
    have:c∈b:=by rw[<-show a++c::gl c (a'::r)=b from e];simp
    exact(hb b (.head _) this).elim |a::a'::r,b::b'::s,_,_,ha,hb,e=>by obtain⟨e1,e2⟩:=uc (ha a (.head _)) (hb b (.head _)) (show a++c::gl c (a'::r)=b++c::gl c (b'::s)from e);rw[e1,tK (by simp) (by simp) (fun x hx=>ha x (.tail _ hx)) (fun x hx=>hb x (.tail _ hx)) e2]
theorem kI{x y:Str}(h:x.cps.toList=y.cps.toList):x=y:=PySem.Str.ext' (Array.toList_inj.mp h)
theorem map_inj:∀{xs ys:List Str},xs.map (fun z=>z.cps.toList)=ys.map (fun z=>z.cps.toList)->xs=ys |[],[],_=>rfl |[],y::ys,h=>by simp at h |x::xs,[],h=>by simp at h |x::xs,y::ys,h=>by simp only[ip,List.cons.injEq]at h;rw[kI h.1,map_inj h.2]
theorem pX(x y:Str):Txt.split x y≠[]:=by
 unfold Txt.split;split
 ·simp
 · split
   ·simp
   · rw[StrLaws.partsBetween_eq]
     obtain⟨p,r,e⟩:=StrLaws.partsFrom_ne x y.length 0 (Builtin.Str.occurrences x y 0 x.length (x.length+1));rw[e];simp
theorem lG{c:Nat}{zs:List Str}(bt:zs≠[])(hf:∀z∈zs,Free c z):Txt.split (Txt.join ⟨#[c]⟩ zs) ⟨#[c]⟩=zs:=by
 have e:=StrLaws.join_split (Txt.join ⟨#[c]⟩ zs) ⟨#[c]⟩;have fr:=StrLaws.split_free (Txt.join ⟨#[c]⟩ zs) c;have e2:Txt.join ⟨#[c]⟩ zs=PySem.Str.join ⟨#[c]⟩ zs:=fH _ _;have e3:=fi (fun z:Str=>z.cps.toList) (e.trans e2);simp only[o3]at e3;refine map_inj (tK (by simpa using pX _ _) (by simpa using bt) (fun a ha=>?_) (fun b hb=>?_) e3)
 · obtain⟨z,hz,rfl⟩:=bz.mp ha
   exact fr z hz
 · obtain⟨z,hz,rfl⟩:=bz.mp hb
   exact hf z hz
theorem pW{c:Nat}{z:Str}(h:Free c z):Txt.split z ⟨#[c]⟩=[z]:=lG (zs:=[z]) (by simp) (fun y hy=>by rw[bR.mp hy];exact h)
def numS(i:Int):Str:=Str.ofString (toString i)
def isFig(c:Nat):Bool:=decide (48<=c)&&decide (c<=57)
def figs(z:Str):List Nat:=match z.cps.toList with |45::r=>r |l=>l
def numIn? (z:Str):Option Int:=bif (figs z).isEmpty|| !(figs z).all isFig then none else bif decide ((figs z)[0]? =some 48)&& !decide (z="0")then none else intText? z
theorem i3{cs:List Nat}(h:cs.all isFig=true):AllDigits cs:=fun c hc=>by have:=bK.mp h c hc;simpa[isFig]using this
theorem u4{cs:List Nat}(h:AllDigits cs):cs.all isFig=true:=bK.mpr fun c hc=>by have:=h c hc;simpa[isFig]using this
theorem f6(m:Nat):(numS (m:Int)).cps.toList=(Nat.toDigits 10 m).map Char.toNat:=PySem.W.KIN.signs_num m
theorem ja(m:Nat):(numS (Int.negSucc m)).cps.toList=45::(Nat.toDigits 10 (m+1)).map Char.toNat:=by unfold numS;rw[signs_ofString];show("-"++Nat.repr (m+1)).toList.map Char.toNat=_;rw[String.toList_append,fj,Nat.toList_repr];rfl
theorem eu(m:Nat):AllDigits ((Nat.toDigits 10 m).map Char.toNat):=fun c hc=>by obtain⟨ch,dn,e⟩:=bz.mp hc;have r:=digit_range (Nat.isDigit_of_mem_toDigits (by decide) (by decide) dn);rw[<-e];exact r
theorem kG(m:Nat):(Nat.toDigits 10 m).map Char.toNat≠[]:=fun e=>by have h:=toDigits_len_ge 10 m;rw[List.map_eq_nil_iff.mp e]at h;exact absurd h (by decide)
theorem Dt:∀d:Nat,d<10->d≠0->(Nat.digitChar d).toNat≠48:=by decide
theorem sC(m:Nat)(h0:m≠0):((Nat.toDigits 10 m).map Char.toNat)[0]? ≠some 48:=by induction m using Nat.strongRecOn with |_ m ih=>
   by_cases h:m<10
   · rw[wt h]
     simpa using Dt m h h0
   · have hm:m%10<10:=Nat.mod_lt m (by decide)
     have t:Nat.toDigits 10 (m/10)++Nat.toDigits 10 (m%10)=Nat.toDigits 10 (10*(m/10)+m%10):=Nat.toDigits_append_toDigits (by decide) (by omega) hm;rw[Nat.div_add_mod]at t;rw[<-t,fj,wF (List.length_pos_iff.mpr (kG _))];exact ih (m/10) (by omega) (by omega)
theorem Ds(m:Nat):((Nat.toDigits 10 m).map Char.toNat).head? ≠some 45:=fun e=>by have:=eu m 45 (List.mem_of_mem_head? e);omega
theorem D8{z:Str}{l:List Nat}(h:z.cps.toList=l)(hh:l.head? ≠some 45):figs z=l:=by
 unfold figs;rw[h];split
 ·simp at hh
 ·rfl
theorem Dd(m:Nat):figs (numS (m:Int))=(Nat.toDigits 10 m).map Char.toNat:=D8 (f6 m) (Ds m)
theorem D9(m:Nat):figs (numS (Int.negSucc m))=(Nat.toDigits 10 (m+1)).map Char.toNat:=by unfold figs;rw[ja];rfl
theorem tV(m:Nat):((Nat.toDigits 10 m).map Char.toNat).isEmpty=false:=by have:=kG m;cases h:(Nat.toDigits 10 m).map Char.toNat with |nil=>exact(this h).elim |cons=>rfl
theorem Al{i:Int}(hl:(numS i).length<=4300):numIn? (numS i)=some i:=by unfold numIn?;cases i with
 |ofNat m=>
   have ef:figs (numS (Int.ofNat m))=(Nat.toDigits 10 m).map Char.toNat:=Dd m;have ec:(numS (Int.ofNat m)).cps.toList=(Nat.toDigits 10 m).map Char.toNat:=f6 m;have e:=oU (x:=numS (Int.ofNat m)) (by rw[ec];exact eu m) (by rw[ec];exact kG m) hl;rw[ec,PySem.W.KIN.val_back]at e;rw[ef,u4 (eu m),tV,e];have h2:(decide (((Nat.toDigits 10 m).map Char.toNat)[0]? =some 48)&& !decide (numS (Int.ofNat m)="0"))=false:=by
    by_cases h0:m=0
    ·subst h0;decide+kernel
    ·rw[bQ (sC m h0)];rfl
   rw[h2];rfl |negSucc m=>have e:=intText_neg (x:=numS (Int.negSucc m)) (ja m) (eu (m+1)) (kG (m+1)) hl;rw[PySem.W.KIN.val_back]at e;rw[D9,u4 (eu (m+1)),tV,bQ (sC (m+1) (by omega)),e];exact fi some (Int.negSucc_eq m).symm
theorem hG{i:Int}{c:Nat}(h:c≠45)(h1:c<48):Free c (numS i):=fun hc=>by cases i with |ofNat m=>rw[show(numS (Int.ofNat m)).cps.toList=_ from f6 m]at hc;have:=eu m c hc;omega |negSucc m=>
   rw[ja]at hc;rcases aW.mp hc with e|hc
   ·exact h e
   · have:=eu (m+1) c hc
     omega
theorem Bj{z:Str}(h1:figs z≠[])(h2:(figs z).all isFig=true)(hl:z.length<=4300):∃n,intText? z=some n:=by
 unfold figs at h1 h2;split at h1
 · rename_i r h
   rw[h]at h2;exact⟨_,intText_neg h (i3 h2) h1 hl⟩
 · rename_i h
   split at h2
   · rename_i r h'
     exact(h r h').elim
   ·exact⟨_,oU (i3 h2) h1 hl⟩
theorem yq(z:Str):(Txt.removeprefix z "-").cps.toList=figs z:=by
 rw[StrLaws.removeprefix_eq];have e1:(Str.ofString "-").cps.toList=[45]:=by decide+kernel
 have e2:(Str.ofString "-").length=1:=by decide+kernel
 have hn:z.cps.toList.length=z.length:=by simp[Str.length]
 rw[e2,StrLaws.subAt_eq,e1,e2,List.drop_zero];unfold figs;cases hz:z.cps.toList with |nil=>rw[hz]at hn;have h0:z.length=0:=hn.symm;rw[aE (by simp)];exact hz |cons a r=>
   rw[hz]at hn;simp only[fk]at hn;by_cases ha:a=45
   · subst ha
     rw[aD (by simp;omega)];show((List.drop 1 (45::r)).take _).toArray.toList=r;rw[List.drop_one,List.tail_cons,wu (by omega)]
   · rw[aE (by simp;intro _;exact fun e=>ha (by simpa using e))]
     rw[hz];split
     ·rename_i h;simp at h;exact(ha h.1).elim
     ·rfl
end Tm
namespace Nu
open PySem PySem.Spec PyProof.Rows PySem.NumText Tm
def dF:Nat->Nat->List Char |0,_=>[] |e+1,r=>dF e (r/10)++[(r%10).digitChar]
theorem u5:∀e m:Nat,10^e<=m->Nat.toDigits 10 m=Nat.toDigits 10 (m/10^e)++dF e (m%10^e)
  |0,m,_=>by simp[dF] |e+1,m,h=>by
    have hp:0<10^e:=Nat.pow_pos (by decide);have CT:10<=m:=by rw[jt]at h;omega
    have hd:10^e<=m/10:=by rw[Nat.le_div_iff_mul_le (by decide)];rw[jt]at h;exact h
    rw[Nat.toDigits_of_base_le (by decide) CT,u5 e (m/10) hd,Nat.div_div_eq_div_mul,<-Nat.pow_succ',wH];show _=_++(dF e (m%10^(e+1)/10)++[(m%10^(e+1)%10).digitChar]);rw[Nat.pow_succ',Nat.mod_mul_right_div_self,Nat.mod_mul_right_mod]
theorem rH:∀e:Nat,dF e 0=List.replicate e '0' |0=>rfl |e+1=>by show dF e 0++['0']=_;rw[rH e,List.replicate_succ']
theorem rJ:∀e r:Nat,r<10^(e+1)->dF (e+1) r=List.replicate (e+1-(Nat.toDigits 10 r).length) '0'++Nat.toDigits 10 r
  |0,r,h=>by have h:r<10:=h;rw[wt h];show[]++[(r%10).digitChar]=_;rw[Nat.mod_eq_of_lt h];rfl |e+1,r,h=>by
    show dF (e+1) (r/10)++[(r%10).digitChar]=_;by_cases hr:r<10
    · rw[Nat.div_eq_of_lt hr,rH,Nat.mod_eq_of_lt hr,wt hr]
      simp
    · have hd:r/10<10^(e+1):=by rw[Nat.div_lt_iff_lt_mul (by decide),<-jt];exact h
      rw[rJ e (r/10) hd,Nat.toDigits_of_base_le (b:=10) (n:=r) (by decide) (by omega),dy,wH];have:e+1+1-((Nat.toDigits 10 (r/10)).length+[(r%10).digitChar].length)=e+1-(Nat.toDigits 10 (r/10)).length:=by simp
      rw[this]
theorem pq(r:Nat)(h:r<10^64):(Txt.zfill (numS (r:Int)) 64).cps.toList=(dF 64 r).map Char.toNat:=by
 have ec:=f6 r;have el:(numS (r:Int)).length=(Nat.toDigits 10 r).length:=by show(numS (r:Int)).cps.size=_;rw[<-dX,ec,aG]
 rw[rJ 63 r h,fj,List.map_replicate];unfold Txt.zfill;split
 · rename_i hl
   have:64-(Nat.toDigits 10 r).length=0:=by omega
   show(numS (r:Int)).cps.toList=_;rw[ec,show 63+1-(Nat.toDigits 10 r).length=0 by omega];rfl
 · rename_i hl
   have hd:=eu r;have h0:∀c,(numS (r:Int)).cps[0]? =some c->48<=c:=fun c e=>by rw[<-wK,ec]at e;exact(hd c (cF e)).1
   have hz:zfilled (numS (r:Int)) ((64:Int).toNat-(numS (r:Int)).length)=Builtin.Str.padded (numS (r:Int)) ((64:Int).toNat-(numS (r:Int)).length) 0 48:=by
    unfold zfilled;split
    ·rename_i e;exact absurd (h0 _ e) (by decide)
    ·rename_i e;exact absurd (h0 _ e) (by decide)
    ·rfl
   rw[hz];show(Array.replicate _ 48++(numS (r:Int)).cps++Array.replicate 0 48).toList=_;rw[fm,fm,Array.toList_replicate,ec,el];simp
theorem Am(m:Nat)(h:10^64<=m):numS (m:Int)=numS ((m/10^64:Nat):Int)++Txt.zfill (numS ((m%10^64:Nat):Int)) 64:=by refine kI ?_;rw[gH,fm,f6,f6,pq _ (Nat.mod_lt _ (Nat.pow_pos (by decide))),<-fj,<-u5 64 m h]
theorem Ak{i:Int}(h:i<0):numS i="-"++numS (-i):=by obtain⟨m,rfl⟩:∃m:Nat,i=Int.negSucc m:=⟨(-i-1).toNat,by omega⟩;refine kI ?_;rw[gH,fm,ja,show-Int.negSucc m=((m+1:Nat):Int)from rfl,f6];rfl
theorem wU{r:Nat}(h:r<10^64):(Txt.zfill (numS (r:Int)) 64).length=64:=by
 show(Txt.zfill (numS (r:Int)) 64).cps.size=64;rw[<-dX,pq r h,aG];have:∀e r,(dF e r).length=e:=fun e=>by induction e with |zero=>intro r;rfl |succ e ih=>intro r;show(dF e (r/10)++[_]).length=_;rw[dy,ih];rfl
 exact this 64 r
def cat(zs:List Str):Str:=Txt.join "" zs
theorem DA:cat []=Str.empty:=by unfold cat Txt.join;rw[fH];rfl
theorem uo(z:Str)(zs:List Str):cat (z::zs)=z++cat zs:=by unfold cat Txt.join;rw[fH,fH];cases zs with |nil=>exact(Str.append_empty z).symm |cons y r=>show(z++"")++PySem.Str.join "" (y::r)=_;rw[show(Str.ofString "")=Str.empty from by decide+kernel,Str.append_empty]
structure Wr(N r:Nat)(zs:List Str):Prop where
 e:numS (N:Int)=numS (r:Int)++cat zs.reverse
 d:r=N/(10^64)^zs.length
 l:∀z∈zs,z.length<=64
 b:zs.length=0\/(10^64)^zs.length<=N
theorem Wr.nil(N:Nat):Wr N N []:=⟨by rw[show([]:List Str).reverse=[]from rfl,DA,Str.append_empty],by simp,fun _ h=>by simp at h,.inl rfl⟩
theorem Wr.step{N r:Nat}{zs:List Str}(h:Wr N r zs)(hr:10^64<=r):Wr N (r/10^64) (zs++[Txt.zfill (numS ((r%10^64:Nat):Int)) 64]):=by
 have hm:r%10^64<10^64:=Nat.mod_lt _ (Nat.pow_pos (by decide));refine⟨?_,?_,fun z hz=>?_,.inr ?_⟩
 · rw[List.reverse_append,List.reverse_cons,List.reverse_nil,List.nil_append,List.singleton_append,uo,<-Str.append_assoc,<-Am r hr]
   exact h.e
 ·rw[dy,jw,jt (10^64) zs.length,<-Nat.div_div_eq_div_mul,<-h.d]
 · rcases dU.mp hz with hz|hz
   ·exact h.l z hz
   ·rw[bR.mp hz,wU hm];exact ak _
 · rw[dy,jw,jt (10^64) zs.length,Nat.mul_comm]
   have h2:=h.d;generalize(10^64)^zs.length=B at*;rw[h2]at hr;by_cases hB:B=0
   ·subst hB;simp
   ·exact(Nat.le_div_iff_mul_le (Nat.pos_of_ne_zero hB)).mp hr
theorem Wr.len{N r:Nat}{zs:List Str}(h:Wr N r zs)(hN:N<10^540):zs.length<=8:=by
 rcases h.b with e|e
 ·omega
 · rw[<-Nat.pow_mul]at e
   have:=(Nat.pow_lt_pow_iff_right (a:=10) (by decide)).mp (Nat.lt_of_le_of_lt e hN);omega
theorem sA{m:Nat}(h:m<10^540):((m:Nat):Int).natAbs.log2<1920:=by
 rw[wI];by_cases h0:m=0
 ·rw[h0];decide
 ·exact(Nat.log2_lt h0).mpr (jv h (by decide+kernel))
theorem AW{i:Int}(h:i.natAbs<10^540):(numS i).length<=541:=by show(Str.ofString (toString i)).length<=541;rw[PySem.ofString_length];exact int_text_length_le10 (k:=540) (by decide) h
theorem E3{i:Int}(h:¬i<0):((i.natAbs:Nat):Int)=i:=by omega
theorem abs_neg{i:Int}(h:i<0):((i.natAbs:Nat):Int)=-i:=by omega
theorem Dp(cs:List Nat)(c:Nat):digitsVal (cs++[c])=digitsVal cs*10+(c-48):=by unfold digitsVal;rw[List.foldl_append];rfl
theorem tY{cs:List Nat}{i c:Nat}(h:cs[i]? =some c):digitsVal (cs.take (i+1))=digitsVal (cs.take i)*10+(c-48):=by rw[List.take_add_one,h];exact Dp _ _
theorem tZ{cs:List Nat}(h:AllDigits cs):∀i,digitsVal (cs.take i)<10^i |0=>by simp[digitsVal] |i+1=>by have ih:=tZ h i;rw[jt];cases hc:cs[i]? with |none=>rw[List.take_add_one,hc];simp;omega |some c=>have:=h c (cF hc);rw[tY hc];omega
theorem xR(z:Str):Txt.startswith z "-"=decide (z.cps.toList.head? =some 45):=by
 have e1:(Str.ofString "-").cps.toList=[45]:=by decide+kernel
 have e2:(Str.ofString "-").length=1:=by decide+kernel
 have hn:z.cps.toList.length=z.length:=by simp[Str.length]
 unfold Txt.startswith;rw[e2,StrLaws.subAt_eq,e1,e2,List.drop_zero,<-hn];cases z.cps.toList with |nil=>rfl |cons c r=>simp[wJ]
theorem Aj{z y:Str}{n:Int}(ef:y.cps.toList=figs z)(h1:figs z≠[])(h2:(figs z).all isFig=true)(hl:z.length<=4300)(hn:intText? z=some n): n=if Txt.startswith z "-"=true then-((digitsVal y.cps.toList:Nat):Int)else((digitsVal y.cps.toList:Nat):Int):=by
  rw[xR,ef];unfold figs at*;split at h1
  · rename_i r h
    rw[h]at h2;have e:=intText_neg h (i3 h2) h1 hl;rw[hn]at e;rw[h];simpa using e
  · rename_i h
    split at h2
    · rename_i r h'
      exact(h r h').elim
    · have e:=oU (i3 h2) h1 hl
      rw[hn]at e;have hh:z.cps.toList.head? ≠some 45:=fun z'=>by cases hz:z.cps.toList with |nil=>rw[hz]at z';cases z' |cons c r=>rw[hz]at z';cases z';exact h r hz
      rw[bQ hh];simpa using e
theorem xb{c:Nat}(h1:48<=c)(h2:c<=57):intText? ⟨#[c]⟩=some ((c-48:Nat):Int):=by have e:=oU (x:=⟨#[c]⟩) (fun a ha=>by rw[bR.mp ha];exact⟨h1,h2⟩) (by simp) (by show 1<=4300;decide);rw[e];show some (((0*10+(c-48):Nat):Nat):Int)=_;rw[Nat.zero_mul,Nat.zero_add]
end Nu
namespace Cn
open Ln
end Cn
namespace Pn
section
variable (n:Nat)(own:Nat->Rat)(L:Nat->Option Nat)(r f:Int)
end
section
variable {n:Nat}{own g:Nat->Rat}{L:Nat->Option Nat}{r f:Int}
end
open Rt
end Pn
namespace Ow
open Pn Cn Ln Rt
end Ow
namespace Wk
open PySem L2
end Wk
namespace Lw
open PySem PySem.Spec PyProof.Rows L2
def top(i:Nat):Stmt:=PySem.Challenge.pw_glidequeue_k53_items_read.main.body.getD i (.Pass ⟨0,0,0,0⟩)
section
variable {P:F0}{w:World}{K:EY}{mg:Str->Option Value}{base:Heap}
inductive uY(vs:List V)(H:Hp)(Q:VK):Prop |mk (p:_)(many:_)(h0:vs=[.ref p,.int many])(h1:cC H p)(h2:1<=many)(h3:many<=10^40)(h4:∀d H',0<=d->d<many->au p H H'->Q (.int d) H'):uY vs H Q
def gN:Sp:=fun vs H Q _=>uY vs H Q
abbrev lL:Stmt:=top 34
theorem qv:aV ["_law_bag_here","_law_many","_law_digit","_law_number","_law_room"] ["_law_bag_here","_law_many"] (aJ lL):=bj (by decide+kernel)
theorem zL(F:FA K mg "_law_take" lL)(B:aQ mg):ah P w K mg base "_law_take" 1 gN:=by
 refine F.has qv (fun vs H Q E h=>?_) (fun _ _ _ _ _ _=>eC fun _ _=>rfl) (fun f aj A outer s H vs Q E hr h=>?_)
 · obtain⟨p,many,rfl,_⟩:=h
   rfl
 · obtain⟨p,many,rfl,⟨c,m,hp,ok⟩,h1,h2,k⟩:=h
   obtain⟨c0,m0,m1⟩:=id ok;have nd:=qv.nd;refine⟨_,(ag (bb (ba zC (px K (pv 0) a9) a9 (aP _)) (ag (pS 2 nd (aB gX (px K (pv 0) a9) (pv 1))) (ag (eK (aB rN (px K (pv 0) a9) (pv 1)) (mJ (pv 0) a9 set_list)) (ao (az (pv 2))))) bo) (ag (pS 3 nd a9) (ag (pS 4 nd a9) (ag (rn ik (ba k4 (pv 4) (pv 1) (aP _)) (ag (eK (aB gX (aB mO (aB cg (aB dH (px K (pv 0) a9) a9) a9) a9) a9) (mJ (pv 0) a9 set_list)) (ag (pS 3 nd (aB cg (aB dH (pv 3) a9) (aB gX (aB dH (aB rN (px K (pv 0) a9) a9) a9) a9))) (ao (pS 4 nd (aB dH (pv 4) a9)))))) (ao (az (aB gX (pv 3) (pv 1)))))))),?_⟩;refine⟨_,rfl,.inl ⟨p,_,0,.int c,rfl,rfl,aa.of hp,rfl,_,_,rfl,rfl,_,rfl,?_⟩⟩;refine bN (fun hc=>?_) (fun _=>?_)
   · refine⟨_,rfl,.inl ⟨p,_,0,.int c,rfl,rfl,aa.of hp,rfl,_,rfl,_,_,rfl,rfl,h1,?_⟩⟩
     refine⟨_,rfl,.inl ⟨p,_,0,.int c,rfl,rfl,aa.of hp,rfl,_,rfl,_,_,rfl,rfl,⟨h1,pA (by omega) h2⟩,?_⟩⟩;refine⟨_,rfl,p,_,0,0,rfl,rfl,hp,rfl,?_⟩;refine⟨_,rfl,?_⟩;exact k _ _ (lh _ (by omega)) (lj _ (by omega)) (au.upd ⟨Int.ediv_nonneg c0 (by omega),m0,m1⟩)
   · refine pw (fun σ H2=>∃(v:Option V)(n r:Int),σ=[some (.ref p),some (.int many),v,some (.int n),some (.int r)]/\au p H H2/\1<=r) (fun σ _=>match σ with|[_,_,_,_,some (.int r)]=>(many-r).toNat|_=>0) ?_ ?_ ?_
     ·exact⟨none,0,1,rfl,.refl ⟨c,m,hp,ok⟩,dA _⟩
     · rintro σ H2 ⟨v,n,r,rfl,bx,sZ⟩
       obtain⟨c',m',ky,DL,Ey,Ew⟩:=id bx.bag;refine⟨_,rfl,_,rfl,_,_,rfl,rfl,_,rfl,?_⟩;refine bN (fun hc=>?_) (fun hc=>?_)
       · have aM:r<many:=ij hc
         refine⟨_,rfl,.inl ⟨p,_,1,.int m',rfl,rfl,aa.of ky,rfl,_,_,rfl,rfl,.of_right (fh (by decide) (by decide)),_,_,rfl,rfl,_,_,rfl,rfl,⟨by decide,by decide,?_⟩,_,_,rfl,rfl,(by show(0:Int)<2147483629;decide),?_⟩⟩
         · have nY:(2:Nat)^64=18446744073709551616:=by decide
           rw[nY];omega
         refine⟨_,rfl,p,_,1,1,rfl,rfl,ky,rfl,?_⟩;have g0:0<=((m'*48271+7919)^(3:Int).toNat)%2147483629:=lh _ (by decide);have g1:((m'*48271+7919)^(3:Int).toNat)%2147483629<2147483629:=lj _ (by decide);have DM:au p H (L2.upd H2 p (.lst [.int c',.int (((m'*48271+7919)^(3:Int).toNat)%2147483629)])):=bx.trans (.upd ⟨DL,g0,Int.lt_trans g1 (by decide)⟩);refine⟨_,rfl,_,_,rfl,rfl,.of_right (fh (by decide) (by decide)),_,rfl,.inl ⟨p,_,1,.int _,rfl,rfl,aa.of cH,rfl,_,_,rfl,rfl,⟨by decide,pA (by decide) (by decide)⟩,_,_,rfl,rfl,.of_right (fh (by decide) (by decide)),_,_,rfl,rfl,(by show(0:Int)<1073741789;decide),_,_,rfl,rfl,?_⟩⟩;refine⟨_,rfl,_,_,rfl,rfl,.of_right (fh (by decide) (by decide)),?_⟩;refine⟨⟨v,_,_,rfl,DM,?_⟩,?_⟩
         ·omega
         · show(many-r*1073741789).toNat<(many-r).toNat
           omega
       · refine⟨_,rfl,_,rfl,_,_,rfl,rfl,h1,?_⟩
         exact k _ _ (lh _ (by omega)) (lj _ (by omega)) bx
     · rintro σ H2 Q1 Q2 hq ⟨v1,e1,v2,e2,i,j,e3,e4,kk,e5,q⟩
       exact⟨v1,e1,v2,e2,i,j,e3,e4,kk,e5,hq _ _ q⟩
inductive vv(K:EY)(vs:List V)(H:Hp)(Q:VK):Prop |mk (a:Addr)(ns:List Int)(at':Int)(h0:vs=[.ref a,.int at'])(h1:aa K H a (ns.map V.int))(h2:ns.length<=63)(h3:0<=at')(h4:at'<=100)(h5:∀p H',H p=none->cC H' p->a8 H H'->Q (.ref p) H'):vv K vs H Q
def qp(K:EY):Sp:=fun vs H Q _=>vv K vs H Q
abbrev md:Stmt:=top 33
theorem qT:aV ["_law_script","_law_at","_law_cell","_law_mix","_law_k"] ["_law_script","_law_at"] (aJ md):=bj (by decide+kernel)
theorem sQ{ns:List Int}{j:Nat}(h:j<ns.length):∃z,cz (ns.map V.int) (j:Int)=some (.int z):=⟨ns[j],DT (by simp[h])⟩
theorem A8(F:FA K mg "_law_bag" md)(B:aQ mg):ah P w K mg base "_law_bag" 1 (qp K):=by
 refine F.has qT (fun vs H Q E h=>?_) (fun _ _ _ _ _ _=>eC fun _ _=>rfl) (fun f aj A outer s H vs Q E hr h=>?_)
 · obtain⟨a,ns,at',rfl,_⟩:=h
   rfl
 · obtain⟨a,ns,at',rfl,hS,hlen,h0,h1,k⟩:=h
   obtain⟨j,rfl⟩:∃j:Nat,at'=(j:Int):=⟨at'.toNat,by omega⟩;have nd:=qT.nd;refine⟨_,(ag (pS 2 nd a9) (ag (jX (bb (ba k4 (pv 1) (dG K B (a0 (pv 0) a6)) (aP _)) (ao (pS 2 nd (bV (x:="abs") uu rfl (B.at "abs") PyProof.Rows.boot_abs (a0 (px K (pv 0) (pv 1)) a6)))) bo)) (ag (pS 3 nd (aB cg (aB cg (aB dH (aB dH a9 (pv 1)) (pv 1)) (aB dH a9 (pv 1))) a9)) (ag (iL ik rfl (fS rfl (B.at "range") (a0 (bV (x:="min") (ur rfl) rfl (B.at "min") PyProof.Rows.boot_min (a0 (dG K B (a0 (pv 0) a6)) (a0 a9 a6))) a6)) (aL 4 nd) (ao (pS 3 nd (aB gX (aB mO (aB cg (aB cg (aB dH (pv 3) a9) (aB gX (px K (pv 0) (pv 4)) a9)) (aB dH (pv 4) (pv 4))) a9) a9)))) (ag (jX (bb (ba k4 (pv 2) (aB mO a9 a9) (aP _)) (ao (pS 2 nd a9)) bo)) (ao (az (fX (a0 (pv 2) (a0 (pv 3) a6)))))))))),?_⟩;refine⟨fun σ H'=>H'=H/\∃c:Int,σ=[some (.ref a),some (.int (j:Int)),some (.int c),none,none]/\0<=c,?_,?_⟩
   · refine⟨_,rfl,_,rfl,a,_,rfl,.inl hS,_,_,rfl,rfl,_,rfl,?_⟩
     refine bN (fun hc=>?_) (fun _=>?_)
     · have hj:(j:Int)<((ns.map V.int).length:Int):=ij hc
       rw[aG]at hj;obtain⟨z,hz⟩:=sQ (ns:=ns) (j:=j) (by omega);refine⟨_,rfl,_,rfl,.inl ⟨a,_,_,_,rfl,rfl,hS,hz,z,rfl,?_⟩⟩;exact⟨rfl,_,rfl,by split<;>omega⟩
     ·exact⟨rfl,0,rfl,dA _⟩
   rintro σ H' ⟨rfl,c,rfl,c0⟩;refine⟨_,rfl,_,_,rfl,rfl,.of_left (fh (by decide) (by decide)),_,rfl,_,_,rfl,rfl,.of_right (fh (by omega) (by omega)),_,rfl,_,_,rfl,rfl,.of_left (fh (by decide) (by decide)),_,_,rfl,rfl,_,_,rfl,rfl,?_⟩;refine⟨_,rfl,a,_,rfl,.inl hS,_,_,rfl,_,rfl,?_,?_,?_⟩
   ·split<;>omega
   ·split<;>(try rw[aG])<;>omega
   refine tR (Pv:=fun i σ H2=>H2=H'/\∃(m:Int)(v:Option V),σ=[some (.ref a),some (.int (j:Int)),some (.int c),some (.int m),v]/\0<=m/\m<2147483648) ?_ ?_ ?_
   · refine⟨rfl,_,none,rfl,?_,?_⟩
     · have:(0:Int)<=(j:Int)*(j:Int):=Int.mul_nonneg (by omega) (by omega)
       rw[Int.mul_assoc];omega
     · have:(j:Int)*(j:Int)<=100*100:=Int.mul_le_mul (by omega) (by omega) (by omega) (by omega)
       rw[Int.mul_assoc];omega
   · rintro i σ H2 hi ⟨rfl,m,v,rfl,m0,m1⟩
     have Cd:i<ns.length:=by rw[aG]at hi;split at hi<;>omega
     obtain⟨z,hz⟩:=sQ (ns:=ns) (j:=i) Cd;rw[<-Int.zero_add (i:Int)]at hz;have Bt:0<=z%2147483647:=lh _ (by decide);have Bs:z%2147483647<2147483647:=lj _ (by decide);have C9:(0:Int)<=(0+(i:Int))*(0+(i:Int)):=Int.mul_nonneg (by omega) (by omega);have Ca:(0+(i:Int))*(0+(i:Int))<=100*100:=Int.mul_le_mul (by omega) (by omega) (by omega) (by omega);refine⟨_,rfl,_,_,rfl,rfl,.of_right (fh (by decide) (by decide)),_,rfl,_,rfl,.inl ⟨a,_,_,_,rfl,rfl,hS,hz,_,_,rfl,rfl,(by show(0:Int)<2147483647;decide),_,_,rfl,rfl,_,rfl,_,rfl,_,_,rfl,rfl,.of_right (fh (by omega) (by omega)),_,_,rfl,rfl,_,_,rfl,rfl,⟨by decide,by decide,?_⟩,_,_,rfl,rfl,(by show(0:Int)<2147483629;decide),?_⟩⟩
     · have nY:(2:Nat)^64=18446744073709551616:=by decide
       rw[nY];generalize(0+(i:Int))*(0+(i:Int))=ii at C9 Ca⊢;generalize z%2147483647=zz at Bt Bs⊢;omega
     ·exact⟨rfl,_,_,rfl,lh _ (by decide),Int.lt_trans (lj _ (by decide)) (by decide)⟩
   · rintro σ H2 ⟨rfl,m,v,rfl,m0,m1⟩
     refine⟨fun σ H3=>H3=H2/\∃c:Int,σ=[some (.ref a),some (.int (j:Int)),some (.int c),some (.int m),v]/\0<=c,?_,?_⟩
     · refine⟨_,rfl,_,_,rfl,rfl,⟨by decide,by decide,by decide⟩,_,_,rfl,rfl,_,rfl,?_⟩
       refine bN (fun hc=>?_) (fun _=>?_)
       ·exact⟨rfl,0,rfl,dA _⟩
       ·exact⟨rfl,c,rfl,c0⟩
     rintro σ H3 ⟨rfl,c,rfl,c0⟩;refine⟨_,rfl,_,rfl,(by show 2<=sizeLine;decide),fun p H4 nw=>?_⟩;exact k p H4 nw.no ⟨c,m,nw.at',c0,m0,m1⟩ nw.same
def iV(T:String):Bool:=c9 T "int"&& !c9 T "bool"
inductive vq(K:EY)(vs:List V)(H:Hp)(Q:VK):Prop |mk (v:_)(T:_)(h0:vs=[v])(h1:gE K H v T)(h2:Q (.bl (iV T)) H):vq K vs H Q
def iH(K:EY):Sp:=fun vs H Q _=>vq K vs H Q
open Tm (numS)
def uM (i:Int):Prop:=i.natAbs<10^540
inductive ve(vs:List V)(H:Hp)(Q:VK):Prop |mk (i:_)(h0:vs=[.int i])(h1:uM i)(h2:∀H',a8 H H'->Q (.str (numS i)) H'):ve vs H Q
def lH:Sp:=fun vs H Q _=>ve vs H Q
abbrev lO:Stmt:=top 23
theorem qy:aV ["number","rest","parts","low","written"] ["number"] (aJ lO):=bj (by decide+kernel)
theorem rQ(F:FA K mg "show_number" lO)(B:aQ mg)(tu:GV mg "PART" (.int 10000000000000000000000000000000000000000000000000000000000000000))(Cu:GV mg "PART_FIGURES" (.int 64)):ah P w K mg base "show_number" 1 lH:=by
 refine F.has qy (fun vs H Q E h=>?_) (fun _ _ _ _ _ _=>cA fun _=>rfl) (fun f aj A outer s H vs Q E hr h=>?_)
 · obtain⟨i,rfl,_⟩:=h
   rfl
 · obtain⟨i,rfl,hn,k⟩:=h
   have nd:=qy.nd;refine⟨_,(ag (pS 1 nd (bV (x:="abs") uu rfl (B.at "abs") PyProof.Rows.boot_abs (a0 (pv 0) a6))) (ag (pS 2 nd (fX a6)) (ag (rn ik (ba zD (pv 1) (dj (x:="PART") rfl tu) (aP _)) (ag (eK (bV (x:="divmod") DI rfl (B.at "divmod") PyProof.Rows.boot_divmod (a0 (pv 1) (a0 (dj (x:="PART") rfl tu) a6))) (fV K rfl (n:=2) rfl (bU (aL 1 nd) (bU (aL 3 nd) fU)))) (ao (mH (mL K rfl (pv 2) (a0 (zm K rfl (dk (x:="str") jc rfl (B.at "str") fI (a0 (pv 3) a6)) (a0 (dj (x:="PART_FIGURES") rfl Cu) a6)) a6)))))) (ag (mH (mL K rfl (pv 2) (a0 (dk (x:="str") jc rfl (B.at "str") fI (a0 (pv 1) a6)) a6))) (ag (pS 4 nd (zq K rfl rfl (B.at "reversed") aI (a0 (pv 2) a6))) (ao (az (gU (ba k4 (pv 0) a9 (aP _)) (k0 (cT aI (cT (ft (pv 4)) jY))) (pv 4))))))))),?_⟩;refine⟨_,rfl,i,rfl,?_⟩;rw[show(if i<0 then-i else i)=((i.natAbs:Nat):Int) by split<;>omega];refine⟨cS rfl,fun l H1 n1=>?_⟩;refine pw (fun σ H2=>a8 H H2/\∃(r:Nat)(zs:List Str)(v3 v4:Option V),σ=[some (.int i),some (.int r),some (.ref l),v3,v4]/\H2 l=some (.lst (zs.map V.str))/\Nu.Wr i.natAbs r zs) (fun σ _=>match σ with|[_,some (.int y),_,_,_]=>y.natAbs|_=>0) ?_ ?_ ?_
   ·exact⟨n1.same,_,[],_,_,rfl,n1.at',Nu.Wr.nil _⟩
   · rintro σ H2 ⟨s2,r,zs,v3,v4,rfl,dl,wr⟩
     refine⟨_,rfl,_,_,rfl,rfl,_,rfl,?_⟩;have eB:(10000000000000000000000000000000000000000000000000000000000000000:Int)=((10^64:Nat):Int):=by decide+kernel
     rw[eB];have len:=wr.len hn
     have ll : (zs.map V.str).length < sizeLine := by rw[aG];have:(8:Nat)<sizeLine:=by decide
                                                      omega
     have nl:H l=none:=n1.no;have put:∀(H3:Hp)(z:Str),a8 H2 H3->a8 H (upd H3 l (.lst (zs.map V.str++[.str z]))):=fun H3 z s3 b o e=>by
      have hb:b≠l:=fun y=>by rw[y,nl]at e;cases e
      rw[aO hb];exact s3 _ _ (s2 _ _ e)
     refine bN (fun hc=>?_) (fun hc=>?_)
     · have hr:10^64<=r:=by have:=ij hc;omega
       have hm:r%10^64<10^64:=Nat.mod_lt _ (Nat.pow_pos (by decide));refine⟨_,rfl,_,_,rfl,by decide+kernel,by show(10^64:Nat)<2^5000;decide+kernel,fun t H3 n3=>?_⟩;refine⟨_,_,rfl,af.of n3.at',rfl,_,_,rfl,_,_,rfl,rfl,?_⟩;have em:(((r:Nat):Int)%((10^64:Nat):Int))=((r%10^64:Nat):Int):=rfl;have ed:(((r:Nat):Int)/((10^64:Nat):Int))=((r/10^64:Nat):Int):=rfl;have lg:=Nu.sA (jv hm (by decide+kernel:10^64<10^540));refine⟨_,rfl,.inl ⟨rfl,_,aa.of (n3.same _ _ dl)⟩,_,rfl,.inl ⟨_,rfl,lg,rfl,⟨_,_,rfl,rfl,by decide+kernel,⟨l,_,_,rfl,rfl,n3.same _ _ dl,ll,?_⟩⟩⟩⟩;refine⟨⟨put H3 _ n3.same,r/10^64,zs++[Txt.zfill (numS ((r%10^64:Nat):Int)) 64],_,_,rfl,?_,wr.step hr⟩,?_⟩
       ·rw[cH,fj];rfl
       · show((r/10^64:Nat):Int).natAbs<((r:Nat):Int).natAbs
         have:r/10^64<r:=Nat.div_lt_self (by omega) (by decide);omega
     · have hr:r<10^64:=by have:=(mt bH) hc;omega
       have lg:=Nu.sA (jv hr (by decide+kernel:10^64<10^540));have lr:(numS (r:Int)).length<=64:=by show(numS (r:Int)).cps.size<=64;rw[<-dX,Tm.f6,aG];exact(Nat.length_toDigits_le_iff (by decide) (by decide)).mpr hr
       refine⟨_,rfl,.inl ⟨rfl,_,aa.of dl⟩,_,rfl,.inl ⟨_,rfl,lg,⟨l,_,_,rfl,rfl,dl,ll,?_⟩⟩⟩;refine⟨rfl,_,rfl,⟨"",l,zs++[numS (r:Int)],rfl,rfl,aa.of (by rw[cH,fj];rfl),fun z hz=>?_,by decide+kernel,by rw[dy,jw];omega,?_⟩⟩
       · rcases dU.mp hz with hz|hz
         ·have:=wr.l z hz;omega
         ·rw[bR.mp hz];omega
       have ew:Txt.join "" (zs++[numS (r:Int)]).reverse=numS (i.natAbs:Int):=by rw[List.reverse_append,List.reverse_cons,List.reverse_nil,List.nil_append,List.singleton_append];exact(Nu.uo _ _).trans wr.e.symm
       rw[ew];have j9:sizeLine=16777216:=by decide
       have l0:(numS (i.natAbs:Int)).length<=541:=Nu.AW (by rw[wI];exact hn);have e0:Str.empty.length=0:=by decide+kernel
       have e1:Str.length "-"=1:=by decide+kernel
       refine⟨_,rfl,_,_,rfl,rfl,_,rfl,?_⟩;have fin:=k _ (put H2 (numS (r:Int)) (a8.refl _));refine bN (fun hi=>?_) (fun hi=>?_)
       · have hi:=ij hi
         refine⟨_,rfl,by simp only[bE];omega,_,rfl,.inr ⟨_,rfl,by omega,_,rfl,by simp only[bE];omega,by simp only[bE];omega,?_⟩⟩;rw[Str.empty_append,Nu.abs_neg hi,<-Nu.Ak hi];exact fin
       · have hi:=(mt bH) hi
         rw[Nu.E3 hi];exact⟨_,rfl,fin⟩
   · rintro σ H2 Q1 Q2 hq h
     obtain⟨v1,e1,i1,j1,e2,e3,kk,e4,q⟩:=h;exact⟨v1,e1,i1,j1,e2,e3,kk,e4,hq _ _ q⟩
abbrev lY:Stmt:=top 35
theorem qJ:aV ["_law_thing"] ["_law_thing"] (aJ lY):=bj (by decide+kernel)
theorem zX(F:FA K mg "_law_is_whole" lY)(B:aQ mg):ah P w K mg base "_law_is_whole" 1 (iH K):=by
 refine F.has qJ (fun vs H Q E h=>?_) (fun _ _ _ _ _ _=>cA fun _=>rfl) (fun f aj A outer s H vs Q E hr h=>?_)
 · obtain⟨v,T,rfl,_⟩:=h
   rfl
 · obtain⟨v,T,rfl,ty,k⟩:=h
   have nd:=qJ.nd;refine⟨_,(ao (az (fY (cV K B (a0 (pv 0) (a0 (cU (x:="int") (v:=.ty "int") rfl (B.at "int") wq rfl) a6))) (fW (rF (cV K B (a0 (pv 0) (a0 (cU (x:="bool") (v:=.ty "bool") rfl (B.at "bool") PyProof.Rows.boot_bool rfl) a6)))))))),?_⟩;refine⟨_,rfl,.inl ⟨_,T,"int",_,rfl,ty,by decide,rfl,_,rfl,?_⟩⟩;unfold iV at k;refine bN (fun hc=>?_) (fun hc=>?_)
   · refine⟨_,rfl,.inl ⟨_,T,"bool",_,rfl,ty,by decide,rfl,_,rfl,?_⟩⟩
     rw[hc,de]at k;exact k
   · rw[lu.mpr hc,df]at k
     exact k
abbrev m6:Stmt:=top 4
theorem qP:aV ["thing"] ["thing"] (aJ m6):=bj (by decide+kernel)
theorem A0(F:FA K mg "is_whole" m6)(B:aQ mg):ah P w K mg base "is_whole" 1 (iH K):=by
 refine F.has qP (fun vs H Q E h=>?_) (fun _ _ _ _ _ _=>cA fun _=>rfl) (fun f aj A outer s H vs Q E hr h=>?_)
 · obtain⟨v,T,rfl,_⟩:=h
   rfl
 · obtain⟨v,T,rfl,ty,k⟩:=h
   have nd:=qP.nd;refine⟨_,(ao (az (fY (cV K B (a0 (pv 0) (a0 (cU (x:="int") (v:=.ty "int") rfl (B.at "int") wq rfl) a6))) (fW (rF (cV K B (a0 (pv 0) (a0 (cU (x:="bool") (v:=.ty "bool") rfl (B.at "bool") PyProof.Rows.boot_bool rfl) a6)))))))),?_⟩;refine⟨_,rfl,.inl ⟨_,T,"int",_,rfl,ty,by decide,rfl,_,rfl,?_⟩⟩;unfold iV at k;refine bN (fun hc=>?_) (fun hc=>?_)
   · refine⟨_,rfl,.inl ⟨_,T,"bool",_,rfl,ty,by decide,rfl,_,rfl,?_⟩⟩
     rw[hc,de]at k;exact k
   · rw[lu.mpr hc,df]at k
     exact k
open Ln
def bX(ns:List Int)(sp:Int):F1:=.tuple [.str "line",.tuple (ns.map PyData.int),.int sp]
theorem AV(ns:List Int)(sp:Int):cj (bX ns sp)=true:=by simp[bX,cj,bA,rX]
structure uK(ax:Nat)(m:Int)(ns:List Int):Prop where
 len:ns.length=ax
 bd:∀z∈ns,(z.natAbs:Int)<=m
 nz:∃z∈ns,z≠0
theorem AS{H:Hp}{v:V}{ns:List Int}{sp:Int}(h:RD K H v (bX ns sp)):∃a b,v= .ref a/\af K H a [.str "line",.ref b,.int sp]/\af K H b (ns.map V.int):=by obtain⟨a,xs,rfl,h1,h2⟩:=h.aZ;obtain⟨x1,r1,rfl,e1,h2⟩:=h2.cons_inv;obtain⟨x2,r2,rfl,e2,h2⟩:=h2.cons_inv;obtain⟨x3,r3,rfl,e3,h2⟩:=h2.cons_inv;cases h2.nil_inv;cases e1.str_inv;cases e3.int_inv;obtain⟨b,ys,rfl,h3,h4⟩:=e2.aZ;rw[h4.gf]at h3;exact⟨a,b,rfl,h1,h3⟩
open Rt
def kf(rs:List Int)(r f j t:Int):F1:=.tuple [.tuple (rs.map PyData.int),.int r,.int f,.int j,.int t]
theorem su(rs:List Int)(r f j t:Int):cj (kf rs r f j t)=true:=by simp[kf,cj,bA,rX]
theorem AM{H:Hp}{v:V}{rs:List Int}{r f j t:Int}(h:RD K H v (kf rs r f j t)):∃a b,v= .ref a/\af K H a [.ref b,.int r,.int f,.int j,.int t]/\af K H b (rs.map V.int):=by obtain⟨a,xs,rfl,h1,h2⟩:=h.aZ;obtain⟨x1,r1,rfl,e1,h2⟩:=h2.cons_inv;obtain⟨x2,r2,rfl,e2,h2⟩:=h2.cons_inv;obtain⟨x3,r3,rfl,e3,h2⟩:=h2.cons_inv;obtain⟨x4,r4,rfl,e4,h2⟩:=h2.cons_inv;obtain⟨x5,r5,rfl,e5,h2⟩:=h2.cons_inv;cases h2.nil_inv;cases e2.int_inv;cases e3.int_inv;cases e4.int_inv;cases e5.int_inv;obtain⟨b,ys,rfl,h3,h4⟩:=e1.aZ;rw[h4.gf]at h3;exact⟨a,b,rfl,h1,h3⟩
structure Ed(rs:List Int)(r f j t:Int):Prop where
 len:rs.length=2\/rs.length=3
 rl:∀z∈rs,1<=z/\z<=100
 r1:1<=r/\r<=50
 f1:1<=f/\f<=50
 j1:1<=j/\j<=50
 t1:1<=t/\t<=100
inductive vh(K:EY)(vs:List V)(H:Hp)(Q:VK):Prop |mk (p:_)(h0:vs=[.ref p])(h1:cC H p)(h2:∀v rs r f j t H',RD K H' v (kf rs r f j t)->Ed rs r f j t->au p H H'->Q v H'):vh K vs H Q
def qi(K:EY):Sp:=fun vs H Q _=>vh K vs H Q
abbrev Itm:=Option (List Int × Int)
def itR(d:F1)(o:Itm):Prop:=(∃ns sp,d=bX ns sp/\o=some (ns,sp))\/∃w x,d= .tuple [.str w,x]/\(w="wait"\/w="tool"\/w="mark")/\cj x=true/\o=none
theorem Bd{H:Hp}{v:V}{d:F1}{o:Itm}(h:RD K H v d)(i:itR d o):∃a w ys,v= .ref a/\af K H a (.str w::ys)/\(PyData.eqv (.str w) (.str "line")=o.isSome)/\SeqAt.shaped (.str w)=true:=by
 rcases i with⟨ns,sp,rfl,rfl⟩|⟨w,x,rfl,hw,_,rfl⟩
 · obtain⟨a,b,rfl,h1,_⟩:=AS h
   exact⟨a,_,_,rfl,h1,(by show PyData.eqv (.str "line") (.str "line")=true;decide+kernel),by decide+kernel⟩
 · obtain⟨a,xs,rfl,h1,h2⟩:=h.aZ
   obtain⟨x1,r1,rfl,e1,h2⟩:=h2.cons_inv;cases e1.str_inv;refine⟨a,w,r1,rfl,h1,?_,?_⟩
   · show PyData.eqv (.str w) (.str "line")=false
     rcases hw with rfl|rfl|rfl<;>decide+kernel
   ·rcases hw with rfl|rfl|rfl<;>decide+kernel
theorem AU:SeqAt.shaped (.str "line")=true:=by decide+kernel
theorem sN{d:F1}{ns:List Int}{sp:Int}(h:itR d (some (ns,sp))):d=bX ns sp:=by
 rcases h with⟨Eu,Ep,e1,e2⟩|⟨_,_,_,_,_,e2⟩
 ·cases e2;exact e1
 ·cases e2
inductive vt(K:EY)(vs:List V)(H:Hp)(Q:VK):Prop |mk (v:_)(d:_)(o:_)(h0:vs=[v])(h1:RD K H v d)(h2:itR d o)(h3:Q (.bl o.isSome) H):vt K vs H Q
def qo(K:EY):Sp:=fun vs H Q _=>vt K vs H Q
abbrev m5:Stmt:=top 14
theorem qN:aV ["item"] ["item"] (aJ m5):=bj (by decide+kernel)
theorem A3(F:FA K mg "is_line" m5)(B:aQ mg):ah P w K mg base "is_line" 1 (qo K):=by
 refine F.has qN (fun vs H Q E h=>?_) (fun _ _ _ _ _ _=>cA fun _=>rfl) (fun f aj A outer s H vs Q E hr h=>?_)
 · obtain⟨v,d,o,rfl,_⟩:=h
   rfl
 · obtain⟨v,d,o,rfl,ri,it,k⟩:=h
   have nd:=qN.nd;refine⟨_,(ao (az (fu (cO K rfl hr.units) (px K (pv 0) a9) aI (aP _)))),?_⟩;obtain⟨a,wd,ys,rfl,h1,ew,sw⟩:=Bd ri it;refine⟨_,rfl,.inr ⟨a,_,0,.str wd,rfl,rfl,h1,cy (dA 0) rfl,.inr ⟨_,_,aH _,aH _,sw,AU,?_⟩⟩⟩;rw[ew];exact k
theorem gM{H:Hp}:∀{xs:List V}{zs:List Str},ae K H xs (zs.map PyData.str)->xs=zs.map V.str |xs,[],h=>h.nil_inv |xs,n::ns,h=>by obtain⟨y,ys,rfl,h1,h2⟩:=h.cons_inv;rw[h1.str_inv,gM h2];rfl
def c6:Str:="abcdefghijklmnopqrstuvwxyz"
theorem E7:c6.cps.toList.length=26:=by decide+kernel
theorem DS{α:Type}{xs:List α}{x:α}(h:xs.getLast? =some x):cz xs (-1)=some x:=by
 unfold cz ee;have hl:xs≠[]:=by intro e;rw[e]at h;cases h
 have h0:0<xs.length:=List.length_pos_iff.mpr hl;rw[aE (by decide),aD (by omega)];rw[List.getLast?_eq_getElem?]at h;show xs[((-1:Int)+(xs.length:Int)).toNat]? =some x;have e:((-1:Int)+(xs.length:Int)).toNat=xs.length-1:=by omega
 rw[e];exact h
theorem fq:c9 "tuple" "tuple"=true:=by decide
theorem wW(d:F1):(∃i,d= .int i/\iV (dZ d)=true)\/(iV (dZ d)=false/\∀i,d≠ .int i):=by cases d with |int i=>exact .inl ⟨i,rfl,by simp[dZ];decide⟩ |_=>exact .inr ⟨by simp[dZ];decide,fun _ z=>nomatch z⟩
theorem pG(d:F1):(∃ds,d= .tuple ds)\/(c9 (dZ d) "tuple"=false/\∀ds,d≠ .tuple ds):=by cases d with |tuple ds=>exact .inl ⟨ds,rfl⟩ |_=>exact .inr ⟨by simp[dZ];decide,fun _ z=>nomatch z⟩
def bZ(lo hi:Int):F1->Bool | .int i=>decide (lo<=i)&&decide (i<=hi) |_=>false
theorem Bk{lo hi:Int}{d:F1}(h:∀i,d≠ .int i):bZ lo hi d=false:=by cases d<;>first|rfl|exact absurd rfl (h _)
inductive uW(K:EY)(vs:List V)(H:Hp)(Q:VK):Prop |mk (v:_)(d:_)(lo:_)(hi:_)(h0:vs=[v,.int lo,.int hi])(h1:RD K H v d)(h2:Q (.bl (bZ lo hi d)) H):uW K vs H Q
def iG(K:EY):Sp:=fun vs H Q _=>uW K vs H Q
abbrev lK:Stmt:=top 5
theorem qu:aV ["thing","low","high"] ["thing","low","high"] (aJ lK):=bj (by decide+kernel)
theorem zK(F:FA K mg "is_whole_within" lK)(B:aQ mg)(C4:ah P w K mg base "is_whole" 1 (iH K)):ah P w K mg base "is_whole_within" 2 (iG K):=by
 refine F.has qu (fun vs H Q E h=>?_) (fun _ _ _ _ _ _=>DZ fun _ _ _=>rfl) (fun f aj A outer s H vs Q E hr h=>?_)
 · obtain⟨v,d,lo,hi,rfl,_⟩:=h
   rfl
 · obtain⟨v,d,lo,hi,rfl,rd,k⟩:=h
   have nd:=qu.nd;refine⟨_,(ao (az (fY (pf C4 hr (a0 (pv 0) a6)) (fW (zk k5 k5 (pv 1) (pv 0) (pv 2)))))),?_⟩;refine⟨_,rfl,_,_,rfl,rd.ty,_,rfl,?_⟩;rcases wW d with⟨i,rfl,e⟩|⟨e,hn⟩
   · cases rd.int_inv
     rw[e];refine aR ?_;have k:Q (.bl (decide (lo<=i)&&decide (i<=hi))) H:=k;refine⟨_,rfl,_,rfl,_,_,rfl,rfl,_,rfl,?_⟩;refine bN (fun hc=>?_) (fun hc=>?_)
     · have cX:decide (lo<=i)=true:=hc
       rw[cX,de]at k;exact⟨_,rfl,_,_,rfl,rfl,k⟩
     · have cX:decide (lo<=i)=false:=lu.mpr hc
       rw[cX,df]at k;exact k
   · rw[e]
     refine aF ?_;rw[Bk hn]at k;exact k
open Cn
open Pn
open Wk
theorem AL{H:Hp}{v:V}{rs:List Int}{es:List F1}(h:RD K H v (.tuple (.tuple (rs.map PyData.int)::es))):∃a b ys,v= .ref a/\af K H a (.ref b::ys)/\af K H b (rs.map V.int):=by obtain⟨a,xs,rfl,h1,h2⟩:=h.aZ;obtain⟨x1,r1,rfl,e1,h2⟩:=h2.cons_inv;obtain⟨b,ys,rfl,h3,h4⟩:=e1.aZ;rw[h4.gf]at h3;exact⟨a,b,r1,rfl,h1,h3⟩
def bJ(z:Str):F1->Bool | .str x=>x==z |_=>false
theorem kD(z:Str)(d:F1):PyData.eqv d (.str z)=bJ z d:=by cases d<;>simp[PyData.eqv,bJ]
theorem tS(z:Str)(d:F1):PyData.eqv (.str z) d=bJ z d:=by cases d<;>simp[PyData.eqv,bJ];rw[eH];simp;exact eq_comm
theorem xS(d:F1):(∃z,d= .str z)\/(c9 (dZ d) "str"=false/\∀z,d≠ .str z):=by cases d with |str z=>exact .inl ⟨z,rfl⟩ |_=>exact .inr ⟨by simp[dZ];decide,fun _ z=>nomatch z⟩
theorem iA:c9 "str" "str"=true:=by decide
def nC(d:F1):Bool:=bJ "up" d||bJ "down" d
def gZ(c:Nat):Bool:=decide (97<=c)&&decide (c<=122)
def isNm:F1->Bool | .str x=>(decide (1<=x.length)&&decide (x.length<=8))&&x.cps.toList.all gZ |_=>false
def eS(wd v:F1):Bool:=if bJ "wait" wd then bZ 1 1000 v else if bJ "tool" wd then nC v else bJ "mark" wd&&isNm v
def iP:F1->Bool | .int i=>i !=0 |_=>true
def gb(n:Nat):F1->Bool | .tuple ds=>(ds.length==n&&ds.all (bZ (-100) 100))&&ds.any iP |_=>false
def eg(n:Nat):F1->Bool | .tuple [wd,a,b]=>bJ "line" wd&&(gb n a&&bZ 1 20 b) | .tuple [wd,v]=>eS wd v |_=>false
def cI:F1->Bool | .str x=>decide (x.length<=900) |_=>true
def jS:F1->Bool | .tuple ds=>ds.all cI |_=>true
inductive uX(f:F1->Bool)(K:EY)(vs:List V)(H:Hp)(Q:VK):Prop |mk (v:_)(d:_)(h0:vs=[v])(h1:RD K H v d)(h2:cI d=true)(h3:∀H',a8 H H'->Q (.bl (f d)) H'):uX f K vs H Q
def pZ(f:F1->Bool)(K:EY):Sp:=fun vs H Q _=>uX f K vs H Q
theorem y6{z:Str}(h:cI (.str z)=true):z.length<=900:=ij h
theorem sj(n:Nat):decide ((1:Int)<=(n:Int))=decide (1<=n):=by rw[eH];simp;omega
theorem Aw(n:Nat):decide ((n:Int)<=8)=decide (n<=8):=by rw[eH];simp;omega
theorem uG{l:List Nat}{f:Nat->Bool}:(l.map f).all id=l.all f:=by rw[List.all_map];rfl
theorem E6:∀c<128,decide (c∈c6.cps.toList)=gZ c:=by decide+kernel
theorem E9:∀c∈c6.cps.toList,c<128:=by decide+kernel
theorem E8(c:Nat):decide (c∈c6.cps.toList)=gZ c:=by
 by_cases h:c<128
 ·exact E6 c h
 ·rw[bQ (fun hc=>h (E9 c hc)),gZ,bQ (show¬c<=122 by omega),Bool.and_false]
abbrev m8:Stmt:=top 17
theorem qR:aV ["thing"] ["thing"] (aJ m8):=bj (by decide+kernel)
theorem A6(F:FA K mg "is_name" m8)(B:aQ mg)(Cy:GV mg "LONGEST_NAME" (.int 8))(Cz:GV mg "LETTERS" (.str c6)):ah P w K mg base "is_name" 1 (pZ isNm K):=by
 refine F.has qR (fun vs H Q E h=>?_) (fun _ _ _ _ _ _=>cA fun _=>rfl) (fun f aj A outer s H vs Q E hr h=>?_)
 · obtain⟨v,d,rfl,_⟩:=h
   rfl
 · obtain⟨v,d,rfl,rd,sh,k⟩:=h
   have nd:=qR.nd;refine⟨_,(ag (bb (PW.pt (fR (dh (cL (cV K B (a0 (pv 0) (a0 (cU (x:="str") (v:=.ty "str") rfl (B.at "str") fI rfl) a6))))) (gQ (dh (yT k5 k5 a9 (bV (x:="len") DD rfl (B.at "len") PySem.boot_len (a0 (pv 0) a6)) (dj (x:="LONGEST_NAME") rfl Cy)))))) (ao (az eM)) bo) (ao (az (bV (x:="all") (je K rfl rfl) rfl (B.at "all") l4 (a0 (cf (N:=["letter"]) (js:=[none]) rfl rfl rfl (mI (pv 0)) (fun _ _ _ _ _=>(aL 0 (e9 _))) (fun _ _ _ _ _=>bT) (fun _ _ _ _ _=>(fu rM (pv 0) (dj (x:="LETTERS") rfl Cz) (by with_unfolding_all rfl)))) a6))))),?_⟩;rcases xS d with⟨z,rfl⟩|⟨ht,hn⟩
   · refine⟨_,rfl,.inl ⟨_,_,"str",true,rfl,rd.ty,by decide,iA,_,rfl,aF ?_⟩⟩
     cases rd.str_inv;have hl:=y6 sh;have k:∀H',a8 H H'->Q (.bl ((decide (1<=z.length)&&decide (z.length<=8))&&z.cps.toList.all gZ)) H':=k;refine⟨_,rfl,z,rfl,cE hl (by decide),_,_,rfl,rfl,_,rfl,?_⟩;refine bN (fun h1=>?_) (fun h1=>?_)
     · rw[<-sj,show decide ((1:Int)<=(z.length:Int))=true from h1,de]at k
       refine⟨_,_,rfl,rfl,_,rfl,?_⟩;rw[Aw];cases e8:decide (z.length<=8)with |false=>rw[e8,df]at k;exact aR (k H (a8.refl _)) |true=>
         rw[e8,de]at k;refine aF ⟨_,rfl,z,rfl,fun D H0 nw=>?_⟩;refine ug (f:=gZ) [] nw (by omega) (fun c H2 Q' hc s2 hq=>?_) (fun H2 s2 d2=>?_)
         · refine⟨_,rfl,c,c6,rfl,rfl,?_⟩
           rw[E8];exact hq _ (a8.refl _)
         · refine⟨D,_,rfl,aa.of d2,?_⟩
           rw[uG];exact k H2 s2
     · rw[<-sj,show decide ((1:Int)<=(z.length:Int))=false from lu.mpr h1,df,df]at k
       exact⟨_,rfl,aR (k H (a8.refl _))⟩
   · have e:isNm d=false:=by cases d<;>first|rfl|exact absurd rfl (hn _)
     rw[e]at k;refine⟨_,rfl,.inl ⟨_,_,"str",false,rfl,rd.ty,by decide,ht,_,rfl,aR ?_⟩⟩;exact k H (a8.refl _)
inductive v8(K:EY)(vs:List V)(H:Hp)(Q:VK):Prop |mk (x:_)(v:_)(wd:_)(d:_)(h0:vs=[x,v])(h1:RD K H x wd)(h2:RD K H v d)(h3:aN 8 wd)(h4:aN 8 d)(h5:cI d=true)(h6:∀H',a8 H H'->Q (.bl (eS wd d)) H'):v8 K vs H Q
def qb(K:EY):Sp:=fun vs H Q _=>v8 K vs H Q
theorem gO{d:F1}(h:aN 8 d):SeqAt.shaped d=true:=h.shaped (by decide)
abbrev m7:Stmt:=top 16
theorem qQ:aV ["word","value"] ["word","value"] (aJ m7):=bj (by decide+kernel)
theorem A5(F:FA K mg "is_short_item" m7)(B:aQ mg)(Cw:GV mg "LONGEST_WAIT" (.int 1000))(gS:GT K mg "SIDES" [.str "up",.str "down"])(j2:ah P w K mg base "is_whole_within" 2 (iG K))(C6:ah P w K mg base "is_name" 1 (pZ isNm K)):ah P w K mg base "is_short_item" 3 (qb K):=by
 refine F.has qQ (fun vs H Q E h=>?_) (fun _ _ _ _ _ _=>eC fun _ _=>rfl) (fun f aj A outer s H vs Q E hr h=>?_)
 · obtain⟨x,v,wd,d,rfl,_⟩:=h
   rfl
 · obtain⟨x,v,wd,d,rfl,mm,rd,mQ,okd,sh,k⟩:=h
   have nd:=qQ.nd;obtain⟨aS,Ct,xT⟩:=gS;refine⟨_,(ag (bb (ba (cO K rfl hr.units) (pv 0) aI (aP _)) (ao (az (pf j2 hr (a0 (pv 1) (a0 a9 (a0 (dj (x:="LONGEST_WAIT") rfl Cw) a6)))))) bo) (ag (bb (ba (cO K rfl hr.units) (pv 0) aI (aP _)) (ao (az (fu (Bm K rfl (hr.wZ)) (pv 1) (dj (x:="SIDES") rfl Ct) (by with_unfolding_all rfl)))) bo) (ao (az (fY (fu (cO K rfl hr.units) (pv 0) aI (aP _)) (fW (pf C6 hr (a0 (pv 1) a6)))))))),?_⟩;have k:∀H',a8 H H'->Q (.bl (if bJ "wait" wd then bZ 1 1000 d else if bJ "tool" wd then nC d else bJ "mark" wd&&isNm d)) H':=k;refine⟨_,rfl,.inr ⟨_,_,mm,aH _,gO mQ,by decide+kernel,_,rfl,?_⟩⟩;rw[kD];cases e1:bJ "wait" wd with |true=>rw[e1,aD rfl]at k;exact aR ⟨_,rfl,_,d,1,1000,rfl,rd,k H (a8.refl _)⟩ |false=>rw[e1,aE bF]at k;refine aF ⟨_,rfl,.inr ⟨_,_,mm,aH _,gO mQ,by decide+kernel,_,rfl,?_⟩⟩;rw[kD];cases e2:bJ "tool" wd with
     |true=>
       rw[e2,aD rfl]at k;refine aR ⟨_,rfl,aS,_,d,[.str "up",.str "down"],rfl,xT H,rd,bD (aH _) (bD (aH _) cb),gO okd,?_,?_⟩
       · intro e he
         rcases aW.mp he with rfl|he
         ·decide+kernel
         rcases aW.mp he with rfl|he
         ·decide+kernel
         ·exact(dw he).elim
       · have e:([.str "up",.str "down"]:List F1).any (fun e=>PyData.eqv e d)=nC d:=by rw[l9,l9,List.any_nil,tS,tS,Bool.or_false];rfl
         rw[e];exact k H (a8.refl _) |false=>rw[e2,aE bF]at k;refine aF ⟨_,rfl,.inr ⟨_,_,mm,aH _,gO mQ,by decide+kernel,_,rfl,?_⟩⟩;rw[kD];cases e3:bJ "mark" wd with |true=>rw[e3,de]at k;exact aR ⟨_,rfl,_,d,rfl,rd,sh,k⟩ |false=>rw[e3,df]at k;exact aF (k H (a8.refl _))
theorem Ah(i:Int):(!decide (i=0))=(i !=0):=by rw[eH];simp
theorem Bl{lo hi:Int}{d:F1}(h:bZ lo hi d=true):∃i,d= .int i:=by cases d<;>simp[bZ]at h;exact⟨_,rfl⟩
theorem any_map'{ds:List F1}{f:F1->Bool}:(ds.map f).any id=ds.any f:=by rw[List.any_map];rfl
inductive uZ(K:EY)(vs:List V)(H:Hp)(Q:VK):Prop |mk (m:V)(v:V)(rs:List Int)(es:List F1)(d:F1)(h0:vs=[m,v])(h1:RD K H m ((.tuple (.tuple (rs.map PyData.int)::es))))(h2:RD K H v d)(h3:rs.length<=3)(h4:∀H',a8 H H'->Q (.bl (gb rs.length d)) H'):uZ K vs H Q
def q0(K:EY):Sp:=fun vs H Q _=>uZ K vs H Q
abbrev me:Stmt:=top 15
theorem qU:aV ["machine","thing","rails"] ["machine","thing"] (aJ me):=bj (by decide+kernel)
theorem A9(F:FA K mg "are_steps" me)(B:aQ mg)(tw:GV mg "MOST_STEPS" (.int 100))(j2:ah P w K mg base "is_whole_within" 2 (iG K)):ah P w K mg base "are_steps" 3 (q0 K):=by
 refine F.has qU (fun vs H Q E h=>?_) (fun _ _ _ _ _ _=>eC fun _ _=>rfl) (fun f aj A outer s H vs Q E hr h=>?_)
 · obtain⟨m,v,rs,es,d,rfl,_⟩:=h
   rfl
 · obtain⟨m,v,rs,es,d,rfl,rm,rd,l3,k⟩:=h
   have nd:=qU.nd;refine⟨_,(ag (pS 2 nd (px K (pv 0) a9)) (ag (bb (PW.pt (fR (dh (cL (cV K B (a0 (pv 1) (a0 (cU (x:="tuple") (v:=.ty "tuple") rfl (B.at "tuple") eG rfl) a6))))) (gQ (ba (kc K rfl hr.units) (dG K B (a0 (pv 1) a6)) (dG K B (a0 (pv 2) a6)) (aP _))))) (ao (az eM)) bo) (ag (bb (dh (cL (bV (x:="all") (je K rfl rfl) rfl (B.at "all") l4 (a0 (cf (N:=["step"]) (js:=[none]) rfl rfl rfl (fT K rfl (pv 1)) (fun _ _ _ _ _=>(aL 0 (e9 _))) (fun _ _ _ _ _=>bT) (fun _ _ _ _ _=>(pf j2 hr (a0 (pv 0) (a0 (jZ jE (dj (x:="MOST_STEPS") rfl tw)) (a0 (dj (x:="MOST_STEPS") rfl tw) a6)))))) a6)))) (ao (az eM)) bo) (ao (az (bV (x:="any") (DV K rfl rfl) rfl (B.at "any") PyProof.Rows.boot_any (a0 (cf (N:=["step"]) (js:=[none]) rfl rfl rfl (fT K rfl (pv 1)) (fun _ _ _ _ _=>(aL 0 (e9 _))) (fun _ _ _ _ _=>bT) (fun _ _ _ _ _=>(fu (kc K rfl hr.units) (pv 0) a9 (aP _)))) a6))))))),?_⟩;obtain⟨am,ar,ym,rfl,hm,Cq⟩:=AL rm;refine⟨_,rfl,.inr ⟨am,_,0,_,rfl,rfl,hm,cy (dA 0) rfl,?_⟩⟩;rcases pG d with⟨ds,rfl⟩|⟨ht,hn⟩
   · refine⟨_,rfl,.inl ⟨_,_,"tuple",true,rfl,rd.ty,by decide,fq,_,rfl,aF ?_⟩⟩
     obtain⟨av,xs,rfl,hx,hd⟩:=rd.aZ;have hl:=hd.length;refine⟨_,rfl,av,_,rfl,.inr hx,_,rfl,ar,_,rfl,.inr Cq,.inl ⟨_,_,rfl,rfl,_,rfl,?_⟩⟩;have k:∀H',a8 H H'->Q (.bl ((ds.length==rs.length&&ds.all (bZ (-100) 100))&&ds.any iP)) H':=k;have e0:(!decide ((xs.length:Int)=((rs.map V.int).length:Int)))= !(ds.length==rs.length):=by rw[hl,aG];congr 1;rw[eH];simp;omega
     rw[e0];cases e:(ds.length==rs.length)with |false=>rw[e,df,df]at k;exact aR (k H (a8.refl _)) |true=>
       rw[e,de]at k;refine aF ?_;have el:ds.length=rs.length:=cD.mp e;refine⟨_,rfl,av,rfl,⟨_,hx⟩,fun D H0 nw=>?_⟩;refine oj (xs:=xs) (bs:=ds.map (bZ (-100) 100)) [] hx nw (by rw[aG,hl]) (by omega) ?_ ?_
       · intro i x b H2 Q' ex eb s2 hq
         obtain⟨d,ed,rfl⟩:=sm eb;obtain⟨x',i5,rx⟩:=hd.get i ed;rw[ex]at i5;cases i5;exact⟨_,rfl,_,rfl,_,d,-100,100,rfl,RD.mono s2 _ rx,hq _ (a8.refl _)⟩
       · intro H2 s2 d2
         refine⟨D,_,rfl,aa.of d2,_,rfl,?_⟩;rw[all_map];cases e1:ds.all (bZ (-100) 100)with |false=>rw[e1,df]at k;exact aR (k H2 s2) |true=>
           rw[e1,de]at k;refine aF ⟨_,rfl,av,rfl,⟨_,hx.go s2⟩,fun D2 H3 n3=>?_⟩;refine oj (xs:=xs) (bs:=ds.map iP) [] (hx.go s2) n3 (by rw[aG,hl]) (by omega) ?_ ?_
           · intro i x b H4 Q' ex eb s4 hq
             obtain⟨d,ed,rfl⟩:=sm eb;obtain⟨x',i5,rx⟩:=hd.get i ed;rw[ex]at i5;cases i5;obtain⟨z,rfl⟩:=Bl (bK.mp e1 d (cF ed));cases rx.int_inv;refine⟨_,rfl,.inl ⟨_,_,rfl,rfl,?_⟩⟩;show Q' (.bl (!decide (z=0))) H4;rw[Ah];exact hq _ (a8.refl _)
           · intro H4 s4 d4
             refine⟨D2,_,rfl,aa.of d4,?_⟩;rw[any_map'];exact k H4 (s2.trans s4)
   · have e:gb rs.length d=false:=by cases d<;>first|rfl|exact absurd rfl (hn _)
     rw[e]at k;refine⟨_,rfl,.inl ⟨_,_,"tuple",false,rfl,rd.ty,by decide,ht,_,rfl,aR ?_⟩⟩;exact k H (a8.refl _)
theorem item_cases(n:Nat)(d:F1):(∃wd a b,d= .tuple [wd,a,b])\/(∃wd v,d= .tuple [wd,v])\/(∃ds,d= .tuple ds/\ds.length≠3/\ds.length≠2/\eg n d=false)\/(c9 (dZ d) "tuple"=false/\eg n d=false):=by
 rcases pG d with⟨ds,rfl⟩|⟨ht,hn⟩
 ·match ds with |[r,a,b]=>exact .inl ⟨r,a,b,rfl⟩ |[r,a]=>exact .inr (.inl ⟨r,a,rfl⟩) |[]=>exact .inr (.inr (.inl ⟨_,rfl,by simp,by simp,by simp[eg]⟩)) |[_]=>exact .inr (.inr (.inl ⟨_,rfl,by simp,by simp,by simp[eg]⟩)) |_::_::_::_::_=>exact .inr (.inr (.inl ⟨_,rfl,by simp,by simp,by simp[eg]⟩))
 ·exact .inr (.inr (.inr ⟨ht,by cases d<;>first|rfl|exact absurd rfl (hn _)⟩))
inductive vm(K:EY)(vs:List V)(H:Hp)(Q:VK):Prop |mk (m:V)(v:V)(rs:List Int)(es:List F1)(d:F1)(h0:vs=[m,v])(h1:RD K H m ((.tuple (.tuple (rs.map PyData.int)::es))))(h2:RD K H v d)(h3:rs.length<=3)(h4:aN 8 d)(h5:jS d=true)(h6:∀H',a8 H H'->Q (.bl (eg rs.length d)) H'):vm K vs H Q
def lJ(K:EY):Sp:=fun vs H Q _=>vm K vs H Q
theorem mT{ds:List F1}(h:aN 8 (.tuple ds)){d:F1}(hd:d∈ds):aN 8 d:=((aN.aZ (n:=7) h) d hd).le (by decide)
theorem y8{ds:List F1}(h:jS (.tuple ds)=true){d:F1}(hd:d∈ds):cI d=true:=bK.mp (show ds.all cI=true from h) d hd
abbrev m9:Stmt:=top 13
theorem qS:aV ["machine","thing","word","steps","speed","value"] ["machine","thing"] (aJ m9):=bj (by decide+kernel)
theorem A7(F:FA K mg "is_item" m9)(B:aQ mg)(CA:GV mg "GREATEST_SPEED" (.int 20))(j2:ah P w K mg base "is_whole_within" 2 (iG K))(Cp:ah P w K mg base "are_steps" 3 (q0 K))(C5:ah P w K mg base "is_short_item" 3 (qb K)):ah P w K mg base "is_item" 4 (lJ K):=by
 refine F.has qS (fun vs H Q E h=>?_) (fun _ _ _ _ _ _=>eC fun _ _=>rfl) (fun f aj A outer s H vs Q E hr h=>?_)
 · obtain⟨m,v,rs,es,d,rfl,_⟩:=h
   rfl
 · obtain⟨m,v,rs,es,d,rfl,rm,rd,l3,okd,sh,k⟩:=h
   have nd:=qS.nd;refine⟨_,(ag (bb (dh (cL (cV K B (a0 (pv 1) (a0 (cU (x:="tuple") (v:=.ty "tuple") rfl (B.at "tuple") eG rfl) a6))))) (ao (az eM)) bo) (ag (bb (ba (cO K rfl hr.units) (dG K B (a0 (pv 1) a6)) a9 (aP _)) (ag (eK (pv 1) (fV K rfl (n:=3) rfl (bU (aL 2 nd) (bU (aL 3 nd) (bU (aL 4 nd) fU))))) (ao (az (fY (fu (cO K rfl hr.units) (pv 2) aI (aP _)) (fY (pf Cp hr (a0 (pv 0) (a0 (pv 3) a6))) (fW (pf j2 hr (a0 (pv 4) (a0 a9 (a0 (dj (x:="GREATEST_SPEED") rfl CA) a6)))))))))) bo) (ag (bb (ba (cO K rfl hr.units) (dG K B (a0 (pv 1) a6)) a9 (aP _)) (ag (eK (pv 1) (fV K rfl (n:=2) rfl (bU (aL 2 nd) (bU (aL 5 nd) fU)))) (ao (az (pf C5 hr (a0 (pv 2) (a0 (pv 5) a6)))))) bo) (ao (az eM))))),?_⟩;rcases item_cases rs.length d with⟨wd,a,b,rfl⟩|⟨wd,a,rfl⟩|⟨ds,rfl,h3,h2,hf⟩|⟨ht,hf⟩
   · refine⟨_,rfl,.inl ⟨_,_,"tuple",true,rfl,rd.ty,by decide,fq,_,rfl,aF ?_⟩⟩
     obtain⟨p,xs,rfl,hx,hd⟩:=rd.aZ;obtain⟨u1,ys,rfl,r1,hd⟩:=hd.cons_inv;obtain⟨u2,ys,rfl,r2,hd⟩:=hd.cons_inv;obtain⟨u3,ys,rfl,r3,hd⟩:=hd.cons_inv;cases hd.nil_inv;have k:∀H',a8 H H'->Q (.bl (bJ "line" wd&&(gb rs.length a&&bZ 1 20 b))) H':=k;refine⟨_,rfl,p,_,rfl,.inr hx,.inl ⟨_,_,rfl,rfl,_,rfl,aR ?_⟩⟩;refine⟨_,rfl,p,_,rfl,hx,rfl,_,_,rfl,_,_,rfl,_,_,rfl,rfl,?_⟩;refine⟨_,rfl,.inr ⟨_,_,r1,aH _,gO (mT okd (by simp)),by decide+kernel,_,rfl,?_⟩⟩;rw[kD];cases e1:bJ "line" wd with |false=>rw[e1,df]at k;exact aF (k H (a8.refl _)) |true=>rw[e1,de]at k;refine aR ⟨_,rfl,_,rfl,_,_,rs,es,a,rfl,rm,r2,l3,fun H1 s1=>⟨_,rfl,?_⟩⟩;cases e2:gb rs.length a with |false=>rw[e2,df]at k;exact aF (k H1 s1) |true=>rw[e2,de]at k;exact aR ⟨_,rfl,_,b,1,20,rfl,RD.mono s1 _ r3,k H1 s1⟩
   · refine⟨_,rfl,.inl ⟨_,_,"tuple",true,rfl,rd.ty,by decide,fq,_,rfl,aF ?_⟩⟩
     obtain⟨p,xs,rfl,hx,hd⟩:=rd.aZ;obtain⟨u1,ys,rfl,r1,hd⟩:=hd.cons_inv;obtain⟨u2,ys,rfl,r2,hd⟩:=hd.cons_inv;cases hd.nil_inv;have k:∀H',a8 H H'->Q (.bl (eS wd a)) H':=k;refine⟨_,rfl,p,_,rfl,.inr hx,.inl ⟨_,_,rfl,rfl,_,rfl,aF ?_⟩⟩;refine⟨_,rfl,p,_,rfl,.inr hx,.inl ⟨_,_,rfl,rfl,_,rfl,aR ?_⟩⟩;refine⟨_,rfl,p,_,rfl,hx,rfl,_,_,rfl,_,_,rfl,rfl,?_⟩;exact⟨_,rfl,_,rfl,_,_,wd,a,rfl,r1,r2,mT okd (by simp),mT okd (by simp),y8 sh (by simp),k⟩
   · rw[hf]at k
     refine⟨_,rfl,.inl ⟨_,_,"tuple",true,rfl,rd.ty,by decide,fq,_,rfl,aF ?_⟩⟩;obtain⟨p,xs,rfl,hx,hd⟩:=rd.aZ;have hl:=hd.length;refine⟨_,rfl,p,_,rfl,.inr hx,.inl ⟨_,_,rfl,rfl,_,rfl,?_⟩⟩;rw[show decide ((xs.length:Int)=3)=false from bQ (by omega)];refine aF ⟨_,rfl,p,_,rfl,.inr hx,.inl ⟨_,_,rfl,rfl,_,rfl,?_⟩⟩;rw[show decide ((xs.length:Int)=2)=false from bQ (by omega)];exact aF (k H (a8.refl _))
   · rw[hf]at k
     refine⟨_,rfl,.inl ⟨_,_,"tuple",false,rfl,rd.ty,by decide,ht,_,rfl,aR ?_⟩⟩;exact k H (a8.refl _)
end
end Lw
namespace Lw
open PySem PySem.Spec PyProof.Rows L2 Ln Wk
open Tm (numS numIn? figs isFig Free)
section
variable {P:F0}{w:World}{K:EY}{mg:Str->Option Value}{base:Heap}
def oV:Option Int->V |some i=>.int i |none=>.ay
def oD:Option Int->F1 |some i=>.int i |none=>.none
def i4:Str:="0123456789"
theorem De:∀c<128,decide (c∈i4.cps.toList)=isFig c:=by decide+kernel
theorem Dg:∀c∈i4.cps.toList,c<128:=by decide+kernel
theorem Df(c:Nat):decide (c∈i4.cps.toList)=isFig c:=by
 by_cases h:c<128
 ·exact De c h
 ·rw[bQ (fun hc=>h (Dg c hc)),isFig,bQ (show¬c<=57 by omega),Bool.and_false]
inductive v7(vs:List V)(H:Hp)(Q:VK):Prop |mk (y:Str)(h0:vs=[.str y])(h1:PySem.NumText.AllDigits y.cps.toList)(h2:y.length<=640)(h3:Q (.int ((PySem.NumText.digitsVal y.cps.toList:Nat):Int)) H):v7 vs H Q
def qa:Sp:=fun vs H Q _=>v7 vs H Q
abbrev lM:Stmt:=top 31
theorem qw:aV ["figures","size","figure"] ["figures"] (aJ lM):=bj (by decide+kernel)
theorem zM(F:FA K mg "size_of" lM)(B:aQ mg):ah P w K mg base "size_of" 1 qa:=by
 refine F.has qw (fun vs H Q E h=>?_) (fun _ _ _ _ _ _=>cA fun _=>rfl) (fun f aj A outer s H vs Q E hr h=>?_)
 · obtain⟨y,rfl,_⟩:=h
   rfl
 · obtain⟨y,rfl,hd,hl,k⟩:=h
   have nd:=qw.nd;refine⟨_,(ag (pS 1 nd a9) (ag (iL ik rfl (mI (pv 0)) (aL 2 nd) (ao (pS 1 nd (aB cg (aB dH a9 (pv 1)) (dk (x:="int") DH rfl (B.at "int") wq (a0 (pv 2) a6)))))) (ao (az (pv 1))))),?_⟩;have hsz:y.cps.size=y.cps.toList.length:=dX.symm;have ir:Wd (10:Int):=by show(10:Nat)<2^5000;decide+kernel
   refine⟨_,rfl,y,rfl,?_⟩;refine D4 (Pv:=fun i σ H'=>H'=H/\∃v2,σ=[some (.str y),some (.int ((PySem.NumText.digitsVal (y.cps.toList.take i):Nat):Int)),v2]) ?_ ?_ ?_
   ·exact⟨rfl,_,rfl⟩
   · rintro i c σ H2 hc ⟨rfl,v2,rfl⟩
     obtain⟨c1,c2⟩:=hd c (cF hc);have hi:i<640:=by have:=(dW.mp hc).1;have e:y.length=y.cps.size:=rfl;omega
     have wv:Wd ((PySem.NumText.digitsVal (y.cps.toList.take i):Nat):Int):=by show Int.natAbs _<2^5000;rw[wI];exact jv (c8 (Nu.tZ hd i) (Nat.pow_le_pow_right (by decide) (l5 hi))) (by decide+kernel)
     have ei:=Nu.xb c1 c2;refine⟨_,rfl,_,_,rfl,rfl,IntMulOk.of_bits ir.bits wv.bits,_,rfl,⟨_,_,rfl,ei,by show 1<=640;decide,_,_,rfl,rfl,?_⟩⟩;refine⟨rfl,some (.str ⟨#[c]⟩),?_⟩;rw[Nu.tY hc];show[some (.str y),some (V.int (10*_+_)),_]=_;rw[Int.natCast_add,Int.natCast_mul,Int.mul_comm];rfl
   · rintro σ H2 ⟨rfl,v2,rfl⟩
     refine⟨_,rfl,?_⟩;rw[hsz,p7];exact k
inductive vf(vs:List V)(H:Hp)(Q:VK):Prop |mk (z:Str)(h0:vs=[.str z])(h1:z.length<=640)(h2:∀H',a8 H H'->Q (oV (numIn? z)) H'):vf vs H Q
def jO:Sp:=fun vs H Q _=>vf vs H Q
abbrev lW:Stmt:=top 30
theorem qG:aV ["word","figures","size"] ["word"] (aJ lW):=bj (by decide+kernel)
theorem zU(F:FA K mg "number_in" lW)(B:aQ mg)(CB:GV mg "FIGURES" (.str i4))(BA:ah P w K mg base "size_of" 1 qa):ah P w K mg base "number_in" 2 jO:=by
 refine F.has qG (fun vs H Q E h=>?_) (fun _ _ _ _ _ _=>cA fun _=>rfl) (fun f aj A outer s H vs Q E hr h=>?_)
 · obtain⟨z,rfl,_⟩:=h
   rfl
 · obtain⟨z,rfl,hl,k⟩:=h
   have nd:=qG.nd;have j9:sizeLine=16777216:=by decide
   refine⟨_,(ag (pS 1 nd (zp K rfl (pv 0) (a0 aI a6))) (ag (bb (PW.pt (fR (ba fZ (pv 1) aI (aP _)) (gQ (dh (cL (bV (x:="all") (je K rfl rfl) rfl (B.at "all") l4 (a0 (cf (N:=["sign"]) (js:=[none]) rfl rfl rfl (mI (pv 1)) (fun _ _ _ _ _=>(aL 0 (e9 _))) (fun _ _ _ _ _=>bT) (fun _ _ _ _ _=>(fu rM (pv 0) (dj (x:="FIGURES") rfl CB) (by with_unfolding_all rfl)))) a6))))))) (ao (az gT)) bo) (ag (bb (PW.pt (yQ (ba fZ (mK sJ (pv 1) a9 (fun _ _=>rfl)) aI (aP _)) (yP (ba zy (pv 0) aI (aP _))))) (ao (az gT)) bo) (ag (pS 2 nd (pf BA hr (a0 (pv 1) a6))) (ao (az (gU (cL (zo K rfl (pv 0) (a0 aI a6))) (jZ jE (pv 2)) (pv 2)))))))),?_⟩;refine⟨_,rfl,rfl,z,"-",rfl,rfl,by omega,?_⟩;have ef:=Tm.yq z;generalize hz:Txt.removeprefix z "-"=y at ef;unfold numIn? at k;rw[<-ef]at k;have EH:y.length<=z.length:=by
    have e1:y.cps.toList.length=(figs z).length:=by rw[ef]
    have e2:(figs z).length<=z.cps.toList.length:=by
     unfold figs;split
     ·rename_i h;rw[h];simp
     ·rename_i h _;exact ak _
    simpa[Str.length]using cE (Nat.le_of_eq e1) e2
   refine⟨_,rfl,rfl,_,rfl,?_⟩;refine bN (fun h0=>?_) (fun h0=>?_)
   · have hy:y="":=by simpa using h0
     rw[hy]at k;exact aR (k H (a8.refl _))
   · have hy:y≠"":=by simpa using h0
     have bt:y.cps.toList≠[]:=fun e=>hy (Tm.kI (by rw[e];rfl));have he:y.cps.toList.isEmpty=false:=by cases h:y.cps.toList with|nil=>exact(bt h).elim|cons=>rfl
     rw[he,Bool.false_or]at k;refine⟨_,rfl,y,rfl,fun D H0 nw=>?_⟩;refine ug (f:=isFig) [] nw (by omega) (fun c H2 Q' hc s2 hq=>?_) (fun H2 s2 d2=>?_)
     · refine⟨_,rfl,c,i4,rfl,rfl,?_⟩
       rw[Df];exact hq _ (a8.refl _)
     · refine⟨D,_,rfl,aa.of d2,?_⟩
       rw[uG];refine⟨_,rfl,?_⟩;cases hf:y.cps.toList.all isFig with |false=>rw[hf]at k;exact aR (k H2 s2) |true=>rw[hf]at k;refine aF ?_;obtain⟨n,hn⟩:=Tm.Bj (z:=z) (by rw[<-ef];exact bt) (by rw[<-ef];exact hf) (by omega);rw[hn]at k;have nv:=Nu.Aj ef (by rw[<-ef];exact bt) (by rw[<-ef];exact hf) (by omega) hn;cases hc:y.cps.toList with |nil=>exact(bt hc).elim |cons c r=>
           refine⟨_,rfl,y,0,c,rfl,rfl,by omega,cy (dA 0) (by rw[hc];rfl),rfl,_,rfl,?_⟩;have e0:decide (y.cps.toList[0]? =some 48)=decide (V.str ⟨#[c]⟩=V.str "0"):=by
            rw[hc,eH];simp only[oW];refine⟨fun h=>?_,fun h=>?_⟩
            · have h:c=48:=by simpa using h
              rw[h];decide+kernel
            · have h:(⟨#[c]⟩:Str)="0":=by simpa using h
              have h2:[c]=[48]:=(fi (fun z:Str=>z.cps.toList) h).trans (by decide+kernel);simpa using h2
           rw[e0]at k;have e1:(!decide (z="0"))= !decide (V.str z=V.str "0"):=by simp
           rw[e1]at k;cases h1:decide (V.str ⟨#[c]⟩=V.str "0")with
           |true=>rw[h1,de]at k;refine aR ⟨_,rfl,rfl,_,rfl,?_⟩;cases h2: !decide (V.str z=V.str "0")with |true=>rw[h2]at k;exact aR (k H2 s2) |false=>rw[h2]at k;refine aF ⟨_,rfl,y,rfl,Tm.i3 hf,by omega,?_⟩;have fin:=k H2 s2;refine⟨_,rfl,rfl,z,"-",rfl,rfl,?_⟩;refine⟨_,rfl,?_⟩;cases hs:Txt.startswith z "-" with |true=>rw[nv,aD hs]at fin;exact aR ⟨_,rfl,_,rfl,fin⟩ |false=>rw[nv,aE (by rw[hs];decide)]at fin;exact aF ⟨_,rfl,fin⟩
           |false=>rw[h1,df]at k;refine aF ⟨_,rfl,y,rfl,Tm.i3 hf,by omega,?_⟩;have fin:=k H2 s2;refine⟨_,rfl,rfl,z,"-",rfl,rfl,?_⟩;refine⟨_,rfl,?_⟩;cases hs:Txt.startswith z "-" with |true=>rw[nv,aD hs]at fin;exact aR ⟨_,rfl,_,rfl,fin⟩ |false=>rw[nv,aE (by rw[hs];decide)]at fin;exact aF ⟨_,rfl,fin⟩
inductive vc(K:EY)(vs:List V)(H:Hp)(Q:VK):Prop |mk (l:Addr)(zs:List Str)(h0:vs=[.ref l])(h1:aa K H l (zs.map V.str))(h2:zs.length<=1000)(h3:(∀z∈zs,z.length<=640))(h4:∀p H',a8 H H'->H p=none->H' p=some (.lst (zs.map fun z=>oV (numIn? z)))->Q (.ref p) H'):vc K vs H Q
def qf(K:EY):Sp:=fun vs H Q _=>vc K vs H Q
theorem k8{H:Hp}(o:Option Int):RD K H (oV o) (oD o):=by cases o with |none=>exact jW |some i=>exact dE _
theorem Af{H:Hp}{v:V}{o:Option Int}(h:RD K H v (oD o)):v=oV o:=by cases o with |none=>exact h.rV |some i=>exact h.int_inv
theorem rS{H:Hp}:∀{xs:List V}{zs:List Str},ae K H xs (zs.map fun z=>oD (numIn? z))->xs=zs.map fun z=>oV (numIn? z) |xs,[],h=>h.nil_inv |xs,n::ns,h=>by obtain⟨y,ys,rfl,h1,h2⟩:=h.cons_inv;rw[Af h1,rS h2];rfl
theorem Ag(zs:List Str):bA (zs.map fun z=>oD (numIn? z))=true:=e6.mpr fun d hd=>by obtain⟨z,_,rfl⟩:=bz.mp hd;cases numIn? z<;>rfl
abbrev lU:Stmt:=top 29
theorem qE:aV ["words"] ["words"] (aJ lU):=bj (by decide+kernel)
theorem zT(F:FA K mg "numbers_in" lU)(B:aQ mg)(nM:ah P w K mg base "number_in" 2 jO):ah P w K mg base "numbers_in" 3 (qf K):=by
 refine F.has qE (fun vs H Q E h=>?_) (fun _ _ _ _ _ _=>cA fun _=>rfl) (fun f aj A outer s H vs Q E hr h=>?_)
 · obtain⟨l,zs,rfl,_⟩:=h
   rfl
 · obtain⟨l,zs,rfl,hl,hn,hz,k⟩:=h
   have nd:=qE.nd;refine⟨_,(ao (az (cf (N:=["word"]) (js:=[none]) rfl rfl rfl (rD K rfl (pv 0)) (fun _ _ _ _ _=>(aL 0 (e9 _))) (fun _ _ _ _ _=>bT) (fun _ _ _ _ _=>(pf nM hr (a0 (pv 0) a6)))))),?_⟩;refine⟨_,rfl,l,rfl,⟨_,hl⟩,fun D H1 n1=>?_⟩;refine Dw (K:=K) (ds:=zs.map fun z=>oD (numIn? z)) _ hl n1 (by simp) (by simp;omega) (Ag _) ?_ ?_
   · intro i x d H2 Q' ex ed s2 hq
     rw[bC]at ex ed;obtain⟨z,ez,rfl⟩:=p4.mp ex;rw[ez]at ed;cases ed;exact⟨_,rfl,z,rfl,hz z (cF ez),fun H3 s3=>hq _ _ s3 (k8 _)⟩
   · intro H2 ys s2 d2 r2
     rw[rS r2]at d2;exact k D H2 s2 n1.no d2
def f7(z:Str):Prop:=∀c∈z.cps.toList,c<0x110000
theorem mS{n:Nat}{z:Str}(h:f7 z):aN n (.str z):=⟨by show PyData.strOk z=true;unfold PyData.strOk;rw[wL];exact fun c hc=>bH (h c (by simpa using hc)),bI _⟩
theorem tI{c x:Nat}:∀{as:List (List Nat)}{a:List Nat},a∈as->x∈a->x∈Tm.gl c as
  |[],a,h,_=>nomatch h |[b],a,h,hx=>by rw[bR.mp h]at hx;exact hx |b::d::r,a,h,hx=>by
    show x∈b++c::Tm.gl c (d::r);rcases aW.mp h with rfl|h
    ·exact wy _ hx
    ·exact cR _ (.tail _ (tI h hx))
theorem tJ{c:Nat}:∀{as:List (List Nat)}{a:List Nat},a∈as->a.length<=(Tm.gl c as).length
  |[],a,h=>nomatch h |[b],a,h=>by rw[bR.mp h];exact ak _ |b::d::r,a,h=>by
    show a.length<=(b++c::Tm.gl c (d::r)).length;rw[dy,fk];rcases aW.mp h with rfl|h
    ·omega
    ·have:=tJ (c:=c) h;omega
theorem pY(z:Str)(c:Nat):Tm.gl c ((Txt.split z ⟨#[c]⟩).map fun y=>y.cps.toList)=z.cps.toList:=by rw[<-Tm.o3,StrLaws.join_split]
theorem xU{z y:Str}{c:Nat}(h:f7 z)(hy:y∈Txt.split z ⟨#[c]⟩):f7 y:=fun x hx=>h x (by rw[<-pY z c];exact tI (bz.mpr ⟨y,hy,rfl⟩) hx)
theorem split_le{z y:Str}{c:Nat}(hy:y∈Txt.split z ⟨#[c]⟩):y.length<=z.length:=by have:=tJ (c:=c) (bz.mpr ⟨y,hy,rfl⟩:y.cps.toList∈(Txt.split z ⟨#[c]⟩).map fun y=>y.cps.toList);rw[pY]at this;simpa[Str.length]using this
theorem fO:(" ":Str)=⟨#[32]⟩:=by decide+kernel
theorem rY:("\n":Str)=⟨#[10]⟩:=by decide+kernel
def nI (z:Str):F1:=oD (numIn? z)
def bS:List Str->F1 |[]=>.none |w::rest=>if w="line" then(match rest with |[]=>.none |r::rs=>.tuple [.str w,.tuple (((r::rs).map nI).take rs.length),((r::rs).map nI).getLastD .none]) else match rest with |[r]=>.tuple [.str w,if w="wait" then nI r else .str r] |_=>.none
def dm(n:Nat)(z:Str):F1:=bif eg n (bS (Txt.split z " "))then bS (Txt.split z " ")else .none
theorem rR{H:Hp}:∀(zs:List Str),ae K H (zs.map fun z=>oV (numIn? z)) (zs.map nI) |[]=>by simp[ae] |z::zs=>by rw[ip,ip,ae];exact⟨_,_,rfl,k8 _,rR zs⟩
theorem fQ{H:Hp}{x:V}{xs:List V}{d:F1}{ds:List F1}(h:RD K H x d)(r:ae K H xs ds):ae K H (x::xs) (d::ds):=by rw[ae];exact⟨_,_,rfl,h,r⟩
theorem jV{H:Hp}:ae K H [] []:=by simp[ae]
theorem mY{n:Nat}(z:Str):aN n (nI z):=by unfold nI;cases numIn? z with |none=>exact .ay |some i=>exact .int i
theorem sk(z:Str):cI (nI z)=true:=by unfold nI;cases numIn? z<;>rfl
theorem pI:bS ["line"]= .none:=by unfold bS;dsimp only;rw[aD rfl]
theorem lE{r:Str}{rs:List Str}:bS ("line"::r::rs)= .tuple [.str "line",.tuple (((r::rs).map nI).take rs.length),((r::rs).map nI).getLastD .none]:=by unfold bS;dsimp only;rw[aD rfl]
theorem jK{w r:Str}(h:w≠"line"):bS [w,r]= .tuple [.str w,if w="wait" then nI r else .str r]:=by unfold bS;dsimp only;rw[aE h]
theorem jJ{w:Str}{ws:List Str}(h:w≠"line")(hl:ws.length≠1):bS (w::ws)= .none:=by
 unfold bS;dsimp only;rw[aE h];split
 ·exact(hl rfl).elim
 ·rfl
theorem xl{ws:List Str}(h:∀w∈ws,f7 w/\w.length<=640):aN 8 (bS ws)/\jS (bS ws)=true:=by cases ws with |nil=>exact⟨.ay,rfl⟩ |cons w rest=>
   obtain⟨hw,hl⟩:=h w (.head _);have sw:cI (.str w)=true:=bH (by omega);by_cases hx:w="line"
   · subst hx
     cases rest with |nil=>rw[pI];exact⟨.ay,rfl⟩ |cons r rs=>
       rw[lE];have hm:∀d∈(r::rs).map nI,aN 0 d:=fun d hd=>by obtain⟨z,_,rfl⟩:=bz.mp hd;exact mY z
       have tf:aN 0 (((r::rs).map nI).getLastD .none)/\cI (((r::rs).map nI).getLastD .none)=true:=by rw[wB];cases e:((r::rs).map nI).getLast? with |none=>exact⟨.ay,rfl⟩ |some d=>obtain⟨z,_,rfl⟩:=bz.mp (List.mem_of_getLast? e);exact⟨mY z,sk z⟩
       have hs:c7 2 [.str "line",.tuple (((r::rs).map nI).take rs.length),((r::rs).map nI).getLastD .none]:=fun d hd=>by
        simp only[aW,dw,fG]at hd;rcases hd with rfl|rfl|rfl
        ·exact mS hw
        ·exact(c7.tup (n:=0) fun d hd=>hm d (wx hd)).le (by decide)
        ·exact tf.1.le (by decide)
       refine⟨hs.tup.le (by decide),?_⟩;show[_,_,_].all cI=true;simp only[la,pj,Bool.and_true,sw,tf.2];rfl
   ·match rest,h with
     |[],_=>rw[jJ hx (by simp)];exact⟨.ay,rfl⟩ |[r],h=>
       rw[jK hx];obtain⟨hr,EI⟩:=h r (.tail _ (.head _));have hv:aN 0 (if w="wait" then nI r else .str r)/\cI (if w="wait" then nI r else .str r)=true:=by
        split
        ·exact⟨mY r,sk r⟩
        ·exact⟨mS hr,bH (by omega)⟩
       have hs:c7 1 [.str w,if w="wait" then nI r else .str r]:=fun d hd=>by
        simp only[aW,dw,fG]at hd;rcases hd with rfl|rfl
        ·exact mS hw
        ·exact hv.1.le (by decide)
       refine⟨hs.tup.le (by decide),?_⟩;show[_,_].all cI=true;simp only[la,pj,Bool.and_true,sw,hv.2] |_::_::_,_=>rw[jJ hx (by simp)];exact⟨.ay,rfl⟩
inductive vk(K:EY)(vs:List V)(H:Hp)(Q:VK):Prop |mk (m:V)(rs:List Int)(es:List F1)(z:Str)(h0:vs=[m,.str z])(h1:RD K H m (.tuple (.tuple (rs.map PyData.int)::es)))(h2:bA es=true)(h3:rs.length<=3)(h4:z.length<=600)(h5:f7 z)(h6:∀v H',a8 H H'->RD K H' v (dm rs.length z)->Q v H'):vk K vs H Q
def lI(K:EY):Sp:=fun vs H Q _=>vk K vs H Q
abbrev m4:Stmt:=top 28
theorem qM:aV ["machine","row","word","rest","thing","numbers"] ["machine","row"] (aJ m4):=bj (by decide+kernel)
theorem A1(F:FA K mg "item_in" m4)(B:aQ mg)(nM:ah P w K mg base "number_in" 2 jO)(BN:ah P w K mg base "numbers_in" 3 (qf K))(C8:ah P w K mg base "is_item" 4 (lJ K)):ah P w K mg base "item_in" 5 (lI K):=by
 refine F.has qM (fun vs H Q E h=>?_) (fun _ _ _ _ _ _=>eC fun _ _=>rfl) (fun f aj A outer s H vs Q E hr h=>?_)
 · obtain⟨m,rs,es,z,rfl,_⟩:=h
   rfl
 · obtain⟨m,rs,es,z,rfl,rm,ne,l3,hz,tz,k⟩:=h
   have nd:=qM.nd;have j9:sizeLine=16777216:=by decide
   have gh:∀y∈Txt.split z " ",f7 y/\y.length<=640:=fun y hy=>by rw[fO]at hy;have:=split_le hy;exact⟨xU tz hy,by omega⟩
   have sX:=split_len z " ";refine⟨_,(ag (eK (rG K rfl (pv 1) (a0 aI a6)) (ze K rfl rfl (aL 2 nd) (aL 3 nd))) (ag (pS 4 nd gT) (ag (jX (bb (ba fZ (pv 2) aI (aP _)) (ag (pS 5 nd (pf BN hr (a0 (pv 3) a6))) (ao (pS 4 nd (gU (yS K rfl (pv 5)) (eL (a0 (pv 2) (a0 (dk (x:="tuple") (gK K rfl) rfl (B.at "tuple") eG (a0 (rE (y2 K rfl) (pv 5) rA (rq (jZ jE a9))) a6)) (a0 (px K (pv 5) (jZ jE a9)) a6)))) gT)))) (ao (bb (ba fZ (dG K B (a0 (pv 3) a6)) a9 (aP _)) (ao (pS 4 nd (eL (a0 (pv 2) (a0 (gU (ba fZ (pv 2) aI (aP _)) (pf nM hr (a0 (px K (pv 3) a9) a6)) (px K (pv 3) a9)) a6))))) bo)))) (ao (az (gU (cL (pf C8 hr (a0 (pv 0) (a0 (pv 4) a6)))) (pv 4) gT)))))),?_⟩;refine⟨_,rfl,rfl,z," ",rfl,rfl,by decide+kernel,by omega,fun l H1 n1=>?_⟩;obtain⟨x,ws,ew⟩:∃x ws,Txt.split z " "=x::ws:=by cases e:Txt.split z " " with |nil=>exact(Tm.pX _ _ e).elim |cons x ws=>exact⟨x,ws,rfl⟩
   unfold dm at k;rw[ew]at n1 gh sX k;rw[fk]at sX;refine⟨l,.str x,ws.map V.str,rfl,aa.of n1.at',by rw[aG];omega,fun p H2 n2=>?_⟩;have s2:=n1.same.trans n2.same;have kq:∀y∈ws,y.length<=640:=fun y hy=>(gh y (.tail _ hy)).2;refine⟨fun σ H3=>∃t w5,σ=[some m,some (.str z),some (.str x),some (.ref p),some t,w5]/\a8 H H3/\RD K H3 t (bS (x::ws)),?_,?_⟩
   · refine⟨_,rfl,rfl,_,rfl,?_⟩
     refine bN (fun h0=>?_) (fun h0=>?_)
     · have hx:x="line":=by simpa using h0
       subst hx;refine⟨_,rfl,p,ws,rfl,aa.of n2.at',by omega,kq,fun q H3 s3 nq e3=>?_⟩;refine⟨_,rfl,!(ws.map fun z=>oV (numIn? z)).isEmpty,.inl ⟨_,aa.of e3,rfl⟩,?_⟩;cases ws with |nil=>refine aF ⟨.ay,_,rfl,s2.trans s3,?_⟩;rw[pI];exact jW |cons r iK=>
         refine aR ⟨_,rfl,?_⟩;refine⟨_,rfl,1,rfl,_,rfl,q,_,rfl,.inl ⟨aa.of e3,fun q2 H4 n4=>?_⟩⟩;rw[Du]at n4;have AB:=n4.at';refine⟨q2,_,rfl,.inl ⟨aa.of AB,fun q3 H5 n5=>?_⟩⟩;obtain⟨v,ev⟩:∃v,((r::iK).map fun z=>oV (numIn? z)).getLast? =some v:=⟨_,wC (by simp)⟩;have e5:=n5.same _ _ (n4.same _ _ e3);refine⟨_,rfl,1,rfl,.inl ⟨q,_,-1,v,rfl,rfl,aa.of e5,DS ev,?_⟩⟩;refine⟨by show 3<=sizeLine;omega,fun q6 H6 n6=>?_⟩;have s6:=(((s2.trans s3).trans n4.same).trans n5.same).trans n6.same;refine⟨_,_,rfl,s6,?_⟩;rw[lE];have el:((r::iK).map nI).getLastD .none=oD (numIn? ((r::iK).getLast (by simp))):=by rw[wB,List.getLast?_map,wC (by simp)];rfl
         have Di:v=oV (numIn? ((r::iK).getLast (by simp))):=by rw[List.getLast?_map,wC (by simp)]at ev;exact(bP ev).symm
         refine cJ (af.of n6.at') (fQ (aH _) (fQ ?_ (fQ ?_ jV)))
         · refine cJ (af.of (n6.same _ _ n5.at')) ?_
           rw[aG,fk,Nat.add_sub_cancel];exact(rR (r::iK)).take _
         ·rw[el,Di];exact k8 _
     · have hx:x≠"line":=by simpa using h0
       refine⟨_,rfl,p,_,rfl,.inl (aa.of n2.at'),rfl,_,rfl,?_⟩;refine bN (fun h1=>?_) (fun h1=>?_)
       · have dM:ws.length=1:=by have h1:=ij h1;rw[aG]at h1;injection h1 with h1;omega
         match ws,dM,n2,kq,k with
         |[r],_,n2,kq,k=>
           refine⟨_,rfl,_,rfl,rfl,_,rfl,?_⟩;refine bN (fun h2=>?_) (fun h2=>?_)
           · have nE:x="wait":=by simpa using h2
             refine⟨_,rfl,.inl ⟨p,_,0,.str r,rfl,rfl,aa.of n2.at',rfl,?_⟩⟩;refine⟨r,rfl,kq r (.head _),fun H3 s3=>?_⟩;refine⟨by show 2<=sizeLine;omega,fun q6 H6 n6=>?_⟩;refine⟨_,_,rfl,(s2.trans s3).trans n6.same,?_⟩;rw[jK hx,aD nE];exact cJ (af.of n6.at') (fQ (aH _) (fQ (k8 _) jV))
           · have nE:x≠"wait":=by simpa using h2
             refine⟨_,rfl,.inl ⟨p,_,0,.str r,rfl,rfl,aa.of n2.at',rfl,?_⟩⟩;refine⟨by show 2<=sizeLine;omega,fun q6 H6 n6=>?_⟩;refine⟨_,_,rfl,s2.trans n6.same,?_⟩;rw[jK hx,aE nE];exact cJ (af.of n6.at') (fQ (aH _) (fQ (aH _) jV))
       · have dM:ws.length≠1:=fun e=>h1 (bH (by rw[aG,e];rfl))
         refine⟨.ay,_,rfl,s2,?_⟩;rw[jJ hx dM];exact jW
   · rintro σ H3 ⟨t,w5,rfl,s3,rt⟩
     have ok:=xl (ws:=x::ws) gh;refine⟨_,rfl,_,rfl,m,t,rs,es,bS (x::ws),rfl,RD.mono s3 _ rm,rt,l3,ok.1,ok.2,fun H4 s4=>⟨_,rfl,?_⟩⟩;cases hi:eg rs.length (bS (x::ws))with |true=>rw[hi]at k;exact aR ⟨_,rfl,k _ _ (s3.trans s4) (RD.mono s4 _ rt)⟩ |false=>rw[hi]at k;exact aF (k _ _ (s3.trans s4) jW)
inductive va(K:EY)(vs:List V)(H:Hp)(Q:VK):Prop |mk (m:V)(rs:List Int)(es:List F1)(z:Str)(ds:List F1)(h0:vs=[m,.str z])(h1:RD K H m (.tuple (.tuple (rs.map PyData.int)::es)))(h2:bA es=true)(h3:rs.length<=3)(h4:z.length<=20000)(h5:ds.length<=20)(h6:((z=""/\ds=[])\/(z≠""/\(Txt.split z "\n").map (dm rs.length)=ds/\(∀y∈Txt.split z "\n",y.length<=600/\f7 y))))(h7:(∀d∈ds,d≠ .none/\cj d=true))(h8:∀v H',a8 H H'->RD K H' v (.tuple ds)->Q v H'):va K vs H Q
def qd(K:EY):Sp:=fun vs H Q _=>va K vs H Q
abbrev lS:Stmt:=top 27
theorem qC:aV ["machine","text","told","at","row","item"] ["machine","text"] (aJ lS):=bj (by decide+kernel)
theorem zS(F:FA K mg "read_items" lS)(B:aQ mg)(Cv:GV mg "MOST_ITEMS" (.int 20))(C2:ah P w K mg base "item_in" 5 (lI K)):ah P w K mg base "read_items" 6 (qd K):=by
 refine F.has qC (fun vs H Q E h=>?_) (fun _ _ _ _ _ _=>eC fun _ _=>rfl) (fun f aj A outer s H vs Q E hr h=>?_)
 · obtain⟨m,rs,es,z,ds,rfl,_⟩:=h
   rfl
 · obtain⟨m,rs,es,z,ds,rfl,rm,ne,l3,lz,ld,hz,hd,k⟩:=h
   have nd:=qC.nd;have j9:sizeLine=16777216:=by decide
   refine⟨_,(ag (bb (dh (cL (cV K B (a0 (pv 1) (a0 (cU (x:="str") (v:=.ty "str") rfl (B.at "str") fI rfl) a6))))) (ao rp) bo) (ag (bb (ba fZ (pv 1) aI (aP _)) (ao (az (eL a6))) bo) (ag (pS 2 nd (fX a6)) (ag (iL ik rfl (zb K rfl true rfl (B.at "enumerate") (a0 (rG K rfl (pv 1) (a0 aI a6)) a6)) (fV K rfl (n:=2) rfl (bU (aL 3 nd) (bU (aL 4 nd) fU))) (ag (pS 5 nd (pf C2 hr (a0 (pv 0) (a0 (pv 4) a6)))) (ag (bb (PW.pt (fR (ba zA (pv 5) gT (aP _)) (gQ (ba fZ (pv 3) (dj (x:="MOST_ITEMS") rfl Cv) (aP _))))) (ao rp) bo) (ao (mH (mL K rfl (pv 2) (a0 (pv 5) a6))))))) (ao (az (dk (x:="tuple") (gK K rfl) rfl (B.at "tuple") eG (a0 (pv 2) a6)))))))),?_⟩;refine⟨_,rfl,.inl ⟨_,_,"str",true,rfl,(aH z).ty,by decide,iA,_,rfl,aF ?_⟩⟩;refine⟨_,rfl,rfl,_,rfl,?_⟩;rcases hz with⟨rfl,rfl⟩|⟨hz,i6,hy⟩
   · refine aR ⟨bI _,fun p H1 n1=>?_⟩
     exact k _ _ n1.same (cJ (af.of n1.at') jV)
   · refine bN (fun h0=>(hz (by simpa using h0)).elim) (fun _=>?_)
     refine⟨bI _,fun D H1 n1=>?_⟩;refine⟨_,rfl,rfl,z,"\n",rfl,rfl,by decide+kernel,by omega,fun q H2 n2=>?_⟩;have lr:(Txt.split z "\n").length=ds.length:=by rw[<-i6,aG]
     have Dq:D≠q:=ck n1.at' n2.no;have s2:=n1.same.trans n2.same;have nq:H q=none:=by cases e:H q with |none=>rfl |some o=>have:=n1.same _ _ e;rw[n2.no]at this;cases this
     refine⟨q,rfl,⟨_,aa.of n2.at'⟩,D6 (K:=K) (b:=true) (a:=q) (xs:=(Txt.split z "\n").map V.str) (fun i σ H3=>a8 H H3/\∃ys v1 v2 v3,H3 D=some (.lst ys)/\H3 q=some (.lst ((Txt.split z "\n").map V.str))/\ae K H3 ys (ds.take i)/\σ=[some m,some (.str z),some (.ref D),v1,v2,v3]) ?_ ?_ ?_ ?_⟩
     ·exact⟨s2,[],none,none,none,n2.same _ _ n1.at',n2.at',cb,rfl⟩
     · rintro i σ H3 _ ⟨_,ys,v1,v2,v3,_,eq,_⟩
       exact aa.of eq
     · rintro i y σ H3 ko ⟨s3,ys,v1,v2,v3,dD,dq,ry,rfl⟩ T H4 n4
       rw[bC]at ko;obtain⟨r,er,rfl⟩:=p4.mp ko;obtain⟨sZ,BI⟩:=hy r (cF er);have ed:ds[i]? =some (dm rs.length r):=by rw[<-i6,bC,er];rfl
       obtain⟨hn,gn⟩:=hd _ (cF ed);have hi:i<ds.length:=(dW.mp ed).1;have s4:=s3.trans n4.same;refine⟨T,_,rfl,af.of n4.at',rfl,_,_,rfl,_,_,rfl,rfl,?_⟩;refine⟨_,rfl,_,rfl,m,rs,es,r,rfl,RD.mono s4 _ rm,ne,l3,sZ,BI,fun v H5 s5 rv=>?_⟩;have vn:v≠ .ay:=fun e=>by
        rw[e]at rv;have:dm rs.length r= .none:=by generalize dm rs.length r=d at rv;cases d with |none=>rfl |bool b=>have:=rv.uw;cases this |int b=>have:=rv.int_inv;cases this |str b=>have:=rv.str_inv;cases this |list b=>obtain⟨_,_,h,_⟩:=rv.lst_inv;cases h |tuple b=>obtain⟨_,_,h,_⟩:=rv.aZ;cases h |_=>rw[RD]at rv;exact rv.elim
        exact hn this
       have t5:=n4.same.trans s5;have oh:=t5 _ _ dD;have Dr:=t5 _ _ dq;have ly:=ry.length;rw[iq]at ly;refine⟨_,rfl,rfl,_,rfl,?_⟩;rw[bQ vn];refine aF ⟨_,rfl,rfl,_,rfl,?_⟩;rw[bQ (show¬V.int (i:Int)=V.int 20 from fun e=>by injection e with e;omega)];refine aF ?_;refine⟨_,rfl,.inl ⟨rfl,_,aa.of oh⟩,_,rfl,D,ys,_,rfl,rfl,oh,by omega,?_⟩;have sT:d9 H5 (L2.upd H5 D (.lst (ys++[v]))):=.lC oh;refine⟨fun b o e=>?_,ys++[v],_,_,_,cH,?_,?_,rfl⟩
       ·rw[aO (ck e n1.no)];exact t5 _ _ (s3 _ _ e)
       ·rw[aO Dq.symm];exact Dr
       · rw[p6,ed]
         have As:bA (ds.take i)=true:=e6.mpr fun d nS=>(hd d (wx nS)).2;exact(ae.t sT _ As (ae.mono t5 _ ry)).append (bD (RD.t sT _ gn rv) cb)
     · rintro σ H3 ⟨s3,ys,v1,v2,v3,dD,dq,ry,rfl⟩
       rw[aG,lr,wu (ak _)]at ry;refine⟨_,rfl,D,_,rfl,.inl ⟨aa.of dD,fun p H4 n4=>?_⟩⟩;exact k _ _ (s3.trans n4.same) (cJ (af.of n4.at') (ae.mono n4.same _ ry))
end
end Lw
set_option maxHeartbeats 2000000
namespace Lw
open PySem PySem.Spec PyProof.Rows L2 Ln Wk
open Tm (numS numIn? figs isFig Free)
section
variable {P:F0}{w:World}{K:EY}{mg:Str->Option Value}{base:Heap}
def iu:F1->Str | .int i=>numS i | .str z=>z |_=>Str.empty
def eN(ns:List Int):Str:=Txt.join " " (ns.map numS)
def bc:F1->Str | .tuple [.str _,.tuple xs,.int sp]=>"line "++Txt.join " " (xs.map iu)++" "++numS sp | .tuple [.str w,u]=>w++" "++iu u |_=>Str.empty
def Nm (i:Int):Prop:=i.natAbs<10^40
def gD(w:Str):Prop:=w="wait"\/w="tool"\/w="mark"
def jf(w:Str):Prop:=w="tool"\/w="mark"
theorem jf.ok{w:Str}(h:jf w):gD w:=.inr h
theorem jf.ne{w:Str}(h:jf w):decide (w="wait")=false:=by rcases h with rfl|rfl<;>decide+kernel
def TI(d:F1):Prop:=(∃ns sp,d=bX ns sp/\ns.length<=3/\(∀n∈ns,Nm n)/\Nm sp)\/(∃w i,d= .tuple [.str w,.int i]/\gD w/\Nm i)\/∃w z,d= .tuple [.str w,.str z]/\jf w/\z.length<=100
theorem AJ(ns:List Int):(ns.map PyData.int).map iu=ns.map numS:=by rw[pe];rfl
theorem km(ns:List Int)(sp:Int):bc (bX ns sp)="line "++eN ns++" "++numS sp:=by show Str.ofString "line "++Txt.join " " ((ns.map PyData.int).map iu)++" "++numS sp=_;rw[AJ];rfl
theorem eO{i:Int}(h:Nm i):(numS i).length<=41:=pE h
theorem mU{ns:List Int}(h:∀n∈ns,Nm n)(hl:ns.length<=3):(eN ns).length<=126:=by
 have:=sI " " (B:=41) (ns.map numS) (fun z hz=>by obtain⟨n,hn,rfl⟩:=bz.mp hz;exact eO (h n hn));rw[aG]at this;have e:Str.length " "=1:=by decide+kernel
 rw[e]at this;unfold eN;omega
theorem jD{w:Str}(h:gD w):w.length=4:=by rcases h with rfl|rfl|rfl<;>decide+kernel
theorem nB{d:F1}(h:TI d):(bc d).length<=400:=by
 have e1:Str.length " "=1:=by decide+kernel
 have e2:Str.length "line "=5:=by decide+kernel
 rcases h with⟨ns,sp,rfl,hl,hb,hs⟩|⟨w,i,rfl,hw,hi⟩|⟨w,z,rfl,hw,hz⟩
 · rw[km]
   have h1:=mU hb hl;have h2:=eO hs;simp only[bE];omega
 · show(w++" "++numS i).length<=400
   have h2:=eO hi;have h3:=jD hw;simp only[bE];omega
 · show(w++" "++z).length<=400
   have h3:=jD hw.ok;simp only[bE];omega
theorem TI.nw{w z:Str}(h:TI (.tuple [.str w,.str z])):decide (w="wait")=false:=by
 rcases h with⟨ns,sp,e,_⟩|⟨w',i,e,_⟩|⟨w',z',e,hw,_⟩
 ·unfold bX at e;cases e
 ·cases e
 ·cases e;exact hw.ne
theorem Nm.l{i:Int}(h:Nm i):uM i:=jv h (by decide+kernel)
theorem wY:SeqAt.shaped (.str "wait")=true:=by decide+kernel
theorem eQ:SeqAt.shaped (.str "line")=true:=by decide+kernel
theorem gw(x y:Str):PyData.eqv (.str x) (.str y)=decide (x=y):=by show(x==y)=decide (x=y);rw[eH];simp
theorem jI{H:Hp}{v:V}{d:F1}(h:RD K H v d)(i:TI d):(∃ns sp a b,d=bX ns sp/\v= .ref a/\af K H a [.str "line",.ref b,.int sp]/\RD K H (.ref b) (.tuple (ns.map PyData.int))/\ns.length<=3/\(∀n∈ns,Nm n)/\Nm sp)\/∃w u a y,d= .tuple [.str w,u]/\gD w/\v= .ref a/\af K H a [.str w,y]/\RD K H y u/\((∃i,u= .int i/\y= .int i/\Nm i)\/∃z,u= .str z/\y= .str z/\z.length<=100):=by
 rcases i with⟨ns,sp,rfl,hl,hb,hs⟩|⟨w,i,rfl,hw,hi⟩|⟨w,z,rfl,hw,hz⟩
 · obtain⟨a,xs,rfl,h1,h2⟩:=h.aZ
   obtain⟨x1,r,rfl,e1,h2⟩:=h2.cons_inv;obtain⟨x2,r,rfl,e2,h2⟩:=h2.cons_inv;obtain⟨x3,r,rfl,e3,h2⟩:=h2.cons_inv;cases h2.nil_inv;cases e1.str_inv;cases e3.int_inv;obtain⟨b,ys,rfl,_,_⟩:=id e2.aZ;exact .inl ⟨ns,sp,a,b,rfl,rfl,h1,e2,hl,hb,hs⟩
 · obtain⟨a,xs,rfl,h1,h2⟩:=h.aZ
   obtain⟨x1,r,rfl,e1,h2⟩:=h2.cons_inv;obtain⟨x2,r,rfl,e2,h2⟩:=h2.cons_inv;cases h2.nil_inv;cases e1.str_inv;cases e2.int_inv;exact .inr ⟨w,_,a,_,rfl,hw,rfl,h1,e2,.inl ⟨i,rfl,rfl,hi⟩⟩
 · obtain⟨a,xs,rfl,h1,h2⟩:=h.aZ
   obtain⟨x1,r,rfl,e1,h2⟩:=h2.cons_inv;obtain⟨x2,r,rfl,e2,h2⟩:=h2.cons_inv;cases h2.nil_inv;cases e1.str_inv;cases e2.str_inv;exact .inr ⟨w,_,a,_,rfl,hw.ok,rfl,h1,e2,.inr ⟨z,rfl,rfl,hz⟩⟩
theorem jC{w:Str}(h:gD w):SeqAt.shaped (.str w)=true:=by rcases h with rfl|rfl|rfl<;>decide+kernel
theorem lB{w:Str}(h:gD w):decide (w="line")=false/\decide (w="step")=false:=by rcases h with rfl|rfl|rfl<;>decide+kernel
inductive vd(K:EY)(vs:List V)(H:Hp)(Q:VK):Prop |mk (v:_)(ns:_)(h0:vs=[v])(h1:RD K H v (.tuple (ns.map PyData.int)))(h2:ns.length<=3)(h3:(∀n∈ns,Nm n))(h4:∀H',a8 H H'->Q (.str (eN ns)) H'):vd K vs H Q
def qg(K:EY):Sp:=fun vs H Q _=>vd K vs H Q
theorem kb(zs:List Str):bA (zs.map PyData.str)=true:=e6.mpr fun d hd=>by obtain⟨z,_,rfl⟩:=bz.mp hd;rfl
abbrev lN:Stmt:=top 24
theorem qx:aV ["numbers"] ["numbers"] (aJ lN):=bj (by decide+kernel)
theorem zN(F:FA K mg "show_numbers" lN)(B:aQ mg)(ku:ah P w K mg base "show_number" 1 lH):ah P w K mg base "show_numbers" 2 (qg K):=by
 refine F.has qx (fun vs H Q E h=>?_) (fun _ _ _ _ _ _=>cA fun _=>rfl) (fun f aj A outer s H vs Q E hr h=>?_)
 · obtain⟨v,ns,rfl,_⟩:=h
   rfl
 · obtain⟨v,ns,rfl,rv,hl,hb,k⟩:=h
   have nd:=qx.nd;refine⟨_,(ao (az (iM K rfl aI (a0 (cf (N:=["number"]) (js:=[none]) rfl rfl rfl (fT K rfl (pv 0)) (fun _ _ _ _ _=>(aL 0 (e9 _))) (fun _ _ _ _ _=>bT) (fun _ _ _ _ _=>(pf ku hr (a0 (pv 0) a6)))) a6)))),?_⟩;obtain⟨a,xs,rfl,h1,h2⟩:=rv.aZ;rw[h2.gf]at h1;refine⟨rfl,?_⟩;refine⟨_,rfl,a,rfl,⟨_,h1⟩,fun D H1 n1=>?_⟩;refine kJ (K:=K) (ds:=(ns.map numS).map PyData.str) _ h1 n1 (by simp) (by simp;omega) (kb _) ?_ ?_
   · intro i x d H2 Q' ex ed s2 hq
     rw[bC]at ex;obtain⟨n,en,rfl⟩:=p4.mp ex;rw[bC,bC,en]at ed;cases ed;have hn:=hb n (cF en);exact⟨_,rfl,n,rfl,hn.l,fun H3 s3=>hq _ _ s3 (aH _)⟩
   · intro H2 zs s2 d2 r2
     rw[gM r2]at d2;refine⟨" ",D,ns.map numS,rfl,rfl,aa.of d2,fun z hz=>?_,by decide+kernel,by rw[aG];omega,k _ s2⟩;obtain⟨n,hn,rfl⟩:=bz.mp hz;have:=eO (hb n hn);omega
inductive vp(K:EY)(vs:List V)(H:Hp)(Q:VK):Prop |mk (v:_)(d:_)(h0:vs=[v])(h1:RD K H v d)(h2:TI d)(h3:(∀b:Bool,(b=true↔∃ns sp,d=bX ns sp)->Q (.bl b) H)):vp K vs H Q
def qm(K:EY):Sp:=fun vs H Q _=>vp K vs H Q
theorem pH{w:Str}{u:F1}(h:gD w):¬∃ns sp,PyData.tuple [.str w,u]=bX ns sp:=by rintro⟨ns,sp,e⟩;unfold bX at e;injection e with e;injection e with e1 e2;injection e2 with e2 e3;cases e3
abbrev qV:Stmt:=top 14
theorem qO:aV ["item"] ["item"] (aJ qV):=bj (by decide+kernel)
theorem A4(F:FA K mg "is_line" qV)(B:aQ mg):ah P w K mg base "is_line" 1 (qm K):=by
 refine F.has qO (fun vs H Q E h=>?_) (fun _ _ _ _ _ _=>cA fun _=>rfl) (fun f aj A outer s H vs Q E hr h=>?_)
 · obtain⟨v,d,rfl,_⟩:=h
   rfl
 · obtain⟨v,d,rfl,rv,ti,k⟩:=h
   have nd:=qO.nd;refine⟨_,(ao (az (fu (cO K rfl hr.units) (px K (pv 0) a9) aI (aP _)))),?_⟩;rcases jI rv ti with⟨ns,sp,a,b,rfl,rfl,h1,_⟩|⟨w,u,a,y,rfl,hw,rfl,h1,_⟩
   · refine⟨_,rfl,.inr ⟨a,_,0,.str "line",rfl,rfl,h1,cy (dA 0) rfl,.inr ⟨_,_,aH _,aH _,eQ,eQ,?_⟩⟩⟩
     rw[gw,bH rfl];exact k true ⟨fun _=>⟨_,_,rfl⟩,fun _=>rfl⟩
   · refine⟨_,rfl,.inr ⟨a,_,0,.str w,rfl,rfl,h1,cy (dA 0) rfl,.inr ⟨_,_,aH _,aH _,jC hw,eQ,?_⟩⟩⟩
     rw[gw,(lB hw).1];exact k false ⟨fun z=>(by cases z),fun z=>(pH hw z).elim⟩
inductive vj(K:EY)(vs:List V)(H:Hp)(Q:VK):Prop |mk (v:_)(d:_)(h0:vs=[v])(h1:RD K H v d)(h2:TI d)(h3:∀H',a8 H H'->Q (.str (bc d)) H'):vj K vs H Q
def jP(K:EY):Sp:=fun vs H Q _=>vj K vs H Q
abbrev lP:Stmt:=top 25
theorem qz:aV ["item","word","steps","speed","value"] ["item"] (aJ lP):=bj (by decide+kernel)
theorem zO(F:FA K mg "show_item" lP)(B:aQ mg)(C7:ah P w K mg base "is_line" 1 (qm K))(BB:ah P w K mg base "show_numbers" 2 (qg K))(ku:ah P w K mg base "show_number" 1 lH):ah P w K mg base "show_item" 3 (jP K):=by
 refine F.has qz (fun vs H Q E h=>?_) (fun _ _ _ _ _ _=>cA fun _=>rfl) (fun f aj A outer s H vs Q E hr h=>?_)
 · obtain⟨v,d,rfl,_⟩:=h
   rfl
 · obtain⟨v,d,rfl,rv,ti,k⟩:=h
   have nd:=qz.nd;have j9:sizeLine=16777216:=by decide
   have e1:Str.length " "=1:=by decide+kernel
   have e2:Str.length "line"=4:=by decide+kernel
   have e0:Str.empty.length=0:=by decide+kernel
   refine⟨_,(ag (bb (cL (pf C7 hr (a0 (pv 0) a6))) (ag (eK (pv 0) (fV K rfl (n:=3) rfl (bU (aL 1 nd) (bU (aL 2 nd) (bU (aL 3 nd) fU))))) (ao (az (k0 (cT (ft (pv 1)) (cT aI (cT (ft (pf BB hr (a0 (pv 2) a6))) (cT aI (cT (ft (pf ku hr (a0 (pv 3) a6))) jY))))))))) bo) (ag (eK (pv 0) (fV K rfl (n:=2) rfl (bU (aL 1 nd) (bU (aL 4 nd) fU)))) (ao (az (gU (ba (cO K rfl hr.units) (pv 1) aI (aP _)) (k0 (cT (ft (pv 1)) (cT aI (cT (ft (pf ku hr (a0 (pv 4) a6))) jY)))) (k0 (cT (ft (pv 1)) (cT aI (cT (ft (pv 4)) jY))))))))),?_⟩;refine⟨_,rfl,v,d,rfl,rv,ti,fun b hb=>⟨_,rfl,?_⟩⟩;rcases jI rv ti with⟨ns,sp,a,b',rfl,rfl,h1,r2,hl,hn,hs⟩|⟨w,u,a,y,rfl,hw,rfl,h1,ry,hv⟩
   · cases(hb.mpr ⟨_,_,rfl⟩)
     refine aR ?_;have CS:=mU hn hl;have nZ:=eO hs;refine⟨_,rfl,a,_,rfl,h1,rfl,_,_,rfl,_,_,rfl,_,_,rfl,rfl,?_⟩;refine⟨_,rfl,.inr ⟨"line",rfl,by omega,_,rfl,by simp only[bE];omega,?_⟩⟩;refine⟨_,rfl,by simp only[bE];omega,?_⟩;refine⟨_,rfl,.ref b',ns,rfl,r2,hl,hn,fun H1 s1=>.inr ⟨_,rfl,by omega,_,rfl,by simp only[bE];omega,?_⟩⟩;refine⟨_,rfl,by simp only[bE];omega,?_⟩;refine⟨_,rfl,sp,rfl,hs.l,fun H2 s2=>.inr ⟨_,rfl,by omega,_,rfl,by simp only[bE];omega,?_⟩⟩;refine⟨by simp only[bE];omega,?_⟩;have e:Str.empty++"line"++" "++eN ns++" "++numS sp=bc (bX ns sp):=by
      rw[km,Str.empty_append];have:(Str.ofString "line"++Str.ofString " ")=Str.ofString "line ":=by decide+kernel
      rw[this]
     have:=k H2 (s1.trans s2);rw[<-e]at this;exact this
   · have Co:b=false:=by cases b with |false=>rfl |true=>exact(pH hw (hb.mp rfl)).elim
     subst Co;refine aF ?_;have w4:=jD hw;refine⟨_,rfl,a,_,rfl,h1,rfl,_,_,rfl,_,_,rfl,rfl,?_⟩;have eA:Str.empty++w++" "++iu u=bc (.tuple [.str w,u]):=by rw[Str.empty_append];rcases hv with⟨i,rfl,_⟩|⟨z,rfl,_⟩<;>rfl
     rw[<-eA]at k;refine⟨_,rfl,.inr ⟨_,_,aH _,aH _,jC hw,wY,_,rfl,?_⟩⟩;rw[gw];rcases hv with⟨i,rfl,rfl,hi⟩|⟨z,rfl,rfl,hz⟩
     · have nZ:=eO hi
       have fin:∀H',a8 H H'->Q (.str (Str.empty++w++" "++numS i)) H':=k;have l1:(Str.empty++w).length<=sizeLine:=by simp only[bE];omega
       have l2:(Str.empty++w++" ").length<=sizeLine:=by simp only[bE];omega
       have l3:(Str.empty++w++" "++numS i).length<=sizeLine:=by simp only[bE];omega
       cases EE:decide (w="wait")with |true=>exact aR ⟨_,rfl,.inr ⟨w,rfl,by omega,_,rfl,l1,⟨_,rfl,l2,⟨_,rfl,i,rfl,hi.l,fun H2 s2=>.inr ⟨_,rfl,by omega,_,rfl,l3,l3,fin H2 s2⟩⟩⟩⟩⟩ |false=>exact aF ⟨_,rfl,.inr ⟨w,rfl,by omega,_,rfl,l1,⟨_,rfl,l2,⟨_,rfl,.inl ⟨i,rfl,kh hi,_,rfl,l3,l3,fin H (a8.refl _)⟩⟩⟩⟩⟩
     · rw[ti.nw]
       refine aF ⟨_,rfl,.inr ⟨w,rfl,by omega,_,rfl,by simp only[bE];omega,?_⟩⟩;refine⟨_,rfl,by simp only[bE];omega,?_⟩;refine⟨_,rfl,.inr ⟨z,rfl,by omega,_,rfl,by simp only[bE];omega,?_⟩⟩;exact⟨by simp only[bE];omega,k H (a8.refl _)⟩
theorem sz:sizeLine=16777216:=by decide
theorem jQ:Str.length " "=1:=by decide+kernel
inductive vi(K:EY)(vs:List V)(H:Hp)(Q:VK):Prop |mk (v:_)(ds:_)(h0:vs=[v])(h1:RD K H v (.tuple ds))(h2:(∀d∈ds,TI d))(h3:bA ds=true)(h4:ds.length<=30)(h5:∀H',a8 H H'->Q (.str (Txt.join "\n" (ds.map bc))) H'):vi K vs H Q
def qk(K:EY):Sp:=fun vs H Q _=>vi K vs H Q
abbrev lQ:Stmt:=top 26
theorem qA:aV ["items"] ["items"] (aJ lQ):=bj (by decide+kernel)
theorem zP(F:FA K mg "show_items" lQ)(B:aQ mg)(BD:ah P w K mg base "show_item" 3 (jP K)):ah P w K mg base "show_items" 4 (qk K):=by
 refine F.has qA (fun vs H Q E h=>?_) (fun _ _ _ _ _ _=>cA fun _=>rfl) (fun f aj A outer s H vs Q E hr h=>?_)
 · obtain⟨v,ds,rfl,_⟩:=h
   rfl
 · obtain⟨v,ds,rfl,rv,ti,no,hl,k⟩:=h
   have nd:=qA.nd;refine⟨_,(ao (az (iM K rfl aI (a0 (cf (N:=["item"]) (js:=[none]) rfl rfl rfl (fT K rfl (pv 0)) (fun _ _ _ _ _=>(aL 0 (e9 _))) (fun _ _ _ _ _=>bT) (fun _ _ _ _ _=>(pf BD hr (a0 (pv 0) a6)))) a6)))),?_⟩;obtain⟨a,xs,rfl,h1,h2⟩:=rv.aZ;have lx:=h2.length;refine⟨rfl,?_⟩;refine⟨_,rfl,a,rfl,⟨_,h1⟩,fun D H1 n1=>?_⟩;refine kJ (K:=K) (ds:=(ds.map bc).map PyData.str) _ h1 n1 (by simp;exact lx) (by omega) (kb _) ?_ ?_
   · intro i x d H2 Q' ex ed s2 hq
     obtain⟨d',fA,rx⟩:=h2.get' i ex;rw[bC,bC,fA]at ed;cases ed;exact⟨_,rfl,x,d',rfl,RD.mono s2 _ rx,ti d' (cF fA),fun H3 s3=>hq _ _ s3 (aH _)⟩
   · intro H2 zs s2 d2 r2
     rw[gM r2]at d2;refine⟨"\n",D,ds.map bc,rfl,rfl,aa.of d2,fun z hz=>?_,by decide+kernel,by rw[aG];omega,k _ s2⟩;obtain⟨d,hd,rfl⟩:=bz.mp hz;have:=nB (ti d hd);omega
abbrev lZ:Stmt:=top 39
theorem qK:aV ["_law_item_here"] ["_law_item_here"] (aJ lZ):=bj (by decide+kernel)
theorem zY(F:FA K mg "_law_item_text" lZ)(B:aQ mg):ah P w K mg base "_law_item_text" 1 (jP K):=by
 refine F.has qK (fun vs H Q E h=>?_) (fun _ _ _ _ _ _=>cA fun _=>rfl) (fun f aj A outer s H vs Q E hr h=>?_)
 · obtain⟨v,d,rfl,_⟩:=h
   rfl
 · obtain⟨v,d,rfl,rv,ti,k⟩:=h
   have nd:=qK.nd;refine⟨_,(ag (bb (ba (cO K rfl hr.units) (px K (pv 0) a9) aI (aP _)) (ao (az (aB iO (aB iO (aB iO aI (iM K rfl aI (a0 (cf (N:=["_law_step"]) (js:=[none]) rfl rfl rfl (fT K rfl (px K (pv 0) a9)) (fun _ _ _ _ _=>(aL 0 (e9 _))) (fun _ _ _ _ _=>bT) (fun _ _ _ _ _=>(dk (x:="str") jc rfl (B.at "str") fI (a0 (pv 0) a6)))) a6))) aI) (dk (x:="str") jc rfl (B.at "str") fI (a0 (px K (pv 0) a9) a6))))) bo) (ao (az (aB iO (aB iO (px K (pv 0) a9) aI) (dk (x:="str") jc rfl (B.at "str") fI (a0 (px K (pv 0) a9) a6)))))),?_⟩;have hs:=sz;have EM:=jQ;have h5:Str.length "line "=5:=by decide+kernel
   rcases jI rv ti with⟨ns,sp,a,b,rfl,rfl,h1,r2,hl,hn,dI⟩|⟨w,u,a,y,rfl,hw,rfl,h1,ry,hv⟩
   · refine⟨_,rfl,.inr ⟨a,_,0,.str "line",rfl,rfl,h1,cy (dA 0) rfl,.inr ⟨_,_,aH _,aH _,eQ,eQ,_,rfl,?_⟩⟩⟩
     rw[gw,bH rfl];refine aR ?_;have CS:=mU hn hl;have nZ:=eO dI;obtain⟨b',xs,e',g1,g2⟩:=r2.aZ;cases e';rw[g2.gf]at g1;refine⟨rfl,?_⟩;refine⟨_,rfl,.inr ⟨a,_,1,.ref b,rfl,rfl,h1,cy (by decide) rfl,b,rfl,⟨_,g1⟩,fun D H1 n1=>?_⟩⟩;refine kJ (K:=K) (ds:=(ns.map numS).map PyData.str) _ g1 n1 (by simp) (by simp;omega) (kb _) ?_ ?_
     · intro i x d H2 Q' ex ed s2 hq
       rw[bC]at ex;obtain⟨n,en,rfl⟩:=p4.mp ex;rw[bC,bC,en]at ed;cases ed;have hn:=hn n (cF en);exact⟨_,rfl,.inl ⟨n,rfl,kh hn,hq _ _ (a8.refl _) (aH _)⟩⟩
     · intro H2 zs s2 d2 r2
       rw[gM r2]at d2;refine⟨" ",D,ns.map numS,rfl,rfl,aa.of d2,fun z hz=>?_,by decide+kernel,by rw[aG];omega,?_⟩
       · obtain⟨n,nO,rfl⟩:=bz.mp hz
         have:=eO (hn n nO);omega
       refine⟨_,_,rfl,rfl,by change _+(eN ns).length<=_;omega,?_⟩;refine⟨_,_,rfl,rfl,by simp only[bE];change _+(eN ns).length+_<=_;omega,?_⟩;refine⟨_,rfl,.inr ⟨a,_,2,.int sp,rfl,rfl,h1.go s2,cy (by decide) rfl,.inl ⟨sp,rfl,kh dI,?_⟩⟩⟩;refine⟨_,_,rfl,rfl,by simp only[bE];change _+(eN ns).length+_+(numS sp).length<=_;omega,?_⟩;have:=k H2 s2;rw[km]at this;exact this
   · refine⟨_,rfl,.inr ⟨a,_,0,.str w,rfl,rfl,h1,cy (dA 0) rfl,.inr ⟨_,_,aH _,aH _,jC hw,eQ,_,rfl,?_⟩⟩⟩
     rw[gw,(lB hw).1];refine aF ?_;have w4:=jD hw;have fin:=k H (a8.refl _);refine⟨_,rfl,.inr ⟨a,_,0,.str w,rfl,rfl,h1,cy (dA 0) rfl,?_⟩⟩;refine⟨_,_,rfl,rfl,by omega,?_⟩;refine⟨_,rfl,.inr ⟨a,_,1,y,rfl,rfl,h1,cy (by decide) rfl,?_⟩⟩;rcases hv with⟨i,rfl,rfl,hi⟩|⟨z,rfl,rfl,hz⟩
     · have nZ:=eO hi
       exact .inl ⟨i,rfl,kh hi,_,_,rfl,rfl,by simp only[bE];change _+(numS i).length<=_;omega,fin⟩
     ·exact .inr ⟨z,rfl,_,_,rfl,rfl,by simp only[bE];omega,fin⟩
end
end Lw
set_option maxHeartbeats 1000000
namespace Lw
open PySem PySem.Spec PyProof.Rows L2 Rt Ln Wk
section
variable {P:F0}{w:World}{K:EY}{mg:Str->Option Value}{base:Heap}
def aY(z:Str):Prop:=∀c∈z.cps.toList,c<0x110000
theorem aY.app{a b:Str}(ha:aY a)(hb:aY b):aY (a++b):=fun c hc=>by rw[gH,fm,dU]at hc;exact hc.elim (ha c) (hb c)
theorem aY.joined{sep:Str}(hs:aY sep):∀l:List Str,(∀a∈l,aY a)->aY (PySem.Str.join sep l) |[],_=>fun c hc=>by simp[PySem.Str.join,PySem.Str.empty]at hc |[x],h=>h x (.head _) |x::y::r,h=>((h x (.head _)).app hs).app (aY.joined hs (y::r) fun a ha=>h a (.tail _ ha))
theorem aY.join{sep:Str}{l:List Str}(hs:aY sep)(h:∀a∈l,aY a):aY (Txt.join sep l):=by show aY (Builtin.Str.glued sep l);rw[fH];exact aY.joined hs l h
theorem zJ{n:Nat}{z:Str}(h:aY z):aN n (.str z):=⟨by show PyData.strOk z=true;unfold PyData.strOk;rw[wL];exact fun c hc=>bH (h c (by simpa using hc)),bI _⟩
theorem rP{n:Nat}{z:Str}(h:aN n (.str z)):aY z:=fun c hc=>by have q:PyData.strOk z=true:=h.lay;unfold PyData.strOk at q;rw[wL]at q;exact ij (q c (by simpa using hc))
theorem g9{z:Str}(h:z.cps.all (·<0x110000)=true):aY z:=rP (n:=0) ⟨h,bI _⟩
theorem pP:∀(ds:List F1),(∀d∈ds,∃z:Str,d= .str z/\z.length=1/\aY z/\z.cps.toList.all (fun c=>decide (97<=c)&&decide (c<=122))=true)->∃zs:List Str,ds=zs.map PyData.str/\∀z∈zs,z.length=1/\aY z/\z.cps.toList.all (fun c=>decide (97<=c)&&decide (c<=122))=true |[],_=>⟨[],rfl,fun _ h=>nomatch h⟩ |d::ds,h=>by obtain⟨z,rfl,e⟩:=h d (.head _);obtain⟨zs,rfl,q⟩:=pP ds fun x hx=>h x (.tail _ hx);exact⟨z::zs,rfl,fun y hy=>by
     rcases aW.mp hy with rfl|hy
     ·exact e
     ·exact q y hy⟩
theorem E5:aY c6:=g9 (by decide+kernel)
def kg(c:Nat):Bool:=decide (97<=c)&&decide (c<=122)
def eP(s:Str):Bool:=(decide (1<=s.length)&&decide (s.length<=8))&&s.cps.toList.all kg
def mM(w s:Str):Prop:=(w="tool"/\(s="up"\/s="down"))\/(w="mark"/\eP s=true)
def kP(d:F1):Prop:=(∃n,d= .tuple [.str "wait",.int n]/\1<=n/\n<=1000)\/∃w s,d= .tuple [.str w,.str s]/\(w="tool"\/w="mark")/\aN 0 (.str s)/\mM w s
theorem tH:∀l:List Str,(PySem.Str.join ("":Str) l).cps.toList=(l.map fun z=>z.cps.toList).flatten
  |[]=>by simp[PySem.Str.join,PySem.Str.empty] |[x]=>by simp[PySem.Str.join] |x::y::r=>by
    show((x++("":Str))++PySem.Str.join ("":Str) (y::r)).cps.toList=_;rw[gH,gH,fm,fm,tH (y::r)];have:(("":Str)).cps.toList=[]:=by decide+kernel
    rw[this];simp
theorem Ay{l:List Str}(h1:1<=l.length)(h8:l.length<=8)(h:∀z∈l,z.length=1/\z.cps.toList.all kg=true):eP (Txt.join ("":Str) l)=true:=by
 have e:(Txt.join ("":Str) l).cps.toList=(l.map fun z=>z.cps.toList).flatten:=by show(Builtin.Str.glued ("":Str) l).cps.toList=_;rw[fH];exact tH l
 have el:(Txt.join ("":Str) l).length=l.length:=by
  show(Txt.join ("":Str) l).cps.size=_;rw[<-dX,e,List.length_flatten,pe];have:∀(l:List Str),(∀z∈l,z.length=1/\z.cps.toList.all kg=true)->(l.map (List.length∘fun z=>z.cps.toList)).sum=l.length:=by intro l;induction l with |nil=>intro _;rfl |cons a r ih=>
     intro h;rw[ip,List.sum_cons,ih fun z hz=>h z (.tail _ hz),fk];have:=(h a (.head _)).1;have e2:(List.length∘fun z:Str=>z.cps.toList) a=1:=by show a.cps.toList.length=1;rw[dX];exact this
     rw[e2,Nat.add_comm]
  exact this l h
 unfold eP;rw[el,e,bH h1,bH h8,de,de,bK];intro c hc;obtain⟨cs,hX,gq⟩:=List.mem_flatten.mp hc;obtain⟨z,hz,rfl⟩:=bz.mp hX;exact bK.mp (h z hz).2 c gq
theorem kP.it{d:F1}(h:kP d):itR d none:=by
 rcases h with⟨n,rfl,_⟩|⟨w,s,rfl,hw|hw,_⟩
 ·exact .inr ⟨_,_,rfl,.inl rfl,rfl,rfl⟩
 ·exact .inr ⟨_,_,rfl,.inr (.inl hw),rfl,rfl⟩
 ·exact .inr ⟨_,_,rfl,.inr (.inr hw),rfl,rfl⟩
structure gF(n:Nat)(d:F1)(o:Itm):Prop where
 it:itR d o
 ln:∀ns sp,o=some (ns,sp)->uK n 100 ns/\1<=sp/\sp<=20
 ot:o=none->kP d
theorem Ax{z:Str}(h:eP z=true):isNm (.str z)=true:=h
theorem DU:∀{ns:List Int},(∃z∈ns,z≠0)->(ns.map PyData.int).any iP=true:=fun{ns} ⟨z,hz,h⟩=>List.any_eq_true.mpr ⟨.int z,bz.mpr ⟨z,hz,rfl⟩,by show(z !=0)=true;simpa using h⟩
theorem DY{ns:List Int}(h:∀z∈ns,(z.natAbs:Int)<=100):(ns.map PyData.int).all (bZ (-100) 100)=true:=by rw[bK];intro d hd;obtain⟨z,hz,rfl⟩:=bz.mp hd;have:=h z hz;show(decide (-100<=z)&&decide (z<=100))=true;rw[bH (by omega),bH (by omega)];rfl
theorem gF.is{n:Nat}{d:F1}{o:Itm}(h:gF n d o):eg n d=true/\aN 8 d/\jS d=true:=by cases o with
 |some q=>
   obtain⟨ns,sp⟩:=q;have ed:=sN h.it;subst ed;obtain⟨fv,s1,s2⟩:=h.ln ns sp rfl;refine⟨?_,?_,rfl⟩
   · show(bJ "line" (.str "line")&&(gb n (.tuple (ns.map PyData.int))&&bZ 1 20 (.int sp)))=true
     have e1:bJ "line" (.str "line")=true:=by decide+kernel
     have e2:gb n (.tuple (ns.map PyData.int))=true:=by show(((ns.map PyData.int).length==n&&(ns.map PyData.int).all (bZ (-100) 100))&&(ns.map PyData.int).any iP)=true;rw[DY fv.bd,DU fv.nz,aG,fv.len,wj];rfl
     have e3:bZ 1 20 (.int sp)=true:=by show(decide (1<=sp)&&decide (sp<=20))=true;rw[bH s1,bH s2];rfl
     rw[e1,e2,e3];rfl
   · refine(c7.tup (n:=1) (.cons ⟨by decide+kernel,bI _⟩ (.cons (c7.tup (n:=0) fun d hd=>?_) (.cons (.int _) .nil)))).le (by decide)
     obtain⟨a,_,rfl⟩:=bz.mp hd;exact .int _ |none=>
   rcases h.ot rfl with⟨z,rfl,z1,z2⟩|⟨w,s,rfl,hw,mR,on⟩
   · refine⟨?_,(c7.tup (n:=0) (.cons ⟨by decide+kernel,bI _⟩ (.cons (.int _) .nil))).le (by decide),rfl⟩
     show eS (.str "wait") (.int z)=true;unfold eS;rw[aD (by decide+kernel)];show(decide (1<=z)&&decide (z<=1000))=true;rw[bH z1,bH z2];rfl
   · have B1:cI (.str s)=true:=by
       refine bH ?_;rcases on with⟨_,rfl|rfl⟩|⟨_,hn⟩
       ·decide+kernel
       ·decide+kernel
       · unfold eP at hn
         simp only[bL,oW]at hn;omega
     refine⟨?_,(c7.tup (n:=0) (.cons ?_ (.cons mR .nil))).le (by decide),?_⟩
     · rcases on with⟨rfl,hs⟩|⟨rfl,hn⟩
       · show eS (.str "tool") (.str s)=true
         unfold eS;rw[aE (by decide+kernel),aD (by decide+kernel)];rcases hs with rfl|rfl<;>decide+kernel
       · show eS (.str "mark") (.str s)=true
         unfold eS;rw[aE (by decide+kernel),aE (by decide+kernel)];rw[Ax hn];decide+kernel
     ·rcases hw with rfl|rfl<;>exact⟨by decide+kernel,bI _⟩
     · show([.str w,.str s]:List F1).all cI=true
       rw[la,la,pj,B1];rcases hw with rfl|rfl<;>decide+kernel
abbrev lX:Stmt:=top 36
theorem qH:aV ["_law_bag_here","_law_axes","_law_far","_law_rails","_law_bounds"] ["_law_bag_here"] (aJ lX):=bj (by decide+kernel)
theorem zW(F:FA K mg "_law_machine" lX)(B:aQ mg)(bO:ah P w K mg base "_law_take" 1 gN):ah P w K mg base "_law_machine" 2 (qi K):=by
 refine F.has qH (fun vs H Q E h=>?_) (fun _ _ _ _ _ _=>cA fun _=>rfl) (fun f aj A outer s H vs Q E hr h=>?_)
 · obtain⟨p,rfl,_⟩:=h
   rfl
 · obtain⟨p,rfl,bg,k⟩:=h
   have nd:=qH.nd;refine⟨_,(ag (pS 1 nd (aB cg a9 (pf bO hr (a0 (pv 0) (a0 a9 a6))))) (ag (pS 2 nd (px K (fX (a0 a9 (a0 a9 a6))) (pf bO hr (a0 (pv 0) (a0 a9 a6))))) (ag (pS 3 nd (dk (x:="tuple") (gK K rfl) rfl (B.at "tuple") eG (a0 (cf (N:=["_law_axis","_law_bag_here","_law_far"]) (js:=[none,some 0,some 2]) rfl rfl rfl (fS rfl (B.at "range") (a0 (pv 1) a6)) (fun _ _ _ _ _=>(aL 0 (show List.Nodup (["_law_axis","_law_bag_here","_law_far"]:List Str) by decide+kernel))) (fun _ _ _ _ _=>bT) (fun _ _ _ _ _=>(aB cg a9 (pf bO hr (a0 (pv 1) (a0 (pv 2) a6)))))) a6))) (ag (pS 4 nd (dk (x:="tuple") (gK K rfl) rfl (B.at "tuple") eG (a0 (cf (N:=["_law_k","_law_bag_here"]) (js:=[none,some 0]) rfl rfl rfl (fS rfl (B.at "range") (a0 a9 a6)) (fun _ _ _ _ _=>(aL 0 (ke (by decide)))) (fun _ _ _ _ _=>bT) (fun _ _ _ _ _=>(aB cg a9 (pf bO hr (a0 (pv 1) (a0 a9 a6)))))) a6))) (ao (az (aB (ou K rfl) (aB (ou K rfl) (eL (a0 (pv 3) a6)) (pv 4)) (eL (a0 (aB cg a9 (pf bO hr (a0 (pv 0) (a0 a9 a6)))) a6))))))))),?_⟩;refine⟨_,rfl,p,2,rfl,bg,by decide,by decide,fun t0 H1 Em El b1=>?_⟩;refine⟨_,_,rfl,rfl,?_⟩;refine⟨cS rfl,fun l H2 nw=>?_⟩;have b2:au p H1 H2:=.bW b1.bag nw.same;have AR:l≠p:=fun e=>b1.bag.ne (e▸nw.no);refine⟨_,rfl,p,2,rfl,b2.bag,by decide,by decide,fun i H3 i0 i1 b3=>?_⟩;obtain⟨kC,mf,ef⟩:=Bi [100,20] i0 i1;have f1:1<=kC/\kC<=100:=by
    rcases aW.mp mf with rfl|mf
    ·exact⟨by decide,by decide⟩
    rcases aW.mp mf with rfl|mf
    ·exact⟨by decide,by decide⟩
    ·exact(dw mf).elim
   refine .inl ⟨l,_,_,_,rfl,rfl,aa.of (b3.same _ _ AR nw.at'),ef,?_⟩;refine⟨_,rfl,_,rfl,by omega,by omega,fun D H4 n4=>?_⟩;have hN:(2+t0).toNat<=1000:=by omega
   refine om (2+t0).toNat [some (.ref p),some (.int kC)] n4 b3.bag hN (fun i=>.int (0+(i:Int))) (fun i H5 hi b5=>⟨hi,fun y H6 ⟨e1,e2⟩=>⟨e1,e2⟩⟩) (fun H5 b5=>ak _) (fun z=>1<=z/\z<=100) ?_ ?_
   · intro i H5 Q' hi b5 hq
     refine⟨_,rfl,_,rfl,p,kC,rfl,b5.bag,f1.1,by omega,fun z H6 z0 z1 b6=>?_⟩;exact⟨_,_,rfl,rfl,hq _ _ ⟨by omega,by omega⟩ b6⟩
   intro H5 rs b5 d5 lr pr;refine⟨D,_,rfl,.inl ⟨aa.of d5,fun q H6 n6=>?_⟩⟩;have b6:au p H5 H6:=.bW b5.bag n6.same;refine⟨3,rfl,by decide,by decide,fun D2 H7 n7=>?_⟩;refine om 3 [some (.ref p)] n7 b6.bag (by decide) (fun i=>.int (0+(i:Int))) (fun i H8 hi b8=>⟨hi,fun y H9 ⟨e1,e2⟩=>⟨e1,e2⟩⟩) (fun H8 b8=>ak _) (fun z=>1<=z/\z<=50) ?_ ?_
   · intro i H8 Q' hi b8 hq
     refine⟨_,rfl,p,50,rfl,b8.bag,by decide,by decide,fun z H9 z0 z1 b9=>?_⟩;exact⟨_,_,rfl,rfl,hq _ _ ⟨by omega,by omega⟩ b9⟩
   intro H8 bs b8 d8 lb pb;refine⟨D2,_,rfl,.inl ⟨aa.of d8,fun q2 H9 n9=>?_⟩⟩;have b9:au p H8 H9:=.bW b8.bag n9.same;refine⟨_,rfl,cS rfl,fun t1 ic ng=>?_⟩;have oB:au p H9 ic:=.bW b9.bag ng.same
   match bs,lb,pb,n9 with |[x1,x2,x3],_,pb,n9=>have p1:=pb x1 (.head _);have p2:=pb x2 (.tail _ (.head _));have p3:=pb x3 (.tail _ (.tail _ (.head _)));refine⟨_,rfl,t1,q2,_,_,rfl,rfl,af.of ng.at',af.of (ng.same _ _ n9.at'),cS rfl,fun v1 fE mi Eb=>?_⟩;have kN:au p ic fE:=.bW oB.bag mi;refine⟨_,rfl,p,100,rfl,kN.bag,by decide,by decide,fun z oS z0 z1 kM=>?_⟩;refine⟨_,_,rfl,rfl,cS rfl,fun t2 kT nc=>?_⟩;have oA:au p oS kT:=.bW kM.bag nc.same;refine⟨v1,t2,_,_,rfl,rfl,(af.t (au.t kN.bag kM) Eb).go nc.same,af.of nc.at',cS rfl,fun v2 kS jT Ea=>?_⟩;have gB:au p kT kS:=.bW oA.bag jT;have sq:af K kS q (rs.map V.int):=af.t (au.t b6.bag (b8.trans (b9.trans (oB.trans (kN.trans (kM.trans (oA.trans gB))))))) (af.of n6.at');refine k (.ref v2) rs x1 x2 x3 (1+z) kS (cJ Ea (bD (cJ sq (mx rs)) (bD (dE _) (bD (dE _) (bD (dE _) (bD (dE _) cb)))))) ⟨by omega,pr,p1,p2,p3,by omega⟩ (b1.trans (b2.trans (b3.trans (b5.trans (b6.trans (b8.trans (b9.trans (oB.trans (kN.trans (kM.trans (oA.trans gB)))))))))))
inductive vg(vs:List V)(H:Hp)(Q:VK):Prop |mk (p:_)(h0:vs=[.ref p])(h1:cC H p)(h2:∀z H',aN 0 (.str z)->eP z=true->au p H H'->Q (.str z) H'):vg vs H Q
def qh(K:EY):Sp:=fun vs H Q _=>vg vs H Q
abbrev lV:Stmt:=top 37
theorem qF:aV ["_law_bag_here"] ["_law_bag_here"] (aJ lV):=bj (by decide+kernel)
theorem zV(F:FA K mg "_law_name" lV)(B:aQ mg)(bO:ah P w K mg base "_law_take" 1 gN):ah P w K mg base "_law_name" 2 (qh K):=by
 refine F.has qF (fun vs H Q E h=>?_) (fun _ _ _ _ _ _=>cA fun _=>rfl) (fun f aj A outer s H vs Q E hr h=>?_)
 · obtain⟨p,rfl,_⟩:=h
   rfl
 · obtain⟨p,rfl,bg,k⟩:=h
   have nd:=qF.nd;refine⟨_,(ao (az (iM K rfl aI (a0 (cf (N:=["_law_k","_law_bag_here"]) (js:=[none,some 0]) rfl rfl rfl (fS rfl (B.at "range") (a0 (aB cg a9 (pf bO hr (a0 (pv 0) (a0 a9 a6)))) a6)) (fun _ _ _ _ _=>(aL 0 (ke (by decide)))) (fun _ _ _ _ _=>bT) (fun _ _ _ _ _=>(mK sJ aI (pf bO hr (a0 (pv 1) (a0 a9 a6))) (fun _ _=>rfl)))) a6)))),?_⟩;refine⟨rfl,?_⟩;refine⟨_,rfl,p,8,rfl,bg,by decide,by decide,fun n H1 n0 n1 b1=>?_⟩;refine⟨_,_,rfl,rfl,_,rfl,by omega,by omega,fun D H2 nD=>?_⟩;refine ue (K:=K) (J:=fb 0 (1+n).toNat) (p:=p) (H:=H1) (1+n).toNat _ nD b1.bag (by omega) (fun i=>.int (0+(i:Int))) (fun i H3 hi _=>⟨hi,fun y H4 ⟨e,q⟩=>⟨e,q⟩⟩) (fun H3 _=>ak _) (fun _ d=>∃z:Str,d= .str z/\z.length=1/\aY z/\z.cps.toList.all (fun c=>decide (97<=c)&&decide (c<=122))=true) ?_ ?_
   · intro i H3 Q' hi b3 hq
     refine⟨_,rfl,p,26,rfl,b3.bag,by decide,by decide,fun d H4 d0 d1 b4=>?_⟩;have hd:d.toNat<c6.cps.toList.length:=by rw[E7];omega
     refine⟨c6,d,c6.cps.toList[d.toNat],rfl,rfl,by decide+kernel,cy d0 (dz hd),?_⟩;have Ab:aY ⟨#[c6.cps.toList[d.toNat]]⟩:=fun c hc=>by have cX:c=c6.cps.toList[d.toNat]:=bR.mp hc;rw[cX];exact E5 _ (pg hd)
     have Aa:(⟨#[c6.cps.toList[d.toNat]]⟩:Str).cps.toList.all (fun c=>decide (97<=c)&&decide (c<=122))=true:=by have:=bK.mp (show c6.cps.toList.all (fun c=>decide (97<=c)&&decide (c<=122))=true by decide+kernel) _ (pg hd);show([c6.cps.toList[d.toNat]]:List Nat).all _=true;rw[la,pj,Bool.and_true];exact this
     exact hq _ _ _ ⟨_,rfl,rfl,Ab,Aa⟩ rfl (aH _) b4
   · intro H3 ys ds b3 d3 r3 l3 nl pd
     obtain⟨zs,rfl,hz⟩:=pP ds fun d hd=>by obtain⟨i,hi⟩:=List.mem_iff_getElem?.mp hd;exact pd i d hi
     rw[gM r3]at d3;rw[aG]at l3;refine⟨"",D,zs,rfl,rfl,aa.of d3,fun z kn=>by rw[(hz z kn).1];decide,by decide,by omega,?_⟩;exact k _ _ (zJ (aY.join (g9 (by decide+kernel)) fun a ha=>(hz a ha).2.1)) (Ay (by omega) (by omega) fun z kn=>⟨(hz z kn).1,(hz z kn).2.2⟩) (b1.trans b3)
inductive vo(K:EY)(vs:List V)(H:Hp)(Q:VK):Prop |mk (p:Addr)(ax:Nat)(h0:vs=[.ref p,.int ax])(h1:cC H p)(h2:1<=ax)(h3:ax<=3)(h4:∀v d o H',RD K H' v d->gF ax d o->au p H H'->Q v H'):vo K vs H Q
def ql(K:EY):Sp:=fun vs H Q _=>vo K vs H Q
theorem gF.mN{n:Nat}{d:F1}(h:kP d):gF n d none:=⟨h.it,(fun _ _ z=>nomatch z),fun _=>h⟩
abbrev m3:Stmt:=top 38
theorem qL:aV ["_law_bag_here","_law_axes","_law_sort","_law_speed","_law_most","_law_steps"] ["_law_bag_here","_law_axes"] (aJ m3):=bj (by decide+kernel)
theorem A2(F:FA K mg "_law_item" m3)(B:aQ mg)(bO:ah P w K mg base "_law_take" 1 gN)(CI:ah P w K mg base "_law_name" 2 (qh K)):ah P w K mg base "_law_item" 3 (ql K):=by
 refine F.has qL (fun vs H Q E h=>?_) (fun _ _ _ _ _ _=>eC fun _ _=>rfl) (fun f aj A outer s H vs Q E hr h=>?_)
 · obtain⟨p,ax,rfl,_⟩:=h
   rfl
 · obtain⟨p,ax,rfl,bg,ES,ER,k⟩:=h
   have nd:=qL.nd;refine⟨_,(ag (pS 2 nd (pf bO hr (a0 (pv 0) (a0 a9 a6)))) (ag (bb (ba (cO K rfl hr.units) (pv 2) a9 (aP _)) (ao (az (eL (a0 aI (a0 (aB cg a9 (pf bO hr (a0 (pv 0) (a0 a9 a6)))) a6))))) bo) (ag (bb (ba (cO K rfl hr.units) (pv 2) a9 (aP _)) (ao (az (eL (a0 aI (a0 (px K (fX (a0 aI (a0 aI a6))) (pf bO hr (a0 (pv 0) (a0 a9 a6)))) a6))))) bo) (ag (bb (ba (cO K rfl hr.units) (pv 2) a9 (aP _)) (ao (az (eL (a0 aI (a0 (pf CI hr (a0 (pv 0) a6)) a6))))) bo) (ag (pS 3 nd (aB cg a9 (pf bO hr (a0 (pv 0) (a0 a9 a6))))) (ag (pS 4 nd (px K (fX (a0 a9 (a0 a9 (a0 a9 a6)))) (pf bO hr (a0 (pv 0) (a0 a9 a6))))) (ag (yU (i0:=5) nd rfl (Or.inl rfl) (N:=["_law_axis","_law_most","_law_bag_here"]) (js:=[none,some 4,some 0]) rfl rfl rfl (fS rfl (B.at "range") (a0 (pv 1) a6)) (fun _ _ _ _ _=>(aL 0 (show List.Nodup (["_law_axis","_law_most","_law_bag_here"]:List Str) by decide+kernel))) (fun _ _ _ _ _=>bT) (fun _ _ _ _ _=>(aB zu (pf bO hr (a0 (pv 2) (a0 (aB cg (aB dH a9 (pv 1)) a9) a6))) (pv 1)))) (ag (jX (bb (dh (cL (bV (x:="any") (DW K rfl rfl) rfl (B.at "any") PyProof.Rows.boot_any (a0 (pv 5) a6)))) (ao (eK a9 (mJ (pv 5) (pf bO hr (a0 (pv 0) (a0 (pv 1) a6))) set_list))) bo)) (ao (az (eL (a0 aI (a0 (dk (x:="tuple") (gK K rfl) rfl (B.at "tuple") eG (a0 (pv 5) a6)) (a0 (pv 3) a6)))))))))))))),?_⟩;refine⟨_,rfl,p,6,rfl,bg,by decide,by decide,fun so H1 s0 s1 b1=>?_⟩;refine⟨_,rfl,.inl ⟨_,_,rfl,rfl,_,rfl,?_⟩⟩;refine bN (fun hc=>?_) (fun hc=>?_)
   · refine⟨_,rfl,p,1000,rfl,b1.bag,by decide,by decide,fun n H2 n0 n1 b2=>?_⟩
     refine⟨_,_,rfl,rfl,cS rfl,fun t H3 n3=>?_⟩;exact k (.ref t) _ none H3 (cJ (af.of n3.at') (bD (aH _) (bD (dE _) cb))) (.mN (.inl ⟨_,rfl,by omega,by omega⟩)) (b1.trans (b2.trans (.bW b2.bag n3.same)))
   refine⟨_,rfl,.inl ⟨_,_,rfl,rfl,_,rfl,?_⟩⟩;refine bN (fun hc=>?_) (fun hc=>?_)
   · refine⟨cS rfl,fun c H2 n2=>?_⟩
     have b2:au p H1 H2:=.bW b1.bag n2.same;have cp:c≠p:=fun z=>b1.bag.ne (z▸n2.no);refine⟨_,rfl,p,2,rfl,b2.bag,by decide,by decide,fun i H3 i0 i1 b3=>?_⟩;have hi:∃z:Str,cz ([.str "up",.str "down"]:List V) i=some (.str z)/\aN 0 (.str z)/\mM "tool" z:=by
      rcases(show i=0\/i=1 by omega)with rfl|rfl
      ·exact⟨"up",rfl,⟨by decide+kernel,by decide+kernel⟩,.inl ⟨rfl,.inl rfl⟩⟩
      ·exact⟨"down",rfl,⟨by decide+kernel,by decide+kernel⟩,.inl ⟨rfl,.inr rfl⟩⟩
     obtain⟨z,ez,mP,zH⟩:=hi;refine .inl ⟨c,_,_,_,rfl,rfl,aa.of (b3.same _ _ cp n2.at'),ez,cS rfl,fun t H4 n4=>?_⟩;exact k (.ref t) _ none H4 (cJ (af.of n4.at') (bD (aH _) (bD (aH _) cb))) (.mN (.inr ⟨_,_,rfl,.inl rfl,mP,zH⟩)) (b1.trans (b2.trans (b3.trans (.bW b3.bag n4.same))))
   refine⟨_,rfl,.inl ⟨_,_,rfl,rfl,_,rfl,?_⟩⟩;refine bN (fun hc=>?_) (fun hc=>?_)
   · refine⟨_,rfl,p,rfl,b1.bag,fun z H2 mP nz b2=>⟨cS rfl,fun t H3 n3=>?_⟩⟩
     exact k (.ref t) _ none H3 (cJ (af.of n3.at') (bD (aH _) (bD (aH _) cb))) (.mN (.inr ⟨_,_,rfl,.inr rfl,mP,.inr ⟨rfl,nz⟩⟩)) (b1.trans (b2.trans (.bW b2.bag n3.same)))
   refine⟨_,rfl,p,20,rfl,b1.bag,by decide,by decide,fun sp H2 p0 p1 b2=>?_⟩;refine⟨_,_,rfl,rfl,?_⟩;refine⟨cS rfl,fun c H3 n3=>?_⟩;have b3:au p H2 H3:=.bW b2.bag n3.same;have cp:c≠p:=fun z=>b2.bag.ne (z▸n3.no);refine⟨_,rfl,p,3,rfl,b3.bag,by decide,by decide,fun i H4 i0 i1 b4=>?_⟩;have hm:∃m:Int,cz ([.int 3,.int 20,.int 100]:List V) i=some (.int m)/\1<=m/\m<=100:=by
    rcases(show i=0\/i=1\/i=2 by omega)with rfl|rfl|rfl
    ·exact⟨3,rfl,by decide,by decide⟩
    ·exact⟨20,rfl,by decide,by decide⟩
    ·exact⟨100,rfl,by decide,by decide⟩
   obtain⟨m,em,m1,m2⟩:=hm;refine .inl ⟨c,_,_,_,rfl,rfl,aa.of (b4.same _ _ cp n3.at'),em,?_⟩;have gB:=b1.trans (b2.trans (b3.trans b4));refine⟨_,rfl,_,rfl,by omega,by omega,fun D H5 nD=>?_⟩;refine om (J:=fb 0 ax) (p:=p) (H:=H4) ax _ nD gB.bag (by omega) (fun i=>.int (0+(i:Int))) (fun i H3 hi _=>⟨hi,fun y H4 ⟨e,q⟩=>⟨e,q⟩⟩) (fun H3 _=>ak _) (fun z=>(z.natAbs:Int)<=m) ?_ ?_
   · intro i H6 Q' hi b6 hq
     refine⟨_,rfl,_,rfl,_,_,rfl,rfl,.of_left (fh (by decide) (by decide)),_,_,rfl,rfl,p,2*m+1,rfl,b6.bag,by omega,by omega,fun d H7 d0 d1 b7=>?_⟩;exact⟨_,rfl,_,_,rfl,rfl,hq _ _ (by omega) b7⟩
   intro H6 is b6 d6 l6 uC;have oz:=gB.trans b6;have lp:D≠p:=fun z=>gB.bag.ne (z▸nD.no);have nl:H D=none:=by cases e:H D with |none=>rfl |some o=>have:=gB.same _ _ lp e;rw[nD.no]at this;cases this
   refine⟨fun σ H7=>au p H H7/\∃(is:List Int),H7 D=some (.lst (is.map V.int))/\uK ax 100 is/\σ=[some (.ref p),some (.int ax),some (.int so),some (.int (1+sp)),some (.int m),some (.ref D)],?_,?_⟩
   · refine⟨_,rfl,D,is,rfl,.inl (aa.of d6),_,rfl,?_⟩
     cases ha:is.any (· !=0)with |false=>
       refine aR ?_;refine⟨_,rfl,_,rfl,_,rfl,p,(ax:Int),rfl,oz.bag,by omega,by omega,fun ix H7 i0 i1 b7=>?_⟩;have d7:=b7.same _ _ lp d6;refine⟨D,_,ix,ix.toNat,rfl,rfl,d7,?_,?_⟩
       ·unfold ee;rw[aD i0,aD (by rw[aG,l6];exact i1)]
       refine⟨?_,is.set ix.toNat 1,?_,⟨?_,?_,?_⟩,rfl⟩
       · have uF:=oz.trans b7
         refine⟨?_,fun b o n e=>?_⟩
         · obtain⟨c',m',e,ok⟩:=uF.bag
           exact⟨c',m',by rw[aO lp.symm];exact e,ok⟩
         ·rw[aO (ck e nl)];exact uF.same b o n e
       ·rw[cH,List.map_set]
       ·rw[List.length_set];exact l6
       · intro z hz
         rcases List.mem_or_eq_of_mem_set hz with h|h
         ·have:=uC z h;omega
         ·rw[h];decide
       ·exact⟨1,List.mem_iff_getElem.mpr ⟨ix.toNat,by rw[List.length_set];omega,by rw[List.getElem_set_self]⟩,by decide⟩ |true=>refine aF ?_;refine⟨oz,is,d6,⟨l6,fun z hz=>by have:=uC z hz;omega,?_⟩,rfl⟩;obtain⟨z,hz,h0⟩:=List.any_eq_true.mp ha;exact⟨z,hz,by simpa using h0⟩
   rintro σ H7 ⟨b7,is,d7,ok,rfl⟩;refine⟨_,rfl,D,_,rfl,.inl ⟨aa.of d7,fun q H8 n8=>?_⟩⟩;refine⟨_,rfl,cS rfl,fun t H9 n9=>?_⟩;refine k (.ref t) (bX is (1+sp)) (some (is,1+sp)) H9 (cJ (af.of n9.at') (bD (aH _) (bD (cJ (af.of (n9.same _ _ n8.at')) (mx is)) (bD (dE _) cb)))) ⟨.inl ⟨is,_,rfl,rfl⟩,fun ns sp e=>by cases e;exact⟨ok,by omega,by omega⟩,fun z=>nomatch z⟩ (b7.trans (.bW b7.bag (n8.same.trans n9.same)))
end
end Lw
set_option maxHeartbeats 2000000
namespace Lw
open PySem PySem.Spec PyProof.Rows L2 Ln Wk
open Tm (numS numIn? figs isFig Free)
section
variable {P:F0}{w:World}{K:EY}{mg:Str->Option Value}{base:Heap}
theorem ki(sep a:Str)(as:List Str)(h:as≠[]):Txt.join sep (a::as)=a++sep++Txt.join sep as:=by show Builtin.Str.glued sep (a::as)=a++sep++Builtin.Str.glued sep as;rw[fH,fH];cases as with |nil=>exact(h rfl).elim |cons b r=>rfl
theorem join_snoc(sep b:Str):∀(as:List Str),as≠[]->Txt.join sep (as++[b])=Txt.join sep as++sep++b |[],h=>(h rfl).elim |[a],_=>rfl |a::c::r,_=>by have e:=join_snoc sep b (c::r) (by simp);rw[List.cons_append,ki sep a (c::r++[b]) (by simp),e,ki sep a (c::r) (by simp)];simp only[PySem.Str.append_assoc]
theorem nr(ns:List Int)(sp:Int)(h:ns≠[]):bc (bX ns sp)=Txt.join ⟨#[32]⟩ ("line"::(ns.map numS++[numS sp])):=by
 have hn:ns.map numS≠[]:=by simpa using h
 rw[km,<-fO,ki _ _ _ (by simp),join_snoc _ _ _ hn];have e:("line ":Str)="line"++" ":=by decide+kernel
 rw[e];unfold eN;simp only[PySem.Str.append_assoc]
theorem kB{c:Nat}{a b:Str}(ha:Free c a)(hb:Free c b):Free c (a++b):=fun h=>by rw[gH,fm,dU]at h;exact h.elim ha hb
theorem tP{c:Nat}{sep:Str}(hs:Free c sep):∀l:List Str,(∀a∈l,Free c a)->Free c (Txt.join sep l) |[],_=>fun h=>by have e:(Txt.join sep []).cps.toList=[]:=rfl;rw[e]at h;cases h |[x],h=>h x (.head _) |x::y::r,h=>by rw[ki _ _ _ (by simp)];exact kB (kB (h x (.head _)) hs) (tP hs (y::r) fun a ha=>h a (.tail _ ha))
theorem mV(i:Int):aY (numS i):=fun c hc=>by cases i with |ofNat m=>rw[show(numS (Int.ofNat m)).cps.toList=_ from Tm.f6 m]at hc;have:=Tm.eu m c hc;omega |negSucc m=>
   rw[Tm.ja]at hc;rcases aW.mp hc with e|hc
   ·omega
   · have:=Tm.eu (m+1) c hc
     omega
structure dQ(n:Nat)(d:F1):Prop where
 rt:dm n (bc d)=d
 len:(bc d).length<=400
 ok:f7 (bc d)
 fr:Free 10 (bc d)
 ti:TI d
 okd:aN 8 d
theorem cY{c:Nat}{z:Str}(h:(z.cps.toList.all fun x=>x !=c)=true):Free c z:=fun hc=>by have:=bK.mp h c hc;simp at this
theorem Az{c:Nat}{z:Str}(h:eP z=true)(hc:c<97):Free c z:=fun h'=>by unfold eP at h;rw[bL]at h;have:=bK.mp h.2 c h';unfold kg at this;simp at this;omega
theorem rL{c:Nat}{w s:Str}(h:mM w s)(hc:c=10\/c=32):Free c s:=by
 rcases h with⟨_,rfl|rfl⟩|⟨_,hn⟩
 ·rcases hc with rfl|rfl<;>exact cY (by decide+kernel)
 ·rcases hc with rfl|rfl<;>exact cY (by decide+kernel)
 ·exact Az hn (by omega)
theorem mZ{i:Int}(h:i.natAbs<10^40):nI (numS i)= .int i:=by unfold nI;have:(numS i).length<=41:=pE h;rw[Tm.Al (by omega)];rfl
theorem AA{ns:List Int}(h:∀z∈ns,z.natAbs<10^40):(ns.map numS).map nI=ns.map PyData.int:=by rw[pe];exact List.map_congr_left fun z hz=>mZ (h z hz)
theorem sM{n:Nat}{d:F1}{ws:List Str}(e:bc d=Txt.join ⟨#[32]⟩ ws)(hn:ws≠[])(hf:∀z∈ws,Free 32 z)(ht:bS ws=d)(hi:eg n d=true):dm n (bc d)=d:=by unfold dm;rw[e,fO,Tm.lG hn hf,ht,hi];rfl
theorem gF.tx{n:Nat}{d:F1}{o:Itm}(h:gF n d o)(n1:1<=n)(n3:n<=3):dQ n d:=by have hi:=h.is.1;have jQ:aY (" ":Str):=g9 (by decide+kernel);have tM:Free 10 (" ":Str):=cY (by decide+kernel);cases o with
 |some q=>
   obtain⟨ns,sp⟩:=q;have ed:=sN h.it;subst ed;obtain⟨fv,s1,s2⟩:=h.ln ns sp rfl;have hb:∀z∈ns,z.natAbs<10^40:=fun z hz=>by have:=fv.bd z hz;omega
   have hs:sp.natAbs<10^40:=by omega
   have bt:ns≠[]:=fun e=>by rw[e]at fv;have:=fv.len;simp at this;omega
   have ti:TI (bX ns sp):=.inl ⟨ns,sp,rfl,by rw[fv.len];exact n3,hb,hs⟩;refine⟨sM (nr ns sp bt) (by simp) (fun z hz=>?_) ?_ hi,nB ti,?_,?_,ti,h.is.2.1⟩
   · rcases aW.mp hz with rfl|hz
     ·exact cY (by decide+kernel)
     · rcases dU.mp hz with hz|hz
       · obtain⟨i,_,rfl⟩:=bz.mp hz
         exact Tm.hG (by decide) (by decide)
       ·rw[bR.mp hz];exact Tm.hG (by decide) (by decide)
   · obtain⟨x,xs,rfl⟩:∃x xs,ns=x::xs:=by cases ns with|nil=>exact(bt rfl).elim|cons x xs=>exact⟨x,xs,rfl⟩
     have e1:(x::xs).map numS++[numS sp]=numS x::(xs.map numS++[numS sp]):=rfl;have e2:(numS x::(xs.map numS++[numS sp])).map nI=(x::xs).map PyData.int++[.int sp]:=by rw[<-e1,fj,AA hb];show _++[nI (numS sp)]=_;rw[mZ hs]
     rw[e1,lE,e2,dy,aG,jw,List.take_left' (by simp),wB,List.getLast?_append,List.getLast?_singleton];rfl
   · rw[nr ns sp bt,<-fO]
     refine aY.join jQ fun a ha=>?_;rcases aW.mp ha with rfl|ha
     ·exact g9 (by decide+kernel)
     · rcases dU.mp ha with ha|ha
       · obtain⟨i,_,rfl⟩:=bz.mp ha
         exact mV i
       ·rw[bR.mp ha];exact mV sp
   · rw[nr ns sp bt,<-fO]
     refine tP tM _ fun a ha=>?_;rcases aW.mp ha with rfl|ha
     ·exact cY (by decide+kernel)
     · rcases dU.mp ha with ha|ha
       · obtain⟨i,_,rfl⟩:=bz.mp ha
         exact Tm.hG (by decide) (by decide)
       ·rw[bR.mp ha];exact Tm.hG (by decide) (by decide) |none=>
   have key:∀(w y:Str)(u:F1),d= .tuple [.str w,u]->bc d=w++" "++y->w≠"line"->(if w="wait" then nI y else .str y)=u->Free 32 w->Free 32 y->Free 10 w->Free 10 y->aY w->aY y->TI d->dQ n d:=fun w y u e1 e2 hw hu f1 f2 f3 f4 o1 o2 ti=>by
    have ej:bc d=Txt.join ⟨#[32]⟩ [w,y]:=by rw[e2,<-fO];rfl
    refine⟨sM ej (by simp) (fun z hz=>?_) ?_ hi,nB ti,?_,?_,ti,h.is.2.1⟩
    · simp only[aW,dw,fG]at hz
      rcases hz with rfl|rfl
      ·exact f1
      ·exact f2
    ·rw[jK hw,hu,e1]
    ·rw[e2];exact(o1.app jQ).app o2
    ·rw[e2];exact kB (kB f3 tM) f4
   rcases h.ot rfl with⟨z,rfl,z1,z2⟩|⟨w,s,rfl,hw,mR,on⟩
   · have hb:z.natAbs<10^40:=by omega
     exact key "wait" (numS z) (.int z) rfl rfl (by decide+kernel) (by rw[aD rfl,mZ hb]) (cY (by decide+kernel)) (Tm.hG (by decide) (by decide)) (cY (by decide+kernel)) (Tm.hG (by decide) (by decide)) (g9 (by decide+kernel)) (mV z) (.inr (.inl ⟨_,_,rfl,.inl rfl,hb⟩))
   · have hl:s.length<=100:=by
       rcases on with⟨_,rfl|rfl⟩|⟨_,hn⟩
       ·decide+kernel
       ·decide+kernel
       · unfold eP at hn
         simp only[bL,oW]at hn;omega
     have bt:w≠"line"/\w≠"wait"/\Free 32 w/\Free 10 w/\aY w:=by
      rcases hw with rfl|rfl
      ·exact⟨by decide+kernel,by decide+kernel,cY (by decide+kernel),cY (by decide+kernel),g9 (by decide+kernel)⟩
      ·exact⟨by decide+kernel,by decide+kernel,cY (by decide+kernel),cY (by decide+kernel),g9 (by decide+kernel)⟩
     exact key w s (.str s) rfl rfl bt.1 (by rw[aE bt.2.1]) bt.2.2.1 (rL on (.inr rfl)) bt.2.2.2.1 (rL on (.inl rfl)) bt.2.2.2.2 (rP mR) (.inr (.inr ⟨_,_,rfl,hw,hl⟩))
theorem dQ.no{n:Nat}{d:F1}(h:dQ n d):cj d=true:=by
 rcases h.ti with⟨ns,sp,rfl,_⟩|⟨w,i,rfl,_⟩|⟨w,z,rfl,_⟩
 ·exact AV _ _
 ·rfl
 ·rfl
theorem dQ.ne{n:Nat}{d:F1}(h:dQ n d):d≠ .none:=by rcases h.ti with⟨ns,sp,rfl,_⟩|⟨w,i,rfl,_⟩|⟨w,z,rfl,_⟩<;>exact fun z=>nomatch z
end
end Lw
namespace Lw
open PySem PySem.Spec PyProof.Rows L2 Ln Wk
open Tm (numS numIn? figs isFig Free)
section
variable {P:F0}{w:World}{K:EY}{mg:Str->Option Value}{base:Heap}
inductive vb(K:EY)(vs:List V)(H:Hp)(Q:VK):Prop |mk (x:_)(y:_)(d:_)(n:_)(h0:vs=[x,y])(h1:RD K H x d)(h2:RD K H y d)(h3:dQ n d)(h4:∀H',a8 H H'->Q (.bl true) H'):vb K vs H Q
def qe(K:EY):Sp:=fun vs H Q _=>vb K vs H Q
abbrev lT:Stmt:=top 41
theorem qD:aV ["_law_told","_law_due"] ["_law_told","_law_due"] (aJ lT):=bj (by decide+kernel)
theorem zQ(F:FA K mg "_law_is_right_item" lT)(B:aQ mg)(tE:ah P w K mg base "_law_is_whole" 1 (iH K)):ah P w K mg base "_law_is_right_item" 2 (qe K):=by
 refine F.has qD (fun vs H Q E h=>?_) (fun _ _ _ _ _ _=>eC fun _ _=>rfl) (fun f aj A outer s H vs Q E hr h=>?_)
 · obtain⟨x,y,d,n,rfl,_⟩:=h
   rfl
 · obtain⟨x,y,d,n,rfl,rx,ry,it,k⟩:=h
   have nd:=qD.nd;refine⟨_,(ag (bb (PW.pt (fR (dh (cL (cV K B (a0 (pv 0) (a0 (cU (x:="tuple") (v:=.ty "tuple") rfl (B.at "tuple") eG rfl) a6))))) (fR (ba (kc K rfl hr.units) (pv 0) (pv 1) (aP _)) (gQ (dh (cL (cV K B (a0 (px K (pv 0) a9) (a0 (cU (x:="str") (v:=.ty "str") rfl (B.at "str") fI rfl) a6))))))))) (ao (az eM)) bo) (ag (bb (ba (cO K rfl hr.units) (px K (pv 1) a9) aI (aP _)) (ao (az (fY (cV K B (a0 (px K (pv 0) a9) (a0 (cU (x:="tuple") (v:=.ty "tuple") rfl (B.at "tuple") eG rfl) a6))) (fW (bV (x:="all") (je K rfl rfl) rfl (B.at "all") l4 (a0 (cf (N:=["_law_one"]) (js:=[none]) rfl rfl rfl (fT K rfl (aB (ou K rfl) (px K (pv 0) a9) (rE (xZ K rfl) (pv 0) (rq a9) rA))) (fun _ _ _ _ _=>(aL 0 (e9 _))) (fun _ _ _ _ _=>bT) (fun _ _ _ _ _=>(pf tE hr (a0 (pv 0) a6)))) a6)))))) bo) (ao (az (zh (cV K B (a0 (px K (pv 0) a9) (a0 (cU (x:="str") (v:=.ty "str") rfl (B.at "str") fI rfl) a6))) (fW (pf tE hr (a0 (px K (pv 0) a9) a6)))))))),?_⟩;have sh:=gO it.okd;have ev:PyData.eqv d d=true:=eqv_refl _ it.okd.lay;rcases jI rx it.ti with⟨ns,sp,a,b,rfl,rfl,h1,r2,hl,hn,hs⟩|⟨w,u,a,yv,rfl,hw,rfl,h1,ru,hv⟩
   · refine⟨_,rfl,.inl ⟨_,_,"tuple",true,rfl,rx.ty,by decide,fq,_,rfl,aF ?_⟩⟩
     refine⟨_,rfl,_,rfl,.inr ⟨_,_,rx,ry,sh,sh,?_⟩⟩;rw[ev];refine⟨_,rfl,aF ?_⟩;refine⟨_,rfl,.inr ⟨a,_,0,.str "line",rfl,rfl,h1,rfl,?_⟩⟩;refine .inl ⟨_,_,"str",true,rfl,(aH (K:=K) (H:=H) "line").ty,by decide,iA,_,rfl,aF ?_⟩;obtain⟨ya,ys,rfl,hy,eh⟩:=id ry.aZ;obtain⟨y1,yr,rfl,e1,_⟩:=eh.cons_inv;cases e1.str_inv;refine⟨_,rfl,.inr ⟨ya,_,0,.str "line",rfl,rfl,hy,cy (dA 0) rfl,?_⟩⟩;refine .inr ⟨_,_,aH _,aH _,eQ,eQ,?_⟩;rw[gw,bH rfl];refine⟨_,rfl,aR ?_⟩;refine⟨_,rfl,.inr ⟨a,_,1,.ref b,rfl,rfl,h1,rfl,?_⟩⟩;refine .inl ⟨_,_,"tuple",true,rfl,r2.ty,by decide,fq,_,rfl,aR ?_⟩;obtain⟨b',bs,e',hb,Cj⟩:=id r2.aZ;cases e';rw[Cj.gf]at hb;refine⟨_,rfl,.inr ⟨a,_,1,.ref b,rfl,rfl,h1,rfl,?_⟩⟩;refine⟨_,rfl,2,rfl,a,_,rfl,h1,fun c H1 s1 h2=>?_⟩;have h2:af K H1 c [.int sp]:=h2;refine⟨b,c,_,_,rfl,rfl,hb.go s1,h2,?_,fun c2 H2 s2 h3=>?_⟩
     · have j9:sizeLine=16777216:=by decide
       rw[aG,jw];omega
     refine⟨c2,rfl,⟨_,h3⟩,fun D H3 n3=>?_⟩;refine oj (K:=K) (bs:=List.replicate (ns.length+1) true) [] h3 n3 (by simp) (by simp;omega) (fun i x b' H4 Q' ex eb s4 hq=>?_) (fun H4 s4 d4=>?_)
     · have og:b'=true:=by
         rw[wD]at eb;split at eb
         ·exact(bP eb).symm
         ·cases eb
       subst og;obtain⟨z,rfl⟩:∃z,x= .int z:=by
        have hm:=cF ex;rcases dU.mp hm with hm|hm
        ·obtain⟨z,_,rfl⟩:=bz.mp hm;exact⟨z,rfl⟩
        ·exact⟨sp,bR.mp hm⟩
       exact⟨_,rfl,_,_,rfl,(dE (K:=K) (H:=H4) z).ty,hq _ (a8.refl _)⟩
     · refine⟨D,_,rfl,aa.of d4,?_⟩
       rw[show(List.replicate (ns.length+1) true).all id=true by simp];exact k _ ((s1.trans s2).trans s4)
   · refine⟨_,rfl,.inl ⟨_,_,"tuple",true,rfl,rx.ty,by decide,fq,_,rfl,aF ?_⟩⟩
     refine⟨_,rfl,_,rfl,.inr ⟨_,_,rx,ry,sh,sh,?_⟩⟩;rw[ev];refine⟨_,rfl,aF ?_⟩;refine⟨_,rfl,.inr ⟨a,_,0,.str w,rfl,rfl,h1,rfl,?_⟩⟩;refine .inl ⟨_,_,"str",true,rfl,(aH (K:=K) (H:=H) w).ty,by decide,iA,_,rfl,aF ?_⟩;obtain⟨ya,ys,rfl,hy,eh⟩:=id ry.aZ;obtain⟨y1,yr,rfl,e1,_⟩:=eh.cons_inv;cases e1.str_inv;refine⟨_,rfl,.inr ⟨ya,_,0,.str w,rfl,rfl,hy,cy (dA 0) rfl,?_⟩⟩;refine .inr ⟨_,_,aH _,aH _,jC hw,eQ,?_⟩;rw[gw,(lB hw).1];refine⟨_,rfl,aF ?_⟩;refine⟨_,rfl,.inr ⟨a,_,1,yv,rfl,rfl,h1,rfl,?_⟩⟩;rcases hv with⟨i,rfl,rfl,_⟩|⟨z,rfl,rfl,_⟩
     · refine .inl ⟨_,_,"str",false,rfl,(dE (K:=K) (H:=H) i).ty,by decide,(by show c9 "int" "str"=false;decide),_,rfl,aF ?_⟩
       refine⟨_,rfl,.inr ⟨a,_,1,.int i,rfl,rfl,h1,rfl,?_⟩⟩;exact⟨_,_,rfl,(dE (K:=K) (H:=H) i).ty,k _ (a8.refl _)⟩
     ·exact .inl ⟨_,_,"str",true,rfl,(aH (K:=K) (H:=H) z).ty,by decide,iA,_,rfl,aR (k _ (a8.refl _))⟩
inductive v9(K:EY)(vs:List V)(H:Hp)(Q:VK):Prop |mk (x:_)(y:_)(ds:_)(n:_)(h0:vs=[x,y])(h1:RD K H x (.tuple ds))(h2:RD K H y (.tuple ds))(h3:(∀d∈ds,dQ n d))(h4:ds.length<=30)(h5:∀H',a8 H H'->Q (.bl true) H'):v9 K vs H Q
def qc(K:EY):Sp:=fun vs H Q _=>v9 K vs H Q
abbrev lR:Stmt:=top 42
theorem qB:aV ["_law_told","_law_due"] ["_law_told","_law_due"] (aJ lR):=bj (by decide+kernel)
theorem zR(F:FA K mg "_law_right" lR)(B:aQ mg)(CM:ah P w K mg base "_law_is_right_item" 2 (qe K)):ah P w K mg base "_law_right" 3 (qc K):=by
 refine F.has qB (fun vs H Q E h=>?_) (fun _ _ _ _ _ _=>eC fun _ _=>rfl) (fun f aj A outer s H vs Q E hr h=>?_)
 · obtain⟨x,y,ds,n,rfl,_⟩:=h
   rfl
 · obtain⟨x,y,ds,n,rfl,rx,ry,it,Ez,k⟩:=h
   have nd:=qB.nd;refine⟨_,(ag (bb (PW.pt (fR (dh (cL (cV K B (a0 (pv 0) (a0 (cU (x:="tuple") (v:=.ty "tuple") rfl (B.at "tuple") eG rfl) a6))))) (gQ (ba (kc K rfl hr.units) (dG K B (a0 (pv 0) a6)) (dG K B (a0 (pv 1) a6)) (aP _))))) (ao (az eM)) bo) (ao (az (bV (x:="all") (je K rfl rfl) rfl (B.at "all") l4 (a0 (cf (N:=["_law_one","_law_other"]) (js:=[none,none]) rfl rfl rfl (yZ K rfl false false rfl (B.at "zip") (a0 (pv 0) (a0 (pv 1) a6))) (fun _ _ _ _ _=>(fV K rfl (n:=2) rfl (bU (aL 0 (ke (by decide))) (bU (aL 1 (ke (by decide))) fU)))) (fun _ _ _ _ _=>bT) (fun _ _ _ _ _=>(pf CM hr (a0 (pv 0) (a0 (pv 1) a6))))) a6))))),?_⟩;obtain⟨a,xs,rfl,hx,sV⟩:=id rx.aZ;obtain⟨b,ys,rfl,hy,eh⟩:=id ry.aZ;have lx:=sV.length;have ly:=eh.length;refine⟨_,rfl,.inl ⟨_,_,"tuple",true,rfl,rx.ty,by decide,fq,_,rfl,aF ?_⟩⟩;refine⟨_,rfl,a,_,rfl,.inr hx,_,rfl,b,_,rfl,.inr hy,.inl ⟨_,_,rfl,rfl,_,rfl,?_⟩⟩;rw[lx,ly,bH rfl];refine aF ?_;refine⟨_,rfl,_,rfl,a,b,rfl,⟨_,hx⟩,⟨_,hy⟩,fun D H1 n1=>?_⟩;refine Dx (K:=K) (b1:=false) (b2:=false) (xs:=xs) (ys:=ys) (bs:=List.replicate ds.length true) _ rfl hx hy n1 (by rw[wA];omega) (by rw[wA];omega) (fun i x y b' H2 Q' ex ey eb s2 hq=>?_) (fun H2 s2 d2=>?_)
   · have og:b'=true:=by
       rw[wD]at eb;split at eb
       ·exact(bP eb).symm
       ·cases eb
     subst og;obtain⟨d,ed,rd⟩:=sV.get' i ex;obtain⟨d',fA,yw⟩:=eh.get' i ey;rw[ed]at fA;cases fA;exact⟨_,rfl,_,rfl,x,y,d,n,rfl,RD.mono s2 _ rd,RD.mono s2 _ yw,it d (cF ed),fun H3 s3=>hq _ s3⟩
   · refine⟨D,_,rfl,aa.of d2,?_⟩
     rw[show(List.replicate ds.length true).all id=true by simp];exact k _ s2
end
end Lw
namespace Lw
open PySem PySem.Spec PyProof.Rows L2 Ln Wk
open Tm (numS numIn? figs isFig Free)
section
variable {P:F0}{w:World}{K:EY}{mg:Str->Option Value}{base:Heap}
theorem xn{n:Nat}{ds:List F1}(it:∀d∈ds,dQ n d)(B2:ds.length<=20):(Txt.join "\n" (ds.map bc)).length<=20000/\((Txt.join "\n" (ds.map bc)=""/\ds=[])\/(Txt.join "\n" (ds.map bc)≠""/\(Txt.split (Txt.join "\n" (ds.map bc)) "\n").map (dm n)=ds/\(∀y∈Txt.split (Txt.join "\n" (ds.map bc)) "\n",y.length<=600/\f7 y))):=by
 have e1:Str.length "\n"=1:=by decide+kernel
 refine⟨?_,?_⟩
 · have:=sI "\n" (B:=400) (ds.map bc) (fun z hz=>by obtain⟨d,hd,rfl⟩:=bz.mp hz;exact(it d hd).len);rw[aG,e1]at this;have h2:ds.length*(400+1)<=20*401:=Nat.mul_le_mul B2 (ak _);omega
 ·cases ds with |nil=>exact .inl ⟨rfl,rfl⟩ |cons d r=>
     have hs:Txt.split (Txt.join "\n" ((d::r).map bc)) "\n"=(d::r).map bc:=by rw[rY];refine Tm.lG (by simp) fun z hz=>?_;obtain⟨x,hx,rfl⟩:=bz.mp hz;exact(it x hx).fr
     refine .inr ⟨fun e=>?_,?_,fun y hy=>?_⟩
     · rw[e]at hs
       have e0:Txt.split "" "\n"=[("":Str)]:=by rw[rY];exact Tm.pW (cY (by decide+kernel))
       rw[e0,ip]at hs;injection hs with h1 h2;have hd:=it d (.head _);have:=hd.rt;rw[<-h1]at this;have e2:dm n ""= .none:=by
        unfold dm;have e3:Txt.split "" " "=[("":Str)]:=by rw[fO];exact Tm.pW (cY (by decide+kernel))
        rw[e3,jJ (by decide+kernel) (by simp)];rfl
       rw[e2]at this;exact hd.ne this.symm
     · rw[hs,pe]
       exact(List.map_congr_left fun x hx=>(it x hx).rt).trans (List.map_id _)
     · rw[hs]at hy
       obtain⟨x,hx,rfl⟩:=bz.mp hy;have:=(it x hx).len;exact⟨by omega,(it x hx).ok⟩
def qj(K:EY):Sp:=fun vs H Q _=>∃(a:Addr)(ns:List Int),vs=[.ref a]/\aa K H a (ns.map V.int)/\ns.length<=63/\∀H',Q (.bl true) H'
abbrev iI:Stmt:=top 43
theorem qI:aV ["_law_script","_law_at","_law_bag_here","_law_machine_here","_law_items","_law_text","_law_told"] ["_law_script"] (aJ iI):=bj (by decide+kernel)
theorem zZ{f:Addr}{fd:FuncData}(F:fc K "law" "law" iI f fd)(B:aQ mg)(CN:ah P w K mg base "_law_bag" 1 (qp K))(bO:ah P w K mg base "_law_take" 1 gN)(CJ:ah P w K mg base "_law_machine" 2 (qi K))(CL:ah P w K mg base "_law_item" 3 (ql K))(CK:ah P w K mg base "_law_item_text" 1 (jP K))(nJ:ah P w K mg base "read_items" 6 (qd K))(BC:ah P w K mg base "show_items" 4 (qk K))(CH:ah P w K mg base "_law_right" 3 (qc K)):eE P w K mg base fe 7 f fd ["_law_script"] (qj K):=by
 refine F.ok qI (fun vs H Q E h=>?_) (fun aj A outer s H vs Q E hr h=>?_)
 · obtain⟨a,ns,rfl,_⟩:=h
   rfl
 · obtain⟨a,ns,rfl,hS,hlen,k⟩:=h
   have nd:=qI.nd;refine⟨_,(ag (iL ik rfl (fS rfl (B.at "range") (a0 (bV (x:="max") (DC rfl) rfl (B.at "max") PyProof.Rows.boot_max (a0 a9 (a0 (bV (x:="min") (ur rfl) rfl (B.at "min") PyProof.Rows.boot_min (a0 a9 (a0 (dG K B (a0 (pv 0) a6)) a6))) a6))) a6)) (aL 1 nd) (ag (pS 2 nd (pf CN hr (a0 (pv 0) (a0 (pv 1) a6)))) (ag (pS 3 nd (pf CJ hr (a0 (pv 2) a6))) (ag (pS 4 nd (dk (x:="tuple") (gK K rfl) rfl (B.at "tuple") eG (a0 (cf (N:=["_law_k","_law_bag_here","_law_machine_here"]) (js:=[none,some 2,some 3]) rfl rfl rfl (fS rfl (B.at "range") (a0 (pf bO hr (a0 (pv 2) (a0 a9 a6))) a6)) (fun _ _ _ _ _=>(aL 0 (show List.Nodup (["_law_k","_law_bag_here","_law_machine_here"]:List Str) by decide+kernel))) (fun _ _ _ _ _=>bT) (fun _ _ _ _ _=>(pf CL hr (a0 (pv 1) (a0 (dG K B (a0 (px K (pv 2) a9) a6)) a6))))) a6))) (ag (pS 5 nd (iM K rfl aI (a0 (cf (N:=["_law_item_here"]) (js:=[none]) rfl rfl rfl (fT K rfl (pv 4)) (fun _ _ _ _ _=>(aL 0 (e9 _))) (fun _ _ _ _ _=>bT) (fun _ _ _ _ _=>(pf CK hr (a0 (pv 0) a6)))) a6))) (ao (iL ik rfl (rD K rfl (fX (a0 (pf nJ hr (a0 (pv 3) (a0 (pv 5) a6))) (a0 (pf nJ hr (a0 (pv 3) (a0 (pf BC hr (a0 (pv 4) a6)) a6))) (a0 (pf nJ hr (a0 (pv 3) (a0 (pv 5) a6))) a6))))) (aL 6 nd) (ao (bb (dh (cL (pf CH hr (a0 (pv 6) (a0 (pv 4) a6))))) (ao (az eM)) bo))))))))) (ao (az eM))),?_⟩;refine⟨_,rfl,a,_,rfl,.inl hS,_,_,rfl,_,_,rfl,_,rfl,?_,?_,?_⟩
   ·split<;>(try split)<;>omega
   ·split<;>(try split)<;>(try rw[aG])<;>omega
   have hN:(if(if((ns.map V.int).length:Int)<8 then((ns.map V.int).length:Int)else 8)>1 then(if((ns.map V.int).length:Int)<8 then((ns.map V.int).length:Int)else 8)else 1).toNat<=12:=by split<;>(try split)<;>omega
   refine tR (Pv:=fun i σ H2=>a8 H H2/\∃v1 v2 v3 v4 v5 v6,σ=[some (.ref a),v1,v2,v3,v4,v5,v6]) ?_ ?_ ?_
   ·exact⟨a8.refl _,none,none,none,none,none,none,rfl⟩
   · rintro i σ H2 hi ⟨s2,v1,v2,v3,v4,v5,v6,rfl⟩
     have EL:i<12:=c8 hi hN;refine⟨_,rfl,_,rfl,a,ns,_,rfl,s2.seq hS,hlen,by omega,by omega,fun p H3 np DP s3=>?_⟩;refine⟨_,rfl,p,rfl,DP,fun mv rs r fl j t0 H4 rm zI b4=>?_⟩;have lr:=zI.len;refine⟨_,rfl,p,21,rfl,b4.bag,by decide,by decide,fun n H5 n0 n1 b5=>?_⟩;refine⟨_,rfl,by omega,by omega,fun D H6 nD=>?_⟩;have DQ:=b4.trans b5;obtain⟨ma,mb,rfl,BS,BQ⟩:=AM rm;have BR:=af.t (au.t b4.bag b5) BS;have BP:=af.t (au.t b4.bag b5) BQ;have yu:=RD.t (au.t b4.bag b5) _ (su _ _ _ _ _) rm;refine ue (K:=K) (J:=fb 0 n.toNat) (p:=p) (H:=H5) n.toNat _ nD b5.bag (by omega) (fun i=>.int (0+(i:Int))) (fun i H3 hi _=>⟨hi,fun y H4 ⟨e,q⟩=>⟨e,q⟩⟩) (fun H3 _=>ak _) (fun _ d=>dQ rs.length d) ?_ ?_
     · intro i H7 Q' hi b7 hq
       have t7:=au.t b5.bag b7;refine⟨_,rfl,_,rfl,.inr ⟨ma,_,0,.ref mb,rfl,rfl,af.t t7 BR,rfl,?_⟩⟩;refine⟨mb,_,rfl,.inr (af.t t7 BP),?_⟩;rw[aG];exact⟨p,rs.length,rfl,b7.bag,by omega,by omega,fun v d o H8 rv it b8=>hq _ _ _ (it.tx (by omega) (by omega)) (it.tx (by omega) (by omega)).no rv b8⟩
     intro H7 ys ds b7 d7 r7 l7 nl pd;have gC:∀d∈ds,dQ rs.length d:=fun d hd=>by obtain⟨j,hj⟩:=List.mem_iff_getElem?.mp hd;exact pd j d hj
     have ld:ds.length<=20:=by have:=r7.length;omega
     have uE:=DQ.trans b7;refine⟨D,_,rfl,.inl ⟨aa.of d7,fun t H8 n8=>?_⟩⟩;have b8:au p H7 H8:=.bW uE.bag n8.same;have r0:RD K H8 (.ref t) (.tuple ds):=cJ (af.of n8.at') (ae.mono n8.same _ r7);have yt:=RD.t (au.t b5.bag (b7.trans b8)) _ (su _ _ _ _ _) yu;have s8:a8 H2 H8:=(uE.trans b8).yc s3 np;obtain⟨t',xs,e',h1,h2⟩:=id r0.aZ;cases e';have lx:=h2.length;refine⟨rfl,?_⟩;refine⟨_,rfl,t,rfl,⟨_,h1⟩,fun D2 fE AD=>?_⟩;refine kJ (K:=K) (ds:=(ds.map bc).map PyData.str) _ h1 AD (by simp;exact lx) (by omega) (kb _) ?_ ?_
     · intro i x d oS Q' ex fA iJ hq
       obtain⟨d',tW,rx⟩:=h2.get' i ex;rw[bC,bC,tW]at fA;cases fA;exact⟨_,rfl,x,d',rfl,RD.mono iJ _ rx,(gC d' (cF tW)).ti,fun kT jU=>hq _ _ jU (aH _)⟩
     intro oS zs iJ ub yN;rw[gM yN]at ub;refine⟨"\n",D2,ds.map bc,rfl,rfl,aa.of ub,fun z hz=>?_,by decide+kernel,by rw[aG];omega,?_⟩
     · obtain⟨d,hd,rfl⟩:=bz.mp hz
       have:=(gC d hd).len;omega
     obtain⟨lz,cs⟩:=xn gC ld;have gn:∀d∈ds,d≠ .none/\cj d=true:=fun d hd=>⟨(gC d hd).ne,(gC d hd).no⟩;have mX:bA [PyData.int r,.int fl,.int j,.int t0]=true:=rfl;have mw:=RD.mono iJ _ yt;have r6:=RD.mono iJ _ r0;have l3:rs.length<=3:=by omega
     refine⟨_,rfl,_,rfl,.ref ma,rs,[PyData.int r,.int fl,.int j,.int t0],_,ds,rfl,mw,mX,l3,lz,ld,cs,gn,fun w1 kT jU yM=>?_⟩;refine⟨_,rfl,_,rfl,.ref t,ds,rfl,RD.mono jU _ r6,fun d hd=>(gC d hd).ti,nl,by omega,fun kS jT=>?_⟩;have qZ:=jU.trans jT;refine⟨.ref ma,rs,[PyData.int r,.int fl,.int j,.int t0],_,ds,rfl,RD.mono qZ _ mw,mX,l3,lz,ld,cs,gn,fun w2 EX qW yL=>?_⟩;have qY:=qZ.trans qW;refine⟨_,rfl,_,rfl,.ref ma,rs,[PyData.int r,.int fl,.int j,.int t0],_,ds,rfl,RD.mono qY _ mw,mX,l3,lz,ld,cs,gn,fun w3 EW mh yK=>?_⟩;refine⟨cS rfl,fun q Eg hR=>?_⟩;have qX:=(qY.trans mh).trans hR.same;have yh:=((jT.trans qW).trans mh).trans hR.same;have yg:=mh.trans hR.same;refine⟨q,rfl,⟨_,aa.of hR.at'⟩,D5 (K:=K) (a:=q) (xs:=[w1,w2,w3]) (fun c σ jj=>a8 Eg jj/\∃w6,σ=[some (.ref a),some (.int (0+(i:Int))),some (.ref p),some (.ref ma),some (.ref t),some (.str (Txt.join "\n" (ds.map bc))),w6]) ⟨a8.refl _,_,rfl⟩ ?_ ?_ ?_⟩
     · rintro c σ jj _ ⟨eJ,_⟩
       exact aa.of (eJ _ _ hR.at')
     · rintro c x σ jj hx ⟨eJ,w6,rfl⟩
       have rx:RD K jj x (.tuple ds):=by match c,hx with |0,hx=>cases hx;exact RD.mono (yh.trans eJ) _ yM |1,hx=>cases hx;exact RD.mono (yg.trans eJ) _ yL |2,hx=>cases hx;exact RD.mono (hR.same.trans eJ) _ yK
       refine⟨_,rfl,_,rfl,x,.ref t,ds,rs.length,rfl,rx,RD.mono (qX.trans eJ) _ r6,gC,by omega,fun EV yf=>?_⟩;exact⟨_,rfl,aF ⟨eJ.trans yf,_,rfl⟩⟩
     · rintro σ jj ⟨eJ,w6,rfl⟩
       exact⟨s2.trans (s8.trans (iJ.trans (qX.trans eJ))),_,_,_,_,_,_,rfl⟩
   · rintro σ H2 ⟨s2,v1,v2,v3,v4,v5,v6,rfl⟩
     exact k _
end
end Lw
namespace Lw
open PySem PySem.Spec PyProof.Rows L2
structure All(K:EY)(mg:Str->Option Value):Prop where
 B:aQ mg
 g_SIDES:GT K mg "SIDES" [.str "up",.str "down"]
 g_FIGURES:GV mg "FIGURES" (.str i4)
 g_MOST_STEPS:GV mg "MOST_STEPS" (.int 100)
 g_GREATEST_SPEED:GV mg "GREATEST_SPEED" (.int 20)
 g_LONGEST_WAIT:GV mg "LONGEST_WAIT" (.int 1000)
 g_LONGEST_NAME:GV mg "LONGEST_NAME" (.int 8)
 g_LETTERS:GV mg "LETTERS" (.str c6)
 g_MOST_ITEMS:GV mg "MOST_ITEMS" (.int 20)
 f_is_whole:FA K mg "is_whole" m6
 f_is_whole_within:FA K mg "is_whole_within" lK
 f_is_item:FA K mg "is_item" m9
 f_is_line:FA K mg "is_line" m5
 f_are_steps:FA K mg "are_steps" me
 f_is_short_item:FA K mg "is_short_item" m7
 f_is_name:FA K mg "is_name" m8
 g_PART:GV mg "PART" (.int 10000000000000000000000000000000000000000000000000000000000000000)
 g_PART_FIGURES:GV mg "PART_FIGURES" (.int 64)
 f_show_number:FA K mg "show_number" lO
 f_show_numbers:FA K mg "show_numbers" lN
 f_show_item:FA K mg "show_item" lP
 f_show_items:FA K mg "show_items" lQ
 f_read_items:FA K mg "read_items" lS
 f_item_in:FA K mg "item_in" m4
 f_numbers_in:FA K mg "numbers_in" lU
 f_size_of:FA K mg "size_of" lM
 f_number_in:FA K mg "number_in" lW
 f__law_bag:FA K mg "_law_bag" md
 f__law_take:FA K mg "_law_take" lL
 f__law_is_whole:FA K mg "_law_is_whole" lY
 f__law_machine:FA K mg "_law_machine" lX
 f__law_name:FA K mg "_law_name" lV
 f__law_item:FA K mg "_law_item" m3
 f__law_item_text:FA K mg "_law_item_text" lZ
 f__law_is_right_item:FA K mg "_law_is_right_item" lT
 f__law_right:FA K mg "_law_right" lR
 law:FA K mg "law" iI
theorem DX{P:F0}{w:World}{K:EY}{mg:Str->Option Value}{base:Heap}{f:Addr}{fd:FuncData}(A:All K mg)(F:fc K "law" "law" iI f fd):eE P w K mg base fe 7 f fd ["_law_script"] (qj K):=by have tk:ah P w K mg base "_law_take" 1 gN:=zL A.f__law_take A.B;have iw:ah P w K mg base "is_whole" 1 (iH K):=A0 A.f_is_whole A.B;have ww:ah P w K mg base "is_whole_within" 2 (iG K):=zK A.f_is_whole_within A.B iw;have EC:ah P w K mg base "is_line" 1 (qo K):=A3 A.f_is_line A.B;have Bb:ah P w K mg base "is_item" 4 (lJ K):=A7 A.f_is_item A.B A.g_GREATEST_SPEED ww (A9 A.f_are_steps A.B A.g_MOST_STEPS ww) (A5 A.f_is_short_item A.B A.g_LONGEST_WAIT A.g_SIDES ww (A6 A.f_is_name A.B A.g_LONGEST_NAME A.g_LETTERS));have rZ:ah P w K mg base "number_in" 2 jO:=zU A.f_number_in A.B A.g_FIGURES (zM A.f_size_of A.B);have Bc:ah P w K mg base "item_in" 5 (lI K):=A1 A.f_item_in A.B rZ (zT A.f_numbers_in A.B rZ) Bb;exact zZ F A.B (A8 A.f__law_bag A.B) tk (zW A.f__law_machine A.B tk) (A2 A.f__law_item A.B tk (zV A.f__law_name A.B tk)) (zY A.f__law_item_text A.B) (zS A.f_read_items A.B A.g_MOST_ITEMS Bc) (zP A.f_show_items A.B (zO A.f_show_item A.B (A4 A.f_is_line A.B) (zN A.f_show_numbers A.B (rQ A.f_show_number A.B A.g_PART A.g_PART_FIGURES)) (rQ A.f_show_number A.B A.g_PART A.g_PART_FIGURES))) (zR A.f__law_right A.B (zQ A.f__law_is_right_item A.B (zX A.f__law_is_whole A.B)))
end Lw
def PySem.W.Fast.tw15827075415330270013:PySem.Program:=PySem.Challenge.pw_glidequeue_k53_items_read
theorem PySem.W.Fast.te15827075415330270013:PySem.Challenge.pw_glidequeue_k53_items_read=PySem.W.Fast.tw15827075415330270013:=rfl
def PySem.W.Fast.tw3677820303758372922:Nat:=0
def PySem.W.Fast.tw232671828842233375:Nat:=0
def PySem.W.Fast.tw12511120090414693346:Nat:=0
def PySem.W.Fast.tw1871461218621228008:Nat:=0
def PySem.W.Fast.tw18085264650055304973:Nat:=0
def PySem.W.Fast.tw16144989562518456519:Nat:=0
def PySem.W.Fast.tw10288202683478753685:Nat:=0
def PySem.W.Fast.tw3477107618937084172:Nat:=0
def PySem.W.Fast.tw1928156352247224740:Nat:=0
def PySem.W.Fast.tw16202566002049652230:Nat:=0
def PySem.W.Fast.tw11012991579133846732:Nat:=0
def PySem.W.Fast.tw4717502466484768227:Nat:=0
def PySem.W.Fast.tw14738514251769396078:Nat:=0
def PySem.W.Fast.tw7673455064951395456:Nat:=0
def PySem.W.Fast.tw1557820962731696842:Nat:=0
def PySem.W.Fast.tw8575466707050134283:Nat:=0
def PySem.W.Fast.tw17766382873773782649:Nat:=0
def PySem.W.Fast.tw4642450607112973136:Nat:=0
def PySem.W.Fast.tw9742833186350873431:Nat:=0
def PySem.W.Fast.tw8229552483672797849:Nat:=0
def PySem.W.Fast.tw15783293161180022013:Nat:=0
def PySem.W.Fast.tw17932411444776101245:Nat:=0
def PySem.W.Fast.tw10034206649095872601:Nat:=0
def PySem.W.Fast.tw6298774574981238664:Nat:=0
def PySem.W.Fast.tw11171921806424833485:Nat:=0
def PySem.W.Fast.tw13546955381110418438:Nat:=0
def PySem.W.Fast.tw14651809008322426479:Nat:=0
def PySem.W.Fast.tw4356040227080222579:Nat:=0
def PySem.W.Fast.tw15203074824591981062:Nat:=0
def PySem.W.Fast.tw6054474821047984663:Nat:=0
def PySem.W.Fast.tw4346988237821898985:Nat:=0
def PySem.W.Fast.tw5711666127980689356:Nat:=0
def PySem.W.Fast.tw9495014552861679122:Nat:=0
def PySem.W.Fast.tw11415993166704046799:Nat:=0
def PySem.W.Fast.tw13069392300347580114:Nat:=0
def PySem.W.Fast.tw10432176087140163350:Nat:=0
def PySem.W.Fast.tw4471284161467697781:Nat:=0
def PySem.W.Fast.tw4648615687707045167:Nat:=0
def PySem.W.Fast.tw5622429215359993284:Nat:=0
def PySem.W.Fast.tw3454602618933736204:Nat:=0
def PySem.W.Fast.tw18420836686647749453:Nat:=0
def PySem.W.Fast.tw13538903554931888042:Nat:=0
def PySem.W.Fast.tw2667852728535750680:Nat:=0
def PySem.W.Fast.tw4156417614588745440:Nat:=0
def PySem.W.Fast.tw15682342211219568557:Nat:=0
def PySem.W.Fast.tw11042102989901203715:Nat:=0
def PySem.W.Fast.tw2664608759403080057:Nat:=0
def PySem.W.Fast.tw3393926658387694185:Nat:=0
def PySem.W.Fast.tw8076779540198218506:Nat:=0
def PySem.W.Fast.tw10425537864619678155:Nat:=0
def PySem.W.Fast.tw11226670654495114174:Nat:=0
def PySem.W.Fast.tw11722894863464396853:Nat:=0
def PySem.W.Fast.tw1936841377027986255:Nat:=0
def PySem.W.Fast.tw4646945560577631716:Nat:=0
def PySem.W.Fast.tw16920509249972117210:Nat:=0
def PySem.W.Fast.tw1911666346810074737:Nat:=0
def PySem.W.Fast.tw8700497632705633957:Nat:=0
def PySem.W.Fast.tw10573027312003318090:Nat:=0
def PySem.W.Fast.tw14906355371791787332:Nat:=0
def PySem.W.Fast.tw18327616757833282916:Nat:=0
def PySem.W.Fast.tw16481319486147758227:Nat:=0
def PySem.W.Fast.tw16512721099099943894:Nat:=0
def PySem.W.Fast.tw4354615338181312999:Nat:=0
def PySem.W.Fast.tw14763827632933787365:Nat:=0
def PySem.W.Fast.tw16066760570024258750:Nat:=0
def PySem.W.Fast.tw15854093058682080950:Nat:=0
def PySem.W.Fast.tw18224445156852396662:Nat:=0
def PySem.W.Fast.tw8769026030148780668:Nat:=0
def PySem.W.Fast.tw18175954959026317751:Nat:=0
def PySem.W.Fast.tw8303653210639552270:Nat:=0
def PySem.W.Fast.tw14327686890397251225:Nat:=0
def PySem.W.Fast.tw892012261474873309:Nat:=0
def PySem.W.Fast.tw11915556957318307770:Nat:=0
def PySem.W.Fast.tw4778758585694670975:Nat:=0
def PySem.W.Fast.tw12234355448605504185:Nat:=0
def PySem.W.Fast.tw13934410041867779060:Nat:=0
def PySem.W.Fast.tw11809353037270199337:Nat:=0
def PySem.W.Fast.tw6877174352025834337:Nat:=0
def PySem.W.Fast.tw13253184154245820419:Nat:=0
def PySem.W.Fast.tw9009644986029558530:Nat:=0
def PySem.W.Fast.tw2454709950650219998:Nat:=0
def PySem.W.Fast.tw17198479323303201377:Nat:=0
def PySem.W.Fast.tw10185898192969328931:Nat:=0
def PySem.W.Fast.tw12661431362056429103:Nat:=0
def PySem.W.Fast.tw12275573587177668713:Nat:=0
def PySem.W.Fast.tw5826305244335838182:Nat:=0
def PySem.W.Fast.tw3070545169176325331:Nat:=0
def PySem.W.Fast.tw2622175055286433560:Nat:=0
def PySem.W.Fast.tw5671773414826165821:Nat:=0
open PySem PySem.W PyProof.Rows
set_option maxRecDepth 100000 in
set_option maxHeartbeats 0 in
theorem PySem.Challenge.cw_glidequeue_k53_items_read_holds : PySem.Challenge.rw_glidequeue_k53_items_read.Holds := by
 w_on; o_law; k_head; (case hw=>w_witness2)
 k_fill
 refine L2.AZ (l:=PySem.Challenge.rw_glidequeue_k53_items_read) (k:=7) (x:="_law_script") (st:=Lw.iI) rfl rfl ⟨rfl,by decide,by decide⟩ (fun w h Y=>PySem.W.kIn_of Y) Lw.All ?F (fun _ _ A=>A.law) (fun _ _ _ _ _ _ _=>rfl) (fun _ _ _ _ _ _ _ A F=>Lw.DX A F)
 case F=>
  intro w mg h KX G
  refine⟨L2.DN KX G ?b,?x1,?x2,?x3,?x4,?x5,?x6,?x7,?x8,?x9,?x10,?x11,?x12,?x13,?x14,?x15,?x16,?x17,?x18,?x19,?x20,?x21,?x22,?x23,?x24,?x25,?x26,?x27,?x28,?x29,?x30,?x31,?x32,?x33,?x34,?x35,?x36⟩
  case b=>(unfold L2.kL; repeat (refine L2.fD.cons ?z ?_; (case z=>k_is))); exact L2.fD.nil
  case x1=>refine' L2.CU KX G ?a ?l ?z ?r; (case a=>k_is); (case l=>k_is); (case z=>decide); (case r=>exact .cons ⟨_,rfl⟩ (.cons ⟨_,rfl⟩ .nil))
  case x2=>(refine' L2.tG KX G ?z; (case z=>k_is))
  case x3=>(refine' L2.gs KX G ?z; (case z=>k_is))
  case x4=>(refine' L2.gs KX G ?z; (case z=>k_is))
  case x5=>(refine' L2.gs KX G ?z; (case z=>k_is))
  case x6=>(refine' L2.gs KX G ?z; (case z=>k_is))
  case x7=>(refine' L2.tG KX G ?z; (case z=>k_is))
  case x8=>(refine' L2.gs KX G ?z; (case z=>k_is))
  case x16=>(refine' L2.gs KX G ?z; (case z=>k_is))
  case x17=>(refine' L2.gs KX G ?z; (case z=>k_is))
  all_goals (refine' L2.Dh KX G ?a ?l ?c ?k; (case a=>k_is); (case l=>k_is); (case c=>k_is); (case k=>k_is))
#print axioms PySem.Challenge.cw_glidequeue_k53_items_read_holds
