import PyProof.Rows.All
import Wide.All
import OpenK.AllK
import Wide.FinOn
import Lean
import PyProof.EqAt
import PyProof.EqKinds
import PyProof.TupleCall
import PySem.Challenge.RW_glidequeue_k60_desks_made_of_any_things
set_option Elab.async false
set_option linter.all false
set_option maxRecDepth 100000
abbrev ae:=@PySem.wpAny_bind
abbrev aE:=@PySem.wpAny_pure
abbrev aI:=@if_neg
abbrev aJ:=@Nat.le_refl
abbrev aK:=@if_pos
abbrev aU:=@PySem.Heap.lt_size
abbrev aY:=@PySem.Heap.get?_push_of_some
abbrev aZ:=@List.length_map
abbrev bC:=@List.size_toArray
abbrev bE:=@beq_iff_eq
abbrev bP:=@PySem.Heap.get?_push_size
abbrev bV:=@List.mem_cons
abbrev bW:=@Bool.and_eq_true
abbrev cg:=@Nat.ne_of_lt
abbrev cj:=@Bool.false_ne_true
abbrev cu:=@Option.some.inj
abbrev cF:=@Bool.false_and
abbrev cJ:=@PySem.wpAny_field
abbrev cN:=@Nat.lt_of_lt_of_le
abbrev d9:=@PySem.wpAny_mono
abbrev da:=@List.lookup_cons
abbrev dc:=@List.length_append
abbrev dr:=@Nat.le_trans
abbrev du:=@List.getElem?_map
abbrev dB:=@PySem.wpAny_holding
abbrev dC:=@Ne.symm
abbrev dZ:=@PyProof.Rows.boot_isinstance
abbrev e9:=@List.getElem?_eq_getElem
abbrev eS:=@Bool.true_and
abbrev ft:=@List.not_mem_nil
abbrev fO:=@Nat.zero_le
abbrev fP:=@List.mem_singleton
abbrev fQ:=@List.mem_append_right
abbrev fR:=@List.length_cons
abbrev fS:=@List.getElem?_eq_some_iff
abbrev fT:=@List.all_eq_true
abbrev gq:=@PySem.wpAny_newObj_type
abbrev gr:=@PySem.intBits_le_64
abbrev gs:=@congrArg
abbrev gu:=@PyProof.Rows.boot_tuple
abbrev gv:=@List.append_nil
abbrev gw:=@Array.length_toList
abbrev gX:=@PySem.wpAny_truthy_bool
abbrev gY:=@PySem.wpAny_seqItems
abbrev gZ:=@Nat.lt_irrefl
abbrev hJ:=@List.map_append
abbrev hR:=@Int.le_refl
abbrev hU:=@PySem.Heap.size_push
abbrev hV:=@Bool.eq_iff_iff
abbrev iO:=@PySem.wpAny_passesOwn
abbrev iP:=@PySem.W.mg_of
abbrev iQ:=@List.mem_of_getElem?
abbrev iR:=@List.mem_filterMap
abbrev iS:=@List.mem_cons_of_mem
abbrev iT:=@List.map_cons
abbrev iU:=@List.length_take
abbrev jU:=@PySem.wpAny_setField_rec
abbrev jV:=@PySem.wpAny_execs_nil
abbrev jW:=@PySem.wpAny_call_entry
abbrev jX:=@PySem.wpAny_callSpecial?_slot
abbrev jY:=@PySem.wpAny_call
abbrev jZ:=@PySem.wpAny_Call_Name_kw
abbrev k4:=@PySem.sizeLine_eq
abbrev k6:=@PySem.call_meets
abbrev k7:=@PyProof.Rows.slot_tuple_getitem
abbrev k8:=@PyProof.Rows.boot_all
abbrev k9:=@Nat.ne_of_gt
abbrev ka:=@List.of_mem_zip
abbrev kd:=@List.mem_append
abbrev ke:=@PySem.Heap.get?_update_other
abbrev kf:=@Bool.not_eq_true'
abbrev kg:=@Bool.eq_false_iff
abbrev me:=@PySem.wpAny_typeOf
abbrev mi:=@PySem.wpAny_setField
abbrev mj:=@PySem.wpAny_onRaise
abbrev ml:=@decide_eq_true
abbrev mm:=@decide_eq_false
abbrev mn:=@PySem.codeAny_mono
abbrev mq:=@PySem.mem_of_lookup
abbrev mr:=@PySem.W.callWith_K
abbrev mw:=@PySem.Obj.data_mapFields
abbrev mx:=@Nat.pow_succ
abbrev mz:=@Nat.lt_trans
abbrev mB:=@Nat.le_of_ble_eq_true
abbrev mC:=@List.mem_map
abbrev mD:=@List.getElem_mem
abbrev mE:=@Int.emod_nonneg
abbrev mF:=@Int.emod_lt_of_pos
abbrev pY:=@PySem.wpAny_specialOf
abbrev pZ:=@of_decide_eq_true
abbrev q0:=@beq_eq_false_iff_ne
abbrev qa:=@PySem.W.hideAll_get
abbrev qb:=@PySem.W.cellsFrom_some
abbrev qc:=@PySem.F.slot_zip_next
abbrev qd:=@PySem.F.slot_tuple_iterator_next
abbrev qe:=@PySem.F.plainAttrs_str
abbrev qf:=@PyProof.Rows.callWith_type1
abbrev qh:=@PyProof.Rows.boot_str
abbrev qi:=@PySem.PassesOwn.never
abbrev qj:=@Nat.le_of_lt
abbrev qk:=@List.nodup_cons
abbrev ql:=@List.mem_cons_self
abbrev qo:=@List.length_zip
abbrev qq:=@List.length_singleton
abbrev qr:=@List.getElem?_set_self
abbrev qs:=@List.forIn_cons
abbrev qt:=@PySem.Heap.get?_update_self
abbrev qu:=@Array.toList_append
abbrev qv:=@Array.getElem?_eq_some_iff
abbrev qw:=@Array.getElem?_eq_getElem
abbrev xA:=@PySem.wpAny_updateSeq_pair
abbrev xB:=@PySem.wpAny_newFunctionEnv_cells
abbrev xC:=@ne_true_of_eq_false
abbrev xD:=@decide_eq_true_eq
abbrev xE:=@PySem.codeAny_call_function
abbrev xF:=@PySem.codeAny_call_builtin
abbrev xG:=@PySem.StrLaws.glued_eq_join
abbrev xH:=@PySem.W.plainGet_of
abbrev xI:=@PySem.W.codeRec_of
abbrev xJ:=@PySem.F.slot_tuple_add
abbrev xK:=@PySem.F.plainAttrs_list
abbrev xM:=@PySem.F.entry_tuple_add
abbrev xN:=@PySem.F.args_tuple_add_2
abbrev xO:=@PyProof.Rows.boot_list
abbrev xP:=@PySem.Obj.isFreed_of_fields
abbrev xQ:=@List.take_length
abbrev xR:=@List.mem_append_left
abbrev xS:=@List.map_reverse
abbrev xT:=@List.length_drop
abbrev xU:=@List.getElem?_set_ne
abbrev xV:=@List.filterMap_cons
abbrev xW:=@PySem.Calls.evalArgs_plain
abbrev xX:=@Array.getElem?_toList
abbrev Gd:=@PySem.F.entry_tuple_iterator_next
abbrev Ge:=@PySem.F.args_tuple_iterator_next_1
abbrev He:=PySem.W.Frag
abbrev Hf:=PySem.Shared
abbrev Hg:=PySem.Program
abbrev Hh:=PySem.PyData
abbrev Hi:=PySem.Around
namespace L2
open PySem PySem.Spec PyProof.Rows
abbrev Key:=Sum Int Str
def u6:Key->Value->Bool | .inl k,v=>Value.isInt k v | .inr x,v=>Value.isStrOf x v
def Cb(w:World):Key->Int | .inl k=>hashInt k | .inr x=>hashStr w x
theorem fE:∀{k:Key}{v:Value},u6 k v=true->(∃i t,k=Sum.inl i/\v=Value.int i t)\/(∃x t,k=Sum.inr x/\v=Value.str x t) | .inl i,v,h=>by obtain⟨t,e⟩:=Value.isInt_shape (k:=i) (v:=v) h;exact .inl ⟨i,t,rfl,e⟩ | .inr x,v,h=>by obtain⟨t,e⟩:=Value.isStrOf_shape (x:=x) (v:=v) h;exact .inr ⟨x,t,rfl,e⟩
theorem Ca(a b:Int):decide ((Sum.inl a:Key)=Sum.inl b)=(a==b):=by
 by_cases e:a=b
 ·subst e;simp
 · have h:¬(Sum.inl a:Key)=Sum.inl b:=fun q=>e (Sum.inl.inj q)
   rw[mm h];exact(q0.mpr e).symm
theorem C7(a b:Str):decide ((Sum.inr a:Key)=Sum.inr b)=decide (a=b):=by
 by_cases e:a=b
 ·subst e;simp
 · have h:¬(Sum.inr a:Key)=Sum.inr b:=fun q=>e (Sum.inr.inj q)
   rw[mm h,mm e]
theorem C9(a:Int)(b:Str):decide ((Sum.inl a:Key)=Sum.inr b)=false:=mm (fun q=>nomatch q)
theorem C8(a:Str)(b:Int):decide ((Sum.inr a:Key)=Sum.inl b)=false:=mm (fun q=>nomatch q)
def o9(prog:Hg)(w:World):PySem.KeyKind prog w Key where
 is:=u6
 hash:=Cb w
 inj:=fun v a b ha hb=>by
  rcases fE ha with⟨i,t,rfl,rfl⟩|⟨x,t,rfl,rfl⟩
  · rcases fE hb with⟨j,u,rfl,e⟩|⟨y,u,rfl,e⟩
    ·injection e with e1 _;rw[e1]
    ·exact nomatch e
  · rcases fE hb with⟨j,u,rfl,e⟩|⟨y,u,rfl,e⟩
    ·exact nomatch e
    ·injection e with e1 _;rw[e1]
 byValue:=fun k v h=>by rcases fE h with⟨i,t,rfl,rfl⟩|⟨x,t,rfl,rfl⟩<;>rfl
 pyHash:=fun hv h=>by
  rcases fE hv with⟨i,t,rfl,rfl⟩|⟨x,t,rfl,rfl⟩
  ·exact wpAny_pyHash_int h
  ·exact wpAny_pyHash_str h
 eqBool:=fun hu hv h=>by
  rcases fE hu with⟨i,t,rfl,rfl⟩|⟨x,t,rfl,rfl⟩
  · rcases fE hv with⟨j,u,rfl,rfl⟩|⟨y,u,rfl,rfl⟩
    ·rw[Ca]at h;exact wpAny_eqBool_int h
    ·rw[C9]at h;exact SeqAt.EqAt.int_str i t y u _ _ _ _ h
  · rcases fE hv with⟨j,u,rfl,rfl⟩|⟨y,u,rfl,rfl⟩
    ·rw[C8]at h;exact SeqAt.EqAt.str_int x t j u _ _ _ _ h
    ·rw[C7]at h;exact wpAny_eqBool_str h
 «strs»:=fun k x t v h=>by
  rcases fE h with⟨i,u,rfl,e⟩|⟨y,u,rfl,e⟩
  ·exact nomatch e
  · injection e with e1 _
    subst e1;cases v<;>rfl
inductive V where |ax|bl (b:Bool)|int (i:Int)|str (x:Str)|dW (b:Array UInt8)|lM (b:UInt64)|ref (a:Addr)|ty (n:String) deriving DecidableEq
def RelV:V->Value->Prop | .ax,u=>u=Value.none | .bl b,u=>u=Value.bool b | .int i,u=>∃t,u=Value.int i t | .str x,u=>∃t,u=Value.str x t | .dW b,u=>∃t,u=Value.bytes b t | .lM b,u=>∃t,u=Value.float b t | .ref a,u=>u=Value.ref a | .ty n,u=>u=Value.type n
abbrev Vals:List V->List Value->Prop:=Paired RelV
theorem Vals.length{xs:List V}{us:List Value}(r:Vals xs us):xs.length=us.length:=Paired.length r
theorem Vals.get:∀{xs:List V}{us:List Value}{i:Nat}{x:V},Vals xs us->xs[i]? =some x->∃u,us[i]? =some u/\RelV x u |_,_,_,_,.nil,e=>by simp at e |_,_,0,_,.cons r _,e=>by simp at e;subst e;exact⟨_,rfl,r⟩ |_,_,i+1,x,.cons _ t,e=>by obtain⟨u,h1,h2⟩:=Vals.get (i:=i) (x:=x) t (by simpa using e);exact⟨u,by simpa using h1,h2⟩
theorem Vals.set{x:V}{u:Value}(r:RelV x u):∀{xs:List V}{us:List Value}(i:Nat),Vals xs us->Vals (xs.set i x) (us.set i u) |_,_,_,.nil=>.nil |_,_,0,.cons _ t=>.cons r t |_,_,i+1,.cons q t=>.cons q (Vals.set r i t)
theorem Vals.append:∀{xs ys:List V}{us ws:List Value},Vals xs us->Vals ys ws->Vals (xs++ys) (us++ws) |_,_,_,_,.nil,s=>s |_,_,_,_,.cons r t,s=>.cons r (Vals.append t s)
theorem Vals.take:∀{xs:List V}{us:List Value}(n:Nat),Vals xs us->Vals (xs.take n) (us.take n) |_,_,0,_=>.nil |_,_,_+1,.nil=>.nil |_,_,n+1,.cons r t=>.cons r (Vals.take n t)
theorem Vals.drop:∀{xs:List V}{us:List Value}(n:Nat),Vals xs us->Vals (xs.drop n) (us.drop n) |_,_,0,r=>r |_,_,_+1,.nil=>.nil |_,_,n+1,.cons _ t=>Vals.drop n t
def fo:Option V->Option Value->Prop |some v,some u=>RelV v u |none,none=>True |_,_=>False
def KV{κ:Type}:List (κ×V)->List (κ×Value)->Prop:=Paired fun(p:κ×V)(q:κ×Value)=>p.1=q.1/\RelV p.2 q.2
def kV:Key->V | .inl i=>.int i | .inr x=>.str x
inductive HO where /--a list -/ |lst (xs:List V) /--a tuple (never changes) -/ |tup (xs:List V) /--a dict y8 keys are ints and texts; one y8 keys are tuples of ints and texts (hX empty one is both) -/ |dK (bh:List (Key×V))|dT (bh:List (List Key×V)) /--a set of ints: its members,its size -/ |set (S:Int->Bool)(n:Nat) /--an instance of hX class at C,its dict at dx,its attributes -/ |ins (C dx:Addr)(fs:List (Str×V)) /--hX dict of hX instance at x -/ |own (x:Addr) /--hX dict of an exception -/ |xd (fs:List (Str×V)) /--a bound method,f of x -/ |met (f x:Addr) /--a range object lo,lo+1,.. below hi -/ |kJ (lo hi:Int) /--a yo Gg is known to hX object (hX Gm; a dict while a loop walks it): read,never written while it is so -/ |eJ (o:Obj)(u:HO) /--a code Gr table -/ |fW (ps:Array Value) /--any other yo,by what is true of its one object (a def of Gq own: Hc a S n:=HO.ext fun h=>..) -/ |ext (φ:Heap->Prop)
abbrev Hp:=Addr->Option HO
def upd(H:Hp)(a:Addr)(o:HO):Hp:=fun b=>if b=a then some o else H b
theorem br{H:Hp}{a:Addr}{o:HO}:upd H a o a=some o:=by unfold upd;rw[aK rfl]
theorem aV{H:Hp}{a b:Addr}{o:HO}(h:b≠a):upd H a o b=H b:=by unfold upd;rw[aI h]
theorem BA{H:Hp}{a b:Addr}{o u:HO}(h:H a=some o)(h':H b=some u)(d:o≠u):a≠b:=by intro e;subst e;rw[h]at h';exact d (cu h')
theorem eF{H:Hp}{a b:Addr}{o:HO}(h:H a=some o)(h':H b=none):a≠b:=by intro e;subst e;rw[h]at h';cases h'
section
variable (P:Hg) (w:World)
def cz(H:Hp)(h:Heap)(a:Addr):HO->Prop | .lst xs=>xs.length<=sizeLine/\∃(its:List Value)(n:Nat),Vals xs its/\h.get? a=some {cls:=.type "list",data:=.seq its.toArray n} | .tup xs=>xs.length<=sizeLine/\∃its:List Value,Vals xs its/\IsTup h a its.toArray | .dK bh=>bh.length<=sizeLine/\(a==sysModules)=false/\∃vs,KV bh vs/\h.DictOf (o9 P w) a vs | .dT bh=>bh.length<=sizeLine/\(a==sysModules)=false/\∃xs:List (List Key×Addr×Value),Paired (fun(p:List Key×V)(q:List Key×Addr×Value)=>p.1=q.1/\H q.2.1=some (.tup (p.1.map kV))/\RelV p.2 q.2.2) bh xs/\∃o es ep,h.get? a=some o/\o.ExactDict/\o.data= .dict es ep/\es.toList=xs.map (entryOfKey (tupleKind (o9 P w)))/\(xs.map (·.1)).Nodup | .set S n=>h.SetOf (intKind P w) a S n | .ins C dx fs=>H dx=some (.own a)/\fs.length<=1000/\dx≠a/\h.get? a=some (PySem.W.instObj C dx)/\∃mA,h.Ns1 dx mA/\(∀f,fo (fs.lookup f) (mA f))/\PySem.Within mA (fs.map (·.1)) | .own _=>∃o,h.get? a=some o | .xd fs=>∃mA,h.Ns1 a mA/\∀f,fo (fs.lookup f) (mA f) | .kJ lo hi=>∃t u v,h.get? a=some {cls:=.type "range",data:=.fields #[.int lo t,.int hi u,.int 1 v]} | .eJ o u=>h.get? a=some o/\cz H h a u | .fW ps=>h.get? a=some {cls:=.none,data:=.fields ps} | .met f x=>h.get? a=some (PySem.W.methodObj (.ref f) (.ref x)) | .ext φ=>φ h/\(∃o,h.get? a=some o)/\∀h1 h2:Heap,φ h1->(∀o,h1.get? a=some o->h2.get? a=some o)->φ h2
def bq(H:Hp)(h:Heap):Prop:=∀a o,H a=some o->cz P w H h a o
end
section
variable {P:Hg}{w:World}{H H':Hp}{h h':Heap}{a:Addr}{o:HO}
theorem cz.lt(x:cz P w H h a o):a<h.objs.size:=by cases o with |lst xs=>obtain⟨_,_,_,_,e⟩:=x;exact aU e |tup xs=>obtain⟨_,_,_,p⟩:=x;exact p.lt |dK bh=>obtain⟨_,_,_,_,o,_,_,e,_⟩:=x;exact aU e |dT bh=>obtain⟨_,_,_,_,o,_,_,e,_⟩:=x;exact aU e |set S n=>obtain⟨o,_,_,_,e,_⟩:=x;exact aU e |ins C dx fs=>obtain⟨_,_,_,e,_⟩:=x;exact aU e |own y=>obtain⟨_,e⟩:=x;exact aU e |xd fs=>obtain⟨_,⟨_,_,_,e,_⟩,_⟩:=x;exact aU e |kJ lo hi=>obtain⟨_,_,_,e⟩:=x;exact aU e |eJ ob u=>obtain⟨e,_⟩:=x;exact aU e |fW ps=>exact aU (show h.get? a=some _ from x) |met f y=>exact aU (show h.get? a=some _ from x) |ext φ=>obtain⟨_,⟨_,e⟩,_⟩:=x;exact aU e
theorem Paired.tO{α β:Type}{F G:α->β->Prop}:∀{l₁:List α}{l₂:List β},Paired F l₁ l₂->(∀a b,F a b->G a b)->Paired G l₁ l₂ |_,_,.nil,_=>.nil |_,_,.cons r t,f=>.cons (f _ _ r) (Paired.tO t f)
theorem cz.eU(x:cz P w H h a o)(k:∀b u,(b=a\/H b=some (.own a))->h.get? b=some u->h'.get? b=some u) (ho:∀b,H b=some (.own a)->H' b=some (.own a))(ht:∀b xs,H b=some (.tup xs)->H' b=some (.tup xs)):cz P w H' h' a o:=by induction o with |lst xs=>obtain⟨z,its,n,r,e⟩:=x;exact⟨z,its,n,r,k _ _ (.inl rfl) e⟩ |tup xs=>obtain⟨z,its,r,ob,e,c⟩:=x;exact⟨z,its,r,ob,k _ _ (.inl rfl) e,c⟩ |dK bh=>obtain⟨z,y,vs,r,ob,es,ep,e,c⟩:=x;exact⟨z,y,vs,r,ob,es,ep,k _ _ (.inl rfl) e,c⟩ |dT bh=>obtain⟨z,y,xs,r,ob,es,ep,e,c⟩:=x;exact⟨z,y,xs,Paired.tO r fun p q z=>⟨z.1,ht _ _ z.2.1,z.2.2⟩,ob,es,ep,k _ _ (.inl rfl) e,c⟩ |set S n=>obtain⟨ob,es,ep,t,e,c⟩:=x;exact⟨ob,es,ep,t,k _ _ (.inl rfl) e,c⟩ |ins C dx fs=>obtain⟨d,z,ne,e,mA,⟨od,es,ep,e2,c⟩,r⟩:=x;exact⟨ho _ d,z,ne,k _ _ (.inl rfl) e,mA,⟨od,es,ep,k _ _ (.inr d) e2,c⟩,r⟩ |own y=>obtain⟨ob,e⟩:=x;exact⟨ob,k _ _ (.inl rfl) e⟩ |xd fs=>obtain⟨mA,⟨od,es,ep,e,c⟩,r⟩:=x;exact⟨mA,⟨od,es,ep,k _ _ (.inl rfl) e,c⟩,r⟩ |kJ lo hi=>obtain⟨t,u,v,e⟩:=x;exact⟨t,u,v,k _ _ (.inl rfl) e⟩ |eJ ob u ih=>obtain⟨e,q⟩:=x;exact⟨k _ _ (.inl rfl) e,ih q⟩ |fW ps=>have e:h.get? a=some {cls:=.none,data:=.fields ps}:=x;show h'.get? a=some {cls:=.none,data:=.fields ps};exact k a _ (.inl rfl) e |met f y=>have e:h.get? a=some (PySem.W.methodObj (.ref f) (.ref y)):=x;show h'.get? a=some (PySem.W.methodObj (.ref f) (.ref y));exact k a _ (.inl rfl) e |ext φ=>obtain⟨p,⟨o,e⟩,st⟩:=x;exact⟨st _ _ p fun o q=>k _ _ (.inl rfl) q,⟨o,k _ _ (.inl rfl) e⟩,st⟩
theorem bq.lt(x:bq P w H h)(e:H a=some o):a<h.objs.size:=(x a o e).lt
theorem bq.fresh(x:bq P w H h)(e:h.objs.size<=a):H a=none:=by cases q:H a with |none=>rfl |some u=>exact absurd (cN (x.lt q) e) (gZ _)
theorem bq.kept(x:bq P w H h)(k:∀b u,h.get? b=some u->h'.get? b=some u):bq P w H h':=fun a o e=>(x a o e).eU (fun b u _ q=>k b u q) (fun _ q=>q) fun _ _ q=>q
theorem bq.laid(x:bq P w H h)(k:∀b u,h.get? b=some u->h'.get? b=some u)(hp:h.objs.size<=a)(new:cz P w (upd H a o) h' a o):bq P w (upd H a o) h':=fun b u e=>by
 have hn:=x.fresh hp;by_cases hb:b=a
 ·subst hb;rw[br]at e;cases e;exact new
 · rw[aV hb]at e
   exact(x b u e).eU (fun c v _ q=>k c v q) (fun c q=>by rw[aV (eF q hn)];exact q) fun c xs q=>by rw[aV (eF q hn)];exact q
end
def Rd(H:Hp)(a:Addr)(u:HO):Prop:=H a=some u\/∃o,H a=some (.eJ o u)
theorem Rd.ok{P:Hg}{w:World}{H:Hp}{h:Heap}{a:Addr}{u:HO}(r:Rd H a u)(x:bq P w H h):cz P w H h a u:=by
 rcases r with r|⟨o,r⟩
 ·exact x a u r
 · obtain⟨_,q⟩:=x a _ r
   exact q
def m4:Option HO->Prop |some (.lst _)=>True |some (.dK _)=>True |some (.dT _)=>True |some (.set _ _)=>True |some (.ins _ _ _)=>True |some (.ext _)=>True |_=>False
section
variable {P:Hg}{w:World}{H:Hp}{h h':Heap}{x e:Addr}{o':HO}
theorem bq.write(ok:bq P w H h)(mu:m4 (H x))(he:e=x\/H e=some (.own x))(k:∀b u,b≠e->h.get? b=some u->h'.get? b=some u)(iA:∃u,h'.get? e=some u) (new:cz P w (upd H x o') h' x o'):bq P w (upd H x o') h':=fun b u q=>by
  have tm:∀c y,H c=some (.own y)->c≠x:=fun c y r z=>by subst z;rw[r]at mu;exact mu
  have Br:∀c xs,H c=some (.tup xs)->c≠x:=fun c xs r z=>by subst z;rw[r]at mu;exact mu
  by_cases hb:b=x
  ·subst hb;rw[br]at q;cases q;exact new
  · rw[aV hb]at q
    by_cases gP:b=e
    · have q':H b=some (.own x):=by
        rcases he with z|z
        ·exact absurd (gP.trans z) hb
        ·rw[gP];exact z
      rw[q]at q';cases q';obtain⟨v,hv⟩:=iA;exact⟨v,by rw[gP];exact hv⟩
    · refine(ok b u q).eU (fun c v hc r=>k c v ?_ r) (fun c r=>by rw[aV (tm c b r)];exact r) fun c xs r=>by rw[aV (Br c xs r)];exact r
      rcases hc with rfl|hc
      ·exact gP
      · rintro rfl
        rcases he with z|z
        ·exact tm c b hc z
        ·rw[hc]at z;cases z;exact hb rfl
end
structure Un(fs ex:List Addr)(H H':Hp)(h h':Heap):Prop where
 keep:∀b o,h.get? b=some o->H b=none->b∉fs->b∉ex->h'.get? b=some o
 slot:∀b o,h.get? b=some o->H b=none->b∈fs->b∉ex->∃sl,h'.get? b=some {o with slots:=sl}
 free:∀b o,h.get? b=some o->H b=none->b∉ex->H' b=none
 there:∀b o,h.get? b=some o->b∉ex->∃o',h'.get? b=some o'
 tups:∀b xs,H b=some (.tup xs)->H' b=some (.tup xs)
 frzs:∀b o u,H b=some (.eJ o u)->H' b=some (.eJ o u)
 tbls:∀b ps,H b=some (.fW ps)->∃more,H' b=some (.fW (ps++more))
section
variable {fs EB ex cD:List Addr}{H H1 H2:Hp}{h h1 h2 h':Heap}{a x e:Addr}{o:HO}
theorem Un.any(u:Un fs ex H H1 h h1){b:Addr}{ob:Obj}(q:h.get? b=some ob)(n:H b=none)(hx:b∉ex):∃sl,h1.get? b=some {ob with slots:=sl}:=by
 by_cases hb:b∈fs
 ·exact u.slot b ob q n hb hx
 ·exact⟨ob.slots,u.keep b ob q n hb hx⟩
theorem Un.kept(k:∀b u,h.get? b=some u->h'.get? b=some u):Un fs ex H H h h':=⟨fun b ob q _ _ _=>k b ob q,fun b ob q _ _ _=>⟨ob.slots,k b ob q⟩,fun _ _ _ n _=>n,fun b ob q _=>⟨ob,k b ob q⟩,fun _ _ q=>q,fun _ _ _ q=>q,fun _ ps q=>⟨#[],by rw[q];simp⟩⟩
theorem Un.refl:Un fs ex H H h h:=Un.kept fun _ _ q=>q
theorem Un.laid(k:∀b u,h.get? b=some u->h'.get? b=some u)(hp:h.objs.size<=a)(hn:H a=none):Un fs ex H (upd H a o) h h' where
 keep:=fun b u q _ _ _=>k b u q
 slot:=fun b u q _ _ _=>⟨u.slots,k b u q⟩
 free:=fun b u q n _=>by rw[aV (cg (cN (aU q) hp))];exact n
 there:=fun b u q _=>⟨u,k b u q⟩
 tups:=fun b xs q=>by rw[aV (eF q hn)];exact q
 frzs:=fun b u xs q=>by rw[aV (eF q hn)];exact q
 tbls:=fun b ps q=>⟨#[],by rw[aV (eF q hn),q];simp⟩
theorem Un.write(mu:m4 (H x))(he:e=x\/H e=some (.own x))(k:∀b u,b≠e->h.get? b=some u->h'.get? b=some u)(iA:∃u,h'.get? e=some u):Un fs ex H (upd H x o) h h':=by
 have hx:∀b,H b=none->b≠x:=fun b n z=>by subst z;rw[n]at mu;exact mu
 have hb:∀b,H b=none->b≠e:=fun b n z=>by
  subst z;rcases he with r|r
  ·exact hx b n r
  ·rw[n]at r;cases r
 have hm:∀b u,H b=some u->¬m4 (some u)->b≠x:=fun b u q nm z=>by subst z;rw[q]at mu;exact nm mu
 refine⟨fun b u q n _ _=>k b u (hb b n) q,fun b u q n _ _=>⟨u.slots,k b u (hb b n) q⟩,fun b u q n _=>by rw[aV (hx b n)];exact n,fun b u q _=>?_,fun b xs q=>by rw[aV (hm b _ q fun z=>z)];exact q,fun b u xs q=>by rw[aV (hm b _ q fun z=>z)];exact q,fun b ps q=>⟨#[],by rw[aV (hm b _ q fun z=>z),q];simp⟩⟩;by_cases gP:b=e
 ·subst gP;exact iA
 ·exact⟨u,k b u gP q⟩
end
def kr(h:Heap)(H:Hp):List Addr:=(List.range h.objs.size).filter fun a=>(H a).isSome
def fJ(h:Heap)(H:Hp):Heap:=PySem.W.hideAll h (kr h H)
theorem Dk(h:Heap)(H:Hp):(fJ h H).objs.size=h.objs.size:=PySem.W.hideAll_size _ _
theorem Dl{h:Heap}{H:Hp}{b:Addr}{o:Obj}(e:h.get? b=some o)(n:H b=none):(fJ h H).get? b=some o:=qa _ e fun hm=>by have q:(H b).isSome=true:=(List.mem_filter.mp hm).2;rw[n]at q;simp at q
theorem Bj{h:Heap}{H:Hp}{b:Addr}{o:Obj}(e:(fJ h H).get? b=some o):h.get? b=some o/\H b=none:=by have e':h.get? b=some o:=PySem.W.of_hideAll (kr h H) e;refine⟨e',?_⟩;cases q:H b with |none=>rfl |some x=>have hm:b∈kr h H:=List.mem_filter.mpr ⟨List.mem_range.mpr (aU e'),by simp[q]⟩;have z:(fJ h H).get? b=none:=PySem.W.hideAll_none (kr h H) hm;rw[z]at e;cases e
structure Mod(K:He)(mg:Str->Option Value)(base:Heap):Prop where
 kin:K.In base
 glob:base.Ns mainGlobals mg
 blt:∃mb,base.Ns builtinsNs mb/\∀x:Str,x≠"__name__"->mb x=bootBuiltins x
 nolimit:base.NoLimit
structure Cx where
 prog:Hg
 w:World
 K:He
 mg:Str->Option Value
 base:Heap
 A:Hi
 N:List Str
 s₀:Hf
 H₀:Hp
 env:Env
 outer:List Env
 stack:List Env
 ex:List Addr
 fn:Str->Bool
 calm:Bool
 pn:List (Addr×Obj)
 xe:Value->Hf->Prop
def bI(l:List Env):List Addr:=l.filterMap (·.frame)
abbrev Cx.fs(X:Cx):List Addr:=bI X.outer
def lY(sc:Scope)(x:Str):Prop:=sc.names.lookup x=some .local\/sc.names.lookup x=some .cell\/sc.names.lookup x=some .free
def Loc(sc:Scope)(x:Str):Prop:=sc.names.lookup x=some .local\/sc.names.lookup x=some .cell
def Look(env:Env)(h:Heap)(m:Str->Option Value)(x:Str)(u:Value):Prop:=(env.kindOf x=some .local/\m x=some u)\/((env.kindOf x=some .cell\/env.kindOf x=some .free)/\∃c,env.cells.lookup x=some c/\h.IsCell c (some u))
structure Cx.Ok(X:Cx):Prop where
 mod:Mod X.K X.mg X.base
 kind:X.env.scope.kind= .function
 glob:X.env.globals=mainGlobals
 blt:X.env.builtins=builtinsNs
 above:X.s₀.heap.objs.size<=X.env.locals
 inj:∀x y c,X.env.cells.lookup x=some c->X.env.cells.lookup y=some c->x=y
 has:∀x,(X.env.kindOf x=some .cell\/X.env.kindOf x=some .free)->∃c,X.env.cells.lookup x=some c
 cab:∀x c,X.fn x=true->X.env.cells.lookup x=some c->X.s₀.heap.objs.size<=c
 hd:X.calm=true->X.A.handled=none
 frames:X.A.frames=some X.stack
 stk:X.stack=X.outer\/(X.stack=X.env::X.outer/\X.env.frame=some X.env.locals)
 exf:∀b∈X.ex,b≠X.env.locals/\∀x c,X.env.cells.lookup x=some c->c≠b
 bs:∀b o,X.base.get? b=some o->X.s₀.heap.get? b=some o/\X.H₀ b=none
 bsz:X.base.objs.size<=X.s₀.heap.objs.size
 noex:∀b o,X.base.get? b=some o->b∉X.ex
 exfs:∀b∈X.ex,b∉X.fs
 cM:X.s₀.heap.FunFrames X.base X.outer
 frf:∀b∈X.fs,X.H₀ b=none
structure Inv(X:Cx)(pins:List (Addr×Obj))(σ:List (Option V))(H:Hp)(s:Hf):Prop where
 ok:X.Ok
 os:s.os=X.s₀.os
 bare:AllBare s.gens
 base:Un X.fs X.ex X.H₀ H X.s₀.heap s.heap
 loc:∃m,s.heap.Ns X.env.locals m/\∀(i:Nat)(x:Str)(v:V),X.N[i]? =some x->σ[i]? =some (some v)->lY X.env.scope x->∃u,RelV v u/\Look X.env s.heap m x u
 cell:∀x c,X.env.cells.lookup x=some c->∃v,s.heap.IsCell c v
 free:H X.env.locals=none
 freeC:∀x c,X.env.cells.lookup x=some c->H c=none
 pin:∀p∈X.pn++pins,s.heap.get? p.1=some p.2/\H p.1=none/\p.1≠X.env.locals/\p.1∉X.fs/\∀v,p.2.data≠ .cell v
 hok:bq X.prog X.w H s.heap
 len:σ.length=X.N.length
section
variable {X:Cx}{pins:List (Addr×Obj)}{σ:List (Option V)}{H H':Hp}{s:Hf}{h':Heap}
theorem Cx.Ok.Bw(ok:X.Ok){b:Addr}{o:Obj}(e:X.base.get? b=some o):b∉X.fs:=fun hb=>by have:=(ok.cM.mem hb).1;rw[e]at this;cases this
theorem Inv.bs(I:Inv X pins σ H s):∀b o,X.base.get? b=some o->s.heap.get? b=some o/\H b=none:=fun b o e=>⟨I.base.keep b o (I.ok.bs b o e).1 (I.ok.bs b o e).2 (I.ok.Bw e) (I.ok.noex b o e),I.base.free b o (I.ok.bs b o e).1 (I.ok.bs b o e).2 (I.ok.noex b o e)⟩
theorem Inv.bk(I:Inv X pins σ H s):∀b o,X.base.get? b=some o->s.heap.get? b=some o:=fun b o e=>(I.bs b o e).1
theorem Inv.mod(I:Inv X pins σ H s):Mod X.K X.mg X.base:=I.ok.mod
theorem Inv.bG(I:Inv X pins σ H s):X.K.In s.heap:=I.ok.mod.kin.keeps I.bk
theorem Inv.lt(I:Inv X pins σ H s):X.env.locals<s.heap.objs.size:=let⟨_,hn,_⟩:=I.loc;hn.lt
theorem Inv.sz(I:Inv X pins σ H s):X.s₀.heap.objs.size<=s.heap.objs.size:=dr I.ok.above (qj I.lt)
theorem Inv.Bv(I:Inv X pins σ H s){a:Addr}(h:s.heap.objs.size<=a):a∉X.fs:=fun hb=>by obtain⟨_,o,ho,_⟩:=I.ok.cM.mem hb;exact absurd (cN (aU ho) (dr I.sz h)) (gZ _)
theorem Inv.eM(I:Inv X pins σ H s):∀x c,X.env.cells.lookup x=some c->c≠X.env.locals:=fun x c e z=>by obtain⟨v,o,ho,hd⟩:=I.cell x c e;obtain⟨m,⟨o',es,ep,fG,oS,_⟩,_⟩:=I.loc;rw[z,fG]at ho;cases ho;rw[oS]at hd;cases hd
theorem Inv.cM(I:Inv X pins σ H s):s.heap.FunFrames X.base X.outer:=by
 have all:∀(l:List Env),(∀b∈bI l,b∈X.fs)->X.s₀.heap.FunFrames X.base l->s.heap.FunFrames X.base l:=by intro l;induction l with |nil=>intro _ _;trivial |cons env r ih=>intro hs hl;obtain⟨hk,⟨L,o,hf,hn,ho,hd⟩,hr⟩:=hl;have hL:L∈X.fs:=hs L (by unfold bI;rw[xV,hf];exact ql);obtain⟨sl,e⟩:=I.base.slot L o ho (I.ok.frf L hL) hL fun z=>I.ok.exfs L z hL;exact⟨hk,⟨L,_,hf,hn,e,hd⟩,ih (fun b hb=>hs b (by unfold bI;rw[xV,hf];exact iS _ hb)) hr⟩
 exact all X.outer (fun _ hb=>hb) I.ok.cM
theorem Inv.stack(I:Inv X pins σ H s):s.heap.FunFrames X.base X.stack:=by
 rcases I.ok.stk with e|⟨e,hf⟩
 ·rw[e];exact I.cM
 · rw[e]
   obtain⟨m,hn,_⟩:=I.loc;refine .cons (by rw[I.ok.kind];decide) hf hn ?_ I.cM;exact Heap.get?_none_of_le (dr I.ok.bsz I.ok.above)
theorem Inv.mM(I:Inv X pins σ H s):∀b∈bI X.stack,b∈X.env.locals::X.fs:=fun b hb=>by
 rcases I.ok.stk with e|⟨e,hf⟩
 ·rw[e]at hb;exact iS _ hb
 · rw[e]at hb
   unfold bI at hb;rw[xV,hf]at hb;exact hb
theorem Inv.kC(I:Inv X pins σ H s):∀b∈bI X.stack,H b=none:=fun b hb=>by
 rcases bV.mp (I.mM b hb)with e|hb
 ·rw[e];exact I.free
 · obtain⟨_,o,ho,_⟩:=I.ok.cM.mem hb
   exact I.base.free b o ho (I.ok.frf b hb) fun z=>I.ok.exfs b z hb
theorem Inv.step{g':Array GenState}{t':Nat}{d':Drawn}{ch:List Addr}(I:Inv X pins σ H s) (dP:∀b∈ch,(b∈X.ex\/X.s₀.heap.objs.size<=b)/\b≠X.env.locals/\(∀x c,X.env.cells.lookup x=some c->c≠b)/\∀p∈X.pn++pins,p.1≠b) (keep:∀b o,b≠X.env.locals->b∉X.fs->b∉ch->s.heap.get? b=some o->H b=none->h'.get? b=some o) (slot:∀b o,b≠X.env.locals->b∈X.fs->b∉ch->s.heap.get? b=some o->H b=none->∃sl,h'.get? b=some {o with slots:=sl})(free:∀b o,b∉ch->s.heap.get? b=some o->H b=none->H' b=none) (there:∀b o,b∉ch->s.heap.get? b=some o->∃o',h'.get? b=some o') (tups:∀b xs,H b=some (.tup xs)->H' b=some (.tup xs))(frzs:∀b o u,H b=some (.eJ o u)->H' b=some (.eJ o u))(tbls:∀b ps,H b=some (.fW ps)->∃more,H' b=some (.fW (ps++more))) (ns:∀m,s.heap.Ns X.env.locals m->h'.Ns X.env.locals m)(hok:bq X.prog X.w H' h')(hg:AllBare g'): Inv X pins σ H' {s with heap:=h',gens:=g',drawn:=d',toks:=t'}:=by
  have tE:∀b o,X.s₀.heap.get? b=some o->b≠X.env.locals:=fun b o e=>cg (cN (aU e) I.ok.above);have l7:∀b o,X.s₀.heap.get? b=some o->b∉X.ex->b∉ch:=fun b o e hx hb=>by
   rcases(dP b hb).1 with z|z
   ·exact hx z
   ·exact absurd (cN (aU e) z) (gZ _)
  have cellK:∀x c,X.env.cells.lookup x=some c->∀v,s.heap.IsCell c v->h'.IsCell c v:=fun x c e v ⟨o,ho,hd⟩=>by
   have jl:c∉ch:=fun z=>(dP c z).2.2.1 x c e rfl;by_cases hc:c∈X.fs
   · obtain⟨sl,q⟩:=slot c o (I.eM x c e) hc jl ho (I.freeC x c e)
     exact⟨_,q,hd⟩
   ·exact⟨o,keep c o (I.eM x c e) hc jl ho (I.freeC x c e),hd⟩
  refine⟨I.ok,I.os,hg,⟨fun b o e n hb hx=>?_,fun b o e n hb hx=>?_,fun b o e n hx=>?_,fun b o e hx=>?_,fun b xs e=>tups b xs (I.base.tups b xs e),fun b o xs e=>frzs b o xs (I.base.frzs b o xs e),fun b ps e=>?_⟩,?_,fun x c e=>?_,?_,fun x c e=>?_,fun p hp=>?_,hok,I.len⟩
  ·exact keep b o (tE b o e) hb (l7 b o e hx) (I.base.keep b o e n hb hx) (I.base.free b o e n hx)
  · obtain⟨sl,e1⟩:=I.base.slot b o e n hb hx
    obtain⟨mQ,e2⟩:=slot b _ (tE b o e) hb (l7 b o e hx) e1 (I.base.free b o e n hx);exact⟨mQ,e2⟩
  · obtain⟨o',e1⟩:=I.base.there b o e hx
    exact free b o' (l7 b o e hx) e1 (I.base.free b o e n hx)
  · obtain⟨o',e1⟩:=I.base.there b o e hx
    exact there b o' (l7 b o e hx) e1
  · obtain⟨m1,e1⟩:=I.base.tbls b ps e
    obtain⟨m2,e2⟩:=tbls b _ e1;exact⟨m1++m2,by rw[e2,Array.append_assoc]⟩
  · obtain⟨m,hn,hl⟩:=I.loc
    refine⟨m,ns m hn,fun i x v e1 e2 e3=>?_⟩;obtain⟨u,r,l⟩:=hl i x v e1 e2 e3;refine⟨u,r,?_⟩;rcases l with l|⟨k,c,e,z⟩
    ·exact .inl l
    ·exact .inr ⟨k,c,e,cellK x c e _ z⟩
  · obtain⟨v,z⟩:=I.cell x c e
    exact⟨v,cellK x c e v z⟩
  · obtain⟨m,⟨o,_,_,ho,_⟩,_⟩:=I.loc
    exact free _ o (fun z=>(dP _ z).2.1 rfl) ho I.free
  · obtain⟨v,o,ho,hd⟩:=I.cell x c e
    exact free c o (fun z=>(dP c z).2.2.1 x c e rfl) ho (I.freeC x c e)
  · obtain⟨e,n,ne,nf,d⟩:=I.pin p hp
    have jl:p.1∉ch:=fun z=>(dP p.1 z).2.2.2 p hp rfl;exact⟨keep p.1 p.2 ne nf jl e n,free p.1 p.2 jl e n,ne,nf,d⟩
theorem Inv.un{t':Nat}(I:Inv X pins σ H s)(u:Un X.fs [] H H' s.heap h')(hok:bq X.prog X.w H' h'):Inv X pins σ H' {s with heap:=h',toks:=t'}:=by obtain⟨m,⟨o,es,ep,ho,r⟩,_⟩:=id I.loc;obtain⟨sl,hL⟩:=u.any ho I.free (by simp);exact I.step (g':=s.gens) (d':=s.drawn) (ch:=[]) (fun _ z=>nomatch z) (fun b o _ hb _ e n=>u.keep b o e n hb (by simp)) (fun b o _ hb _ e n=>u.slot b o e n hb (by simp)) (fun b o _ e n=>u.free b o e n (by simp)) (fun b o _ e=>u.there b o e (by simp)) u.tups u.frzs u.tbls (fun m' hm=>by obtain⟨o',pj,pq,fG,r'⟩:=hm;rw[ho]at fG;cases fG;exact⟨_,pj,pq,hL,r'⟩) hok I.bare
theorem Inv.call{g':Array GenState}{t':Nat}{d':Drawn}{ch:List Addr}(I:Inv X pins σ H s)(u:Un (bI X.stack) ch H H' s.heap h')(hok:bq X.prog X.w H' h')(hg:AllBare g') (dP:∀b∈ch,(b∈X.ex\/X.s₀.heap.objs.size<=b)/\b≠X.env.locals/\(∀x c,X.env.cells.lookup x=some c->c≠b)/\∀p∈X.pn++pins,p.1≠b): Inv X pins σ H' {s with heap:=h',gens:=g',drawn:=d',toks:=t'}:=by obtain⟨m,⟨o,es,ep,ho,r⟩,_⟩:=id I.loc;obtain⟨sl,hL⟩:=u.any ho I.free fun z=>(dP _ z).2.1 rfl;exact I.step (ch:=ch) dP (fun b o hL hb hc e n=>u.keep b o e n (fun z=>(bV.mp (I.mM b z)).elim hL hb) hc) (fun b o _ _ hc e n=>u.any e n hc) (fun b o hc e n=>u.free b o e n hc) (fun b o hc e=>u.there b o e hc) u.tups u.frzs u.tbls (fun m' hm=>by obtain⟨o',pj,pq,fG,r'⟩:=hm;rw[ho]at fG;cases fG;exact⟨_,pj,pq,hL,r'⟩) hok hg
theorem Inv.turned{t':Nat}{it:Addr}(I:Inv X pins σ H s)(k:∀b o,b≠it->s.heap.get? b=some o->h'.get? b=some o)(hn:H it=none)(hL:it≠X.env.locals) (h1:it∈X.ex\/X.s₀.heap.objs.size<=it)(h2:∀x c,X.env.cells.lookup x=some c->c≠it)(h3:∀p∈X.pn++pins,p.1≠it):Inv X pins σ H {s with heap:=h',toks:=t'}:=by
  have jj:∀b u,H b=some u->b≠it:=fun b u e z=>by rw[z,hn]at e;cases e
  refine I.step (g':=s.gens) (d':=s.drawn) (ch:=[it]) (fun b hb=>?_) (fun b o _ _ hc e _=>k b o (fun z=>hc (by simp[z])) e) (fun b o _ _ hc e _=>⟨o.slots,k b o (fun z=>hc (by simp[z])) e⟩) (fun _ _ _ _ n=>n) (fun b o hc e=>⟨o,k b o (fun z=>hc (by simp[z])) e⟩) (fun _ _ e=>e) (fun _ _ _ e=>e) (fun b ps e=>⟨#[],by rw[e];simp⟩) (fun m hm=>?_) (fun b u e=>?_) I.bare
  · have e:b=it:=by simpa using hb
    subst e;exact⟨h1,hL,h2,h3⟩
  · obtain⟨o,es,ep,ho,r⟩:=hm
    exact⟨o,es,ep,k _ o (dC hL) ho,r⟩
  · refine(I.hok b u e).eU (fun c v hc q=>k c v ?_ q) (fun _ q=>q) fun _ _ q=>q
    rcases hc with z|z
    ·rw[z];exact jj b u e
    ·exact jj c _ z
theorem Inv.tok(I:Inv X pins σ H s)(t:Nat):Inv X pins σ H {s with toks:=t}:=I.un (h':=s.heap) (t':=t) Un.refl I.hok
theorem Inv.kept{t':Nat}(I:Inv X pins σ H s)(k:∀b u,s.heap.get? b=some u->h'.get? b=some u):Inv X pins σ H {s with heap:=h',toks:=t'}:=I.un (Un.kept k) (I.hok.kept k)
theorem Inv.laid{a:Addr}{o:HO}{t':Nat}(I:Inv X pins σ H s)(k:∀b u,s.heap.get? b=some u->h'.get? b=some u)(hp:s.heap.objs.size<=a)(new:cz X.prog X.w (upd H a o) h' a o): Inv X pins σ (upd H a o) {s with heap:=h',toks:=t'}:=I.un (Un.laid k hp (I.hok.fresh hp)) (I.hok.laid k hp new)
theorem Inv.write{x e:Addr}{o:HO}{t':Nat}(I:Inv X pins σ H s)(mu:m4 (H x))(he:e=x\/H e=some (.own x))(k:∀b u,b≠e->s.heap.get? b=some u->h'.get? b=some u)(iA:∃u,h'.get? e=some u) (new:cz X.prog X.w (upd H x o) h' x o):Inv X pins σ (upd H x o) {s with heap:=h',toks:=t'}:=I.un (Un.write mu he k iA) (I.hok.write mu he k iA new)
theorem Inv.sM{nS:List (Addr×Obj)}(I:Inv X pins σ H s)(h:∀p∈nS,s.heap.get? p.1=some p.2/\H p.1=none/\p.1≠X.env.locals/\p.1∉X.fs/\∀v,p.2.data≠ .cell v):Inv X nS σ H s:=⟨I.ok,I.os,I.bare,I.base,I.loc,I.cell,I.free,I.freeC,fun p hp=>(kd.mp hp).elim (fun z=>I.pin p (xR _ z)) (h p),I.hok,I.len⟩
theorem nZ{N:List Str}(hN:N.Nodup){i j:Nat}{x:Str}(a:N[i]? =some x)(b:N[j]? =some x):i=j:=by obtain⟨h1,e1⟩:=fS.mp a;obtain⟨h2,e2⟩:=fS.mp b;exact(List.getElem_inj hN).mp (e1.trans e2.symm)
theorem za{M:Model}{A:Hi}{E:Value->Hf->Prop}{i:Nat}{x:Str}{v:V}{u:Value}{Q:Unit->Hf->Prop}(I:Inv X pins σ H s)(hN:X.N.Nodup)(hi:X.N[i]? =some x)(hx:Loc X.env.scope x)(r:RelV v u) (h:∀s',Inv X pins (σ.set i (some v)) H s'->(∃a,Heap.SameBut a s.heap s'.heap/\(a=X.env.locals\/X.env.cells.lookup x=some a))->Q () s')(hf:X.fn x=true\/X.env.scope.names.lookup x=some .local:=by first|exact .inl rfl|exact .inr rfl|assumption):wpAny M A (storeName X.env x u) Q E s:=by
  obtain⟨m,hn,hl⟩:=id I.loc;have jz:(X.env.scope.kind== .class||(X.env.scope.kind== .module&&X.env.locals !=X.env.globals))=false:=by rw[I.ok.kind];rfl
  have lC:i<σ.length:=by rw[I.len];exact(fS.mp hi).1
  have eM:=I.eM;have tracked:∀{a:Addr}{h':Heap},(∃o,s.heap.get? a=some o/\H a=none)->Heap.SameBut a s.heap h'->bq X.prog X.w H h':=fun{a h'} ha hs b ob e=>by
   obtain⟨_,_,lE⟩:=ha;refine(I.hok b ob e).eU (fun c w' hc q=>(hs.2 c ?_).trans q) (fun _ q=>q) fun _ _ q=>q;rintro rfl;rcases hc with rfl|hc
   ·rw[lE]at e;cases e
   ·rw[lE]at hc;cases hc
  rcases hx with hk|hk
  · refine wpAny_storeName_local hk hn (fun h' oG hs=>?_) jz
    obtain⟨oL,_,_,ur,_⟩:=id hn;refine h _ ⟨I.ok,I.os,I.bare,⟨fun b o e n hb hx=>?_,fun b o e n hb hx=>?_,I.base.free,fun b o e hx=>?_,I.base.tups,I.base.frzs,I.base.tbls⟩,⟨_,oG,fun j y v' e1 e2 e3=>?_⟩,fun y c e=>?_,I.free,I.freeC,fun p hp=>?_,tracked ⟨oL,ur,I.free⟩ hs,by simpa using I.len⟩ ⟨_,hs,.inl rfl⟩
    ·exact(hs.2 b (cg (cN (aU e) I.ok.above))).trans (I.base.keep b o e n hb hx)
    · obtain⟨sl,e1⟩:=I.base.slot b o e n hb hx
      exact⟨sl,(hs.2 b (cg (cN (aU e) I.ok.above))).trans e1⟩
    · obtain⟨o',e1⟩:=I.base.there b o e hx
      exact⟨o',(hs.2 b (cg (cN (aU e) I.ok.above))).trans e1⟩
    · by_cases hj:j=i
      · subst hj
        rw[hi]at e1;cases e1;rw[qr lC]at e2;cases e2;exact⟨u,r,.inl ⟨hk,by simp⟩⟩
      · rw[xU (dC hj)]at e2
        obtain⟨u',r',q⟩:=hl j y v' e1 e2 e3;refine⟨u',r',?_⟩;rcases q with⟨k,e⟩|⟨k,c,e,z⟩
        · refine .inl ⟨k,?_⟩
          have:y≠x:=fun e=>hj (nZ hN e1 (e▸hi));simp[this,e]
        ·exact .inr ⟨k,c,e,z.sameBut hs (eM y c e)⟩
    · obtain⟨w',z⟩:=I.cell y c e
      exact⟨w',z.sameBut hs (eM y c e)⟩
    · obtain⟨e,n,ne,nf,d⟩:=I.pin p hp
      exact⟨(hs.2 p.1 ne).trans e,n,ne,nf,d⟩
  · have oM:X.fn x=true:=by
      rcases hf with z|z
      ·exact z
      ·rw[z]at hk;cases hk
    obtain⟨c,hc⟩:=I.ok.has x (.inl hk);obtain⟨w',z⟩:=I.cell x c hc;refine wpAny_storeName_cell I.ok.kind hk hc z (fun h' dz hs=>?_);obtain⟨oc,uq,CQ⟩:=id z;refine h {s with heap:=h'} ⟨I.ok,I.os,I.bare,⟨fun b o e n hb hx=>?_,fun b o e n hb hx=>?_,I.base.free,fun b o e hx=>?_,I.base.tups,I.base.frzs,I.base.tbls⟩,⟨m,hn.sameBut hs (dC (eM x c hc)),fun j y v' e1 e2 e3=>?_⟩,fun y c' e=>?_,I.free,I.freeC,fun p hp=>?_,tracked ⟨oc,uq,I.freeC x c hc⟩ hs,by simpa using I.len⟩ ⟨c,hs,.inr hc⟩
    ·exact(hs.2 b (cg (cN (aU e) (I.ok.cab x c oM hc)))).trans (I.base.keep b o e n hb hx)
    · obtain⟨sl,e1⟩:=I.base.slot b o e n hb hx
      exact⟨sl,(hs.2 b (cg (cN (aU e) (I.ok.cab x c oM hc)))).trans e1⟩
    · obtain⟨o',e1⟩:=I.base.there b o e hx
      exact⟨o',(hs.2 b (cg (cN (aU e) (I.ok.cab x c oM hc)))).trans e1⟩
    · by_cases hj:j=i
      · subst hj
        rw[hi]at e1;cases e1;rw[qr lC]at e2;cases e2;exact⟨u,r,.inr ⟨.inl hk,c,hc,dz⟩⟩
      · rw[xU (dC hj)]at e2
        obtain⟨u',r',q⟩:=hl j y v' e1 e2 e3;refine⟨u',r',?_⟩;rcases q with q|⟨k,c',e,z'⟩
        ·exact .inl q
        · refine .inr ⟨k,c',e,z'.sameBut hs ?_⟩
          rintro rfl;exact hj (nZ hN e1 (I.ok.inj _ _ _ e hc▸hi))
    · by_cases uE:c'=c
      ·subst uE;exact⟨_,dz⟩
      · obtain⟨w2,z2⟩:=I.cell y c' e
        exact⟨w2,z2.sameBut hs uE⟩
    · obtain⟨e,n,ne,nf,d⟩:=I.pin p hp
      refine⟨(hs.2 p.1 ?_).trans e,n,ne,nf,d⟩;intro q;rw[q,uq]at e;have q':oc=p.2:=cu e;exact d w' (by rw[<-q'];exact CQ)
theorem kB{M:Model}{A:Hi}{E:Value->Hf->Prop}{i:Nat}{x:Str}{v:V}{u:Value}{Q:Unit->Hf->Prop}(I:Inv X pins σ H s)(hN:X.N.Nodup)(hi:X.N[i]? =some x)(hx:Loc X.env.scope x)(r:RelV v u) (h:∀s',Inv X pins (σ.set i (some v)) H s'->Q () s')(hf:X.fn x=true\/X.env.scope.names.lookup x=some .local:=by first|exact .inl rfl|exact .inr rfl|assumption):wpAny M A (storeName X.env x u) Q E s:=za I hN hi hx r (fun s' I' _=>h s' I') hf
theorem Inv.pH{s':Hf}{ch:List Addr}(I:Inv X pins σ H s)(ho:s'.os=s.os)(u:Un (bI X.stack) ch H H' s.heap s'.heap)(hok:bq X.prog X.w H' s'.heap)(hg:AllBare s'.gens) (dP:∀b∈ch,(b∈X.ex\/X.s₀.heap.objs.size<=b)/\b≠X.env.locals/\(∀x c,X.env.cells.lookup x=some c->c≠b)/\∀p∈X.pn++pins,p.1≠b):Inv X pins σ H' s':=by obtain⟨h',g',d',t',o'⟩:=s';have e:o'=s.os:=ho;subst e;exact I.call (g':=g') (t':=t') (d':=d') u hok hg dP
end
abbrev XK:=Value->Option Addr->Hp->Prop
abbrev St:=List (Option V)
abbrev VK:=V->Hp->Prop
abbrev TE:=St->Hp->VK->Prop
abbrev TT:=St->Hp->(Bool->Hp->Prop)->Prop
abbrev TA:=St->Hp->(List V->Hp->Prop)->Prop
structure Ends where
 nx:St->Hp->Prop
 rt:VK
 bk:St->Hp->Prop:=fun _ _=>False
 ct:St->Hp->Prop:=fun _ _=>False
abbrev TS:=Ends->St->Hp->Prop
def EP(X:Cx)(pins:List (Addr×Obj))(σ:St)(Q:VK)(u:Value)(s':Hf):Prop:=∃v H',Inv X pins σ H' s'/\RelV v u/\Q v H'
def TP(X:Cx)(pins:List (Addr×Obj))(σ:St)(Q:Bool->Hp->Prop)(b:Bool)(s':Hf):Prop:=∃H',Inv X pins σ H' s'/\Q b H'
def AP(X:Cx)(pins:List (Addr×Obj))(σ:St)(Q:List V->Hp->Prop)(us:List Value)(s':Hf):Prop:=∃vs H',Inv X pins σ H' s'/\Vals vs us/\Q vs H'
def SP(X:Cx)(pins:List (Addr×Obj))(D:Ends)(f:Flow)(s':Hf):Prop:=match f with | .next=>∃σ' H',Inv X pins σ' H' s'/\D.nx σ' H' | .brk=>∃σ' H',Inv X pins σ' H' s'/\D.bk σ' H' | .cont=>∃σ' H',Inv X pins σ' H' s'/\D.ct σ' H' | .ret u=>∃v σ' H',Inv X pins σ' H' s'/\RelV v u/\D.rt v H'
def PE(X:Cx)(e:Expr)(t:TE):Prop:=∀(pins:List (Addr×Obj))(s:Hf)(σ:St)(H:Hp)(Q:VK),Inv X pins σ H s->t σ H Q->wpAny (model X.prog X.w) X.A (eval e X.env) (EP X pins σ Q) X.xe s
def PT(X:Cx)(e:Expr)(t:TT):Prop:=∀(pins:List (Addr×Obj))(s:Hf)(σ:St)(H:Hp)(Q:Bool->Hp->Prop),Inv X pins σ H s->t σ H Q->wpAny (model X.prog X.w) X.A (isTrue e X.env (eval e X.env)) (TP X pins σ Q) X.xe s
def PW(X:Cx)(e:Expr)(t:TT):Prop:=∀(whole:Sem Value)(pins:List (Addr×Obj))(s:Hf)(σ:St)(H:Hp)(Q:Bool->Hp->Prop),Inv X pins σ H s->t σ H Q->wpAny (model X.prog X.w) X.A (isTrue e X.env whole) (TP X pins σ Q) X.xe s
theorem PW.pt{X:Cx}{e:Expr}{t:TT}(h:PW X e t):PT X e t:=h _
def PA(X:Cx)(es:List Expr)(t:TA):Prop:=∀(pos:Pos)(pins:List (Addr×Obj))(s:Hf)(σ:St)(H:Hp)(Q:List V->Hp->Prop),Inv X pins σ H s->t σ H Q->wpAny (model X.prog X.w) X.A (spliced (backTo pos (starEach es X.env))) (AP X pins σ Q) X.xe s
def PS(X:Cx)(st:Stmt)(t:TS):Prop:=∀(pins:List (Addr×Obj))(s:Hf)(σ:St)(H:Hp)(D:Ends),Inv X pins σ H s->t D σ H->wpAny (model X.prog X.w) X.A (exec st X.env) (SP X pins D) X.xe s
def bJ(X:Cx)(st:List Stmt)(t:TS):Prop:=∀(pins:List (Addr×Obj))(s:Hf)(σ:St)(H:Hp)(D:Ends),Inv X pins σ H s->t D σ H->wpAny (model X.prog X.w) X.A (execs st X.env) (SP X pins D) X.xe s
theorem ak{α:Type}{t:Sem α}{Q Q':α->Hf->Prop}{M:Model}{A:Hi}{E:Value->Hf->Prop}{s:Hf}(h:wpAny M A t Q E s)(hQ:∀a s,Q a s->Q' a s):wpAny M A t Q' E s:=d9 h hQ fun _ _ x=>x
section
variable {X:Cx}
inductive vT(i:Nat)(σ:St)(H:Hp)(Q:VK):Prop |mk (v:_)(h0:σ[i]? =some (some v))(h1:Q v H):vT i σ H Q
def qJ(i:Nat):TE:=fun σ H Q=>vT i σ H Q
def tC (v:V):TE:=fun _ H Q=>Q v H
theorem sP{i:Nat}{x:Str}{pos:Pos}(hN:X.N[i]? =some x)(hv:lY X.env.scope x)(hd:(x==("__debug__":Str))=false:=by decide)(bN:(x==("__classdict__":Str))=false:=by decide):PE X (.Name x pos) (qJ i):=by
 intro pins s σ H Q I h;obtain⟨v,e,h⟩:=h;obtain⟨m,hn,hl⟩:=I.loc;obtain⟨u,r,l⟩:=hl i x v hN e hv;have fin:EP X pins σ Q u s:=⟨v,H,I,r,h⟩;rcases l with⟨hk,hm⟩|⟨hk,c,hc,iB⟩
 ·exact wpAny_Name (wpAny_loadName_local I.ok.kind hk hn hm fin) hd
 · rcases hk with hk|hk
   ·exact wpAny_Name (wpAny_loadName_cell I.ok.kind hk hc iB fin) hd
   ·exact wpAny_Name (wpAny_loadName_free I.ok.kind hk hc iB fin bN) hd
theorem aj{i j pos}:PE X (.Constant (.int i) j pos) (tC (.int i)):=fun _ _ _ H _ I h=>wpAny_Constant_int ⟨.int i,H,I.tok _,⟨_,rfl⟩,h⟩
theorem dw{b j pos}:PE X (.Constant (.bool b) j pos) (tC (.bl b)):=fun _ _ _ H _ I h=>Constant_bool ⟨.bl b,H,I,rfl,h⟩
theorem sR{j pos}:PE X (.Constant .none j pos) (tC .ax):=fun _ _ _ H _ I h=>Constant_none ⟨.ax,H,I,rfl,h⟩
theorem cL{x j pos}:PE X (.Constant (.str x) j pos) (tC (.str x)):=fun _ _ _ H _ I h=>Calls.Constant_str ⟨.str x,H,I.tok _,⟨_,rfl⟩,h⟩
def Gl(X:Cx)(x:Str):Prop:=X.env.kindOf x=some .globalImplicit
theorem g6{E:Value->Hf->Prop}{pins:List (Addr×Obj)}{s:Hf}{σ:St}{H:Hp}{x:Str}{u:Value}{pos:Pos}{Q:Value->Hf->Prop}(I:Inv X pins σ H s)(hg:Gl X x)(hm:X.mg x=some u)(h:Q u s) (hd:(x==("__debug__":Str))=false:=by decide):wpAny (model X.prog X.w) X.A (eval (.Name x pos) X.env) Q E s:=Calls.Name_function_global I.ok.kind hg (Calls.loadGlobal_global (by rw[I.ok.glob];exact I.mod.glob.keeps I.bk) hm h) hd
theorem ix{E:Value->Hf->Prop}{pins:List (Addr×Obj)}{s:Hf}{σ:St}{H:Hp}{x:Str}{u:Value}{pos:Pos}{Q:Value->Hf->Prop}(I:Inv X pins σ H s)(hg:Gl X x)(hm:X.mg x=none)(hv:bootBuiltins x=some u)(h:Q u s) (hn:x≠"__name__":=by decide)(hd:(x==("__debug__":Str))=false:=by decide):wpAny (model X.prog X.w) X.A (eval (.Name x pos) X.env) Q E s:=by obtain⟨mb,h1,h2⟩:=I.mod.blt;exact Calls.Name_function_global I.ok.kind hg (Calls.loadGlobal_builtin (by rw[I.ok.glob];exact I.mod.glob.keeps I.bk) hm (by rw[I.ok.blt];exact h1.keeps I.bk) ((h2 x hn).trans hv) h) hd
theorem Aj{x:Str}{v:V}{u:Value}{pos:Pos}(hg:Gl X x)(hm:X.mg x=some u)(r:RelV v u)(hd:(x==("__debug__":Str))=false:=by decide):PE X (.Name x pos) (tC v):=fun _ _ _ H _ I h=>g6 I hg hm ⟨v,H,I,r,h⟩ hd
theorem dH{x:Str}{v:V}{u:Value}{pos:Pos}(hg:Gl X x)(hm:X.mg x=none)(hv:bootBuiltins x=some u)(r:RelV v u)(hn:x≠"__name__":=by decide)(hd:(x==("__debug__":Str))=false:=by decide):PE X (.Name x pos) (tC v):=fun _ _ _ H _ I h=>ix I hg hm hv ⟨v,H,I,r,h⟩ hn hd
variable {a b:Expr}{ta tb:TE}{pos:Pos}
def PC(X:Cx)(op:CmpOp)(a b:Expr)(t:TE):Prop:=∀(pins:List (Addr×Obj))(s:Hf)(σ:St)(H:Hp)(Q:VK),Inv X pins σ H s->t σ H Q->wpAny (model X.prog X.w) X.A (eval a X.env) (fun v s₁=>wpAny (model X.prog X.w) X.A (eval b X.env) (fun u s₂=>wpAny (model X.prog X.w) X.A (compareOp op v u) (EP X pins σ Q) X.xe s₂) X.xe s₁) X.xe s
inductive w4(Q:Bool->Hp->Prop)(x:V)(H1:Hp):Prop |mk (c:_)(h0:x= .bl c)(h1:Q c H1):w4 Q x H1
def tB(t:TE):TT:=fun σ H Q=>t σ H fun x H1=>w4 Q x H1
theorem zZ{op:CmpOp}{t:TE}(h:PC X op a b t)(h1:behindInMarks op b=false:=by first|exact Gs _ (by decide) (by decide)|rfl):PT X (.Compare a [op] [b] pos) (tB t):=by intro pins s σ H Q I hw;refine wpAny_isTrue_Compare1 (ak (h pins s σ H _ I hw) fun v s1 h1=>ak h1 fun u s2 h2=>ak h2 fun c s3 ⟨x,H1,I1,r1,q1⟩=>?_) h1;obtain⟨d,rfl,q⟩:=q1;cases r1;exact gX ⟨H1,I1,q⟩
theorem cP{e:Expr}{t:TE}(h:PE X e t)(he:∀whole,isTrue e X.env whole=(do let v<-whole;standAt e.pos;holding [v] (truthy v)):=by intro _;rfl):PT X e (tB t):=by intro pins s σ H Q I hw;refine isTrue_plain (ak (h pins s σ H _ I hw) fun v s1 ⟨x,H1,I1,r1,q1⟩=>?_) (he _);obtain⟨d,rfl,q⟩:=q1;cases r1;exact gX ⟨H1,I1,q⟩
variable {tA ky:TT} {rest:List Expr}
def yY(t u:TT):TT:=fun σ H Q=>t σ H fun c H1=>if c=true then u σ H1 Q else Q false H1
def yC(t u:TT):TT:=fun σ H Q=>t σ H fun c H1=>if c=true then Q true H1 else u σ H1 Q
def yE(t:TT):TT:=fun σ H Q=>t σ H fun c H1=>Q (!c) H1
theorem zV(ha:PT X a tA):PW X (.BoolOp .And [a] pos) tA:=by intro wh pins s σ H Q I h;refine isTrue_and (ak (ha pins s σ H Q I h) fun c s1 e=>?_);cases c with |true=>exact isTrue_and_nil e |false=>exact e
theorem fA(ha:PT X a tA):PW X (.BoolOp .Or [a] pos) tA:=by intro wh pins s σ H Q I h;refine isTrue_or (ak (ha pins s σ H Q I h) fun c s1 e=>?_);cases c with |false=>exact isTrue_or_nil e |true=>exact e
theorem zW(ha:PT X a tA)(hb:PW X (.BoolOp .And (b::rest) pos) ky):PW X (.BoolOp .And (a::b::rest) pos) (yY tA ky):=by intro wh pins s σ H Q I h;refine isTrue_and (ak (ha pins s σ H _ I h) fun c s1 ⟨H1,I1,q1⟩=>?_);cases c with |true=>exact hb wh pins s1 σ H1 Q I1 q1 |false=>exact⟨H1,I1,q1⟩
theorem eZ(ha:PT X a tA)(hb:PW X (.BoolOp .Or (b::rest) pos) ky):PW X (.BoolOp .Or (a::b::rest) pos) (yC tA ky):=by intro wh pins s σ H Q I h;refine isTrue_or (ak (ha pins s σ H _ I h) fun c s1 ⟨H1,I1,q1⟩=>?_);cases c with |true=>exact⟨H1,I1,q1⟩ |false=>exact hb wh pins s1 σ H1 Q I1 q1
theorem df(ha:PT X a tA):PT X (.UnaryOp .Not a pos) (yE tA):=by intro pins s σ H Q I h;exact isTrue_not (ha pins s σ H (fun c H1=>Q (!c) H1) I h)
inductive w6(tb:TE)(σ:St)(Q:VK)(x:V)(H1:Hp):Prop |mk (c:_)(h0:x= .bl c)(h1:if c=true then tb σ H1 Q else Q (.bl false) H1):w6 tb σ Q x H1
def yX(ta tb:TE):TE:=fun σ H Q=>ta σ H fun x H1=>w6 tb σ Q x H1
inductive vX(Q:VK)(x:V)(H1:Hp):Prop |mk (c:_)(h0:x= .bl c)(h1:Q (.bl (!c)) H1):vX Q x H1
def yD(ta:TE):TE:=fun σ H Q=>ta σ H fun x H1=>vX Q x H1
theorem jc{op}{t:TE}(h:PE X a t):PE X (.BoolOp op [a] pos) t:=fun pins s σ H Q I hw=>BoolOp_one (h pins s σ H Q I hw)
theorem je(ha:PE X a ta)(hb:PE X (.BoolOp .And (b::rest) pos) tb):PE X (.BoolOp .And (a::b::rest) pos) (yX ta tb):=by intro pins s σ H Q I h;refine BoolOp_and (ak (ha pins s σ H _ I h) fun v s1 ⟨x,H1,I1,r1,q1⟩=>?_);obtain⟨c,rfl,q1⟩:=q1;cases r1;refine gX ?_;cases c with |true=>exact hb pins s1 σ H1 Q I1 q1 |false=>exact⟨.bl false,H1,I1,rfl,q1⟩
theorem sQ(ha:PE X a ta):PE X (.UnaryOp .Not a pos) (yD ta):=by intro pins s σ H Q I h;refine UnaryOp_ (ak (ha pins s σ H _ I h) fun v s1 ⟨x,H1,I1,r1,q1⟩=>?_);obtain⟨c,rfl,q1⟩:=q1;cases r1;exact not_of (gX ⟨.bl (!c),H1,I1,rfl,q1⟩)
def yP(t:TT)(ta tb:TE):TE:=fun σ H Q=>t σ H fun c H1=>if c=true then ta σ H1 Q else tb σ H1 Q
theorem Ai{c:Expr}(hc:PT X c tA)(ha:PE X a ta)(hb:PE X b tb):PE X (.IfExp c a b pos) (yP tA ta tb):=by intro pins s σ H Q I h;refine wpAny_IfExp (ak (hc pins s σ H _ I h) fun d s1 ⟨H1,I1,q1⟩=>?_);cases d with |true=>exact ha pins s1 σ H1 Q I1 q1 |false=>exact hb pins s1 σ H1 Q I1 q1
end
end L2
namespace L2
open PySem PySem.Spec PyProof.Rows
def aq(K:He)(H:Hp)(a:Addr)(xs:List V):Prop:=Rd H a (.lst xs)\/ ∃(o:Obj)(its:Array Value)(n:Nat),K.lookup a=some o/\o.cls= .type "list"/\o.dict=none/\o.data= .seq its n/\its.size<=sizeLine/\Vals xs its.toList
def aH(K:He)(H:Hp)(a:Addr)(xs:List V):Prop:=Rd H a (.tup xs)\/ ∃(o:Obj)(its:Array Value)(n:Nat),K.lookup a=some o/\o.cls= .type "tuple"/\o.data= .seq its n/\its.size<=sizeLine/\Vals xs its.toList
def FY:Value->Option V | .none=>some .ax | .bool b=>some (.bl b) | .int i _=>some (.int i) | .str x _=>some (.str x) | .bytes b _=>some (.dW b) | .float b _=>some (.lM b) | .ref a=>some (.ref a) | .type n=>some (.ty n) |_=>none
theorem RelV.abs{x:V}{u:Value}(r:RelV x u):FY u=some x:=by cases x with |ax=>cases r;rfl |bl _=>cases r;rfl |int _=>obtain⟨t,rfl⟩:=r;rfl |str _=>obtain⟨t,rfl⟩:=r;rfl |dW _=>obtain⟨t,rfl⟩:=r;rfl |lM _=>obtain⟨t,rfl⟩:=r;rfl |ref _=>cases r;rfl |ty _=>cases r;rfl
theorem RelV.inj{x y:V}{u:Value}(r:RelV x u)(q:RelV y u):x=y:=cu (r.abs.symm.trans q.abs)
theorem Vals.inj:∀{xs ys:List V}{us:List Value},Vals xs us->Vals ys us->xs=ys |_,_,_,.nil,.nil=>rfl |_,_,_,.cons r t,.cons r' t'=>by rw[r.inj r',Vals.inj t t']
section
variable {X:Cx}{pins:List (Addr×Obj)}{σ:St}{H:Hp}{s:Hf}{a:Addr}{xs ys:List V}
theorem aq.of{K:He}(h:H a=some (.lst xs)):aq K H a xs:=.inl (.inl h)
theorem aH.of{K:He}(h:H a=some (.tup xs)):aH K H a xs:=.inl (.inl h)
theorem Inv.list(I:Inv X pins σ H s)(h:aq X.K H a xs):∃its:List Value,Vals xs its/\PlainL s.heap a its.toArray/\xs.length<=sizeLine:=by
 rcases h with h|⟨o,its,n,hk,hc,hd,hs,hz,r⟩
 · obtain⟨z,its,n,r,e⟩:=h.ok I.hok
   exact⟨its,r,⟨_,n,e,rfl,rfl,rfl⟩,z⟩
 · refine⟨its.toList,r,⟨o,n,I.bG a o hk,hc,hd,by simpa using hs⟩,?_⟩
   have e:=r.length;simp only[gw]at e;omega
theorem Inv.tuple(I:Inv X pins σ H s)(h:aH X.K H a xs):∃its:List Value,Vals xs its/\IsTup s.heap a its.toArray/\xs.length<=sizeLine:=by
 rcases h with h|⟨o,its,n,hk,hc,hs,hz,r⟩
 · obtain⟨z,its,r,p⟩:=h.ok I.hok
   exact⟨its,r,p,z⟩
 · refine⟨its.toList,r,⟨o,I.bG a o hk,hc,n,by simpa using hs⟩,?_⟩
   have e:=r.length;simp only[gw]at e;omega
theorem Inv.C0(I:Inv X pins σ H s)(h:aq X.K H a xs)(h':aq X.K H a ys):xs=ys:=by
 obtain⟨its,r,⟨o,n,e,_,_,d⟩,_⟩:=I.list h;obtain⟨its',r',⟨o',n',e',_,_,d'⟩,_⟩:=I.list h';rw[e]at e';cases e';rw[d]at d';injection d' with d1 _;have:its=its':=by simpa using gs Array.toList d1
 subst this;exact r.inj r'
theorem Inv.qH(I:Inv X pins σ H s)(h:aH X.K H a xs)(h':aH X.K H a ys):xs=ys:=by
 obtain⟨its,r,⟨o,e,_,n,d⟩,_⟩:=I.tuple h;obtain⟨its',r',⟨o',e',_,n',d'⟩,_⟩:=I.tuple h';rw[e]at e';cases e';rw[d]at d';injection d' with d1 _;have:its=its':=by simpa using gs Array.toList d1
 subst this;exact r.inj r'
end
abbrev Cx.de(X:Cx)(E:Value->Hf->Prop):Cx:={X with xe:=E}
abbrev Cx.fc(X:Cx):Cx:=X.de fun _ _=>False
theorem Cx.Ok.de{X:Cx}(ok:X.Ok)(E:Value->Hf->Prop):(X.de E).Ok:=⟨ok.mod,ok.kind,ok.glob,ok.blt,ok.above,ok.inj,ok.has,ok.cab,ok.hd,ok.frames,ok.stk,ok.exf,ok.bs,ok.bsz,ok.noex,ok.exfs,ok.cM,ok.frf⟩
theorem Cx.Ok.eT{X:Cx}{E:Value->Hf->Prop}(ok:(X.de E).Ok):X.Ok:=⟨ok.mod,ok.kind,ok.glob,ok.blt,ok.above,ok.inj,ok.has,ok.cab,ok.hd,ok.frames,ok.stk,ok.exf,ok.bs,ok.bsz,ok.noex,ok.exfs,ok.cM,ok.frf⟩
section
variable {X:Cx}{pins:List (Addr×Obj)}{σ:St}{H:Hp}{s:Hf}{E:Value->Hf->Prop}
theorem Inv.de(I:Inv X pins σ H s)(E:Value->Hf->Prop):Inv (X.de E) pins σ H s:=⟨I.ok.de E,I.os,I.bare,I.base,I.loc,I.cell,I.free,I.freeC,I.pin,I.hok,I.len⟩
theorem Inv.eT(I:Inv (X.de E) pins σ H s):Inv X pins σ H s:=⟨I.ok.eT,I.os,I.bare,I.base,I.loc,I.cell,I.free,I.freeC,I.pin,I.hok,I.len⟩
theorem SP.eT{D:Ends}{f:Flow}{s':Hf}(h:SP (X.de E) pins D f s'):SP X pins D f s':=by cases f with |next=>obtain⟨σ',H',I,q⟩:=h;exact⟨σ',H',I.eT,q⟩ |brk=>obtain⟨σ',H',I,q⟩:=h;exact⟨σ',H',I.eT,q⟩ |cont=>obtain⟨σ',H',I,q⟩:=h;exact⟨σ',H',I.eT,q⟩ |ret u=>obtain⟨v,σ',H',I,r,q⟩:=h;exact⟨v,σ',H',I.eT,r,q⟩
theorem bJ.fc{st:List Stmt}{t:TS}(h:bJ X.fc st t):bJ X st t:=fun pins s σ H D I hw=>d9 (h pins s σ H D (I.de _) hw) (fun _ _ q=>q.eT) fun _ _ z=>False.elim z
end
section
variable {X:Cx}{st:Stmt}{rest:List Stmt}{t u:TS}{e:Expr}{te:TE}{pos:Pos}
def yG:TS:=fun D σ H=>D.nx σ H
def yy(t u:TS):TS:=fun D σ H=>t {D with nx:=u D} σ H
theorem bj:bJ X [] yG:=fun _ _ σ H _ I h=>jV ⟨σ,H,I,h⟩
theorem ao(h1:PS X st t)(h2:bJ X rest u):bJ X (st::rest) (yy t u):=by intro pins s σ H D I h;refine wpAny_execs_cons (ak (h1 pins s σ H {D with nx:=u D} I h) fun f s1 q=>?_);cases f with |next=>obtain⟨σ',H',I',q⟩:=q;exact h2 pins s1 σ' H' D I' q |ret v=>exact q |brk=>exact q |cont=>exact q
theorem aD(h1:PS X st t):bJ X [st] t:=by intro pins s σ H D I h;refine wpAny_execs_cons (ak (h1 pins s σ H D I h) fun f s1 q=>?_);cases f with |next=>exact jV q |ret v=>exact q |brk=>exact q |cont=>exact q
theorem Inv.quiet{pins:List (Addr×Obj)}{σ:St}{H:Hp}{s:Hf}(I:Inv X pins σ H s):interactive X.env=false:=by simp[interactive,I.ok.kind]
def yS(te:TE):TS:=fun D σ H=>te σ H fun _ H1=>D.nx σ H1
theorem sI(he:PE X e te)(hs:swapsWith e none pos.line X.env=pure false:=by rfl):PS X (.Expr e pos) (yS te):=by intro pins s σ H D I h;exact wpAny_Expr_any (ak (he pins s σ H _ I h) fun v s1 ⟨x,H1,I1,r1,q1⟩=>⟨σ,H1,I1,q1⟩) I.quiet hs
def yz(te:TE):TS:=fun D σ H=>te σ H D.rt
theorem aW(he:PE X e te):PS X (.Return (some e) pos) (yz te):=by intro pins s σ H D I h;exact wpAny_Return_some (ak (he pins s σ H _ I h) fun v s1 ⟨x,H1,I1,r1,q1⟩=>⟨x,σ,H1,I1,r1,q1⟩)
def yO(c:TT)(t u:TS):TS:=fun D σ H=>c σ H fun b H1=>if b=true then t D σ H1 else u D σ H1
theorem bo{c:Expr}{a b:List Stmt}{tc:TT}(hc:PT X c tc)(ha:bJ X a t)(hb:bJ X b u):PS X (.If c a b pos) (yO tc t u):=by intro pins s σ H D I h;refine wpAny_If (ak (hc pins s σ H _ I h) fun d s1 ⟨H1,I1,q1⟩=>?_);cases d with |true=>exact ha pins s1 σ H1 D I1 q1 |false=>exact hb pins s1 σ H1 D I1 q1
def qK:TS:=fun _ _ _=>False
theorem A1:PS X st qK:=fun _ _ _ _ _ _ h=>h.elim
theorem sE{z9:List Stmt}:bJ X z9 qK:=fun _ _ _ _ _ _ h=>h.elim
end
abbrev TG:=V->St->Hp->(St->Hp->Prop)->Prop
abbrev fm:=List V->St->Hp->(St->Hp->Prop)->Prop
def PG(X:Cx)(target:Expr)(t:TG):Prop:=∀(pins:List (Addr×Obj))(s:Hf)(σ:St)(H:Hp)(v:V)(u:Value)(Q:St->Hp->Prop),Inv X pins σ H s->RelV v u->t v σ H Q->wpAny (model X.prog X.w) X.A (assign target X.env u) (fun _ s'=>∃σ' H',Inv X pins σ' H' s'/\Q σ' H') X.xe s
def jR(X:Cx)(ts:List Expr)(t:fm):Prop:=∀(pins:List (Addr×Obj))(s:Hf)(σ:St)(H:Hp)(vs:List V)(us:List Value)(Q:St->Hp->Prop),Inv X pins σ H s->Vals vs us->t vs σ H Q->wpAny (model X.prog X.w) X.A (assignInOrder ((assignEach ts X.env).map (·.2)) us) (fun _ s'=>∃σ' H',Inv X pins σ' H' s'/\Q σ' H') X.xe s
abbrev pO:=V->V->V->Hp->(Hp->Prop)->Prop
def vN(X:Cx)(t:pO):Prop:=∀(pins:List (Addr×Obj))(s:Hf)(σ:St)(H:Hp)(o i v:V)(ov iv u:Value)(Q:Hp->Prop),Inv X pins σ H s->RelV o ov->RelV i iv->RelV v u->t o i v H Q->wpAny (model X.prog X.w) X.A (setItem ov iv u) (fun _ s'=>∃H',Inv X pins σ H' s'/\Q H') X.xe s
section
variable {X:Cx} {pos:Pos}
def dR(i:Nat):TG:=fun v σ H Q=>Q (σ.set i (some v)) H
theorem A8{i:Nat}{x:Str}(hN:X.N.Nodup)(hi:X.N[i]? =some x)(hx:Loc X.env.scope x)(hf:X.fn x=true\/X.env.scope.names.lookup x=some .local:=by first|exact .inl rfl|exact .inr rfl|assumption):PG X (.Name x pos) (dR i):=by intro pins s σ H v u Q I r h;exact wpAny_assign_Name (kB I hN hi hx r (fun s' I'=>⟨_,H,I',h⟩) hf)
def uR:fm:=fun vs σ H Q=>vs=[]/\Q σ H
inductive xi(t:TG)(u:fm)(vs:List V)(σ:St)(H:Hp)(Q:St->Hp->Prop):Prop |mk (v:_)(r:_)(h0:vs=v::r)(h1:t v σ H fun σ' H'=>u r σ' H' Q):xi t u vs σ H Q
def p6(t:TG)(u:fm):fm:=fun vs σ H Q=>xi t u vs σ H Q
theorem kO:jR X [] uR:=by intro pins s σ H vs us Q I r h;obtain⟨e,h⟩:=h;subst e;cases r;exact assignInOrder_nil ⟨σ,H,I,h⟩
theorem ek{e:Expr}{es:List Expr}{t:TG}{u:fm}(h1:PG X e t)(h2:jR X es u) (hs:(assignEach (e::es) X.env).map (·.2)=assign e X.env::(assignEach es X.env).map (·.2):=by rfl):jR X (e::es) (p6 t u):=by intro pins s σ H vs us Q I r h;obtain⟨v,vr,e1,h⟩:=h;subst e1;cases r with |cons r rr=>rw[hs];refine assignInOrder_cons (ak (h1 pins s σ H _ _ _ I r h) fun _ s1 ⟨σ1,H1,I1,q1⟩=>?_);exact h2 pins s1 σ1 H1 _ _ Q I1 rr q1
inductive xg(K:He)(n:Nat)(t:fm)(v:V)(σ:St)(H:Hp)(Q:St->Hp->Prop):Prop |mk (a:_)(xs:_)(h0:v= .ref a)(h1:aH K H a xs)(h2:xs.length=n)(h3:t xs σ H Q):xg K n t v σ H Q
def p5(K:He)(n:Nat)(t:fm):TG:=fun v σ H Q=>xg K n t v σ H Q
theorem A7{es:List Expr}{k:Nat}{t:fm}{n:Nat}(hc:X.calm=true)(h:jR X es t) (hn:(assignEach es X.env).length=n:=by rfl)(cQ:(assignEach es X.env).findIdx? (·.1)=none:=by rfl):PG X (.Tuple es k pos) (p5 X.K n t):=by intro pins s σ H v u Q I r hw;obtain⟨a,xs,e1,hq,hl,hw⟩:=hw;subst e1;cases r;obtain⟨its,rv,ht,hz⟩:=I.tuple hq;refine assign_Tuple_tuple (I.ok.hd hc) ht (by simp[hn,<-hl,rv.length]) cQ fun h' hx=>?_;have I1:Inv X pins σ H {s with heap:=h'}:=I.kept (t':=s.toks) fun b o e=>hx b o (cg (aU e)) e;exact h pins _ σ H xs _ Q I1 (by simpa using rv) hw
def Ez(to ti:TE)(t:pO):TG:=fun v σ H Q=>to σ H fun o H1=>ti σ H1 fun i H2=>t o i v H2 fun H3=>Q σ H3
theorem sO{o i:Expr}{to ti:TE}{t:pO}(ho:PE X o to)(hi:PE X i ti)(hs:vN X t) (ha:∀v,assign (.Subscript o i pos) X.env v=(do
     let ov<-holding [v] (eval o X.env)
     let iv<-holding [v,ov] (eval i X.env)
     standAt pos
     holding [v,ov,iv] (setItem ov iv v)
     release [v,ov,iv] []):=by intro _;rfl):PG X (.Subscript o i pos) (Ez to ti t):=by
  intro pins s σ H v u Q I r h;rw[ha];refine ae (dB (ak (ho pins s σ H _ I h) fun ov s1 ⟨x,H1,I1,r1,q1⟩=>?_));refine ae (dB (ak (hi pins s1 σ H1 _ I1 q1) fun iv s2 ⟨y,H2,I2,r2,q2⟩=>?_));refine ae (wpAny_standAt (ae (dB (ak (hs pins s2 σ H2 x y v ov iv u _ I2 r1 r2 r q2) fun _ s3 ⟨H3,I3,q3⟩=>?_))));exact wpAny_release ⟨σ,H3,I3,q3⟩
def mL(te:TE)(g:TG):TS:=fun D σ H=>te σ H fun x H1=>g x σ H1 D.nx
theorem ja{tg e:Expr}{te:TE}{g:TG}(he:PE X e te)(hg:PG X tg g)(hs:swapsWithSole [tg] e pos.line X.env=pure false:=by rfl)(hw:swappedStores [tg] e X.env=pure none:=by rfl) (h1:(assignEach [tg] X.env).map (·.2)=[assign tg X.env]:=by rfl):PS X (.Assign [tg] e pos) (mL te g):=by intro pins s σ H D I h;refine wpAny_Assign_stores (ak (he pins s σ H _ I h) fun v s1 ⟨x,H1,I1,r1,q1⟩=>?_) hs hw;rw[h1];exact ak (hg pins s1 σ H1 x v _ I1 r1 q1) fun _ s2 q=>q
theorem nR{i:Nat}{x:Str}{e:Expr}{te:TE}{pos':Pos}(hN:X.N.Nodup)(hi:X.N[i]? =some x)(hx:Loc X.env.scope x)(he:PE X e te)(hs:swapsWith e (some (.Name x pos')) pos.line X.env=pure false:=by rfl)(hf:X.fn x=true\/X.env.scope.names.lookup x=some .local:=by first|exact .inl rfl|exact .inr rfl|assumption): PS X (.Assign [.Name x pos'] e pos) (mL te (dR i)):=by intro pins s σ H D I h;refine wpAny_Assign_Name (ak (he pins s σ H _ I h) fun v s1 ⟨y,H1,I1,r1,q1⟩=>?_) hs;exact kB I1 hN hi hx r1 (fun s2 I2=>⟨_,H1,I2,q1⟩) hf
end
section
variable {X:Cx} {pos:Pos}
def qI(c:TT)(tb:TS):TS:=fun D σ H=>∃W:Nat->St->Hp->Prop,(∃m,W m σ H)/\∀m σ H,W m σ H->c σ H fun b H1=>if b=true then∃N:St->Hp->Prop,(∀σ' H',N σ' H'->∃m',m'<m/\W m' σ' H')/\tb {D with nx:=N,ct:=N,bk:=D.nx} σ H1 else D.nx σ H1
theorem sF{c:Expr}{body:List Stmt}{tc:TT}{tb:TS}(hp:PassesOwn (model X.prog X.w) X.A X.env X.xe)(hc:PT X c tc)(hb:bJ X body tb):PS X (.While c body [] pos) (qI tc tb):=by intro pins s σ H D I h;obtain⟨W,⟨m0,w0⟩,turn⟩:=h;refine wpAny_While (codeAny_whileLoop (fun n s'=>∃σ' H',Inv X pins σ' H' s'/\W n σ' H') ?_ m0 ⟨σ,H,I,w0⟩);rintro n s1 ⟨σ1,H1,I1,w1⟩;refine iO hp (ak (hc pins s1 σ1 H1 _ I1 (turn n σ1 H1 w1)) fun b s2 ⟨H2,I2,q2⟩=>?_);cases b with
 |true=>obtain⟨N,hN,q2⟩:=q2;rw[aK rfl];refine iO hp (ak (hb pins s2 σ1 H2 _ I2 q2) fun f s3 q3=>?_);cases f with |next=>obtain⟨σ3,H3,I3,n3⟩:=q3;obtain⟨m',hm,w3⟩:=hN σ3 H3 n3;exact⟨m',hm,σ3,H3,I3,w3⟩ |cont=>obtain⟨σ3,H3,I3,n3⟩:=q3;obtain⟨m',hm,w3⟩:=hN σ3 H3 n3;exact⟨m',hm,σ3,H3,I3,w3⟩ |brk=>exact q3 |ret v=>exact q3
 |false=>rw[aI cj];exact jV ⟨σ1,H2,I2,q2⟩
end
structure It where
 go:Nat->Hp->Prop
 yld:Nat->Hp->V->Hp->Prop
 stop:Nat->Hp->Prop
def fq(X:Cx)(pins:List (Addr×Obj))(H:Hp)(b:Addr):Prop:=H b=none/\b≠X.env.locals/\b∉X.fs/\(b∈X.ex\/X.s₀.heap.objs.size<=b)/\(∀x c,X.env.cells.lookup x=some c->c≠b)/\∀p∈X.pn++pins,p.1≠b
theorem Inv.lL{X:Cx}{pins:List (Addr×Obj)}{σ:St}{H H':Hp}{s:Hf}{b:Addr}(I:Inv X pins σ H s)(hb:s.heap.objs.size<=b)(hn:H' b=none):fq X pins H' b:=by
 refine⟨hn,k9 (cN I.lt hb),I.Bv hb,.inr (dr I.sz hb),fun x c e z=>?_,fun p hp z=>?_⟩
 · obtain⟨v,q⟩:=I.cell x c e
   exact absurd (cN q.lt (by rw[z];exact hb)) (gZ _)
 ·exact absurd (cN (aU (I.pin p hp).1) (by rw[z];exact hb)) (gZ _)
structure Turn(P:Hg)(w:World)(K:He)(tg:Expr)(J:It)(fp:List Addr)(it:Addr)(tn:Nat->Heap->Prop):Prop where
 mem:it∈fp
 obj:∀i h,tn i h->∀b∈fp,∃o,h.get? b=some o/\∀v,o.data≠ .cell v
 keep:∀i h h',tn i h->(∀b∈fp,∀o,h.get? b=some o->h'.get? b=some o)->tn i h'
 item:∀(X:Cx),X.prog=P->X.w=w->X.K=K->X.calm=true->∀(i:Nat)(pins:List (Addr×Obj))(s:Hf)(σ:St)(H:Hp)(E:Value->Hf->Prop),Inv X pins σ H s->(∀b∈fp,fq X pins H b)->tn i s.heap->J.go i H->wpAny (model P w) X.A (pyNext (.ref it)) (fun r s1=>∃u,r=some u/\wpAny (model P w) X.A (letOwnedTupleGo tg (.ref it) u) (fun _ s2=>∃x H',Inv X pins σ H' s2/\RelV x u/\J.yld i H x H'/\tn (i+1) s2.heap/\∀b∈fp,H' b=none) E s1) E s
 done:∀(X:Cx),X.prog=P->X.w=w->X.K=K->X.calm=true->∀(i:Nat)(pins:List (Addr×Obj))(s:Hf)(σ:St)(H:Hp)(E:Value->Hf->Prop),Inv X pins σ H s->(∀b∈fp,fq X pins H b)->tn i s.heap->J.stop i H->wpAny (model P w) X.A (pyNext (.ref it)) (fun r s1=>r=none/\Inv X pins σ H s1) E s
 self:∀(A:Hi)(i:Nat)(s:Hf)(Q:Value->Hf->Prop)(E:Value->Hf->Prop),tn i s.heap->Q (.ref it) s->wpAny (model P w) A (pyIter (.ref it)) Q E s
abbrev TI:=St->Hp->(It->Hp->Prop)->Prop
def vP(X:Cx)(pins:List (Addr×Obj))(σ:St)(tg:Expr)(R:It->Hp->Prop)(om:Value)(s2:Hf):Prop:=∃(it:Addr)(fp:List Addr)(tn:Nat->Heap->Prop)(J:It)(H':Hp),om= .ref it/\Inv X pins σ H' s2/\Turn X.prog X.w X.K tg J fp it tn/\tn 0 s2.heap/\(∀b∈fp,fq X pins H' b)/\R J H'
def PI(X:Cx)(tg iter:Expr)(wi:TI):Prop:=∀(pins:List (Addr×Obj))(s:Hf)(σ:St)(H:Hp)(R:It->Hp->Prop),Inv X pins σ H s->wi σ H R->wpAny (model X.prog X.w) X.A (eval iter X.env) (fun v s1=>wpAny (model X.prog X.w) X.A (pyIter v) (vP X pins σ tg R) X.xe s1) X.xe s
theorem uP{M:Model}{A:Hi}{E:Value->Hf->Prop}{s:Hf}{tg:Expr}{it:Addr}{u:Value}{o:Obj}{n:String}{vs:Array Value}{Q:Unit->Hf->Prop}(ho:s.heap.get? it=some o)(hc:o.cls= .type n)(hd:o.data= .fields vs) (hn:["enumerate","zip","dict_itemiterator","dict_reverseitemiterator","odict_iterator","itertools.zip_longest","itertools.pairwise"].contains n=false)(hQ:Q () s):wpAny M A (letOwnedTupleGo tg (.ref it) u) Q E s:=by unfold letOwnedTupleGo;cases tg<;>first |exact aE hQ |(cases u<;>first
        |exact aE hQ
        | (refine ae (wpAny_load ho ?_)
           rw[hc,hd];show wpAny M A (if(["enumerate","zip","dict_itemiterator","dict_reverseitemiterator","odict_iterator","itertools.zip_longest","itertools.pairwise"].contains n&&vs[0]? ==some (rawInt _))=true then _ else _) Q E s;rw[aI (by intro h;rw[hn,cF]at h;cases h)];exact aE hQ))
def m7(K:He)(a:Addr):It:=⟨fun i H=>∃xs x,aH K H a xs/\xs[i]? =some x,fun i H x H'=>H'=H/\∀xs,aH K H a xs->xs[i]? =some x,fun i H=>∃xs,aH K H a xs/\xs.length<=i⟩
def iM(lo:Int)(n:Nat):It:=⟨fun i _=>i<n,fun i H x H'=>H'=H/\x= .int (lo+i),fun i _=>n<=i⟩
theorem yk{P:Hg}{w:World}{K:He}{tg:Expr}(a it:Addr):Turn P w K tg (m7 K a) [it] it (fun i h=>h.IsTupleIter it a i) where
 mem:=by simp
 obj:=fun i h st b hb=>by
  have e:b=it:=by simpa using hb
  subst e;obtain⟨o,e,c,d⟩:=st;exact⟨o,e,fun v z=>by rw[d]at z;cases z⟩
 keep:=fun i h h' st k=>st.at fun o e=>k it (by simp) o e
 item:=by intro X hP hw hK hc i pins s σ H E I hf st hg;subst hP hw hK;obtain⟨xs,x,hq,hx⟩:=hg;obtain⟨its,rv,p,hz⟩:=I.tuple hq;obtain⟨u,hu,ru⟩:=rv.get hx;obtain⟨f0,f1,f2,f3,f4,f5⟩:=hf it (by simp);refine wpAny_pyNext_tuple_item st (show s.heap.IsTuple a its.toArray from p) (x:=u) (by simpa using hu) fun h' fv sb=>?_;have I1:Inv X pins σ H {s with heap:=h'}:=I.turned (t':=s.toks) (fun b o hb e=>(sb.2 b hb).trans e) f0 f1 f3 f4 f5;obtain⟨o,e,c,d⟩:=id fv;exact⟨u,rfl,uP (s:={s with heap:=h'}) e c d (by decide) ⟨x,H,I1,ru,⟨rfl,fun ys hy=>by rw[I.qH hy hq];exact hx⟩,fv,fun b hb=>(hf b hb).1⟩⟩
 done:=by intro X hP hw hK hc i pins s σ H E I hf st hg;subst hP hw hK;obtain⟨xs,hq,hx⟩:=hg;obtain⟨its,rv,p,hz⟩:=I.tuple hq;obtain⟨f0,f1,f2,f3,f4,f5⟩:=hf it (by simp);have hl:=rv.length;exact wpAny_pyNext_tuple_end (I.ok.hd hc) st (show s.heap.IsTuple a its.toArray from p) (by simp;omega) fun h' eb=>⟨rfl,I.turned (t':=s.toks) (fun b o hb e=>eb b o hb e) f0 f1 f3 f4 f5⟩
 self:=fun _ _ _ _ _ st h=>wpAny_pyIter_tupleiter st h
theorem yl{P:Hg}{w:World}{K:He}{tg:Expr}(it:Addr)(lo:Int)(n:Nat):Turn P w K tg (iM lo n) [it] it (fun i h=>IsRangeIter h it (lo+(i:Nat)*1) ((n:Int)-(i:Nat)) 1) where
 mem:=by simp
 obj:=fun i h st b hb=>by
  have e:b=it:=by simpa using hb
  subst e;exact⟨_,st,fun v z=>by have z':Data.fields _=Data.cell v:=z;cases z'⟩
 keep:=fun i h h' st k=>k it (by simp) _ st
 item:=by intro X hP hw hK hc i pins s σ H E I hf st hg;subst hP hw hK;obtain⟨f0,f1,f2,f3,f4,f5⟩:=hf it (by simp);have W:=Walks.range (prog:=X.prog) (w:=X.w) (I.ok.hd hc) it lo 1 n;refine W.item i s _ _ hg st fun v h' tk hv fv kk=>?_;obtain⟨t,rfl⟩:=hv;have I1:Inv X pins σ H {s with heap:=h',toks:=tk}:=I.turned (fun b o hb e=>kk b o (by simpa using hb) e) f0 f1 f3 f4 f5;refine⟨_,rfl,uP (s:={s with heap:=h',toks:=tk}) (n:="range_iterator") fv rfl rfl (by decide) ⟨.int (lo+i),H,I1,⟨t,?_⟩,⟨rfl,rfl⟩,fv,fun b hb=>(hf b hb).1⟩⟩;rw[Int.mul_one]
 done:=by intro X hP hw hK hc i pins s σ H E I hf st hg;subst hP hw hK;obtain⟨f0,f1,f2,f3,f4,f5⟩:=hf it (by simp);exact wpAny_pyNext_range_end (I.ok.hd hc) st (by have:n<=i:=hg;omega) fun h' eb=>⟨rfl,I.turned (t':=s.toks) (fun b o hb e=>eb b o hb e) f0 f1 f3 f4 f5⟩
 self:=fun _ _ _ _ _ st h=>wpAny_pyIter_rangeiter st h
section
variable {X:Cx} {tg:Expr}
inductive xc(K:He)(R:It->Hp->Prop)(x:V)(H1:Hp):Prop |mk (a:_)(h0:x= .ref a)(h1:(∃xs,aH K H1 a xs))(h2:R (m7 K a) H1):xc K R x H1
def ui(K:He)(tl:TE):TI:=fun σ H R=>tl σ H fun x H1=>xc K R x H1
theorem A6{l:Expr}{tl:TE}(hl:PE X l tl):PI X tg l (ui X.K tl):=by
 intro pins s σ H R I h;refine ak (hl pins s σ H _ I h) fun v s1 ⟨x,H1,I1,r1,q1⟩=>?_;obtain⟨a,e,⟨xs,hq⟩,q⟩:=q1;subst e;cases r1;obtain⟨its,rv,p,hz⟩:=I1.tuple hq;refine wpAny_pyIter_tuple (show s1.heap.IsTuple a its.toArray from p) ?_;refine⟨s1.heap.objs.size,[s1.heap.objs.size],_,_,H1,rfl,I1.kept (t':=s1.toks) fun b o e=>aY _ e,yk a _,⟨_,bP _ rfl,rfl,rfl⟩,fun b hb=>?_,q⟩;have e:b=s1.heap.objs.size:=by simpa using hb
 subst e;exact I1.lL (aJ _) (I1.hok.fresh (aJ _))
theorem zH{pins:List (Addr×Obj)}{σ:St}{H:Hp}{s:Hf}{R:It->Hp->Prop}{E:Value->Hf->Prop}{lo hi:Int}{t u v:Tok}{tk:Nat}(I:Inv X pins σ H s)(h1:-(2^62)<=lo)(h2:lo<2^62)(h3:-(2^62)<=hi)(h4:hi<2^62) (q:R (iM lo (hi-lo).toNat) H):wpAny (model X.prog X.w) X.A (pyIter (.ref s.heap.objs.size)) (vP X pins σ tg R) E {s with heap:=s.heap.push {cls:=.type "range",data:=.fields #[.int lo t,.int hi u,.int 1 v]},toks:=tk}:=by
  refine wpAny_pyIter_range (IsRange.new ..) (small_one h1 h2 h3 h4) ?_;have I1:Inv X pins σ H {s with heap:=s.heap.push {cls:=.type "range",data:=.fields #[.int lo t,.int hi u,.int 1 v]},toks:=tk}:=I.kept fun b o e=>aY _ e;refine⟨(s.heap.push {cls:=.type "range",data:=.fields #[.int lo t,.int hi u,.int 1 v]}).objs.size,[(s.heap.push {cls:=.type "range",data:=.fields #[.int lo t,.int hi u,.int 1 v]}).objs.size],_,_,H,rfl,I1.kept (t':=tk) fun b o e=>aY _ e,yl _ lo (hi-lo).toNat,?_,fun b hb=>?_,q⟩
  · have e1:lo+((0:Nat):Int)*1=lo:=by simp
    have e2:(((hi-lo).toNat:Nat):Int)-((0:Nat):Int)=Builtin.Range.rangeSize lo hi 1:=by rw[rangeSize_one];split<;>omega
    show IsRangeIter _ _ (lo+((0:Nat):Int)*1) ((((hi-lo).toNat:Nat):Int)-((0:Nat):Int)) 1;rw[e1,e2];exact bP _ rfl
  · have e:b=(s.heap.push {cls:=.type "range",data:=.fields #[.int lo t,.int hi u,.int 1 v]}).objs.size:=by simpa using hb
    subst e;exact I1.lL (aJ _) (I1.hok.fresh (aJ _))
inductive xf(R:It->Hp->Prop)(vs:List V)(H1:Hp):Prop |mk (j:Int)(h0:vs=[.int j])(h1:-(2^62)<=j)(h2:j<2^62)(h3:R (iM 0 j.toNat) H1):xf R vs H1
def Cn(ta:TA):TI:=fun σ H R=>ta σ H fun vs H1=>xf R vs H1
theorem kN{a:Expr}{ta:TA}{p pos:Pos}(hg:Gl X "range")(hm:X.mg "range"=none)(ha:PA X [a] ta)(hs:starEach [a] X.env=[(false,eval a X.env)]:=by rfl):PI X tg (.Call (.Name "range" p) [a] [] pos) (Cn ta):=by intro pins s σ H R I h;refine Call_ (ix I hg hm boot_range (qf (ak (ha pos pins s σ H _ I h) fun us s1 ⟨vs,H1,I1,r1,q1⟩=>?_) hs rfl));obtain⟨j,e,q1,q2,q⟩:=q1;subst e;cases r1 with |cons r rr=>cases rr;obtain⟨t,rfl⟩:=r;exact call_range_1 (zH I1 (by omega) (by omega) q1 q2 (by simpa using q))
def yQ(wi:TI)(g:TG)(tb:TS):TS:=fun D σ H=>wi σ H fun J H1=>∃W:Nat->Nat->St->Hp->Prop,(∃m,W 0 m σ H1)/\∀i m σ H,W i m σ H->(J.stop i H/\D.nx σ H)\/(J.go i H/\∃N:St->Hp->Prop,(∀σ' H',N σ' H'->∃m',m'<m/\W (i+1) m' σ' H')/\∀x H',J.yld i H x H'->g x σ H' fun σ2 H2=>tb {D with nx:=N,ct:=N,bk:=D.nx} σ2 H2)
def jb(fp:List Addr)(h:Heap):List (Addr×Obj):=fp.filterMap fun b=>(h.get? b).map fun o=>(b,o)
theorem l8{fp:List Addr}{h:Heap}{b:Addr}{o:Obj}(hb:b∈fp)(e:h.get? b=some o):(b,o)∈jb fp h:=iR.mpr ⟨b,hb,by rw[e];rfl⟩
theorem Bi{fp:List Addr}{h:Heap}{p:Addr×Obj}(hp:p∈jb fp h):p.1∈fp/\h.get? p.1=some p.2:=by obtain⟨b,hb,e⟩:=iR.mp hp;cases q:h.get? b with |none=>rw[q]at e;cases e |some o=>rw[q]at e;have e':(b,o)=p:=cu e;subst e';exact⟨hb,q⟩
theorem Inv.pinned{pins:List (Addr×Obj)}{σ:St}{H:Hp}{s:Hf}{fp:List Addr}(I:Inv X pins σ H s)(hf:∀b∈fp,fq X pins H b)(ho:∀b∈fp,∃o,s.heap.get? b=some o/\∀v,o.data≠ .cell v):Inv X (pins++jb fp s.heap) σ H s:=I.sM fun p hp=>(kd.mp hp).elim (fun z=>I.pin p (fQ _ z)) fun z=>by obtain⟨hb,e⟩:=Bi z;obtain⟨f0,f1,f2,_⟩:=hf p.1 hb;obtain⟨o,e',d⟩:=ho p.1 hb;rw[e]at e';cases e';exact⟨e,f0,f1,f2,d⟩
theorem Inv.kn{pins pl:List (Addr×Obj)}{σ:St}{H:Hp}{s:Hf}(I:Inv X (pins++pl) σ H s):Inv X pins σ H s:=I.sM fun p hp=>I.pin p (fQ _ (xR _ hp))
theorem sH{iter:Expr}{body:List Stmt}{wi:TI}{g:TG}{tb:TS}{pos:Pos}(hp:PassesOwn (model X.prog X.w) X.A X.env X.xe)(hc:X.calm=true)(hi:PI X tg iter wi)(hg:PG X tg g)(hb:bJ X body tb) (hs:∀x,foldedSetIterable iter X.env x=pure x:=by intro _;rfl):PS X (.For tg iter body [] pos) (yQ wi g tb):=by
  intro pins s σ H D I h;refine wpAny_For (ak (hi pins s σ H _ I h) fun v s1 h1=>ak h1 fun om s2 h2=>?_) hs;obtain⟨it,fp,tn,J,H2,e,I2,T,kD,f2,W,⟨m0,w0⟩,turn⟩:=h2;subst e;have gB:∀{H':Hp},(∀b∈fp,H' b=none)->∀b∈fp,fq X pins H' b:=fun hn b hb=>⟨hn b hb,(f2 b hb).2⟩;refine codeAny_forLoop_any (fun n s'=>∃i σ' H',Inv X pins σ' H' s'/\tn i s'.heap/\(∀b∈fp,H' b=none)/\W i n σ' H') ?_ m0 ⟨0,σ,H2,I2,kD,fun b hb=>(f2 b hb).1,w0⟩;rintro n s3 ⟨i,σ3,H3,I3,qR,uU,w3⟩;rcases turn i n σ3 H3 w3 with⟨stop,qn⟩|⟨go,N,hN,step⟩
  · refine iO hp (ak (T.done X rfl rfl rfl hc i pins s3 σ3 H3 X.xe I3 (gB uU) qR stop) fun r s4 ⟨hr,I4⟩=>?_)
    subst hr;exact jV ⟨σ3,H3,I4,qn⟩
  · refine iO hp (ak (T.item X rfl rfl rfl hc i pins s3 σ3 H3 X.xe I3 (gB uU) qR go) fun r s4 ⟨u,hr,h4⟩=>?_)
    subst hr;refine iO hp (ak h4 fun _ s5 ⟨x,H5,I5,r5,y5,hZ,lK⟩=>?_);have G8:=I5.pinned (gB lK) (T.obj _ _ hZ);refine iO hp (ak (hg _ s5 σ3 H5 x u _ G8 r5 (step x H5 y5)) fun _ s6 ⟨σ6,H6,I6,q6⟩=>?_);refine iO hp (ak (hb _ s6 σ6 H6 _ I6 q6) fun f s7 q7=>?_);have again:∀{σ7:St}{H7:Hp},Inv X (pins++jb fp s5.heap) σ7 H7 s7->N σ7 H7->∃m,m<n/\∃i σ' H',Inv X pins σ' H' s7/\tn i s7.heap/\(∀b∈fp,H' b=none)/\W i m σ' H':=fun{σ7 H7} I7 n7=>by obtain⟨m',hm,w7⟩:=hN σ7 H7 n7;refine⟨m',hm,i+1,σ7,H7,I7.kn,T.keep _ _ _ hZ fun b hb o e=>(I7.pin (b,o) (fQ _ (fQ _ (l8 hb e)))).1,fun b hb=>?_,w7⟩;obtain⟨o,e,d⟩:=T.obj _ _ hZ b hb;exact(I7.pin (b,o) (fQ _ (fQ _ (l8 hb e)))).2.1
    cases f with |next=>obtain⟨σ7,H7,I7,n7⟩:=q7;exact again I7 n7 |cont=>obtain⟨σ7,H7,I7,n7⟩:=q7;exact again I7 n7 |brk=>obtain⟨σ7,H7,I7,q7⟩:=q7;exact⟨σ7,H7,I7.kn,q7⟩ |ret v=>obtain⟨x7,σ7,H7,I7,r7,q7⟩:=q7;exact⟨x7,σ7,H7,I7.kn,r7,q7⟩
end
theorem uV{lo:Int}{n:Nat}{g:TG}{tb:TS}{D:Ends}{σ:St}{H:Hp}(Pv:Nat->St->Hp->Prop)(h0:Pv 0 σ H) (hs:∀i σ H,i<n->Pv i σ H->g (.int (lo+i)) σ H fun σ2 H2=>tb {D with nx:=Pv (i+1),ct:=Pv (i+1),bk:=D.nx} σ2 H2)(hd:∀σ H,Pv n σ H->D.nx σ H): ∃W:Nat->Nat->St->Hp->Prop,(∃m,W 0 m σ H)/\∀i m σ H,W i m σ H->((iM lo n).stop i H/\D.nx σ H)\/((iM lo n).go i H/\∃N:St->Hp->Prop,(∀σ' H',N σ' H'->∃m',m'<m/\W (i+1) m' σ' H')/\∀x H',(iM lo n).yld i H x H'->g x σ H' fun σ2 H2=>tb {D with nx:=N,ct:=N,bk:=D.nx} σ2 H2):=by
  refine⟨fun i m σ H=>m=n-i/\i<=n/\Pv i σ H,⟨n,by simp,fO _,h0⟩,?_⟩;rintro i m σ H ⟨rfl,hi,p⟩;by_cases bX:i<n
  · refine .inr ⟨bX,Pv (i+1),fun σ' H' p'=>⟨n-(i+1),by omega,rfl,bX,p'⟩,fun x H' y=>?_⟩
    obtain⟨e,y⟩:=y;subst e y;exact hs i σ _ bX p
  · have e:i=n:=by omega
    subst e;exact .inl ⟨aJ _,hd σ H p⟩
theorem qA{c:TT}{tb:TS}{D:Ends}{σ:St}{H:Hp}(Pv:St->Hp->Prop)(μ:St->Hp->Nat)(h0:Pv σ H) (hs:∀σ H,Pv σ H->c σ H fun b H1=>if b=true then tb {D with nx:=fun σ' H'=>Pv σ' H'/\μ σ' H'<μ σ H,ct:=fun σ' H'=>Pv σ' H'/\μ σ' H'<μ σ H,bk:=D.nx} σ H1 else D.nx σ H1) (mono:∀σ H Q Q',(∀b H1,Q b H1->Q' b H1)->c σ H Q->c σ H Q'):qI c tb D σ H:=by refine⟨fun m σ H=>m=μ σ H/\Pv σ H,⟨_,rfl,h0⟩,?_⟩;rintro m σ H ⟨rfl,p⟩;refine mono σ H _ _ (fun b H1 q=>?_) (hs σ H p);cases b with |true=>exact⟨_,fun σ' H' ⟨p',l⟩=>⟨_,l,rfl,p'⟩,q⟩ |false=>exact q
abbrev R2:=V->V->Hp->VK->Prop
def bc(X:Cx)(f:Value->Value->Sem Value)(r:R2):Prop:=∀(pins:List (Addr×Obj))(s:Hf)(σ:St)(H:Hp)(x y:V)(v u:Value)(Q:VK),Inv X pins σ H s->RelV x v->RelV y u->r x y H Q->wpAny (model X.prog X.w) X.A (f v u) (EP X pins σ Q) X.xe s
def pM(X:Cx)(f:Value->Sem Value)(r:V->Hp->VK->Prop):Prop:=∀(pins:List (Addr×Obj))(s:Hf)(σ:St)(H:Hp)(x:V)(v:Value)(Q:VK),Inv X pins σ H s->RelV x v->r x H Q->wpAny (model X.prog X.w) X.A (f v) (EP X pins σ Q) X.xe s
def bR(X:Cx)(f:Value)(r:List V->Hp->VK->Prop):Prop:=∀(pins:List (Addr×Obj))(s:Hf)(σ:St)(H:Hp)(xs:List V)(us:List Value)(Q:VK),Inv X pins σ H s->Vals xs us->r xs H Q->wpAny (model X.prog X.w) X.A (call f us) (EP X pins σ Q) X.xe s
def G3(X:Cx)(r:V->Hp->(Bool->Hp->Prop)->Prop):Prop:=∀(pins:List (Addr×Obj))(s:Hf)(σ:St)(H:Hp)(x:V)(v:Value)(Q:Bool->Hp->Prop),Inv X pins σ H s->RelV x v->r x H Q->wpAny (model X.prog X.w) X.A (truthy v) (TP X pins σ Q) X.xe s
def ku(r:R2)(ta tb:TE):TE:=fun σ H Q=>ta σ H fun x H1=>tb σ H1 fun y H2=>r x y H2 Q
def yq(r:V->Hp->VK->Prop)(ta:TE):TE:=fun σ H Q=>ta σ H fun x H1=>r x H1 Q
inductive x4(C:Int->Int->Prop)(g:Int->Int->V)(x:V)(y:V)(H:Hp)(Q:VK):Prop |mk (i:_)(j:_)(h0:x= .int i)(h1:y= .int j)(h2:C i j)(h3:Q (g i j) H):x4 C g x y H Q
def rI(C:Int->Int->Prop)(g:Int->Int->V):R2:=fun x y H Q=>x4 C g x y H Q
inductive x3(g:Int->Int->V)(x:V)(y:V)(H:Hp)(Q:VK):Prop |mk (i:_)(j:_)(h0:x= .int i)(h1:y= .int j)(h2:Q (g i j) H):x3 g x y H Q
def dv(g:Int->Int->V):R2:=fun x y H Q=>x3 g x y H Q
inductive wG(g:Int->V)(x:V)(H:Hp)(Q:VK):Prop |mk (i:_)(h0:x= .int i)(h1:Q (g i) H):wG g x H Q
def rU(g:Int->V):V->Hp->VK->Prop:=fun x H Q=>wG g x H Q
section
variable {X:Cx}{a b c:Expr}{ta tb tc:TE}{pos:Pos}
theorem vD(ha:PE X a ta)(hb:PE X b tb){pins:List (Addr×Obj)}{s:Hf}{σ:St}{H:Hp}{R:V->V->Hp->Prop}(I:Inv X pins σ H s) (h:ta σ H fun x H1=>tb σ H1 fun y H2=>R x y H2){Q:Value->Hf->Prop}{f:Value->Value->Sem Value} (hf:∀v u s2 x y H2,Inv X pins σ H2 s2->RelV x v->RelV y u->R x y H2->wpAny (model X.prog X.w) X.A (f v u) Q X.xe s2): wpAny (model X.prog X.w) X.A (eval a X.env) (fun v s₁=>wpAny (model X.prog X.w) X.A (eval b X.env) (fun u s₂=>wpAny (model X.prog X.w) X.A (f v u) Q X.xe s₂) X.xe s₁) X.xe s:=by refine ak (ha pins s σ H _ I h) fun v s1 ⟨x,H1,I1,r1,q1⟩=>?_;refine ak (hb pins s1 σ H1 _ I1 q1) fun u s2 ⟨y,H2,I2,r2,q2⟩=>?_;exact hf v u s2 x y H2 I2 r1 r2 q2
theorem aQ{op:Operator}{r:R2}(ho:bc X (binaryOp op) r)(ha:PE X a ta)(hb:PE X b tb):PE X (.BinOp a op b pos) (ku r ta tb):=by intro pins s σ H Q I h;exact wpAny_BinOp (vD ha hb I h fun v u s2 x y H2 I2 rx ry q=>ho pins s2 σ H2 x y v u Q I2 rx ry q)
theorem kQ{op:UnaryOp}{r:V->Hp->VK->Prop}(ho:pM X (unaryOp op) r)(ha:PE X a ta):PE X (.UnaryOp op a pos) (yq r ta):=by intro pins s σ H Q I h;exact UnaryOp_ (ak (ha pins s σ H _ I h) fun v s1 ⟨x,H1,I1,r1,q1⟩=>ho pins s1 σ H1 x v Q I1 r1 q1)
theorem kU{f:Value->Value->Sem Value}{C:Int->Int->Prop}{g:Int->Int->Int} (rule:∀(i j:Int)(t u:Tok)(s:Hf)(Q:Value->Hf->Prop)(E:Value->Hf->Prop),C i j->Q (.int (g i j) s.toks) {s with toks:=s.toks+1}->wpAny (model X.prog X.w) X.A (f (.int i t) (.int j u)) Q E s): bc X f (rI C fun i j=>.int (g i j)):=by intro pins s σ H x y v u Q I rx ry h;obtain⟨i,j,rfl,rfl,hc,q⟩:=h;obtain⟨t,rfl⟩:=rx;obtain⟨t',rfl⟩:=ry;exact rule i j t t' s _ _ hc ⟨.int (g i j),H,I.tok _,⟨_,rfl⟩,q⟩
theorem AM{f:Value->Value->Sem Value}{g:Int->Int->Int} (rule:∀(i j:Int)(t u:Tok)(s:Hf)(Q:Value->Hf->Prop)(E:Value->Hf->Prop),Q (.int (g i j) s.toks) {s with toks:=s.toks+1}->wpAny (model X.prog X.w) X.A (f (.int i t) (.int j u)) Q E s): bc X f (dv fun i j=>.int (g i j)):=by intro pins s σ H x y v u Q I rx ry h;obtain⟨i,j,rfl,rfl,q⟩:=h;obtain⟨t,rfl⟩:=rx;obtain⟨t',rfl⟩:=ry;exact rule i j t t' s _ _ ⟨.int (g i j),H,I.tok _,⟨_,rfl⟩,q⟩
theorem ij{f:Value->Value->Sem Value}{g:Int->Int->Bool} (rule:∀(i j:Int)(t u:Tok)(s:Hf)(Q:Value->Hf->Prop)(E:Value->Hf->Prop),Q (.bool (g i j)) s->wpAny (model X.prog X.w) X.A (f (.int i t) (.int j u)) Q E s): bc X f (dv fun i j=>.bl (g i j)):=by intro pins s σ H x y v u Q I rx ry h;obtain⟨i,j,rfl,rfl,q⟩:=h;obtain⟨t,rfl⟩:=rx;obtain⟨t',rfl⟩:=ry;exact rule i j t t' s _ _ ⟨.bl (g i j),H,I,rfl,q⟩
def Gb(i j:Int):Prop:=0<=j/\j<=1000000/\i.natAbs<2^64
theorem dg:bc X (binaryOp .Add) (dv fun i j=>.int (i+j)):=AM fun _ _ _ _ _ _ _ q=>add_int q
theorem ig:bc X (binaryOp .Mod) (rI (fun _ j=>0<j) fun i j=>.int (i%j)):=kU fun i j _ _ _ _ _ hc q=>by have h1:(0:Int)<j:=hc;exact mod_int' (by omega) (by rw[Int.fmod_eq_emod_of_nonneg i (by omega)];exact q)
theorem kR:bc X (binaryOp .Pow) (rI Gb fun i j=>.int (i^j.toNat)):=kU fun _ _ _ _ _ _ _ hc q=>pow_int_small hc.1 hc.2.1 hc.2.2 q
theorem yg{f:Value->Sem Value}{g:Int->Int} (rule:∀(i:Int)(t:Tok)(s:Hf)(Q:Value->Hf->Prop)(E:Value->Hf->Prop),Q (.int (g i) s.toks) {s with toks:=s.toks+1}->wpAny (model X.prog X.w) X.A (f (.int i t)) Q E s): pM X f (rU fun i=>.int (g i)):=by intro pins s σ H x v Q I rx h;obtain⟨i,rfl,q⟩:=h;obtain⟨t,rfl⟩:=rx;exact rule i t s _ _ ⟨.int (g i),H,I.tok _,⟨_,rfl⟩,q⟩
theorem ko:pM X (unaryOp .USub) (rU fun i=>.int (-i)):=yg fun _ _ _ _ _ q=>neg_int q
end
def zo:V->V->Bool | .ax,.ax=>true| .ax,.int _=>true| .int _,.ax=>true| .ax,.bl _=>true| .bl _,.ax=>true| .ax,.str _=>true| .str _,.ax=>true | .int _,.int _=>true| .bl _,.bl _=>true| .str _,.str _=>true| .dW _,.dW _=>true | .int _,.str _=>true| .str _,.int _=>true| .bl _,.str _=>true| .str _,.bl _=>true |_,_=>false
def zN:R2:=fun x y H Q=>zo x y=true/\Q (.bl (!decide (x=y))) H
theorem F2{i j:Int}:decide (V.int i=V.int j)=(i==j):=by rw[hV];simp
theorem F7{i j:Bool}:decide (V.bl i=V.bl j)=(i==j):=by rw[hV];simp
theorem F1{i j:Str}:decide (V.str i=V.str j)=(i==j):=by rw[hV];simp
theorem F3{i j:Array UInt8}:decide (V.dW i=V.dW j)=(i.toList==j.toList):=by rw[hV];cases i;cases j;simp
section
variable {X:Cx}{a b c:Expr}{ta tb tc:TE}{pos:Pos}
theorem cV{pins:List (Addr×Obj)}{σ:St}{H:Hp}{s:Hf}{Q:VK}{k k':Bool}(I:Inv X pins σ H s)(q:Q (.bl k) H)(e:k=k'):EP X pins σ Q (.bool k') s:=by subst e;exact⟨.bl k,H,I,rfl,q⟩
theorem t7:bc X (compareOp .NotEq) zN:=by intro pins s σ H x y v u Q I rx ry h;obtain⟨hs,q⟩:=h;cases x with
 |ax=>cases rx;cases y with |ax=>cases ry;exact PySem.EqNone.ne_none_none (cV I q (by simp)) |bl j=>cases ry;exact PySem.EqNone.ne_none_bool (cV I q (by simp)) |int j=>obtain⟨t',rfl⟩:=ry;exact PySem.EqNone.ne_none_int (cV I q (by simp)) |str j=>obtain⟨t',rfl⟩:=ry;exact PySem.EqNone.ne_none_str (cV I q (by simp)) |_=>exact absurd (show false=true from hs) cj
 |bl i=>cases rx;cases y with |ax=>cases ry;exact PySem.EqNone.ne_bool_none (cV I q (by simp)) |bl j=>cases ry;exact ne_bool (cV I q (gs not F7)) |str j=>obtain⟨t',rfl⟩:=ry;exact PySem.EqMixed.ne_bool_str (cV I q (by simp)) |_=>exact absurd (show false=true from hs) cj
 |int i=>obtain⟨t,rfl⟩:=rx;cases y with |ax=>cases ry;exact PySem.EqNone.ne_int_none (cV I q (by simp)) |int j=>obtain⟨t',rfl⟩:=ry;exact ne_int (cV I q (gs not F2)) |str j=>obtain⟨t',rfl⟩:=ry;exact PySem.EqMixed.ne_int_str (cV I q (by simp)) |_=>exact absurd (show false=true from hs) cj
 |str i=>obtain⟨t,rfl⟩:=rx;cases y with |ax=>cases ry;exact PySem.EqNone.ne_str_none (cV I q (by simp)) |bl j=>cases ry;exact PySem.EqMixed.ne_str_bool (cV I q (by simp)) |int j=>obtain⟨t',rfl⟩:=ry;exact PySem.EqMixed.ne_str_int (cV I q (by simp)) |str j=>obtain⟨t',rfl⟩:=ry;exact ne_str (cV I q (gs not F1)) |_=>exact absurd (show false=true from hs) cj
 |dW i=>obtain⟨t,rfl⟩:=rx;cases y with |dW j=>obtain⟨t',rfl⟩:=ry;exact PySem.W.ne_bytes (cV I q (gs not F3)) |_=>exact absurd (show false=true from hs) cj
 |_=>cases y<;>exact absurd (show false=true from hs) cj
theorem kS:bc X (compareOp .Lt) (dv fun i j=>.bl (decide (i<j))):=ij fun _ _ _ _ _ _ _ q=>lt_int q
theorem kT:bc X (compareOp .LtE) (dv fun i j=>.bl (decide (i<=j))):=ij fun _ _ _ _ _ _ _ q=>le_int q
theorem AG:bc X (compareOp .Gt) (dv fun i j=>.bl (decide (j<i))):=ij fun _ _ _ _ _ _ _ q=>gt_int q
theorem AH:bc X (compareOp .GtE) (dv fun i j=>.bl (decide (j<=i))):=ij fun _ _ _ _ _ _ _ q=>ge_int q
theorem bc.or{f:Value->Value->Sem Value}{r r':R2}(h:bc X f r)(h':bc X f r'):bc X f (fun x y H Q=>r x y H Q\/r' x y H Q):=by
 intro pins s σ H x y v u Q I rx ry q;rcases q with q|q
 ·exact h pins s σ H x y v u Q I rx ry q
 ·exact h' pins s σ H x y v u Q I rx ry q
theorem bM(b:Expr){op:CmpOp}(h:op≠ .In:=by decide)(h2:op≠ .NotIn:=by decide):behindInMarks op b=false:=by
 have e1:(op==CmpOp.In)=false:=by cases op<;>first|rfl|exact absurd rfl h
 have e2:(op==CmpOp.NotIn)=false:=by cases op<;>first|rfl|exact absurd rfl h2
 cases b<;>simp[behindInMarks,e1,e2]
inductive vV(Q:Bool->Hp->Prop)(x:V)(H':Hp):Prop |mk (k:_)(h0:x= .bl k)(h1:Q k H'):vV Q x H'
def yw(t:TE):TT:=fun σ H Q=>t σ H fun x H'=>vV Q x H'
theorem bw{op:CmpOp}{r:R2}(ho:bc X (compareOp op) r)(ha:PE X a ta)(hb:PE X b tb)(hm:behindInMarks op b=false):PT X (.Compare a [op] [b] pos) (yw (ku r ta tb)):=by intro pins s σ H Q I h;refine wpAny_isTrue_Compare1 (ak (ha pins s σ H _ I h) fun v s1 ⟨x,H1,I1,r1,q1⟩=>ak (hb pins s1 σ H1 _ I1 q1) fun u s2 ⟨y,H2,I2,r2,q2⟩=>ak (ho pins s2 σ H2 x y v u _ I2 r1 r2 q2) fun c s3 ⟨z,H3,I3,r3,k,e,q3⟩=>?_) hm;subst e;cases r3;exact gX ⟨H3,I3,q3⟩
inductive vZ(r':R2)(tc:TE)(σ:St)(Q:VK)(y:V)(z:V)(H3:Hp):Prop |mk (k:_)(h0:z= .bl k)(h1:(if k=true then tc σ H3 fun w' H4=>r' y w' H4 Q else Q (.bl false) H3)):vZ r' tc σ Q y z H3
def yV(r r':R2)(ta tb tc:TE):TE:=fun σ H Q=>ta σ H fun x H1=>tb σ H1 fun y H2=>r x y H2 fun z H3=>vZ r' tc σ Q y z H3
theorem sU{op nV:CmpOp}{r r':R2}(ho:bc X (compareOp op) r)(fG:bc X (compareOp nV) r')(ha:PE X a ta)(hb:PE X b tb)(hc:PE X c tc) (hm:lastMarks [op,nV] [b,c]=false:=by with_unfolding_all rfl):PE X (.Compare a [op,nV] [b,c] pos) (yV r r' ta tb tc):=by intro pins s σ H Q I h;refine Compare_chain (ak (ha pins s σ H _ I h) fun v s1 ⟨x,H1,I1,r1,q1⟩=>chain_link (ak (hb pins s1 σ H1 _ I1 q1) fun u s2 ⟨y,H2,I2,r2,q2⟩=>ak (ho pins s2 σ H2 x y v u _ I2 r1 r2 q2) fun d s3 ⟨z,H3,I3,r3,k,e,q3⟩=>?_)) hm;subst e;cases r3;refine gX ?_;cases k with |false=>exact ite_ff ⟨.bl false,H3,I3,rfl,q3⟩ |true=>exact ite_tt (chain_last (ak (hc pins s3 σ H3 _ I3 q3) fun w' s4 ⟨z',H4,I4,r4,q4⟩=>fG pins s4 σ H4 y z' u w' Q I4 r2 r4 q4))
def pN(K:He)(x:V)(H:Hp)(k:Bool):Prop:=match x with | .ax=>k=false | .bl b=>k=b | .int i=>k=(i !=0) | .str y=>y.length<=sizeLine/\k=((y.length:Int) !=0) | .dW y=>y.size<=sizeLine/\k=((y.size:Int) !=0) | .ref p=>(∃xs,aq K H p xs/\k= !xs.isEmpty)\/(∃xs,aH K H p xs/\k= !xs.isEmpty)\/∃bh,H p=some (.dK bh)/\k= !bh.isEmpty |_=>False
theorem Ci{κ:Type}{bh:List (κ×V)}{vs:List (κ×Value)}(r:KV bh vs):(!vs.isEmpty)= !bh.isEmpty:=by cases r<;>rfl
theorem ub{xs:List V}{its:List Value}(r:Vals xs its):(!its.toArray.isEmpty)= !xs.isEmpty:=by cases r<;>simp
theorem jo:(sizeLine:Nat)<2^63:=by rw[k4];decide
theorem yn:G3 X (fun x H Q=>∃k,pN X.K x H k/\Q k H):=by intro pins s σ H x v Q I rx h;obtain⟨k,e,q⟩:=h;have hl:=jo;have hs:sizeLine=16777216:=k4;cases x with |ax=>cases rx;have e':k=false:=e;subst e';exact truthy_none ⟨H,I,q⟩ |bl b=>cases rx;have e':k=b:=e;subst e';exact gX ⟨H,I,q⟩ |int i=>obtain⟨t,rfl⟩:=rx;have e':k=(i !=0):=e;subst e';exact PySem.P.truthy_int ⟨H,I,q⟩ |str y=>obtain⟨t,rfl⟩:=rx;obtain⟨hy,e'⟩:y.length<=sizeLine/\k=((y.length:Int) !=0):=e;subst e';exact PySem.P.truthy_str (by omega) ⟨H,I.tok _,q⟩ |dW y=>obtain⟨t,rfl⟩:=rx;obtain⟨hy,e'⟩:y.size<=sizeLine/\k=((y.size:Int) !=0):=e;subst e';exact PySem.W.truthy_bytes (by omega) ⟨H,I.tok _,q⟩ |ref p=>
   cases rx;have e':(∃xs,aq X.K H p xs/\k= !xs.isEmpty)\/(∃xs,aH X.K H p xs/\k= !xs.isEmpty)\/∃bh,H p=some (.dK bh)/\k= !bh.isEmpty:=e;rcases e' with⟨xs,hx,e'⟩|⟨xs,hx,e'⟩|⟨bh,hx,e'⟩
   · subst e'
     obtain⟨its,r,pl,hz⟩:=I.list hx;have hlen:=r.length;exact wpAny_truthy_list pl.isList (by simp only[bC];omega) ⟨H,I.tok _,by rw[ub r];exact q⟩
   · subst e'
     obtain⟨its,r,pl,hz⟩:=I.tuple hx;have hlen:=r.length;exact truthy_tuple pl (by simp only[bC];omega) ⟨H,I.tok _,by rw[ub r];exact q⟩
   · subst e'
     obtain⟨hz,hS,vs,r,m⟩:bh.length<=sizeLine/\(p==sysModules)=false/\∃vs,KV bh vs/\s.heap.DictOf (o9 X.prog X.w) p vs:=I.hok p _ hx;have hlen:bh.length=vs.length:=Paired.length r;exact wpAny_truthy_dict hS m (by omega) ⟨H,I.tok _,by rw[Ci r];exact q⟩ |_=>exact(show False from e).elim
theorem zX(ha:PE X a ta)(he:∀whole,isTrue a X.env whole=(do let v<-whole;standAt a.pos;holding [v] (truthy v))): PT X a (fun σ H Q=>ta σ H fun x H'=>∃k,pN X.K x H' k/\Q k H'):=by intro pins s σ H Q I h;exact isTrue_plain (ak (ha pins s σ H _ I h) fun v s1 ⟨x,H1,I1,r1,q1⟩=>yn pins s1 σ H1 x v Q I1 r1 q1) (he _)
theorem AL:bc X (binaryOp .Add) (fun x y H Q=>∃i j,x= .str i/\y= .str j/\i.length+j.length<=sizeLine/\Q (.str (i++j)) H):=by intro pins s σ H x y v u Q I rx ry h;obtain⟨i,j,rfl,rfl,hz,q⟩:=h;obtain⟨t,rfl⟩:=rx;obtain⟨t',rfl⟩:=ry;exact add_str (fun t' tk=>⟨.str (i++j),H,I.tok _,⟨_,rfl⟩,q⟩) hz
theorem vals1{x:V}{us:List Value}(r:Vals [x] us):∃u,us=[u]/\RelV x u:=by cases r with |cons r1 r2=>cases r2;exact⟨_,rfl,r1⟩
theorem vals2{x y:V}{us:List Value}(r:Vals [x,y] us):∃u w',us=[u,w']/\RelV x u/\RelV y w':=by cases r with |cons r1 r2=>cases r2 with |cons r3 r4=>cases r4;exact⟨_,_,rfl,r1,r3⟩
theorem vv:bR X (.builtin "abs") (fun xs H Q=>∃i,xs=[.int i]/\Q (.int (if i<0 then-i else i)) H):=by intro pins s σ H xs us Q I r h;obtain⟨i,rfl,q⟩:=h;obtain⟨u,rfl,t,rfl⟩:=vals1 r;exact call_abs_int fun u tk=>⟨.int (if i<0 then-i else i),H,I.tok _,⟨_,rfl⟩,q⟩
theorem Fu(hc:X.calm=true):bR X (.builtin "max") (fun xs H Q=>∃i j,xs=[.int i,.int j]/\Q (.int (if j>i then j else i)) H):=by
 intro pins s σ H xs us Q I r h;obtain⟨i,j,rfl,q⟩:=h;obtain⟨u,w',rfl,⟨t,rfl⟩,⟨t',rfl⟩⟩:=vals2 r;refine max_two_ints (I.ok.hd hc) fun h' tk k=>⟨_,H,I.kept k,?_,q⟩;by_cases hj:j>i
 ·rw[aK hj,aK hj];exact⟨_,rfl⟩
 ·rw[aI hj,aI hj];exact⟨_,rfl⟩
theorem vt(hc:X.calm=true):bR X (.builtin "min") (fun xs H Q=>∃i j,xs=[.int i,.int j]/\Q (.int (if j<i then j else i)) H):=by
 intro pins s σ H xs us Q I r h;obtain⟨i,j,rfl,q⟩:=h;obtain⟨u,w',rfl,⟨t,rfl⟩,⟨t',rfl⟩⟩:=vals2 r;refine min_two_ints (I.ok.hd hc) fun h' tk k=>⟨_,H,I.kept k,?_,q⟩;by_cases hj:j<i
 ·rw[aK hj,aK hj];exact⟨_,rfl⟩
 ·rw[aI hj,aI hj];exact⟨_,rfl⟩
end
end L2
namespace L2
open PySem PySem.Spec PyProof.Rows
structure gT(h:Heap)(x dx C:Addr)(mA:Str->Option Value):Prop where
 obj:h.get? x=some (PySem.W.instObj C dx)
 ns:h.Ns1 dx mA
 ne:dx≠x
theorem BS{h:Heap}{dx:Addr}{mA:Str->Option Value}(n:h.Ns1 dx mA):∃od,h.get? dx=some od/\∀name,PySem.W.lookIn name od=some (mA name):=by
 obtain⟨o,es,ep,ho,hd,hk,_,hm⟩:=n;refine⟨o,ho,fun name=>?_⟩;have e:=hm name;unfold nsFind findBy at e;rw[<-Array.find?_toList]at e;unfold PySem.W.lookIn;rw[hd];dsimp only;split
 · rename_i y q
   rw[q]at e;exact gs some e
 · rename_i q
   rw[q]at e;have a:es.toList.any (·.refKey)=false:=by rw[List.any_eq_false];intro y hy;obtain⟨z,t,D4⟩:=hk y (Array.mem_toList_iff.mp hy);simp[DictEntry.refKey,D4]
   have a':¬es.toList.any (·.refKey)=true:=by rw[a];exact cj
   rw[aI a'];exact gs some e
theorem gT.look{h:Heap}{x dx C:Addr}{mA:Str->Option Value}(I:gT h x dx C mA):∃od,PySem.W.InstAt h x (PySem.W.instObj C dx) C (some od)/\∀name,PySem.W.lookIn name od=some (mA name):=let⟨od,ho,hl⟩:=BS I.ns
 ⟨od,⟨I.obj,rfl,rfl,ho⟩,hl⟩
section
variable {prog:Hg}{w:World}{A:Hi}{E:Value->Hf->Prop}{s:Hf}{K:He}{x dx C f:Addr}{mA:Str->Option Value}{name:Str}{v:Value}
theorem get_map{expr:Bool}{Q:Value->Hf->Prop}(X:K.In s.heap)(I:gT s.heap x dx C mA)(hg:PySem.W.plainGet K C name=true)(hh:PySem.W.hasDictIn K C=true) (ha:PySem.W.findIn K (.ref C) name=some none)(hv:mA name=some v)(Cz:PySem.W.handedIn v=true)(h:Q v {s with toks:=s.toks+1}): wpAny (model prog w) A (getAttr (.ref x) name expr) Q E s:=by obtain⟨od,J,hl⟩:=I.look;exact PySem.W.get_value X J (xH hg).1 (PySem.W.findObj_own hh ha rfl (by rw[hl,hv])) Cz h
theorem Er{pl:Sem Bool}{Q:Value×List Value->Hf->Prop}(X:K.In s.heap)(I:gT s.heap x dx C mA)(hg:PySem.W.plainGet K C name=true) (hf:PySem.W.findIn K (.ref C) name=some (some (.ref f)))(ht:PySem.W.isFn K (.ref f)=true)(hv:mA name=none)(h:Q (.ref f,[.ref x]) s): wpAny (model prog w) A (getMethod (.ref x) name pl) Q E s:=by obtain⟨od,J,hl⟩:=I.look;exact PySem.W.method_fn X J (xH hg).1 (xH hg).2 hf (bE.mp ht) (by show(PySem.W.lookIn name od).map (·.isSome)=some false;rw[hl,hv];rfl) h
theorem zl{ns:List Str}{Q:Unit->Hf->Prop}(X:K.In s.heap)(I:gT s.heap x dx C mA) (hs:PySem.W.findIn K (.ref C) "__setattr__"=some (some (.builtin "object.__setattr__")))(hp:PySem.W.plainOver K C=true)(ht:PySem.W.takerIn K C name=some none)(hh:PySem.W.hasDictIn K C=true) (hw:PySem.Within mA ns)(oz:ns.length<=sizeLine) (h:∀h',gT h' x dx C (fun y=>if y=name then some v else mA y)->Heap.SameBut dx s.heap h'->Q () {s with heap:=h',toks:=s.toks+2}): wpAny (model prog w) A (setAttr (.ref x) name v) Q E s:=by obtain⟨od,J,hl⟩:=I.look;refine PySem.W.set_plain X J hs (PySem.W.osa_open (s:={s with toks:=s.toks+1}) (r:=none) X J hp ht fun b=>?_);obtain⟨cd,hc,oS⟩:=PySem.W.any_some hh;have hx:s.heap.get? x=some ⟨.ref C,some dx,.plain,#[]⟩:=I.obj;refine ae (aE (ae (ae (wpAny_loadPart hx (ae (PySem.W.Looks.here (s:={s with toks:=s.toks+1}) (PySem.W.looks_clsIn X hc) ?_))))));rw[oS];refine aE (a:=some dx) (ae (aE (ae ?_)));refine wpAny_nsSet1 (s:={s with toks:=s.toks+1}) I.ns fun h' lA gc=>?_;obtain⟨oD,GR,GS,CU,Dv,Dy⟩:=lA.count (PySem.Within.cons name v hw);refine ae (wpAny_lookBehind CU (by rw[Dv];exact pastItsLine_dict (dr Dy (by rw[fR];omega))) ?_);exact aE (h _ ⟨(gc.2 _ (dC I.ne)).trans I.obj,lA,I.ne⟩ gc)
theorem BK{R:Result->Hf->Prop}{vs:List Value}{kw:List (Str×Value)}(X:K.In s.heap)(hm:PySem.W.makesIn K C=true) (hi:PySem.W.findIn K (.ref C) "__init__"=some (some (.ref f)))(hf:PySem.W.typeIn K (.ref f)=some (.type "function")) (h:codeAny (model prog w) (A.under (.builtin "type.__call__" ⟨.ref C::vs,kw⟩)) (.call (.ref f) ⟨.ref (s.heap.objs.size+1)::vs,kw⟩) (PySem.W.InitBack (s.heap.objs.size+1) R) {s with heap:=(s.heap.push PySem.W.emptyDict).push (PySem.W.instObj C s.heap.objs.size)}): codeAny (model prog w) A (.call (.ref C) ⟨vs,kw⟩) R s:=by obtain⟨hh,g,d,t,os⟩:=s;exact PySem.W.make_core (PySem.W.makes_of X hm) (PySem.W.looks_findIn X hi) (fun self=>PySem.W.bind_fn X self hf) (.inl rfl) h
end
def cK(f:Str)(v:V):List (Str×V)->List (Str×V) |[]=>[(f,v)] |(g,x)::r=>if g=f then(g,v)::r else(g,x)::cK f v r
theorem tT(f g:Str)(v:V):∀fs:List (Str×V),(cK f v fs).lookup g=if g=f then some v else fs.lookup g
  |[]=>by
    show List.lookup g [(f,v)]=_;by_cases h:g=f
    · have hb:(g==f)=true:=bE.mpr h
      simp only[List.lookup,hb,aK h]
    · have hb:(g==f)=false:=q0.mpr h
      simp only[List.lookup,hb,aI h] |(k,x)::r=>by
    have ih:=tT f g v r;rw[show cK f v ((k,x)::r)=(if k=f then(k,v)::r else(k,x)::cK f v r)from rfl];by_cases hk:k=f
    · rw[aK hk]
      by_cases h:g=k
      · have hb:(g==k)=true:=bE.mpr h
        simp only[List.lookup,hb,aK (h.trans hk)]
      · have hb:(g==k)=false:=q0.mpr h
        simp only[List.lookup,hb,aI (fun e:g=f=>h (e.trans hk.symm))]
    · rw[aI hk]
      by_cases h:g=k
      · have hb:(g==k)=true:=bE.mpr h
        simp only[List.lookup,hb,aI (fun e:g=f=>hk (h.symm.trans e))]
      · have hb:(g==k)=false:=q0.mpr h
        simp only[List.lookup,hb];exact ih
theorem oj(f:Str)(v:V):∀fs:List (Str×V),f∈(cK f v fs).map (·.1)/\∀g,g∈fs.map (·.1)->g∈(cK f v fs).map (·.1)
  |[]=>⟨by simp[cK],fun g h=>by simp at h⟩ |(k,x)::r=>by
    obtain⟨i1,i2⟩:=oj f v r;rw[show cK f v ((k,x)::r)=(if k=f then(k,v)::r else(k,x)::cK f v r)from rfl];by_cases hk:k=f
    · rw[aK hk]
      subst hk;exact⟨by simp,fun g h=>by simpa using h⟩
    · rw[aI hk]
      refine⟨?_,fun g h=>?_⟩
      · rw[iT]
        exact iS _ i1
      · rw[iT]at h⊢
        rcases bV.mp h with e|e
        ·exact bV.mpr (.inl e)
        ·exact iS _ (i2 g e)
theorem tV(f:Str)(v:V):∀fs:List (Str×V),(cK f v fs).length<=fs.length+1
  |[]=>by simp[cK] |(k,x)::r=>by
    have ih:=tV f v r;rw[show cK f v ((k,x)::r)=(if k=f then(k,v)::r else(k,x)::cK f v r)from rfl];by_cases hk:k=f
    ·rw[aK hk,fR,fR];omega
    ·rw[aI hk,fR,fR];omega
theorem fo.some_of{v:V}{o:Option Value}(r:fo (some v) o):∃u,o=some u/\RelV v u:=by cases o with |none=>exact(show False from r).elim |some u=>exact⟨u,rfl,r⟩
theorem fo.none_of{o:Option Value}(r:fo none o):o=none:=by cases o with |none=>rfl |some u=>exact(show False from r).elim
theorem DJ{v:V}{u:Value}(r:RelV v u):PySem.W.handedIn u=true:=by cases v with |ax=>cases(show u=Value.none from r);rfl |bl b=>cases(show u=Value.bool b from r);rfl |int i=>obtain⟨t,e⟩:=(show∃t,u=Value.int i t from r);cases e;rfl |str x=>obtain⟨t,e⟩:=(show∃t,u=Value.str x t from r);cases e;rfl |dW b=>obtain⟨t,e⟩:=(show∃t,u=Value.bytes b t from r);cases e;rfl |lM b=>obtain⟨t,e⟩:=(show∃t,u=Value.float b t from r);cases e;rfl |ref a=>cases(show u=Value.ref a from r);rfl |ty n=>cases(show u=Value.type n from r);rfl
section
variable {P:Hg}{w:World}{H H':Hp}{h h':Heap}{a C dx:Addr}{fs EB:List (Str×V)}
theorem ou(hok:bq P w H h)(e:H a=some (.ins C dx fs)):∃mA,gT h a dx C mA/\(∀f,fo (fs.lookup f) (mA f))/\PySem.Within mA (fs.map (·.1))/\fs.length<=1000/\H dx=some (.own a):=by obtain⟨d,z,ne,ob,mA,n,r,q⟩:=(show cz P w H h a (.ins C dx fs)from hok a _ e);exact⟨mA,⟨ob,n,ne⟩,r,q,z,d⟩
end
structure d6(K:He)(C:Addr):Prop where
 pg:PySem.W.plainGet K C Str.empty=true
 hd:PySem.W.hasDictIn K C=true
 po:PySem.W.plainOver K C=true
 sa:PySem.W.findIn K (.ref C) "__setattr__"=some (some (.builtin "object.__setattr__"))
theorem d6.get{K:He}{C:Addr}(c:d6 K C)(f:Str):PySem.W.plainGet K C f=true:=c.pg
def cE(K:He)(C:Addr)(f:Str):Prop:=PySem.W.findIn K (.ref C) f=some none
theorem cE.yp{K:He}{C:Addr}{f:Str}(n:cE K C f):PySem.W.takerIn K C f=some none:=by unfold PySem.W.takerIn;rw[show PySem.W.findIn K (.ref C) f=some none from n];rfl
structure Meth(K:He)(C:Addr)(m:Str)(f:Addr):Prop where
 at_:PySem.W.findIn K (.ref C) m=some (some (.ref f))
 fn:PySem.W.isFn K (.ref f)=true
 kp:PySem.W.keepIn K (.ref f)=true
section
variable {X:Cx}{pins:List (Addr×Obj)}{σ:St}{H:Hp}{s:Hf}{a C dx:Addr}{fs:List (Str×V)}{f:Str}{v:V}{A:Hi}{E:Value->Hf->Prop}
theorem Ep{b:Bool}{Q:Value->Hf->Prop}(I:Inv X pins σ H s)(e:H a=some (.ins C dx fs))(c:d6 X.K C)(n:cE X.K C f)(l:fs.lookup f=some v) (h:∀u s',Inv X pins σ H s'->RelV v u->Q u s'):wpAny (model X.prog X.w) A (getAttr (.ref a) f b) Q E s:=by obtain⟨mA,O,r,_,_,_⟩:=ou I.hok e;obtain⟨u,hu,ru⟩:=fo.some_of (v:=v) (o:=mA f) (by rw[<-l];exact r f);exact get_map I.bG O (c.get f) c.hd n hu (DJ ru) (h u _ (I.tok _) ru)
theorem uQ{m:Str}{g:Addr}{pl:Sem Bool}{Q:Value×List Value->Hf->Prop}(I:Inv X pins σ H s)(e:H a=some (.ins C dx fs))(c:d6 X.K C)(k:Meth X.K C m g)(l:fs.lookup m=none) (h:Q (.ref g,[.ref a]) s):wpAny (model X.prog X.w) A (getMethod (.ref a) m pl) Q E s:=by obtain⟨mA,O,r,_,_,_⟩:=ou I.hok e;have hn:mA m=none:=fo.none_of (by rw[<-l];exact r m);exact Er I.bG O (c.get m) k.at_ k.fn hn h
theorem zk{y:V}{u:Value}{Q:Unit->Hf->Prop}(I:Inv X pins σ H s)(e:H a=some (.ins C dx fs))(c:d6 X.K C)(n:cE X.K C f)(hl:fs.length<1000)(ry:RelV y u) (h:∀s',Inv X pins σ (upd H a (.ins C dx (cK f y fs))) s'->Q () s'):wpAny (model X.prog X.w) A (setAttr (.ref a) f u) Q E s:=by
  obtain⟨mA,O,r,wi,_,ho⟩:=ou I.hok e;have hz:(fs.map (·.1)).length<=sizeLine:=by rw[aZ,k4];omega
  refine zl I.bG O c.sa c.po n.yp c.hd wi hz fun h' O' sb=>h _ ?_;have hd:∃o,h'.get? dx=some o:=let⟨o,_,_,e',_⟩:=O'.ns;⟨o,e'⟩;refine I.write (x:=a) (e:=dx) (by rw[e];exact True.intro) (.inr ho) (fun b q hb z=>(sb.2 b hb).trans z) hd ?_;refine⟨by rw[aV O.ne];exact ho,?_,O.ne,O'.obj,_,O'.ns,fun g=>?_,fun g hg=>?_⟩
  ·have:=tV f y fs;omega
  · show fo ((cK f y fs).lookup g) (if g=f then some u else mA g)
    rw[tT];by_cases q:g=f
    ·rw[aK q,aK q];exact ry
    ·rw[aI q,aI q];exact r g
  · by_cases q:g=f
    ·rw[q];exact(oj f y fs).1
    · refine(oj f y fs).2 g (wi g fun z=>hg ?_)
      show(if g=f then some u else mA g)=none;rw[aI q];exact z
theorem Inv.made(I:Inv X pins σ H s):Inv X pins σ (upd (upd H s.heap.objs.size (.own (s.heap.objs.size+1))) (s.heap.objs.size+1) (.ins C s.heap.objs.size [])) {s with heap:=(s.heap.push PySem.W.emptyDict).push (PySem.W.instObj C s.heap.objs.size)}:=by
  have e1:(s.heap.push PySem.W.emptyDict).get? s.heap.objs.size=some PySem.W.emptyDict:=bP s.heap rfl;have e2:((s.heap.push PySem.W.emptyDict).push (PySem.W.instObj C s.heap.objs.size)).get? (s.heap.objs.size+1)=some (PySem.W.instObj C s.heap.objs.size):=by have:=bP (s.heap.push PySem.W.emptyDict) (o:=PySem.W.instObj C s.heap.objs.size) rfl;rwa [hU]at this
  have e3:(s.heap.push PySem.W.emptyDict).Ns s.heap.objs.size (fun _=>none):=⟨PySem.W.emptyDict,#[],_,e1,rfl,(fun e he=>absurd he (by simp)),fun _=>rfl⟩;have I1:=I.laid (a:=s.heap.objs.size) (o:=.own (s.heap.objs.size+1)) (h':=s.heap.push PySem.W.emptyDict) (t':=s.toks) (fun b u q=>aY _ q) (aJ _) ⟨_,e1⟩;refine I1.laid (a:=s.heap.objs.size+1) (o:=.ins C s.heap.objs.size []) (t':=s.toks) (fun b u q=>aY _ q) (Nat.le_of_eq (hU _ _)) ?_;have ne:s.heap.objs.size≠s.heap.objs.size+1:=cg (Nat.lt_succ_self _);refine⟨by rw[aV ne,br],fO _,ne,e2,fun _=>none,(Heap.Ns1.of_empty e3).at fun o q=>aY _ q,fun _=>True.intro,fun y hy=>absurd rfl hy⟩
theorem FN{prog:Hg}{w:World}{env:Env}{e:Expr}{f:Str}{pos:Pos}{s:Hf}{Q:Value->Hf->Prop}(hb:attributeBase e f env (eval e env)=eval e env) (h:wpAny (model prog w) A (eval e env) (fun o s₁=>wpAny (model prog w) A (getAttr o f true) Q E s₁) E s):wpAny (model prog w) A (eval (.Attribute e f pos) env) Q E s:=Attribute_any_ h (by rw[arm_eval_Attribute,hb])
end
section
variable {X:Cx}{o e value:Expr}{f:Str}{pos pos' iW:Pos}{ta tv:TE}
end
section
variable {X:Cx}{pins:List (Addr×Obj)}{σ:St}{H:Hp}{s:Hf}{A:Hi}{E:Value->Hf->Prop}{Q:Value->Hf->Prop}{c:Value}{b:Bool}
end
end L2
namespace L2
open PySem PySem.Spec PyProof.Rows
structure ba(k:Nat)(A:Hi):Prop where
 hd:A.handled=none
 dp:A.depth+3*k+5<recursionLimit
 un:A.units+16*k+200<cLine
theorem ba.mono{j k:Nat}{A:Hi}(r:ba k A)(h:j<=k):ba j A:=⟨r.hd,by have:=r.dp;omega,by have:=r.un;omega⟩
theorem ba.deeper{k:Nat}{A:Hi}(r:ba (k+1) A)(env:Env):ba k (A.deeper env):=⟨r.hd,by have:=r.dp;show A.depth+1+3*k+5<_;omega,by have:=r.un;show A.units+3+16*k+200<_;omega⟩
theorem BL{A:Hi}{C:Addr}{us:List Value}{kw:List (Str×Value)}:(A.under (.builtin "type.__call__" ⟨.ref C::us,kw⟩)).depth=A.depth+1:=by first|rfl|simp[Around.under,Code.weight,Code.isCreation,Code.isGuard,Code.isCaller,Code.frames,Code.isFrame,guardIds]
theorem BJ{A:Hi}{C:Addr}{us:List Value}{kw:List (Str×Value)}:(A.under (.builtin "type.__call__" ⟨.ref C::us,kw⟩)).units=A.units+1:=by first|rfl|simp[Around.under,Code.cUnits,Code.frames,Code.isFrame]
theorem ba.make{k:Nat}{A:Hi}(r:ba (k+1) A)(C:Addr)(us:List Value)(kw:List (Str×Value)):ba k (A.under (.builtin "type.__call__" ⟨.ref C::us,kw⟩)):=⟨r.hd,by have:=r.dp;rw[BL];omega,by have:=r.un;rw[BJ];omega⟩
theorem ba.depth{k:Nat}{A:Hi}(r:ba k A):A.depth<recursionLimit:=by have:=r.dp;omega
theorem ba.units{k:Nat}{A:Hi}(r:ba k A):A.units+64<cLine:=by have:=r.un;omega
def kv:TA:=fun _ H Q=>Q [] H
def yT(ta:TE)(tr:TA):TA:=fun σ H Q=>ta σ H fun x H1=>tr σ H1 fun xs H2=>Q (x::xs) H2
section
variable {X:Cx}{e:Expr}{es:List Expr}{te:TE}{t:TA}{pos:Pos}
theorem af:PA X [] kv:=fun _ _ _ _ H Q I h=>Calls.spliced_nil ⟨[],H,I,.nil,h⟩
theorem aa(ha:PE X e te)(hr:PA X es t)(hs:starEach (e::es) X.env=(false,eval e X.env)::starEach es X.env:=by rfl):PA X (e::es) (yT te t):=by intro pos pins s σ H Q I h;rw[hs];show wpAny _ _ (spliced ((false,eval e X.env)::backTo pos (starEach es X.env))) _ _ s;refine Calls.spliced_cons (ak (ha pins s σ H _ I h) fun u s1 ⟨x,H1,I1,r1,q1⟩=>?_);exact ak (hr pos pins s1 σ H1 _ I1 q1) fun us s2 ⟨xs,H2,I2,r2,q2⟩=>⟨x::xs,H2,I2,.cons r1 r2,q2⟩
end
abbrev Sp:=List V->Hp->VK->XK->Prop
abbrev d7:=List Env->Hp->Hf->XK->Value->Hf->Prop
structure fM(P:Hg)(w:World)(K:He)(mg:Str->Option Value)(base:Heap)(A:Hi)(outer:List Env)(s:Hf)(H:Hp):Prop where
 frames:A.frames=some outer
 mod:Mod K mg base
 bs:∀b o,base.get? b=some o->s.heap.get? b=some o/\H b=none
 bsz:base.objs.size<=s.heap.objs.size
 cM:s.heap.FunFrames base outer
 frf:∀b∈bI outer,H b=none
 hok:bq P w H s.heap
 bare:AllBare s.gens
def CE(outer:List Env)(P:Hg)(w:World)(H:Hp)(s:Hf)(Q:VK)(u:Value)(s':Hf):Prop:=∃v H',s'.os=s.os/\AllBare s'.gens/\Un (bI outer) [] H H' s.heap s'.heap/\bq P w H' s'.heap/\RelV v u/\Q v H'
def CR(CX:d7)(outer:List Env)(P:Hg)(w:World)(H:Hp)(s:Hf)(Q:VK)(E:XK)(r:Result)(s':Hf):Prop:=match r with | .ok (.ret u)=>CE outer P w H s Q u s' | .ok _=>False | .error e=>CX outer H s E e s'
structure cq(P:Hg)(w:World)(K:He)(mg:Str->Option Value)(base:Heap)(CX:d7)(k:Nat)(f:Addr)(fd:FuncData)(ps:List Str)(sp:Sp):Prop where
 len:∀vs H Q E,sp vs H Q E->vs.length=ps.length
 run:∀(A:Hi)(outer:List Env)(s:Hf)(H:Hp)(args:Args)(us:List Value)(vs:List V)(Q:VK)(E:XK),ba k A->fM P w K mg base A outer s H->BindsTo s fd args (ps.zip us)->Vals vs us->sp vs H Q E->codeAny (model P w) A (.call (.ref f) args) (CR CX outer P w H s Q E) s
theorem fM.make{P:Hg}{w:World}{K:He}{mg:Str->Option Value}{base:Heap}{A:Hi}{outer:List Env}{s:Hf}{H:Hp}(e:fM P w K mg base A outer s H)(C:Addr)(us:List Value)(kw:List (Str×Value)): fM P w K mg base (A.under (.builtin "type.__call__" ⟨.ref C::us,kw⟩)) outer s H:=⟨by first|exact e.frames|(simpa[Around.under,Code.envs,Code.isFrame,pushEnvs]using e.frames),e.mod,e.bs,e.bsz,e.cM,e.frf,e.hok,e.bare⟩
section
variable {X:Cx}{pins:List (Addr×Obj)}{σ:St}{H:Hp}{s s':Hf}
theorem Inv.pw(I:Inv X pins σ H s):fM X.prog X.w X.K X.mg X.base X.A X.stack s H:=⟨I.ok.frames,I.ok.mod,I.bs,dr I.ok.bsz I.sz,I.stack,I.kC,I.hok,I.bare⟩
theorem Inv.after{Q:VK}{u:Value}(I:Inv X pins σ H s)(h:CE X.stack X.prog X.w H s Q u s'):EP X pins σ Q u s':=by obtain⟨v,H',os,bare,un,hok,r,q⟩:=h;obtain⟨hh,g,d,t,Ay⟩:=s';obtain rfl:Ay=s.os:=os;exact⟨v,H',I.call (h':=hh) (g':=g) (d':=d) (t':=t) (ch:=[]) un hok bare (fun b z=>absurd z (by simp)),r,q⟩
end
def yW(sp:Sp)(bO:List V)(E:XK)(t:TA):TE:=fun σ H Q=>t σ H fun vs H1=>sp (vs++bO) H1 Q E
inductive jS(C:Addr)(m:Str)(sp:Sp)(bO:List V)(E:XK)(t:TA)(σ:St)(Q:VK)(x:V)(H1:Hp):Prop |mk (a:_)(dx:_)(fs:_)(h0:x= .ref a)(h1:H1 a=some (.ins C dx fs))(h2:fs.lookup m=none)(h3:t σ H1 fun vs H2=>sp (x::(vs++bO)) H2 Q E):jS C m sp bO E t σ Q x H1
def qM(C:Addr)(m:Str)(sp:Sp)(bO:List V)(E:XK)(ta:TE)(t:TA):TE:=fun σ H Q=>ta σ H fun x H1=>jS C m sp bO E t σ Q x H1
def yK(C:Addr)(sp:Sp)(bO:List V)(E:XK)(t:TA):TE:=fun σ H Q=>t σ H fun vs H1=>∀x dx,H1 x=none->H1 dx=none->dx≠x->sp (.ref x::(vs++bO)) (upd (upd H1 dx (.own x)) x (.ins C dx [])) (fun v H2=>v= .ax/\Q (.ref x) H2) E
def Binds(K:He)(fd:FuncData)(ps:List Str)(ds:List Value):Prop:=∀(s:Hf)(us:List Value),K.In s.heap->(us++ds).length=ps.length->BindsTo s fd ⟨us,[]⟩ (ps.zip (us++ds))
theorem Binds.all{K:He}{fd:FuncData}{ps:List Str}(h:∀us:List Value,us.length=ps.length->bindArgs fd ⟨us,[]⟩=pure (ps.zip us)):Binds K fd ps []:=fun s us _ hl=>by rw[gv]at hl⊢;exact .of_eq (h us hl)
def Passes(CX:d7)(X:Cx)(E:XK):Prop:=∀(pins:List (Addr×Obj))(σ:St)(H:Hp)(s:Hf)(e:Value)(s':Hf),Inv X pins σ H s->CX X.stack H s E e s'->X.xe e s'
section
variable {X:Cx}{CX:d7}{k:Nat}{f C:Addr}{fd:FuncData}{ps:List Str}{sp:Sp}{bO:List V}{ds:List Value}{E:XK}{x m:Str}{p pos apos:Pos}{e o:Expr}{es:List Expr}{ta:TE}{t:TA}
theorem kI{pins:List (Addr×Obj)}{σ:St}{H:Hp}{s:Hf}{Q:VK}{us:List Value}{vs:List V}(F:cq X.prog X.w X.K X.mg X.base CX k f fd ps sp)(hr:ba k X.A)(hb:Binds X.K fd ps ds)(hd:Vals bO ds)(hx:Passes CX X E) (I:Inv X pins σ H s)(r:Vals vs us)(h:sp (vs++bO) H Q E):wpAny (model X.prog X.w) X.A (call (.ref f) us) (EP X pins σ Q) X.xe s:=by
  have r2:Vals (vs++bO) (us++ds):=r.append hd;have hl:(us++ds).length=ps.length:=by rw[<-r2.length];exact F.len _ _ _ _ h
  refine jY (mn (F.run X.A X.stack s H ⟨us,[]⟩ (us++ds) (vs++bO) Q E hr I.pw (hb s us I.bG hl) r2 h) fun r s' hq=>?_);cases r with |error e=>exact hx pins σ H s e s' I hq |ok fl=>cases fl with |ret u=>exact I.after hq |next=>exact False.elim hq |brk=>exact False.elim hq |cont=>exact False.elim hq
theorem Ap(F:cq X.prog X.w X.K X.mg X.base CX k f fd ps sp)(hr:ba k X.A)(hg:Gl X x)(hm:X.mg x=some (.ref f))(hk:PySem.W.keepIn X.K (.ref f)=true)(hb:Binds X.K fd ps ds)(hd:Vals bO ds)(hx:Passes CX X E) (ha:PA X (e::es) t)(bQ:(x==("__debug__":Str))=false:=by decide)(he:starEach (e::es) X.env=(false,eval e X.env)::starEach es X.env:=by rfl)(bA:(backTo pos (starEach es X.env)).any (·.1)=false:=by rfl): PE X (.Call (.Name x p) (e::es) [] pos) (yW sp bO E t):=by intro pins s σ H Q I h;refine jZ (g6 I hg hm ?_ bQ);refine mr (h₀:=X.base) I.ok.mod.kin hk (ak (ha pos pins s σ H _ I h) fun us s1 ⟨vs,H1,I1,r,q⟩=>⟨I1.bG,?_⟩) he bA;exact kI F hr hb hd hx I1 r q
theorem Af{pl:Sem Bool}(he:PE X o ta)(c:d6 X.K C)(hm:Meth X.K C m f)(F:cq X.prog X.w X.K X.mg X.base CX k f fd ps sp)(hr:ba k X.A)(hb:Binds X.K fd ps ds)(hd:Vals bO ds)(hx:Passes CX X E)(ha:PA X (e::es) t) (cQ:starEach (e::es) X.env=(false,eval e X.env)::starEach es X.env:=by rfl)(bA:(backTo pos (starEach es X.env)).any (·.1)=false:=by rfl) (ht:eval (.Call (.Attribute o m apos) (e::es) [] pos) X.env=(do
     let ov<-eval o X.env
     standAt apos.atName
     let(f,first)<-holding [ov] (getMethod ov m pl)
     callWith pos f first (backTo pos (starEach (e::es) X.env)) (backToKw pos (keywordEach [] X.env))):=by rfl): PE X (.Call (.Attribute o m apos) (e::es) [] pos) (qM C m sp bO E ta t):=by
  intro pins s σ H Q I h;refine PySem.W.methodCall_KW (pl:=pl) (ak (he pins s σ H _ I h) fun u s1 ⟨x,H1,I1,rx,a,dx,fs,ex,ea,l,q⟩=>?_) ht;subst ex;obtain rfl:u=Value.ref a:=rx;refine uQ I1 ea c hm l ?_;refine mr (first:=[.ref a]) (h₀:=X.base) I.ok.mod.kin hm.kp (ak (ha pos pins s1 σ H1 _ I1 q) fun us s2 ⟨vs,H2,I2,r,q2⟩=>⟨I2.bG,?_⟩) cQ bA;exact kI (us:=.ref a::us) (vs:=.ref a::vs) F hr hb hd hx I2 (.cons rfl r) q2
theorem Ae{pl:Sem Bool}(he:PE X o ta)(c:d6 X.K C)(hm:Meth X.K C m f)(F:cq X.prog X.w X.K X.mg X.base CX k f fd ps sp)(hr:ba k X.A)(hb:Binds X.K fd ps ds)(hd:Vals bO ds)(hx:Passes CX X E) (ht:eval (.Call (.Attribute o m apos) [] [] pos) X.env=(do
     let ov<-eval o X.env
     standAt apos.atName
     let(f,first)<-holding [ov] (getMethod ov m pl)
     callWith pos f first (backTo pos (starEach [] X.env)) (backToKw pos (keywordEach [] X.env))):=by rfl): PE X (.Call (.Attribute o m apos) [] [] pos) (qM C m sp bO E ta kv):=by
  intro pins s σ H Q I h;refine PySem.W.methodCall_KW (pl:=pl) (ak (he pins s σ H _ I h) fun u s1 ⟨x,H1,I1,rx,a,dx,fs,ex,ea,l,q⟩=>?_) ht;subst ex;obtain rfl:u=Value.ref a:=rx;refine uQ I1 ea c hm l ?_;exact PySem.W.callWith_K0 (first:=[.ref a]) I1.bG hm.kp (kI (us:=[.ref a]) (vs:=[.ref a]) F hr hb hd hx I1 (.cons rfl .nil) q)
structure Mk(K:He)(C f:Addr):Prop where
 makes:PySem.W.makesIn K C=true
 init:PySem.W.findIn K (.ref C) "__init__"=some (some (.ref f))
 fn:PySem.W.isFn K (.ref f)=true
 kp:PySem.W.keepIn K (.ref C)=true
theorem zE{pins:List (Addr×Obj)}{σ:St}{H:Hp}{s:Hf}{Q:VK}{us:List Value}{vs:List V}(M:Mk X.K C f)(F:cq X.prog X.w X.K X.mg X.base CX k f fd ps sp)(hr:ba (k+1) X.A)(hb:Binds X.K fd ps ds)(hd:Vals bO ds) (hx:Passes CX X E)(I:Inv X pins σ H s)(r:Vals vs us) (h:∀x dx,H x=none->H dx=none->dx≠x->sp (.ref x::(vs++bO)) (upd (upd H dx (.own x)) x (.ins C dx [])) (fun v H2=>v= .ax/\Q (.ref x) H2) E): wpAny (model X.prog X.w) X.A (call (.ref C) us) (EP X pins σ Q) X.xe s:=by
  have hq:=h (s.heap.objs.size+1) s.heap.objs.size (I.hok.fresh (Nat.le_succ _)) (I.hok.fresh (aJ _)) (cg (Nat.lt_succ_self _));have I2:=Inv.made (C:=C) I;have r2:Vals (V.ref (s.heap.objs.size+1)::(vs++bO)) (Value.ref (s.heap.objs.size+1)::(us++ds)):=.cons rfl (r.append hd);have hl:(Value.ref (s.heap.objs.size+1)::us++ds).length=ps.length:=by have e:=r2.length;rw[F.len _ _ _ _ hq]at e;exact e.symm
  refine jY (BK (f:=f) I.bG M.makes M.init (bE.mp M.fn) (mn (F.run _ X.stack _ _ ⟨Value.ref (s.heap.objs.size+1)::us,[]⟩ (Value.ref (s.heap.objs.size+1)::(us++ds)) _ _ E (hr.make C us []) (I2.pw.make C us []) (hb _ (Value.ref (s.heap.objs.size+1)::us) I2.bG hl) r2 hq) fun r s' ju=>?_));cases r with |error e=>exact hx pins σ _ _ e s' I2 ju |ok fl=>cases fl with |ret u=>obtain⟨v,H',I3,rv,ev,q3⟩:=I2.after ju;subst ev;exact⟨rv,⟨V.ref (s.heap.objs.size+1),H',I3,rfl,q3⟩⟩ |next=>exact False.elim ju |brk=>exact False.elim ju |cont=>exact False.elim ju
theorem sS(M:Mk X.K C f)(F:cq X.prog X.w X.K X.mg X.base CX k f fd ps sp)(hr:ba (k+1) X.A)(hg:Gl X x)(hm:X.mg x=some (.ref C))(hb:Binds X.K fd ps ds)(hd:Vals bO ds)(hx:Passes CX X E) (ha:PA X (e::es) t)(bQ:(x==("__debug__":Str))=false:=by decide)(he:starEach (e::es) X.env=(false,eval e X.env)::starEach es X.env:=by rfl)(bA:(backTo pos (starEach es X.env)).any (·.1)=false:=by rfl): PE X (.Call (.Name x p) (e::es) [] pos) (yK C sp bO E t):=by intro pins s σ H Q I h;refine jZ (g6 I hg hm ?_ bQ);refine mr (h₀:=X.base) I.ok.mod.kin M.kp (ak (ha pos pins s σ H _ I h) fun us s1 ⟨vs,H1,I1,r,q⟩=>⟨I1.bG,?_⟩) he bA;exact zE M F hr hb hd hx I1 r q
end
section
variable {X:Cx}{CX:d7}{k:Nat}{f C:Addr}{fd:FuncData}{ps ks:List Str}{sp:Sp}{E:XK}{x m:Str}{p pos apos GF:Pos}{e o:Expr}{es:List Expr}{GC:List Keyword}{te ta:TE}{t tk:TA}{nm:Option Str}
variable {g:List Value->List Value->List Value}{gV:List V->List V->List V}
end
structure bb(N P:List Str)(sc:Scope):Prop where
 kind:sc.kind= .function
 co:sc.isCoroutine=false
 gen:sc.isGenerator=false
 nd:N.Nodup
 pre:N.take P.length=P
 par:∀x∈P,sc.names.lookup x=some .local\/sc.names.lookup x=some .cell
 nofree:∀y∈sc.names,y.2≠ .free
theorem vz{kindOf:Str->Option NameKind}{x:Str}:∀{binds:List (Str×Value)}{m:Str->Option Value},(∀v,(x,v)∉binds)->bindL kindOf binds m x=m x
  |[],_,_=>rfl |(n,v)::r,m,h=>by
    unfold bindL;rw[vz fun w hw=>h w (iS _ hw)];split
    · have:x≠n:=by rintro rfl;exact h v ql
      simp[this]
    ·rfl
theorem vB{kindOf:Str->Option NameKind}{x:Str}:∀{binds:List (Str×Value)}{m:Str->Option Value},(∀v,(x,v)∉binds)->bindC kindOf binds m x=m x
  |[],_,_=>rfl |(n,v)::r,m,h=>by
    unfold bindC;rw[vB fun w hw=>h w (iS _ hw)];split
    ·rfl
    · have:x≠n:=by rintro rfl;exact h v ql
      simp[this]
theorem vA{kindOf:Str->Option NameKind}{x:Str}{v:Value}:∀{P:List Str}{vs:List Value}{i:Nat}{m:Str->Option Value},P.Nodup->P[i]? =some x->vs[i]? =some v->kindOf x=some .local->bindL kindOf (P.zip vs) m x=some v |[],_,_,_,_,h,_,_=>by simp at h |_::_,[],_,_,_,_,h,_=>by simp at h |p::P,w::vs,0,m,nd,h1,h2,hk=>by simp at h1 h2;subst h1;subst h2;show bindL kindOf ((p,w)::P.zip vs) m p=_;unfold bindL;rw[vz fun v hv=>(qk.mp nd).1 (ka hv).1,aK hk];simp |p::P,w::vs,i+1,m,nd,h1,h2,hk=>by show bindL kindOf ((p,w)::P.zip vs) m x=_;unfold bindL;exact vA (i:=i) (qk.mp nd).2 (by simpa using h1) (by simpa using h2) hk
theorem vC{kindOf:Str->Option NameKind}{x:Str}{v:Value}:∀{P:List Str}{vs:List Value}{i:Nat}{m:Str->Option Value},P.Nodup->P[i]? =some x->vs[i]? =some v->kindOf x≠some .local->bindC kindOf (P.zip vs) m x=some v |[],_,_,_,_,h,_,_=>by simp at h |_::_,[],_,_,_,_,h,_=>by simp at h |p::P,w::vs,0,m,nd,h1,h2,hk=>by simp at h1 h2;subst h1;subst h2;show bindC kindOf ((p,w)::P.zip vs) m p=_;unfold bindC;rw[vB fun v hv=>(qk.mp nd).1 (ka hv).1,aI hk];simp |p::P,w::vs,i+1,m,nd,h1,h2,hk=>by show bindC kindOf ((p,w)::P.zip vs) m x=_;unfold bindC;exact vC (i:=i) (qk.mp nd).2 (by simpa using h1) (by simpa using h2) hk
def start(N:List Str)(vs:List V):St:=vs.map some++List.replicate (N.length-vs.length) none
def cc(CX:d7)(P:Hg)(w:World)(K:He)(mg:Str->Option Value)(base:Heap)(N:List Str)(qual:Str)(scope:Scope)(f:Addr)(cd:Value)(A:Hi)(outer:List Env)(s:Hf)(H:Hp)(E:XK):Cx where
 prog:=P
 w:=w
 K:=K
 mg:=mg
 base:=base
 A:=A.deeper (envOfC qual scope s.heap.objs.size f cd)
 N:=N
 s₀:=s
 H₀:=H
 env:=envOfC qual scope s.heap.objs.size f cd
 outer:=outer
 stack:=envOfC qual scope s.heap.objs.size f cd::outer
 ex:=[]
 calm:=true
 fn:=fun _=>true
 pn:=[]
 xe:=fun e s'=>wpAny (model P w) (A.deeper (envOfC qual scope s.heap.objs.size f cd)) (leaving (envOfC qual scope s.heap.objs.size f cd) e) (fun _ nG=>CX outer H s E e nG) (fun e' nG=>CX outer H s E e' nG) s'
theorem vn{sc:Scope}{n:Nat}{x:Str}(h:sc.names.lookup x=some .cell):∃c,(cellsFrom n sc.names []).lookup x=some c:=by have q:=qb sc.names n [] (.inl h);exact Option.isSome_iff_exists.mp q
theorem oo{CX:d7}{P:Hg}{w:World}{K:He}{mg:Str->Option Value}{base:Heap}{N ps:List Str}{qual:Str}{scope:Scope}{f:Addr}{cd:Value}{A:Hi}{outer:List Env}{s s1:Hf}{H:Hp}{E:XK}{us:List Value}{vs:List V} (S:bb N ps scope)(hd:A.handled=none)(e0:fM P w K mg base A outer s H)(hl:vs.length=ps.length)(r:Vals vs us) (x:InCallC s s.heap.objs.size (bindL (envOfC qual scope s.heap.objs.size f cd).kindOf (ps.zip us) fun _=>none) (cellsFrom (s.heap.objs.size+1) scope.names []) (bindC (envOfC qual scope s.heap.objs.size f cd).kindOf (ps.zip us) fun _=>none) s1): Inv (cc CX P w K mg base N qual scope f cd A outer s H E) [] (start N vs) H s1:=by
  have bA:ps.length<=N.length:=by have:=gs List.length S.pre;rw[iU]at this;omega
  obtain⟨h1,tk,rfl,hk⟩:=x.done;have ji:∀b:Addr,b∉(cc CX P w K mg base N qual scope f cd A outer s H E).ex:=fun b z=>absurd (show b∈([]:List Addr)from z) (by simp);refine⟨⟨e0.mod,S.kind,rfl,rfl,aJ _,fun y z c h1 h2=>?_,fun y hy=>?_,fun y c _ h=>?_,fun _=>hd,Around.frames_deeper e0.frames,.inr ⟨rfl,rfl⟩,fun b z=>absurd z (ji b),e0.bs,e0.bsz,fun b _ _=>ji b,fun b z=>absurd z (ji b),e0.cM,e0.frf⟩,rfl,e0.bare,Un.kept hk,⟨_,x.toInCall.ns,fun i y v h1 h2 h3=>?_⟩,fun y c h=>⟨_,x.cell y c h⟩,e0.hok.fresh (aJ _),fun y c h=>?_,fun p hp=>absurd (show p∈([]:List (Addr×Obj))from hp) (by simp),e0.hok.kept hk,?_⟩
  ·exact name_of_addr x.apart (mq h1) (mq h2)
  · have hy:scope.names.lookup y=some .cell\/scope.names.lookup y=some .free:=hy
    rcases hy with hy|hy
    ·exact vn hy
    ·exact absurd rfl (S.nofree _ (mq hy))
  ·exact qj (x.above y c (mq h))
  · have hi:i<vs.length:=by
      unfold start at h2;by_cases hi:i<vs.length
      ·exact hi
      · rw[List.getElem?_append_right (by simpa using hi)]at h2
        rw[List.getElem?_replicate]at h2;split at h2<;>cases h2
    have ha:vs[i]? =some v:=by unfold start at h2;rw[List.getElem?_append_left (by simpa using hi),du]at h2;cases e:vs[i]? with |none=>rw[e]at h2;cases h2 |some a=>rw[e]at h2;cases h2;rfl
    obtain⟨u,hu,rv⟩:=r.get ha;have hp:ps[i]? =some y:=by rw[<-S.pre,List.getElem?_take_of_lt (by omega)];exact h1
    have tF:ps.Nodup:=by rw[<-S.pre];exact S.nd.sublist (List.take_sublist _ _)
    refine⟨u,rv,?_⟩;rcases S.par y (iQ hp)with k|k
    ·exact .inl ⟨k,vA tF hp hu k⟩
    · obtain⟨c,e⟩:=vn (n:=s.heap.objs.size+1) k
      refine .inr ⟨.inl k,c,e,?_⟩;have q:=x.cell y c e;rw[vC tF hp hu (by show scope.names.lookup y≠_;rw[k];decide)]at q;exact q
  ·exact e0.hok.fresh (qj (x.above y c (mq h)))
  · unfold start
    show _=N.length;rw[dc,aZ,List.length_replicate];omega
theorem uW{CX:d7}{P:Hg}{w:World}{K:He}{mg:Str->Option Value}{base:Heap}{k:Nat}{f:Addr}{name qual:Str}{params:Arguments}{body:List Stmt}{scope:Scope}{dV kV doc pm ah ct oc:Value}{an od:Option Addr} {bL:Array (Option Value)}{N ps:List Str}{sp:Sp}(lk:K.lookup f=some ⟨oc,od,.func (PySem.W.fnOf name qual params body scope dV kV doc pm an ah ct),bL⟩)(bN:PySem.W.codeIn K ah qual=true)(S:bb N ps scope) (len:∀vs H Q E,sp vs H Q E->vs.length=ps.length) (bZ:∀(A:Hi)(outer:List Env)(s:Hf)(H:Hp)(vs:List V)(Q:VK)(E:XK),ba k (A.deeper (envOfC qual scope s.heap.objs.size f ah))->sp vs H Q E->∃t,bJ (cc CX P w K mg base N qual scope f ah A outer s H E) body t/\t {nx:=fun _ H'=>Q .ax H',rt:=Q} (start N vs) H): cq P w K mg base CX (k+1) f (PySem.W.fnOf name qual params body scope dV kV doc pm an ah ct) ps sp:=by
  refine⟨len,fun A outer s H args us vs Q E hr e0 hb r bU=>?_⟩;have hl:=len _ _ _ _ bU;have KX:K.In s.heap:=e0.mod.kin.keeps fun b o e=>(e0.bs b o e).1;have lim:s.heap.NoLimit:=e0.mod.nolimit.keeps fun b o e=>(e0.bs b o e).1;have gd:∀y∈ps.zip us,scope.names.lookup y.1=some .local\/(scope.names.lookup y.1=some .cell/\((cellsFrom (s.heap.objs.size+1) scope.names []).lookup y.1).isSome=true):=fun⟨n,v⟩ hy=>by
   rcases S.par n (ka hy).1 with q|q
   ·exact .inl q
   ·exact .inr ⟨q,qb _ _ _ (.inl q)⟩
  refine xE hr.depth (KX _ _ lk) rfl S.co S.gen rfl (xI KX bN) (hb _ _ _ _ ?_);refine xB S.kind gd fun env he s1 x=>?_;subst he;refine⟨lim.keeps x.toInCall.keep,codeAny_func ?_⟩;obtain⟨t,ht,hq⟩:=bZ A outer s H vs Q E (hr.deeper _) bU;have I:Inv (cc CX P w K mg base N qual scope f ah A outer s H E) [] (start N vs) H s1:=oo S hr.hd e0 hl r x;refine d9 (ht [] s1 (start N vs) H _ I hq) (fun fl s' hs=>?_) fun e s' hs=>hs;have fin:∀{σ':St}{H':Hp}{v:V}{u:Value},Inv (cc CX P w K mg base N qual scope f ah A outer s H E) [] σ' H' s'->RelV v u->Q v H'->CE outer P w H s Q u s':=fun{σ' H' v u} J rv q=>⟨v,H',J.os,J.bare,J.base,J.hok,rv,q⟩;cases fl with |ret u=>obtain⟨v,σ',H',J,rv,q⟩:=hs;exact fin J rv q |next=>obtain⟨σ',H',J,q⟩:=hs;exact fin (v:=V.ax) (u:=Value.none) J rfl q |brk=>obtain⟨_,_,_,q⟩:=hs;exact False.elim q |cont=>obtain⟨_,_,_,q⟩:=hs;exact False.elim q
section
variable {X:Cx}{x:Str}{p pos:Pos}{e:Expr}{es:List Expr}{t:TA}{id T:String}{r:List V->Hp->VK->Prop}
def kx(r:List V->Hp->VK->Prop)(t:TA):TE:=fun σ H Q=>t σ H fun vs H1=>r vs H1 Q
theorem bF(hc:bR X (.builtin id) r)(hg:Gl X x)(hm:X.mg x=none)(hv:bootBuiltins x=some (.builtin id))(ha:PA X (e::es) t)(hn:x≠"__name__":=by decide)(bQ:(x==("__debug__":Str))=false:=by decide) (he:starEach (e::es) X.env=(false,eval e X.env)::starEach es X.env:=by rfl)(bA:(backTo pos (starEach es X.env)).any (·.1)=false:=by rfl):PE X (.Call (.Name x p) (e::es) [] pos) (kx r t):=by intro pins s σ H Q I h;refine jZ (ix I hg hm hv ?_ hn bQ);exact PyProof.Rows.callWith_builtin1 (ak (ha pos pins s σ H _ I h) fun us s1 ⟨vs,H1,I1,r1,q1⟩=>hc pins s1 σ H1 vs us Q I1 r1 q1) he bA
theorem fC(hc:bR X (.type T) r)(hg:Gl X x)(hm:X.mg x=none)(hv:bootBuiltins x=some (.type T))(ha:PA X (e::es) t)(hn:x≠"__name__":=by decide)(bQ:(x==("__debug__":Str))=false:=by decide) (he:starEach (e::es) X.env=(false,eval e X.env)::starEach es X.env:=by rfl)(bA:(backTo pos (starEach es X.env)).any (·.1)=false:=by rfl):PE X (.Call (.Name x p) (e::es) [] pos) (kx r t):=by intro pins s σ H Q I h;refine jZ (ix I hg hm hv ?_ hn bQ);exact qf (ak (ha pos pins s σ H _ I h) fun us s1 ⟨vs,H1,I1,r1,q1⟩=>hc pins s1 σ H1 vs us Q I1 r1 q1) he bA
end
end L2
namespace HT
open PySem PyProof.Rows
section
open PySem.SeqAt
open PySem.AutoSeq1 (wpAny_loadPart')
open PySem.MeetsSeq PySem.MeetsSeq2 PySem.MeetsSeq3
end
section
variable {prog:Hg}{w:World}{A:Hi}{E:Value->Hf->Prop}{s:Hf}
theorem Fq{t b:Addr}{vs ws:List Value}{Q:Value->Hf->Prop}(ht:IsTup s.heap t vs.toArray)(hb:IsTup s.heap b ws.toArray)(hv:vs≠[]) (h1:ws=[]->Q (.ref t) s)(h2:ws≠[]->Q (.ref s.heap.objs.size) {s with heap:=s.heap.push {cls:=.type "tuple",data:=.seq (vs++ws).toArray}}) (oz:vs.length+ws.length<=sizeLine):wpAny (model prog w) A (binaryOp .Add (.ref t) (.ref b)) Q E s:=by
  obtain⟨⟨cls,dd,data,sl⟩,ho,hc,n,hd⟩:=id ht;obtain⟨⟨vj,iG,data2,ib⟩,fh,cC,n2,hd2⟩:=id hb;simp only at hc hd cC hd2;subst hc hd cC hd2;have e:vs.toArray++ws.toArray=(vs++ws).toArray:=by simp
  by_cases hw:ws=[]
  ·exact concat_meets ⟨_,ho,rfl⟩ ⟨_,fh,rfl⟩ noFill_tuple_add seq_tuple_add xJ xM (xN _ _) (tuple_addW1 t b vs.toArray ws.toArray n n2 dd iG sl ib (by simpa using hv) (by simp[hw])) ⟨ho,fh,h1 hw⟩
  · refine concat_meets ⟨_,ho,rfl⟩ ⟨_,fh,rfl⟩ noFill_tuple_add seq_tuple_add xJ xM (xN _ _) (tuple_addW2 t b vs.toArray ws.toArray n n2 dd iG sl ib (by simpa using hv) (by simpa using hw) (by rw[bC,bC];exact oz)) ⟨ho,fh,?_⟩;rw[e];exact h2 hw
def az(n d:Nat):Option Int->Nat |none=>d |some v=>if v<0 then(v+(n:Int)).toNat else min v.toNat n
theorem zu(n d:Nat)(hd:d<=n)(o:Option Int):az n d o<=n:=by cases o with |none=>exact hd |some v=>
   show(if v<0 then(v+(n:Int)).toNat else min v.toNat n)<=n;by_cases hv:v<0
   ·rw[aK hv];omega
   ·rw[aI hv];exact Nat.min_le_right _ _
theorem vk(v:Int)(n d:Nat):(if v<0 then max (v+(n:Int)) 0 else min v (n:Int))=((az n d (some v):Nat):Int):=by
 show(if v<0 then max (v+(n:Int)) 0 else min v (n:Int))=(((if v<0 then(v+(n:Int)).toNat else min v.toNat n):Nat):Int);by_cases hv:v<0
 ·simp only[aK hv];omega
 ·simp only[aI hv];omega
theorem FV(lo hi:Option Int)(n:Nat):Builtin.Slice.sliceAdjust lo hi 1 (n:Int)=(((az n 0 lo:Nat):Int),((az n n hi:Nat):Int)):=by
 have h1:¬((1:Int)<0):=by omega
 unfold Builtin.Slice.sliceAdjust;simp only[h1,if_false];refine Prod.ext ?_ ?_
 ·cases lo with |none=>rfl |some v=>exact vk v n 0
 ·cases hi with |none=>rfl |some v=>exact vk v n n
theorem A3(i j:Nat):Builtin.Slice.slicePlaces (i:Int) (j:Int) 1=j-i:=by
 unfold Builtin.Slice.slicePlaces;have h1:(1:Int)>0:=by omega
 simp only[h1,if_true,Int.ediv_one];split<;>omega
theorem rq{v:Value}{o:Option Int}{Q:Option Int->Hf->Prop}(p:IsPart v o)(h:Q o s):wpAny (model prog w) A (Builtin.Slice.slicePartIndex v) Q E s:=by cases p with |none=>exact slicePart_none h |int i t=>exact slicePart_int h
theorem rz{sl:Addr}{vl vu:Value}{lo hi:Option Int}{n:Nat}{Q:Int×Int×Nat->Hf->Prop}(hs:s.heap.IsSliceOf sl vl vu .none)(pl:IsPart vl lo)(pu:IsPart vu hi) (h:Q (((az n 0 lo:Nat):Int),1,az n n hi-az n 0 lo) s):wpAny (model prog w) A (Builtin.Slice.sliceApplied (.ref sl) (pure (n:Int))) Q E s:=by obtain⟨os,gK,lG,jx⟩:=id hs;unfold Builtin.Slice.sliceApplied Builtin.Slice.sliceFields;refine ae (ae (cJ gK jx (x:=vl) rfl (ae (cJ gK jx (x:=vu) rfl (ae (cJ gK jx (x:=.none) rfl (aE ?_)))))));refine ae (slicePart_none ?_);show wpAny _ _ (if((1:Int)==0)=true then _ else _) _ _ s;rw[aI (by decide)];refine ae (rq pl (ae (rq pu (ae (aE ?_)))));show wpAny _ _ (match Builtin.Slice.sliceAdjust lo hi 1 (n:Int)with|(lo,hi)=>pure (lo,(1:Int),Builtin.Slice.slicePlaces lo hi 1)) _ _ s;rw[FV lo hi n];show wpAny _ _ (pure (((az n 0 lo:Nat):Int),(1:Int),Builtin.Slice.slicePlaces ((az n 0 lo:Nat):Int) ((az n n hi:Nat):Int) 1)) _ _ s;rw[A3];exact aE h
theorem A5(xs:Array Value)(i k:Nat):((List.range k).filterMap fun(m:Nat)=>xs[((i:Int)+(m:Int)*1).toNat]?).toArray=((xs.toList.drop i).take k).toArray:=by
 have e:(fun(m:Nat)=>xs[((i:Int)+(m:Int)*1).toNat]?)=fun m=>xs[i+m]?:=by
  funext m;have:((i:Int)+(m:Int)*1).toNat=i+m:=by omega
  rw[this]
 rw[e];have:=pick_run xs i k;rw[List.filterMap_map]at this;have e2:((fun x=>xs[x]?)∘fun x=>i+x)=fun m=>xs[i+m]?:=rfl;rw[e2]at this;rw[this]
theorem Et{t sl:Addr}{items:Array Value}{vl vu:Value}{lo hi:Option Int}{Q:Value->Hf->Prop}(ht:IsTup s.heap t items)(hs:s.heap.IsSliceOf sl vl vu .none)(pl:IsPart vl lo)(pu:IsPart vu hi) (hw:¬(az items.size 0 lo=0/\az items.size items.size hi=items.size)) (h:Q (.ref s.heap.objs.size) {s with heap:=s.heap.push {cls:=.type "tuple",data:=.seq ((items.toList.drop (az items.size 0 lo)).take (az items.size items.size hi-az items.size 0 lo)).toArray}}) (oz:items.size<=sizeLine):wpAny (model prog w) A (getItem (.ref t) (.ref sl)) Q E s:=by
  have la:sizeOk (.seq ((items.toList.drop (az items.size 0 lo)).take (az items.size items.size hi-az items.size 0 lo)).toArray):=by show((items.toList.drop (az items.size 0 lo)).take (az items.size items.size hi-az items.size 0 lo)).toArray.size<=sizeLine;rw[bC,iU,xT,gw];omega
  have hj:az items.size items.size hi<=items.size:=zu _ _ (aJ _) hi;obtain⟨os,gK,lG,jx⟩:=id hs;have oY:s.TypeIs (.ref sl) "slice":=⟨os,gK,lG⟩;unfold getItem
  try with_reducible refine dB ?_
  first|refine ae (aE ?_)|skip
  refine ae (wpAny_sequenceKey ht.typeIs (by decide) ?_);refine ae (jX (name:=Str.ofString "__getitem__") ht.typeIs k7 (jW k7 ht.typeIs entry_tuple_getitem ?_ (args_tuple_getitem _ _)));show wpAny _ _ (Builtin.Tuple.tupleItemsOf (.ref t)>>=_) _ _ s;refine ae (tupleItemsOf_ ht ?_);refine ae (me oY ?_);rw[aK (by decide)];refine ae (rz hs pl pu ?_);have CV:¬((((az items.size 0 lo:Nat):Int)==0&&(1:Int)==1&&(az items.size items.size hi-az items.size 0 lo)==items.size)=true):=by intro q;rw[bW,bW]at q;have q1:((az items.size 0 lo:Nat):Int)=0:=eq_of_beq q.1.1;have q2:az items.size items.size hi-az items.size 0 lo=items.size:=eq_of_beq q.2;exact hw ⟨by omega,by omega⟩
  show wpAny _ _ (if(((az items.size 0 lo:Nat):Int)==0&&(1:Int)==1&&(az items.size items.size hi-az items.size 0 lo)==items.size)=true then _ else _) _ _ s;rw[aI CV,A5]
  first |exact ae (m:=Builtin.Tuple.tupleExact _) (gq (aE ⟨_,rfl,aE h⟩) la) |exact ae (m:=Builtin.Tuple.tupleExact _) (gq (ae (aE (aE ⟨_,rfl,aE h⟩))) la) |exact ae (ae (m:=Builtin.Tuple.tupleExact _) (gq (aE (aE ⟨_,rfl,aE h⟩)) la)) |exact ae (ae (m:=Builtin.Tuple.tupleExact _) (gq (aE ⟨_,rfl,aE h⟩) la))
end
end HT
namespace L2
open PySem PySem.Spec PyProof.Rows
abbrev TO:=St->Hp->(Option Int->Hp->Prop)->Prop
def PO(X:Cx)(e:Option Expr)(t:TO):Prop:=∀(pins:List (Addr×Obj))(s:Hf)(σ:St)(H:Hp)(Q:Option Int->Hp->Prop),Inv X pins σ H s->t σ H Q->wpAny (model X.prog X.w) X.A (evalPart e X.env) (fun u s'=>∃o H',Inv X pins σ H' s'/\IsPart u o/\Q o H') X.xe s
def yF:TO:=fun _ H Q=>Q none H
inductive vW(Q:Option Int->Hp->Prop)(x:V)(H1:Hp):Prop |mk (i:_)(h0:x= .int i)(h1:Q (some i) H1):vW Q x H1
def yB(t:TE):TO:=fun σ H Q=>t σ H fun x H1=>vW Q x H1
section
variable {X:Cx}{e:Expr}{te:TE}{lo hi:Option Expr}{tl th:TO}{pos p2:Pos}
theorem fb:PO X none yF:=by intro pins s σ H Q I h;rw[evalPart_none];exact aE ⟨none,H,I,.none,h⟩
theorem dF(h:PE X e te):PO X (some e) (yB te):=by intro pins s σ H Q I hw;rw[evalPart_some];refine ak (h pins s σ H _ I hw) fun u s1 ⟨x,H1,I1,r1,q1⟩=>?_;obtain⟨i,rfl,q⟩:=q1;obtain⟨t,rfl⟩:=r1;exact⟨some i,H1,I1,.int i t,q⟩
def jN(X:Cx)(r:V->Option Int->Option Int->Hp->VK->Prop):Prop:=∀(pins:List (Addr×Obj))(s:Hf)(σ:St)(H:Hp)(x:V)(v vl vu:Value)(lo hi:Option Int)(sl:Addr)(Q:VK),Inv X pins σ H s->RelV x v->s.heap.IsSliceOf sl vl vu .none->IsPart vl lo->IsPart vu hi->r x lo hi H Q->∃T id,typeLookup (.type T) "__getitem__"=pure (some (.builtin id))/\s.TypeIs v T/\wpAny (model X.prog X.w) X.A (getItem v (.ref sl)) (EP X pins σ Q) X.xe s
def yx(r:V->Option Int->Option Int->Hp->VK->Prop)(te:TE)(tl th:TO):TE:=fun σ H Q=>te σ H fun x H1=>tl σ H1 fun l H2=>th σ H2 fun u H3=>r x l u H3 Q
theorem eu{r:V->Option Int->Option Int->Hp->VK->Prop}(hr:jN X r)(he:PE X e te)(hl:PO X lo tl)(hu:PO X hi th):PE X (.Subscript e (.Slice lo hi none p2) pos) (yx r te tl th):=by intro pins s σ H Q I h;refine Subscript_ (ak (he pins s σ H _ I h) fun v s1 ⟨x,H1,I1,r1,q1⟩=>?_);refine wpAny_Slice (ak (hl pins s1 σ H1 _ I1 q1) fun vl s2 ⟨l,H2,I2,pl,q2⟩=>ak (hu pins s2 σ H2 _ I2 q2) fun vu s3 ⟨u,H3,I3,pu,q3⟩=>?_);rw[evalPart_none];refine aE ?_;have I4:Inv X pins σ H3 {s3 with heap:=s3.heap.push {cls:=.type "slice",data:=.fields #[vl,vu,.none]}}:=I3.kept (t':=s3.toks) fun b ob q=>aY _ q;obtain⟨T,id,hT,ht,hg⟩:=hr pins {s3 with heap:=s3.heap.push {cls:=.type "slice",data:=.fields #[vl,vu,.none]}} σ H3 x v vl vu l u s3.heap.objs.size Q I4 r1 (Heap.IsSliceOf.new ..) pl pu q3;show wpAny (model X.prog X.w) X.A (subscriptTail e (.Slice lo hi none p2) v (.ref s3.heap.objs.size)) (EP X pins σ Q) X.xe {s3 with heap:=s3.heap.push {cls:=.type "slice",data:=.fields #[vl,vu,.none]}};exact tail_any (ops:=[.ref s3.heap.objs.size,v]) ht hT hg (by with_unfolding_all rfl)
def dU(xs:List V)(lo hi:Option Int):List V:=(xs.drop (HT.az xs.length 0 lo)).take (HT.az xs.length xs.length hi-HT.az xs.length 0 lo)
theorem vd(xs:List V)(lo hi:Option Int):(dU xs lo hi).length<=xs.length:=by unfold dU;rw[iU,xT];omega
inductive wI(K:He)(x:V)(lo:Option Int)(hi:Option Int)(H:Hp)(Q:VK):Prop |mk (a:_)(xs:_)(h0:x= .ref a)(h1:aH K H a xs)(h2:¬(HT.az xs.length 0 lo=0/\HT.az xs.length xs.length hi=xs.length))(h3:∀p,H p=none->Q (.ref p) (upd H p (.tup (dU xs lo hi)))):wI K x lo hi H Q
def zI(K:He):V->Option Int->Option Int->Hp->VK->Prop:=fun x lo hi H Q=>wI K x lo hi H Q
theorem rA:jN X (zI X.K):=by
 intro pins s σ H x v vl vu lo hi sl Q I rx hs pl pu h;obtain⟨a,xs,rfl,hx,hw,q⟩:=h;cases rx;obtain⟨its,r,ht,hz⟩:=I.tuple hx;have hlen:its.toArray.size=xs.length:=by rw[bC];exact r.length.symm
 refine⟨"tuple",_,k7.lookup,ht.typeIs,?_⟩;refine HT.Et ht hs pl pu (by rw[hlen];exact hw) ?_ (by rw[hlen];exact hz);rw[hlen];refine⟨.ref s.heap.objs.size,_,I.laid (t':=s.toks) (o:=.tup (dU xs lo hi)) (fun b ob q=>aY _ q) (aJ _) ?_,rfl,q _ (I.hok.fresh (aJ _))⟩;exact⟨dr (vd xs lo hi) hz,_,(r.drop (HT.az xs.length 0 lo)).take (HT.az xs.length xs.length hi-HT.az xs.length 0 lo),IsTup.new _ _⟩
theorem Vals.o4{xs:List V}{us:List Value}(r:Vals xs us):us=[]↔xs=[]:=by cases r with |nil=>simp |cons _ _=>simp
end
end L2
namespace L2
open PySem PySem.Spec PyProof.Rows
def g9(n:Nat)(i:Int):Option Nat:=if 0<=i then(if i<n then some i.toNat else none)else if-(n:Int)<=i then some (i+n).toNat else none
def fk{α:Type}(xs:List α)(i:Int):Option α:=(g9 xs.length i).bind fun j=>xs[j]?
theorem u9{n:Nat}{i:Int}{j:Nat}(h:g9 n i=some j):seqIndex? i n=some j/\j<n/\-(n:Int)<=i/\i<n:=by
 unfold g9 at h;by_cases h0:0<=i
 · rw[aK h0]at h
   by_cases h1:i<n
   · rw[aK h1]at h
     have e:i.toNat=j:=cu h;exact⟨by rw[seqIndex_of h0 h1,e],by omega,by omega,h1⟩
   ·rw[aI h1]at h;cases h
 · rw[aI h0]at h
   by_cases h1:-(n:Int)<=i
   · rw[aK h1]at h
     have e:(i+n).toNat=j:=cu h;exact⟨by rw[seqIndex_neg (by omega) h1,e],by omega,h1,by omega⟩
   ·rw[aI h1]at h;cases h
theorem vH{α:Type}{xs:List α}{i:Int}{v:α}(h:fk xs i=some v):∃j,seqIndex? i xs.length=some j/\xs[j]? =some v/\j<xs.length/\-(xs.length:Int)<=i/\i<xs.length:=by unfold fk at h;cases e:g9 xs.length i with |none=>rw[e]at h;cases h |some j=>rw[e]at h;obtain⟨h1,h2,h3,h4⟩:=u9 e;exact⟨j,h1,h,h2,h3,h4⟩
theorem FP{α:Type}{xs:List α}{j:Nat}{v:α}(h:xs[j]? =some v):fk xs (j:Int)=some v:=by
 have hj:j<xs.length:=(fS.mp h).1;have e:g9 xs.length (j:Int)=some j:=by unfold g9;rw[aK (by omega),aK (by omega)];simp
 unfold fk;rw[e];exact h
def vL(b:Expr):Prop:=∀o i,subscripted b false o i=operate [o,i] (getItem o i)
def gm(X:Cx)(r:R2):Prop:=∀(value slice:Expr)(pins:List (Addr×Obj))(s:Hf)(σ:St)(H:Hp)(x y:V)(v u:Value)(Q:VK),Inv X pins σ H s->RelV x v->RelV y u->r x y H Q->subscripted slice false v u=operate [v,u] (getItem v u)->wpAny (model X.prog X.w) X.A (subscriptTail value slice v u) (EP X pins σ Q) X.xe s
def iK(X:Cx)(id:String)(r:V->List V->Hp->VK->Prop):Prop:=∀(pins:List (Addr×Obj))(s:Hf)(σ:St)(H:Hp)(x:V)(xs:List V)(v:Value)(us:List Value)(Q:VK),Inv X pins σ H s->RelV x v->Vals xs us->r x xs H Q->wpAny (model X.prog X.w) X.A (call (.builtin id) (v::us)) (EP X pins σ Q) X.xe s
section
variable {X:Cx}{a b:Expr}{ta tb:TE}{pos:Pos}
theorem gm.or{r r':R2}(h:gm X r)(h':gm X r'):gm X (fun x y H Q=>r x y H Q\/r' x y H Q):=by
 intro value slice pins s σ H x y v u Q I rx ry q hs;rcases q with q|q
 ·exact h value slice pins s σ H x y v u Q I rx ry q hs
 ·exact h' value slice pins s σ H x y v u Q I rx ry q hs
theorem Ah{r:R2}(hr:gm X r)(ha:PE X a ta)(hb:PE X b tb)(hs:vL b):PE X (.Subscript a b pos) (ku r ta tb):=by intro pins s σ H Q I h;exact Subscript_ (vD ha hb I h fun v u s2 x y H2 I2 rx ry q=>hr a b pins s2 σ H2 x y v u Q I2 rx ry q (hs _ _))
inductive wU(K:He)(x:V)(y:V)(H:Hp)(Q:VK):Prop |mk (p:_)(xs:_)(i:_)(v:_)(h0:x= .ref p)(h1:y= .int i)(h2:aq K H p xs)(h3:fk xs i=some v)(h4:Q v H):wU K x y H Q
def nN(K:He):R2:=fun x y H Q=>wU K x y H Q
inductive wR(K:He)(x:V)(y:V)(H:Hp)(Q:VK):Prop |mk (p:_)(xs:_)(i:_)(v:_)(h0:x= .ref p)(h1:y= .int i)(h2:aH K H p xs)(h3:fk xs i=some v)(h4:Q v H):wR K x y H Q
def nM(K:He):R2:=fun x y H Q=>wR K x y H Q
theorem Ce:gm X (nN X.K):=by
 intro value slice pins s σ H x y v u Q I rx ry h hs;obtain⟨p,xs,i,z,rfl,rfl,hq,he,q⟩:=h;cases rx;obtain⟨t,rfl⟩:=ry;obtain⟨its,r,pl,hz⟩:=I.list hq;obtain⟨j,h1,h2,h3,h4,h5⟩:=vH he;obtain⟨w,ew,nH⟩:=r.get h2;have hl:=r.length;have hn:=jo;have fin:EP X pins σ Q w s:=⟨z,H,I,nH,q⟩;by_cases h0:0<=i
 · have hj:i.toNat=j:=by rw[seqIndex_of h0 h5]at h1;exact cu h1
   exact item_listR pl.isList h0 (by omega) (by rw[hj];simpa using ew) fin hs
 · have hj:(i+(its.toArray.size:Int)).toNat=j:=by rw[seqIndex_neg (by omega) h4]at h1;rw[bC,<-hl];exact cu h1
   exact subscriptTail_builtinR (x:=w) pl.isList.typeIs slot_list_getitem.lookup (wpAny_getItem_list_neg (Q:=fun r s'=>r=w/\EP X pins σ Q r s') pl.isList (by omega) (by rw[bC]<;>omega) (by omega) (by rw[hj];simpa using ew) ⟨rfl,fin⟩) hs
theorem Cd:gm X (nM X.K):=by intro value slice pins s σ H x y v u Q I rx ry h hs;obtain⟨p,xs,i,z,rfl,rfl,hq,he,q⟩:=h;cases rx;obtain⟨t,rfl⟩:=ry;obtain⟨its,r,pl,hz⟩:=I.tuple hq;obtain⟨j,h1,h2,h3,h4,h5⟩:=vH he;obtain⟨w,ew,nH⟩:=r.get h2;have hl:=r.length;have hn:=jo;have fin:EP X pins σ Q w s:=⟨z,H,I,nH,q⟩;exact subscriptTail_builtinR (x:=w) pl.typeIs slot_tuple_getitem.lookup (getItem_tuple (j:=j) (Q:=fun r s'=>r=w/\EP X pins σ Q r s') pl (by omega) (by omega) (by rw[bC,<-hl];exact h1) (by simpa using ew) ⟨rfl,fin⟩) hs
theorem BI(its:List Value)(n j:Nat)(u:Value):Obj.mapSeq (·.setIfInBounds j u) {cls:=.type "list",data:=.seq its.toArray n}={cls:=.type "list",data:=.seq (its.set j u).toArray n}:=by simp[Obj.mapSeq]
theorem Inv.lst{pins:List (Addr×Obj)}{σ:St}{H:Hp}{s:Hf}{p:Addr}{xs:List V}(I:Inv X pins σ H s)(h:H p=some (.lst xs)): ∃(its:List Value)(n:Nat),Vals xs its/\s.heap.get? p=some {cls:=.type "list",data:=.seq its.toArray n}/\xs.length<=sizeLine:=by obtain⟨z,its,n,r,e⟩:=I.hok p _ h;exact⟨its,n,r,e,z⟩
theorem Inv.BN{pins:List (Addr×Obj)}{σ:St}{H:Hp}{s:Hf}{p:Addr}{xs ys:List V}{its its':List Value}{n n':Nat}{f:Obj->Obj}(I:Inv X pins σ H s)(h:H p=some (.lst xs)) (ho:s.heap.get? p=some {cls:=.type "list",data:=.seq its.toArray n})(hf:f {cls:=.type "list",data:=.seq its.toArray n}={cls:=.type "list",data:=.seq its'.toArray n'})(r:Vals ys its')(hz:ys.length<=sizeLine)(t:Nat): Inv X pins σ (upd H p (.lst ys)) {s with heap:=s.heap.update p f,toks:=t}:=by
  have e:(s.heap.update p f).get? p=some {cls:=.type "list",data:=.seq its'.toArray n'}:=by rw[qt f ho (by rw[hf]<;>rfl),hf]
  refine I.write (x:=p) (e:=p) (by rw[h];trivial) (.inl rfl) (fun b u hb q=>(ke _ _ (dC hb)).trans q) ⟨_,e⟩ ?_;exact⟨hz,its',n',r,e⟩
inductive wM(o:V)(i:V)(v:V)(H:Hp)(Q:Hp->Prop):Prop |mk (p:_)(xs:_)(k:_)(j:_)(h0:o= .ref p)(h1:i= .int k)(h2:H p=some (.lst xs))(h3:g9 xs.length k=some j)(h4:Q (upd H p (.lst (xs.set j v)))):wM o i v H Q
def zM:V->V->V->Hp->(Hp->Prop)->Prop:=fun o i v H Q=>wM o i v H Q
theorem set_list:vN X zM:=by
 intro pins s σ H o i v ov iv u Q I ro ri rv h;obtain⟨p,xs,k,j,rfl,rfl,hp,hj,q⟩:=h;cases ro;obtain⟨t,rfl⟩:=ri;obtain⟨its,n,r,ho,hz⟩:=I.lst hp;obtain⟨h1,h2,h3,h4⟩:=u9 hj;have hl:=r.length;have hn:=jo;have I':Inv X pins σ (upd H p (.lst (xs.set j v))) {s with heap:=s.heap.update p (Obj.mapSeq (·.setIfInBounds j u))}:=I.BN hp ho (BI its n j u) (r.set rv j) (by rw[List.length_set];exact hz) s.toks;by_cases h0:0<=k
 · have hk:k.toNat=j:=by rw[seqIndex_of h0 h4]at h1;exact cu h1
   exact PySem.W.ki_setAt ho h0 (by omega) (by rw[bC,<-hl];exact h4) (by rw[hk];exact⟨_,I',q⟩)
 · have hk:(k+(its.toArray.size:Int)).toNat=j:=by rw[seqIndex_neg (by omega) h3]at h1;rw[bC,<-hl];exact cu h1
   exact PySem.W.ki_setBack ho (by omega) (by rw[bC,<-hl];exact h3) (by omega) (by rw[hk];exact⟨_,I',q⟩)
theorem ze(lo hi:Option Int)(n:Nat):(sliceBounds lo hi none n).1=((HT.az n 0 lo:Nat):Int)/\(sliceBounds lo hi none n).2.1=((HT.az n n hi:Nat):Int)/\(sliceBounds lo hi none n).2.2=1:=by
 refine⟨?_,?_,rfl⟩
 ·cases lo with |none=>simp[sliceBounds,HT.az] |some i=>
     simp only[sliceBounds,HT.az,Option.getD_none,show(1:Int)>0 by decide,if_true];by_cases h:i<0
     ·simp only[h,if_true]<;>omega
     ·simp only[h,if_false]<;>omega
 ·cases hi with |none=>simp[sliceBounds,HT.az] |some i=>
     simp only[sliceBounds,HT.az,Option.getD_none,show(1:Int)>0 by decide,if_true];by_cases h:i<0
     ·simp only[h,if_true]<;>omega
     ·simp only[h,if_false]<;>omega
theorem zf(its:List Value)(lo hi:Option Int):slicePick its.toArray lo hi none=((its.drop (HT.az its.length 0 lo)).take (HT.az its.length its.length hi-HT.az its.length 0 lo)).toArray:=by obtain⟨h1,h2,h3⟩:=ze lo hi its.toArray.size;unfold slicePick;rw[h1,h2,h3];simp only[sliceRange_one,pick_run,bC]<;>rfl
inductive wJ(K:He)(x:V)(lo:Option Int)(hi:Option Int)(H:Hp)(Q:VK):Prop |mk (a:_)(xs:_)(h0:x= .ref a)(h1:aq K H a xs)(h2:∀p,H p=none->Q (.ref p) (upd H p (.lst (dU xs lo hi)))):wJ K x lo hi H Q
def zJ(K:He):V->Option Int->Option Int->Hp->VK->Prop:=fun x lo hi H Q=>wJ K x lo hi H Q
theorem zh:jN X (zJ X.K):=by intro pins s σ H x v vl vu lo hi sl Q I rx hs pl pu h;obtain⟨a,xs,rfl,hx,q⟩:=h;cases rx;obtain⟨its,r,ht,hz⟩:=I.list hx;have hlen:=r.length;refine⟨"list",_,slot_list_getitem.lookup,ht.isList.typeIs,?_⟩;refine wpAny_getItem_list_slice ht.isList hs pl pu .none (by simp) ?_ (by rw[bC]<;>omega);rw[zf,<-hlen];refine⟨.ref s.heap.objs.size,_,I.laid (t':=s.toks) (o:=.lst (dU xs lo hi)) (fun b ob q=>aY _ q) (aJ _) ?_,rfl,q _ (I.hok.fresh (aJ _))⟩;exact⟨dr (vd xs lo hi) hz,_,0,(r.drop (HT.az xs.length 0 lo)).take (HT.az xs.length xs.length hi-HT.az xs.length 0 lo),bP _ rfl⟩
def gh:V->Bool | .ax=>true | .bl _=>true | .int _=>true | .str _=>true |_=>false
def gi:V->V->Bool | .ax,.ax=>true | .bl a,.bl b=>a==b | .bl a,.int b=>(if a then 1 else 0)==b | .int a,.bl b=>a==(if b then 1 else 0) | .int a,.int b=>a==b | .str a,.str b=>a==b |_,_=>false
theorem ET{A:Hi}{s:Hf}{y x:V}{u v:Value}(ry:RelV y u)(rx:RelV x v)(fy:gh y=true)(fx:gh x=true):SeqAt.EqAt A s u v (gi y x):=by cases y with
 |ax=>cases ry;cases x with |ax=>cases rx;exact SeqAt.EqAt.same _ |bl b=>cases rx;exact SeqAt.EqAt.none_bool b |int b=>obtain⟨t,rfl⟩:=rx;exact SeqAt.EqAt.none_int b t |str b=>obtain⟨t,rfl⟩:=rx;exact SeqAt.EqAt.none_str b t |_=>exact absurd (show false=true from fx) cj
 |bl a=>cases ry;cases x with |ax=>cases rx;exact SeqAt.EqAt.bool_none a |bl b=>cases rx;exact SeqAt.EqAt.bool_bool a b |int b=>obtain⟨t,rfl⟩:=rx;exact SeqAt.EqAt.bool_int a b t |str b=>obtain⟨t,rfl⟩:=rx;exact SeqAt.EqAt.bool_str a b t |_=>exact absurd (show false=true from fx) cj
 |int a=>obtain⟨t',rfl⟩:=ry;cases x with |ax=>cases rx;exact SeqAt.EqAt.int_none a t' |bl b=>cases rx;exact SeqAt.EqAt.int_bool a t' b |int b=>obtain⟨t,rfl⟩:=rx;exact SeqAt.EqAt.int_int a t' b t |str b=>obtain⟨t,rfl⟩:=rx;exact SeqAt.EqAt.int_str a t' b t |_=>exact absurd (show false=true from fx) cj
 |str a=>obtain⟨t',rfl⟩:=ry;cases x with |ax=>cases rx;exact SeqAt.EqAt.str_none a t' |bl b=>cases rx;exact SeqAt.EqAt.str_bool a t' b |int b=>obtain⟨t,rfl⟩:=rx;exact SeqAt.EqAt.str_int a t' b t |str b=>obtain⟨t,rfl⟩:=rx;exact SeqAt.EqAt.str_str a t' b t |_=>exact absurd (show false=true from fx) cj
 |_=>exact absurd (show false=true from fy) cj
def cW(x:V)(u:Value):Bool:=match u with | .none=>gi .ax x | .bool b=>gi (.bl b) x | .int i _=>gi (.int i) x | .str z _=>gi (.str z) x |_=>false
theorem v8{x y:V}{u:Value}(r:RelV y u)(f:gh y=true):cW x u=gi y x:=by cases y with |ax=>cases r;rfl |bl b=>cases r;rfl |int i=>obtain⟨t,rfl⟩:=r;rfl |str z=>obtain⟨t,rfl⟩:=r;rfl |_=>exact absurd (show false=true from f) cj
theorem jI{x:V}:∀{xs:List V}{us:List Value},Vals xs us->xs.all gh=true->us.any (cW x)=xs.any fun y=>gi y x |_,_,.nil,_=>rfl |y::xs,u::us,.cons r t,f=>by rw[List.all_cons,bW]at f;rw[List.any_cons,List.any_cons,v8 r f.1,jI t f.2]
theorem jm{A:Hi}{s:Hf}{x:V}{v:Value}(rx:RelV x v)(fx:gh x=true):∀{xs:List V}{us:List Value},Vals xs us->xs.all gh=true->∀u∈us,SeqAt.EqAt A s u v (cW x u)
  |_,_,.nil,_=>fun u hu=>by cases hu |y::xs,u::us,.cons r t,f=>fun u' hu=>by
    rw[List.all_cons,bW]at f;rcases bV.mp hu with rfl|hu
    ·rw[v8 r f.1];exact ET r rx f.1 fx
    ·exact jm rx fx t f.2 u' hu
def jr(x:V)(xs:List V):Bool:=xs.any fun y=>gi y x
inductive wZ(K:He)(neg:Bool)(x:V)(y:V)(H:Hp)(Q:VK):Prop |mk (p:_)(xs:_)(h0:y= .ref p)(h1:(aq K H p xs\/aH K H p xs))(h2:gh x=true)(h3:xs.all gh=true)(h4:Q (.bl (if neg then !jr x xs else jr x xs)) H):wZ K neg x y H Q
def kM(K:He)(neg:Bool):R2:=fun x y H Q=>wZ K neg x y H Q
theorem AF:bc X (compareOp .In) (kM X.K false):=by
 intro pins s σ H x y v u Q I rx ry h;obtain⟨p,xs,rfl,hq,fx,fs,q⟩:=h;cases ry;rcases hq with hq|hq
 · obtain⟨its,r,pl,hz⟩:=I.list hq
   refine SeqAt.in_listAt (cW x) pl.isList (fun w hw=>jm rx fx r fs w (by simpa using hw)) ⟨.bl _,H,I,rfl,?_⟩;rw[show its.toArray.any (cW x)=its.any (cW x) by simp,jI r fs];exact q
 · obtain⟨its,r,pl,hz⟩:=I.tuple hq
   refine SeqAt.in_tupleAt (cW x) pl (fun w hw=>jm rx fx r fs w (by simpa using hw)) ⟨.bl _,H,I,rfl,?_⟩;rw[show its.toArray.any (cW x)=its.any (cW x) by simp,jI r fs];exact q
theorem Az:bc X (compareOp .NotIn) (kM X.K true):=by
 intro pins s σ H x y v u Q I rx ry h;obtain⟨p,xs,rfl,hq,fx,fs,q⟩:=h;cases ry;rcases hq with hq|hq
 · obtain⟨its,r,pl,hz⟩:=I.list hq
   refine SeqAt.notIn_listAt (cW x) pl.isList (fun w hw=>jm rx fx r fs w (by simpa using hw)) ⟨.bl _,H,I,rfl,?_⟩;rw[show its.toArray.any (cW x)=its.any (cW x) by simp,jI r fs];exact q
 · obtain⟨its,r,pl,hz⟩:=I.tuple hq
   refine SeqAt.notIn_tupleAt (cW x) pl (fun w hw=>jm rx fx r fs w (by simpa using hw)) ⟨.bl _,H,I,rfl,?_⟩;rw[show its.toArray.any (cW x)=its.any (cW x) by simp,jI r fs];exact q
theorem Fw:bR X (.builtin "len") (fun xs H Q=>∃p ys,xs=[.ref p]/\(aq X.K H p ys\/aH X.K H p ys)/\Q (.int ys.length) H):=by
 intro pins s σ H xs us Q I r h;obtain⟨p,ys,rfl,hq,q⟩:=h;obtain⟨u,rfl,rx⟩:=vals1 r;cases rx;have hn:=jo;rcases hq with hq|hq
 · obtain⟨its,r',pl,hz⟩:=I.list hq
   have hlen:=r'.length;exact Calls.call_len_list pl.isList (by simp only[bC]<;>omega) ⟨.int ys.length,H,I.tok _,⟨s.toks+1,by rw[bC,hlen]⟩,q⟩
 · obtain⟨its,r',pl,hz⟩:=I.tuple hq
   have hlen:=r'.length;exact len_tuple pl (by simp only[bC]<;>omega) ⟨.int ys.length,H,I.tok _,⟨s.toks+1,by rw[bC,hlen]⟩,q⟩
theorem bR.or{f:Value}{r r':List V->Hp->VK->Prop}(h:bR X f r)(h':bR X f r'):bR X f (fun xs H Q=>r xs H Q\/r' xs H Q):=by
 intro pins s σ H xs us Q I rs q;rcases q with q|q
 ·exact h pins s σ H xs us Q I rs q
 ·exact h' pins s σ H xs us Q I rs q
theorem Fv:bR X (.type "list") (fun xs H Q=>∃p ys,xs=[.ref p]/\(aq X.K H p ys\/aH X.K H p ys)/\∀l,H l=none->Q (.ref l) (upd H l (.lst ys))):=by
 intro pins s σ H xs us Q I r h;obtain⟨p,ys,rfl,hq,q⟩:=h;obtain⟨u,rfl,rx⟩:=vals1 r;cases rx;have fin:∀(its:List Value),Vals ys its->ys.length<=sizeLine->∀(h':Heap)(c':Nat),(∀b o',s.heap.get? b=some o'->h'.get? b=some o')->h'.get? s.heap.objs.size=some {cls:=.type "list",dict:=none,data:=.seq its.toArray c',slots:=#[]}->EP X pins σ Q (.ref s.heap.objs.size) {s with heap:=h'}:=fun its r' hz h' c' kp e=>⟨.ref s.heap.objs.size,_,I.laid (t':=s.toks) kp (aJ _) (show cz X.prog X.w _ h' _ (.lst ys)from⟨hz,its,c',r',e⟩),rfl,q _ (I.hok.fresh (aJ _))⟩;rcases hq with hq|hq
 · obtain⟨its,r',pl,hz⟩:=I.list hq
   have hlen:=r'.length;obtain⟨o,ho,hc,n,hd⟩:=pl.isList;exact call_list_seq p (.inl rfl) ho hc hd (fun h' c' kp e=>fin its r' hz h' c' kp e) (by simp only[bC]<;>omega)
 · obtain⟨its,r',pl,hz⟩:=I.tuple hq
   have hlen:=r'.length;obtain⟨o,ho,hc,n,hd⟩:=pl;exact call_list_seq p (.inr rfl) ho hc hd (fun h' c' kp e=>fin its r' hz h' c' kp e) (by simp only[bC]<;>omega)
theorem Ft:bR X (.type "tuple") (fun xs H Q=>∃p ys,xs=[.ref p]/\((aq X.K H p ys/\∀l,H l=none->Q (.ref l) (upd H l (.tup ys)))\/(aH X.K H p ys/\Q (.ref p) H))):=by
 intro pins s σ H xs us Q I r h;obtain⟨p,ys,rfl,h⟩:=h;obtain⟨u,rfl,rx⟩:=vals1 r;cases rx;rcases h with⟨hq,q⟩|⟨hq,q⟩
 · obtain⟨its,r',pl,hz⟩:=I.list hq
   have hlen:=r'.length;refine call_tuple_list pl.isList (fun h' kp=>?_) (by simp only[bC]<;>omega);have I1:Inv X pins σ H {s with heap:=h'}:=I.kept (t':=s.toks) kp;have I2:Inv X pins σ (upd H h'.objs.size (.tup ys)) {s with heap:=h'.push {cls:=.type "tuple",data:=.seq its.toArray}}:=I1.laid (t':=s.toks) (fun b o e=>aY _ e) (aJ _) (show cz X.prog X.w _ _ _ (.tup ys)from⟨hz,its,r',IsTup.new _ _⟩);exact⟨.ref h'.objs.size,_,I2,rfl,q _ (I1.hok.fresh (aJ _))⟩
 · obtain⟨its,r',pl,hz⟩:=I.tuple hq
   exact call_tuple_same pl ⟨.ref p,H,I,rfl,q⟩
def mJ(K:He)(T:String)(x:V)(H:Hp):Prop:=match x with | .str _=>T="str" | .int _=>T="int" | .ref p=>(T="list"/\∃xs,aq K H p xs)\/(T="tuple"/\∃o,K.lookup p=some o/\o.cls= .type "tuple"/\o.dict=none)\/ (T="dict"/\((∃bh,H p=some (.dK bh))\/∃bh,H p=some (.dT bh)))\/(T="set"/\∃S n,H p=some (.set S n)) |_=>False
theorem qF{pins:List (Addr×Obj)}{σ:St}{H:Hp}{s:Hf}{T:String}{x:V}{v:Value}(I:Inv X pins σ H s)(r:RelV x v)(ty:mJ X.K T x H): s.TypeIs v T/\∀a,v= .ref a->∃ob,s.heap.get? a=some ob/\ob.dict=none:=by cases x with
  |str z=>obtain⟨t,rfl⟩:=r;cases(show T="str" from ty);exact⟨typeIs_str s z t,fun _ e=>nomatch e⟩ |int i=>obtain⟨t,rfl⟩:=r;cases(show T="int" from ty);exact⟨typeIs_int s i t,fun _ e=>nomatch e⟩ |ref p=>
    cases r;rcases ty with⟨rfl,xs,hq⟩|⟨rfl,o,hk,hc,hd⟩|⟨rfl,hk⟩|⟨rfl,S,n,hk⟩
    · obtain⟨its,_,pl,_⟩:=I.list hq
      refine⟨pl.isList.typeIs,fun a e=>?_⟩;cases e;obtain⟨o,n,e,c,hd,_⟩:=pl;exact⟨o,e,hd⟩
    · refine⟨⟨o,I.bG p o hk,hc⟩,fun a e=>?_⟩
      cases e;exact⟨o,I.bG _ o hk,hd⟩
    · have z:∃o,s.heap.get? p=some o/\o.ExactDict:=by
        rcases hk with⟨bh,hk⟩|⟨bh,hk⟩
        · obtain⟨_,_,_,_,o,_,_,e,ex,_⟩:=I.hok p _ hk
          exact⟨o,e,ex⟩
        · obtain⟨_,_,_,_,o,_,_,e,ex,_⟩:=I.hok p _ hk
          exact⟨o,e,ex⟩
      obtain⟨o,e,ex⟩:=z;refine⟨⟨o,e,ex.1⟩,fun a e2=>?_⟩;cases e2;exact⟨o,e,ex.2.1⟩
    · obtain⟨o,_,_,_,e,ex,_⟩:=I.hok p _ hk
      refine⟨⟨o,e,ex.1⟩,fun a e2=>?_⟩;cases e2;exact⟨o,e,ex.2.1⟩ |_=>exact False.elim ty
def gz(K:He)(T:String)(r:V->List V->Hp->VK->Prop)(to:TE)(t:TA):TE:=fun σ H Q=>to σ H fun x H1=>mJ K T x H1/\t σ H1 fun xs H2=>r x xs H2 Q
variable {o e:Expr}{es:List Expr}{to:TE}{t:TA}{name:Str}{apos aF:Pos}{T id:String}{r:V->List V->Hp->VK->Prop}
theorem ie(pa:PlainAttrs T)(slot:Slot T name id)(CF:typeOf (.builtin id)=pure (.type "method_descriptor"))(hm:iK X id r)(ho:PE X o to)(ha:PA X (e::es) t) (cU:attributeBase o name X.env (eval o X.env)=eval o X.env:=by rfl) (cT:((backTo aF (starEach (e::es) X.env)).all (fun x=>!x.1)&&(backToKw aF (keywordEach [] X.env)).all (fun x=>x.1.isSome) &&decide ((e::es).length+([]:List Keyword).length+(if([]:List Keyword).isEmpty then 0 else 1)<30))=true:=by rfl) (cS:(apos.endLine==aF.line)=true:=by rfl)(hs:starEach (e::es) X.env=(false,eval e X.env)::starEach es X.env:=by rfl)(cR:(backTo aF (starEach es X.env)).any (·.1)=false:=by rfl): PE X (.Call (.Attribute o name apos) (e::es) [] aF) (gz X.K T r to t):=by intro pins s σ H Q I h;refine wpAny_Call_method_late cU cT cS rfl (ak (ho pins s σ H _ I h) fun v s1 ⟨x,H1,I1,r1,ty,q1⟩=>?_);obtain⟨h1,h2⟩:=qF I1 r1 ty;refine⟨T,id,pa,slot,CF,h1,h2,?_⟩;have hA:=ha aF pins s1 σ H1 _ I1 q1;rw[hs]at hA⊢;refine Calls.callWith_builtin (by show(false||(backTo aF (starEach es X.env)).any (·.1))=false;rw[cR]<;>rfl) (xW ?_);exact ak hA fun us s2 ⟨vs,H2,I2,r2,q2⟩=>hm pins s2 σ H2 x vs v us Q I2 r1 r2 q2
end
end L2
namespace L2
open PySem PySem.Spec PyProof.Rows
def G6(X:Cx)(id:String)(r:V->List V->Hp->VK->Prop):Prop:=∀(pins:List (Addr×Obj))(s:Hf)(σ:St)(H:Hp)(x:V)(xs:List V)(v:Value)(us:List Value)(Q:VK),Inv X pins σ H s->RelV x v->Vals xs us->r x xs H Q->wpAny (model X.prog X.w) X.A (call (.builtin id) (v::us)) (EP X pins σ Q) X.xe s
theorem Vals.one:∀{x:V}{us:List Value},Vals [x] us->∃u,us=[u]/\RelV x u |_,_,.cons r .nil=>⟨_,rfl,r⟩
section
variable {X:Cx}{pins:List (Addr×Obj)}{σ:St}{H:Hp}{s:Hf}{l b:Addr}{xs ys zs:List V}
theorem Inv.BP{its its':List Value}{n:Nat}{f:Array Value->Array Value}{t':Nat}(I:Inv X pins σ H s)(hH:H l=some (.lst xs)) (e:s.heap.get? l=some {cls:=.type "list",data:=.seq its.toArray n})(hf:f its.toArray=its'.toArray)(hv:Vals ys its')(hz:ys.length<=sizeLine): Inv X pins σ (upd H l (.lst ys)) {s with heap:=s.heap.update l (Obj.mapSeq f),toks:=t'}:=by have q:=PySem.IsL.update e f;rw[hf]at q;refine I.write (x:=l) (e:=l) (by rw[hH];exact trivial) (.inl rfl) (fun b' u hb hu=>(ke s.heap (Obj.mapSeq f) (dC hb)).trans hu) ⟨_,q⟩ ?_;exact⟨hz,its',_,hv,q⟩
theorem Inv.BW{its:List Value}{t':Nat}(I:Inv X pins σ H s)(hv:Vals ys its)(hz:ys.length<=sizeLine): Inv X pins σ (upd H s.heap.objs.size (.lst ys)) {s with heap:=s.heap.push {cls:=.type "list",data:=.seq its.toArray},toks:=t'}:=I.laid (fun _ _ q=>aY _ q) (aJ _) ⟨hz,its,0,hv,bP _ rfl⟩
theorem Inv.BO(I:Inv X pins σ H s)(hH:H l=some (.lst xs)):xs.length<=sizeLine/\∃(its:List Value)(n:Nat),Vals xs its/\xs.length=its.length/\s.heap.get? l=some {cls:=.type "list",data:=.seq its.toArray n}:=by obtain⟨z,its,n,r,e⟩:=I.hok l _ hH;exact⟨z,its,n,r,r.length,e⟩
end
section
variable {X:Cx}
inductive xa(x:V)(vs:List V)(H:Hp)(Q:VK):Prop |mk (l:_)(xs:_)(y:_)(h0:x= .ref l)(h1:vs=[y])(h2:H l=some (.lst xs))(h3:xs.length<sizeLine)(h4:Q .ax (upd H l (.lst (xs++[y])))):xa x vs H Q
def sD:V->List V->Hp->VK->Prop:=fun x vs H Q=>xa x vs H Q
theorem tL:G6 X "list.append" sD:=by intro pins s σ H x vs v us Q I rx rv h;obtain⟨l,xs,y,rfl,rfl,hH,hz,q⟩:=h;cases rx;obtain⟨u,rfl,ru⟩:=rv.one;obtain⟨z,its,n,r,hl,e⟩:=I.BO hH;refine k6 F.slot_list_append ⟨_,e,rfl⟩ F.entry_list_append (F.args_list_append_2 _ _) (PySem.list_append l its.toArray n u (by rw[bC];omega)) ⟨e,?_⟩;refine⟨.ax,_,I.BP (its':=its++[u]) hH e (by simp) (r.append (.cons ru .nil)) ?_,rfl,q⟩;rw[dc,qq];omega
end
section
variable {prog:Hg}{w:World}{A:Hi}{E:Value->Hf->Prop}{s:Hf}
end
section
variable {X:Cx}
end
end L2
namespace Att
open PySem PySem.W PySem.Calls PyProof.Rows
theorem Cj{P:Params}{h:Heap}:∀(ns:List Int)(vs:List Value),WellAll P h vs (ns.map WData.int)->IntsAre vs ns:=by intro ns;induction ns with |nil=>intro vs w;rw[List.map_nil]at w;cases w;exact .nil |cons n ns ih=>intro vs w;rw[iT]at w;cases w with |cons a b=>cases a;exact .cons _ _ (ih _ b)
theorem zm{l:OpenLaw}{n:Nat}(hn:l.most=some n){P:Params}{h:Heap}{args:List WData}{vals:List Value} (lq:l.row.toRowW.claim.pre args=true)(oy:WellAll P h vals args): ∃a vs ns,vals=[Value.ref a]/\args=[WData.list (ns.map WData.int)]/\h.get? a=some {cls:=.type "list",data:=.seq vs.toArray}/\IntsAre vs ns/\ns.length<=n:=by
  have CK:WShape.hasAll [] args [.list .int]=true:=(pre_splitW lq).1;have hc:l.pre.holds [] {args:=args}=true:=(pre_splitW lq).2;obtain⟨d,r,rfl,h1,h2⟩:=hasAllW_cons CK;obtain rfl:=hasAllW_nil h2;obtain⟨xs,rfl,h3⟩:=hasW_list h1;obtain⟨ns,rfl⟩:=items_int h3;have hlen:ns.length<=n:=by
   unfold OpenLaw.pre at hc;have h4:(WTm.not (.lt (.lit (.int (n:Int))) (.len (.arg 0)))).holds [] {args:=[.list (ns.map .int)]}=true:=by have h4:=(holds_andW hc).1;rw[hn]at h4;exact h4
   have h5:=condW_of h4 (w_not (w_lt w_lit (w_len_list (w_arg rfl))));rw[aZ]at h5;refine Nat.le_of_not_lt fun q=>?_;have q':(n:Int)<((ns.length:Nat):Int):=by omega
   first |(rw[ml q']at h5;exact absurd h5 (by decide)) |(simp at h5;omega)
  cases oy with |cons w1 w2=>cases w2;cases w1 with |list ho DK=>exact⟨_,_,ns,rfl,rfl,ho,Cj ns _ DK,hlen⟩
theorem A2(l:OpenLaw)(args:List WData):l.row.toRowW.claim.post args (.bool true) args=true:=postW_of (r:=l.row.toRowW) (X:=(true==true)) (show WShape.has [] (.bool true) .bool=true by first|rfl|decide|simp[WShape.has,WShape.arms,WShape.armsAll]) (show(WTm.eq .res (.lit (.bool true))).value [] {args:=args,res:=some (.bool true),after:=args}=some (.bool (true==true))from w_eq_bool (w_res rfl) w_lit) rfl
theorem FO{l:OpenLaw}{n:Nat}{q:Hg}{loose:List Str}{XP:(Str->Option Value)->Heap->Prop}{YP:World->Heap->Prop}{d:DefRec} (hn:l.most=some n)(jy:d.params.defaults=[]) (call:∀(w:World)(s₀ s₁:Hf)(mg mb:Str->Option Value)(fa:Addr)(o:Obj)(pm cd doc:Value)(a:Addr)(vs:List Value)(ns:List Int),Ground q loose [] XP w s₀ mg mb s₁.heap->YP w s₁.heap->s₁.heap.get? fa=some o->o.data= .func (docDef d.name d.params d.body d.scope pm cd doc)->s₁.heap.CodeRec cd d.name->mg d.name=some (.ref fa)->s₁.heap.get? a=some {cls:=.type "list",data:=.seq vs.toArray}->IntsAre vs ns->ns.length<=n->s₁.gens=#[]->codeAny (model l.prog w) callerA (.call (.ref fa) ⟨[.ref a],[]⟩) (fun r s'=>r= .ok (.ret (.bool true))/\OldK s₁.heap s'.heap/\s'.os=s₁.os/\AllBare s'.gens) s₁): WalkO q loose XP YP l.row.toRowW d [] (fun f vs=>PySem.call f vs):=by intro w s₀ s₁ mg mb G Y fa o pm cd doc dV kV ho hd bN hD jv hg args vals as lq GJ GG oy GI;obtain rfl:dV= .none:=Dflts.none hD jy;obtain rfl:kV= .none:=Dflts.noKw hD;obtain⟨a,vs,ns,rfl,rfl,oF,hints,hlen⟩:=zm hn lq oy;refine enter_call (mn (call w s₀ s₁ mg mb fa o pm cd doc a vs ns G Y ho (fd_plain hd) bN jv oF hints hlen hg) fun r s' hq=>?_);obtain⟨rfl,h2,h3,h4⟩:=hq;exact⟨.inl ⟨.bool true,.bool true,[],rfl,fun _=>rfl,.bool true,A2 l _,fun _=>⟨List.Pairwise.nil,fun _ hm=>(nomatch hm)⟩⟩,h2,h3,h4⟩
section
variable {prog:Hg}{w:World}{A:Hi}{E:Value->Hf->Prop}{s:Hf}{K:Frag}
end
end Att
namespace L2
open PySem PySem.Spec PyProof.Rows
theorem qE:∀{vs:List Value}{ns:List Int},IntsAre vs ns->Vals (ns.map V.int) vs |_,_,.nil=>.nil |_,_,.cons n t h=>.cons ⟨t,rfl⟩ (qE h)
def pQ(H:Hp):Prop:=∀b,H b=none\/∃o xs,H b=some (.eJ o (.lst xs))
theorem C6{P:Hg}{w:World}{K:He}{mg mb:Str->Option Value}{CX:d7}{k:Nat}{fa a:Addr}{fd:FuncData}{x:Str}{sp:Sp}{s₁:Hf}{vs:List Value}{ns:List Int} (KX:K.In s₁.heap)(uv:s₁.heap.Ns mainGlobals mg)(hb:s₁.heap.Ns builtinsNs mb)(DD:∀x:Str,x≠"__name__"->mb x=bootBuiltins x)(CZ:s₁.heap.NoLimit)(hg:s₁.gens=#[]) (ha:s₁.heap.get? a=some {cls:=.type "list",data:=.seq vs.toArray})(hi:IntsAre vs ns)(hl:ns.length<=sizeLine)(hr:ba k callerA) (F:∀base:Heap,K.In base->base.Ns mainGlobals mg->cq P w K mg base CX k fa fd [x] sp)(DB:∀(s:Hf)(u:Value),BindsTo s fd ⟨[u],[]⟩ [(x,u)]) (bU:∀H:Hp,pQ H->aq K H a (ns.map V.int)->sp [.ref a] H (fun v _=>v= .bl true) fun _ _ _=>False) (p0:∀H e s',CX [] H s₁ (fun _ _ _=>False) e s'->False): codeAny (model P w) callerA (.call (.ref fa) ⟨[.ref a],[]⟩) (fun r s'=>r= .ok (.ret (.bool true))/\OldK s₁.heap s'.heap/\s'.os=s₁.os/\AllBare s'.gens) s₁:=by
  have rv:=qE hi;have C2:=hi.length;have core:∀H:Hp,pQ H->aq K H a (ns.map V.int)->bq P w H s₁.heap->(∀b,H b≠none->b=a)->(H a≠none->K.lookup a=none)->codeAny (model P w) callerA (.call (.ref fa) ⟨[.ref a],[]⟩) (fun r s'=>r= .ok (.ret (.bool true))/\OldK s₁.heap s'.heap/\s'.os=s₁.os/\AllBare s'.gens) s₁:=by
    intro H hO hS hok hA hK;have vE:∀{b:Addr}{o:Obj},s₁.heap.get? b=some o->H b=none->(fJ s₁.heap H).get? b=some o:=fun e n=>Dl e n;have ji:∀{b:Addr}{o:Obj}{es:Array DictEntry}{ep:Nat},s₁.heap.get? b=some o->o.data= .dict es ep->H b=none:=fun{b o es ep} e d=>by cases q:H b with |none=>rfl |some u=>have e':b=a:=hA b (by rw[q];simp);subst e';rw[ha]at e;cases e;have d':Data.seq vs.toArray _=Data.dict es ep:=d;cases d'
    have kY:∀{b:Addr}{m:Str->Option Value},s₁.heap.Ns b m->(fJ s₁.heap H).Ns b m:=fun{b m} ⟨o,es,ep,e,d,r⟩=>⟨o,es,ep,vE e (ji e d),d,r⟩;have uK:K.In (fJ s₁.heap H):=fun b o e=>vE (KX b o e) (by cases q:H b with |none=>rfl |some u=>have e':b=a:=hA b (by rw[q];simp);subst e';rw[hK (by rw[q];simp)]at e;cases e);have hM:Mod K mg (fJ s₁.heap H):=⟨uK,kY uv,⟨mb,kY hb,DD⟩,let⟨mc,h1,h2⟩:=CZ;⟨mc,kY h1,h2⟩⟩;have e0:fM P w K mg (fJ s₁.heap H) callerA [] s₁ H:=⟨rfl,hM,fun b o e=>Bj e,Nat.le_of_eq (Dk _ _),trivial,fun b hb=>absurd (show b∈([]:List Addr)from hb) (by simp),hok,.of_eq hg⟩;refine mn ((F _ uK (kY uv)).run callerA [] s₁ H ⟨[.ref a],[]⟩ [.ref a] [.ref a] _ _ hr e0 (DB s₁ (.ref a)) (.cons rfl .nil) (bU H hO hS)) fun r s' h=>?_;cases r with |error e=>exact(p0 H e s' h).elim |ok fl=>cases fl with |next=>exact False.elim h |brk=>exact False.elim h |cont=>exact False.elim h |ret u=>obtain⟨v,H',os,bare,un,CP,r',q⟩:=h;have q':v= .bl true:=q;subst q';obtain rfl:u=Value.bool true:=r';refine⟨rfl,OldK.of_keep fun b o e=>?_,os,bare⟩;cases q:H b with |none=>exact un.keep b o e q (by intro z;exact absurd (show b∈([]:List Addr)from z) (by simp)) (by simp) |some u=>
          rcases hO b with z|⟨ob,xs,z⟩
          ·rw[q]at z;cases z
          · have z2:=un.frzs b ob _ z
            obtain⟨e1,_⟩:=hok b _ z;obtain⟨e2,_⟩:=CP b _ z2;rw[e]at e1;cases e1;exact e2
  cases hk:K.lookup a with |some o=>have e:=KX a o hk;rw[ha]at e;cases e;refine core (fun _=>none) (fun _=>.inl rfl) (.inr ⟨_,vs.toArray,_,hk,rfl,rfl,rfl,by rw[bC,C2];exact hl,by simpa using rv⟩) (fun b u z=>by have z':(none:Option HO)=some u:=z;cases z') (fun b z=>absurd rfl z) fun z=>absurd rfl z |none=>
    refine core (fun b=>if b=a then some (.eJ {cls:=.type "list",data:=.seq vs.toArray} (.lst (ns.map V.int)))else none) (fun b=>?_) (.inl (.inr ⟨{cls:=.type "list",data:=.seq vs.toArray},aK rfl⟩)) (fun b u z=>?_) (fun b z=>?_) fun _=>hk
    · by_cases hb:b=a
      ·exact .inr ⟨_,_,aK hb⟩
      ·exact .inl (aI hb)
    · by_cases hb:b=a
      · have z':=(aK hb).symm.trans z
        cases z';subst hb;exact⟨ha,by rw[aZ];exact hl,vs,_,rv,ha⟩
      · have z':=(aI hb).symm.trans z
        cases z'
    · by_cases hb:b=a
      ·exact hb
      ·exact absurd (aI hb) z
theorem y9{l:PySem.W.OpenLaw}{n k:Nat}{q:Hg}{loose:List Str}{XP:(Str->Option Value)->Heap->Prop}{YP:World->Heap->Prop}{d:DefRec}{K:Params->He}{CX:World->d7}{sp:World->Sp}{x:Str} (hn:l.most=some n)(lA:n<=sizeLine)(jy:d.params.defaults=[])(hr:ba k callerA) (hY:∀(w:World)(h:Heap),YP w h->(K w.params).In h) (F:∀(w:World)(mg:Str->Option Value)(fa:Addr)(h:Heap),(K w.params).In h->h.Ns mainGlobals mg->mg d.name=some (.ref fa)->∃fd:FuncData,(∀(s:Hf)(u:Value),BindsTo s fd ⟨[u],[]⟩ [(x,u)])/\∀base:Heap,(K w.params).In base->base.Ns mainGlobals mg->cq l.prog w (K w.params) mg base (CX w) k fa fd [x] (sp w)) (bU:∀(w:World)(H:Hp)(a:Addr)(ns:List Int),ns.length<=n->pQ H->aq (K w.params) H a (ns.map V.int)->sp w [.ref a] H (fun v _=>v= .bl true) fun _ _ _=>False) (p0:∀(w:World)(H:Hp)(s:Hf)(e:Value)(s':Hf),CX w [] H s (fun _ _ _=>False) e s'->False): PySem.W.WalkO q loose XP YP l.row.toRowW d [] (fun f vs=>PySem.call f vs):=by refine Att.FO hn jy fun w s₀ s₁ mg mb fa o pm cd doc a vs ns G Y ho hd bN jv oF hints hlen hg=>?_;have KX:=hY w _ Y;obtain⟨fd,hb,hF⟩:=F w mg fa _ KX G.T.g jv;exact C6 KX G.T.g G.T.b G.T.builtins G.T.nolimit hg oF hints (dr hlen lA) hr hF hb (fun H hO hS=>bU w H a ns hlen hO hS) fun H e s'=>p0 w H s₁ e s'
def inClass(s:Stmt)(j:Nat):Stmt:=match s with | .ClassDef _ _ _ body _ _ _ _ _ _ _=>body.getD j (.Pass ⟨0,0,0,0⟩) |_=>.Pass ⟨0,0,0,0⟩
def dj(s:Stmt):Arguments:=match s with | .FunctionDef _ a _ _ _ _ _ _ _ _=>a |_=>{posonlyargs:=[],args:=[],vararg:=none,kwonlyargs:=[],kw_defaults:=[],kwarg:=none,defaults:=[]}
def bB(s:Stmt):List Stmt:=match s with | .FunctionDef _ _ b _ _ _ _ _ _ _=>b |_=>[]
def aw(s:Stmt):Scope:=match s with | .FunctionDef _ _ _ _ _ _ sc _ _ _=>sc |_=>{kind:=.function,names:=[],isGenerator:=false,isCoroutine:=false}
abbrev cA:d7:=fun _ _ _ _ _ _=>False
abbrev E0:XK:=fun _ _ _=>False
theorem jf{X:Cx}:Passes cA X E0:=fun _ _ _ _ _ _ _ h=>h.elim
structure dA(K:He)(x qual:Str)(st:Stmt)(f:Addr)(fd:FuncData):Prop where
 ex:∃(oc:Value)(od:Option Addr)(kV doc pm:Value)(an:Option Addr)(ah ct:Value)(bL:Array (Option Value)),fd=PySem.W.fnOf x qual (dj st) (bB st) (aw st) .none kV doc pm an ah ct/\K.lookup f=some ⟨oc,od,.func fd,bL⟩/\PySem.W.codeIn K ah qual=true
 kp:PySem.W.keepIn K (.ref f)=true
section
variable {P:Hg}{w:World}{K:He}{mg:Str->Option Value}{base:Heap}
theorem dA.ok{x qual:Str}{st:Stmt}{f:Addr}{fd:FuncData}{N ps:List Str}{k:Nat}{sp:Sp}(F:dA K x qual st f fd)(S:bb N ps (aw st))(len:∀vs H Q E,sp vs H Q E->vs.length=ps.length) (bZ:∀(ah:Value)(A:Hi)(outer:List Env)(s:Hf)(H:Hp)(vs:List V)(Q:VK)(E:XK),ba k (A.deeper (envOfC qual (aw st) s.heap.objs.size f ah))->sp vs H Q E->∃t,bJ (cc cA P w K mg base N qual (aw st) f ah A outer s H E).fc (bB st) t/\t {nx:=fun _ H'=>Q .ax H',rt:=Q} (start N vs) H):cq P w K mg base cA (k+1) f fd ps sp:=by obtain⟨oc,od,kV,doc,pm,an,ah,ct,bL,rfl,lk,bN⟩:=F.ex;refine uW lk bN S len fun A outer s H vs Q E hr bU=>?_;obtain⟨t,h,q⟩:=bZ ah A outer s H vs Q E hr bU;exact⟨t,h.fc,q⟩
theorem dA.binds{x qual:Str}{st:Stmt}{f:Addr}{fd:FuncData}{ps:List Str}(F:dA K x qual st f fd) (h:∀(kV doc pm:Value)(an:Option Addr)(ah ct:Value)(us:List Value),us.length=ps.length->bindArgs (PySem.W.fnOf x qual (dj st) (bB st) (aw st) .none kV doc pm an ah ct) ⟨us,[]⟩=pure (ps.zip us)):Binds K fd ps []:=by obtain⟨oc,od,kV,doc,pm,an,ah,ct,bL,rfl,lk,bN⟩:=F.ex;exact .all (h kV doc pm an ah ct)
theorem p7{x qual:Str}{st:Stmt}{f:Addr}{oc:Value}{od an:Option Addr}{bL:Array (Option Value)}{kV doc pm ah ct:Value}(l:K.lookup f=some ⟨oc,od,.func (PySem.W.fnOf x qual (dj st) (bB st) (aw st) .none kV doc pm an ah ct),bL⟩) (c:PySem.W.codeIn K ah qual=true)(k:PySem.W.keepIn K (.ref f)=true):dA K x qual st f (PySem.W.fnOf x qual (dj st) (bB st) (aw st) .none kV doc pm an ah ct):=⟨⟨oc,od,kV,doc,pm,an,ah,ct,bL,rfl,l,c⟩,k⟩
end
section
variable {X:Cx}
theorem pv(i:Nat){x:Str}{pos:Pos}(hN:X.N[i]? =some x:=by rfl)(hv:lY X.env.scope x:=by first|exact Or.inl rfl|exact Or.inr (Or.inl rfl)|exact Or.inr (Or.inr rfl))(hd:(x==("__debug__":Str))=false:=by decide) (bN:(x==("__classdict__":Str))=false:=by decide):PE X (.Name x pos) (qJ i):=sP hN hv hd bN
end
theorem bu{A B:Prop}(h:B):if false=true then A else B:=by rw[aI cj];exact h
theorem bH{A B:Prop}(h:A):if true=true then A else B:=by rw[aK rfl];exact h
theorem bS{c A B:Prop}[Decidable c](h1:c->A)(h2:¬c->B):if c then A else B:=by
 by_cases h:c
 · rw[aK h]
   exact h1 h
 · rw[aI h]
   exact h2 h
def ai(H H':Hp):Prop:=∀b o,H b=some o->H' b=some o
theorem ai.refl(H:Hp):ai H H:=fun _ _ h=>h
theorem ai.trans{H H1 H2:Hp}(a:ai H H1)(b:ai H1 H2):ai H H2:=fun c o h=>b c o (a c o h)
theorem ai.free{H H':Hp}(e:ai H H'){l:Addr}(h:H' l=Option.none):H l=Option.none:=by cases q:H l with |none=>rfl |some o=>rw[e l o q]at h;cases h
theorem ai.seq{K:He}{H H':Hp}{a:Addr}{xs:List V}(e:ai H H')(h:aq K H a xs):aq K H' a xs:=by
 rcases h with(h|⟨o,h⟩)|h
 ·exact .inl (.inl (e _ _ h))
 ·exact .inl (.inr ⟨o,e _ _ h⟩)
 ·exact .inr h
def Wd (i:Int):Prop:=i.natAbs<2^5000
theorem Wd.log{i:Int}(h:Wd i):i.natAbs.log2<9000:=by
 by_cases e:i.natAbs=0
 ·rw[e];decide
 · have h1:i.natAbs.log2<5000:=(Nat.log2_lt e).mpr h
   omega
section
variable {X:Cx}
theorem t9:bc X (binaryOp .FloorDiv) (rI (fun _ j=>0<j/\Wd j) fun i j=>.int (i/j)):=kU fun i j _ _ _ _ _ hc q=>by have h1:(0:Int)<j:=hc.1;exact floordiv_int (by omega) (by rw[Int.fdiv_eq_ediv_of_nonneg i (by omega)];exact q) (.inl (PyProof.noPylong_of_log2 hc.2.log))
end
def gS(K:He)(H:Hp)(x:V)(T:String):Prop:=match x with | .ax=>T="NoneType" | .bl _=>T="bool" | .int _=>T="int" | .str _=>T="str" | .ref a=>(T="list"/\∃xs,aq K H a xs)\/(T="tuple"/\∃xs,aH K H a xs) |_=>False
def dD(T n:String):Bool:=T==n||(T=="bool"&&n=="int")
def kq:List String:=["NoneType","bool","int","str","list","tuple"]
def iV:List String:=["bool","int","str","list","tuple"]
theorem tY{K:He}{T n:String}(h1:T∈kq)(h2:n∈iV):PySem.W.kitOne K (.type T) (.type n)=some (dD T n):=by
 have all:kq.all (fun T=>iV.all fun n=>PySem.W.kitOne [] (.type T) (.type n)==some (dD T n))=true:=by decide+kernel
 have a1:=fT.mp all T h1;have a2:=fT.mp a1 n h2;have e:PySem.W.kitOne K (.type T) (.type n)=PySem.W.kitOne [] (.type T) (.type n):=by unfold PySem.W.kitOne PySem.W.kitCls PySem.W.subIn;rfl
 rw[e];exact bE.mp a2
section
variable {X:Cx}
theorem gS.mem{K:He}{H:Hp}{x:V}{T:String}(h:gS K H x T):T∈kq:=by cases x with |ax=>cases(show T="NoneType" from h);decide |bl b=>cases(show T="bool" from h);decide |int b=>cases(show T="int" from h);decide |str b=>cases(show T="str" from h);decide |ref a=>rcases(show(T="list"/\∃xs,aq K H a xs)\/(T="tuple"/\∃xs,aH K H a xs)from h)with⟨e,_⟩|⟨e,_⟩<;>cases e<;>decide |_=>exact(show False from h).elim
theorem tZ{pins:List (Addr×Obj)}{s:Hf}{σ:St}{H:Hp}{x:V}{u:Value}{T:String}(I:Inv X pins σ H s)(rx:RelV x u)(ty:gS X.K H x T): ∃P:Heap->Prop,PySem.W.KitX X.K u (.type T) P/\P s.heap/\u≠ .builtin "__main__.__loader__#opaque":=by cases x with
  |ax=>cases(show T="NoneType" from ty);cases(show u=Value.none from rx);exact⟨_,PySem.W.kitx_none,True.intro,fun z=>nomatch z⟩ |bl b=>cases(show T="bool" from ty);cases(show u=Value.bool b from rx);exact⟨_,PySem.W.kitx_bool,True.intro,fun z=>nomatch z⟩ |int b=>cases(show T="int" from ty);obtain⟨t,q⟩:=(show∃t,u=Value.int b t from rx);cases q;exact⟨_,PySem.W.kitx_int,True.intro,fun z=>nomatch z⟩ |str b=>cases(show T="str" from ty);obtain⟨t,q⟩:=(show∃t,u=Value.str b t from rx);cases q;exact⟨_,PySem.W.kitx_str,True.intro,fun z=>nomatch z⟩ |ref a=>
    cases(show u=Value.ref a from rx);rcases(show(T="list"/\∃xs,aq X.K H a xs)\/(T="tuple"/\∃xs,aH X.K H a xs)from ty)with⟨e,xs,hx⟩|⟨e,xs,hx⟩
    · cases e
      obtain⟨its,r,⟨o,n,h1,h2,_⟩,_⟩:=I.list hx;exact⟨_,PySem.W.kitx_list,⟨o,h1,h2⟩,fun z=>nomatch z⟩
    · cases e
      obtain⟨its,r,⟨o,h1,h2,_⟩,_⟩:=I.tuple hx;exact⟨_,PySem.W.kitx_tuple,⟨o,h1,h2⟩,fun z=>nomatch z⟩ |_=>exact(show False from ty).elim
inductive wW(K:He)(xs:List V)(H:Hp)(Q:VK):Prop |mk (x:_)(T:_)(n:_)(b:_)(h0:xs=[x,.ty n])(h1:gS K H x T)(h2:n∈iV)(h3:dD T n=b)(h4:Q (.bl b) H):wW K xs H Q
def nP(K:He):List V->Hp->VK->Prop:=fun xs H Q=>wW K xs H Q
theorem Fy:bR X (.builtin "isinstance") (nP X.K):=by intro pins s σ H xs us Q I r h;obtain⟨x,T,n,b,rfl,ty,hn,rfl,q⟩:=h;obtain⟨u,c,rfl,rx,rc⟩:=vals2 r;cases(show c=Value.type n from rc);obtain⟨P,Z,p,hx⟩:=tZ I rx ty;exact PySem.W.kia_one Z I.bG p (tY ty.mem hn) hx fun tk=>⟨.bl (dD T n),H,I.tok _,rfl,q⟩
inductive wV(K:He)(xs:List V)(H:Hp)(Q:VK):Prop |mk (x:V)(T:String)(p:Addr)(ns:List String)(b:Bool)(h0:xs=[x,.ref p])(h1:H p=some (.tup (ns.map V.ty)))(h2:gS K H x T)(h3:(∀n∈ns,n∈iV))(h4:ns.any (dD T)=b)(h5:Q (.bl b) H):wV K xs H Q
def nO(K:He):List V->Hp->VK->Prop:=fun xs H Q=>wV K xs H Q
theorem tX{K:He}{T:String}(h1:T∈kq):∀{ns:List String},(∀n∈ns,n∈iV)->PySem.W.kitAny K (.type T) (ns.map Value.type)=some (ns.any (dD T)) |[],_=>rfl |n::r,h=>by have e:=tY (K:=K) h1 (h n (ql ..));have ih:=tX (K:=K) h1 (ns:=r) fun m hm=>h m (iS _ hm);rw[iT,PySem.W.kitAny,e,List.any_cons];cases dD T n with |true=>rfl |false=>simpa using ih
theorem qC:∀{ns:List String}{us:List Value},Vals (ns.map V.ty) us->us=ns.map Value.type |[],_,.nil=>rfl |n::r,_,.cons q t=>by cases(show _=Value.type n from q);rw[qC t];rfl
theorem Fx:bR X (.builtin "isinstance") (nO X.K):=by intro pins s σ H xs us Q I r h;obtain⟨x,T,p,ns,b,rfl,hp,ty,hn,rfl,q⟩:=h;obtain⟨u,c,rfl,rx,rc⟩:=vals2 r;cases(show c=Value.ref p from rc);obtain⟨P,Z,pp,hx⟩:=tZ I rx ty;obtain⟨_,its,rv,⟨cls,dd,dt,sl⟩,h1,h2,n,h3⟩:=(show cz X.prog X.w H s.heap p (.tup (ns.map V.ty))from I.hok p _ hp);simp only at h2 h3;subst h2 h3;have e:=qC rv;subst e;exact PySem.W.kia_tup Z I.bG pp h1 (tX ty.mem hn) hx fun tk=>⟨.bl _,H,I.tok _,rfl,q⟩
end
mutual
def RD(K:He)(H:Hp):V->Hh->Prop |x,.none=>x= .ax |x,.bool b=>x= .bl b |x,.int i=>x= .int i |x,.str y=>x= .str y |x,.list ds=>∃a xs,x= .ref a/\aq K H a xs/\au K H xs ds |x,.tuple ds=>∃a xs,x= .ref a/\aH K H a xs/\au K H xs ds |_,.dict _=>False
def au (K:He)(H:Hp):List V->List Hh->Prop |xs,[]=>xs=[] |xs,d::ds=>∃y ys,xs=y::ys/\RD K H y d/\au K H ys ds
end
section
variable {X:Cx}
mutual
theorem RD.reads{pins:List (Addr×Obj)}{s:Hf}{σ:St}{H:Hp}(I:Inv X pins σ H s):∀{x:V}{u:Value}(d:Hh),RelV x u->RD X.K H x d->∃as,Reads s.heap u d as |x,u,.none,r,h=>by cases(show x= .ax from by simpa[RD]using h);cases(show u=Value.none from r);exact⟨_,.none⟩ |x,u,.bool b,r,h=>by cases(show x= .bl b from by simpa[RD]using h);cases(show u=Value.bool b from r);exact⟨_,.bool b⟩ |x,u,.int i,r,h=>by cases(show x= .int i from by simpa[RD]using h);obtain⟨t,q⟩:=(show∃t,u=Value.int i t from r);cases q;exact⟨_,.int i t⟩ |x,u,.str y,r,h=>by cases(show x= .str y from by simpa[RD]using h);obtain⟨t,q⟩:=(show∃t,u=Value.str y t from r);cases q;exact⟨_,.str y t⟩ |x,u,.list ds,r,h=>by rw[RD]at h;obtain⟨a,xs,rfl,hx,hd⟩:=h;cases(show u=Value.ref a from r);obtain⟨its,rv,⟨o,n,h1,h2,h3,h4⟩,_⟩:=I.list hx;obtain⟨as,q⟩:=au.reads I ds rv hd;exact⟨_,.list h1 h2 h4 (by simpa using q)⟩ |x,u,.tuple ds,r,h=>by rw[RD]at h;obtain⟨a,xs,rfl,hx,hd⟩:=h;cases(show u=Value.ref a from r);obtain⟨its,rv,⟨o,h1,h2,n,h4⟩,_⟩:=I.tuple hx;obtain⟨as,q⟩:=au.reads I ds rv hd;exact⟨_,.tuple h1 h2 h4 (by simpa using q)⟩ |x,u,.dict _,r,h=>by simp[RD]at h
theorem au.reads {pins:List (Addr×Obj)}{s:Hf}{σ:St}{H:Hp}(I:Inv X pins σ H s):∀{xs:List V}{us:List Value}(ds:List Hh),Vals xs us->au X.K H xs ds->∃as,ReadsAll s.heap us ds as |xs,us,[],r,h=>by cases(show xs=[]from by simpa[au]using h);cases r;exact⟨_,.nil⟩ |xs,us,d::ds,r,h=>by rw[au]at h;obtain⟨y,ys,rfl,h1,h2⟩:=h;cases r with |cons ra rb=>obtain⟨as,q⟩:=RD.reads I d ra h1;obtain⟨bs,q'⟩:=au.reads I ds rb h2;exact⟨_,.cons q q'⟩
end
inductive x5(K:He)(x:V)(y:V)(H:Hp)(Q:VK):Prop |mk (d:_)(e:_)(h0:RD K H x d)(h1:RD K H y e)(h2:SeqAt.shaped d=true)(h3:SeqAt.shaped e=true)(h4:Q (.bl (PyData.eqv d e)) H):x5 K x y H Q
def nQ(K:He):R2:=fun x y H Q=>x5 K x y H Q
inductive wN(K:He)(x:V)(y:V)(H:Hp)(Q:VK):Prop |mk (d:_)(e:_)(h0:RD K H x d)(h1:RD K H y e)(h2:SeqAt.shaped d=true)(h3:SeqAt.shaped e=true)(h4:Q (.bl (!PyData.eqv d e)) H):wN K x y H Q
def nL(K:He):R2:=fun x y H Q=>wN K x y H Q
theorem AJ(hu:X.A.units+64<cLine):bc X (compareOp .Eq) (nQ X.K):=by intro pins s σ H x y v u Q I rx ry h;obtain⟨d,e,hd,he,sd,se,q⟩:=h;obtain⟨as,ra⟩:=RD.reads I d rx hd;obtain⟨bs,rb⟩:=RD.reads I e ry he;exact eq_dataH ra rb sd se hu ⟨.bl _,H,I,rfl,q⟩
theorem AB(hu:X.A.units+64<cLine):bc X (compareOp .NotEq) (nL X.K):=by intro pins s σ H x y v u Q I rx ry h;obtain⟨d,e,hd,he,sd,se,q⟩:=h;obtain⟨as,ra⟩:=RD.reads I d rx hd;obtain⟨bs,rb⟩:=RD.reads I e ry he;exact ne_dataH ra rb sd se hu ⟨.bl _,H,I,rfl,q⟩
end
end L2
namespace L2
open PySem PySem.Spec PyProof.Rows
theorem ai.new{H:Hp}{t:Addr}{o:HO}(ht:H t=none):ai H (upd H t o):=fun b o' e=>by rw[aV (eF e ht)];exact e
structure Nw(H H':Hp)(p:Addr)(o:HO):Prop where
 no:H p=none
 at':H' p=some o
 same:ai H H'
 eq:H'=upd H p o
theorem Nw.of{H:Hp}{p:Addr}{o:HO}(h:H p=none):Nw H (upd H p o) p o:=⟨h,br,.new h,rfl⟩
def lU:List Str:=["len","abs","min","max","range","isinstance","int","bool","str","tuple","list","any","all","sum","zip","enumerate","sorted","reversed","ord","chr","divmod","repr","dict","set"]
def bp(mg:Str->Option Value):Prop:=∀x∈lU,mg x=none
theorem bp.at{mg:Str->Option Value}(B:bp mg)(x:Str)(h:x∈lU:=by decide):mg x=none:=B x h
theorem dX{α:Type}{C:List α->Prop}(h:∀a,C [a]):∀us:List α,us.length=1->C us |[_],_=>h _
theorem fL{α:Type}{C:List α->Prop}(h:∀a b,C [a,b]):∀us:List α,us.length=2->C us |[_,_],_=>h _ _
theorem jJ{α:Type}{C:List α->Prop}(h:∀a b c,C [a,b,c]):∀us:List α,us.length=3->C us |[_,_,_],_=>h _ _ _
def uT(N P:List Str)(sc:Scope):Bool:=decide (sc.kind= .function)&& !sc.isCoroutine&& !sc.isGenerator&&decide N.Nodup&&decide (N.take P.length=P)&&P.all (fun x=>decide (sc.names.lookup x=some .local\/sc.names.lookup x=some .cell))&&sc.names.all fun y=>decide (y.2≠ .free)
theorem bD{N P:List Str}{sc:Scope}(h:uT N P sc=true):bb N P sc:=by unfold uT at h;simp only[bW,xD,kf,fT]at h;obtain⟨⟨⟨⟨⟨⟨h1,h2⟩,h3⟩,h4⟩,h5⟩,h6⟩,h7⟩:=h;exact⟨h1,h2,h3,h4,h5,h6,h7⟩
structure FA(K:He)(mg:Str->Option Value)(x:Str)(st:Stmt):Prop where ex:∃f fd,mg x=some (.ref f)/\dA K x x st f fd
def aA(P:Hg)(w:World)(K:He)(mg:Str->Option Value)(base:Heap)(x:Str)(k:Nat)(sp:Sp):Prop:=∃f fd ps,cq P w K mg base cA k f fd ps sp/\mg x=some (.ref f)/\PySem.W.keepIn K (.ref f)=true/\Binds K fd ps []
section
variable {P:Hg}{w:World}{K:He}{mg:Str->Option Value}{base:Heap}
theorem EO{h:Heap}{x:Str}{st:Stmt}{f:Addr}{oc:Value}{od an:Option Addr}{bL:Array (Option Value)}{kV doc pm ah ct:Value}(X:K.In h)(G:h.Ns mainGlobals mg) (a:PySem.W.nsIn K mainGlobals x=some (some (.ref f))) (l:K.lookup f=some ⟨oc,od,.func (PySem.W.fnOf x x (dj st) (bB st) (aw st) .none kV doc pm an ah ct),bL⟩) (c:PySem.W.codeIn K ah x=true)(k:PySem.W.keepIn K (.ref f)=true):FA K mg x st:=⟨f,_,iP X G a,p7 l c k⟩
theorem FA.has{x:Str}{st:Stmt}{N ps:List Str}{k:Nat}{sp:Sp}(F:FA K mg x st)(S:bb N ps (aw st))(len:∀vs H Q E,sp vs H Q E->vs.length=ps.length) (hb:∀(kV doc pm:Value)(an:Option Addr)(ah ct:Value)(us:List Value),us.length=ps.length->bindArgs (PySem.W.fnOf x x (dj st) (bB st) (aw st) .none kV doc pm an ah ct) ⟨us,[]⟩=pure (ps.zip us)) (bZ:∀(f:Addr)(ah:Value)(A:Hi)(outer:List Env)(s:Hf)(H:Hp)(vs:List V)(Q:VK)(E:XK),ba k (A.deeper (envOfC x (aw st) s.heap.objs.size f ah))->sp vs H Q E->∃t,bJ (cc cA P w K mg base N x (aw st) f ah A outer s H E).fc (bB st) t/\t {nx:=fun _ H'=>Q .ax H',rt:=Q} (start N vs) H):aA P w K mg base x (k+1) sp:=by obtain⟨f,fd,hm,F⟩:=F.ex;exact⟨f,fd,ps,F.ok S len fun ah A outer s H vs Q E=>bZ f ah A outer s H vs Q E,hm,F.kp,F.binds hb⟩
end
section
variable {X:Cx}{k:Nat}{x:Str}{p pos:Pos}{e:Expr}{es:List Expr}{t:TA}{sp:Sp}
def qN(sp:Sp)(t:TA):TE:=fun σ H Q=>t σ H fun vs H1=>sp vs H1 Q E0
theorem An(F:aA X.prog X.w X.K X.mg X.base x k sp)(hr:ba k X.A)(hg:Gl X x)(ha:PA X (e::es) t)(bQ:(x==("__debug__":Str))=false:=by decide) (he:starEach (e::es) X.env=(false,eval e X.env)::starEach es X.env:=by rfl)(bA:(backTo pos (starEach es X.env)).any (·.1)=false:=by rfl): PE X (.Call (.Name x p) (e::es) [] pos) (qN sp t):=by
  obtain⟨f,fd,ps,F,hm,hk,hb⟩:=F;have h:=Ap (pos:=pos) (p:=p) F hr hg hm hk hb .nil jf ha bQ he bA;intro pins s σ H Q I hq;refine h pins s σ H Q I ?_;have e1:(fun(vs:List V) H1=>sp (vs++[]) H1 Q E0)=fun vs H1=>sp vs H1 Q E0:=by funext vs H1;rw[gv]
  show t σ H fun vs H1=>sp (vs++[]) H1 Q E0;rw[e1];exact hq
theorem pf{j:Nat}(F:aA X.prog X.w X.K X.mg X.base x j sp)(hr:ba k X.A)(ha:PA X (e::es) t)(D6:j<=k:=by decide)(hg:Gl X x:=by rfl)(bQ:(x==("__debug__":Str))=false:=by decide)(he:starEach (e::es) X.env=(false,eval e X.env)::starEach es X.env:=by rfl)(bA:(backTo pos (starEach es X.env)).any (·.1)=false:=by rfl):PE X (.Call (.Name x p) (e::es) [] pos) (qN sp t):=An F (hr.mono D6) hg ha bQ he bA
theorem fD:bc X (binaryOp .Mult) (rI (fun i j=>IntMulOk i j) fun i j=>.int (i*j)):=kU fun _ _ _ _ _ _ _ hc q=>mul_int q hc
theorem AI:bc X (compareOp .Eq) (dv fun i j=>.bl (decide (i=j))):=ij fun _ _ _ _ _ _ _ q=>eq_int (by rw[Bool.beq_eq_decide_eq];exact q)
theorem AA:bc X (compareOp .NotEq) (dv fun i j=>.bl (!decide (i=j))):=ij fun _ _ _ _ _ _ _ q=>ne_int (by rw[bne,Bool.beq_eq_decide_eq];exact q)
theorem AK(hu:X.A.units+64<cLine):bc X (compareOp .Eq) (fun x y H Q=>dv (fun i j=>.bl (decide (i=j))) x y H Q\/nQ X.K x y H Q):=AI.or (AJ hu)
theorem AE(hu:X.A.units+64<cLine):bc X (compareOp .NotEq) (fun x y H Q=>dv (fun i j=>.bl (!decide (i=j))) x y H Q\/nL X.K x y H Q):=AA.or (AB hu)
theorem sv{K:He}{H:Hp}(b:Bool):RD K H (.bl b) (.bool b):=by simp[RD]
theorem kL{K:He}{H:Hp}(i:Int):RD K H (.int i) (.int i):=by simp[RD]
theorem kK{K:He}{H:Hp}(x:Str):RD K H (.str x) (.str x):=by simp[RD]
theorem zG{K:He}{H:Hp}:RD K H .ax .none:=by simp[RD]
theorem sr{K:He}{H:Hp}{p:Addr}{xs:List V}{ds:List Hh}(h:aH K H p xs)(r:au K H xs ds):RD K H (.ref p) (.tuple ds):=by rw[RD];exact⟨p,xs,rfl,h,r⟩
theorem su{K:He}{H:Hp}{p:Addr}{xs:List V}{ds:List Hh}(h:aq K H p xs)(r:au K H xs ds):RD K H (.ref p) (.list ds):=by rw[RD];exact⟨p,xs,rfl,h,r⟩
theorem fz{K:He}{H:Hp}:au K H [] []:=by simp[au]
theorem eh{K:He}{H:Hp}{x:V}{xs:List V}{d:Hh}{ds:List Hh}(h:RD K H x d)(r:au K H xs ds):au K H (x::xs) (d::ds):=by rw[au];exact⟨x,xs,rfl,h,r⟩
inductive vY(t:TS)(D:Ends)(σ:St)(H:Hp):Prop |mk (pR:St->Hp->Prop)(h0:t {D with nx:=pR} σ H)(h1:∀σ' H',pR σ' H'->D.nx σ' H'):vY t D σ H
def yJ (t:TS):TS:=fun D σ H=>vY t D σ H
theorem j9{st:Stmt}{t:TS}(h:PS X st t):PS X st (yJ t):=by intro pins s σ H D I hq;obtain⟨pR,q,m⟩:=hq;refine ak (h pins s σ H _ I q) fun f s1 q1=>?_;cases f with |next=>obtain⟨σ',H',I',q'⟩:=q1;exact⟨σ',H',I',m _ _ q'⟩ |brk=>exact q1 |cont=>exact q1 |ret u=>exact q1
end
end L2
namespace L2
open PySem PySem.Spec PyProof.Rows
def gj(K:He)(xs:List Str):Prop:=∀x∈xs,PySem.W.nsIn K mainGlobals x=some none
theorem gj.nil{K:He}:gj K []:=fun _ h=>nomatch h
theorem gj.cons{K:He}{x:Str}{xs:List Str}(a:PySem.W.nsIn K mainGlobals x=some none)(r:gj K xs):gj K (x::xs):=fun y hy=>by
 rcases bV.mp hy with e|e
 ·rw[e];exact a
 ·exact r y e
theorem FG{K:He}{mg:Str->Option Value}{h:Heap}(X:K.In h)(G:h.Ns mainGlobals mg)(a:gj K lU):bp mg:=fun x hx=>PySem.W.mg_none_of X G (a x hx)
theorem pD{env:Env}:∀(ns:List (Str×NameKind))(cs:List (Str×Addr)),(∀x∈ns,x.2= .free->∃c,env.cells.lookup x.1=some c)->(∀x c,cs.lookup x=some c->env.cells.lookup x=some c)->∃cl,(forIn ns cs (fun x r=>if(x.2==NameKind.free)=true then do let a<-cellOf env x.1;pure (ForInStep.yield ((x.1,a)::r))else pure (ForInStep.yield r)):Sem (List (Str×Addr)))=pure cl/\(∀x c,cl.lookup x=some c->env.cells.lookup x=some c)/\(∀x c,cs.lookup x=some c->∃c',cl.lookup x=some c')/\∀x∈ns,x.2= .free->∃c,cl.lookup x.1=some c
  |[],cs,_,h2=>⟨cs,rfl,h2,fun x c e=>⟨c,e⟩,fun _ h=>nomatch h⟩ |(n,k)::r,cs,h1,h2=>by
    by_cases hk:k= .free
    · subst hk
      obtain⟨c,hc⟩:=h1 (n,.free) (.head _) rfl;have e1:cellOf env n=pure c:=by unfold cellOf;rw[show env.cells.lookup n=some c from hc]
      obtain⟨cl,a1,a2,a3,a4⟩:=pD r ((n,c)::cs) (fun x hx=>h1 x (.tail _ hx)) (fun x d e=>by rw[da]at e;cases z:x==n with |true=>rw[z]at e;cases e;rw[bE.mp z];exact hc |false=>rw[z]at e;exact h2 x d e);refine⟨cl,?_,a2,fun x d e=>?_,fun x hx hf=>?_⟩
      · rw[qs]
        show(do let r'<-(if(NameKind.free==NameKind.free)=true then do let a<-cellOf env n;pure (ForInStep.yield ((n,a)::cs))else pure (ForInStep.yield cs));_)=_;rw[aK (by rfl),e1];exact a1
      · by_cases z:x==n
        ·exact a3 x c (by rw[da,z])
        ·exact a3 x d (by rw[da,kg.mpr z];exact e)
      · rcases bV.mp hx with rfl|hx
        ·exact a3 n c (by rw[da,beq_self_eq_true])
        ·exact a4 x hx hf
    · obtain⟨cl,a1,a2,a3,a4⟩:=pD r cs (fun x hx=>h1 x (.tail _ hx)) h2
      refine⟨cl,?_,a2,a3,fun x hx hf=>?_⟩
      · rw[qs]
        show(do let r'<-(if(k==NameKind.free)=true then do let a<-cellOf env n;pure (ForInStep.yield ((n,a)::cs))else pure (ForInStep.yield cs));_)=_;rw[aI (by simpa using hk)];exact a1
      · rcases bV.mp hx with rfl|hx
        ·exact absurd hf hk
        ·exact a4 x hx hf
theorem Fm{env:Env}{scope:Scope}(h1:∀x∈scope.names,x.2= .free->∃c,env.cells.lookup x.1=some c): ∃cl,closureFor scope env=pure cl/\(∀x c,cl.lookup x=some c->env.cells.lookup x=some c)/\∀x∈scope.names,x.2= .free->∃c,cl.lookup x.1=some c:=by
  obtain⟨cl,a1,a2,_,a4⟩:=pD (env:=env) scope.names [] h1 (fun x c e=>nomatch e);refine⟨cl,?_,a2,a4⟩;unfold closureFor;show(forIn scope.names ([]:List (Str×Addr)) (fun(x:Str×NameKind) r=>match x with|(name,kind)=>if(kind==NameKind.free)=true then do let a<-cellOf env name;pure (ForInStep.yield ((name,a)::r))else pure (ForInStep.yield r))>>=fun r=>(pure r:Sem (List (Str×Addr))))=pure cl;have ef:(fun(x:Str×NameKind)(r:List (Str×Addr))=>match x with|(name,kind)=>(if(kind==NameKind.free)=true then do let a<-cellOf env name;pure (ForInStep.yield ((name,a)::r))else pure (ForInStep.yield r):Sem (ForInStep (List (Str×Addr))))) =fun x r=>if(x.2==NameKind.free)=true then do let a<-cellOf env x.1;pure (ForInStep.yield ((x.1,a)::r))else pure (ForInStep.yield r):=by funext x r;obtain⟨n,k⟩:=x;rfl
  rw[ef,a1];rfl
theorem tS{env:Env}(hk:env.scope.kind= .function){x:Str}(hx:env.kindOf x=some .cell):∀{names:List (Str×NameKind)},names.lookup x=some .free->(names.map fun(n,k)=>if(k==NameKind.free&&env.scope.kind== .function&&env.kindOf n==some .cell)then(n,NameKind.cell)else(n,k)).lookup x=some .cell |[],h=>nomatch h |(n,k)::r,h=>by have ih:=@tS env hk x hx r;show List.lookup x ((if(k==NameKind.free&&env.scope.kind== .function&&env.kindOf n==some .cell)=true then(n,NameKind.cell)else(n,k))::_)=_;cases z:x==n with |true=>simp only[da,z]at h;cases h;have e:=bE.mp z;subst e;rw[aK (by rw[hk,hx];rfl),da,z] |false=>simp only[da,z]at h;split<;>(simp only[da,z];exact ih h)
def cX(X:Cx)(N:List Str)(scope:Scope)(cl:List (Str×Addr))(s:Hf)(H:Hp)(fp:List Addr)(pins:List (Addr×Obj)):Cx:={prog:=X.prog,w:=X.w,K:=X.K,mg:=X.mg,base:=X.base,A:=X.A,N:=N,s₀:=s,H₀:=H,env:=compEnvC scope cl s.heap.objs.size X.env,outer:=X.stack,stack:=X.stack,ex:=fp,fn:=fun _=>false,calm:=X.calm,pn:=X.pn++pins,xe:=fun _ _=>False}
def stC(js:List (Option Nat))(σ:St):St:=js.map fun|none=>none|some j=>(σ[j]?).join
def pE(X:Cx)(N:List Str)(js:List (Option Nat))(scope:Scope):Bool:=N.length==js.length&&(N.zip js).all fun p=>match p.2 with|none=>true|some j=>X.N[j]? ==some p.1&&scope.names.lookup p.1==some NameKind.free&&X.env.kindOf p.1==some NameKind.cell
def lT(X:Cx)(scope:Scope):Bool:=scope.kind== .function&&X.env.scope.kind== .function&&scope.names.all fun x=>match x.2 with | .free=>X.env.kindOf x.1==some NameKind.cell | .cell=>false | .local=>scope.names.lookup x.1==some NameKind.local |_=>true
section
variable {X:Cx}{pins:List (Addr×Obj)}{σ:St}{H:Hp}{s:Hf}
theorem lookup_mem{α β:Type}[BEq α][LawfulBEq α]:∀{l:List (α×β)}{x:α}{b:β},l.lookup x=some b->(x,b)∈l |[],_,_,h=>nomatch h |(n,k)::r,x,b,h=>by rw[da]at h;cases z:x==n with |true=>rw[z]at h;cases h;rw[bE.mp z];exact .head _ |false=>rw[z]at h;exact .tail _ (lookup_mem h)
theorem sq{env:Env}{x:Str}{k:NameKind}:∀{names:List (Str×NameKind)},(names.map fun(n,k)=>if(k==NameKind.free&&env.scope.kind== .function&&env.kindOf n==some .cell)then(n,NameKind.cell)else(n,k)).lookup x=some k->names.lookup x=some k\/(k= .cell/\names.lookup x=some .free) |[],h=>nomatch h |(n,k')::r,h=>by have ih:=@sq env x k r;have h':List.lookup x ((if(k'==NameKind.free&&env.scope.kind== .function&&env.kindOf n==some .cell)=true then(n,NameKind.cell)else(n,k'))::(r.map fun(n,k)=>if(k==NameKind.free&&env.scope.kind== .function&&env.kindOf n==some .cell)then(n,NameKind.cell)else(n,k)))=some k:=h;cases z:x==n with
    |true=>
      split at h'
      · rename_i hc
        simp only[da,z]at h';cases h';rw[bW,bW]at hc;have e:k'= .free:=bE.mp hc.1.1;subst e;exact .inr ⟨rfl,by rw[da,z]⟩
      · simp only[da,z]at h'
        cases h';exact .inl (by rw[da,z]) |false=>
      rw[da,z];refine ih ?_;split at h'
      ·simpa only[da,z]using h'
      ·simpa only[da,z]using h'
theorem Inv.comp{N:List Str}{js:List (Option Nat)}{scope:Scope}{cl:List (Str×Addr)}{fp:List Addr}{h':Heap}{tk:Nat}(I:Inv X pins σ H s)(hN:pE X N js scope=true)(hS:lT X scope=true) (c1:∀x c,cl.lookup x=some c->X.env.cells.lookup x=some c)(c2:∀x∈scope.names,x.2= .free->∃c,cl.lookup x.1=some c)(hf:∀b∈fp,fq X pins H b)(Dq:∀b∈fp,b<s.heap.objs.size) (hn:h'.Ns s.heap.objs.size fun _=>none)(hk:∀b o,s.heap.get? b=some o->h'.get? b=some o):Inv (cX X N scope cl s H fp pins) [] (stC js σ) H {s with heap:=h',toks:=tk}:=by
  unfold lT at hS;rw[bW,bW]at hS;obtain⟨⟨s1,s2⟩,s3⟩:=hS;have gd:scope.kind= .function:=bE.mp s1;have D3:X.env.scope.kind= .function:=bE.mp s2;unfold pE at hN;rw[bW]at hN;obtain⟨n1,n2⟩:=hN;have hlen:N.length=js.length:=bE.mp n1;have ug:∀x k,(relabel scope X.env).names.lookup x=some k->scope.names.lookup x=some k\/(k= .cell/\scope.names.lookup x=some .free):=fun x k e=>sq e;have Bx:∀x,scope.names.lookup x≠some .cell:=fun x e=>by have:=fT.mp s3 _ (lookup_mem e);exact cj this
  have uS:∀b∈(cX X N scope cl s H fp pins).fs,b∈X.env.locals::X.fs:=I.mM;have ok:(cX X N scope cl s H fp pins).Ok:={
    mod:=I.ok.mod
    kind:=gd
    glob:=I.ok.glob
    blt:=I.ok.blt
    above:=aJ _
    inj:=fun x y c e1 e2=>I.ok.inj x y c (c1 x c e1) (c1 y c e2)
    has:=fun x hx=>by
     have fr:scope.names.lookup x=some .free->∃c,cl.lookup x=some c:=fun e=>c2 (x,.free) (lookup_mem e) rfl;rcases hx with e|e
     · rcases ug x _ e with e|⟨_,e⟩
       ·exact absurd e (Bx x)
       ·exact fr e
     · rcases ug x _ e with e|⟨z,_⟩
       ·exact fr e
       ·cases z
    cab:=fun x c e=>nomatch e
    hd:=I.ok.hd
    frames:=I.ok.frames
    stk:=.inl rfl
    exf:=fun b hb=>⟨cg (Dq b hb),fun x c e=>(hf b hb).2.2.2.2.1 x c (c1 x c e)⟩
    bs:=I.bs
    bsz:=dr I.ok.bsz I.sz
    noex:=fun b o e hb=>by
     rcases(hf b hb).2.2.2.1 with z|z
     ·exact I.ok.noex b o e z
     ·exact absurd (cN (aU e) (dr I.ok.bsz z)) (gZ _)
    exfs:=fun b hb z=>by
     obtain⟨_,q1,q2,_⟩:=hf b hb;rcases bV.mp (uS b z)with e|e
     ·exact q1 e
     ·exact q2 e
    cM:=I.stack
    frf:=I.kC};refine⟨ok,rfl,I.bare,Un.kept hk,⟨_,hn,fun i x v e1 e2 e3=>?_⟩,fun x c e=>?_,I.hok.fresh (aJ _),fun x c e=>I.freeC x c (c1 x c e),fun p hp=>?_,I.hok.kept hk,?_⟩
  · have iE:(js.map fun|none=>none|some j=>(σ[j]?).join)[i]? =some (some v):=e2
    rw[du]at iE;cases hj:js[i]? with |none=>rw[hj]at iE;cases iE |some o=>rw[hj]at iE;cases o with |none=>cases iE |some j=>
        have hz:(N.zip js)[i]? =some (x,some j):=by rw[List.getElem?_zip_eq_some];exact⟨e1,hj⟩
        have vm:=fT.mp n2 _ (iQ hz);simp only[bW,bE]at vm;obtain⟨⟨h1,h2⟩,h3⟩:=vm;have lO:(σ[j]?).join=some v:=by simpa using iE
        have hσ:σ[j]? =some (some v):=by cases q:σ[j]? with |none=>rw[q]at lO;cases lO |some o=>
           rw[q]at lO;have:o=some v:=by simpa using lO
           rw[this]
        obtain⟨m,hm,hl⟩:=I.loc;obtain⟨u,r,l⟩:=hl j x v h1 hσ (.inr (.inl h3));refine⟨u,r,?_⟩;rcases l with⟨k,_⟩|⟨_,c,hc,iB⟩
        ·rw[h3]at k;cases k
        · obtain⟨c',dz⟩:=c2 (x,.free) (lookup_mem h2) rfl
          have:=c1 x c' dz;rw[hc]at this;cases this;refine .inr ⟨.inl (tS D3 h3 h2),c,dz,?_⟩;obtain⟨ob,ho,hd⟩:=iB;exact⟨ob,hk _ _ ho,hd⟩
  · obtain⟨v,ob,ho,hd⟩:=I.cell x c (c1 x c e)
    exact⟨v,ob,hk _ _ ho,hd⟩
  · have lx:p∈X.pn++pins:=by simpa[cX]using hp
    obtain⟨a1,a2,a3,a4,a5⟩:=I.pin p lx;refine⟨hk _ _ a1,a2,cg (aU a1),fun z=>?_,a5⟩;rcases bV.mp (uS p.1 z)with e|e
    ·exact a3 e
    ·exact a4 e
  · show(js.map _).length=N.length
    rw[aZ,hlen]
end
theorem Fe{prog:Hg}{w:World}{A:Hi}{R:Result->Hf->Prop}{s:Hf}{elt target iter:Expr}{ifs:List Expr}{scope:Scope}{pos:Pos}{it acc:Value}{env:Env}(I:Nat->Hf->Prop) (turn:∀n s,I n s->wpAny (model prog w) A (pyNext it) (fun r s₁=>match r with |none=>R (.ok .next) s₁ |some v=>wpAny (model prog w) A (letOwnedTupleGo target it v) (fun _ s₁=>wpAny (model prog w) A (assign target env v) (fun _ s₂=>wpAny (model prog w) A (forIn ifs true fun c r=>if r=true then do let ok<-isTrue c env (eval c env);pure (ForInStep.yield ok)else pure (ForInStep.yield r)) (fun ok s₃=>if ok=true then wpAny (model prog w) A (eval elt env) (fun x s₄=>wpAny (model prog w) A (call (.builtin "list.append") [acc,x]) (fun _ s₅=>∃m,m<n/\I m s₅) (fun _ _=>False) s₄) (fun _ _=>False) s₃ else∃m,m<n/\I m s₃) (fun _ _=>False) s₂) (fun _ _=>False) s₁) (fun _ _=>False) s₁) (fun _ _=>False) s) (n:Nat)(h:I n s):codeAny (model prog w) A (.compLoop (.ListComp elt [⟨target,iter,ifs,0⟩] scope pos) 0 it acc env) R s:=by refine codeAny_loop rfl I (fun n s hI=>?_) n h;show wpAny _ A ((compTurn (.ListComp elt [⟨target,iter,ifs,0⟩] scope pos) 0 it acc env).onRaise (fun x=>do noteFrame x env;theTreesLotGoes x)) _ _ s;refine wpAny_noted ?_;rw[compTurn_list];refine ae (wpAny_standAt (ae (d9 (turn n s hI) (fun r s₁ h₁=>?_) fun _ _ h'=>h'.elim)));cases r with |none=>exact aE h₁ |some v=>refine ae (d9 h₁ (fun _ Gj h₁=>?_) fun _ _ h'=>h'.elim);refine ae (d9 h₁ (fun _ s₂ h₂=>ae (d9 h₂ (fun ok s₃ h₃=>?_) fun _ _ h'=>h'.elim)) fun _ _ h'=>h'.elim);cases ok with |false=>exact aE ⟨rfl,h₃⟩ |true=>exact ae (ae (d9 h₃ (fun x s₄ h₄=>ae (d9 h₄ (fun _ s₅ h₅=>aE (aE ⟨rfl,h₅⟩)) fun _ _ h'=>h'.elim)) fun _ _ h'=>h'.elim))
def vM(X:Cx)(ifs:List Expr)(t:TT):Prop:=∀(pins:List (Addr×Obj))(s:Hf)(σ:St)(H:Hp)(Q:Bool->Hp->Prop),Inv X pins σ H s->t σ H Q->wpAny (model X.prog X.w) X.A (forIn ifs true fun c r=>if r=true then do let ok<-isTrue c X.env (eval c X.env);pure (ForInStep.yield ok)else pure (ForInStep.yield r)) (TP X pins σ Q) X.xe s
def fu:TT:=fun _ H Q=>Q true H
theorem ei{X:Cx}:vM X [] fu:=fun _ _ _ H _ I h=>wpAny_tests_nil ⟨H,I,h⟩
def gp(J:It)(g:TG)(tt:TT)(te:TE)(Q:VK)(D:Addr)(σ:St)(H:Hp):Prop:=∃W:Nat->Nat->St->Hp->Prop,(∃m,W 0 m σ H)/\∀i m σ' H',W i m σ' H'->(J.stop i H'/\Q (.ref D) H')\/(J.go i H'/\∀x H2,J.yld i H' x H2->g x σ' H2 fun σ3 H3=>tt σ3 H3 fun ok H4=>if ok=true then te σ3 H4 fun y H5=>∃ys,H5 D=some (.lst ys)/\ys.length<sizeLine/\∃m',m'<m/\W (i+1) m' σ3 (upd H5 D (.lst (ys++[y]))) else∃m',m'<m/\W (i+1) m' σ3 H4)
def yU(js:List (Option Nat))(wi:TI)(g:TG)(tt:TT)(te:TE):TE:=fun σ H Q=>wi σ H fun J H1=>∀D H2,Nw H1 H2 D (.lst [])->gp J g tt te Q D (stC js σ) H2
theorem bq.but{P:Hg}{w:World}{H:Hp}{h h':Heap}{C:Addr}(ok:bq P w H h)(hn:H C=none)(hs:Heap.SameBut C h h'):bq P w H h':=fun b ob e=>by
 refine(ok b ob e).eU (fun c w' hc q=>(hs.2 c ?_).trans q) (fun _ q=>q) fun _ _ q=>q;rintro rfl;rcases hc with rfl|hc
 ·rw[hn]at e;cases e
 ·rw[hn]at hc;cases hc
set_option maxHeartbeats 1000000 in
theorem ez{X:Cx}{N:List Str}{js:List (Option Nat)}{elt tg iter:Expr}{ifs:List Expr}{scope:Scope}{pos:Pos}{wi:TI}{g:TG}{tt:TT}{te:TE}(hc:X.calm=true)(hN:pE X N js scope=true)(hS:lT X scope=true) (hi:PI X tg iter wi)(hg:∀cl s H fp pins,PG (cX X N scope cl s H fp pins) tg g)(ht:∀cl s H fp pins,vM (cX X N scope cl s H fp pins) ifs tt)(he:∀cl s H fp pins,PE (cX X N scope cl s H fp pins) elt te) (hs:∀x,foldedSetIterable iter X.env x=pure x:=by intro _;rfl):PE X (.ListComp elt [⟨tg,iter,ifs,0⟩] scope pos) (yU js wi g tt te):=by
  intro pins s σ H Q I h;have jB:=hS;unfold lT at jB;rw[bW,bW]at jB;obtain⟨⟨k1,k2⟩,k3⟩:=jB;have gd:scope.kind= .function:=bE.mp k1;have lE:∀x∈scope.names,x.2= .free->∃c,X.env.cells.lookup x.1=some c:=fun x hx e=>by have:=fT.mp k3 x hx;rw[e]at this;exact I.ok.has x.1 (.inl (bE.mp this))
  have iB:∀x∈scope.names,x.2≠ .cell:=fun x hx e=>by have:=fT.mp k3 x hx;rw[e]at this;exact cj this
  have CW:∀x∈scope.names,x.2= .local->scope.names.lookup x.1=some .local:=fun x hx e=>by have:=fT.mp k3 x hx;rw[e]at this;exact bE.mp this
  obtain⟨cl,Dx,c1,c2⟩:=Fm lE;rw[eval_ListComp];refine wpAny_comprehension_free (use:=none) rfl hs Dx gd CW (ak (hi pins s σ H _ I h) fun v s1 h1=>ak h1 fun om s2 h2=>?_);obtain⟨it,fp,tn,J,H2,e,I2,T,kD,f2,h2⟩:=h2;subst e;have hD:H2 s2.heap.objs.size=none:=I2.hok.fresh (aJ _);obtain⟨W,⟨m0,w0⟩,turn⟩:=h2 _ _ (Nw.of hD);refine gq (wpAny_newFunctionEnv iB (by intro y hy;simp at hy) (fun h₁ uu um=>?_) gd);have p9:∀b∈fp,b<s2.heap.objs.size:=fun b hb=>by obtain⟨o,e,_⟩:=T.obj _ _ kD b hb;exact aU e
  have I3:Inv X pins σ (upd H2 s2.heap.objs.size (.lst [])) {s2 with heap:=s2.heap.push {cls:=.type "list",dict:=none,data:=.seq ([]:List Value).toArray}}:=I2.BW (its:=[]) (t':=s2.toks) .nil (fO _);generalize uL:s2.heap.push {cls:=.type "list",dict:=none,data:=.seq ([]:List Value).toArray}=h3 at I3 uu um;have qO:h3.objs.size=s2.heap.objs.size+1:=by rw[<-uL,hU]
  have Cc:∀b o,s2.heap.get? b=some o->h3.get? b=some o:=fun b o e=>by rw[<-uL];exact aY _ e
  have f3:∀b∈fp,fq X pins (upd H2 s2.heap.objs.size (.lst [])) b:=fun b hb=>⟨by rw[aV (cg (p9 b hb))];exact(f2 b hb).1,(f2 b hb).2⟩;have u7:∀b o,h3.get? b=some o->h₁.get? b=some o:=fun b o e=>(um.2 b (cg (aU e))).trans (aY _ e);have I4:Inv (cX X N scope cl {s2 with heap:=h3} (upd H2 s2.heap.objs.size (.lst [])) fp pins) [] (stC js σ) (upd H2 s2.heap.objs.size (.lst [])) {s2 with heap:=h₁,toks:=s2.toks+([]:List (Str×Value)).length}:=I3.comp (s:={s2 with heap:=h3}) hN hS c1 c2 f3 (fun b hb=>by show b<h3.objs.size;rw[qO];exact Nat.lt_succ_of_lt (p9 b hb)) (by simpa using uu) u7;have qQ:tn 0 h₁:=T.keep _ _ _ kD fun b _ o e=>u7 b o (Cc b o e);have loop:codeAny (model X.prog X.w) X.A (.compLoop (.ListComp elt [⟨tg,iter,ifs,0⟩] scope pos) 0 (.ref it) (.ref s2.heap.objs.size) (compEnvC scope cl h3.objs.size X.env)) (compPost (model X.prog X.w) X.A X.xe none (EP X pins σ Q) (.ref s2.heap.objs.size) h3.objs.size) {s2 with heap:=h₁,toks:=s2.toks+([]:List (Str×Value)).length}:=by
    refine Fe (fun n s'=>∃i σ' H',Inv (cX X N scope cl {s2 with heap:=h3} (upd H2 s2.heap.objs.size (.lst [])) fp pins) [] σ' H' s'/\tn i s'.heap/\(∀b∈fp,H' b=none)/\W i n σ' H') ?_ m0 ⟨0,_,_,I4,qQ,fun b hb=>(f3 b hb).1,w0⟩;rintro n s5 ⟨i,σ5,H5,I5,hZ,lK,w5⟩;have gB:∀{H':Hp},(∀b∈fp,H' b=none)->∀b∈fp,fq (cX X N scope cl {s2 with heap:=h3} (upd H2 s2.heap.objs.size (.lst [])) fp pins) [] H' b:=fun{H'} hn b hb=>by
     obtain⟨_,q1,q2,q3,q4,q5⟩:=f3 b hb;refine⟨hn b hb,fun z=>?_,I4.ok.exfs b hb,.inl hb,fun x c e=>q4 x c (c1 x c e),fun p hp=>q5 p (by simpa[cX]using hp)⟩;have bX:b<h3.objs.size:=by rw[qO];exact Nat.lt_succ_of_lt (p9 b hb)
     exact cg bX z
    rcases turn i n σ5 H5 w5 with⟨stop,qn⟩|⟨go,step⟩
    · refine ak (T.done (cX X N scope cl {s2 with heap:=h3} (upd H2 s2.heap.objs.size (.lst [])) fp pins) rfl rfl rfl hc i [] s5 σ5 H5 _ I5 (gB lK) hZ stop) fun r s6 ⟨hr,I6⟩=>?_
      subst hr;obtain⟨m,hm,_⟩:=I6.loc;refine⟨m,hm,fun h7 lh=>?_⟩;have u0:Un (bI X.stack) fp (upd H2 s2.heap.objs.size (.lst [])) H5 h3 s6.heap:=I6.base;have ne:∀b o,h3.get? b=some o->b≠h3.objs.size:=fun b o e=>cg (aU e);have u:Un (bI X.stack) fp (upd H2 s2.heap.objs.size (.lst [])) H5 h3 h7:=⟨fun b o e n hb hx=>(lh.2 b (ne b o e)).trans (u0.keep b o e n hb hx),fun b o e n hb hx=>let⟨sl,q⟩:=u0.slot b o e n hb hx;⟨sl,(lh.2 b (ne b o e)).trans q⟩,u0.free,fun b o e hx=>let⟨o',q⟩:=u0.there b o e hx;⟨o',(lh.2 b (ne b o e)).trans q⟩,u0.tups,u0.frzs,u0.tbls⟩;have I7:Inv X pins σ H5 {s6 with heap:=h7}:=I3.pH (s':={s6 with heap:=h7}) (ch:=fp) I6.os u (I6.hok.but I6.free lh) I6.bare fun b hb=>⟨(f3 b hb).2.2.2.1,(f3 b hb).2.1,(f3 b hb).2.2.2.2.1,(f3 b hb).2.2.2.2.2⟩;exact⟨.ref s2.heap.objs.size,H5,I7,rfl,qn⟩
    · refine ak (T.item (cX X N scope cl {s2 with heap:=h3} (upd H2 s2.heap.objs.size (.lst [])) fp pins) rfl rfl rfl hc i [] s5 σ5 H5 _ I5 (gB lK) hZ go) fun r s6 ⟨u,hr,h6⟩=>?_
      subst hr;refine ak h6 fun _ s7 ⟨x,H7,I7,r7,y7,mP,EG⟩=>?_;have G7:=I7.pinned (gB EG) (T.obj _ _ mP);refine ak (hg _ _ _ _ _ _ s7 σ5 H7 x u _ G7 r7 (step x H7 y7)) fun _ s8 ⟨σ8,H8,I8,q8⟩=>?_;refine ak (ht _ _ _ _ _ _ s8 σ8 H8 _ I8 q8) fun ok s9 ⟨H9,I9,q9⟩=>?_;have again:∀{s':Hf}{σ7:St}{H7:Hp},Inv (cX X N scope cl {s2 with heap:=h3} (upd H2 s2.heap.objs.size (.lst [])) fp pins) ([]++jb fp s7.heap) σ7 H7 s'->(∃m',m'<n/\W (i+1) m' σ7 H7)->∃m,m<n/\∃i σ' H',Inv (cX X N scope cl {s2 with heap:=h3} (upd H2 s2.heap.objs.size (.lst [])) fp pins) [] σ' H' s'/\tn i s'.heap/\(∀b∈fp,H' b=none)/\W i m σ' H':=fun{s' σ7 H7} J7 n7=>by obtain⟨m',hm,w7⟩:=n7;refine⟨m',hm,i+1,σ7,H7,J7.kn,T.keep _ _ _ mP fun b hb o e=>(J7.pin (b,o) (fQ _ (fQ _ (l8 hb e)))).1,fun b hb=>?_,w7⟩;obtain⟨o,e,d⟩:=T.obj _ _ mP b hb;exact(J7.pin (b,o) (fQ _ (fQ _ (l8 hb e)))).2.1
      cases ok with |false=>rw[aI cj]at q9⊢;exact again I9 q9 |true=>rw[aK rfl]at q9⊢;refine ak (he _ _ _ _ _ _ s9 σ8 H9 _ I9 q9) fun yv cO ⟨y,gn,m8,zT,ys,jt,hz,ya⟩=>?_;refine ak (tL _ cO σ8 gn (.ref s2.heap.objs.size) [y] (.ref s2.heap.objs.size) [yv] (fun _ gW=>∃m',m'<n/\W (i+1) m' σ8 gW) m8 rfl (.cons zT .nil) ⟨_,ys,y,rfl,rfl,jt,hz,ya⟩) fun _ fX ⟨v11,gW,G9,Gn,zU⟩=>?_;exact again G9 zU
  exact codeAny_compStart_list loop (T.self _ 0 _ _ _ qQ loop)
theorem vy:∀{bs:List Bool}{us:List Value},Vals (bs.map V.bl) us->us=bs.map Value.bool |[],_,.nil=>rfl |b::r,_,.cons q t=>by cases(show _=Value.bool b from q);rw[vy t];rfl
section
variable {X:Cx}
theorem FC(hc:X.calm=true):bR X (.builtin "all") (fun xs H Q=>∃(l:Addr)(bs:List Bool),xs=[.ref l]/\aq X.K H l (bs.map V.bl)/\Q (.bl (bs.all id)) H):=by
 intro pins s σ H xs us Q I r h;obtain⟨l,bs,rfl,hl,q⟩:=h;obtain⟨u,rfl,ru⟩:=vals1 r;cases(show u=Value.ref l from ru);obtain⟨its,rv,pl,hz⟩:=I.list hl;have e:=vy rv;subst e;have oJ:=pl.isList;have bX:l<s.heap.objs.size:=by obtain⟨_,e,_⟩:=oJ;exact aU e
 have hh:=I.ok.hd hc;refine call_all_walk (wpAny_pyIter_list oJ ?_);refine⟨s.heap.objs.size,[s.heap.objs.size,l],[s.heap.objs.size],(bs.map Value.bool).toArray.size,_,_,fun i=>(bs[i]?).getD true,rfl,Walks.list (A:=X.A.in1) hh _ l (cg bX) (bs.map Value.bool).toArray,⟨⟨_,bP _ rfl,rfl,rfl⟩,oJ.push _⟩,fun i v s' Q' E' hP hQ=>?_,fun h' tk hk=>?_⟩
 · have jC:(bs.map Value.bool)[i]? =some v:=by simpa using hP
   rw[du]at jC;cases e:bs[i]? with |none=>rw[e]at jC;cases jC |some b=>rw[e]at jC;cases jC;simp only[e,Option.getD_some]at hQ;exact gX hQ
 · have e:((List.range (bs.map Value.bool).toArray.size).all fun i=>(bs[i]?).getD true)=bs.all id:=by rw[bC,aZ];exact LSm.range_all bs
   rw[e];exact⟨.bl _,H,I.kept (LSm.kept_iter hk),rfl,q⟩
end
theorem lQ{J:It}{g:TG}{tt:TT}{te:TE}{Q:VK}{D:Addr}{σ:St}{H:Hp}(n:Nat)(Pv:Nat->St->Hp->Prop)(h0:Pv 0 σ H) (hs:∀i σ H,i<n->Pv i σ H->J.go i H/\∀x H2,J.yld i H x H2->g x σ H2 fun σ3 H3=>tt σ3 H3 fun ok H4=>if ok=true then te σ3 H4 fun y H5=>∃ys,H5 D=some (.lst ys)/\ys.length<sizeLine/\∃m',m'<n-i/\m'=n-(i+1)/\i+1<=n/\Pv (i+1) σ3 (upd H5 D (.lst (ys++[y]))) else∃m',m'<n-i/\m'=n-(i+1)/\i+1<=n/\Pv (i+1) σ3 H4) (hd:∀σ H,Pv n σ H->J.stop n H/\Q (.ref D) H): gp J g tt te Q D σ H:=by
  refine⟨fun i m σ H=>m=n-i/\i<=n/\Pv i σ H,⟨n,by simp,fO _,h0⟩,?_⟩;rintro i m σ H ⟨rfl,hi,p⟩;by_cases bX:i<n
  ·exact .inr (hs i σ H bX p)
  · have e:i=n:=by omega
    subst e;exact .inl (hd σ H p)
section
variable {X:Cx} {tg:Expr}
theorem Cf(K:He)(h:X.K=K):gm X (fun x y H Q=>nN K x y H Q\/nM K x y H Q):=by subst h;exact Ce.or Cd
inductive wL(K:He)(x:V)(lo:Option Int)(hi:Option Int)(H:Hp)(Q:VK):Prop |mk (a:_)(xs:_)(h0:x= .ref a)(h1:((aq K H a xs/\∀p H',Nw H H' p (.lst (dU xs lo hi))->Q (.ref p) H')\/ (aH K H a xs/\¬(HT.az xs.length 0 lo=0/\HT.az xs.length xs.length hi=xs.length)/\∀p H',Nw H H' p (.tup (dU xs lo hi))->Q (.ref p) H'))):wL K x lo hi H Q
def zL(K:He):V->Option Int->Option Int->Hp->VK->Prop:=fun x lo hi H Q=>wL K x lo hi H Q
theorem zi(K:He)(h:X.K=K):jN X (zL K):=by
 subst h;intro pins s σ H x v vl vu lo hi sl Q I rx hs pl pu hq;obtain⟨a,xs,e,hq⟩:=hq;rcases hq with⟨h1,k⟩|⟨h1,h2,k⟩
 ·exact zh pins s σ H x v vl vu lo hi sl Q I rx hs pl pu ⟨a,xs,e,h1,fun p hp=>k p _ (.of hp)⟩
 ·exact rA pins s σ H x v vl vu lo hi sl Q I rx hs pl pu ⟨a,xs,e,h1,h2,fun p hp=>k p _ (.of hp)⟩
theorem C3(K:He)(h:X.K=K):bR X (.builtin "len") (fun xs H Q=>∃p ys,xs=[.ref p]/\(aq K H p ys\/aH K H p ys)/\Q (.int ys.length) H):=by subst h;exact Fw
theorem Cg(K:He)(h:X.K=K):bR X (.builtin "isinstance") (fun xs H Q=>nP K xs H Q\/nO K xs H Q):=by subst h;exact Fy.or Fx
theorem eL(K:He)(h:X.K=K)(hu:X.A.units+64<cLine):bc X (compareOp .Eq) (fun x y H Q=>dv (fun i j=>.bl (decide (i=j))) x y H Q\/nQ K x y H Q):=by subst h;exact AK hu
theorem jk(K:He)(h:X.K=K)(hu:X.A.units+64<cLine):bc X (compareOp .NotEq) (fun x y H Q=>dv (fun i j=>.bl (!decide (i=j))) x y H Q\/nL K x y H Q):=by subst h;exact AE hu
theorem iI(K:He)(h:X.K=K)(hc:X.calm=true):bR X (.builtin "all") (fun xs H Q=>∃(l:Addr)(bs:List Bool),xs=[.ref l]/\aq K H l (bs.map V.bl)/\Q (.bl (bs.all id)) H):=by subst h;exact FC hc
theorem oh(K:He)(h:X.K=K):bR X (.type "list") (fun xs H Q=>∃p ys,xs=[.ref p]/\(aq K H p ys\/aH K H p ys)/\∀l H',Nw H H' l (.lst ys)->Q (.ref l) H'):=by subst h;intro pins s σ H xs us Q I r hq;obtain⟨p,ys,e,h1,k⟩:=hq;exact Fv pins s σ H xs us Q I r ⟨p,ys,e,h1,fun l hl=>k l _ (.of hl)⟩
theorem mK(K:He)(h:X.K=K):bR X (.type "tuple") (fun xs H Q=>∃p ys,xs=[.ref p]/\((aq K H p ys/\∀l H',Nw H H' l (.tup ys)->Q (.ref l) H')\/(aH K H p ys/\Q (.ref p) H))):=by subst h;intro pins s σ H xs us Q I r hq;obtain⟨p,ys,e,h1⟩:=hq;exact Ft pins s σ H xs us Q I r ⟨p,ys,e,h1.imp (fun⟨a,k⟩=>⟨a,fun l hl=>k l _ (.of hl)⟩) id⟩
def yt(t:TA):TE:=fun σ H Q=>t σ H fun xs H1=>xs.length<=sizeLine/\∀p H',Nw H1 H' p (.tup xs)->Q (.ref p) H'
def yL(t:TA):TE:=fun σ H Q=>t σ H fun xs H1=>xs.length<=sizeLine/\∀p H',Nw H1 H' p (.lst xs)->Q (.ref p) H'
theorem fB{es:List Expr}{t:TA}{pos:Pos} {x1}(h:PA X es t):PE X (.Tuple es x1 pos) (yt t):=by intro pins s σ H Q I hq;refine wpAny_Tuple_spliced (ak (h pos pins s σ H _ I hq) fun us s1 ⟨xs,H1,I1,r,z,q⟩=>⟨by rw[<-r.length];exact z,?_⟩);have hf:H1 s1.heap.objs.size=none:=I1.hok.fresh (aJ _);refine⟨.ref s1.heap.objs.size,upd H1 s1.heap.objs.size (.tup xs),I1.laid (t':=s1.toks) (fun b u e=>aY _ e) (aJ _) ?_,rfl,q _ _ (.of hf)⟩;exact⟨z,us,r,⟨_,bP _ rfl,rfl,_,rfl⟩⟩
theorem dG{es:List Expr}{t:TA}{pos:Pos}(h:PA X es t):PE X (.List es pos) (yL t):=by intro pins s σ H Q I hq;refine wpAny_List_spliced (ak (h pos pins s σ H _ I hq) fun us s1 ⟨xs,H1,I1,r,z,q⟩=>⟨by rw[<-r.length];exact z,?_⟩);have hf:H1 s1.heap.objs.size=none:=I1.hok.fresh (aJ _);refine⟨.ref s1.heap.objs.size,upd H1 s1.heap.objs.size (.lst xs),I1.laid (t':=s1.toks) (fun b u e=>aY _ e) (aJ _) ?_,rfl,q _ _ (.of hf)⟩;exact⟨z,us,0,r,bP _ rfl⟩
theorem gG(K:He)(h:X.K=K){l:Expr}{tl:TE}(hl:PE X l tl):PI X tg l (ui K tl):=by subst h;exact A6 hl
theorem kP(K:He)(h:X.K=K){es:List Expr}{k:Nat}{t:fm}{n:Nat}{pos:Pos}(hc:X.calm=true)(hg:jR X es t)(hn:(assignEach es X.env).length=n:=by rfl)(cQ:(assignEach es X.env).findIdx? (·.1)=none:=by rfl): PG X (.Tuple es k pos) (p5 K n t):=by subst h;exact A7 hc hg hn cQ
theorem sW(K:He)(h:X.K=K){o e:Expr}{to:TE}{t:TA}{apos aF:Pos}(ho:PE X o to)(ha:PA X [e] t) (cU:attributeBase o "append" X.env (eval o X.env)=eval o X.env:=by rfl) (cT:((backTo aF (starEach [e] X.env)).all (fun x=>!x.1)&&(backToKw aF (keywordEach [] X.env)).all (fun x=>x.1.isSome) &&decide ([e].length+([]:List Keyword).length+(if([]:List Keyword).isEmpty then 0 else 1)<30))=true:=by rfl) (cS:(apos.endLine==aF.line)=true:=by rfl)(hs:starEach [e] X.env=(false,eval e X.env)::starEach [] X.env:=by rfl)(cR:(backTo aF (starEach [] X.env)).any (·.1)=false:=by rfl): PE X (.Call (.Attribute o "append" apos) [e] [] aF) (gz K "list" sD to t):=by subst h;exact ie xK PySem.F.slot_list_append PySem.F.type_list_append tL ho ha cU cT cS hs cR
theorem mH{j:Nat}{x:V}{σ:St}{H:Hp}{A B:St->Hp->Prop}(h:A (σ.set j (some x)) H):dR j x σ H fun σ3 H3=>fu σ3 H3 fun ok H4=>if ok=true then A σ3 H4 else B σ3 H4:=by show if true=true then A (σ.set j (some x)) H else B (σ.set j (some x)) H;rw[aK rfl];exact h
theorem yes{σ:St}{H:Hp}{Q:Bool->Hp->Prop}(h:Q true H):fu σ H Q:=h
end
end L2
namespace L2
open PySem PySem.Spec PyProof.Rows
theorem aq.go{K:He}{H H':Hp}{a:Addr}{xs:List V}(s:ai H H')(h:aq K H a xs):aq K H' a xs:=h.imp (fun r=>r.imp (s _ _) fun⟨o,e⟩=>⟨o,s _ _ e⟩) id
theorem aH.go{K:He}{H H':Hp}{a:Addr}{xs:List V}(s:ai H H')(h:aH K H a xs):aH K H' a xs:=h.imp (fun r=>r.imp (s _ _) fun⟨o,e⟩=>⟨o,s _ _ e⟩) id
mutual
theorem RD.mono{K:He}{H H':Hp}(s:ai H H'):∀{x:V}(d:Hh),RD K H x d->RD K H' x d |x,.none,h=>by simpa[RD]using h |x,.bool b,h=>by simpa[RD]using h |x,.int i,h=>by simpa[RD]using h |x,.str y,h=>by simpa[RD]using h |x,.list ds,h=>by rw[RD]at h⊢;obtain⟨a,xs,e,h1,h2⟩:=h;exact⟨a,xs,e,h1.go s,au.mono s ds h2⟩ |x,.tuple ds,h=>by rw[RD]at h⊢;obtain⟨a,xs,e,h1,h2⟩:=h;exact⟨a,xs,e,h1.go s,au.mono s ds h2⟩ |x,.dict _,h=>by simp[RD]at h
theorem au.mono {K:He}{H H':Hp}(s:ai H H'):∀{xs:List V}(ds:List Hh),au K H xs ds->au K H' xs ds |xs,[],h=>by simpa[au]using h |xs,d::ds,h=>by rw[au]at h⊢;obtain⟨y,ys,e,h1,h2⟩:=h;exact⟨y,ys,e,RD.mono s d h1,au.mono s ds h2⟩
end
section
variable {K:He} {H H':Hp}
theorem au.nil_inv{xs:List V}(h:au K H xs []):xs=[]:=by simpa[au]using h
theorem au.cons_inv{xs:List V}{d:Hh}{ds:List Hh}(h:au K H xs (d::ds)):∃y ys,xs=y::ys/\RD K H y d/\au K H ys ds:=by rw[au]at h;exact h
theorem RD.ck{x:V}{ds:List Hh}(h:RD K H x (.tuple ds)):∃a xs,x= .ref a/\aH K H a xs/\au K H xs ds:=by rw[RD]at h;exact h
theorem RD.lst_inv{x:V}{ds:List Hh}(h:RD K H x (.list ds)):∃a xs,x= .ref a/\aq K H a xs/\au K H xs ds:=by rw[RD]at h;exact h
theorem RD.int_inv{x:V}{i:Int}(h:RD K H x (.int i)):x= .int i:=by rw[RD]at h;exact h
theorem RD.FH{x:V}{i:Bool}(h:RD K H x (.bool i)):x= .bl i:=by rw[RD]at h;exact h
theorem RD.str_inv{x:V}{i:Str}(h:RD K H x (.str i)):x= .str i:=by rw[RD]at h;exact h
theorem RD.Bu{x:V}(h:RD K H x .none):x= .ax:=by rw[RD]at h;exact h
theorem au.length:∀{xs:List V}{ds:List Hh},au K H xs ds->xs.length=ds.length |xs,[],h=>by rw[h.nil_inv];rfl |xs,d::ds,h=>by obtain⟨y,ys,rfl,_,h2⟩:=h.cons_inv;rw[fR,fR,au.length h2]
theorem au.append:∀{xs ys:List V}{ds es:List Hh},au K H xs ds->au K H ys es->au K H (xs++ys) (ds++es) |xs,ys,[],es,h,g=>by rw[h.nil_inv];exact g |xs,ys,d::ds,es,h,g=>by obtain⟨y,zs,rfl,h1,h2⟩:=h.cons_inv;exact eh h1 (au.append h2 g)
theorem au.take:∀(n:Nat){xs:List V}{ds:List Hh},au K H xs ds->au K H (xs.take n) (ds.take n) |0,xs,ds,h=>by rw[List.take_zero,List.take_zero];exact fz |n+1,xs,[],h=>by rw[h.nil_inv];exact fz |n+1,xs,d::ds,h=>by obtain⟨y,zs,rfl,h1,h2⟩:=h.cons_inv;exact eh h1 (au.take n h2)
theorem au.drop:∀(n:Nat){xs:List V}{ds:List Hh},au K H xs ds->au K H (xs.drop n) (ds.drop n) |0,xs,ds,h=>h |n+1,xs,[],h=>by rw[h.nil_inv];exact fz |n+1,xs,d::ds,h=>by obtain⟨y,zs,rfl,h1,h2⟩:=h.cons_inv;exact au.drop n h2
theorem au.get:∀(n:Nat){xs:List V}{ds:List Hh}{d:Hh},au K H xs ds->ds[n]? =some d->∃x,xs[n]? =some x/\RD K H x d
  |n,xs,[],d,h,e=>by simp at e |0,xs,d'::ds,d,h,e=>by
    obtain⟨y,zs,rfl,h1,h2⟩:=h.cons_inv;have e':d'=d:=by simpa using e
    subst e';exact⟨y,rfl,h1⟩ |n+1,xs,d'::ds,d,h,e=>by obtain⟨y,zs,rfl,h1,h2⟩:=h.cons_inv;exact au.get n h2 (by simpa using e)
def cutD(ds:List Hh)(lo hi:Option Int):List Hh:=(ds.drop (HT.az ds.length 0 lo)).take (HT.az ds.length ds.length hi-HT.az ds.length 0 lo)
theorem au.cut{xs:List V}{ds:List Hh}(h:au K H xs ds)(lo hi:Option Int):au K H (dU xs lo hi) (cutD ds lo hi):=by unfold dU cutD;rw[h.length];exact(h.drop _).take _
def fV:Hh->String | .none=>"NoneType" | .bool _=>"bool" | .int _=>"int" | .str _=>"str" | .list _=>"list" | .tuple _=>"tuple" | .dict _=>"dict"
theorem RD.ty{x:V}:∀{d:Hh},RD K H x d->gS K H x (fV d) | .none,h=>by rw[h.Bu];rfl | .bool b,h=>by rw[h.FH];rfl | .int b,h=>by rw[h.int_inv];rfl | .str b,h=>by rw[h.str_inv];rfl | .list ds,h=>by obtain⟨a,xs,rfl,h1,_⟩:=h.lst_inv;exact .inl ⟨rfl,xs,h1⟩ | .tuple ds,h=>by obtain⟨a,xs,rfl,h1,_⟩:=h.ck;exact .inr ⟨rfl,xs,h1⟩ | .dict _,h=>by simp[RD]at h
structure cY(n:Nat)(d:Hh):Prop where
 lay:d.canLay0=true
 dep:d.depth<=n
def cy(n:Nat)(ds:List Hh):Prop:=∀d∈ds,cY n d
theorem cY.le{n m:Nat}{d:Hh}(h:cY n d)(l:n<=m):cY m d:=⟨h.lay,dr h.dep l⟩
theorem gH{n:Nat}:∀{ds:List Hh},cy n ds↔(PyData.canLayAll0 ds=true/\PyData.depthAll ds<=n)
  |[]=>⟨fun _=>⟨rfl,fO _⟩,fun _ _ h=>nomatch h⟩ |d::ds=>by
    have ih:=gH (n:=n) (ds:=ds);simp only[PyData.canLayAll0,PyData.depthAll,bW];constructor
    · intro h
      have h1:=h d (.head _);have h2:=ih.mp fun x hx=>h x (.tail _ hx);exact⟨⟨h1.lay,h2.1⟩,Nat.max_le.mpr ⟨h1.dep,h2.2⟩⟩
    · rintro⟨⟨a,b⟩,c⟩ x hx
      have c':=Nat.max_le.mp c;rcases bV.mp hx with rfl|hx
      ·exact⟨a,c'.1⟩
      ·exact ih.mpr ⟨b,c'.2⟩ x hx
theorem cy.tup{n:Nat}{ds:List Hh}(h:cy n ds):cY (n+1) (.tuple ds):=⟨by simpa[PyData.canLay0]using(gH.mp h).1,by simpa[PyData.depth]using(gH.mp h).2⟩
theorem cy.lst{n:Nat}{ds:List Hh}(h:cy n ds):cY (n+1) (.list ds):=⟨by simpa[PyData.canLay0]using(gH.mp h).1,by simpa[PyData.depth]using(gH.mp h).2⟩
theorem cY.ck{n:Nat}{ds:List Hh}(h:cY (n+1) (.tuple ds)):cy n ds:=gH.mpr ⟨by simpa[PyData.canLay0]using h.lay,by simpa[PyData.depth]using h.dep⟩
theorem cY.int{n:Nat}(i:Int):cY n (.int i):=⟨rfl,fO _⟩
theorem cY.bl{n:Nat}(i:Bool):cY n (.bool i):=⟨rfl,fO _⟩
theorem cy.nil{n:Nat}:cy n []:=fun _ h=>nomatch h
theorem cy.cons{n:Nat}{d:Hh}{ds:List Hh}(h:cY n d)(g:cy n ds):cy n (d::ds):=fun x hx=>by
 rcases bV.mp hx with rfl|hx
 ·exact h
 ·exact g x hx
theorem cy.app{n:Nat}{ds es:List Hh}(h:cy n ds)(g:cy n es):cy n (ds++es):=fun x hx=>(kd.mp hx).elim (h x) (g x)
theorem cy.cut{n:Nat}{ds:List Hh}(h:cy n ds)(lo hi:Option Int):cy n (cutD ds lo hi):=fun x hx=>h x (List.mem_of_mem_drop (List.mem_of_mem_take hx))
def del(H:Hp)(p:Addr):Hp:=fun b=>if b=p then none else H b
theorem fi{H:Hp}{p b:Addr}{o:HO}:del H p b=some o↔b≠p/\H b=some o:=by
 unfold del;by_cases e:b=p
 ·rw[aK e];simp[e]
 ·rw[aI e];simp[e]
theorem cx{H:Hp}{p:Addr}:ai (del H p) H:=fun b o e=>(fi.mp e).2
def SD(p:Addr)(H H':Hp):Prop:=ai (del H p) (del H' p)
theorem ai.sd{p:Addr}(s:ai H H'):SD p H H':=fun b o e=>fi.mpr ⟨(fi.mp e).1,s _ _ (fi.mp e).2⟩
theorem Nw.del{p q:Addr}{o:HO}(h:Nw H H' q o)(hp:H p≠none):L2.del H' p q=some o:=fi.mpr ⟨fun e=>hp (e▸h.no),h.at'⟩
structure AD(K:He)(p:Addr)(n:Nat)(H:Hp)(v:V)(d:Hh):Prop where
 rd:RD K (del H p) v d
 ok:cY n d
structure cI(K:He)(p:Addr)(n:Nat)(H:Hp)(vs:List V)(ds:List Hh):Prop where
 rds:au K (del H p) vs ds
 ok:cy n ds
variable {p:Addr}{n m:Nat}{v:V}{vs:List V}{d:Hh}{ds es:List Hh}
theorem AD.sx(h:AD K p n H v d):RD K H v d:=RD.mono cx _ h.rd
theorem AD.go(h:AD K p n H v d)(s:SD p H H'):AD K p n H' v d:=⟨RD.mono s _ h.rd,h.ok⟩
theorem cI.go(h:cI K p n H vs ds)(s:SD p H H'):cI K p n H' vs ds:=⟨au.mono s _ h.rds,h.ok⟩
theorem AD.le(h:AD K p n H v d)(l:n<=m):AD K p m H v d:=⟨h.rd,h.ok.le l⟩
theorem cI.nil:cI K p n H [] []:=⟨fz,.nil⟩
theorem cI.cons(h:AD K p n H v d)(g:cI K p n H vs ds):cI K p n H (v::vs) (d::ds):=⟨eh h.rd g.rds,.cons h.ok g.ok⟩
theorem cI.one(h:AD K p n H v d):cI K p n H [v] [d]:=.cons h .nil
theorem AD.int(i:Int):AD K p n H (.int i) (.int i):=⟨kL i,.int i⟩
theorem AD.bl(i:Bool):AD K p n H (.bl i) (.bool i):=⟨sv i,.bl i⟩
theorem AD.dJ{q:Addr}(h:cI K p n H vs ds)(w:Nw H H' q (.tup vs))(hp:H p≠none):AD K p (n+1) H' (.ref q) (.tuple ds):=⟨sr (aH.of (w.del hp)) (h.go w.same.sd).rds,h.ok.tup⟩
theorem AD.nY{q:Addr}(h:cI K p n H vs ds)(w:Nw H H' q (.lst vs))(hp:H p≠none):AD K p (n+1) H' (.ref q) (.list ds):=⟨su (aq.of (w.del hp)) (h.go w.same.sd).rds,h.ok.lst⟩
theorem AD.gC(h:AD K p (n+1) H v (.tuple ds)):∃a xs,v= .ref a/\aH K (del H p) a xs/\cI K p n H xs ds:=by obtain⟨a,xs,e,h1,h2⟩:=h.rd.ck;exact⟨a,xs,e,h1,h2,h.ok.ck⟩
theorem cI.get(h:cI K p n H vs ds)(i:Nat)(e:ds[i]? =some d):∃x,vs[i]? =some x/\AD K p n H x d:=by obtain⟨x,e1,r⟩:=h.rds.get i e;exact⟨x,e1,r,h.ok d (iQ e)⟩
end
inductive x9(K:He)(x:V)(y:V)(H:Hp)(Q:VK):Prop |mk (p:_)(n:_)(ds:_)(es:_)(h0:H p≠none)(h1:AD K p (n+1) H x (.tuple ds))(h2:AD K p (n+1) H y (.tuple es))(h3:ds.length+es.length<=sizeLine)(h4:∀v H',ai H H'->AD K p (n+1) H' v (.tuple (ds++es))->Q v H'):x9 K x y H Q
def zS(K:He):R2:=fun x y H Q=>x9 K x y H Q
section
variable {X:Cx}
theorem fj(K:He)(hK:X.K=K):bc X (binaryOp .Add) (zS K):=by
 subst hK;intro pins s σ H x y v u Q I rx ry h;obtain⟨p,n,ds,es,hp,hx,hy,hz,q⟩:=h;obtain⟨a,xs,rfl,ha,dN⟩:=hx.gC;obtain⟨b,ys,rfl,hb,jt⟩:=hy.gC;cases rx;cases ry;obtain⟨its,r1,p1,_⟩:=I.tuple (ha.go cx);obtain⟨gb,r2,p2,_⟩:=I.tuple (hb.go cx);have l1:=dN.rds.length;have l2:=jt.rds.length;by_cases e0:xs=[]
 · subst e0
   have d0:ds=[]:=List.length_eq_zero_iff.mp (by rw[<-l1];rfl);subst d0;have i0:its=[]:=r1.o4.mpr rfl;subst i0;obtain⟨⟨cls,dd,data,sl⟩,ho,hc,n,hd⟩:=id p1;obtain⟨⟨vj,iG,data2,ib⟩,fh,cC,n2,hd2⟩:=id p2;simp only at hc hd cC hd2;subst hc hd cC hd2;exact concat_meets ⟨_,ho,rfl⟩ ⟨_,fh,rfl⟩ noFill_tuple_add seq_tuple_add xJ xM (xN _ _) (tuple_addW0 a b _ gb.toArray n n2 dd iG sl ib (by simp)) ⟨ho,fh,⟨.ref b,H,I,rfl,q _ _ (ai.refl H) hy⟩⟩
 · refine HT.Fq p1 p2 (fun z=>e0 (r1.o4.mp z)) (fun z=>⟨.ref a,H,I,rfl,?_⟩) (fun z=>?_) (by rw[<-r1.length,<-r2.length,l1,l2];exact hz)
   · have e1:ys=[]:=r2.o4.mp z
     have d1:es=[]:=List.length_eq_zero_iff.mp (by rw[<-l2,e1];rfl);subst d1;exact q _ _ (ai.refl H) (by rw[gv];exact hx)
   · have hf:H s.heap.objs.size=none:=I.hok.fresh (aJ _)
     have nw:Nw H (upd H s.heap.objs.size (.tup (xs++ys))) s.heap.objs.size (.tup (xs++ys)):=.of hf;refine⟨.ref s.heap.objs.size,_,I.laid (t':=s.toks) (o:=.tup (xs++ys)) (fun b ob q=>aY _ q) (aJ _) ?_,rfl,q _ _ nw.same ?_⟩
     ·exact⟨by rw[dc,l1,l2];exact hz,_,r1.append r2,IsTup.new _ _⟩
     ·exact AD.dJ ⟨dN.rds.append jt.rds,dN.ok.app jt.ok⟩ nw hp
end
end L2
namespace HT
open PySem PySem.Spec PyProof.Rows
section
variable {prog:Hg}{w:World}{A:Hi}{E:Value->Hf->Prop}{s:Hf}
theorem Es{t sl:Addr}{items:Array Value}{vl vu:Value}{lo hi:Option Int}{Q:Value->Hf->Prop}(ht:IsTup s.heap t items)(hs:s.heap.IsSliceOf sl vl vu .none)(pl:IsPart vl lo)(pu:IsPart vu hi) (hw:az items.size 0 lo=0/\az items.size items.size hi=items.size)(h:Q (.ref t) s):wpAny (model prog w) A (getItem (.ref t) (.ref sl)) Q E s:=by
  obtain⟨os,gK,lG,jx⟩:=id hs;have oY:s.TypeIs (.ref sl) "slice":=⟨os,gK,lG⟩;unfold getItem
  try with_reducible refine dB ?_
  first|refine ae (aE ?_)|skip
  refine ae (wpAny_sequenceKey ht.typeIs (by decide) ?_);refine ae (jX (name:=Str.ofString "__getitem__") ht.typeIs k7 (jW k7 ht.typeIs entry_tuple_getitem ?_ (args_tuple_getitem _ _)));show wpAny _ _ (Builtin.Tuple.tupleItemsOf (.ref t)>>=_) _ _ s;refine ae (tupleItemsOf_ ht ?_);refine ae (me oY ?_);rw[aK (by decide)];refine ae (rz hs pl pu ?_);have Cq:(((az items.size 0 lo:Nat):Int)==0&&(1:Int)==1&&(az items.size items.size hi-az items.size 0 lo)==items.size)=true:=by rw[hw.1,hw.2];simp
  show wpAny _ _ (if(((az items.size 0 lo:Nat):Int)==0&&(1:Int)==1&&(az items.size items.size hi-az items.size 0 lo)==items.size)=true then _ else _) _ _ s;rw[aK Cq];show wpAny _ _ (Builtin.Tuple.tupleIsExact (.ref t)>>=_) _ _ s;refine ae (m:=Builtin.Tuple.tupleIsExact _) (ae (me ht.typeIs (aE ?_)));rw[aK (by decide)]
  wp_walk;exact⟨_,rfl,aE h⟩
end
end HT
namespace L2
open PySem PySem.Spec PyProof.Rows
inductive wK(K:He)(x:V)(lo:Option Int)(hi:Option Int)(H:Hp)(Q:VK):Prop |mk (p:_)(n:_)(ds:_)(h0:H p≠none)(h1:AD K p (n+1) H x (.tuple ds))(h2:∀v H',ai H H'->AD K p (n+1) H' v (.tuple (cutD ds lo hi))->Q v H'):wK K x lo hi H Q
def zK(K:He):V->Option Int->Option Int->Hp->VK->Prop:=fun x lo hi H Q=>wK K x lo hi H Q
theorem F8{ds:List Hh}{lo hi:Option Int}(h1:HT.az ds.length 0 lo=0)(h2:HT.az ds.length ds.length hi=ds.length):cutD ds lo hi=ds:=by unfold cutD;rw[h1,h2];simp
section
variable {X:Cx}
theorem eW(K:He)(hK:X.K=K):jN X (zK K):=by
 subst hK;intro pins s σ H x v vl vu lo hi sl Q I rx hs pl pu h;obtain⟨p,n,ds,hp,hx,q⟩:=h;obtain⟨a,xs,rfl,ha,dN⟩:=hx.gC;have uG:=ha.go cx;have l1:=dN.rds.length;by_cases hw:HT.az xs.length 0 lo=0/\HT.az xs.length xs.length hi=xs.length
 · cases rx
   obtain⟨its,r,ht,hz⟩:=I.tuple uG;have hlen:its.toArray.size=xs.length:=by rw[bC];exact r.length.symm
   refine⟨"tuple",_,k7.lookup,ht.typeIs,?_⟩;refine HT.Es ht hs pl pu (by rw[hlen];exact hw) ⟨.ref a,H,I,rfl,q _ _ (ai.refl H) ?_⟩;rw[F8 (by rw[<-l1];exact hw.1) (by rw[<-l1];exact hw.2)];exact hx
 · refine rA pins s σ H _ v vl vu lo hi sl Q I rx hs pl pu ⟨a,xs,rfl,uG,hw,fun r hr=>?_⟩
   have nw:Nw H (upd H r (.tup (dU xs lo hi))) r (.tup (dU xs lo hi)):=.of hr;exact q _ _ nw.same (AD.dJ ⟨dN.rds.cut lo hi,dN.ok.cut lo hi⟩ nw hp)
end
def fr(H H':Hp):Hp:=fun b=>match H b with|none=>H' b|some _=>none
theorem eK{H H':Hp}{b:Addr}{o:HO}:fr H H' b=some o↔H b=none/\H' b=some o:=by unfold fr;cases H b<;>simp
theorem ED{H H':Hp}:ai (fr H H') H':=fun b o e=>(eK.mp e).2
theorem EF{H H':Hp}{p:Addr}(hp:H p≠none):ai (fr H H') (del H' p):=fun b o e=>fi.mpr ⟨fun z=>hp (z▸(eK.mp e).1),(eK.mp e).2⟩
theorem p8{H H1 H2:Hp}(s:ai H1 H2):ai (fr H H1) (fr H H2):=fun b o e=>eK.mpr ⟨(eK.mp e).1,s _ _ (eK.mp e).2⟩
theorem EE{H H1 H2:Hp}(s:ai H H1):ai (fr H1 H2) (fr H H2):=fun b o e=>eK.mpr ⟨s.free (eK.mp e).1,(eK.mp e).2⟩
def iX(K:He)(d:Hh):TE:=fun _ H Q=>∀v H',ai H H'->RD K (fr H H') v d->Q v H'
def yM(K:He)(ds:List Hh):TA:=fun _ H Q=>∀vs H',ai H H'->au K (fr H H') vs ds->Q vs H'
def jn(f:Expr->Option Hh):List Expr->Option (List Hh) |[]=>some [] |e::es=>match f e,jn f es with |some d,some ds=>some (d::ds) |_,_=>none
def lit:Nat->Expr->Option Hh
  |0,_=>none |_+1,.Constant .none _ _=>some .none |_+1,.Constant (.bool b) _ _=>some (.bool b) |_+1,.Constant (.int i) _ _=>some (.int i) |_+1,.Constant (.str x) _ _=>some (.str x) |n+1,.Tuple es _ _=>match jn (lit n) es with |some ds=>if ds.length<=1000 then some (.tuple ds)else none |none=>none
  |n+1,.List es _=>match jn (lit n) es with |some ds=>if ds.length<=1000 then some (.list ds)else none |none=>none
  |n+1,.UnaryOp .USub a _=>match lit n a with |some (.int i)=>some (.int (-i)) |_=>none
  |n+1,.BinOp a .Pow b _=>match lit n a,lit n b with |some (.int i),some (.int j)=>if 0<=j/\j<=1000000/\i.natAbs<2^64 then some (.int (i^j.toNat))else none |_,_=>none
  |_,_=>none
section
variable {X:Cx}
theorem zb{e:Expr}{es:List Expr}{env:Env}(h:∀a b,e≠ .Starred a b):starEach (e::es) env=(false,eval e env)::starEach es env:=by cases e<;>first|rfl|exact absurd rfl (h _ _)
theorem BZ{n:Nat}{e:Expr}{d:Hh}(h:lit n e=some d):∀a b,e≠ .Starred a b:=by intro a b z;subst z;cases n<;>simp[lit]at h
theorem sZ(K:He)(f:Expr->Option Hh)(hp:∀e d,f e=some d->∀a b,e≠ .Starred a b)(hf:∀e d,f e=some d->PE X e (iX K d)):∀(es:List Expr)(ds:List Hh),jn f es=some ds->PA X es (yM K ds)
  |[],ds,h=>by cases h;intro pos pins s σ H Q I hq;exact af pos pins s σ H Q I (hq [] H (ai.refl H) fz) |e::es,ds,h=>by
    rw[jn]at h;split at h
    · rename_i d lP e1 e2
      cases h;intro pos pins s σ H Q I hq;refine aa (hf e d e1) (sZ K f hp hf es lP e2) (zb (hp e d e1)) pos pins s σ H Q I ?_;intro v H1 s1 r1 vs H2 s2 r2;exact hq (v::vs) H2 (s1.trans s2) (eh (RD.mono (p8 s2) _ r1) (au.mono (EE s1) _ r2))
    ·cases h
theorem jd(K:He)(hK:X.K=K):∀(n:Nat)(e:Expr)(d:Hh),lit n e=some d->PE X e (iX K d)
  |0,e,d,h=>by simp[lit]at h |n+1,e,d,h=>by
    have hA:=sZ (X:=X) K (lit n) (fun e d h=>BZ h) (fun e d h=>jd K hK n e d h);unfold lit at h;split at h
    case h_1=>cases‹Nat.succ n=0›
    case h_2=>cases h;intro pins s σ H Q I hq;exact sR pins s σ H Q I (hq .ax H (ai.refl H) zG)
    case h_3=>cases h;intro pins s σ H Q I hq;exact dw pins s σ H Q I (hq (.bl _) H (ai.refl H) (sv _))
    case h_4=>cases h;intro pins s σ H Q I hq;exact aj pins s σ H Q I (hq (.int _) H (ai.refl H) (kL _))
    case h_5=>cases h;intro pins s σ H Q I hq;exact cL pins s σ H Q I (hq (.str _) H (ai.refl H) (kK _))
    case h_6=>
     rename_i m es _ _ hm;cases hm;split at h
     · rename_i ds e1
       by_cases hl:ds.length<=1000
       · rw[aK hl]at h
         cases h;intro pins s σ H Q I hq;refine fB (hA es ds e1) pins s σ H Q I ?_;intro vs H1 s1 r1;refine⟨by rw[r1.length];exact dr hl (by decide),fun p H' nw=>?_⟩;refine hq _ _ (s1.trans nw.same) (sr (aH.of (eK.mpr ⟨s1.free nw.no,nw.at'⟩)) (au.mono (p8 nw.same) _ r1))
       ·rw[aI hl]at h;cases h
     ·cases h
    case h_7=>
     rename_i m es _ hm;cases hm;split at h
     · rename_i ds e1
       by_cases hl:ds.length<=1000
       · rw[aK hl]at h
         cases h;intro pins s σ H Q I hq;refine dG (hA es ds e1) pins s σ H Q I ?_;intro vs H1 s1 r1;refine⟨by rw[r1.length];exact dr hl (by decide),fun p H' nw=>?_⟩;refine hq _ _ (s1.trans nw.same) (su (aq.of (eK.mpr ⟨s1.free nw.no,nw.at'⟩)) (au.mono (p8 nw.same) _ r1))
       ·rw[aI hl]at h;cases h
     ·cases h
    case h_8=>
     rename_i m a _ hm;cases hm;split at h
     · rename_i i e1
       cases h;intro pins s σ H Q I hq;refine kQ ko (jd K hK n a _ e1) pins s σ H Q I ?_;intro v H1 s1 r1;exact⟨i,r1.int_inv,hq _ _ s1 (kL _)⟩
     ·cases h
    case h_9=>
     rename_i m a b _ hm;cases hm;split at h
     · rename_i i j e1 e2
       by_cases hc:0<=j/\j<=1000000/\i.natAbs<2^64
       · rw[aK hc]at h
         cases h;intro pins s σ H Q I hq;refine aQ kR (jd K hK n a _ e1) (jd K hK n b _ e2) pins s σ H Q I ?_;intro v H1 s1 r1 v2 H2 s2 r2;exact⟨i,j,r1.int_inv,r2.int_inv,hc,hq _ _ (s1.trans s2) (kL _)⟩
       ·rw[aI hc]at h;cases h
     ·cases h
    case h_10=>cases h
end
end L2
namespace L2
theorem eO{α:Type}{xs:List α}{i:Int}{v:α}(h0:0<=i)(h:xs[i.toNat]? =some v):fk xs i=some v:=by have hl:i.toNat<xs.length:=(fS.mp h).1;unfold fk g9;rw[aK h0,aK (by omega)];exact h
end L2
namespace L2
open PySem PySem.Spec PyProof.Rows
theorem pB(ds:List Hh)(lo hi:Option Int):(cutD ds lo hi).length<=ds.length:=by unfold cutD;rw[iU,xT];omega
theorem eg(n:Nat)(h:n<=1000):n<=sizeLine:=dr h (by decide)
structure pP(X:Cx)(e:Expr)(t:TE):Prop where out:PE X e t
theorem sT{X:Cx}(K:He)(hK:X.K=K)(n:Nat)(e:Expr)(d:Hh)(h:lit n e=some d):pP X e (iX K d):=⟨jd K hK n e d h⟩
section
variable {X:Cx}{p pos pos':Pos}{a b e:Expr}{es:List Expr}{ta tb te:TE}{t:TA}{x:Str}
theorem px(K:He)(ha:PE X a ta)(hb:PE X b tb)(hK:X.K=K:=by rfl)(hp:vL b:=by exact fun _ _=>rfl):PE X (.Subscript a b pos) (ku (fun x y H Q=>nN K x y H Q\/nM K x y H Q) ta tb):=Ah (Cf K hK) ha hb hp
theorem eD(K:He)(B:bp X.mg)(ha:PA X (e::es) t)(hK:X.K=K:=by rfl)(hg:Gl X "isinstance":=by rfl)(he:starEach (e::es) X.env=(false,eval e X.env)::starEach es X.env:=by rfl)(bA:(backTo pos (starEach es X.env)).any (·.1)=false:=by rfl):PE X (.Call (.Name "isinstance" p) (e::es) [] pos) (kx (fun xs H Q=>nP K xs H Q\/nO K xs H Q) t):=bF (Cg K hK) hg (B.at "isinstance") dZ ha (by decide) (by decide) he bA
theorem dy(K:He)(B:bp X.mg)(ha:PA X (e::es) t)(hK:X.K=K:=by rfl)(hg:Gl X "len":=by rfl)(he:starEach (e::es) X.env=(false,eval e X.env)::starEach es X.env:=by rfl)(bA:(backTo pos (starEach es X.env)).any (·.1)=false:=by rfl):PE X (.Call (.Name "len" p) (e::es) [] pos) (kx (fun xs H Q=>∃p ys,xs=[.ref p]/\(aq K H p ys\/aH K H p ys)/\Q (.int ys.length) H) t):=bF (C3 K hK) hg (B.at "len") PySem.boot_len ha (by decide) (by decide) he bA
theorem pS(i:Nat)(hN:X.N.Nodup)(he:PE X e te)(hi:X.N[i]? =some x:=by rfl)(hx:Loc X.env.scope x:=by first|exact Or.inl rfl|exact Or.inr rfl)(hs:swapsWith e (some (.Name x pos')) pos.line X.env=pure false:=by rfl)(hf:X.fn x=true\/X.env.scope.names.lookup x=some .local:=by first|exact .inl rfl|exact .inr rfl|assumption):PS X (.Assign [.Name x pos'] e pos) (mL te (dR i)):=nR hN hi hx he hs hf
theorem bK(i:Nat)(hN:X.N.Nodup)(hi:X.N[i]? =some x:=by rfl)(hx:Loc X.env.scope x:=by first|exact Or.inl rfl|exact Or.inr rfl)(hf:X.fn x=true\/X.env.scope.names.lookup x=some .local:=by first|exact .inl rfl|exact .inr rfl|assumption):PG X (.Name x pos) (dR i):=A8 hN hi hx hf
theorem iu (a:Str):[a].Nodup:=by simp
theorem ir{a b:Str}(h:(a==b)=false):[a,b].Nodup:=by
 have:a≠b:=fun z=>by rw[z,beq_self_eq_true]at h;cases h
 simp[this]
theorem cm{n:Nat}(h:Nat.ble n 1000=true):n<=sizeLine:=eg n (mB h)
end
end L2
namespace L2
open PySem PySem.Spec PyProof.Rows
def GV(mg:Str->Option Value)(x:Str)(v:V):Prop:=∃u,mg x=some u/\RelV v u
def GT(K:He)(mg:Str->Option Value)(x:Str)(vs:List V):Prop:=∃a,GV mg x (.ref a)/\∀H,aH K H a vs
theorem cn{X:Cx}{x:Str}{v:V}{pos:Pos}(hg:Gl X x)(h:GV X.mg x v)(hd:(x==("__debug__":Str))=false:=by decide):PE X (.Name x pos) (tC v):=by obtain⟨u,hm,r⟩:=h;exact Aj hg hm r hd
section
variable {K:He}{mg:Str->Option Value}{h:Heap}
theorem iD{x:Str}{i:Int}{t:Tok}(X:K.In h)(G:h.Ns mainGlobals mg)(a:PySem.W.nsIn K mainGlobals x=some (some (.int i t))):GV mg x (.int i):=⟨_,iP X G a,t,rfl⟩
theorem uO{x:Str}{vs:List V}{b:Addr}{its:Array Value}{n:Nat}{od:Option Addr}{bL:Array (Option Value)}(X:K.In h)(G:h.Ns mainGlobals mg)(a:PySem.W.nsIn K mainGlobals x=some (some (.ref b))) (l:K.lookup b=some ⟨.type "tuple",od,.seq its n,bL⟩)(hz:its.size<=sizeLine)(r:Vals vs its.toList):GT K mg x vs:=⟨b,⟨_,iP X G a,rfl⟩,fun H=>.inr ⟨_,its,n,l,rfl,rfl,hz,r⟩⟩
end
section
variable {X:Cx}
theorem tq(K:He)(h:X.K=K):bc X (compareOp .NotIn) (kM K true):=by subst h;exact Az
theorem uf(K:He)(h:X.K=K):bc X (compareOp .In) (kM K false):=by subst h;exact AF
end
theorem Fd{J:It}{xs:List V}{bs:List Bool}{te:TE}{Q:VK}{D:Addr}{H H0:Hp}(rest:St)(nw:Nw H H0 D (.lst []))(hl:xs.length=bs.length)(hz:xs.length<=1000) (go:∀i x H2,xs[i]? =some x->ai H H2->J.go i H2/\∀y H3,J.yld i H2 y H3->H3=H2/\y=x)(stop:∀H2,ai H H2->J.stop xs.length H2) (hs:∀(i:Nat)(x:V)(b:Bool)(H2:Hp)(Q':VK),xs[i]? =some x->bs[i]? =some b->ai H H2->(∀H3,ai H2 H3->Q' (.bl b) H3)->te (some x::rest) H2 Q') (hq:∀H',ai H H'->H' D=some (.lst (bs.map V.bl))->Q (.ref D) H'):gp J (dR 0) fu te Q D (none::rest) H0:=by
  have hD:=nw.no;refine lQ xs.length (fun i σ H2=>ai H H2/\H2 D=some (.lst ((bs.take i).map V.bl))/\∃v,σ=v::rest) ?_ ?_ ?_
  ·exact⟨nw.same,nw.at',none,rfl⟩
  · rintro i σ H2 hi ⟨s2,d2,v,rfl⟩
    have lD:i<bs.length:=by rw[<-hl];exact hi
    have ex:=e9 hi;have eb:=e9 lD;obtain⟨g1,g2⟩:=go i _ H2 ex s2;refine⟨g1,fun y H3 hy=>?_⟩;obtain⟨rfl,rfl⟩:=g2 y H3 hy;refine mH ?_;refine hs i _ _ _ _ ex eb s2 fun H4 s4=>?_;refine⟨_,s4 _ _ d2,?_,xs.length-(i+1),by omega,rfl,by omega,fun b o e=>?_,?_,_,rfl⟩
    · rw[aZ,iU]
      have:(1000:Nat)<sizeLine:=by decide
      omega
    ·rw[aV (eF e hD)];exact s4 b o (s2 b o e)
    ·rw[br,List.take_succ,eb,hJ];rfl
  · rintro σ H2 ⟨s2,d2,v,rfl⟩
    refine⟨stop H2 s2,hq H2 s2 ?_⟩;rw[d2,hl,xQ]
theorem lR{K:He}{a:Addr}{xs:List V}{bs:List Bool}{te:TE}{Q:VK}{D:Addr}{H H0:Hp}(rest:St)(hx:aH K H a xs)(nw:Nw H H0 D (.lst []))(hl:xs.length=bs.length)(hz:xs.length<=1000) (hs:∀(i:Nat)(x:V)(b:Bool)(H2:Hp)(Q':VK),xs[i]? =some x->bs[i]? =some b->ai H H2->(∀H3,ai H2 H3->Q' (.bl b) H3)->te (some x::rest) H2 Q') (hq:∀H',ai H H'->H' D=some (.lst (bs.map V.bl))->Q (.ref D) H'):gp (m7 K a) (dR 0) fu te Q D (none::rest) H0:=Fd rest nw hl hz (fun i x H2 e s=>⟨⟨xs,x,hx.go s,e⟩,fun y H3 ⟨e3,y3⟩=>⟨e3,by have:=y3 _ (hx.go s);rw[e]at this;exact(cu this).symm⟩⟩) (fun H2 s=>⟨xs,hx.go s,aJ _⟩) hs hq
theorem l9{ds:List Hh}{f:Hh->Bool}{i:Nat}{b:Bool}(h:(ds.map f)[i]? =some b):∃d,ds[i]? =some d/\f d=b:=by rw[du]at h;cases e:ds[i]? with |none=>rw[e]at h;cases h |some d=>rw[e]at h;exact⟨d,rfl,cu h⟩
theorem all_map{ds:List Hh}{f:Hh->Bool}:(ds.map f).all id=ds.all f:=by rw[List.all_map];rfl
section
variable {X:Cx}
inductive x8(K:He)(x:V)(y:V)(H:Hp)(Q:VK):Prop |mk (a:_)(b:_)(xs:_)(ys:_)(h0:x= .ref a)(h1:y= .ref b)(h2:aq K H a xs)(h3:aq K H b ys)(h4:xs.length+ys.length<=sizeLine)(h5:∀p H',Nw H H' p (.lst (xs++ys))->Q (.ref p) H'):x8 K x y H Q
def zR(K:He):R2:=fun x y H Q=>x8 K x y H Q
theorem vp(K:He)(hK:X.K=K):bc X (binaryOp .Add) (zR K):=by
 subst hK;intro pins s σ H x y v u Q I rx ry h;obtain⟨a,b,xs,ys,rfl,rfl,ha,hb,hz,q⟩:=h;cases rx;cases ry;obtain⟨its,r1,p1,_⟩:=I.list ha;obtain⟨gb,r2,p2,_⟩:=I.list hb;obtain⟨⟨cls,dd,data,sl⟩,n,ho,hc,GO,hd⟩:=id p1;obtain⟨⟨vj,iG,data2,ib⟩,n2,fh,cC,GN,hd2⟩:=id p2;simp only at hc hd cC hd2;subst hc hd cC hd2;have e:its.toArray++gb.toArray=(its++gb).toArray:=by simp
 refine concat_meets ⟨_,ho,rfl⟩ ⟨_,fh,rfl⟩ noFill_list_add seq_list_add PySem.F.slot_list_add PySem.F.entry_list_add (PySem.F.args_list_add_2 _ _) (list_addW a b its.toArray gb.toArray n n2 dd iG sl ib (by rw[bC,bC,<-r1.length,<-r2.length];exact hz)) ⟨ho,fh,?_⟩;rw[e];have nw:Nw H (upd H s.heap.objs.size (.lst (xs++ys))) s.heap.objs.size (.lst (xs++ys)):=.of (I.hok.fresh (aJ _));refine⟨.ref s.heap.objs.size,_,I.laid (t':=s.toks) (o:=.lst (xs++ys)) (fun b ob q=>aY _ q) (aJ _) ?_,rfl,q _ _ nw⟩;exact⟨by rw[dc];exact hz,_,0,r1.append r2,bP _ rfl⟩
open Classical in
end
end L2
namespace L2
end L2
namespace L2
open PySem PySem.Spec PyProof.Rows
def dY(b:Bool)(h:Heap)(it l:Addr)(k:Nat):Prop:=match b with|true=>h.IsListIter it l k|false=>h.IsTupleIter it l k
def cH(b:Bool)(h:Heap)(l:Addr)(xs:Array Value):Prop:=match b with|true=>h.IsList l xs|false=>h.IsTuple l xs
def jH(b:Bool):String:=match b with|true=>"list_iterator"|false=>"tuple_iterator"
theorem dY.to{b:Bool}{h g:Heap}{it l:Addr}{k:Nat}(x:dY b h it l k)(e:∀o,h.get? it=some o->g.get? it=some o):dY b g it l k:=by cases b<;>(obtain⟨o,ho,r⟩:=x;exact⟨o,e o ho,r⟩)
theorem cH.to{b:Bool}{h g:Heap}{l:Addr}{xs:Array Value}(x:cH b h l xs)(e:∀o,h.get? l=some o->g.get? l=some o):cH b g l xs:=by cases b<;>(obtain⟨o,ho,r⟩:=x;exact⟨o,e o ho,r⟩)
theorem dY.ob{b:Bool}{h:Heap}{it l:Addr}{k:Nat}(x:dY b h it l k):∃o,h.get? it=some o/\o.cls= .type (jH b)/\∀v,o.data≠ .cell v:=by cases b<;>(obtain⟨o,ho,c,d⟩:=x;exact⟨o,ho,c,fun v z=>by rw[d]at z;cases z⟩)
section
variable {prog:Hg}{w:World}{A:Hi}{E:Value->Hf->Prop}{s:Hf}
theorem tD{b:Bool}{l:Addr}{xs:Array Value}{Q:Value->Hf->Prop}(x:cH b s.heap l xs) (q:Q (.ref s.heap.objs.size) {s with heap:=s.heap.push {cls:=.type (jH b),data:=.fields #[.ref l,.int 0 0]}}):wpAny (model prog w) A (pyIter (.ref l)) Q E s:=by
  cases b
  ·exact wpAny_pyIter_tuple x q
  ·exact wpAny_pyIter_list x q
theorem Bn{it t:Addr}{k:Nat}{ts:Array Value}{x:Value}{Q:Value->Hf->Prop}(hi:s.heap.IsTupleIter it t k)(ht:s.heap.IsTuple t ts)(hx:ts[k]? =some x) (q:∀g,g.IsTupleIter it t (k+1)->Heap.SameBut it s.heap g->Q x {s with heap:=g}):wpAny (model prog w) A (Builtin.SmallTypes.nextOf (.ref it)) Q E s:=by obtain⟨oi,fg,ci,di⟩:=id hi;obtain⟨ot,oE,_,nt,dt⟩:=ht;unfold Builtin.SmallTypes.nextOf;refine ae (jX (name:=Str.ofString "__next__") hi.typeIs qd (jW qd hi.typeIs Gd ?_ (Ge _)));show wpAny _ _ (field (.ref it) 0>>=_) _ _ s;refine ae (cJ fg di (x:=.ref t) rfl ?_);show wpAny _ _ (if(Value.ref t==Value.none)=true then _ else _) _ _ s;rw[aI (show¬((Value.ref t==Value.none)=true)from cj)];show wpAny _ _ (field (.ref it) 1>>=_) _ _ s;refine ae (cJ fg di (x:=.int k 0) rfl ?_);show wpAny _ _ (seqItems? (.ref t)>>=_) _ _ s;refine ae (gY oE dt ?_);simp only[Int.toNat_natCast,hx];refine ae (mi fg di (by simp) (aE ⟨x,rfl,aE (q _ ?_ (Heap.SameBut.update ..))⟩));exact⟨_,qt _ fg (xP (mw di _)),(Obj.cls_mapFields ..).trans ci,by rw[mw di];simp[rawInt]⟩
theorem EU{it t:Addr}{k:Nat}{ts:Array Value}{Q:Value->Hf->Prop}(hh:A.handled=none)(hi:s.heap.IsTupleIter it t k)(ht:s.heap.IsTuple t ts)(hx:ts[k]? =none) (q:∀g e,Heap.ExtBut it s.heap g->(∃o,g.get? e=some o/\o.cls= .type "StopIteration")->E (.ref e) {s with heap:=g}):wpAny (model prog w) A (Builtin.SmallTypes.nextOf (.ref it)) Q E s:=by
  obtain⟨oi,fg,ci,di⟩:=id hi;obtain⟨ot,oE,_,nt,dt⟩:=ht;unfold Builtin.SmallTypes.nextOf;refine ae (jX (name:=Str.ofString "__next__") hi.typeIs qd (jW qd hi.typeIs Gd ?_ (Ge _)));show wpAny _ _ (field (.ref it) 0>>=_) _ _ s;refine ae (cJ fg di (x:=.ref t) rfl ?_);show wpAny _ _ (if(Value.ref t==Value.none)=true then _ else _) _ _ s;rw[aI (show¬((Value.ref t==Value.none)=true)from cj)];show wpAny _ _ (field (.ref it) 1>>=_) _ _ s;refine ae (cJ fg di (x:=.int k 0) rfl ?_);show wpAny _ _ (seqItems? (.ref t)>>=_) _ _ s;refine ae (gY oE dt ?_);simp only[Int.toNat_natCast,hx];refine ae (wpAny_rule (ae (mi fg di (by simp) ?_)));show wpAny _ _ (newExc (.type "StopIteration") []>>=_) _ _ _;refine ae ?_;simp only[newExc,newTuple];refine ae (gq ?_ (by size_fits));refine ae (m:=firstArgMember _ _) (wpAny_of_eq (a:=Value.none) (by first|rfl|(simp only[firstArgMember];rfl)) ?_);refine gq ?_ (by size_fits);simp only[raiseNew];refine ae (wpAny_handled ?_)
  first|rw[show A.in1.handled=none from hh]|rw[hh]
  exact ae (aE (wpAny_throw (q _ _ (((Heap.SameBut.update ..).extBut.push _).push _) ⟨_,bP _ rfl,rfl⟩)))
theorem nX{b:Bool}{it l:Addr}{k:Nat}{xs:Array Value}{x:Value}{Q:Value->Hf->Prop}(hi:dY b s.heap it l k)(hl:cH b s.heap l xs)(hx:xs[k]? =some x) (q:∀g,dY b g it l (k+1)->Heap.SameBut it s.heap g->Q x {s with heap:=g}):wpAny (model prog w) A (Builtin.SmallTypes.nextOf (.ref it)) Q E s:=by
  cases b
  ·exact Bn hi hl hx q
  ·exact wpAny_nextOf_list_item hi hl hx q
theorem va{b:Bool}{it l:Addr}{k:Nat}{xs:Array Value}{Q:Value->Hf->Prop}(hh:A.handled=none)(hi:dY b s.heap it l k)(hl:cH b s.heap l xs)(hx:xs[k]? =none) (q:∀g e,Heap.ExtBut it s.heap g->(∃o,g.get? e=some o/\o.cls= .type "StopIteration")->E (.ref e) {s with heap:=g}):wpAny (model prog w) A (Builtin.SmallTypes.nextOf (.ref it)) Q E s:=by
  cases b
  ·exact EU hh hi hl hx q
  ·exact wpAny_nextOf_list_end hh hi hl hx q
structure Zp(b1 b2:Bool)(h:Heap)(z TI TO i1 i2 l1 l2:Addr)(f0:Value)(k:Nat):Prop where
 zz:IsZip h z TI TO f0
 ti:IsPair h TI (.ref i1) (.ref i2)
 to:∃a b,IsPair h TO a b
 n1:dY b1 h i1 l1 k
 n2:dY b2 h i2 l2 k
theorem t6{z TI TO:Addr}{Q:Bool->Hf->Prop}(hz:IsZip s.heap z TI TO .none)(q:Q true s):wpAny (model prog w) A (Builtin.SmallTypes.ownedTupleIsFree (.ref z)) Q E s:=by unfold Builtin.SmallTypes.ownedTupleIsFree;exact ae (cJ hz rfl (x:=.none) rfl (aE q))
theorem y1{b1 b2:Bool}{z TI TO i1 i2 l1 l2:Addr}{k:Nat}{xs ys:Array Value}{x y:Value}{Q:Value->Hf->Prop}(D:ZipApart z TI TO i1 i2 l1 l2)(Z:Zp b1 b2 s.heap z TI TO i1 i2 l1 l2 .none k) (gO:cH b1 s.heap l1 xs)(fH:cH b2 s.heap l2 ys)(hx:xs[k]? =some x)(hy:ys[k]? =some y) (q:∀g,Zp b1 b2 g z TI TO i1 i2 l1 l2 (rawInt s.heap.objs.size) (k+1)->IsPair g s.heap.objs.size x y->(∀c o,c≠z->c≠TO->c≠i1->c≠i2->s.heap.get? c=some o->g.get? c=some o)->Q (.ref s.heap.objs.size) {s with heap:=g}): wpAny (model prog w) A (Builtin.«zip.__next__» ⟨[.ref z],[]⟩) (fun r s'=>∃v,r= .done (.ret v)/\Q v s') E s:=by
  obtain⟨hz,dQ,⟨a,b,eH⟩,h1,h2⟩:=Z;show wpAny _ _ (field (.ref z) 2>>=_) _ _ _;refine ae (cJ hz rfl (x:=.bool false) rfl ?_);show wpAny _ _ (field (.ref z) 3>>=_) _ _ _;refine ae (cJ hz rfl (x:=.ref TI) rfl (ae (gY dQ rfl ?_)));show wpAny _ _ (Builtin.SmallTypes.ownedTupleIsFree (.ref z)>>=_) _ _ _;refine ae (t6 hz ?_);simp only[if_true];refine ae (wpAny_rule (ae (cJ hz rfl (x:=.ref TO) rfl (ae (jU hz (by simp) fun g1 z1 e1=>?_)))));replace z1:IsZip g1 z TI TO .ellipsis:=z1;refine ae ?_;simp only[List.zipIdx_cons,List.zipIdx_nil,qs,List.forIn_nil];refine ae (ae (mj ?_));show wpAny _ _ (Builtin.SmallTypes.nextOf (.ref i1)>>=_) _ _ _;refine ae (nX (h1.to fun o e=>e1.extBut _ _ D.i1z e) (gO.to fun o e=>e1.extBut _ _ D.l1z e) hx fun g2 n1 e2=>aE ?_);have t2:IsPair g2 TO a b:=e2.extBut _ _ D.TOi1 (e1.extBut _ _ D.TOz eH);refine ae (gY t2 rfl (ae (xA t2 fun g3 t3 e3=>?_)));replace t3:IsPair g3 TO x b:=t3;refine ae (wpAny_letGo (aE ?_));refine ae (ae (mj ?_));show wpAny _ _ (Builtin.SmallTypes.nextOf (.ref i2)>>=_) _ _ _;refine ae (nX (h2.to fun o e=>e3.extBut _ _ D.TOi2.symm (e2.extBut _ _ D.i12.symm (e1.extBut _ _ D.i2z e))) (fH.to fun o e=>e3.extBut _ _ D.l2TO (e2.extBut _ _ D.l2i1 (e1.extBut _ _ D.l2z e))) hy fun g4 n2 e4=>aE ?_);have t4:IsPair g4 TO x b:=e4.extBut _ _ D.TOi2 t3;refine ae (gY t4 rfl (ae (xA t4 fun g5 t5 e5=>?_)));replace t5:IsPair g5 TO x y:=t5;refine ae (wpAny_letGo (aE (aE ?_)));refine ae (gY t5 rfl (ae (wpAny_newTuple ?_)));have sz:g5.objs.size=s.heap.objs.size:=by rw[e5.1,e4.1,e3.1,e2.1,e1.1]
  have z5:IsZip g5 z TI TO .ellipsis:=e5.extBut _ _ D.TOz.symm (e4.extBut _ _ D.i2z.symm (e3.extBut _ _ D.TOz.symm (e2.extBut _ _ D.i1z.symm z1)));have kp:∀c o,c≠z->c≠TO->c≠i1->c≠i2->s.heap.get? c=some o->g5.get? c=some o:=fun c o c1 c2 c3 c4 e=>e5.extBut _ _ c2 (e4.extBut _ _ c4 (e3.extBut _ _ c2 (e2.extBut _ _ c3 (e1.extBut _ _ c1 e))));have m1:dY b1 g5 i1 l1 (k+1):=n1.to fun o e=>e5.extBut _ _ D.TOi1.symm (e4.extBut _ _ D.i12 (e3.extBut _ _ D.TOi1.symm e));have m2:dY b2 g5 i2 l2 (k+1):=n2.to fun o e=>e5.extBut _ _ D.TOi2.symm e;have mG:z<g5.objs.size:=aU z5;show wpAny _ _ (Builtin.SmallTypes.ownedTupleHandOut (.ref z) (.ref g5.objs.size)>>=_) _ _ _;refine ae ?_;unfold Builtin.SmallTypes.ownedTupleHandOut;have z6:IsZip (g5.push {cls:=.type "tuple",data:=.seq #[x,y]}) z TI TO .ellipsis:=aY _ z5;refine ae (jU z6 (by simp) fun g7 z7 e7=>?_);replace z7:IsZip g7 z TI TO (rawInt g5.objs.size):=z7;refine jU z7 (by simp) fun g8 z8 e8=>?_;replace z8:IsZip g8 z TI TO (rawInt g5.objs.size):=z8;have up:∀c o,c≠z->g5.get? c=some o->g8.get? c=some o:=fun c o c1 e=>e8.extBut _ _ c1 (e7.extBut _ _ c1 (aY _ e));have t8:IsPair g8 g5.objs.size x y:=e8.extBut _ _ (k9 mG) (e7.extBut _ _ (k9 mG) (bP _ rfl));rw[sz]at z8 t8;refine aE ⟨_,rfl,?_⟩;show Q (.ref g5.objs.size) _;rw[sz];exact q g8 ⟨z8,up _ _ D.TIz (kp _ _ D.TIz D.TITO D.TIi1 D.TIi2 dQ),⟨_,_,up _ _ D.TOz t5⟩,m1.to fun o e=>up _ o D.i1z e,m2.to fun o e=>up _ o D.i2z e⟩ t8 fun c o c1 c2 c3 c4 e=>up c o c1 (kp c o c1 c2 c3 c4 e)
theorem y2{b1 b2:Bool}{z TI TO i1 i2 l1 l2:Addr}{k:Nat}{xs ys:Array Value}{Q:Fin->Hf->Prop}(hh:A.handled=none)(D:ZipApart z TI TO i1 i2 l1 l2)(Z:Zp b1 b2 s.heap z TI TO i1 i2 l1 l2 .none k) (gO:cH b1 s.heap l1 xs)(fH:cH b2 s.heap l2 ys)(oN:xs[k]? =none\/ys[k]? =none) (q:∀g e,(∀c o,c≠z->c≠TO->c≠i1->c≠i2->s.heap.get? c=some o->g.get? c=some o)->(∃o,g.get? e=some o/\o.cls= .type "StopIteration")->E (.ref e) {s with heap:=g}): wpAny (model prog w) A (Builtin.«zip.__next__» ⟨[.ref z],[]⟩) Q E s:=by obtain⟨hz,dQ,⟨a,b,eH⟩,h1,h2⟩:=Z;show wpAny _ _ (field (.ref z) 2>>=_) _ _ _;refine ae (cJ hz rfl (x:=.bool false) rfl ?_);show wpAny _ _ (field (.ref z) 3>>=_) _ _ _;refine ae (cJ hz rfl (x:=.ref TI) rfl (ae (gY dQ rfl ?_)));show wpAny _ _ (Builtin.SmallTypes.ownedTupleIsFree (.ref z)>>=_) _ _ _;refine ae (t6 hz ?_);simp only[if_true];refine ae (wpAny_rule (ae (cJ hz rfl (x:=.ref TO) rfl (ae (jU hz (by simp) fun g1 z1 e1=>?_)))));replace z1:IsZip g1 z TI TO .ellipsis:=z1;refine ae ?_;simp only[List.zipIdx_cons,List.zipIdx_nil,qs,List.forIn_nil];refine ae (ae (mj ?_));show wpAny _ _ (Builtin.SmallTypes.nextOf (.ref i1)>>=_) _ _ _;have j1:=h1.to fun o e=>e1.extBut _ _ D.i1z e;have k1:=gO.to fun o e=>e1.extBut _ _ D.l1z e;cases hx:xs[k]? with
  |none=>
    refine ae (va hh j1 k1 hx fun g2 er e2 ⟨oe,gL,jA⟩=>?_);have z2:IsZip g2 z TI TO .ellipsis:=e2 _ _ D.i1z.symm z1;have nz:er≠z:=fun v=>by subst v;rw[z2]at gL;cases gL;simp at jA
    refine jU z2 (by simp) fun g3 _ e3=>q g3 er (fun c o c1 _ c3 _ v=>e3.extBut _ _ c1 (e2 _ _ c3 (e1.extBut _ _ c1 v))) ⟨oe,e3.extBut _ _ nz gL,jA⟩ |some x=>
    have hy:ys[k]? =none:=by rcases oN with h|h;rw[hx]at h;cases h;exact h
    refine ae (nX j1 k1 hx fun g2 n1 e2=>aE ?_);have t2:IsPair g2 TO a b:=e2.extBut _ _ D.TOi1 (e1.extBut _ _ D.TOz eH);refine ae (gY t2 rfl (ae (xA t2 fun g3 t3 e3=>?_)));refine ae (wpAny_letGo (aE ?_));refine ae (ae (mj ?_));show wpAny _ _ (Builtin.SmallTypes.nextOf (.ref i2)>>=_) _ _ _;refine ae (va hh (h2.to fun o e=>e3.extBut _ _ D.TOi2.symm (e2.extBut _ _ D.i12.symm (e1.extBut _ _ D.i2z e))) (fH.to fun o e=>e3.extBut _ _ D.l2TO (e2.extBut _ _ D.l2i1 (e1.extBut _ _ D.l2z e))) hy fun g4 er e4 ⟨oe,gL,jA⟩=>?_);have z4:IsZip g4 z TI TO .ellipsis:=e4 _ _ D.i2z.symm (e3.extBut _ _ D.TOz.symm (e2.extBut _ _ D.i1z.symm z1));have nz:er≠z:=fun v=>by subst v;rw[z4]at gL;cases gL;simp at jA
    refine jU z4 (by simp) fun g5 _ e5=>q g5 er (fun c o c1 c2 c3 c4 v=>e5.extBut _ _ c1 (e4 _ _ c4 (e3.extBut _ _ c2 (e2.extBut _ _ c3 (e1.extBut _ _ c1 v))))) ⟨oe,e5.extBut _ _ nz gL,jA⟩
abbrev kl(b1:Bool)(h:Heap)(l1:Addr):Heap:=h.push {cls:=.type (jH b1),data:=.fields #[.ref l1,.int 0 0]}
abbrev kj(b1 b2:Bool)(h:Heap)(l1 l2:Addr):Heap:=(kl b1 h l1).push {cls:=.type (jH b2),data:=.fields #[.ref l2,.int 0 0]}
abbrev ki(b1 b2:Bool)(h:Heap)(l1 l2:Addr):Heap:=(kj b1 b2 h l1 l2).push {cls:=.type "tuple",data:=.seq #[.ref h.objs.size,.ref (kl b1 h l1).objs.size]}
abbrev kh(b1 b2:Bool)(h:Heap)(l1 l2:Addr):Heap:=(ki b1 b2 h l1 l2).push {cls:=.type "tuple",data:=.seq #[.none,.none]}
abbrev hW(b1 b2:Bool)(h:Heap)(l1 l2:Addr):Heap:=(kh b1 b2 h l1 l2).push {cls:=.type "zip",data:=.fields #[.none,.bool false,.bool false,.ref (kj b1 b2 h l1 l2).objs.size,.ref (ki b1 b2 h l1 l2).objs.size]}
theorem xZ(b1 b2:Bool)(l1 l2:Addr)(xs ys:Array Value):Meets (Builtin.«zip.__new__» ⟨[.type "zip",.ref l1,.ref l2],[]⟩) (fun _ R s=>cH b1 s.heap l1 xs/\cH b2 s.heap l2 ys/\R (.ok (.ret (.ref (kh b1 b2 s.heap l1 l2).objs.size))) {s with heap:=hW b1 b2 s.heap l1 l2}):=.of_wp fun prog w A R s h=>by
   obtain⟨hp,gg,d,tk,os⟩:=s;obtain⟨gO,fH,h⟩:=h;have uk:=sub_zip;have Ek:cH b1 (Shared.heap ⟨hp,gg,d,tk,os⟩) l1 xs:=gO;have Ej:cH b2 (Shared.heap ⟨hp.push {cls:=.type (jH b1),data:=.fields #[.ref l1,.int 0 0]},gg,d,tk,os⟩) l2 ys:=fH.to fun o e=>aY _ e
   wp_walk using tD Ek,tD Ej;exact⟨_,rfl,h⟩
theorem y4{b1 b2:Bool}{l1 l2:Addr}{xs ys:Array Value}{Q:Value->Hf->Prop}(gO:cH b1 s.heap l1 xs)(fH:cH b2 s.heap l2 ys) (q:∀g,Zp b1 b2 g (s.heap.objs.size+4) (s.heap.objs.size+2) (s.heap.objs.size+3) s.heap.objs.size (s.heap.objs.size+1) l1 l2 .none 0->(∀c o,s.heap.get? c=some o->g.get? c=some o)->Q (.ref (s.heap.objs.size+4)) {s with heap:=g}): wpAny (model prog w) A (call (.type "zip") [.ref l1,.ref l2]) Q E s:=by
  refine callType_new PySem.F.called_zip (by decide) (PySem.F.typeCall_zip_2 _ _) (PySem.F.newCall_zip_2 _ _) (fun obj=>PySem.F.args_object_init_3 obj _ _) PySem.F.entry_zip_new (xZ b1 b2 l1 l2 xs ys) ⟨gO,fH,?_⟩;have z1:(kl b1 s.heap l1).objs.size=s.heap.objs.size+1:=hU ..;have z2:(kj b1 b2 s.heap l1 l2).objs.size=s.heap.objs.size+2:=by rw[hU,z1]
  have z3:(ki b1 b2 s.heap l1 l2).objs.size=s.heap.objs.size+3:=by rw[hU,z2]
  have z4:(kh b1 b2 s.heap l1 l2).objs.size=s.heap.objs.size+4:=by rw[hU,z3]
  have g5:(hW b1 b2 s.heap l1 l2).get? (kh b1 b2 s.heap l1 l2).objs.size=some _:=bP _ rfl;have g4:(hW b1 b2 s.heap l1 l2).get? (ki b1 b2 s.heap l1 l2).objs.size=some _:=aY _ (bP _ rfl);have g3:(hW b1 b2 s.heap l1 l2).get? (kj b1 b2 s.heap l1 l2).objs.size=some _:=aY _ (aY _ (bP _ rfl));have g2:(hW b1 b2 s.heap l1 l2).get? (kl b1 s.heap l1).objs.size=some _:=aY _ (aY _ (aY _ (bP _ rfl)));have g1:(hW b1 b2 s.heap l1 l2).get? s.heap.objs.size=some _:=aY _ (aY _ (aY _ (aY _ (bP _ rfl))));show _/\_;rw[z2,z3,z4]at g5;rw[z1,z2]at g3;rw[z3]at g4;rw[z1]at g2;rw[z4];refine⟨⟨_,g5,rfl⟩,q _ ⟨g5,g3,⟨_,_,g4⟩,?_,?_⟩ fun c o e=>aY _ (aY _ (aY _ (aY _ (aY _ e))))⟩
  ·cases b1<;>exact⟨_,g1,rfl,rfl⟩
  ·cases b2<;>exact⟨_,g2,rfl,rfl⟩
end
section
variable {X:Cx}{pins:List (Addr×Obj)}{σ:St}{H:Hp}{s:Hf}{h':Heap}
theorem Inv.qG{t':Nat}{fp:List Addr}(I:Inv X pins σ H s)(k:∀b o,b∉fp->s.heap.get? b=some o->h'.get? b=some o)(hf:∀b∈fp,fq X pins H b):Inv X pins σ H {s with heap:=h',toks:=t'}:=by
 have jj:∀b u,H b=some u->b∉fp:=fun b u e z=>by rw[(hf b z).1]at e;cases e
 have hL:X.env.locals∉fp:=fun z=>(hf _ z).2.1 rfl;refine I.step (g':=s.gens) (d':=s.drawn) (ch:=fp) (fun b hb=>?_) (fun b o _ _ hc e _=>k b o hc e) (fun b o _ _ hc e _=>⟨o.slots,k b o hc e⟩) (fun _ _ _ _ n=>n) (fun b o hc e=>⟨o,k b o hc e⟩) (fun _ _ e=>e) (fun _ _ _ e=>e) (fun b ps e=>⟨#[],by rw[e];simp⟩) (fun m hm=>?_) (fun b u e=>?_) I.bare
 · obtain⟨f0,f1,f2,f3,f4,f5⟩:=hf b hb
   exact⟨f3,f1,f4,f5⟩
 · obtain⟨o,es,ep,ho,r⟩:=hm
   exact⟨o,es,ep,k _ o hL ho,r⟩
 · refine(I.hok b u e).eU (fun c v hc q=>k c v ?_ q) (fun _ q=>q) fun _ _ q=>q
   rcases hc with z|z
   ·rw[z];exact jj b u e
   ·exact jj c _ z
end
def cp(b:Bool)(K:He)(H:Hp)(a:Addr)(xs:List V):Prop:=match b with|true=>aq K H a xs|false=>aH K H a xs
theorem cp.get{X:Cx}{pins:List (Addr×Obj)}{σ:St}{H:Hp}{s:Hf}{b:Bool}{a:Addr}{xs:List V}(I:Inv X pins σ H s)(h:cp b X.K H a xs):∃its:List Value,Vals xs its/\cH b s.heap a its.toArray:=by
 cases b
 ·obtain⟨its,r,p,_⟩:=I.tuple h;exact⟨its,r,p⟩
 ·obtain⟨its,r,p,_⟩:=I.list h;exact⟨its,r,p.isList⟩
theorem cp.inj{X:Cx}{pins:List (Addr×Obj)}{σ:St}{H:Hp}{s:Hf}{b:Bool}{a:Addr}{xs ys:List V}(I:Inv X pins σ H s)(h:cp b X.K H a xs)(g:cp b X.K H a ys):xs=ys:=by
 cases b
 ·exact I.qH h g
 ·exact I.C0 h g
def pT(K:He)(b1 b2:Bool)(l1 l2:Addr):It:=⟨fun i H=>∃xs ys x y,cp b1 K H l1 xs/\cp b2 K H l2 ys/\xs[i]? =some x/\ys[i]? =some y,fun i H v H'=>∃T x y,v= .ref T/\(∀xs,cp b1 K H l1 xs->xs[i]? =some x)/\(∀ys,cp b2 K H l2 ys->ys[i]? =some y)/\Nw H H' T (.tup [x,y]),fun i H=>∃xs ys,cp b1 K H l1 xs/\cp b2 K H l2 ys/\(xs.length<=i\/ys.length<=i)⟩
theorem yj{P:Hg}{w:World}{K:He}{elts:List Expr}{kt:Nat}{pos:Pos}{b1 b2:Bool}{z TI TO i1 i2 l1 l2:Addr}(D:ZipApart z TI TO i1 i2 l1 l2): Turn P w K (.Tuple elts kt pos) (pT K b1 b2 l1 l2) [z,TI,TO,i1,i2] z (fun i h=>Zp b1 b2 h z TI TO i1 i2 l1 l2 .none i) where
  mem:=by simp
  obj:=fun i h st b hb=>by
   obtain⟨hz,dQ,⟨a,c,eH⟩,h1,h2⟩:=st;simp only[bV,ft,or_false]at hb;rcases hb with rfl|rfl|rfl|rfl|rfl
   ·exact⟨_,hz,fun v e=>by cases e⟩
   ·exact⟨_,dQ,fun v e=>by cases e⟩
   ·exact⟨_,eH,fun v e=>by cases e⟩
   ·obtain⟨o,e,_,n⟩:=h1.ob;exact⟨o,e,n⟩
   ·obtain⟨o,e,_,n⟩:=h2.ob;exact⟨o,e,n⟩
  keep:=fun i h h' st k=>by obtain⟨hz,dQ,⟨a,c,eH⟩,h1,h2⟩:=st;exact⟨k z (by simp) _ hz,k TI (by simp) _ dQ,⟨a,c,k TO (by simp) _ eH⟩,h1.to fun o e=>k i1 (by simp) o e,h2.to fun o e=>k i2 (by simp) o e⟩
  item:=by
   intro X hP hw hK hc i pins s σ H E I hf st hg;subst hP hw hK;obtain⟨xs,ys,x,y,q1,q2,e1,e2⟩:=hg;obtain⟨ua,r1,p1⟩:=q1.get I;obtain⟨gb,r2,p2⟩:=q2.get I;obtain⟨u1,CD,nJ⟩:=r1.get e1;obtain⟨u2,CB,nI⟩:=r2.get e2;have hT:s.TypeIs (.ref z) "zip":=⟨_,st.zz,rfl⟩;unfold pyNext;refine ae (wpAny_attempt (jX (name:=Str.ofString "__next__") hT qc (jW qc hT PySem.F.entry_zip_next (y1 D st p1 p2 (x:=u1) (y:=u2) (by simpa using CD) (by simpa using CB) fun g zg tg kp=>aE ?_) (PySem.F.args_zip_next_1 _))));refine⟨_,rfl,?_⟩;refine wpAny_letOwnedTupleGo_zip zg.zz fun g' xY sb=>?_;have hs:=sb.extBut;have mG:z<s.heap.objs.size:=aU st.zz;have nw:Nw H (upd H s.heap.objs.size (.tup [x,y])) s.heap.objs.size (.tup [x,y]):=.of (I.hok.fresh (aJ _));have I1:Inv X pins σ (upd H s.heap.objs.size (.tup [x,y])) {s with heap:=s.heap.push {cls:=.type "tuple",data:=.seq #[u1,u2]}}:=I.laid (t':=s.toks) (fun b ob q=>aY _ q) (aJ _) ⟨by show 2<=sizeLine;decide,[u1,u2],.cons nJ (.cons nI .nil),⟨_,bP _ rfl,rfl,_,rfl⟩⟩;have BM:∀b∈[z,TI,TO,i1,i2],b<s.heap.objs.size:=fun b hb=>by
    simp only[bV,ft,or_false]at hb;obtain⟨hz,dQ,⟨a,c,eH⟩,h1,h2⟩:=st;rcases hb with rfl|rfl|rfl|rfl|rfl
    ·exact aU hz
    ·exact aU dQ
    ·exact aU eH
    ·obtain⟨o,e,_⟩:=h1.ob;exact aU e
    ·obtain⟨o,e,_⟩:=h2.ob;exact aU e
   have hn:∀b∈[z,TI,TO,i1,i2],upd H s.heap.objs.size (.tup [x,y]) b=none:=fun b hb=>by rw[aV (cg (BM b hb))];exact(hf b hb).1
   have I2:Inv X pins σ (upd H s.heap.objs.size (.tup [x,y])) {s with heap:=g'}:=Inv.qG (s:={s with heap:=s.heap.push {cls:=.type "tuple",data:=.seq #[u1,u2]}}) (t':=s.toks) (fp:=[z,TI,TO,i1,i2]) I1 (fun b o hb e=>by
    have e:(s.heap.push {cls:=.type "tuple",data:=.seq #[u1,u2]}).get? b=some o:=e;have nz:b≠z:=fun q=>hb (by simp[q]);rcases Heap.get?_push_cases e with⟨DE,rfl⟩|e'
    · subst DE
      exact hs _ _ nz tg
    ·exact hs _ _ nz (kp b o nz (fun q=>hb (by simp[q])) (fun q=>hb (by simp[q])) (fun q=>hb (by simp[q])) e')) (fun b hb=>by obtain⟨f0,f1,f2,f3,f4,f5⟩:=hf b hb;exact⟨hn b hb,f1,f2,f3,f4,f5⟩);refine⟨.ref s.heap.objs.size,_,I2,rfl,⟨s.heap.objs.size,x,y,rfl,fun zs hz=>?_,fun zs hz=>?_,nw⟩,?_,hn⟩
   ·rw[cp.inj I hz q1];exact e1
   ·rw[cp.inj I hz q2];exact e2
   · obtain⟨_,dQ,⟨a,c,eH⟩,h1,h2⟩:=zg
     exact⟨xY,hs _ _ D.TIz dQ,⟨a,c,hs _ _ D.TOz eH⟩,h1.to fun o e=>hs _ o D.i1z e,h2.to fun o e=>hs _ o D.i2z e⟩
  done:=by intro X hP hw hK hc i pins s σ H E I hf st hg;subst hP hw hK;obtain⟨xs,ys,q1,q2,oN⟩:=hg;obtain⟨ua,r1,p1⟩:=q1.get I;obtain⟨gb,r2,p2⟩:=q2.get I;have hT:s.TypeIs (.ref z) "zip":=⟨_,st.zz,rfl⟩;have l1:=r1.length;have l2:=r2.length;unfold pyNext;refine ae (wpAny_attempt (jX (name:=Str.ofString "__next__") hT qc (jW qc hT PySem.F.entry_zip_next (y2 (I.ok.hd hc) D st p1 p2 (oN.imp (fun h=>by simp;omega) fun h=>by simp;omega) fun g e kp he=>?_) (PySem.F.args_zip_next_1 _))));obtain⟨o,ho,oT⟩:=he;refine ae (wpAny_isInstance (T:="StopIteration") (b:=true) ⟨o,ho,oT⟩ isSubtype_stop (aE ⟨rfl,?_⟩));exact I.qG (t':=s.toks) (fp:=[z,TI,TO,i1,i2]) (fun b o hb e=>kp b o (fun q=>hb (by simp[q])) (fun q=>hb (by simp[q])) (fun q=>hb (by simp[q])) (fun q=>hb (by simp[q])) e) hf
  self:=fun _ _ _ _ _ st h=>wpAny_pyIter_zip st.zz h
inductive xb(K:He)(b1:Bool)(b2:Bool)(R:It->Hp->Prop)(vs:List V)(H1:Hp):Prop |mk (l1:_)(l2:_)(h0:vs=[.ref l1,.ref l2])(h1:(∃xs,cp b1 K H1 l1 xs))(h2:(∃ys,cp b2 K H1 l2 ys))(h3:R (pT K b1 b2 l1 l2) H1):xb K b1 b2 R vs H1
def Cm(K:He)(b1 b2:Bool)(ta:TA):TI:=fun σ H R=>ta σ H fun vs H1=>xb K b1 b2 R vs H1
theorem sN(K:He){X:Cx}(hK:X.K=K)(b1 b2:Bool){elts:List Expr}{kt:Nat}{iW:Pos}{a b:Expr}{ta:TA}{p pos:Pos}(hg:Gl X "zip")(hm:X.mg "zip"=none)(ha:PA X [a,b] ta)(hs:starEach [a,b] X.env=[(false,eval a X.env),(false,eval b X.env)]:=by rfl)(gc:starEach [b] X.env=[(false,eval b X.env)]:=by rfl): PI X (.Tuple elts kt iW) (.Call (.Name "zip" p) [a,b] [] pos) (Cm K b1 b2 ta):=by
  subst hK;intro pins s σ H R I h;refine Call_ (ix I hg hm PyProof.Rows.boot_zip (qf (ak (ha pos pins s σ H _ I h) fun us s1 ⟨vs,H1,I1,r1,q1⟩=>?_) (by rw[hs,gc]) (by rw[gc];rfl)));obtain⟨l1,l2,e,⟨xs,h1⟩,⟨ys,h2⟩,q⟩:=q1;subst e;obtain⟨u1,u2,rfl,nJ,nI⟩:=vals2 r1;cases(show u1=Value.ref l1 from nJ);cases(show u2=Value.ref l2 from nI);obtain⟨ua,v1,p1⟩:=h1.get I1;obtain⟨gb,v2,p2⟩:=h2.get I1;have a1:l1<s1.heap.objs.size:=by cases b1<;>(obtain⟨o,e,_⟩:=p1;exact aU e)
  have a2:l2<s1.heap.objs.size:=by cases b2<;>(obtain⟨o,e,_⟩:=p2;exact aU e)
  refine y4 p1 p2 fun g zg kp=>wpAny_pyIter_zip zg.zz ?_;refine⟨_,_,_,_,H1,rfl,I1.kept (t':=s1.toks) kp,yj (zipApart_new a1 a2),zg,fun c hc=>?_,q⟩;have hle:s1.heap.objs.size<=c:=by simp only[bV,ft,or_false]at hc;rcases hc with rfl|rfl|rfl|rfl|rfl<;>first|exact aJ _|exact Nat.le_add_right _ _
  exact I1.lL hle (I1.hok.fresh hle)
theorem cp.go{b:Bool}{K:He}{H H':Hp}{a:Addr}{xs:List V}(s:ai H H')(h:cp b K H a xs):cp b K H' a xs:=by
 cases b
 ·exact aH.go s h
 ·exact aq.go s h
theorem vh{K:He}{b1 b2:Bool}{l1 l2:Addr}{xs ys:List V}{bs:List Bool}{te:TE}{Q:VK}{D:Addr}{H H0:Hp}{n:Nat}(rest:St)(hn:n=2)(h1:cp b1 K H l1 xs)(h2:cp b2 K H l2 ys)(nw:Nw H H0 D (.lst [])) (hl:min xs.length ys.length=bs.length)(hz:bs.length<=1000) (hs:∀(i:Nat)(x y:V)(b:Bool)(H2:Hp)(Q':VK),xs[i]? =some x->ys[i]? =some y->bs[i]? =some b->ai H H2->(∀H3,ai H2 H3->Q' (.bl b) H3)->te (some x::some y::rest) H2 Q') (hq:∀H',ai H H'->H' D=some (.lst (bs.map V.bl))->Q (.ref D) H'):gp (pT K b1 b2 l1 l2) (p5 K n (p6 (dR 0) (p6 (dR 1) uR))) fu te Q D (none::none::rest) H0:=by
  subst hn;have hD:=nw.no;refine lQ bs.length (fun i σ H2=>ai H H2/\H2 D=some (.lst ((bs.take i).map V.bl))/\∃v v',σ=v::v'::rest) ?_ ?_ ?_
  ·exact⟨nw.same,nw.at',none,none,rfl⟩
  · rintro i σ H2 hi ⟨s2,d2,v,v',rfl⟩
    have hx:i<xs.length:=by omega
    have hy:i<ys.length:=by omega
    have ex:=e9 hx;have ey:=e9 hy;have eb:=e9 hi;refine⟨⟨xs,ys,_,_,h1.go s2,h2.go s2,ex,ey⟩,fun y' H3 Cr=>?_⟩;obtain⟨T,x0,y0,rfl,k1,k2,n3⟩:=Cr;have e1:=k1 _ (h1.go s2);have e2:=k2 _ (h2.go s2);rw[ex]at e1;rw[ey]at e2;cases e1;cases e2;refine⟨T,_,rfl,aH.of n3.at',rfl,_,_,rfl,_,_,rfl,rfl,?_⟩;refine yes (bH ?_);refine hs i _ _ _ _ _ ex ey eb (s2.trans n3.same) fun H4 s4=>?_;refine⟨_,s4 _ _ (n3.same _ _ d2),?_,bs.length-(i+1),by omega,rfl,by omega,fun b o e=>?_,?_,_,_,rfl⟩
    · rw[aZ,iU]
      have:(1000:Nat)<sizeLine:=by decide
      omega
    ·rw[aV (eF e hD)];exact s4 b o (n3.same b o (s2 b o e))
    ·rw[br,List.take_succ,eb,hJ];rfl
  · rintro σ H2 ⟨s2,d2,v,v',rfl⟩
    refine⟨⟨xs,ys,h1.go s2,h2.go s2,by omega⟩,hq H2 s2 ?_⟩;rw[d2,xQ]
theorem cz.there{P:Hg}{w:World}{H:Hp}{h:Heap}{a:Addr}{o:HO}(x:cz P w H h a o):∃ob,h.get? a=some ob:=by induction o with |lst xs=>obtain⟨_,_,_,_,e⟩:=x;exact⟨_,e⟩ |tup xs=>obtain⟨_,_,_,ob,e,_⟩:=x;exact⟨ob,e⟩ |dK bh=>obtain⟨_,_,_,_,ob,_,_,e,_⟩:=x;exact⟨ob,e⟩ |dT bh=>obtain⟨_,_,_,_,ob,_,_,e,_⟩:=x;exact⟨ob,e⟩ |set S n=>obtain⟨ob,_,_,_,e,_⟩:=x;exact⟨ob,e⟩ |ins C dx fs=>obtain⟨_,_,_,e,_⟩:=x;exact⟨_,e⟩ |own y=>exact x |xd fs=>obtain⟨_,⟨ob,_,_,e,_⟩,_⟩:=x;exact⟨ob,e⟩ |kJ lo hi=>obtain⟨_,_,_,e⟩:=x;exact⟨_,e⟩ |eJ ob u=>exact⟨_,x.1⟩ |fW ps=>exact⟨_,x⟩ |met f y=>exact⟨_,x⟩ |ext φ=>exact x.2.1
structure Fl(P:Hg)(w:World)(outer:List Env)(H:Hp)(h₁:Heap)(ex:Addr)(H':Hp)(B h:Heap):Prop where
 un:Un (bI outer) [] H H' h₁ h
 hok:bq P w H' h
 k1:∀b o,h₁.get? b=some o->H b=none->b∉bI outer->B.get? b=some o
 k2:∀b o,H' b=some o->∃ob,B.get? b=some ob
 k3:∀b o,h₁.get? b=some o->b∉bI outer->∃ob,B.get? b=some ob
 fr:∀b∈bI outer,H' b=none
 nw:h₁.get? ex=none
 ne:H' ex=none
theorem Fl.step{P:Hg}{w:World}{outer:List Env}{H H':Hp}{h₁ B h h':Heap}{ex:Addr}{base:Heap}(F:Fl P w outer H h₁ ex H' B h)(st:B.StaysIn h)(fv:B.StaysIn h')(up:h.UpToSlots h')(ff:h.FunFrames base outer):Fl P w outer H h₁ ex H' B h':=by
 have slot:∀b o,h₁.get? b=some o->H b=none->b∈bI outer->∃sl,h'.get? b=some {o with slots:=sl}:=fun b o e n hb=>by obtain⟨sl,e1⟩:=F.un.slot b o e n hb (by simp);obtain⟨_,o2,e2,hd⟩:=ff.mem hb;rw[e1]at e2;cases e2;obtain⟨mQ,e3⟩:=up b _ e1 (fun vs=>hd vs);exact⟨mQ,e3⟩
 refine⟨⟨fun b o e n hb _=>fv b o (F.k1 b o e n hb),fun b o e n hb _=>slot b o e n hb,F.un.free,fun b o e hx=>?_,F.un.tups,F.un.frzs,F.un.tbls⟩,fun b u e=>?_,F.k1,F.k2,F.k3,F.fr,F.nw,F.ne⟩
 · by_cases hb:b∈bI outer
   · obtain⟨_,o2,e2,hd⟩:=ff.mem hb
     obtain⟨sl,e3⟩:=up b o2 e2 hd;exact⟨_,e3⟩
   · obtain⟨ob,e1⟩:=F.k3 b o e hb
     exact⟨ob,fv b ob e1⟩
 · refine(F.hok b u e).eU (fun c v hc q=>?_) (fun _ q=>q) fun _ _ q=>q
   have Ck:∃ob,B.get? c=some ob:=by
    rcases hc with z|z
    ·rw[z];exact F.k2 b u e
    ·exact F.k2 c _ z
   obtain⟨ob,e1⟩:=Ck;have e2:=st c ob e1;rw[q]at e2;cases e2;exact fv c _ e1
section
variable {P:Hg}{w:World}{K:He}{mg:Str->Option Value}{base:Heap}{N:List Str}{qual:Str}{scope:Scope}{f:Addr}{cd:Value}{A:Hi}{outer:List Env}{s:Hf}{H:Hp}{E:XK}{pins:List (Addr×Obj)}{σ:St}{H1:Hp}{s1:Hf}{h2:Heap}{ex:Addr}{cls:Value}{vs:List Value}
end
structure Exc(K:He)(mg:Str->Option Value)(x:Str)(C:Addr)(eN:List Value)(newId:String):Prop where
 at':mg x=some (.ref C)
 ok:PySem.W.excIn K C eN newId=true
theorem Exc.own{K:He}{mg:Str->Option Value}{x:Str}{C:Addr}{eN:List Value}{newId:String}{h:Heap}(e:Exc K mg x C eN newId)(X:K.In h):OwnCls x C eN newId mg h:=by
 refine⟨e.at',?_⟩;have q:=e.ok;unfold PySem.W.excIn at q;split at q
 · rename_i dd cd sl ho
   split at q
   · rename_i D2 bl a0 a1 a2 a3 nn a5 hm hs
     simp only[bE,bW,kf]at q;obtain⟨⟨⟨⟨⟨r1,r2⟩,uC⟩,ht⟩,hok⟩,lz⟩:=q;subst r1 r2;obtain⟨c1,c2,c3,c4,c5,c6,c7,c8,c9,c10,GX⟩:=cd;dsimp only at hm uC hok lz;subst hm uC;obtain⟨l⟩:=sl;simp only at hs;subst hs;exact⟨bl,c4,c1,c5,c2,c6,c7,c8,c9,c10,dd,a0,a1,a2,a3,a5,_,X _ _ ho,.of_isNs (PySem.W.isNs_of_in X hok),PySem.W.nsMap_none_of_in X hok lz,PySem.W.tail_of_in X ht⟩
   ·cases q
 ·cases q
section
variable {X:Cx}{x:Str}{C:Addr}{eN:List Value}{newId ow B:String}{e:Expr}{t:TA}{np aF pos:Pos}
def yA(E:XK)(cls:Value)(t:TA):TS:=fun _ σ H=>t σ H fun vs H1=>vs.length<=sizeLine/\E cls none H1
theorem sG{E:XK}(hx:∀pins σ H s h2 ex vs,Inv X pins σ H s->Heap.MadeExcOf s.heap h2 ex (.ref C) vs->E (.ref C) none H->X.xe (.ref ex) {s with heap:=h2})(EC:Exc X.K X.mg x C eN newId)(FB:ExcBaseFacts B newId ow eN)(hh:X.A.handled=none)(hg:Gl X x)(ha:PA X [e] t) (he:starEach [e] X.env=[(false,eval e X.env)]:=by rfl)(hd:(x==("__debug__":Str))=false:=by decide): PS X (.Raise (some (.Call (.Name x np) [e] [] aF)) none pos) (yA E (.ref C) t):=by intro pins s σ H D I h;obtain⟨tl,Nn,nm,q,bs,hdct,sn,sub,ab,col,dd,k0,k1,k2,k3,k5,mN,hC,hN,lz,T⟩:=(EC.own I.ok.mod.kin).obj;refine wpAny_Raise_call_subT (C:=C) (nm:=nm) (q:=q) (N:=Nn) (bs:=bs) (bm:=tl) (hdct:=hdct) (sn:=sn) (sub:=sub) (ab:=ab) (col:=col) (dd:=dd) (k0:=k0) (k1:=k1) (k2:=k2) (k3:=k3) (k5:=k5) FB (mN:=mN) (T.hasType FB.hasBase) hh (by rw[he];rfl) lz (g6 I hg EC.at' ⟨rfl,?_⟩ hd);have hA:=ha aF pins s σ H _ I h;rw[he]at hA⊢;refine xW (ak hA fun us s2 ⟨vs,H1,I1,r1,z,w1⟩=>⟨rfl,by rw[<-r1.length];exact z,I1.bk _ _ hC,hN.keeps I1.bk,T.keeps I1.bk,fun h' ex hm=>hx pins σ H1 s2 h' ex us I1 hm w1⟩)
end
end L2
namespace L2
open PySem PySem.Spec PyProof.Rows
section
variable {M:Model}{A:Hi}{Ex:Value->Hf->Prop}
theorem ES{h:Heap}{g:Array GenState}{d:Drawn}{tk:Nat}{os:OsState}{e:Addr}{oe:Obj}{Q:Bool->Hf->Prop}{C D N N':Addr}{nm tw q q':Str}{bs vx bm pJ:List Value}{hdct uD:Bool}{sn rn:List Str}{sub qP:List Value}{ab vK:Bool}{col vi:Option Bool}{dd vc:Option Addr}{k0 k1 k2 k3 k5 j0 j1 j2 j3 j5:Option Value}{newId Bz:String} (hC:h.get? C=some (excClassObj nm q C N bs bm hdct sn sub ab col dd k0 k1 k2 k3 k5 newId))(hD:h.get? D=some (excClassObj tw q' D N' vx pJ uD rn qP vK vi vc j0 j1 j2 j3 j5 Bz)) (he:h.get? e=some oe)(jz:oe.cls= .ref C)(hb:pJ.contains (.type "BaseException")=true)(hs:(Value.ref C::bm).contains (.ref D)=true) (hq:Q true ⟨h,g,d,tk,os⟩):wpAny M A (excMatches (.ref e) (.ref D)) Q Ex ⟨h,g,d,tk,os⟩:=by
  have Dz:(Value.ref D::pJ).contains (.type "BaseException")=true:=by rw[List.contains_cons,hb,Bool.or_true]
  have f:=tc_notTuple;unfold excMatches
  repeat (first|(with_reducible refine wpAny_loadPart_at he ?_;rw[jz])|with_reducible refine wpAny_loadPart_at hD ?_|(with_reducible refine wpAny_isSubtype_exc hD ?_;rw[Dz])|(with_reducible refine wpAny_isSubtype_exc hC ?_;rw[hs])|with_reducible refine wpAny_loadPart_at hC ?_|wp_step)
  exact hq
end
section
variable {X:Cx}{k:Nat}{x:Str}{p pos:Pos}{e:Expr}{es:List Expr}{t:TA}{sp:Sp}
end
abbrev Cx.hand(X:Cx)(ex:Addr):Cx:={X with A:=X.A.mark (some (.ref ex)),calm:=false,xe:=fun _ _=>False}
section
variable {X:Cx}{pins:List (Addr×Obj)}{σ:St}{H:Hp}{s:Hf}
theorem Inv.hand(I:Inv X pins σ H s)(ex:Addr):Inv (X.hand ex) pins σ H s:=⟨⟨I.ok.mod,I.ok.kind,I.ok.glob,I.ok.blt,I.ok.above,I.ok.inj,I.ok.has,I.ok.cab,fun h=>(cj h).elim,I.ok.frames,I.ok.stk,I.ok.exf,I.ok.bs,I.ok.bsz,I.ok.noex,I.ok.exfs,I.ok.cM,I.ok.frf⟩,I.os,I.bare,I.base,I.loc,I.cell,I.free,I.freeC,I.pin,I.hok,I.len⟩
theorem Inv.back{ex:Addr}(ok:X.Ok)(I:Inv (X.hand ex) pins σ H s):Inv X pins σ H s:=⟨ok,I.os,I.bare,I.base,I.loc,I.cell,I.free,I.freeC,I.pin,I.hok,I.len⟩
theorem yf{M:Model}{A:Hi}{E:Value->Hf->Prop}{i:Nat}{x:Str}{v:V}{pos:Pos}{Q:Unit->Hf->Prop}(I:Inv X pins σ H s)(hN:X.N.Nodup)(hi:X.N[i]? =some x)(hk:X.env.kindOf x=some .local)(hs:X.env.scope.names.lookup x=some .local) (hv:σ[i]? =some (some v))(h:∀s',Inv X pins (σ.set i none) H s'->Q () s'):wpAny M A (unbindBehindTheSuite X.env x pos) Q E s:=by
  obtain⟨m,hn,hl⟩:=id I.loc;have jz:(X.env.scope.kind== .class||(X.env.scope.kind== .module&&X.env.locals !=X.env.globals))=false:=by rw[I.ok.kind];rfl
  have lC:i<σ.length:=by rw[I.len];exact(fS.mp hi).1
  have eM:=I.eM;obtain⟨u,r,look⟩:=hl i x v hi hv (.inl hs);have hm:m x=some u:=by
   rcases look with⟨_,e⟩|⟨k,_⟩
   ·exact e
   ·rcases k with k|k<;>(rw[hk]at k;cases k)
  unfold unbindBehindTheSuite;refine mj (wpAny_unbindName_local hk hn hm jz fun h' u' oG dh=>?_);obtain⟨oL,_,_,ur,_⟩:=id hn;have tr:bq X.prog X.w H h':=fun b ob e=>by
   refine(I.hok b ob e).eU (fun c w' hc q=>(dh.2 c ?_).trans q) (fun _ q=>q) fun _ _ q=>q;rintro rfl;rcases hc with rfl|hc
   ·rw[I.free]at e;cases e
   ·rw[I.free]at hc;cases hc
  have lt:∀b o,X.s₀.heap.get? b=some o->b≠X.env.locals:=fun b o e=>cg (cN (aU e) I.ok.above);refine h _ ⟨I.ok,I.os,I.bare,⟨fun b o e n hb hx=>(dh.2 b (lt b o e)).trans (I.base.keep b o e n hb hx),fun b o e n hb hx=>?_,I.base.free,fun b o e hx=>?_,I.base.tups,I.base.frzs,I.base.tbls⟩,⟨_,oG,fun j y v' e1 e2 e3=>?_⟩,fun y c e=>?_,I.free,I.freeC,fun p hp=>?_,tr,by simpa using I.len⟩
  · obtain⟨sl,e1⟩:=I.base.slot b o e n hb hx
    exact⟨sl,(dh.2 b (lt b o e)).trans e1⟩
  · obtain⟨o',e1⟩:=I.base.there b o e hx
    exact⟨o',(dh.2 b (lt b o e)).trans e1⟩
  · by_cases hj:j=i
    · subst hj
      rw[qr lC]at e2;cases e2
    · rw[xU (dC hj)]at e2
      obtain⟨u2,r2,q⟩:=hl j y v' e1 e2 e3;refine⟨u2,r2,?_⟩;rcases q with⟨k,e⟩|⟨k,c,e,z⟩
      · have:y≠x:=fun e=>hj (nZ hN e1 (e▸hi))
        exact .inl ⟨k,by simp[this,e]⟩
      ·exact .inr ⟨k,c,e,z.sameBut dh (eM y c e)⟩
  · obtain⟨w',z⟩:=I.cell y c e
    exact⟨w',z.sameBut dh (eM y c e)⟩
  · obtain⟨e,n,ne,nf,d⟩:=I.pin p hp
    exact⟨(dh.2 p.1 ne).trans e,n,ne,nf,d⟩
end
def jQ(X:Cx)(st:List Stmt)(t:TS):Prop:=∀(s:Hf)(σ:St)(H:Hp)(D:Ends),Inv X [] σ H s->t D σ H->wpAny (model X.prog X.w) X.A (execs st X.env) (SP X [] D) X.xe s
def vO(X:Cx)(st:Stmt)(t:TS):Prop:=∀(s:Hf)(σ:St)(H:Hp)(D:Ends),Inv X [] σ H s->t D σ H->wpAny (model X.prog X.w) X.A (exec st X.env) (SP X [] D) X.xe s
theorem jQ.one{X:Cx}{st:Stmt}{t:TS}(h:vO X st t):jQ X [st] t:=by intro s σ H D I q;refine wpAny_execs_cons (ak (h s σ H D I q) fun f s1 q=>?_);cases f with |next=>exact jV q |ret v=>exact q |brk=>exact q |cont=>exact q
theorem Inv.FJ{X:Cx}{pins:List (Addr×Obj)}{σ:St}{H:Hp}{s:Hf}(I:Inv X pins σ H s):Inv X [] σ H s:=⟨I.ok,I.os,I.bare,I.base,I.loc,I.cell,I.free,I.freeC,fun p hp=>I.pin p (xR _ (by simpa using hp)),I.hok,I.len⟩
theorem EI{CX:d7}{P:Hg}{w:World}{K:He}{mg:Str->Option Value}{base:Heap}{k:Nat}{f:Addr}{name qual:Str}{params:Arguments}{body:List Stmt}{scope:Scope}{dV kV doc pm ah ct oc:Value}{an od:Option Addr} {bL:Array (Option Value)}{N ps:List Str}{sp:Sp}(lk:K.lookup f=some ⟨oc,od,.func (PySem.W.fnOf name qual params body scope dV kV doc pm an ah ct),bL⟩)(bN:PySem.W.codeIn K ah qual=true)(S:bb N ps scope) (len:∀vs H Q E,sp vs H Q E->vs.length=ps.length) (bZ:∀(A:Hi)(outer:List Env)(s:Hf)(H:Hp)(vs:List V)(Q:VK)(E:XK),ba k (A.deeper (envOfC qual scope s.heap.objs.size f ah))->sp vs H Q E->∃t,jQ (cc CX P w K mg base N qual scope f ah A outer s H E) body t/\t {nx:=fun _ H'=>Q .ax H',rt:=Q} (start N vs) H): cq P w K mg base CX (k+1) f (PySem.W.fnOf name qual params body scope dV kV doc pm an ah ct) ps sp:=by
  refine⟨len,fun A outer s H args us vs Q E hr e0 hb r bU=>?_⟩;have hl:=len _ _ _ _ bU;have KX:K.In s.heap:=e0.mod.kin.keeps fun b o e=>(e0.bs b o e).1;have lim:s.heap.NoLimit:=e0.mod.nolimit.keeps fun b o e=>(e0.bs b o e).1;have gd:∀y∈ps.zip us,scope.names.lookup y.1=some .local\/(scope.names.lookup y.1=some .cell/\((cellsFrom (s.heap.objs.size+1) scope.names []).lookup y.1).isSome=true):=fun⟨n,v⟩ hy=>by
   rcases S.par n (ka hy).1 with q|q
   ·exact .inl q
   ·exact .inr ⟨q,qb _ _ _ (.inl q)⟩
  refine xE hr.depth (KX _ _ lk) rfl S.co S.gen rfl (xI KX bN) (hb _ _ _ _ ?_);refine xB S.kind gd fun env he s1 x=>?_;subst he;refine⟨lim.keeps x.toInCall.keep,codeAny_func ?_⟩;obtain⟨t,ht,hq⟩:=bZ A outer s H vs Q E (hr.deeper _) bU;have I:Inv (cc CX P w K mg base N qual scope f ah A outer s H E) [] (start N vs) H s1:=oo S hr.hd e0 hl r x;refine d9 (ht s1 (start N vs) H _ I hq) (fun fl s' hs=>?_) fun e s' hs=>hs;have fin:∀{σ':St}{H':Hp}{v:V}{u:Value},Inv (cc CX P w K mg base N qual scope f ah A outer s H E) [] σ' H' s'->RelV v u->Q v H'->CE outer P w H s Q u s':=fun{σ' H' v u} J rv q=>⟨v,H',J.os,J.bare,J.base,J.hok,rv,q⟩;cases fl with |ret u=>obtain⟨v,σ',H',J,rv,q⟩:=hs;exact fin J rv q |next=>obtain⟨σ',H',J,q⟩:=hs;exact fin (v:=V.ax) (u:=Value.none) J rfl q |brk=>obtain⟨_,_,_,q⟩:=hs;exact False.elim q |cont=>obtain⟨_,_,_,q⟩:=hs;exact False.elim q
def ExcAt(ex:Addr)(cls:Value)(h:Heap):Prop:=∃o,h.get? ex=some o/\o.cls=cls
def takes(K:He)(C D:Addr):Prop:=PySem.W.mroIn K C (.ref D)=some true
section
variable {X:Cx}{i:Nat}{n y:Str}{Dc:Addr}{pI:List Value}{newD:String}{body kz:List Stmt}{b0:Stmt}{np lu pos:Pos}{tb:XK->TS}{th:TS}{Cs:Addr->Prop}
end
end L2
namespace L2
open PySem PySem.Spec PyProof.Rows PySem.W Builtin.Getset_descriptor
section
variable {prog:Hg}{w:World}{A:Hi}{E:Value->Hf->Prop}{h:Heap}{g:Array GenState}{d:Drawn}{t:Nat}{os:OsState}{K:Frag}{x C:Addr}{o:Obj}
theorem uY{M:Model}(h1:h.get? x=some o)(h2:o.cls= .ref C):Looks M h (typeOf (.ref x)) (.ref C):=h2▸(Looks.ld h1).andThen .now
structure eQ(K:Frag)(C:Addr):Prop where
 ga:findIn K (.ref C) "__getattribute__"=some (some (.builtin "BaseException.__getattribute__"))
 gx:findIn K (.ref C) "__getattr__"=some none
 cl:findIn K (.ref C) "__class__"=some (some (.builtin "object.__class__"))
 gt:specialIn K (.builtin "object.__class__") "__get__"=some (some (.builtin "getset_descriptor.__get__"))
 tk:takesIn K (.builtin "object.__class__")=some true
 ob:mroIn K C (.type "object")=some true
 be:mroIn K C (.type "BaseException")=some true
 is:hasDictIn K C=true
theorem BR{M:Model}(X:K.In h)(k:eQ K C):Looks M h (Builtin.ObjectAttr.find (.ref x) (.ref C) "__class__") (.bind (.builtin "getset_descriptor.__get__") (.builtin "object.__class__")):=by have L1:=looks_findIn (M:=M) X k.cl;have L2:Looks M h (Builtin.ObjectAttr.getOf (some (.builtin "object.__class__"))) (some (.builtin "getset_descriptor.__get__")):=looks_specialIn X k.gt;have L3:=looks_takesIn (M:=M) X k.tk;unfold Builtin.ObjectAttr.find;refine L1.andThen (L2.andThen ?_);have L4:Looks M h (Builtin.ObjectAttr.dataDescriptor? (some (.builtin "object.__class__")) (some (.builtin "getset_descriptor.__get__"))) (some (.builtin "getset_descriptor.__get__",.builtin "object.__class__")):=L3.andThen .now;exact L4.andThen (Looks.tag .now)
theorem Ew{M:Model}{tG:Value}{Q:Unit->Hf->Prop}(X:K.In h)(k:eQ K C)(L0:Looks M h (typeOf (.ref x)) (.ref C))(hq:Q () ⟨h,g,d,t,os⟩): wpAny M A (checkBuiltinCall "BaseException.__getattribute__" ⟨[.ref x,tG],[]⟩) Q E ⟨h,g,d,t,os⟩:=by
  have hk:builtinKind "BaseException.__getattribute__"=some .slot:=by decide+kernel
  have bU:splitId "BaseException.__getattribute__"=some ("BaseException","__getattribute__"):=by decide+kernel
  have ha:=PySem.F.args_bexc_ga (.ref x) tG;have L1:=looks_mroIn (M:=M) X k.be;simp only[checkBuiltinCall,hk,bU];refine ae ?_;unfold isInstance;refine ae (L0.at (L1.at ?_))
  repeat (first|assumption|wp_step)
theorem get_cls{R:Result->Hf->Prop}{tp:Value}(X:K.In h)(k:eQ K C)(L0:Looks (model prog w) h (typeOf (.ref x)) (.ref C))(hq:R (.ok (.ret (.ref C))) ⟨h,g,d,t,os⟩): codeAny (model prog w) A (.call (.builtin "getset_descriptor.__get__") ⟨[.builtin "object.__class__",.ref x,tp],[]⟩) R ⟨h,g,d,t,os⟩:=by
  have L1:=looks_mroIn (M:=model prog w) X k.ob;refine xF KF.slot_gs.plain KF.entry_gs (KF.slot_gs.check _ _ _ _ _ _ _ _ KF.type_class (KF.args_gs _ _ _) ?_);unfold Builtin.«getset_descriptor.__get__»descrGet;rw[dga_obj];refine ae (aE ?_);unfold descrGetter descrCheckInstance descrNameAndClass isInstance;simp only[KF.owner_class];repeat lk
  refine⟨Code.quiet_builtin _ (by decide+kernel),codeAny_builtin KF.entry_class ?_⟩;unfold Builtin.«object.__class__»shownTypeOf;repeat lk
  exact hq
theorem Ey{tk:Tok}{Q:Fin->Hf->Prop}(X:K.In h)(k:eQ K C)(L0:Looks (model prog w) h (typeOf (.ref x)) (.ref C)) (hq:Q (.done (.ret (.ref C))) ⟨h,g,d,t,os⟩):wpAny (model prog w) A (Builtin.«object.__getattribute__» ⟨[.ref x,.str "__class__" tk],[]⟩) Q E ⟨h,g,d,t,os⟩:=by have L1:=BR (M:=model prog w) (x:=x) X k;refine ae (aE (ae (aE (ae (L0.at (ae (L1.at ?_)))))));show wpAny _ _ (Builtin.ObjectAttr.bindTo _ _ (.ref x) (.ref C)) _ _ _;unfold Builtin.ObjectAttr.bindTo;show wpAny _ _ (holding [_] (call (.builtin "getset_descriptor.__get__") [.builtin "object.__class__",.ref x,.ref C])>>=_) _ _ _;exact ae (dB (jY (get_cls X k L0 (aE hq))))
theorem Fh{Q:Option Value->Hf->Prop}(X:K.In h)(k:eQ K C)(L0:Looks (model prog w) h (typeOf (.ref x)) (.ref C)) (hq:Q (some (.ref C)) ⟨h,g,d,t+1,os⟩):wpAny (model prog w) A (getAttr? (.ref x) "__class__") Q E ⟨h,g,d,t,os⟩:=by
  have L1:=looks_findIn (M:=model prog w) X k.ga;have L2:=looks_findIn (M:=model prog w) X k.gx;have f3:=PySem.F.excAttr_ValueError.ga.bind (.ref x);have Cy:(Value.builtin "BaseException.__getattribute__"==Value.builtin "object.__getattribute__")=false:=by decide+kernel
  unfold getAttr? getAttrBy? getAttrBy;refine ae (wpAny_mkText (ae (wpAny_attempt (dB (ae (L0.at (ae (L1.at ?_))))))));show wpAny _ _ (if(onTheHeap (Value.ref C)&&Value.builtin "BaseException.__getattribute__"==Value.builtin "object.__getattribute__")=true then _ else _) _ _ _;rw[Cy,Bool.and_false,aI (by decide)];unfold getAttrByItsOwn hookBefore;refine ae ?_;show wpAny _ _ (typeLookup (.ref C) "__getattr__") _ _ _;refine L2.at (ae (wpAny_attempt (dB ?_)));unfold callGetattribute;show wpAny _ _ (boundAndCalled _ _ _) _ _ _;unfold boundAndCalled;rw[f3];refine ae (aE (jY ?_));refine xF PySem.F.excAttr_ValueError.ga.plain PySem.F.entry_bexc_ga (Ew X k L0 (Ey X k L0 ?_));exact handed_on rfl (aE hq)
theorem tW(k:eQ K C):KitX K (.ref x) (.ref C) (ExcAt x (.ref C)) where
 ty:=fun M h _ p=>by obtain⟨o,h1,h2⟩:=p;exact uY h1 h2
 it:=fun _ _ X _=>by
  obtain⟨cd,hc,_⟩:=any_some k.is;unfold clsIn at hc;split at hc
  · rename_i c1 d1 Fp zj ho
    intro A' Q' E' s' kk q;unfold isType loadHead;exact ae (wpAny_loadPart (kk _ _ (X _ _ ho)) (aE q))
  ·cases hc
 ne:=fun h tp dd its n sl X CG=>by
  obtain⟨cd,hc,_⟩:=any_some k.is;refine kg.mpr fun q=>?_;have e:C=tp:=Value.ref.inj (bE.mp q);subst e;unfold clsIn at hc;split at hc
  · rename_i c1 d1 Fp zj ho
    cases(X _ _ ho).symm.trans CG
  ·cases hc
 ca:=fun{prog w A E Q s} X p q=>by obtain⟨o,h1,h2⟩:=p;obtain⟨h0,g0,d0,t0,Gp⟩:=s;exact Fh X k (uY h1 h2) q
end
end L2
namespace L2
open PySem PySem.Spec PyProof.Rows
def Fi:V->Option Value | .ref D=>some (.ref D) | .ty n=>some (.type n) |_=>none
theorem qD:∀{Ds:List Addr}{us:List Value},Vals (Ds.map V.ref) us->us=Ds.map Value.ref |[],_,.nil=>rfl |n::r,_,.cons q t=>by cases(show _=Value.ref n from q);rw[qD t];rfl
section
variable {X:Cx}
end
end L2
namespace L2
open PySem PySem.Spec PyProof.Rows
theorem FF:bootBuiltins "ValueError"=some (.type "ValueError"):=by kernel_rfl
abbrev gR:List Value:=[.type "ValueError",.type "Exception",.type "BaseException",.type "object"]
abbrev iq:String:="ValueError.__new__"
theorem FA.DH{P:Hg}{w:World}{K:He}{mg:Str->Option Value}{base:Heap}{x:Str}{st:Stmt}{N ps:List Str}{k:Nat}{sp:Sp}(F:FA K mg x st)(S:bb N ps (aw st))(len:∀vs H Q E,sp vs H Q E->vs.length=ps.length) (hb:∀(kV doc pm:Value)(an:Option Addr)(ah ct:Value)(us:List Value),us.length=ps.length->bindArgs (PySem.W.fnOf x x (dj st) (bB st) (aw st) .none kV doc pm an ah ct) ⟨us,[]⟩=pure (ps.zip us)) (bZ:∀(f:Addr)(ah:Value)(A:Hi)(outer:List Env)(s:Hf)(H:Hp)(vs:List V)(Q:VK)(E:XK),ba k (A.deeper (envOfC x (aw st) s.heap.objs.size f ah))->sp vs H Q E->∃t,jQ (cc cA P w K mg base N x (aw st) f ah A outer s H E) (bB st) t/\t {nx:=fun _ H'=>Q .ax H',rt:=Q} (start N vs) H):aA P w K mg base x (k+1) sp:=by obtain⟨f,fd,hm,F⟩:=F.ex;have oU:=F.binds hb;have kp:=F.kp;obtain⟨oc,od,kV,doc,pm,an,ah,ct,bL,rfl,lk,bN⟩:=F.ex;exact⟨f,_,ps,EI lk bN S len fun A outer s H vs Q E hr bU=>bZ f ah A outer s H vs Q E hr bU,hm,kp,oU⟩
end L2
namespace Ar
end Ar
namespace Rt
open Rat
section
variable {n m:Nat} {r s:Rat}
end
end Rt
namespace L2
open PySem PySem.Spec PyProof.Rows
def iJ(H H':Hp):Prop:=∀b o,(∀xs,o≠ .lst xs)->H b=some o->H' b=some o
section
variable {K:He} {H H' H2:Hp}
theorem iJ.yb{D:Addr}{xs ys:List V}(h:H D=some (.lst xs)):iJ H (upd H D (.lst ys)):=fun b o n e=>by rw[aV (BA e h (n xs))];exact e
theorem aH.t{a:Addr}{xs:List V}(s:iJ H H')(h:aH K H a xs):aH K H' a xs:=h.imp (fun r=>r.imp (s _ _ fun _ z=>nomatch z) fun⟨o,e⟩=>⟨o,s _ _ (fun _ z=>nomatch z) e⟩) id
mutual
def jh:Hh->Bool | .list _=>false | .dict _=>false | .tuple ds=>eE ds | .none=>true | .bool _=>true | .int _=>true | .str _=>true
def eE:List Hh->Bool |[]=>true |d::ds=>jh d&&eE ds
end
theorem jg:∀{ds:List Hh},eE ds=true↔∀d∈ds,jh d=true
  |[]=>⟨fun _ _ h=>(nomatch h),fun _=>by simp[eE]⟩ |d::ds=>by
    rw[eE,bW,jg (ds:=ds)];constructor
    · rintro⟨a,b⟩ x hx
      rcases bV.mp hx with rfl|hx
      ·exact a
      ·exact b x hx
    · intro h
      exact⟨h d (.head _),fun x hx=>h x (.tail _ hx)⟩
mutual
theorem RD.t(s:iJ H H'):∀{x:V}(d:Hh),jh d=true->RD K H x d->RD K H' x d |x,.none,_,h=>by simpa[RD]using h |x,.bool b,_,h=>by simpa[RD]using h |x,.int i,_,h=>by simpa[RD]using h |x,.str y,_,h=>by simpa[RD]using h |x,.list ds,n,h=>by simp[jh]at n |x,.tuple ds,n,h=>by rw[RD]at h⊢;obtain⟨a,xs,e,h1,h2⟩:=h;exact⟨a,xs,e,h1.t s,au.t s ds (by simpa[jh]using n) h2⟩ |x,.dict _,_,h=>by simp[RD]at h
theorem au.t (s:iJ H H'):∀{xs:List V}(ds:List Hh),eE ds=true->au K H xs ds->au K H' xs ds |xs,[],_,h=>by simpa[au]using h |xs,d::ds,n,h=>by rw[au]at h⊢;rw[eE,bW]at n;obtain⟨y,ys,e,h1,h2⟩:=h;exact⟨y,ys,e,RD.t s d n.1 h1,au.t s ds n.2 h2⟩
end
theorem au.gJ:∀{xs:List V}{ns:List Int},au K H xs (ns.map PyData.int)->xs=ns.map V.int |xs,[],h=>h.nil_inv |xs,n::ns,h=>by obtain⟨y,ys,rfl,h1,h2⟩:=h.cons_inv;rw[h1.int_inv,au.gJ h2];rfl
theorem Fc{J:It}{xs:List V}{ds:List Hh}{te:TE}{Q:VK}{D:Addr}{H0:Hp}(rest:St)(nw:Nw H H0 D (.lst []))(hl:xs.length=ds.length)(hz:xs.length<=1000)(hn:eE ds=true) (go:∀i x H2,xs[i]? =some x->ai H H2->J.go i H2/\∀y H3,J.yld i H2 y H3->H3=H2/\y=x)(stop:∀H2,ai H H2->J.stop xs.length H2) (hs:∀(i:Nat)(x:V)(d:Hh)(H2:Hp)(Q':VK),xs[i]? =some x->ds[i]? =some d->ai H H2->(∀y H3,ai H2 H3->RD K H3 y d->Q' y H3)->te (some x::rest) H2 Q') (hq:∀H' ys,ai H H'->H' D=some (.lst ys)->au K H' ys ds->Q (.ref D) H'):gp J (dR 0) fu te Q D (none::rest) H0:=by
  have hD:=nw.no;refine lQ xs.length (fun i σ H2=>ai H H2/\(∃ys,H2 D=some (.lst ys)/\au K H2 ys (ds.take i))/\∃v,σ=v::rest) ?_ ?_ ?_
  ·exact⟨nw.same,⟨[],nw.at',fz⟩,none,rfl⟩
  · rintro i σ H2 hi ⟨s2,⟨ys,d2,r2⟩,v,rfl⟩
    have lD:i<ds.length:=by rw[<-hl];exact hi
    have ex:=e9 hi;have eb:=e9 lD;obtain⟨g1,g2⟩:=go i _ H2 ex s2;refine⟨g1,fun y H3 hy=>?_⟩;obtain⟨rfl,rfl⟩:=g2 y H3 hy;refine mH ?_;refine hs i _ _ _ _ ex eb s2 fun z H4 s4 r4=>?_;have d4:=s4 _ _ d2;have len:=r2.length;rw[iU]at len;refine⟨ys,d4,?_,xs.length-(i+1),by omega,rfl,by omega,fun b o e=>?_,⟨ys++[z],br,?_⟩,_,rfl⟩
    · have:(1000:Nat)<sizeLine:=by decide
      omega
    ·rw[aV (eF e hD)];exact s4 b o (s2 b o e)
    · have t:iJ H4 (upd H4 D (.lst (ys++[z]))):=.yb d4
      rw[List.take_succ,eb];have n1:eE (ds.take i)=true:=jg.mpr fun d hd=>jg.mp hn d (List.mem_of_mem_take hd);exact(au.t t _ n1 (au.mono s4 _ r2)).append (eh (RD.t t _ (jg.mp hn _ (mD lD)) r4) fz)
  · rintro σ H2 ⟨s2,⟨ys,d2,r2⟩,v,rfl⟩
    refine⟨stop H2 s2,hq H2 ys s2 d2 ?_⟩;rw[hl,xQ]at r2;exact r2
theorem vg{a:Addr}{xs:List V}{ds:List Hh}{te:TE}{Q:VK}{D:Addr}{H0:Hp}(rest:St)(hx:aH K H a xs)(nw:Nw H H0 D (.lst []))(hl:xs.length=ds.length)(hz:xs.length<=1000)(hn:eE ds=true) (hs:∀(i:Nat)(x:V)(d:Hh)(H2:Hp)(Q':VK),xs[i]? =some x->ds[i]? =some d->ai H H2->(∀y H3,ai H2 H3->RD K H3 y d->Q' y H3)->te (some x::rest) H2 Q') (hq:∀H' ys,ai H H'->H' D=some (.lst ys)->au K H' ys ds->Q (.ref D) H'):gp (m7 K a) (dR 0) fu te Q D (none::rest) H0:=Fc rest nw hl hz hn (fun i x H2 e s=>⟨⟨xs,x,hx.go s,e⟩,fun y H3 ⟨e3,y3⟩=>⟨e3,by have:=y3 _ (hx.go s);rw[e]at this;exact(cu this).symm⟩⟩) (fun H2 s=>⟨xs,hx.go s,aJ _⟩) hs hq
end
section
variable {X:Cx}
end
end L2
set_option maxHeartbeats 1000000
namespace Lw
open PySem PySem.Spec PyProof.Rows L2
def vQ(c m:Int):Prop:=0<=c/\0<=m/\m<2147483648
def cZ(H:Hp)(p:Addr):Prop:=∃c m,H p=some (.lst [.int c,.int m])/\vQ c m
structure aG(p:Addr)(H H':Hp):Prop where
 bag:cZ H' p
 same:∀b o,b≠p->H b=some o->H' b=some o
theorem aG.refl{p:Addr}{H:Hp}(h:cZ H p):aG p H H:=⟨h,fun _ _ _ e=>e⟩
theorem aG.trans{p:Addr}{H H1 H2:Hp}(a:aG p H H1)(b:aG p H1 H2):aG p H H2:=⟨b.bag,fun c o n e=>b.same c o n (a.same c o n e)⟩
theorem aG.upd{p:Addr}{H:Hp}{c m:Int}(h:vQ c m):aG p H (L2.upd H p (.lst [.int c,.int m])):=⟨⟨c,m,br,h⟩,fun b o n e=>by rw[aV n];exact e⟩
theorem aG.bz{p:Addr}{H H':Hp}(h:cZ H p)(s:ai H H'):aG p H H':=by obtain⟨c,m,e,ok⟩:=h;exact⟨⟨c,m,s _ _ e,ok⟩,fun b o _ e=>s b o e⟩
theorem qB{j:Int}(h0:0<=j)(h:j<=10^40):Wd j:=by
 have:j.natAbs<=10^40:=by omega
 exact Nat.lt_of_le_of_lt this (by decide+kernel)
theorem cZ.ne{H:Hp}{p:Addr}(h:cZ H p):H p≠none:=by obtain⟨c,m,e,_⟩:=h;rw[e];exact fun z=>nomatch z
theorem aG.sd{p:Addr}{H H':Hp}(b:aG p H H'):SD p H H':=fun c o e=>fi.mpr ⟨(fi.mp e).1,b.same _ _ (fi.mp e).1 (fi.mp e).2⟩
theorem aG.zt{p:Addr}{H0 H H':Hp}(s:ai H0 H)(hp:H0 p=none)(b:aG p H H'):ai H0 H':=fun c o e=>b.same c o (eF e hp) (s c o e)
section
variable {K:He}
theorem pC{J:It}{te:TE}{Q:VK}{D p:Addr}{H H0:Hp}(n:Nat)(rest:L2.St)(nw:Nw H H0 D (.lst []))(bg:cZ H p)(hn:n<=1000)(xv:Nat->V) (go:∀i H2,i<n->aG p H H2->J.go i H2/\∀y H3,J.yld i H2 y H3->H3=H2/\y=xv i)(stop:∀H2,aG p H H2->J.stop n H2)(Pz:Int->Prop) (hs:∀i H2 (Q':VK),i<n->aG p H H2->(∀z H3,Pz z->aG p H2 H3->Q' (.int z) H3)->te (some (xv i)::rest) H2 Q') (hq:∀H' (is:List Int),aG p H H'->H' D=some (.lst (is.map V.int))->is.length=n->(∀z∈is,Pz z)->Q (.ref D) H'):gp J (dR 0) fu te Q D (none::rest) H0:=by
  have uM:D≠p:=fun e=>bg.ne (e▸nw.no);refine lQ n (fun i σ H3=>aG p H H3/\(∃is:List Int,H3 D=some (.lst (is.map V.int))/\is.length=i/\∀z∈is,Pz z)/\∃v,σ=v::rest) ?_ ?_ ?_
  ·exact⟨.bz bg nw.same,⟨[],nw.at',rfl,fun _ h=>(ft h).elim⟩,none,rfl⟩
  · rintro i σ H3 hi ⟨b3,⟨is,d3,li,pi⟩,v,rfl⟩
    obtain⟨g1,g2⟩:=go i H3 hi b3;refine⟨g1,fun y H4 hy=>?_⟩;obtain⟨rfl,rfl⟩:=g2 y H4 hy;refine mH ?_;refine hs i _ _ hi b3 fun z H5 pz b5=>?_;refine⟨_,b5.same _ _ uM d3,?_,n-(i+1),by omega,rfl,by omega,?_,⟨is++[z],?_,?_,?_⟩,_,rfl⟩
    · rw[aZ,li]
      have:(1000:Nat)<sizeLine:=by decide
      omega
    · have vF:=b3.trans b5
      refine⟨?_,fun b o n e=>?_⟩
      · obtain⟨c,m,e,ok⟩:=vF.bag
        exact⟨c,m,by rw[aV uM.symm];exact e,ok⟩
      ·rw[aV (eF e nw.no)];exact vF.same b o n e
    ·rw[br,hJ];rfl
    ·rw[dc,li];rfl
    · intro y hy
      rcases kd.mp hy with h|h
      ·exact pi y h
      ·rw[fP.mp h];exact pz
  · rintro σ H3 ⟨b3,⟨is,d3,li,pi⟩,v,rfl⟩
    exact⟨stop H3 b3,hq H3 is b3 d3 li pi⟩
theorem uc(ns:List Int){i:Int}(h0:0<=i)(h:i<ns.length):∃z,z∈ns/\fk (ns.map V.int) i=some (.int z):=by
 have hl:i.toNat<ns.length:=by omega
 exact⟨ns[i.toNat],mD hl,eO h0 (by rw[du,e9 hl];rfl)⟩
theorem jK{p:Addr}{H:Hp}{n:Nat}:∀(is:List Int),cI K p n H (is.map V.int) (is.map PyData.int) |[]=>.nil |i::r=>.cons (.int i) (jK r)
end
end Lw
namespace Ln
open PySem L2
end Ln
namespace L2
open PySem PySem.Spec PyProof.Rows
section
variable {prog:Hg}{w:World}{A:Hi}{E:Value->Hf->Prop}{s:Hf}
end
end L2
namespace L2
open PySem PySem.Spec PyProof.Rows
section
variable {X:Cx}
end
end L2
namespace L2
open PySem PySem.Spec PyProof.Rows
theorem pF:∀{zs:List Str}{us:List Value},Vals (zs.map V.str) us->CarriedAll us (zs.map PyData.str) |[],_,.nil=>.nil |z::zs,_,.cons q r=>by obtain⟨t,rfl⟩:=(show∃t,_=Value.str z t from q);exact .cons (.str z t) (pF r)
section
variable {X:Cx}
end
end L2
namespace L2
open PySem PySem.Spec PyProof.Rows
section
variable {X:Cx}{pins:List (Addr×Obj)}{σ:St}{H:Hp}{s:Hf}
end
end L2
namespace L2
open PySem PySem.Spec PyProof.Rows
section
variable {X:Cx}
end
end L2
namespace L2
open PySem PySem.Spec PyProof.Rows
section
variable {prog:Hg}{w:World}{A:Hi}{E:Value->Hf->Prop}{s:Hf}
end
end L2
namespace L2
open PySem PySem.Spec PyProof.Rows
theorem zY(K:He){X:Cx}(hK:X.K=K){a:Expr}{ta:TE}(ha:PE X a ta)(he:∀whole,isTrue a X.env whole=(do let v<-whole;standAt a.pos;holding [v] (truthy v)):=by intro _;rfl): PT X a (fun σ H Q=>ta σ H fun x H'=>∃k,pN K x H' k/\Q k H'):=by subst hK;exact zX ha he
section
variable {X:Cx}
end
end L2
namespace L2
open PySem PySem.Spec PyProof.Rows
section
variable {X:Cx}
open PyProof
end
end L2
namespace L2
open PySem PySem.Spec PyProof.Rows
section
variable {K:He} {H H' H2:Hp}
end
end L2
namespace L2
open PySem PySem.Spec PyProof.Rows
section
variable {X:Cx} {tg:Expr}
end
end L2
namespace L2
open PySem PySem.Spec PyProof.Rows
structure MA(K:He)(C:Addr)(m qual:Str)(st:Stmt):Prop where ex:∃f fd,Meth K C m f/\dA K m qual st f fd
def gU(P:Hg)(w:World)(K:He)(mg:Str->Option Value)(base:Heap)(C:Addr)(m:Str)(k:Nat)(sp:Sp):Prop:=∃f fd ps,cq P w K mg base cA k f fd ps sp/\Meth K C m f/\Binds K fd ps []
structure CA(K:He)(mg:Str->Option Value)(C:Addr)(x qual:Str)(st:Stmt):Prop where
 mgC:mg x=some (.ref C)
 ex:∃f fd,Mk K C f/\dA K "__init__" qual st f fd
def m6(P:Hg)(w:World)(K:He)(mg:Str->Option Value)(base:Heap)(C:Addr)(x:Str)(k:Nat)(sp:Sp):Prop:=∃f fd ps,cq P w K mg base cA k f fd ps sp/\Mk K C f/\Binds K fd ps []/\mg x=some (.ref C)
section
variable {P:Hg}{w:World}{K:He}{mg:Str->Option Value}{base:Heap}
theorem tQ{C:Addr}{m qual:Str}{st:Stmt}{f:Addr}{oc:Value}{od an:Option Addr}{bL:Array (Option Value)}{kV doc pm ah ct:Value} (a:PySem.W.findIn K (.ref C) m=some (some (.ref f)))(i:PySem.W.isFn K (.ref f)=true) (l:K.lookup f=some ⟨oc,od,.func (PySem.W.fnOf m qual (dj st) (bB st) (aw st) .none kV doc pm an ah ct),bL⟩) (c:PySem.W.codeIn K ah qual=true)(k:PySem.W.keepIn K (.ref f)=true):MA K C m qual st:=⟨f,_,⟨a,i,k⟩,p7 l c k⟩
theorem vw{h:Heap}{C:Addr}{x qual:Str}{st:Stmt}{f:Addr}{oc:Value}{od an:Option Addr}{bL:Array (Option Value)}{kV doc pm ah ct:Value}(X:K.In h)(G:h.Ns mainGlobals mg) (aC:PySem.W.nsIn K mainGlobals x=some (some (.ref C)))(mk:PySem.W.makesIn K C=true)(kc:PySem.W.keepIn K (.ref C)=true) (a:PySem.W.findIn K (.ref C) "__init__"=some (some (.ref f)))(i:PySem.W.isFn K (.ref f)=true) (l:K.lookup f=some ⟨oc,od,.func (PySem.W.fnOf "__init__" qual (dj st) (bB st) (aw st) .none kV doc pm an ah ct),bL⟩) (c:PySem.W.codeIn K ah qual=true)(k:PySem.W.keepIn K (.ref f)=true):CA K mg C x qual st:=⟨iP X G aC,f,_,⟨mk,a,i,kc⟩,p7 l c k⟩
theorem MA.has{C:Addr}{m qual:Str}{st:Stmt}{N ps:List Str}{k:Nat}{sp:Sp}(F:MA K C m qual st)(S:bb N ps (aw st))(len:∀vs H Q E,sp vs H Q E->vs.length=ps.length) (hb:∀(kV doc pm:Value)(an:Option Addr)(ah ct:Value)(us:List Value),us.length=ps.length->bindArgs (PySem.W.fnOf m qual (dj st) (bB st) (aw st) .none kV doc pm an ah ct) ⟨us,[]⟩=pure (ps.zip us)) (bZ:∀(f:Addr)(ah:Value)(A:Hi)(outer:List Env)(s:Hf)(H:Hp)(vs:List V)(Q:VK)(E:XK),ba k (A.deeper (envOfC qual (aw st) s.heap.objs.size f ah))->sp vs H Q E->∃t,bJ (cc cA P w K mg base N qual (aw st) f ah A outer s H E).fc (bB st) t/\t {nx:=fun _ H'=>Q .ax H',rt:=Q} (start N vs) H):gU P w K mg base C m (k+1) sp:=by obtain⟨f,fd,hm,F⟩:=F.ex;exact⟨f,fd,ps,F.ok S len fun ah A outer s H vs Q E=>bZ f ah A outer s H vs Q E,hm,F.binds hb⟩
theorem CA.has{C:Addr}{x qual:Str}{st:Stmt}{N ps:List Str}{k:Nat}{sp:Sp}(F:CA K mg C x qual st)(S:bb N ps (aw st))(len:∀vs H Q E,sp vs H Q E->vs.length=ps.length) (hb:∀(kV doc pm:Value)(an:Option Addr)(ah ct:Value)(us:List Value),us.length=ps.length->bindArgs (PySem.W.fnOf "__init__" qual (dj st) (bB st) (aw st) .none kV doc pm an ah ct) ⟨us,[]⟩=pure (ps.zip us)) (bZ:∀(f:Addr)(ah:Value)(A:Hi)(outer:List Env)(s:Hf)(H:Hp)(vs:List V)(Q:VK)(E:XK),ba k (A.deeper (envOfC qual (aw st) s.heap.objs.size f ah))->sp vs H Q E->∃t,bJ (cc cA P w K mg base N qual (aw st) f ah A outer s H E).fc (bB st) t/\t {nx:=fun _ H'=>Q .ax H',rt:=Q} (start N vs) H):m6 P w K mg base C x (k+1) sp:=by obtain⟨f,fd,hm,F'⟩:=F.ex;exact⟨f,fd,ps,F'.ok S len fun ah A outer s H vs Q E=>bZ f ah A outer s H vs Q E,hm,F'.binds hb,F.mgC⟩
end
section
variable {X:Cx}{k:Nat}{x m:Str}{C:Addr}{p pos apos:Pos}{o e:Expr}{es:List Expr}{t:TA}{ta:TE}{sp:Sp}
inductive pU(C:Addr)(m:Str)(sp:Sp)(t:TA)(σ:St)(Q:VK)(x:V)(H1:Hp):Prop |mk (a:_)(dx:_)(fs:_)(h0:x= .ref a)(h1:H1 a=some (.ins C dx fs))(h2:fs.lookup m=none)(h3:t σ H1 fun vs H2=>sp (x::vs) H2 Q E0):pU C m sp t σ Q x H1
def qL(C:Addr)(m:Str)(sp:Sp)(ta:TE)(t:TA):TE:=fun σ H Q=>ta σ H fun x H1=>pU C m sp t σ Q x H1
theorem tK{σ:St}{Q:VK}{x:V}{H1:Hp}:jS C m sp [] E0 t σ Q x H1=pU C m sp t σ Q x H1:=by
 have e1:(fun(vs:List V) H1=>sp (x::(vs++[])) H1 Q E0)=fun vs H1=>sp (x::vs) H1 Q E0:=by funext vs H1;rw[gv]
 refine propext ⟨fun⟨a,dx,fs,h0,h1,h2,h3⟩=>⟨a,dx,fs,h0,h1,h2,?_⟩,fun⟨a,dx,fs,h0,h1,h2,h3⟩=>⟨a,dx,fs,h0,h1,h2,?_⟩⟩
 ·rw[<-e1];exact h3
 ·rw[e1];exact h3
theorem Ab{pl:Sem Bool}(F:gU X.prog X.w X.K X.mg X.base C m k sp)(c:d6 X.K C)(hr:ba k X.A)(he:PE X o ta)(ha:PA X (e::es) t) (cQ:starEach (e::es) X.env=(false,eval e X.env)::starEach es X.env:=by rfl)(bA:(backTo pos (starEach es X.env)).any (·.1)=false:=by rfl) (ht:eval (.Call (.Attribute o m apos) (e::es) [] pos) X.env=(do
     let ov<-eval o X.env
     standAt apos.atName
     let(f,first)<-holding [ov] (getMethod ov m pl)
     callWith pos f first (backTo pos (starEach (e::es) X.env)) (backToKw pos (keywordEach [] X.env))):=by rfl): PE X (.Call (.Attribute o m apos) (e::es) [] pos) (qL C m sp ta t):=by
  obtain⟨f,fd,ps,F,hm,hb⟩:=F;have h:=Af (pos:=pos) (apos:=apos) (pl:=pl) he c hm F hr hb .nil jf ha cQ bA ht;intro pins s σ H Q I hq;refine h pins s σ H Q I ?_;show ta σ H fun x H1=>jS C m sp [] E0 t σ Q x H1;simp only[tK];exact hq
theorem Aa{pl:Sem Bool}(F:gU X.prog X.w X.K X.mg X.base C m k sp)(c:d6 X.K C)(hr:ba k X.A)(he:PE X o ta) (ht:eval (.Call (.Attribute o m apos) [] [] pos) X.env=(do
     let ov<-eval o X.env
     standAt apos.atName
     let(f,first)<-holding [ov] (getMethod ov m pl)
     callWith pos f first (backTo pos (starEach [] X.env)) (backToKw pos (keywordEach [] X.env))):=by rfl): PE X (.Call (.Attribute o m apos) [] [] pos) (qL C m sp ta kv):=by
  obtain⟨f,fd,ps,F,hm,hb⟩:=F;have h:=Ae (pos:=pos) (apos:=apos) (pl:=pl) he c hm F hr hb .nil jf ht;intro pins s σ H Q I hq;refine h pins s σ H Q I ?_;show ta σ H fun x H1=>jS C m sp [] E0 kv σ Q x H1;simp only[tK];exact hq
def yI(C:Addr)(sp:Sp)(t:TA):TE:=fun σ H Q=>t σ H fun vs H1=>∀x dx,H1 x=none->H1 dx=none->dx≠x->sp (.ref x::vs) (upd (upd H1 dx (.own x)) x (.ins C dx [])) (fun v H2=>v= .ax/\Q (.ref x) H2) E0
theorem Ad(F:m6 X.prog X.w X.K X.mg X.base C x k sp)(hr:ba (k+1) X.A)(hg:Gl X x)(ha:PA X (e::es) t)(bQ:(x==("__debug__":Str))=false:=by decide) (he:starEach (e::es) X.env=(false,eval e X.env)::starEach es X.env:=by rfl)(bA:(backTo pos (starEach es X.env)).any (·.1)=false:=by rfl): PE X (.Call (.Name x p) (e::es) [] pos) (yI C sp t):=by
  obtain⟨f,fd,ps,F,M,hb,hm⟩:=F;have h:=sS (pos:=pos) (p:=p) M F hr hg hm hb .nil jf ha bQ he bA;intro pins s σ H Q I hq;refine h pins s σ H Q I ?_;have e1:(fun(vs:List V) H1=>∀x dx,H1 x=none->H1 dx=none->dx≠x->sp (.ref x::(vs++[])) (upd (upd H1 dx (.own x)) x (.ins C dx [])) (fun v H2=>v= .ax/\Q (.ref x) H2) E0) =fun vs H1=>∀x dx,H1 x=none->H1 dx=none->dx≠x->sp (.ref x::vs) (upd (upd H1 dx (.own x)) x (.ins C dx [])) (fun v H2=>v= .ax/\Q (.ref x) H2) E0:=by funext vs H1;rw[gv]
  show t σ H fun vs H1=>∀x dx,H1 x=none->H1 dx=none->dx≠x->sp (.ref x::(vs++[])) (upd (upd H1 dx (.own x)) x (.ins C dx [])) (fun v H2=>v= .ax/\Q (.ref x) H2) E0;rw[e1];exact hq
inductive xo(C:Addr)(x:Str)(Q:VK)(v:V)(H1:Hp):Prop |mk (a dx:Addr)(fs:List (Str×V))(u:V)(h0:v= .ref a)(h1:H1 a=some (.ins C dx fs))(h2:fs.lookup x=some u)(h3:Q u H1):xo C x Q v H1
theorem nT(T:d6 X.K C)(hn:cE X.K C x)(he:PE X e ta)(hb:attributeBase e x X.env (eval e X.env)=eval e X.env:=by rfl): PE X (.Attribute e x pos) (fun σ H Q=>ta σ H fun v H1=>xo C x Q v H1):=by intro pins s σ H Q I h;refine FN hb (ak (he pins s σ H _ I h) fun u s1 ⟨v,H1,I1,rx,a,dx,fs,w,ex,ea,l,q⟩=>?_);subst ex;obtain rfl:u=Value.ref a:=rx;exact Ep I1 ea T hn l fun u' s2 I2 ru=>⟨w,H1,I2,ru,q⟩
inductive xj(C:Addr)(x:Str)(D:Ends)(σ:St)(y v:V)(H2:Hp):Prop |mk (a dx:Addr)(fs:List (Str×V))(h0:v= .ref a)(h1:H2 a=some (.ins C dx fs))(h2:fs.length<1000)(h3:D.nx σ (upd H2 a (.ins C dx (cK x y fs)))):xj C x D σ y v H2
theorem ej{value:Expr}{tv:TE}{pos':Pos}(T:d6 X.K C)(hn:cE X.K C x)(ha:PE X o ta)(hv:PE X value tv)(hs:swapsWith value (some (.Attribute o x pos')) pos.line X.env=pure false:=by rfl): PS X (.Assign [.Attribute o x pos'] value pos) (fun D σ H=>tv σ H fun y H1=>ta σ H1 fun v H2=>xj C x D σ y v H2):=by intro pins s σ H D I h;refine plainObj_wpAny_Assign_Attribute (ak (hv pins s σ H _ I h) fun u s1 ⟨y,H1,I1,ry,q⟩=>ak (ha pins s1 σ H1 _ I1 q) fun ov s2 ⟨v,H2,I2,rx,a,dx,fs,ex,ea,l,q2⟩=>?_) hs;subst ex;obtain rfl:ov=Value.ref a:=rx;exact zk I2 ea T hn l ry fun s3 I3=>⟨σ,_,I3,q2⟩
end
def xy(S:List Addr)(H H':Hp):Prop:=∀b o,H b=some o->b∉S->H' b=some o
section
variable {K:He} {H H' H2:Hp}
end
end L2
namespace L2
open PySem PySem.Spec PyProof.Rows
section
variable {X:Cx}
end
end L2
set_option exponentiation.threshold 6000
namespace L2
open PySem PySem.Spec PyProof.Rows
section
variable {X:Cx}
theorem pG:bR X (.type "str") (fun xs H Q=>(∃i,xs=[.int i]/\i.natAbs.log2<1920/\Q (.str (toString i)) H)\/∃z,xs=[.str z]/\Q (.str z) H):=by
 intro pins s σ H xs us Q I r h;rcases h with⟨i,rfl,hz,q⟩|⟨z,rfl,q⟩
 · obtain⟨u,rfl,t,rfl⟩:=vals1 r
   exact PySem.P.str_of_int hz ⟨.str _,H,I.tok _,⟨_,rfl⟩,q⟩
 · obtain⟨u,rfl,t,rfl⟩:=vals1 r
   exact PySem.P.str_of_str ⟨.str _,H,I,⟨_,rfl⟩,q⟩
def zQ(x:V)(H:Hp)(Q:VK):Prop:=(∃i,x= .int i/\i.natAbs.log2<1920/\Q (.str (toString i)) H)\/∃z,x= .str z/\z.length<=sizeLine/\Q (.str z) H
theorem Al{e:Expr}{te:TE}{pos:Pos}(h:PE X e te):PE X (.FormattedValue e (-1) none pos) (fun σ H Q=>te σ H fun x H'=>zQ x H' Q):=by
 intro pins s σ H Q I ht;refine wpAny_FormattedValue_plain (ak (h pins s σ H _ I ht) fun v s1 ⟨x,H1,I1,r1,q1⟩=>?_);rcases q1 with⟨i,rfl,hz,q⟩|⟨z,rfl,hz,q⟩
 · obtain⟨t,rfl⟩:=r1
   exact wpAny_formatField_int hz ⟨.str _,H1,I1.tok _,⟨_,rfl⟩,q⟩
 · obtain⟨t,rfl⟩:=r1
   exact wpAny_formatField_str ⟨.str _,H1,I1,⟨_,rfl⟩,q⟩ ⟨.str _,H1,I1.tok _,⟨_,rfl⟩,q⟩ hz
abbrev TJ:=Str->St->Hp->VK->Prop
def PJ(X:Cx)(es:List Expr)(t:TJ):Prop:=∀(pins:List (Addr×Obj))(s:Hf)(σ:St)(H:Hp)(Q:VK)(acc:Str),Inv X pins σ H s->t acc σ H Q->Joins (model X.prog X.w) X.A X.xe (evalEach es X.env) acc (fun out s₁=>out.length<=sizeLine/\EP X pins σ Q (.str out s₁.toks) {s₁ with toks:=s₁.toks+1}) s
theorem A4:PJ X [] (fun acc σ H Q=>acc.length<=sizeLine/\Q (.str acc) H):=by intro pins s σ H Q acc I h;exact⟨h.1,.str _,H,I.tok _,⟨_,rfl⟩,h.2⟩
theorem sL{e:Expr}{es:List Expr}{te:TE}{tj:TJ}(h:PE X e te)(hj:PJ X es tj)(he:evalEach (e::es) X.env=eval e X.env::evalEach es X.env:=by rfl): PJ X (e::es) (fun acc σ H Q=>te σ H fun x H'=>∃y,x= .str y/\(acc++y).length<=sizeLine/\tj (acc++y) σ H' Q):=by intro pins s σ H Q acc I ht;rw[he];refine ak (h pins s σ H _ I ht) fun v s1 ⟨x,H1,I1,r1,q1⟩=>?_;obtain⟨y,rfl,hl,q⟩:=q1;obtain⟨t,rfl⟩:=r1;exact⟨y,t,rfl,hl,hj pins s1 σ H1 Q _ I1 q⟩
theorem Ag{e1 e2:Expr}{es:List Expr}{t:TJ}{pos:Pos}(h:PJ X (e1::e2::es) t):PE X (.JoinedStr (e1::e2::es) pos) (fun σ H Q=>t Str.empty σ H Q):=fun pins s σ H Q I ht=>wpAny_JoinedStr (h pins s σ H Q _ I ht)
inductive wO(K:He)(x:V)(vs:List V)(H:Hp)(Q:VK):Prop |mk (sep:Str)(l:Addr)(zs:List Str)(h0:x= .str sep)(h1:vs=[.ref l])(h2:aq K H l (zs.map V.str))(h3:(∀z∈zs,z.length<=4000))(h4:sep.length<=8)(h5:zs.length<=1000)(h6:Q (.str (Txt.join sep zs)) H):wO K x vs H Q
def sC(K:He):V->List V->Hp->VK->Prop:=fun x vs H Q=>wO K x vs H Q
theorem BD(K:He)(hK:X.K=K):iK X "str.join" (sC K):=by subst hK;intro pins s σ H x vs v us Q I rx rv h;obtain⟨sep,l,zs,rfl,rfl,hl,hz,hs,hn,q⟩:=h;obtain⟨t,rfl⟩:=rx;obtain⟨u,rfl,ru⟩:=vals1 rv;cases(show u=Value.ref l from ru);obtain⟨its,r,pl,_⟩:=I.list hl;have oA:=sumLen_le_of_bound id 4000 zs hz;rw[List.map_id]at oA;have h1:zs.length*sep.length<=1000*8:=Nat.mul_le_mul hn hs;refine join_list (ys:=zs) pl.isList (StrsAre.of_carried (pF r)) (by omega) fun t' k=>?_;exact⟨.str _,H,I.tok _,⟨_,rfl⟩,q⟩
theorem sV(K:He)(h:X.K=K){o e:Expr}{to:TE}{t:TA}{apos aF:Pos}(ho:PE X o to)(ha:PA X [e] t) (cU:attributeBase o "join" X.env (eval o X.env)=eval o X.env:=by rfl) (cT:((backTo aF (starEach [e] X.env)).all (fun x=>!x.1)&&(backToKw aF (keywordEach [] X.env)).all (fun x=>x.1.isSome) &&decide ([e].length+([]:List Keyword).length+(if([]:List Keyword).isEmpty then 0 else 1)<30))=true:=by rfl) (cS:(apos.endLine==aF.line)=true:=by rfl)(hs:starEach [e] X.env=(false,eval e X.env)::starEach [] X.env:=by rfl)(cR:(backTo aF (starEach [] X.env)).any (·.1)=false:=by rfl): PE X (.Call (.Attribute o "join" apos) [e] [] aF) (gz K "str" (sC K) to t):=by subst h;exact ie qe PySem.F.slot_str_join PySem.F.type_str_join (BD X.K rfl) ho ha cU cT cS hs cR
theorem yi{i:Int}(h:i.natAbs<10^40):(Str.ofString (toString i)).length<=41:=by rw[PySem.ofString_length];exact int_text_length_le10 (k:=40) (by decide) h
theorem BU{i:Int}(h:i.natAbs<10^40):i.natAbs.log2<1920:=by
 by_cases h0:i.natAbs=0
 ·rw[h0];decide
 ·exact(Nat.log2_lt h0).mpr (mz h (by decide))
theorem vq:∀(l:List (Str×Tok)),Vals ((l.map (·.1)).map V.str) (strValues l) |[]=>.nil |(z,t)::l=>.cons ⟨t,rfl⟩ (vq l)
theorem split_len(x y:Str):(Txt.split x y).length<=x.length+2:=by
 unfold Txt.split;split
 ·simp
 · split
   ·simp
   · have e1:=StrLaws.occ_length_le x y 0 x.length (x.length+1)
     rw[length_partsBetween];omega
inductive wH(x:V)(vs:List V)(H:Hp)(Q:VK):Prop |mk (z y:Str)(h0:x= .str z)(h1:vs=[.str y])(h2:(y.length==0)=false)(h3:z.length+2<=sizeLine)(h4:∀p H',Nw H H' p (.lst ((Txt.split z y).map V.str))->Q (.ref p) H'):wH x vs H Q
def sA:V->List V->Hp->VK->Prop:=fun x vs H Q=>wH x vs H Q
theorem BC:iK X "str.split" sA:=by
 intro pins s σ H x0 vs v us Q I rx rv h;obtain⟨x,y,rfl,rfl,hy,hz,q⟩:=h;obtain⟨t,rfl⟩:=rx;obtain⟨u0,rfl,u,rfl⟩:=vals1 rv;have key:∀(l:List (Str×Tok))(k:Nat),l.map (·.1)=Txt.split x y->EP X pins σ Q (.ref s.heap.objs.size) {s with toks:=k,heap:=s.heap.push {cls:=.type "list",data:=.seq (strValues l).toArray}}:=fun l k e=>by have nw:Nw H (upd H s.heap.objs.size (.lst ((Txt.split x y).map V.str))) s.heap.objs.size (.lst ((Txt.split x y).map V.str)):=.of (I.hok.fresh (aJ _));refine⟨.ref s.heap.objs.size,_,I.laid (t':=k) (o:=.lst ((Txt.split x y).map V.str)) (fun b ob q=>aY _ q) (aJ _) ?_,rfl,q _ _ nw⟩;have:=split_len x y;exact⟨by rw[aZ];omega,_,0,by rw[<-e];exact vq l,bP _ rfl⟩
 cases h1:(decide (x.length<y.length)||decide (Builtin.Str.strKind x<Builtin.Str.strKind y))
 · cases hf:(Builtin.Str.occurrences x y 0 x.length (x.length+1)).isEmpty
   · have e1:=StrLaws.occ_length_le x y 0 x.length (x.length+1)
     refine k6 F.slot_str_split (typeIs_str _ _ _) F.entry_str_split (F.args_str_split_2 _ _) (meets_str_split_sep x y t u h1 hy hf (by omega) (by rw[length_partsBetween];omega)) ?_;show wants _ _ _ {s with toks:=_,heap:=s.heap.push {cls:=.type "list",data:=.seq (strsFrom s.toks (Builtin.Str.partsBetween x (Builtin.Str.occurrences x y 0 x.length (x.length+1)) y.length)).toArray}};rw[strsFrom_eq];exact key (numbered s.toks _) _ ((numbered_texts _ _).trans ((aI (xC h1)).trans (aI (xC hf))).symm)
   ·exact k6 F.slot_str_split (typeIs_str _ _ _) F.entry_str_split (F.args_str_split_2 _ _) (meets_str_split_not_found x y t u h1 hy hf) (key [(x,t)] s.toks ((aI (xC h1)).trans (aK hf)).symm)
 ·exact k6 F.slot_str_split (typeIs_str _ _ _) F.entry_str_split (F.args_str_split_2 _ _) (meets_str_split_cannot_occur x y t u h1) (key [(x,t)] s.toks (aK h1).symm)
theorem As(K:He)(h:X.K=K){o e:Expr}{to:TE}{t:TA}{apos aF:Pos}(ho:PE X o to)(ha:PA X [e] t) (cU:attributeBase o "split" X.env (eval o X.env)=eval o X.env:=by rfl) (cT:((backTo aF (starEach [e] X.env)).all (fun x=>!x.1)&&(backToKw aF (keywordEach [] X.env)).all (fun x=>x.1.isSome) &&decide ([e].length+([]:List Keyword).length+(if([]:List Keyword).isEmpty then 0 else 1)<30))=true:=by rfl) (cS:(apos.endLine==aF.line)=true:=by rfl)(hs:starEach [e] X.env=(false,eval e X.env)::starEach [] X.env:=by rfl)(cR:(backTo aF (starEach [] X.env)).any (·.1)=false:=by rfl): PE X (.Call (.Attribute o "split" apos) [e] [] aF) (gz K "str" sA to t):=by subst h;exact ie qe PySem.F.slot_str_split PySem.F.type_str_split BC ho ha cU cT cS hs cR
end
section
variable {X:Cx}
inductive xh(K:He)(t1 t2:TG)(v:V)(σ:St)(H:Hp)(Q:St->Hp->Prop):Prop |mk (a:Addr)(x:V)(xs:List V)(h0:v= .ref a)(h1:aq K H a (x::xs))(h2:xs.length<=16000)(h3:∀p H',Nw H H' p (.lst xs)->t1 x σ H' fun σ1 H1=>t2 (.ref p) σ1 H1 Q):xh K t1 t2 v σ H Q
def EA(K:He)(t1 t2:TG):TG:=fun v σ H Q=>xh K t1 t2 v σ H Q
theorem A9(K:He)(hK:X.K=K){e1 e2:Expr}{k:Nat}{t1 t2:TG}{sp pos:Pos}(hc:X.calm=true)(h1:PG X e1 t1)(h2:PG X e2 t2) (hs:assignEach [e1,.Starred e2 sp] X.env=[(false,assign e1 X.env),(true,assign e2 X.env)]:=by rfl):PG X (.Tuple [e1,.Starred e2 sp] k pos) (EA K t1 t2):=by subst hK;intro pins s σ H v u Q I r hw;obtain⟨a,x,xs,e,hq,hl,hw⟩:=hw;subst e;cases r;obtain⟨its,rv,ht,hz⟩:=I.list hq;have hh:X.A.handled=none:=I.ok.hd hc;have jw:=ht.isList;cases rv with |cons r1 rr=>
    rename_i ux cB;have hlen:=rr.length;have bX:a≠s.heap.objs.size:=by obtain⟨o,ho,_⟩:=jw;exact cg (aU ho)
    rw[assign_Tuple];refine ae (wpAny_standAt ?_);unfold unpack;rw[hs];refine ae (dB ?_);show wpAny _ _ (unpackItems (.ref a) 2 (some 1)) _ _ _;unfold unpackItems;refine ae ?_;unfold notIterableAtAll;refine ae (pY jw.typeIs slot_list_iter.lookup ?_);refine aE ?_;simp only[Bool.false_eq_true,if_false];refine ae (dB (wpAny_pyIter_list jw ?_));have sz:(ux::cB).toArray.size=xs.length+1:=by rw[bC,fR,hlen]
    refine ae (dB (PySem.W.kun_draw bX 1 0 _ _ ⟨_,bP _ rfl,rfl,rfl⟩ (jw.push _) (by omega) fun h₁ oK uj=>?_));have uy:h₁.IsList a (ux::cB).toArray:=(jw.push _).extBut uj.extBut bX;rw[Nat.zero_add]at oK;have D9:=oK;obtain⟨oi,fg,_⟩:=D9;have CY:=uy;obtain⟨ol,CN,_⟩:=CY;rw[aI (by simp)];refine ae (dB (PySem.W.kun_collect (s:={s with heap:=h₁}) (T:="list_iterator") (.inr (.inr (.inl rfl))) (Walks.list (A:=X.A.in1) hh s.heap.objs.size a bX (ux::cB).toArray) (fun j u st=>st.1.typeIs) (k:=1) (by omega) ⟨oK,uy⟩ (aU fg) (aU CN) (fun h₂ tk hk=>?_) (by rw[k4];omega)));have ea:(ux::cB).toArray.toList.drop 1=cB:=by simp
    rw[ea];show wpAny _ _ (if cB.length<2-1-1 then _ else _) _ _ _;rw[aI (by omega)];show wpAny _ _ (newList (cB.take (cB.length-(2-1-1)))>>=fun d=>pure ((ux::cB).toArray.toList.take 1++[d]++cB.drop (cB.length-(2-1-1)))) _ _ _;have eb:cB.take (cB.length-(2-1-1))=cB:=List.take_of_length_le (by omega);have ec:cB.drop (cB.length-(2-1-1))=[]:=List.drop_eq_nil_of_le (by omega);rw[eb,ec];have he:Heap.ExtBut s.heap.objs.size s.heap h₂:=fun b o hb e=>hk b o hb (uj.extBut b o hb (aY _ e));refine ae (wpAny_newList (s:={s with heap:=h₂,toks:=tk}) (aE ?_) ?_)
    · have I2:Inv X pins σ H {s with heap:=h₂,toks:=tk}:=I.kept (t':=tk) fun b o e=>he b o (cg (aU e)) e
      have nw:Nw H (upd H h₂.objs.size (.lst xs)) h₂.objs.size (.lst xs):=.of (I2.hok.fresh (aJ _));have I3:Inv X pins σ (upd H h₂.objs.size (.lst xs)) {s with heap:=h₂.push {cls:=.type "list",data:=.seq cB.toArray},toks:=tk}:=I2.laid (t':=tk) (o:=.lst xs) (fun b ob q=>aY _ q) (aJ _) ⟨by rw[fR]at hz;omega,cB,0,rr,bP _ rfl⟩;show wpAny _ _ (assignInOrder (assign e1 X.env::[assign e2 X.env]) (ux::[Value.ref h₂.objs.size])) _ _ _;refine assignInOrder_cons (ak (h1 pins _ σ _ _ _ _ I3 r1 (hw _ _ nw)) fun _ s1 ⟨σ1,H1,I1,q1⟩=>?_);refine assignInOrder_cons (ak (h2 pins s1 σ1 H1 (.ref h₂.objs.size) _ _ I1 rfl q1) fun _ s2 ⟨σ2,H2,I2,q2⟩=>?_);exact assignInOrder_nil ⟨σ2,H2,I2,q2⟩
    ·rw[<-hlen,k4];omega
end
end L2
namespace L2
open PySem PySem.Spec PyProof.Rows
section
variable {X:Cx} {tg:Expr}
end
end L2
namespace L2
open PySem PySem.Spec PyProof.Rows
theorem zA:typeLookup (.type "list_reverseiterator") "__len__"=pure none:=by rw[typeLookup_type,builtinLookup_eq_fast];kernel_rfl
theorem zC:typeLookup (.type "list_reverseiterator") "__length_hint__"=pure (some (.builtin "list_reverseiterator.__length_hint__")):=by rw[typeLookup_type,builtinLookup_eq_fast];kernel_rfl
section
variable {prog:Hg}{w:World}{A:Hi}{E:Value->Hf->Prop}{s:Hf}
def lZ(I l:Addr)(its:Array Value)(i:Nat)(s:Hf):Prop:=i<=its.size/\s.heap.IsRevIter I l ((its.size:Int)-1-(i:Int))/\s.heap.IsList l its
theorem zx(hh:A.handled=none)(I l:Addr)(gM:l≠I)(its:Array Value): WalksS prog w A I [I,l] [I] Eq its.size (fun i v=>its[its.size-1-i]? =some v) (lZ I l its) where
  sub:=fun b hb=>bV.mpr (.inl (fP.mp hb))
  grefl:=fun _=>rfl
  gtrans:=fun _ _ _=>Eq.trans
  frame:=fun i s h' tk x _ hk=>⟨x.1,x.2.1.at fun o e=>hk I (by simp) o e,x.2.2.at fun o e=>hk l (by simp) o e⟩
  item:=fun i s Q E hi x hQ=>by
   have e:(its.size:Int)-1-(i:Int)=((its.size-1-i:Nat):Int):=by omega
   have hit:=x.2.1;rw[e]at hit;refine wpAny_pyNext_rev_item hit x.2.2 (qw (i:=its.size-1-i) (by omega)) fun h' Dd dh=>?_;refine hQ _ {s with heap:=h'} (qw (by omega)) ⟨hi,?_,x.2.2.at fun o eo=>(dh.2 l gM).trans eo⟩ ⟨fun b o hb eo=>dh.extBut b o (fun z=>hb (fP.mpr z)) eo,rfl,rfl,rfl,aJ _⟩;have e2:((its.size-1-i:Nat):Int)-1=(its.size:Int)-1-((i+1:Nat):Int):=by omega
   rw[<-e2];exact Dd
  done:=fun s Q E x hQ=>by have hit:=x.2.1;rw[show(its.size:Int)-1-(its.size:Int)=-1 by omega]at hit;exact wpAny_pyNext_rev_end hh hit fun h' Dr=>hQ {s with heap:=h'} ⟨fun b o hb eo=>Dr b o (fun z=>hb (fP.mpr z)) eo,rfl,rfl,rfl,aJ _⟩
  self:=fun _ _ _ _ x hQ=>wpAny_pyIter_revIter x.2.1 hQ
theorem zD{I l:Addr}{its:Array Value}{Q:List Value->Hf->Prop}(hh:A.handled=none)(gM:l≠I)(x:lZ I l its 0 s)(hI:I<s.heap.objs.size)(hl:l<s.heap.objs.size)(hn:its.size<=sizeLine) (hQ:∀s' acc,Moved [I] Eq s s'->ItemsOf (fun i v=>its[its.size-1-i]? =some v) acc its.size->Q acc.toList s'):wpAny (model prog w) A (collect (.ref I)) Q E s:=by
  have W:=zx (prog:=prog) (w:=w) (A:=A.in1) hh I l gM its;have hT:∀{i s},lZ I l its i s->s.TypeIs (.ref I) "list_reverseiterator":=fun y=>y.2.1.typeIs;obtain⟨S,hS⟩:∃S,s.heap.objs.size=S:=⟨_,rfl⟩;let nw:Obj:={cls:=.type "list",data:=.seq ([]:List Value).toArray};have uI:S≠I:=k9 (hS▸hI);have E6:S≠l:=k9 (hS▸hl);have E7:S∉[I,l]:=by simp[uI,E6]
  have sf:Builtin.List.listSameRef (.ref S) (.ref I)=false:=by simp[Builtin.List.listSameRef,uI]
  have y:=W.frame 0 s (s.heap.push nw) s.toks x (aJ _) fun b _ o e=>aY _ e;have aS:(s.heap.push nw).get? S=some nw:=by rw[<-hS];exact bP _ rfl
  unfold collect;apply ae;apply wpAny_runValue;apply codeAny_builtin F.entry_proto_collect;rw[Around.under_plainId F.plain_proto_collect _];apply ae (m:=newList []);refine gq ?_;rw[hS];refine aE ⟨plainId_quiet F.plain_list_iadd _,codeAny_builtin F.entry_list_iadd ?_⟩;rw[Around.under_plainId F.plain_list_iadd _];show wpAny _ A.in1 (Builtin.List.listExtendWith (.ref S) (.ref I) (.ref S)) _ _ _;unfold Builtin.List.listExtendWith;apply ae;apply me (hT y);rw[aI (by rw[sf];decide)];apply ae;apply W.self 0 _ _ _ y;apply ae;apply dB;unfold Builtin.List.listLengthHint;apply ae;apply pY (hT y) zA;apply ae (m:=specialOf (Value.ref I) (Str.ofString "__length_hint__"));apply pY (hT y) zC
  (generalize uz:("list_reverseiterator.__length_hint__":String)=z0;wp_delta;rw[show splitId z0=some ("list_reverseiterator","__length_hint__")from by subst uz;decide+kernel];subst uz);apply ae;apply wpAny_isInstance (b:=true) (hT y) (by rw[isSubtype_type];kernel_rfl);apply aE;rw[aI (by decide)];refine aE ⟨plainId_quiet F.plain_extend_loop _,codeAny_extend_loopS W hn _ E7 _ its.size 0 _ _ _ rfl (fO _) y aS (ItemsOf.nil _) fun s' FW c' hm jB iC=>?_⟩;apply ae (m:=load S);apply wpAny_load jB;exact aE (hQ s' FW (Moved.drop_new (o:=nw) (tk:=s.toks) (hS▸hm) (aJ _)) iC)
theorem zy(sep:Str):∀(ps:List (Str×Tok)),JoinOk sep (ps.map (·.1))=true->Gives (PySem.joinTail sep (strValues ps)) (joinMade sep ps) |[],h=>gives_joinTail sep [] ((kf _).mp h) |[p],h=>gives_joinTail sep [p] ((kf _).mp h) |p::q::r,h=>gives_joinTail sep (p::q::r) ((kf _).mp h)
theorem zB{I l:Addr}{its:Array Value}{zs:List Str}{sep:Str}{t:Tok}{Q:Value->Hf->Prop}(hh:A.handled=none)(gM:l≠I)(x:lZ I l its 0 s)(hI:I<s.heap.objs.size)(hl:l<s.heap.objs.size) (hz:StrsAre its.toList zs)(hn:its.size<=sizeLine)(hok:(zs.map (·.length)).sum+zs.length*sep.length<=16777216) (hQ:∀h' t' k,(∀b o,b≠I->s.heap.get? b=some o->h'.get? b=some o)->Q (.str (Txt.join sep zs.reverse) t') {s with heap:=h',toks:=k}): wpAny (model prog w) A (call (.builtin "str.join") [.str sep t,.ref I]) Q E s:=by
  have hT:s.TypeIs (.ref I) "list_reverseiterator":=x.2.1.typeIs;apply jY;refine xF F.slot_str_join.plain F.entry_str_join (F.slot_str_join.check _ _ _ _ _ _ _ _ (typeIs_str _ _ _) (F.args_str_join_2 _ _) ?_);rw[join_tree_other];refine ae (me hT ?_);show wpAny _ A.in1 ((pyIter (.ref I)).tryCatch _>>=fun it=>collect it>>=fun vs=>PySem.joinTail sep vs) _ _ s;refine ae (wpAny_tryCatch (wpAny_pyIter_revIter x.2.1 ?_));refine ae (zD hh gM x hI hl hn fun s' acc hm iC=>?_);have ea:acc.toList=its.toList.reverse:=by
   refine List.ext_getElem? fun j=>?_;by_cases hj:j<its.size
   · have h1:=iC.2 j _ (qw (by rw[iC.1];exact hj))
     rw[List.getElem?_reverse (by simpa using hj),gw,xX,xX];exact(qw (by rw[iC.1];exact hj)).trans h1.symm
   ·exact(List.getElem?_eq_none (by rw[gw,iC.1];omega)).trans (List.getElem?_eq_none (by rw[List.length_reverse,gw];omega)).symm
  obtain⟨ps,hv,ht⟩:=strsAre_values hz;have ev:strValues ps.reverse=acc.toList:=by rw[ea,hv];unfold strValues;rw[xS]
  have et:(ps.reverse).map (·.1)=zs.reverse:=by rw[xS,ht]
  have ok:JoinOk sep (ps.reverse.map (·.1))=true:=joinOk_of (by rw[et,xS,List.sum_reverse,List.length_reverse];exact hok);rw[<-ev];have Bh:=(kf _).mp ok;have post:(Txt.join sep (ps.reverse.map (·.1))).length<=sizeLine/\∀t' k,Q (.str (Txt.join sep (ps.reverse.map (·.1))) t') {s' with toks:=k}:=by
   refine⟨joinFit_length Bh,fun t' k=>?_⟩;rw[et];have e:({s' with toks:=k}:Hf)={s with heap:=s'.heap,toks:=k}:=by rcases s' with⟨a,b,c,d,f⟩;have e1:_=b:=hm.gens;have e2:c=_:=hm.drawn;have e3:f=_:=hm.os;subst e1 e2 e3;rfl
   rw[e];exact hQ _ t' k fun b o hb eo=>hm.heap b o (fun z=>hb (fP.mp z)) eo
  exact zy sep ps.reverse ok prog w A (wants Q E) s' (post_join ps.reverse post)
end
section
variable {X:Cx}
inductive wQ(K:He)(x:V)(vs:List V)(H:Hp)(Q:VK):Prop |mk (sep:Str)(l:Addr)(zs:List Str)(h0:x= .str sep)(h1:vs=[.ref l])(h2:aq K H l (zs.map V.str))(h3:(∀z∈zs,z.length<=4000))(h4:sep.length<=8)(h5:zs.length<=1000)(h6:Q (.str (Txt.join sep zs.reverse)) H):wQ K x vs H Q
def yN(K:He)(to:TE)(t:TA):TE:=fun σ H Q=>to σ H fun x H1=>mJ K "str" x H1/\t σ H1 fun vs H2=>wQ K x vs H2 Q
theorem Au(K:He)(h:X.K=K){o a:Expr}{to:TE}{t:TA}{apos aF p pos:Pos}(hg:Gl X "reversed")(hm:X.mg "reversed"=none)(ho:PE X o to)(ha:PA X [a] t)(hc:X.calm=true:=by rfl) (cU:attributeBase o "join" X.env (eval o X.env)=eval o X.env:=by rfl) (cT:((backTo aF (starEach [.Call (.Name "reversed" p) [a] [] pos] X.env)).all (fun x=>!x.1)&&(backToKw aF (keywordEach [] X.env)).all (fun x=>x.1.isSome) &&decide ([Expr.Call (.Name "reversed" p) [a] [] pos].length+([]:List Keyword).length+(if([]:List Keyword).isEmpty then 0 else 1)<30))=true:=by rfl) (cS:(apos.endLine==aF.line)=true:=by rfl)(hs:starEach [.Call (.Name "reversed" p) [a] [] pos] X.env=(false,eval (.Call (.Name "reversed" p) [a] [] pos) X.env)::starEach [] X.env:=by rfl) (cR:(backTo aF (starEach [] X.env)).any (·.1)=false:=by rfl)(CL:starEach [a] X.env=[(false,eval a X.env)]:=by rfl)(gc:starEach [] X.env=[]:=by rfl): PE X (.Call (.Attribute o "join" apos) [.Call (.Name "reversed" p) [a] [] pos] [] aF) (yN K to t):=by
  subst h;intro pins s σ H Q I h;refine wpAny_Call_method_late cU cT cS rfl (ak (ho pins s σ H _ I h) fun v s1 ⟨x,H1,I1,r1,ty,q1⟩=>?_);obtain⟨h1,h2⟩:=qF I1 r1 ty;refine⟨"str","str.join",qe,PySem.F.slot_str_join,PySem.F.type_str_join,h1,h2,?_⟩;rw[hs];refine Calls.callWith_builtin (by show(false||(backTo aF (starEach [] X.env)).any (·.1))=false;rw[cR]<;>rfl) (xW ?_);show wpAny _ _ (spliced ((false,eval (.Call (.Name "reversed" p) [a] [] pos) X.env)::backTo aF (starEach [] X.env))) _ _ s1;refine Calls.spliced_cons ?_;refine Call_ (ix I1 hg hm PyProof.Rows.boot_reversed (qf (ak (ha pos pins s1 σ H1 _ I1 q1) fun us s2 ⟨vs,H2,I2,r2,q2⟩=>?_) (by rw[CL,gc]) (by rw[gc];rfl)));obtain⟨sep,l,zs,rfl,rfl,hl,hz,hb,hn,q⟩:=q2;obtain⟨tk,rfl⟩:=r1;obtain⟨u,rfl,ru⟩:=vals1 r2;cases(show u=Value.ref l from ru);obtain⟨its,r,pl,_⟩:=I2.list hl;have hlen:=r.length;rw[aZ]at hlen;have oA:=sumLen_le_of_bound id 4000 zs hz;rw[List.map_id]at oA;have hle:zs.length*sep.length<=1000*8:=Nat.mul_le_mul hn hb;refine call_reversed_list pl.isList ?_;have fresh:=I2.hok.fresh (aJ s2.heap.objs.size);have I3:Inv X pins σ H2 {s2 with heap:=s2.heap.push (revObj l ((its.toArray.size:Int)-1))}:=I2.kept (t':=s2.toks) fun b o e=>aY _ e;obtain⟨f0,f1,f2,f3,f4,f5⟩:=I2.lL (pins:=pins) (aJ s2.heap.objs.size) fresh;refine Calls.spliced_nil ?_;have gM:l≠s2.heap.objs.size:=fun z=>by obtain⟨o,ho,_⟩:=pl.isList;exact absurd (aU ho) (by rw[z];exact gZ _)
  have fH:l<s2.heap.objs.size:=by obtain⟨o,ho,_⟩:=pl.isList;exact aU ho
  have bX:∀{b},b<=s2.heap.objs.size->b<(s2.heap.push (revObj l ((its.toArray.size:Int)-1))).objs.size:=fun{b} e=>by rw[hU];exact Nat.lt_succ_of_le e
  refine zB (its:=its.toArray) (zs:=zs) (I2.ok.hd hc) gM ⟨fO _,⟨_,bP _ rfl,rfl,by show Data.fields _=Data.fields _;simp⟩,Heap.IsList.at pl.isList fun o e=>aY _ e⟩ (bX (aJ _)) (bX (qj fH)) (StrsAre.of_carried (pF r)) (by rw[bC,<-hlen,k4];omega) (by omega) fun h' t' k kk=>?_;exact⟨.str _,H2,I3.turned (t':=k) kk f0 f1 f3 f4 f5,⟨_,rfl⟩,q⟩
inductive wF(x:V)(vs:List V)(H:Hp)(Q:VK):Prop |mk (z:Str)(i:Int)(h0:x= .str z)(h1:vs=[.int i])(h3:PadOk i=true)(h4:Q (.str (Txt.zfill z i)) H):wF x vs H Q
def sy:V->List V->Hp->VK->Prop:=fun x vs H Q=>wF x vs H Q
theorem BB:iK X "str.zfill" sy:=by intro pins s σ H x0 vs v us Q I rx rv h;obtain⟨x,i,rfl,rfl,hp,q⟩:=h;obtain⟨t,rfl⟩:=rx;obtain⟨u0,rfl,u,rfl⟩:=vals1 rv;exact SC.zfill hp fun t' k=>⟨.str _,H,I.tok k,⟨_,rfl⟩,q⟩
theorem Aq(K:He)(h:X.K=K){o e:Expr}{to:TE}{t:TA}{apos aF:Pos}(ho:PE X o to)(ha:PA X [e] t) (cU:attributeBase o "zfill" X.env (eval o X.env)=eval o X.env:=by rfl) (cT:((backTo aF (starEach [e] X.env)).all (fun x=>!x.1)&&(backToKw aF (keywordEach [] X.env)).all (fun x=>x.1.isSome) &&decide ([e].length+([]:List Keyword).length+(if([]:List Keyword).isEmpty then 0 else 1)<30))=true:=by rfl) (cS:(apos.endLine==aF.line)=true:=by rfl)(hs:starEach [e] X.env=(false,eval e X.env)::starEach [] X.env:=by rfl)(cR:(backTo aF (starEach [] X.env)).any (·.1)=false:=by rfl): PE X (.Call (.Attribute o "zfill" apos) [e] [] aF) (gz K "str" sy to t):=by subst h;exact ie qe PySem.F.slot_str_zfill PySem.F.type_str_zfill BB ho ha cU cT cS hs cR
inductive x6(xs:List V)(H:Hp)(Q:VK):Prop |mk (i j:Int)(h0:xs=[.int i,.int j])(h1:0<j)(h2:Wd j)(h3:∀p H',Nw H H' p (.tup [.int (i/j),.int (i%j)])->Q (.ref p) H'):x6 xs H Q
theorem Fz:bR X (.builtin "divmod") (fun xs H Q=>x6 xs H Q):=by intro pins s σ H xs us Q I r h;obtain⟨i,j,rfl,h1,h2,q⟩:=h;obtain⟨u,w',rfl,⟨t,rfl⟩,⟨t',rfl⟩⟩:=vals2 r;refine divmod_int (by omega) ?_ (.inl (PyProof.noPylong_of_log2 h2.log));rw[Int.fdiv_eq_ediv_of_nonneg i (by omega),Int.fmod_eq_emod_of_nonneg i (by omega)];have hn:H s.heap.objs.size=none:=I.hok.fresh (aJ _);refine⟨.ref s.heap.objs.size,upd H s.heap.objs.size (.tup [.int (i/j),.int (i%j)]),?_,rfl,q _ _ (Nw.of hn)⟩;exact I.laid (fun b o e=>aY _ e) (aJ _) ⟨by show 2<=sizeLine;decide,[.int (i/j) s.toks,.int (i%j) (s.toks+1)],.cons ⟨_,rfl⟩ (.cons ⟨_,rfl⟩ .nil),_,bP s.heap rfl,rfl,0,rfl⟩
end
end L2
namespace Tm
open PySem PySem.Spec PyProof.Rows PySem.NumText
theorem vf{x y:Str}(h:x.cps.toList=y.cps.toList):x=y:=PySem.Str.ext' (Array.toList_inj.mp h)
def numS(i:Int):Str:=Str.ofString (toString i)
theorem jG(m:Nat):(numS (m:Int)).cps.toList=(Nat.toDigits 10 m).map Char.toNat:=PySem.W.KIN.signs_num m
theorem F9(m:Nat):(numS (Int.negSucc m)).cps.toList=45::(Nat.toDigits 10 (m+1)).map Char.toNat:=by unfold numS;rw[signs_ofString];show("-"++Nat.repr (m+1)).toList.map Char.toNat=_;rw[String.toList_append,hJ,Nat.toList_repr];rfl
theorem EW(m:Nat):AllDigits ((Nat.toDigits 10 m).map Char.toNat):=fun c hc=>by obtain⟨ch,dP,e⟩:=mC.mp hc;have r:=digit_range (Nat.isDigit_of_mem_toDigits (by decide) (by decide) dP);rw[<-e];exact r
end Tm
namespace Nu
open PySem PySem.Spec PyProof.Rows PySem.NumText Tm
def eA:Nat->Nat->List Char |0,_=>[] |e+1,r=>eA e (r/10)++[(r%10).digitChar]
theorem vb:∀e m:Nat,10^e<=m->Nat.toDigits 10 m=Nat.toDigits 10 (m/10^e)++eA e (m%10^e)
  |0,m,_=>by simp[eA] |e+1,m,h=>by
    have hp:0<10^e:=Nat.pow_pos (by decide);have h10:10<=m:=by rw[mx]at h;omega
    have hd:10^e<=m/10:=by rw[Nat.le_div_iff_mul_le (by decide)];rw[mx]at h;exact h
    rw[Nat.toDigits_of_base_le (by decide) h10,vb e (m/10) hd,Nat.div_div_eq_div_mul,<-Nat.pow_succ',List.append_assoc];show _=_++(eA e (m%10^(e+1)/10)++[(m%10^(e+1)%10).digitChar]);rw[Nat.pow_succ',Nat.mod_mul_right_div_self,Nat.mod_mul_right_mod]
theorem sX:∀e:Nat,eA e 0=List.replicate e '0' |0=>rfl |e+1=>by show eA e 0++['0']=_;rw[sX e,List.replicate_succ']
theorem sY:∀e r:Nat,r<10^(e+1)->eA (e+1) r=List.replicate (e+1-(Nat.toDigits 10 r).length) '0'++Nat.toDigits 10 r
  |0,r,h=>by have h:r<10:=h;rw[Nat.toDigits_of_lt_base h];show[]++[(r%10).digitChar]=_;rw[Nat.mod_eq_of_lt h];rfl |e+1,r,h=>by
    show eA (e+1) (r/10)++[(r%10).digitChar]=_;by_cases hr:r<10
    · rw[Nat.div_eq_of_lt hr,sX,Nat.mod_eq_of_lt hr,Nat.toDigits_of_lt_base hr]
      simp
    · have hd:r/10<10^(e+1):=by rw[Nat.div_lt_iff_lt_mul (by decide),<-mx];exact h
      rw[sY e (r/10) hd,Nat.toDigits_of_base_le (b:=10) (n:=r) (by decide) (by omega),dc,List.append_assoc];have:e+1+1-((Nat.toDigits 10 (r/10)).length+[(r%10).digitChar].length)=e+1-(Nat.toDigits 10 (r/10)).length:=by simp
      rw[this]
theorem qx(r:Nat)(h:r<10^64):(Txt.zfill (numS (r:Int)) 64).cps.toList=(eA 64 r).map Char.toNat:=by
 have ec:=jG r;have el:(numS (r:Int)).length=(Nat.toDigits 10 r).length:=by show(numS (r:Int)).cps.size=_;rw[<-gw,ec,aZ]
 rw[sY 63 r h,hJ,List.map_replicate];unfold Txt.zfill;split
 · rename_i hl
   have:64-(Nat.toDigits 10 r).length=0:=by omega
   show(numS (r:Int)).cps.toList=_;rw[ec,show 63+1-(Nat.toDigits 10 r).length=0 by omega];rfl
 · rename_i hl
   have hd:=EW r;have h0:∀c,(numS (r:Int)).cps[0]? =some c->48<=c:=fun c e=>by rw[<-xX,ec]at e;exact(hd c (iQ e)).1
   have hz:zfilled (numS (r:Int)) ((64:Int).toNat-(numS (r:Int)).length)=Builtin.Str.padded (numS (r:Int)) ((64:Int).toNat-(numS (r:Int)).length) 0 48:=by
    unfold zfilled;split
    ·rename_i e;exact absurd (h0 _ e) (by decide)
    ·rename_i e;exact absurd (h0 _ e) (by decide)
    ·rfl
   rw[hz];show(Array.replicate _ 48++(numS (r:Int)).cps++Array.replicate 0 48).toList=_;rw[qu,qu,Array.toList_replicate,ec,el];simp
theorem Bq(m:Nat)(h:10^64<=m):numS (m:Int)=numS ((m/10^64:Nat):Int)++Txt.zfill (numS ((m%10^64:Nat):Int)) 64:=by refine vf ?_;rw[PySem.Str.cps_append,qu,jG,jG,qx _ (Nat.mod_lt _ (Nat.pow_pos (by decide))),<-hJ,<-vb 64 m h]
theorem Bp{i:Int}(h:i<0):numS i="-"++numS (-i):=by obtain⟨m,rfl⟩:∃m:Nat,i=Int.negSucc m:=⟨(-i-1).toNat,by omega⟩;refine vf ?_;rw[PySem.Str.cps_append,qu,F9,show-Int.negSucc m=((m+1:Nat):Int)from rfl,jG];rfl
theorem y6{r:Nat}(h:r<10^64):(Txt.zfill (numS (r:Int)) 64).length=64:=by
 show(Txt.zfill (numS (r:Int)) 64).cps.size=64;rw[<-gw,qx r h,aZ];have:∀e r,(eA e r).length=e:=fun e=>by induction e with |zero=>intro r;rfl |succ e ih=>intro r;show(eA e (r/10)++[_]).length=_;rw[dc,ih];rfl
 exact this 64 r
def cat(zs:List Str):Str:=Txt.join "" zs
theorem Fs:cat []=Str.empty:=by unfold cat Txt.join;rw[xG];rfl
theorem vo(z:Str)(zs:List Str):cat (z::zs)=z++cat zs:=by unfold cat Txt.join;rw[xG,xG];cases zs with |nil=>exact(Str.append_empty z).symm |cons y r=>show(z++"")++PySem.Str.join "" (y::r)=_;rw[show(Str.ofString "")=Str.empty from by decide+kernel,Str.append_empty]
structure Wr(N r:Nat)(zs:List Str):Prop where
 e:numS (N:Int)=numS (r:Int)++cat zs.reverse
 d:r=N/(10^64)^zs.length
 l:∀z∈zs,z.length<=64
 b:zs.length=0\/(10^64)^zs.length<=N
theorem Wr.nil(N:Nat):Wr N N []:=⟨by rw[show([]:List Str).reverse=[]from rfl,Fs,Str.append_empty],by simp,fun _ h=>by simp at h,.inl rfl⟩
theorem Wr.step{N r:Nat}{zs:List Str}(h:Wr N r zs)(hr:10^64<=r):Wr N (r/10^64) (zs++[Txt.zfill (numS ((r%10^64:Nat):Int)) 64]):=by
 have hm:r%10^64<10^64:=Nat.mod_lt _ (Nat.pow_pos (by decide));refine⟨?_,?_,fun z hz=>?_,.inr ?_⟩
 · rw[List.reverse_append,List.reverse_cons,List.reverse_nil,List.nil_append,List.singleton_append,vo,<-Str.append_assoc,<-Bq r hr]
   exact h.e
 ·rw[dc,qq,mx (10^64) zs.length,<-Nat.div_div_eq_div_mul,<-h.d]
 · rcases kd.mp hz with hz|hz
   ·exact h.l z hz
   ·rw[fP.mp hz,y6 hm];exact aJ _
 · rw[dc,qq,mx (10^64) zs.length,Nat.mul_comm]
   have h2:=h.d;generalize(10^64)^zs.length=B at*;rw[h2]at hr;by_cases hB:B=0
   ·subst hB;simp
   ·exact(Nat.le_div_iff_mul_le (Nat.pos_of_ne_zero hB)).mp hr
theorem Wr.len{N r:Nat}{zs:List Str}(h:Wr N r zs)(hN:N<10^540):zs.length<=8:=by
 rcases h.b with e|e
 ·omega
 · rw[<-Nat.pow_mul]at e
   have:=(Nat.pow_lt_pow_iff_right (a:=10) (by decide)).mp (Nat.lt_of_le_of_lt e hN);omega
theorem tU{m:Nat}(h:m<10^540):((m:Nat):Int).natAbs.log2<1920:=by
 rw[Int.natAbs_natCast];by_cases h0:m=0
 ·rw[h0];decide
 ·exact(Nat.log2_lt h0).mpr (mz h (by decide+kernel))
theorem C1{i:Int}(h:i.natAbs<10^540):(numS i).length<=541:=by show(Str.ofString (toString i)).length<=541;rw[PySem.ofString_length];exact int_text_length_le10 (k:=540) (by decide) h
theorem FX{i:Int}(h:¬i<0):((i.natAbs:Nat):Int)=i:=by omega
theorem abs_neg{i:Int}(h:i<0):((i.natAbs:Nat):Int)=-i:=by omega
end Nu
namespace L2
open PySem PySem.Spec PyProof.Rows
theorem EY(f:Array Value->Array Value)(o:Obj):(o.mapFields f).dict=o.dict:=by obtain⟨c,d,dt,sl⟩:=o;cases dt<;>rfl
def G4(h B:Heap)(ex:Addr)(cls:Value)(dx:Option Addr)(fl:Value):Prop:=∃ob fs tb ot ts,h.get? ex=some ob/\ob.cls=cls/\ob.dict=dx/\ob.data= .fields fs/\fs[1]? =some (.ref tb)/\B.get? tb=none/\tb≠ex/\h.get? tb=some ot/\ot.data= .fields ts/\ts[3]? =some fl/\fs[2]? =some .none
def eP(B:Heap)(l:List Env)(ex:Addr)(cls:Value)(dx:Option Addr)(fl:Value)(h:Heap):Prop:=B.StaysIn h/\B.get? ex=none/\h.FunFrames B l/\G4 h B ex cls dx fl
theorem eP.there{B h:Heap}{l:List Env}{ex:Addr}{cls fl:Value}{dx:Option Addr}(x:eP B l ex cls dx fl h):∃ob,h.get? ex=some ob/\ob.cls=cls/\ob.dict=dx/\∃fs,ob.data= .fields fs/\fs[2]? =some .none:=by obtain⟨_,_,_,ob,fs,_,_,_,e,c,d,z,_,_,_,_,_,_,z2⟩:=x;exact⟨ob,e,c,d,fs,z,z2⟩
section
variable {M:Model}{A:Hi}{E:Value->Hf->Prop}{s:Hf}{B:Heap}{env:Env}{outer:List Env}{L ex:Addr}{ob:Obj}{fs:Array Value}{head:Value}{nx:Bool}{Q:Unit->Hf->Prop}{cls fl:Value}{dx:Option Addr}
theorem v9(hA:A.frames=some (env::outer))(ff:s.heap.FunFrames B (env::outer))(hL:env.frame=some L)(ho:s.heap.get? ex=some ob)(st:B.StaysIn s.heap)(hB:B.get? ex=none)(hd:ob.data= .fields fs)(hz:1<fs.size)(cC:fs[2]? =some .none) (q:∀h',eP B (env::outer) ex ob.cls ob.dict (rawInt L) h'->s.heap.UpToSlots h'->Q () {s with heap:=h'}): wpAny M A (do let a<-frameOf env;let pl<-entryPlaceOf L nx;let b<-EntryCells.newEntry head a .none (rawInt L) .none pl;setField (.ref ex) 1 b) Q E s:=by
  have kZ:ex∉(env::outer).filterMap (·.frame):=fun hm=>by obtain⟨_,o,e1,nf⟩:=ff.mem hm;rw[ho]at e1;cases e1;exact nf fs hd
  refine ae (wpAny_frameOf_fun hA ff hL fun g1 k1=>ae (wpAny_entryPlaceOf fun pl hp=>?_));unfold EntryCells.newEntry newFields;refine ae (gq ?_ (hp.sizeOk5 _ _ _ _ _));have o1:g1.get? ex=some ob:=(k1.2.1 ex kZ).trans ho;have qS:B.StaysIn g1:=fun b o e=>(k1.2.1 b fun hm=>by rw[(ff.mem hm).1]at e;cases e).trans (st b o e);generalize hT:({cls:=.type "traceback",dict:=none,data:=.fields ([head,.ref L,.none,rawInt L,.none]++(if pl.isEmpty then List.replicate 6 Value.none else pl)).toArray}:Obj)=T;have o2:(g1.push T).get? ex=some ob:=aY T o1;refine mi o2 hd hz (q _ ?_ ?_);all_goals have ne:g1.objs.size≠ex:=k9 (aU o1)
  all_goals have keep:∀b o,b≠ex->g1.get? b=some o->((g1.push T).update ex (Obj.mapFields (·.setIfInBounds 1 (Value.ref g1.objs.size)))).get? b=some o:=fun b o nb e=>by rw[ke _ _ (dC nb)];exact aY _ e
  all_goals have fZ:∀b o,s.heap.get? b=some o->(∀vs,o.data≠ .fields vs)->b≠ex:=fun b o e nf z=>by rw[z,ho]at e;cases e;exact nf fs hd
  · have d3:=mw hd (·.setIfInBounds 1 (Value.ref g1.objs.size))
    have o3:=qt (Obj.mapFields (·.setIfInBounds 1 (Value.ref g1.objs.size))) o2 (xP d3);refine⟨fun b o e=>keep b o (fun z=>by rw[z,hB]at e;cases e) (qS b o e),hB,ff.of_keeps fun b o e nf=>?_,?_⟩
    · obtain⟨sl,e1⟩:=k1.2.2 b o e
      exact⟨_,keep b _ (fZ b o e nf) e1,rfl⟩
    · refine⟨_,_,g1.objs.size,T,_,o3,Obj.cls_mapFields _ _,EY _ _,d3,by simp[hz],qS.fresh,ne,?_,by rw[<-hT],?_⟩
      ·rw[ke _ _ (dC ne)];exact bP g1 (by rw[<-hT];rfl)
      · refine⟨?_,by simpa using cC⟩
        first|(simp;done)|(rcases hp with rfl|⟨_,_,_,_,_,_,_,rfl⟩<;>simp)
  · intro b o e nf
    obtain⟨sl,e1⟩:=k1.2.2 b o e;exact⟨sl,keep b _ (fZ b o e nf) e1⟩
theorem Bt(hA:A.frames=some (env::outer))(ff:s.heap.FunFrames B (env::outer))(hL:env.frame=some L)(ho:s.heap.get? ex=some ob)(st:B.StaysIn s.heap)(hB:B.get? ex=none)(hd:ob.data= .fields fs)(h1:fs[1]? =some .none)(cC:fs[2]? =some .none) (q:∀h',eP B (env::outer) ex ob.cls ob.dict (rawInt L) h'->s.heap.UpToSlots h'->Q () {s with heap:=h'}):wpAny M A (noteFrame (.ref ex) env) Q E s:=by unfold noteFrame;simp only[hL];refine ae (cJ ho hd h1 ?_);rw[aI (by decide)];exact v9 hA ff hL ho st hB hd (qv.mp h1).1 cC q
theorem Bs(hA:A.frames=some (env::outer))(hL:env.frame=some L)(x:eP B (env::outer) ex cls dx .none s.heap) (q:∀h',eP B (env::outer) ex cls dx (rawInt L) h'->s.heap.UpToSlots h'->Q () {s with heap:=h'}):wpAny M A (noteFrame (.ref ex) env) Q E s:=by
  obtain⟨st,hB,ff,ob,fs,tb,ot,ts,ho,rfl,rfl,hd,h1,lJ,nt,ht,gf,h3,cC⟩:=x;unfold noteFrame;simp only[hL];refine ae (cJ ho hd h1 ?_);rw[aK (show(Value.ref tb !=Value.none)=true from by simp)];refine ae (cJ ht gf h3 ?_);rw[aI (show¬((Value.none==rawInt L)=true)from by simp[rawInt])];refine ae (mi ht gf (qv.mp h3).1 ?_);have other:∀b,b≠tb->(s.heap.update tb (Obj.mapFields (·.setIfInBounds 3 Value.none))).get? b=s.heap.get? b:=fun b nb=>ke _ _ (dC nb);have fZ:∀b o,s.heap.get? b=some o->(∀vs,o.data≠ .fields vs)->b≠tb:=fun b o e nf z=>by rw[z,ht]at e;cases e;exact nf ts gf
  refine v9 (s:={s with heap:=s.heap.update tb (Obj.mapFields (·.setIfInBounds 3 Value.none))}) hA (ff.of_keeps fun b o e nf=>⟨o,(other b (fZ b o e nf)).trans e,rfl⟩) hL ((other ex (dC nt)).trans ho) (fun b o e=>(other b fun z=>by rw[z,lJ]at e;cases e).trans (st b o e)) hB hd (qv.mp h1).1 cC fun h' y up=>q h' y fun b o e nf=>up b o ((other b (fZ b o e nf)).trans e) nf
theorem pd{l:List Env}(x:eP B l ex cls dx fl s.heap)(q:∀h',eP B l ex cls dx .none h'->s.heap.UpToSlots h'->Q () {s with heap:=h'}):wpAny M A (setFlight (.ref ex) none) Q E s:=by
 obtain⟨st,hB,ff,ob,fs,tb,ot,ts,ho,hc,hx,hd,h1,lJ,nt,ht,gf,h3,cC⟩:=x;have z3:3<ts.size:=(qv.mp h3).1;have other:∀b,b≠tb->(s.heap.update tb (Obj.mapFields (·.setIfInBounds 3 ((none:Option Addr).elim Value.none fun f=>rawInt f)))).get? b=s.heap.get? b:=fun b nb=>ke _ _ (dC nb);have fZ:∀b o,s.heap.get? b=some o->(∀vs,o.data≠ .fields vs)->b≠tb:=fun b o e nf z=>by rw[z,ht]at e;cases e;exact nf ts gf
 unfold setFlight;refine ae (cJ ho hd h1 ?_);rw[aK (show(Value.ref tb !=Value.none)=true from by simp)];refine mi ht gf z3 (q _ ⟨fun b o e=>(other b fun z=>by rw[z,lJ]at e;cases e).trans (st b o e),hB,ff.of_keeps fun b o e nf=>⟨o,(other b (fZ b o e nf)).trans e,rfl⟩,?_⟩ fun b o e nf=>⟨o.slots,(other b (fZ b o e nf)).trans e⟩);exact⟨ob,fs,tb,_,_,(other ex (dC nt)).trans ho,hc,hx,hd,h1,lJ,nt,qt _ ht (xP (mw gf _)),mw gf _,by simp[z3],cC⟩
theorem C4(hA:A.frames=some (env::outer))(ff:s.heap.FunFrames B (env::outer))(hL:env.frame=some L)(ho:s.heap.get? ex=some ob)(st:B.StaysIn s.heap)(hB:B.get? ex=none)(hd:ob.data= .fields fs)(h1:fs[1]? =some .none)(cC:fs[2]? =some .none) (q:∀h',eP B outer ex ob.cls ob.dict .none h'->s.heap.UpToSlots h'->Q () {s with heap:=h'}):wpAny M A (leaving env (.ref ex)) Q E s:=by unfold leaving;refine ae (Bt hA ff hL ho st hB hd h1 cC fun h1 x1 u1=>pd x1 fun h2 x2 u2=>q h2 ?_ (u1.trans u2));obtain⟨a,b,⟨_,_,c⟩,d⟩:=x2;exact⟨a,b,c,d⟩
end
end L2
namespace L2
open PySem PySem.Spec PyProof.Rows
open Builtin Builtin.ObjectAttr
section
variable {prog:Hg}{w:World}{A:Hi}{E:Value->Hf->Prop}{s:Hf}{K:He}{x C:Addr}{ox:Obj}{fs:Array Value}{name:Str}{v:Value}{Q:Unit->Hf->Prop}
end
end L2
namespace L2
open PySem PySem.Spec PyProof.Rows
section
variable {X:Cx}{o e value:Expr}{f:Str}{pos pos' iW:Pos}{ta tv:TE}
end
end L2
namespace L2
open PySem PySem.Spec PyProof.Rows
section
variable {prog:Hg}{w:World}{A:Hi}{E:Value->Hf->Prop}{h:Heap}{g:Array GenState}{d:Drawn}{t:Nat}{os:OsState}
variable {nm q:Str}{C N fI:Addr}{bs bm eN:List Value}{hdct:Bool}{sn:List Str}{sub:List Value}{ab:Bool}{col:Option Bool}{dd:Option Addr}{k0 k1 k2 k3 k5:Option Value}{B newId ow:String}{mN:Str->Option Value}{rest:List Value}{oI:Obj}
end
section
variable {M:Model}{A:Hi}{E:Value->Hf->Prop}{env:Env}{nm q:Str}{C N:Addr}{bs bm:List Value}{hdct:Bool}{sn:List Str}{sub:List Value}{ab:Bool}{col:Option Bool}{dd:Option Addr}{k0 k1 k2 k3 k5:Option Value}{newId:String}
end
end L2
namespace L2
open PySem PySem.Spec PyProof.Rows
def fN(P:Hg)(w:World):d7:=fun outer H s E e s'=>∃(ex:Addr)(cls:Value)(dx:Option Addr)(H':Hp)(B:Heap),e= .ref ex/\s'.os=s.os/\AllBare s'.gens/\eP B outer ex cls dx .none s'.heap/\Fl P w outer H s.heap ex H' B s'.heap/\E cls dx H'
section
variable {P:Hg}{w:World}{K:He}{mg:Str->Option Value}{base:Heap}{N:List Str}{qual:Str}{scope:Scope}{f:Addr}{cd:Value}{A:Hi}{outer:List Env}{s:Hf}{H:Hp}{E:XK}{pins:List (Addr×Obj)}{σ:St}{H1:Hp}{s1:Hf}{ex:Addr}{C:Addr}{dx:Addr}
end
end L2
namespace L2
open PySem PySem.Spec PyProof.Rows
section
variable {X:Cx}{x:Str}{C fI:Addr}{eN:List Value}{newId ow B:String}{e:Expr}{t:TA}{np aF pos:Pos}{k:Nat}{fd:FuncData}{ps:List Str}{sp:Sp}
end
end L2
namespace L2
open PySem PySem.Spec PyProof.Rows
def eR(ex:Addr)(cls:Value)(dx:Option Addr)(h:Heap):Prop:=∃o,h.get? ex=some o/\o.cls=cls/\o.dict=dx/\∃fs,o.data= .fields fs/\fs[2]? =some .none
def ClsAt(K:He)(C:Addr):Prop:=∀h,K.In h->∃nm q N bs tl hdct sn sub ab col dd k0 k1 k2 k3 k5 newId,h.get? C=some (excClassObj nm q C N bs tl hdct sn sub ab col dd k0 k1 k2 k3 k5 newId)
theorem Exc.cls{K:He}{mg:Str->Option Value}{x:Str}{C:Addr}{eN:List Value}{newId:String}(e:Exc K mg x C eN newId):ClsAt K C:=fun h X=>by obtain⟨tl,N,nm,q,bs,hdct,sn,sub,ab,col,dd,k0,k1,k2,k3,k5,mN,hC,_⟩:=(e.own X).obj;exact⟨nm,q,N,bs,tl,hdct,sn,sub,ab,col,dd,k0,k1,k2,k3,k5,newId,hC⟩
inductive vU(i:Nat)(Cs:Addr->Prop)(tb:XK->TS)(th:TS)(D:Ends)(σ:St)(H:Hp):Prop |mk (E:XK)(h0:tb E D σ H)(h1:(∀cls dx H',E cls dx H'->∃C,cls= .ref C/\Cs C))(h2:∀(C ex:Addr)(dx:Option Addr)(σ':St)(H':Hp),σ'.length=σ.length->E (.ref C) dx H'->H' ex=none->th {nx:=fun σ2 H2=>D.nx (σ2.set i none) H2,rt:=D.rt,bk:=fun σ2 H2=>D.bk (σ2.set i none) H2,ct:=fun σ2 H2=>D.ct (σ2.set i none) H2} (σ'.set i (some (.ref ex))) (upd H' ex (.ext (eR ex (.ref C) dx)))):vU i Cs tb th D σ H
def yu(i:Nat)(Cs:Addr->Prop)(tb:XK->TS)(th:TS):TS:=fun D σ H=>vU i Cs tb th D σ H
section
variable {X:Cx}{i:Nat}{n y:Str}{Dc:Addr}{pI:List Value}{newD:String}{body kz:List Stmt}{b0:Stmt}{np lu pos:Pos}{tb:XK->TS}{th:TS}{Cs:Addr->Prop}
theorem A0(cQ:X.stack=X.env::X.outer)(Dp:X.env.frame=some X.env.locals)(hN:X.N.Nodup)(hi:X.N[i]? =some n)(hk:X.env.kindOf n=some .local)(hs:X.env.scope.names.lookup n=some .local) (hb:∀(E:XK)(xe:Value->Hf->Prop),Passes (fN X.prog X.w) (X.de xe) E->bJ (X.de xe) body (tb E)) (hg:Gl X y)(hy:Exc X.K X.mg y Dc pI newD)(oV:pI.contains (.type "BaseException")=true)(oZ:∀C,Cs C->ClsAt X.K C/\takes X.K C Dc) (hh:∀ex,bJ (X.hand ex) (b0::kz) th)(bQ:(y==("__debug__":Str))=false:=by decide): vO X (.Try body [.ExceptHandler (some (.Name y np)) (some n) (b0::kz) lu] [] [] pos) (yu i Cs tb th):=by
  intro s σ H D I h;obtain⟨E,hq,oT,CH⟩:=h;refine wpAny_Try_except ?_;have ps:Passes (fN X.prog X.w) (X.de fun e s₁=>wpAny (model X.prog X.w) X.A (noteFrame e X.env) (fun _ s₂=>wpAny (model X.prog X.w) X.A (setFlight e none) (fun _ s₃=>wpAny (model X.prog X.w) X.A (handleBy e X.env [.ExceptHandler (some (.Name y np)) (some n) (b0::kz) lu]) (SP X [] D) X.xe s₃) X.xe s₂) X.xe s₁) E:=by
   intro nS σ' H1 s1 ev s2 I1 hx;obtain⟨ex,cls,dx,H',B,rfl,ho,uA,pb,F,hE⟩:=hx;obtain⟨C,rfl,hC⟩:=oT cls dx H' hE;have I0:Inv X [] σ' H1 s1:=I1.eT.FJ;obtain⟨uo,g2,d2,t2,o2⟩:=s2;have EJ:eP B (X.env::X.outer) ex (.ref C) dx .none uo:=by rw[<-cQ];exact pb
   have hA:X.A.frames=some (X.env::X.outer):=by rw[<-cQ];exact I0.ok.frames
   refine Bs (s:=⟨uo,g2,d2,t2,o2⟩) hA Dp EJ fun h4 lF ye=>?_;refine pd lF fun h5 jF yd=>?_;have F4:=F.step pb.1 lF.1 ye pb.2.2.1;have EN:h4.FunFrames B X.stack:=by rw[cQ];exact lF.2.2.1
   have F5:=F4.step lF.1 jF.1 yd EN;have EM:h5.FunFrames B X.stack:=by rw[cQ];exact jF.2.2.1
   have I5:Inv X [] σ' H' ⟨h5,g2,d2,t2,o2⟩:=I0.pH (s':=⟨h5,g2,d2,t2,o2⟩) ho F5.un F5.hok uA (fun b hb=>(ft hb).elim);refine wpAny_handleBy_cons (codeAny_handlers_test (g6 (X:=X.hand ex) (I5.hand ex) hg hy.at' ?_ bQ)) (by intro q;cases q);obtain⟨eC,tk⟩:=oZ C hC;obtain⟨nm,q,Nn,bs,tl,hdct,sn,sub,ab,col,dd,k0,k1,k2,k3,k5,nw,oC⟩:=eC _ I5.bG;obtain⟨Gf,Hd,tw,q',vx,uD,rn,qP,vK,vi,vc,j0,j1,j2,j3,j5,Gu,oD,GP,GH,G5⟩:=(hy.own I5.bG).obj;obtain⟨ob,CT,CS,_⟩:=jF.there;have uk:(Value.ref C::tl).contains (.ref Dc)=true:=by
    obtain⟨cd,ha,oW⟩:=Option.bind_eq_some_iff.mp tk;split at oW
    ·cases oW
    · have hc:=cu oW
      unfold PySem.W.clsIn at ha;split at ha
      · rename_i c1 c2 GW c4 hl
        cases ha;have e1:=I5.bG _ _ hl;rw[show(Shared.heap ⟨h5,g2,d2,t2,o2⟩).get? C=some _ from oC]at e1;have e2:=cu e1;unfold excClassObj at e2;injection e2 with _ _ e3 _;injection e3 with e4;rw[<-e4]at hc;exact hc
      ·cases ha
   refine ES oC oD CT CS (G5.hasType oV) uk ?_;refine codeAny_handlers_suite_as ?_;refine pd (s:=⟨h5,g2,d2,t2,o2⟩) jF fun h6 uX yc=>?_;have F6:=F5.step jF.1 uX.1 yc EM;have yh:Un (bI X.stack) [] H1 (upd H' ex (.ext (eR ex (.ref C) dx))) s1.heap h6:=by
    have nb:∀b u,H' b=some u->b≠ex:=fun b u e z=>by rw[z,F6.ne]at e;cases e
    refine⟨F6.un.keep,F6.un.slot,fun b o e n hx=>?_,F6.un.there,fun b xs e=>?_,fun b o u e=>?_,fun b ps e=>?_⟩
    ·rw[aV (fun z=>by rw[z,F6.nw]at e;cases e)];exact F6.un.free b o e n hx
    ·have:=F6.un.tups b xs e;rw[aV (nb b _ this)];exact this
    ·have:=F6.un.frzs b o u e;rw[aV (nb b _ this)];exact this
    ·obtain⟨more,e1⟩:=F6.un.tbls b ps e;exact⟨more,by rw[aV (nb b _ e1)];exact e1⟩
   have CO:bq X.prog X.w (upd H' ex (.ext (eR ex (.ref C) dx))) h6:=fun b u e=>by
    by_cases lH:b=ex
    · subst lH
      rw[br]at e;cases e;obtain⟨o6,e6,c6⟩:=uX.there;exact⟨⟨o6,e6,c6⟩,⟨o6,e6⟩,fun g1 g3 ⟨o7,e7,c7⟩ k=>⟨o7,k o7 e7,c7⟩⟩
    · rw[aV lH]at e
      refine(F6.hok b u e).eU (fun c v hc q=>q) (fun c q=>?_) fun c xs q=>?_
      ·rw[aV (fun z=>by rw[z,F6.ne]at q;cases q)];exact q
      ·rw[aV (fun z=>by rw[z,F6.ne]at q;cases q)];exact q
   have I6:Inv X [] σ' (upd H' ex (.ext (eR ex (.ref C) dx))) ⟨h6,g2,d2,t2,o2⟩:=I0.pH (s':=⟨h6,g2,d2,t2,o2⟩) ho yh CO uA (fun b hb=>(ft hb).elim);refine kB (X:=X.hand ex) (I6.hand ex) hN hi (.inl hs) (v:=.ref ex) rfl (fun s7 I7=>?_) (.inr hs);refine d9 (hh ex [] s7 _ _ _ I7 (CH C ex dx σ' H' (I0.len.trans I.len.symm) hE F.ne)) (fun f s8 q=>?_) fun e s8 q=>False.elim q;have un:∀(σ2:St)(H2:Hp)(Q:Unit->Hf->Prop),Inv (X.hand ex) [] σ2 H2 s8->(∀s9,Inv X [] (σ2.set i none) H2 s9->Q () s9)->wpAny (model X.prog X.w) X.A (do bindName X.env n .none;unbindBehindTheSuite X.env n lu) Q X.xe s8:=fun σ2 H2 Q I8 hq=>by
    have xq:=I8.back I0.ok;have bX:i<σ2.length:=by rw[xq.len];exact(fS.mp hi).1
    unfold bindName;refine ae (ae (dB (wpAny_point (ae (kB xq hN hi (.inl hs) (v:=.ax) rfl (fun s9 I9=>wpAny_point ?_) (.inr hs))))));refine yf I9 hN hi hk hs (v:=.ax) (qr bX) fun cO m8=>hq cO ?_;rw[List.set_set]at m8;exact m8
   cases f with |next=>obtain⟨σ2,H2,I8,dq⟩:=q;exact un σ2 H2 _ I8 fun s9 I9=>⟨_,H2,I9,dq⟩ |brk=>obtain⟨σ2,H2,I8,dq⟩:=q;exact un σ2 H2 _ I8 fun s9 I9=>⟨_,H2,I9,dq⟩ |cont=>obtain⟨σ2,H2,I8,dq⟩:=q;exact un σ2 H2 _ I8 fun s9 I9=>⟨_,H2,I9,dq⟩ |ret u=>obtain⟨v,σ2,H2,I8,r8,dq⟩:=q;exact un σ2 H2 _ I8 fun s9 I9=>⟨v,_,H2,I9,r8,dq⟩
  refine d9 (hb E _ ps [] s σ H D (I.de _) hq) (fun f s1 q=>?_) fun e s1 q=>q;have q':=q.eT;cases f with |next=>exact jV q' |brk=>exact q' |cont=>exact q' |ret u=>exact q'
end
end L2
namespace L2
open PySem PySem.Spec PyProof.Rows PySem.W
section
variable {prog:Hg}{w:World}{A:Hi}{E:Value->Hf->Prop}{h:Heap}{g:Array GenState}{d:Drawn}{t:Nat}{os:OsState}{K:Frag}{x C:Addr}{ox:Obj}{od:Obj}{f:Str}{v:Value}
end
section
variable {X:Cx}{e:Expr}{f:Str}{pos:Pos}{ta:TE}
inductive wY(K:Frag)(xs:List V)(H:Hp)(Q:VK):Prop |mk (ex:Addr)(C:Addr)(dx:Option Addr)(c:V)(cv:Value)(b:Bool)(h0:xs=[.ref ex,c])(h1:H ex=some (.ext (eR ex (.ref C) dx)))(h2:eQ K C)(h3:Fi c=some cv)(h4:kitOne K (.ref C) cv=some b)(h5:Q (.bl b) H):wY K xs H Q
def zP(K:Frag):List V->Hp->VK->Prop:=fun xs H Q=>wY K xs H Q
inductive wX(K:Frag)(xs:List V)(H:Hp)(Q:VK):Prop |mk (ex:Addr)(C:Addr)(p:Addr)(dx:Option Addr)(Ds:List Addr)(b:Bool)(h0:xs=[.ref ex,.ref p])(h1:H ex=some (.ext (eR ex (.ref C) dx)))(h2:eQ K C)(h3:H p=some (.tup (Ds.map V.ref)))(h4:kitAny K (.ref C) (Ds.map Value.ref)=some b)(h5:Q (.bl b) H):wX K xs H Q
def zO(K:Frag):List V->Hp->VK->Prop:=fun xs H Q=>wX K xs H Q
theorem dM(K:Frag)(hK:X.K=K):bR X (.builtin "isinstance") (fun xs H Q=>zP K xs H Q\/zO K xs H Q):=by
 subst hK;intro pins s σ H xs us Q I r h;rcases h with⟨ex,C,dx,c,cv,b,rfl,he,k,hc,kb,q⟩|⟨ex,C,p,dx,Ds,b,rfl,he,k,hp,kb,q⟩
 · obtain⟨u,v,rfl,rx,rc⟩:=vals2 r
   cases(show u=Value.ref ex from rx);have hv:v=cv:=by cases c with |ref D=>cases(show v=Value.ref D from rc);exact cu hc |ty n=>cases(show v=Value.type n from rc);exact cu hc |_=>cases hc
   subst hv;obtain⟨o,o1,o2,_⟩:=(I.hok ex _ he).1;exact kia_one (tW k) I.bG ⟨o,o1,o2⟩ kb (fun z=>nomatch z) fun tk=>⟨.bl b,H,I.tok _,rfl,q⟩
 · obtain⟨u,v,rfl,rx,rc⟩:=vals2 r
   cases(show u=Value.ref ex from rx);cases(show v=Value.ref p from rc);obtain⟨o,o1,o2,_⟩:=(I.hok ex _ he).1;obtain⟨_,its,rv,⟨cls,dd,dt,sl⟩,h1,h2,n,h3⟩:=(show cz X.prog X.w H s.heap p (.tup (Ds.map V.ref))from I.hok p _ hp);simp only at h2 h3;subst h2 h3;have e:=qD rv;subst e;exact kia_tup (tW k) I.bG ⟨o,o1,o2⟩ h1 kb (fun z=>nomatch z) fun tk=>⟨.bl b,H,I.tok _,rfl,q⟩
end
end L2
namespace L2
open PySem PySem.Spec PyProof.Rows
section
variable {X:Cx}{k:Nat}{x:Str}{p pos:Pos}{e:Expr}{es:List Expr}{t:TA}{sp:Sp}
end
end L2
namespace L2
open PySem PySem.Spec PyProof.Rows
structure dn(k:Nat)(A:Hi):Prop where
 dp:A.depth+3*k+5<recursionLimit
 un:A.units+16*k+200<cLine
theorem dn.mono{j k:Nat}{A:Hi}(r:dn k A)(h:j<=k):dn j A:=⟨by have:=r.dp;omega,by have:=r.un;omega⟩
theorem dn.units{k:Nat}{A:Hi}(r:dn k A):A.units+64<cLine:=by have:=r.un;omega
theorem ba.mark{k:Nat}{A:Hi}(r:ba k A)(v:Option Value):dn k (A.mark v):=⟨r.dp,r.un⟩
theorem dn.deeper{k:Nat}{A:Hi}(r:dn (k+1) A)(env:Env):dn k (A.deeper env):=⟨by have:=r.dp;show A.depth+1+3*k+5<_;omega,by have:=r.un;show A.units+3+16*k+200<_;omega⟩
abbrev iH(P:Hg)(w:World)(K:He)(mg:Str->Option Value)(base:Heap)(N:List Str)(qual:Str)(scope:Scope)(f:Addr)(cd:Value)(A:Hi)(outer:List Env)(s:Hf)(H:Hp):Cx:={(cc cA P w K mg base N qual scope f cd A outer s H (fun _ _ _=>False))with calm:=false,xe:=fun _ _=>False}
def xw(P:Hg)(w:World)(K:He)(mg:Str->Option Value)(base:Heap)(k:Nat)(f:Addr)(fd:FuncData)(ps:List Str)(sp:Sp):Prop:=(∀vs H Q E,sp vs H Q E->vs.length=ps.length)/\∀(A:Hi)(outer:List Env)(s:Hf)(H:Hp)(args:Args)(us:List Value)(vs:List V)(Q:VK),dn k A->fM P w K mg base A outer s H->BindsTo s fd args (ps.zip us)->Vals vs us->sp vs H Q (fun _ _ _=>False)->codeAny (model P w) A (.call (.ref f) args) (fun r s'=>match r with| .ok (.ret u)=>CE outer P w H s Q u s'|_=>False) s
theorem EH{P:Hg}{w:World}{K:He}{mg:Str->Option Value}{base:Heap}{k:Nat}{f:Addr}{name qual:Str}{params:Arguments}{body:List Stmt}{scope:Scope}{dV kV doc pm ah ct oc:Value}{an od:Option Addr} {bL:Array (Option Value)}{N ps:List Str}{sp:Sp}(lk:K.lookup f=some ⟨oc,od,.func (PySem.W.fnOf name qual params body scope dV kV doc pm an ah ct),bL⟩)(bN:PySem.W.codeIn K ah qual=true)(S:bb N ps scope)(len:∀vs H Q E,sp vs H Q E->vs.length=ps.length) (bZ:∀(A:Hi)(outer:List Env)(s:Hf)(H:Hp)(vs:List V)(Q:VK),dn k (A.deeper (envOfC qual scope s.heap.objs.size f ah))->sp vs H Q (fun _ _ _=>False)->∃t,bJ (iH P w K mg base N qual scope f ah A outer s H) body t/\t {nx:=fun _ H'=>Q .ax H',rt:=Q} (start N vs) H): xw P w K mg base (k+1) f (PySem.W.fnOf name qual params body scope dV kV doc pm an ah ct) ps sp:=by
  refine⟨len,fun A outer s H args us vs Q hr e0 hb r bU=>?_⟩;have hl:=len _ _ _ _ bU;have KX:K.In s.heap:=e0.mod.kin.keeps fun b o e=>(e0.bs b o e).1;have lim:s.heap.NoLimit:=e0.mod.nolimit.keeps fun b o e=>(e0.bs b o e).1;have hk:∀y∈ps.zip us,scope.names.lookup y.1=some .local\/(scope.names.lookup y.1=some .cell/\((cellsFrom (s.heap.objs.size+1) scope.names []).lookup y.1).isSome=true):=fun⟨n,v⟩ hy=>by
   rcases S.par n (ka hy).1 with q|q
   ·exact .inl q
   ·exact .inr ⟨q,qb _ _ _ (.inl q)⟩
  refine xE (by have:=hr.dp;omega) (KX _ _ lk) rfl S.co S.gen rfl (xI KX bN) (hb _ _ _ _ ?_);refine xB S.kind hk fun env he s1 x=>?_;subst he;refine⟨lim.keeps x.toInCall.keep,codeAny_func ?_⟩;obtain⟨t,ht,hq⟩:=bZ A outer s H vs Q (hr.deeper _) bU;have e1:fM P w K mg base {A with handled:=none} outer s H:=⟨e0.frames,e0.mod,e0.bs,e0.bsz,e0.cM,e0.frf,e0.hok,e0.bare⟩;have I:=oo (CX:=cA) (A:={A with handled:=none}) (E:=fun _ _ _=>False) S rfl e1 hl r x;have J:Inv (iH P w K mg base N qual scope f ah A outer s H) [] (start N vs) H s1:=⟨⟨I.ok.mod,I.ok.kind,I.ok.glob,I.ok.blt,I.ok.above,I.ok.inj,I.ok.has,I.ok.cab,fun h=>(cj h).elim,Around.frames_deeper e0.frames,I.ok.stk,I.ok.exf,I.ok.bs,I.ok.bsz,I.ok.noex,I.ok.exfs,I.ok.cM,I.ok.frf⟩,I.os,I.bare,I.base,I.loc,I.cell,I.free,I.freeC,I.pin,I.hok,I.len⟩;refine d9 (ht [] s1 (start N vs) H _ J hq) (fun fl s' hs=>?_) fun e s' hs=>hs.elim;cases fl with |ret u=>obtain⟨v,σ',H',J',rv,q⟩:=hs;exact⟨v,H',J'.os,J'.bare,J'.base,J'.hok,rv,q⟩ |next=>obtain⟨σ',H',J',q⟩:=hs;exact⟨V.ax,H',J'.os,J'.bare,J'.base,J'.hok,rfl,q⟩ |brk=>obtain⟨_,_,_,q⟩:=hs;exact False.elim q |cont=>obtain⟨_,_,_,q⟩:=hs;exact False.elim q
def m9(P:Hg)(w:World)(K:He)(mg:Str->Option Value)(base:Heap)(x:Str)(k:Nat)(sp:Sp):Prop:=∃f fd ps,xw P w K mg base k f fd ps sp/\mg x=some (.ref f)/\PySem.W.keepIn K (.ref f)=true/\Binds K fd ps []
theorem FA.DF{P:Hg}{w:World}{K:He}{mg:Str->Option Value}{base:Heap}{x:Str}{st:Stmt}{N ps:List Str}{k:Nat}{sp:Sp}(F:FA K mg x st)(S:bb N ps (aw st))(len:∀vs H Q E,sp vs H Q E->vs.length=ps.length) (hb:∀(kV doc pm:Value)(an:Option Addr)(ah ct:Value)(us:List Value),us.length=ps.length->bindArgs (PySem.W.fnOf x x (dj st) (bB st) (aw st) .none kV doc pm an ah ct) ⟨us,[]⟩=pure (ps.zip us)) (bZ:∀(f:Addr)(ah:Value)(A:Hi)(outer:List Env)(s:Hf)(H:Hp)(vs:List V)(Q:VK),dn k (A.deeper (envOfC x (aw st) s.heap.objs.size f ah))->sp vs H Q (fun _ _ _=>False)->∃t,bJ (iH P w K mg base N x (aw st) f ah A outer s H) (bB st) t/\t {nx:=fun _ H'=>Q .ax H',rt:=Q} (start N vs) H):m9 P w K mg base x (k+1) sp:=by obtain⟨f,fd,hm,F⟩:=F.ex;have oU:=F.binds hb;have kp:=F.kp;obtain⟨oc,od,kV,doc,pm,an,ah,ct,bL,rfl,lk,bN⟩:=F.ex;exact⟨f,_,ps,EH lk bN S len fun A outer s H vs Q hr bU=>bZ f ah A outer s H vs Q hr bU,hm,kp,oU⟩
section
variable {X:Cx}{k:Nat}{x:Str}{p pos:Pos}{e:Expr}{es:List Expr}{t:TA}{sp:Sp}
def yR(sp:Sp)(t:TA):TE:=fun σ H Q=>t σ H fun vs H1=>sp vs H1 Q (fun _ _ _=>False)
theorem Am(F:m9 X.prog X.w X.K X.mg X.base x k sp)(hr:dn k X.A)(hg:Gl X x)(ha:PA X (e::es) t)(bQ:(x==("__debug__":Str))=false:=by decide) (he:starEach (e::es) X.env=(false,eval e X.env)::starEach es X.env:=by rfl)(bA:(backTo pos (starEach es X.env)).any (·.1)=false:=by rfl):PE X (.Call (.Name x p) (e::es) [] pos) (yR sp t):=by
  obtain⟨f,fd,ps,F,hm,hk,hb⟩:=F;intro pins s σ H Q I h;refine jZ (g6 I hg hm ?_ bQ);refine mr (h₀:=X.base) I.ok.mod.kin hk (ak (ha pos pins s σ H _ I h) fun us s1 ⟨vs,H1,I1,r,q⟩=>⟨I1.bG,?_⟩) he bA;have hl:(us++[]).length=ps.length:=by rw[gv,<-r.length];exact F.1 _ _ _ _ q
  have bt:=hb s1 us I1.bG hl;rw[gv]at bt;refine jY (mn (F.2 X.A X.stack s1 H1 ⟨us,[]⟩ us vs Q hr I1.pw bt r q) fun r s' hq=>?_);cases r with |error e=>exact hq.elim |ok fl=>cases fl with |ret u=>exact I1.after hq |next=>exact hq.elim |brk=>exact hq.elim |cont=>exact hq.elim
end
end L2
namespace L2
open PySem PySem.Spec PyProof.Rows
section
variable {P:Hg}{w:World}{K:He}{mg:Str->Option Value}{base:Heap}{N:List Str}{qual:Str}{scope:Scope}{f:Addr}{cd:Value}{A:Hi}{outer:List Env}{s:Hf}{H:Hp}{E E0:XK}
end
end L2
namespace L2
open PySem PySem.Spec PyProof.Rows
open Builtin Builtin.ObjectAttr
section
variable {prog:Hg}{w:World}{A:Hi}{E:Value->Hf->Prop}{s:Hf}{K:He}{x C dx:Addr}{ox:Obj}{fs:Array Value}{name:Str}{v:Value}{Q:Unit->Hf->Prop}{mA:Str->Option Value}{ks:List Str}
end
section
variable {X:Cx}{o e value:Expr}{f:Str}{pos pos' iW:Pos}{ta tv:TE}
end
end L2
namespace L2
open PySem PySem.Spec PyProof.Rows
def m5(P:Hg)(w:World)(K:He)(mg:Str->Option Value)(base:Heap)(C:Addr)(x:Str)(k:Nat)(sp:Sp):Prop:=∃f fd ps,cq P w K mg base (fN P w) k f fd ps sp/\Mk K C f/\Binds K fd ps []/\mg x=some (.ref C)
section
variable {P:Hg}{w:World}{K:He}{mg:Str->Option Value}{base:Heap}
theorem dA.Bg{m qual:Str}{st:Stmt}{f:Addr}{fd:FuncData}{N ps:List Str}{k:Nat}{sp:Sp}(F:dA K m qual st f fd)(S:bb N ps (aw st))(len:∀vs H Q E,sp vs H Q E->vs.length=ps.length) (bZ:∀(ah:Value)(A:Hi)(outer:List Env)(s:Hf)(H:Hp)(vs:List V)(Q:VK)(E:XK),ba k (A.deeper (envOfC qual (aw st) s.heap.objs.size f ah))->sp vs H Q E->∃t,bJ (cc (fN P w) P w K mg base N qual (aw st) f ah A outer s H E) (bB st) t/\t {nx:=fun _ H'=>Q .ax H',rt:=Q} (start N vs) H):cq P w K mg base (fN P w) (k+1) f fd ps sp:=by obtain⟨oc,od,kV,doc,pm,an,ah,ct,bL,rfl,lk,bN⟩:=F.ex;exact uW lk bN S len fun A outer s H vs Q E hr bU=>bZ ah A outer s H vs Q E hr bU
theorem CA.DG{C:Addr}{x qual:Str}{st:Stmt}{N ps:List Str}{k:Nat}{sp:Sp}(F:CA K mg C x qual st)(S:bb N ps (aw st))(len:∀vs H Q E,sp vs H Q E->vs.length=ps.length) (hb:∀(kV doc pm:Value)(an:Option Addr)(ah ct:Value)(us:List Value),us.length=ps.length->bindArgs (PySem.W.fnOf "__init__" qual (dj st) (bB st) (aw st) .none kV doc pm an ah ct) ⟨us,[]⟩=pure (ps.zip us)) (bZ:∀(f:Addr)(ah:Value)(A:Hi)(outer:List Env)(s:Hf)(H:Hp)(vs:List V)(Q:VK)(E:XK),ba k (A.deeper (envOfC qual (aw st) s.heap.objs.size f ah))->sp vs H Q E->∃t,bJ (cc (fN P w) P w K mg base N qual (aw st) f ah A outer s H E) (bB st) t/\t {nx:=fun _ H'=>Q .ax H',rt:=Q} (start N vs) H):m5 P w K mg base C x (k+1) sp:=by obtain⟨f,fd,hm,F'⟩:=F.ex;exact⟨f,fd,ps,F'.Bg S len fun ah A outer s H vs Q E=>bZ f ah A outer s H vs Q E,hm,F'.binds hb,F.mgC⟩
end
section
variable {X:Cx}{k:Nat}{x m:Str}{C:Addr}{p pos apos:Pos}{o e:Expr}{es:List Expr}{t:TA}{ta:TE}{sp:Sp}{E:XK}
def yH(C:Addr)(sp:Sp)(E:XK)(t:TA):TE:=fun σ H Q=>t σ H fun vs H1=>∀x dx,H1 x=none->H1 dx=none->dx≠x->sp (.ref x::vs) (upd (upd H1 dx (.own x)) x (.ins C dx [])) (fun v H2=>v= .ax/\Q (.ref x) H2) E
theorem Ac(F:m5 X.prog X.w X.K X.mg X.base C x k sp)(hp:Passes (fN X.prog X.w) X E)(hr:ba (k+1) X.A)(hg:Gl X x)(ha:PA X (e::es) t)(bQ:(x==("__debug__":Str))=false:=by decide) (he:starEach (e::es) X.env=(false,eval e X.env)::starEach es X.env:=by rfl)(bA:(backTo pos (starEach es X.env)).any (·.1)=false:=by rfl): PE X (.Call (.Name x p) (e::es) [] pos) (yH C sp E t):=by
  obtain⟨f,fd,ps,F,M,hb,hm⟩:=F;have h:=sS (pos:=pos) (p:=p) M F hr hg hm hb .nil hp ha bQ he bA;intro pins s σ H Q I hq;refine h pins s σ H Q I ?_;have e1:(fun(vs:List V) H1=>∀x dx,H1 x=none->H1 dx=none->dx≠x->sp (.ref x::(vs++[])) (upd (upd H1 dx (.own x)) x (.ins C dx [])) (fun v H2=>v= .ax/\Q (.ref x) H2) E) =fun vs H1=>∀x dx,H1 x=none->H1 dx=none->dx≠x->sp (.ref x::vs) (upd (upd H1 dx (.own x)) x (.ins C dx [])) (fun v H2=>v= .ax/\Q (.ref x) H2) E:=by funext vs H1;rw[gv]
  show t σ H fun vs H1=>∀x dx,H1 x=none->H1 dx=none->dx≠x->sp (.ref x::(vs++[])) (upd (upd H1 dx (.own x)) x (.ins C dx [])) (fun v H2=>v= .ax/\Q (.ref x) H2) E;rw[e1];exact hq
end
end L2
namespace L2
open PySem PySem.Spec PyProof.Rows SeqAt
section
variable {X:Cx}{k:Nat}{x:Str}{p pos:Pos}{e:Expr}{es:List Expr}{t:TA}{sp:Sp}{E:XK}
inductive xn(X:Cx)(i:Nat)(CX:d7)(E:XK)(t:TA)(σ:St)(H:Hp)(Q:VK):Prop |mk (f:Addr)(fd:FuncData)(ps:List Str)(k:Nat)(sp:Sp)(h0:σ[i]? =some (some (.ref f)))(h1:cq X.prog X.w X.K X.mg X.base CX k f fd ps sp)(h2:PySem.W.keepIn X.K (.ref f)=true)(h3:Binds X.K fd ps [])(h4:ba k X.A)(h5:t σ H fun vs H1=>sp vs H1 Q E):xn X i CX E t σ H Q
theorem Ao(i:Nat){CX:d7}(hp:Passes CX X E)(hN:X.N[i]? =some x:=by rfl)(hv:lY X.env.scope x:=by first|exact Or.inl rfl|exact Or.inr (Or.inl rfl)|exact Or.inr (Or.inr rfl))(ha:PA X (e::es) t)(hd:(x==("__debug__":Str))=false:=by decide) (bN:(x==("__classdict__":Str))=false:=by decide)(he:starEach (e::es) X.env=(false,eval e X.env)::starEach es X.env:=by rfl)(bA:(backTo pos (starEach es X.env)).any (·.1)=false:=by rfl): PE X (.Call (.Name x p) (e::es) [] pos) (fun σ H Q=>xn X i CX E t σ H Q):=by intro pins s σ H Q I h;obtain⟨f,fd,ps,k,sp,h0,F,hk,hb,hr,ht⟩:=h;refine jZ (ak (sP (pos:=p) hN hv hd bN pins s σ H (fun v H'=>v= .ref f/\H'=H) I ⟨_,h0,rfl,rfl⟩) fun u s1 ⟨v,H1,I1,rv,e1,e2⟩=>?_);subst e1 e2;cases(show u=Value.ref f from rv);refine mr (h₀:=X.base) I1.ok.mod.kin hk (ak (ha pos pins s1 σ H1 _ I1 ht) fun us s2 ⟨vs,H2,I2,r,q⟩=>⟨I2.bG,?_⟩) he bA;refine kI F hr hb .nil hp I2 r ?_;rw[gv];exact q
end
section
variable {X:Cx}
theorem mI:∀{bs:List Bool}{us:List Value},Vals (bs.map V.bl) us->us=bs.map Value.bool |[],_,.nil=>rfl |b::bs,_,.cons q r=>by cases(show _=Value.bool b from q);rw[mI r];rfl
def gI:Value->Bool | .bool b=>b |_=>false
theorem uZ{bs:List Bool}(A:Hi)(s:Hf):∀y,y∈(bs.map Value.bool).toArray->EqAt A s y (.bool true) (gI y):=fun y hy=>by obtain⟨b,_,rfl⟩:=mC.mp (List.mem_toArray.mp hy);have:=EqAt.bool_bool (A:=A) (s:=s) b true;cases b<;>exact this
theorem Fb(bs:List Bool):(bs.map Value.bool).countP gI=bs.count true:=by induction bs with |nil=>rfl |cons b r ih=>cases b<;>simp[List.countP_cons,gI,ih,List.count_cons]
inductive pW(K:He)(x:V)(vs:List V)(H:Hp)(Q:VK):Prop |mk (l:Addr)(bs:List Bool)(h0:x= .ref l)(h1:vs=[.bl true])(h2:aq K H l (bs.map V.bl))(h3:Q (.int (bs.count true:Nat)) H):pW K x vs H Q
theorem BF(K:He)(hK:X.K=K):iK X "list.count" (fun x vs H Q=>pW K x vs H Q):=by subst hK;intro pins s σ H x vs v us Q I rx rv h;obtain⟨l,bs,rfl,rfl,hl,q⟩:=h;cases rx;obtain⟨u,rfl,ru⟩:=vals1 rv;cases(show u=Value.bool true from ru);obtain⟨its,r,pl,_⟩:=I.list hl;rw[mI r]at pl;obtain⟨⟨cls,dd,data,sl⟩,ho,hc,n,hd⟩:=id pl.isList;simp only at hc hd;subst hc hd;refine k6 PySem.F.slot_list_count ⟨_,ho,rfl⟩ PySem.F.entry_list_count (PySem.F.args_list_count_2 _ _) (list_countAt l _ n dd sl (.bool true) gI) ⟨ho,uZ _ _,?_⟩;rw[show(bs.map Value.bool).toArray.toList=bs.map Value.bool from rfl,Fb];exact⟨.int _,H,I.tok _,⟨_,rfl⟩,q⟩
inductive pV(K:He)(x:V)(vs:List V)(H:Hp)(Q:VK):Prop |mk (l:Addr)(bs:List Bool)(j:Nat)(h0:x= .ref l)(h1:vs=[.bl true])(h2:aq K H l (bs.map V.bl))(h3:bs[j]? =some true)(h4:∀m,m<j->bs[m]? =some false)(h5:j<1000)(h6:Q (.int (j:Nat)) H):pV K x vs H Q
theorem BE(K:He)(hK:X.K=K):iK X "list.index" (fun x vs H Q=>pV K x vs H Q):=by
 subst hK;intro pins s σ H x vs v us Q I rx rv h;obtain⟨l,bs,j,rfl,rfl,hl,hj,hm,GQ,q⟩:=h;cases rx;obtain⟨u,rfl,ru⟩:=vals1 rv;cases(show u=Value.bool true from ru);obtain⟨its,r,pl,_⟩:=I.list hl;rw[mI r]at pl;obtain⟨⟨cls,dd,data,sl⟩,ho,hc,n,hd⟩:=id pl.isList;simp only at hc hd;subst hc hd;have D5:=(fS.mp hj);obtain⟨D8,D7⟩:=D5;refine k6 PySem.F.slot_list_index ⟨_,ho,rfl⟩ PySem.F.entry_list_index (PySem.F.args_list_index_2 _ _) (list_indexAt l _ n dd sl (.bool true) gI j (by simpa using D8) (by omega) ?_ (fun m uw oH=>?_)) ⟨ho,uZ _ _,⟨.int _,H,I.tok _,⟨_,rfl⟩,q⟩⟩
 ·simp[D7,gI]
 · have:=hm m oH
   obtain⟨h1,h2⟩:=fS.mp this;simp[h2,gI]
theorem Aw(K:He)(h:X.K=K){o e:Expr}{to:TE}{t:TA}{apos aF:Pos}(ho:PE X o to)(ha:PA X [e] t) (cU:attributeBase o "count" X.env (eval o X.env)=eval o X.env:=by rfl) (cT:((backTo aF (starEach [e] X.env)).all (fun x=>!x.1)&&(backToKw aF (keywordEach [] X.env)).all (fun x=>x.1.isSome) &&decide ([e].length+([]:List Keyword).length+(if([]:List Keyword).isEmpty then 0 else 1)<30))=true:=by rfl) (cS:(apos.endLine==aF.line)=true:=by rfl)(hs:starEach [e] X.env=(false,eval e X.env)::starEach [] X.env:=by rfl)(cR:(backTo aF (starEach [] X.env)).any (·.1)=false:=by rfl): PE X (.Call (.Attribute o "count" apos) [e] [] aF) (gz K "list" (fun x vs H Q=>pW K x vs H Q) to t):=by subst h;exact ie xK PySem.F.slot_list_count PySem.F.type_list_count (BF X.K rfl) ho ha cU cT cS hs cR
theorem Av(K:He)(h:X.K=K){o e:Expr}{to:TE}{t:TA}{apos aF:Pos}(ho:PE X o to)(ha:PA X [e] t) (cU:attributeBase o "index" X.env (eval o X.env)=eval o X.env:=by rfl) (cT:((backTo aF (starEach [e] X.env)).all (fun x=>!x.1)&&(backToKw aF (keywordEach [] X.env)).all (fun x=>x.1.isSome) &&decide ([e].length+([]:List Keyword).length+(if([]:List Keyword).isEmpty then 0 else 1)<30))=true:=by rfl) (cS:(apos.endLine==aF.line)=true:=by rfl)(hs:starEach [e] X.env=(false,eval e X.env)::starEach [] X.env:=by rfl)(cR:(backTo aF (starEach [] X.env)).any (·.1)=false:=by rfl): PE X (.Call (.Attribute o "index" apos) [e] [] aF) (gz K "list" (fun x vs H Q=>pV K x vs H Q) to t):=by subst h;exact ie xK PySem.F.slot_list_index PySem.F.type_list_index (BE X.K rfl) ho ha cU cT cS hs cR
end
end L2
namespace L2
open PySem PySem.Spec PyProof.Rows
section
variable {κ : Type} [DecidableEq κ]
end
section
variable {P:Hg}{w:World}{H:Hp}{h:Heap}{a:Addr}
end
section
variable {X:Cx}{pins:List (Addr×Obj)}{σ:St}{H:Hp}{s:Hf}{a:Addr}{y v:V}{u r:Value}{o:Option V}{A:Hi}{E:Value->Hf->Prop}
end
section
variable {X:Cx}{pins:List (Addr×Obj)}{σ:St}{H:Hp}{s:Hf}{a:Addr}{bh:List (Key×V)}{k:Key}{u:Value}{A:Hi}{E:Value->Hf->Prop}
end
def vR(i:Expr):Prop:=∀ov iv,subscripted i false ov iv=operate [ov,iv] (getItem ov iv)
theorem yZ{prog:Hg}{w:World}{A:Hi}{E:Value->Hf->Prop}{s:Hf}{env:Env}{value slice:Expr}{pos:Pos}{T id:String}{Q:Value->Hf->Prop} (hl:typeLookup (.type T) "__getitem__"=pure (some (.builtin id)))(hs:vR slice) (h:wpAny (model prog w) A (eval value env) (fun o s₁=>wpAny (model prog w) A (eval slice env) (fun i s₂=>s₂.TypeIs o T/\wpAny (model prog w) A (getItem o i) Q E s₂) E s₁) E s): wpAny (model prog w) A (eval (.Subscript value slice pos) env) Q E s:=by
  refine Subscript_ (d9 h (fun o s₁ h₁=>d9 h₁ (fun i s₂ h₂=>?_) fun _ _ x=>x) fun _ _ x=>x);obtain⟨hT,h₂⟩:=h₂;unfold subscriptTail;refine ae ?_;rw[getitemInPython_of_ne hT.not_modules];refine ae (pY hT hl ?_);have fin:wpAny (model prog w) A (subscripted slice false o i) (fun r s₃=>wpAny (model prog w) A (letTemporaryGo value o r>>=fun _=>pure r) Q E s₃) E s₂:=by rw[hs o i];exact wpAny_operating (d9 h₂ (fun r s₃ h₃=>ae (wpAny_letTemporaryGo (aE h₃))) fun _ _ x=>x)
  first |exact aE (ae fin) |exact ae (aE (ae fin)) |exact ae fin
section
variable {X:Cx}{o i e value:Expr}{pos pos' iW:Pos}{td ty tv:TE}
end
section
variable {X:Cx} {pos:Pos}
end
section
variable {X:Cx}{pins:List (Addr×Obj)}{σ:St}{H:Hp}{s:Hf}{a:Addr}{y d:V}{u r:Value}{o:Option V}{A:Hi}{E:Value->Hf->Prop}
end
section
variable {X:Cx}{o e f:Expr}{apos aF:Pos}{td ty tx:TE}
end
section
variable {X:Cx}{pins:List (Addr×Obj)}{σ:St}{H:Hp}{s:Hf}{a:Addr}{bh:List (Key×V)}{A:Hi}{E:Value->Hf->Prop}
end
section
variable {X:Cx}{pins:List (Addr×Obj)}{σ:St}{H:Hp}{s:Hf}{a:Addr}{y:V}{u:Value}{A:Hi}{E:Value->Hf->Prop}
end
end L2
namespace L2
open PySem PySem.Spec PyProof.Rows PySem.W
structure GD(w:World)(K:Frag)(mg:Str->Option Value)(x:Str)(a:Addr):Prop where
 at':mg x=some (.ref a)
 ob:∃es n,K.lookup a=some ⟨.type "dict",none,.dict es n,#[]⟩/\KeysLit w.params es.toList
 lo:(a==sysModules)=false
theorem Eu{w:World}{K:Frag}{mg:Str->Option Value}{x:Str}{a:Addr}{h:Heap}{es:Array DictEntry}{n:Nat}(X:K.In h)(G:h.Ns mainGlobals mg)(e:nsIn K mainGlobals x=some (some (.ref a)))(hl:K.lookup a=some ⟨.type "dict",none,.dict es n,#[]⟩)(hk:KeysLit w.params es.toList)(lo:(a==sysModules)=false):GD w K mg x a:=⟨mg_of X G e,⟨es,n,hl,hk⟩,lo⟩
section
variable {X:Cx}{i:Expr}{x:Str}{a:Addr}{pos p:Pos}{ty:TE}
inductive xk(K:Frag)(a:Addr)(Q:VK)(y:V)(H:Hp):Prop |mk (z:Str)(r:Option Value)(h0:y= .str z)(h1:nsIn K a z=some r)(h2:Q (.bl r.isSome) H):xk K a Q y H
theorem Ax(G:GD X.w X.K X.mg x a)(hg:Gl X x)(hi:PE X i ty)(bQ:(x==("__debug__":Str))=false:=by decide):PC X .In i (.Name x p) (fun σ H Q=>ty σ H fun y H1=>xk X.K a Q y H1):=by intro pins s σ H Q I h;obtain⟨es,n,hl,hk⟩:=G.ob;refine ak (hi pins s σ H _ I h) fun iv s1 ⟨y,H1,I1,ry,z,r,ey,e,q⟩=>g6 I1 hg G.at' ?_ bQ;subst ey;obtain⟨t,rfl⟩:=ry;refine wpAny_in_of (strKind_is X.prog X.w z t) G.lo (mapOf_K (prog:=X.prog) I1.bG hl hk) ?_;rw[find_K hl e];exact⟨.bl r.isSome,H1,I1.tok _,rfl,q⟩
inductive xl(K:Frag)(a:Addr)(Q:VK)(y:V)(H:Hp):Prop |mk (z:Str)(u:Value)(v:V)(h0:y= .str z)(h1:nsIn K a z=some (some u))(h2:RelV v u)(h3:Q v H):xl K a Q y H
theorem Ak(G:GD X.w X.K X.mg x a)(hg:Gl X x)(hi:PE X i ty)(hs:vR i)(bQ:(x==("__debug__":Str))=false:=by decide):PE X (.Subscript (.Name x p) i pos) (fun σ H Q=>ty σ H fun y H1=>xl X.K a Q y H1):=by intro pins s σ H Q I h;obtain⟨es,n,hl,hk⟩:=G.ob;refine yZ PySem.F.slot_dict_getitem.lookup hs (g6 I hg G.at' ?_ bQ);refine ak (hi pins s σ H _ I h) fun iv s1 ⟨y,H1,I1,ry,z,u,v,ey,e,rv,q⟩=>?_;subst ey;obtain⟨t,rfl⟩:=ry;have hm:=mapOf_K (prog:=X.prog) (w:=X.w) I1.bG hl hk;exact⟨hm.typeIs,wpAny_getItem_of (strKind_is X.prog X.w z t) hm (find_K hl e) ⟨v,H1,I1.tok _,rv,q⟩⟩
end
theorem C5{l:OpenLaw}{q:Hg}{loose:List Str}{XP:(Str->Option Value)->Heap->Prop}{YP:World->Heap->Prop}{d:DefRec}{K:Params->Frag}{k:Nat}{x:Str}{st:Stmt}(hn:l.most=some 63)(jy:d.params.defaults=[]) (hr:ba k callerA)(hY:∀(w:World)(h:Heap),YP w h->(K w.params).In h)(All:World->Frag->(Str->Option Value)->Prop) (F:∀(w:World)(mg:Str->Option Value)(h:Heap),(K w.params).In h->h.Ns mainGlobals mg->All w (K w.params) mg) (L:∀(w:World)(K:Frag)(mg:Str->Option Value),All w K mg->FA K mg d.name st) (hb:∀(kV doc pm:Value)(an:Option Addr)(ah ct u:Value),bindArgs (fnOf d.name d.name (dj st) (bB st) (aw st) .none kV doc pm an ah ct) ⟨[u],[]⟩=pure [(x,u)]) (ok:∀(P:Hg)(w:World)(K:Frag)(mg:Str->Option Value)(base:Heap)(f:Addr)(fd:FuncData),All w K mg->dA K d.name d.name st f fd->cq P w K mg base cA k f fd [x] (fun vs H Q _=>∃(a:Addr)(ns:List Int),vs=[.ref a]/\aq K H a (ns.map V.int)/\ns.length<=63/\∀H',Q (.bl true) H')): WalkO q loose XP YP l.row.toRowW d [] (fun f vs=>PySem.call f vs):=L2.y9 (n:=63) (k:=k) (x:=x) (CX:=fun _=>cA) (sp:=fun w=>fun vs H Q _=>∃(a:Addr)(ns:List Int),vs=[.ref a]/\aq (K w.params) H a (ns.map V.int)/\ns.length<=63/\∀H',Q (.bl true) H') hn (by decide) jy hr hY (fun w mg fa h KX G jv=>by
     have A:=F w mg h KX G;obtain⟨f,fd,hm,Fn⟩:=(L _ _ _ A).ex;have e:fa=f:=by rw[jv]at hm;injection (cu hm)
     subst e;refine⟨fd,fun s u=>?_,fun base _ _=>ok l.prog w _ mg base fa fd A Fn⟩;obtain⟨oc,od,kV,doc,pm,an,ah,ct,bL,rfl,lk,bN⟩:=Fn.ex;exact .of_eq (hb kV doc pm an ah ct u)) (fun _ _ a ns hl _ hS=>⟨a,ns,rfl,hS,hl,fun _=>rfl⟩) fun _ _ _ _ _ z=>z
section
variable {P:Hg}{w:World}{K:Frag}{mg:Str->Option Value}{base:Heap}{N:List Str}{qual:Str}{scope:Scope}{f:Addr}{cd:Value}{cl:List (Str×Addr)}{A:Hi}{outer:List Env}{s:Hf}{H:Hp}{E E0:XK}
end
section
variable {X:Cx}{x:Str}{p pos:Pos}{E:XK}
end
end L2
namespace L2
open PySem PySem.Spec PyProof.Rows PySem.W
section
variable {X:Cx}{pins:List (Addr×Obj)}{σ:St}{H:Hp}{s:Hf}{pr:Arguments}{bd:Expr}{sc:Scope}{BQ:Pos}{cl:List (Str×Addr)}{T c:Addr}{q:Str}
end
end L2
namespace L2
open PySem PySem.Spec PyProof.Rows PySem.W
section
variable {X:Cx}{k:Nat}{x:Str}{p pos BQ:Pos}{pr:Arguments}{bd:Expr}{sc:Scope}{sp:Hb}{T c:Addr}{q:Str}{N:List Str}
end
section
variable {P:Hg}{w:World}{K:Frag}{mg:Str->Option Value}{base:Heap}
end
end L2
namespace L2
open PySem PySem.Spec PyProof.Rows
section
variable {P:Hg}{w:World}{K:He}{mg:Str->Option Value}{base:Heap}{N:List Str}{qual:Str}{scope:Scope}{f:Addr}{cd:Value}{A:Hi}{outer:List Env}{s:Hf}{H:Hp}{E:XK}{pins:List (Addr×Obj)}{σ:St}{H1:Hp}{s1:Hf}{ex:Addr}{C:Addr}{dx:Addr}{φ:Heap->Prop}{cls:Value}{GU:Option Addr}{h2:Heap}{vs:List Value}
theorem qy(I:Inv (cc (fN P w) P w K mg base N qual scope f cd A outer s H E) pins σ H1 s1)(hx:Heap.MadeExcOf s1.heap h2 ex cls vs)(q:E cls none H1):(cc (fN P w) P w K mg base N qual scope f cd A outer s H E).xe (.ref ex) {s1 with heap:=h2}:=by
 obtain⟨t,e1,_⟩:=hx.there;have hf:H1 ex=none:=by cases e:H1 ex with |none=>rfl |some o=>obtain⟨ob,e2⟩:=(I.hok ex o e).there;rw[hx.new]at e2;cases e2
 have nw:s.heap.get? ex=none:=by cases e:s.heap.get? ex with |none=>rfl |some o=>obtain⟨ob,e2⟩:=I.base.there ex o e (ft);rw[hx.new]at e2;cases e2
 have I2:=I.kept (t':=s1.toks) hx.keeps;have cQ:h2.FunFrames base (envOfC qual scope s.heap.objs.size f cd::outer):=I2.stack;have Dh:∀env∈(envOfC qual scope s.heap.objs.size f cd::outer),∀b,env.frame=some b->b∈ex::bI (envOfC qual scope s.heap.objs.size f cd::outer):=fun env he b hb=>.tail _ (iR.mpr ⟨env,he,hb⟩);have hB:(PySem.W.hideAll h2 (ex::bI (envOfC qual scope s.heap.objs.size f cd::outer))).StaysIn h2:=fun b o e=>PySem.W.of_hideAll _ e;have kZ:∀b o,s.heap.get? b=some o->b∉bI outer->b∉ex::bI (envOfC qual scope s.heap.objs.size f cd::outer):=fun b o e hb hm=>by
  rcases bV.mp hm with rfl|hm
  ·rw[nw]at e;cases e
  obtain⟨env,he,hf⟩:=iR.mp hm;rcases bV.mp he with rfl|he
  · have e1:s.heap.objs.size=b:=cu hf
    have h1:=aU e;rw[<-e1]at h1;exact absurd h1 (gZ _)
  ·exact hb (iR.mpr ⟨env,he,hf⟩)
 have F0:Fl P w outer H s.heap ex H1 (PySem.W.hideAll h2 (ex::bI (envOfC qual scope s.heap.objs.size f cd::outer))) h2:=by
  refine⟨I2.base,I2.hok,fun b o e n hb=>qa _ (I2.base.keep b o e n hb (ft)) (kZ b o e hb),fun b o e=>?_,fun b o e hb=>?_,fun b hb=>?_,nw,hf⟩
  · obtain⟨nW,e1⟩:=(I2.hok b o e).there
    refine⟨nW,qa _ e1 fun hm=>?_⟩;rcases bV.mp hm with z|hm
    ·rw[z,hf]at e;cases e
    · rw[I2.kC b hm]at e
      cases e
  · obtain⟨nW,e1⟩:=I2.base.there b o e (ft)
    exact⟨nW,qa _ e1 (kZ b o e hb)⟩
  · obtain⟨env,he,hf⟩:=iR.mp hb
    exact I2.kC b (iR.mpr ⟨env,.tail _ he,hf⟩)
 show wpAny (model P w) (A.deeper (envOfC qual scope s.heap.objs.size f cd)) (leaving (envOfC qual scope s.heap.objs.size f cd) (.ref ex)) _ _ _;refine C4 (L:=s.heap.objs.size) I.ok.frames (PySem.W.funFrames_hide cQ Dh) rfl e1 hB (PySem.W.hideAll_none _ (.head _)) rfl rfl rfl fun h' x1 x2=>?_;exact⟨ex,cls,none,H1,_,rfl,I.os,I.bare,x1,F0.step hB x1.1 x2 cQ.2.2,q⟩
end
section
variable {X:Cx} {sc:Scope}
end
end L2
namespace Lw
open PySem PySem.Spec PyProof.Rows L2
def top(i:Nat):Stmt:=PySem.Challenge.pw_glidequeue_k60_desks_made_of_any_things.main.body.getD i (.Pass ⟨0,0,0,0⟩)
section
variable {P:Hg}{w:World}{K:He}{mg:Str->Option Value}{base:Heap}
inductive w9(vs:List V)(H:Hp)(Q:VK):Prop |mk (p:_)(many:_)(h0:vs=[.ref p,.int many])(h1:cZ H p)(h2:1<=many)(h3:many<=10^40)(h4:∀d H',0<=d->d<many->aG p H H'->Q (.int d) H'):w9 vs H Q
def eV:Sp:=fun vs H Q _=>w9 vs H Q
abbrev mS:Stmt:=top 109
theorem rC:bb ["_law_bag_here","_law_many","_law_digit","_law_number","_law_room"] ["_law_bag_here","_law_many"] (aw mS):=bD (by decide+kernel)
theorem AO(F:FA K mg "_law_take" mS)(B:bp mg):aA P w K mg base "_law_take" 1 eV:=by
 refine F.has rC (fun vs H Q E h=>?_) (fun _ _ _ _ _ _=>fL fun _ _=>rfl) (fun f ah A outer s H vs Q E hr h=>?_)
 · obtain⟨p,many,rfl,_⟩:=h
   rfl
 · obtain⟨p,many,rfl,⟨c,m,hp,ok⟩,h1,h2,k⟩:=h
   obtain⟨c0,m0,m1⟩:=id ok;have nd:=rC.nd;refine⟨_,(ao (bo (bw AG (px K (pv 0) aj) aj (bM _)) (ao (pS 2 nd (aQ ig (px K (pv 0) aj) (pv 1))) (ao (ja (aQ t9 (px K (pv 0) aj) (pv 1)) (sO (pv 0) aj set_list)) (aD (aW (pv 2))))) bj) (ao (pS 3 nd aj) (ao (pS 4 nd aj) (ao (sF qi (bw kS (pv 4) (pv 1) (bM _)) (ao (ja (aQ ig (aQ kR (aQ dg (aQ fD (px K (pv 0) aj) aj) aj) aj) aj) (sO (pv 0) aj set_list)) (ao (pS 3 nd (aQ dg (aQ fD (pv 3) aj) (aQ ig (aQ fD (aQ t9 (px K (pv 0) aj) aj) aj) aj))) (aD (pS 4 nd (aQ fD (pv 4) aj)))))) (aD (aW (aQ ig (pv 3) (pv 1)))))))),?_⟩;refine⟨_,rfl,.inl ⟨p,_,0,.int c,rfl,rfl,aq.of hp,rfl,_,_,rfl,rfl,_,rfl,?_⟩⟩;refine bS (fun hc=>?_) (fun _=>?_)
   · refine⟨_,rfl,.inl ⟨p,_,0,.int c,rfl,rfl,aq.of hp,rfl,_,rfl,_,_,rfl,rfl,h1,?_⟩⟩
     refine⟨_,rfl,.inl ⟨p,_,0,.int c,rfl,rfl,aq.of hp,rfl,_,rfl,_,_,rfl,rfl,⟨h1,qB (by omega) h2⟩,?_⟩⟩;refine⟨_,rfl,p,_,0,0,rfl,rfl,hp,rfl,?_⟩;refine⟨_,rfl,?_⟩;exact k _ _ (mE _ (by omega)) (mF _ (by omega)) (aG.upd ⟨Int.ediv_nonneg c0 (by omega),m0,m1⟩)
   · refine qA (fun σ H2=>∃(v:Option V)(n r:Int),σ=[some (.ref p),some (.int many),v,some (.int n),some (.int r)]/\aG p H H2/\1<=r) (fun σ _=>match σ with|[_,_,_,_,some (.int r)]=>(many-r).toNat|_=>0) ?_ ?_ ?_
     ·exact⟨none,0,1,rfl,.refl ⟨c,m,hp,ok⟩,hR _⟩
     · rintro σ H2 ⟨v,n,r,rfl,bx,fF⟩
       obtain⟨c',m',lx,FD,Gw,Gv⟩:=id bx.bag;refine⟨_,rfl,_,rfl,_,_,rfl,rfl,_,rfl,?_⟩;refine bS (fun hc=>?_) (fun hc=>?_)
       · have bX:r<many:=pZ hc
         refine⟨_,rfl,.inl ⟨p,_,1,.int m',rfl,rfl,aq.of lx,rfl,_,_,rfl,rfl,.of_right (gr (by decide) (by decide)),_,_,rfl,rfl,_,_,rfl,rfl,⟨by decide,by decide,?_⟩,_,_,rfl,rfl,(by show(0:Int)<2147483629;decide),?_⟩⟩
         · have p4:(2:Nat)^64=18446744073709551616:=by decide
           rw[p4];omega
         refine⟨_,rfl,p,_,1,1,rfl,rfl,lx,rfl,?_⟩;have g0:0<=((m'*48271+7919)^(3:Int).toNat)%2147483629:=mE _ (by decide);have g1:((m'*48271+7919)^(3:Int).toNat)%2147483629<2147483629:=mF _ (by decide);have FE:aG p H (L2.upd H2 p (.lst [.int c',.int (((m'*48271+7919)^(3:Int).toNat)%2147483629)])):=bx.trans (.upd ⟨FD,g0,Int.lt_trans g1 (by decide)⟩);refine⟨_,rfl,_,_,rfl,rfl,.of_right (gr (by decide) (by decide)),_,rfl,.inl ⟨p,_,1,.int _,rfl,rfl,aq.of br,rfl,_,_,rfl,rfl,⟨by decide,qB (by decide) (by decide)⟩,_,_,rfl,rfl,.of_right (gr (by decide) (by decide)),_,_,rfl,rfl,(by show(0:Int)<1073741789;decide),_,_,rfl,rfl,?_⟩⟩;refine⟨_,rfl,_,_,rfl,rfl,.of_right (gr (by decide) (by decide)),?_⟩;refine⟨⟨v,_,_,rfl,FE,?_⟩,?_⟩
         ·omega
         · show(many-r*1073741789).toNat<(many-r).toNat
           omega
       · refine⟨_,rfl,_,rfl,_,_,rfl,rfl,h1,?_⟩
         exact k _ _ (mE _ (by omega)) (mF _ (by omega)) bx
     · rintro σ H2 Q1 Q2 hq ⟨v1,e1,v2,e2,i,j,e3,e4,kk,e5,q⟩
       exact⟨v1,e1,v2,e2,i,j,e3,e4,kk,e5,hq _ _ q⟩
inductive wC(K:He)(vs:List V)(H:Hp)(Q:VK):Prop |mk (a:Addr)(ns:List Int)(at':Int)(h0:vs=[.ref a,.int at'])(h1:aq K H a (ns.map V.int))(h2:ns.length<=63)(h3:0<=at')(h4:at'<=100)(h5:∀p H',H p=none->cZ H' p->ai H H'->Q (.ref p) H'):wC K vs H Q
def rk(K:He):Sp:=fun vs H Q _=>wC K vs H Q
abbrev nC:Stmt:=top 108
theorem rZ:bb ["_law_script","_law_at","_law_cell","_law_mix","_law_k"] ["_law_script","_law_at"] (aw nC):=bD (by decide+kernel)
theorem ud{ns:List Int}{j:Nat}(h:j<ns.length):∃z,fk (ns.map V.int) (j:Int)=some (.int z):=⟨ns[j],FP (by simp[h])⟩
theorem Bd(F:FA K mg "_law_bag" nC)(B:bp mg):aA P w K mg base "_law_bag" 1 (rk K):=by
 refine F.has rZ (fun vs H Q E h=>?_) (fun _ _ _ _ _ _=>fL fun _ _=>rfl) (fun f ah A outer s H vs Q E hr h=>?_)
 · obtain⟨a,ns,at',rfl,_⟩:=h
   rfl
 · obtain⟨a,ns,at',rfl,hS,hlen,h0,h1,k⟩:=h
   obtain⟨j,rfl⟩:∃j:Nat,at'=(j:Int):=⟨at'.toNat,by omega⟩;have nd:=rZ.nd;refine⟨_,(ao (pS 2 nd aj) (ao (j9 (bo (bw kS (pv 1) (dy K B (aa (pv 0) af)) (bM _)) (aD (pS 2 nd (bF (x:="abs") vv rfl (B.at "abs") PyProof.Rows.boot_abs (aa (px K (pv 0) (pv 1)) af)))) bj)) (ao (pS 3 nd (aQ dg (aQ dg (aQ fD (aQ fD aj (pv 1)) (pv 1)) (aQ fD aj (pv 1))) aj)) (ao (sH qi rfl (kN rfl (B.at "range") (aa (bF (x:="min") (vt rfl) rfl (B.at "min") PyProof.Rows.boot_min (aa (dy K B (aa (pv 0) af)) (aa aj af))) af)) (bK 4 nd) (aD (pS 3 nd (aQ ig (aQ kR (aQ dg (aQ dg (aQ fD (pv 3) aj) (aQ ig (px K (pv 0) (pv 4)) aj)) (aQ fD (pv 4) (pv 4))) aj) aj)))) (ao (j9 (bo (bw kS (pv 2) (aQ kR aj aj) (bM _)) (aD (pS 2 nd aj)) bj)) (aD (aW (dG (aa (pv 2) (aa (pv 3) af)))))))))),?_⟩;refine⟨fun σ H'=>H'=H/\∃c:Int,σ=[some (.ref a),some (.int (j:Int)),some (.int c),none,none]/\0<=c,?_,?_⟩
   · refine⟨_,rfl,_,rfl,a,_,rfl,.inl hS,_,_,rfl,rfl,_,rfl,?_⟩
     refine bS (fun hc=>?_) (fun _=>?_)
     · have hj:(j:Int)<((ns.map V.int).length:Int):=pZ hc
       rw[aZ]at hj;obtain⟨z,hz⟩:=ud (ns:=ns) (j:=j) (by omega);refine⟨_,rfl,_,rfl,.inl ⟨a,_,_,_,rfl,rfl,hS,hz,z,rfl,?_⟩⟩;exact⟨rfl,_,rfl,by split<;>omega⟩
     ·exact⟨rfl,0,rfl,hR _⟩
   rintro σ H' ⟨rfl,c,rfl,c0⟩;refine⟨_,rfl,_,_,rfl,rfl,.of_left (gr (by decide) (by decide)),_,rfl,_,_,rfl,rfl,.of_right (gr (by omega) (by omega)),_,rfl,_,_,rfl,rfl,.of_left (gr (by decide) (by decide)),_,_,rfl,rfl,_,_,rfl,rfl,?_⟩;refine⟨_,rfl,a,_,rfl,.inl hS,_,_,rfl,_,rfl,?_,?_,?_⟩
   ·split<;>omega
   ·split<;>(try rw[aZ])<;>omega
   refine uV (Pv:=fun i σ H2=>H2=H'/\∃(m:Int)(v:Option V),σ=[some (.ref a),some (.int (j:Int)),some (.int c),some (.int m),v]/\0<=m/\m<2147483648) ?_ ?_ ?_
   · refine⟨rfl,_,none,rfl,?_,?_⟩
     · have:(0:Int)<=(j:Int)*(j:Int):=Int.mul_nonneg (by omega) (by omega)
       rw[Int.mul_assoc];omega
     · have:(j:Int)*(j:Int)<=100*100:=Int.mul_le_mul (by omega) (by omega) (by omega) (by omega)
       rw[Int.mul_assoc];omega
   · rintro i σ H2 hi ⟨rfl,m,v,rfl,m0,m1⟩
     have Dn:i<ns.length:=by rw[aZ]at hi;split at hi<;>omega
     obtain⟨z,hz⟩:=ud (ns:=ns) (j:=i) Dn;rw[<-Int.zero_add (i:Int)]at hz;have Cp:0<=z%2147483647:=mE _ (by decide);have Co:z%2147483647<2147483647:=mF _ (by decide);have Di:(0:Int)<=(0+(i:Int))*(0+(i:Int)):=Int.mul_nonneg (by omega) (by omega);have Dj:(0+(i:Int))*(0+(i:Int))<=100*100:=Int.mul_le_mul (by omega) (by omega) (by omega) (by omega);refine⟨_,rfl,_,_,rfl,rfl,.of_right (gr (by decide) (by decide)),_,rfl,_,rfl,.inl ⟨a,_,_,_,rfl,rfl,hS,hz,_,_,rfl,rfl,(by show(0:Int)<2147483647;decide),_,_,rfl,rfl,_,rfl,_,rfl,_,_,rfl,rfl,.of_right (gr (by omega) (by omega)),_,_,rfl,rfl,_,_,rfl,rfl,⟨by decide,by decide,?_⟩,_,_,rfl,rfl,(by show(0:Int)<2147483629;decide),?_⟩⟩
     · have p4:(2:Nat)^64=18446744073709551616:=by decide
       rw[p4];generalize(0+(i:Int))*(0+(i:Int))=ii at Di Dj⊢;generalize z%2147483647=zz at Cp Co⊢;omega
     ·exact⟨rfl,_,_,rfl,mE _ (by decide),Int.lt_trans (mF _ (by decide)) (by decide)⟩
   · rintro σ H2 ⟨rfl,m,v,rfl,m0,m1⟩
     refine⟨fun σ H3=>H3=H2/\∃c:Int,σ=[some (.ref a),some (.int (j:Int)),some (.int c),some (.int m),v]/\0<=c,?_,?_⟩
     · refine⟨_,rfl,_,_,rfl,rfl,⟨by decide,by decide,by decide⟩,_,_,rfl,rfl,_,rfl,?_⟩
       refine bS (fun hc=>?_) (fun _=>?_)
       ·exact⟨rfl,0,rfl,hR _⟩
       ·exact⟨rfl,c,rfl,c0⟩
     rintro σ H3 ⟨rfl,c,rfl,c0⟩;refine⟨_,rfl,_,rfl,(by show 2<=sizeLine;decide),fun p H4 nw=>?_⟩;exact k p H4 nw.no ⟨c,m,nw.at',c0,m0,m1⟩ nw.same
def jq(T:String):Bool:=dD T "int"&& !dD T "bool"
inductive wy(K:He)(vs:List V)(H:Hp)(Q:VK):Prop |mk (v:_)(T:_)(h0:vs=[v])(h1:gS K H v T)(h2:Q (.bl (jq T)) H):wy K vs H Q
def j6(K:He):Sp:=fun vs H Q _=>wy K vs H Q
open Tm (numS)
def vS (i:Int):Prop:=i.natAbs<10^540
inductive wk(vs:List V)(H:Hp)(Q:VK):Prop |mk (i:_)(h0:vs=[.int i])(h1:vS i)(h2:∀H',ai H H'->Q (.str (numS i)) H'):wk vs H Q
def qY:Sp:=fun vs H Q _=>wk vs H Q
abbrev mV:Stmt:=top 80
theorem rF:bb ["number","rest","parts","low","written"] ["number"] (aw mV):=bD (by decide+kernel)
theorem AR(F:FA K mg "show_number" mV)(B:bp mg)(uH:GV mg "PART" (.int 10000000000000000000000000000000000000000000000000000000000000000))(DM:GV mg "PART_FIGURES" (.int 64)):aA P w K mg base "show_number" 1 qY:=by
 refine F.has rF (fun vs H Q E h=>?_) (fun _ _ _ _ _ _=>dX fun _=>rfl) (fun f ah A outer s H vs Q E hr h=>?_)
 · obtain⟨i,rfl,_⟩:=h
   rfl
 · obtain⟨i,rfl,hn,k⟩:=h
   have nd:=rF.nd;refine⟨_,(ao (pS 1 nd (bF (x:="abs") vv rfl (B.at "abs") PyProof.Rows.boot_abs (aa (pv 0) af))) (ao (pS 2 nd (dG af)) (ao (sF qi (bw AH (pv 1) (cn (x:="PART") rfl uH) (bM _)) (ao (ja (bF (x:="divmod") Fz rfl (B.at "divmod") PyProof.Rows.boot_divmod (aa (pv 1) (aa (cn (x:="PART") rfl uH) af))) (kP K rfl (n:=2) rfl (ek (bK 1 nd) (ek (bK 3 nd) kO)))) (aD (sI (sW K rfl (pv 2) (aa (Aq K rfl (fC (x:="str") pG rfl (B.at "str") qh (aa (pv 3) af)) (aa (cn (x:="PART_FIGURES") rfl DM) af)) af)))))) (ao (sI (sW K rfl (pv 2) (aa (fC (x:="str") pG rfl (B.at "str") qh (aa (pv 1) af)) af))) (ao (pS 4 nd (Au K rfl rfl (B.at "reversed") cL (aa (pv 2) af))) (aD (aW (Ai (bw kS (pv 0) aj (bM _)) (Ag (sL cL (sL (Al (pv 4)) A4))) (pv 4))))))))),?_⟩;refine⟨_,rfl,i,rfl,?_⟩;rw[show(if i<0 then-i else i)=((i.natAbs:Nat):Int) by split<;>omega];refine⟨cm rfl,fun l H1 n1=>?_⟩;refine qA (fun σ H2=>ai H H2/\∃(r:Nat)(zs:List Str)(v3 v4:Option V),σ=[some (.int i),some (.int r),some (.ref l),v3,v4]/\H2 l=some (.lst (zs.map V.str))/\Nu.Wr i.natAbs r zs) (fun σ _=>match σ with|[_,some (.int y),_,_,_]=>y.natAbs|_=>0) ?_ ?_ ?_
   ·exact⟨n1.same,_,[],_,_,rfl,n1.at',Nu.Wr.nil _⟩
   · rintro σ H2 ⟨s2,r,zs,v3,v4,rfl,dl,wr⟩
     refine⟨_,rfl,_,_,rfl,rfl,_,rfl,?_⟩;have eB:(10000000000000000000000000000000000000000000000000000000000000000:Int)=((10^64:Nat):Int):=by decide+kernel
     rw[eB];have len:=wr.len hn
     have ll : (zs.map V.str).length < sizeLine := by rw[aZ];have:(8:Nat)<sizeLine:=by decide
                                                      omega
     have nl:H l=none:=n1.no;have put:∀(H3:Hp)(z:Str),ai H2 H3->ai H (upd H3 l (.lst (zs.map V.str++[.str z]))):=fun H3 z s3 b o e=>by
      have hb:b≠l:=fun y=>by rw[y,nl]at e;cases e
      rw[aV hb];exact s3 _ _ (s2 _ _ e)
     refine bS (fun hc=>?_) (fun hc=>?_)
     · have hr:10^64<=r:=by have:=pZ hc;omega
       have hm:r%10^64<10^64:=Nat.mod_lt _ (Nat.pow_pos (by decide));refine⟨_,rfl,_,_,rfl,by decide+kernel,by show(10^64:Nat)<2^5000;decide+kernel,fun t H3 n3=>?_⟩;refine⟨_,_,rfl,aH.of n3.at',rfl,_,_,rfl,_,_,rfl,rfl,?_⟩;have em:(((r:Nat):Int)%((10^64:Nat):Int))=((r%10^64:Nat):Int):=rfl;have ed:(((r:Nat):Int)/((10^64:Nat):Int))=((r/10^64:Nat):Int):=rfl;have lg:=Nu.tU (mz hm (by decide+kernel:10^64<10^540));refine⟨_,rfl,.inl ⟨rfl,_,aq.of (n3.same _ _ dl)⟩,_,rfl,.inl ⟨_,rfl,lg,rfl,⟨_,_,rfl,rfl,by decide+kernel,⟨l,_,_,rfl,rfl,n3.same _ _ dl,ll,?_⟩⟩⟩⟩;refine⟨⟨put H3 _ n3.same,r/10^64,zs++[Txt.zfill (numS ((r%10^64:Nat):Int)) 64],_,_,rfl,?_,wr.step hr⟩,?_⟩
       ·rw[br,hJ];rfl
       · show((r/10^64:Nat):Int).natAbs<((r:Nat):Int).natAbs
         have:r/10^64<r:=Nat.div_lt_self (by omega) (by decide);omega
     · have hr:r<10^64:=by have:=(mt ml) hc;omega
       have lg:=Nu.tU (mz hr (by decide+kernel:10^64<10^540));have lr:(numS (r:Int)).length<=64:=by show(numS (r:Int)).cps.size<=64;rw[<-gw,Tm.jG,aZ];exact(Nat.length_toDigits_le_iff (by decide) (by decide)).mpr hr
       refine⟨_,rfl,.inl ⟨rfl,_,aq.of dl⟩,_,rfl,.inl ⟨_,rfl,lg,⟨l,_,_,rfl,rfl,dl,ll,?_⟩⟩⟩;refine⟨rfl,_,rfl,⟨"",l,zs++[numS (r:Int)],rfl,rfl,aq.of (by rw[br,hJ];rfl),fun z hz=>?_,by decide+kernel,by rw[dc,qq];omega,?_⟩⟩
       · rcases kd.mp hz with hz|hz
         ·have:=wr.l z hz;omega
         ·rw[fP.mp hz];omega
       have ew:Txt.join "" (zs++[numS (r:Int)]).reverse=numS (i.natAbs:Int):=by rw[List.reverse_append,List.reverse_cons,List.reverse_nil,List.nil_append,List.singleton_append];exact(Nu.vo _ _).trans wr.e.symm
       rw[ew];have uN:sizeLine=16777216:=by decide
       have l0:(numS (i.natAbs:Int)).length<=541:=Nu.C1 (by rw[Int.natAbs_natCast];exact hn);have e0:Str.empty.length=0:=by decide+kernel
       have e1:Str.length "-"=1:=by decide+kernel
       refine⟨_,rfl,_,_,rfl,rfl,_,rfl,?_⟩;have fin:=k _ (put H2 (numS (r:Int)) (ai.refl _));refine bS (fun hi=>?_) (fun hi=>?_)
       · have hi:=pZ hi
         refine⟨_,rfl,by simp only[strLen_append];omega,_,rfl,.inr ⟨_,rfl,by omega,_,rfl,by simp only[strLen_append];omega,by simp only[strLen_append];omega,?_⟩⟩;rw[Str.empty_append,Nu.abs_neg hi,<-Nu.Bp hi];exact fin
       · have hi:=(mt ml) hi
         rw[Nu.FX hi];exact⟨_,rfl,fin⟩
   · rintro σ H2 Q1 Q2 hq h
     obtain⟨v1,e1,i1,j1,e2,e3,kk,e4,q⟩:=h;exact⟨v1,e1,i1,j1,e2,e3,kk,e4,hq _ _ q⟩
abbrev nk:Stmt:=top 110
theorem rQ:bb ["_law_thing"] ["_law_thing"] (aw nk):=bD (by decide+kernel)
theorem B4(F:FA K mg "_law_is_whole" nk)(B:bp mg):aA P w K mg base "_law_is_whole" 1 (j6 K):=by
 refine F.has rQ (fun vs H Q E h=>?_) (fun _ _ _ _ _ _=>dX fun _=>rfl) (fun f ah A outer s H vs Q E hr h=>?_)
 · obtain⟨v,T,rfl,_⟩:=h
   rfl
 · obtain⟨v,T,rfl,ty,k⟩:=h
   have nd:=rQ.nd;refine⟨_,(aD (aW (je (eD K B (aa (pv 0) (aa (dH (x:="int") (v:=.ty "int") rfl (B.at "int") PyProof.Rows.boot_int rfl) af))) (jc (sQ (eD K B (aa (pv 0) (aa (dH (x:="bool") (v:=.ty "bool") rfl (B.at "bool") PyProof.Rows.boot_bool rfl) af)))))))),?_⟩;refine⟨_,rfl,.inl ⟨_,T,"int",_,rfl,ty,by decide,rfl,_,rfl,?_⟩⟩;unfold jq at k;refine bS (fun hc=>?_) (fun hc=>?_)
   · refine⟨_,rfl,.inl ⟨_,T,"bool",_,rfl,ty,by decide,rfl,_,rfl,?_⟩⟩
     rw[hc,eS]at k;exact k
   · rw[kg.mpr hc,cF]at k
     exact k
abbrev nv:Stmt:=top 14
theorem rT:bb ["thing"] ["thing"] (aw nv):=bD (by decide+kernel)
theorem B8(F:FA K mg "is_whole" nv)(B:bp mg):aA P w K mg base "is_whole" 1 (j6 K):=by
 refine F.has rT (fun vs H Q E h=>?_) (fun _ _ _ _ _ _=>dX fun _=>rfl) (fun f ah A outer s H vs Q E hr h=>?_)
 · obtain⟨v,T,rfl,_⟩:=h
   rfl
 · obtain⟨v,T,rfl,ty,k⟩:=h
   have nd:=rT.nd;refine⟨_,(aD (aW (je (eD K B (aa (pv 0) (aa (dH (x:="int") (v:=.ty "int") rfl (B.at "int") PyProof.Rows.boot_int rfl) af))) (jc (sQ (eD K B (aa (pv 0) (aa (dH (x:="bool") (v:=.ty "bool") rfl (B.at "bool") PyProof.Rows.boot_bool rfl) af)))))))),?_⟩;refine⟨_,rfl,.inl ⟨_,T,"int",_,rfl,ty,by decide,rfl,_,rfl,?_⟩⟩;unfold jq at k;refine bS (fun hc=>?_) (fun hc=>?_)
   · refine⟨_,rfl,.inl ⟨_,T,"bool",_,rfl,ty,by decide,rfl,_,rfl,?_⟩⟩
     rw[hc,eS]at k;exact k
   · rw[kg.mpr hc,cF]at k
     exact k
def fY:List Hh:=[.none,.bool true,.bool false,.str "",.str "1",.str "a",.tuple [],.tuple [.int 1],.list [],.list [.int 1],.tuple [.int 1,.int 2],.tuple [.none],.str "1/2",.int (-1),.int 0,.int 1,.int (10^(39:Int).toNat),.int (-(10^(39:Int).toNat))]
theorem Bk:∀d∈fY,cY 1 d:=gH.mpr ⟨by decide+kernel,by decide+kernel⟩
inductive wg(K:He)(vs:List V)(H:Hp)(Q:VK):Prop |mk (p:_)(h0:vs=[.ref p])(h1:cZ H p)(h2:∀v d H',AD K p 1 H' v d->d∈fY->aG p H H'->Q v H'):wg K vs H Q
def j4(K:He):Sp:=fun vs H Q _=>wg K vs H Q
abbrev eX:Stmt:=top 111
theorem rH:bb ["_law_bag_here","_law_some"] ["_law_bag_here"] (aw eX):=bD (by decide+kernel)
def kW:Expr:=match(bB eX)with| .Assign _ e _::_=>e|_=>.Constant .none 0 ⟨0,0,0,0⟩
theorem Bm:lit 4 kW=some (.list fY):=by kernel_rfl
def tM(e:Expr):List Stmt:=match bB eX with| .Assign ts _ p::r=>.Assign ts e p::r|r=>r
theorem BG:tM kW=bB eX:=by kernel_rfl
theorem Bl{f:Addr}{ah:Value}{A:Hi}{outer:List Env}{s:Hf}{H:Hp}{p:Addr}{Q:VK}{E:XK}(e:Expr)(hr:ba 1 (A.deeper (envOfC "_law_odd_thing" (aw eX) s.heap.objs.size f ah))) (he:pP (cc cA P w K mg base ["_law_bag_here","_law_some"] "_law_odd_thing" (aw eX) f ah A outer s H E).fc e (iX K (.list fY))) (dh:∀x l,swapsWith e (some x) l (cc cA P w K mg base ["_law_bag_here","_law_some"] "_law_odd_thing" (aw eX) f ah A outer s H E).fc.env=pure false) (B:bp mg)(cb:aA P w K mg base "_law_take" 1 eV)(bg:cZ H p)(k:∀v d H',AD K p 1 H' v d->d∈fY->aG p H H'->Q v H'): ∃t,bJ (cc cA P w K mg base ["_law_bag_here","_law_some"] "_law_odd_thing" (aw eX) f ah A outer s H E).fc (tM e) t/\t {nx:=fun _ H'=>Q .ax H',rt:=Q} (start ["_law_bag_here","_law_some"] [.ref p]) H:=by
    have nd:=rH.nd;refine⟨_,(ao (nR (i:=1) nd rfl (Or.inl rfl) he.out (dh _ _)) (aD (aW (px K (pv 1) (pf cb hr (aa (pv 0) (aa aj af))))))),?_⟩;intro l H1 s1 r1;have b1:aG p H H1:=.bz bg s1;have r2:RD K (del H1 p) l (.list fY):=RD.mono (EF bg.ne) _ r1;refine⟨_,rfl,_,rfl,p,18,rfl,b1.bag,by decide,by decide,fun i H2 i0 i1 b2=>?_⟩;have r3:RD K (del H2 p) l (.list fY):=RD.mono b2.sd _ r2;obtain⟨a,xs,rfl,hx,hd⟩:=r3.lst_inv;have hl:=hd.length;have hi:i.toNat<fY.length:=by show i.toNat<18;omega
    obtain⟨y,ey,ry⟩:=hd.get i.toNat (e9 hi);refine .inl ⟨a,xs,i,y,rfl,rfl,hx.go cx,?_,?_⟩
    ·exact eO i0 ey
    ·exact k _ _ _ ⟨ry,Bk _ (mD hi)⟩ (mD hi) (b1.trans b2)
theorem AX(F:FA K mg "_law_odd_thing" eX)(B:bp mg)(cb:aA P w K mg base "_law_take" 1 eV):aA P w K mg base "_law_odd_thing" 2 (j4 K):=by
 refine F.has rH (fun vs H Q E h=>?_) (fun _ _ _ _ _ _=>dX fun _=>rfl) (fun f ah A outer s H vs Q E hr h=>?_)
 · obtain⟨p,rfl,_⟩:=h
   rfl
 · obtain⟨p,rfl,bg,k⟩:=h
   rw[<-BG];exact Bl kW hr (sT K rfl 4 kW _ Bm) (fun _ _=>rfl) B cb bg k
theorem fU:dD "tuple" "tuple"=true:=by decide
theorem qz(d:Hh):(∃i,d= .int i/\jq (fV d)=true)\/(jq (fV d)=false/\∀i,d≠ .int i):=by cases d with |int i=>exact .inl ⟨i,rfl,by simp[fV];decide⟩ |_=>exact .inr ⟨by simp[fV];decide,fun _ z=>nomatch z⟩
theorem gy(d:Hh):(∃ds,d= .tuple ds)\/(dD (fV d) "tuple"=false/\∀ds,d≠ .tuple ds):=by cases d with |tuple ds=>exact .inl ⟨ds,rfl⟩ |_=>exact .inr ⟨by simp[fV];decide,fun _ z=>nomatch z⟩
def bf(lo hi:Int):Hh->Bool | .int i=>decide (lo<=i)&&decide (i<=hi) |_=>false
theorem ue{lo hi:Int}{d:Hh}(h:∀i,d≠ .int i):bf lo hi d=false:=by cases d<;>first|rfl|exact absurd rfl (h _)
inductive w8(K:He)(vs:List V)(H:Hp)(Q:VK):Prop |mk (v:_)(d:_)(lo:_)(hi:_)(h0:vs=[v,.int lo,.int hi])(h1:RD K H v d)(h2:Q (.bl (bf lo hi d)) H):w8 K vs H Q
def iY(K:He):Sp:=fun vs H Q _=>w8 K vs H Q
abbrev mR:Stmt:=top 15
theorem rB:bb ["thing","low","high"] ["thing","low","high"] (aw mR):=bD (by decide+kernel)
theorem AN(F:FA K mg "is_whole_within" mR)(B:bp mg)(De:aA P w K mg base "is_whole" 1 (j6 K)):aA P w K mg base "is_whole_within" 2 (iY K):=by
 refine F.has rB (fun vs H Q E h=>?_) (fun _ _ _ _ _ _=>jJ fun _ _ _=>rfl) (fun f ah A outer s H vs Q E hr h=>?_)
 · obtain⟨v,d,lo,hi,rfl,_⟩:=h
   rfl
 · obtain⟨v,d,lo,hi,rfl,rd,k⟩:=h
   have nd:=rB.nd;refine⟨_,(aD (aW (je (pf De hr (aa (pv 0) af)) (jc (sU kT kT (pv 1) (pv 0) (pv 2)))))),?_⟩;refine⟨_,rfl,_,_,rfl,rd.ty,_,rfl,?_⟩;rcases qz d with⟨i,rfl,e⟩|⟨e,hn⟩
   · cases rd.int_inv
     rw[e];refine bH ?_;have k:Q (.bl (decide (lo<=i)&&decide (i<=hi))) H:=k;refine⟨_,rfl,_,rfl,_,_,rfl,rfl,_,rfl,?_⟩;refine bS (fun hc=>?_) (fun hc=>?_)
     · have dz:decide (lo<=i)=true:=hc
       rw[dz,eS]at k;exact⟨_,rfl,_,_,rfl,rfl,k⟩
     · have dz:decide (lo<=i)=false:=kg.mpr hc
       rw[dz,cF]at k;exact k
   · rw[e]
     refine bu ?_;rw[ue hn]at k;exact k
def fe:Hh->Bool | .tuple ds=>(ds.length==2||ds.length==3)&&ds.all (bf 1 100) |_=>false
def bT:Hh->Bool | .tuple [r,a,b,c,t]=>fe r&&bf 1 100 t&&[a,b,c].all (bf 1 50) |_=>false
theorem uh(n:Nat):jr (.int n) [.int 2,.int 3]=(n==2||n==3):=by
 show((2:Int)==n||((3:Int)==n||false))=_;rw[Bool.or_false];congr 1
 ·rw[hV];simp;omega
 ·rw[hV];simp;omega
inductive wA(f:Hh->Bool)(K:He)(vs:List V)(H:Hp)(Q:VK):Prop |mk (v:_)(d:_)(h0:vs=[v])(h1:RD K H v d)(h2:∀H',ai H H'->Q (.bl (f d)) H'):wA f K vs H Q
def gD(f:Hh->Bool)(K:He):Sp:=fun vs H Q _=>wA f K vs H Q
abbrev nD:Stmt:=top 23
theorem sg:bb ["thing"] ["thing"] (aw nD):=bD (by decide+kernel)
theorem Be(F:FA K mg "are_rails" nD)(B:bp mg)(g1:GT K mg "AXES" [.int 2,.int 3])(E1:GV mg "LONGEST_RAIL" (.int 100))(iz:aA P w K mg base "is_whole_within" 2 (iY K)):aA P w K mg base "are_rails" 3 (gD fe K):=by
 refine F.has sg (fun vs H Q E h=>?_) (fun _ _ _ _ _ _=>dX fun _=>rfl) (fun f ah A outer s H vs Q E hr h=>?_)
 · obtain⟨v,d,rfl,_⟩:=h
   rfl
 · obtain⟨v,d,rfl,rd,k⟩:=h
   have nd:=sg.nd;obtain⟨aX,E5,zc⟩:=g1;refine⟨_,(ao (bo (PW.pt (eZ (df (cP (eD K B (aa (pv 0) (aa (dH (x:="tuple") (v:=.ty "tuple") rfl (B.at "tuple") gu rfl) af))))) (fA (bw (tq K rfl) (dy K B (aa (pv 0) af)) (cn (x:="AXES") rfl E5) (by with_unfolding_all rfl))))) (aD (aW dw)) bj) (aD (aW (bF (x:="all") (iI K rfl rfl) rfl (B.at "all") k8 (aa (ez (N:=["rail"]) (js:=[none]) rfl rfl rfl (gG K rfl (pv 0)) (fun _ _ _ _ _=>(bK 0 (iu _))) (fun _ _ _ _ _=>ei) (fun _ _ _ _ _=>(pf iz hr (aa (pv 0) (aa aj (aa (cn (x:="LONGEST_RAIL") rfl E1) af)))))) af))))),?_⟩;rcases gy d with⟨ds,rfl⟩|⟨ht,hn⟩
   · refine⟨_,rfl,.inl ⟨_,_,"tuple",true,rfl,rd.ty,by decide,fU,_,rfl,bu ?_⟩⟩
     obtain⟨p,xs,rfl,hx,hd⟩:=rd.ck;have hl:=hd.length;refine⟨_,rfl,p,_,rfl,.inr hx,aX,_,rfl,.inr (zc H),rfl,rfl,_,rfl,?_⟩;have k:∀H',ai H H'->Q (.bl ((ds.length==2||ds.length==3)&&ds.all (bf 1 100))) H':=k;show if(!jr (.int xs.length) [.int 2,.int 3])=true then _ else _;rw[uh,hl];cases gQ:(ds.length==2||ds.length==3)with |false=>rw[gQ,cF]at k;exact bH (k H (ai.refl _)) |true=>
       rw[gQ,eS]at k;refine bu ?_;have l3:ds.length<=3:=by rw[Bool.or_eq_true,bE,bE]at gQ;omega
       refine⟨_,rfl,p,rfl,⟨_,hx⟩,fun D H0 nw=>?_⟩;refine lR (xs:=xs) (bs:=ds.map (bf 1 100)) [] hx nw (by rw[aZ,hl]) (by omega) ?_ ?_
       · intro i x b H2 Q' ex eb s2 hq
         obtain⟨d,ed,rfl⟩:=l9 eb;obtain⟨x',cD,rx⟩:=hd.get i ed;rw[ex]at cD;cases cD;exact⟨_,rfl,_,d,1,100,rfl,RD.mono s2 _ rx,hq _ (ai.refl _)⟩
       · intro H2 s2 d2
         refine⟨D,_,rfl,aq.of d2,?_⟩;rw[all_map];exact k H2 s2
   · have e:fe d=false:=by cases d<;>first|rfl|exact absurd rfl (hn _)
     rw[e]at k;refine⟨_,rfl,.inl ⟨_,_,"tuple",false,rfl,rd.ty,by decide,ht,_,rfl,bH ?_⟩⟩;exact k H (ai.refl _)
theorem og(d:Hh):(∃r a b c t,d= .tuple [r,a,b,c,t])\/(∃ds,d= .tuple ds/\ds.length≠5/\bT d=false)\/(dD (fV d) "tuple"=false/\bT d=false):=by
 rcases gy d with⟨ds,rfl⟩|⟨ht,hn⟩
 ·match ds with |[r,a,b,c,t]=>exact .inl ⟨r,a,b,c,t,rfl⟩ |[]=>exact .inr (.inl ⟨_,rfl,by simp,by simp[bT]⟩) |[_]=>exact .inr (.inl ⟨_,rfl,by simp,by simp[bT]⟩) |[_,_]=>exact .inr (.inl ⟨_,rfl,by simp,by simp[bT]⟩) |[_,_,_]=>exact .inr (.inl ⟨_,rfl,by simp,by simp[bT]⟩) |[_,_,_,_]=>exact .inr (.inl ⟨_,rfl,by simp,by simp[bT]⟩) |_::_::_::_::_::_::_=>exact .inr (.inl ⟨_,rfl,by simp,by simp[bT]⟩)
 ·exact .inr (.inr ⟨ht,by cases d<;>first|rfl|exact absurd rfl (hn _)⟩)
abbrev nA:Stmt:=top 21
theorem rW:bb ["thing","rails","rise","fall","jump","ticks"] ["thing"] (aw nA):=bD (by decide+kernel)
theorem Ba(F:FA K mg "is_machine" nA)(B:bp mg)(DZ:GV mg "MOST_TICKS" (.int 100))(E2:GV mg "GREATEST_CHANGE" (.int 50))(iz:aA P w K mg base "is_whole_within" 2 (iY K))(DI:aA P w K mg base "are_rails" 3 (gD fe K)):aA P w K mg base "is_machine" 4 (gD bT K):=by
 refine F.has rW (fun vs H Q E h=>?_) (fun _ _ _ _ _ _=>dX fun _=>rfl) (fun f ah A outer s H vs Q E hr h=>?_)
 · obtain⟨v,d,rfl,_⟩:=h
   rfl
 · obtain⟨v,d,rfl,rd,k⟩:=h
   have nd:=rW.nd;refine⟨_,(ao (bo (PW.pt (eZ (df (cP (eD K B (aa (pv 0) (aa (dH (x:="tuple") (v:=.ty "tuple") rfl (B.at "tuple") gu rfl) af))))) (fA (bw (jk K rfl hr.units) (dy K B (aa (pv 0) af)) aj (bM _))))) (aD (aW dw)) bj) (ao (ja (pv 0) (kP K rfl (n:=5) rfl (ek (bK 1 nd) (ek (bK 2 nd) (ek (bK 3 nd) (ek (bK 4 nd) (ek (bK 5 nd) kO))))))) (ao (bo (PW.pt (eZ (df (cP (pf DI hr (aa (pv 1) af)))) (fA (df (cP (pf iz hr (aa (pv 5) (aa aj (aa (cn (x:="MOST_TICKS") rfl DZ) af))))))))) (aD (aW dw)) bj) (aD (aW (bF (x:="all") (iI K rfl rfl) rfl (B.at "all") k8 (aa (ez (N:=["change"]) (js:=[none]) rfl rfl rfl (gG K rfl (fB (aa (pv 2) (aa (pv 3) (aa (pv 4) af))))) (fun _ _ _ _ _=>(bK 0 (iu _))) (fun _ _ _ _ _=>ei) (fun _ _ _ _ _=>(pf iz hr (aa (pv 0) (aa aj (aa (cn (x:="GREATEST_CHANGE") rfl E2) af)))))) af))))))),?_⟩;rcases og d with⟨r,a,b,c,t,rfl⟩|⟨ds,rfl,hl,hf⟩|⟨ht,hf⟩
   · refine⟨_,rfl,.inl ⟨_,_,"tuple",true,rfl,rd.ty,by decide,fU,_,rfl,bu ?_⟩⟩
     obtain⟨p,xs,rfl,hx,hd⟩:=rd.ck;obtain⟨u1,ys,rfl,r1,hd⟩:=hd.cons_inv;obtain⟨u2,ys,rfl,r2,hd⟩:=hd.cons_inv;obtain⟨u3,ys,rfl,r3,hd⟩:=hd.cons_inv;obtain⟨u4,ys,rfl,r4,hd⟩:=hd.cons_inv;obtain⟨u5,ys,rfl,r5,hd⟩:=hd.cons_inv;cases hd.nil_inv;have k:∀H',ai H H'->Q (.bl (fe r&&bf 1 100 t&&[a,b,c].all (bf 1 50))) H':=k;refine⟨_,rfl,p,_,rfl,.inr hx,.inl ⟨_,_,rfl,rfl,_,rfl,bu ?_⟩⟩;refine⟨_,rfl,p,_,rfl,hx,rfl,_,_,rfl,_,_,rfl,_,_,rfl,_,_,rfl,_,_,rfl,rfl,?_⟩;refine⟨_,rfl,_,r,rfl,r1,fun H1 s1=>⟨_,rfl,?_⟩⟩;cases e1:fe r with |false=>rw[e1,cF,cF]at k;exact bH (k H1 s1) |true=>rw[e1,eS]at k;refine bu ?_;refine⟨_,rfl,_,t,1,100,rfl,RD.mono s1 _ r5,_,rfl,?_⟩;cases e2:bf 1 100 t with |false=>rw[e2,cF]at k;exact bH (k H1 s1) |true=>
         rw[e2,eS]at k;refine bu ?_;refine⟨_,rfl,_,rfl,_,rfl,cm rfl,fun q H2 nq=>?_⟩;have s2:=s1.trans nq.same;refine⟨q,rfl,⟨_,aH.of nq.at'⟩,fun D H0 nw=>?_⟩;have oQ:au K H2 [u2,u3,u4] [a,b,c]:=eh (RD.mono s2 _ r2) (eh (RD.mono s2 _ r3) (eh (RD.mono s2 _ r4) fz));refine lR (xs:=[u2,u3,u4]) (bs:=[a,b,c].map (bf 1 50)) [] (aH.of nq.at') nw rfl (mB rfl) ?_ ?_
         · intro i x b' H3 Q' ex eb s3 hq
           obtain⟨d,ed,rfl⟩:=l9 eb;obtain⟨x',cD,rx⟩:=oQ.get i ed;rw[ex]at cD;cases cD;exact⟨_,rfl,_,d,1,50,rfl,RD.mono s3 _ rx,hq _ (ai.refl _)⟩
         · intro H3 s3 d3
           refine⟨D,_,rfl,aq.of d3,?_⟩;rw[all_map];exact k H3 (s2.trans s3)
   · rw[hf]at k
     refine⟨_,rfl,.inl ⟨_,_,"tuple",true,rfl,rd.ty,by decide,fU,_,rfl,bu ?_⟩⟩;obtain⟨p,xs,rfl,hx,hd⟩:=rd.ck;refine⟨_,rfl,p,_,rfl,.inr hx,.inl ⟨_,_,rfl,rfl,_,rfl,?_⟩⟩;have e:(!decide ((xs.length:Int)=5))=true:=by rw[hd.length];simp;omega
     rw[e];exact bH (k H (ai.refl _))
   · rw[hf]at k
     refine⟨_,rfl,.inl ⟨_,_,"tuple",false,rfl,rd.ty,by decide,ht,_,rfl,bH ?_⟩⟩;exact k H (ai.refl _)
def eG(rs:List Int):Hh->Bool | .tuple es=>es.length==rs.length&&((es.zip rs).map fun p=>bf 0 p.2 p.1).all id |_=>false
inductive we(K:He)(vs:List V)(H:Hp)(Q:VK):Prop |mk (m:_)(v:_)(rs:_)(ds:_)(d:_)(h0:vs=[m,v])(h1:RD K H m (.tuple (.tuple (rs.map PyData.int)::ds)))(h2:RD K H v d)(h3:rs.length<=3)(h4:∀H',ai H H'->Q (.bl (eG rs d)) H'):we K vs H Q
def iZ(K:He):Sp:=fun vs H Q _=>we K vs H Q
theorem zip_get{es:List Hh}{rs:List Int}{i:Nat}{b:Bool}(h:((es.zip rs).map fun p=>bf 0 p.2 p.1)[i]? =some b):∃e r,es[i]? =some e/\rs[i]? =some r/\bf 0 r e=b:=by rw[du]at h;cases q:(es.zip rs)[i]? with |none=>rw[q]at h;cases h |some p=>rw[q]at h;obtain⟨e1,e2⟩:=List.getElem?_zip_eq_some.mp q;exact⟨p.1,p.2,e1,e2,cu h⟩
theorem ints_get{rs:List Int}{i:Nat}{r:Int}(h:rs[i]? =some r):(rs.map V.int)[i]? =some (.int r):=by rw[du,h];rfl
abbrev ny:Stmt:=top 22
theorem rV:bb ["machine","thing","rails"] ["machine","thing"] (aw ny):=bD (by decide+kernel)
theorem B9(F:FA K mg "is_place" ny)(B:bp mg)(iz:aA P w K mg base "is_whole_within" 2 (iY K)):aA P w K mg base "is_place" 3 (iZ K):=by
 refine F.has rV (fun vs H Q E h=>?_) (fun _ _ _ _ _ _=>fL fun _ _=>rfl) (fun f ah A outer s H vs Q E hr h=>?_)
 · obtain⟨m,v,rs,ds,d,rfl,_⟩:=h
   rfl
 · obtain⟨m,v,rs,ds,d,rfl,rm,rd,l3,k⟩:=h
   have nd:=rV.nd;refine⟨_,(ao (pS 2 nd (px K (pv 0) aj)) (ao (bo (PW.pt (eZ (df (cP (eD K B (aa (pv 1) (aa (dH (x:="tuple") (v:=.ty "tuple") rfl (B.at "tuple") gu rfl) af))))) (fA (bw (jk K rfl hr.units) (dy K B (aa (pv 1) af)) (dy K B (aa (pv 2) af)) (bM _))))) (aD (aW dw)) bj) (aD (aW (bF (x:="all") (iI K rfl rfl) rfl (B.at "all") k8 (aa (ez (N:=["number","rail"]) (js:=[none,none]) rfl rfl rfl (sN K rfl false false rfl (B.at "zip") (aa (pv 1) (aa (pv 2) af))) (fun _ _ _ _ _=>(kP K rfl (n:=2) rfl (ek (bK 0 (ir (by decide))) (ek (bK 1 (ir (by decide))) kO)))) (fun _ _ _ _ _=>ei) (fun _ _ _ _ _=>(pf iz hr (aa (pv 0) (aa aj (aa (pv 1) af)))))) af)))))),?_⟩;obtain⟨am,xm,rfl,hm,oP⟩:=rm.ck;obtain⟨yr,ym,rfl,r1,Du⟩:=oP.cons_inv;obtain⟨ar,xr,rfl,fF,oO⟩:=r1.ck;cases oO.gJ;refine⟨_,rfl,.inr ⟨am,_,0,_,rfl,rfl,hm,eO (hR 0) rfl,?_⟩⟩;rcases gy d with⟨es,rfl⟩|⟨ht,hn⟩
   · refine⟨_,rfl,.inl ⟨_,_,"tuple",true,rfl,rd.ty,by decide,fU,_,rfl,bu ?_⟩⟩
     obtain⟨av,xs,rfl,hx,hd⟩:=rd.ck;have hl:=hd.length;refine⟨_,rfl,av,_,rfl,.inr hx,_,rfl,ar,_,rfl,.inr fF,.inl ⟨_,_,rfl,rfl,_,rfl,?_⟩⟩;have k:∀H',ai H H'->Q (.bl (es.length==rs.length&&((es.zip rs).map fun p=>bf 0 p.2 p.1).all id)) H':=k;have e0:(decide ((xs.length:Int)=((rs.map V.int).length:Int)))=(es.length==rs.length):=by rw[hl,aZ,hV];simp;omega
     rw[e0];cases e:(es.length==rs.length)with |false=>rw[e,cF]at k;exact bH (k H (ai.refl _)) |true=>
       rw[e,eS]at k;refine bu ?_;have el:es.length=rs.length:=bE.mp e;refine⟨_,rfl,_,rfl,av,ar,rfl,⟨_,hx⟩,⟨_,fF⟩,fun D H0 nw=>?_⟩;refine vh (b1:=false) (b2:=false) (xs:=xs) (ys:=rs.map V.int) (bs:=(es.zip rs).map fun p=>bf 0 p.2 p.1) [] rfl hx fF nw (by rw[aZ,aZ,qo,hl]) (by rw[aZ,qo];omega) ?_ ?_
       · intro i x y b H2 Q' ex ey eb s2 hq
         obtain⟨e',r,ee,er,rfl⟩:=zip_get eb;obtain⟨x',cD,rx⟩:=hd.get i ee;rw[ex]at cD;cases cD;rw[ints_get er]at ey;cases ey;exact⟨_,rfl,_,rfl,_,e',0,r,rfl,RD.mono s2 _ rx,hq _ (ai.refl _)⟩
       · intro H2 s2 d2
         exact⟨D,_,rfl,aq.of d2,k H2 s2⟩
   · have e:eG rs d=false:=by cases d<;>first|rfl|exact absurd rfl (hn _)
     rw[e]at k;refine⟨_,rfl,.inl ⟨_,_,"tuple",false,rfl,rd.ty,by decide,ht,_,rfl,bH ?_⟩⟩;exact k H (ai.refl _)
inductive wx(K:He)(vs:List V)(H:Hp)(Q:VK):Prop |mk (v:_)(d:_)(lo:_)(hi:_)(h0:vs=[v,.int lo,.int hi])(h1:RD K H v d)(h2:Q (.bl (bf lo hi d)) H):wx K vs H Q
def kF(K:He):Sp:=fun vs H Q _=>wx K vs H Q
abbrev nj:Stmt:=top 119
theorem rP:bb ["_law_thing","_law_low","_law_high"] ["_law_thing","_law_low","_law_high"] (aw nj):=bD (by decide+kernel)
theorem B3(F:FA K mg "_law_within" nj)(B:bp mg)(Ee:aA P w K mg base "_law_is_whole" 1 (j6 K)):aA P w K mg base "_law_within" 2 (kF K):=by
 refine F.has rP (fun vs H Q E h=>?_) (fun _ _ _ _ _ _=>jJ fun _ _ _=>rfl) (fun f ah A outer s H vs Q E hr h=>?_)
 · obtain⟨v,d,lo,hi,rfl,_⟩:=h
   rfl
 · obtain⟨v,d,lo,hi,rfl,rd,k⟩:=h
   have nd:=rP.nd;refine⟨_,(aD (aW (je (pf Ee hr (aa (pv 0) af)) (jc (sU kT kT (pv 1) (pv 0) (pv 2)))))),?_⟩;refine⟨_,rfl,_,_,rfl,rd.ty,_,rfl,?_⟩;rcases qz d with⟨i,rfl,e⟩|⟨e,hn⟩
   · cases rd.int_inv
     rw[e];refine bH ?_;have k:Q (.bl (decide (lo<=i)&&decide (i<=hi))) H:=k;refine⟨_,rfl,_,rfl,_,_,rfl,rfl,_,rfl,?_⟩;refine bS (fun hc=>?_) (fun hc=>?_)
     · have dz:decide (lo<=i)=true:=hc
       rw[dz,eS]at k;exact⟨_,rfl,_,_,rfl,rfl,k⟩
     · have dz:decide (lo<=i)=false:=kg.mpr hc
       rw[dz,cF]at k;exact k
   · rw[e]
     refine bu ?_;rw[ue hn]at k;exact k
abbrev nu:Stmt:=top 120
theorem rS:bb ["_law_thing"] ["_law_thing"] (aw nu):=bD (by decide+kernel)
theorem B6(F:FA K mg "_law_is_machine" nu)(B:bp mg)(jD:aA P w K mg base "_law_within" 2 (kF K)):aA P w K mg base "_law_is_machine" 3 (gD bT K):=by
 refine F.has rS (fun vs H Q E h=>?_) (fun _ _ _ _ _ _=>dX fun _=>rfl) (fun f ah A outer s H vs Q E hr h=>?_)
 · obtain⟨v,d,rfl,_⟩:=h
   rfl
 · obtain⟨v,d,rfl,rd,k⟩:=h
   have nd:=rS.nd;refine⟨_,(ao (bo (PW.pt (eZ (df (cP (eD K B (aa (pv 0) (aa (dH (x:="tuple") (v:=.ty "tuple") rfl (B.at "tuple") gu rfl) af))))) (eZ (bw (jk K rfl hr.units) (dy K B (aa (pv 0) af)) aj (bM _)) (fA (df (cP (eD K B (aa (px K (pv 0) aj) (aa (dH (x:="tuple") (v:=.ty "tuple") rfl (B.at "tuple") gu rfl) af))))))))) (aD (aW dw)) bj) (ao (bo (PW.pt (eZ (bw (tq K rfl) (dy K B (aa (px K (pv 0) aj) af)) (dG (aa aj (aa aj af))) (by with_unfolding_all rfl)) (fA (df (cP (bF (x:="all") (iI K rfl rfl) rfl (B.at "all") k8 (aa (ez (N:=["_law_rail"]) (js:=[none]) rfl rfl rfl (gG K rfl (px K (pv 0) aj)) (fun _ _ _ _ _=>(bK 0 (iu _))) (fun _ _ _ _ _=>ei) (fun _ _ _ _ _=>(pf jD hr (aa (pv 0) (aa aj (aa aj af)))))) af))))))) (aD (aW dw)) bj) (aD (aW (je (bF (x:="all") (iI K rfl rfl) rfl (B.at "all") k8 (aa (ez (N:=["_law_one"]) (js:=[none]) rfl rfl rfl (gG K rfl (eu (zi K rfl) (pv 0) (dF aj) (dF aj))) (fun _ _ _ _ _=>(bK 0 (iu _))) (fun _ _ _ _ _=>ei) (fun _ _ _ _ _=>(pf jD hr (aa (pv 0) (aa aj (aa aj af)))))) af)) (jc (pf jD hr (aa (px K (pv 0) aj) (aa aj (aa aj af)))))))))),?_⟩;rcases og d with⟨r,a,b,c,t,rfl⟩|⟨ds,rfl,hl,hf⟩|⟨ht,hf⟩
   · refine⟨_,rfl,.inl ⟨_,_,"tuple",true,rfl,rd.ty,by decide,fU,_,rfl,bu ?_⟩⟩
     obtain⟨p,xs,rfl,hx,hd⟩:=rd.ck;obtain⟨u1,ys,rfl,r1,hd⟩:=hd.cons_inv;obtain⟨u2,ys,rfl,r2,hd⟩:=hd.cons_inv;obtain⟨u3,ys,rfl,r3,hd⟩:=hd.cons_inv;obtain⟨u4,ys,rfl,r4,hd⟩:=hd.cons_inv;obtain⟨u5,ys,rfl,r5,hd⟩:=hd.cons_inv;cases hd.nil_inv;have k:∀H',ai H H'->Q (.bl (fe r&&bf 1 100 t&&[a,b,c].all (bf 1 50))) H':=k;refine⟨_,rfl,p,_,rfl,.inr hx,.inl ⟨_,_,rfl,rfl,_,rfl,bu ?_⟩⟩;refine⟨_,rfl,.inr ⟨p,_,0,u1,rfl,rfl,hx,rfl,?_⟩⟩;rcases gy r with⟨ds,rfl⟩|⟨ht,hn⟩
     · refine .inl ⟨_,_,"tuple",true,rfl,r1.ty,by decide,fU,_,rfl,bu ?_⟩
       obtain⟨q,ys,rfl,hy,uB⟩:=r1.ck;have hl:=uB.length;refine⟨_,rfl,.inr ⟨p,_,0,_,rfl,rfl,hx,rfl,q,_,rfl,.inr hy,cm rfl,fun l H1 n1=>?_⟩⟩;refine⟨l,_,rfl,.inl (aq.of n1.at'),rfl,rfl,_,rfl,?_⟩;have k:∀H',ai H H'->Q (.bl (((ds.length==2||ds.length==3)&&ds.all (bf 1 100))&&bf 1 100 t&&[a,b,c].all (bf 1 50))) H':=k;show if(!jr (.int ys.length) [.int 2,.int 3])=true then _ else _;rw[uh,hl];cases gQ:(ds.length==2||ds.length==3)with |false=>rw[gQ,cF,cF,cF]at k;exact bH (k H1 n1.same) |true=>
         rw[gQ,eS]at k;refine bu ?_;have l3:ds.length<=3:=by rw[Bool.or_eq_true,bE,bE]at gQ;omega
         refine⟨_,rfl,.inr ⟨p,_,0,_,rfl,rfl,hx.go n1.same,rfl,q,rfl,⟨_,hy.go n1.same⟩,fun D H0 nw=>?_⟩⟩;refine lR (xs:=ys) (bs:=ds.map (bf 1 100)) [] (hy.go n1.same) nw (by rw[aZ,hl]) (by omega) ?_ ?_
         · intro i x b H2 Q' ex eb s2 hq
           obtain⟨d,ed,rfl⟩:=l9 eb;obtain⟨x',cD,rx⟩:=uB.get i ed;rw[ex]at cD;cases cD;exact⟨_,rfl,_,d,1,100,rfl,RD.mono (n1.same.trans s2) _ rx,hq _ (ai.refl _)⟩
         · intro H2 s2 d2
           refine⟨D,_,rfl,aq.of d2,_,rfl,?_⟩;rw[all_map];have gF:=n1.same.trans s2;cases e4:ds.all (bf 1 100)with |false=>rw[e4,cF,cF]at k;exact bH (k H2 gF) |true=>
             rw[e4,eS,Bool.and_comm]at k;refine bu ?_;refine⟨_,rfl,_,rfl,_,rfl,p,_,rfl,.inr ⟨hx.go gF,(fun z=>absurd z.1 (show¬((1:Nat)=0) by decide)),fun q2 H3 n3=>?_⟩⟩;have kH:=gF.trans n3.same;refine⟨q2,rfl,⟨_,aH.of n3.at'⟩,fun D2 H4 Bo=>?_⟩;have oQ:au K H3 [u2,u3,u4] [a,b,c]:=eh (RD.mono kH _ r2) (eh (RD.mono kH _ r3) (eh (RD.mono kH _ r4) fz));refine lR (xs:=[u2,u3,u4]) (bs:=[a,b,c].map (bf 1 50)) [] (aH.of n3.at') Bo rfl (mB rfl) ?_ ?_
             · intro i x b' H5 Q' ex eb s5 hq
               obtain⟨d,ed,rfl⟩:=l9 eb;obtain⟨x',cD,rx⟩:=oQ.get i ed;rw[ex]at cD;cases cD;exact⟨_,rfl,_,d,1,50,rfl,RD.mono s5 _ rx,hq _ (ai.refl _)⟩
             · intro H5 s5 d5
               refine⟨D2,_,rfl,aq.of d5,_,rfl,?_⟩;rw[all_map];have kG:=kH.trans s5;cases e5:[a,b,c].all (bf 1 50)with |false=>rw[e5,cF]at k;exact bu (k H5 kG) |true=>rw[e5,eS]at k;exact bH ⟨_,rfl,.inr ⟨p,_,4,u5,rfl,rfl,hx.go kG,rfl,_,t,1,100,rfl,RD.mono kG _ r5,k H5 kG⟩⟩
     · have e:fe r=false:=by cases r<;>first|rfl|exact absurd rfl (hn _)
       rw[e,cF,cF]at k;refine .inl ⟨_,_,"tuple",false,rfl,r1.ty,by decide,ht,_,rfl,bH ?_⟩;exact k H (ai.refl _)
   · rw[hf]at k
     refine⟨_,rfl,.inl ⟨_,_,"tuple",true,rfl,rd.ty,by decide,fU,_,rfl,bu ?_⟩⟩;obtain⟨p,xs,rfl,hx,hd⟩:=rd.ck;refine⟨_,rfl,p,_,rfl,.inr hx,.inl ⟨_,_,rfl,rfl,_,rfl,?_⟩⟩;have e:(!decide ((xs.length:Int)=5))=true:=by rw[hd.length];simp;omega
     rw[e];exact bH (k H (ai.refl _))
   · rw[hf]at k
     refine⟨_,rfl,.inl ⟨_,_,"tuple",false,rfl,rd.ty,by decide,ht,_,rfl,bH ?_⟩⟩;exact k H (ai.refl _)
abbrev nr:Stmt:=top 121
theorem rR:bb ["_law_machine_here","_law_thing"] ["_law_machine_here","_law_thing"] (aw nr):=bD (by decide+kernel)
theorem B5(F:FA K mg "_law_is_place" nr)(B:bp mg)(jD:aA P w K mg base "_law_within" 2 (kF K)):aA P w K mg base "_law_is_place" 3 (iZ K):=by
 refine F.has rR (fun vs H Q E h=>?_) (fun _ _ _ _ _ _=>fL fun _ _=>rfl) (fun f ah A outer s H vs Q E hr h=>?_)
 · obtain⟨m,v,rs,ds,d,rfl,_⟩:=h
   rfl
 · obtain⟨m,v,rs,ds,d,rfl,rm,rd,l3,k⟩:=h
   have nd:=rR.nd;refine⟨_,(ao (bo (PW.pt (eZ (df (cP (eD K B (aa (pv 1) (aa (dH (x:="tuple") (v:=.ty "tuple") rfl (B.at "tuple") gu rfl) af))))) (fA (bw (jk K rfl hr.units) (dy K B (aa (pv 1) af)) (dy K B (aa (px K (pv 0) aj) af)) (bM _))))) (aD (aW dw)) bj) (aD (aW (bF (x:="all") (iI K rfl rfl) rfl (B.at "all") k8 (aa (ez (N:=["_law_at","_law_rail"]) (js:=[none,none]) rfl rfl rfl (sN K rfl false false rfl (B.at "zip") (aa (pv 1) (aa (px K (pv 0) aj) af))) (fun _ _ _ _ _=>(kP K rfl (n:=2) rfl (ek (bK 0 (ir (by decide))) (ek (bK 1 (ir (by decide))) kO)))) (fun _ _ _ _ _=>ei) (fun _ _ _ _ _=>(pf jD hr (aa (pv 0) (aa aj (aa (pv 1) af)))))) af))))),?_⟩;obtain⟨am,xm,rfl,hm,oP⟩:=rm.ck;obtain⟨yr,ym,rfl,r1,Du⟩:=oP.cons_inv;obtain⟨ar,xr,rfl,fF,oO⟩:=r1.ck;cases oO.gJ;rcases gy d with⟨es,rfl⟩|⟨ht,hn⟩
   · refine⟨_,rfl,.inl ⟨_,_,"tuple",true,rfl,rd.ty,by decide,fU,_,rfl,bu ?_⟩⟩
     obtain⟨av,xs,rfl,hx,hd⟩:=rd.ck;have hl:=hd.length;refine⟨_,rfl,av,_,rfl,.inr hx,_,rfl,.inr ⟨am,_,0,_,rfl,rfl,hm,eO (hR 0) rfl,ar,_,rfl,.inr fF,.inl ⟨_,_,rfl,rfl,_,rfl,?_⟩⟩⟩;have k:∀H',ai H H'->Q (.bl (es.length==rs.length&&((es.zip rs).map fun p=>bf 0 p.2 p.1).all id)) H':=k;have e0:(decide ((xs.length:Int)=((rs.map V.int).length:Int)))=(es.length==rs.length):=by rw[hl,aZ,hV];simp;omega
     rw[e0];cases e:(es.length==rs.length)with |false=>rw[e,cF]at k;exact bH (k H (ai.refl _)) |true=>
       rw[e,eS]at k;refine bu ?_;have el:es.length=rs.length:=bE.mp e;refine⟨_,rfl,_,rfl,.inr ⟨am,_,0,_,rfl,rfl,hm,eO (hR 0) rfl,av,ar,rfl,⟨_,hx⟩,⟨_,fF⟩,fun D H0 nw=>?_⟩⟩;refine vh (b1:=false) (b2:=false) (xs:=xs) (ys:=rs.map V.int) (bs:=(es.zip rs).map fun p=>bf 0 p.2 p.1) [] rfl hx fF nw (by rw[aZ,aZ,qo,hl]) (by rw[aZ,qo];omega) ?_ ?_
       · intro i x y b H2 Q' ex ey eb s2 hq
         obtain⟨e',r,ee,er,rfl⟩:=zip_get eb;obtain⟨x',cD,rx⟩:=hd.get i ee;rw[ex]at cD;cases cD;rw[ints_get er]at ey;cases ey;exact⟨_,rfl,_,rfl,_,e',0,r,rfl,RD.mono s2 _ rx,hq _ (ai.refl _)⟩
       · intro H2 s2 d2
         exact⟨D,_,rfl,aq.of d2,k H2 s2⟩
   · have e:eG rs d=false:=by cases d<;>first|rfl|exact absurd rfl (hn _)
     rw[e]at k;refine⟨_,rfl,.inl ⟨_,_,"tuple",false,rfl,rd.ty,by decide,ht,_,rfl,bH ?_⟩⟩;exact k H (ai.refl _)
theorem four{ds:List Hh}(h:ds.length=4):∃a b c d,ds=[a,b,c,d]:=by match ds,h with |[a,b,c,d],_=>exact⟨a,b,c,d,rfl⟩
def iL(rs:List Int)(ds:List Hh):Hh:=.tuple (.tuple (rs.map PyData.int)::ds)
structure m3(rs:List Int):Prop where
 lo:2<=rs.length
 hi:rs.length<=3
 all:∀r∈rs,1<=r/\r<=100
inductive wu(K:He)(vs:List V)(H:Hp)(Q:VK):Prop |mk (p:_)(h0:vs=[.ref p])(h1:cZ H p)(h2:∀v rs ds H',AD K p 2 H' v (iL rs ds)->m3 rs->ds.length=4->aG p H H'->Q v H'):wu K vs H Q
def rf(K:He):Sp:=fun vs H Q _=>wu K vs H Q
abbrev ni:Stmt:=top 112
theorem rN:bb ["_law_bag_here","_law_axes","_law_far","_law_rails","_law_bounds"] ["_law_bag_here"] (aw ni):=bD (by decide+kernel)
theorem B2(F:FA K mg "_law_machine" ni)(B:bp mg)(cb:aA P w K mg base "_law_take" 1 eV):aA P w K mg base "_law_machine" 2 (rf K):=by
 refine F.has rN (fun vs H Q E h=>?_) (fun _ _ _ _ _ _=>dX fun _=>rfl) (fun f ah A outer s H vs Q E hr h=>?_)
 · obtain⟨p,rfl,_⟩:=h
   rfl
 · obtain⟨p,rfl,bg,k⟩:=h
   have nd:=rN.nd;refine⟨_,(ao (pS 1 nd (aQ dg aj (pf cb hr (aa (pv 0) (aa aj af))))) (ao (pS 2 nd (px K (dG (aa aj (aa aj af))) (pf cb hr (aa (pv 0) (aa aj af))))) (ao (pS 3 nd (fC (x:="tuple") (mK K rfl) rfl (B.at "tuple") gu (aa (ez (N:=["_law_axis","_law_bag_here","_law_far"]) (js:=[none,some 0,some 2]) rfl rfl rfl (kN rfl (B.at "range") (aa (pv 1) af)) (fun _ _ _ _ _=>(bK 0 (show List.Nodup (["_law_axis","_law_bag_here","_law_far"]:List Str) by decide+kernel))) (fun _ _ _ _ _=>ei) (fun _ _ _ _ _=>(aQ dg aj (pf cb hr (aa (pv 1) (aa (pv 2) af)))))) af))) (ao (pS 4 nd (fC (x:="tuple") (mK K rfl) rfl (B.at "tuple") gu (aa (ez (N:=["_law_k","_law_bag_here"]) (js:=[none,some 0]) rfl rfl rfl (kN rfl (B.at "range") (aa aj af)) (fun _ _ _ _ _=>(bK 0 (ir (by decide)))) (fun _ _ _ _ _=>ei) (fun _ _ _ _ _=>(aQ dg aj (pf cb hr (aa (pv 1) (aa aj af)))))) af))) (aD (aW (aQ (fj K rfl) (aQ (fj K rfl) (fB (aa (pv 3) af)) (pv 4)) (fB (aa (aQ dg aj (pf cb hr (aa (pv 0) (aa aj af)))) af))))))))),?_⟩;refine⟨_,rfl,p,2,rfl,bg,by decide,by decide,fun t0 H1 Gi Gh b1=>?_⟩;refine⟨_,_,rfl,rfl,?_⟩;refine⟨cm rfl,fun l H2 nw=>?_⟩;have b2:aG p H1 H2:=.bz b1.bag nw.same;have BX:l≠p:=fun e=>b1.bag.ne (e▸nw.no);refine⟨_,rfl,p,2,rfl,b2.bag,by decide,by decide,fun i H3 i0 i1 b3=>?_⟩;obtain⟨lN,mf,ef⟩:=uc [100,20] i0 i1;have f1:1<=lN/\lN<=100:=by
    rcases bV.mp mf with rfl|mf
    ·exact⟨by decide,by decide⟩
    rcases bV.mp mf with rfl|mf
    ·exact⟨by decide,by decide⟩
    ·exact(ft mf).elim
   refine .inl ⟨l,_,_,_,rfl,rfl,aq.of (b3.same _ _ BX nw.at'),ef,?_⟩;refine⟨_,rfl,_,rfl,by omega,by omega,fun D H4 n4=>?_⟩;have hN:(2+t0).toNat<=1000:=by omega
   refine pC (2+t0).toNat [some (.ref p),some (.int lN)] n4 b3.bag hN (fun i=>.int (0+(i:Int))) (fun i H5 hi b5=>⟨hi,fun y H6 ⟨e1,e2⟩=>⟨e1,e2⟩⟩) (fun H5 b5=>aJ _) (fun z=>1<=z/\z<=100) ?_ ?_
   · intro i H5 Q' hi b5 hq
     refine⟨_,rfl,_,rfl,p,lN,rfl,b5.bag,f1.1,by omega,fun z H6 z0 z1 b6=>?_⟩;exact⟨_,_,rfl,rfl,hq _ _ ⟨by omega,by omega⟩ b6⟩
   intro H5 rs b5 d5 lr pr;refine⟨D,_,rfl,.inl ⟨aq.of d5,fun q H6 n6=>?_⟩⟩;have b6:aG p H5 H6:=.bz b5.bag n6.same;have aR:AD K p 1 H6 (.ref q) (.tuple (rs.map PyData.int)):=AD.dJ (jK rs) n6 b5.bag.ne;refine⟨3,rfl,by decide,by decide,fun D2 H7 n7=>?_⟩;refine pC 3 [some (.ref p)] n7 b6.bag (by decide) (fun i=>.int (0+(i:Int))) (fun i H8 hi b8=>⟨hi,fun y H9 ⟨e1,e2⟩=>⟨e1,e2⟩⟩) (fun H8 b8=>aJ _) (fun z=>True) ?_ ?_
   · intro i H8 Q' hi b8 hq
     refine⟨_,rfl,p,50,rfl,b8.bag,by decide,by decide,fun z H9 z0 z1 b9=>?_⟩;exact⟨_,_,rfl,rfl,hq _ _ trivial b9⟩
   intro H8 bs b8 d8 lb _;refine⟨D2,_,rfl,.inl ⟨aq.of d8,fun q2 H9 n9=>?_⟩⟩;have b9:aG p H8 H9:=.bz b8.bag n9.same;have aB:AD K p 1 H9 (.ref q2) (.tuple (bs.map PyData.int)):=AD.dJ (jK bs) n9 b8.bag.ne;have FZ:=aR.go (b8.trans b9).sd;refine⟨_,rfl,cm rfl,fun t1 gn tJ=>?_⟩;have cf:aG p H9 gn:=.bz b9.bag tJ.same;refine⟨_,rfl,p,1,_,_,cf.bag.ne,AD.dJ (.one FZ) tJ b9.bag.ne,(aB.go cf.sd).le (by decide),eg _ ?_,fun v1 gW fX jM=>?_⟩
   ·rw[aZ,lb];exact mB rfl
   have vG:aG p gn gW:=.bz cf.bag fX;refine⟨_,rfl,p,100,rfl,vG.bag,by decide,by decide,fun z Ga z0 z1 lW=>?_⟩;refine⟨_,_,rfl,rfl,cm rfl,fun t2 xu tI=>?_⟩;have lV:aG p Ga xu:=.bz lW.bag tI.same;refine⟨p,1,_,_,lV.bag.ne,jM.go (lW.trans lV).sd,AD.dJ (.one (.int _)) tI lW.bag.ne,eg _ ?_,fun v2 xt zv G2=>?_⟩
   ·rw[dc,aZ,lb];exact mB rfl
   have FL:aG p xu xt:=.bz lV.bag zv;exact k v2 rs _ xt G2 ⟨by omega,by omega,pr⟩ (by show(bs.map PyData.int++[PyData.int (1+z)]).length=4;rw[dc,aZ,lb];rfl) (b1.trans (b2.trans (b3.trans (b5.trans (b6.trans (b8.trans (b9.trans (cf.trans (vG.trans (lW.trans (lV.trans FL)))))))))))
theorem tP{p:Addr}{H:Hp}{v:V}{rs:List Int}{ds:List Hh}(h:AD K p 2 H v (iL rs ds)):∃a ym ar,v= .ref a/\aH K (del H p) a (.ref ar::ym)/\aH K (del H p) ar (rs.map V.int):=by obtain⟨a,xs,e,h1,h2⟩:=h.rd.ck;obtain⟨y,ys,rfl,r1,_⟩:=h2.cons_inv;obtain⟨ar,zs,rfl,h3,h4⟩:=r1.ck;cases h4.gJ;exact⟨a,ys,ar,e,h1,h3⟩
inductive wd(K:He)(vs:List V)(H:Hp)(Q:VK):Prop |mk (p:_)(m:_)(rs:_)(ds:_)(h0:vs=[.ref p,m])(h1:cZ H p)(h2:AD K p 2 H m (iL rs ds))(h3:m3 rs)(h4:∀(v:V)(is:List Int)(H':Hp),AD K p 1 H' v (.tuple (is.map PyData.int))->is.length=rs.length->aG p H H'->Q v H'):wd K vs H Q
def qW(K:He):Sp:=fun vs H Q _=>wd K vs H Q
abbrev mY:Stmt:=top 113
theorem rG:bb ["_law_bag_here","_law_machine_here"] ["_law_bag_here","_law_machine_here"] (aw mY):=bD (by decide+kernel)
theorem AW(F:FA K mg "_law_place" mY)(B:bp mg)(cb:aA P w K mg base "_law_take" 1 eV):aA P w K mg base "_law_place" 2 (qW K):=by
 refine F.has rG (fun vs H Q E h=>?_) (fun _ _ _ _ _ _=>fL fun _ _=>rfl) (fun f ah A outer s H vs Q E hr h=>?_)
 · obtain⟨p,m,rs,ds,rfl,_⟩:=h
   rfl
 · obtain⟨p,m,rs,ds,rfl,bg,am,dI,k⟩:=h
   have nd:=rG.nd;refine⟨_,(aD (aW (fC (x:="tuple") (mK K rfl) rfl (B.at "tuple") gu (aa (ez (N:=["_law_rail","_law_bag_here"]) (js:=[none,some 0]) rfl rfl rfl (gG K rfl (px K (pv 1) aj)) (fun _ _ _ _ _=>(bK 0 (ir (by decide)))) (fun _ _ _ _ _=>ei) (fun _ _ _ _ _=>(pf cb hr (aa (pv 1) (aa (aQ dg (pv 0) aj) af))))) af)))),?_⟩;obtain⟨a,ym,ar,rfl,h1,h2⟩:=tP am;refine⟨_,rfl,.inr ⟨a,_,0,_,rfl,rfl,h1.go cx,eO (hR 0) rfl,?_⟩⟩;refine⟨ar,rfl,⟨_,h2.go cx⟩,fun D H4 n4=>?_⟩;have hl:=dI.hi;refine pC rs.length [some (.ref p)] n4 bg (by omega) (fun i=>.int (rs.getD i 0)) (fun i H5 hi b5=>?_) (fun H5 b5=>⟨_,(h2.go b5.sd).go cx,by rw[aZ];exact aJ _⟩) (fun z=>True) ?_ ?_
   · have e:(rs.map V.int)[i]? =some (.int (rs.getD i 0)):=by rw[du,e9 hi,List.getD_eq_getElem?_getD,e9 hi];rfl
     refine⟨⟨_,_,(h2.go b5.sd).go cx,e⟩,fun y H6 ⟨e1,e2⟩=>⟨e1,?_⟩⟩;have:=e2 _ ((h2.go b5.sd).go cx);rw[e]at this;exact(cu this).symm
   · intro i H5 Q' hi b5 hq
     have fF:1<=rs.getD i 0/\rs.getD i 0<=100:=by rw[List.getD_eq_getElem?_getD,e9 hi];exact dI.all _ (mD hi)
     refine⟨_,rfl,_,rfl,_,_,rfl,rfl,p,rs.getD i 0+1,rfl,b5.bag,by omega,by omega,fun z H6 z0 z1 b6=>hq _ _ trivial b6⟩
   intro H5 is b5 d5 li _;refine⟨D,_,rfl,.inl ⟨aq.of d5,fun q H6 n6=>?_⟩⟩;exact k _ is H6 (AD.dJ (jK is) n6 b5.bag.ne) li (b5.trans (.bz b5.bag n6.same))
inductive wo(K:He)(vs:List V)(H:Hp)(Q:VK):Prop |mk (p:_)(v:_)(ds:_)(n:_)(h0:vs=[.ref p,v])(h1:cZ H p)(h2:AD K p (n+2) H v (.tuple ds))(h3:1<=ds.length)(h4:ds.length<=10)(h5:∀v' lP H',AD K p (n+2) H' v' (.tuple lP)->lP.length<=100->aG p H H'->Q v' H'):wo K vs H Q
def kE(K:He):Sp:=fun vs H Q _=>wo K vs H Q
abbrev nc:Stmt:=top 116
theorem rK:bb ["_law_bag_here","_law_things","_law_how","_law_at","_law_other"] ["_law_bag_here","_law_things"] (aw nc):=bD (by decide+kernel)
theorem AZ(F:FA K mg "_law_number_put" nc)(B:bp mg)(cb:aA P w K mg base "_law_take" 1 eV)(jE:aA P w K mg base "_law_odd_thing" 2 (j4 K)):aA P w K mg base "_law_number_put" 3 (kE K):=by
 refine F.has rK (fun vs H Q E h=>?_) (fun _ _ _ _ _ _=>fL fun _ _=>rfl) (fun f ah A outer s H vs Q E hr h=>?_)
 · obtain⟨p,v,ds,n,rfl,_⟩:=h
   rfl
 · obtain⟨p,v,ds,n,rfl,bg,ad,l1,GB,k⟩:=h
   have nd:=rK.nd;refine⟨_,(ao (pS 2 nd (pf cb hr (aa (pv 0) (aa aj af)))) (ao (pS 3 nd (pf cb hr (aa (pv 0) (aa (dy K B (aa (pv 1) af)) af)))) (ao (pS 4 nd (px K (dG (aa aj (aa aj (aa (kQ ko aj) (aa dw (aa (pf jE hr (aa (pv 0) af)) (aa cL af))))))) (pv 2))) (aD (aW (aQ (fj K rfl) (aQ (fj K rfl) (eu (eW K rfl) (pv 1) fb (dF (pv 3))) (fB (aa (pv 4) af))) (eu (eW K rfl) (pv 1) (dF (aQ dg (pv 3) aj)) fb))))))),?_⟩;refine⟨_,rfl,p,6,rfl,bg,by decide,by decide,fun how H1 ly oB b1=>?_⟩;have vJ:=ad.go b1.sd;obtain⟨a,xs,rfl,hx,dN⟩:=vJ.gC;have hl:=dN.rds.length;refine⟨_,rfl,_,rfl,a,_,rfl,.inr (hx.go cx),p,xs.length,rfl,b1.bag,by omega,by omega,fun at_ H2 GZ GY b2=>?_⟩;refine⟨_,rfl,_,rfl,p,rfl,b2.bag,fun odd dO H3 aO mO b3=>⟨cm rfl,fun l H4 n4=>?_⟩⟩;have bx:=b1.trans (b2.trans b3);have bne:=b3.bag.ne;have FU:cI K p 1 H3 [.int 0,.int 101,.int (-1),.bl true,odd,.str "5"] [.int 0,.int 101,.int (-1),.bool true,dO,.str "5"]:=.cons (.int _) (.cons (.int _) (.cons (.int _) (.cons (.bl _) (.cons aO (.one ⟨kK _,⟨by decide+kernel,fO _⟩⟩)))));have bX:how.toNat<6:=by omega
   obtain⟨y,ey,ay⟩:=FU.get how.toNat (e9 (l:=[.int 0,.int 101,.int (-1),.bool true,dO,.str "5"]) bX);refine⟨_,rfl,.inl ⟨l,_,_,y,rfl,rfl,aq.of n4.at',eO ly ey,?_⟩⟩;have ne:∀{H'},ai H3 H'->H' p≠none:=fun{H'} s=>(aG.bz b3.bag s).bag.ne;have vI:AD K p (n+1+1) H3 (.ref a) (.tuple ds):=vJ.go (b2.trans b3).sd;have s4:=n4.same;have cl:=pB ds;refine⟨_,rfl,_,rfl,_,rfl,p,n+1,_,ne s4,vI.go s4.sd,fun v1 H7 s7 a7=>?_⟩;have nF:=s4.trans s7;refine⟨_,rfl,cm rfl,fun t2 H8 n8=>?_⟩;have j8:=nF.trans n8.same;refine⟨p,n+1,_,_,ne j8,a7.go n8.same.sd,AD.dJ (.one ((ay.go nF.sd).le (by omega))) n8 (ne nF),eg _ ?_,fun v2 H9 s9 a9=>?_⟩
   · have h1:=cl none (some at_)
     show _+1<=1000;omega
   have fw:=j8.trans s9;refine⟨_,rfl,_,rfl,_,_,rfl,rfl,_,rfl,p,n+1,_,ne fw,vI.go fw.sd,fun v3 gn cO pL=>?_⟩;have h1:=cl none (some at_);have h2:=cl (some (at_+1)) none;refine⟨p,n+1,_,_,ne (fw.trans cO),a9.go cO.sd,pL,eg _ ?_,fun v4 gW fX jM=>k _ _ _ jM ?_ (bx.trans (.bz b3.bag (fw.trans (cO.trans fX))))⟩
   · rw[dc]
     show _+1+_<=1000;omega
   · rw[dc,dc]
     show _+1+_<=100;omega
inductive wq(K:He)(vs:List V)(H:Hp)(Q:VK):Prop |mk (p:_)(m:_)(rs:_)(ds:_)(h0:vs=[.ref p,m])(h1:cZ H p)(h2:AD K p 2 H m (iL rs ds))(h3:m3 rs)(h4:ds.length=4)(h5:∀v d H',AD K p 4 H' v d->aG p H H'->Q v H'):wq K vs H Q
def r0(K:He):Sp:=fun vs H Q _=>wq K vs H Q
abbrev ng:Stmt:=top 117
theorem rL:bb ["_law_bag_here","_law_machine_here","_law_how","_law_odd"] ["_law_bag_here","_law_machine_here"] (aw ng):=bD (by decide+kernel)
theorem B0(F:FA K mg "_law_no_machine" ng)(B:bp mg)(cb:aA P w K mg base "_law_take" 1 eV)(jE:aA P w K mg base "_law_odd_thing" 2 (j4 K))(lI:aA P w K mg base "_law_number_put" 3 (kE K)):aA P w K mg base "_law_no_machine" 4 (r0 K):=by
 refine F.has rL (fun vs H Q E h=>?_) (fun _ _ _ _ _ _=>fL fun _ _=>rfl) (fun f ah A outer s H vs Q E hr h=>?_)
 · obtain⟨p,m,rs,ds,rfl,_⟩:=h
   rfl
 · obtain⟨p,m,rs,ds,rfl,bg,am,dI,l4,k⟩:=h
   have nd:=rL.nd;refine⟨_,(ao (pS 2 nd (pf cb hr (aa (pv 0) (aa aj af)))) (ao (pS 3 nd (pf jE hr (aa (pv 0) af))) (ao (bo (bw (eL K rfl hr.units) (pv 2) aj (bM _)) (aD (aW (pv 3))) bj) (ao (bo (bw (eL K rfl hr.units) (pv 2) aj (bM _)) (aD (aW (fC (x:="list") (oh K rfl) rfl (B.at "list") xO (aa (pv 1) af)))) bj) (ao (bo (bw (eL K rfl hr.units) (pv 2) aj (bM _)) (aD (aW (eu (eW K rfl) (pv 1) fb (dF (kQ ko aj))))) bj) (ao (bo (bw (eL K rfl hr.units) (pv 2) aj (bM _)) (aD (aW (aQ (fj K rfl) (fB (aa (fC (x:="list") (oh K rfl) rfl (B.at "list") xO (aa (px K (pv 1) aj) af)) af)) (eu (eW K rfl) (pv 1) (dF aj) fb)))) bj) (ao (bo (bw (eL K rfl hr.units) (pv 2) aj (bM _)) (aD (aW (aQ (fj K rfl) (fB (aa (pf lI hr (aa (pv 0) (aa (px K (pv 1) aj) af))) af)) (eu (eW K rfl) (pv 1) (dF aj) fb)))) bj) (aD (aW (aQ (fj K rfl) (eu (eW K rfl) (pv 1) fb (dF aj)) (pf lI hr (aa (pv 0) (aa (eu (eW K rfl) (pv 1) (dF aj) fb) af))))))))))))),?_⟩;refine⟨_,rfl,p,6,rfl,bg,by decide,by decide,fun how H1 ly oB b1=>?_⟩;refine⟨_,rfl,p,rfl,b1.bag,fun odd dO H2 aO mO b2=>?_⟩;have bx:=b1.trans b2;have bne:=b2.bag.ne;have pK:=am.go bx.sd;obtain⟨a,xs,rfl,hx,dN⟩:=AD.gC (show AD K p (1+1) H2 m (.tuple (.tuple (rs.map PyData.int)::ds))from pK);have fin:∀{v d H5},AD K p 4 H5 v d->aG p H2 H5->Q v H5:=fun{v d H5} ad bm=>k _ _ _ ad (bx.trans bm);have Dm:=dI.hi;have BV:=dI.lo;have cl:=pB (.tuple (rs.map PyData.int)::ds);have ll:(PyData.tuple (rs.map PyData.int)::ds).length=5:=by rw[fR,l4]
   have aM:AD K p (2+1) H2 (.ref a) (.tuple (.tuple (rs.map PyData.int)::ds)):=AD.le pK (by decide);have Ha:AD K p (3+1) H2 (.ref a) (.tuple (.tuple (rs.map PyData.int)::ds)):=AD.le pK (by decide);obtain⟨y,ey,ay⟩:=dN.get 0 (d:=.tuple (rs.map PyData.int)) rfl;refine⟨_,rfl,.inl ⟨_,_,rfl,rfl,_,rfl,?_⟩⟩;refine bS (fun _=>?_) (fun _=>?_)
   ·exact⟨_,rfl,fin (aO.le (by decide)) (.refl b2.bag)⟩
   refine⟨_,rfl,.inl ⟨_,_,rfl,rfl,_,rfl,?_⟩⟩;refine bS (fun _=>?_) (fun _=>?_)
   ·exact⟨_,rfl,a,_,rfl,.inr (hx.go cx),fun l H4 nw=>fin ((AD.nY dN nw bne).le (by decide)) (.bz b2.bag nw.same)⟩
   refine⟨_,rfl,.inl ⟨_,_,rfl,rfl,_,rfl,?_⟩⟩;refine bS (fun _=>?_) (fun _=>?_)
   ·exact⟨_,rfl,_,rfl,_,rfl,p,2,_,bne,aM,fun v1 H5 s5 a5=>fin (a5.le (by decide)) (.bz b2.bag s5)⟩
   refine⟨_,rfl,.inl ⟨_,_,rfl,rfl,_,rfl,?_⟩⟩;refine bS (fun _=>?_) (fun _=>?_)
   · obtain⟨ar,xr,rfl,Cu,Ct⟩:=AD.gC (show AD K p (0+1) H2 y (.tuple (rs.map PyData.int))from ay)
     refine⟨_,rfl,.inr ⟨a,_,0,_,rfl,rfl,hx.go cx,eO (by decide) ey,ar,_,rfl,.inr (Cu.go cx),fun l H3 n3=>?_⟩⟩;refine⟨cm rfl,fun t H4 n4=>?_⟩;have s4:=n3.same.trans n4.same;have ne3:=(aG.bz b2.bag n3.same).bag.ne;have aL:AD K p (2+1) H4 (.ref t) (.tuple [.list (rs.map PyData.int)]):=(AD.dJ (.one (AD.nY Ct n3 bne)) n4 ne3).le (by decide);refine⟨_,rfl,_,rfl,p,2,_,(aG.bz b2.bag s4).bag.ne,aM.go s4.sd,fun v5 H5 s5 a5=>?_⟩;have sh:=s4.trans s5;refine⟨p,2,_,_,(aG.bz b2.bag sh).bag.ne,aL.go s5.sd,a5,eg _ ?_,fun v6 H6 s6 a6=>fin (a6.le (by decide)) (.bz b2.bag (sh.trans s6))⟩;have h1:=cl (some 1) none;show 1+_<=1000;omega
   refine⟨_,rfl,.inl ⟨_,_,rfl,rfl,_,rfl,?_⟩⟩;refine bS (fun _=>?_) (fun _=>?_)
   · refine⟨_,rfl,_,rfl,.inr ⟨a,_,0,_,rfl,rfl,hx.go cx,eO (by decide) ey,?_⟩⟩
     refine⟨p,y,rs.map PyData.int,0,rfl,b2.bag,ay.le (by decide),by rw[aZ];omega,by rw[aZ];omega,fun v4 d4 H4 a4 Gz b4=>?_⟩;refine⟨cm rfl,fun t H5 nw=>?_⟩;have b5:aG p H4 H5:=.bz b4.bag nw.same;refine⟨_,rfl,_,rfl,p,2,_,b5.bag.ne,aM.go (b4.trans b5).sd,fun v6 H6 s6 a6=>?_⟩;have b6:aG p H5 H6:=.bz b5.bag s6;refine⟨p,2,_,_,b6.bag.ne,(AD.dJ (.one a4) nw b4.bag.ne).go s6.sd,a6,eg _ ?_,fun v7 H7 s7 a7=>fin (a7.le (by decide)) (b4.trans (b5.trans (b6.trans (.bz b6.bag s7))))⟩;have h1:=cl (some 1) none;show 1+_<=1000;omega
   · refine⟨_,rfl,_,rfl,p,2,_,bne,aM,fun v3 H3 s3 a3=>?_⟩
     have b3:aG p H2 H3:=.bz b2.bag s3;refine⟨_,rfl,_,rfl,_,rfl,p,2,_,b3.bag.ne,aM.go s3.sd,fun v4 H4 s4 a4=>?_⟩;have b4:aG p H3 H4:=.bz b3.bag s4;have c1:1<=(cutD (.tuple (rs.map PyData.int)::ds) (some 1) none).length:=by obtain⟨d1,d2,d3,d4,rfl⟩:=four l4;exact(by decide:1<=4)
     have h1:=cl (some 1) none;have h2:=cl none (some 1);refine⟨p,v4,_,1,rfl,b4.bag,a4,c1,by omega,fun v5 d5 H5 a5 l5 b5=>?_⟩;refine⟨p,2,_,_,b5.bag.ne,a3.go (b4.trans b5).sd,a5,eg _ (by omega),fun v6 H6 s6 a6=>fin (a6.le (by decide)) (b3.trans (b4.trans (b5.trans (.bz b5.bag s6))))⟩
inductive wm(K:He)(vs:List V)(H:Hp)(Q:VK):Prop |mk (p:Addr)(m:V)(rs:List Int)(ds:List Hh)(v:V)(is:List Int)(h0:vs=[.ref p,m,v])(h1:cZ H p)(h2:AD K p 2 H m (iL rs ds))(h3:m3 rs)(h4:AD K p 1 H v (.tuple (is.map PyData.int)))(h5:is.length=rs.length)(h6:∀v d H',AD K p 4 H' v d->aG p H H'->Q v H'):wm K vs H Q
def qZ(K:He):Sp:=fun vs H Q _=>wm K vs H Q
abbrev mZ:Stmt:=top 118
theorem rJ:bb ["_law_bag_here","_law_machine_here","_law_place_here","_law_how","_law_odd","_law_axis"] ["_law_bag_here","_law_machine_here","_law_place_here"] (aw mZ):=bD (by decide+kernel)
theorem AY(F:FA K mg "_law_no_place" mZ)(B:bp mg)(cb:aA P w K mg base "_law_take" 1 eV)(jE:aA P w K mg base "_law_odd_thing" 2 (j4 K))(lI:aA P w K mg base "_law_number_put" 3 (kE K)):aA P w K mg base "_law_no_place" 4 (qZ K):=by
 refine F.has rJ (fun vs H Q E h=>?_) (fun _ _ _ _ _ _=>jJ fun _ _ _=>rfl) (fun f ah A outer s H vs Q E hr h=>?_)
 · obtain⟨p,m,rs,ds,v,is,rfl,_⟩:=h
   rfl
 · obtain⟨p,m,rs,ds,v,is,rfl,bg,am,dI,aP,li,k⟩:=h
   have nd:=rJ.nd;refine⟨_,(ao (pS 3 nd (pf cb hr (aa (pv 0) (aa aj af)))) (ao (pS 4 nd (pf jE hr (aa (pv 0) af))) (ao (pS 5 nd (pf cb hr (aa (pv 0) (aa (dy K B (aa (pv 2) af)) af)))) (ao (bo (bw (eL K rfl hr.units) (pv 3) aj (bM _)) (aD (aW (pv 4))) bj) (ao (bo (bw (eL K rfl hr.units) (pv 3) aj (bM _)) (aD (aW (fC (x:="list") (oh K rfl) rfl (B.at "list") xO (aa (pv 2) af)))) bj) (ao (bo (bw (eL K rfl hr.units) (pv 3) aj (bM _)) (aD (aW (aQ (fj K rfl) (pv 2) (fB (aa aj af))))) bj) (ao (bo (bw (eL K rfl hr.units) (pv 3) aj (bM _)) (aD (aW (eu (eW K rfl) (pv 2) fb (dF (kQ ko aj))))) bj) (ao (bo (bw (eL K rfl hr.units) (pv 3) aj (bM _)) (aD (aW (aQ (fj K rfl) (aQ (fj K rfl) (eu (eW K rfl) (pv 2) fb (dF (pv 5))) (fB (aa (aQ dg (px K (px K (pv 1) aj) (pv 5)) aj) af))) (eu (eW K rfl) (pv 2) (dF (aQ dg (pv 5) aj)) fb)))) bj) (aD (aW (pf lI hr (aa (pv 0) (aa (pv 2) af))))))))))))),?_⟩;refine⟨_,rfl,p,6,rfl,bg,by decide,by decide,fun how H1 ly oB b1=>?_⟩;refine⟨_,rfl,p,rfl,b1.bag,fun odd dO H3 aO mO b2=>?_⟩;have aP:=aP.go (b1.trans b2).sd;obtain⟨ap,xp,rfl,hp,Cv⟩:=aP.gC;cases Cv.rds.gJ;have Dm:=dI.hi;have BV:=dI.lo;refine⟨_,rfl,_,rfl,ap,_,rfl,.inr (hp.go cx),p,_,rfl,b2.bag,by rw[aZ];omega,by rw[aZ];omega,fun kk H4 k0 k1 b4=>?_⟩;have GK:kk<is.length:=by rw[aZ]at k1;exact k1
   have bx:=b1.trans (b2.trans b4);have bne:=b4.bag.ne;have jL:AD K p 1 H4 (.ref ap) (.tuple (is.map PyData.int)):=aP.go b4.sd;have G0:AD K p (1+1) H4 (.ref ap) (.tuple (is.map PyData.int)):=jL.le (by decide);have CM:aH K H4 ap (is.map V.int):=(hp.go b4.sd).go cx;have G1:AD K p 1 H4 odd dO:=aO.go b4.sd;have fin:∀{v d H5},AD K p 3 H5 v d->ai H4 H5->Q v H5:=fun{v d H5} ad sm=>k _ _ _ (ad.le (by decide)) (bx.trans (.bz b4.bag sm));have ne:∀{H'},ai H4 H'->H' p≠none:=fun{H'} s=>(aG.bz b4.bag s).bag.ne;have cl:=pB (is.map PyData.int);have Gx:(is.map PyData.int).length<=3:=by rw[aZ];omega
   refine⟨_,rfl,.inl ⟨_,_,rfl,rfl,_,rfl,?_⟩⟩;refine bS (fun _=>?_) (fun _=>?_)
   ·exact⟨_,rfl,fin (G1.le (by decide)) (ai.refl _)⟩
   refine⟨_,rfl,.inl ⟨_,_,rfl,rfl,_,rfl,?_⟩⟩;refine bS (fun _=>?_) (fun _=>?_)
   ·exact⟨_,rfl,ap,_,rfl,.inr CM,fun l H5 nw=>fin ((AD.nY (n:=0) (jK is) nw bne).le (by decide)) nw.same⟩
   refine⟨_,rfl,.inl ⟨_,_,rfl,rfl,_,rfl,?_⟩⟩;refine bS (fun _=>?_) (fun _=>?_)
   · refine⟨_,rfl,cm rfl,fun t H6 nw=>?_⟩
     refine⟨p,0,_,_,ne nw.same,jL.go nw.same.sd,AD.dJ (.one (.int 0)) nw bne,eg _ ?_,fun v2 H7 s7 a7=>fin (a7.le (by decide)) (nw.same.trans s7)⟩;show _+1<=1000;omega
   refine⟨_,rfl,.inl ⟨_,_,rfl,rfl,_,rfl,?_⟩⟩;refine bS (fun _=>?_) (fun _=>?_)
   ·exact⟨_,rfl,_,rfl,_,rfl,p,0,_,bne,jL,fun v1 H5 s5 a5=>fin (a5.le (by decide)) s5⟩
   refine⟨_,rfl,.inl ⟨_,_,rfl,rfl,_,rfl,?_⟩⟩;refine bS (fun _=>?_) (fun _=>?_)
   · refine⟨_,rfl,_,rfl,_,rfl,p,0,_,bne,jL,fun v1 H5 s5 a5=>?_⟩
     obtain⟨aM,ym,ar,rfl,uw,oH⟩:=tP ((am.go bx.sd).go s5.sd);obtain⟨y,my,ey⟩:=uc rs k0 (by omega);refine⟨_,rfl,.inr ⟨aM,_,0,_,rfl,rfl,uw.go cx,eO (hR 0) rfl,_,rfl,.inr ⟨ar,_,_,_,rfl,rfl,oH.go cx,ey,_,_,rfl,rfl,?_⟩⟩⟩;refine⟨cm rfl,fun t2 H8 n8=>?_⟩;have j8:=s5.trans n8.same;refine⟨p,0,_,_,ne j8,a5.go n8.same.sd,AD.dJ (.one (.int _)) n8 (ne s5),eg _ ?_,fun v2 H9 s9 a9=>?_⟩
     · have h1:=cl none (some kk)
       show _+1<=1000;omega
     have fw:=j8.trans s9;refine⟨_,rfl,_,rfl,_,_,rfl,rfl,_,rfl,p,0,_,ne fw,jL.go fw.sd,fun v3 gn cO pL=>?_⟩;refine⟨p,0,_,_,ne (fw.trans cO),a9.go cO.sd,pL,eg _ ?_,fun v4 gW fX jM=>fin (jM.le (by decide)) (fw.trans (cO.trans fX))⟩;have h1:=cl none (some kk);have h2:=cl (some (kk+1)) none;rw[dc];show _+1+_<=1000;omega
   ·exact⟨_,rfl,_,rfl,p,_,_,0,rfl,b4.bag,G0,by rw[aZ];omega,by omega,fun v5 d5 H5 a5 l5 b5=>k _ _ _ (a5.le (by decide)) (bx.trans b5)⟩
def kX(ns:List Int):Str:=Txt.join " " (ns.map numS)
def Nm (i:Int):Prop:=i.natAbs<10^40
theorem Nm.l{i:Int}(h:Nm i):vS i:=mz h (by decide+kernel)
theorem tf{i:Int}(h:Nm i):(numS i).length<=41:=yi h
theorem tu(zs:List Str):eE (zs.map PyData.str)=true:=jg.mpr fun d hd=>by obtain⟨z,_,rfl⟩:=mC.mp hd;rfl
theorem kA{H:Hp}:∀{xs:List V}{zs:List Str},au K H xs (zs.map PyData.str)->xs=zs.map V.str |xs,[],h=>h.nil_inv |xs,n::ns,h=>by obtain⟨y,ys,rfl,h1,h2⟩:=h.cons_inv;rw[h1.str_inv,kA h2];rfl
inductive wj(K:He)(vs:List V)(H:Hp)(Q:VK):Prop |mk (v:_)(ns:_)(h0:vs=[v])(h1:RD K H v (.tuple (ns.map PyData.int)))(h2:ns.length<=3)(h3:(∀n∈ns,Nm n))(h4:∀H',ai H H'->Q (.str (kX ns)) H'):wj K vs H Q
def qX(K:He):Sp:=fun vs H Q _=>wj K vs H Q
abbrev mU:Stmt:=top 81
theorem rE:bb ["numbers"] ["numbers"] (aw mU):=bD (by decide+kernel)
theorem AQ(F:FA K mg "show_numbers" mU)(B:bp mg)(CJ:aA P w K mg base "show_number" 1 qY):aA P w K mg base "show_numbers" 2 (qX K):=by
 refine F.has rE (fun vs H Q E h=>?_) (fun _ _ _ _ _ _=>dX fun _=>rfl) (fun f ah A outer s H vs Q E hr h=>?_)
 · obtain⟨v,ns,rfl,_⟩:=h
   rfl
 · obtain⟨v,ns,rfl,rv,hl,hb,k⟩:=h
   have nd:=rE.nd;refine⟨_,(aD (aW (sV K rfl cL (aa (ez (N:=["number"]) (js:=[none]) rfl rfl rfl (gG K rfl (pv 0)) (fun _ _ _ _ _=>(bK 0 (iu _))) (fun _ _ _ _ _=>ei) (fun _ _ _ _ _=>(pf CJ hr (aa (pv 0) af)))) af)))),?_⟩;obtain⟨a,xs,rfl,h1,h2⟩:=rv.ck;rw[h2.gJ]at h1;refine⟨rfl,?_⟩;refine⟨_,rfl,a,rfl,⟨_,h1⟩,fun D H1 n1=>?_⟩;refine vg (K:=K) (ds:=(ns.map numS).map PyData.str) _ h1 n1 (by simp) (by simp;omega) (tu _) ?_ ?_
   · intro i x d H2 Q' ex ed s2 hq
     rw[du]at ex;obtain⟨n,en,rfl⟩:=Option.map_eq_some_iff.mp ex;rw[du,du,en]at ed;cases ed;have hn:=hb n (iQ en);exact⟨_,rfl,n,rfl,hn.l,fun H3 s3=>hq _ _ s3 (kK _)⟩
   · intro H2 zs s2 d2 r2
     rw[kA r2]at d2;refine⟨" ",D,ns.map numS,rfl,rfl,aq.of d2,fun z hz=>?_,by decide+kernel,by rw[aZ];omega,k _ s2⟩;obtain⟨n,hn,rfl⟩:=mC.mp hz;have:=tf (hb n hn);omega
def zF(m b d q p r s k t:V):List (Str×V):=[("machine",m),("begun_at",b),("done",d),("queue",q),("pace",p),("rate_now",r),("side",s),("mark",k),("stopping",t)]
structure jO(K:He)(C:Addr):Prop where
 cl:d6 K C
 n_machine:cE K C "machine"
 n_begun_at:cE K C "begun_at"
 n_done:cE K C "done"
 n_queue:cE K C "queue"
 n_pace:cE K C "pace"
 n_rate_now:cE K C "rate_now"
 n_side:cE K C "side"
 n_mark:cE K C "mark"
 n_stopping:cE K C "stopping"
structure jT(K:He)(D:Addr):Prop where
 cl:d6 K D
 n_machine:cE K D "machine"
 n_runner:cE K D "runner"
def jP(C:Addr)(H:Hp)(r:Addr)(bv:V):Prop:=∃dx mv q pc,H r=some (.ins C dx (zF mv bv (.int 0) (.ref q) pc (.int 100) (.str "up") (.str "") .ax))
abbrev mX:Stmt:=inClass (top 74) 0
theorem zq:bb ["self","machine","place"] ["self","machine","place"] (aw mX):=bD (by decide+kernel)
inductive wc(C:Addr)(vs:List V)(H:Hp)(Q:VK):Prop |mk (a:_)(dx:_)(mv:_)(cw:_)(h0:vs=[.ref a,mv,cw])(h1:H a=some (.ins C dx []))(h2:∀H',jP C H' a cw->xy [a] H H'->Q .ax H'):wc C vs H Q
def qV(K:He)(C:Addr):Sp:=fun vs H Q _=>wc C vs H Q
theorem AV{C:Addr}(F:CA K mg C "Runner" "Runner.__init__" mX)(TC:jO K C)(gN:GT K mg "NOUGHT" [.int 0,.int 1])(E4:GV mg "FIRST_RATE" (.int 100)):m6 P w K mg base C "Runner" 1 (qV K C):=by
 obtain⟨aN,DX,Gk⟩:=gN;refine F.has zq (fun vs H Q E h=>?_) (fun _ _ _ _ _ _=>jJ fun _ _ _=>rfl) (fun f ah A outer s H vs Q E hr h=>?_)
 · obtain⟨a,dx,mv,cw,rfl,_⟩:=h
   rfl
 · obtain⟨a,dx,mv,cw,rfl,e,k⟩:=h
   refine⟨_,(ao (ej TC.cl TC.n_machine (pv 0) (pv 1)) (ao (ej TC.cl TC.n_begun_at (pv 0) (pv 2)) (ao (ej TC.cl TC.n_done (pv 0) aj) (ao (ej TC.cl TC.n_queue (pv 0) (dG af)) (ao (ej TC.cl TC.n_pace (pv 0) (cn (x:="NOUGHT") rfl DX)) (ao (ej TC.cl TC.n_rate_now (pv 0) (cn (x:="FIRST_RATE") rfl E4)) (ao (ej TC.cl TC.n_side (pv 0) cL) (ao (ej TC.cl TC.n_mark (pv 0) cL) (aD (ej TC.cl TC.n_stopping (pv 0) sR)))))))))),?_⟩;refine⟨_,rfl,_,rfl,a,dx,_,rfl,e,by decide,?_⟩;refine⟨_,rfl,_,rfl,a,dx,_,rfl,br,by show 1<1000;decide,?_⟩;refine⟨_,rfl,a,dx,_,rfl,br,by show 2<1000;decide,?_⟩;refine⟨cm rfl,fun q H1 n1=>?_⟩;have e1:=n1.same _ _ (br (a:=a));refine⟨_,rfl,a,dx,_,rfl,e1,by show 3<1000;decide,?_⟩;refine⟨_,rfl,a,dx,_,rfl,br,by show 4<1000;decide,?_⟩;refine⟨_,rfl,a,dx,_,rfl,br,by show 5<1000;decide,?_⟩;refine⟨_,rfl,a,dx,_,rfl,br,by show 6<1000;decide,?_⟩;refine⟨_,rfl,a,dx,_,rfl,br,by show 7<1000;decide,?_⟩;refine⟨_,rfl,a,dx,_,rfl,br,by show 8<1000;decide,?_⟩;refine k _ ⟨dx,mv,q,.ref aN,br⟩ fun b o eb hb=>?_;have ha:b≠a:=fun z=>hb (by rw[z];exact .head _)
   repeat rw[aV ha]
   exact n1.same _ _ (by repeat rw[aV ha]
                         exact eb)
abbrev mW:Stmt:=inClass (top 74) 1
theorem zp:bb ["self"] ["self"] (aw mW):=bD (by decide+kernel)
inductive wb(C:Addr)(vs:List V)(H:Hp)(Q:VK):Prop |mk (a:_)(bv:_)(h0:vs=[.ref a])(h1:jP C H a bv)(h2:Q bv H):wb C vs H Q
def qU(K:He)(C:Addr):Sp:=fun vs H Q _=>wb C vs H Q
theorem AU{C:Addr}(F:MA K C "place" "Runner.place" mW)(TC:jO K C):gU P w K mg base C "place" 1 (qU K C):=by
 refine F.has zp (fun vs H Q E h=>?_) (fun _ _ _ _ _ _=>dX fun _=>rfl) (fun f ah A outer s H vs Q E hr h=>?_)
 · obtain⟨a,bv,rfl,_⟩:=h
   rfl
 · obtain⟨a,bv,rfl,⟨dx,mv,q,pc,e⟩,k⟩:=h
   exact⟨_,(ao (bo (bw (eL K rfl hr.units) (nT TC.cl TC.n_done (pv 0)) aj (bM _)) (aD (aW (nT TC.cl TC.n_begun_at (pv 0)))) bj) sE),_,rfl,a,dx,_,_,rfl,e,rfl,.inl ⟨_,_,rfl,rfl,_,rfl,bH ⟨_,rfl,a,dx,_,_,rfl,e,rfl,k⟩⟩⟩
inductive wD(K:He)(C:Addr)(vs:List V)(H:Hp)(Q:VK):Prop |mk (a:_)(bv:_)(ns:_)(h0:vs=[.ref a])(h1:jP C H a bv)(h2:RD K H bv (.tuple (ns.map PyData.int)))(h3:ns.length<=3)(h4:(∀n∈ns,Nm n))(h5:∀H',ai H H'->Q (.str (kX ns)) H'):wD K C vs H Q
def rl(K:He)(C:Addr):Sp:=fun vs H Q _=>wD K C vs H Q
abbrev nE:Stmt:=top 96
theorem zr:bb ["runner"] ["runner"] (aw nE):=bD (by decide+kernel)
theorem Bf{C:Addr}(F:FA K mg "answer_place" nE)(TC:jO K C)(CI:aA P w K mg base "show_numbers" 2 (qX K))(E9:gU P w K mg base C "place" 1 (qU K C)):aA P w K mg base "answer_place" 3 (rl K C):=by
 refine F.has zr (fun vs H Q E h=>?_) (fun _ _ _ _ _ _=>dX fun _=>rfl) (fun f ah A outer s H vs Q E hr h=>?_)
 · obtain⟨a,bv,ns,rfl,_⟩:=h
   rfl
 · obtain⟨a,bv,ns,rfl,R,rd,hl,hn,k⟩:=h
   obtain⟨dx,mv,q,pc,e⟩:=id R;exact⟨_,(aD (aW (pf CI hr (aa (Aa E9 TC.cl (hr.mono (by decide)) (pv 0)) af)))),_,rfl,a,dx,_,rfl,e,rfl,a,bv,rfl,R,bv,ns,rfl,rd,hl,hn,k⟩
abbrev mT:Stmt:=inClass (top 105) 1
theorem rD:bb ["self","text","word","rest","answer","item"] ["self","text"] (aw mT):=bD (by decide+kernel)
inductive wa(K:He)(C:Addr)(D:Addr)(vs:List V)(H:Hp)(Q:VK):Prop |mk (a:_)(dx:_)(mv:_)(r:_)(bv:_)(ns:_)(h0:vs=[.ref a,.str "place"])(h1:H a=some (.ins D dx [("machine",mv),("runner",.ref r)]))(h2:jP C H r bv)(h3:RD K H bv (.tuple (ns.map PyData.int)))(h4:ns.length<=3)(h5:(∀n∈ns,Nm n))(h6:∀H',ai H H'->Q (.str (kX ns)) H'):wa K C D vs H Q
def qT(K:He)(C D:Addr):Sp:=fun vs H Q _=>wa K C D vs H Q
theorem zd:Txt.split "place" " "=[Str.ofString "place"]:=by decide+kernel
theorem AS{C D gA:Addr}(F:MA K D "say" "Desk.say" mT)(B:bp mg)(TC:jT K D)(GA:GD w K mg "ANSWERS" gA)(hG:PySem.W.nsIn K gA "place"=some (mg "answer_place"))(oX:aA P w K mg base "answer_place" 3 (rl K C)):gU P w K mg base D "say" 4 (qT K C D):=by
 refine F.has rD (fun vs H Q E h=>?_) (fun _ _ _ _ _ _=>fL fun _ _=>rfl) (fun f0 ah A outer s H vs Q E hr h=>?_)
 · obtain⟨a,dx,mv,r,bv,ns,rfl,_⟩:=h
   rfl
 · obtain⟨a,dx,mv,r,bv,ns,rfl,ea,R,rd,hl,hn,k⟩:=h
   obtain⟨f,fd,ps,Fo,hm,hk,hb⟩:=oX;rw[hm]at hG;have nd:=rD.nd;have uN:sizeLine=16777216:=by decide
   refine⟨_,(ao (bo (df (cP (eD K B (aa (pv 1) (aa (dH (x:="str") (v:=.ty "str") rfl (B.at "str") qh rfl) af))))) (aD A1) bj) (ao (ja (As K rfl (pv 1) (aa cL af)) (A9 K rfl rfl (bK 2 nd) (bK 3 nd))) (ao (bo (PW.pt (zW (zZ (Ax GA rfl (pv 2)) (by with_unfolding_all rfl)) (zV (df (zY K rfl (pv 3)))))) (ao (pS 4 nd (Ak GA rfl (pv 2) (fun _ _=>rfl))) (aD (aW (Ao 4 jf (ha:=(aa (nT TC.cl TC.n_runner (pv 0)) af)))))) bj) sE))),?_⟩;refine⟨_,rfl,.inl ⟨_,"str","str",true,rfl,rfl,by decide,by decide,_,rfl,bu ?_⟩⟩;refine⟨_,rfl,rfl,"place"," ",rfl,rfl,by decide+kernel,by decide+kernel,fun l H1 n1=>?_⟩;rw[zd]at n1;refine⟨l,.str "place",[],rfl,aq.of n1.at',by decide,fun p H2 n2=>?_⟩;have s2:=n1.same.trans n2.same;refine⟨_,rfl,"place",_,rfl,hG,true,rfl,bH ?_⟩;refine⟨_,rfl,false,.inl ⟨_,aq.of n2.at',rfl⟩,bH ?_⟩;refine⟨_,rfl,"place",_,.ref f,rfl,hG,rfl,?_⟩;obtain⟨rx,o8,q',nU,er⟩:=id R;exact⟨f,fd,ps,3,_,rfl,Fo,hk,hb,hr.mono (by decide),_,rfl,a,dx,_,_,rfl,s2 _ _ ea,rfl,r,bv,ns,rfl,⟨rx,o8,q',nU,s2 _ _ er⟩,RD.mono s2 _ rd,hl,hn,fun H3 s3=>k _ (s2.trans s3)⟩
structure CC where
 g:Addr
 c0:Addr
 c1:Addr
 c2:Addr
 c3:Addr
 c4:Addr
 c5:Addr
 c6:Addr
 c7:Addr
 c8:Addr
 c9:Addr
 c10:Addr
structure KC(K:He)(X:CC)(C:Addr)(b0 b1 b2 b3 b4 b5 b6 b7 b8 b9 cf:Bool):Prop where
 tk:takes K C X.g
 k:eQ K C
 i0:PySem.W.kitOne K (.ref C) (.ref X.c0)=some b0
 i1:PySem.W.kitOne K (.ref C) (.ref X.c1)=some b1
 i2:PySem.W.kitOne K (.ref C) (.ref X.c2)=some b2
 i3:PySem.W.kitOne K (.ref C) (.ref X.c3)=some b3
 i4:PySem.W.kitOne K (.ref C) (.ref X.c4)=some b4
 i5:PySem.W.kitOne K (.ref C) (.ref X.c5)=some b5
 i6:PySem.W.kitOne K (.ref C) (.ref X.c6)=some b6
 i7:PySem.W.kitOne K (.ref C) (.ref X.c7)=some b7
 i8:PySem.W.kitOne K (.ref C) (.ref X.c8)=some b8
 i9:PySem.W.kitOne K (.ref C) (.ref X.c9)=some b9
 i10:PySem.W.kitOne K (.ref C) (.ref X.c10)=some cf
 ve:PySem.W.kitOne K (.ref C) (.type "ValueError")=some true
structure pX(mg:Str->Option Value)(X:CC):Prop where
 h0:GV mg "NoFraction" (.ref X.c0)
 h1:GV mg "NoRate" (.ref X.c1)
 h2:GV mg "NoItem" (.ref X.c2)
 h3:GV mg "OffRails" (.ref X.c3)
 h4:GV mg "Full" (.ref X.c4)
 h5:GV mg "Moving" (.ref X.c5)
 h6:GV mg "NoTape" (.ref X.c6)
 h7:GV mg "NoText" (.ref X.c7)
 h8:GV mg "NoMachine" (.ref X.c8)
 h9:GV mg "NoPlace" (.ref X.c9)
 h10:GV mg "NoLine" (.ref X.c10)
 v:mg "ValueError"=none
def fK:List Str:=["fraction","rate","item","off","full","moving","tape","text","machine","place","line"]
inductive wB(K:He)(X:CC)(vs:List V)(H:Hp)(Q:VK):Prop |mk (ex:Addr)(C:Addr)(dx:Option Addr)(b0:Bool)(b1:Bool)(b2:Bool)(b3:Bool)(b4:Bool)(b5:Bool)(b6:Bool)(b7:Bool)(b8:Bool)(b9:Bool)(cf:Bool)(j:Nat)(z:Str)(h0:vs=[.ref ex])(h1:H ex=some (.ext (eR ex (.ref C) dx)))(h2:KC K X C b0 b1 b2 b3 b4 b5 b6 b7 b8 b9 cf)(h3:[b0,b1,b2,b3,b4,b5,b6,b7,b8,b9,cf].count true=1)(h4:[b0,b1,b2,b3,b4,b5,b6,b7,b8,b9,cf][j]? =some true)(h5:(∀m:Nat,m<j->[b0,b1,b2,b3,b4,b5,b6,b7,b8,b9,cf][m]? =some false))(h6:fK[j]? =some z)(h7:∀H',ai H H'->Q (.str ("refused "++z)) H'):wB K X vs H Q
def rj(K:He)(X:CC):Sp:=fun vs H Q _=>wB K X vs H Q
abbrev eY:Stmt:=top 114
theorem rY:bb ["_law_e","_law_some","_law_names"] ["_law_e"] (aw eY):=bD (by decide+kernel)
theorem Ff{j:Nat}{z:Str}(h:fK[j]? =some z):j<1000/\z.length<=100:=by
 have hm:=iQ h;refine⟨by have:=(fS.mp h).1;have e:fK.length=11:=rfl;omega,?_⟩;have:∀y∈fK,y.length<=100:=by decide+kernel
 exact this z hm
def lS:Expr:=match bB eY with|_::_::_:: .Assign _ e _::_=>e|_=>.Constant .none 0 ⟨0,0,0,0⟩
theorem Fj:lit 4 lS=some (.list (fK.map PyData.str)):=by kernel_rfl
def tN(e:Expr):List Stmt:=match bB eY with|a::b::c:: .Assign ts _ p::r=>a::b::c:: .Assign ts e p::r|r=>r
theorem BH:tN lS=bB eY:=by kernel_rfl
theorem Fg{X:CC}{f:Addr}{ah:Value}{A:Hi}{outer:List Env}{s:Hf}{H:Hp}{Q:VK}(e:Expr)(hr:dn 0 (A.deeper (envOfC "_law_class" (aw eY) s.heap.objs.size f ah))) (he:pP (iH P w K mg base ["_law_e","_law_some","_law_names"] "_law_class" (aw eY) f ah A outer s H) e (iX K (.list (fK.map PyData.str)))) (dh:∀x l,swapsWith e (some x) l (iH P w K mg base ["_law_e","_law_some","_law_names"] "_law_class" (aw eY) f ah A outer s H).env=pure false)(B:bp mg)(N:pX mg X) {ex C:Addr}{dx:Option Addr}{b0 b1 b2 b3 b4 b5 b6 b7 b8 b9 cf:Bool}{j:Nat}{z:Str}(e1:H ex=some (.ext (eR ex (.ref C) dx)))(kc:KC K X C b0 b1 b2 b3 b4 b5 b6 b7 b8 b9 cf)(cnt:[b0,b1,b2,b3,b4,b5,b6,b7,b8,b9,cf].count true=1)(o2:[b0,b1,b2,b3,b4,b5,b6,b7,b8,b9,cf][j]? =some true)(o3:∀m:Nat,m<j->[b0,b1,b2,b3,b4,b5,b6,b7,b8,b9,cf][m]? =some false)(o5:fK[j]? =some z)(k:∀H',ai H H'->Q (.str ("refused "++z)) H'): ∃t,bJ (iH P w K mg base ["_law_e","_law_some","_law_names"] "_law_class" (aw eY) f ah A outer s H) (tN e) t/\t {nx:=fun _ H'=>Q .ax H',rt:=Q} (start ["_law_e","_law_some","_law_names"] [.ref ex]) H:=by
    have nd:=rY.nd;have DW:=N.h0;have DR:=N.h1;have DV:=N.h2;have DN:=N.h3;have E3:=N.h4;have DY:=N.h5;have DQ:=N.h6;have DP:=N.h7;have DT:=N.h8;have DS:=N.h9;have DU:=N.h10;have DL:=N.v;have uN:sizeLine=16777216:=by decide
    refine⟨_,(ao (pS 1 nd (dG (aa (bF (x:="isinstance") (dM K rfl) rfl (B.at "isinstance") dZ (aa (pv 0) (aa (cn (x:="NoFraction") rfl DW) af))) (aa (bF (x:="isinstance") (dM K rfl) rfl (B.at "isinstance") dZ (aa (pv 0) (aa (cn (x:="NoRate") rfl DR) af))) (aa (bF (x:="isinstance") (dM K rfl) rfl (B.at "isinstance") dZ (aa (pv 0) (aa (cn (x:="NoItem") rfl DV) af))) (aa (bF (x:="isinstance") (dM K rfl) rfl (B.at "isinstance") dZ (aa (pv 0) (aa (cn (x:="OffRails") rfl DN) af))) af)))))) (ao (pS 1 nd (aQ (vp K rfl) (pv 1) (dG (aa (bF (x:="isinstance") (dM K rfl) rfl (B.at "isinstance") dZ (aa (pv 0) (aa (cn (x:="Full") rfl E3) af))) (aa (bF (x:="isinstance") (dM K rfl) rfl (B.at "isinstance") dZ (aa (pv 0) (aa (cn (x:="Moving") rfl DY) af))) (aa (bF (x:="isinstance") (dM K rfl) rfl (B.at "isinstance") dZ (aa (pv 0) (aa (cn (x:="NoTape") rfl DQ) af))) (aa (bF (x:="isinstance") (dM K rfl) rfl (B.at "isinstance") dZ (aa (pv 0) (aa (cn (x:="NoText") rfl DP) af))) af))))))) (ao (pS 1 nd (aQ (vp K rfl) (pv 1) (dG (aa (bF (x:="isinstance") (dM K rfl) rfl (B.at "isinstance") dZ (aa (pv 0) (aa (cn (x:="NoMachine") rfl DT) af))) (aa (bF (x:="isinstance") (dM K rfl) rfl (B.at "isinstance") dZ (aa (pv 0) (aa (cn (x:="NoPlace") rfl DS) af))) (aa (bF (x:="isinstance") (dM K rfl) rfl (B.at "isinstance") dZ (aa (pv 0) (aa (cn (x:="NoLine") rfl DU) af))) af)))))) (ao (nR (i:=2) nd rfl (Or.inl rfl) he.out (dh _ _)) (ao (bo (PW.pt (eZ (bw (jk K rfl hr.units) (Aw K rfl (pv 1) (aa dw af)) aj (bM _)) (fA (df (cP (bF (x:="isinstance") (dM K rfl) rfl (B.at "isinstance") dZ (aa (pv 0) (aa (dH (x:="ValueError") (v:=.ty "ValueError") rfl DL FF rfl) af)))))))) (aD (aW cL)) bj) (aD (aW (aQ AL cL (px K (pv 2) (Av K rfl (pv 1) (aa dw af))))))))))),?_⟩;refine⟨_,rfl,.inl ⟨ex,C,dx,.ref X.c0,.ref X.c0,b0,rfl,e1,kc.k,rfl,kc.i0,?_⟩⟩;refine⟨_,rfl,.inl ⟨ex,C,dx,.ref X.c1,.ref X.c1,b1,rfl,e1,kc.k,rfl,kc.i1,?_⟩⟩;refine⟨_,rfl,.inl ⟨ex,C,dx,.ref X.c2,.ref X.c2,b2,rfl,e1,kc.k,rfl,kc.i2,?_⟩⟩;refine⟨_,rfl,.inl ⟨ex,C,dx,.ref X.c3,.ref X.c3,b3,rfl,e1,kc.k,rfl,kc.i3,?_⟩⟩;refine⟨cm rfl,fun l1 H1 n1=>?_⟩;have e2:=n1.same _ _ e1;refine⟨_,rfl,?_⟩;refine⟨_,rfl,.inl ⟨ex,C,dx,.ref X.c4,.ref X.c4,b4,rfl,e2,kc.k,rfl,kc.i4,?_⟩⟩;refine⟨_,rfl,.inl ⟨ex,C,dx,.ref X.c5,.ref X.c5,b5,rfl,e2,kc.k,rfl,kc.i5,?_⟩⟩;refine⟨_,rfl,.inl ⟨ex,C,dx,.ref X.c6,.ref X.c6,b6,rfl,e2,kc.k,rfl,kc.i6,?_⟩⟩;refine⟨_,rfl,.inl ⟨ex,C,dx,.ref X.c7,.ref X.c7,b7,rfl,e2,kc.k,rfl,kc.i7,?_⟩⟩;refine⟨cm rfl,fun l2 H2 n2=>?_⟩;refine⟨l1,l2,_,_,rfl,rfl,aq.of (n2.same _ _ n1.at'),aq.of n2.at',by show 8<=_;omega,fun l3 H3 n3=>?_⟩;have s3:=n1.same.trans (n2.same.trans n3.same);have e3:=s3 _ _ e1;refine⟨_,rfl,?_⟩;refine⟨_,rfl,.inl ⟨ex,C,dx,.ref X.c8,.ref X.c8,b8,rfl,e3,kc.k,rfl,kc.i8,?_⟩⟩;refine⟨_,rfl,.inl ⟨ex,C,dx,.ref X.c9,.ref X.c9,b9,rfl,e3,kc.k,rfl,kc.i9,?_⟩⟩;refine⟨_,rfl,.inl ⟨ex,C,dx,.ref X.c10,.ref X.c10,cf,rfl,e3,kc.k,rfl,kc.i10,?_⟩⟩;refine⟨cm rfl,fun l4 H4 n4=>?_⟩;refine⟨l3,l4,_,_,rfl,rfl,aq.of (n4.same _ _ n3.at'),aq.of n4.at',by show 11<=_;omega,fun l5 H5 n5=>?_⟩;have D0:aq K H5 l5 ([b0,b1,b2,b3,b4,b5,b6,b7,b8,b9,cf].map V.bl):=aq.of n5.at';have s5:=s3.trans (n4.same.trans n5.same);intro Gy H6 tH r6;obtain⟨l6,xs6,rfl,Cw,Dw⟩:=(RD.mono ED _ r6).lst_inv;cases kA Dw;have s6:=s5.trans tH;have lB:=D0.go tH;have e6:=s6 _ _ e1;refine⟨_,rfl,.inl ⟨rfl,_,lB⟩,l5,_,rfl,rfl,lB,.inl ⟨_,_,rfl,rfl,_,rfl,?_⟩⟩;rw[show(!decide (((([b0,b1,b2,b3,b4,b5,b6,b7,b8,b9,cf].count true:Nat)):Int)=1))=false by rw[cnt];rfl];refine bu ?_;refine⟨_,rfl,.inl ⟨ex,C,dx,.ty "ValueError",.type "ValueError",true,rfl,e6,kc.k,rfl,kc.ve,_,rfl,bu ?_⟩⟩;obtain⟨j1,z1⟩:=Ff o5;have o6:(fK.map V.str)[j]? =some (.str z):=by rw[du,o5];rfl
    refine⟨_,rfl,_,rfl,.inl ⟨rfl,_,lB⟩,l5,_,j,rfl,rfl,lB,o2,o3,j1,?_⟩;refine .inl ⟨l6,fK.map V.str,_,_,rfl,rfl,Cw,eO (by omega) o6,?_⟩;refine⟨_,_,rfl,rfl,?_,k _ s6⟩;have e8:Str.length "refused "=8:=by decide+kernel
    omega
theorem Bc{X:CC}(F:FA K mg "_law_class" eY)(B:bp mg)(N:pX mg X):m9 P w K mg base "_law_class" 1 (rj K X):=by
 refine F.DF rY (fun vs H Q E h=>?_) (fun _ _ _ _ _ _=>dX fun _=>rfl) (fun f ah A outer s H vs Q hr h=>?_)
 · obtain⟨ex,C,dx,b0,b1,b2,b3,b4,b5,b6,b7,b8,b9,cf,j,z,rfl,_⟩:=h
   rfl
 · obtain⟨ex,C,dx,b0,b1,b2,b3,b4,b5,b6,b7,b8,b9,cf,j,z,rfl,e1,kc,cnt,o2,o3,o5,k⟩:=h
   rw[<-BH];exact Fg lS hr (sT K rfl 4 lS _ Fj) (fun _ _=>rfl) B N e1 kc cnt o2 o3 o5 k
def intOf:Hh->Int | .int i=>i |_=>0
def intsOf:Hh->List Int | .tuple ds=>ds.map intOf |_=>[]
def dE:Hh->List Int | .tuple (r::_)=>intsOf r |_=>[]
theorem oq(lo:Int):∀{es:List Hh}{rs:List Int},es.length=rs.length->((es.zip rs).map fun p=>bf lo p.2 p.1).all id=true->es=(es.map intOf).map PyData.int/\∀n∈es.map intOf,lo<=n/\∃r∈rs,n<=r |[],[],_,_=>⟨rfl,fun n hn=>(ft hn).elim⟩ |e::es,r::rs,hl,h=>by rw[List.zip_cons_cons,iT,List.all_cons,bW]at h;obtain⟨h1,h2⟩:=h;obtain⟨h3,h4⟩:=oq lo (es:=es) (rs:=rs) (by simpa using hl) h2;cases e with
    |int i=>
      have h1:(decide (lo<=i)&&decide (i<=r))=true:=h1;rw[bW,xD,xD]at h1;refine⟨?_,fun n hn=>?_⟩
      ·rw[iT,iT,<-h3];rfl
      · rcases bV.mp hn with rfl|hn
        ·exact⟨h1.1,r,.head _,h1.2⟩
        · obtain⟨q1,r',q2,q3⟩:=h4 n hn
          exact⟨q1,r',.tail _ q2,q3⟩ |_=>exact absurd (show(false:Bool)=true from h1) (by decide)
theorem all_ints{es:List Hh}{lo hi:Int}(h:es.all (bf lo hi)=true):es=(es.map intOf).map PyData.int/\∀n∈es.map intOf,lo<=n/\n<=hi:=by obtain⟨h1,h2⟩:=oq lo (es:=es) (rs:=List.replicate es.length hi) (by simp) (by rw[List.all_map,fT];intro p hp;have:=ka hp;have e:p.2=hi:=(List.mem_replicate.mp this.2).2;show bf lo p.2 p.1=true;rw[e];exact fT.mp h _ this.1);refine⟨h1,fun n hn=>?_⟩;obtain⟨q1,r,q2,q3⟩:=h2 n hn;rw[(List.mem_replicate.mp q2).2]at q3;exact⟨q1,q3⟩
theorem oa{d:Hh}(h:bT d=true):∃ds,d=iL (dE d) ds/\(dE d).length<=3/\∀r∈dE d,r<=100:=by
 rcases og d with⟨r,a,b,c,t,rfl⟩|⟨ds,rfl,_,hf⟩|⟨_,hf⟩
 · have h:(fe r&&bf 1 100 t&&[a,b,c].all (bf 1 50))=true:=h
   rw[bW,bW]at h;obtain⟨⟨h1,_⟩,_⟩:=h;rcases gy r with⟨rs,rfl⟩|⟨_,hn⟩
   · have h1:((rs.length==2||rs.length==3)&&rs.all (bf 1 100))=true:=h1
     rw[bW]at h1;obtain⟨q1,q2⟩:=all_ints h1.2;have e:dE (.tuple [.tuple rs,a,b,c,t])=rs.map intOf:=rfl;rw[e];refine⟨[a,b,c,t],?_,?_,fun r hr=>(q2 r hr).2⟩
     · show _=PyData.tuple (.tuple ((rs.map intOf).map PyData.int)::_)
       rw[<-q1]
     · rw[aZ]
       have:=h1.1;rw[Bool.or_eq_true,bE,bE]at this;omega
   · have e:fe r=false:=by cases r<;>first|rfl|exact absurd rfl (hn _)
     rw[e]at h1;cases h1
 ·rw[hf]at h;cases h
 ·rw[hf]at h;cases h
theorem sJ{rs:List Int}{d:Hh}(h:eG rs d=true)(hr:∀r∈rs,r<=100):d= .tuple ((intsOf d).map PyData.int)/\(intsOf d).length=rs.length/\∀n∈intsOf d,Nm n:=by
 rcases gy d with⟨es,rfl⟩|⟨_,hn⟩
 · have h:(es.length==rs.length&&((es.zip rs).map fun p=>bf 0 p.2 p.1).all id)=true:=h
   rw[bW,bE]at h;obtain⟨q1,q2⟩:=oq 0 h.1 h.2;refine⟨?_,?_,fun n hn=>?_⟩
   · show PyData.tuple es= .tuple ((es.map intOf).map PyData.int)
     rw[<-q1]
   · show(es.map intOf).length=_
     rw[aZ];exact h.1
   · obtain⟨n0,r,iy,n1⟩:=q2 n hn
     have:=hr r iy;show n.natAbs<10^40;omega
 · have e:eG rs d=false:=by cases d<;>first|rfl|exact absurd rfl (hn _)
   rw[e]at h;cases h
def dS(d d':Hh):Str:=if bT d=true then if eG (dE d) d'=true then kX (intsOf d')else "refused place" else "refused machine"
abbrev nB:Stmt:=inClass (top 105) 0
theorem rX:bb ["self","machine","place"] ["self","machine","place"] (aw nB):=bD (by decide+kernel)
inductive wz(K:He)(C:Addr)(D:Addr)(X:CC)(vs:List V)(H:Hp)(Q:VK)(E:XK):Prop |mk (a:_)(dx:_)(mv:_)(cw:_)(d:_)(d':_)(h0:vs=[.ref a,mv,cw])(h1:H a=some (.ins D dx []))(h2:RD K H mv d)(h3:RD K H cw d')(h4:(bT d=false->∀H',ai H H'->E (.ref X.c8) none H'))(h5:(bT d=true->eG (dE d) d'=false->∀H',ai H H'->E (.ref X.c9) none H'))(h6:(bT d=true->eG (dE d) d'=true->∀r H',H' a=some (.ins D dx [("machine",mv),("runner",.ref r)])->jP C H' r cw->xy [a] H H'->Q .ax H')):wz K C D X vs H Q E
def rh(K:He)(C D:Addr)(X:CC):Sp:=fun vs H Q E=>wz K C D X vs H Q E
structure ma(K:He)(mg:Str->Option Value)(X:CC):Prop where
 g:Exc K mg "GlideError" X.g gR iq
 m:Exc K mg "NoMachine" X.c8 gR iq
 p:Exc K mg "NoPlace" X.c9 gR iq
 n:pX mg X
 km:KC K X X.c8 false false false false false false false false true false false
 kp:KC K X X.c9 false false false false false false false false false true false
theorem Bb{C D:Addr}{X:CC}(F:CA K mg D "Desk" "Desk.__init__" nB)(TC:jT K D)(EX:ma K mg X)(Dg:aA P w K mg base "is_machine" 4 (gD bT K))(Df:aA P w K mg base "is_place" 3 (iZ K))(E8:m6 P w K mg base C "Runner" 1 (qV K C)):m5 P w K mg base D "Desk" 5 (rh K C D X):=by
 have Em:=EX.m;have El:=EX.p;refine F.DG rX (fun vs H Q E h=>?_) (fun _ _ _ _ _ _=>jJ fun _ _ _=>rfl) (fun f ah A outer s H vs Q E hr h=>?_)
 · obtain⟨a,dx,mv,cw,d,d',rfl,_⟩:=h
   rfl
 · obtain⟨a,dx,mv,cw,d,d',rfl,e,rm,rp,k1,k2,k3⟩:=h
   have nd:=rX.nd;refine⟨_,(ao (bo (df (cP (pf Dg hr (aa (pv 1) af)))) (aD (sG (fun _ _ _ _ _ _ _ I m q=>qy I m q) Em PySem.F.excBase_ValueError hr.hd rfl (aa cL af))) bj) (ao (bo (df (cP (pf Df hr (aa (pv 1) (aa (pv 2) af))))) (aD (sG (fun _ _ _ _ _ _ _ I m q=>qy I m q) El PySem.F.excBase_ValueError hr.hd rfl (aa cL af))) bj) (ao (ej TC.cl TC.n_machine (pv 0) (pv 1)) (aD (ej TC.cl TC.n_runner (pv 0) (Ad E8 (hr.mono (by decide)) rfl (aa (pv 1) (aa (pv 2) af)))))))),?_⟩;refine⟨_,rfl,mv,d,rfl,rm,fun H1 s1=>⟨_,rfl,?_⟩⟩;cases em:bT d with |false=>exact bH ⟨cm rfl,k1 em _ s1⟩ |true=>refine bu ?_;obtain⟨ds,ed,l3,lp⟩:=oa em;have sk:=RD.mono s1 _ rm;rw[ed]at sk;refine⟨_,rfl,_,rfl,mv,cw,dE d,ds,d',rfl,sk,RD.mono s1 _ rp,l3,fun H2 s2=>⟨_,rfl,?_⟩⟩;have gF:=s1.trans s2;cases ep:eG (dE d) d' with |false=>exact bH ⟨cm rfl,k2 em ep _ gF⟩ |true=>
       refine bu ?_;have e2:=gF _ _ e;refine⟨_,rfl,_,rfl,a,dx,_,rfl,e2,by decide,?_⟩;refine⟨_,rfl,_,rfl,fun r rx iy lj ne=>⟨r,rx,mv,cw,rfl,br,fun H3 RN bt=>⟨rfl,?_⟩⟩⟩;have ar:a≠r:=fun z=>by rw[<-z,br]at iy;cases iy
       have FQ:a≠rx:=fun z=>by rw[<-z,br]at lj;cases lj
       have e3:=bt a _ (by rw[aV ar,aV FQ];exact br) (fun z=>ar (fP.mp z));refine⟨_,rfl,a,dx,_,rfl,e3,by show 1<1000;decide,?_⟩;refine k3 em ep r _ br ?_ fun b o eb hb=>?_
       · obtain⟨zw,o8,q',nU,er⟩:=RN
         exact⟨zw,o8,q',nU,by rw[aV ar.symm];exact er⟩
       · have ha:b≠a:=fun z=>hb (by rw[z];exact .head _)
         have pA:=gF _ _ eb;have uF:b≠r:=fun z=>by subst z;rw[aV ha,pA]at iy;cases iy
         have lH:b≠rx:=fun z=>by subst z;rw[aV ha,pA]at lj;cases lj
         rw[aV ha];exact bt b o (by rw[aV uF,aV lH,aV ha];exact pA) (fun z=>uF (fP.mp z))
theorem EL:∀m:Nat,m<8->[false,false,false,false,false,false,false,false,true,false,false][m]? =some false:=by decide
theorem EK:∀m:Nat,m<9->[false,false,false,false,false,false,false,false,false,true,false][m]? =some false:=by decide
inductive wt(K:He)(vs:List V)(H:Hp)(Q:VK):Prop |mk (mv:_)(cw:_)(d:_)(d':_)(h0:vs=[mv,cw])(h1:RD K H mv d)(h2:RD K H cw d')(h3:∀H',ai H H'->Q (.str (dS d d')) H'):wt K vs H Q
def r9(K:He):Sp:=fun vs H Q _=>wt K vs H Q
abbrev nh:Stmt:=top 122
theorem rM:bb ["_law_machine_here","_law_place_here","_law_e"] ["_law_machine_here","_law_place_here"] (aw nh):=bD (by decide+kernel)
theorem B1{C D:Addr}{X:CC}(F:FA K mg "_law_made" nh)(B:bp mg)(DC:jT K D)(EX:ma K mg X)(En:m5 P w K mg base D "Desk" 5 (rh K C D X))(Eo:gU P w K mg base D "say" 4 (qT K C D))(Eh:m9 P w K mg base "_law_class" 1 (rj K X)):aA P w K mg base "_law_made" 8 (r9 K):=by
 refine F.DH rM (fun vs H Q E h=>?_) (fun _ _ _ _ _ _=>fL fun _ _=>rfl) (fun f ah A outer s H vs Q E hr h=>?_)
 · obtain⟨mv,cw,d,d',rfl,_⟩:=h
   rfl
 · obtain⟨mv,cw,d,d',rfl,rm,rp,k⟩:=h
   have nd:=rM.nd;have hy:=EX.g;have oV:(gR).contains (.type "BaseException")=true:=by decide
   have oZ:∀C',(C'=X.c8\/C'=X.c9)->ClsAt K C'/\takes K C' X.g:=fun C' e=>by
    rcases e with rfl|rfl
    ·exact⟨EX.m.cls,EX.km.tk⟩
    ·exact⟨EX.p.cls,EX.kp.tk⟩
   refine⟨_,(jQ.one (A0 (i:=2) rfl rfl nd rfl rfl rfl (fun E xe hp=>(aD (aW (Ab Eo DC.cl (hr.mono (by decide)) (Ac En hp (hr.mono (by decide)) rfl (aa (pv 0) (aa (pv 1) af))) (aa cL af))))) rfl hy oV oZ (fun ex=>(aD (aW (Am Eh ((hr.mark _).mono (by decide)) rfl (aa (pv 2) af))))))),?_⟩;refine⟨fun cls dx H'=>ai H H'/\((cls= .ref X.c8/\bT d=false)\/(cls= .ref X.c9/\bT d=true/\eG (dE d) d'=false)),?_,fun cls dx H' h=>?_,?_⟩
   · refine⟨_,rfl,_,rfl,fun x dx hx Dt ne=>?_⟩
     have s1:ai H (L2.upd (L2.upd H dx (.own x)) x (.ins D dx [])):=(ai.new Dt).trans (ai.new (by rw[aV ne.symm];exact hx));refine⟨x,dx,mv,cw,d,d',rfl,br,RD.mono s1 _ rm,RD.mono s1 _ rp,fun em H' s'=>⟨s1.trans s',.inl ⟨rfl,em⟩⟩,fun em ep H' s'=>⟨s1.trans s',.inr ⟨rfl,em,ep⟩⟩,fun em ep r H' ea RN bt=>⟨rfl,?_⟩⟩;obtain⟨ds,ed,l3,lp⟩:=oa em;obtain⟨p1,p2,p3⟩:=sJ ep lp;have s2:ai H H':=fun b o eb=>bt b o (s1 b o eb) fun z=>by rw[fP.mp z,hx]at eb;cases eb
     have si:=RD.mono s2 _ rp;rw[p1]at si;refine⟨x,dx,_,rfl,ea,rfl,x,dx,mv,r,cw,intsOf d',rfl,ea,RN,si,by omega,p3,fun H3 s3=>?_⟩;have:=k H3 (s2.trans s3);unfold dS at this;rw[aK em,aK ep]at this;exact this
   · rcases h.2 with⟨e,_⟩|⟨e,_⟩
     ·exact⟨_,e,.inl rfl⟩
     ·exact⟨_,e,.inr rfl⟩
   · rintro C' ex dx σ' H' hl ⟨sm,hE⟩ hex
     have D1:σ'.length=3:=hl
     match σ',D1 with
     |[u1,u2,u3],_=>
       have e1:(L2.upd H' ex (.ext (eR ex (.ref C') dx))) ex=some (.ext (eR ex (.ref C') dx)):=br;have sn:=sm.trans (ai.new (o:=.ext (eR ex (.ref C') dx)) hex);rcases hE with⟨eC,em⟩|⟨eC,em,ep⟩
       · cases eC
         refine⟨_,rfl,ex,X.c8,dx,_,_,_,_,_,_,_,_,_,_,_,8,"machine",rfl,e1,EX.km,by decide,rfl,EL,rfl,fun H2 s2=>?_⟩
         · have:=k H2 (sn.trans s2)
           unfold dS at this;rw[aI (by rw[em];decide)]at this;exact this
       · cases eC
         refine⟨_,rfl,ex,X.c9,dx,_,_,_,_,_,_,_,_,_,_,_,9,"place",rfl,e1,EX.kp,by decide,rfl,EK,rfl,fun H2 s2=>?_⟩
         · have:=k H2 (sn.trans s2)
           unfold dS at this;rw[aK em,aI (by rw[ep];decide)]at this;exact this
end
end Lw
set_option maxHeartbeats 2000000
namespace Lw
open PySem PySem.Spec PyProof.Rows L2
open Tm (numS)
section
variable {P:Hg}{w:World}{K:He}{mg:Str->Option Value}{base:Heap}
def rg(K:He):Sp:=fun vs H Q _=>∃(a:Addr)(ns:List Int),vs=[.ref a]/\aq K H a (ns.map V.int)/\ns.length<=63/\∀H',Q (.bl true) H'
abbrev j7:Stmt:=top 123
theorem rO:bb ["_law_script","_law_at","_law_bag_here","_law_how","_law_right","_law_place_here","_law_machine_here","_law_due"] ["_law_script"] (aw j7):=bD (by decide+kernel)
theorem B7{f:Addr}{fd:FuncData}(F:dA K "law" "law" j7 f fd)(B:bp mg)(Ei:aA P w K mg base "_law_bag" 1 (rk K))(cb:aA P w K mg base "_law_take" 1 eV)(Ed:aA P w K mg base "_law_machine" 2 (rf K))(Ea:aA P w K mg base "_law_place" 2 (qW K))(Ec:aA P w K mg base "_law_no_machine" 4 (r0 K))(Eb:aA P w K mg base "_law_no_place" 4 (qZ K))(Eg:aA P w K mg base "_law_is_machine" 3 (gD bT K))(Ef:aA P w K mg base "_law_is_place" 3 (iZ K))(uJ:aA P w K mg base "_law_made" 8 (r9 K)):cq P w K mg base cA 9 f fd ["_law_script"] (rg K):=by
 refine F.ok rO (fun vs H Q E h=>?_) (fun ah A outer s H vs Q E hr h=>?_)
 · obtain⟨a,ns,rfl,_⟩:=h
   rfl
 · obtain⟨a,ns,rfl,hS,hlen,k⟩:=h
   have nd:=rO.nd;refine⟨_,(ao (sH qi rfl (kN rfl (B.at "range") (aa (bF (x:="max") (Fu rfl) rfl (B.at "max") PyProof.Rows.boot_max (aa aj (aa (bF (x:="min") (vt rfl) rfl (B.at "min") PyProof.Rows.boot_min (aa aj (aa (dy K B (aa (pv 0) af)) af))) af))) af)) (bK 1 nd) (ao (pS 2 nd (pf Ei hr (aa (pv 0) (aa (pv 1) af)))) (ao (pS 3 nd (pf cb hr (aa (pv 2) (aa aj af)))) (ao (pS 4 nd (pf Ed hr (aa (pv 2) af))) (ao (pS 5 nd (pf Ea hr (aa (pv 2) (aa (pv 4) af)))) (ao (pS 6 nd (pv 4)) (ao (j9 (bo (bw (uf K rfl) (pv 3) (dG (aa aj (aa aj af))) (by with_unfolding_all rfl)) (aD (pS 6 nd (pf Ec hr (aa (pv 2) (aa (pv 4) af))))) bj)) (ao (j9 (bo (bw (uf K rfl) (pv 3) (dG (aa aj (aa aj af))) (by with_unfolding_all rfl)) (aD (pS 5 nd (pf Eb hr (aa (pv 2) (aa (pv 4) (aa (pv 5) af)))))) bj)) (ao (pS 7 nd cL) (ao (j9 (bo (cP (pf Eg hr (aa (pv 6) af))) (ao (pS 7 nd cL) (aD (bo (cP (pf Ef hr (aa (pv 6) (aa (pv 5) af)))) (aD (pS 7 nd (sV K rfl cL (aa (ez (N:=["_law_one"]) (js:=[none]) rfl rfl rfl (gG K rfl (pv 5)) (fun _ _ _ _ _=>(bK 0 (iu _))) (fun _ _ _ _ _=>ei) (fun _ _ _ _ _=>(fC (x:="str") pG rfl (B.at "str") qh (aa (pv 0) af)))) af)))) bj))) bj)) (aD (bo (PW.pt (eZ (bw t7 (pf uJ hr (aa (pv 6) (aa (pv 5) af))) (pv 7) (bM _)) (fA (bw t7 (pf uJ hr (aa (pv 6) (aa (pv 5) af))) (pv 7) (bM _))))) (aD (aW dw)) bj)))))))))))) (aD (aW dw))),?_⟩;refine⟨_,rfl,a,_,rfl,.inl hS,_,_,rfl,_,_,rfl,_,rfl,?_,?_,?_⟩
   ·split<;>(try split)<;>omega
   ·split<;>(try split)<;>(try rw[aZ])<;>omega
   have hN:(if(if((ns.map V.int).length:Int)<12 then((ns.map V.int).length:Int)else 12)>1 then(if((ns.map V.int).length:Int)<12 then((ns.map V.int).length:Int)else 12)else 1).toNat<=12:=by split<;>(try split)<;>omega
   refine uV (Pv:=fun i σ H2=>ai H H2/\∃v1 v2 v3 v4 v5 v6 v7,σ=[some (.ref a),v1,v2,v3,v4,v5,v6,v7]) ?_ ?_ ?_
   ·exact⟨ai.refl _,none,none,none,none,none,none,none,rfl⟩
   · rintro i σ H2 hi ⟨s2,v1,v2,v3,v4,v5,v6,v7,rfl⟩
     have GL:i<12:=cN hi hN;refine⟨_,rfl,_,rfl,a,ns,_,rfl,s2.seq hS,hlen,by omega,by omega,fun p H3 np FI s3=>?_⟩;refine⟨_,rfl,p,4,rfl,FI,by decide,by decide,fun how H4 ly oB b4=>?_⟩;refine⟨_,rfl,p,rfl,b4.bag,fun m rs ds H5 am dI l4 b5=>?_⟩;refine⟨_,rfl,_,rfl,p,m,rs,ds,rfl,b5.bag,am,dI,fun pl is H6 aP li b6=>?_⟩;have FK:=b4.trans (b5.trans b6);refine⟨_,rfl,?_⟩;refine⟨fun σ H'=>∃mh d,σ=[some (.ref a),some (.int (0+(i:Int))),some (.ref p),some (.int how),some m,some pl,some mh,v7]/\AD K p 4 H' mh d/\aG p H6 H',?_,?_⟩
     · refine⟨_,rfl,cm rfl,fun l H7 n7=>?_⟩
       have b7:aG p H6 H7:=.bz b6.bag n7.same;refine⟨l,_,rfl,.inl (aq.of n7.at'),rfl,rfl,_,rfl,?_⟩;refine bS (fun _=>?_) (fun _=>?_)
       ·exact⟨_,rfl,_,rfl,p,m,rs,ds,rfl,b7.bag,am.go (b6.trans b7).sd,dI,l4,fun v d H8 a8 b8=>⟨v,d,rfl,a8,b7.trans b8⟩⟩
       ·exact⟨m,_,rfl,(am.go (b6.trans b7).sd).le (by decide),b7⟩
     rintro σ H7 ⟨mh,d,rfl,aM,b7⟩;refine⟨fun σ H'=>∃ph d',σ=[some (.ref a),some (.int (0+(i:Int))),some (.ref p),some (.int how),some m,some ph,some mh,v7]/\AD K p 4 H' ph d'/\aG p H7 H',?_,?_⟩
     · refine⟨_,rfl,cm rfl,fun l H8 n8=>?_⟩
       have b8:aG p H7 H8:=.bz b7.bag n8.same;refine⟨l,_,rfl,.inl (aq.of n8.at'),rfl,rfl,_,rfl,?_⟩;have lX:=aP.go (b7.trans b8).sd;refine bS (fun _=>?_) (fun _=>?_)
       ·exact⟨_,rfl,_,rfl,_,rfl,p,m,rs,ds,pl,is,rfl,b8.bag,am.go (b6.trans (b7.trans b8)).sd,dI,lX,li,fun v d H9 a9 b9=>⟨v,d,rfl,a9,b8.trans b9⟩⟩
       ·exact⟨pl,_,rfl,lX.le (by decide),b8⟩
     rintro σ H8 ⟨ph,d',rfl,lX,b8⟩;have rm:RD K H8 mh d:=(aM.go b8.sd).sx;have rp:RD K H8 ph d':=lX.sx;have s8:ai H H8:=aG.zt (s2.trans s3) (by cases e:H p with |none=>rfl |some o=>exact absurd (s2 _ _ e) (by rw[np];exact fun z=>nomatch z)) (FK.trans (b7.trans b8));refine⟨fun σ H'=>σ=[some (.ref a),some (.int (0+(i:Int))),some (.ref p),some (.int how),some m,some ph,some mh,some (.str (dS d d'))]/\ai H8 H',?_,?_⟩
     · refine⟨_,rfl,mh,d,rfl,rm,fun H9 s9=>⟨_,rfl,?_⟩⟩
       cases em:bT d with |false=>exact bu ⟨by unfold dS;rw[aI (by rw[em];decide)];rfl,s9⟩ |true=>refine bH ?_;obtain⟨dm,ed,l3,lp⟩:=oa em;have sj:=RD.mono s9 _ rm;rw[ed]at sj;refine⟨_,rfl,_,rfl,mh,ph,dE d,dm,d',rfl,sj,RD.mono s9 _ rp,l3,fun gn cO=>⟨_,rfl,?_⟩⟩;have gE:=s9.trans cO;cases ep:eG (dE d) d' with |false=>exact bu ⟨by unfold dS;rw[aK em,aI (by rw[ep];decide)];rfl,gE⟩ |true=>
           refine bH ?_;obtain⟨p1,p2,p3⟩:=sJ ep lp;have nK:=RD.mono gE _ rp;rw[p1]at nK;generalize ER:intsOf d'=zs at p2 p3 nK;obtain⟨ap,xs,rfl,h1,h2⟩:=nK.ck;rw[h2.gJ]at h1;refine⟨rfl,?_⟩;refine⟨_,rfl,ap,rfl,⟨_,h1⟩,fun D H1 n1=>?_⟩;refine vg (K:=K) (ds:=(zs.map numS).map PyData.str) _ h1 n1 (by simp) (by simp;omega) (tu _) ?_ ?_
           · intro i x d H2 Q' ex ed s2 hq
             rw[du]at ex;obtain⟨n,en,rfl⟩:=Option.map_eq_some_iff.mp ex;rw[du,du,en]at ed;cases ed;have hn:=p3 n (iQ en);exact⟨_,rfl,.inl ⟨n,rfl,BU hn,hq _ _ (ai.refl _) (kK _)⟩⟩
           · intro H2 ys s2 d2 r2
             rw[kA r2]at d2;refine⟨" ",D,zs.map numS,rfl,rfl,aq.of d2,fun z hz=>?_,by decide+kernel,by rw[aZ];omega,by unfold dS;rw[aK em,aK ep,ER];rfl,gE.trans s2⟩;obtain⟨n,hn,rfl⟩:=mC.mp hz;have:=tf (p3 n hn);omega
     rintro σ H9 ⟨rfl,s9⟩;refine⟨_,rfl,_,rfl,mh,ph,d,d',rfl,RD.mono s9 _ rm,RD.mono s9 _ rp,fun gn cO=>?_⟩;have gE:=s9.trans cO;refine⟨_,rfl,rfl,_,rfl,?_⟩;rw[show(!decide (V.str (dS d d')=V.str (dS d d')))=false by rw[ml rfl];rfl];refine bu ?_;refine⟨_,rfl,_,rfl,mh,ph,d,d',rfl,RD.mono gE _ rm,RD.mono gE _ rp,fun gW fX=>?_⟩;refine⟨_,rfl,rfl,_,rfl,?_⟩;rw[show(!decide (V.str (dS d d')=V.str (dS d d')))=false by rw[ml rfl];rfl];exact bu ⟨s8.trans (gE.trans fX),_,_,_,_,_,_,_,rfl⟩
   · rintro σ H2 ⟨_,v1,v2,v3,v4,v5,v6,v7,rfl⟩
     exact k H2
end
end Lw
set_option maxHeartbeats 1000000
namespace Lw
open PySem PySem.Spec PyProof.Rows L2
theorem eI{K:He}{mg:Str->Option Value}{h:Heap}{x:Str}{c:Addr}(X:K.In h)(G:h.Ns mainGlobals mg)(a:PySem.W.nsIn K mainGlobals x=some (some (.ref c))):GV mg x (.ref c):=⟨_,iP X G a,rfl⟩
theorem pe{K:He}{mg:Str->Option Value}{h:Heap}{x:Str}{c:Addr}{bm:List Value}{nw:String}(X:K.In h)(G:h.Ns mainGlobals mg)(a:PySem.W.nsIn K mainGlobals x=some (some (.ref c)))(q:PySem.W.excIn K c bm nw=true):Exc K mg x c bm nw:=⟨iP X G a,q⟩
theorem FR{K:He}{mg:Str->Option Value}{h:Heap}{a:Addr}{v:Value}(X:K.In h)(G:h.Ns mainGlobals mg)(e1:PySem.W.nsIn K mainGlobals "answer_place"=some (some v))(e2:PySem.W.nsIn K a "place"=some (some v)):PySem.W.nsIn K a "place"=some (mg "answer_place"):=by rw[e2,iP X G e1]
theorem EZ{K:He}{mg:Str->Option Value}{h:Heap}{cG c0 c1 c2 c3 c4 c5 c6 c7 c8 c9 c10:Addr}(X:K.In h)(G:h.Ns mainGlobals mg)(ag:PySem.W.nsIn K mainGlobals "GlideError"=some (some (.ref cG)))(qg:PySem.W.excIn K cG gR iq=true) (h0:PySem.W.nsIn K mainGlobals "NoFraction"=some (some (.ref c0)))(h1:PySem.W.nsIn K mainGlobals "NoRate"=some (some (.ref c1)))(h2:PySem.W.nsIn K mainGlobals "NoItem"=some (some (.ref c2)))(h3:PySem.W.nsIn K mainGlobals "OffRails"=some (some (.ref c3)))(h4:PySem.W.nsIn K mainGlobals "Full"=some (some (.ref c4)))(h5:PySem.W.nsIn K mainGlobals "Moving"=some (some (.ref c5)))(h6:PySem.W.nsIn K mainGlobals "NoTape"=some (some (.ref c6)))(h7:PySem.W.nsIn K mainGlobals "NoText"=some (some (.ref c7)))(h8:PySem.W.nsIn K mainGlobals "NoMachine"=some (some (.ref c8)))(h9:PySem.W.nsIn K mainGlobals "NoPlace"=some (some (.ref c9)))(h10:PySem.W.nsIn K mainGlobals "NoLine"=some (some (.ref c10)))(v:PySem.W.nsIn K mainGlobals "ValueError"=some none) (qm:PySem.W.excIn K c8 gR iq=true)(qp:PySem.W.excIn K c9 gR iq=true) (mt:takes K c8 cG)(mk:eQ K c8)(mi0:PySem.W.kitOne K (.ref c8) (.ref c0)=some false)(mi1:PySem.W.kitOne K (.ref c8) (.ref c1)=some false)(mi2:PySem.W.kitOne K (.ref c8) (.ref c2)=some false)(mi3:PySem.W.kitOne K (.ref c8) (.ref c3)=some false)(mi4:PySem.W.kitOne K (.ref c8) (.ref c4)=some false)(mi5:PySem.W.kitOne K (.ref c8) (.ref c5)=some false)(mi6:PySem.W.kitOne K (.ref c8) (.ref c6)=some false)(mi7:PySem.W.kitOne K (.ref c8) (.ref c7)=some false)(mi8:PySem.W.kitOne K (.ref c8) (.ref c8)=some true)(mi9:PySem.W.kitOne K (.ref c8) (.ref c9)=some false)(mi10:PySem.W.kitOne K (.ref c8) (.ref c10)=some false)(mv:PySem.W.kitOne K (.ref c8) (.type "ValueError")=some true) (pt:takes K c9 cG)(pk:eQ K c9)(pi0:PySem.W.kitOne K (.ref c9) (.ref c0)=some false)(pi1:PySem.W.kitOne K (.ref c9) (.ref c1)=some false)(pi2:PySem.W.kitOne K (.ref c9) (.ref c2)=some false)(pi3:PySem.W.kitOne K (.ref c9) (.ref c3)=some false)(pi4:PySem.W.kitOne K (.ref c9) (.ref c4)=some false)(pi5:PySem.W.kitOne K (.ref c9) (.ref c5)=some false)(pi6:PySem.W.kitOne K (.ref c9) (.ref c6)=some false)(pi7:PySem.W.kitOne K (.ref c9) (.ref c7)=some false)(pi8:PySem.W.kitOne K (.ref c9) (.ref c8)=some false)(pi9:PySem.W.kitOne K (.ref c9) (.ref c9)=some true)(pi10:PySem.W.kitOne K (.ref c9) (.ref c10)=some false)(pv:PySem.W.kitOne K (.ref c9) (.type "ValueError")=some true) :∃X,ma K mg X:=⟨⟨cG,c0,c1,c2,c3,c4,c5,c6,c7,c8,c9,c10⟩,pe X G ag qg,pe X G h8 qm,pe X G h9 qp,⟨eI X G h0,eI X G h1,eI X G h2,eI X G h3,eI X G h4,eI X G h5,eI X G h6,eI X G h7,eI X G h8,eI X G h9,eI X G h10,PySem.W.mg_none_of X G v⟩,⟨mt,mk,mi0,mi1,mi2,mi3,mi4,mi5,mi6,mi7,mi8,mi9,mi10,mv⟩,⟨pt,pk,pi0,pi1,pi2,pi3,pi4,pi5,pi6,pi7,pi8,pi9,pi10,pv⟩⟩
structure xx(K:He)(mg:Str->Option Value)(C D:Addr):Prop where
 tc:jO K C
 init:CA K mg C "Runner" "Runner.__init__" mX
 place:MA K C "place" "Runner.place" mW
 td:jT K D
 dinit:CA K mg D "Desk" "Desk.__init__" nB
 say:MA K D "say" "Desk.say" mT
structure All(w:World)(K:He)(mg:Str->Option Value):Prop where
 B:bp mg
 g_NOUGHT:GT K mg "NOUGHT" [.int 0,.int 1]
 g_AXES:GT K mg "AXES" [.int 2,.int 3]
 g_PART:GV mg "PART" (.int 10000000000000000000000000000000000000000000000000000000000000000)
 g_PART_FIGURES:GV mg "PART_FIGURES" (.int 64)
 g_LONGEST_RAIL:GV mg "LONGEST_RAIL" (.int 100)
 g_GREATEST_CHANGE:GV mg "GREATEST_CHANGE" (.int 50)
 g_MOST_TICKS:GV mg "MOST_TICKS" (.int 100)
 g_FIRST_RATE:GV mg "FIRST_RATE" (.int 100)
 ans:∃a,GD w K mg "ANSWERS" a/\PySem.W.nsIn K a "place"=some (mg "answer_place")
 cls:∃X,ma K mg X
 dk:∃C D,xx K mg C D
 law:FA K mg "law" j7
 f_is_whole:FA K mg "is_whole" nv
 f_is_whole_within:FA K mg "is_whole_within" mR
 f_is_machine:FA K mg "is_machine" nA
 f_are_rails:FA K mg "are_rails" nD
 f_is_place:FA K mg "is_place" ny
 f_show_number:FA K mg "show_number" mV
 f_show_numbers:FA K mg "show_numbers" mU
 f_answer_place:FA K mg "answer_place" nE
 f__law_bag:FA K mg "_law_bag" nC
 f__law_take:FA K mg "_law_take" mS
 f__law_is_whole:FA K mg "_law_is_whole" nk
 f__law_odd_thing:FA K mg "_law_odd_thing" eX
 f__law_machine:FA K mg "_law_machine" ni
 f__law_place:FA K mg "_law_place" mY
 f__law_class:FA K mg "_law_class" eY
 f__law_number_put:FA K mg "_law_number_put" nc
 f__law_no_machine:FA K mg "_law_no_machine" ng
 f__law_no_place:FA K mg "_law_no_place" mZ
 f__law_within:FA K mg "_law_within" nj
 f__law_is_machine:FA K mg "_law_is_machine" nu
 f__law_is_place:FA K mg "_law_is_place" nr
 f__law_made:FA K mg "_law_made" nh
theorem FT{P:Hg}{w:World}{K:He}{mg:Str->Option Value}{base:Heap}{f:Addr}{fd:FuncData}(A:All w K mg)(F:dA K "law" "law" j7 f fd):cq P w K mg base cA 9 f fd ["_law_script"] (rg K):=by obtain⟨gA,GA,hG⟩:=A.ans;obtain⟨X,EX⟩:=A.cls;obtain⟨C,D,DA⟩:=A.dk;have tk:aA P w K mg base "_law_take" 1 eV:=AO A.f__law_take A.B;have iw:aA P w K mg base "is_whole" 1 (j6 K):=B8 A.f_is_whole A.B;have ww:aA P w K mg base "is_whole_within" 2 (iY K):=AN A.f_is_whole_within A.B iw;have im:aA P w K mg base "is_machine" 4 (gD bT K):=Ba A.f_is_machine A.B A.g_MOST_TICKS A.g_GREATEST_CHANGE ww (Be A.f_are_rails A.B A.g_AXES A.g_LONGEST_RAIL ww);have ip:aA P w K mg base "is_place" 3 (iZ K):=B9 A.f_is_place A.B ww;have tR:aA P w K mg base "_law_within" 2 (kF K):=B3 A.f__law_within A.B (B4 A.f__law_is_whole A.B);have odd:aA P w K mg base "_law_odd_thing" 2 (j4 K):=AX A.f__law_odd_thing A.B tk;have np:aA P w K mg base "_law_number_put" 3 (kE K):=AZ A.f__law_number_put A.B tk odd;have oX:=Bf (P:=P) (w:=w) (base:=base) A.f_answer_place DA.tc (AQ A.f_show_numbers A.B (AR A.f_show_number A.B A.g_PART A.g_PART_FIGURES)) (AU DA.place DA.tc);have say:=AS DA.say A.B DA.td GA hG oX;have EV:=Bb (P:=P) (w:=w) (base:=base) DA.dinit DA.td EX im ip (AV DA.init DA.tc A.g_NOUGHT A.g_FIRST_RATE);have md:=B1 A.f__law_made A.B DA.td EX EV say (Bc A.f__law_class A.B EX.n);exact B7 F A.B (Bd A.f__law_bag A.B) tk (B2 A.f__law_machine A.B tk) (AW A.f__law_place A.B tk) (B0 A.f__law_no_machine A.B tk odd np) (AY A.f__law_no_place A.B tk odd np) (B6 A.f__law_is_machine A.B tR) (B5 A.f__law_is_place A.B tR) md
end Lw
def PySem.W.Fast.tw10394355991497479571:PySem.Program:=PySem.Challenge.pw_glidequeue_k60_desks_made_of_any_things
theorem PySem.W.Fast.te10394355991497479571:PySem.Challenge.pw_glidequeue_k60_desks_made_of_any_things=PySem.W.Fast.tw10394355991497479571:=rfl
local macro_rules|`(command|universe $x:ident)=>return Lean.mkNullNode (<-((x.getId.toString.splitOn "_").drop 1).toArray.mapM fun i=>`(command|theorem $(Lean.mkIdent (`_root_.PySem.W.Fast++Lean.Name.mkSimple s!"tw{(`PySem.Challenge.cw_glidequeue_k60_desks_made_of_any_things_holds++Lean.Name.mkSimple ((match i.front with|'h'=>"heap"|'t'=>"tree"|'v'=>"view"|'s'=>"sts"|'e'=>"env"|_=>"o")++"_"++(i.drop 1).toString)).hash}")):ident:True:=True.intro))
universe t_h1069_h39_t1068_t962_t904_t827_v39_t753_t411_t667_t340_t488_t1049_t274_o1050_o963_t906_s498_o909_o905_t234_o828_s963_t219_o757_t204_o498_o489_t182_s909_o412_s275_t160_o341_s341_t145_s1050_t130_o275_s828_o609_s235_o1066_o1068_o1009_o1007_t497_o618_t108_o611_o616_o931_o936_o929_o934_o235_o269_s757_o662_t93_o267_o590_o502_o941_o588_o772_o939_o474_o289_o404_o810_o472_o770_o402_o467_o287_o997_o808_s412_o513_o313_o995_o441_o820_o465_o274_o1037_o439_o311_o220_o1056_o453_o1035_o1049_o680_o1016_o205_o451_o479_o272_o818_o109_o1047_o1054_o446_o791_o803_o1014_t78_o883_o971_o789_o924_s905_o183_o444_o801_o161_o881_o969_o922_o1030_o604_o281_o602_o146_o653_o1023_o325_o279_o1028_o597_o131_o1021_o399_o323_o320_o595_o660_o651_o948_o397_o481_o658_o420_o394_o318_o308_o946_o1063_o94_o671_o306_o356_o409_o333_o1061_o460_o349_o913_o614_o392_o79_o354_o689_o978_o347_o427_o458_o363_o488_o1002_o632_o696_o64_o177_o331_o906_o425_o796_o1000_o687_o639_o904_o950_o976_o992_o637_o49_o777_o384_o825_o902_o630_o731_o486_o765_o361_o625_o784_o794_o525_o389_o990_t63_o775_s489_o382_o763_o553_o782_o497_o263_o387_o377_o827_o623_o1044_o495_o180_o340_o256_o370_o815_o985_o303_o646_s161_o375_o338_o878_o368_o411_o1042_o254_o813_o752_o301_o644_o261_o983_o434_o661_o876_o607_o745_o125_o871_o836_o175_o897_o437_o581_o548_o199_o432_o857_o843_o850_o864_o743_o960_o217_o76_s109_o185_o560_o787_o710_o463_o202_s183_o188_o1033_o855_o738_o927_o166_o703_o806_o962_o114_o470_o724_o895_o848_o841_o91_o106_o128_o232_o143_o158_o247_o240_o869_o210_o834_o862_o225_o197_o53_o285_o345_o201_o296_o701_o449_o123_o99_o136_o151_o127_o69_o179_o416_o484_o352_o359_o90_o84_o890_o1019_o567_o59
open PySem PySem.W PyProof.Rows
set_option maxRecDepth 100000 in
set_option maxHeartbeats 0 in
theorem PySem.Challenge.cw_glidequeue_k60_desks_made_of_any_things_holds : PySem.Challenge.rw_glidequeue_k60_desks_made_of_any_things.Holds := by
 w_on; o_law; k_head; (case hw=>w_witness2)
 k_fill
 refine L2.C5 (l:=PySem.Challenge.rw_glidequeue_k60_desks_made_of_any_things) (k:=9) (x:="_law_script") (st:=Lw.j7) rfl rfl ⟨rfl,by decide,by decide⟩ (fun w h Y=>PySem.W.kIn_of Y) Lw.All ?F (fun _ _ _ A=>A.law) (fun _ _ _ _ _ _ _=>rfl) (fun _ _ _ _ _ _ _ A F=>Lw.FT A F)
 case F=>
  intro w mg h KX G
  refine⟨L2.FG KX G ?b,?t1,?t2,?gp0,?gp1,?g1,?g2,?g3,?g4,?an,?cl,?dk,?fl,?f0,?f1,?f2,?f3,?f4,?f5,?f6,?f7,?f8,?f9,?f10,?f11,?f12,?f13,?f14,?f15,?f16,?f17,?f18,?f19,?f20,?fz0⟩
  case b=>(unfold L2.lU; repeat (refine L2.gj.cons ?z ?_; (case z=>k_is))); exact L2.gj.nil
  case t1=>refine' L2.uO KX G ?a ?l ?z ?r; (case a=>k_is); (case l=>k_is); (case z=>decide); (case r=>exact .cons ⟨_,rfl⟩ (.cons ⟨_,rfl⟩ .nil))
  case t2=>refine' L2.uO KX G ?a ?l ?z ?r; (case a=>k_is); (case l=>k_is); (case z=>decide); (case r=>exact .cons ⟨_,rfl⟩ (.cons ⟨_,rfl⟩ .nil))
  case gp0=>(refine' L2.iD KX G ?z; (case z=>k_is))
  case gp1=>(refine' L2.iD KX G ?z; (case z=>k_is))
  case g1=>(refine' L2.iD KX G ?z; (case z=>k_is))
  case g2=>(refine' L2.iD KX G ?z; (case z=>k_is))
  case g3=>(refine' L2.iD KX G ?z; (case z=>k_is))
  case g4=>(refine' L2.iD KX G ?z; (case z=>k_is))
  case an=>
   refine' ⟨_,L2.Eu KX G ?ga ?gl ?gk ?go,Lw.FR KX G ?e1 ?e2⟩
   case ga=>k_is
   case gl=>k_is
   case go=>decide
   case e1=>k_is
   case e2=>k_is
   case gk=>
    show KeysLit _ (_::_)
    repeat (first | exact trivial | refine And.intro ⟨_,_,rfl,rfl⟩ ?_)
  case cl=>
   refine' Lw.EZ KX G ?ag ?qg ?h0 ?h1 ?h2 ?h3 ?h4 ?h5 ?h6 ?h7 ?h8 ?h9 ?h10 ?v ?qm ?qp ?mt ⟨?mk1,?mk2,?mk3,?mk4,?mk5,?mk6,?mk7,?mk8⟩ ?mi0 ?mi1 ?mi2 ?mi3 ?mi4 ?mi5 ?mi6 ?mi7 ?mi8 ?mi9 ?mi10 ?mv ?pt ⟨?pk1,?pk2,?pk3,?pk4,?pk5,?pk6,?pk7,?pk8⟩ ?pi0 ?pi1 ?pi2 ?pi3 ?pi4 ?pi5 ?pi6 ?pi7 ?pi8 ?pi9 ?pi10 ?pv
   case ag | h0 | h1 | h2 | h3 | h4 | h5 | h6 | h7 | h8 | h9 | h10 | v=>k_is
   case qg | qm | qp=>k_exc
   case mt=>(show PySem.W.mroIn _ _ _=_; k_is)
   case pt=>(show PySem.W.mroIn _ _ _=_; k_is)
   case mk1 | mk2 | mk3 | mk4 | mk5 | mk6 | mk7 | mk8 | pk1 | pk2 | pk3 | pk4 | pk5 | pk6 | pk7 | pk8=>k_is
   case mi0 | mi1 | mi2 | mi3 | mi4 | mi5 | mi6 | mi7 | mi8 | mi9 | mi10 | pi0 | pi1 | pi2 | pi3 | pi4 | pi5 | pi6 | pi7 | pi8 | pi9 | pi10 | mv | pv=>kit_is
  case dk=>
   refine' ⟨_,_,Lw.xx.mk (Lw.jO.mk (L2.d6.mk ?pg ?hd ?po ?sa) ?n1 ?n2 ?n3 ?n4 ?n5 ?n6 ?n7 ?n8 ?n9) (L2.vw KX G ?aC ?mk ?kc ?ia ?ii ?il ?ic ?ik) (L2.tQ ?a0 ?i0 ?l0 ?c0 ?k0) (Lw.jT.mk (L2.d6.mk ?dpg ?dhd ?dpo ?dsa) ?d1 ?d2) (L2.vw KX G ?daC ?dmk ?dkc ?dia ?dii ?dil ?dic ?dik) (L2.tQ ?a1 ?i1 ?l1 ?c1 ?k1)⟩
   (case aC=>k_is)
   (case daC=>k_is)
   case n1 | n2 | n3 | n4 | n5 | n6 | n7 | n8 | n9 | d1 | d2=>(unfold L2.cE; k_is)
   case pg | hd | po | sa | mk | kc | ia | ii | il | ic | ik | a0 | i0 | l0 | c0 | k0 | dpg | dhd | dpo | dsa | dmk | dkc | dia | dii | dil | dic | dik | a1 | i1 | l1 | c1 | k1=>k_is
  all_goals (refine' L2.EO KX G ?a ?l ?c ?k; (case a=>k_is); (case l=>k_is); (case c=>k_is); (case k=>k_is))
#print axioms PySem.Challenge.cw_glidequeue_k60_desks_made_of_any_things_holds
