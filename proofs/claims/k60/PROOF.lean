import PyProof.Rows.All
import Wide.All
import OpenK.AllK
import Wide.FinOn
import Lean
import PyProof.EqAt
import PyProof.EqKinds
import PyProof.TupleCall
import PySem.Challenge.RW_glidequeue_k60_desks_made_of_any_things
set_option Elab.async false
set_option linter.all false
set_option maxRecDepth 100000
abbrev aJ:=PySem.Str->Option PySem.Value
theorem aw{p:Prop}(h:p:=by decide):p:=h
theorem bC{p:Prop}(h:p:=by decide+kernel):p:=h
theorem aV {p:Prop} (h:p:=by lia):p:=h
theorem bJ{p:Prop}(h:p:=by omega):p:=h
theorem Z {α : Sort _} {a : α}:a=a:=rfl
abbrev aa:=PySem.W.Frag
abbrev ae:=PySem.Shared
abbrev af:=PySem.Program
abbrev ah:=PySem.PyData
abbrev ai:=PySem.Around
abbrev au:=@PySem.wpAny_bind
abbrev aZ:=@PySem.wpAny_pure
abbrev bc:=@if_pos
abbrev bf:=@if_neg
abbrev bj:=@PySem.Heap.lt_size
abbrev br:=@Nat.le_refl
abbrev bu:=@PySem.Heap.get?_push_of_some
abbrev bz:=@List.length_map
abbrev bP:=@beq_iff_eq
abbrev bQ:=@List.size_toArray
abbrev cp:=@Bool.and_eq_true
abbrev cy:=@Nat.ne_of_lt
abbrev cz:=@List.mem_cons
abbrev cA:=@PySem.Heap.get?_push_size
abbrev cB:=@Bool.false_ne_true
abbrev cH:=@Option.some.inj
abbrev cS:=@Bool.false_and
abbrev cW:=@PySem.wpAny_field
abbrev cZ:=@Nat.lt_of_lt_of_le
abbrev dr:=@PySem.wpAny_mono
abbrev du:=@List.lookup_cons
abbrev dC:=@Nat.le_trans
abbrev dD:=@List.getElem?_map
abbrev dN:=@Ne.symm
abbrev eu:=@PySem.wpAny_holding
abbrev ez:=@PyProof.Rows.boot_isinstance
abbrev eA:=@List.getElem?_eq_getElem
abbrev fe:=@Bool.true_and
abbrev fH:=@List.not_mem_nil
abbrev fJ:=@List.length_append
abbrev gd:=@List.mem_append_right
abbrev gf:=@List.length_cons
abbrev gh:=@List.getElem?_eq_some_iff
abbrev gi:=@List.all_eq_true
abbrev gM:=@PySem.intBits_le_64
abbrev gO:=@congrArg
abbrev gP:=@PyProof.Rows.boot_tuple
abbrev gQ:=@List.append_nil
abbrev ix:=@PySem.wpAny_truthy_bool
abbrev iy:=@PySem.wpAny_seqItems
abbrev iz:=@PySem.wpAny_newObj_type
abbrev iA:=@Nat.zero_le
abbrev iB:=@Int.le_refl
abbrev iC:=@Bool.eq_iff_iff
abbrev iY:=@PySem.wpAny_passesOwn
abbrev iZ:=@PySem.W.mg_of
abbrev j4:=@Nat.lt_irrefl
abbrev j6:=@List.mem_filterMap
abbrev j7:=@List.mem_cons_of_mem
abbrev j8:=@List.map_cons
abbrev j9:=@List.length_take
abbrev ja:=@PySem.Heap.size_push
abbrev ke:=@PySem.wpAny_setField_rec
abbrev kf:=@PySem.wpAny_execs_nil
abbrev kg:=@PySem.wpAny_call_entry
abbrev kh:=@PySem.wpAny_callSpecial?_slot
abbrev ki:=@PySem.wpAny_Call_Name_kw
abbrev kj:=@PySem.call_meets
abbrev kl:=@PyProof.Rows.slot_tuple_getitem
abbrev kn:=@PyProof.Rows.boot_all
abbrev ko:=@List.of_mem_zip
abbrev kq:=@List.mem_of_getElem?
abbrev kr:=@PySem.Heap.get?_update_other
abbrev ku:=@Bool.eq_false_iff
abbrev mr:=@PySem.wpAny_setField
abbrev mw:=@PySem.wpAny_onRaise
abbrev mx:=@PySem.sizeLine_eq
abbrev mz:=@decide_eq_false
abbrev mB:=@PySem.codeAny_mono
abbrev mC:=@PySem.mem_of_lookup
abbrev mD:=@PySem.W.callWith_K
abbrev mE:=@PySem.Obj.data_mapFields
abbrev mF:=@Nat.le_of_ble_eq_true
abbrev mG:=@List.getElem_mem
abbrev mH:=@Int.emod_nonneg
abbrev mI:=@Int.emod_lt_of_pos
abbrev pZ:=@beq_eq_false_iff_ne
abbrev q0:=@PySem.W.hideAll_get
abbrev qa:=@PySem.W.cellsFrom_some
abbrev qb:=@PySem.F.slot_zip_next
abbrev qc:=@PySem.F.slot_tuple_iterator_next
abbrev qd:=@Nat.ne_of_gt
abbrev qe:=@List.nodup_cons
abbrev qf:=@List.mem_singleton
abbrev qh:=@List.mem_map
abbrev qi:=@List.mem_cons_self
abbrev qj:=@List.mem_append
abbrev qk:=@List.length_zip
abbrev ql:=@List.getElem?_set_self
abbrev qo:=@List.forIn_cons
abbrev qq:=@PySem.Heap.get?_update_self
abbrev qr:=@Array.getElem?_eq_some_iff
abbrev vF:=@PySem.wpAny_updateSeq_pair
abbrev vG:=@PySem.wpAny_newFunctionEnv_cells
abbrev vH:=@ne_true_of_eq_false
abbrev vI:=@decide_eq_true_eq
abbrev vJ:=@PySem.codeAny_call_function
abbrev vK:=@PySem.W.plainGet_of
abbrev vL:=@PySem.W.codeRec_of
abbrev vM:=@PySem.F.slot_tuple_add
abbrev vN:=@PySem.F.entry_tuple_add
abbrev vO:=@PySem.F.args_tuple_add_2
abbrev vP:=@PyProof.Rows.callWith_type1
abbrev vQ:=@PyProof.Rows.boot_str
abbrev vR:=@PyProof.Rows.boot_list
abbrev vS:=@PySem.Obj.isFreed_of_fields
abbrev vT:=@List.take_length
abbrev vU:=@List.mem_append_left
abbrev vV:=@List.length_drop
abbrev vW:=@List.getElem?_set_ne
abbrev vX:=@List.filterMap_cons
abbrev vY:=@Array.length_toList
abbrev FR:=@PySem.F.entry_tuple_iterator_next
abbrev FT:=@PySem.F.args_tuple_iterator_next_1
namespace L2
open PySem PySem.Spec PyProof.Rows
abbrev Key:=Sum Int Str
def tK:Key->Value->Bool | .inl k,v=>Value.isInt k v | .inr x,v=>Value.isStrOf x v
def An(w:World):Key->Int | .inl k=>hashInt k | .inr x=>hashStr w x
theorem fS:∀{k:Key}{v:Value},tK k v=true->(∃i t,k=Sum.inl i/\v=Value.int i t)\/(∃x t,k=Sum.inr x/\v=Value.str x t) | .inl i,v,h=>by obtain⟨t,e⟩:=Value.isInt_shape (k:=i) (v:=v) h;exact .inl ⟨i,t,Z,e⟩ | .inr x,v,h=>by obtain⟨t,e⟩:=Value.isStrOf_shape (x:=x) (v:=v) h;exact .inr ⟨x,t,Z,e⟩
theorem Am(a b:Int):decide ((Sum.inl a:Key)=Sum.inl b)=(a==b):=by
 by_cases e:a=b
 ·subst e;simp
 ·have h:¬(Sum.inl a:Key)=Sum.inl b:=λq=>e (Sum.inl.inj q)
  rw[mz h];exact(pZ.mpr e).symm
theorem Aj(a b:Str):decide ((Sum.inr a:Key)=Sum.inr b)=decide (a=b):=by
 by_cases e:a=b
 ·subst e;simp
 ·have h:¬(Sum.inr a:Key)=Sum.inr b:=λq=>e (Sum.inr.inj q)
  rw[mz h,mz e]
theorem Al(a:Int)(b:Str):decide ((Sum.inl a:Key)=Sum.inr b)=false:=mz (λq=>nomatch q)
theorem Ak(a:Str)(b:Int):decide ((Sum.inr a:Key)=Sum.inl b)=false:=mz (λq=>nomatch q)
def om(prog:af)(w:World):PySem.KeyKind prog w Key where
 is:=tK
 hash:=An w
 inj:=λv a b ha hb=>by
  rcases fS ha with⟨i,t,rfl,rfl⟩|⟨x,t,rfl,rfl⟩
  ·rcases fS hb with⟨j,u,rfl,e⟩|⟨y,u,rfl,e⟩
   ·injection e with e1 _;rw[e1]
   ·exact nomatch e
  ·rcases fS hb with⟨j,u,rfl,e⟩|⟨y,u,rfl,e⟩
   ·exact nomatch e
   ·injection e with e1 _;rw[e1]
 byValue:=λk v h=>by rcases fS h with⟨i,t,rfl,rfl⟩|⟨x,t,rfl,rfl⟩<;>rfl
 pyHash:=λhv h=>by
  rcases fS hv with⟨i,t,rfl,rfl⟩|⟨x,t,rfl,rfl⟩
  ·exact wpAny_pyHash_int h
  ·exact wpAny_pyHash_str h
 eqBool:=λhu hv h=>by
  rcases fS hu with⟨i,t,rfl,rfl⟩|⟨x,t,rfl,rfl⟩
  ·rcases fS hv with⟨j,u,rfl,rfl⟩|⟨y,u,rfl,rfl⟩
   ·rw[Am]at h;exact wpAny_eqBool_int h
   ·rw[Al]at h;exact SeqAt.EqAt.int_str i t y u _ _ _ _ h
  ·rcases fS hv with⟨j,u,rfl,rfl⟩|⟨y,u,rfl,rfl⟩
   ·rw[Ak]at h;exact SeqAt.EqAt.str_int x t j u _ _ _ _ h
   ·rw[Aj]at h;exact wpAny_eqBool_str h
 «strs»:=λk x t v h=>by
  rcases fS h with⟨i,u,rfl,e⟩|⟨y,u,rfl,e⟩
  ·exact nomatch e
  ·injection e with e1 _
   subst e1;cases v<;>rfl
inductive V where |aK|bl (b:Bool)|int (i:Int)|str (x:Str)|eo (b:Array UInt8)|lT (b:UInt64)|ref (a:Addr)|ty (n:String) deriving DecidableEq
def RelV:V->Value->Prop | .aK,u=>u=Value.none | .bl b,u=>u=Value.bool b | .int i,u=>∃t,u=Value.int i t | .str x,u=>∃t,u=Value.str x t | .eo b,u=>∃t,u=Value.bytes b t | .lT b,u=>∃t,u=Value.float b t | .ref a,u=>u=Value.ref a | .ty n,u=>u=Value.type n
abbrev Vals:List V->List Value->Prop:=Paired RelV
theorem Vals.length{xs:List V}{us:List Value}(r:Vals xs us):xs.length=us.length:=Paired.length r
theorem Vals.get:∀{xs:List V}{us:List Value}{i:Nat}{x:V},Vals xs us->xs[i]? =some x->∃u,us[i]? =some u/\RelV x u |_,_,_,_,.nil,e=>by simp at e |_,_,0,_,.cons r _,e=>by simp at e;subst e;exact⟨_,rfl,r⟩ |_,_,i+1,x,.cons _ t,e=>by obtain⟨u,h1,h2⟩:=Vals.get (i:=i) (x:=x) t (by simpa using e);exact⟨u,by simpa using h1,h2⟩
theorem Vals.set{x:V}{u:Value}(r:RelV x u):∀{xs:List V}{us:List Value}(i:Nat),Vals xs us->Vals (xs.set i x) (us.set i u) |_,_,_,.nil=>.nil |_,_,0,.cons _ t=>.cons r t |_,_,i+1,.cons q t=>.cons q (Vals.set r i t)
theorem Vals.append:∀{xs ys:List V}{us ws:List Value},Vals xs us->Vals ys ws->Vals (xs++ys) (us++ws) |_,_,_,_,.nil,s=>s |_,_,_,_,.cons r t,s=>.cons r (Vals.append t s)
theorem Vals.take:∀{xs:List V}{us:List Value}(n:Nat),Vals xs us->Vals (xs.take n) (us.take n) |_,_,0,_=>.nil |_,_,_+1,.nil=>.nil |_,_,n+1,.cons r t=>.cons r (Vals.take n t)
theorem Vals.drop:∀{xs:List V}{us:List Value}(n:Nat),Vals xs us->Vals (xs.drop n) (us.drop n) |_,_,0,r=>r |_,_,_+1,.nil=>.nil |_,_,n+1,.cons _ t=>Vals.drop n t
def fF:Option V->Option Value->Prop |some v,some u=>RelV v u |none,none=>True |_,_=>False
def KV{κ:Type}:List (κ×V)->List (κ×Value)->Prop:=Paired λ(p:κ×V)(q:κ×Value)=>p.1=q.1/\RelV p.2 q.2
def kV:Key->V | .inl i=>.int i | .inr x=>.str x
inductive HO where /--a list -/ |lst (xs:List V) /--a tuple (never changes) -/ |tup (xs:List V) /--a dict wa keys are ints and texts; one wa keys are tuples of ints and texts (iE empty one is both) -/ |dK (bE:List (Key×V))|dT (bE:List (List Key×V)) /--a set of ints: its members,its size -/ |set (S:Int->Bool)(n:Nat) /--an instance of iE class at C,its dict at dx,its attributes -/ |ins (C dx:Addr)(fs:List (Str×V)) /--iE dict of iE instance at x -/ |own (x:Addr) /--iE dict of an exception -/ |xd (fs:List (Str×V)) /--a bound method,f of x -/ |met (f x:Addr) /--a range object lo,lo+1,.. below hi -/ |kS (lo hi:Int) /--a wB FV is known to iE object (iE G0; a dict while a loop walks it): read,never written while it is so -/ |eQ (o:Obj)(u:HO) /--a code G4 table -/ |gp (ps:Array Value) /--any other wB,by what is true of its one object (a def of G3 own: GF a S n:=HO.ext λh=>..) -/ |ext (φ:Heap->Prop)
abbrev Hp:=Addr->Option HO
def upd(H:Hp)(a:Addr)(o:HO):Hp:=λb=>if b=a then some o else H b
theorem bO{H:Hp}{a:Addr}{o:HO}:upd H a o a=some o:=by unfold upd;rw[bc rfl]
theorem bo{H:Hp}{a b:Addr}{o:HO}(h:b≠a):upd H a o b=H b:=by unfold upd;rw[bf h]
theorem zK{H:Hp}{a b:Addr}{o u:HO}(h:H a=some o)(h':H b=some u)(d:o≠u):a≠b:=by intro e;subst e;rw[h]at h';exact d (cH h')
theorem eL{H:Hp}{a b:Addr}{o:HO}(h:H a=some o)(h':H b=none):a≠b:=by intro e;subst e;rw[h]at h';cases h'
section
variable (P:af) (w:World)
def cM(H:Hp)(h:Heap)(a:Addr):HO->Prop | .lst xs=>xs.length<=sizeLine/\∃(its:List Value)(n:Nat),Vals xs its/\h.get? a=some {cls:=.type "list",data:=.seq its.toArray n} | .tup xs=>xs.length<=sizeLine/\∃its:List Value,Vals xs its/\IsTup h a its.toArray | .dK bE=>bE.length<=sizeLine/\(a==sysModules)=false/\∃vs,KV bE vs/\h.DictOf (om P w) a vs | .dT bE=>bE.length<=sizeLine/\(a==sysModules)=false/\∃xs:List (List Key×Addr×Value),Paired (λ(p:List Key×V)(q:List Key×Addr×Value)=>p.1=q.1/\H q.2.1=some (.tup (p.1.map kV))/\RelV p.2 q.2.2) bE xs/\∃o es ep,h.get? a=some o/\o.ExactDict/\o.data= .dict es ep/\es.toList=xs.map (entryOfKey (tupleKind (om P w)))/\(xs.map (·.1)).Nodup | .set S n=>h.SetOf (intKind P w) a S n | .ins C dx fs=>H dx=some (.own a)/\fs.length<=1000/\dx≠a/\h.get? a=some (PySem.W.instObj C dx)/\∃mA,h.Ns1 dx mA/\(∀f,fF (fs.lookup f) (mA f))/\PySem.Within mA (fs.map (·.1)) | .own _=>∃o,h.get? a=some o | .xd fs=>∃mA,h.Ns1 a mA/\∀f,fF (fs.lookup f) (mA f) | .kS lo hi=>∃t u v,h.get? a=some {cls:=.type "range",data:=.fields #[.int lo t,.int hi u,.int 1 v]} | .eQ o u=>h.get? a=some o/\cM H h a u | .gp ps=>h.get? a=some {cls:=.none,data:=.fields ps} | .met f x=>h.get? a=some (PySem.W.methodObj (.ref f) (.ref x)) | .ext φ=>φ h/\(∃o,h.get? a=some o)/\∀h1 h2:Heap,φ h1->(∀o,h1.get? a=some o->h2.get? a=some o)->φ h2
def bH(H:Hp)(h:Heap):Prop:=∀a o,H a=some o->cM P w H h a o
end
section
variable {P:af}{w:World}{H H':Hp}{h h':Heap}{a:Addr}{o:HO}
theorem cM.lt(x:cM P w H h a o):a<h.objs.size:=by cases o with |lst xs=>obtain⟨_,_,_,_,e⟩:=x;exact bj e |tup xs=>obtain⟨_,_,_,p⟩:=x;exact p.lt |dK bE=>obtain⟨_,_,_,_,o,_,_,e,_⟩:=x;exact bj e |dT bE=>obtain⟨_,_,_,_,o,_,_,e,_⟩:=x;exact bj e |set S n=>obtain⟨o,_,_,_,e,_⟩:=x;exact bj e |ins C dx fs=>obtain⟨_,_,_,e,_⟩:=x;exact bj e |own y=>obtain⟨_,e⟩:=x;exact bj e |xd fs=>obtain⟨_,⟨_,_,_,e,_⟩,_⟩:=x;exact bj e |kS lo hi=>obtain⟨_,_,_,e⟩:=x;exact bj e |eQ ob u=>obtain⟨e,_⟩:=x;exact bj e |gp ps=>exact bj (show h.get? a=some _ from x) |met f y=>exact bj (show h.get? a=some _ from x) |ext φ=>obtain⟨_,⟨_,e⟩,_⟩:=x;exact bj e
theorem Paired.tj{α β:Type}{F G:α->β->Prop}:∀{l₁:List α}{l₂:List β},Paired F l₁ l₂->(∀a b,F a b->G a b)->Paired G l₁ l₂ |_,_,.nil,_=>.nil |_,_,.cons r t,f=>.cons (f _ _ r) (Paired.tj t f)
theorem cM.fh(x:cM P w H h a o)(k:∀b u,(b=a\/H b=some (.own a))->h.get? b=some u->h'.get? b=some u) (ho:∀b,H b=some (.own a)->H' b=some (.own a))(ht:∀b xs,H b=some (.tup xs)->H' b=some (.tup xs)):cM P w H' h' a o:=by induction o with |lst xs=>obtain⟨z,its,n,r,e⟩:=x;exact⟨z,its,n,r,k _ _ (.inl Z) e⟩ |tup xs=>obtain⟨z,its,r,ob,e,c⟩:=x;exact⟨z,its,r,ob,k _ _ (.inl Z) e,c⟩ |dK bE=>obtain⟨z,y,vs,r,ob,es,ep,e,c⟩:=x;exact⟨z,y,vs,r,ob,es,ep,k _ _ (.inl Z) e,c⟩ |dT bE=>obtain⟨z,y,xs,r,ob,es,ep,e,c⟩:=x;exact⟨z,y,xs,Paired.tj r λp q z=>⟨z.1,ht _ _ z.2.1,z.2.2⟩,ob,es,ep,k _ _ (.inl Z) e,c⟩ |set S n=>obtain⟨ob,es,ep,t,e,c⟩:=x;exact⟨ob,es,ep,t,k _ _ (.inl Z) e,c⟩ |ins C dx fs=>obtain⟨d,z,ne,e,mA,⟨od,es,ep,e2,c⟩,r⟩:=x;exact⟨ho _ d,z,ne,k _ _ (.inl Z) e,mA,⟨od,es,ep,k _ _ (.inr d) e2,c⟩,r⟩ |own y=>obtain⟨ob,e⟩:=x;exact⟨ob,k _ _ (.inl Z) e⟩ |xd fs=>obtain⟨mA,⟨od,es,ep,e,c⟩,r⟩:=x;exact⟨mA,⟨od,es,ep,k _ _ (.inl Z) e,c⟩,r⟩ |kS lo hi=>obtain⟨t,u,v,e⟩:=x;exact⟨t,u,v,k _ _ (.inl Z) e⟩ |eQ ob u ih=>obtain⟨e,q⟩:=x;exact⟨k _ _ (.inl Z) e,ih q⟩ |gp ps=>have e:h.get? a=some {cls:=.none,data:=.fields ps}:=x;show h'.get? a=some {cls:=.none,data:=.fields ps};exact k a _ (.inl Z) e |met f y=>have e:h.get? a=some (PySem.W.methodObj (.ref f) (.ref y)):=x;show h'.get? a=some (PySem.W.methodObj (.ref f) (.ref y));exact k a _ (.inl Z) e |ext φ=>obtain⟨p,⟨o,e⟩,st⟩:=x;exact⟨st _ _ p λo q=>k _ _ (.inl Z) q,⟨o,k _ _ (.inl Z) e⟩,st⟩
theorem bH.lt(x:bH P w H h)(e:H a=some o):a<h.objs.size:=(x a o e).lt
theorem bH.fresh(x:bH P w H h)(e:h.objs.size<=a):H a=none:=by cases q:H a with |none=>rfl |some u=>exact absurd (cZ (x.lt q) e) (j4 _)
theorem bH.kept(x:bH P w H h)(k:∀b u,h.get? b=some u->h'.get? b=some u):bH P w H h':=λa o e=>(x a o e).fh (λb u _ q=>k b u q) (λ_ q=>q) λ_ _ q=>q
theorem bH.laid(x:bH P w H h)(k:∀b u,h.get? b=some u->h'.get? b=some u)(hp:h.objs.size<=a)(new:cM P w (upd H a o) h' a o):bH P w (upd H a o) h':=λb u e=>by
 have hn:=x.fresh hp;by_cases hb:b=a
 ·subst hb;rw[bO]at e;cases e;exact new
 ·rw[bo hb]at e
  exact(x b u e).fh (λc v _ q=>k c v q) (λc q=>by rw[bo (eL q hn)];exact q) λc xs q=>by rw[bo (eL q hn)];exact q
end
def Rd(H:Hp)(a:Addr)(u:HO):Prop:=H a=some u\/∃o,H a=some (.eQ o u)
theorem Rd.ok{P:af}{w:World}{H:Hp}{h:Heap}{a:Addr}{u:HO}(r:Rd H a u)(x:bH P w H h):cM P w H h a u:=by
 rcases r with r|⟨o,r⟩
 ·exact x a u r
 ·obtain⟨_,q⟩:=x a _ r
  exact q
def ma:Option HO->Prop |some (.lst _)=>True |some (.dK _)=>True |some (.dT _)=>True |some (.set _ _)=>True |some (.ins _ _ _)=>True |some (.ext _)=>True |_=>False
section
variable {P:af}{w:World}{H:Hp}{h h':Heap}{x e:Addr}{o':HO}
theorem bH.write(ok:bH P w H h)(mu:ma (H x))(he:e=x\/H e=some (.own x))(k:∀b u,b≠e->h.get? b=some u->h'.get? b=some u)(iP:∃u,h'.get? e=some u) (new:cM P w (upd H x o') h' x o'):bH P w (upd H x o') h':=λb u q=>by
 have sM:∀c y,H c=some (.own y)->c≠x:=λc y r z=>by subst z;rw[r]at mu;exact mu
 have zB:∀c xs,H c=some (.tup xs)->c≠x:=λc xs r z=>by subst z;rw[r]at mu;exact mu
 by_cases hb:b=x
 ·subst hb;rw[bO]at q;cases q;exact new
 ·rw[bo hb]at q
  by_cases ib:b=e
  ·have q':H b=some (.own x):=by
    rcases he with z|z
    ·exact absurd (ib.trans z) hb
    ·rw[ib];exact z
   rw[q]at q';cases q';obtain⟨v,hv⟩:=iP;exact⟨v,by rw[ib];exact hv⟩
  ·refine(ok b u q).fh (λc v hc r=>k c v ?_ r) (λc r=>by rw[bo (sM c b r)];exact r) λc xs r=>by rw[bo (zB c xs r)];exact r
   rcases hc with rfl|hc
   ·exact ib
   ·rintro rfl
    rcases he with z|z
    ·exact sM c b hc z
    ·rw[hc]at z;cases z;exact hb rfl
end
structure Un(fs ex:List Addr)(H H':Hp)(h h':Heap):Prop where
 keep:∀b o,h.get? b=some o->H b=none->b∉fs->b∉ex->h'.get? b=some o
 slot:∀b o,h.get? b=some o->H b=none->b∈fs->b∉ex->∃sl,h'.get? b=some {o with slots:=sl}
 free:∀b o,h.get? b=some o->H b=none->b∉ex->H' b=none
 there:∀b o,h.get? b=some o->b∉ex->∃o',h'.get? b=some o'
 dQ:∀b xs,H b=some (.tup xs)->H' b=some (.tup xs)
 dI:∀b o u,H b=some (.eQ o u)->H' b=some (.eQ o u)
 dR:∀b ps,H b=some (.gp ps)->∃more,H' b=some (.gp (ps++more))
section
variable {fs CJ ex cQ:List Addr}{H H1 H2:Hp}{h h1 h2 h':Heap}{a x e:Addr}{o:HO}
theorem Un.any(u:Un fs ex H H1 h h1){b:Addr}{ob:Obj}(q:h.get? b=some ob)(n:H b=none)(hx:b∉ex):∃sl,h1.get? b=some {ob with slots:=sl}:=by
 by_cases hb:b∈fs
 ·exact u.slot b ob q n hb hx
 ·exact⟨ob.slots,u.keep b ob q n hb hx⟩
theorem Un.kept(k:∀b u,h.get? b=some u->h'.get? b=some u):Un fs ex H H h h':=⟨λb ob q _ _ _=>k b ob q,λb ob q _ _ _=>⟨ob.slots,k b ob q⟩,λ_ _ _ n _=>n,λb ob q _=>⟨ob,k b ob q⟩,λ_ _ q=>q,λ_ _ _ q=>q,λ_ ps q=>⟨#[],by rw[q];simp⟩⟩
theorem Un.refl:Un fs ex H H h h:=Un.kept λ_ _ q=>q
theorem Un.laid(k:∀b u,h.get? b=some u->h'.get? b=some u)(hp:h.objs.size<=a)(hn:H a=none):Un fs ex H (upd H a o) h h' where
 keep:=λb u q _ _ _=>k b u q
 slot:=λb u q _ _ _=>⟨u.slots,k b u q⟩
 free:=λb u q n _=>by rw[bo (cy (cZ (bj q) hp))];exact n
 there:=λb u q _=>⟨u,k b u q⟩
 dQ:=λb xs q=>by rw[bo (eL q hn)];exact q
 dI:=λb u xs q=>by rw[bo (eL q hn)];exact q
 dR:=λb ps q=>⟨#[],by rw[bo (eL q hn),q];simp⟩
theorem Un.write(mu:ma (H x))(he:e=x\/H e=some (.own x))(k:∀b u,b≠e->h.get? b=some u->h'.get? b=some u)(iP:∃u,h'.get? e=some u):Un fs ex H (upd H x o) h h':=by
 have hx:∀b,H b=none->b≠x:=λb n z=>by subst z;rw[n]at mu;exact mu
 have hb:∀b,H b=none->b≠e:=λb n z=>by
  subst z;rcases he with r|r
  ·exact hx b n r
  ·rw[n]at r;cases r
 have hm:∀b u,H b=some u->¬ma (some u)->b≠x:=λb u q nm z=>by subst z;rw[q]at mu;exact nm mu
 refine⟨λb u q n _ _=>k b u (hb b n) q,λb u q n _ _=>⟨u.slots,k b u (hb b n) q⟩,λb u q n _=>by rw[bo (hx b n)];exact n,λb u q _=>?_,λb xs q=>by rw[bo (hm b _ q λz=>z)];exact q,λb u xs q=>by rw[bo (hm b _ q λz=>z)];exact q,λb ps q=>⟨#[],by rw[bo (hm b _ q λz=>z),q];simp⟩⟩;by_cases ib:b=e
 ·subst ib;exact iP
 ·exact⟨u,k b u ib q⟩
end
def kD(h:Heap)(H:Hp):List Addr:=(List.range h.objs.size).filter λa=>(H a).isSome
def fX(h:Heap)(H:Hp):Heap:=PySem.W.hideAll h (kD h H)
theorem Bo(h:Heap)(H:Hp):(fX h H).objs.size=h.objs.size:=PySem.W.hideAll_size _ _
theorem Bp{h:Heap}{H:Hp}{b:Addr}{o:Obj}(e:h.get? b=some o)(n:H b=none):(fX h H).get? b=some o:=q0 _ e λhm=>by have q:(H b).isSome=true:=(List.mem_filter.mp hm).2;rw[n]at q;simp at q
theorem zu{h:Heap}{H:Hp}{b:Addr}{o:Obj}(e:(fX h H).get? b=some o):h.get? b=some o/\H b=none:=by have e':h.get? b=some o:=PySem.W.of_hideAll (kD h H) e;refine⟨e',?_⟩;cases q:H b with |none=>rfl |some x=>have hm:b∈kD h H:=List.mem_filter.mpr ⟨List.mem_range.mpr (bj e'),by simp[q]⟩;have z:(fX h H).get? b=none:=PySem.W.hideAll_none (kD h H) hm;rw[z]at e;cases e
structure Mod(K:aa)(mg:aJ)(ao:Heap):Prop where
 fu:K.In ao
 glob:ao.Ns mainGlobals mg
 blt:∃mb,ao.Ns builtinsNs mb/\∀x:Str,x≠"__name__"->mb x=bootBuiltins x
 nolimit:ao.NoLimit
structure Cx where
 prog:af
 w:World
 K:aa
 mg:aJ
 ao:Heap
 A:ai
 N:List Str
 s₀:ae
 H₀:Hp
 env:Env
 outer:List Env
 stack:List Env
 ex:List Addr
 fn:Str->Bool
 calm:Bool
 pn:List (Addr×Obj)
 xe:Value->ae->Prop
def bV(l:List Env):List Addr:=l.filterMap (·.frame)
abbrev Cx.fs(X:Cx):List Addr:=bV X.outer
def m8(sc:Scope)(x:Str):Prop:=sc.names.lookup x=some .local\/sc.names.lookup x=some .cell\/sc.names.lookup x=some .free
def Loc(sc:Scope)(x:Str):Prop:=sc.names.lookup x=some .local\/sc.names.lookup x=some .cell
def Look(env:Env)(h:Heap)(m:aJ)(x:Str)(u:Value):Prop:=(env.kindOf x=some .local/\m x=some u)\/((env.kindOf x=some .cell\/env.kindOf x=some .free)/\∃c,env.cells.lookup x=some c/\h.IsCell c (some u))
structure Cx.Ok(X:Cx):Prop where
 mod:Mod X.K X.mg X.ao
 kind:X.env.scope.kind= .function
 glob:X.env.globals=mainGlobals
 blt:X.env.builtins=builtinsNs
 above:X.s₀.heap.objs.size<=X.env.locals
 inj:∀x y c,X.env.cells.lookup x=some c->X.env.cells.lookup y=some c->x=y
 has:∀x,(X.env.kindOf x=some .cell\/X.env.kindOf x=some .free)->∃c,X.env.cells.lookup x=some c
 gH:∀x c,X.fn x=true->X.env.cells.lookup x=some c->X.s₀.heap.objs.size<=c
 hd:X.calm=true->X.A.handled=none
 frames:X.A.frames=some X.stack
 gS:X.stack=X.outer\/(X.stack=X.env::X.outer/\X.env.frame=some X.env.locals)
 jT:∀b∈X.ex,b≠X.env.locals/\∀x c,X.env.cells.lookup x=some c->c≠b
 bs:∀b o,X.ao.get? b=some o->X.s₀.heap.get? b=some o/\X.H₀ b=none
 dJ:X.ao.objs.size<=X.s₀.heap.objs.size
 gv:∀b o,X.ao.get? b=some o->b∉X.ex
 gF:∀b∈X.ex,b∉X.fs
 cY:X.s₀.heap.FunFrames X.ao X.outer
 eR:∀b∈X.fs,X.H₀ b=none
structure Inv(X:Cx)(ak:List (Addr×Obj))(O:List (Option V))(H:Hp)(s:ae):Prop where
 ok:X.Ok
 os:s.os=X.s₀.os
 bare:AllBare s.gens
 ao:Un X.fs X.ex X.H₀ H X.s₀.heap s.heap
 loc:∃m,s.heap.Ns X.env.locals m/\∀(i:Nat)(x:Str)(v:V),X.N[i]? =some x->O[i]? =some (some v)->m8 X.env.scope x->∃u,RelV v u/\Look X.env s.heap m x u
 cell:∀x c,X.env.cells.lookup x=some c->∃v,s.heap.IsCell c v
 free:H X.env.locals=none
 da:∀x c,X.env.cells.lookup x=some c->H c=none
 pin:∀p∈X.pn++ak,s.heap.get? p.1=some p.2/\H p.1=none/\p.1≠X.env.locals/\p.1∉X.fs/\∀v,p.2.data≠ .cell v
 aE:bH X.prog X.w H s.heap
 len:O.length=X.N.length
section
variable {X:Cx}{ak:List (Addr×Obj)}{O:List (Option V)}{H H':Hp}{s:ae}{h':Heap}
theorem Cx.Ok.zH(ok:X.Ok){b:Addr}{o:Obj}(e:X.ao.get? b=some o):b∉X.fs:=λhb=>by have:=(ok.cY.mem hb).1;rw[e]at this;cases this
theorem Inv.bs(I:Inv X ak O H s):∀b o,X.ao.get? b=some o->s.heap.get? b=some o/\H b=none:=λb o e=>⟨I.ao.keep b o (I.ok.bs b o e).1 (I.ok.bs b o e).2 (I.ok.zH e) (I.ok.gv b o e),I.ao.free b o (I.ok.bs b o e).1 (I.ok.bs b o e).2 (I.ok.gv b o e)⟩
theorem Inv.bk(I:Inv X ak O H s):∀b o,X.ao.get? b=some o->s.heap.get? b=some o:=λb o e=>(I.bs b o e).1
theorem Inv.mod(I:Inv X ak O H s):Mod X.K X.mg X.ao:=I.ok.mod
theorem Inv.bT(I:Inv X ak O H s):X.K.In s.heap:=I.ok.mod.fu.keeps I.bk
theorem Inv.lt(I:Inv X ak O H s):X.env.locals<s.heap.objs.size:=let⟨_,hn,_⟩:=I.loc;hn.lt
theorem Inv.sz(I:Inv X ak O H s):X.s₀.heap.objs.size<=s.heap.objs.size:=dC I.ok.above (Nat.le_of_lt I.lt)
theorem Inv.zF(I:Inv X ak O H s){a:Addr}(h:s.heap.objs.size<=a):a∉X.fs:=λhb=>by obtain⟨_,o,ho,_⟩:=I.ok.cY.mem hb;exact absurd (cZ (bj ho) (dC I.sz h)) (j4 _)
theorem Inv.eU(I:Inv X ak O H s):∀x c,X.env.cells.lookup x=some c->c≠X.env.locals:=λx c e z=>by obtain⟨v,o,ho,hd⟩:=I.cell x c e;obtain⟨m,⟨o',es,ep,fV,oW,_⟩,_⟩:=I.loc;rw[z,fV]at ho;cases ho;rw[oW]at hd;cases hd
theorem Inv.cY(I:Inv X ak O H s):s.heap.FunFrames X.ao X.outer:=by
 have all:∀(l:List Env),(∀b∈bV l,b∈X.fs)->X.s₀.heap.FunFrames X.ao l->s.heap.FunFrames X.ao l:=by intro l;induction l with |nil=>intro _ _;trivial |cons env r ih=>intro hs hl;obtain⟨hk,⟨L,o,hf,hn,ho,hd⟩,hr⟩:=hl;have hL:L∈X.fs:=hs L (by unfold bV;rw[vX,hf];exact qi);obtain⟨sl,e⟩:=I.ao.slot L o ho (I.ok.eR L hL) hL λz=>I.ok.gF L z hL;exact⟨hk,⟨L,_,hf,hn,e,hd⟩,ih (λb hb=>hs b (by unfold bV;rw[vX,hf];exact j7 _ hb)) hr⟩
 exact all X.outer (λ_ hb=>hb) I.ok.cY
theorem Inv.stack(I:Inv X ak O H s):s.heap.FunFrames X.ao X.stack:=by
 rcases I.ok.gS with e|⟨e,hf⟩
 ·rw[e];exact I.cY
 ·rw[e]
  obtain⟨m,hn,_⟩:=I.loc;refine .cons (by rw[I.ok.kind];decide) hf hn ?_ I.cY;exact Heap.get?_none_of_le (dC I.ok.dJ I.ok.above)
theorem Inv.mQ(I:Inv X ak O H s):∀b∈bV X.stack,b∈X.env.locals::X.fs:=λb hb=>by
 rcases I.ok.gS with e|⟨e,hf⟩
 ·rw[e]at hb;exact j7 _ hb
 ·rw[e]at hb
  unfold bV at hb;rw[vX,hf]at hb;exact hb
theorem Inv.kL(I:Inv X ak O H s):∀b∈bV X.stack,H b=none:=λb hb=>by
 rcases cz.mp (I.mQ b hb)with e|hb
 ·rw[e];exact I.free
 ·obtain⟨_,o,ho,_⟩:=I.ok.cY.mem hb
  exact I.ao.free b o ho (I.ok.eR b hb) λz=>I.ok.gF b z hb
theorem Inv.step{g':Array GenState}{t':Nat}{d':Drawn}{ch:List Addr}(I:Inv X ak O H s) (fA:∀b∈ch,(b∈X.ex\/X.s₀.heap.objs.size<=b)/\b≠X.env.locals/\(∀x c,X.env.cells.lookup x=some c->c≠b)/\∀p∈X.pn++ak,p.1≠b) (keep:∀b o,b≠X.env.locals->b∉X.fs->b∉ch->s.heap.get? b=some o->H b=none->h'.get? b=some o) (slot:∀b o,b≠X.env.locals->b∈X.fs->b∉ch->s.heap.get? b=some o->H b=none->∃sl,h'.get? b=some {o with slots:=sl})(free:∀b o,b∉ch->s.heap.get? b=some o->H b=none->H' b=none) (there:∀b o,b∉ch->s.heap.get? b=some o->∃o',h'.get? b=some o') (dQ:∀b xs,H b=some (.tup xs)->H' b=some (.tup xs))(dI:∀b o u,H b=some (.eQ o u)->H' b=some (.eQ o u))(dR:∀b ps,H b=some (.gp ps)->∃more,H' b=some (.gp (ps++more))) (ns:∀m,s.heap.Ns X.env.locals m->h'.Ns X.env.locals m)(aE:bH X.prog X.w H' h')(hg:AllBare g'): Inv X ak O H' {s with heap:=h',gens:=g',drawn:=d',toks:=t'}:=by
 have sR:∀b o,X.s₀.heap.get? b=some o->b≠X.env.locals:=λb o e=>cy (cZ (bj e) I.ok.above);have lq:∀b o,X.s₀.heap.get? b=some o->b∉X.ex->b∉ch:=λb o e hx hb=>by
  rcases(fA b hb).1 with z|z
  ·exact hx z
  ·exact absurd (cZ (bj e) z) (j4 _)
 have cellK:∀x c,X.env.cells.lookup x=some c->∀v,s.heap.IsCell c v->h'.IsCell c v:=λx c e v ⟨o,ho,hd⟩=>by
  have jz:c∉ch:=λz=>(fA c z).2.2.1 x c e rfl;by_cases hc:c∈X.fs
  ·obtain⟨sl,q⟩:=slot c o (I.eU x c e) hc jz ho (I.da x c e)
   exact⟨_,q,hd⟩
  ·exact⟨o,keep c o (I.eU x c e) hc jz ho (I.da x c e),hd⟩
 refine⟨I.ok,I.os,hg,⟨λb o e n hb hx=>?_,λb o e n hb hx=>?_,λb o e n hx=>?_,λb o e hx=>?_,λb xs e=>dQ b xs (I.ao.dQ b xs e),λb o xs e=>dI b o xs (I.ao.dI b o xs e),λb ps e=>?_⟩,?_,λx c e=>?_,?_,λx c e=>?_,λp hp=>?_,aE,I.len⟩
 ·exact keep b o (sR b o e) hb (lq b o e hx) (I.ao.keep b o e n hb hx) (I.ao.free b o e n hx)
 ·obtain⟨sl,e1⟩:=I.ao.slot b o e n hb hx
  obtain⟨mS,e2⟩:=slot b _ (sR b o e) hb (lq b o e hx) e1 (I.ao.free b o e n hx);exact⟨mS,e2⟩
 ·obtain⟨o',e1⟩:=I.ao.there b o e hx
  exact free b o' (lq b o e hx) e1 (I.ao.free b o e n hx)
 ·obtain⟨o',e1⟩:=I.ao.there b o e hx
  exact there b o' (lq b o e hx) e1
 ·obtain⟨m1,e1⟩:=I.ao.dR b ps e
  obtain⟨m2,e2⟩:=dR b _ e1;exact⟨m1++m2,by rw[e2,Array.append_assoc]⟩
 ·obtain⟨m,hn,hl⟩:=I.loc
  refine⟨m,ns m hn,λi x v e1 e2 e3=>?_⟩;obtain⟨u,r,l⟩:=hl i x v e1 e2 e3;refine⟨u,r,?_⟩;rcases l with l|⟨k,c,e,z⟩
  ·exact .inl l
  ·exact .inr ⟨k,c,e,cellK x c e _ z⟩
 ·obtain⟨v,z⟩:=I.cell x c e
  exact⟨v,cellK x c e v z⟩
 ·obtain⟨m,⟨o,_,_,ho,_⟩,_⟩:=I.loc
  exact free _ o (λz=>(fA _ z).2.1 Z) ho I.free
 ·obtain⟨v,o,ho,hd⟩:=I.cell x c e
  exact free c o (λz=>(fA c z).2.2.1 x c e Z) ho (I.da x c e)
 ·obtain⟨e,n,ne,nf,d⟩:=I.pin p hp
  have jz:p.1∉ch:=λz=>(fA p.1 z).2.2.2 p hp rfl;exact⟨keep p.1 p.2 ne nf jz e n,free p.1 p.2 jz e n,ne,nf,d⟩
theorem Inv.un{t':Nat}(I:Inv X ak O H s)(u:Un X.fs [] H H' s.heap h')(aE:bH X.prog X.w H' h'):Inv X ak O H' {s with heap:=h',toks:=t'}:=by obtain⟨m,⟨o,es,ep,ho,r⟩,_⟩:=id I.loc;obtain⟨sl,hL⟩:=u.any ho I.free (by simp);exact I.step (g':=s.gens) (d':=s.drawn) (ch:=[]) (λ_ z=>nomatch z) (λb o _ hb _ e n=>u.keep b o e n hb (by simp)) (λb o _ hb _ e n=>u.slot b o e n hb (by simp)) (λb o _ e n=>u.free b o e n (by simp)) (λb o _ e=>u.there b o e (by simp)) u.dQ u.dI u.dR (λm' hm=>by obtain⟨o',pD,pE,fV,r'⟩:=hm;rw[ho]at fV;cases fV;exact⟨_,pD,pE,hL,r'⟩) aE I.bare
theorem Inv.call{g':Array GenState}{t':Nat}{d':Drawn}{ch:List Addr}(I:Inv X ak O H s)(u:Un (bV X.stack) ch H H' s.heap h')(aE:bH X.prog X.w H' h')(hg:AllBare g') (fA:∀b∈ch,(b∈X.ex\/X.s₀.heap.objs.size<=b)/\b≠X.env.locals/\(∀x c,X.env.cells.lookup x=some c->c≠b)/\∀p∈X.pn++ak,p.1≠b): Inv X ak O H' {s with heap:=h',gens:=g',drawn:=d',toks:=t'}:=by obtain⟨m,⟨o,es,ep,ho,r⟩,_⟩:=id I.loc;obtain⟨sl,hL⟩:=u.any ho I.free λz=>(fA _ z).2.1 rfl;exact I.step (ch:=ch) fA (λb o hL hb hc e n=>u.keep b o e n (λz=>(cz.mp (I.mQ b z)).elim hL hb) hc) (λb o _ _ hc e n=>u.any e n hc) (λb o hc e n=>u.free b o e n hc) (λb o hc e=>u.there b o e hc) u.dQ u.dI u.dR (λm' hm=>by obtain⟨o',pD,pE,fV,r'⟩:=hm;rw[ho]at fV;cases fV;exact⟨_,pD,pE,hL,r'⟩) aE hg
theorem Inv.turned{t':Nat}{it:Addr}(I:Inv X ak O H s)(k:∀b o,b≠it->s.heap.get? b=some o->h'.get? b=some o)(hn:H it=none)(hL:it≠X.env.locals) (h1:it∈X.ex\/X.s₀.heap.objs.size<=it)(h2:∀x c,X.env.cells.lookup x=some c->c≠it)(h3:∀p∈X.pn++ak,p.1≠it):Inv X ak O H {s with heap:=h',toks:=t'}:=by
 have jx:∀b u,H b=some u->b≠it:=λb u e z=>by rw[z,hn]at e;cases e
 refine I.step (g':=s.gens) (d':=s.drawn) (ch:=[it]) (λb hb=>?_) (λb o _ _ hc e _=>k b o (λz=>hc (by simp[z])) e) (λb o _ _ hc e _=>⟨o.slots,k b o (λz=>hc (by simp[z])) e⟩) (λ_ _ _ _ n=>n) (λb o hc e=>⟨o,k b o (λz=>hc (by simp[z])) e⟩) (λ_ _ e=>e) (λ_ _ _ e=>e) (λb ps e=>⟨#[],by rw[e];simp⟩) (λm hm=>?_) (λb u e=>?_) I.bare
 ·have e:b=it:=by simpa using hb
  subst e;exact⟨h1,hL,h2,h3⟩
 ·obtain⟨o,es,ep,ho,r⟩:=hm
  exact⟨o,es,ep,k _ o (dN hL) ho,r⟩
 ·refine(I.aE b u e).fh (λc v hc q=>k c v ?_ q) (λ_ q=>q) λ_ _ q=>q
  rcases hc with z|z
  ·rw[z];exact jx b u e
  ·exact jx c _ z
theorem Inv.tok(I:Inv X ak O H s)(t:Nat):Inv X ak O H {s with toks:=t}:=I.un (h':=s.heap) (t':=t) Un.refl I.aE
theorem Inv.kept{t':Nat}(I:Inv X ak O H s)(k:∀b u,s.heap.get? b=some u->h'.get? b=some u):Inv X ak O H {s with heap:=h',toks:=t'}:=I.un (Un.kept k) (I.aE.kept k)
theorem Inv.laid{a:Addr}{o:HO}{t':Nat}(I:Inv X ak O H s)(k:∀b u,s.heap.get? b=some u->h'.get? b=some u)(hp:s.heap.objs.size<=a)(new:cM X.prog X.w (upd H a o) h' a o): Inv X ak O (upd H a o) {s with heap:=h',toks:=t'}:=I.un (Un.laid k hp (I.aE.fresh hp)) (I.aE.laid k hp new)
theorem Inv.write{x e:Addr}{o:HO}{t':Nat}(I:Inv X ak O H s)(mu:ma (H x))(he:e=x\/H e=some (.own x))(k:∀b u,b≠e->s.heap.get? b=some u->h'.get? b=some u)(iP:∃u,h'.get? e=some u) (new:cM X.prog X.w (upd H x o) h' x o):Inv X ak O (upd H x o) {s with heap:=h',toks:=t'}:=I.un (Un.write mu he k iP) (I.aE.write mu he k iP new)
theorem Inv.sr{nT:List (Addr×Obj)}(I:Inv X ak O H s)(h:∀p∈nT,s.heap.get? p.1=some p.2/\H p.1=none/\p.1≠X.env.locals/\p.1∉X.fs/\∀v,p.2.data≠ .cell v):Inv X nT O H s:=⟨I.ok,I.os,I.bare,I.ao,I.loc,I.cell,I.free,I.da,λp hp=>(qj.mp hp).elim (λz=>I.pin p (vU _ z)) (h p),I.aE,I.len⟩
theorem oa{N:List Str}(hN:N.Nodup){i j:Nat}{x:Str}(a:N[i]? =some x)(b:N[j]? =some x):i=j:=by obtain⟨h1,e1⟩:=gh.mp a;obtain⟨h2,e2⟩:=gh.mp b;exact(List.getElem_inj hN).mp (e1.trans e2.symm)
theorem xi{M:Model}{A:ai}{E:Value->ae->Prop}{i:Nat}{x:Str}{v:V}{u:Value}{Q:Unit->ae->Prop}(I:Inv X ak O H s)(hN:X.N.Nodup)(hi:X.N[i]? =some x)(hx:Loc X.env.scope x)(r:RelV v u) (h:∀s',Inv X ak (O.set i (some v)) H s'->(∃a,Heap.SameBut a s.heap s'.heap/\(a=X.env.locals\/X.env.cells.lookup x=some a))->Q () s')(hf:X.fn x=true\/X.env.scope.names.lookup x=some .local:=by first|exact .inl rfl|exact .inr rfl|assumption):wpAny M A (storeName X.env x u) Q E s:=by
 obtain⟨m,hn,hl⟩:=id I.loc;have jN:(X.env.scope.kind== .class||(X.env.scope.kind== .module&&X.env.locals !=X.env.globals))=false:=by rw[I.ok.kind];rfl
 have lJ:i<O.length:=by rw[I.len];exact(gh.mp hi).1
 have eU:=I.eU;have tracked:∀{a:Addr}{h':Heap},(∃o,s.heap.get? a=some o/\H a=none)->Heap.SameBut a s.heap h'->bH X.prog X.w H h':=λ{a h'} ha hs b ob e=>by
  obtain⟨_,_,lL⟩:=ha;refine(I.aE b ob e).fh (λc w' hc q=>(hs.2 c ?_).trans q) (λ_ q=>q) λ_ _ q=>q;rintro rfl;rcases hc with rfl|hc
  ·rw[lL]at e;cases e
  ·rw[lL]at hc;cases hc
 rcases hx with hk|hk
 ·refine wpAny_storeName_local hk hn (λh' oM hs=>?_) jN
  obtain⟨oL,_,_,u7,_⟩:=id hn;refine h _ ⟨I.ok,I.os,I.bare,⟨λb o e n hb hx=>?_,λb o e n hb hx=>?_,I.ao.free,λb o e hx=>?_,I.ao.dQ,I.ao.dI,I.ao.dR⟩,⟨_,oM,λj y v' e1 e2 e3=>?_⟩,λy c e=>?_,I.free,I.da,λp hp=>?_,tracked ⟨oL,u7,I.free⟩ hs,by simpa using I.len⟩ ⟨_,hs,.inl rfl⟩
  ·exact(hs.2 b (cy (cZ (bj e) I.ok.above))).trans (I.ao.keep b o e n hb hx)
  ·obtain⟨sl,e1⟩:=I.ao.slot b o e n hb hx
   exact⟨sl,(hs.2 b (cy (cZ (bj e) I.ok.above))).trans e1⟩
  ·obtain⟨o',e1⟩:=I.ao.there b o e hx
   exact⟨o',(hs.2 b (cy (cZ (bj e) I.ok.above))).trans e1⟩
  ·by_cases hj:j=i
   ·subst hj
    rw[hi]at e1;cases e1;rw[ql lJ]at e2;cases e2;exact⟨u,r,.inl ⟨hk,by simp⟩⟩
   ·rw[vW (dN hj)]at e2
    obtain⟨u',r',q⟩:=hl j y v' e1 e2 e3;refine⟨u',r',?_⟩;rcases q with⟨k,e⟩|⟨k,c,e,z⟩
    ·refine .inl ⟨k,?_⟩
     have:y≠x:=λe=>hj (oa hN e1 (e▸hi));simp[this,e]
    ·exact .inr ⟨k,c,e,z.sameBut hs (eU y c e)⟩
  ·obtain⟨w',z⟩:=I.cell y c e
   exact⟨w',z.sameBut hs (eU y c e)⟩
  ·obtain⟨e,n,ne,nf,d⟩:=I.pin p hp
   exact⟨(hs.2 p.1 ne).trans e,n,ne,nf,d⟩
 ·have oQ:X.fn x=true:=by
   rcases hf with z|z
   ·exact z
   ·rw[z]at hk;cases hk
  obtain⟨c,hc⟩:=I.ok.has x (.inl hk);obtain⟨w',z⟩:=I.cell x c hc;refine wpAny_storeName_cell I.ok.kind hk hc z (λh' dH hs=>?_);obtain⟨oc,u6,B1⟩:=id z;refine h {s with heap:=h'} ⟨I.ok,I.os,I.bare,⟨λb o e n hb hx=>?_,λb o e n hb hx=>?_,I.ao.free,λb o e hx=>?_,I.ao.dQ,I.ao.dI,I.ao.dR⟩,⟨m,hn.sameBut hs (dN (eU x c hc)),λj y v' e1 e2 e3=>?_⟩,λy c' e=>?_,I.free,I.da,λp hp=>?_,tracked ⟨oc,u6,I.da x c hc⟩ hs,by simpa using I.len⟩ ⟨c,hs,.inr hc⟩
  ·exact(hs.2 b (cy (cZ (bj e) (I.ok.gH x c oQ hc)))).trans (I.ao.keep b o e n hb hx)
  ·obtain⟨sl,e1⟩:=I.ao.slot b o e n hb hx
   exact⟨sl,(hs.2 b (cy (cZ (bj e) (I.ok.gH x c oQ hc)))).trans e1⟩
  ·obtain⟨o',e1⟩:=I.ao.there b o e hx
   exact⟨o',(hs.2 b (cy (cZ (bj e) (I.ok.gH x c oQ hc)))).trans e1⟩
  ·by_cases hj:j=i
   ·subst hj
    rw[hi]at e1;cases e1;rw[ql lJ]at e2;cases e2;exact⟨u,r,.inr ⟨.inl hk,c,hc,dH⟩⟩
   ·rw[vW (dN hj)]at e2
    obtain⟨u',r',q⟩:=hl j y v' e1 e2 e3;refine⟨u',r',?_⟩;rcases q with q|⟨k,c',e,z'⟩
    ·exact .inl q
    ·refine .inr ⟨k,c',e,z'.sameBut hs ?_⟩
     rintro rfl;exact hj (oa hN e1 (I.ok.inj _ _ _ e hc▸hi))
  ·by_cases uh:c'=c
   ·subst uh;exact⟨_,dH⟩
   ·obtain⟨w2,z2⟩:=I.cell y c' e
    exact⟨w2,z2.sameBut hs uh⟩
  ·obtain⟨e,n,ne,nf,d⟩:=I.pin p hp
   refine⟨(hs.2 p.1 ?_).trans e,n,ne,nf,d⟩;intro q;rw[q,u6]at e;have q':oc=p.2:=cH e;exact d w' (by rw[<-q'];exact B1)
theorem kK{M:Model}{A:ai}{E:Value->ae->Prop}{i:Nat}{x:Str}{v:V}{u:Value}{Q:Unit->ae->Prop}(I:Inv X ak O H s)(hN:X.N.Nodup)(hi:X.N[i]? =some x)(hx:Loc X.env.scope x)(r:RelV v u) (h:∀s',Inv X ak (O.set i (some v)) H s'->Q () s')(hf:X.fn x=true\/X.env.scope.names.lookup x=some .local:=by first|exact .inl rfl|exact .inr rfl|assumption):wpAny M A (storeName X.env x u) Q E s:=xi I hN hi hx r (λs' I' _=>h s' I') hf
theorem Inv.pL{s':ae}{ch:List Addr}(I:Inv X ak O H s)(ho:s'.os=s.os)(u:Un (bV X.stack) ch H H' s.heap s'.heap)(aE:bH X.prog X.w H' s'.heap)(hg:AllBare s'.gens) (fA:∀b∈ch,(b∈X.ex\/X.s₀.heap.objs.size<=b)/\b≠X.env.locals/\(∀x c,X.env.cells.lookup x=some c->c≠b)/\∀p∈X.pn++ak,p.1≠b):Inv X ak O H' s':=by obtain⟨h',g',d',t',o'⟩:=s';have e:o'=s.os:=ho;subst e;exact I.call (g':=g') (t':=t') (d':=d') u aE hg fA
end
abbrev XK:=Value->Option Addr->Hp->Prop
abbrev St:=List (Option V)
abbrev VK:=V->Hp->Prop
abbrev TE:=St->Hp->VK->Prop
abbrev TT:=St->Hp->(Bool->Hp->Prop)->Prop
abbrev TA:=St->Hp->(List V->Hp->Prop)->Prop
structure Ends where
 nx:St->Hp->Prop
 rt:VK
 bk:St->Hp->Prop:=λ_ _=>False
 ct:St->Hp->Prop:=λ_ _=>False
abbrev TS:=Ends->St->Hp->Prop
def EP(X:Cx)(ak:List (Addr×Obj))(O:St)(Q:VK)(u:Value)(s':ae):Prop:=∃v H',Inv X ak O H' s'/\RelV v u/\Q v H'
def TP(X:Cx)(ak:List (Addr×Obj))(O:St)(Q:Bool->Hp->Prop)(b:Bool)(s':ae):Prop:=∃H',Inv X ak O H' s'/\Q b H'
def AP(X:Cx)(ak:List (Addr×Obj))(O:St)(Q:List V->Hp->Prop)(us:List Value)(s':ae):Prop:=∃vs H',Inv X ak O H' s'/\Vals vs us/\Q vs H'
def SP(X:Cx)(ak:List (Addr×Obj))(D:Ends)(f:Flow)(s':ae):Prop:=match f with | .next=>∃σ' H',Inv X ak σ' H' s'/\D.nx σ' H' | .brk=>∃σ' H',Inv X ak σ' H' s'/\D.bk σ' H' | .cont=>∃σ' H',Inv X ak σ' H' s'/\D.ct σ' H' | .ret u=>∃v σ' H',Inv X ak σ' H' s'/\RelV v u/\D.rt v H'
def PE(X:Cx)(e:Expr)(t:TE):Prop:=∀(ak:List (Addr×Obj))(s:ae)(O:St)(H:Hp)(Q:VK),Inv X ak O H s->t O H Q->wpAny (model X.prog X.w) X.A (eval e X.env) (EP X ak O Q) X.xe s
def PT(X:Cx)(e:Expr)(t:TT):Prop:=∀(ak:List (Addr×Obj))(s:ae)(O:St)(H:Hp)(Q:Bool->Hp->Prop),Inv X ak O H s->t O H Q->wpAny (model X.prog X.w) X.A (isTrue e X.env (eval e X.env)) (TP X ak O Q) X.xe s
def PW(X:Cx)(e:Expr)(t:TT):Prop:=∀(whole:Sem Value)(ak:List (Addr×Obj))(s:ae)(O:St)(H:Hp)(Q:Bool->Hp->Prop),Inv X ak O H s->t O H Q->wpAny (model X.prog X.w) X.A (isTrue e X.env whole) (TP X ak O Q) X.xe s
theorem PW.pt{X:Cx}{e:Expr}{t:TT}(h:PW X e t):PT X e t:=h _
def PA(X:Cx)(es:List Expr)(t:TA):Prop:=∀(pos:Pos)(ak:List (Addr×Obj))(s:ae)(O:St)(H:Hp)(Q:List V->Hp->Prop),Inv X ak O H s->t O H Q->wpAny (model X.prog X.w) X.A (spliced (backTo pos (starEach es X.env))) (AP X ak O Q) X.xe s
def PS(X:Cx)(st:Stmt)(t:TS):Prop:=∀(ak:List (Addr×Obj))(s:ae)(O:St)(H:Hp)(D:Ends),Inv X ak O H s->t D O H->wpAny (model X.prog X.w) X.A (exec st X.env) (SP X ak D) X.xe s
def bW(X:Cx)(st:List Stmt)(t:TS):Prop:=∀(ak:List (Addr×Obj))(s:ae)(O:St)(H:Hp)(D:Ends),Inv X ak O H s->t D O H->wpAny (model X.prog X.w) X.A (execs st X.env) (SP X ak D) X.xe s
theorem aF{α:Type}{t:Sem α}{Q Q':α->ae->Prop}{M:Model}{A:ai}{E:Value->ae->Prop}{s:ae}(h:wpAny M A t Q E s)(hQ:∀a s,Q a s->Q' a s):wpAny M A t Q' E s:=dr h hQ λ_ _ x=>x
section
variable {X:Cx}
inductive Es(i:Nat)(O:St)(H:Hp)(Q:VK):Prop |mk (v:_)(h0:O[i]? =some (some v))(h1:Q v H)
def qC(i:Nat):TE:=λO H Q=>Es i O H Q
def tC (v:V):TE:=λ_ H Q=>Q v H
theorem sx{i:Nat}{x:Str}{pos:Pos}(hN:X.N[i]? =some x)(hv:m8 X.env.scope x)(hd:(x==("__debug__":Str))=false:=by decide)(cb:(x==("__classdict__":Str))=false:=by decide):PE X (.Name x pos) (qC i):=by
 intro ak s O H Q I h;obtain⟨v,e,h⟩:=h;obtain⟨m,hn,hl⟩:=I.loc;obtain⟨u,r,l⟩:=hl i x v hN e hv;have fin:EP X ak O Q u s:=⟨v,H,I,r,h⟩;rcases l with⟨hk,hm⟩|⟨hk,c,hc,iQ⟩
 ·exact wpAny_Name (wpAny_loadName_local I.ok.kind hk hn hm fin) hd
 ·rcases hk with hk|hk
  ·exact wpAny_Name (wpAny_loadName_cell I.ok.kind hk hc iQ fin) hd
  ·exact wpAny_Name (wpAny_loadName_free I.ok.kind hk hc iQ fin cb) hd
theorem aD{i j pos}:PE X (.Constant (.int i) j pos) (tC (.int i)):=λ_ _ _ H _ I h=>wpAny_Constant_int ⟨.int i,H,I.tok _,⟨_,Z⟩,h⟩
theorem dF{b j pos}:PE X (.Constant (.bool b) j pos) (tC (.bl b)):=λ_ _ _ H _ I h=>Constant_bool ⟨.bl b,H,I,Z,h⟩
theorem sA{j pos}:PE X (.Constant .none j pos) (tC .aK):=λ_ _ _ H _ I h=>Constant_none ⟨.aK,H,I,Z,h⟩
theorem dy{x j pos}:PE X (.Constant (.str x) j pos) (tC (.str x)):=λ_ _ _ H _ I h=>Calls.Constant_str ⟨.str x,H,I.tok _,⟨_,Z⟩,h⟩
def Gl(X:Cx)(x:Str):Prop:=X.env.kindOf x=some .globalImplicit
theorem gw{E:Value->ae->Prop}{ak:List (Addr×Obj)}{s:ae}{O:St}{H:Hp}{x:Str}{u:Value}{pos:Pos}{Q:Value->ae->Prop}(I:Inv X ak O H s)(hg:Gl X x)(hm:X.mg x=some u)(h:Q u s) (hd:(x==("__debug__":Str))=false:=by decide):wpAny (model X.prog X.w) X.A (eval (.Name x pos) X.env) Q E s:=Calls.Name_function_global I.ok.kind hg (Calls.loadGlobal_global (by rw[I.ok.glob];exact I.mod.glob.keeps I.bk) hm h) hd
theorem jD{E:Value->ae->Prop}{ak:List (Addr×Obj)}{s:ae}{O:St}{H:Hp}{x:Str}{u:Value}{pos:Pos}{Q:Value->ae->Prop}(I:Inv X ak O H s)(hg:Gl X x)(hm:X.mg x=none)(hv:bootBuiltins x=some u)(h:Q u s) (hn:x≠"__name__":=by decide)(hd:(x==("__debug__":Str))=false:=by decide):wpAny (model X.prog X.w) X.A (eval (.Name x pos) X.env) Q E s:=by obtain⟨mb,h1,h2⟩:=I.mod.blt;exact Calls.Name_function_global I.ok.kind hg (Calls.loadGlobal_builtin (by rw[I.ok.glob];exact I.mod.glob.keeps I.bk) hm (by rw[I.ok.blt];exact h1.keeps I.bk) ((h2 x hn).trans hv) h) hd
theorem yt{x:Str}{v:V}{u:Value}{pos:Pos}(hg:Gl X x)(hm:X.mg x=some u)(r:RelV v u)(hd:(x==("__debug__":Str))=false:=by decide):PE X (.Name x pos) (tC v):=λ_ _ _ H _ I h=>gw I hg hm ⟨v,H,I,r,h⟩ hd
theorem dX{x:Str}{v:V}{u:Value}{pos:Pos}(hg:Gl X x)(hm:X.mg x=none)(hv:bootBuiltins x=some u)(r:RelV v u)(hn:x≠"__name__":=by decide)(hd:(x==("__debug__":Str))=false:=by decide):PE X (.Name x pos) (tC v):=λ_ _ _ H _ I h=>jD I hg hm hv ⟨v,H,I,r,h⟩ hn hd
variable {a b:Expr}{ta tb:TE}{pos:Pos}
def PC(X:Cx)(op:CmpOp)(a b:Expr)(t:TE):Prop:=∀(ak:List (Addr×Obj))(s:ae)(O:St)(H:Hp)(Q:VK),Inv X ak O H s->t O H Q->wpAny (model X.prog X.w) X.A (eval a X.env) (λv s₁=>wpAny (model X.prog X.w) X.A (eval b X.env) (λu s₂=>wpAny (model X.prog X.w) X.A (compareOp op v u) (EP X ak O Q) X.xe s₂) X.xe s₁) X.xe s
inductive EB(Q:Bool->Hp->Prop)(x:V)(H1:Hp):Prop |mk (c:_)(h0:x= .bl c)(h1:Q c H1)
def tB(t:TE):TT:=λO H Q=>t O H λx H1=>EB Q x H1
theorem y8{op:CmpOp}{t:TE}(h:PC X op a b t)(h1:behindInMarks op b=false:=by first|exact G5 _ aw aw|rfl):PT X (.Compare a [op] [b] pos) (tB t):=by intro ak s O H Q I hw;refine wpAny_isTrue_Compare1 (aF (h ak s O H _ I hw) λv s1 h1=>aF h1 λu s2 h2=>aF h2 λc s3 ⟨x,H1,I1,r1,q1⟩=>?_) h1;obtain⟨d,rfl,q⟩:=q1;cases r1;exact ix ⟨H1,I1,q⟩
theorem d7{e:Expr}{t:TE}(h:PE X e t)(he:∀whole,isTrue e X.env whole=(do let v<-whole;standAt e.pos;holding [v] (truthy v)):=by intro _;rfl):PT X e (tB t):=by intro ak s O H Q I hw;refine isTrue_plain (aF (h ak s O H _ I hw) λv s1 ⟨x,H1,I1,r1,q1⟩=>?_) (he _);obtain⟨d,rfl,q⟩:=q1;cases r1;exact ix ⟨H1,I1,q⟩
variable {tA kH:TT} {rest:List Expr}
def xf(t u:TT):TT:=λO H Q=>t O H λc H1=>if c=true then u O H1 Q else Q false H1
def wN(t u:TT):TT:=λO H Q=>t O H λc H1=>if c=true then Q true H1 else u O H1 Q
def wQ(t:TT):TT:=λO H Q=>t O H λc H1=>Q (!c) H1
theorem y1(ha:PT X a tA):PW X (.BoolOp .And [a] pos) tA:=by intro wh ak s O H Q I h;refine isTrue_and (aF (ha ak s O H Q I h) λc s1 e=>?_);cases c with |true=>exact isTrue_and_nil e |false=>exact e
theorem fO(ha:PT X a tA):PW X (.BoolOp .Or [a] pos) tA:=by intro wh ak s O H Q I h;refine isTrue_or (aF (ha ak s O H Q I h) λc s1 e=>?_);cases c with |false=>exact isTrue_or_nil e |true=>exact e
theorem y2(ha:PT X a tA)(hb:PW X (.BoolOp .And (b::rest) pos) kH):PW X (.BoolOp .And (a::b::rest) pos) (xf tA kH):=by intro wh ak s O H Q I h;refine isTrue_and (aF (ha ak s O H _ I h) λc s1 ⟨H1,I1,q1⟩=>?_);cases c with |true=>exact hb wh ak s1 O H1 Q I1 q1 |false=>exact⟨H1,I1,q1⟩
theorem fo(ha:PT X a tA)(hb:PW X (.BoolOp .Or (b::rest) pos) kH):PW X (.BoolOp .Or (a::b::rest) pos) (wN tA kH):=by intro wh ak s O H Q I h;refine isTrue_or (aF (ha ak s O H _ I h) λc s1 ⟨H1,I1,q1⟩=>?_);cases c with |true=>exact⟨H1,I1,q1⟩ |false=>exact hb wh ak s1 O H1 Q I1 q1
theorem dw(ha:PT X a tA):PT X (.UnaryOp .Not a pos) (wQ tA):=by intro ak s O H Q I h;exact isTrue_not (ha ak s O H (λc H1=>Q (!c) H1) I h)
inductive ED(tb:TE)(O:St)(Q:VK)(x:V)(H1:Hp):Prop |mk (c:_)(h0:x= .bl c)(h1:if c=true then tb O H1 Q else Q (.bl false) H1)
def xc(ta tb:TE):TE:=λO H Q=>ta O H λx H1=>ED tb O Q x H1
inductive Ey(Q:VK)(x:V)(H1:Hp):Prop |mk (c:_)(h0:x= .bl c)(h1:Q (.bl (!c)) H1)
def wO(ta:TE):TE:=λO H Q=>ta O H λx H1=>Ey Q x H1
theorem jn{op}{t:TE}(h:PE X a t):PE X (.BoolOp op [a] pos) t:=λak s O H Q I hw=>BoolOp_one (h ak s O H Q I hw)
theorem jq(ha:PE X a ta)(hb:PE X (.BoolOp .And (b::rest) pos) tb):PE X (.BoolOp .And (a::b::rest) pos) (xc ta tb):=by intro ak s O H Q I h;refine BoolOp_and (aF (ha ak s O H _ I h) λv s1 ⟨x,H1,I1,r1,q1⟩=>?_);obtain⟨c,rfl,q1⟩:=q1;cases r1;refine ix ?_;cases c with |true=>exact hb ak s1 O H1 Q I1 q1 |false=>exact⟨.bl false,H1,I1,Z,q1⟩
theorem sy(ha:PE X a ta):PE X (.UnaryOp .Not a pos) (wO ta):=by intro ak s O H Q I h;refine UnaryOp_ (aF (ha ak s O H _ I h) λv s1 ⟨x,H1,I1,r1,q1⟩=>?_);obtain⟨c,rfl,q1⟩:=q1;cases r1;exact not_of (ix ⟨.bl (!c),H1,I1,Z,q1⟩)
end
def aH(K:aa)(H:Hp)(a:Addr)(xs:List V):Prop:=Rd H a (.lst xs)\/ ∃(o:Obj)(its:Array Value)(n:Nat),K.lookup a=some o/\o.cls= .type "list"/\o.dict=none/\o.data= .seq its n/\its.size<=sizeLine/\Vals xs its.toList
def bb(K:aa)(H:Hp)(a:Addr)(xs:List V):Prop:=Rd H a (.tup xs)\/ ∃(o:Obj)(its:Array Value)(n:Nat),K.lookup a=some o/\o.cls= .type "tuple"/\o.data= .seq its n/\its.size<=sizeLine/\Vals xs its.toList
def Ei:Value->Option V | .none=>some .aK | .bool b=>some (.bl b) | .int i _=>some (.int i) | .str x _=>some (.str x) | .bytes b _=>some (.eo b) | .float b _=>some (.lT b) | .ref a=>some (.ref a) | .type n=>some (.ty n) |_=>none
theorem RelV.abs{x:V}{u:Value}(r:RelV x u):Ei u=some x:=by cases x with |aK=>cases r;rfl |bl _=>cases r;rfl |int _=>obtain⟨t,rfl⟩:=r;rfl |str _=>obtain⟨t,rfl⟩:=r;rfl |eo _=>obtain⟨t,rfl⟩:=r;rfl |lT _=>obtain⟨t,rfl⟩:=r;rfl |ref _=>cases r;rfl |ty _=>cases r;rfl
theorem RelV.inj{x y:V}{u:Value}(r:RelV x u)(q:RelV y u):x=y:=cH (r.abs.symm.trans q.abs)
theorem Vals.inj:∀{xs ys:List V}{us:List Value},Vals xs us->Vals ys us->xs=ys |_,_,_,.nil,.nil=>rfl |_,_,_,.cons r t,.cons r' t'=>by rw[r.inj r',Vals.inj t t']
section
variable {X:Cx}{ak:List (Addr×Obj)}{O:St}{H:Hp}{s:ae}{a:Addr}{xs ys:List V}
theorem aH.of{K:aa}(h:H a=some (.lst xs)):aH K H a xs:=.inl (.inl h)
theorem bb.of{K:aa}(h:H a=some (.tup xs)):bb K H a xs:=.inl (.inl h)
theorem Inv.list(I:Inv X ak O H s)(h:aH X.K H a xs):∃its:List Value,Vals xs its/\PlainL s.heap a its.toArray/\xs.length<=sizeLine:=by
 rcases h with h|⟨o,its,n,hk,hc,hd,hs,hz,r⟩
 ·obtain⟨z,its,n,r,e⟩:=h.ok I.aE
  exact⟨its,r,⟨_,n,e,Z,Z,Z⟩,z⟩
 ·refine⟨its.toList,r,⟨o,n,I.bT a o hk,hc,hd,by simpa using hs⟩,?_⟩
  have e:=r.length;simp only[vY]at e
  lia
theorem Inv.tuple(I:Inv X ak O H s)(h:bb X.K H a xs):∃its:List Value,Vals xs its/\IsTup s.heap a its.toArray/\xs.length<=sizeLine:=by
 rcases h with h|⟨o,its,n,hk,hc,hs,hz,r⟩
 ·obtain⟨z,its,r,p⟩:=h.ok I.aE
  exact⟨its,r,p,z⟩
 ·refine⟨its.toList,r,⟨o,I.bT a o hk,hc,n,by simpa using hs⟩,?_⟩
  have e:=r.length;simp only[vY]at e
  lia
theorem Inv.Ad(I:Inv X ak O H s)(h:aH X.K H a xs)(h':aH X.K H a ys):xs=ys:=by
 obtain⟨its,r,⟨o,n,e,_,_,d⟩,_⟩:=I.list h;obtain⟨its',r',⟨o',n',e',_,_,d'⟩,_⟩:=I.list h';rw[e]at e';cases e';rw[d]at d';injection d' with d1 _;have:its=its':=by simpa using gO Array.toList d1
 subst this;exact r.inj r'
theorem Inv.qA(I:Inv X ak O H s)(h:bb X.K H a xs)(h':bb X.K H a ys):xs=ys:=by
 obtain⟨its,r,⟨o,e,_,n,d⟩,_⟩:=I.tuple h;obtain⟨its',r',⟨o',e',_,n',d'⟩,_⟩:=I.tuple h';rw[e]at e';cases e';rw[d]at d';injection d' with d1 _;have:its=its':=by simpa using gO Array.toList d1
 subst this;exact r.inj r'
end
abbrev Cx.dv(X:Cx)(E:Value->ae->Prop):Cx:={X with xe:=E}
abbrev Cx.ft(X:Cx):Cx:=X.dv λ_ _=>False
theorem Cx.Ok.dv{X:Cx}(ok:X.Ok)(E:Value->ae->Prop):(X.dv E).Ok:=⟨ok.mod,ok.kind,ok.glob,ok.blt,ok.above,ok.inj,ok.has,ok.gH,ok.hd,ok.frames,ok.gS,ok.jT,ok.bs,ok.dJ,ok.gv,ok.gF,ok.cY,ok.eR⟩
theorem Cx.Ok.fg{X:Cx}{E:Value->ae->Prop}(ok:(X.dv E).Ok):X.Ok:=⟨ok.mod,ok.kind,ok.glob,ok.blt,ok.above,ok.inj,ok.has,ok.gH,ok.hd,ok.frames,ok.gS,ok.jT,ok.bs,ok.dJ,ok.gv,ok.gF,ok.cY,ok.eR⟩
section
variable {X:Cx}{ak:List (Addr×Obj)}{O:St}{H:Hp}{s:ae}{E:Value->ae->Prop}
theorem Inv.dv(I:Inv X ak O H s)(E:Value->ae->Prop):Inv (X.dv E) ak O H s:=⟨I.ok.dv E,I.os,I.bare,I.ao,I.loc,I.cell,I.free,I.da,I.pin,I.aE,I.len⟩
theorem Inv.fg(I:Inv (X.dv E) ak O H s):Inv X ak O H s:=⟨I.ok.fg,I.os,I.bare,I.ao,I.loc,I.cell,I.free,I.da,I.pin,I.aE,I.len⟩
theorem SP.fg{D:Ends}{f:Flow}{s':ae}(h:SP (X.dv E) ak D f s'):SP X ak D f s':=by cases f with |next=>obtain⟨σ',H',I,q⟩:=h;exact⟨σ',H',I.fg,q⟩ |brk=>obtain⟨σ',H',I,q⟩:=h;exact⟨σ',H',I.fg,q⟩ |cont=>obtain⟨σ',H',I,q⟩:=h;exact⟨σ',H',I.fg,q⟩ |ret u=>obtain⟨v,σ',H',I,r,q⟩:=h;exact⟨v,σ',H',I.fg,r,q⟩
theorem bW.ft{st:List Stmt}{t:TS}(h:bW X.ft st t):bW X st t:=λak s O H D I hw=>dr (h ak s O H D (I.dv _) hw) (λ_ _ q=>q.fg) λ_ _ z=>False.elim z
end
section
variable {X:Cx}{st:Stmt}{rest:List Stmt}{t u:TS}{e:Expr}{te:TE}{pos:Pos}
def wU:TS:=λD O H=>D.nx O H
def wJ(t u:TS):TS:=λD O H=>t {D with nx:=u D} O H
theorem bF:bW X [] wU:=λ_ _ O H _ I h=>kf ⟨O,H,I,h⟩
theorem aI(h1:PS X st t)(h2:bW X rest u):bW X (st::rest) (wJ t u):=by intro ak s O H D I h;refine wpAny_execs_cons (aF (h1 ak s O H {D with nx:=u D} I h) λf s1 q=>?_);cases f with |next=>obtain⟨σ',H',I',q⟩:=q;exact h2 ak s1 σ' H' D I' q |ret v=>exact q |brk=>exact q |cont=>exact q
theorem aY(h1:PS X st t):bW X [st] t:=by intro ak s O H D I h;refine wpAny_execs_cons (aF (h1 ak s O H D I h) λf s1 q=>?_);cases f with |next=>exact kf q |ret v=>exact q |brk=>exact q |cont=>exact q
def wK(te:TE):TS:=λD O H=>te O H D.rt
theorem bp(he:PE X e te):PS X (.Return (some e) pos) (wK te):=by intro ak s O H D I h;exact wpAny_Return_some (aF (he ak s O H _ I h) λv s1 ⟨x,H1,I1,r1,q1⟩=>⟨x,O,H1,I1,r1,q1⟩)
def x4(c:TT)(t u:TS):TS:=λD O H=>c O H λb H1=>if b=true then t D O H1 else u D O H1
theorem bG{c:Expr}{a b:List Stmt}{tc:TT}(hc:PT X c tc)(ha:bW X a t)(hb:bW X b u):PS X (.If c a b pos) (x4 tc t u):=by intro ak s O H D I h;refine wpAny_If (aF (hc ak s O H _ I h) λd s1 ⟨H1,I1,q1⟩=>?_);cases d with |true=>exact ha ak s1 O H1 D I1 q1 |false=>exact hb ak s1 O H1 D I1 q1
def qD:TS:=λ_ _ _=>False
theorem yb:PS X st qD:=λ_ _ _ _ _ _ h=>h.elim
theorem si{xh:List Stmt}:bW X xh qD:=λ_ _ _ _ _ _ h=>h.elim
end
abbrev TG:=V->St->Hp->(St->Hp->Prop)->Prop
abbrev fE:=List V->St->Hp->(St->Hp->Prop)->Prop
def PG(X:Cx)(target:Expr)(t:TG):Prop:=∀(ak:List (Addr×Obj))(s:ae)(O:St)(H:Hp)(v:V)(u:Value)(Q:St->Hp->Prop),Inv X ak O H s->RelV v u->t v O H Q->wpAny (model X.prog X.w) X.A (assign target X.env u) (λ_ s'=>∃σ' H',Inv X ak σ' H' s'/\Q σ' H') X.xe s
def k9(X:Cx)(ts:List Expr)(t:fE):Prop:=∀(ak:List (Addr×Obj))(s:ae)(O:St)(H:Hp)(vs:List V)(us:List Value)(Q:St->Hp->Prop),Inv X ak O H s->Vals vs us->t vs O H Q->wpAny (model X.prog X.w) X.A (assignInOrder ((assignEach ts X.env).map (·.2)) us) (λ_ s'=>∃σ' H',Inv X ak σ' H' s'/\Q σ' H') X.xe s
abbrev pT:=V->V->V->Hp->(Hp->Prop)->Prop
def vo(X:Cx)(t:pT):Prop:=∀(ak:List (Addr×Obj))(s:ae)(O:St)(H:Hp)(o i v:V)(ov iv u:Value)(Q:Hp->Prop),Inv X ak O H s->RelV o ov->RelV i iv->RelV v u->t o i v H Q->wpAny (model X.prog X.w) X.A (setItem ov iv u) (λ_ s'=>∃H',Inv X ak O H' s'/\Q H') X.xe s
section
variable {X:Cx} {pos:Pos}
def ei(i:Nat):TG:=λv O H Q=>Q (O.set i (some v)) H
theorem yh{i:Nat}{x:Str}(hN:X.N.Nodup)(hi:X.N[i]? =some x)(hx:Loc X.env.scope x)(hf:X.fn x=true\/X.env.scope.names.lookup x=some .local:=by first|exact .inl rfl|exact .inr rfl|assumption):PG X (.Name x pos) (ei i):=by intro ak s O H v u Q I r h;exact wpAny_assign_Name (kK I hN hi hx r (λs' I'=>⟨_,H,I',h⟩) hf)
def uw:fE:=λvs O H Q=>vs=[]/\Q O H
inductive FF(t:TG)(u:fE)(vs:List V)(O:St)(H:Hp)(Q:St->Hp->Prop):Prop |mk (v:_)(r:_)(h0:vs=v::r)(h1:t v O H λσ' H'=>u r σ' H' Q)
def pd(t:TG)(u:fE):fE:=λvs O H Q=>FF t u vs O H Q
theorem nU:k9 X [] uw:=by intro ak s O H vs us Q I r h;obtain⟨e,h⟩:=h;subst e;cases r;exact assignInOrder_nil ⟨O,H,I,h⟩
theorem fP{e:Expr}{es:List Expr}{t:TG}{u:fE}(h1:PG X e t)(h2:k9 X es u) (hs:(assignEach (e::es) X.env).map (·.2)=assign e X.env::(assignEach es X.env).map (·.2):=by rfl):k9 X (e::es) (pd t u):=by intro ak s O H vs us Q I r h;obtain⟨v,vr,e1,h⟩:=h;subst e1;cases r with |cons r rr=>rw[hs];refine assignInOrder_cons (aF (h1 ak s O H _ _ _ I r h) λ_ s1 ⟨σ1,H1,I1,q1⟩=>?_);exact h2 ak s1 σ1 H1 _ _ Q I1 rr q1
inductive FD(K:aa)(n:Nat)(t:fE)(v:V)(O:St)(H:Hp)(Q:St->Hp->Prop):Prop |mk (a:_)(xs:_)(h0:v= .ref a)(h1:bb K H a xs)(h2:xs.length=n)(h3:t xs O H Q)
def pb(K:aa)(n:Nat)(t:fE):TG:=λv O H Q=>FD K n t v O H Q
theorem yg{es:List Expr}{k:Nat}{t:fE}{n:Nat}(hc:X.calm=true)(h:k9 X es t) (hn:(assignEach es X.env).length=n:=by rfl)(d9:(assignEach es X.env).findIdx? (·.1)=none:=by rfl):PG X (.Tuple es k pos) (pb X.K n t):=by intro ak s O H v u Q I r hw;obtain⟨a,xs,e1,hq,hl,hw⟩:=hw;subst e1;cases r;obtain⟨its,rv,ht,hz⟩:=I.tuple hq;refine assign_Tuple_tuple (I.ok.hd hc) ht (by simp[hn,<-hl,rv.length]) d9 λh' hx=>?_;have I1:Inv X ak O H {s with heap:=h'}:=I.kept (t':=s.toks) λb o e=>hx b o (cy (bj e)) e;exact h ak _ O H xs _ Q I1 (by simpa using rv) hw
def CH(to ti:TE)(t:pT):TG:=λv O H Q=>to O H λo H1=>ti O H1 λi H2=>t o i v H2 λH3=>Q O H3
theorem sv{o i:Expr}{to ti:TE}{t:pT}(ho:PE X o to)(hi:PE X i ti)(hs:vo X t) (ha:∀v,assign (.Subscript o i pos) X.env v=(do
 let ov<-holding [v] (eval o X.env)
 let iv<-holding [v,ov] (eval i X.env)
 standAt pos
 holding [v,ov,iv] (setItem ov iv v)
 release [v,ov,iv] []):=by intro _;rfl):PG X (.Subscript o i pos) (CH to ti t):=by
 intro ak s O H v u Q I r h;rw[ha];refine au (eu (aF (ho ak s O H _ I h) λov s1 ⟨x,H1,I1,r1,q1⟩=>?_));refine au (eu (aF (hi ak s1 O H1 _ I1 q1) λiv s2 ⟨y,H2,I2,r2,q2⟩=>?_));refine au (wpAny_standAt (au (eu (aF (hs ak s2 O H2 x y v ov iv u _ I2 r1 r2 r q2) λ_ s3 ⟨H3,I3,q3⟩=>?_))));exact wpAny_release ⟨O,H3,I3,q3⟩
def mP(te:TE)(g:TG):TS:=λD O H=>te O H λx H1=>g x O H1 D.nx
theorem kX{tg e:Expr}{te:TE}{g:TG}(he:PE X e te)(hg:PG X tg g)(hs:swapsWithSole [tg] e pos.line X.env=pure false:=by rfl)(hw:swappedStores [tg] e X.env=pure none:=by rfl) (h1:(assignEach [tg] X.env).map (·.2)=[assign tg X.env]:=by rfl):PS X (.Assign [tg] e pos) (mP te g):=by intro ak s O H D I h;refine wpAny_Assign_stores (aF (he ak s O H _ I h) λv s1 ⟨x,H1,I1,r1,q1⟩=>?_) hs hw;rw[h1];exact aF (hg ak s1 O H1 x v _ I1 r1 q1) λ_ s2 q=>q
theorem nS{i:Nat}{x:Str}{e:Expr}{te:TE}{pos':Pos}(hN:X.N.Nodup)(hi:X.N[i]? =some x)(hx:Loc X.env.scope x)(he:PE X e te)(hs:swapsWith e (some (.Name x pos')) pos.line X.env=pure false:=by rfl)(hf:X.fn x=true\/X.env.scope.names.lookup x=some .local:=by first|exact .inl rfl|exact .inr rfl|assumption): PS X (.Assign [.Name x pos'] e pos) (mP te (ei i)):=by intro ak s O H D I h;refine wpAny_Assign_Name (aF (he ak s O H _ I h) λv s1 ⟨y,H1,I1,r1,q1⟩=>?_) hs;exact kK I1 hN hi hx r1 (λs2 I2=>⟨_,H1,I2,q1⟩) hf
def qB(c:TT)(tb:TS):TS:=λD O H=>∃W:Nat->St->Hp->Prop,(∃m,W m O H)/\∀m O H,W m O H->c O H λb H1=>if b=true then∃N:St->Hp->Prop,(∀σ' H',N σ' H'->∃m',m'<m/\W m' σ' H')/\tb {D with nx:=N,ct:=N,bk:=D.nx} O H1 else D.nx O H1
theorem y9{c:Expr}{body:List Stmt}{tc:TT}{tb:TS}(hp:PassesOwn (model X.prog X.w) X.A X.env X.xe)(hc:PT X c tc)(hb:bW X body tb):PS X (.While c body [] pos) (qB tc tb):=by intro ak s O H D I h;obtain⟨W,⟨m0,w0⟩,turn⟩:=h;refine wpAny_While (codeAny_whileLoop (λn s'=>∃σ' H',Inv X ak σ' H' s'/\W n σ' H') ?_ m0 ⟨O,H,I,w0⟩);rintro n s1 ⟨σ1,H1,I1,w1⟩;refine iY hp (aF (hc ak s1 σ1 H1 _ I1 (turn n σ1 H1 w1)) λb s2 ⟨H2,I2,q2⟩=>?_);cases b with
 |true=>obtain⟨N,hN,q2⟩:=q2;rw[bc rfl];refine iY hp (aF (hb ak s2 σ1 H2 _ I2 q2) λf s3 q3=>?_);cases f with |next=>obtain⟨σ3,H3,I3,n3⟩:=q3;obtain⟨m',hm,w3⟩:=hN σ3 H3 n3;exact⟨m',hm,σ3,H3,I3,w3⟩ |cont=>obtain⟨σ3,H3,I3,n3⟩:=q3;obtain⟨m',hm,w3⟩:=hN σ3 H3 n3;exact⟨m',hm,σ3,H3,I3,w3⟩ |brk=>exact q3 |ret v=>exact q3
 |false=>rw[bf cB];exact kf ⟨σ1,H2,I2,q2⟩
end
structure It where
 go:Nat->Hp->Prop
 gj:Nat->Hp->V->Hp->Prop
 stop:Nat->Hp->Prop
def fG(X:Cx)(ak:List (Addr×Obj))(H:Hp)(b:Addr):Prop:=H b=none/\b≠X.env.locals/\b∉X.fs/\(b∈X.ex\/X.s₀.heap.objs.size<=b)/\(∀x c,X.env.cells.lookup x=some c->c≠b)/\∀p∈X.pn++ak,p.1≠b
theorem Inv.pw{X:Cx}{ak:List (Addr×Obj)}{O:St}{H H':Hp}{s:ae}{b:Addr}(I:Inv X ak O H s)(hb:s.heap.objs.size<=b)(hn:H' b=none):fG X ak H' b:=by
 refine⟨hn,qd (cZ I.lt hb),I.zF hb,.inr (dC I.sz hb),λx c e z=>?_,λp hp z=>?_⟩
 ·obtain⟨v,q⟩:=I.cell x c e
  exact absurd (cZ q.lt (by rw[z];exact hb)) (j4 _)
 ·exact absurd (cZ (bj (I.pin p hp).1) (by rw[z];exact hb)) (j4 _)
structure Turn(P:af)(w:World)(K:aa)(tg:Expr)(J:It)(fp:List Addr)(it:Addr)(tn:Nat->Heap->Prop):Prop where
 mem:it∈fp
 obj:∀i h,tn i h->∀b∈fp,∃o,h.get? b=some o/\∀v,o.data≠ .cell v
 keep:∀i h h',tn i h->(∀b∈fp,∀o,h.get? b=some o->h'.get? b=some o)->tn i h'
 item:∀(X:Cx),X.prog=P->X.w=w->X.K=K->X.calm=true->∀(i:Nat)(ak:List (Addr×Obj))(s:ae)(O:St)(H:Hp)(E:Value->ae->Prop),Inv X ak O H s->(∀b∈fp,fG X ak H b)->tn i s.heap->J.go i H->wpAny (model P w) X.A (pyNext (.ref it)) (λr s1=>∃u,r=some u/\wpAny (model P w) X.A (letOwnedTupleGo tg (.ref it) u) (λ_ s2=>∃x H',Inv X ak O H' s2/\RelV x u/\J.gj i H x H'/\tn (i+1) s2.heap/\∀b∈fp,H' b=none) E s1) E s
 done:∀(X:Cx),X.prog=P->X.w=w->X.K=K->X.calm=true->∀(i:Nat)(ak:List (Addr×Obj))(s:ae)(O:St)(H:Hp)(E:Value->ae->Prop),Inv X ak O H s->(∀b∈fp,fG X ak H b)->tn i s.heap->J.stop i H->wpAny (model P w) X.A (pyNext (.ref it)) (λr s1=>r=none/\Inv X ak O H s1) E s
 self:∀(A:ai)(i:Nat)(s:ae)(Q:Value->ae->Prop)(E:Value->ae->Prop),tn i s.heap->Q (.ref it) s->wpAny (model P w) A (pyIter (.ref it)) Q E s
abbrev TI:=St->Hp->(It->Hp->Prop)->Prop
def vq(X:Cx)(ak:List (Addr×Obj))(O:St)(tg:Expr)(R:It->Hp->Prop)(oy:Value)(s2:ae):Prop:=∃(it:Addr)(fp:List Addr)(tn:Nat->Heap->Prop)(J:It)(H':Hp),oy= .ref it/\Inv X ak O H' s2/\Turn X.prog X.w X.K tg J fp it tn/\tn 0 s2.heap/\(∀b∈fp,fG X ak H' b)/\R J H'
def PI(X:Cx)(tg iter:Expr)(wi:TI):Prop:=∀(ak:List (Addr×Obj))(s:ae)(O:St)(H:Hp)(R:It->Hp->Prop),Inv X ak O H s->wi O H R->wpAny (model X.prog X.w) X.A (eval iter X.env) (λv s1=>wpAny (model X.prog X.w) X.A (pyIter v) (vq X ak O tg R) X.xe s1) X.xe s
theorem uu{M:Model}{A:ai}{E:Value->ae->Prop}{s:ae}{tg:Expr}{it:Addr}{u:Value}{o:Obj}{n:String}{vs:Array Value}{Q:Unit->ae->Prop}(ho:s.heap.get? it=some o)(hc:o.cls= .type n)(hd:o.data= .fields vs) (hn:["enumerate","zip","dict_itemiterator","dict_reverseitemiterator","odict_iterator","itertools.zip_longest","itertools.pairwise"].contains n=false)(hQ:Q () s):wpAny M A (letOwnedTupleGo tg (.ref it) u) Q E s:=by unfold letOwnedTupleGo;cases tg<;>first |exact aZ hQ |(cases u<;>first
        |exact aZ hQ
        | (refine au (wpAny_load ho ?_)
           rw[hc,hd];show wpAny M A (if(["enumerate","zip","dict_itemiterator","dict_reverseitemiterator","odict_iterator","itertools.zip_longest","itertools.pairwise"].contains n&&vs[0]? ==some (rawInt _))=true then _ else _) Q E s;rw[bf (by intro h;rw[hn,cS]at h;cases h)];exact aZ hQ))
def mj(K:aa)(a:Addr):It:=⟨λi H=>∃xs x,bb K H a xs/\xs[i]? =some x,λi H x H'=>H'=H/\∀xs,bb K H a xs->xs[i]? =some x,λi H=>∃xs,bb K H a xs/\xs.length<=i⟩
def iX(lo:Int)(n:Nat):It:=⟨λi _=>i<n,λi H x H'=>H'=H/\x= .int (lo+i),λi _=>n<=i⟩
theorem wy{P:af}{w:World}{K:aa}{tg:Expr}(a it:Addr):Turn P w K tg (mj K a) [it] it (λi h=>h.IsTupleIter it a i) where
 mem:=by simp
 obj:=λi h st b hb=>by
  have e:b=it:=by simpa using hb
  subst e;obtain⟨o,e,c,d⟩:=st;exact⟨o,e,λv z=>by rw[d]at z;cases z⟩
 keep:=λi h h' st k=>st.at λo e=>k it (by simp) o e
 item:=by intro X hP hw hK hc i ak s O H E I hf st hg;subst hP hw hK;obtain⟨xs,x,hq,hx⟩:=hg;obtain⟨its,rv,p,hz⟩:=I.tuple hq;obtain⟨u,hu,ru⟩:=rv.get hx;obtain⟨f0,f1,f2,f3,f4,f5⟩:=hf it (by simp);refine wpAny_pyNext_tuple_item st (show s.heap.IsTuple a its.toArray from p) (x:=u) (by simpa using hu) λh' fL sb=>?_;have I1:Inv X ak O H {s with heap:=h'}:=I.turned (t':=s.toks) (λb o hb e=>(sb.2 b hb).trans e) f0 f1 f3 f4 f5;obtain⟨o,e,c,d⟩:=id fL;exact⟨u,Z,uu (s:={s with heap:=h'}) e c d aw ⟨x,H,I1,ru,⟨Z,λys hy=>by rw[I.qA hy hq];exact hx⟩,fL,λb hb=>(hf b hb).1⟩⟩
 done:=by intro X hP hw hK hc i ak s O H E I hf st hg;subst hP hw hK;obtain⟨xs,hq,hx⟩:=hg;obtain⟨its,rv,p,hz⟩:=I.tuple hq;obtain⟨f0,f1,f2,f3,f4,f5⟩:=hf it (by simp);have hl:=rv.length;exact wpAny_pyNext_tuple_end (I.ok.hd hc) st (show s.heap.IsTuple a its.toArray from p) (by simp;lia) λh' eb=>⟨Z,I.turned (t':=s.toks) (λb o hb e=>eb b o hb e) f0 f1 f3 f4 f5⟩
 self:=λ_ _ _ _ _ st h=>wpAny_pyIter_tupleiter st h
theorem wz{P:af}{w:World}{K:aa}{tg:Expr}(it:Addr)(lo:Int)(n:Nat):Turn P w K tg (iX lo n) [it] it (λi h=>IsRangeIter h it (lo+(i:Nat)*1) ((n:Int)-(i:Nat)) 1) where
 mem:=by simp
 obj:=λi h st b hb=>by
  have e:b=it:=by simpa using hb
  subst e;exact⟨_,st,λv z=>by have z':Data.fields _=Data.cell v:=z;cases z'⟩
 keep:=λi h h' st k=>k it (by simp) _ st
 item:=by intro X hP hw hK hc i ak s O H E I hf st hg;subst hP hw hK;obtain⟨f0,f1,f2,f3,f4,f5⟩:=hf it (by simp);have W:=Walks.range (prog:=X.prog) (w:=X.w) (I.ok.hd hc) it lo 1 n;refine W.item i s _ _ hg st λv h' tk hv fL kk=>?_;obtain⟨t,rfl⟩:=hv;have I1:Inv X ak O H {s with heap:=h',toks:=tk}:=I.turned (λb o hb e=>kk b o (by simpa using hb) e) f0 f1 f3 f4 f5;refine⟨_,Z,uu (s:={s with heap:=h',toks:=tk}) (n:="range_iterator") fL rfl rfl aw ⟨.int (lo+i),H,I1,⟨t,?_⟩,⟨Z,Z⟩,fL,λb hb=>(hf b hb).1⟩⟩;rw[Int.mul_one]
 done:=by intro X hP hw hK hc i ak s O H E I hf st hg;subst hP hw hK;obtain⟨f0,f1,f2,f3,f4,f5⟩:=hf it (by simp);exact wpAny_pyNext_range_end (I.ok.hd hc) st (by have:n<=i:=hg;lia) λh' eb=>⟨Z,I.turned (t':=s.toks) (λb o hb e=>eb b o hb e) f0 f1 f3 f4 f5⟩
 self:=λ_ _ _ _ _ st h=>wpAny_pyIter_rangeiter st h
section
variable {X:Cx} {tg:Expr}
inductive Fz(K:aa)(R:It->Hp->Prop)(x:V)(H1:Hp):Prop |mk (a:_)(h0:x= .ref a)(h1:(∃xs,bb K H1 a xs))(h2:R (mj K a) H1)
def tV(K:aa)(tl:TE):TI:=λO H R=>tl O H λx H1=>Fz K R x H1
theorem yf{l:Expr}{tl:TE}(hl:PE X l tl):PI X tg l (tV X.K tl):=by
 intro ak s O H R I h;refine aF (hl ak s O H _ I h) λv s1 ⟨x,H1,I1,r1,q1⟩=>?_;obtain⟨a,e,⟨xs,hq⟩,q⟩:=q1;subst e;cases r1;obtain⟨its,rv,p,hz⟩:=I1.tuple hq;refine wpAny_pyIter_tuple (show s1.heap.IsTuple a its.toArray from p) ?_;refine⟨s1.heap.objs.size,[s1.heap.objs.size],_,_,H1,Z,I1.kept (t':=s1.toks) λb o e=>bu _ e,wy a _,⟨_,cA _ Z,Z,Z⟩,λb hb=>?_,q⟩;have e:b=s1.heap.objs.size:=by simpa using hb
 subst e;exact I1.pw (br _) (I1.aE.fresh (br _))
theorem xM{ak:List (Addr×Obj)}{O:St}{H:Hp}{s:ae}{R:It->Hp->Prop}{E:Value->ae->Prop}{lo hi:Int}{t u v:Tok}{tk:Nat}(I:Inv X ak O H s)(h1:-(2^62)<=lo)(h2:lo<2^62)(h3:-(2^62)<=hi)(h4:hi<2^62) (q:R (iX lo (hi-lo).toNat) H):wpAny (model X.prog X.w) X.A (pyIter (.ref s.heap.objs.size)) (vq X ak O tg R) E {s with heap:=s.heap.push {cls:=.type "range",data:=.fields #[.int lo t,.int hi u,.int 1 v]},toks:=tk}:=by
 refine wpAny_pyIter_range (IsRange.new ..) (small_one h1 h2 h3 h4) ?_;have I1:Inv X ak O H {s with heap:=s.heap.push {cls:=.type "range",data:=.fields #[.int lo t,.int hi u,.int 1 v]},toks:=tk}:=I.kept λb o e=>bu _ e;refine⟨(s.heap.push {cls:=.type "range",data:=.fields #[.int lo t,.int hi u,.int 1 v]}).objs.size,[(s.heap.push {cls:=.type "range",data:=.fields #[.int lo t,.int hi u,.int 1 v]}).objs.size],_,_,H,Z,I1.kept (t':=tk) λb o e=>bu _ e,wz _ lo (hi-lo).toNat,?_,λb hb=>?_,q⟩
 ·have e1:lo+((0:Nat):Int)*1=lo:=by simp
  have e2:(((hi-lo).toNat:Nat):Int)-((0:Nat):Int)=Builtin.Range.rangeSize lo hi 1:=by rw[rangeSize_one];split<;>lia
  show IsRangeIter _ _ (lo+((0:Nat):Int)*1) ((((hi-lo).toNat:Nat):Int)-((0:Nat):Int)) 1;rw[e1,e2];exact cA _ rfl
 ·have e:b=(s.heap.push {cls:=.type "range",data:=.fields #[.int lo t,.int hi u,.int 1 v]}).objs.size:=by simpa using hb
  subst e;exact I1.pw (br _) (I1.aE.fresh (br _))
inductive FC(R:It->Hp->Prop)(vs:List V)(H1:Hp):Prop |mk (j:Int)(h0:vs=[.int j])(h1:-(2^62)<=j)(h2:j<2^62)(h3:R (iX 0 j.toNat) H1)
def Az(ta:TA):TI:=λO H R=>ta O H λvs H1=>FC R vs H1
theorem kY{a:Expr}{ta:TA}{p pos:Pos}(hg:Gl X "range")(hm:X.mg "range"=none)(ha:PA X [a] ta)(hs:starEach [a] X.env=[(false,eval a X.env)]:=by rfl):PI X tg (.Call (.Name "range" p) [a] [] pos) (Az ta):=by intro ak s O H R I h;refine Call_ (jD I hg hm boot_range (vP (aF (ha pos ak s O H _ I h) λus s1 ⟨vs,H1,I1,r1,q1⟩=>?_) hs Z));obtain⟨j,e,q1,q2,q⟩:=q1;subst e;cases r1 with |cons r rr=>cases rr;obtain⟨t,rfl⟩:=r;exact call_range_1 (xM I1 aV aV q1 q2 (by simpa using q))
def x5(wi:TI)(g:TG)(tb:TS):TS:=λD O H=>wi O H λJ H1=>∃W:Nat->Nat->St->Hp->Prop,(∃m,W 0 m O H1)/\∀i m O H,W i m O H->(J.stop i H/\D.nx O H)\/(J.go i H/\∃N:St->Hp->Prop,(∀σ' H',N σ' H'->∃m',m'<m/\W (i+1) m' σ' H')/\∀x H',J.gj i H x H'->g x O H' λσ2 H2=>tb {D with nx:=N,ct:=N,bk:=D.nx} σ2 H2)
def jm(fp:List Addr)(h:Heap):List (Addr×Obj):=fp.filterMap λb=>(h.get? b).map λo=>(b,o)
theorem lu{fp:List Addr}{h:Heap}{b:Addr}{o:Obj}(hb:b∈fp)(e:h.get? b=some o):(b,o)∈jm fp h:=j6.mpr ⟨b,hb,by rw[e];rfl⟩
theorem zt{fp:List Addr}{h:Heap}{p:Addr×Obj}(hp:p∈jm fp h):p.1∈fp/\h.get? p.1=some p.2:=by obtain⟨b,hb,e⟩:=j6.mp hp;cases q:h.get? b with |none=>rw[q]at e;cases e |some o=>rw[q]at e;have e':(b,o)=p:=cH e;subst e';exact⟨hb,q⟩
theorem Inv.pinned{ak:List (Addr×Obj)}{O:St}{H:Hp}{s:ae}{fp:List Addr}(I:Inv X ak O H s)(hf:∀b∈fp,fG X ak H b)(ho:∀b∈fp,∃o,s.heap.get? b=some o/\∀v,o.data≠ .cell v):Inv X (ak++jm fp s.heap) O H s:=I.sr λp hp=>(qj.mp hp).elim (λz=>I.pin p (gd _ z)) λz=>by obtain⟨hb,e⟩:=zt z;obtain⟨f0,f1,f2,_⟩:=hf p.1 hb;obtain⟨o,e',d⟩:=ho p.1 hb;rw[e]at e';cases e';exact⟨e,f0,f1,f2,d⟩
theorem Inv.kA{ak pl:List (Addr×Obj)}{O:St}{H:Hp}{s:ae}(I:Inv X (ak++pl) O H s):Inv X ak O H s:=I.sr λp hp=>I.pin p (gd _ (vU _ hp))
theorem sk{iter:Expr}{body:List Stmt}{wi:TI}{g:TG}{tb:TS}{pos:Pos}(hp:PassesOwn (model X.prog X.w) X.A X.env X.xe)(hc:X.calm=true)(hi:PI X tg iter wi)(hg:PG X tg g)(hb:bW X body tb) (hs:∀x,foldedSetIterable iter X.env x=pure x:=by intro _;rfl):PS X (.For tg iter body [] pos) (x5 wi g tb):=by
 intro ak s O H D I h;refine wpAny_For (aF (hi ak s O H _ I h) λv s1 h1=>aF h1 λoy s2 h2=>?_) hs;obtain⟨it,fp,tn,J,H2,e,I2,T,kM,f2,W,⟨m0,w0⟩,turn⟩:=h2;subst e;have gT:∀{H':Hp},(∀b∈fp,H' b=none)->∀b∈fp,fG X ak H' b:=λhn b hb=>⟨hn b hb,(f2 b hb).2⟩;refine codeAny_forLoop_any (λn s'=>∃i σ' H',Inv X ak σ' H' s'/\tn i s'.heap/\(∀b∈fp,H' b=none)/\W i n σ' H') ?_ m0 ⟨0,O,H2,I2,kM,λb hb=>(f2 b hb).1,w0⟩;rintro n s3 ⟨i,σ3,H3,I3,qK,uA,w3⟩;rcases turn i n σ3 H3 w3 with⟨stop,qn⟩|⟨go,N,hN,step⟩
 ·refine iY hp (aF (T.done X Z Z Z hc i ak s3 σ3 H3 X.xe I3 (gT uA) qK stop) λr s4 ⟨hr,I4⟩=>?_)
  subst hr;exact kf ⟨σ3,H3,I4,qn⟩
 ·refine iY hp (aF (T.item X Z Z Z hc i ak s3 σ3 H3 X.xe I3 (gT uA) qK go) λr s4 ⟨u,hr,h4⟩=>?_)
  subst hr;refine iY hp (aF h4 λ_ s5 ⟨x,H5,I5,r5,y5,iG,lS⟩=>?_);have FN:=I5.pinned (gT lS) (T.obj _ _ iG);refine iY hp (aF (hg _ s5 σ3 H5 x u _ FN r5 (step x H5 y5)) λ_ s6 ⟨σ6,H6,I6,q6⟩=>?_);refine iY hp (aF (hb _ s6 σ6 H6 _ I6 q6) λf s7 q7=>?_);have again:∀{σ7:St}{H7:Hp},Inv X (ak++jm fp s5.heap) σ7 H7 s7->N σ7 H7->∃m,m<n/\∃i σ' H',Inv X ak σ' H' s7/\tn i s7.heap/\(∀b∈fp,H' b=none)/\W i m σ' H':=λ{σ7 H7} I7 n7=>by obtain⟨m',hm,w7⟩:=hN σ7 H7 n7;refine⟨m',hm,i+1,σ7,H7,I7.kA,T.keep _ _ _ iG λb hb o e=>(I7.pin (b,o) (gd _ (gd _ (lu hb e)))).1,λb hb=>?_,w7⟩;obtain⟨o,e,d⟩:=T.obj _ _ iG b hb;exact(I7.pin (b,o) (gd _ (gd _ (lu hb e)))).2.1
  cases f with |next=>obtain⟨σ7,H7,I7,n7⟩:=q7;exact again I7 n7 |cont=>obtain⟨σ7,H7,I7,n7⟩:=q7;exact again I7 n7 |brk=>obtain⟨σ7,H7,I7,q7⟩:=q7;exact⟨σ7,H7,I7.kA,q7⟩ |ret v=>obtain⟨x7,σ7,H7,I7,r7,q7⟩:=q7;exact⟨x7,σ7,H7,I7.kA,r7,q7⟩
end
theorem uB{lo:Int}{n:Nat}{g:TG}{tb:TS}{D:Ends}{O:St}{H:Hp}(Pv:Nat->St->Hp->Prop)(h0:Pv 0 O H) (hs:∀i O H,i<n->Pv i O H->g (.int (lo+i)) O H λσ2 H2=>tb {D with nx:=Pv (i+1),ct:=Pv (i+1),bk:=D.nx} σ2 H2)(hd:∀O H,Pv n O H->D.nx O H): ∃W:Nat->Nat->St->Hp->Prop,(∃m,W 0 m O H)/\∀i m O H,W i m O H->((iX lo n).stop i H/\D.nx O H)\/((iX lo n).go i H/\∃N:St->Hp->Prop,(∀σ' H',N σ' H'->∃m',m'<m/\W (i+1) m' σ' H')/\∀x H',(iX lo n).gj i H x H'->g x O H' λσ2 H2=>tb {D with nx:=N,ct:=N,bk:=D.nx} σ2 H2):=by
 refine⟨λi m O H=>m=n-i/\i<=n/\Pv i O H,⟨n,by simp,iA _,h0⟩,?_⟩;rintro i m O H ⟨rfl,hi,p⟩;by_cases cP:i<n
 ·refine .inr ⟨cP,Pv (i+1),λσ' H' p'=>⟨n-(i+1),aV,Z,cP,p'⟩,λx H' y=>?_⟩
  obtain⟨e,y⟩:=y;subst e y;exact hs i O _ cP p
 ·have e:i=n:=by lia
  subst e;exact .inl ⟨br _,hd O H p⟩
theorem wb{c:TT}{tb:TS}{D:Ends}{O:St}{H:Hp}(Pv:St->Hp->Prop)(μ:St->Hp->Nat)(h0:Pv O H) (hs:∀O H,Pv O H->c O H λb H1=>if b=true then tb {D with nx:=λσ' H'=>Pv σ' H'/\μ σ' H'<μ O H,ct:=λσ' H'=>Pv σ' H'/\μ σ' H'<μ O H,bk:=D.nx} O H1 else D.nx O H1) (mono:∀O H Q Q',(∀b H1,Q b H1->Q' b H1)->c O H Q->c O H Q'):qB c tb D O H:=by refine⟨λm O H=>m=μ O H/\Pv O H,⟨_,Z,h0⟩,?_⟩;rintro m O H ⟨rfl,p⟩;refine mono O H _ _ (λb H1 q=>?_) (hs O H p);cases b with |true=>exact⟨_,λσ' H' ⟨p',l⟩=>⟨_,l,Z,p'⟩,q⟩ |false=>exact q
abbrev R2:=V->V->Hp->VK->Prop
def bD(X:Cx)(f:Value->Value->Sem Value)(r:R2):Prop:=∀(ak:List (Addr×Obj))(s:ae)(O:St)(H:Hp)(x y:V)(v u:Value)(Q:VK),Inv X ak O H s->RelV x v->RelV y u->r x y H Q->wpAny (model X.prog X.w) X.A (f v u) (EP X ak O Q) X.xe s
def pQ(X:Cx)(f:Value->Sem Value)(r:V->Hp->VK->Prop):Prop:=∀(ak:List (Addr×Obj))(s:ae)(O:St)(H:Hp)(x:V)(v:Value)(Q:VK),Inv X ak O H s->RelV x v->r x H Q->wpAny (model X.prog X.w) X.A (f v) (EP X ak O Q) X.xe s
def cn(X:Cx)(f:Value)(r:List V->Hp->VK->Prop):Prop:=∀(ak:List (Addr×Obj))(s:ae)(O:St)(H:Hp)(xs:List V)(us:List Value)(Q:VK),Inv X ak O H s->Vals xs us->r xs H Q->wpAny (model X.prog X.w) X.A (call f us) (EP X ak O Q) X.xe s
def En(X:Cx)(r:V->Hp->(Bool->Hp->Prop)->Prop):Prop:=∀(ak:List (Addr×Obj))(s:ae)(O:St)(H:Hp)(x:V)(v:Value)(Q:Bool->Hp->Prop),Inv X ak O H s->RelV x v->r x H Q->wpAny (model X.prog X.w) X.A (truthy v) (TP X ak O Q) X.xe s
def kE(r:R2)(ta tb:TE):TE:=λO H Q=>ta O H λx H1=>tb O H1 λy H2=>r x y H2 Q
def wD(r:V->Hp->VK->Prop)(ta:TE):TE:=λO H Q=>ta O H λx H1=>r x H1 Q
inductive Ft(C:Int->Int->Prop)(g:Int->Int->V)(x:V)(y:V)(H:Hp)(Q:VK):Prop |mk (i:_)(j:_)(h0:x= .int i)(h1:y= .int j)(h2:C i j)(h3:Q (g i j) H)
def rI(C:Int->Int->Prop)(g:Int->Int->V):R2:=λx y H Q=>Ft C g x y H Q
inductive Fs(g:Int->Int->V)(x:V)(y:V)(H:Hp)(Q:VK):Prop |mk (i:_)(j:_)(h0:x= .int i)(h1:y= .int j)(h2:Q (g i j) H)
def dU(g:Int->Int->V):R2:=λx y H Q=>Fs g x y H Q
inductive F3(g:Int->V)(x:V)(H:Hp)(Q:VK):Prop |mk (i:_)(h0:x= .int i)(h1:Q (g i) H)
def rU(g:Int->V):V->Hp->VK->Prop:=λx H Q=>F3 g x H Q
section
variable {X:Cx}{a b c:Expr}{ta tb tc:TE}{pos:Pos}
theorem vc(ha:PE X a ta)(hb:PE X b tb){ak:List (Addr×Obj)}{s:ae}{O:St}{H:Hp}{R:V->V->Hp->Prop}(I:Inv X ak O H s) (h:ta O H λx H1=>tb O H1 λy H2=>R x y H2){Q:Value->ae->Prop}{f:Value->Value->Sem Value} (hf:∀v u s2 x y H2,Inv X ak O H2 s2->RelV x v->RelV y u->R x y H2->wpAny (model X.prog X.w) X.A (f v u) Q X.xe s2): wpAny (model X.prog X.w) X.A (eval a X.env) (λv s₁=>wpAny (model X.prog X.w) X.A (eval b X.env) (λu s₂=>wpAny (model X.prog X.w) X.A (f v u) Q X.xe s₂) X.xe s₁) X.xe s:=by refine aF (ha ak s O H _ I h) λv s1 ⟨x,H1,I1,r1,q1⟩=>?_;refine aF (hb ak s1 O H1 _ I1 q1) λu s2 ⟨y,H2,I2,r2,q2⟩=>?_;exact hf v u s2 x y H2 I2 r1 r2 q2
theorem bh{op:Operator}{r:R2}(ho:bD X (binaryOp op) r)(ha:PE X a ta)(hb:PE X b tb):PE X (.BinOp a op b pos) (kE r ta tb):=by intro ak s O H Q I h;exact wpAny_BinOp (vc ha hb I h λv u s2 x y H2 I2 rx ry q=>ho ak s2 O H2 x y v u Q I2 rx ry q)
theorem kZ{op:UnaryOp}{r:V->Hp->VK->Prop}(ho:pQ X (unaryOp op) r)(ha:PE X a ta):PE X (.UnaryOp op a pos) (wD r ta):=by intro ak s O H Q I h;exact UnaryOp_ (aF (ha ak s O H _ I h) λv s1 ⟨x,H1,I1,r1,q1⟩=>ho ak s1 O H1 x v Q I1 r1 q1)
theorem la{f:Value->Value->Sem Value}{C:Int->Int->Prop}{g:Int->Int->Int} (rule:∀(i j:Int)(t u:Tok)(s:ae)(Q:Value->ae->Prop)(E:Value->ae->Prop),C i j->Q (.int (g i j) s.toks) {s with toks:=s.toks+1}->wpAny (model X.prog X.w) X.A (f (.int i t) (.int j u)) Q E s): bD X f (rI C λi j=>.int (g i j)):=by intro ak s O H x y v u Q I rx ry h;obtain⟨i,j,rfl,rfl,hc,q⟩:=h;obtain⟨t,rfl⟩:=rx;obtain⟨t',rfl⟩:=ry;exact rule i j t t' s _ _ hc ⟨.int (g i j),H,I.tok _,⟨_,Z⟩,q⟩
theorem yP{f:Value->Value->Sem Value}{g:Int->Int->Int} (rule:∀(i j:Int)(t u:Tok)(s:ae)(Q:Value->ae->Prop)(E:Value->ae->Prop),Q (.int (g i j) s.toks) {s with toks:=s.toks+1}->wpAny (model X.prog X.w) X.A (f (.int i t) (.int j u)) Q E s): bD X f (dU λi j=>.int (g i j)):=by intro ak s O H x y v u Q I rx ry h;obtain⟨i,j,rfl,rfl,q⟩:=h;obtain⟨t,rfl⟩:=rx;obtain⟨t',rfl⟩:=ry;exact rule i j t t' s _ _ ⟨.int (g i j),H,I.tok _,⟨_,Z⟩,q⟩
theorem jt{f:Value->Value->Sem Value}{g:Int->Int->Bool} (rule:∀(i j:Int)(t u:Tok)(s:ae)(Q:Value->ae->Prop)(E:Value->ae->Prop),Q (.bool (g i j)) s->wpAny (model X.prog X.w) X.A (f (.int i t) (.int j u)) Q E s): bD X f (dU λi j=>.bl (g i j)):=by intro ak s O H x y v u Q I rx ry h;obtain⟨i,j,rfl,rfl,q⟩:=h;obtain⟨t,rfl⟩:=rx;obtain⟨t',rfl⟩:=ry;exact rule i j t t' s _ _ ⟨.bl (g i j),H,I,Z,q⟩
def FQ(i j:Int):Prop:=0<=j/\j<=1000000/\i.natAbs<2^64
theorem dz:bD X (binaryOp .Add) (dU λi j=>.int (i+j)):=yP λ_ _ _ _ _ _ _ q=>add_int q
theorem iI:bD X (binaryOp .Mod) (rI (λ_ j=>0<j) λi j=>.int (i%j)):=la λi j _ _ _ _ _ hc q=>by have h1:(0:Int)<j:=hc;exact mod_int' aV (by rw[Int.fmod_eq_emod_of_nonneg i aV];exact q)
theorem l8:bD X (binaryOp .Pow) (rI FQ λi j=>.int (i^j.toNat)):=la λ_ _ _ _ _ _ _ hc q=>pow_int_small hc.1 hc.2.1 hc.2.2 q
theorem wo{f:Value->Sem Value}{g:Int->Int} (rule:∀(i:Int)(t:Tok)(s:ae)(Q:Value->ae->Prop)(E:Value->ae->Prop),Q (.int (g i) s.toks) {s with toks:=s.toks+1}->wpAny (model X.prog X.w) X.A (f (.int i t)) Q E s): pQ X f (rU λi=>.int (g i)):=by intro ak s O H x v Q I rx h;obtain⟨i,rfl,q⟩:=h;obtain⟨t,rfl⟩:=rx;exact rule i t s _ _ ⟨.int (g i),H,I.tok _,⟨_,Z⟩,q⟩
theorem kB:pQ X (unaryOp .USub) (rU λi=>.int (-i)):=wo λ_ _ _ _ _ q=>neg_int q
end
def xA:V->V->Bool | .aK,.aK=>true| .aK,.int _=>true| .int _,.aK=>true| .aK,.bl _=>true| .bl _,.aK=>true| .aK,.str _=>true| .str _,.aK=>true | .int _,.int _=>true| .bl _,.bl _=>true| .str _,.str _=>true| .eo _,.eo _=>true | .int _,.str _=>true| .str _,.int _=>true| .bl _,.str _=>true| .str _,.bl _=>true |_,_=>false
def xS:R2:=λx y H Q=>xA x y=true/\Q (.bl (!decide (x=y))) H
theorem Dy{i j:Int}:decide (V.int i=V.int j)=(i==j):=by rw[iC];simp
theorem DB{i j:Bool}:decide (V.bl i=V.bl j)=(i==j):=by rw[iC];simp
theorem Dx{i j:Str}:decide (V.str i=V.str j)=(i==j):=by rw[iC];simp
theorem Dz{i j:Array UInt8}:decide (V.eo i=V.eo j)=(i.toList==j.toList):=by rw[iC];cases i;cases j;simp
section
variable {X:Cx}{a b c:Expr}{ta tb tc:TE}{pos:Pos}
theorem dc{ak:List (Addr×Obj)}{O:St}{H:Hp}{s:ae}{Q:VK}{k k':Bool}(I:Inv X ak O H s)(q:Q (.bl k) H)(e:k=k'):EP X ak O Q (.bool k') s:=by subst e;exact⟨.bl k,H,I,Z,q⟩
theorem sI:bD X (compareOp .NotEq) xS:=by intro ak s O H x y v u Q I rx ry h;obtain⟨hs,q⟩:=h;cases x with
 |aK=>cases rx;cases y with |aK=>cases ry;exact PySem.EqNone.ne_none_none (dc I q (by simp)) |bl j=>cases ry;exact PySem.EqNone.ne_none_bool (dc I q (by simp)) |int j=>obtain⟨t',rfl⟩:=ry;exact PySem.EqNone.ne_none_int (dc I q (by simp)) |str j=>obtain⟨t',rfl⟩:=ry;exact PySem.EqNone.ne_none_str (dc I q (by simp)) |_=>exact absurd (show false=true from hs) cB
 |bl i=>cases rx;cases y with |aK=>cases ry;exact PySem.EqNone.ne_bool_none (dc I q (by simp)) |bl j=>cases ry;exact ne_bool (dc I q (gO not DB)) |str j=>obtain⟨t',rfl⟩:=ry;exact PySem.EqMixed.ne_bool_str (dc I q (by simp)) |_=>exact absurd (show false=true from hs) cB
 |int i=>obtain⟨t,rfl⟩:=rx;cases y with |aK=>cases ry;exact PySem.EqNone.ne_int_none (dc I q (by simp)) |int j=>obtain⟨t',rfl⟩:=ry;exact ne_int (dc I q (gO not Dy)) |str j=>obtain⟨t',rfl⟩:=ry;exact PySem.EqMixed.ne_int_str (dc I q (by simp)) |_=>exact absurd (show false=true from hs) cB
 |str i=>obtain⟨t,rfl⟩:=rx;cases y with |aK=>cases ry;exact PySem.EqNone.ne_str_none (dc I q (by simp)) |bl j=>cases ry;exact PySem.EqMixed.ne_str_bool (dc I q (by simp)) |int j=>obtain⟨t',rfl⟩:=ry;exact PySem.EqMixed.ne_str_int (dc I q (by simp)) |str j=>obtain⟨t',rfl⟩:=ry;exact ne_str (dc I q (gO not Dx)) |_=>exact absurd (show false=true from hs) cB
 |eo i=>obtain⟨t,rfl⟩:=rx;cases y with |eo j=>obtain⟨t',rfl⟩:=ry;exact PySem.W.ne_bytes (dc I q (gO not Dz)) |_=>exact absurd (show false=true from hs) cB
 |_=>cases y<;>exact absurd (show false=true from hs) cB
theorem nY:bD X (compareOp .Lt) (dU λi j=>.bl (decide (i<j))):=jt λ_ _ _ _ _ _ _ q=>lt_int q
theorem l9:bD X (compareOp .LtE) (dU λi j=>.bl (decide (i<=j))):=jt λ_ _ _ _ _ _ _ q=>le_int q
theorem yK:bD X (compareOp .Gt) (dU λi j=>.bl (decide (j<i))):=jt λ_ _ _ _ _ _ _ q=>gt_int q
theorem bD.or{f:Value->Value->Sem Value}{r r':R2}(h:bD X f r)(h':bD X f r'):bD X f (λx y H Q=>r x y H Q\/r' x y H Q):=by
 intro ak s O H x y v u Q I rx ry q;rcases q with q|q
 ·exact h ak s O H x y v u Q I rx ry q
 ·exact h' ak s O H x y v u Q I rx ry q
theorem cj(b:Expr){op:CmpOp}(h:op≠ .In:=by decide)(h2:op≠ .NotIn:=by decide):behindInMarks op b=false:=by
 have e1:(op==CmpOp.In)=false:=by cases op<;>first|rfl|exact absurd rfl h
 have e2:(op==CmpOp.NotIn)=false:=by cases op<;>first|rfl|exact absurd rfl h2
 cases b<;>simp[behindInMarks,e1,e2]
inductive Eu(Q:Bool->Hp->Prop)(x:V)(H':Hp):Prop |mk (k:_)(h0:x= .bl k)(h1:Q k H')
def wH(t:TE):TT:=λO H Q=>t O H λx H'=>Eu Q x H'
theorem bS{op:CmpOp}{r:R2}(ho:bD X (compareOp op) r)(ha:PE X a ta)(hb:PE X b tb)(hm:behindInMarks op b=false):PT X (.Compare a [op] [b] pos) (wH (kE r ta tb)):=by intro ak s O H Q I h;refine wpAny_isTrue_Compare1 (aF (ha ak s O H _ I h) λv s1 ⟨x,H1,I1,r1,q1⟩=>aF (hb ak s1 O H1 _ I1 q1) λu s2 ⟨y,H2,I2,r2,q2⟩=>aF (ho ak s2 O H2 x y v u _ I2 r1 r2 q2) λc s3 ⟨z,H3,I3,r3,k,e,q3⟩=>?_) hm;subst e;cases r3;exact ix ⟨H3,I3,q3⟩
inductive EA(r':R2)(tc:TE)(O:St)(Q:VK)(y:V)(z:V)(H3:Hp):Prop |mk (k:_)(h0:z= .bl k)(h1:(if k=true then tc O H3 λw' H4=>r' y w' H4 Q else Q (.bl false) H3))
def xa(r r':R2)(ta tb tc:TE):TE:=λO H Q=>ta O H λx H1=>tb O H1 λy H2=>r x y H2 λz H3=>EA r' tc O Q y z H3
theorem sE{op nZ:CmpOp}{r r':R2}(ho:bD X (compareOp op) r)(fV:bD X (compareOp nZ) r')(ha:PE X a ta)(hb:PE X b tb)(hc:PE X c tc) (hm:lastMarks [op,nZ] [b,c]=false:=by with_unfolding_all rfl):PE X (.Compare a [op,nZ] [b,c] pos) (xa r r' ta tb tc):=by intro ak s O H Q I h;refine Compare_chain (aF (ha ak s O H _ I h) λv s1 ⟨x,H1,I1,r1,q1⟩=>chain_link (aF (hb ak s1 O H1 _ I1 q1) λu s2 ⟨y,H2,I2,r2,q2⟩=>aF (ho ak s2 O H2 x y v u _ I2 r1 r2 q2) λd s3 ⟨z,H3,I3,r3,k,e,q3⟩=>?_)) hm;subst e;cases r3;refine ix ?_;cases k with |false=>exact ite_ff ⟨.bl false,H3,I3,Z,q3⟩ |true=>exact ite_tt (chain_last (aF (hc ak s3 O H3 _ I3 q3) λw' s4 ⟨z',H4,I4,r4,q4⟩=>fV ak s4 O H4 y z' u w' Q I4 r2 r4 q4))
def pR(K:aa)(x:V)(H:Hp)(k:Bool):Prop:=match x with | .aK=>k=false | .bl b=>k=b | .int i=>k=(i !=0) | .str y=>y.length<=sizeLine/\k=((y.length:Int) !=0) | .eo y=>y.size<=sizeLine/\k=((y.size:Int) !=0) | .ref p=>(∃xs,aH K H p xs/\k= !xs.isEmpty)\/(∃xs,bb K H p xs/\k= !xs.isEmpty)\/∃bE,H p=some (.dK bE)/\k= !bE.isEmpty |_=>False
theorem Av{κ:Type}{bE:List (κ×V)}{vs:List (κ×Value)}(r:KV bE vs):(!vs.isEmpty)= !bE.isEmpty:=by cases r<;>rfl
theorem tO{xs:List V}{its:List Value}(r:Vals xs its):(!its.toArray.isEmpty)= !xs.isEmpty:=by cases r<;>simp
theorem jC:(sizeLine:Nat)<2^63:=by rw[mx];decide
theorem wA:En X (λx H Q=>∃k,pR X.K x H k/\Q k H):=by intro ak s O H x v Q I rx h;obtain⟨k,e,q⟩:=h;have hl:=jC;have hs:sizeLine=16777216:=mx;cases x with |aK=>cases rx;have e':k=false:=e;subst e';exact truthy_none ⟨H,I,q⟩ |bl b=>cases rx;have e':k=b:=e;subst e';exact ix ⟨H,I,q⟩ |int i=>obtain⟨t,rfl⟩:=rx;have e':k=(i !=0):=e;subst e';exact PySem.P.truthy_int ⟨H,I,q⟩ |str y=>obtain⟨t,rfl⟩:=rx;obtain⟨hy,e'⟩:y.length<=sizeLine/\k=((y.length:Int) !=0):=e;subst e';exact PySem.P.truthy_str aV ⟨H,I.tok _,q⟩ |eo y=>obtain⟨t,rfl⟩:=rx;obtain⟨hy,e'⟩:y.size<=sizeLine/\k=((y.size:Int) !=0):=e;subst e';exact PySem.W.truthy_bytes aV ⟨H,I.tok _,q⟩ |ref p=>
 cases rx;have e':(∃xs,aH X.K H p xs/\k= !xs.isEmpty)\/(∃xs,bb X.K H p xs/\k= !xs.isEmpty)\/∃bE,H p=some (.dK bE)/\k= !bE.isEmpty:=e;rcases e' with⟨xs,hx,e'⟩|⟨xs,hx,e'⟩|⟨bE,hx,e'⟩
 ·subst e'
  obtain⟨its,r,pl,hz⟩:=I.list hx;have hlen:=r.length;exact wpAny_truthy_list pl.isList (by simp only[bQ];lia) ⟨H,I.tok _,by rw[tO r];exact q⟩
 ·subst e'
  obtain⟨its,r,pl,hz⟩:=I.tuple hx;have hlen:=r.length;exact truthy_tuple pl (by simp only[bQ];lia) ⟨H,I.tok _,by rw[tO r];exact q⟩
 ·subst e'
  obtain⟨hz,hS,vs,r,m⟩:bE.length<=sizeLine/\(p==sysModules)=false/\∃vs,KV bE vs/\s.heap.DictOf (om X.prog X.w) p vs:=I.aE p _ hx;have hlen:bE.length=vs.length:=Paired.length r;exact wpAny_truthy_dict hS m aV ⟨H,I.tok _,by rw[Av r];exact q⟩ |_=>exact(show False from e).elim
theorem y4(ha:PE X a ta)(he:∀whole,isTrue a X.env whole=(do let v<-whole;standAt a.pos;holding [v] (truthy v))): PT X a (λO H Q=>ta O H λx H'=>∃k,pR X.K x H' k/\Q k H'):=by intro ak s O H Q I h;exact isTrue_plain (aF (ha ak s O H _ I h) λv s1 ⟨x,H1,I1,r1,q1⟩=>wA ak s1 O H1 x v Q I1 r1 q1) (he _)
theorem yO:bD X (binaryOp .Add) (λx y H Q=>∃i j,x= .str i/\y= .str j/\i.length+j.length<=sizeLine/\Q (.str (i++j)) H):=by intro ak s O H x y v u Q I rx ry h;obtain⟨i,j,rfl,rfl,hz,q⟩:=h;obtain⟨t,rfl⟩:=rx;obtain⟨t',rfl⟩:=ry;exact add_str (λt' tk=>⟨.str (i++j),H,I.tok _,⟨_,Z⟩,q⟩) hz
theorem vals1{x:V}{us:List Value}(r:Vals [x] us):∃u,us=[u]/\RelV x u:=by cases r with |cons r1 r2=>cases r2;exact⟨_,rfl,r1⟩
theorem vals2{x y:V}{us:List Value}(r:Vals [x,y] us):∃u w',us=[u,w']/\RelV x u/\RelV y w':=by cases r with |cons r1 r2=>cases r2 with |cons r3 r4=>cases r4;exact⟨_,_,rfl,r1,r3⟩
theorem DY:cn X (.builtin "abs") (λxs H Q=>∃i,xs=[.int i]/\Q (.int (if i<0 then-i else i)) H):=by intro ak s O H xs us Q I r h;obtain⟨i,rfl,q⟩:=h;obtain⟨u,rfl,t,rfl⟩:=vals1 r;exact call_abs_int λu tk=>⟨.int (if i<0 then-i else i),H,I.tok _,⟨_,Z⟩,q⟩
theorem DS(hc:X.calm=true):cn X (.builtin "max") (λxs H Q=>∃i j,xs=[.int i,.int j]/\Q (.int (if j>i then j else i)) H):=by
 intro ak s O H xs us Q I r h;obtain⟨i,j,rfl,q⟩:=h;obtain⟨u,w',rfl,⟨t,rfl⟩,⟨t',rfl⟩⟩:=vals2 r;refine max_two_ints (I.ok.hd hc) λh' tk k=>⟨_,H,I.kept k,?_,q⟩;by_cases hj:j>i
 ·rw[bc hj,bc hj];exact⟨_,Z⟩
 ·rw[bf hj,bf hj];exact⟨_,Z⟩
theorem uW(hc:X.calm=true):cn X (.builtin "min") (λxs H Q=>∃i j,xs=[.int i,.int j]/\Q (.int (if j<i then j else i)) H):=by
 intro ak s O H xs us Q I r h;obtain⟨i,j,rfl,q⟩:=h;obtain⟨u,w',rfl,⟨t,rfl⟩,⟨t',rfl⟩⟩:=vals2 r;refine min_two_ints (I.ok.hd hc) λh' tk k=>⟨_,H,I.kept k,?_,q⟩;by_cases hj:j<i
 ·rw[bc hj,bc hj];exact⟨_,Z⟩
 ·rw[bf hj,bf hj];exact⟨_,Z⟩
end
structure iq(h:Heap)(x dx C:Addr)(mA:aJ):Prop where
 obj:h.get? x=some (PySem.W.instObj C dx)
 ns:h.Ns1 dx mA
 ne:dx≠x
theorem A8{h:Heap}{dx:Addr}{mA:aJ}(n:h.Ns1 dx mA):∃od,h.get? dx=some od/\∀name,PySem.W.lookIn name od=some (mA name):=by
 obtain⟨o,es,ep,ho,hd,hk,_,hm⟩:=n;refine⟨o,ho,λname=>?_⟩;have e:=hm name;unfold nsFind findBy at e;rw[<-Array.find?_toList]at e;unfold PySem.W.lookIn;rw[hd];dsimp only;split
 ·rename_i y q
  rw[q]at e;exact gO some e
 ·rename_i q
  rw[q]at e;have a:es.toList.any (·.refKey)=false:=by rw[List.any_eq_false];intro y hy;obtain⟨z,t,Bc⟩:=hk y (Array.mem_toList_iff.mp hy);simp[DictEntry.refKey,Bc]
  have a':¬es.toList.any (·.refKey)=true:=by rw[a];exact cB
  rw[bf a'];exact gO some e
theorem iq.look{h:Heap}{x dx C:Addr}{mA:aJ}(I:iq h x dx C mA):∃od,PySem.W.InstAt h x (PySem.W.instObj C dx) C (some od)/\∀name,PySem.W.lookIn name od=some (mA name):=let⟨od,ho,hl⟩:=A8 I.ns
 ⟨od,⟨I.obj,Z,Z,ho⟩,hl⟩
section
variable {prog:af}{w:World}{A:ai}{E:Value->ae->Prop}{s:ae}{K:aa}{x dx C f:Addr}{mA:aJ}{name:Str}{v:Value}
theorem get_map{expr:Bool}{Q:Value->ae->Prop}(X:K.In s.heap)(I:iq s.heap x dx C mA)(hg:PySem.W.plainGet K C name=true)(hh:PySem.W.hasDictIn K C=true) (ha:PySem.W.findIn K (.ref C) name=some none)(hv:mA name=some v)(AM:PySem.W.handedIn v=true)(h:Q v {s with toks:=s.toks+1}): wpAny (model prog w) A (getAttr (.ref x) name expr) Q E s:=by obtain⟨od,J,hl⟩:=I.look;exact PySem.W.get_value X J (vK hg).1 (PySem.W.findObj_own hh ha Z (by rw[hl,hv])) AM h
theorem Cq{pl:Sem Bool}{Q:Value×List Value->ae->Prop}(X:K.In s.heap)(I:iq s.heap x dx C mA)(hg:PySem.W.plainGet K C name=true) (hf:PySem.W.findIn K (.ref C) name=some (some (.ref f)))(ht:PySem.W.isFn K (.ref f)=true)(hv:mA name=none)(h:Q (.ref f,[.ref x]) s): wpAny (model prog w) A (getMethod (.ref x) name pl) Q E s:=by obtain⟨od,J,hl⟩:=I.look;exact PySem.W.method_fn X J (vK hg).1 (vK hg).2 hf (bP.mp ht) (by show(PySem.W.lookIn name od).map (·.isSome)=some false;rw[hl,hv];rfl) h
theorem xx{ns:List Str}{Q:Unit->ae->Prop}(X:K.In s.heap)(I:iq s.heap x dx C mA) (hs:PySem.W.findIn K (.ref C) "__setattr__"=some (some (.builtin "object.__setattr__")))(hp:PySem.W.plainOver K C=true)(ht:PySem.W.takerIn K C name=some none)(hh:PySem.W.hasDictIn K C=true) (hw:PySem.Within mA ns)(oG:ns.length<=sizeLine) (h:∀h',iq h' x dx C (λy=>if y=name then some v else mA y)->Heap.SameBut dx s.heap h'->Q () {s with heap:=h',toks:=s.toks+2}): wpAny (model prog w) A (setAttr (.ref x) name v) Q E s:=by obtain⟨od,J,hl⟩:=I.look;refine PySem.W.set_plain X J hs (PySem.W.osa_open (s:={s with toks:=s.toks+1}) (r:=none) X J hp ht λb=>?_);obtain⟨cd,hc,oW⟩:=PySem.W.any_some hh;have hx:s.heap.get? x=some ⟨.ref C,some dx,.plain,#[]⟩:=I.obj;refine au (aZ (au (au (wpAny_loadPart hx (au (PySem.W.Looks.here (s:={s with toks:=s.toks+1}) (PySem.W.looks_clsIn X hc) ?_))))));rw[oW];refine aZ (a:=some dx) (au (aZ (au ?_)));refine wpAny_nsSet1 (s:={s with toks:=s.toks+1}) I.ns λh' lH jH=>?_;obtain⟨oD,Gs,Gu,B4,Bw,BA⟩:=lH.count (PySem.Within.cons name v hw);refine au (wpAny_lookBehind B4 (by rw[Bw];exact pastItsLine_dict (dC BA (by rw[gf];lia))) ?_);exact aZ (h _ ⟨(jH.2 _ (dN I.ne)).trans I.obj,lH,I.ne⟩ jH)
theorem A0{R:Result->ae->Prop}{vs:List Value}{kw:List (Str×Value)}(X:K.In s.heap)(hm:PySem.W.makesIn K C=true) (hi:PySem.W.findIn K (.ref C) "__init__"=some (some (.ref f)))(hf:PySem.W.typeIn K (.ref f)=some (.type "function")) (h:codeAny (model prog w) (A.under (.builtin "type.__call__" ⟨.ref C::vs,kw⟩)) (.call (.ref f) ⟨.ref (s.heap.objs.size+1)::vs,kw⟩) (PySem.W.InitBack (s.heap.objs.size+1) R) {s with heap:=(s.heap.push PySem.W.emptyDict).push (PySem.W.instObj C s.heap.objs.size)}): codeAny (model prog w) A (.call (.ref C) ⟨vs,kw⟩) R s:=by obtain⟨hh,g,d,t,os⟩:=s;exact PySem.W.make_core (PySem.W.makes_of X hm) (PySem.W.looks_findIn X hi) (λself=>PySem.W.bind_fn X self hf) (.inl Z) h
end
def cX(f:Str)(v:V):List (Str×V)->List (Str×V) |[]=>[(f,v)] |(g,x)::r=>if g=f then(g,v)::r else(g,x)::cX f v r
theorem tD(f g:Str)(v:V):∀fs:List (Str×V),(cX f v fs).lookup g=if g=f then some v else fs.lookup g
 |[]=>by
  show List.lookup g [(f,v)]=_;by_cases h:g=f
  ·have hb:(g==f)=true:=bP.mpr h
   simp only[List.lookup,hb,bc h]
  ·have hb:(g==f)=false:=pZ.mpr h
   simp only[List.lookup,hb,bf h] |(k,x)::r=>by
  have ih:=tD f g v r;rw[show cX f v ((k,x)::r)=(if k=f then(k,v)::r else(k,x)::cX f v r)from rfl];by_cases hk:k=f
  ·rw[bc hk]
   by_cases h:g=k
   ·have hb:(g==k)=true:=bP.mpr h
    simp only[List.lookup,hb,bc (h.trans hk)]
   ·have hb:(g==k)=false:=pZ.mpr h
    simp only[List.lookup,hb,bf (λe:g=f=>h (e.trans hk.symm))]
  ·rw[bf hk]
   by_cases h:g=k
   ·have hb:(g==k)=true:=bP.mpr h
    simp only[List.lookup,hb,bf (λe:g=f=>hk (h.symm.trans e))]
   ·have hb:(g==k)=false:=pZ.mpr h
    simp only[List.lookup,hb];exact ih
theorem ow(f:Str)(v:V):∀fs:List (Str×V),f∈(cX f v fs).map (·.1)/\∀g,g∈fs.map (·.1)->g∈(cX f v fs).map (·.1)
 |[]=>⟨by simp[cX],λg h=>by simp at h⟩ |(k,x)::r=>by
  obtain⟨i1,i2⟩:=ow f v r;rw[show cX f v ((k,x)::r)=(if k=f then(k,v)::r else(k,x)::cX f v r)from rfl];by_cases hk:k=f
  ·rw[bc hk]
   subst hk;exact⟨by simp,λg h=>by simpa using h⟩
  ·rw[bf hk]
   refine⟨?_,λg h=>?_⟩
   ·rw[j8]
    exact j7 _ i1
   ·rw[j8]at h⊢
    rcases cz.mp h with e|e
    ·exact cz.mpr (.inl e)
    ·exact j7 _ (i2 g e)
theorem tF(f:Str)(v:V):∀fs:List (Str×V),(cX f v fs).length<=fs.length+1
 |[]=>by simp[cX] |(k,x)::r=>by
  have ih:=tF f v r;rw[show cX f v ((k,x)::r)=(if k=f then(k,v)::r else(k,x)::cX f v r)from rfl];by_cases hk:k=f
  ·rw[bc hk,gf,gf];lia
  ·rw[bf hk,gf,gf];lia
theorem fF.some_of{v:V}{o:Option Value}(r:fF (some v) o):∃u,o=some u/\RelV v u:=by cases o with |none=>exact(show False from r).elim |some u=>exact⟨u,Z,r⟩
theorem fF.none_of{o:Option Value}(r:fF none o):o=none:=by cases o with |none=>rfl |some u=>exact(show False from r).elim
theorem BJ{v:V}{u:Value}(r:RelV v u):PySem.W.handedIn u=true:=by cases v with |aK=>cases(show u=Value.none from r);rfl |bl b=>cases(show u=Value.bool b from r);rfl |int i=>obtain⟨t,e⟩:=(show∃t,u=Value.int i t from r);cases e;rfl |str x=>obtain⟨t,e⟩:=(show∃t,u=Value.str x t from r);cases e;rfl |eo b=>obtain⟨t,e⟩:=(show∃t,u=Value.bytes b t from r);cases e;rfl |lT b=>obtain⟨t,e⟩:=(show∃t,u=Value.float b t from r);cases e;rfl |ref a=>cases(show u=Value.ref a from r);rfl |ty n=>cases(show u=Value.type n from r);rfl
section
variable {P:af}{w:World}{H H':Hp}{h h':Heap}{a C dx:Addr}{fs CJ:List (Str×V)}
theorem oB(aE:bH P w H h)(e:H a=some (.ins C dx fs)):∃mA,iq h a dx C mA/\(∀f,fF (fs.lookup f) (mA f))/\PySem.Within mA (fs.map (·.1))/\fs.length<=1000/\H dx=some (.own a):=by obtain⟨d,z,ne,ob,mA,n,r,q⟩:=(show cM P w H h a (.ins C dx fs)from aE a _ e);exact⟨mA,⟨ob,n,ne⟩,r,q,z,d⟩
end
structure dj(K:aa)(C:Addr):Prop where
 pg:PySem.W.plainGet K C Str.empty=true
 hd:PySem.W.hasDictIn K C=true
 po:PySem.W.plainOver K C=true
 sa:PySem.W.findIn K (.ref C) "__setattr__"=some (some (.builtin "object.__setattr__"))
theorem dj.get{K:aa}{C:Addr}(c:dj K C)(f:Str):PySem.W.plainGet K C f=true:=c.pg
def cR(K:aa)(C:Addr)(f:Str):Prop:=PySem.W.findIn K (.ref C) f=some none
theorem cR.wC{K:aa}{C:Addr}{f:Str}(n:cR K C f):PySem.W.takerIn K C f=some none:=by unfold PySem.W.takerIn;rw[show PySem.W.findIn K (.ref C) f=some none from n];rfl
structure Meth(K:aa)(C:Addr)(m:Str)(f:Addr):Prop where
 at_:PySem.W.findIn K (.ref C) m=some (some (.ref f))
 fn:PySem.W.isFn K (.ref f)=true
 kp:PySem.W.keepIn K (.ref f)=true
section
variable {X:Cx}{ak:List (Addr×Obj)}{O:St}{H:Hp}{s:ae}{a C dx:Addr}{fs:List (Str×V)}{f:Str}{v:V}{A:ai}{E:Value->ae->Prop}
theorem Cp{b:Bool}{Q:Value->ae->Prop}(I:Inv X ak O H s)(e:H a=some (.ins C dx fs))(c:dj X.K C)(n:cR X.K C f)(l:fs.lookup f=some v) (h:∀u s',Inv X ak O H s'->RelV v u->Q u s'):wpAny (model X.prog X.w) A (getAttr (.ref a) f b) Q E s:=by obtain⟨mA,GI,r,_,_,_⟩:=oB I.aE e;obtain⟨u,hu,ru⟩:=fF.some_of (v:=v) (o:=mA f) (by rw[<-l];exact r f);exact get_map I.bT GI (c.get f) c.hd n hu (BJ ru) (h u _ (I.tok _) ru)
theorem uv{m:Str}{g:Addr}{pl:Sem Bool}{Q:Value×List Value->ae->Prop}(I:Inv X ak O H s)(e:H a=some (.ins C dx fs))(c:dj X.K C)(k:Meth X.K C m g)(l:fs.lookup m=none) (h:Q (.ref g,[.ref a]) s):wpAny (model X.prog X.w) A (getMethod (.ref a) m pl) Q E s:=by obtain⟨mA,GI,r,_,_,_⟩:=oB I.aE e;have hn:mA m=none:=fF.none_of (by rw[<-l];exact r m);exact Cq I.bT GI (c.get m) k.at_ k.fn hn h
theorem xw{y:V}{u:Value}{Q:Unit->ae->Prop}(I:Inv X ak O H s)(e:H a=some (.ins C dx fs))(c:dj X.K C)(n:cR X.K C f)(hl:fs.length<1000)(ry:RelV y u) (h:∀s',Inv X ak O (upd H a (.ins C dx (cX f y fs))) s'->Q () s'):wpAny (model X.prog X.w) A (setAttr (.ref a) f u) Q E s:=by
 obtain⟨mA,GI,r,wi,_,ho⟩:=oB I.aE e;have hz:(fs.map (·.1)).length<=sizeLine:=by rw[bz,mx];lia
 refine xx I.bT GI c.sa c.po n.wC c.hd wi hz λh' O' sb=>h _ ?_;have hd:∃o,h'.get? dx=some o:=let⟨o,_,_,e',_⟩:=O'.ns;⟨o,e'⟩;refine I.write (x:=a) (e:=dx) (by rw[e];exact True.intro) (.inr ho) (λb q hb z=>(sb.2 b hb).trans z) hd ?_;refine⟨by rw[bo GI.ne];exact ho,?_,GI.ne,O'.obj,_,O'.ns,λg=>?_,λg hg=>?_⟩
 ·have:=tF f y fs;lia
 ·show fF ((cX f y fs).lookup g) (if g=f then some u else mA g)
  rw[tD];by_cases q:g=f
  ·rw[bc q,bc q];exact ry
  ·rw[bf q,bf q];exact r g
 ·by_cases q:g=f
  ·rw[q];exact(ow f y fs).1
  ·refine(ow f y fs).2 g (wi g λz=>hg ?_)
   show(if g=f then some u else mA g)=none;rw[bf q];exact z
theorem Inv.made(I:Inv X ak O H s):Inv X ak O (upd (upd H s.heap.objs.size (.own (s.heap.objs.size+1))) (s.heap.objs.size+1) (.ins C s.heap.objs.size [])) {s with heap:=(s.heap.push PySem.W.emptyDict).push (PySem.W.instObj C s.heap.objs.size)}:=by
 have e1:(s.heap.push PySem.W.emptyDict).get? s.heap.objs.size=some PySem.W.emptyDict:=cA s.heap rfl;have e2:((s.heap.push PySem.W.emptyDict).push (PySem.W.instObj C s.heap.objs.size)).get? (s.heap.objs.size+1)=some (PySem.W.instObj C s.heap.objs.size):=by have:=cA (s.heap.push PySem.W.emptyDict) (o:=PySem.W.instObj C s.heap.objs.size) rfl;rwa [ja]at this
 have e3:(s.heap.push PySem.W.emptyDict).Ns s.heap.objs.size (λ_=>none):=⟨PySem.W.emptyDict,#[],_,e1,Z,(λe he=>absurd he (by simp)),λ_=>rfl⟩;have I1:=I.laid (a:=s.heap.objs.size) (o:=.own (s.heap.objs.size+1)) (h':=s.heap.push PySem.W.emptyDict) (t':=s.toks) (λb u q=>bu _ q) (br _) ⟨_,e1⟩;refine I1.laid (a:=s.heap.objs.size+1) (o:=.ins C s.heap.objs.size []) (t':=s.toks) (λb u q=>bu _ q) (Nat.le_of_eq (ja _ _)) ?_;have ne:s.heap.objs.size≠s.heap.objs.size+1:=cy (Nat.lt_succ_self _);refine⟨by rw[bo ne,bO],iA _,ne,e2,λ_=>none,(Heap.Ns1.of_empty e3).at λo q=>bu _ q,λ_=>True.intro,λy hy=>absurd rfl hy⟩
theorem E9{prog:af}{w:World}{env:Env}{e:Expr}{f:Str}{pos:Pos}{s:ae}{Q:Value->ae->Prop}(hb:attributeBase e f env (eval e env)=eval e env) (h:wpAny (model prog w) A (eval e env) (λo s₁=>wpAny (model prog w) A (getAttr o f true) Q E s₁) E s):wpAny (model prog w) A (eval (.Attribute e f pos) env) Q E s:=Attribute_any_ h (by rw[arm_eval_Attribute,hb])
end
section
variable {X:Cx}{o e value:Expr}{f:Str}{pos pos' jc:Pos}{ta tv:TE}
end
section
variable {X:Cx}{ak:List (Addr×Obj)}{O:St}{H:Hp}{s:ae}{A:ai}{E:Value->ae->Prop}{Q:Value->ae->Prop}{c:Value}{b:Bool}
end
structure bq(k:Nat)(A:ai):Prop where
 hd:A.handled=none
 dp:A.depth+3*k+5<recursionLimit
 un:A.units+16*k+200<cLine
theorem bq.mono{j k:Nat}{A:ai}(r:bq k A)(h:j<=k):bq j A:=⟨r.hd,by have:=r.dp;lia,by have:=r.un;lia⟩
theorem bq.deeper{k:Nat}{A:ai}(r:bq (k+1) A)(env:Env):bq k (A.deeper env):=⟨r.hd,by have:=r.dp;show A.depth+1+3*k+5<_;lia,by have:=r.un;show A.units+3+16*k+200<_;lia⟩
theorem A1{A:ai}{C:Addr}{us:List Value}{kw:List (Str×Value)}:(A.under (.builtin "type.__call__" ⟨.ref C::us,kw⟩)).depth=A.depth+1:=by first|rfl|simp[Around.under,Code.weight,Code.isCreation,Code.isGuard,Code.isCaller,Code.frames,Code.isFrame,guardIds]
theorem zZ{A:ai}{C:Addr}{us:List Value}{kw:List (Str×Value)}:(A.under (.builtin "type.__call__" ⟨.ref C::us,kw⟩)).units=A.units+1:=by first|rfl|simp[Around.under,Code.cUnits,Code.frames,Code.isFrame]
theorem bq.make{k:Nat}{A:ai}(r:bq (k+1) A)(C:Addr)(us:List Value)(kw:List (Str×Value)):bq k (A.under (.builtin "type.__call__" ⟨.ref C::us,kw⟩)):=⟨r.hd,by have:=r.dp;rw[A1];omega,by have:=r.un;rw[zZ];omega⟩
theorem bq.depth{k:Nat}{A:ai}(r:bq k A):A.depth<recursionLimit:=by have:=r.dp;lia
theorem bq.units{k:Nat}{A:ai}(r:bq k A):A.units+64<cLine:=by have:=r.un;lia
def kF:TA:=λ_ H Q=>Q [] H
def x8(ta:TE)(tr:TA):TA:=λO H Q=>ta O H λx H1=>tr O H1 λxs H2=>Q (x::xs) H2
section
variable {X:Cx}{e:Expr}{es:List Expr}{te:TE}{t:TA}{pos:Pos}
theorem az:PA X [] kF:=λ_ _ _ _ H Q I h=>Calls.spliced_nil ⟨[],H,I,.nil,h⟩
theorem aq(ha:PE X e te)(hr:PA X es t)(hs:starEach (e::es) X.env=(false,eval e X.env)::starEach es X.env:=by rfl):PA X (e::es) (x8 te t):=by intro pos ak s O H Q I h;rw[hs];show wpAny _ _ (spliced ((false,eval e X.env)::backTo pos (starEach es X.env))) _ _ s;refine Calls.spliced_cons (aF (ha ak s O H _ I h) λu s1 ⟨x,H1,I1,r1,q1⟩=>?_);exact aF (hr pos ak s1 O H1 _ I1 q1) λus s2 ⟨xs,H2,I2,r2,q2⟩=>⟨x::xs,H2,I2,.cons r1 r2,q2⟩
end
abbrev Sp:=List V->Hp->VK->XK->Prop
abbrev dn:=List Env->Hp->ae->XK->Value->ae->Prop
structure gb(P:af)(w:World)(K:aa)(mg:aJ)(ao:Heap)(A:ai)(outer:List Env)(s:ae)(H:Hp):Prop where
 frames:A.frames=some outer
 mod:Mod K mg ao
 bs:∀b o,ao.get? b=some o->s.heap.get? b=some o/\H b=none
 dJ:ao.objs.size<=s.heap.objs.size
 cY:s.heap.FunFrames ao outer
 eR:∀b∈bV outer,H b=none
 aE:bH P w H s.heap
 bare:AllBare s.gens
def CE(outer:List Env)(P:af)(w:World)(H:Hp)(s:ae)(Q:VK)(u:Value)(s':ae):Prop:=∃v H',s'.os=s.os/\AllBare s'.gens/\Un (bV outer) [] H H' s.heap s'.heap/\bH P w H' s'.heap/\RelV v u/\Q v H'
def CR(CX:dn)(outer:List Env)(P:af)(w:World)(H:Hp)(s:ae)(Q:VK)(E:XK)(r:Result)(s':ae):Prop:=match r with | .ok (.ret u)=>CE outer P w H s Q u s' | .ok _=>False | .error e=>CX outer H s E e s'
structure cF(P:af)(w:World)(K:aa)(mg:aJ)(ao:Heap)(CX:dn)(k:Nat)(f:Addr)(fd:FuncData)(ps:List Str)(sp:Sp):Prop where
 len:∀vs H Q E,sp vs H Q E->vs.length=ps.length
 run:∀(A:ai)(outer:List Env)(s:ae)(H:Hp)(args:Args)(us:List Value)(vs:List V)(Q:VK)(E:XK),bq k A->gb P w K mg ao A outer s H->BindsTo s fd args (ps.zip us)->Vals vs us->sp vs H Q E->codeAny (model P w) A (.call (.ref f) args) (CR CX outer P w H s Q E) s
theorem gb.make{P:af}{w:World}{K:aa}{mg:aJ}{ao:Heap}{A:ai}{outer:List Env}{s:ae}{H:Hp}(e:gb P w K mg ao A outer s H)(C:Addr)(us:List Value)(kw:List (Str×Value)): gb P w K mg ao (A.under (.builtin "type.__call__" ⟨.ref C::us,kw⟩)) outer s H:=⟨by first|exact e.frames|(simpa[Around.under,Code.envs,Code.isFrame,pushEnvs]using e.frames),e.mod,e.bs,e.dJ,e.cY,e.eR,e.aE,e.bare⟩
section
variable {X:Cx}{ak:List (Addr×Obj)}{O:St}{H:Hp}{s s':ae}
theorem Inv.pF(I:Inv X ak O H s):gb X.prog X.w X.K X.mg X.ao X.A X.stack s H:=⟨I.ok.frames,I.ok.mod,I.bs,dC I.ok.dJ I.sz,I.stack,I.kL,I.aE,I.bare⟩
theorem Inv.after{Q:VK}{u:Value}(I:Inv X ak O H s)(h:CE X.stack X.prog X.w H s Q u s'):EP X ak O Q u s':=by obtain⟨v,H',os,bare,un,aE,r,q⟩:=h;obtain⟨hh,g,d,t,yE⟩:=s';obtain rfl:yE=s.os:=os;exact⟨v,H',I.call (h':=hh) (g':=g) (d':=d) (t':=t) (ch:=[]) un aE bare (λb z=>absurd z (by simp)),r,q⟩
end
def xb(sp:Sp)(cf:List V)(E:XK)(t:TA):TE:=λO H Q=>t O H λvs H1=>sp (vs++cf) H1 Q E
inductive ml(C:Addr)(m:Str)(sp:Sp)(cf:List V)(E:XK)(t:TA)(O:St)(Q:VK)(x:V)(H1:Hp):Prop |mk (a:_)(dx:_)(fs:_)(h0:x= .ref a)(h1:H1 a=some (.ins C dx fs))(h2:fs.lookup m=none)(h3:t O H1 λvs H2=>sp (x::(vs++cf)) H2 Q E)
def qF(C:Addr)(m:Str)(sp:Sp)(cf:List V)(E:XK)(ta:TE)(t:TA):TE:=λO H Q=>ta O H λx H1=>ml C m sp cf E t O Q x H1
def wY(C:Addr)(sp:Sp)(cf:List V)(E:XK)(t:TA):TE:=λO H Q=>t O H λvs H1=>∀x dx,H1 x=none->H1 dx=none->dx≠x->sp (.ref x::(vs++cf)) (upd (upd H1 dx (.own x)) x (.ins C dx [])) (λv H2=>v= .aK/\Q (.ref x) H2) E
def Binds(K:aa)(fd:FuncData)(ps:List Str)(ds:List Value):Prop:=∀(s:ae)(us:List Value),K.In s.heap->(us++ds).length=ps.length->BindsTo s fd ⟨us,[]⟩ (ps.zip (us++ds))
theorem Binds.all{K:aa}{fd:FuncData}{ps:List Str}(h:∀us:List Value,us.length=ps.length->bindArgs fd ⟨us,[]⟩=pure (ps.zip us)):Binds K fd ps []:=λs us _ hl=>by rw[gQ]at hl⊢;exact .of_eq (h us hl)
def Passes(CX:dn)(X:Cx)(E:XK):Prop:=∀(ak:List (Addr×Obj))(O:St)(H:Hp)(s:ae)(e:Value)(s':ae),Inv X ak O H s->CX X.stack H s E e s'->X.xe e s'
section
variable {X:Cx}{CX:dn}{k:Nat}{f C:Addr}{fd:FuncData}{ps:List Str}{sp:Sp}{cf:List V}{ds:List Value}{E:XK}{x m:Str}{p pos apos:Pos}{e o:Expr}{es:List Expr}{ta:TE}{t:TA}
theorem kR{ak:List (Addr×Obj)}{O:St}{H:Hp}{s:ae}{Q:VK}{us:List Value}{vs:List V}(F:cF X.prog X.w X.K X.mg X.ao CX k f fd ps sp)(hr:bq k X.A)(hb:Binds X.K fd ps ds)(hd:Vals cf ds)(hx:Passes CX X E) (I:Inv X ak O H s)(r:Vals vs us)(h:sp (vs++cf) H Q E):wpAny (model X.prog X.w) X.A (call (.ref f) us) (EP X ak O Q) X.xe s:=by
 have r2:Vals (vs++cf) (us++ds):=r.append hd;have hl:(us++ds).length=ps.length:=by rw[<-r2.length];exact F.len _ _ _ _ h
 refine wpAny_call (mB (F.run X.A X.stack s H ⟨us,[]⟩ (us++ds) (vs++cf) Q E hr I.pF (hb s us I.bT hl) r2 h) λr s' hq=>?_);cases r with |error e=>exact hx ak O H s e s' I hq |ok fl=>cases fl with |ret u=>exact I.after hq |next=>exact False.elim hq |brk=>exact False.elim hq |cont=>exact False.elim hq
theorem yz(F:cF X.prog X.w X.K X.mg X.ao CX k f fd ps sp)(hr:bq k X.A)(hg:Gl X x)(hm:X.mg x=some (.ref f))(hk:PySem.W.keepIn X.K (.ref f)=true)(hb:Binds X.K fd ps ds)(hd:Vals cf ds)(hx:Passes CX X E) (ha:PA X (e::es) t)(cc:(x==("__debug__":Str))=false:=by decide)(he:starEach (e::es) X.env=(false,eval e X.env)::starEach es X.env:=by rfl)(bM:(backTo pos (starEach es X.env)).any (·.1)=false:=by rfl): PE X (.Call (.Name x p) (e::es) [] pos) (xb sp cf E t):=by intro ak s O H Q I h;refine ki (gw I hg hm ?_ cc);refine mD (h₀:=X.ao) I.ok.mod.fu hk (aF (ha pos ak s O H _ I h) λus s1 ⟨vs,H1,I1,r,q⟩=>⟨I1.bT,?_⟩) he bM;exact kR F hr hb hd hx I1 r q
theorem yp{pl:Sem Bool}(he:PE X o ta)(c:dj X.K C)(hm:Meth X.K C m f)(F:cF X.prog X.w X.K X.mg X.ao CX k f fd ps sp)(hr:bq k X.A)(hb:Binds X.K fd ps ds)(hd:Vals cf ds)(hx:Passes CX X E)(ha:PA X (e::es) t) (d9:starEach (e::es) X.env=(false,eval e X.env)::starEach es X.env:=by rfl)(bM:(backTo pos (starEach es X.env)).any (·.1)=false:=by rfl) (ht:eval (.Call (.Attribute o m apos) (e::es) [] pos) X.env=(do
 let ov<-eval o X.env
 standAt apos.atName
 let(f,first)<-holding [ov] (getMethod ov m pl)
 callWith pos f first (backTo pos (starEach (e::es) X.env)) (backToKw pos (keywordEach [] X.env))):=by rfl): PE X (.Call (.Attribute o m apos) (e::es) [] pos) (qF C m sp cf E ta t):=by
 intro ak s O H Q I h;refine PySem.W.methodCall_KW (pl:=pl) (aF (he ak s O H _ I h) λu s1 ⟨x,H1,I1,rx,a,dx,fs,ex,ea,l,q⟩=>?_) ht;subst ex;obtain rfl:u=Value.ref a:=rx;refine uv I1 ea c hm l ?_;refine mD (first:=[.ref a]) (h₀:=X.ao) I.ok.mod.fu hm.kp (aF (ha pos ak s1 O H1 _ I1 q) λus s2 ⟨vs,H2,I2,r,q2⟩=>⟨I2.bT,?_⟩) d9 bM;exact kR (us:=.ref a::us) (vs:=.ref a::vs) F hr hb hd hx I2 (.cons Z r) q2
theorem yo{pl:Sem Bool}(he:PE X o ta)(c:dj X.K C)(hm:Meth X.K C m f)(F:cF X.prog X.w X.K X.mg X.ao CX k f fd ps sp)(hr:bq k X.A)(hb:Binds X.K fd ps ds)(hd:Vals cf ds)(hx:Passes CX X E) (ht:eval (.Call (.Attribute o m apos) [] [] pos) X.env=(do
 let ov<-eval o X.env
 standAt apos.atName
 let(f,first)<-holding [ov] (getMethod ov m pl)
 callWith pos f first (backTo pos (starEach [] X.env)) (backToKw pos (keywordEach [] X.env))):=by rfl): PE X (.Call (.Attribute o m apos) [] [] pos) (qF C m sp cf E ta kF):=by
 intro ak s O H Q I h;refine PySem.W.methodCall_KW (pl:=pl) (aF (he ak s O H _ I h) λu s1 ⟨x,H1,I1,rx,a,dx,fs,ex,ea,l,q⟩=>?_) ht;subst ex;obtain rfl:u=Value.ref a:=rx;refine uv I1 ea c hm l ?_;exact PySem.W.callWith_K0 (first:=[.ref a]) I1.bT hm.kp (kR (us:=[.ref a]) (vs:=[.ref a]) F hr hb hd hx I1 (.cons rfl .nil) q)
structure Mk(K:aa)(C f:Addr):Prop where
 makes:PySem.W.makesIn K C=true
 init:PySem.W.findIn K (.ref C) "__init__"=some (some (.ref f))
 fn:PySem.W.isFn K (.ref f)=true
 kp:PySem.W.keepIn K (.ref C)=true
theorem xI{ak:List (Addr×Obj)}{O:St}{H:Hp}{s:ae}{Q:VK}{us:List Value}{vs:List V}(M:Mk X.K C f)(F:cF X.prog X.w X.K X.mg X.ao CX k f fd ps sp)(hr:bq (k+1) X.A)(hb:Binds X.K fd ps ds)(hd:Vals cf ds) (hx:Passes CX X E)(I:Inv X ak O H s)(r:Vals vs us) (h:∀x dx,H x=none->H dx=none->dx≠x->sp (.ref x::(vs++cf)) (upd (upd H dx (.own x)) x (.ins C dx [])) (λv H2=>v= .aK/\Q (.ref x) H2) E): wpAny (model X.prog X.w) X.A (call (.ref C) us) (EP X ak O Q) X.xe s:=by
 have hq:=h (s.heap.objs.size+1) s.heap.objs.size (I.aE.fresh (Nat.le_succ _)) (I.aE.fresh (br _)) (cy (Nat.lt_succ_self _));have I2:=Inv.made (C:=C) I;have r2:Vals (V.ref (s.heap.objs.size+1)::(vs++cf)) (Value.ref (s.heap.objs.size+1)::(us++ds)):=.cons Z (r.append hd);have hl:(Value.ref (s.heap.objs.size+1)::us++ds).length=ps.length:=by have e:=r2.length;rw[F.len _ _ _ _ hq]at e;exact e.symm
 refine wpAny_call (A0 (f:=f) I.bT M.makes M.init (bP.mp M.fn) (mB (F.run _ X.stack _ _ ⟨Value.ref (s.heap.objs.size+1)::us,[]⟩ (Value.ref (s.heap.objs.size+1)::(us++ds)) _ _ E (hr.make C us []) (I2.pF.make C us []) (hb _ (Value.ref (s.heap.objs.size+1)::us) I2.bT hl) r2 hq) λr s' jI=>?_));cases r with |error e=>exact hx ak O _ _ e s' I2 jI |ok fl=>cases fl with |ret u=>obtain⟨v,H',I3,rv,ev,q3⟩:=I2.after jI;subst ev;exact⟨rv,⟨V.ref (s.heap.objs.size+1),H',I3,Z,q3⟩⟩ |next=>exact False.elim jI |brk=>exact False.elim jI |cont=>exact False.elim jI
theorem sC(M:Mk X.K C f)(F:cF X.prog X.w X.K X.mg X.ao CX k f fd ps sp)(hr:bq (k+1) X.A)(hg:Gl X x)(hm:X.mg x=some (.ref C))(hb:Binds X.K fd ps ds)(hd:Vals cf ds)(hx:Passes CX X E) (ha:PA X (e::es) t)(cc:(x==("__debug__":Str))=false:=by decide)(he:starEach (e::es) X.env=(false,eval e X.env)::starEach es X.env:=by rfl)(bM:(backTo pos (starEach es X.env)).any (·.1)=false:=by rfl): PE X (.Call (.Name x p) (e::es) [] pos) (wY C sp cf E t):=by intro ak s O H Q I h;refine ki (gw I hg hm ?_ cc);refine mD (h₀:=X.ao) I.ok.mod.fu M.kp (aF (ha pos ak s O H _ I h) λus s1 ⟨vs,H1,I1,r,q⟩=>⟨I1.bT,?_⟩) he bM;exact xI M F hr hb hd hx I1 r q
end
section
variable {X:Cx}{CX:dn}{k:Nat}{f C:Addr}{fd:FuncData}{ps ks:List Str}{sp:Sp}{E:XK}{x m:Str}{p pos apos Gf:Pos}{e o:Expr}{es:List Expr}{Ge:List Keyword}{te ta:TE}{t tk:TA}{nm:Option Str}
variable {g:List Value->List Value->List Value}{gV:List V->List V->List V}
end
structure bw(N P:List Str)(sc:Scope):Prop where
 kind:sc.kind= .function
 co:sc.isCoroutine=false
 gen:sc.isGenerator=false
 nd:N.Nodup
 pre:N.take P.length=P
 par:∀x∈P,sc.names.lookup x=some .local\/sc.names.lookup x=some .cell
 zG:∀y∈sc.names,y.2≠ .free
theorem v8{kindOf:Str->Option NameKind}{x:Str}:∀{binds:List (Str×Value)}{m:aJ},(∀v,(x,v)∉binds)->bindL kindOf binds m x=m x
 |[],_,_=>rfl |(n,v)::r,m,h=>by
  unfold bindL;rw[v8 λw hw=>h w (j7 _ hw)];split
  ·have:x≠n:=by rintro rfl;exact h v qi
   simp[this]
  ·rfl
theorem va{kindOf:Str->Option NameKind}{x:Str}:∀{binds:List (Str×Value)}{m:aJ},(∀v,(x,v)∉binds)->bindC kindOf binds m x=m x
 |[],_,_=>rfl |(n,v)::r,m,h=>by
  unfold bindC;rw[va λw hw=>h w (j7 _ hw)];split
  ·rfl
  ·have:x≠n:=by rintro rfl;exact h v qi
   simp[this]
theorem v9{kindOf:Str->Option NameKind}{x:Str}{v:Value}:∀{P:List Str}{vs:List Value}{i:Nat}{m:aJ},P.Nodup->P[i]? =some x->vs[i]? =some v->kindOf x=some .local->bindL kindOf (P.zip vs) m x=some v |[],_,_,_,_,h,_,_=>by simp at h |_::_,[],_,_,_,_,h,_=>by simp at h |p::P,w::vs,0,m,nd,h1,h2,hk=>by simp at h1 h2;subst h1;subst h2;show bindL kindOf ((p,w)::P.zip vs) m p=_;unfold bindL;rw[v8 λv hv=>(qe.mp nd).1 (ko hv).1,bc hk];simp |p::P,w::vs,i+1,m,nd,h1,h2,hk=>by show bindL kindOf ((p,w)::P.zip vs) m x=_;unfold bindL;exact v9 (i:=i) (qe.mp nd).2 (by simpa using h1) (by simpa using h2) hk
theorem vb{kindOf:Str->Option NameKind}{x:Str}{v:Value}:∀{P:List Str}{vs:List Value}{i:Nat}{m:aJ},P.Nodup->P[i]? =some x->vs[i]? =some v->kindOf x≠some .local->bindC kindOf (P.zip vs) m x=some v |[],_,_,_,_,h,_,_=>by simp at h |_::_,[],_,_,_,_,h,_=>by simp at h |p::P,w::vs,0,m,nd,h1,h2,hk=>by simp at h1 h2;subst h1;subst h2;show bindC kindOf ((p,w)::P.zip vs) m p=_;unfold bindC;rw[va λv hv=>(qe.mp nd).1 (ko hv).1,bf hk];simp |p::P,w::vs,i+1,m,nd,h1,h2,hk=>by show bindC kindOf ((p,w)::P.zip vs) m x=_;unfold bindC;exact vb (i:=i) (qe.mp nd).2 (by simpa using h1) (by simpa using h2) hk
def start(N:List Str)(vs:List V):St:=vs.map some++List.replicate (N.length-vs.length) none
def cw(CX:dn)(P:af)(w:World)(K:aa)(mg:aJ)(ao:Heap)(N:List Str)(qual:Str)(scope:Scope)(f:Addr)(cd:Value)(A:ai)(outer:List Env)(s:ae)(H:Hp)(E:XK):Cx where
 prog:=P
 w:=w
 K:=K
 mg:=mg
 ao:=ao
 A:=A.deeper (envOfC qual scope s.heap.objs.size f cd)
 N:=N
 s₀:=s
 H₀:=H
 env:=envOfC qual scope s.heap.objs.size f cd
 outer:=outer
 stack:=envOfC qual scope s.heap.objs.size f cd::outer
 ex:=[]
 calm:=true
 fn:=λ_=>true
 pn:=[]
 xe:=λe s'=>wpAny (model P w) (A.deeper (envOfC qual scope s.heap.objs.size f cd)) (leaving (envOfC qual scope s.heap.objs.size f cd) e) (λ_ nH=>CX outer H s E e nH) (λe' nH=>CX outer H s E e' nH) s'
theorem uR{sc:Scope}{n:Nat}{x:Str}(h:sc.names.lookup x=some .cell):∃c,(cellsFrom n sc.names []).lookup x=some c:=by have q:=qa sc.names n [] (.inl h);exact Option.isSome_iff_exists.mp q
theorem oz{CX:dn}{P:af}{w:World}{K:aa}{mg:aJ}{ao:Heap}{N ps:List Str}{qual:Str}{scope:Scope}{f:Addr}{cd:Value}{A:ai}{outer:List Env}{s s1:ae}{H:Hp}{E:XK}{us:List Value}{vs:List V} (S:bw N ps scope)(hd:A.handled=none)(e0:gb P w K mg ao A outer s H)(hl:vs.length=ps.length)(r:Vals vs us) (x:InCallC s s.heap.objs.size (bindL (envOfC qual scope s.heap.objs.size f cd).kindOf (ps.zip us) λ_=>none) (cellsFrom (s.heap.objs.size+1) scope.names []) (bindC (envOfC qual scope s.heap.objs.size f cd).kindOf (ps.zip us) λ_=>none) s1): Inv (cw CX P w K mg ao N qual scope f cd A outer s H E) [] (start N vs) H s1:=by
 have bM:ps.length<=N.length:=by have:=gO List.length S.pre;rw[j9]at this;lia
 obtain⟨h1,tk,rfl,hk⟩:=x.done;have jw:∀b:Addr,b∉(cw CX P w K mg ao N qual scope f cd A outer s H E).ex:=λb z=>absurd (show b∈([]:List Addr)from z) (by simp);refine⟨⟨e0.mod,S.kind,Z,Z,br _,λy z c h1 h2=>?_,λy hy=>?_,λy c _ h=>?_,λ_=>hd,Around.frames_deeper e0.frames,.inr ⟨Z,Z⟩,λb z=>absurd z (jw b),e0.bs,e0.dJ,λb _ _=>jw b,λb z=>absurd z (jw b),e0.cY,e0.eR⟩,rfl,e0.bare,Un.kept hk,⟨_,x.toInCall.ns,λi y v h1 h2 h3=>?_⟩,λy c h=>⟨_,x.cell y c h⟩,e0.aE.fresh (br _),λy c h=>?_,λp hp=>absurd (show p∈([]:List (Addr×Obj))from hp) (by simp),e0.aE.kept hk,?_⟩
 ·exact name_of_addr x.apart (mC h1) (mC h2)
 ·have hy:scope.names.lookup y=some .cell\/scope.names.lookup y=some .free:=hy
  rcases hy with hy|hy
  ·exact uR hy
  ·exact absurd Z (S.zG _ (mC hy))
 ·exact Nat.le_of_lt (x.above y c (mC h))
 ·have hi:i<vs.length:=by
   unfold start at h2;by_cases hi:i<vs.length
   ·exact hi
   ·rw[List.getElem?_append_right (by simpa using hi)]at h2
    rw[List.getElem?_replicate]at h2;split at h2<;>cases h2
  have ha:vs[i]? =some v:=by unfold start at h2;rw[List.getElem?_append_left (by simpa using hi),dD]at h2;cases e:vs[i]? with |none=>rw[e]at h2;cases h2 |some a=>rw[e]at h2;cases h2;rfl
  obtain⟨u,hu,rv⟩:=r.get ha;have hp:ps[i]? =some y:=by rw[<-S.pre,List.getElem?_take_of_lt aV];exact h1
  have sS:ps.Nodup:=by rw[<-S.pre];exact S.nd.sublist (List.take_sublist _ _)
  refine⟨u,rv,?_⟩;rcases S.par y (kq hp)with k|k
  ·exact .inl ⟨k,v9 sS hp hu k⟩
  ·obtain⟨c,e⟩:=uR (n:=s.heap.objs.size+1) k
   refine .inr ⟨.inl k,c,e,?_⟩;have q:=x.cell y c e;rw[vb sS hp hu (by show scope.names.lookup y≠_;rw[k];decide)]at q;exact q
 ·exact e0.aE.fresh (Nat.le_of_lt (x.above y c (mC h)))
 ·unfold start
  show _=N.length;rw[fJ,bz,List.length_replicate]
  lia
theorem uC{CX:dn}{P:af}{w:World}{K:aa}{mg:aJ}{ao:Heap}{k:Nat}{f:Addr}{name qual:Str}{params:Arguments}{body:List Stmt}{scope:Scope}{dV kV doc pm ax ct oc:Value}{an od:Option Addr} {bZ:Array (Option Value)}{N ps:List Str}{sp:Sp}(lk:K.lookup f=some ⟨oc,od,.func (PySem.W.fnOf name qual params body scope dV kV doc pm an ax ct),bZ⟩)(cb:PySem.W.codeIn K ax qual=true)(S:bw N ps scope) (len:∀vs H Q E,sp vs H Q E->vs.length=ps.length) (cq:∀(A:ai)(outer:List Env)(s:ae)(H:Hp)(vs:List V)(Q:VK)(E:XK),bq k (A.deeper (envOfC qual scope s.heap.objs.size f ax))->sp vs H Q E->∃t,bW (cw CX P w K mg ao N qual scope f ax A outer s H E) body t/\t {nx:=λ_ H'=>Q .aK H',rt:=Q} (start N vs) H): cF P w K mg ao CX (k+1) f (PySem.W.fnOf name qual params body scope dV kV doc pm an ax ct) ps sp:=by
 refine⟨len,λA outer s H args us vs Q E hr e0 hb r cm=>?_⟩;have hl:=len _ _ _ _ cm;have KX:K.In s.heap:=e0.mod.fu.keeps λb o e=>(e0.bs b o e).1;have lim:s.heap.NoLimit:=e0.mod.nolimit.keeps λb o e=>(e0.bs b o e).1;have gB:∀y∈ps.zip us,scope.names.lookup y.1=some .local\/(scope.names.lookup y.1=some .cell/\((cellsFrom (s.heap.objs.size+1) scope.names []).lookup y.1).isSome=true):=λ⟨n,v⟩ hy=>by
  rcases S.par n (ko hy).1 with q|q
  ·exact .inl q
  ·exact .inr ⟨q,qa _ _ _ (.inl q)⟩
 refine vJ hr.depth (KX _ _ lk) Z S.co S.gen Z (vL KX cb) (hb _ _ _ _ ?_);refine vG S.kind gB λenv he s1 x=>?_;subst he;refine⟨lim.keeps x.toInCall.keep,codeAny_func ?_⟩;obtain⟨t,ht,hq⟩:=cq A outer s H vs Q E (hr.deeper _) cm;have I:Inv (cw CX P w K mg ao N qual scope f ax A outer s H E) [] (start N vs) H s1:=oz S hr.hd e0 hl r x;refine dr (ht [] s1 (start N vs) H _ I hq) (λfl s' hs=>?_) λe s' hs=>hs;have fin:∀{σ':St}{H':Hp}{v:V}{u:Value},Inv (cw CX P w K mg ao N qual scope f ax A outer s H E) [] σ' H' s'->RelV v u->Q v H'->CE outer P w H s Q u s':=λ{σ' H' v u} J rv q=>⟨v,H',J.os,J.bare,J.ao,J.aE,rv,q⟩;cases fl with |ret u=>obtain⟨v,σ',H',J,rv,q⟩:=hs;exact fin J rv q |next=>obtain⟨σ',H',J,q⟩:=hs;exact fin (v:=V.aK) (u:=Value.none) J Z q |brk=>obtain⟨_,_,_,q⟩:=hs;exact False.elim q |cont=>obtain⟨_,_,_,q⟩:=hs;exact False.elim q
section
variable {X:Cx}{x:Str}{p pos:Pos}{e:Expr}{es:List Expr}{t:TA}{id T:String}{r:List V->Hp->VK->Prop}
def kG(r:List V->Hp->VK->Prop)(t:TA):TE:=λO H Q=>t O H λvs H1=>r vs H1 Q
theorem bX(hc:cn X (.builtin id) r)(hg:Gl X x)(hm:X.mg x=none)(hv:bootBuiltins x=some (.builtin id))(ha:PA X (e::es) t)(hn:x≠"__name__":=by decide)(cc:(x==("__debug__":Str))=false:=by decide) (he:starEach (e::es) X.env=(false,eval e X.env)::starEach es X.env:=by rfl)(bM:(backTo pos (starEach es X.env)).any (·.1)=false:=by rfl):PE X (.Call (.Name x p) (e::es) [] pos) (kG r t):=by intro ak s O H Q I h;refine ki (jD I hg hm hv ?_ hn cc);exact PyProof.Rows.callWith_builtin1 (aF (ha pos ak s O H _ I h) λus s1 ⟨vs,H1,I1,r1,q1⟩=>hc ak s1 O H1 vs us Q I1 r1 q1) he bM
theorem gr(hc:cn X (.type T) r)(hg:Gl X x)(hm:X.mg x=none)(hv:bootBuiltins x=some (.type T))(ha:PA X (e::es) t)(hn:x≠"__name__":=by decide)(cc:(x==("__debug__":Str))=false:=by decide) (he:starEach (e::es) X.env=(false,eval e X.env)::starEach es X.env:=by rfl)(bM:(backTo pos (starEach es X.env)).any (·.1)=false:=by rfl):PE X (.Call (.Name x p) (e::es) [] pos) (kG r t):=by intro ak s O H Q I h;refine ki (jD I hg hm hv ?_ hn cc);exact vP (aF (ha pos ak s O H _ I h) λus s1 ⟨vs,H1,I1,r1,q1⟩=>hc ak s1 O H1 vs us Q I1 r1 q1) he bM
end
end L2
namespace HT
open PySem PyProof.Rows
section
open PySem.SeqAt
open PySem.AutoSeq1 (wpAny_loadPart')
open PySem.MeetsSeq PySem.MeetsSeq2 PySem.MeetsSeq3
end
section
variable {prog:af}{w:World}{A:ai}{E:Value->ae->Prop}{s:ae}
theorem DQ{t b:Addr}{vs ws:List Value}{Q:Value->ae->Prop}(ht:IsTup s.heap t vs.toArray)(hb:IsTup s.heap b ws.toArray)(hv:vs≠[]) (h1:ws=[]->Q (.ref t) s)(h2:ws≠[]->Q (.ref s.heap.objs.size) {s with heap:=s.heap.push {cls:=.type "tuple",data:=.seq (vs++ws).toArray}}) (oG:vs.length+ws.length<=sizeLine):wpAny (model prog w) A (binaryOp .Add (.ref t) (.ref b)) Q E s:=by
 obtain⟨⟨cls,dd,data,sl⟩,ho,hc,n,hd⟩:=id ht;obtain⟨⟨uO,iS,data2,iH⟩,fz,gD,n2,hd2⟩:=id hb;simp only at hc hd gD hd2;subst hc hd gD hd2;have e:vs.toArray++ws.toArray=(vs++ws).toArray:=by simp
 by_cases hw:ws=[]
 ·exact concat_meets ⟨_,ho,Z⟩ ⟨_,fz,Z⟩ noFill_tuple_add seq_tuple_add vM vN (vO _ _) (tuple_addW1 t b vs.toArray ws.toArray n n2 dd iS sl iH (by simpa using hv) (by simp[hw])) ⟨ho,fz,h1 hw⟩
 ·refine concat_meets ⟨_,ho,Z⟩ ⟨_,fz,Z⟩ noFill_tuple_add seq_tuple_add vM vN (vO _ _) (tuple_addW2 t b vs.toArray ws.toArray n n2 dd iS sl iH (by simpa using hv) (by simpa using hw) (by rw[bQ,bQ];exact oG)) ⟨ho,fz,?_⟩;rw[e];exact h2 hw
def aU(n d:Nat):Option Int->Nat |none=>d |some v=>if v<0 then(v+(n:Int)).toNat else min v.toNat n
theorem xF(n d:Nat)(hd:d<=n)(o:Option Int):aU n d o<=n:=by cases o with |none=>exact hd |some v=>
 show(if v<0 then(v+(n:Int)).toNat else min v.toNat n)<=n;by_cases hv:v<0
 ·rw[bc hv];lia
 ·rw[bf hv];exact Nat.min_le_right _ _
theorem uP(v:Int)(n d:Nat):(if v<0 then max (v+(n:Int)) 0 else min v (n:Int))=((aU n d (some v):Nat):Int):=by
 show(if v<0 then max (v+(n:Int)) 0 else min v (n:Int))=(((if v<0 then(v+(n:Int)).toNat else min v.toNat n):Nat):Int);by_cases hv:v<0
 ·simp only[bc hv];lia
 ·simp only[bf hv];lia
theorem Eh(lo hi:Option Int)(n:Nat):Builtin.Slice.sliceAdjust lo hi 1 (n:Int)=(((aU n 0 lo:Nat):Int),((aU n n hi:Nat):Int)):=by
 have h1:¬((1:Int)<0):=by lia
 unfold Builtin.Slice.sliceAdjust;simp only[h1,if_false];refine Prod.ext ?_ ?_
 ·cases lo with |none=>rfl |some v=>exact uP v n 0
 ·cases hi with |none=>rfl |some v=>exact uP v n n
theorem yd(i j:Nat):Builtin.Slice.slicePlaces (i:Int) (j:Int) 1=j-i:=by
 unfold Builtin.Slice.slicePlaces;have h1:(1:Int)>0:=by lia
 simp only[h1,if_true,Int.ediv_one];split<;>lia
theorem r9{v:Value}{o:Option Int}{Q:Option Int->ae->Prop}(p:IsPart v o)(h:Q o s):wpAny (model prog w) A (Builtin.Slice.slicePartIndex v) Q E s:=by cases p with |none=>exact slicePart_none h |int i t=>exact slicePart_int h
theorem rf{sl:Addr}{vl vu:Value}{lo hi:Option Int}{n:Nat}{Q:Int×Int×Nat->ae->Prop}(hs:s.heap.IsSliceOf sl vl vu .none)(pl:IsPart vl lo)(pu:IsPart vu hi) (h:Q (((aU n 0 lo:Nat):Int),1,aU n n hi-aU n 0 lo) s):wpAny (model prog w) A (Builtin.Slice.sliceApplied (.ref sl) (pure (n:Int))) Q E s:=by obtain⟨os,hV,lN,jL⟩:=id hs;unfold Builtin.Slice.sliceApplied Builtin.Slice.sliceFields;refine au (au (cW hV jL (x:=vl) Z (au (cW hV jL (x:=vu) Z (au (cW hV jL (x:=.none) Z (aZ ?_)))))));refine au (slicePart_none ?_);show wpAny _ _ (if((1:Int)==0)=true then _ else _) _ _ s;rw[bf aw];refine au (r9 pl (au (r9 pu (au (aZ ?_)))));show wpAny _ _ (match Builtin.Slice.sliceAdjust lo hi 1 (n:Int)with|(lo,hi)=>pure (lo,(1:Int),Builtin.Slice.slicePlaces lo hi 1)) _ _ s;rw[Eh lo hi n];show wpAny _ _ (pure (((aU n 0 lo:Nat):Int),(1:Int),Builtin.Slice.slicePlaces ((aU n 0 lo:Nat):Int) ((aU n n hi:Nat):Int) 1)) _ _ s;rw[yd];exact aZ h
theorem ye(xs:Array Value)(i k:Nat):((List.range k).filterMap λ(m:Nat)=>xs[((i:Int)+(m:Int)*1).toNat]?).toArray=((xs.toList.drop i).take k).toArray:=by
 have e:(λ(m:Nat)=>xs[((i:Int)+(m:Int)*1).toNat]?)=λm=>xs[i+m]?:=by
  funext m;have:((i:Int)+(m:Int)*1).toNat=i+m:=by lia
  rw[this]
 rw[e];have:=pick_run xs i k;rw[List.filterMap_map]at this;have e2:((λx=>xs[x]?)∘λx=>i+x)=λm=>xs[i+m]?:=rfl;rw[e2]at this;rw[this]
theorem Ct{t sl:Addr}{items:Array Value}{vl vu:Value}{lo hi:Option Int}{Q:Value->ae->Prop}(ht:IsTup s.heap t items)(hs:s.heap.IsSliceOf sl vl vu .none)(pl:IsPart vl lo)(pu:IsPart vu hi) (hw:¬(aU items.size 0 lo=0/\aU items.size items.size hi=items.size)) (h:Q (.ref s.heap.objs.size) {s with heap:=s.heap.push {cls:=.type "tuple",data:=.seq ((items.toList.drop (aU items.size 0 lo)).take (aU items.size items.size hi-aU items.size 0 lo)).toArray}}) (oG:items.size<=sizeLine):wpAny (model prog w) A (getItem (.ref t) (.ref sl)) Q E s:=by
 have ly:sizeOk (.seq ((items.toList.drop (aU items.size 0 lo)).take (aU items.size items.size hi-aU items.size 0 lo)).toArray):=by show((items.toList.drop (aU items.size 0 lo)).take (aU items.size items.size hi-aU items.size 0 lo)).toArray.size<=sizeLine;rw[bQ,j9,vV,vY];omega
 have hj:aU items.size items.size hi<=items.size:=xF _ _ (br _) hi;obtain⟨os,hV,lN,jL⟩:=id hs;have p5:s.TypeIs (.ref sl) "slice":=⟨os,hV,lN⟩;unfold getItem
 try with_reducible refine eu ?_
 first|refine au (aZ ?_)|skip
 refine au (wpAny_sequenceKey ht.typeIs aw ?_);refine au (kh (name:=Str.ofString "__getitem__") ht.typeIs kl (kg kl ht.typeIs entry_tuple_getitem ?_ (args_tuple_getitem _ _)));show wpAny _ _ (Builtin.Tuple.tupleItemsOf (.ref t)>>=_) _ _ s;refine au (tupleItemsOf_ ht ?_);refine au (wpAny_typeOf p5 ?_);rw[bc aw];refine au (rf hs pl pu ?_);have B5:¬((((aU items.size 0 lo:Nat):Int)==0&&(1:Int)==1&&(aU items.size items.size hi-aU items.size 0 lo)==items.size)=true):=by intro q;rw[cp,cp]at q;have q1:((aU items.size 0 lo:Nat):Int)=0:=eq_of_beq q.1.1;have q2:aU items.size items.size hi-aU items.size 0 lo=items.size:=eq_of_beq q.2;exact hw ⟨bJ,bJ⟩
 show wpAny _ _ (if(((aU items.size 0 lo:Nat):Int)==0&&(1:Int)==1&&(aU items.size items.size hi-aU items.size 0 lo)==items.size)=true then _ else _) _ _ s;rw[bf B5,ye]
 first |exact au (m:=Builtin.Tuple.tupleExact _) (iz (aZ ⟨_,Z,aZ h⟩) ly) |exact au (m:=Builtin.Tuple.tupleExact _) (iz (au (aZ (aZ ⟨_,Z,aZ h⟩))) ly) |exact au (au (m:=Builtin.Tuple.tupleExact _) (iz (aZ (aZ ⟨_,Z,aZ h⟩)) ly)) |exact au (au (m:=Builtin.Tuple.tupleExact _) (iz (aZ ⟨_,Z,aZ h⟩) ly))
end
end HT
namespace L2
open PySem PySem.Spec PyProof.Rows
abbrev TO:=St->Hp->(Option Int->Hp->Prop)->Prop
def PO(X:Cx)(e:Option Expr)(t:TO):Prop:=∀(ak:List (Addr×Obj))(s:ae)(O:St)(H:Hp)(Q:Option Int->Hp->Prop),Inv X ak O H s->t O H Q->wpAny (model X.prog X.w) X.A (evalPart e X.env) (λu s'=>∃o H',Inv X ak O H' s'/\IsPart u o/\Q o H') X.xe s
def wR:TO:=λ_ H Q=>Q none H
inductive Ew(Q:Option Int->Hp->Prop)(x:V)(H1:Hp):Prop |mk (i:_)(h0:x= .int i)(h1:Q (some i) H1)
def wM(t:TE):TO:=λO H Q=>t O H λx H1=>Ew Q x H1
section
variable {X:Cx}{e:Expr}{te:TE}{lo hi:Option Expr}{tl th:TO}{pos p2:Pos}
theorem fq:PO X none wR:=by intro ak s O H Q I h;rw[evalPart_none];exact aZ ⟨none,H,I,.none,h⟩
theorem dW(h:PE X e te):PO X (some e) (wM te):=by intro ak s O H Q I hw;rw[evalPart_some];refine aF (h ak s O H _ I hw) λu s1 ⟨x,H1,I1,r1,q1⟩=>?_;obtain⟨i,rfl,q⟩:=q1;obtain⟨t,rfl⟩:=r1;exact⟨some i,H1,I1,.int i t,q⟩
def k4(X:Cx)(r:V->Option Int->Option Int->Hp->VK->Prop):Prop:=∀(ak:List (Addr×Obj))(s:ae)(O:St)(H:Hp)(x:V)(v vl vu:Value)(lo hi:Option Int)(sl:Addr)(Q:VK),Inv X ak O H s->RelV x v->s.heap.IsSliceOf sl vl vu .none->IsPart vl lo->IsPart vu hi->r x lo hi H Q->∃T id,typeLookup (.type T) "__getitem__"=pure (some (.builtin id))/\s.TypeIs v T/\wpAny (model X.prog X.w) X.A (getItem v (.ref sl)) (EP X ak O Q) X.xe s
def wI(r:V->Option Int->Option Int->Hp->VK->Prop)(te:TE)(tl th:TO):TE:=λO H Q=>te O H λx H1=>tl O H1 λl H2=>th O H2 λu H3=>r x l u H3 Q
theorem eG{r:V->Option Int->Option Int->Hp->VK->Prop}(hr:k4 X r)(he:PE X e te)(hl:PO X lo tl)(hu:PO X hi th):PE X (.Subscript e (.Slice lo hi none p2) pos) (wI r te tl th):=by intro ak s O H Q I h;refine Subscript_ (aF (he ak s O H _ I h) λv s1 ⟨x,H1,I1,r1,q1⟩=>?_);refine wpAny_Slice (aF (hl ak s1 O H1 _ I1 q1) λvl s2 ⟨l,H2,I2,pl,q2⟩=>aF (hu ak s2 O H2 _ I2 q2) λvu s3 ⟨u,H3,I3,pu,q3⟩=>?_);rw[evalPart_none];refine aZ ?_;have I4:Inv X ak O H3 {s3 with heap:=s3.heap.push {cls:=.type "slice",data:=.fields #[vl,vu,.none]}}:=I3.kept (t':=s3.toks) λb ob q=>bu _ q;obtain⟨T,id,hT,ht,hg⟩:=hr ak {s3 with heap:=s3.heap.push {cls:=.type "slice",data:=.fields #[vl,vu,.none]}} O H3 x v vl vu l u s3.heap.objs.size Q I4 r1 (Heap.IsSliceOf.new ..) pl pu q3;show wpAny (model X.prog X.w) X.A (subscriptTail e (.Slice lo hi none p2) v (.ref s3.heap.objs.size)) (EP X ak O Q) X.xe {s3 with heap:=s3.heap.push {cls:=.type "slice",data:=.fields #[vl,vu,.none]}};exact tail_any (ops:=[.ref s3.heap.objs.size,v]) ht hT hg (by with_unfolding_all rfl)
def ek(xs:List V)(lo hi:Option Int):List V:=(xs.drop (HT.aU xs.length 0 lo)).take (HT.aU xs.length xs.length hi-HT.aU xs.length 0 lo)
theorem uK(xs:List V)(lo hi:Option Int):(ek xs lo hi).length<=xs.length:=by
 unfold ek;rw[j9,vV]
 lia
inductive F8(K:aa)(x:V)(lo:Option Int)(hi:Option Int)(H:Hp)(Q:VK):Prop |mk (a:_)(xs:_)(h0:x= .ref a)(h1:bb K H a xs)(h2:¬(HT.aU xs.length 0 lo=0/\HT.aU xs.length xs.length hi=xs.length))(h3:∀p,H p=none->Q (.ref p) (upd H p (.tup (ek xs lo hi))))
def xN(K:aa):V->Option Int->Option Int->Hp->VK->Prop:=λx lo hi H Q=>F8 K x lo hi H Q
theorem rg:k4 X (xN X.K):=by
 intro ak s O H x v vl vu lo hi sl Q I rx hs pl pu h;obtain⟨a,xs,rfl,hx,hw,q⟩:=h;cases rx;obtain⟨its,r,ht,hz⟩:=I.tuple hx;have hlen:its.toArray.size=xs.length:=by rw[bQ];exact r.length.symm
 refine⟨"tuple",_,kl.lookup,ht.typeIs,?_⟩;refine HT.Ct ht hs pl pu (by rw[hlen];exact hw) ?_ (by rw[hlen];exact hz);rw[hlen];refine⟨.ref s.heap.objs.size,_,I.laid (t':=s.toks) (o:=.tup (ek xs lo hi)) (λb ob q=>bu _ q) (br _) ?_,Z,q _ (I.aE.fresh (br _))⟩;exact⟨dC (uK xs lo hi) hz,_,(r.drop (HT.aU xs.length 0 lo)).take (HT.aU xs.length xs.length hi-HT.aU xs.length 0 lo),IsTup.new _ _⟩
theorem Vals.og{xs:List V}{us:List Value}(r:Vals xs us):us=[]↔xs=[]:=by cases r with |nil=>simp |cons _ _=>simp
end
def gy(n:Nat)(i:Int):Option Nat:=if 0<=i then(if i<n then some i.toNat else none)else if-(n:Int)<=i then some (i+n).toNat else none
def fD{α:Type}(xs:List α)(i:Int):Option α:=(gy xs.length i).bind λj=>xs[j]?
theorem tM{n:Nat}{i:Int}{j:Nat}(h:gy n i=some j):seqIndex? i n=some j/\j<n/\-(n:Int)<=i/\i<n:=by
 unfold gy at h;by_cases h0:0<=i
 ·rw[bc h0]at h
  by_cases h1:i<n
  ·rw[bc h1]at h
   have e:i.toNat=j:=cH h;exact⟨by rw[seqIndex_of h0 h1,e],aV,aV,h1⟩
  ·rw[bf h1]at h;cases h
 ·rw[bf h0]at h
  by_cases h1:-(n:Int)<=i
  ·rw[bc h1]at h
   have e:(i+n).toNat=j:=cH h;exact⟨by rw[seqIndex_neg aV h1,e],aV,h1,aV⟩
  ·rw[bf h1]at h;cases h
theorem vh{α:Type}{xs:List α}{i:Int}{v:α}(h:fD xs i=some v):∃j,seqIndex? i xs.length=some j/\xs[j]? =some v/\j<xs.length/\-(xs.length:Int)<=i/\i<xs.length:=by unfold fD at h;cases e:gy xs.length i with |none=>rw[e]at h;cases h |some j=>rw[e]at h;obtain⟨h1,h2,h3,h4⟩:=tM e;exact⟨j,h1,h,h2,h3,h4⟩
theorem Eb{α:Type}{xs:List α}{j:Nat}{v:α}(h:xs[j]? =some v):fD xs (j:Int)=some v:=by
 have hj:j<xs.length:=(gh.mp h).1;have e:gy xs.length (j:Int)=some j:=by unfold gy;rw[bc aV,bc aV];simp
 unfold fD;rw[e];exact h
def vm(b:Expr):Prop:=∀o i,subscripted b false o i=operate [o,i] (getItem o i)
def gJ(X:Cx)(r:R2):Prop:=∀(value slice:Expr)(ak:List (Addr×Obj))(s:ae)(O:St)(H:Hp)(x y:V)(v u:Value)(Q:VK),Inv X ak O H s->RelV x v->RelV y u->r x y H Q->subscripted slice false v u=operate [v,u] (getItem v u)->wpAny (model X.prog X.w) X.A (subscriptTail value slice v u) (EP X ak O Q) X.xe s
def ka(X:Cx)(id:String)(r:V->List V->Hp->VK->Prop):Prop:=∀(ak:List (Addr×Obj))(s:ae)(O:St)(H:Hp)(x:V)(xs:List V)(v:Value)(us:List Value)(Q:VK),Inv X ak O H s->RelV x v->Vals xs us->r x xs H Q->wpAny (model X.prog X.w) X.A (call (.builtin id) (v::us)) (EP X ak O Q) X.xe s
section
variable {X:Cx}{a b:Expr}{ta tb:TE}{pos:Pos}
theorem gJ.or{r r':R2}(h:gJ X r)(h':gJ X r'):gJ X (λx y H Q=>r x y H Q\/r' x y H Q):=by
 intro value slice ak s O H x y v u Q I rx ry q hs;rcases q with q|q
 ·exact h value slice ak s O H x y v u Q I rx ry q hs
 ·exact h' value slice ak s O H x y v u Q I rx ry q hs
theorem yq{r:R2}(hr:gJ X r)(ha:PE X a ta)(hb:PE X b tb)(hs:vm b):PE X (.Subscript a b pos) (kE r ta tb):=by intro ak s O H Q I h;exact Subscript_ (vc ha hb I h λv u s2 x y H2 I2 rx ry q=>hr a b ak s2 O H2 x y v u Q I2 rx ry q (hs _ _))
inductive Fh(K:aa)(x:V)(y:V)(H:Hp)(Q:VK):Prop |mk (p:_)(xs:_)(i:_)(v:_)(h0:x= .ref p)(h1:y= .int i)(h2:aH K H p xs)(h3:fD xs i=some v)(h4:Q v H)
def nO(K:aa):R2:=λx y H Q=>Fh K x y H Q
inductive Fg(K:aa)(x:V)(y:V)(H:Hp)(Q:VK):Prop |mk (p:_)(xs:_)(i:_)(v:_)(h0:x= .ref p)(h1:y= .int i)(h2:bb K H p xs)(h3:fD xs i=some v)(h4:Q v H)
def nN(K:aa):R2:=λx y H Q=>Fg K x y H Q
theorem Aq:gJ X (nO X.K):=by
 intro value slice ak s O H x y v u Q I rx ry h hs;obtain⟨p,xs,i,z,rfl,rfl,hq,he,q⟩:=h;cases rx;obtain⟨t,rfl⟩:=ry;obtain⟨its,r,pl,hz⟩:=I.list hq;obtain⟨j,h1,h2,h3,h4,h5⟩:=vh he;obtain⟨w,ew,nI⟩:=r.get h2;have hl:=r.length;have hn:=jC;have fin:EP X ak O Q w s:=⟨z,H,I,nI,q⟩;by_cases h0:0<=i
 ·have hj:i.toNat=j:=by rw[seqIndex_of h0 h5]at h1;exact cH h1
  exact item_listR pl.isList h0 aV (by rw[hj];simpa using ew) fin hs
 ·have hj:(i+(its.toArray.size:Int)).toNat=j:=by rw[seqIndex_neg aV h4]at h1;rw[bQ,<-hl];exact cH h1
  exact subscriptTail_builtinR (x:=w) pl.isList.typeIs slot_list_getitem.lookup (wpAny_getItem_list_neg (Q:=λr s'=>r=w/\EP X ak O Q r s') pl.isList aV (by rw[bQ]<;>lia) aV (by rw[hj];simpa using ew) ⟨Z,fin⟩) hs
theorem Ap:gJ X (nN X.K):=by intro value slice ak s O H x y v u Q I rx ry h hs;obtain⟨p,xs,i,z,rfl,rfl,hq,he,q⟩:=h;cases rx;obtain⟨t,rfl⟩:=ry;obtain⟨its,r,pl,hz⟩:=I.tuple hq;obtain⟨j,h1,h2,h3,h4,h5⟩:=vh he;obtain⟨w,ew,nI⟩:=r.get h2;have hl:=r.length;have hn:=jC;have fin:EP X ak O Q w s:=⟨z,H,I,nI,q⟩;exact subscriptTail_builtinR (x:=w) pl.typeIs slot_tuple_getitem.lookup (getItem_tuple (j:=j) (Q:=λr s'=>r=w/\EP X ak O Q r s') pl aV aV (by rw[bQ,<-hl];exact h1) (by simpa using ew) ⟨Z,fin⟩) hs
theorem zY(its:List Value)(n j:Nat)(u:Value):Obj.mapSeq (·.setIfInBounds j u) {cls:=.type "list",data:=.seq its.toArray n}={cls:=.type "list",data:=.seq (its.set j u).toArray n}:=by simp[Obj.mapSeq]
theorem Inv.lst{ak:List (Addr×Obj)}{O:St}{H:Hp}{s:ae}{p:Addr}{xs:List V}(I:Inv X ak O H s)(h:H p=some (.lst xs)): ∃(its:List Value)(n:Nat),Vals xs its/\s.heap.get? p=some {cls:=.type "list",data:=.seq its.toArray n}/\xs.length<=sizeLine:=by obtain⟨z,its,n,r,e⟩:=I.aE p _ h;exact⟨its,n,r,e,z⟩
theorem Inv.A3{ak:List (Addr×Obj)}{O:St}{H:Hp}{s:ae}{p:Addr}{xs ys:List V}{its its':List Value}{n n':Nat}{f:Obj->Obj}(I:Inv X ak O H s)(h:H p=some (.lst xs)) (ho:s.heap.get? p=some {cls:=.type "list",data:=.seq its.toArray n})(hf:f {cls:=.type "list",data:=.seq its.toArray n}={cls:=.type "list",data:=.seq its'.toArray n'})(r:Vals ys its')(hz:ys.length<=sizeLine)(t:Nat): Inv X ak O (upd H p (.lst ys)) {s with heap:=s.heap.update p f,toks:=t}:=by
 have e:(s.heap.update p f).get? p=some {cls:=.type "list",data:=.seq its'.toArray n'}:=by rw[qq f ho (by rw[hf]<;>rfl),hf]
 refine I.write (x:=p) (e:=p) (by rw[h];trivial) (.inl Z) (λb u hb q=>(kr _ _ (dN hb)).trans q) ⟨_,e⟩ ?_;exact⟨hz,its',n',r,e⟩
inductive Fd(o:V)(i:V)(v:V)(H:Hp)(Q:Hp->Prop):Prop |mk (p:_)(xs:_)(k:_)(j:_)(h0:o= .ref p)(h1:i= .int k)(h2:H p=some (.lst xs))(h3:gy xs.length k=some j)(h4:Q (upd H p (.lst (xs.set j v))))
def xR:V->V->V->Hp->(Hp->Prop)->Prop:=λo i v H Q=>Fd o i v H Q
theorem set_list:vo X xR:=by
 intro ak s O H o i v ov iv u Q I ro ri rv h;obtain⟨p,xs,k,j,rfl,rfl,hp,hj,q⟩:=h;cases ro;obtain⟨t,rfl⟩:=ri;obtain⟨its,n,r,ho,hz⟩:=I.lst hp;obtain⟨h1,h2,h3,h4⟩:=tM hj;have hl:=r.length;have hn:=jC;have I':Inv X ak O (upd H p (.lst (xs.set j v))) {s with heap:=s.heap.update p (Obj.mapSeq (·.setIfInBounds j u))}:=I.A3 hp ho (zY its n j u) (r.set rv j) (by rw[List.length_set];exact hz) s.toks;by_cases h0:0<=k
 ·have hk:k.toNat=j:=by rw[seqIndex_of h0 h4]at h1;exact cH h1
  exact PySem.W.ki_setAt ho h0 aV (by rw[bQ,<-hl];exact h4) (by rw[hk];exact⟨_,I',q⟩)
 ·have hk:(k+(its.toArray.size:Int)).toNat=j:=by rw[seqIndex_neg aV h3]at h1;rw[bQ,<-hl];exact cH h1
  exact PySem.W.ki_setBack ho aV (by rw[bQ,<-hl];exact h3) aV (by rw[hk];exact⟨_,I',q⟩)
theorem xn(lo hi:Option Int)(n:Nat):(sliceBounds lo hi none n).1=((HT.aU n 0 lo:Nat):Int)/\(sliceBounds lo hi none n).2.1=((HT.aU n n hi:Nat):Int)/\(sliceBounds lo hi none n).2.2=1:=by
 refine⟨?_,?_,Z⟩
 ·cases lo with |none=>simp[sliceBounds,HT.aU] |some i=>
  simp only[sliceBounds,HT.aU,Option.getD_none,show(1:Int)>0 by decide,if_true];by_cases h:i<0
  ·simp only[h,if_true]<;>lia
  ·simp only[h,if_false]<;>lia
 ·cases hi with |none=>simp[sliceBounds,HT.aU] |some i=>
  simp only[sliceBounds,HT.aU,Option.getD_none,show(1:Int)>0 by decide,if_true];by_cases h:i<0
  ·simp only[h,if_true]<;>lia
  ·simp only[h,if_false]<;>lia
theorem xo(its:List Value)(lo hi:Option Int):slicePick its.toArray lo hi none=((its.drop (HT.aU its.length 0 lo)).take (HT.aU its.length its.length hi-HT.aU its.length 0 lo)).toArray:=by obtain⟨h1,h2,h3⟩:=xn lo hi its.toArray.size;unfold slicePick;rw[h1,h2,h3];simp only[sliceRange_one,pick_run,bQ]<;>rfl
inductive F9(K:aa)(x:V)(lo:Option Int)(hi:Option Int)(H:Hp)(Q:VK):Prop |mk (a:_)(xs:_)(h0:x= .ref a)(h1:aH K H a xs)(h2:∀p,H p=none->Q (.ref p) (upd H p (.lst (ek xs lo hi))))
def xO(K:aa):V->Option Int->Option Int->Hp->VK->Prop:=λx lo hi H Q=>F9 K x lo hi H Q
theorem xq:k4 X (xO X.K):=by intro ak s O H x v vl vu lo hi sl Q I rx hs pl pu h;obtain⟨a,xs,rfl,hx,q⟩:=h;cases rx;obtain⟨its,r,ht,hz⟩:=I.list hx;have hlen:=r.length;refine⟨"list",_,slot_list_getitem.lookup,ht.isList.typeIs,?_⟩;refine wpAny_getItem_list_slice ht.isList hs pl pu .none (by simp) ?_ (by rw[bQ]<;>lia);rw[xo,<-hlen];refine⟨.ref s.heap.objs.size,_,I.laid (t':=s.toks) (o:=.lst (ek xs lo hi)) (λb ob q=>bu _ q) (br _) ?_,Z,q _ (I.aE.fresh (br _))⟩;exact⟨dC (uK xs lo hi) hz,_,0,(r.drop (HT.aU xs.length 0 lo)).take (HT.aU xs.length xs.length hi-HT.aU xs.length 0 lo),cA _ Z⟩
def gE:V->Bool | .aK=>true | .bl _=>true | .int _=>true | .str _=>true |_=>false
def gG:V->V->Bool | .aK,.aK=>true | .bl a,.bl b=>a==b | .bl a,.int b=>(if a then 1 else 0)==b | .int a,.bl b=>a==(if b then 1 else 0) | .int a,.int b=>a==b | .str a,.str b=>a==b |_,_=>false
theorem Dq{A:ai}{s:ae}{y x:V}{u v:Value}(ry:RelV y u)(rx:RelV x v)(fy:gE y=true)(fx:gE x=true):SeqAt.EqAt A s u v (gG y x):=by cases y with
 |aK=>cases ry;cases x with |aK=>cases rx;exact SeqAt.EqAt.same _ |bl b=>cases rx;exact SeqAt.EqAt.none_bool b |int b=>obtain⟨t,rfl⟩:=rx;exact SeqAt.EqAt.none_int b t |str b=>obtain⟨t,rfl⟩:=rx;exact SeqAt.EqAt.none_str b t |_=>exact absurd (show false=true from fx) cB
 |bl a=>cases ry;cases x with |aK=>cases rx;exact SeqAt.EqAt.bool_none a |bl b=>cases rx;exact SeqAt.EqAt.bool_bool a b |int b=>obtain⟨t,rfl⟩:=rx;exact SeqAt.EqAt.bool_int a b t |str b=>obtain⟨t,rfl⟩:=rx;exact SeqAt.EqAt.bool_str a b t |_=>exact absurd (show false=true from fx) cB
 |int a=>obtain⟨t',rfl⟩:=ry;cases x with |aK=>cases rx;exact SeqAt.EqAt.int_none a t' |bl b=>cases rx;exact SeqAt.EqAt.int_bool a t' b |int b=>obtain⟨t,rfl⟩:=rx;exact SeqAt.EqAt.int_int a t' b t |str b=>obtain⟨t,rfl⟩:=rx;exact SeqAt.EqAt.int_str a t' b t |_=>exact absurd (show false=true from fx) cB
 |str a=>obtain⟨t',rfl⟩:=ry;cases x with |aK=>cases rx;exact SeqAt.EqAt.str_none a t' |bl b=>cases rx;exact SeqAt.EqAt.str_bool a t' b |int b=>obtain⟨t,rfl⟩:=rx;exact SeqAt.EqAt.str_int a t' b t |str b=>obtain⟨t,rfl⟩:=rx;exact SeqAt.EqAt.str_str a t' b t |_=>exact absurd (show false=true from fx) cB
 |_=>exact absurd (show false=true from fy) cB
def de(x:V)(u:Value):Bool:=match u with | .none=>gG .aK x | .bool b=>gG (.bl b) x | .int i _=>gG (.int i) x | .str z _=>gG (.str z) x |_=>false
theorem uG{x y:V}{u:Value}(r:RelV y u)(f:gE y=true):de x u=gG y x:=by cases y with |aK=>cases r;rfl |bl b=>cases r;rfl |int i=>obtain⟨t,rfl⟩:=r;rfl |str z=>obtain⟨t,rfl⟩:=r;rfl |_=>exact absurd (show false=true from f) cB
theorem jV{x:V}:∀{xs:List V}{us:List Value},Vals xs us->xs.all gE=true->us.any (de x)=xs.any λy=>gG y x |_,_,.nil,_=>rfl |y::xs,u::us,.cons r t,f=>by rw[List.all_cons,cp]at f;rw[List.any_cons,List.any_cons,uG r f.1,jV t f.2]
theorem jA{A:ai}{s:ae}{x:V}{v:Value}(rx:RelV x v)(fx:gE x=true):∀{xs:List V}{us:List Value},Vals xs us->xs.all gE=true->∀u∈us,SeqAt.EqAt A s u v (de x u)
 |_,_,.nil,_=>λu hu=>by cases hu |y::xs,u::us,.cons r t,f=>λu' hu=>by
  rw[List.all_cons,cp]at f;rcases cz.mp hu with rfl|hu
  ·rw[uG r f.1];exact Dq r rx f.1 fx
  ·exact jA rx fx t f.2 u' hu
def jF(x:V)(xs:List V):Bool:=xs.any λy=>gG y x
inductive Fq(K:aa)(neg:Bool)(x:V)(y:V)(H:Hp)(Q:VK):Prop |mk (p:_)(xs:_)(h0:y= .ref p)(h1:(aH K H p xs\/bb K H p xs))(h2:gE x=true)(h3:xs.all gE=true)(h4:Q (.bl (if neg then !jF x xs else jF x xs)) H)
def kW(K:aa)(neg:Bool):R2:=λx y H Q=>Fq K neg x y H Q
theorem yJ:bD X (compareOp .In) (kW X.K false):=by
 intro ak s O H x y v u Q I rx ry h;obtain⟨p,xs,rfl,hq,fx,fs,q⟩:=h;cases ry;rcases hq with hq|hq
 ·obtain⟨its,r,pl,hz⟩:=I.list hq
  refine SeqAt.in_listAt (de x) pl.isList (λw hw=>jA rx fx r fs w (by simpa using hw)) ⟨.bl _,H,I,Z,?_⟩;rw[show its.toArray.any (de x)=its.any (de x) by simp,jV r fs];exact q
 ·obtain⟨its,r,pl,hz⟩:=I.tuple hq
  refine SeqAt.in_tupleAt (de x) pl (λw hw=>jA rx fx r fs w (by simpa using hw)) ⟨.bl _,H,I,Z,?_⟩;rw[show its.toArray.any (de x)=its.any (de x) by simp,jV r fs];exact q
theorem yF:bD X (compareOp .NotIn) (kW X.K true):=by
 intro ak s O H x y v u Q I rx ry h;obtain⟨p,xs,rfl,hq,fx,fs,q⟩:=h;cases ry;rcases hq with hq|hq
 ·obtain⟨its,r,pl,hz⟩:=I.list hq
  refine SeqAt.notIn_listAt (de x) pl.isList (λw hw=>jA rx fx r fs w (by simpa using hw)) ⟨.bl _,H,I,Z,?_⟩;rw[show its.toArray.any (de x)=its.any (de x) by simp,jV r fs];exact q
 ·obtain⟨its,r,pl,hz⟩:=I.tuple hq
  refine SeqAt.notIn_tupleAt (de x) pl (λw hw=>jA rx fx r fs w (by simpa using hw)) ⟨.bl _,H,I,Z,?_⟩;rw[show its.toArray.any (de x)=its.any (de x) by simp,jV r fs];exact q
theorem DU:cn X (.builtin "len") (λxs H Q=>∃p ys,xs=[.ref p]/\(aH X.K H p ys\/bb X.K H p ys)/\Q (.int ys.length) H):=by
 intro ak s O H xs us Q I r h;obtain⟨p,ys,rfl,hq,q⟩:=h;obtain⟨u,rfl,rx⟩:=vals1 r;cases rx;have hn:=jC;rcases hq with hq|hq
 ·obtain⟨its,r',pl,hz⟩:=I.list hq
  have hlen:=r'.length;exact Calls.call_len_list pl.isList (by simp only[bQ]<;>lia) ⟨.int ys.length,H,I.tok _,⟨s.toks+1,by rw[bQ,hlen]⟩,q⟩
 ·obtain⟨its,r',pl,hz⟩:=I.tuple hq
  have hlen:=r'.length;exact len_tuple pl (by simp only[bQ]<;>lia) ⟨.int ys.length,H,I.tok _,⟨s.toks+1,by rw[bQ,hlen]⟩,q⟩
theorem cn.or{f:Value}{r r':List V->Hp->VK->Prop}(h:cn X f r)(h':cn X f r'):cn X f (λxs H Q=>r xs H Q\/r' xs H Q):=by
 intro ak s O H xs us Q I rs q;rcases q with q|q
 ·exact h ak s O H xs us Q I rs q
 ·exact h' ak s O H xs us Q I rs q
theorem DT:cn X (.type "list") (λxs H Q=>∃p ys,xs=[.ref p]/\(aH X.K H p ys\/bb X.K H p ys)/\∀l,H l=none->Q (.ref l) (upd H l (.lst ys))):=by
 intro ak s O H xs us Q I r h;obtain⟨p,ys,rfl,hq,q⟩:=h;obtain⟨u,rfl,rx⟩:=vals1 r;cases rx;have fin:∀(its:List Value),Vals ys its->ys.length<=sizeLine->∀(h':Heap)(c':Nat),(∀b o',s.heap.get? b=some o'->h'.get? b=some o')->h'.get? s.heap.objs.size=some {cls:=.type "list",dict:=none,data:=.seq its.toArray c',slots:=#[]}->EP X ak O Q (.ref s.heap.objs.size) {s with heap:=h'}:=λits r' hz h' c' kp e=>⟨.ref s.heap.objs.size,_,I.laid (t':=s.toks) kp (br _) (show cM X.prog X.w _ h' _ (.lst ys)from⟨hz,its,c',r',e⟩),Z,q _ (I.aE.fresh (br _))⟩;rcases hq with hq|hq
 ·obtain⟨its,r',pl,hz⟩:=I.list hq
  have hlen:=r'.length;obtain⟨o,ho,hc,n,hd⟩:=pl.isList;exact call_list_seq p (.inl Z) ho hc hd (λh' c' kp e=>fin its r' hz h' c' kp e) (by simp only[bQ]<;>lia)
 ·obtain⟨its,r',pl,hz⟩:=I.tuple hq
  have hlen:=r'.length;obtain⟨o,ho,hc,n,hd⟩:=pl;exact call_list_seq p (.inr Z) ho hc hd (λh' c' kp e=>fin its r' hz h' c' kp e) (by simp only[bQ]<;>lia)
theorem DR:cn X (.type "tuple") (λxs H Q=>∃p ys,xs=[.ref p]/\((aH X.K H p ys/\∀l,H l=none->Q (.ref l) (upd H l (.tup ys)))\/(bb X.K H p ys/\Q (.ref p) H))):=by
 intro ak s O H xs us Q I r h;obtain⟨p,ys,rfl,h⟩:=h;obtain⟨u,rfl,rx⟩:=vals1 r;cases rx;rcases h with⟨hq,q⟩|⟨hq,q⟩
 ·obtain⟨its,r',pl,hz⟩:=I.list hq
  have hlen:=r'.length;refine call_tuple_list pl.isList (λh' kp=>?_) (by simp only[bQ]<;>lia);have I1:Inv X ak O H {s with heap:=h'}:=I.kept (t':=s.toks) kp;have I2:Inv X ak O (upd H h'.objs.size (.tup ys)) {s with heap:=h'.push {cls:=.type "tuple",data:=.seq its.toArray}}:=I1.laid (t':=s.toks) (λb o e=>bu _ e) (br _) (show cM X.prog X.w _ _ _ (.tup ys)from⟨hz,its,r',IsTup.new _ _⟩);exact⟨.ref h'.objs.size,_,I2,Z,q _ (I1.aE.fresh (br _))⟩
 ·obtain⟨its,r',pl,hz⟩:=I.tuple hq
  exact call_tuple_same pl ⟨.ref p,H,I,Z,q⟩
def qy(K:aa)(T:String)(x:V)(H:Hp):Prop:=match x with | .str _=>T="str" | .int _=>T="int" | .ref p=>(T="list"/\∃xs,aH K H p xs)\/(T="tuple"/\∃o,K.lookup p=some o/\o.cls= .type "tuple"/\o.dict=none)\/ (T="dict"/\((∃bE,H p=some (.dK bE))\/∃bE,H p=some (.dT bE)))\/(T="set"/\∃S n,H p=some (.set S n)) |_=>False
theorem wt{ak:List (Addr×Obj)}{O:St}{H:Hp}{s:ae}{T:String}{x:V}{v:Value}(I:Inv X ak O H s)(r:RelV x v)(ty:qy X.K T x H): s.TypeIs v T/\∀a,v= .ref a->∃ob,s.heap.get? a=some ob/\ob.dict=none:=by cases x with
 |str z=>obtain⟨t,rfl⟩:=r;cases(show T="str" from ty);exact⟨typeIs_str s z t,λ_ e=>nomatch e⟩ |int i=>obtain⟨t,rfl⟩:=r;cases(show T="int" from ty);exact⟨typeIs_int s i t,λ_ e=>nomatch e⟩ |ref p=>
  cases r;rcases ty with⟨rfl,xs,hq⟩|⟨rfl,o,hk,hc,hd⟩|⟨rfl,hk⟩|⟨rfl,S,n,hk⟩
  ·obtain⟨its,_,pl,_⟩:=I.list hq
   refine⟨pl.isList.typeIs,λa e=>?_⟩;cases e;obtain⟨o,n,e,c,hd,_⟩:=pl;exact⟨o,e,hd⟩
  ·refine⟨⟨o,I.bT p o hk,hc⟩,λa e=>?_⟩
   cases e;exact⟨o,I.bT _ o hk,hd⟩
  ·have z:∃o,s.heap.get? p=some o/\o.ExactDict:=by
    rcases hk with⟨bE,hk⟩|⟨bE,hk⟩
    ·obtain⟨_,_,_,_,o,_,_,e,ex,_⟩:=I.aE p _ hk
     exact⟨o,e,ex⟩
    ·obtain⟨_,_,_,_,o,_,_,e,ex,_⟩:=I.aE p _ hk
     exact⟨o,e,ex⟩
   obtain⟨o,e,ex⟩:=z;refine⟨⟨o,e,ex.1⟩,λa e2=>?_⟩;cases e2;exact⟨o,e,ex.2.1⟩
  ·obtain⟨o,_,_,_,e,ex,_⟩:=I.aE p _ hk
   refine⟨⟨o,e,ex.1⟩,λa e2=>?_⟩;cases e2;exact⟨o,e,ex.2.1⟩ |_=>exact False.elim ty
def je(K:aa)(T:String)(r:V->List V->Hp->VK->Prop)(to:TE)(t:TA):TE:=λO H Q=>to O H λx H1=>qy K T x H1/\t O H1 λxs H2=>r x xs H2 Q
variable {o e:Expr}{es:List Expr}{to:TE}{t:TA}{name:Str}{apos bA:Pos}{T id:String}{r:V->List V->Hp->VK->Prop}
theorem l7(pa:PlainAttrs T)(slot:Slot T name id)(AQ:typeOf (.builtin id)=pure (.type "method_descriptor"))(hm:ka X id r)(ho:PE X o to)(ha:PA X (e::es) t) (fZ:attributeBase o name X.env (eval o X.env)=eval o X.env:=by rfl) (fY:((backTo bA (starEach (e::es) X.env)).all (λx=>!x.1)&&(backToKw bA (keywordEach [] X.env)).all (λx=>x.1.isSome) &&decide ((e::es).length+([]:List Keyword).length+(if([]:List Keyword).isEmpty then 0 else 1)<30))=true:=by rfl) (fW:(apos.endLine==bA.line)=true:=by rfl)(hs:starEach (e::es) X.env=(false,eval e X.env)::starEach es X.env:=by rfl)(fU:(backTo bA (starEach es X.env)).any (·.1)=false:=by rfl): PE X (.Call (.Attribute o name apos) (e::es) [] bA) (je X.K T r to t):=by intro ak s O H Q I h;refine wpAny_Call_method_late fZ fY fW Z (aF (ho ak s O H _ I h) λv s1 ⟨x,H1,I1,r1,ty,q1⟩=>?_);obtain⟨h1,h2⟩:=wt I1 r1 ty;refine⟨T,id,pa,slot,AQ,h1,h2,?_⟩;have hA:=ha bA ak s1 O H1 _ I1 q1;rw[hs]at hA⊢;refine Calls.callWith_builtin (by show(false||(backTo bA (starEach es X.env)).any (·.1))=false;rw[fU]<;>rfl) (Calls.evalArgs_plain ?_);exact aF hA λus s2 ⟨vs,H2,I2,r2,q2⟩=>hm ak s2 O H2 x vs v us Q I2 r1 r2 q2
end
def Er(X:Cx)(id:String)(r:V->List V->Hp->VK->Prop):Prop:=∀(ak:List (Addr×Obj))(s:ae)(O:St)(H:Hp)(x:V)(xs:List V)(v:Value)(us:List Value)(Q:VK),Inv X ak O H s->RelV x v->Vals xs us->r x xs H Q->wpAny (model X.prog X.w) X.A (call (.builtin id) (v::us)) (EP X ak O Q) X.xe s
theorem Vals.one:∀{x:V}{us:List Value},Vals [x] us->∃u,us=[u]/\RelV x u |_,_,.cons r .nil=>⟨_,Z,r⟩
section
variable {X:Cx}{ak:List (Addr×Obj)}{O:St}{H:Hp}{s:ae}{l b:Addr}{xs ys zs:List V}
theorem Inv.A5{its its':List Value}{n:Nat}{f:Array Value->Array Value}{t':Nat}(I:Inv X ak O H s)(hH:H l=some (.lst xs)) (e:s.heap.get? l=some {cls:=.type "list",data:=.seq its.toArray n})(hf:f its.toArray=its'.toArray)(hv:Vals ys its')(hz:ys.length<=sizeLine): Inv X ak O (upd H l (.lst ys)) {s with heap:=s.heap.update l (Obj.mapSeq f),toks:=t'}:=by have q:=PySem.IsL.update e f;rw[hf]at q;refine I.write (x:=l) (e:=l) (by rw[hH];exact trivial) (.inl Z) (λb' u hb hu=>(kr s.heap (Obj.mapSeq f) (dN hb)).trans hu) ⟨_,q⟩ ?_;exact⟨hz,its',_,hv,q⟩
theorem Inv.Aa{its:List Value}{t':Nat}(I:Inv X ak O H s)(hv:Vals ys its)(hz:ys.length<=sizeLine): Inv X ak O (upd H s.heap.objs.size (.lst ys)) {s with heap:=s.heap.push {cls:=.type "list",data:=.seq its.toArray},toks:=t'}:=I.laid (λ_ _ q=>bu _ q) (br _) ⟨hz,its,0,hv,cA _ Z⟩
theorem Inv.A4(I:Inv X ak O H s)(hH:H l=some (.lst xs)):xs.length<=sizeLine/\∃(its:List Value)(n:Nat),Vals xs its/\xs.length=its.length/\s.heap.get? l=some {cls:=.type "list",data:=.seq its.toArray n}:=by obtain⟨z,its,n,r,e⟩:=I.aE l _ hH;exact⟨z,its,n,r,r.length,e⟩
end
section
variable {X:Cx}
inductive Fx(x:V)(vs:List V)(H:Hp)(Q:VK):Prop |mk (l:_)(xs:_)(y:_)(h0:x= .ref l)(h1:vs=[y])(h2:H l=some (.lst xs))(h3:xs.length<sizeLine)(h4:Q .aK (upd H l (.lst (xs++[y]))))
def xX:V->List V->Hp->VK->Prop:=λx vs H Q=>Fx x vs H Q
theorem zR:Er X "list.append" xX:=by
 intro ak s O H x vs v us Q I rx rv h;obtain⟨l,xs,y,rfl,rfl,hH,hz,q⟩:=h;cases rx;obtain⟨u,rfl,ru⟩:=rv.one;obtain⟨z,its,n,r,hl,e⟩:=I.A4 hH;refine kj F.slot_list_append ⟨_,e,Z⟩ F.entry_list_append (F.args_list_append_2 _ _) (PySem.list_append l its.toArray n u (by rw[bQ];lia)) ⟨e,?_⟩;refine⟨.aK,_,I.A5 (its':=its++[u]) hH e (by simp) (r.append (.cons ru .nil)) ?_,Z,q⟩;rw[fJ,List.length_singleton]
 lia
end
section
variable {prog:af}{w:World}{A:ai}{E:Value->ae->Prop}{s:ae}
end
section
variable {X:Cx}
end
end L2
namespace Att
open PySem PySem.W PySem.Calls PyProof.Rows
theorem Aw{P:Params}{h:Heap}:∀(ns:List Int)(vs:List Value),WellAll P h vs (ns.map WData.int)->IntsAre vs ns:=by intro ns;induction ns with |nil=>intro vs w;rw[List.map_nil]at w;cases w;exact .nil |cons n ns ih=>intro vs w;rw[j8]at w;cases w with |cons a b=>cases a;exact .cons _ _ (ih _ b)
theorem xy{l:OpenLaw}{n:Nat}(hn:l.most=some n){P:Params}{h:Heap}{args:List WData}{vals:List Value} (lC:l.row.toRowW.claim.pre args=true)(oF:WellAll P h vals args): ∃a vs ns,vals=[Value.ref a]/\args=[WData.list (ns.map WData.int)]/\h.get? a=some {cls:=.type "list",data:=.seq vs.toArray}/\IntsAre vs ns/\ns.length<=n:=by
 have AW:WShape.hasAll [] args [.list .int]=true:=(pre_splitW lC).1;have hc:l.pre.holds [] {args:=args}=true:=(pre_splitW lC).2;obtain⟨d,r,rfl,h1,h2⟩:=hasAllW_cons AW;obtain rfl:=hasAllW_nil h2;obtain⟨xs,rfl,h3⟩:=hasW_list h1;obtain⟨ns,rfl⟩:=items_int h3;have hlen:ns.length<=n:=by
  unfold OpenLaw.pre at hc;have h4:(WTm.not (.lt (.lit (.int (n:Int))) (.len (.arg 0)))).holds [] {args:=[.list (ns.map .int)]}=true:=by have h4:=(holds_andW hc).1;rw[hn]at h4;exact h4
  have h5:=condW_of h4 (w_not (w_lt w_lit (w_len_list (w_arg Z))));rw[bz]at h5;refine Nat.le_of_not_lt λq=>?_;have q':(n:Int)<((ns.length:Nat):Int):=by omega
  first |(rw[decide_eq_true q']at h5;exact absurd h5 aw) |(simp at h5;omega)
 cases oF with |cons w1 w2=>cases w2;cases w1 with |list ho BK=>exact⟨_,_,ns,Z,Z,ho,Aw ns _ BK,hlen⟩
theorem yc(l:OpenLaw)(args:List WData):l.row.toRowW.claim.post args (.bool true) args=true:=postW_of (r:=l.row.toRowW) (X:=(true==true)) (show WShape.has [] (.bool true) .bool=true by first|rfl|decide|simp[WShape.has,WShape.arms,WShape.armsAll]) (show(WTm.eq .res (.lit (.bool true))).value [] {args:=args,res:=some (.bool true),after:=args}=some (.bool (true==true))from w_eq_bool (w_res Z) w_lit) rfl
theorem Ea{l:OpenLaw}{n:Nat}{q:af}{loose:List Str}{XP:(aJ)->Heap->Prop}{YP:World->Heap->Prop}{d:DefRec} (hn:l.most=some n)(jM:d.params.defaults=[]) (call:∀(w:World)(s₀ s₁:ae)(mg mb:aJ)(fa:Addr)(o:Obj)(pm cd doc:Value)(a:Addr)(vs:List Value)(ns:List Int),Ground q loose [] XP w s₀ mg mb s₁.heap->YP w s₁.heap->s₁.heap.get? fa=some o->o.data= .func (docDef d.name d.params d.body d.scope pm cd doc)->s₁.heap.CodeRec cd d.name->mg d.name=some (.ref fa)->s₁.heap.get? a=some {cls:=.type "list",data:=.seq vs.toArray}->IntsAre vs ns->ns.length<=n->s₁.gens=#[]->codeAny (model l.prog w) callerA (.call (.ref fa) ⟨[.ref a],[]⟩) (λr s'=>r= .ok (.ret (.bool true))/\OldK s₁.heap s'.heap/\s'.os=s₁.os/\AllBare s'.gens) s₁): WalkO q loose XP YP l.row.toRowW d [] (λf vs=>PySem.call f vs):=by intro w s₀ s₁ mg mb G Y fa o pm cd doc dV kV ho hd cb hD jJ hg args vals as lC Gj Gg oF Gi;obtain rfl:dV= .none:=Dflts.none hD jM;obtain rfl:kV= .none:=Dflts.noKw hD;obtain⟨a,vs,ns,rfl,rfl,oK,hints,hlen⟩:=xy hn lC oF;refine enter_call (mB (call w s₀ s₁ mg mb fa o pm cd doc a vs ns G Y ho (fd_plain hd) cb jJ oK hints hlen hg) λr s' hq=>?_);obtain⟨rfl,h2,h3,h4⟩:=hq;exact⟨.inl ⟨.bool true,.bool true,[],Z,λ_=>rfl,.bool true,yc l _,λ_=>⟨List.Pairwise.nil,λ_ hm=>(nomatch hm)⟩⟩,h2,h3,h4⟩
section
variable {prog:af}{w:World}{A:ai}{E:Value->ae->Prop}{s:ae}{K:Frag}
end
end Att
namespace L2
open PySem PySem.Spec PyProof.Rows
theorem qx:∀{vs:List Value}{ns:List Int},IntsAre vs ns->Vals (ns.map V.int) vs |_,_,.nil=>.nil |_,_,.cons n t h=>.cons ⟨t,Z⟩ (qx h)
def pV(H:Hp):Prop:=∀b,H b=none\/∃o xs,H b=some (.eQ o (.lst xs))
theorem Ai{P:af}{w:World}{K:aa}{mg mb:aJ}{CX:dn}{k:Nat}{fa a:Addr}{fd:FuncData}{x:Str}{sp:Sp}{s₁:ae}{vs:List Value}{ns:List Int} (KX:K.In s₁.heap)(ua:s₁.heap.Ns mainGlobals mg)(hb:s₁.heap.Ns builtinsNs mb)(BD:∀x:Str,x≠"__name__"->mb x=bootBuiltins x)(B8:s₁.heap.NoLimit)(hg:s₁.gens=#[]) (ha:s₁.heap.get? a=some {cls:=.type "list",data:=.seq vs.toArray})(hi:IntsAre vs ns)(hl:ns.length<=sizeLine)(hr:bq k callerA) (F:∀ao:Heap,K.In ao->ao.Ns mainGlobals mg->cF P w K mg ao CX k fa fd [x] sp)(BC:∀(s:ae)(u:Value),BindsTo s fd ⟨[u],[]⟩ [(x,u)]) (cm:∀H:Hp,pV H->aH K H a (ns.map V.int)->sp [.ref a] H (λv _=>v= .bl true) λ_ _ _=>False) (p8:∀H e s',CX [] H s₁ (λ_ _ _=>False) e s'->False): codeAny (model P w) callerA (.call (.ref fa) ⟨[.ref a],[]⟩) (λr s'=>r= .ok (.ret (.bool true))/\OldK s₁.heap s'.heap/\s'.os=s₁.os/\AllBare s'.gens) s₁:=by
 have rv:=qx hi;have Ae:=hi.length;have core:∀H:Hp,pV H->aH K H a (ns.map V.int)->bH P w H s₁.heap->(∀b,H b≠none->b=a)->(H a≠none->K.lookup a=none)->codeAny (model P w) callerA (.call (.ref fa) ⟨[.ref a],[]⟩) (λr s'=>r= .ok (.ret (.bool true))/\OldK s₁.heap s'.heap/\s'.os=s₁.os/\AllBare s'.gens) s₁:=by
  intro H hO hS aE hA hK;have vd:∀{b:Addr}{o:Obj},s₁.heap.get? b=some o->H b=none->(fX s₁.heap H).get? b=some o:=λe n=>Bp e n;have jw:∀{b:Addr}{o:Obj}{es:Array DictEntry}{ep:Nat},s₁.heap.get? b=some o->o.data= .dict es ep->H b=none:=λ{b o es ep} e d=>by cases q:H b with |none=>rfl |some u=>have e':b=a:=hA b (by rw[q];simp);subst e';rw[ha]at e;cases e;have d':Data.seq vs.toArray _=Data.dict es ep:=d;cases d'
  have lj:∀{b:Addr}{m:aJ},s₁.heap.Ns b m->(fX s₁.heap H).Ns b m:=λ{b m} ⟨o,es,ep,e,d,r⟩=>⟨o,es,ep,vd e (jw e d),d,r⟩;have um:K.In (fX s₁.heap H):=λb o e=>vd (KX b o e) (by cases q:H b with |none=>rfl |some u=>have e':b=a:=hA b (by rw[q];simp);subst e';rw[hK (by rw[q];simp)]at e;cases e);have hM:Mod K mg (fX s₁.heap H):=⟨um,lj ua,⟨mb,lj hb,BD⟩,let⟨mc,h1,h2⟩:=B8;⟨mc,lj h1,h2⟩⟩;have e0:gb P w K mg (fX s₁.heap H) callerA [] s₁ H:=⟨Z,hM,λb o e=>zu e,Nat.le_of_eq (Bo _ _),trivial,λb hb=>absurd (show b∈([]:List Addr)from hb) (by simp),aE,.of_eq hg⟩;refine mB ((F _ um (lj ua)).run callerA [] s₁ H ⟨[.ref a],[]⟩ [.ref a] [.ref a] _ _ hr e0 (BC s₁ (.ref a)) (.cons Z .nil) (cm H hO hS)) λr s' h=>?_;cases r with |error e=>exact(p8 H e s' h).elim |ok fl=>cases fl with |next=>exact False.elim h |brk=>exact False.elim h |cont=>exact False.elim h |ret u=>obtain⟨v,H',os,bare,un,B0,r',q⟩:=h;have q':v= .bl true:=q;subst q';obtain rfl:u=Value.bool true:=r';refine⟨Z,OldK.of_keep λb o e=>?_,os,bare⟩;cases q:H b with |none=>exact un.keep b o e q (by intro z;exact absurd (show b∈([]:List Addr)from z) (by simp)) (by simp) |some u=>
   rcases hO b with z|⟨ob,xs,z⟩
   ·rw[q]at z;cases z
   ·have z2:=un.dI b ob _ z
    obtain⟨e1,_⟩:=aE b _ z;obtain⟨e2,_⟩:=B0 b _ z2;rw[e]at e1;cases e1;exact e2
 cases hk:K.lookup a with |some o=>have e:=KX a o hk;rw[ha]at e;cases e;refine core (λ_=>none) (λ_=>.inl Z) (.inr ⟨_,vs.toArray,_,hk,Z,Z,Z,by rw[bQ,Ae];exact hl,by simpa using rv⟩) (λb u z=>by have z':(none:Option HO)=some u:=z;cases z') (λb z=>absurd rfl z) λz=>absurd rfl z |none=>
  refine core (λb=>if b=a then some (.eQ {cls:=.type "list",data:=.seq vs.toArray} (.lst (ns.map V.int)))else none) (λb=>?_) (.inl (.inr ⟨{cls:=.type "list",data:=.seq vs.toArray},bc Z⟩)) (λb u z=>?_) (λb z=>?_) λ_=>hk
  ·by_cases hb:b=a
   ·exact .inr ⟨_,_,bc hb⟩
   ·exact .inl (bf hb)
  ·by_cases hb:b=a
   ·have z':=(bc hb).symm.trans z
    cases z';subst hb;exact⟨ha,by rw[bz];exact hl,vs,_,rv,ha⟩
   ·have z':=(bf hb).symm.trans z
    cases z'
  ·by_cases hb:b=a
   ·exact hb
   ·exact absurd (bf hb) z
theorem wc{l:PySem.W.OpenLaw}{n k:Nat}{q:af}{loose:List Str}{XP:(aJ)->Heap->Prop}{YP:World->Heap->Prop}{d:DefRec}{K:Params->aa}{CX:World->dn}{sp:World->Sp}{x:Str} (hn:l.most=some n)(lH:n<=sizeLine)(jM:d.params.defaults=[])(hr:bq k callerA) (hY:∀(w:World)(h:Heap),YP w h->(K w.params).In h) (F:∀(w:World)(mg:aJ)(fa:Addr)(h:Heap),(K w.params).In h->h.Ns mainGlobals mg->mg d.name=some (.ref fa)->∃fd:FuncData,(∀(s:ae)(u:Value),BindsTo s fd ⟨[u],[]⟩ [(x,u)])/\∀ao:Heap,(K w.params).In ao->ao.Ns mainGlobals mg->cF l.prog w (K w.params) mg ao (CX w) k fa fd [x] (sp w)) (cm:∀(w:World)(H:Hp)(a:Addr)(ns:List Int),ns.length<=n->pV H->aH (K w.params) H a (ns.map V.int)->sp w [.ref a] H (λv _=>v= .bl true) λ_ _ _=>False) (p8:∀(w:World)(H:Hp)(s:ae)(e:Value)(s':ae),CX w [] H s (λ_ _ _=>False) e s'->False): PySem.W.WalkO q loose XP YP l.row.toRowW d [] (λf vs=>PySem.call f vs):=by refine Att.Ea hn jM λw s₀ s₁ mg mb fa o pm cd doc a vs ns G Y ho hd cb jJ oK hints hlen hg=>?_;have KX:=hY w _ Y;obtain⟨fd,hb,hF⟩:=F w mg fa _ KX G.T.g jJ;exact Ai KX G.T.g G.T.b G.T.builtins G.T.nolimit hg oK hints (dC hlen lH) hr hF hb (λH hO hS=>cm w H a ns hlen hO hS) λH e s'=>p8 w H s₁ e s'
def inClass(s:Stmt)(j:Nat):Stmt:=match s with | .ClassDef _ _ _ body _ _ _ _ _ _ _=>body.getD j (.Pass ⟨0,0,0,0⟩) |_=>.Pass ⟨0,0,0,0⟩
def dA(s:Stmt):Arguments:=match s with | .FunctionDef _ a _ _ _ _ _ _ _ _=>a |_=>{posonlyargs:=[],args:=[],vararg:=none,kwonlyargs:=[],kw_defaults:=[],kwarg:=none,defaults:=[]}
def bN(s:Stmt):List Stmt:=match s with | .FunctionDef _ _ b _ _ _ _ _ _ _=>b |_=>[]
def aQ(s:Stmt):Scope:=match s with | .FunctionDef _ _ _ _ _ _ sc _ _ _=>sc |_=>{kind:=.function,names:=[],isGenerator:=false,isCoroutine:=false}
abbrev cN:dn:=λ_ _ _ _ _ _=>False
abbrev E0:XK:=λ_ _ _=>False
theorem jr{X:Cx}:Passes cN X E0:=λ_ _ _ _ _ _ _ h=>h.elim
structure dM(K:aa)(x qual:Str)(st:Stmt)(f:Addr)(fd:FuncData):Prop where
 ex:∃(oc:Value)(od:Option Addr)(kV doc pm:Value)(an:Option Addr)(ax ct:Value)(bZ:Array (Option Value)),fd=PySem.W.fnOf x qual (dA st) (bN st) (aQ st) .none kV doc pm an ax ct/\K.lookup f=some ⟨oc,od,.func fd,bZ⟩/\PySem.W.codeIn K ax qual=true
 kp:PySem.W.keepIn K (.ref f)=true
section
variable {P:af}{w:World}{K:aa}{mg:aJ}{ao:Heap}
theorem dM.ok{x qual:Str}{st:Stmt}{f:Addr}{fd:FuncData}{N ps:List Str}{k:Nat}{sp:Sp}(F:dM K x qual st f fd)(S:bw N ps (aQ st))(len:∀vs H Q E,sp vs H Q E->vs.length=ps.length) (cq:∀(ax:Value)(A:ai)(outer:List Env)(s:ae)(H:Hp)(vs:List V)(Q:VK)(E:XK),bq k (A.deeper (envOfC qual (aQ st) s.heap.objs.size f ax))->sp vs H Q E->∃t,bW (cw cN P w K mg ao N qual (aQ st) f ax A outer s H E).ft (bN st) t/\t {nx:=λ_ H'=>Q .aK H',rt:=Q} (start N vs) H):cF P w K mg ao cN (k+1) f fd ps sp:=by obtain⟨oc,od,kV,doc,pm,an,ax,ct,bZ,rfl,lk,cb⟩:=F.ex;refine uC lk cb S len λA outer s H vs Q E hr cm=>?_;obtain⟨t,h,q⟩:=cq ax A outer s H vs Q E hr cm;exact⟨t,h.ft,q⟩
theorem dM.binds{x qual:Str}{st:Stmt}{f:Addr}{fd:FuncData}{ps:List Str}(F:dM K x qual st f fd) (h:∀(kV doc pm:Value)(an:Option Addr)(ax ct:Value)(us:List Value),us.length=ps.length->bindArgs (PySem.W.fnOf x qual (dA st) (bN st) (aQ st) .none kV doc pm an ax ct) ⟨us,[]⟩=pure (ps.zip us)):Binds K fd ps []:=by obtain⟨oc,od,kV,doc,pm,an,ax,ct,bZ,rfl,lk,cb⟩:=F.ex;exact .all (h kV doc pm an ax ct)
theorem pe{x qual:Str}{st:Stmt}{f:Addr}{oc:Value}{od an:Option Addr}{bZ:Array (Option Value)}{kV doc pm ax ct:Value}(l:K.lookup f=some ⟨oc,od,.func (PySem.W.fnOf x qual (dA st) (bN st) (aQ st) .none kV doc pm an ax ct),bZ⟩) (c:PySem.W.codeIn K ax qual=true)(k:PySem.W.keepIn K (.ref f)=true):dM K x qual st f (PySem.W.fnOf x qual (dA st) (bN st) (aQ st) .none kV doc pm an ax ct):=⟨⟨oc,od,kV,doc,pm,an,ax,ct,bZ,Z,l,c⟩,k⟩
end
section
variable {X:Cx}
theorem pv(i:Nat){x:Str}{pos:Pos}(hN:X.N[i]? =some x:=by rfl)(hv:m8 X.env.scope x:=by first|exact Or.inl rfl|exact Or.inr (Or.inl rfl)|exact Or.inr (Or.inr rfl))(hd:(x==("__debug__":Str))=false:=by decide) (cb:(x==("__classdict__":Str))=false:=by decide):PE X (.Name x pos) (qC i):=sx hN hv hd cb
end
theorem bK{A B:Prop}(h:B):if false=true then A else B:=by rw[bf cB];exact h
theorem bU{A B:Prop}(h:A):if true=true then A else B:=by rw[bc rfl];exact h
theorem cD{c A B:Prop}[Decidable c](h1:c->A)(h2:¬c->B):if c then A else B:=by
 by_cases h:c
 ·rw[bc h]
  exact h1 h
 ·rw[bf h]
  exact h2 h
def aA(H H':Hp):Prop:=∀b o,H b=some o->H' b=some o
theorem aA.refl(H:Hp):aA H H:=λ_ _ h=>h
theorem aA.trans{H H1 H2:Hp}(a:aA H H1)(b:aA H1 H2):aA H H2:=λc o h=>b c o (a c o h)
theorem aA.free{H H':Hp}(e:aA H H'){l:Addr}(h:H' l=Option.none):H l=Option.none:=by cases q:H l with |none=>rfl |some o=>rw[e l o q]at h;cases h
theorem aA.seq{K:aa}{H H':Hp}{a:Addr}{xs:List V}(e:aA H H')(h:aH K H a xs):aH K H' a xs:=by
 rcases h with(h|⟨o,h⟩)|h
 ·exact .inl (.inl (e _ _ h))
 ·exact .inl (.inr ⟨o,e _ _ h⟩)
 ·exact .inr h
def Wd (i:Int):Prop:=i.natAbs<2^5000
theorem Wd.log{i:Int}(h:Wd i):i.natAbs.log2<9000:=by
 by_cases e:i.natAbs=0
 ·rw[e];decide
 ·have h1:i.natAbs.log2<5000:=(Nat.log2_lt e).mpr h
  lia
section
variable {X:Cx}
theorem sJ:bD X (binaryOp .FloorDiv) (rI (λ_ j=>0<j/\Wd j) λi j=>.int (i/j)):=la λi j _ _ _ _ _ hc q=>by have h1:(0:Int)<j:=hc.1;exact floordiv_int aV (by rw[Int.fdiv_eq_ediv_of_nonneg i aV];exact q) (.inl (PyProof.noPylong_of_log2 hc.2.log))
end
def ij(K:aa)(H:Hp)(x:V)(T:String):Prop:=match x with | .aK=>T="NoneType" | .bl _=>T="bool" | .int _=>T="int" | .str _=>T="str" | .ref a=>(T="list"/\∃xs,aH K H a xs)\/(T="tuple"/\∃xs,bb K H a xs) |_=>False
def dP(T n:String):Bool:=T==n||(T=="bool"&&n=="int")
def kC:List String:=["NoneType","bool","int","str","list","tuple"]
def jb:List String:=["bool","int","str","list","tuple"]
theorem tI{K:aa}{T n:String}(h1:T∈kC)(h2:n∈jb):PySem.W.kitOne K (.type T) (.type n)=some (dP T n):=by
 have all:kC.all (λT=>jb.all λn=>PySem.W.kitOne [] (.type T) (.type n)==some (dP T n))=true:=by decide+kernel
 have a1:=gi.mp all T h1;have a2:=gi.mp a1 n h2;have e:PySem.W.kitOne K (.type T) (.type n)=PySem.W.kitOne [] (.type T) (.type n):=by unfold PySem.W.kitOne PySem.W.kitCls PySem.W.subIn;rfl
 rw[e];exact bP.mp a2
section
variable {X:Cx}
theorem ij.mem{K:aa}{H:Hp}{x:V}{T:String}(h:ij K H x T):T∈kC:=by cases x with |aK=>cases(show T="NoneType" from h);decide |bl b=>cases(show T="bool" from h);decide |int b=>cases(show T="int" from h);decide |str b=>cases(show T="str" from h);decide |ref a=>rcases(show(T="list"/\∃xs,aH K H a xs)\/(T="tuple"/\∃xs,bb K H a xs)from h)with⟨e,_⟩|⟨e,_⟩<;>cases e<;>decide |_=>exact(show False from h).elim
theorem tJ{ak:List (Addr×Obj)}{s:ae}{O:St}{H:Hp}{x:V}{u:Value}{T:String}(I:Inv X ak O H s)(rx:RelV x u)(ty:ij X.K H x T): ∃P:Heap->Prop,PySem.W.KitX X.K u (.type T) P/\P s.heap/\u≠ .builtin "__main__.__loader__#opaque":=by cases x with
 |aK=>cases(show T="NoneType" from ty);cases(show u=Value.none from rx);exact⟨_,PySem.W.kitx_none,True.intro,λz=>nomatch z⟩ |bl b=>cases(show T="bool" from ty);cases(show u=Value.bool b from rx);exact⟨_,PySem.W.kitx_bool,True.intro,λz=>nomatch z⟩ |int b=>cases(show T="int" from ty);obtain⟨t,q⟩:=(show∃t,u=Value.int b t from rx);cases q;exact⟨_,PySem.W.kitx_int,True.intro,λz=>nomatch z⟩ |str b=>cases(show T="str" from ty);obtain⟨t,q⟩:=(show∃t,u=Value.str b t from rx);cases q;exact⟨_,PySem.W.kitx_str,True.intro,λz=>nomatch z⟩ |ref a=>
  cases(show u=Value.ref a from rx);rcases(show(T="list"/\∃xs,aH X.K H a xs)\/(T="tuple"/\∃xs,bb X.K H a xs)from ty)with⟨e,xs,hx⟩|⟨e,xs,hx⟩
  ·cases e
   obtain⟨its,r,⟨o,n,h1,h2,_⟩,_⟩:=I.list hx;exact⟨_,PySem.W.kitx_list,⟨o,h1,h2⟩,λz=>nomatch z⟩
  ·cases e
   obtain⟨its,r,⟨o,h1,h2,_⟩,_⟩:=I.tuple hx;exact⟨_,PySem.W.kitx_tuple,⟨o,h1,h2⟩,λz=>nomatch z⟩ |_=>exact(show False from ty).elim
inductive Fj(K:aa)(xs:List V)(H:Hp)(Q:VK):Prop |mk (x:_)(T:_)(n:_)(b:_)(h0:xs=[x,.ty n])(h1:ij K H x T)(h2:n∈jb)(h3:dP T n=b)(h4:Q (.bl b) H)
def nQ(K:aa):List V->Hp->VK->Prop:=λxs H Q=>Fj K xs H Q
theorem DW:cn X (.builtin "isinstance") (nQ X.K):=by intro ak s O H xs us Q I r h;obtain⟨x,T,n,b,rfl,ty,hn,rfl,q⟩:=h;obtain⟨u,c,rfl,rx,rc⟩:=vals2 r;cases(show c=Value.type n from rc);obtain⟨P,GH,p,hx⟩:=tJ I rx ty;exact PySem.W.kia_one GH I.bT p (tI ty.mem hn) hx λtk=>⟨.bl (dP T n),H,I.tok _,Z,q⟩
inductive Fi(K:aa)(xs:List V)(H:Hp)(Q:VK):Prop |mk (x:V)(T:String)(p:Addr)(ns:List String)(b:Bool)(h0:xs=[x,.ref p])(h1:H p=some (.tup (ns.map V.ty)))(h2:ij K H x T)(h3:(∀n∈ns,n∈jb))(h4:ns.any (dP T)=b)(h5:Q (.bl b) H)
def nP(K:aa):List V->Hp->VK->Prop:=λxs H Q=>Fi K xs H Q
theorem tH{K:aa}{T:String}(h1:T∈kC):∀{ns:List String},(∀n∈ns,n∈jb)->PySem.W.kitAny K (.type T) (ns.map Value.type)=some (ns.any (dP T)) |[],_=>rfl |n::r,h=>by have e:=tI (K:=K) h1 (h n (qi ..));have ih:=tH (K:=K) h1 (ns:=r) λm hm=>h m (j7 _ hm);rw[j8,PySem.W.kitAny,e,List.any_cons];cases dP T n with |true=>rfl |false=>simpa using ih
theorem qv:∀{ns:List String}{us:List Value},Vals (ns.map V.ty) us->us=ns.map Value.type |[],_,.nil=>rfl |n::r,_,.cons q t=>by cases(show _=Value.type n from q);rw[qv t];rfl
theorem DV:cn X (.builtin "isinstance") (nP X.K):=by intro ak s O H xs us Q I r h;obtain⟨x,T,p,ns,b,rfl,hp,ty,hn,rfl,q⟩:=h;obtain⟨u,c,rfl,rx,rc⟩:=vals2 r;cases(show c=Value.ref p from rc);obtain⟨P,GH,pp,hx⟩:=tJ I rx ty;obtain⟨_,its,rv,⟨cls,dd,dt,sl⟩,h1,h2,n,h3⟩:=(show cM X.prog X.w H s.heap p (.tup (ns.map V.ty))from I.aE p _ hp);simp only at h2 h3;subst h2 h3;have e:=qv rv;subst e;exact PySem.W.kia_tup GH I.bT pp h1 (tH ty.mem hn) hx λtk=>⟨.bl _,H,I.tok _,Z,q⟩
end
mutual
def RD(K:aa)(H:Hp):V->ah->Prop |x,.none=>x= .aK |x,.bool b=>x= .bl b |x,.int i=>x= .int i |x,.str y=>x= .str y |x,.list ds=>∃a xs,x= .ref a/\aH K H a xs/\aG K H xs ds |x,.tuple ds=>∃a xs,x= .ref a/\bb K H a xs/\aG K H xs ds |_,.dict _=>False
def aG (K:aa)(H:Hp):List V->List ah->Prop |xs,[]=>xs=[] |xs,d::ds=>∃y ys,xs=y::ys/\RD K H y d/\aG K H ys ds
end
section
variable {X:Cx}
mutual
theorem RD.reads{ak:List (Addr×Obj)}{s:ae}{O:St}{H:Hp}(I:Inv X ak O H s):∀{x:V}{u:Value}(d:ah),RelV x u->RD X.K H x d->∃as,Reads s.heap u d as |x,u,.none,r,h=>by cases(show x= .aK from by simpa[RD]using h);cases(show u=Value.none from r);exact⟨_,.none⟩ |x,u,.bool b,r,h=>by cases(show x= .bl b from by simpa[RD]using h);cases(show u=Value.bool b from r);exact⟨_,.bool b⟩ |x,u,.int i,r,h=>by cases(show x= .int i from by simpa[RD]using h);obtain⟨t,q⟩:=(show∃t,u=Value.int i t from r);cases q;exact⟨_,.int i t⟩ |x,u,.str y,r,h=>by cases(show x= .str y from by simpa[RD]using h);obtain⟨t,q⟩:=(show∃t,u=Value.str y t from r);cases q;exact⟨_,.str y t⟩ |x,u,.list ds,r,h=>by rw[RD]at h;obtain⟨a,xs,rfl,hx,hd⟩:=h;cases(show u=Value.ref a from r);obtain⟨its,rv,⟨o,n,h1,h2,h3,h4⟩,_⟩:=I.list hx;obtain⟨as,q⟩:=aG.reads I ds rv hd;exact⟨_,.list h1 h2 h4 (by simpa using q)⟩ |x,u,.tuple ds,r,h=>by rw[RD]at h;obtain⟨a,xs,rfl,hx,hd⟩:=h;cases(show u=Value.ref a from r);obtain⟨its,rv,⟨o,h1,h2,n,h4⟩,_⟩:=I.tuple hx;obtain⟨as,q⟩:=aG.reads I ds rv hd;exact⟨_,.tuple h1 h2 h4 (by simpa using q)⟩ |x,u,.dict _,r,h=>by simp[RD]at h
theorem aG.reads {ak:List (Addr×Obj)}{s:ae}{O:St}{H:Hp}(I:Inv X ak O H s):∀{xs:List V}{us:List Value}(ds:List ah),Vals xs us->aG X.K H xs ds->∃as,ReadsAll s.heap us ds as |xs,us,[],r,h=>by cases(show xs=[]from by simpa[aG]using h);cases r;exact⟨_,.nil⟩ |xs,us,d::ds,r,h=>by rw[aG]at h;obtain⟨y,ys,rfl,h1,h2⟩:=h;cases r with |cons ra rb=>obtain⟨as,q⟩:=RD.reads I d ra h1;obtain⟨bs,q'⟩:=aG.reads I ds rb h2;exact⟨_,.cons q q'⟩
end
inductive Fu(K:aa)(x:V)(y:V)(H:Hp)(Q:VK):Prop |mk (d:_)(e:_)(h0:RD K H x d)(h1:RD K H y e)(h2:SeqAt.shaped d=true)(h3:SeqAt.shaped e=true)(h4:Q (.bl (PyData.eqv d e)) H)
def nR(K:aa):R2:=λx y H Q=>Fu K x y H Q
inductive Fe(K:aa)(x:V)(y:V)(H:Hp)(Q:VK):Prop |mk (d:_)(e:_)(h0:RD K H x d)(h1:RD K H y e)(h2:SeqAt.shaped d=true)(h3:SeqAt.shaped e=true)(h4:Q (.bl (!PyData.eqv d e)) H)
def nM(K:aa):R2:=λx y H Q=>Fe K x y H Q
theorem yM(hu:X.A.units+64<cLine):bD X (compareOp .Eq) (nR X.K):=by intro ak s O H x y v u Q I rx ry h;obtain⟨d,e,hd,he,sd,se,q⟩:=h;obtain⟨as,ra⟩:=RD.reads I d rx hd;obtain⟨bs,rb⟩:=RD.reads I e ry he;exact eq_dataH ra rb sd se hu ⟨.bl _,H,I,Z,q⟩
theorem yH(hu:X.A.units+64<cLine):bD X (compareOp .NotEq) (nM X.K):=by intro ak s O H x y v u Q I rx ry h;obtain⟨d,e,hd,he,sd,se,q⟩:=h;obtain⟨as,ra⟩:=RD.reads I d rx hd;obtain⟨bs,rb⟩:=RD.reads I e ry he;exact ne_dataH ra rb sd se hu ⟨.bl _,H,I,Z,q⟩
end
theorem aA.new{H:Hp}{t:Addr}{o:HO}(ht:H t=none):aA H (upd H t o):=λb o' e=>by rw[bo (eL e ht)];exact e
structure Nw(H H':Hp)(p:Addr)(o:HO):Prop where
 no:H p=none
 at':H' p=some o
 same:aA H H'
 eq:H'=upd H p o
theorem Nw.of{H:Hp}{p:Addr}{o:HO}(h:H p=none):Nw H (upd H p o) p o:=⟨h,bO,.new h,Z⟩
def m4:List Str:=["len","abs","min","max","range","isinstance","int","bool","str","tuple","list","any","all","sum","zip","enumerate","sorted","reversed","ord","chr","divmod","repr","dict","set"]
def bI (mg:aJ):Prop:=∀x∈m4,mg x=none
theorem bI.at{mg:aJ}(B:bI mg)(x:Str)(h:x∈m4:=by decide):mg x=none:=B x h
theorem eY{α:Type}{C:List α->Prop}(h:∀a,C [a]):∀us:List α,us.length=1->C us |[_],_=>h _
theorem g9{α:Type}{C:List α->Prop}(h:∀a b,C [a,b]):∀us:List α,us.length=2->C us |[_,_],_=>h _ _
theorem jW{α:Type}{C:List α->Prop}(h:∀a b c,C [a,b,c]):∀us:List α,us.length=3->C us |[_,_,_],_=>h _ _ _
def uz(N P:List Str)(sc:Scope):Bool:=decide (sc.kind= .function)&& !sc.isCoroutine&& !sc.isGenerator&&decide N.Nodup&&decide (N.take P.length=P)&&P.all (λx=>decide (sc.names.lookup x=some .local\/sc.names.lookup x=some .cell))&&sc.names.all λy=>decide (y.2≠ .free)
theorem bR{N P:List Str}{sc:Scope}(h:uz N P sc=true):bw N P sc:=by unfold uz at h;simp only[cp,vI,Bool.not_eq_true',gi]at h;obtain⟨⟨⟨⟨⟨⟨h1,h2⟩,h3⟩,h4⟩,h5⟩,h6⟩,h7⟩:=h;exact⟨h1,h2,h3,h4,h5,h6,h7⟩
structure FA(K:aa)(mg:aJ)(x:Str)(st:Stmt):Prop where ex:∃f fd,mg x=some (.ref f)/\dM K x x st f fd
def aW(P:af)(w:World)(K:aa)(mg:aJ)(ao:Heap)(x:Str)(k:Nat)(sp:Sp):Prop:=∃f fd ps,cF P w K mg ao cN k f fd ps sp/\mg x=some (.ref f)/\PySem.W.keepIn K (.ref f)=true/\Binds K fd ps []
section
variable {P:af}{w:World}{K:aa}{mg:aJ}{ao:Heap}
theorem CW{h:Heap}{x:Str}{st:Stmt}{f:Addr}{oc:Value}{od an:Option Addr}{bZ:Array (Option Value)}{kV doc pm ax ct:Value}(X:K.In h)(G:h.Ns mainGlobals mg) (a:PySem.W.nsIn K mainGlobals x=some (some (.ref f))) (l:K.lookup f=some ⟨oc,od,.func (PySem.W.fnOf x x (dA st) (bN st) (aQ st) .none kV doc pm an ax ct),bZ⟩) (c:PySem.W.codeIn K ax x=true)(k:PySem.W.keepIn K (.ref f)=true):FA K mg x st:=⟨f,_,iZ X G a,pe l c k⟩
theorem FA.has{x:Str}{st:Stmt}{N ps:List Str}{k:Nat}{sp:Sp}(F:FA K mg x st)(S:bw N ps (aQ st))(len:∀vs H Q E,sp vs H Q E->vs.length=ps.length) (hb:∀(kV doc pm:Value)(an:Option Addr)(ax ct:Value)(us:List Value),us.length=ps.length->bindArgs (PySem.W.fnOf x x (dA st) (bN st) (aQ st) .none kV doc pm an ax ct) ⟨us,[]⟩=pure (ps.zip us)) (cq:∀(f:Addr)(ax:Value)(A:ai)(outer:List Env)(s:ae)(H:Hp)(vs:List V)(Q:VK)(E:XK),bq k (A.deeper (envOfC x (aQ st) s.heap.objs.size f ax))->sp vs H Q E->∃t,bW (cw cN P w K mg ao N x (aQ st) f ax A outer s H E).ft (bN st) t/\t {nx:=λ_ H'=>Q .aK H',rt:=Q} (start N vs) H):aW P w K mg ao x (k+1) sp:=by obtain⟨f,fd,hm,F⟩:=F.ex;exact⟨f,fd,ps,F.ok S len λax A outer s H vs Q E=>cq f ax A outer s H vs Q E,hm,F.kp,F.binds hb⟩
end
section
variable {X:Cx}{k:Nat}{x:Str}{p pos:Pos}{e:Expr}{es:List Expr}{t:TA}{sp:Sp}
def qG(sp:Sp)(t:TA):TE:=λO H Q=>t O H λvs H1=>sp vs H1 Q E0
theorem yx(F:aW X.prog X.w X.K X.mg X.ao x k sp)(hr:bq k X.A)(hg:Gl X x)(ha:PA X (e::es) t)(cc:(x==("__debug__":Str))=false:=by decide) (he:starEach (e::es) X.env=(false,eval e X.env)::starEach es X.env:=by rfl)(bM:(backTo pos (starEach es X.env)).any (·.1)=false:=by rfl): PE X (.Call (.Name x p) (e::es) [] pos) (qG sp t):=by
 obtain⟨f,fd,ps,F,hm,hk,hb⟩:=F;have h:=yz (pos:=pos) (p:=p) F hr hg hm hk hb .nil jr ha cc he bM;intro ak s O H Q I hq;refine h ak s O H Q I ?_;have e1:(λ(vs:List V) H1=>sp (vs++[]) H1 Q E0)=λvs H1=>sp vs H1 Q E0:=by funext vs H1;rw[gQ]
 show t O H λvs H1=>sp (vs++[]) H1 Q E0;rw[e1];exact hq
theorem pf{j:Nat}(F:aW X.prog X.w X.K X.mg X.ao x j sp)(hr:bq k X.A)(ha:PA X (e::es) t)(Be:j<=k:=by decide)(hg:Gl X x:=by rfl)(cc:(x==("__debug__":Str))=false:=by decide)(he:starEach (e::es) X.env=(false,eval e X.env)::starEach es X.env:=by rfl)(bM:(backTo pos (starEach es X.env)).any (·.1)=false:=by rfl):PE X (.Call (.Name x p) (e::es) [] pos) (qG sp t):=yx F (hr.mono Be) hg ha cc he bM
theorem fR:bD X (binaryOp .Mult) (rI (λi j=>IntMulOk i j) λi j=>.int (i*j)):=la λ_ _ _ _ _ _ _ hc q=>mul_int q hc
theorem yL:bD X (compareOp .Eq) (dU λi j=>.bl (decide (i=j))):=jt λ_ _ _ _ _ _ _ q=>eq_int (by rw[Bool.beq_eq_decide_eq];exact q)
theorem yG:bD X (compareOp .NotEq) (dU λi j=>.bl (!decide (i=j))):=jt λ_ _ _ _ _ _ _ q=>ne_int (by rw[bne,Bool.beq_eq_decide_eq];exact q)
theorem yN(hu:X.A.units+64<cLine):bD X (compareOp .Eq) (λx y H Q=>dU (λi j=>.bl (decide (i=j))) x y H Q\/nR X.K x y H Q):=yL.or (yM hu)
theorem yI(hu:X.A.units+64<cLine):bD X (compareOp .NotEq) (λx y H Q=>dU (λi j=>.bl (!decide (i=j))) x y H Q\/nM X.K x y H Q):=yG.or (yH hu)
theorem rZ{K:aa}{H:Hp}(b:Bool):RD K H (.bl b) (.bool b):=by simp[RD]
theorem kU{K:aa}{H:Hp}(i:Int):RD K H (.int i) (.int i):=by simp[RD]
theorem kT{K:aa}{H:Hp}(x:Str):RD K H (.str x) (.str x):=by simp[RD]
theorem xK{K:aa}{H:Hp}:RD K H .aK .none:=by simp[RD]
theorem rX{K:aa}{H:Hp}{p:Addr}{xs:List V}{ds:List ah}(h:bb K H p xs)(r:aG K H xs ds):RD K H (.ref p) (.tuple ds):=by rw[RD];exact⟨p,xs,Z,h,r⟩
theorem rY{K:aa}{H:Hp}{p:Addr}{xs:List V}{ds:List ah}(h:aH K H p xs)(r:aG K H xs ds):RD K H (.ref p) (.list ds):=by rw[RD];exact⟨p,xs,Z,h,r⟩
theorem fN{K:aa}{H:Hp}:aG K H [] []:=by simp[aG]
theorem eD{K:aa}{H:Hp}{x:V}{xs:List V}{d:ah}{ds:List ah}(h:RD K H x d)(r:aG K H xs ds):aG K H (x::xs) (d::ds):=by rw[aG];exact⟨x,xs,Z,h,r⟩
inductive Ez(t:TS)(D:Ends)(O:St)(H:Hp):Prop |mk (pW:St->Hp->Prop)(h0:t {D with nx:=pW} O H)(h1:∀σ' H',pW σ' H'->D.nx σ' H')
def wX (t:TS):TS:=λD O H=>Ez t D O H
theorem jl{st:Stmt}{t:TS}(h:PS X st t):PS X st (wX t):=by intro ak s O H D I hq;obtain⟨pW,q,m⟩:=hq;refine aF (h ak s O H _ I q) λf s1 q1=>?_;cases f with |next=>obtain⟨σ',H',I',q'⟩:=q1;exact⟨σ',H',I',m _ _ q'⟩ |brk=>exact q1 |cont=>exact q1 |ret u=>exact q1
end
def gI(K:aa)(xs:List Str):Prop:=∀x∈xs,PySem.W.nsIn K mainGlobals x=some none
theorem gI.nil{K:aa}:gI K []:=λ_ h=>nomatch h
theorem gI.cons{K:aa}{x:Str}{xs:List Str}(a:PySem.W.nsIn K mainGlobals x=some none)(r:gI K xs):gI K (x::xs):=λy hy=>by
 rcases cz.mp hy with e|e
 ·rw[e];exact a
 ·exact r y e
theorem E3{K:aa}{mg:aJ}{h:Heap}(X:K.In h)(G:h.Ns mainGlobals mg)(a:gI K m4):bI mg:=λx hx=>PySem.W.mg_none_of X G (a x hx)
theorem pJ{env:Env}:∀(ns:List (Str×NameKind))(cs:List (Str×Addr)),(∀x∈ns,x.2= .free->∃c,env.cells.lookup x.1=some c)->(∀x c,cs.lookup x=some c->env.cells.lookup x=some c)->∃cl,(forIn ns cs (λx r=>if(x.2==NameKind.free)=true then do let a<-cellOf env x.1;pure (ForInStep.yield ((x.1,a)::r))else pure (ForInStep.yield r)):Sem (List (Str×Addr)))=pure cl/\(∀x c,cl.lookup x=some c->env.cells.lookup x=some c)/\(∀x c,cs.lookup x=some c->∃c',cl.lookup x=some c')/\∀x∈ns,x.2= .free->∃c,cl.lookup x.1=some c
 |[],cs,_,h2=>⟨cs,Z,h2,λx c e=>⟨c,e⟩,λ_ h=>nomatch h⟩ |(n,k)::r,cs,h1,h2=>by
  by_cases hk:k= .free
  ·subst hk
   obtain⟨c,hc⟩:=h1 (n,.free) (.head _) rfl;have e1:cellOf env n=pure c:=by unfold cellOf;rw[show env.cells.lookup n=some c from hc]
   obtain⟨cl,a1,a2,a3,a4⟩:=pJ r ((n,c)::cs) (λx hx=>h1 x (.tail _ hx)) (λx d e=>by rw[du]at e;cases z:x==n with |true=>rw[z]at e;cases e;rw[bP.mp z];exact hc |false=>rw[z]at e;exact h2 x d e);refine⟨cl,?_,a2,λx d e=>?_,λx hx hf=>?_⟩
   ·rw[qo]
    show(do let r'<-(if(NameKind.free==NameKind.free)=true then do let a<-cellOf env n;pure (ForInStep.yield ((n,a)::cs))else pure (ForInStep.yield cs));_)=_;rw[bc (by rfl),e1];exact a1
   ·by_cases z:x==n
    ·exact a3 x c (by rw[du,z])
    ·exact a3 x d (by rw[du,ku.mpr z];exact e)
   ·rcases cz.mp hx with rfl|hx
    ·exact a3 n c (by rw[du,beq_self_eq_true])
    ·exact a4 x hx hf
  ·obtain⟨cl,a1,a2,a3,a4⟩:=pJ r cs (λx hx=>h1 x (.tail _ hx)) h2
   refine⟨cl,?_,a2,a3,λx hx hf=>?_⟩
   ·rw[qo]
    show(do let r'<-(if(k==NameKind.free)=true then do let a<-cellOf env n;pure (ForInStep.yield ((n,a)::cs))else pure (ForInStep.yield cs));_)=_;rw[bf (by simpa using hk)];exact a1
   ·rcases cz.mp hx with rfl|hx
    ·exact absurd hf hk
    ·exact a4 x hx hf
theorem DN{env:Env}{scope:Scope}(h1:∀x∈scope.names,x.2= .free->∃c,env.cells.lookup x.1=some c): ∃cl,closureFor scope env=pure cl/\(∀x c,cl.lookup x=some c->env.cells.lookup x=some c)/\∀x∈scope.names,x.2= .free->∃c,cl.lookup x.1=some c:=by
 obtain⟨cl,a1,a2,_,a4⟩:=pJ (env:=env) scope.names [] h1 (λx c e=>nomatch e);refine⟨cl,?_,a2,a4⟩;unfold closureFor;show(forIn scope.names ([]:List (Str×Addr)) (λ(x:Str×NameKind) r=>match x with|(name,kind)=>if(kind==NameKind.free)=true then do let a<-cellOf env name;pure (ForInStep.yield ((name,a)::r))else pure (ForInStep.yield r))>>=λr=>(pure r:Sem (List (Str×Addr))))=pure cl;have ef:(λ(x:Str×NameKind)(r:List (Str×Addr))=>match x with|(name,kind)=>(if(kind==NameKind.free)=true then do let a<-cellOf env name;pure (ForInStep.yield ((name,a)::r))else pure (ForInStep.yield r):Sem (ForInStep (List (Str×Addr))))) =λx r=>if(x.2==NameKind.free)=true then do let a<-cellOf env x.1;pure (ForInStep.yield ((x.1,a)::r))else pure (ForInStep.yield r):=by funext x r;obtain⟨n,k⟩:=x;rfl
 rw[ef,a1];rfl
theorem tw{env:Env}(hk:env.scope.kind= .function){x:Str}(hx:env.kindOf x=some .cell):∀{names:List (Str×NameKind)},names.lookup x=some .free->(names.map λ(n,k)=>if(k==NameKind.free&&env.scope.kind== .function&&env.kindOf n==some .cell)then(n,NameKind.cell)else(n,k)).lookup x=some .cell |[],h=>nomatch h |(n,k)::r,h=>by have ih:=@tw env hk x hx r;show List.lookup x ((if(k==NameKind.free&&env.scope.kind== .function&&env.kindOf n==some .cell)=true then(n,NameKind.cell)else(n,k))::_)=_;cases z:x==n with |true=>simp only[du,z]at h;cases h;have e:=bP.mp z;subst e;rw[bc (by rw[hk,hx];rfl),du,z] |false=>simp only[du,z]at h;split<;>(simp only[du,z];exact ih h)
def df(X:Cx)(N:List Str)(scope:Scope)(cl:List (Str×Addr))(s:ae)(H:Hp)(fp:List Addr)(ak:List (Addr×Obj)):Cx:={prog:=X.prog,w:=X.w,K:=X.K,mg:=X.mg,ao:=X.ao,A:=X.A,N:=N,s₀:=s,H₀:=H,env:=compEnvC scope cl s.heap.objs.size X.env,outer:=X.stack,stack:=X.stack,ex:=fp,fn:=λ_=>false,calm:=X.calm,pn:=X.pn++ak,xe:=λ_ _=>False}
def stC(js:List (Option Nat))(O:St):St:=js.map λ|none=>none|some j=>(O[j]?).join
def pK(X:Cx)(N:List Str)(js:List (Option Nat))(scope:Scope):Bool:=N.length==js.length&&(N.zip js).all λp=>match p.2 with|none=>true|some j=>X.N[j]? ==some p.1&&scope.names.lookup p.1==some NameKind.free&&X.env.kindOf p.1==some NameKind.cell
def m3(X:Cx)(scope:Scope):Bool:=scope.kind== .function&&X.env.scope.kind== .function&&scope.names.all λx=>match x.2 with | .free=>X.env.kindOf x.1==some NameKind.cell | .cell=>false | .local=>scope.names.lookup x.1==some NameKind.local |_=>true
section
variable {X:Cx}{ak:List (Addr×Obj)}{O:St}{H:Hp}{s:ae}
theorem lookup_mem{α β:Type}[BEq α][LawfulBEq α]:∀{l:List (α×β)}{x:α}{b:β},l.lookup x=some b->(x,b)∈l |[],_,_,h=>nomatch h |(n,k)::r,x,b,h=>by rw[du]at h;cases z:x==n with |true=>rw[z]at h;cases h;rw[bP.mp z];exact .head _ |false=>rw[z]at h;exact .tail _ (lookup_mem h)
theorem rW{env:Env}{x:Str}{k:NameKind}:∀{names:List (Str×NameKind)},(names.map λ(n,k)=>if(k==NameKind.free&&env.scope.kind== .function&&env.kindOf n==some .cell)then(n,NameKind.cell)else(n,k)).lookup x=some k->names.lookup x=some k\/(k= .cell/\names.lookup x=some .free) |[],h=>nomatch h |(n,k')::r,h=>by have ih:=@rW env x k r;have h':List.lookup x ((if(k'==NameKind.free&&env.scope.kind== .function&&env.kindOf n==some .cell)=true then(n,NameKind.cell)else(n,k'))::(r.map λ(n,k)=>if(k==NameKind.free&&env.scope.kind== .function&&env.kindOf n==some .cell)then(n,NameKind.cell)else(n,k)))=some k:=h;cases z:x==n with
 |true=>
  split at h'
  ·rename_i hc
   simp only[du,z]at h';cases h';rw[cp,cp]at hc;have e:k'= .free:=bP.mp hc.1.1;subst e;exact .inr ⟨Z,by rw[du,z]⟩
  ·simp only[du,z]at h'
   cases h';exact .inl (by rw[du,z]) |false=>
  rw[du,z];refine ih ?_;split at h'
  ·simpa only[du,z]using h'
  ·simpa only[du,z]using h'
theorem Inv.comp{N:List Str}{js:List (Option Nat)}{scope:Scope}{cl:List (Str×Addr)}{fp:List Addr}{h':Heap}{tk:Nat}(I:Inv X ak O H s)(hN:pK X N js scope=true)(hS:m3 X scope=true) (c1:∀x c,cl.lookup x=some c->X.env.cells.lookup x=some c)(c2:∀x∈scope.names,x.2= .free->∃c,cl.lookup x.1=some c)(hf:∀b∈fp,fG X ak H b)(Bt:∀b∈fp,b<s.heap.objs.size) (hn:h'.Ns s.heap.objs.size λ_=>none)(hk:∀b o,s.heap.get? b=some o->h'.get? b=some o):Inv (df X N scope cl s H fp ak) [] (stC js O) H {s with heap:=h',toks:=tk}:=by
 unfold m3 at hS;rw[cp,cp]at hS;obtain⟨⟨s1,s2⟩,s3⟩:=hS;have gB:scope.kind= .function:=bP.mp s1;have Bb:X.env.scope.kind= .function:=bP.mp s2;unfold pK at hN;rw[cp]at hN;obtain⟨n1,n2⟩:=hN;have hlen:N.length=js.length:=bP.mp n1;have tT:∀x k,(relabel scope X.env).names.lookup x=some k->scope.names.lookup x=some k\/(k= .cell/\scope.names.lookup x=some .free):=λx k e=>rW e;have zI:∀x,scope.names.lookup x≠some .cell:=λx e=>by have:=gi.mp s3 _ (lookup_mem e);exact cB this
 have uy:∀b∈(df X N scope cl s H fp ak).fs,b∈X.env.locals::X.fs:=I.mQ;have ok:(df X N scope cl s H fp ak).Ok:={
  mod:=I.ok.mod
  kind:=gB
  glob:=I.ok.glob
  blt:=I.ok.blt
  above:=br _
  inj:=λx y c e1 e2=>I.ok.inj x y c (c1 x c e1) (c1 y c e2)
  has:=λx hx=>by
   have fr:scope.names.lookup x=some .free->∃c,cl.lookup x=some c:=λe=>c2 (x,.free) (lookup_mem e) rfl;rcases hx with e|e
   ·rcases tT x _ e with e|⟨_,e⟩
    ·exact absurd e (zI x)
    ·exact fr e
   ·rcases tT x _ e with e|⟨z,_⟩
    ·exact fr e
    ·cases z
  gH:=λx c e=>nomatch e
  hd:=I.ok.hd
  frames:=I.ok.frames
  gS:=.inl rfl
  jT:=λb hb=>⟨cy (Bt b hb),λx c e=>(hf b hb).2.2.2.2.1 x c (c1 x c e)⟩
  bs:=I.bs
  dJ:=dC I.ok.dJ I.sz
  gv:=λb o e hb=>by
   rcases(hf b hb).2.2.2.1 with z|z
   ·exact I.ok.gv b o e z
   ·exact absurd (cZ (bj e) (dC I.ok.dJ z)) (j4 _)
  gF:=λb hb z=>by
   obtain⟨_,q1,q2,_⟩:=hf b hb;rcases cz.mp (uy b z)with e|e
   ·exact q1 e
   ·exact q2 e
  cY:=I.stack
  eR:=I.kL};refine⟨ok,Z,I.bare,Un.kept hk,⟨_,hn,λi x v e1 e2 e3=>?_⟩,λx c e=>?_,I.aE.fresh (br _),λx c e=>I.da x c (c1 x c e),λp hp=>?_,I.aE.kept hk,?_⟩
 ·have iR:(js.map λ|none=>none|some j=>(O[j]?).join)[i]? =some (some v):=e2
  rw[dD]at iR;cases hj:js[i]? with |none=>rw[hj]at iR;cases iR |some o=>rw[hj]at iR;cases o with |none=>cases iR |some j=>
   have hz:(N.zip js)[i]? =some (x,some j):=by rw[List.getElem?_zip_eq_some];exact⟨e1,hj⟩
   have uQ:=gi.mp n2 _ (kq hz);simp only[cp,bP]at uQ;obtain⟨⟨h1,h2⟩,h3⟩:=uQ;have lV:(O[j]?).join=some v:=by simpa using iR
   have hσ:O[j]? =some (some v):=by cases q:O[j]? with |none=>rw[q]at lV;cases lV |some o=>
    rw[q]at lV;have:o=some v:=by simpa using lV
    rw[this]
   obtain⟨m,hm,hl⟩:=I.loc;obtain⟨u,r,l⟩:=hl j x v h1 hσ (.inr (.inl h3));refine⟨u,r,?_⟩;rcases l with⟨k,_⟩|⟨_,c,hc,iQ⟩
   ·rw[h3]at k;cases k
   ·obtain⟨c',dH⟩:=c2 (x,.free) (lookup_mem h2) rfl
    have:=c1 x c' dH;rw[hc]at this;cases this;refine .inr ⟨.inl (tw Bb h3 h2),c,dH,?_⟩;obtain⟨ob,ho,hd⟩:=iQ;exact⟨ob,hk _ _ ho,hd⟩
 ·obtain⟨v,ob,ho,hd⟩:=I.cell x c (c1 x c e)
  exact⟨v,ob,hk _ _ ho,hd⟩
 ·have lE:p∈X.pn++ak:=by simpa[df]using hp
  obtain⟨a1,a2,a3,a4,a5⟩:=I.pin p lE;refine⟨hk _ _ a1,a2,cy (bj a1),λz=>?_,a5⟩;rcases cz.mp (uy p.1 z)with e|e
  ·exact a3 e
  ·exact a4 e
 ·show(js.map _).length=N.length
  rw[bz,hlen]
end
theorem DH{prog:af}{w:World}{A:ai}{R:Result->ae->Prop}{s:ae}{elt target iter:Expr}{ifs:List Expr}{scope:Scope}{pos:Pos}{it acc:Value}{env:Env}(I:Nat->ae->Prop) (turn:∀n s,I n s->wpAny (model prog w) A (pyNext it) (λr s₁=>match r with |none=>R (.ok .next) s₁ |some v=>wpAny (model prog w) A (letOwnedTupleGo target it v) (λ_ s₁=>wpAny (model prog w) A (assign target env v) (λ_ s₂=>wpAny (model prog w) A (forIn ifs true λc r=>if r=true then do let ok<-isTrue c env (eval c env);pure (ForInStep.yield ok)else pure (ForInStep.yield r)) (λok s₃=>if ok=true then wpAny (model prog w) A (eval elt env) (λx s₄=>wpAny (model prog w) A (call (.builtin "list.append") [acc,x]) (λ_ s₅=>∃m,m<n/\I m s₅) (λ_ _=>False) s₄) (λ_ _=>False) s₃ else∃m,m<n/\I m s₃) (λ_ _=>False) s₂) (λ_ _=>False) s₁) (λ_ _=>False) s₁) (λ_ _=>False) s) (n:Nat)(h:I n s):codeAny (model prog w) A (.compLoop (.ListComp elt [⟨target,iter,ifs,0⟩] scope pos) 0 it acc env) R s:=by refine codeAny_loop Z I (λn s hI=>?_) n h;show wpAny _ A ((compTurn (.ListComp elt [⟨target,iter,ifs,0⟩] scope pos) 0 it acc env).onRaise (λx=>do noteFrame x env;theTreesLotGoes x)) _ _ s;refine wpAny_noted ?_;rw[compTurn_list];refine au (wpAny_standAt (au (dr (turn n s hI) (λr s₁ h₁=>?_) λ_ _ h'=>h'.elim)));cases r with |none=>exact aZ h₁ |some v=>refine au (dr h₁ (λ_ FY h₁=>?_) λ_ _ h'=>h'.elim);refine au (dr h₁ (λ_ s₂ h₂=>au (dr h₂ (λok s₃ h₃=>?_) λ_ _ h'=>h'.elim)) λ_ _ h'=>h'.elim);cases ok with |false=>exact aZ ⟨Z,h₃⟩ |true=>exact au (au (dr h₃ (λx s₄ h₄=>au (dr h₄ (λ_ s₅ h₅=>aZ (aZ ⟨Z,h₅⟩)) λ_ _ h'=>h'.elim)) λ_ _ h'=>h'.elim))
def vn(X:Cx)(ifs:List Expr)(t:TT):Prop:=∀(ak:List (Addr×Obj))(s:ae)(O:St)(H:Hp)(Q:Bool->Hp->Prop),Inv X ak O H s->t O H Q->wpAny (model X.prog X.w) X.A (forIn ifs true λc r=>if r=true then do let ok<-isTrue c X.env (eval c X.env);pure (ForInStep.yield ok)else pure (ForInStep.yield r)) (TP X ak O Q) X.xe s
def fK:TT:=λ_ H Q=>Q true H
theorem eE{X:Cx}:vn X [] fK:=λ_ _ _ H _ I h=>wpAny_tests_nil ⟨H,I,h⟩
def gL(J:It)(g:TG)(tt:TT)(te:TE)(Q:VK)(D:Addr)(O:St)(H:Hp):Prop:=∃W:Nat->Nat->St->Hp->Prop,(∃m,W 0 m O H)/\∀i m σ' H',W i m σ' H'->(J.stop i H'/\Q (.ref D) H')\/(J.go i H'/\∀x H2,J.gj i H' x H2->g x σ' H2 λσ3 H3=>tt σ3 H3 λok H4=>if ok=true then te σ3 H4 λy H5=>∃ys,H5 D=some (.lst ys)/\ys.length<sizeLine/\∃m',m'<m/\W (i+1) m' σ3 (upd H5 D (.lst (ys++[y]))) else∃m',m'<m/\W (i+1) m' σ3 H4)
def x9(js:List (Option Nat))(wi:TI)(g:TG)(tt:TT)(te:TE):TE:=λO H Q=>wi O H λJ H1=>∀D H2,Nw H1 H2 D (.lst [])->gL J g tt te Q D (stC js O) H2
theorem bH.but{P:af}{w:World}{H:Hp}{h h':Heap}{C:Addr}(ok:bH P w H h)(hn:H C=none)(hs:Heap.SameBut C h h'):bH P w H h':=λb ob e=>by
 refine(ok b ob e).fh (λc w' hc q=>(hs.2 c ?_).trans q) (λ_ q=>q) λ_ _ q=>q;rintro rfl;rcases hc with rfl|hc
 ·rw[hn]at e;cases e
 ·rw[hn]at hc;cases hc
set_option maxHeartbeats 1000000 in
theorem eI{X:Cx}{N:List Str}{js:List (Option Nat)}{elt tg iter:Expr}{ifs:List Expr}{scope:Scope}{pos:Pos}{wi:TI}{g:TG}{tt:TT}{te:TE}(hc:X.calm=true)(hN:pK X N js scope=true)(hS:m3 X scope=true) (hi:PI X tg iter wi)(hg:∀cl s H fp ak,PG (df X N scope cl s H fp ak) tg g)(ht:∀cl s H fp ak,vn (df X N scope cl s H fp ak) ifs tt)(he:∀cl s H fp ak,PE (df X N scope cl s H fp ak) elt te) (hs:∀x,foldedSetIterable iter X.env x=pure x:=by intro _;rfl):PE X (.ListComp elt [⟨tg,iter,ifs,0⟩] scope pos) (x9 js wi g tt te):=by
 intro ak s O H Q I h;have p6:=hS;unfold m3 at p6;rw[cp,cp]at p6;obtain⟨⟨k1,k2⟩,k3⟩:=p6;have gB:scope.kind= .function:=bP.mp k1;have lL:∀x∈scope.names,x.2= .free->∃c,X.env.cells.lookup x.1=some c:=λx hx e=>by have:=gi.mp k3 x hx;rw[e]at this;exact I.ok.has x.1 (.inl (bP.mp this))
 have iQ:∀x∈scope.names,x.2≠ .cell:=λx hx e=>by have:=gi.mp k3 x hx;rw[e]at this;exact cB this
 have B6:∀x∈scope.names,x.2= .local->scope.names.lookup x.1=some .local:=λx hx e=>by have:=gi.mp k3 x hx;rw[e]at this;exact bP.mp this
 obtain⟨cl,Bz,c1,c2⟩:=DN lL;rw[eval_ListComp];refine wpAny_comprehension_free (use:=none) Z hs Bz gB B6 (aF (hi ak s O H _ I h) λv s1 h1=>aF h1 λoy s2 h2=>?_);obtain⟨it,fp,tn,J,H2,e,I2,T,kM,f2,h2⟩:=h2;subst e;have hD:H2 s2.heap.objs.size=none:=I2.aE.fresh (br _);obtain⟨W,⟨m0,w0⟩,turn⟩:=h2 _ _ (Nw.of hD);refine iz (wpAny_newFunctionEnv iQ (by intro y hy;simp at hy) (λh₁ u9 tY=>?_) gB);have pq:∀b∈fp,b<s2.heap.objs.size:=λb hb=>by obtain⟨o,e,_⟩:=T.obj _ _ kM b hb;exact bj e
 have I3:Inv X ak O (upd H2 s2.heap.objs.size (.lst [])) {s2 with heap:=s2.heap.push {cls:=.type "list",dict:=none,data:=.seq ([]:List Value).toArray}}:=I2.Aa (its:=[]) (t':=s2.toks) .nil (iA _);generalize uo:s2.heap.push {cls:=.type "list",dict:=none,data:=.seq ([]:List Value).toArray}=h3 at I3 u9 tY;have qH:h3.objs.size=s2.heap.objs.size+1:=by rw[<-uo,ja]
 have Ao:∀b o,s2.heap.get? b=some o->h3.get? b=some o:=λb o e=>by rw[<-uo];exact bu _ e
 have f3:∀b∈fp,fG X ak (upd H2 s2.heap.objs.size (.lst [])) b:=λb hb=>⟨by rw[bo (cy (pq b hb))];exact(f2 b hb).1,(f2 b hb).2⟩;have tL:∀b o,h3.get? b=some o->h₁.get? b=some o:=λb o e=>(tY.2 b (cy (bj e))).trans (bu _ e);have I4:Inv (df X N scope cl {s2 with heap:=h3} (upd H2 s2.heap.objs.size (.lst [])) fp ak) [] (stC js O) (upd H2 s2.heap.objs.size (.lst [])) {s2 with heap:=h₁,toks:=s2.toks+([]:List (Str×Value)).length}:=I3.comp (s:={s2 with heap:=h3}) hN hS c1 c2 f3 (λb hb=>by show b<h3.objs.size;rw[qH];exact Nat.lt_succ_of_lt (pq b hb)) (by simpa using u9) tL;have qJ:tn 0 h₁:=T.keep _ _ _ kM λb _ o e=>tL b o (Ao b o e);have loop:codeAny (model X.prog X.w) X.A (.compLoop (.ListComp elt [⟨tg,iter,ifs,0⟩] scope pos) 0 (.ref it) (.ref s2.heap.objs.size) (compEnvC scope cl h3.objs.size X.env)) (compPost (model X.prog X.w) X.A X.xe none (EP X ak O Q) (.ref s2.heap.objs.size) h3.objs.size) {s2 with heap:=h₁,toks:=s2.toks+([]:List (Str×Value)).length}:=by
  refine DH (λn s'=>∃i σ' H',Inv (df X N scope cl {s2 with heap:=h3} (upd H2 s2.heap.objs.size (.lst [])) fp ak) [] σ' H' s'/\tn i s'.heap/\(∀b∈fp,H' b=none)/\W i n σ' H') ?_ m0 ⟨0,_,_,I4,qJ,λb hb=>(f3 b hb).1,w0⟩;rintro n s5 ⟨i,σ5,H5,I5,iG,lS,w5⟩;have gT:∀{H':Hp},(∀b∈fp,H' b=none)->∀b∈fp,fG (df X N scope cl {s2 with heap:=h3} (upd H2 s2.heap.objs.size (.lst [])) fp ak) [] H' b:=λ{H'} hn b hb=>by
   obtain⟨_,q1,q2,q3,q4,q5⟩:=f3 b hb;refine⟨hn b hb,λz=>?_,I4.ok.gF b hb,.inl hb,λx c e=>q4 x c (c1 x c e),λp hp=>q5 p (by simpa[df]using hp)⟩;have cP:b<h3.objs.size:=by rw[qH];exact Nat.lt_succ_of_lt (pq b hb)
   exact cy cP z
  rcases turn i n σ5 H5 w5 with⟨stop,qn⟩|⟨go,step⟩
  ·refine aF (T.done (df X N scope cl {s2 with heap:=h3} (upd H2 s2.heap.objs.size (.lst [])) fp ak) rfl rfl rfl hc i [] s5 σ5 H5 _ I5 (gT lS) iG stop) λr s6 ⟨hr,I6⟩=>?_
   subst hr;obtain⟨m,hm,_⟩:=I6.loc;refine⟨m,hm,λh7 lz=>?_⟩;have u0:Un (bV X.stack) fp (upd H2 s2.heap.objs.size (.lst [])) H5 h3 s6.heap:=I6.ao;have ne:∀b o,h3.get? b=some o->b≠h3.objs.size:=λb o e=>cy (bj e);have u:Un (bV X.stack) fp (upd H2 s2.heap.objs.size (.lst [])) H5 h3 h7:=⟨λb o e n hb hx=>(lz.2 b (ne b o e)).trans (u0.keep b o e n hb hx),λb o e n hb hx=>let⟨sl,q⟩:=u0.slot b o e n hb hx;⟨sl,(lz.2 b (ne b o e)).trans q⟩,u0.free,λb o e hx=>let⟨o',q⟩:=u0.there b o e hx;⟨o',(lz.2 b (ne b o e)).trans q⟩,u0.dQ,u0.dI,u0.dR⟩;have I7:Inv X ak O H5 {s6 with heap:=h7}:=I3.pL (s':={s6 with heap:=h7}) (ch:=fp) I6.os u (I6.aE.but I6.free lz) I6.bare λb hb=>⟨(f3 b hb).2.2.2.1,(f3 b hb).2.1,(f3 b hb).2.2.2.2.1,(f3 b hb).2.2.2.2.2⟩;exact⟨.ref s2.heap.objs.size,H5,I7,Z,qn⟩
  ·refine aF (T.item (df X N scope cl {s2 with heap:=h3} (upd H2 s2.heap.objs.size (.lst [])) fp ak) rfl rfl rfl hc i [] s5 σ5 H5 _ I5 (gT lS) iG go) λr s6 ⟨u,hr,h6⟩=>?_
   subst hr;refine aF h6 λ_ s7 ⟨x,H7,I7,r7,y7,mR,CN⟩=>?_;have FL:=I7.pinned (gT CN) (T.obj _ _ mR);refine aF (hg _ _ _ _ _ _ s7 σ5 H7 x u _ FL r7 (step x H7 y7)) λ_ s8 ⟨σ8,H8,I8,q8⟩=>?_;refine aF (ht _ _ _ _ _ _ s8 σ8 H8 _ I8 q8) λok s9 ⟨H9,I9,q9⟩=>?_;have again:∀{s':ae}{σ7:St}{H7:Hp},Inv (df X N scope cl {s2 with heap:=h3} (upd H2 s2.heap.objs.size (.lst [])) fp ak) ([]++jm fp s7.heap) σ7 H7 s'->(∃m',m'<n/\W (i+1) m' σ7 H7)->∃m,m<n/\∃i σ' H',Inv (df X N scope cl {s2 with heap:=h3} (upd H2 s2.heap.objs.size (.lst [])) fp ak) [] σ' H' s'/\tn i s'.heap/\(∀b∈fp,H' b=none)/\W i m σ' H':=λ{s' σ7 H7} J7 n7=>by obtain⟨m',hm,w7⟩:=n7;refine⟨m',hm,i+1,σ7,H7,J7.kA,T.keep _ _ _ mR λb hb o e=>(J7.pin (b,o) (gd _ (gd _ (lu hb e)))).1,λb hb=>?_,w7⟩;obtain⟨o,e,d⟩:=T.obj _ _ mR b hb;exact(J7.pin (b,o) (gd _ (gd _ (lu hb e)))).2.1
   cases ok with |false=>rw[bf cB]at q9⊢;exact again I9 q9 |true=>rw[bc rfl]at q9⊢;refine aF (he _ _ _ _ _ _ s9 σ8 H9 _ I9 q9) λyv d6 ⟨y,gK,mm,xY,ys,jG,hz,wd⟩=>?_;refine aF (zR _ d6 σ8 gK (.ref s2.heap.objs.size) [y] (.ref s2.heap.objs.size) [yv] (λ_ iu=>∃m',m'<n/\W (i+1) m' σ8 iu) mm Z (.cons xY .nil) ⟨_,ys,y,Z,Z,jG,hz,wd⟩) λ_ gq ⟨v11,iu,FO,G1,xZ⟩=>?_;exact again FO xZ
 exact codeAny_compStart_list loop (T.self _ 0 _ _ _ qJ loop)
theorem uZ:∀{bs:List Bool}{us:List Value},Vals (bs.map V.bl) us->us=bs.map Value.bool |[],_,.nil=>rfl |b::r,_,.cons q t=>by cases(show _=Value.bool b from q);rw[uZ t];rfl
section
variable {X:Cx}
theorem DX(hc:X.calm=true):cn X (.builtin "all") (λxs H Q=>∃(l:Addr)(bs:List Bool),xs=[.ref l]/\aH X.K H l (bs.map V.bl)/\Q (.bl (bs.all id)) H):=by
 intro ak s O H xs us Q I r h;obtain⟨l,bs,rfl,hl,q⟩:=h;obtain⟨u,rfl,ru⟩:=vals1 r;cases(show u=Value.ref l from ru);obtain⟨its,rv,pl,hz⟩:=I.list hl;have e:=uZ rv;subst e;have oO:=pl.isList;have cP:l<s.heap.objs.size:=by obtain⟨_,e,_⟩:=oO;exact bj e
 have hh:=I.ok.hd hc;refine call_all_walk (wpAny_pyIter_list oO ?_);refine⟨s.heap.objs.size,[s.heap.objs.size,l],[s.heap.objs.size],(bs.map Value.bool).toArray.size,_,_,λi=>(bs[i]?).getD true,Z,Walks.list (A:=X.A.in1) hh _ l (cy cP) (bs.map Value.bool).toArray,⟨⟨_,cA _ Z,Z,Z⟩,oO.push _⟩,λi v s' Q' E' hP hQ=>?_,λh' tk hk=>?_⟩
 ·have jP:(bs.map Value.bool)[i]? =some v:=by simpa using hP
  rw[dD]at jP;cases e:bs[i]? with |none=>rw[e]at jP;cases jP |some b=>rw[e]at jP;cases jP;simp only[e,Option.getD_some]at hQ;exact ix hQ
 ·have e:((List.range (bs.map Value.bool).toArray.size).all λi=>(bs[i]?).getD true)=bs.all id:=by rw[bQ,bz];exact LSm.range_all bs
  rw[e];exact⟨.bl _,H,I.kept (LSm.kept_iter hk),Z,q⟩
end
theorem lX{J:It}{g:TG}{tt:TT}{te:TE}{Q:VK}{D:Addr}{O:St}{H:Hp}(n:Nat)(Pv:Nat->St->Hp->Prop)(h0:Pv 0 O H) (hs:∀i O H,i<n->Pv i O H->J.go i H/\∀x H2,J.gj i H x H2->g x O H2 λσ3 H3=>tt σ3 H3 λok H4=>if ok=true then te σ3 H4 λy H5=>∃ys,H5 D=some (.lst ys)/\ys.length<sizeLine/\∃m',m'<n-i/\m'=n-(i+1)/\i+1<=n/\Pv (i+1) σ3 (upd H5 D (.lst (ys++[y]))) else∃m',m'<n-i/\m'=n-(i+1)/\i+1<=n/\Pv (i+1) σ3 H4) (hd:∀O H,Pv n O H->J.stop n H/\Q (.ref D) H): gL J g tt te Q D O H:=by
 refine⟨λi m O H=>m=n-i/\i<=n/\Pv i O H,⟨n,by simp,iA _,h0⟩,?_⟩;rintro i m O H ⟨rfl,hi,p⟩;by_cases cP:i<n
 ·exact .inr (hs i O H cP p)
 ·have e:i=n:=by lia
  subst e;exact .inl (hd O H p)
section
variable {X:Cx} {tg:Expr}
theorem As(K:aa)(h:X.K=K):gJ X (λx y H Q=>nO K x y H Q\/nN K x y H Q):=by subst h;exact Aq.or Ap
inductive Fc(K:aa)(x:V)(lo:Option Int)(hi:Option Int)(H:Hp)(Q:VK):Prop |mk (a:_)(xs:_)(h0:x= .ref a)(h1:((aH K H a xs/\∀p H',Nw H H' p (.lst (ek xs lo hi))->Q (.ref p) H')\/ (bb K H a xs/\¬(HT.aU xs.length 0 lo=0/\HT.aU xs.length xs.length hi=xs.length)/\∀p H',Nw H H' p (.tup (ek xs lo hi))->Q (.ref p) H')))
def xQ(K:aa):V->Option Int->Option Int->Hp->VK->Prop:=λx lo hi H Q=>Fc K x lo hi H Q
theorem xt(K:aa)(h:X.K=K):k4 X (xQ K):=by
 subst h;intro ak s O H x v vl vu lo hi sl Q I rx hs pl pu hq;obtain⟨a,xs,e,hq⟩:=hq;rcases hq with⟨h1,k⟩|⟨h1,h2,k⟩
 ·exact xq ak s O H x v vl vu lo hi sl Q I rx hs pl pu ⟨a,xs,e,h1,λp hp=>k p _ (.of hp)⟩
 ·exact rg ak s O H x v vl vu lo hi sl Q I rx hs pl pu ⟨a,xs,e,h1,h2,λp hp=>k p _ (.of hp)⟩
theorem Af(K:aa)(h:X.K=K):cn X (.builtin "len") (λxs H Q=>∃p ys,xs=[.ref p]/\(aH K H p ys\/bb K H p ys)/\Q (.int ys.length) H):=by subst h;exact DU
theorem Au(K:aa)(h:X.K=K):cn X (.builtin "isinstance") (λxs H Q=>nQ K xs H Q\/nP K xs H Q):=by subst h;exact DW.or DV
theorem eT(K:aa)(h:X.K=K)(hu:X.A.units+64<cLine):bD X (compareOp .Eq) (λx y H Q=>dU (λi j=>.bl (decide (i=j))) x y H Q\/nR K x y H Q):=by subst h;exact yN hu
theorem jy(K:aa)(h:X.K=K)(hu:X.A.units+64<cLine):bD X (compareOp .NotEq) (λx y H Q=>dU (λi j=>.bl (!decide (i=j))) x y H Q\/nM K x y H Q):=by subst h;exact yI hu
theorem iU(K:aa)(h:X.K=K)(hc:X.calm=true):cn X (.builtin "all") (λxs H Q=>∃(l:Addr)(bs:List Bool),xs=[.ref l]/\aH K H l (bs.map V.bl)/\Q (.bl (bs.all id)) H):=by subst h;exact DX hc
theorem ou(K:aa)(h:X.K=K):cn X (.type "list") (λxs H Q=>∃p ys,xs=[.ref p]/\(aH K H p ys\/bb K H p ys)/\∀l H',Nw H H' l (.lst ys)->Q (.ref l) H'):=by subst h;intro ak s O H xs us Q I r hq;obtain⟨p,ys,e,h1,k⟩:=hq;exact DT ak s O H xs us Q I r ⟨p,ys,e,h1,λl hl=>k l _ (.of hl)⟩
theorem mM(K:aa)(h:X.K=K):cn X (.type "tuple") (λxs H Q=>∃p ys,xs=[.ref p]/\((aH K H p ys/\∀l H',Nw H H' l (.tup ys)->Q (.ref l) H')\/(bb K H p ys/\Q (.ref p) H))):=by subst h;intro ak s O H xs us Q I r hq;obtain⟨p,ys,e,h1⟩:=hq;exact DR ak s O H xs us Q I r ⟨p,ys,e,h1.imp (λ⟨a,k⟩=>⟨a,λl hl=>k l _ (.of hl)⟩) id⟩
def wF(t:TA):TE:=λO H Q=>t O H λxs H1=>xs.length<=sizeLine/\∀p H',Nw H1 H' p (.tup xs)->Q (.ref p) H'
def wZ(t:TA):TE:=λO H Q=>t O H λxs H1=>xs.length<=sizeLine/\∀p H',Nw H1 H' p (.lst xs)->Q (.ref p) H'
theorem fQ{es:List Expr}{t:TA}{pos:Pos} {x1}(h:PA X es t):PE X (.Tuple es x1 pos) (wF t):=by intro ak s O H Q I hq;refine wpAny_Tuple_spliced (aF (h pos ak s O H _ I hq) λus s1 ⟨xs,H1,I1,r,z,q⟩=>⟨by rw[<-r.length];exact z,?_⟩);have hf:H1 s1.heap.objs.size=none:=I1.aE.fresh (br _);refine⟨.ref s1.heap.objs.size,upd H1 s1.heap.objs.size (.tup xs),I1.laid (t':=s1.toks) (λb u e=>bu _ e) (br _) ?_,Z,q _ _ (.of hf)⟩;exact⟨z,us,r,⟨_,cA _ Z,Z,_,Z⟩⟩
theorem eH{es:List Expr}{t:TA}{pos:Pos}(h:PA X es t):PE X (.List es pos) (wZ t):=by intro ak s O H Q I hq;refine wpAny_List_spliced (aF (h pos ak s O H _ I hq) λus s1 ⟨xs,H1,I1,r,z,q⟩=>⟨by rw[<-r.length];exact z,?_⟩);have hf:H1 s1.heap.objs.size=none:=I1.aE.fresh (br _);refine⟨.ref s1.heap.objs.size,upd H1 s1.heap.objs.size (.lst xs),I1.laid (t':=s1.toks) (λb u e=>bu _ e) (br _) ?_,Z,q _ _ (.of hf)⟩;exact⟨z,us,0,r,cA _ Z⟩
theorem gZ(K:aa)(h:X.K=K){l:Expr}{tl:TE}(hl:PE X l tl):PI X tg l (tV K tl):=by subst h;exact yf hl
theorem nV(K:aa)(h:X.K=K){es:List Expr}{k:Nat}{t:fE}{n:Nat}{pos:Pos}(hc:X.calm=true)(hg:k9 X es t)(hn:(assignEach es X.env).length=n:=by rfl)(d9:(assignEach es X.env).findIdx? (·.1)=none:=by rfl): PG X (.Tuple es k pos) (pb K n t):=by subst h;exact yg hc hg hn d9
theorem mK{j:Nat}{x:V}{O:St}{H:Hp}{A B:St->Hp->Prop}(h:A (O.set j (some x)) H):ei j x O H λσ3 H3=>fK σ3 H3 λok H4=>if ok=true then A σ3 H4 else B σ3 H4:=by show if true=true then A (O.set j (some x)) H else B (O.set j (some x)) H;rw[bc rfl];exact h
theorem yes{O:St}{H:Hp}{Q:Bool->Hp->Prop}(h:Q true H):fK O H Q:=h
end
theorem aH.go{K:aa}{H H':Hp}{a:Addr}{xs:List V}(s:aA H H')(h:aH K H a xs):aH K H' a xs:=h.imp (λr=>r.imp (s _ _) λ⟨o,e⟩=>⟨o,s _ _ e⟩) id
theorem bb.go{K:aa}{H H':Hp}{a:Addr}{xs:List V}(s:aA H H')(h:bb K H a xs):bb K H' a xs:=h.imp (λr=>r.imp (s _ _) λ⟨o,e⟩=>⟨o,s _ _ e⟩) id
mutual
theorem RD.mono{K:aa}{H H':Hp}(s:aA H H'):∀{x:V}(d:ah),RD K H x d->RD K H' x d |x,.none,h=>by simpa[RD]using h |x,.bool b,h=>by simpa[RD]using h |x,.int i,h=>by simpa[RD]using h |x,.str y,h=>by simpa[RD]using h |x,.list ds,h=>by rw[RD]at h⊢;obtain⟨a,xs,e,h1,h2⟩:=h;exact⟨a,xs,e,h1.go s,aG.mono s ds h2⟩ |x,.tuple ds,h=>by rw[RD]at h⊢;obtain⟨a,xs,e,h1,h2⟩:=h;exact⟨a,xs,e,h1.go s,aG.mono s ds h2⟩ |x,.dict _,h=>by simp[RD]at h
theorem aG.mono {K:aa}{H H':Hp}(s:aA H H'):∀{xs:List V}(ds:List ah),aG K H xs ds->aG K H' xs ds |xs,[],h=>by simpa[aG]using h |xs,d::ds,h=>by rw[aG]at h⊢;obtain⟨y,ys,e,h1,h2⟩:=h;exact⟨y,ys,e,RD.mono s d h1,aG.mono s ds h2⟩
end
section
variable {K:aa} {H H':Hp}
theorem aG.nil_inv{xs:List V}(h:aG K H xs []):xs=[]:=by simpa[aG]using h
theorem aG.cons_inv{xs:List V}{d:ah}{ds:List ah}(h:aG K H xs (d::ds)):∃y ys,xs=y::ys/\RD K H y d/\aG K H ys ds:=by rw[aG]at h;exact h
theorem RD.cC{x:V}{ds:List ah}(h:RD K H x (.tuple ds)):∃a xs,x= .ref a/\bb K H a xs/\aG K H xs ds:=by rw[RD]at h;exact h
theorem RD.lst_inv{x:V}{ds:List ah}(h:RD K H x (.list ds)):∃a xs,x= .ref a/\aH K H a xs/\aG K H xs ds:=by rw[RD]at h;exact h
theorem RD.int_inv{x:V}{i:Int}(h:RD K H x (.int i)):x= .int i:=by rw[RD]at h;exact h
theorem RD.E4{x:V}{i:Bool}(h:RD K H x (.bool i)):x= .bl i:=by rw[RD]at h;exact h
theorem RD.str_inv{x:V}{i:Str}(h:RD K H x (.str i)):x= .str i:=by rw[RD]at h;exact h
theorem RD.zE{x:V}(h:RD K H x .none):x= .aK:=by rw[RD]at h;exact h
theorem aG.length:∀{xs:List V}{ds:List ah},aG K H xs ds->xs.length=ds.length |xs,[],h=>by rw[h.nil_inv];rfl |xs,d::ds,h=>by obtain⟨y,ys,rfl,_,h2⟩:=h.cons_inv;rw[gf,gf,aG.length h2]
theorem aG.append:∀{xs ys:List V}{ds es:List ah},aG K H xs ds->aG K H ys es->aG K H (xs++ys) (ds++es) |xs,ys,[],es,h,g=>by rw[h.nil_inv];exact g |xs,ys,d::ds,es,h,g=>by obtain⟨y,zs,rfl,h1,h2⟩:=h.cons_inv;exact eD h1 (aG.append h2 g)
theorem aG.take:∀(n:Nat){xs:List V}{ds:List ah},aG K H xs ds->aG K H (xs.take n) (ds.take n) |0,xs,ds,h=>by rw[List.take_zero,List.take_zero];exact fN |n+1,xs,[],h=>by rw[h.nil_inv];exact fN |n+1,xs,d::ds,h=>by obtain⟨y,zs,rfl,h1,h2⟩:=h.cons_inv;exact eD h1 (aG.take n h2)
theorem aG.drop:∀(n:Nat){xs:List V}{ds:List ah},aG K H xs ds->aG K H (xs.drop n) (ds.drop n) |0,xs,ds,h=>h |n+1,xs,[],h=>by rw[h.nil_inv];exact fN |n+1,xs,d::ds,h=>by obtain⟨y,zs,rfl,h1,h2⟩:=h.cons_inv;exact aG.drop n h2
theorem aG.get:∀(n:Nat){xs:List V}{ds:List ah}{d:ah},aG K H xs ds->ds[n]? =some d->∃x,xs[n]? =some x/\RD K H x d
 |n,xs,[],d,h,e=>by simp at e |0,xs,d'::ds,d,h,e=>by
  obtain⟨y,zs,rfl,h1,h2⟩:=h.cons_inv;have e':d'=d:=by simpa using e
  subst e';exact⟨y,Z,h1⟩ |n+1,xs,d'::ds,d,h,e=>by obtain⟨y,zs,rfl,h1,h2⟩:=h.cons_inv;exact aG.get n h2 (by simpa using e)
def cutD(ds:List ah)(lo hi:Option Int):List ah:=(ds.drop (HT.aU ds.length 0 lo)).take (HT.aU ds.length ds.length hi-HT.aU ds.length 0 lo)
theorem aG.cut{xs:List V}{ds:List ah}(h:aG K H xs ds)(lo hi:Option Int):aG K H (ek xs lo hi) (cutD ds lo hi):=by unfold ek cutD;rw[h.length];exact(h.drop _).take _
def gn:ah->String | .none=>"NoneType" | .bool _=>"bool" | .int _=>"int" | .str _=>"str" | .list _=>"list" | .tuple _=>"tuple" | .dict _=>"dict"
theorem RD.ty{x:V}:∀{d:ah},RD K H x d->ij K H x (gn d) | .none,h=>by rw[h.zE];rfl | .bool b,h=>by rw[h.E4];rfl | .int b,h=>by rw[h.int_inv];rfl | .str b,h=>by rw[h.str_inv];rfl | .list ds,h=>by obtain⟨a,xs,rfl,h1,_⟩:=h.lst_inv;exact .inl ⟨Z,xs,h1⟩ | .tuple ds,h=>by obtain⟨a,xs,rfl,h1,_⟩:=h.cC;exact .inr ⟨Z,xs,h1⟩ | .dict _,h=>by simp[RD]at h
structure dg(n:Nat)(d:ah):Prop where
 lay:d.canLay0=true
 dep:d.depth<=n
def cL(n:Nat)(ds:List ah):Prop:=∀d∈ds,dg n d
theorem dg.le{n m:Nat}{d:ah}(h:dg n d)(l:n<=m):dg m d:=⟨h.lay,dC h.dep l⟩
theorem hJ{n:Nat}:∀{ds:List ah},cL n ds↔(PyData.canLayAll0 ds=true/\PyData.depthAll ds<=n)
 |[]=>⟨λ_=>⟨Z,iA _⟩,λ_ _ h=>nomatch h⟩ |d::ds=>by
  have ih:=hJ (n:=n) (ds:=ds);simp only[PyData.canLayAll0,PyData.depthAll,cp];constructor
  ·intro h
   have h1:=h d (.head _);have h2:=ih.mp λx hx=>h x (.tail _ hx);exact⟨⟨h1.lay,h2.1⟩,Nat.max_le.mpr ⟨h1.dep,h2.2⟩⟩
  ·rintro⟨⟨a,b⟩,c⟩ x hx
   have c':=Nat.max_le.mp c;rcases cz.mp hx with rfl|hx
   ·exact⟨a,c'.1⟩
   ·exact ih.mpr ⟨b,c'.2⟩ x hx
theorem cL.tup{n:Nat}{ds:List ah}(h:cL n ds):dg (n+1) (.tuple ds):=⟨by simpa[PyData.canLay0]using(hJ.mp h).1,by simpa[PyData.depth]using(hJ.mp h).2⟩
theorem cL.lst{n:Nat}{ds:List ah}(h:cL n ds):dg (n+1) (.list ds):=⟨by simpa[PyData.canLay0]using(hJ.mp h).1,by simpa[PyData.depth]using(hJ.mp h).2⟩
theorem dg.cC{n:Nat}{ds:List ah}(h:dg (n+1) (.tuple ds)):cL n ds:=hJ.mpr ⟨by simpa[PyData.canLay0]using h.lay,by simpa[PyData.depth]using h.dep⟩
theorem dg.int{n:Nat}(i:Int):dg n (.int i):=⟨Z,iA _⟩
theorem dg.bl{n:Nat}(i:Bool):dg n (.bool i):=⟨Z,iA _⟩
theorem cL.nil{n:Nat}:cL n []:=λ_ h=>nomatch h
theorem cL.cons{n:Nat}{d:ah}{ds:List ah}(h:dg n d)(g:cL n ds):cL n (d::ds):=λx hx=>by
 rcases cz.mp hx with rfl|hx
 ·exact h
 ·exact g x hx
theorem cL.app{n:Nat}{ds es:List ah}(h:cL n ds)(g:cL n es):cL n (ds++es):=λx hx=>(qj.mp hx).elim (h x) (g x)
theorem cL.cut{n:Nat}{ds:List ah}(h:cL n ds)(lo hi:Option Int):cL n (cutD ds lo hi):=λx hx=>h x (List.mem_of_mem_drop (List.mem_of_mem_take hx))
def del(H:Hp)(p:Addr):Hp:=λb=>if b=p then none else H b
theorem fB{H:Hp}{p b:Addr}{o:HO}:del H p b=some o↔b≠p/\H b=some o:=by
 unfold del;by_cases e:b=p
 ·rw[bc e];simp[e]
 ·rw[bf e];simp[e]
theorem cK{H:Hp}{p:Addr}:aA (del H p) H:=λb o e=>(fB.mp e).2
def SD(p:Addr)(H H':Hp):Prop:=aA (del H p) (del H' p)
theorem aA.sd{p:Addr}(s:aA H H'):SD p H H':=λb o e=>fB.mpr ⟨(fB.mp e).1,s _ _ (fB.mp e).2⟩
theorem Nw.del{p q:Addr}{o:HO}(h:Nw H H' q o)(hp:H p≠none):L2.del H' p q=some o:=fB.mpr ⟨λe=>hp (e▸h.no),h.at'⟩
structure AD(K:aa)(p:Addr)(n:Nat)(H:Hp)(v:V)(d:ah):Prop where
 rd:RD K (del H p) v d
 ok:dg n d
structure cV(K:aa)(p:Addr)(n:Nat)(H:Hp)(vs:List V)(ds:List ah):Prop where
 dE:aG K (del H p) vs ds
 ok:cL n ds
variable {p:Addr}{n m:Nat}{v:V}{vs:List V}{d:ah}{ds es:List ah}
theorem AD.sf(h:AD K p n H v d):RD K H v d:=RD.mono cK _ h.rd
theorem AD.go(h:AD K p n H v d)(s:SD p H H'):AD K p n H' v d:=⟨RD.mono s _ h.rd,h.ok⟩
theorem cV.go(h:cV K p n H vs ds)(s:SD p H H'):cV K p n H' vs ds:=⟨aG.mono s _ h.dE,h.ok⟩
theorem AD.le(h:AD K p n H v d)(l:n<=m):AD K p m H v d:=⟨h.rd,h.ok.le l⟩
theorem cV.nil:cV K p n H [] []:=⟨fN,.nil⟩
theorem cV.cons(h:AD K p n H v d)(g:cV K p n H vs ds):cV K p n H (v::vs) (d::ds):=⟨eD h.rd g.dE,.cons h.ok g.ok⟩
theorem cV.one(h:AD K p n H v d):cV K p n H [v] [d]:=.cons h .nil
theorem AD.int(i:Int):AD K p n H (.int i) (.int i):=⟨kU i,.int i⟩
theorem AD.bl(i:Bool):AD K p n H (.bl i) (.bool i):=⟨rZ i,.bl i⟩
theorem AD.dZ{q:Addr}(h:cV K p n H vs ds)(w:Nw H H' q (.tup vs))(hp:H p≠none):AD K p (n+1) H' (.ref q) (.tuple ds):=⟨rX (bb.of (w.del hp)) (h.go w.same.sd).dE,h.ok.tup⟩
theorem AD.o9{q:Addr}(h:cV K p n H vs ds)(w:Nw H H' q (.lst vs))(hp:H p≠none):AD K p (n+1) H' (.ref q) (.list ds):=⟨rY (aH.of (w.del hp)) (h.go w.same.sd).dE,h.ok.lst⟩
theorem AD.gU(h:AD K p (n+1) H v (.tuple ds)):∃a xs,v= .ref a/\bb K (del H p) a xs/\cV K p n H xs ds:=by obtain⟨a,xs,e,h1,h2⟩:=h.rd.cC;exact⟨a,xs,e,h1,h2,h.ok.cC⟩
theorem cV.get(h:cV K p n H vs ds)(i:Nat)(e:ds[i]? =some d):∃x,vs[i]? =some x/\AD K p n H x d:=by obtain⟨x,e1,r⟩:=h.dE.get i e;exact⟨x,e1,r,h.ok d (kq e)⟩
end
inductive Fw(K:aa)(x:V)(y:V)(H:Hp)(Q:VK):Prop |mk (p:_)(n:_)(ds:_)(es:_)(h0:H p≠none)(h1:AD K p (n+1) H x (.tuple ds))(h2:AD K p (n+1) H y (.tuple es))(h3:ds.length+es.length<=sizeLine)(h4:∀v H',aA H H'->AD K p (n+1) H' v (.tuple (ds++es))->Q v H')
def xW(K:aa):R2:=λx y H Q=>Fw K x y H Q
section
variable {X:Cx}
theorem fC(K:aa)(hK:X.K=K):bD X (binaryOp .Add) (xW K):=by
 subst hK;intro ak s O H x y v u Q I rx ry h;obtain⟨p,n,ds,es,hp,hx,hy,hz,q⟩:=h;obtain⟨a,xs,rfl,ha,eg⟩:=hx.gU;obtain⟨b,ys,rfl,hb,jG⟩:=hy.gU;cases rx;cases ry;obtain⟨its,r1,p1,_⟩:=I.tuple (ha.go cK);obtain⟨gz,r2,p2,_⟩:=I.tuple (hb.go cK);have l1:=eg.dE.length;have l2:=jG.dE.length;by_cases e0:xs=[]
 ·subst e0
  have d0:ds=[]:=List.length_eq_zero_iff.mp (by rw[<-l1];rfl);subst d0;have i0:its=[]:=r1.og.mpr rfl;subst i0;obtain⟨⟨cls,dd,data,sl⟩,ho,hc,n,hd⟩:=id p1;obtain⟨⟨uO,iS,data2,iH⟩,fz,gD,n2,hd2⟩:=id p2;simp only at hc hd gD hd2;subst hc hd gD hd2;exact concat_meets ⟨_,ho,Z⟩ ⟨_,fz,Z⟩ noFill_tuple_add seq_tuple_add vM vN (vO _ _) (tuple_addW0 a b _ gz.toArray n n2 dd iS sl iH (by simp)) ⟨ho,fz,⟨.ref b,H,I,Z,q _ _ (aA.refl H) hy⟩⟩
 ·refine HT.DQ p1 p2 (λz=>e0 (r1.og.mp z)) (λz=>⟨.ref a,H,I,Z,?_⟩) (λz=>?_) (by rw[<-r1.length,<-r2.length,l1,l2];exact hz)
  ·have e1:ys=[]:=r2.og.mp z
   have d1:es=[]:=List.length_eq_zero_iff.mp (by rw[<-l2,e1];rfl);subst d1;exact q _ _ (aA.refl H) (by rw[gQ];exact hx)
  ·have hf:H s.heap.objs.size=none:=I.aE.fresh (br _)
   have nw:Nw H (upd H s.heap.objs.size (.tup (xs++ys))) s.heap.objs.size (.tup (xs++ys)):=.of hf;refine⟨.ref s.heap.objs.size,_,I.laid (t':=s.toks) (o:=.tup (xs++ys)) (λb ob q=>bu _ q) (br _) ?_,Z,q _ _ nw.same ?_⟩
   ·exact⟨by rw[fJ,l1,l2];exact hz,_,r1.append r2,IsTup.new _ _⟩
   ·exact AD.dZ ⟨eg.dE.append jG.dE,eg.ok.app jG.ok⟩ nw hp
end
end L2
namespace HT
open PySem PySem.Spec PyProof.Rows
section
variable {prog:af}{w:World}{A:ai}{E:Value->ae->Prop}{s:ae}
theorem Cr{t sl:Addr}{items:Array Value}{vl vu:Value}{lo hi:Option Int}{Q:Value->ae->Prop}(ht:IsTup s.heap t items)(hs:s.heap.IsSliceOf sl vl vu .none)(pl:IsPart vl lo)(pu:IsPart vu hi) (hw:aU items.size 0 lo=0/\aU items.size items.size hi=items.size)(h:Q (.ref t) s):wpAny (model prog w) A (getItem (.ref t) (.ref sl)) Q E s:=by
 obtain⟨os,hV,lN,jL⟩:=id hs;have p5:s.TypeIs (.ref sl) "slice":=⟨os,hV,lN⟩;unfold getItem
 try with_reducible refine eu ?_
 first|refine au (aZ ?_)|skip
 refine au (wpAny_sequenceKey ht.typeIs aw ?_);refine au (kh (name:=Str.ofString "__getitem__") ht.typeIs kl (kg kl ht.typeIs entry_tuple_getitem ?_ (args_tuple_getitem _ _)));show wpAny _ _ (Builtin.Tuple.tupleItemsOf (.ref t)>>=_) _ _ s;refine au (tupleItemsOf_ ht ?_);refine au (wpAny_typeOf p5 ?_);rw[bc aw];refine au (rf hs pl pu ?_);have AF:(((aU items.size 0 lo:Nat):Int)==0&&(1:Int)==1&&(aU items.size items.size hi-aU items.size 0 lo)==items.size)=true:=by rw[hw.1,hw.2];simp
 show wpAny _ _ (if(((aU items.size 0 lo:Nat):Int)==0&&(1:Int)==1&&(aU items.size items.size hi-aU items.size 0 lo)==items.size)=true then _ else _) _ _ s;rw[bc AF];show wpAny _ _ (Builtin.Tuple.tupleIsExact (.ref t)>>=_) _ _ s;refine au (m:=Builtin.Tuple.tupleIsExact _) (au (wpAny_typeOf ht.typeIs (aZ ?_)));rw[bc aw]
 wp_walk;exact⟨_,Z,aZ h⟩
end
end HT
namespace L2
open PySem PySem.Spec PyProof.Rows
inductive Fb(K:aa)(x:V)(lo:Option Int)(hi:Option Int)(H:Hp)(Q:VK):Prop |mk (p:_)(n:_)(ds:_)(h0:H p≠none)(h1:AD K p (n+1) H x (.tuple ds))(h2:∀v H',aA H H'->AD K p (n+1) H' v (.tuple (cutD ds lo hi))->Q v H')
def xP(K:aa):V->Option Int->Option Int->Hp->VK->Prop:=λx lo hi H Q=>Fb K x lo hi H Q
theorem DD{ds:List ah}{lo hi:Option Int}(h1:HT.aU ds.length 0 lo=0)(h2:HT.aU ds.length ds.length hi=ds.length):cutD ds lo hi=ds:=by unfold cutD;rw[h1,h2];simp
section
variable {X:Cx}
theorem fj(K:aa)(hK:X.K=K):k4 X (xP K):=by
 subst hK;intro ak s O H x v vl vu lo hi sl Q I rx hs pl pu h;obtain⟨p,n,ds,hp,hx,q⟩:=h;obtain⟨a,xs,rfl,ha,eg⟩:=hx.gU;have uj:=ha.go cK;have l1:=eg.dE.length;by_cases hw:HT.aU xs.length 0 lo=0/\HT.aU xs.length xs.length hi=xs.length
 ·cases rx
  obtain⟨its,r,ht,hz⟩:=I.tuple uj;have hlen:its.toArray.size=xs.length:=by rw[bQ];exact r.length.symm
  refine⟨"tuple",_,kl.lookup,ht.typeIs,?_⟩;refine HT.Cr ht hs pl pu (by rw[hlen];exact hw) ⟨.ref a,H,I,Z,q _ _ (aA.refl H) ?_⟩;rw[DD (by rw[<-l1];exact hw.1) (by rw[<-l1];exact hw.2)];exact hx
 ·refine rg ak s O H _ v vl vu lo hi sl Q I rx hs pl pu ⟨a,xs,Z,uj,hw,λr hr=>?_⟩
  have nw:Nw H (upd H r (.tup (ek xs lo hi))) r (.tup (ek xs lo hi)):=.of hr;exact q _ _ nw.same (AD.dZ ⟨eg.dE.cut lo hi,eg.ok.cut lo hi⟩ nw hp)
end
def fr(H H':Hp):Hp:=λb=>match H b with|none=>H' b|some _=>none
theorem eS{H H':Hp}{b:Addr}{o:HO}:fr H H' b=some o↔H b=none/\H' b=some o:=by unfold fr;cases H b<;>simp
theorem CK{H H':Hp}:aA (fr H H') H':=λb o e=>(eS.mp e).2
theorem CM{H H':Hp}{p:Addr}(hp:H p≠none):aA (fr H H') (del H' p):=λb o e=>fB.mpr ⟨λz=>hp (z▸(eS.mp e).1),(eS.mp e).2⟩
theorem pj{H H1 H2:Hp}(s:aA H1 H2):aA (fr H H1) (fr H H2):=λb o e=>eS.mpr ⟨(eS.mp e).1,s _ _ (eS.mp e).2⟩
theorem CL{H H1 H2:Hp}(s:aA H H1):aA (fr H1 H2) (fr H H2):=λb o e=>eS.mpr ⟨s.free (eS.mp e).1,(eS.mp e).2⟩
def jd(K:aa)(d:ah):TE:=λ_ H Q=>∀v H',aA H H'->RD K (fr H H') v d->Q v H'
def x3(K:aa)(ds:List ah):TA:=λ_ H Q=>∀vs H',aA H H'->aG K (fr H H') vs ds->Q vs H'
def jB(f:Expr->Option ah):List Expr->Option (List ah) |[]=>some [] |e::es=>match f e,jB f es with |some d,some ds=>some (d::ds) |_,_=>none
def lit:Nat->Expr->Option ah
 |0,_=>none |_+1,.Constant .none _ _=>some .none |_+1,.Constant (.bool b) _ _=>some (.bool b) |_+1,.Constant (.int i) _ _=>some (.int i) |_+1,.Constant (.str x) _ _=>some (.str x) |n+1,.Tuple es _ _=>match jB (lit n) es with |some ds=>if ds.length<=1000 then some (.tuple ds)else none |none=>none
 |n+1,.List es _=>match jB (lit n) es with |some ds=>if ds.length<=1000 then some (.list ds)else none |none=>none
 |n+1,.UnaryOp .USub a _=>match lit n a with |some (.int i)=>some (.int (-i)) |_=>none
 |n+1,.BinOp a .Pow b _=>match lit n a,lit n b with |some (.int i),some (.int j)=>if 0<=j/\j<=1000000/\i.natAbs<2^64 then some (.int (i^j.toNat))else none |_,_=>none
 |_,_=>none
section
variable {X:Cx}
theorem xj{e:Expr}{es:List Expr}{env:Env}(h:∀a b,e≠ .Starred a b):starEach (e::es) env=(false,eval e env)::starEach es env:=by cases e<;>first|rfl|exact absurd rfl (h _ _)
theorem Ac{n:Nat}{e:Expr}{d:ah}(h:lit n e=some d):∀a b,e≠ .Starred a b:=by intro a b z;subst z;cases n<;>simp[lit]at h
theorem sG(K:aa)(f:Expr->Option ah)(hp:∀e d,f e=some d->∀a b,e≠ .Starred a b)(hf:∀e d,f e=some d->PE X e (jd K d)):∀(es:List Expr)(ds:List ah),jB f es=some ds->PA X es (x3 K ds)
 |[],ds,h=>by cases h;intro pos ak s O H Q I hq;exact az pos ak s O H Q I (hq [] H (aA.refl H) fN) |e::es,ds,h=>by
  rw[jB]at h;split at h
  ·rename_i d lW e1 e2
   cases h;intro pos ak s O H Q I hq;refine aq (hf e d e1) (sG K f hp hf es lW e2) (xj (hp e d e1)) pos ak s O H Q I ?_;intro v H1 s1 r1 vs H2 s2 r2;exact hq (v::vs) H2 (s1.trans s2) (eD (RD.mono (pj s2) _ r1) (aG.mono (CL s1) _ r2))
  ·cases h
theorem jo(K:aa)(hK:X.K=K):∀(n:Nat)(e:Expr)(d:ah),lit n e=some d->PE X e (jd K d)
 |0,e,d,h=>by simp[lit]at h |n+1,e,d,h=>by
  have hA:=sG (X:=X) K (lit n) (λe d h=>Ac h) (λe d h=>jo K hK n e d h);unfold lit at h;split at h
  case h_1=>cases‹Nat.succ n=0›
  case h_2=>cases h;intro ak s O H Q I hq;exact sA ak s O H Q I (hq .aK H (aA.refl H) xK)
  case h_3=>cases h;intro ak s O H Q I hq;exact dF ak s O H Q I (hq (.bl _) H (aA.refl H) (rZ _))
  case h_4=>cases h;intro ak s O H Q I hq;exact aD ak s O H Q I (hq (.int _) H (aA.refl H) (kU _))
  case h_5=>cases h;intro ak s O H Q I hq;exact dy ak s O H Q I (hq (.str _) H (aA.refl H) (kT _))
  case h_6=>
   rename_i m es _ _ hm;cases hm;split at h
   ·rename_i ds e1
    by_cases hl:ds.length<=1000
    ·rw[bc hl]at h
     cases h;intro ak s O H Q I hq;refine fQ (hA es ds e1) ak s O H Q I ?_;intro vs H1 s1 r1;refine⟨by rw[r1.length];exact dC hl aw,λp H' nw=>?_⟩;refine hq _ _ (s1.trans nw.same) (rX (bb.of (eS.mpr ⟨s1.free nw.no,nw.at'⟩)) (aG.mono (pj nw.same) _ r1))
    ·rw[bf hl]at h;cases h
   ·cases h
  case h_7=>
   rename_i m es _ hm;cases hm;split at h
   ·rename_i ds e1
    by_cases hl:ds.length<=1000
    ·rw[bc hl]at h
     cases h;intro ak s O H Q I hq;refine eH (hA es ds e1) ak s O H Q I ?_;intro vs H1 s1 r1;refine⟨by rw[r1.length];exact dC hl aw,λp H' nw=>?_⟩;refine hq _ _ (s1.trans nw.same) (rY (aH.of (eS.mpr ⟨s1.free nw.no,nw.at'⟩)) (aG.mono (pj nw.same) _ r1))
    ·rw[bf hl]at h;cases h
   ·cases h
  case h_8=>
   rename_i m a _ hm;cases hm;split at h
   ·rename_i i e1
    cases h;intro ak s O H Q I hq;refine kZ kB (jo K hK n a _ e1) ak s O H Q I ?_;intro v H1 s1 r1;exact⟨i,r1.int_inv,hq _ _ s1 (kU _)⟩
   ·cases h
  case h_9=>
   rename_i m a b _ hm;cases hm;split at h
   ·rename_i i j e1 e2
    by_cases hc:0<=j/\j<=1000000/\i.natAbs<2^64
    ·rw[bc hc]at h
     cases h;intro ak s O H Q I hq;refine bh l8 (jo K hK n a _ e1) (jo K hK n b _ e2) ak s O H Q I ?_;intro v H1 s1 r1 v2 H2 s2 r2;exact⟨i,j,r1.int_inv,r2.int_inv,hc,hq _ _ (s1.trans s2) (kU _)⟩
    ·rw[bf hc]at h;cases h
   ·cases h
  case h_10=>cases h
end
end L2
namespace L2
theorem eX{α:Type}{xs:List α}{i:Int}{v:α}(h0:0<=i)(h:xs[i.toNat]? =some v):fD xs i=some v:=by have hl:i.toNat<xs.length:=(gh.mp h).1;unfold fD gy;rw[bc h0,bc aV];exact h
end L2
namespace L2
open PySem PySem.Spec PyProof.Rows
theorem pH(ds:List ah)(lo hi:Option Int):(cutD ds lo hi).length<=ds.length:=by unfold cutD;rw[j9,vV];lia
theorem eB(n:Nat)(h:n<=1000):n<=sizeLine:=dC h aw
structure pU(X:Cx)(e:Expr)(t:TE):Prop where out:PE X e t
theorem sD{X:Cx}(K:aa)(hK:X.K=K)(n:Nat)(e:Expr)(d:ah)(h:lit n e=some d):pU X e (jd K d):=⟨jo K hK n e d h⟩
section
variable {X:Cx}{p pos pos':Pos}{a b e:Expr}{es:List Expr}{ta tb te:TE}{t:TA}{x:Str}
theorem px(K:aa)(ha:PE X a ta)(hb:PE X b tb)(hK:X.K=K:=by rfl)(hp:vm b:=by exact λ_ _=>rfl):PE X (.Subscript a b pos) (kE (λx y H Q=>nO K x y H Q\/nN K x y H Q) ta tb):=yq (As K hK) ha hb hp
theorem eJ(K:aa)(B:bI X.mg)(ha:PA X (e::es) t)(hK:X.K=K:=by rfl)(hg:Gl X "isinstance":=by rfl)(he:starEach (e::es) X.env=(false,eval e X.env)::starEach es X.env:=by rfl)(bM:(backTo pos (starEach es X.env)).any (·.1)=false:=by rfl):PE X (.Call (.Name "isinstance" p) (e::es) [] pos) (kG (λxs H Q=>nQ K xs H Q\/nP K xs H Q) t):=bX (Au K hK) hg (B.at "isinstance") ez ha aw aw he bM
theorem dG(K:aa)(B:bI X.mg)(ha:PA X (e::es) t)(hK:X.K=K:=by rfl)(hg:Gl X "len":=by rfl)(he:starEach (e::es) X.env=(false,eval e X.env)::starEach es X.env:=by rfl)(bM:(backTo pos (starEach es X.env)).any (·.1)=false:=by rfl):PE X (.Call (.Name "len" p) (e::es) [] pos) (kG (λxs H Q=>∃p ys,xs=[.ref p]/\(aH K H p ys\/bb K H p ys)/\Q (.int ys.length) H) t):=bX (Af K hK) hg (B.at "len") PySem.boot_len ha aw aw he bM
theorem pS(i:Nat)(hN:X.N.Nodup)(he:PE X e te)(hi:X.N[i]? =some x:=by rfl)(hx:Loc X.env.scope x:=by first|exact Or.inl rfl|exact Or.inr rfl)(hs:swapsWith e (some (.Name x pos')) pos.line X.env=pure false:=by rfl)(hf:X.fn x=true\/X.env.scope.names.lookup x=some .local:=by first|exact .inl rfl|exact .inr rfl|assumption):PS X (.Assign [.Name x pos'] e pos) (mP te (ei i)):=nS hN hi hx he hs hf
theorem cg(i:Nat)(hN:X.N.Nodup)(hi:X.N[i]? =some x:=by rfl)(hx:Loc X.env.scope x:=by first|exact Or.inl rfl|exact Or.inr rfl)(hf:X.fn x=true\/X.env.scope.names.lookup x=some .local:=by first|exact .inl rfl|exact .inr rfl|assumption):PG X (.Name x pos) (ei i):=yh hN hi hx hf
theorem iL (a:Str):[a].Nodup:=by simp
theorem iK{a b:Str}(h:(a==b)=false):[a,b].Nodup:=by
 have:a≠b:=λz=>by rw[z,beq_self_eq_true]at h;cases h
 simp[this]
theorem cI{n:Nat}(h:Nat.ble n 1000=true):n<=sizeLine:=eB n (mF h)
end
def GV(mg:aJ)(x:Str)(v:V):Prop:=∃u,mg x=some u/\RelV v u
def GT(K:aa)(mg:aJ)(x:Str)(vs:List V):Prop:=∃a,GV mg x (.ref a)/\∀H,bb K H a vs
theorem cT{X:Cx}{x:Str}{v:V}{pos:Pos}(hg:Gl X x)(h:GV X.mg x v)(hd:(x==("__debug__":Str))=false:=by decide):PE X (.Name x pos) (tC v):=by obtain⟨u,hm,r⟩:=h;exact yt hg hm r hd
section
variable {K:aa} {mg:aJ} {h:Heap}
theorem lR{x:Str}{i:Int}{t:Tok}(X:K.In h)(G:h.Ns mainGlobals mg)(a:PySem.W.nsIn K mainGlobals x=some (some (.int i t))):GV mg x (.int i):=⟨_,iZ X G a,t,Z⟩
theorem ur{x:Str}{vs:List V}{b:Addr}{its:Array Value}{n:Nat}{od:Option Addr}{bZ:Array (Option Value)}(X:K.In h)(G:h.Ns mainGlobals mg)(a:PySem.W.nsIn K mainGlobals x=some (some (.ref b))) (l:K.lookup b=some ⟨.type "tuple",od,.seq its n,bZ⟩)(hz:its.size<=sizeLine)(r:Vals vs its.toList):GT K mg x vs:=⟨b,⟨_,iZ X G a,Z⟩,λH=>.inr ⟨_,its,n,l,Z,Z,hz,r⟩⟩
end
section
variable {X:Cx}
theorem sN(K:aa)(h:X.K=K):bD X (compareOp .NotIn) (kW K true):=by subst h;exact yF
theorem tS(K:aa)(h:X.K=K):bD X (compareOp .In) (kW K false):=by subst h;exact yJ
end
theorem DG{J:It}{xs:List V}{bs:List Bool}{te:TE}{Q:VK}{D:Addr}{H H0:Hp}(rest:St)(nw:Nw H H0 D (.lst []))(hl:xs.length=bs.length)(hz:xs.length<=1000) (go:∀i x H2,xs[i]? =some x->aA H H2->J.go i H2/\∀y H3,J.gj i H2 y H3->H3=H2/\y=x)(stop:∀H2,aA H H2->J.stop xs.length H2) (hs:∀(i:Nat)(x:V)(b:Bool)(H2:Hp)(Q':VK),xs[i]? =some x->bs[i]? =some b->aA H H2->(∀H3,aA H2 H3->Q' (.bl b) H3)->te (some x::rest) H2 Q') (hq:∀H',aA H H'->H' D=some (.lst (bs.map V.bl))->Q (.ref D) H'):gL J (ei 0) fK te Q D (none::rest) H0:=by
 have hD:=nw.no;refine lX xs.length (λi O H2=>aA H H2/\H2 D=some (.lst ((bs.take i).map V.bl))/\∃v,O=v::rest) ?_ ?_ ?_
 ·exact⟨nw.same,nw.at',none,Z⟩
 ·rintro i O H2 hi ⟨s2,d2,v,rfl⟩
  have lK:i<bs.length:=by rw[<-hl];exact hi
  have ex:=eA hi;have eb:=eA lK;obtain⟨g1,g2⟩:=go i _ H2 ex s2;refine⟨g1,λy H3 hy=>?_⟩;obtain⟨rfl,rfl⟩:=g2 y H3 hy;refine mK ?_;refine hs i _ _ _ _ ex eb s2 λH4 s4=>?_;refine⟨_,s4 _ _ d2,?_,xs.length-(i+1),aV,Z,aV,λb o e=>?_,?_,_,Z⟩
  ·rw[bz,j9]
   have:(1000:Nat)<sizeLine:=by decide
   lia
  ·rw[bo (eL e hD)];exact s4 b o (s2 b o e)
  ·rw[bO,List.take_succ,eb,List.map_append];rfl
 ·rintro O H2 ⟨s2,d2,v,rfl⟩
  refine⟨stop H2 s2,hq H2 s2 ?_⟩;rw[d2,hl,vT]
theorem lY{K:aa}{a:Addr}{xs:List V}{bs:List Bool}{te:TE}{Q:VK}{D:Addr}{H H0:Hp}(rest:St)(hx:bb K H a xs)(nw:Nw H H0 D (.lst []))(hl:xs.length=bs.length)(hz:xs.length<=1000) (hs:∀(i:Nat)(x:V)(b:Bool)(H2:Hp)(Q':VK),xs[i]? =some x->bs[i]? =some b->aA H H2->(∀H3,aA H2 H3->Q' (.bl b) H3)->te (some x::rest) H2 Q') (hq:∀H',aA H H'->H' D=some (.lst (bs.map V.bl))->Q (.ref D) H'):gL (mj K a) (ei 0) fK te Q D (none::rest) H0:=DG rest nw hl hz (λi x H2 e s=>⟨⟨xs,x,hx.go s,e⟩,λy H3 ⟨e3,y3⟩=>⟨e3,by have:=y3 _ (hx.go s);rw[e]at this;exact(cH this).symm⟩⟩) (λH2 s=>⟨xs,hx.go s,br _⟩) hs hq
theorem lx{ds:List ah}{f:ah->Bool}{i:Nat}{b:Bool}(h:(ds.map f)[i]? =some b):∃d,ds[i]? =some d/\f d=b:=by rw[dD]at h;cases e:ds[i]? with |none=>rw[e]at h;cases h |some d=>rw[e]at h;exact⟨d,Z,cH h⟩
theorem all_map{ds:List ah}{f:ah->Bool}:(ds.map f).all id=ds.all f:=by rw[List.all_map];rfl
section
variable {X:Cx}
inductive Fv(K:aa)(x:V)(y:V)(H:Hp)(Q:VK):Prop |mk (a:_)(b:_)(xs:_)(ys:_)(h0:x= .ref a)(h1:y= .ref b)(h2:aH K H a xs)(h3:aH K H b ys)(h4:xs.length+ys.length<=sizeLine)(h5:∀p H',Nw H H' p (.lst (xs++ys))->Q (.ref p) H')
def xV(K:aa):R2:=λx y H Q=>Fv K x y H Q
theorem uS(K:aa)(hK:X.K=K):bD X (binaryOp .Add) (xV K):=by
 subst hK;intro ak s O H x y v u Q I rx ry h;obtain⟨a,b,xs,ys,rfl,rfl,ha,hb,hz,q⟩:=h;cases rx;cases ry;obtain⟨its,r1,p1,_⟩:=I.list ha;obtain⟨gz,r2,p2,_⟩:=I.list hb;obtain⟨⟨cls,dd,data,sl⟩,n,ho,hc,Gp,hd⟩:=id p1;obtain⟨⟨uO,iS,data2,iH⟩,n2,fz,gD,Gn,hd2⟩:=id p2;simp only at hc hd gD hd2;subst hc hd gD hd2;have e:its.toArray++gz.toArray=(its++gz).toArray:=by simp
 refine concat_meets ⟨_,ho,Z⟩ ⟨_,fz,Z⟩ noFill_list_add seq_list_add PySem.F.slot_list_add PySem.F.entry_list_add (PySem.F.args_list_add_2 _ _) (list_addW a b its.toArray gz.toArray n n2 dd iS sl iH (by rw[bQ,bQ,<-r1.length,<-r2.length];exact hz)) ⟨ho,fz,?_⟩;rw[e];have nw:Nw H (upd H s.heap.objs.size (.lst (xs++ys))) s.heap.objs.size (.lst (xs++ys)):=.of (I.aE.fresh (br _));refine⟨.ref s.heap.objs.size,_,I.laid (t':=s.toks) (o:=.lst (xs++ys)) (λb ob q=>bu _ q) (br _) ?_,Z,q _ _ nw⟩;exact⟨by rw[fJ];exact hz,_,0,r1.append r2,cA _ Z⟩
open Classical in
end
end L2
namespace L2
end L2
namespace L2
open PySem PySem.Spec PyProof.Rows
def et(b:Bool)(h:Heap)(it l:Addr)(k:Nat):Prop:=match b with|true=>h.IsListIter it l k|false=>h.IsTupleIter it l k
def cU(b:Bool)(h:Heap)(l:Addr)(xs:Array Value):Prop:=match b with|true=>h.IsList l xs|false=>h.IsTuple l xs
def jU(b:Bool):String:=match b with|true=>"list_iterator"|false=>"tuple_iterator"
theorem et.to{b:Bool}{h g:Heap}{it l:Addr}{k:Nat}(x:et b h it l k)(e:∀o,h.get? it=some o->g.get? it=some o):et b g it l k:=by cases b<;>(obtain⟨o,ho,r⟩:=x;exact⟨o,e o ho,r⟩)
theorem cU.to{b:Bool}{h g:Heap}{l:Addr}{xs:Array Value}(x:cU b h l xs)(e:∀o,h.get? l=some o->g.get? l=some o):cU b g l xs:=by cases b<;>(obtain⟨o,ho,r⟩:=x;exact⟨o,e o ho,r⟩)
theorem et.ob{b:Bool}{h:Heap}{it l:Addr}{k:Nat}(x:et b h it l k):∃o,h.get? it=some o/\o.cls= .type (jU b)/\∀v,o.data≠ .cell v:=by cases b<;>(obtain⟨o,ho,c,d⟩:=x;exact⟨o,ho,c,λv z=>by rw[d]at z;cases z⟩)
section
variable {prog:af}{w:World}{A:ai}{E:Value->ae->Prop}{s:ae}
theorem sQ{b:Bool}{l:Addr}{xs:Array Value}{Q:Value->ae->Prop}(x:cU b s.heap l xs) (q:Q (.ref s.heap.objs.size) {s with heap:=s.heap.push {cls:=.type (jU b),data:=.fields #[.ref l,.int 0 0]}}):wpAny (model prog w) A (pyIter (.ref l)) Q E s:=by
 cases b
 ·exact wpAny_pyIter_tuple x q
 ·exact wpAny_pyIter_list x q
theorem zy{it t:Addr}{k:Nat}{ts:Array Value}{x:Value}{Q:Value->ae->Prop}(hi:s.heap.IsTupleIter it t k)(ht:s.heap.IsTuple t ts)(hx:ts[k]? =some x) (q:∀g,g.IsTupleIter it t (k+1)->Heap.SameBut it s.heap g->Q x {s with heap:=g}):wpAny (model prog w) A (Builtin.SmallTypes.nextOf (.ref it)) Q E s:=by obtain⟨oi,fw,ci,di⟩:=id hi;obtain⟨ot,oJ,_,nt,dt⟩:=ht;unfold Builtin.SmallTypes.nextOf;refine au (kh (name:=Str.ofString "__next__") hi.typeIs qc (kg qc hi.typeIs FR ?_ (FT _)));show wpAny _ _ (field (.ref it) 0>>=_) _ _ s;refine au (cW fw di (x:=.ref t) Z ?_);show wpAny _ _ (if(Value.ref t==Value.none)=true then _ else _) _ _ s;rw[bf (show¬((Value.ref t==Value.none)=true)from cB)];show wpAny _ _ (field (.ref it) 1>>=_) _ _ s;refine au (cW fw di (x:=.int k 0) Z ?_);show wpAny _ _ (seqItems? (.ref t)>>=_) _ _ s;refine au (iy oJ dt ?_);simp only[Int.toNat_natCast,hx];refine au (mr fw di (by simp) (aZ ⟨x,Z,aZ (q _ ?_ (Heap.SameBut.update ..))⟩));exact⟨_,qq _ fw (vS (mE di _)),(Obj.cls_mapFields ..).trans ci,by rw[mE di];simp[rawInt]⟩
theorem Dr{it t:Addr}{k:Nat}{ts:Array Value}{Q:Value->ae->Prop}(hh:A.handled=none)(hi:s.heap.IsTupleIter it t k)(ht:s.heap.IsTuple t ts)(hx:ts[k]? =none) (q:∀g e,Heap.ExtBut it s.heap g->(∃o,g.get? e=some o/\o.cls= .type "StopIteration")->E (.ref e) {s with heap:=g}):wpAny (model prog w) A (Builtin.SmallTypes.nextOf (.ref it)) Q E s:=by
 obtain⟨oi,fw,ci,di⟩:=id hi;obtain⟨ot,oJ,_,nt,dt⟩:=ht;unfold Builtin.SmallTypes.nextOf;refine au (kh (name:=Str.ofString "__next__") hi.typeIs qc (kg qc hi.typeIs FR ?_ (FT _)));show wpAny _ _ (field (.ref it) 0>>=_) _ _ s;refine au (cW fw di (x:=.ref t) Z ?_);show wpAny _ _ (if(Value.ref t==Value.none)=true then _ else _) _ _ s;rw[bf (show¬((Value.ref t==Value.none)=true)from cB)];show wpAny _ _ (field (.ref it) 1>>=_) _ _ s;refine au (cW fw di (x:=.int k 0) Z ?_);show wpAny _ _ (seqItems? (.ref t)>>=_) _ _ s;refine au (iy oJ dt ?_);simp only[Int.toNat_natCast,hx];refine au (wpAny_rule (au (mr fw di (by simp) ?_)));show wpAny _ _ (newExc (.type "StopIteration") []>>=_) _ _ _;refine au ?_;simp only[newExc,newTuple];refine au (iz ?_ (by size_fits));refine au (m:=firstArgMember _ _) (wpAny_of_eq (a:=Value.none) (by first|rfl|(simp only[firstArgMember];rfl)) ?_);refine iz ?_ (by size_fits);simp only[raiseNew];refine au (wpAny_handled ?_)
 first|rw[show A.in1.handled=none from hh]|rw[hh]
 exact au (aZ (wpAny_throw (q _ _ (((Heap.SameBut.update ..).extBut.push _).push _) ⟨_,cA _ Z,Z⟩)))
theorem o8{b:Bool}{it l:Addr}{k:Nat}{xs:Array Value}{x:Value}{Q:Value->ae->Prop}(hi:et b s.heap it l k)(hl:cU b s.heap l xs)(hx:xs[k]? =some x) (q:∀g,et b g it l (k+1)->Heap.SameBut it s.heap g->Q x {s with heap:=g}):wpAny (model prog w) A (Builtin.SmallTypes.nextOf (.ref it)) Q E s:=by
 cases b
 ·exact zy hi hl hx q
 ·exact wpAny_nextOf_list_item hi hl hx q
theorem uI{b:Bool}{it l:Addr}{k:Nat}{xs:Array Value}{Q:Value->ae->Prop}(hh:A.handled=none)(hi:et b s.heap it l k)(hl:cU b s.heap l xs)(hx:xs[k]? =none) (q:∀g e,Heap.ExtBut it s.heap g->(∃o,g.get? e=some o/\o.cls= .type "StopIteration")->E (.ref e) {s with heap:=g}):wpAny (model prog w) A (Builtin.SmallTypes.nextOf (.ref it)) Q E s:=by
 cases b
 ·exact Dr hh hi hl hx q
 ·exact wpAny_nextOf_list_end hh hi hl hx q
structure Zp(b1 b2:Bool)(h:Heap)(z TI TO i1 i2 l1 l2:Addr)(f0:Value)(k:Nat):Prop where
 zz:IsZip h z TI TO f0
 ti:IsPair h TI (.ref i1) (.ref i2)
 to:∃a b,IsPair h TO a b
 n1:et b1 h i1 l1 k
 n2:et b2 h i2 l2 k
theorem sH{z TI TO:Addr}{Q:Bool->ae->Prop}(hz:IsZip s.heap z TI TO .none)(q:Q true s):wpAny (model prog w) A (Builtin.SmallTypes.ownedTupleIsFree (.ref z)) Q E s:=by unfold Builtin.SmallTypes.ownedTupleIsFree;exact au (cW hz Z (x:=.none) Z (aZ q))
theorem w6{b1 b2:Bool}{z TI TO i1 i2 l1 l2:Addr}{k:Nat}{xs ys:Array Value}{x y:Value}{Q:Value->ae->Prop}(D:ZipApart z TI TO i1 i2 l1 l2)(GH:Zp b1 b2 s.heap z TI TO i1 i2 l1 l2 .none k) (hZ:cU b1 s.heap l1 xs)(hX:cU b2 s.heap l2 ys)(hx:xs[k]? =some x)(hy:ys[k]? =some y) (q:∀g,Zp b1 b2 g z TI TO i1 i2 l1 l2 (rawInt s.heap.objs.size) (k+1)->IsPair g s.heap.objs.size x y->(∀c o,c≠z->c≠TO->c≠i1->c≠i2->s.heap.get? c=some o->g.get? c=some o)->Q (.ref s.heap.objs.size) {s with heap:=g}): wpAny (model prog w) A (Builtin.«zip.__next__» ⟨[.ref z],[]⟩) (λr s'=>∃v,r= .done (.ret v)/\Q v s') E s:=by
 obtain⟨hz,eh,⟨a,b,eO⟩,h1,h2⟩:=GH;show wpAny _ _ (field (.ref z) 2>>=_) _ _ _;refine au (cW hz Z (x:=.bool false) Z ?_);show wpAny _ _ (field (.ref z) 3>>=_) _ _ _;refine au (cW hz Z (x:=.ref TI) Z (au (iy eh Z ?_)));show wpAny _ _ (Builtin.SmallTypes.ownedTupleIsFree (.ref z)>>=_) _ _ _;refine au (sH hz ?_);simp only[if_true];refine au (wpAny_rule (au (cW hz Z (x:=.ref TO) Z (au (ke hz (by simp) λg1 z1 e1=>?_)))));replace z1:IsZip g1 z TI TO .ellipsis:=z1;refine au ?_;simp only[List.zipIdx_cons,List.zipIdx_nil,qo,List.forIn_nil];refine au (au (mw ?_));show wpAny _ _ (Builtin.SmallTypes.nextOf (.ref i1)>>=_) _ _ _;refine au (o8 (h1.to λo e=>e1.extBut _ _ D.i1z e) (hZ.to λo e=>e1.extBut _ _ D.l1z e) hx λg2 n1 e2=>aZ ?_);have t2:IsPair g2 TO a b:=e2.extBut _ _ D.TOi1 (e1.extBut _ _ D.TOz eO);refine au (iy t2 Z (au (vF t2 λg3 t3 e3=>?_)));replace t3:IsPair g3 TO x b:=t3;refine au (wpAny_letGo (aZ ?_));refine au (au (mw ?_));show wpAny _ _ (Builtin.SmallTypes.nextOf (.ref i2)>>=_) _ _ _;refine au (o8 (h2.to λo e=>e3.extBut _ _ D.TOi2.symm (e2.extBut _ _ D.i12.symm (e1.extBut _ _ D.i2z e))) (hX.to λo e=>e3.extBut _ _ D.l2TO (e2.extBut _ _ D.l2i1 (e1.extBut _ _ D.l2z e))) hy λg4 n2 e4=>aZ ?_);have t4:IsPair g4 TO x b:=e4.extBut _ _ D.TOi2 t3;refine au (iy t4 Z (au (vF t4 λg5 t5 e5=>?_)));replace t5:IsPair g5 TO x y:=t5;refine au (wpAny_letGo (aZ (aZ ?_)));refine au (iy t5 Z (au (wpAny_newTuple ?_)));have sz:g5.objs.size=s.heap.objs.size:=by rw[e5.1,e4.1,e3.1,e2.1,e1.1]
 have z5:IsZip g5 z TI TO .ellipsis:=e5.extBut _ _ D.TOz.symm (e4.extBut _ _ D.i2z.symm (e3.extBut _ _ D.TOz.symm (e2.extBut _ _ D.i1z.symm z1)));have kp:∀c o,c≠z->c≠TO->c≠i1->c≠i2->s.heap.get? c=some o->g5.get? c=some o:=λc o c1 c2 c3 c4 e=>e5.extBut _ _ c2 (e4.extBut _ _ c4 (e3.extBut _ _ c2 (e2.extBut _ _ c3 (e1.extBut _ _ c1 e))));have m1:et b1 g5 i1 l1 (k+1):=n1.to λo e=>e5.extBut _ _ D.TOi1.symm (e4.extBut _ _ D.i12 (e3.extBut _ _ D.TOi1.symm e));have m2:et b2 g5 i2 l2 (k+1):=n2.to λo e=>e5.extBut _ _ D.TOi2.symm e;have mJ:z<g5.objs.size:=bj z5;show wpAny _ _ (Builtin.SmallTypes.ownedTupleHandOut (.ref z) (.ref g5.objs.size)>>=_) _ _ _;refine au ?_;unfold Builtin.SmallTypes.ownedTupleHandOut;have z6:IsZip (g5.push {cls:=.type "tuple",data:=.seq #[x,y]}) z TI TO .ellipsis:=bu _ z5;refine au (ke z6 (by simp) λg7 z7 e7=>?_);replace z7:IsZip g7 z TI TO (rawInt g5.objs.size):=z7;refine ke z7 (by simp) λg8 z8 e8=>?_;replace z8:IsZip g8 z TI TO (rawInt g5.objs.size):=z8;have up:∀c o,c≠z->g5.get? c=some o->g8.get? c=some o:=λc o c1 e=>e8.extBut _ _ c1 (e7.extBut _ _ c1 (bu _ e));have t8:IsPair g8 g5.objs.size x y:=e8.extBut _ _ (qd mJ) (e7.extBut _ _ (qd mJ) (cA _ Z));rw[sz]at z8 t8;refine aZ ⟨_,Z,?_⟩;show Q (.ref g5.objs.size) _;rw[sz];exact q g8 ⟨z8,up _ _ D.TIz (kp _ _ D.TIz D.TITO D.TIi1 D.TIi2 eh),⟨_,_,up _ _ D.TOz t5⟩,m1.to λo e=>up _ o D.i1z e,m2.to λo e=>up _ o D.i2z e⟩ t8 λc o c1 c2 c3 c4 e=>up c o c1 (kp c o c1 c2 c3 c4 e)
theorem w8{b1 b2:Bool}{z TI TO i1 i2 l1 l2:Addr}{k:Nat}{xs ys:Array Value}{Q:Fin->ae->Prop}(hh:A.handled=none)(D:ZipApart z TI TO i1 i2 l1 l2)(GH:Zp b1 b2 s.heap z TI TO i1 i2 l1 l2 .none k) (hZ:cU b1 s.heap l1 xs)(hX:cU b2 s.heap l2 ys)(oS:xs[k]? =none\/ys[k]? =none) (q:∀g e,(∀c o,c≠z->c≠TO->c≠i1->c≠i2->s.heap.get? c=some o->g.get? c=some o)->(∃o,g.get? e=some o/\o.cls= .type "StopIteration")->E (.ref e) {s with heap:=g}): wpAny (model prog w) A (Builtin.«zip.__next__» ⟨[.ref z],[]⟩) Q E s:=by obtain⟨hz,eh,⟨a,b,eO⟩,h1,h2⟩:=GH;show wpAny _ _ (field (.ref z) 2>>=_) _ _ _;refine au (cW hz Z (x:=.bool false) Z ?_);show wpAny _ _ (field (.ref z) 3>>=_) _ _ _;refine au (cW hz Z (x:=.ref TI) Z (au (iy eh Z ?_)));show wpAny _ _ (Builtin.SmallTypes.ownedTupleIsFree (.ref z)>>=_) _ _ _;refine au (sH hz ?_);simp only[if_true];refine au (wpAny_rule (au (cW hz Z (x:=.ref TO) Z (au (ke hz (by simp) λg1 z1 e1=>?_)))));replace z1:IsZip g1 z TI TO .ellipsis:=z1;refine au ?_;simp only[List.zipIdx_cons,List.zipIdx_nil,qo,List.forIn_nil];refine au (au (mw ?_));show wpAny _ _ (Builtin.SmallTypes.nextOf (.ref i1)>>=_) _ _ _;have j1:=h1.to λo e=>e1.extBut _ _ D.i1z e;have k1:=hZ.to λo e=>e1.extBut _ _ D.l1z e;cases hx:xs[k]? with
 |none=>
  refine au (uI hh j1 k1 hx λg2 er e2 ⟨oe,hW,jO⟩=>?_);have z2:IsZip g2 z TI TO .ellipsis:=e2 _ _ D.i1z.symm z1;have nz:er≠z:=λv=>by subst v;rw[z2]at hW;cases hW;simp at jO
  refine ke z2 (by simp) λg3 _ e3=>q g3 er (λc o c1 _ c3 _ v=>e3.extBut _ _ c1 (e2 _ _ c3 (e1.extBut _ _ c1 v))) ⟨oe,e3.extBut _ _ nz hW,jO⟩ |some x=>
  have hy:ys[k]? =none:=by rcases oS with h|h;rw[hx]at h;cases h;exact h
  refine au (o8 j1 k1 hx λg2 n1 e2=>aZ ?_);have t2:IsPair g2 TO a b:=e2.extBut _ _ D.TOi1 (e1.extBut _ _ D.TOz eO);refine au (iy t2 Z (au (vF t2 λg3 t3 e3=>?_)));refine au (wpAny_letGo (aZ ?_));refine au (au (mw ?_));show wpAny _ _ (Builtin.SmallTypes.nextOf (.ref i2)>>=_) _ _ _;refine au (uI hh (h2.to λo e=>e3.extBut _ _ D.TOi2.symm (e2.extBut _ _ D.i12.symm (e1.extBut _ _ D.i2z e))) (hX.to λo e=>e3.extBut _ _ D.l2TO (e2.extBut _ _ D.l2i1 (e1.extBut _ _ D.l2z e))) hy λg4 er e4 ⟨oe,hW,jO⟩=>?_);have z4:IsZip g4 z TI TO .ellipsis:=e4 _ _ D.i2z.symm (e3.extBut _ _ D.TOz.symm (e2.extBut _ _ D.i1z.symm z1));have nz:er≠z:=λv=>by subst v;rw[z4]at hW;cases hW;simp at jO
  refine ke z4 (by simp) λg5 _ e5=>q g5 er (λc o c1 c2 c3 c4 v=>e5.extBut _ _ c1 (e4 _ _ c4 (e3.extBut _ _ c2 (e2.extBut _ _ c3 (e1.extBut _ _ c1 v))))) ⟨oe,e5.extBut _ _ nz hW,jO⟩
abbrev kz(b1:Bool)(h:Heap)(l1:Addr):Heap:=h.push {cls:=.type (jU b1),data:=.fields #[.ref l1,.int 0 0]}
abbrev ky(b1 b2:Bool)(h:Heap)(l1 l2:Addr):Heap:=(kz b1 h l1).push {cls:=.type (jU b2),data:=.fields #[.ref l2,.int 0 0]}
abbrev kx(b1 b2:Bool)(h:Heap)(l1 l2:Addr):Heap:=(ky b1 b2 h l1 l2).push {cls:=.type "tuple",data:=.seq #[.ref h.objs.size,.ref (kz b1 h l1).objs.size]}
abbrev kv(b1 b2:Bool)(h:Heap)(l1 l2:Addr):Heap:=(kx b1 b2 h l1 l2).push {cls:=.type "tuple",data:=.seq #[.none,.none]}
abbrev iD(b1 b2:Bool)(h:Heap)(l1 l2:Addr):Heap:=(kv b1 b2 h l1 l2).push {cls:=.type "zip",data:=.fields #[.none,.bool false,.bool false,.ref (ky b1 b2 h l1 l2).objs.size,.ref (kx b1 b2 h l1 l2).objs.size]}
theorem w4(b1 b2:Bool)(l1 l2:Addr)(xs ys:Array Value):Meets (Builtin.«zip.__new__» ⟨[.type "zip",.ref l1,.ref l2],[]⟩) (λ_ R s=>cU b1 s.heap l1 xs/\cU b2 s.heap l2 ys/\R (.ok (.ret (.ref (kv b1 b2 s.heap l1 l2).objs.size))) {s with heap:=iD b1 b2 s.heap l1 l2}):=.of_wp λprog w A R s h=>by
 obtain⟨hp,gg,d,tk,os⟩:=s;obtain⟨hZ,hX,h⟩:=h;have tX:=sub_zip;have Ci:cU b1 (Shared.heap ⟨hp,gg,d,tk,os⟩) l1 xs:=hZ;have Cg:cU b2 (Shared.heap ⟨hp.push {cls:=.type (jU b1),data:=.fields #[.ref l1,.int 0 0]},gg,d,tk,os⟩) l2 ys:=hX.to λo e=>bu _ e
 wp_walk using sQ Ci,sQ Cg;exact⟨_,Z,h⟩
theorem w9{b1 b2:Bool}{l1 l2:Addr}{xs ys:Array Value}{Q:Value->ae->Prop}(hZ:cU b1 s.heap l1 xs)(hX:cU b2 s.heap l2 ys) (q:∀g,Zp b1 b2 g (s.heap.objs.size+4) (s.heap.objs.size+2) (s.heap.objs.size+3) s.heap.objs.size (s.heap.objs.size+1) l1 l2 .none 0->(∀c o,s.heap.get? c=some o->g.get? c=some o)->Q (.ref (s.heap.objs.size+4)) {s with heap:=g}): wpAny (model prog w) A (call (.type "zip") [.ref l1,.ref l2]) Q E s:=by
 refine callType_new PySem.F.called_zip aw (PySem.F.typeCall_zip_2 _ _) (PySem.F.newCall_zip_2 _ _) (λobj=>PySem.F.args_object_init_3 obj _ _) PySem.F.entry_zip_new (w4 b1 b2 l1 l2 xs ys) ⟨hZ,hX,?_⟩;have z1:(kz b1 s.heap l1).objs.size=s.heap.objs.size+1:=ja ..;have z2:(ky b1 b2 s.heap l1 l2).objs.size=s.heap.objs.size+2:=by rw[ja,z1]
 have z3:(kx b1 b2 s.heap l1 l2).objs.size=s.heap.objs.size+3:=by rw[ja,z2]
 have z4:(kv b1 b2 s.heap l1 l2).objs.size=s.heap.objs.size+4:=by rw[ja,z3]
 have g5:(iD b1 b2 s.heap l1 l2).get? (kv b1 b2 s.heap l1 l2).objs.size=some _:=cA _ rfl;have g4:(iD b1 b2 s.heap l1 l2).get? (kx b1 b2 s.heap l1 l2).objs.size=some _:=bu _ (cA _ Z);have g3:(iD b1 b2 s.heap l1 l2).get? (ky b1 b2 s.heap l1 l2).objs.size=some _:=bu _ (bu _ (cA _ Z));have g2:(iD b1 b2 s.heap l1 l2).get? (kz b1 s.heap l1).objs.size=some _:=bu _ (bu _ (bu _ (cA _ Z)));have g1:(iD b1 b2 s.heap l1 l2).get? s.heap.objs.size=some _:=bu _ (bu _ (bu _ (bu _ (cA _ Z))));show _/\_;rw[z2,z3,z4]at g5;rw[z1,z2]at g3;rw[z3]at g4;rw[z1]at g2;rw[z4];refine⟨⟨_,g5,Z⟩,q _ ⟨g5,g3,⟨_,_,g4⟩,?_,?_⟩ λc o e=>bu _ (bu _ (bu _ (bu _ (bu _ e))))⟩
 ·cases b1<;>exact⟨_,g1,rfl,rfl⟩
 ·cases b2<;>exact⟨_,g2,rfl,rfl⟩
end
section
variable {X:Cx}{ak:List (Addr×Obj)}{O:St}{H:Hp}{s:ae}{h':Heap}
theorem Inv.qz{t':Nat}{fp:List Addr}(I:Inv X ak O H s)(k:∀b o,b∉fp->s.heap.get? b=some o->h'.get? b=some o)(hf:∀b∈fp,fG X ak H b):Inv X ak O H {s with heap:=h',toks:=t'}:=by
 have jx:∀b u,H b=some u->b∉fp:=λb u e z=>by rw[(hf b z).1]at e;cases e
 have hL:X.env.locals∉fp:=λz=>(hf _ z).2.1 rfl;refine I.step (g':=s.gens) (d':=s.drawn) (ch:=fp) (λb hb=>?_) (λb o _ _ hc e _=>k b o hc e) (λb o _ _ hc e _=>⟨o.slots,k b o hc e⟩) (λ_ _ _ _ n=>n) (λb o hc e=>⟨o,k b o hc e⟩) (λ_ _ e=>e) (λ_ _ _ e=>e) (λb ps e=>⟨#[],by rw[e];simp⟩) (λm hm=>?_) (λb u e=>?_) I.bare
 ·obtain⟨f0,f1,f2,f3,f4,f5⟩:=hf b hb
  exact⟨f3,f1,f4,f5⟩
 ·obtain⟨o,es,ep,ho,r⟩:=hm
  exact⟨o,es,ep,k _ o hL ho,r⟩
 ·refine(I.aE b u e).fh (λc v hc q=>k c v ?_ q) (λ_ q=>q) λ_ _ q=>q
  rcases hc with z|z
  ·rw[z];exact jx b u e
  ·exact jx c _ z
end
def cE(b:Bool)(K:aa)(H:Hp)(a:Addr)(xs:List V):Prop:=match b with|true=>aH K H a xs|false=>bb K H a xs
theorem cE.get{X:Cx}{ak:List (Addr×Obj)}{O:St}{H:Hp}{s:ae}{b:Bool}{a:Addr}{xs:List V}(I:Inv X ak O H s)(h:cE b X.K H a xs):∃its:List Value,Vals xs its/\cU b s.heap a its.toArray:=by
 cases b
 ·obtain⟨its,r,p,_⟩:=I.tuple h;exact⟨its,r,p⟩
 ·obtain⟨its,r,p,_⟩:=I.list h;exact⟨its,r,p.isList⟩
theorem cE.inj{X:Cx}{ak:List (Addr×Obj)}{O:St}{H:Hp}{s:ae}{b:Bool}{a:Addr}{xs ys:List V}(I:Inv X ak O H s)(h:cE b X.K H a xs)(g:cE b X.K H a ys):xs=ys:=by
 cases b
 ·exact I.qA h g
 ·exact I.Ad h g
def pX(K:aa)(b1 b2:Bool)(l1 l2:Addr):It:=⟨λi H=>∃xs ys x y,cE b1 K H l1 xs/\cE b2 K H l2 ys/\xs[i]? =some x/\ys[i]? =some y,λi H v H'=>∃T x y,v= .ref T/\(∀xs,cE b1 K H l1 xs->xs[i]? =some x)/\(∀ys,cE b2 K H l2 ys->ys[i]? =some y)/\Nw H H' T (.tup [x,y]),λi H=>∃xs ys,cE b1 K H l1 xs/\cE b2 K H l2 ys/\(xs.length<=i\/ys.length<=i)⟩
theorem wx{P:af}{w:World}{K:aa}{elts:List Expr}{kt:Nat}{pos:Pos}{b1 b2:Bool}{z TI TO i1 i2 l1 l2:Addr}(D:ZipApart z TI TO i1 i2 l1 l2): Turn P w K (.Tuple elts kt pos) (pX K b1 b2 l1 l2) [z,TI,TO,i1,i2] z (λi h=>Zp b1 b2 h z TI TO i1 i2 l1 l2 .none i) where
 mem:=by simp
 obj:=λi h st b hb=>by
  obtain⟨hz,eh,⟨a,c,eO⟩,h1,h2⟩:=st;simp only[cz,fH,or_false]at hb;rcases hb with rfl|rfl|rfl|rfl|rfl
  ·exact⟨_,hz,λv e=>by cases e⟩
  ·exact⟨_,eh,λv e=>by cases e⟩
  ·exact⟨_,eO,λv e=>by cases e⟩
  ·obtain⟨o,e,_,n⟩:=h1.ob;exact⟨o,e,n⟩
  ·obtain⟨o,e,_,n⟩:=h2.ob;exact⟨o,e,n⟩
 keep:=λi h h' st k=>by obtain⟨hz,eh,⟨a,c,eO⟩,h1,h2⟩:=st;exact⟨k z (by simp) _ hz,k TI (by simp) _ eh,⟨a,c,k TO (by simp) _ eO⟩,h1.to λo e=>k i1 (by simp) o e,h2.to λo e=>k i2 (by simp) o e⟩
 item:=by
  intro X hP hw hK hc i ak s O H E I hf st hg;subst hP hw hK;obtain⟨xs,ys,x,y,q1,q2,e1,e2⟩:=hg;obtain⟨tN,r1,p1⟩:=q1.get I;obtain⟨gz,r2,p2⟩:=q2.get I;obtain⟨u1,AO,nK⟩:=r1.get e1;obtain⟨u2,AN,nJ⟩:=r2.get e2;have hT:s.TypeIs (.ref z) "zip":=⟨_,st.zz,Z⟩;unfold pyNext;refine au (wpAny_attempt (kh (name:=Str.ofString "__next__") hT qb (kg qb hT PySem.F.entry_zip_next (w6 D st p1 p2 (x:=u1) (y:=u2) (by simpa using AO) (by simpa using AN) λg zg tg kp=>aZ ?_) (PySem.F.args_zip_next_1 _))));refine⟨_,Z,?_⟩;refine wpAny_letOwnedTupleGo_zip zg.zz λg' vZ sb=>?_;have hs:=sb.extBut;have mJ:z<s.heap.objs.size:=bj st.zz;have nw:Nw H (upd H s.heap.objs.size (.tup [x,y])) s.heap.objs.size (.tup [x,y]):=.of (I.aE.fresh (br _));have I1:Inv X ak O (upd H s.heap.objs.size (.tup [x,y])) {s with heap:=s.heap.push {cls:=.type "tuple",data:=.seq #[u1,u2]}}:=I.laid (t':=s.toks) (λb ob q=>bu _ q) (br _) ⟨by show 2<=sizeLine;decide,[u1,u2],.cons nK (.cons nJ .nil),⟨_,cA _ Z,Z,_,Z⟩⟩;have A2:∀b∈[z,TI,TO,i1,i2],b<s.heap.objs.size:=λb hb=>by
   simp only[cz,fH,or_false]at hb;obtain⟨hz,eh,⟨a,c,eO⟩,h1,h2⟩:=st;rcases hb with rfl|rfl|rfl|rfl|rfl
   ·exact bj hz
   ·exact bj eh
   ·exact bj eO
   ·obtain⟨o,e,_⟩:=h1.ob;exact bj e
   ·obtain⟨o,e,_⟩:=h2.ob;exact bj e
  have hn:∀b∈[z,TI,TO,i1,i2],upd H s.heap.objs.size (.tup [x,y]) b=none:=λb hb=>by rw[bo (cy (A2 b hb))];exact(hf b hb).1
  have I2:Inv X ak O (upd H s.heap.objs.size (.tup [x,y])) {s with heap:=g'}:=Inv.qz (s:={s with heap:=s.heap.push {cls:=.type "tuple",data:=.seq #[u1,u2]}}) (t':=s.toks) (fp:=[z,TI,TO,i1,i2]) I1 (λb o hb e=>by
   have e:(s.heap.push {cls:=.type "tuple",data:=.seq #[u1,u2]}).get? b=some o:=e;have nz:b≠z:=λq=>hb (by simp[q]);rcases Heap.get?_push_cases e with⟨BE,rfl⟩|e'
   ·subst BE
    exact hs _ _ nz tg
   ·exact hs _ _ nz (kp b o nz (λq=>hb (by simp[q])) (λq=>hb (by simp[q])) (λq=>hb (by simp[q])) e')) (λb hb=>by obtain⟨f0,f1,f2,f3,f4,f5⟩:=hf b hb;exact⟨hn b hb,f1,f2,f3,f4,f5⟩);refine⟨.ref s.heap.objs.size,_,I2,Z,⟨s.heap.objs.size,x,y,Z,λzs hz=>?_,λzs hz=>?_,nw⟩,?_,hn⟩
  ·rw[cE.inj I hz q1];exact e1
  ·rw[cE.inj I hz q2];exact e2
  ·obtain⟨_,eh,⟨a,c,eO⟩,h1,h2⟩:=zg
   exact⟨vZ,hs _ _ D.TIz eh,⟨a,c,hs _ _ D.TOz eO⟩,h1.to λo e=>hs _ o D.i1z e,h2.to λo e=>hs _ o D.i2z e⟩
 done:=by intro X hP hw hK hc i ak s O H E I hf st hg;subst hP hw hK;obtain⟨xs,ys,q1,q2,oS⟩:=hg;obtain⟨tN,r1,p1⟩:=q1.get I;obtain⟨gz,r2,p2⟩:=q2.get I;have hT:s.TypeIs (.ref z) "zip":=⟨_,st.zz,Z⟩;have l1:=r1.length;have l2:=r2.length;unfold pyNext;refine au (wpAny_attempt (kh (name:=Str.ofString "__next__") hT qb (kg qb hT PySem.F.entry_zip_next (w8 (I.ok.hd hc) D st p1 p2 (oS.imp (λh=>by simp;lia) λh=>by simp;lia) λg e kp he=>?_) (PySem.F.args_zip_next_1 _))));obtain⟨o,ho,oX⟩:=he;refine au (wpAny_isInstance (T:="StopIteration") (b:=true) ⟨o,ho,oX⟩ isSubtype_stop (aZ ⟨Z,?_⟩));exact I.qz (t':=s.toks) (fp:=[z,TI,TO,i1,i2]) (λb o hb e=>kp b o (λq=>hb (by simp[q])) (λq=>hb (by simp[q])) (λq=>hb (by simp[q])) (λq=>hb (by simp[q])) e) hf
 self:=λ_ _ _ _ _ st h=>wpAny_pyIter_zip st.zz h
inductive Fy(K:aa)(b1:Bool)(b2:Bool)(R:It->Hp->Prop)(vs:List V)(H1:Hp):Prop |mk (l1:_)(l2:_)(h0:vs=[.ref l1,.ref l2])(h1:(∃xs,cE b1 K H1 l1 xs))(h2:(∃ys,cE b2 K H1 l2 ys))(h3:R (pX K b1 b2 l1 l2) H1)
def Ay(K:aa)(b1 b2:Bool)(ta:TA):TI:=λO H R=>ta O H λvs H1=>Fy K b1 b2 R vs H1
theorem su(K:aa){X:Cx}(hK:X.K=K)(b1 b2:Bool){elts:List Expr}{kt:Nat}{jc:Pos}{a b:Expr}{ta:TA}{p pos:Pos}(hg:Gl X "zip")(hm:X.mg "zip"=none)(ha:PA X [a,b] ta)(hs:starEach [a,b] X.env=[(false,eval a X.env),(false,eval b X.env)]:=by rfl)(jH:starEach [b] X.env=[(false,eval b X.env)]:=by rfl): PI X (.Tuple elts kt jc) (.Call (.Name "zip" p) [a,b] [] pos) (Ay K b1 b2 ta):=by
 subst hK;intro ak s O H R I h;refine Call_ (jD I hg hm PyProof.Rows.boot_zip (vP (aF (ha pos ak s O H _ I h) λus s1 ⟨vs,H1,I1,r1,q1⟩=>?_) (by rw[hs,jH]) (by rw[jH];rfl)));obtain⟨l1,l2,e,⟨xs,h1⟩,⟨ys,h2⟩,q⟩:=q1;subst e;obtain⟨u1,u2,rfl,nK,nJ⟩:=vals2 r1;cases(show u1=Value.ref l1 from nK);cases(show u2=Value.ref l2 from nJ);obtain⟨tN,v1,p1⟩:=h1.get I1;obtain⟨gz,v2,p2⟩:=h2.get I1;have a1:l1<s1.heap.objs.size:=by cases b1<;>(obtain⟨o,e,_⟩:=p1;exact bj e)
 have a2:l2<s1.heap.objs.size:=by cases b2<;>(obtain⟨o,e,_⟩:=p2;exact bj e)
 refine w9 p1 p2 λg zg kp=>wpAny_pyIter_zip zg.zz ?_;refine⟨_,_,_,_,H1,Z,I1.kept (t':=s1.toks) kp,wx (zipApart_new a1 a2),zg,λc hc=>?_,q⟩;have hle:s1.heap.objs.size<=c:=by simp only[cz,fH,or_false]at hc;rcases hc with rfl|rfl|rfl|rfl|rfl<;>first|exact br _|exact Nat.le_add_right _ _
 exact I1.pw hle (I1.aE.fresh hle)
theorem cE.go{b:Bool}{K:aa}{H H':Hp}{a:Addr}{xs:List V}(s:aA H H')(h:cE b K H a xs):cE b K H' a xs:=by
 cases b
 ·exact bb.go s h
 ·exact aH.go s h
theorem uM{K:aa}{b1 b2:Bool}{l1 l2:Addr}{xs ys:List V}{bs:List Bool}{te:TE}{Q:VK}{D:Addr}{H H0:Hp}{n:Nat}(rest:St)(hn:n=2)(h1:cE b1 K H l1 xs)(h2:cE b2 K H l2 ys)(nw:Nw H H0 D (.lst [])) (hl:min xs.length ys.length=bs.length)(hz:bs.length<=1000) (hs:∀(i:Nat)(x y:V)(b:Bool)(H2:Hp)(Q':VK),xs[i]? =some x->ys[i]? =some y->bs[i]? =some b->aA H H2->(∀H3,aA H2 H3->Q' (.bl b) H3)->te (some x::some y::rest) H2 Q') (hq:∀H',aA H H'->H' D=some (.lst (bs.map V.bl))->Q (.ref D) H'):gL (pX K b1 b2 l1 l2) (pb K n (pd (ei 0) (pd (ei 1) uw))) fK te Q D (none::none::rest) H0:=by
 subst hn;have hD:=nw.no;refine lX bs.length (λi O H2=>aA H H2/\H2 D=some (.lst ((bs.take i).map V.bl))/\∃v v',O=v::v'::rest) ?_ ?_ ?_
 ·exact⟨nw.same,nw.at',none,none,Z⟩
 ·rintro i O H2 hi ⟨s2,d2,v,v',rfl⟩
  have hx:i<xs.length:=by lia
  have hy:i<ys.length:=by lia
  have ex:=eA hx;have ey:=eA hy;have eb:=eA hi;refine⟨⟨xs,ys,_,_,h1.go s2,h2.go s2,ex,ey⟩,λy' H3 AG=>?_⟩;obtain⟨T,x0,y0,rfl,k1,k2,n3⟩:=AG;have e1:=k1 _ (h1.go s2);have e2:=k2 _ (h2.go s2);rw[ex]at e1;rw[ey]at e2;cases e1;cases e2;refine⟨T,_,Z,bb.of n3.at',Z,_,_,Z,_,_,Z,Z,?_⟩;refine yes (bU ?_);refine hs i _ _ _ _ _ ex ey eb (s2.trans n3.same) λH4 s4=>?_;refine⟨_,s4 _ _ (n3.same _ _ d2),?_,bs.length-(i+1),aV,Z,aV,λb o e=>?_,?_,_,_,Z⟩
  ·rw[bz,j9]
   have:(1000:Nat)<sizeLine:=by decide
   lia
  ·rw[bo (eL e hD)];exact s4 b o (n3.same b o (s2 b o e))
  ·rw[bO,List.take_succ,eb,List.map_append];rfl
 ·rintro O H2 ⟨s2,d2,v,v',rfl⟩
  refine⟨⟨xs,ys,h1.go s2,h2.go s2,aV⟩,hq H2 s2 ?_⟩;rw[d2,vT]
theorem cM.there{P:af}{w:World}{H:Hp}{h:Heap}{a:Addr}{o:HO}(x:cM P w H h a o):∃ob,h.get? a=some ob:=by induction o with |lst xs=>obtain⟨_,_,_,_,e⟩:=x;exact⟨_,e⟩ |tup xs=>obtain⟨_,_,_,ob,e,_⟩:=x;exact⟨ob,e⟩ |dK bE=>obtain⟨_,_,_,_,ob,_,_,e,_⟩:=x;exact⟨ob,e⟩ |dT bE=>obtain⟨_,_,_,_,ob,_,_,e,_⟩:=x;exact⟨ob,e⟩ |set S n=>obtain⟨ob,_,_,_,e,_⟩:=x;exact⟨ob,e⟩ |ins C dx fs=>obtain⟨_,_,_,e,_⟩:=x;exact⟨_,e⟩ |own y=>exact x |xd fs=>obtain⟨_,⟨ob,_,_,e,_⟩,_⟩:=x;exact⟨ob,e⟩ |kS lo hi=>obtain⟨_,_,_,e⟩:=x;exact⟨_,e⟩ |eQ ob u=>exact⟨_,x.1⟩ |gp ps=>exact⟨_,x⟩ |met f y=>exact⟨_,x⟩ |ext φ=>exact x.2.1
structure Fl(P:af)(w:World)(outer:List Env)(H:Hp)(h₁:Heap)(ex:Addr)(H':Hp)(B h:Heap):Prop where
 un:Un (bV outer) [] H H' h₁ h
 aE:bH P w H' h
 k1:∀b o,h₁.get? b=some o->H b=none->b∉bV outer->B.get? b=some o
 k2:∀b o,H' b=some o->∃ob,B.get? b=some ob
 k3:∀b o,h₁.get? b=some o->b∉bV outer->∃ob,B.get? b=some ob
 fr:∀b∈bV outer,H' b=none
 nw:h₁.get? ex=none
 ne:H' ex=none
theorem Fl.step{P:af}{w:World}{outer:List Env}{H H':Hp}{h₁ B h h':Heap}{ex:Addr}{ao:Heap}(F:Fl P w outer H h₁ ex H' B h)(st:B.StaysIn h)(fL:B.StaysIn h')(up:h.UpToSlots h')(ff:h.FunFrames ao outer):Fl P w outer H h₁ ex H' B h':=by
 have slot:∀b o,h₁.get? b=some o->H b=none->b∈bV outer->∃sl,h'.get? b=some {o with slots:=sl}:=λb o e n hb=>by obtain⟨sl,e1⟩:=F.un.slot b o e n hb (by simp);obtain⟨_,o2,e2,hd⟩:=ff.mem hb;rw[e1]at e2;cases e2;obtain⟨mS,e3⟩:=up b _ e1 (λvs=>hd vs);exact⟨mS,e3⟩
 refine⟨⟨λb o e n hb _=>fL b o (F.k1 b o e n hb),λb o e n hb _=>slot b o e n hb,F.un.free,λb o e hx=>?_,F.un.dQ,F.un.dI,F.un.dR⟩,λb u e=>?_,F.k1,F.k2,F.k3,F.fr,F.nw,F.ne⟩
 ·by_cases hb:b∈bV outer
  ·obtain⟨_,o2,e2,hd⟩:=ff.mem hb
   obtain⟨sl,e3⟩:=up b o2 e2 hd;exact⟨_,e3⟩
  ·obtain⟨ob,e1⟩:=F.k3 b o e hb
   exact⟨ob,fL b ob e1⟩
 ·refine(F.aE b u e).fh (λc v hc q=>?_) (λ_ q=>q) λ_ _ q=>q
  have Ax:∃ob,B.get? c=some ob:=by
   rcases hc with z|z
   ·rw[z];exact F.k2 b u e
   ·exact F.k2 c _ z
  obtain⟨ob,e1⟩:=Ax;have e2:=st c ob e1;rw[q]at e2;cases e2;exact fL c _ e1
section
variable {P:af}{w:World}{K:aa}{mg:aJ}{ao:Heap}{N:List Str}{qual:Str}{scope:Scope}{f:Addr}{cd:Value}{A:ai}{outer:List Env}{s:ae}{H:Hp}{E:XK}{ak:List (Addr×Obj)}{O:St}{H1:Hp}{s1:ae}{h2:Heap}{ex:Addr}{cls:Value}{vs:List Value}
end
structure Exc(K:aa)(mg:aJ)(x:Str)(C:Addr)(eW:List Value)(newId:String):Prop where
 at':mg x=some (.ref C)
 ok:PySem.W.excIn K C eW newId=true
theorem Exc.own{K:aa}{mg:aJ}{x:Str}{C:Addr}{eW:List Value}{newId:String}{h:Heap}(e:Exc K mg x C eW newId)(X:K.In h):OwnCls x C eW newId mg h:=by
 refine⟨e.at',?_⟩;have q:=e.ok;unfold PySem.W.excIn at q;split at q
 ·rename_i dd cd sl ho
  split at q
  ·rename_i D2 bl a0 a1 a2 a3 nn a5 hm hs
   simp only[bP,cp,Bool.not_eq_true']at q;obtain⟨⟨⟨⟨⟨r1,r2⟩,uf⟩,ht⟩,aE⟩,lG⟩:=q;subst r1 r2;obtain⟨c1,c2,c3,c4,c5,c6,c7,c8,c9,eV,Gx⟩:=cd;dsimp only at hm uf aE lG;subst hm uf;obtain⟨l⟩:=sl;simp only at hs;subst hs;exact⟨bl,c4,c1,c5,c2,c6,c7,c8,c9,eV,dd,a0,a1,a2,a3,a5,_,X _ _ ho,.of_isNs (PySem.W.isNs_of_in X aE),PySem.W.nsMap_none_of_in X aE lG,PySem.W.tail_of_in X ht⟩
  ·cases q
 ·cases q
section
variable {X:Cx}{x:Str}{C:Addr}{eW:List Value}{newId oE B:String}{e:Expr}{t:TA}{np bA pos:Pos}
def wL(E:XK)(cls:Value)(t:TA):TS:=λ_ O H=>t O H λvs H1=>vs.length<=sizeLine/\E cls none H1
theorem sj{E:XK}(hx:∀ak O H s h2 ex vs,Inv X ak O H s->Heap.MadeExcOf s.heap h2 ex (.ref C) vs->E (.ref C) none H->X.xe (.ref ex) {s with heap:=h2})(EC:Exc X.K X.mg x C eW newId)(FB:ExcBaseFacts B newId oE eW)(hh:X.A.handled=none)(hg:Gl X x)(ha:PA X [e] t) (he:starEach [e] X.env=[(false,eval e X.env)]:=by rfl)(hd:(x==("__debug__":Str))=false:=by decide): PS X (.Raise (some (.Call (.Name x np) [e] [] bA)) none pos) (wL E (.ref C) t):=by intro ak s O H D I h;obtain⟨tl,Nn,nm,q,bs,hdct,sn,sub,ab,col,dd,k0,k1,k2,k3,k5,mN,hC,hN,lG,T⟩:=(EC.own I.ok.mod.fu).obj;refine wpAny_Raise_call_subT (C:=C) (nm:=nm) (q:=q) (N:=Nn) (bs:=bs) (bm:=tl) (hdct:=hdct) (sn:=sn) (sub:=sub) (ab:=ab) (col:=col) (dd:=dd) (k0:=k0) (k1:=k1) (k2:=k2) (k3:=k3) (k5:=k5) FB (mN:=mN) (T.hasType FB.hasBase) hh (by rw[he];rfl) lG (gw I hg EC.at' ⟨Z,?_⟩ hd);have hA:=ha bA ak s O H _ I h;rw[he]at hA⊢;refine Calls.evalArgs_plain (aF hA λus s2 ⟨vs,H1,I1,r1,z,w1⟩=>⟨Z,by rw[<-r1.length];exact z,I1.bk _ _ hC,hN.keeps I1.bk,T.keeps I1.bk,λh' ex hm=>hx ak O H1 s2 h' ex us I1 hm w1⟩)
end
section
variable {M:Model}{A:ai}{Ex:Value->ae->Prop}
theorem Dp{h:Heap}{g:Array GenState}{d:Drawn}{tk:Nat}{os:OsState}{e:Addr}{oe:Obj}{Q:Bool->ae->Prop}{C D N N':Addr}{nm sP q q':Str}{bs uY bm pN:List Value}{hdct ug:Bool}{sn r0:List Str}{sub qI:List Value}{ab vk:Bool}{col uN:Option Bool}{dd uJ:Option Addr}{k0 k1 k2 k3 k5 j0 j1 j2 j3 j5:Option Value}{newId zJ:String} (hC:h.get? C=some (excClassObj nm q C N bs bm hdct sn sub ab col dd k0 k1 k2 k3 k5 newId))(hD:h.get? D=some (excClassObj sP q' D N' uY pN ug r0 qI vk uN uJ j0 j1 j2 j3 j5 zJ)) (he:h.get? e=some oe)(jN:oe.cls= .ref C)(hb:pN.contains (.type "BaseException")=true)(hs:(Value.ref C::bm).contains (.ref D)=true) (hq:Q true ⟨h,g,d,tk,os⟩):wpAny M A (excMatches (.ref e) (.ref D)) Q Ex ⟨h,g,d,tk,os⟩:=by
 have BB:(Value.ref D::pN).contains (.type "BaseException")=true:=by rw[List.contains_cons,hb,Bool.or_true]
 have f:=tc_notTuple;unfold excMatches
 repeat (first|(with_reducible refine wpAny_loadPart_at he ?_;rw[jN])|with_reducible refine wpAny_loadPart_at hD ?_|(with_reducible refine wpAny_isSubtype_exc hD ?_;rw[BB])|(with_reducible refine wpAny_isSubtype_exc hC ?_;rw[hs])|with_reducible refine wpAny_loadPart_at hC ?_|wp_step)
 exact hq
end
section
variable {X:Cx}{k:Nat}{x:Str}{p pos:Pos}{e:Expr}{es:List Expr}{t:TA}{sp:Sp}
end
abbrev Cx.hand(X:Cx)(ex:Addr):Cx:={X with A:=X.A.mark (some (.ref ex)),calm:=false,xe:=λ_ _=>False}
section
variable {X:Cx}{ak:List (Addr×Obj)}{O:St}{H:Hp}{s:ae}
theorem Inv.hand(I:Inv X ak O H s)(ex:Addr):Inv (X.hand ex) ak O H s:=⟨⟨I.ok.mod,I.ok.kind,I.ok.glob,I.ok.blt,I.ok.above,I.ok.inj,I.ok.has,I.ok.gH,λh=>(cB h).elim,I.ok.frames,I.ok.gS,I.ok.jT,I.ok.bs,I.ok.dJ,I.ok.gv,I.ok.gF,I.ok.cY,I.ok.eR⟩,I.os,I.bare,I.ao,I.loc,I.cell,I.free,I.da,I.pin,I.aE,I.len⟩
theorem Inv.back{ex:Addr}(ok:X.Ok)(I:Inv (X.hand ex) ak O H s):Inv X ak O H s:=⟨ok,I.os,I.bare,I.ao,I.loc,I.cell,I.free,I.da,I.pin,I.aE,I.len⟩
theorem wm{M:Model}{A:ai}{E:Value->ae->Prop}{i:Nat}{x:Str}{v:V}{pos:Pos}{Q:Unit->ae->Prop}(I:Inv X ak O H s)(hN:X.N.Nodup)(hi:X.N[i]? =some x)(hk:X.env.kindOf x=some .local)(hs:X.env.scope.names.lookup x=some .local) (hv:O[i]? =some (some v))(h:∀s',Inv X ak (O.set i none) H s'->Q () s'):wpAny M A (unbindBehindTheSuite X.env x pos) Q E s:=by
 obtain⟨m,hn,hl⟩:=id I.loc;have jN:(X.env.scope.kind== .class||(X.env.scope.kind== .module&&X.env.locals !=X.env.globals))=false:=by rw[I.ok.kind];rfl
 have lJ:i<O.length:=by rw[I.len];exact(gh.mp hi).1
 have eU:=I.eU;obtain⟨u,r,look⟩:=hl i x v hi hv (.inl hs);have hm:m x=some u:=by
  rcases look with⟨_,e⟩|⟨k,_⟩
  ·exact e
  ·rcases k with k|k<;>(rw[hk]at k;cases k)
 unfold unbindBehindTheSuite;refine mw (wpAny_unbindName_local hk hn hm jN λh' u' oM eN=>?_);obtain⟨oL,_,_,u7,_⟩:=id hn;have tr:bH X.prog X.w H h':=λb ob e=>by
  refine(I.aE b ob e).fh (λc w' hc q=>(eN.2 c ?_).trans q) (λ_ q=>q) λ_ _ q=>q;rintro rfl;rcases hc with rfl|hc
  ·rw[I.free]at e;cases e
  ·rw[I.free]at hc;cases hc
 have lt:∀b o,X.s₀.heap.get? b=some o->b≠X.env.locals:=λb o e=>cy (cZ (bj e) I.ok.above);refine h _ ⟨I.ok,I.os,I.bare,⟨λb o e n hb hx=>(eN.2 b (lt b o e)).trans (I.ao.keep b o e n hb hx),λb o e n hb hx=>?_,I.ao.free,λb o e hx=>?_,I.ao.dQ,I.ao.dI,I.ao.dR⟩,⟨_,oM,λj y v' e1 e2 e3=>?_⟩,λy c e=>?_,I.free,I.da,λp hp=>?_,tr,by simpa using I.len⟩
 ·obtain⟨sl,e1⟩:=I.ao.slot b o e n hb hx
  exact⟨sl,(eN.2 b (lt b o e)).trans e1⟩
 ·obtain⟨o',e1⟩:=I.ao.there b o e hx
  exact⟨o',(eN.2 b (lt b o e)).trans e1⟩
 ·by_cases hj:j=i
  ·subst hj
   rw[ql lJ]at e2;cases e2
  ·rw[vW (dN hj)]at e2
   obtain⟨u2,r2,q⟩:=hl j y v' e1 e2 e3;refine⟨u2,r2,?_⟩;rcases q with⟨k,e⟩|⟨k,c,e,z⟩
   ·have:y≠x:=λe=>hj (oa hN e1 (e▸hi))
    exact .inl ⟨k,by simp[this,e]⟩
   ·exact .inr ⟨k,c,e,z.sameBut eN (eU y c e)⟩
 ·obtain⟨w',z⟩:=I.cell y c e
  exact⟨w',z.sameBut eN (eU y c e)⟩
 ·obtain⟨e,n,ne,nf,d⟩:=I.pin p hp
  exact⟨(eN.2 p.1 ne).trans e,n,ne,nf,d⟩
end
def k8(X:Cx)(st:List Stmt)(t:TS):Prop:=∀(s:ae)(O:St)(H:Hp)(D:Ends),Inv X [] O H s->t D O H->wpAny (model X.prog X.w) X.A (execs st X.env) (SP X [] D) X.xe s
def vp(X:Cx)(st:Stmt)(t:TS):Prop:=∀(s:ae)(O:St)(H:Hp)(D:Ends),Inv X [] O H s->t D O H->wpAny (model X.prog X.w) X.A (exec st X.env) (SP X [] D) X.xe s
theorem k8.one{X:Cx}{st:Stmt}{t:TS}(h:vp X st t):k8 X [st] t:=by intro s O H D I q;refine wpAny_execs_cons (aF (h s O H D I q) λf s1 q=>?_);cases f with |next=>exact kf q |ret v=>exact q |brk=>exact q |cont=>exact q
theorem Inv.E6{X:Cx}{ak:List (Addr×Obj)}{O:St}{H:Hp}{s:ae}(I:Inv X ak O H s):Inv X [] O H s:=⟨I.ok,I.os,I.bare,I.ao,I.loc,I.cell,I.free,I.da,λp hp=>I.pin p (vU _ (by simpa using hp)),I.aE,I.len⟩
theorem CP{CX:dn}{P:af}{w:World}{K:aa}{mg:aJ}{ao:Heap}{k:Nat}{f:Addr}{name qual:Str}{params:Arguments}{body:List Stmt}{scope:Scope}{dV kV doc pm ax ct oc:Value}{an od:Option Addr} {bZ:Array (Option Value)}{N ps:List Str}{sp:Sp}(lk:K.lookup f=some ⟨oc,od,.func (PySem.W.fnOf name qual params body scope dV kV doc pm an ax ct),bZ⟩)(cb:PySem.W.codeIn K ax qual=true)(S:bw N ps scope) (len:∀vs H Q E,sp vs H Q E->vs.length=ps.length) (cq:∀(A:ai)(outer:List Env)(s:ae)(H:Hp)(vs:List V)(Q:VK)(E:XK),bq k (A.deeper (envOfC qual scope s.heap.objs.size f ax))->sp vs H Q E->∃t,k8 (cw CX P w K mg ao N qual scope f ax A outer s H E) body t/\t {nx:=λ_ H'=>Q .aK H',rt:=Q} (start N vs) H): cF P w K mg ao CX (k+1) f (PySem.W.fnOf name qual params body scope dV kV doc pm an ax ct) ps sp:=by
 refine⟨len,λA outer s H args us vs Q E hr e0 hb r cm=>?_⟩;have hl:=len _ _ _ _ cm;have KX:K.In s.heap:=e0.mod.fu.keeps λb o e=>(e0.bs b o e).1;have lim:s.heap.NoLimit:=e0.mod.nolimit.keeps λb o e=>(e0.bs b o e).1;have gB:∀y∈ps.zip us,scope.names.lookup y.1=some .local\/(scope.names.lookup y.1=some .cell/\((cellsFrom (s.heap.objs.size+1) scope.names []).lookup y.1).isSome=true):=λ⟨n,v⟩ hy=>by
  rcases S.par n (ko hy).1 with q|q
  ·exact .inl q
  ·exact .inr ⟨q,qa _ _ _ (.inl q)⟩
 refine vJ hr.depth (KX _ _ lk) Z S.co S.gen Z (vL KX cb) (hb _ _ _ _ ?_);refine vG S.kind gB λenv he s1 x=>?_;subst he;refine⟨lim.keeps x.toInCall.keep,codeAny_func ?_⟩;obtain⟨t,ht,hq⟩:=cq A outer s H vs Q E (hr.deeper _) cm;have I:Inv (cw CX P w K mg ao N qual scope f ax A outer s H E) [] (start N vs) H s1:=oz S hr.hd e0 hl r x;refine dr (ht s1 (start N vs) H _ I hq) (λfl s' hs=>?_) λe s' hs=>hs;have fin:∀{σ':St}{H':Hp}{v:V}{u:Value},Inv (cw CX P w K mg ao N qual scope f ax A outer s H E) [] σ' H' s'->RelV v u->Q v H'->CE outer P w H s Q u s':=λ{σ' H' v u} J rv q=>⟨v,H',J.os,J.bare,J.ao,J.aE,rv,q⟩;cases fl with |ret u=>obtain⟨v,σ',H',J,rv,q⟩:=hs;exact fin J rv q |next=>obtain⟨σ',H',J,q⟩:=hs;exact fin (v:=V.aK) (u:=Value.none) J Z q |brk=>obtain⟨_,_,_,q⟩:=hs;exact False.elim q |cont=>obtain⟨_,_,_,q⟩:=hs;exact False.elim q
def ExcAt(ex:Addr)(cls:Value)(h:Heap):Prop:=∃o,h.get? ex=some o/\o.cls=cls
def takes(K:aa)(C D:Addr):Prop:=PySem.W.mroIn K C (.ref D)=some true
section
variable {X:Cx}{i:Nat}{n y:Str}{Dc:Addr}{pM:List Value}{newD:String}{body kI:List Stmt}{b0:Stmt}{np lD pos:Pos}{tb:XK->TS}{th:TS}{Cs:Addr->Prop}
end
end L2
namespace L2
open PySem PySem.Spec PyProof.Rows PySem.W Builtin.Getset_descriptor
section
variable {prog:af}{w:World}{A:ai}{E:Value->ae->Prop}{h:Heap}{g:Array GenState}{d:Drawn}{t:Nat}{os:OsState}{K:Frag}{x C:Addr}{o:Obj}
theorem uE{M:Model}(h1:h.get? x=some o)(h2:o.cls= .ref C):Looks M h (typeOf (.ref x)) (.ref C):=h2▸(Looks.ld h1).andThen .now
structure fb(K:Frag)(C:Addr):Prop where
 ga:findIn K (.ref C) "__getattribute__"=some (some (.builtin "BaseException.__getattribute__"))
 gx:findIn K (.ref C) "__getattr__"=some none
 cl:findIn K (.ref C) "__class__"=some (some (.builtin "object.__class__"))
 gt:specialIn K (.builtin "object.__class__") "__get__"=some (some (.builtin "getset_descriptor.__get__"))
 tk:takesIn K (.builtin "object.__class__")=some true
 ob:mroIn K C (.type "object")=some true
 be:mroIn K C (.type "BaseException")=some true
 is:hasDictIn K C=true
theorem A7{M:Model}(X:K.In h)(k:fb K C):Looks M h (Builtin.ObjectAttr.find (.ref x) (.ref C) "__class__") (.bind (.builtin "getset_descriptor.__get__") (.builtin "object.__class__")):=by have L1:=looks_findIn (M:=M) X k.cl;have L2:Looks M h (Builtin.ObjectAttr.getOf (some (.builtin "object.__class__"))) (some (.builtin "getset_descriptor.__get__")):=looks_specialIn X k.gt;have L3:=looks_takesIn (M:=M) X k.tk;unfold Builtin.ObjectAttr.find;refine L1.andThen (L2.andThen ?_);have L4:Looks M h (Builtin.ObjectAttr.dataDescriptor? (some (.builtin "object.__class__")) (some (.builtin "getset_descriptor.__get__"))) (some (.builtin "getset_descriptor.__get__",.builtin "object.__class__")):=L3.andThen .now;exact L4.andThen (Looks.tag .now)
theorem Cv{M:Model}{sT:Value}{Q:Unit->ae->Prop}(X:K.In h)(k:fb K C)(L0:Looks M h (typeOf (.ref x)) (.ref C))(hq:Q () ⟨h,g,d,t,os⟩): wpAny M A (checkBuiltinCall "BaseException.__getattribute__" ⟨[.ref x,sT],[]⟩) Q E ⟨h,g,d,t,os⟩:=by
 have hk:builtinKind "BaseException.__getattribute__"=some .slot:=by decide+kernel
 have cm:splitId "BaseException.__getattribute__"=some ("BaseException","__getattribute__"):=by decide+kernel
 have ha:=PySem.F.args_bexc_ga (.ref x) sT;have L1:=looks_mroIn (M:=M) X k.be;simp only[checkBuiltinCall,hk,cm];refine au ?_;unfold isInstance;refine au (L0.at (L1.at ?_))
 repeat (first|assumption|wp_step)
theorem get_cls{R:Result->ae->Prop}{tp:Value}(X:K.In h)(k:fb K C)(L0:Looks (model prog w) h (typeOf (.ref x)) (.ref C))(hq:R (.ok (.ret (.ref C))) ⟨h,g,d,t,os⟩): codeAny (model prog w) A (.call (.builtin "getset_descriptor.__get__") ⟨[.builtin "object.__class__",.ref x,tp],[]⟩) R ⟨h,g,d,t,os⟩:=by
 have L1:=looks_mroIn (M:=model prog w) X k.ob;refine codeAny_call_builtin KF.slot_gs.plain KF.entry_gs (KF.slot_gs.check _ _ _ _ _ _ _ _ KF.type_class (KF.args_gs _ _ _) ?_);unfold Builtin.«getset_descriptor.__get__»descrGet;rw[dga_obj];refine au (aZ ?_);unfold descrGetter descrCheckInstance descrNameAndClass isInstance;simp only[KF.owner_class];repeat lk
 refine⟨Code.quiet_builtin _ bC,codeAny_builtin KF.entry_class ?_⟩;unfold Builtin.«object.__class__»shownTypeOf;repeat lk
 exact hq
theorem Cw{tk:Tok}{Q:Fin->ae->Prop}(X:K.In h)(k:fb K C)(L0:Looks (model prog w) h (typeOf (.ref x)) (.ref C)) (hq:Q (.done (.ret (.ref C))) ⟨h,g,d,t,os⟩):wpAny (model prog w) A (Builtin.«object.__getattribute__» ⟨[.ref x,.str "__class__" tk],[]⟩) Q E ⟨h,g,d,t,os⟩:=by have L1:=A7 (M:=model prog w) (x:=x) X k;refine au (aZ (au (aZ (au (L0.at (au (L1.at ?_)))))));show wpAny _ _ (Builtin.ObjectAttr.bindTo _ _ (.ref x) (.ref C)) _ _ _;unfold Builtin.ObjectAttr.bindTo;show wpAny _ _ (holding [_] (call (.builtin "getset_descriptor.__get__") [.builtin "object.__class__",.ref x,.ref C])>>=_) _ _ _;exact au (eu (wpAny_call (get_cls X k L0 (aZ hq))))
theorem DK{Q:Option Value->ae->Prop}(X:K.In h)(k:fb K C)(L0:Looks (model prog w) h (typeOf (.ref x)) (.ref C)) (hq:Q (some (.ref C)) ⟨h,g,d,t+1,os⟩):wpAny (model prog w) A (getAttr? (.ref x) "__class__") Q E ⟨h,g,d,t,os⟩:=by
 have L1:=looks_findIn (M:=model prog w) X k.ga;have L2:=looks_findIn (M:=model prog w) X k.gx;have f3:=PySem.F.excAttr_ValueError.ga.bind (.ref x);have AL:(Value.builtin "BaseException.__getattribute__"==Value.builtin "object.__getattribute__")=false:=by decide+kernel
 unfold getAttr? getAttrBy? getAttrBy;refine au (wpAny_mkText (au (wpAny_attempt (eu (au (L0.at (au (L1.at ?_))))))));show wpAny _ _ (if(onTheHeap (Value.ref C)&&Value.builtin "BaseException.__getattribute__"==Value.builtin "object.__getattribute__")=true then _ else _) _ _ _;rw[AL,Bool.and_false,bf aw];unfold getAttrByItsOwn hookBefore;refine au ?_;show wpAny _ _ (typeLookup (.ref C) "__getattr__") _ _ _;refine L2.at (au (wpAny_attempt (eu ?_)));unfold callGetattribute;show wpAny _ _ (boundAndCalled _ _ _) _ _ _;unfold boundAndCalled;rw[f3];refine au (aZ (wpAny_call ?_));refine codeAny_call_builtin PySem.F.excAttr_ValueError.ga.plain PySem.F.entry_bexc_ga (Cv X k L0 (Cw X k L0 ?_));exact handed_on Z (aZ hq)
theorem tG(k:fb K C):KitX K (.ref x) (.ref C) (ExcAt x (.ref C)) where
 ty:=λM h _ p=>by obtain⟨o,h1,h2⟩:=p;exact uE h1 h2
 it:=λ_ _ X _=>by
  obtain⟨cd,hc,_⟩:=any_some k.is;unfold clsIn at hc;split at hc
  ·rename_i c1 d1 DP xu ho
   intro A' Q' E' s' kk q;unfold isType loadHead;exact au (wpAny_loadPart (kk _ _ (X _ _ ho)) (aZ q))
  ·cases hc
 ne:=λh tp dd its n sl X AR=>by
  obtain⟨cd,hc,_⟩:=any_some k.is;refine ku.mpr λq=>?_;have e:C=tp:=Value.ref.inj (bP.mp q);subst e;unfold clsIn at hc;split at hc
  ·rename_i c1 d1 DP xu ho
   cases(X _ _ ho).symm.trans AR
  ·cases hc
 ca:=λ{prog w A E Q s} X p q=>by obtain⟨o,h1,h2⟩:=p;obtain⟨h0,g0,d0,t0,G2⟩:=s;exact DK X k (uE h1 h2) q
end
end L2
namespace L2
open PySem PySem.Spec PyProof.Rows
def DL:V->Option Value | .ref D=>some (.ref D) | .ty n=>some (.type n) |_=>none
theorem qw:∀{Ds:List Addr}{us:List Value},Vals (Ds.map V.ref) us->us=Ds.map Value.ref |[],_,.nil=>rfl |n::r,_,.cons q t=>by cases(show _=Value.ref n from q);rw[qw t];rfl
section
variable {X:Cx}
end
theorem E2:bootBuiltins "ValueError"=some (.type "ValueError"):=by kernel_rfl
abbrev ig:List Value:=[.type "ValueError",.type "Exception",.type "BaseException",.type "object"]
abbrev iJ:String:="ValueError.__new__"
theorem FA.BH{P:af}{w:World}{K:aa}{mg:aJ}{ao:Heap}{x:Str}{st:Stmt}{N ps:List Str}{k:Nat}{sp:Sp}(F:FA K mg x st)(S:bw N ps (aQ st))(len:∀vs H Q E,sp vs H Q E->vs.length=ps.length) (hb:∀(kV doc pm:Value)(an:Option Addr)(ax ct:Value)(us:List Value),us.length=ps.length->bindArgs (PySem.W.fnOf x x (dA st) (bN st) (aQ st) .none kV doc pm an ax ct) ⟨us,[]⟩=pure (ps.zip us)) (cq:∀(f:Addr)(ax:Value)(A:ai)(outer:List Env)(s:ae)(H:Hp)(vs:List V)(Q:VK)(E:XK),bq k (A.deeper (envOfC x (aQ st) s.heap.objs.size f ax))->sp vs H Q E->∃t,k8 (cw cN P w K mg ao N x (aQ st) f ax A outer s H E) (bN st) t/\t {nx:=λ_ H'=>Q .aK H',rt:=Q} (start N vs) H):aW P w K mg ao x (k+1) sp:=by obtain⟨f,fd,hm,F⟩:=F.ex;have oY:=F.binds hb;have kp:=F.kp;obtain⟨oc,od,kV,doc,pm,an,ax,ct,bZ,rfl,lk,cb⟩:=F.ex;exact⟨f,_,ps,CP lk cb S len λA outer s H vs Q E hr cm=>cq f ax A outer s H vs Q E hr cm,hm,kp,oY⟩
end L2
namespace Ar
end Ar
namespace Rt
open Rat
section
variable {n m:Nat} {r s:Rat}
end
end Rt
namespace L2
open PySem PySem.Spec PyProof.Rows
def iV(H H':Hp):Prop:=∀b o,(∀xs,o≠ .lst xs)->H b=some o->H' b=some o
section
variable {K:aa} {H H' H2:Hp}
theorem iV.we{D:Addr}{xs ys:List V}(h:H D=some (.lst xs)):iV H (upd H D (.lst ys)):=λb o n e=>by rw[bo (zK e h (n xs))];exact e
theorem bb.t{a:Addr}{xs:List V}(s:iV H H')(h:bb K H a xs):bb K H' a xs:=h.imp (λr=>r.imp (s _ _ λ_ z=>nomatch z) λ⟨o,e⟩=>⟨o,s _ _ (λ_ z=>nomatch z) e⟩) id
mutual
def jv:ah->Bool | .list _=>false | .dict _=>false | .tuple ds=>eK ds | .none=>true | .bool _=>true | .int _=>true | .str _=>true
def eK:List ah->Bool |[]=>true |d::ds=>jv d&&eK ds
end
theorem ju:∀{ds:List ah},eK ds=true↔∀d∈ds,jv d=true
 |[]=>⟨λ_ _ h=>(nomatch h),λ_=>by simp[eK]⟩ |d::ds=>by
  rw[eK,cp,ju (ds:=ds)];constructor
  ·rintro⟨a,b⟩ x hx
   rcases cz.mp hx with rfl|hx
   ·exact a
   ·exact b x hx
  ·intro h
   exact⟨h d (.head _),λx hx=>h x (.tail _ hx)⟩
mutual
theorem RD.t(s:iV H H'):∀{x:V}(d:ah),jv d=true->RD K H x d->RD K H' x d |x,.none,_,h=>by simpa[RD]using h |x,.bool b,_,h=>by simpa[RD]using h |x,.int i,_,h=>by simpa[RD]using h |x,.str y,_,h=>by simpa[RD]using h |x,.list ds,n,h=>by simp[jv]at n |x,.tuple ds,n,h=>by rw[RD]at h⊢;obtain⟨a,xs,e,h1,h2⟩:=h;exact⟨a,xs,e,h1.t s,aG.t s ds (by simpa[jv]using n) h2⟩ |x,.dict _,_,h=>by simp[RD]at h
theorem aG.t (s:iV H H'):∀{xs:List V}(ds:List ah),eK ds=true->aG K H xs ds->aG K H' xs ds |xs,[],_,h=>by simpa[aG]using h |xs,d::ds,n,h=>by rw[aG]at h⊢;rw[eK,cp]at n;obtain⟨y,ys,e,h1,h2⟩:=h;exact⟨y,ys,e,RD.t s d n.1 h1,aG.t s ds n.2 h2⟩
end
theorem aG.hU:∀{xs:List V}{ns:List Int},aG K H xs (ns.map PyData.int)->xs=ns.map V.int |xs,[],h=>h.nil_inv |xs,n::ns,h=>by obtain⟨y,ys,rfl,h1,h2⟩:=h.cons_inv;rw[h1.int_inv,aG.hU h2];rfl
theorem DF{J:It}{xs:List V}{ds:List ah}{te:TE}{Q:VK}{D:Addr}{H0:Hp}(rest:St)(nw:Nw H H0 D (.lst []))(hl:xs.length=ds.length)(hz:xs.length<=1000)(hn:eK ds=true) (go:∀i x H2,xs[i]? =some x->aA H H2->J.go i H2/\∀y H3,J.gj i H2 y H3->H3=H2/\y=x)(stop:∀H2,aA H H2->J.stop xs.length H2) (hs:∀(i:Nat)(x:V)(d:ah)(H2:Hp)(Q':VK),xs[i]? =some x->ds[i]? =some d->aA H H2->(∀y H3,aA H2 H3->RD K H3 y d->Q' y H3)->te (some x::rest) H2 Q') (hq:∀H' ys,aA H H'->H' D=some (.lst ys)->aG K H' ys ds->Q (.ref D) H'):gL J (ei 0) fK te Q D (none::rest) H0:=by
 have hD:=nw.no;refine lX xs.length (λi O H2=>aA H H2/\(∃ys,H2 D=some (.lst ys)/\aG K H2 ys (ds.take i))/\∃v,O=v::rest) ?_ ?_ ?_
 ·exact⟨nw.same,⟨[],nw.at',fN⟩,none,Z⟩
 ·rintro i O H2 hi ⟨s2,⟨ys,d2,r2⟩,v,rfl⟩
  have lK:i<ds.length:=by rw[<-hl];exact hi
  have ex:=eA hi;have eb:=eA lK;obtain⟨g1,g2⟩:=go i _ H2 ex s2;refine⟨g1,λy H3 hy=>?_⟩;obtain⟨rfl,rfl⟩:=g2 y H3 hy;refine mK ?_;refine hs i _ _ _ _ ex eb s2 λz H4 s4 r4=>?_;have d4:=s4 _ _ d2;have len:=r2.length;rw[j9]at len;refine⟨ys,d4,?_,xs.length-(i+1),aV,Z,aV,λb o e=>?_,⟨ys++[z],bO,?_⟩,_,Z⟩
  ·have:(1000:Nat)<sizeLine:=by decide
   lia
  ·rw[bo (eL e hD)];exact s4 b o (s2 b o e)
  ·have t:iV H4 (upd H4 D (.lst (ys++[z]))):=.we d4
   rw[List.take_succ,eb];have n1:eK (ds.take i)=true:=ju.mpr λd hd=>ju.mp hn d (List.mem_of_mem_take hd);exact(aG.t t _ n1 (aG.mono s4 _ r2)).append (eD (RD.t t _ (ju.mp hn _ (mG lK)) r4) fN)
 ·rintro O H2 ⟨s2,⟨ys,d2,r2⟩,v,rfl⟩
  refine⟨stop H2 s2,hq H2 ys s2 d2 ?_⟩;rw[hl,vT]at r2;exact r2
theorem uL{a:Addr}{xs:List V}{ds:List ah}{te:TE}{Q:VK}{D:Addr}{H0:Hp}(rest:St)(hx:bb K H a xs)(nw:Nw H H0 D (.lst []))(hl:xs.length=ds.length)(hz:xs.length<=1000)(hn:eK ds=true) (hs:∀(i:Nat)(x:V)(d:ah)(H2:Hp)(Q':VK),xs[i]? =some x->ds[i]? =some d->aA H H2->(∀y H3,aA H2 H3->RD K H3 y d->Q' y H3)->te (some x::rest) H2 Q') (hq:∀H' ys,aA H H'->H' D=some (.lst ys)->aG K H' ys ds->Q (.ref D) H'):gL (mj K a) (ei 0) fK te Q D (none::rest) H0:=DF rest nw hl hz hn (λi x H2 e s=>⟨⟨xs,x,hx.go s,e⟩,λy H3 ⟨e3,y3⟩=>⟨e3,by have:=y3 _ (hx.go s);rw[e]at this;exact(cH this).symm⟩⟩) (λH2 s=>⟨xs,hx.go s,br _⟩) hs hq
end
section
variable {X:Cx}
end
end L2
set_option maxHeartbeats 1000000
namespace Lw
open PySem PySem.Spec PyProof.Rows L2
def vt(c m:Int):Prop:=0<=c/\0<=m/\m<2147483648
def dh(H:Hp)(p:Addr):Prop:=∃c m,H p=some (.lst [.int c,.int m])/\vt c m
structure ba(p:Addr)(H H':Hp):Prop where
 aS:dh H' p
 same:∀b o,b≠p->H b=some o->H' b=some o
theorem ba.refl{p:Addr}{H:Hp}(h:dh H p):ba p H H:=⟨h,λ_ _ _ e=>e⟩
theorem ba.trans{p:Addr}{H H1 H2:Hp}(a:ba p H H1)(b:ba p H1 H2):ba p H H2:=⟨b.aS,λc o n e=>b.same c o n (a.same c o n e)⟩
theorem ba.upd{p:Addr}{H:Hp}{c m:Int}(h:vt c m):ba p H (L2.upd H p (.lst [.int c,.int m])):=⟨⟨c,m,bO,h⟩,λb o n e=>by rw[bo n];exact e⟩
theorem ba.bL{p:Addr}{H H':Hp}(h:dh H p)(s:aA H H'):ba p H H':=by obtain⟨c,m,e,ok⟩:=h;exact⟨⟨c,m,s _ _ e,ok⟩,λb o _ e=>s b o e⟩
theorem qu{j:Int}(h0:0<=j)(h:j<=10^40):Wd j:=by
 have:j.natAbs<=10^40:=by lia
 exact Nat.lt_of_le_of_lt this bC
theorem dh.ne{H:Hp}{p:Addr}(h:dh H p):H p≠none:=by obtain⟨c,m,e,_⟩:=h;rw[e];exact λz=>nomatch z
theorem ba.sd{p:Addr}{H H':Hp}(b:ba p H H'):SD p H H':=λc o e=>fB.mpr ⟨(fB.mp e).1,b.same _ _ (fB.mp e).1 (fB.mp e).2⟩
theorem ba.xE{p:Addr}{H0 H H':Hp}(s:aA H0 H)(hp:H0 p=none)(b:ba p H H'):aA H0 H':=λc o e=>b.same c o (eL e hp) (s c o e)
section
variable {K:aa}
theorem pI{J:It}{te:TE}{Q:VK}{D p:Addr}{H H0:Hp}(n:Nat)(rest:L2.St)(nw:Nw H H0 D (.lst []))(bg:dh H p)(hn:n<=1000)(xv:Nat->V) (go:∀i H2,i<n->ba p H H2->J.go i H2/\∀y H3,J.gj i H2 y H3->H3=H2/\y=xv i)(stop:∀H2,ba p H H2->J.stop n H2)(Pz:Int->Prop) (hs:∀i H2 (Q':VK),i<n->ba p H H2->(∀z H3,Pz z->ba p H2 H3->Q' (.int z) H3)->te (some (xv i)::rest) H2 Q') (hq:∀H' (is:List Int),ba p H H'->H' D=some (.lst (is.map V.int))->is.length=n->(∀z∈is,Pz z)->Q (.ref D) H'):gL J (ei 0) fK te Q D (none::rest) H0:=by
 have uq:D≠p:=λe=>bg.ne (e▸nw.no);refine lX n (λi O H3=>ba p H H3/\(∃is:List Int,H3 D=some (.lst (is.map V.int))/\is.length=i/\∀z∈is,Pz z)/\∃v,O=v::rest) ?_ ?_ ?_
 ·exact⟨.bL bg nw.same,⟨[],nw.at',Z,λ_ h=>(fH h).elim⟩,none,Z⟩
 ·rintro i O H3 hi ⟨b3,⟨is,d3,li,pi⟩,v,rfl⟩
  obtain⟨g1,g2⟩:=go i H3 hi b3;refine⟨g1,λy H4 hy=>?_⟩;obtain⟨rfl,rfl⟩:=g2 y H4 hy;refine mK ?_;refine hs i _ _ hi b3 λz H5 pz b5=>?_;refine⟨_,b5.same _ _ uq d3,?_,n-(i+1),aV,Z,aV,?_,⟨is++[z],?_,?_,?_⟩,_,Z⟩
  ·rw[bz,li]
   have:(1000:Nat)<sizeLine:=by decide
   lia
  ·have vf:=b3.trans b5
   refine⟨?_,λb o n e=>?_⟩
   ·obtain⟨c,m,e,ok⟩:=vf.aS
    exact⟨c,m,by rw[bo uq.symm];exact e,ok⟩
   ·rw[bo (eL e nw.no)];exact vf.same b o n e
  ·rw[bO,List.map_append];rfl
  ·rw[fJ,li];rfl
  ·intro y hy
   rcases qj.mp hy with h|h
   ·exact pi y h
   ·rw[qf.mp h];exact pz
 ·rintro O H3 ⟨b3,⟨is,d3,li,pi⟩,v,rfl⟩
  exact⟨stop H3 b3,hq H3 is b3 d3 li pi⟩
theorem tP(ns:List Int){i:Int}(h0:0<=i)(h:i<ns.length):∃z,z∈ns/\fD (ns.map V.int) i=some (.int z):=by
 have hl:i.toNat<ns.length:=by omega
 exact⟨ns[i.toNat],mG hl,eX h0 (by rw[dD,eA hl];rfl)⟩
theorem jX{p:Addr}{H:Hp}{n:Nat}:∀(is:List Int),cV K p n H (is.map V.int) (is.map PyData.int) |[]=>.nil |i::r=>.cons (.int i) (jX r)
end
end Lw
namespace Ln
open PySem L2
end Ln
namespace L2
open PySem PySem.Spec PyProof.Rows
section
variable {prog:af}{w:World}{A:ai}{E:Value->ae->Prop}{s:ae}
end
section
variable {X:Cx}
end
theorem uT:∀{zs:List Str}{us:List Value},Vals (zs.map V.str) us->CarriedAll us (zs.map PyData.str) |[],_,.nil=>.nil |z::zs,_,.cons q r=>by obtain⟨t,rfl⟩:=(show∃t,_=Value.str z t from q);exact .cons (.str z t) (uT r)
section
variable {X:Cx}
end
section
variable {X:Cx}{ak:List (Addr×Obj)}{O:St}{H:Hp}{s:ae}
end
section
variable {X:Cx}
end
section
variable {prog:af}{w:World}{A:ai}{E:Value->ae->Prop}{s:ae}
end
theorem y6(K:aa){X:Cx}(hK:X.K=K){a:Expr}{ta:TE}(ha:PE X a ta)(he:∀whole,isTrue a X.env whole=(do let v<-whole;standAt a.pos;holding [v] (truthy v)):=by intro _;rfl): PT X a (λO H Q=>ta O H λx H'=>∃k,pR K x H' k/\Q k H'):=by subst hK;exact y4 ha he
section
variable {X:Cx}
open PyProof
end
end L2
namespace L2
open PySem PySem.Spec PyProof.Rows
section
variable {K:aa} {H H' H2:Hp}
end
section
variable {X:Cx} {tg:Expr}
end
structure MA(K:aa)(C:Addr)(m qual:Str)(st:Stmt):Prop where ex:∃f fd,Meth K C m f/\dM K m qual st f fd
def ir(P:af)(w:World)(K:aa)(mg:aJ)(ao:Heap)(C:Addr)(m:Str)(k:Nat)(sp:Sp):Prop:=∃f fd ps,cF P w K mg ao cN k f fd ps sp/\Meth K C m f/\Binds K fd ps []
structure CA(K:aa)(mg:aJ)(C:Addr)(x qual:Str)(st:Stmt):Prop where
 tf:mg x=some (.ref C)
 ex:∃f fd,Mk K C f/\dM K "__init__" qual st f fd
def mi(P:af)(w:World)(K:aa)(mg:aJ)(ao:Heap)(C:Addr)(x:Str)(k:Nat)(sp:Sp):Prop:=∃f fd ps,cF P w K mg ao cN k f fd ps sp/\Mk K C f/\Binds K fd ps []/\mg x=some (.ref C)
section
variable {P:af}{w:World}{K:aa}{mg:aJ}{ao:Heap}
theorem tq{C:Addr}{m qual:Str}{st:Stmt}{f:Addr}{oc:Value}{od an:Option Addr}{bZ:Array (Option Value)}{kV doc pm ax ct:Value} (a:PySem.W.findIn K (.ref C) m=some (some (.ref f)))(i:PySem.W.isFn K (.ref f)=true) (l:K.lookup f=some ⟨oc,od,.func (PySem.W.fnOf m qual (dA st) (bN st) (aQ st) .none kV doc pm an ax ct),bZ⟩) (c:PySem.W.codeIn K ax qual=true)(k:PySem.W.keepIn K (.ref f)=true):MA K C m qual st:=⟨f,_,⟨a,i,k⟩,pe l c k⟩
theorem uX{h:Heap}{C:Addr}{x qual:Str}{st:Stmt}{f:Addr}{oc:Value}{od an:Option Addr}{bZ:Array (Option Value)}{kV doc pm ax ct:Value}(X:K.In h)(G:h.Ns mainGlobals mg) (aC:PySem.W.nsIn K mainGlobals x=some (some (.ref C)))(mk:PySem.W.makesIn K C=true)(kc:PySem.W.keepIn K (.ref C)=true) (a:PySem.W.findIn K (.ref C) "__init__"=some (some (.ref f)))(i:PySem.W.isFn K (.ref f)=true) (l:K.lookup f=some ⟨oc,od,.func (PySem.W.fnOf "__init__" qual (dA st) (bN st) (aQ st) .none kV doc pm an ax ct),bZ⟩) (c:PySem.W.codeIn K ax qual=true)(k:PySem.W.keepIn K (.ref f)=true):CA K mg C x qual st:=⟨iZ X G aC,f,_,⟨mk,a,i,kc⟩,pe l c k⟩
theorem MA.has{C:Addr}{m qual:Str}{st:Stmt}{N ps:List Str}{k:Nat}{sp:Sp}(F:MA K C m qual st)(S:bw N ps (aQ st))(len:∀vs H Q E,sp vs H Q E->vs.length=ps.length) (hb:∀(kV doc pm:Value)(an:Option Addr)(ax ct:Value)(us:List Value),us.length=ps.length->bindArgs (PySem.W.fnOf m qual (dA st) (bN st) (aQ st) .none kV doc pm an ax ct) ⟨us,[]⟩=pure (ps.zip us)) (cq:∀(f:Addr)(ax:Value)(A:ai)(outer:List Env)(s:ae)(H:Hp)(vs:List V)(Q:VK)(E:XK),bq k (A.deeper (envOfC qual (aQ st) s.heap.objs.size f ax))->sp vs H Q E->∃t,bW (cw cN P w K mg ao N qual (aQ st) f ax A outer s H E).ft (bN st) t/\t {nx:=λ_ H'=>Q .aK H',rt:=Q} (start N vs) H):ir P w K mg ao C m (k+1) sp:=by obtain⟨f,fd,hm,F⟩:=F.ex;exact⟨f,fd,ps,F.ok S len λax A outer s H vs Q E=>cq f ax A outer s H vs Q E,hm,F.binds hb⟩
theorem CA.has{C:Addr}{x qual:Str}{st:Stmt}{N ps:List Str}{k:Nat}{sp:Sp}(F:CA K mg C x qual st)(S:bw N ps (aQ st))(len:∀vs H Q E,sp vs H Q E->vs.length=ps.length) (hb:∀(kV doc pm:Value)(an:Option Addr)(ax ct:Value)(us:List Value),us.length=ps.length->bindArgs (PySem.W.fnOf "__init__" qual (dA st) (bN st) (aQ st) .none kV doc pm an ax ct) ⟨us,[]⟩=pure (ps.zip us)) (cq:∀(f:Addr)(ax:Value)(A:ai)(outer:List Env)(s:ae)(H:Hp)(vs:List V)(Q:VK)(E:XK),bq k (A.deeper (envOfC qual (aQ st) s.heap.objs.size f ax))->sp vs H Q E->∃t,bW (cw cN P w K mg ao N qual (aQ st) f ax A outer s H E).ft (bN st) t/\t {nx:=λ_ H'=>Q .aK H',rt:=Q} (start N vs) H):mi P w K mg ao C x (k+1) sp:=by obtain⟨f,fd,hm,F'⟩:=F.ex;exact⟨f,fd,ps,F'.ok S len λax A outer s H vs Q E=>cq f ax A outer s H vs Q E,hm,F'.binds hb,F.tf⟩
end
section
variable {X:Cx}{k:Nat}{x m:Str}{C:Addr}{p pos apos:Pos}{o e:Expr}{es:List Expr}{t:TA}{ta:TE}{sp:Sp}
inductive vw(C:Addr)(m:Str)(sp:Sp)(t:TA)(O:St)(Q:VK)(x:V)(H1:Hp):Prop |mk (a:_)(dx:_)(fs:_)(h0:x= .ref a)(h1:H1 a=some (.ins C dx fs))(h2:fs.lookup m=none)(h3:t O H1 λvs H2=>sp (x::vs) H2 Q E0)
def qE(C:Addr)(m:Str)(sp:Sp)(ta:TE)(t:TA):TE:=λO H Q=>ta O H λx H1=>vw C m sp t O Q x H1
theorem t6{O:St}{Q:VK}{x:V}{H1:Hp}:ml C m sp [] E0 t O Q x H1=vw C m sp t O Q x H1:=by
 have e1:(λ(vs:List V) H1=>sp (x::(vs++[])) H1 Q E0)=λvs H1=>sp (x::vs) H1 Q E0:=by funext vs H1;rw[gQ]
 refine propext ⟨λ⟨a,dx,fs,h0,h1,h2,h3⟩=>⟨a,dx,fs,h0,h1,h2,?_⟩,λ⟨a,dx,fs,h0,h1,h2,h3⟩=>⟨a,dx,fs,h0,h1,h2,?_⟩⟩
 ·rw[<-e1];exact h3
 ·rw[e1];exact h3
theorem yk{pl:Sem Bool}(F:ir X.prog X.w X.K X.mg X.ao C m k sp)(c:dj X.K C)(hr:bq k X.A)(he:PE X o ta)(ha:PA X (e::es) t) (d9:starEach (e::es) X.env=(false,eval e X.env)::starEach es X.env:=by rfl)(bM:(backTo pos (starEach es X.env)).any (·.1)=false:=by rfl) (ht:eval (.Call (.Attribute o m apos) (e::es) [] pos) X.env=(do
 let ov<-eval o X.env
 standAt apos.atName
 let(f,first)<-holding [ov] (getMethod ov m pl)
 callWith pos f first (backTo pos (starEach (e::es) X.env)) (backToKw pos (keywordEach [] X.env))):=by rfl): PE X (.Call (.Attribute o m apos) (e::es) [] pos) (qE C m sp ta t):=by
 obtain⟨f,fd,ps,F,hm,hb⟩:=F;have h:=yp (pos:=pos) (apos:=apos) (pl:=pl) he c hm F hr hb .nil jr ha d9 bM ht;intro ak s O H Q I hq;refine h ak s O H Q I ?_;show ta O H λx H1=>ml C m sp [] E0 t O Q x H1;simp only[t6];exact hq
theorem yj{pl:Sem Bool}(F:ir X.prog X.w X.K X.mg X.ao C m k sp)(c:dj X.K C)(hr:bq k X.A)(he:PE X o ta) (ht:eval (.Call (.Attribute o m apos) [] [] pos) X.env=(do
 let ov<-eval o X.env
 standAt apos.atName
 let(f,first)<-holding [ov] (getMethod ov m pl)
 callWith pos f first (backTo pos (starEach [] X.env)) (backToKw pos (keywordEach [] X.env))):=by rfl): PE X (.Call (.Attribute o m apos) [] [] pos) (qE C m sp ta kF):=by
 obtain⟨f,fd,ps,F,hm,hb⟩:=F;have h:=yo (pos:=pos) (apos:=apos) (pl:=pl) he c hm F hr hb .nil jr ht;intro ak s O H Q I hq;refine h ak s O H Q I ?_;show ta O H λx H1=>ml C m sp [] E0 kF O Q x H1;simp only[t6];exact hq
def wW(C:Addr)(sp:Sp)(t:TA):TE:=λO H Q=>t O H λvs H1=>∀x dx,H1 x=none->H1 dx=none->dx≠x->sp (.ref x::vs) (upd (upd H1 dx (.own x)) x (.ins C dx [])) (λv H2=>v= .aK/\Q (.ref x) H2) E0
theorem yn(F:mi X.prog X.w X.K X.mg X.ao C x k sp)(hr:bq (k+1) X.A)(hg:Gl X x)(ha:PA X (e::es) t)(cc:(x==("__debug__":Str))=false:=by decide) (he:starEach (e::es) X.env=(false,eval e X.env)::starEach es X.env:=by rfl)(bM:(backTo pos (starEach es X.env)).any (·.1)=false:=by rfl): PE X (.Call (.Name x p) (e::es) [] pos) (wW C sp t):=by
 obtain⟨f,fd,ps,F,M,hb,hm⟩:=F;have h:=sC (pos:=pos) (p:=p) M F hr hg hm hb .nil jr ha cc he bM;intro ak s O H Q I hq;refine h ak s O H Q I ?_;have e1:(λ(vs:List V) H1=>∀x dx,H1 x=none->H1 dx=none->dx≠x->sp (.ref x::(vs++[])) (upd (upd H1 dx (.own x)) x (.ins C dx [])) (λv H2=>v= .aK/\Q (.ref x) H2) E0) =λvs H1=>∀x dx,H1 x=none->H1 dx=none->dx≠x->sp (.ref x::vs) (upd (upd H1 dx (.own x)) x (.ins C dx [])) (λv H2=>v= .aK/\Q (.ref x) H2) E0:=by funext vs H1;rw[gQ]
 show t O H λvs H1=>∀x dx,H1 x=none->H1 dx=none->dx≠x->sp (.ref x::(vs++[])) (upd (upd H1 dx (.own x)) x (.ins C dx [])) (λv H2=>v= .aK/\Q (.ref x) H2) E0;rw[e1];exact hq
inductive FK(C:Addr)(x:Str)(Q:VK)(v:V)(H1:Hp):Prop |mk (a dx:Addr)(fs:List (Str×V))(u:V)(h0:v= .ref a)(h1:H1 a=some (.ins C dx fs))(h2:fs.lookup x=some u)(h3:Q u H1)
theorem nW(T:dj X.K C)(hn:cR X.K C x)(he:PE X e ta)(hb:attributeBase e x X.env (eval e X.env)=eval e X.env:=by rfl): PE X (.Attribute e x pos) (λO H Q=>ta O H λv H1=>FK C x Q v H1):=by intro ak s O H Q I h;refine E9 hb (aF (he ak s O H _ I h) λu s1 ⟨v,H1,I1,rx,a,dx,fs,w,ex,ea,l,q⟩=>?_);subst ex;obtain rfl:u=Value.ref a:=rx;exact Cp I1 ea T hn l λu' s2 I2 ru=>⟨w,H1,I2,ru,q⟩
inductive FG(C:Addr)(x:Str)(D:Ends)(O:St)(y v:V)(H2:Hp):Prop |mk (a dx:Addr)(fs:List (Str×V))(h0:v= .ref a)(h1:H2 a=some (.ins C dx fs))(h2:fs.length<1000)(h3:D.nx O (upd H2 a (.ins C dx (cX x y fs))))
theorem eF{value:Expr}{tv:TE}{pos':Pos}(T:dj X.K C)(hn:cR X.K C x)(ha:PE X o ta)(hv:PE X value tv)(hs:swapsWith value (some (.Attribute o x pos')) pos.line X.env=pure false:=by rfl): PS X (.Assign [.Attribute o x pos'] value pos) (λD O H=>tv O H λy H1=>ta O H1 λv H2=>FG C x D O y v H2):=by intro ak s O H D I h;refine plainObj_wpAny_Assign_Attribute (aF (hv ak s O H _ I h) λu s1 ⟨y,H1,I1,ry,q⟩=>aF (ha ak s1 O H1 _ I1 q) λov s2 ⟨v,H2,I2,rx,a,dx,fs,ex,ea,l,q2⟩=>?_) hs;subst ex;obtain rfl:ov=Value.ref a:=rx;exact xw I2 ea T hn l ry λs3 I3=>⟨O,_,I3,q2⟩
end
def vE(S:List Addr)(H H':Hp):Prop:=∀b o,H b=some o->b∉S->H' b=some o
section
variable {K:aa} {H H' H2:Hp}
end
section
variable {X:Cx}
end
section
variable {X:Cx} {tg:Expr}
end
theorem Dv(f:Array Value->Array Value)(o:Obj):(o.mapFields f).dict=o.dict:=by obtain⟨c,d,dt,sl⟩:=o;cases dt<;>rfl
def Eo(h B:Heap)(ex:Addr)(cls:Value)(dx:Option Addr)(fl:Value):Prop:=∃ob fs tb ot ts,h.get? ex=some ob/\ob.cls=cls/\ob.dict=dx/\ob.data= .fields fs/\fs[1]? =some (.ref tb)/\B.get? tb=none/\tb≠ex/\h.get? tb=some ot/\ot.data= .fields ts/\ts[3]? =some fl
def eZ(B:Heap)(l:List Env)(ex:Addr)(cls:Value)(dx:Option Addr)(fl:Value)(h:Heap):Prop:=B.StaysIn h/\B.get? ex=none/\h.FunFrames B l/\Eo h B ex cls dx fl
theorem eZ.there{B h:Heap}{l:List Env}{ex:Addr}{cls fl:Value}{dx:Option Addr}(x:eZ B l ex cls dx fl h):∃ob,h.get? ex=some ob/\ob.cls=cls/\ob.dict=dx/\∃fs,ob.data= .fields fs:=by obtain⟨_,_,_,ob,fs,_,_,_,e,c,d,z,_⟩:=x;exact⟨ob,e,c,d,fs,z⟩
section
variable {M:Model}{A:ai}{E:Value->ae->Prop}{s:ae}{B:Heap}{env:Env}{outer:List Env}{L ex:Addr}{ob:Obj}{fs:Array Value}{head:Value}{nx:Bool}{Q:Unit->ae->Prop}{cls fl:Value}{dx:Option Addr}
theorem uH(hA:A.frames=some (env::outer))(ff:s.heap.FunFrames B (env::outer))(hL:env.frame=some L)(ho:s.heap.get? ex=some ob)(st:B.StaysIn s.heap)(hB:B.get? ex=none)(hd:ob.data= .fields fs)(hz:1<fs.size) (q:∀h',eZ B (env::outer) ex ob.cls ob.dict (rawInt L) h'->s.heap.UpToSlots h'->Q () {s with heap:=h'}): wpAny M A (do let a<-frameOf env;let pl<-entryPlaceOf L nx;let b<-EntryCells.newEntry head a .none (rawInt L) .none pl;setField (.ref ex) 1 b) Q E s:=by
 have lp:ex∉(env::outer).filterMap (·.frame):=λhm=>by obtain⟨_,o,e1,nf⟩:=ff.mem hm;rw[ho]at e1;cases e1;exact nf fs hd
 refine au (wpAny_frameOf_fun hA ff hL λg1 k1=>au (wpAny_entryPlaceOf λpl hp=>?_));unfold EntryCells.newEntry newFields;refine au (iz ?_ (hp.sizeOk5 _ _ _ _ _));have o1:g1.get? ex=some ob:=(k1.2.1 ex lp).trans ho;have qL:B.StaysIn g1:=λb o e=>(k1.2.1 b λhm=>by rw[(ff.mem hm).1]at e;cases e).trans (st b o e);generalize hT:({cls:=.type "traceback",dict:=none,data:=.fields ([head,.ref L,.none,rawInt L,.none]++(if pl.isEmpty then List.replicate 6 Value.none else pl)).toArray}:Obj)=T;have o2:(g1.push T).get? ex=some ob:=bu T o1;refine mr o2 hd hz (q _ ?_ ?_);all_goals have ne:g1.objs.size≠ex:=qd (bj o1)
 all_goals have keep:∀b o,b≠ex->g1.get? b=some o->((g1.push T).update ex (Obj.mapFields (·.setIfInBounds 1 (Value.ref g1.objs.size)))).get? b=some o:=λb o nb e=>by rw[kr _ _ (dN nb)];exact bu _ e
 all_goals have gu:∀b o,s.heap.get? b=some o->(∀vs,o.data≠ .fields vs)->b≠ex:=λb o e nf z=>by rw[z,ho]at e;cases e;exact nf fs hd
 ·have d3:=mE hd (·.setIfInBounds 1 (Value.ref g1.objs.size))
  have o3:=qq (Obj.mapFields (·.setIfInBounds 1 (Value.ref g1.objs.size))) o2 (vS d3);refine⟨λb o e=>keep b o (λz=>by rw[z,hB]at e;cases e) (qL b o e),hB,ff.of_keeps λb o e nf=>?_,?_⟩
  ·obtain⟨sl,e1⟩:=k1.2.2 b o e
   exact⟨_,keep b _ (gu b o e nf) e1,Z⟩
  ·refine⟨_,_,g1.objs.size,T,_,o3,Obj.cls_mapFields _ _,Dv _ _,d3,by simp[hz],qL.fresh,ne,?_,by rw[<-hT],?_⟩
   ·rw[kr _ _ (dN ne)];exact cA g1 (by rw[<-hT];rfl)
   ·first|(simp;done)|(rcases hp with rfl|⟨_,_,_,_,_,_,_,rfl⟩<;>simp)
 ·intro b o e nf
  obtain⟨sl,e1⟩:=k1.2.2 b o e;exact⟨sl,keep b _ (gu b o e nf) e1⟩
theorem zD(hA:A.frames=some (env::outer))(ff:s.heap.FunFrames B (env::outer))(hL:env.frame=some L)(ho:s.heap.get? ex=some ob)(st:B.StaysIn s.heap)(hB:B.get? ex=none)(hd:ob.data= .fields fs)(h1:fs[1]? =some .none) (q:∀h',eZ B (env::outer) ex ob.cls ob.dict (rawInt L) h'->s.heap.UpToSlots h'->Q () {s with heap:=h'}):wpAny M A (noteFrame (.ref ex) env) Q E s:=by unfold noteFrame;simp only[hL];refine au (cW ho hd h1 ?_);rw[bf aw];exact uH hA ff hL ho st hB hd (qr.mp h1).1 q
theorem zC(hA:A.frames=some (env::outer))(hL:env.frame=some L)(x:eZ B (env::outer) ex cls dx .none s.heap) (q:∀h',eZ B (env::outer) ex cls dx (rawInt L) h'->s.heap.UpToSlots h'->Q () {s with heap:=h'}):wpAny M A (noteFrame (.ref ex) env) Q E s:=by
 obtain⟨st,hB,ff,ob,fs,tb,ot,ts,ho,rfl,rfl,hd,h1,lQ,nt,ht,gC,h3⟩:=x;unfold noteFrame;simp only[hL];refine au (cW ho hd h1 ?_);rw[bc (show(Value.ref tb !=Value.none)=true from by simp)];refine au (cW ht gC h3 ?_);rw[bf (show¬((Value.none==rawInt L)=true)from by simp[rawInt])];refine au (mr ht gC (qr.mp h3).1 ?_);have other:∀b,b≠tb->(s.heap.update tb (Obj.mapFields (·.setIfInBounds 3 Value.none))).get? b=s.heap.get? b:=λb nb=>kr _ _ (dN nb);have gu:∀b o,s.heap.get? b=some o->(∀vs,o.data≠ .fields vs)->b≠tb:=λb o e nf z=>by rw[z,ht]at e;cases e;exact nf ts gC
 refine uH (s:={s with heap:=s.heap.update tb (Obj.mapFields (·.setIfInBounds 3 Value.none))}) hA (ff.of_keeps λb o e nf=>⟨o,(other b (gu b o e nf)).trans e,Z⟩) hL ((other ex (dN nt)).trans ho) (λb o e=>(other b λz=>by rw[z,lQ]at e;cases e).trans (st b o e)) hB hd (qr.mp h1).1 λh' y up=>q h' y λb o e nf=>up b o ((other b (gu b o e nf)).trans e) nf
theorem pB{l:List Env}(x:eZ B l ex cls dx fl s.heap)(q:∀h',eZ B l ex cls dx .none h'->s.heap.UpToSlots h'->Q () {s with heap:=h'}):wpAny M A (setFlight (.ref ex) none) Q E s:=by
 obtain⟨st,hB,ff,ob,fs,tb,ot,ts,ho,hc,hx,hd,h1,lQ,nt,ht,gC,h3⟩:=x;have z3:3<ts.size:=(qr.mp h3).1;have other:∀b,b≠tb->(s.heap.update tb (Obj.mapFields (·.setIfInBounds 3 ((none:Option Addr).elim Value.none λf=>rawInt f)))).get? b=s.heap.get? b:=λb nb=>kr _ _ (dN nb);have gu:∀b o,s.heap.get? b=some o->(∀vs,o.data≠ .fields vs)->b≠tb:=λb o e nf z=>by rw[z,ht]at e;cases e;exact nf ts gC
 unfold setFlight;refine au (cW ho hd h1 ?_);rw[bc (show(Value.ref tb !=Value.none)=true from by simp)];refine mr ht gC z3 (q _ ⟨λb o e=>(other b λz=>by rw[z,lQ]at e;cases e).trans (st b o e),hB,ff.of_keeps λb o e nf=>⟨o,(other b (gu b o e nf)).trans e,rfl⟩,?_⟩ λb o e nf=>⟨o.slots,(other b (gu b o e nf)).trans e⟩);exact⟨ob,fs,tb,_,_,(other ex (dN nt)).trans ho,hc,hx,hd,h1,lQ,nt,qq _ ht (vS (mE gC _)),mE gC _,by simp[z3]⟩
theorem Ag(hA:A.frames=some (env::outer))(ff:s.heap.FunFrames B (env::outer))(hL:env.frame=some L)(ho:s.heap.get? ex=some ob)(st:B.StaysIn s.heap)(hB:B.get? ex=none)(hd:ob.data= .fields fs)(h1:fs[1]? =some .none) (q:∀h',eZ B outer ex ob.cls ob.dict .none h'->s.heap.UpToSlots h'->Q () {s with heap:=h'}):wpAny M A (leaving env (.ref ex)) Q E s:=by unfold leaving;refine au (zD hA ff hL ho st hB hd h1 λh1 x1 u1=>pB x1 λh2 x2 u2=>q h2 ?_ (u1.trans u2));obtain⟨a,b,⟨_,_,c⟩,d⟩:=x2;exact⟨a,b,c,d⟩
end
end L2
namespace L2
open PySem PySem.Spec PyProof.Rows
open Builtin Builtin.ObjectAttr
section
variable {prog:af}{w:World}{A:ai}{E:Value->ae->Prop}{s:ae}{K:aa}{x C:Addr}{ox:Obj}{fs:Array Value}{name:Str}{v:Value}{Q:Unit->ae->Prop}
end
end L2
namespace L2
open PySem PySem.Spec PyProof.Rows
section
variable {X:Cx}{o e value:Expr}{f:Str}{pos pos' jc:Pos}{ta tv:TE}
end
section
variable {prog:af}{w:World}{A:ai}{E:Value->ae->Prop}{h:Heap}{g:Array GenState}{d:Drawn}{t:Nat}{os:OsState}
variable {nm q:Str}{C N fI:Addr}{bs bm eW:List Value}{hdct:Bool}{sn:List Str}{sub:List Value}{ab:Bool}{col:Option Bool}{dd:Option Addr}{k0 k1 k2 k3 k5:Option Value}{B newId oE:String}{mN:aJ}{rest:List Value}{oI:Obj}
end
section
variable {M:Model}{A:ai}{E:Value->ae->Prop}{env:Env}{nm q:Str}{C N:Addr}{bs bm:List Value}{hdct:Bool}{sn:List Str}{sub:List Value}{ab:Bool}{col:Option Bool}{dd:Option Addr}{k0 k1 k2 k3 k5:Option Value}{newId:String}
end
def gc(P:af)(w:World):dn:=λouter H s E e s'=>∃(ex:Addr)(cls:Value)(dx:Option Addr)(H':Hp)(B:Heap),e= .ref ex/\s'.os=s.os/\AllBare s'.gens/\eZ B outer ex cls dx .none s'.heap/\Fl P w outer H s.heap ex H' B s'.heap/\E cls dx H'
section
variable {P:af}{w:World}{K:aa}{mg:aJ}{ao:Heap}{N:List Str}{qual:Str}{scope:Scope}{f:Addr}{cd:Value}{A:ai}{outer:List Env}{s:ae}{H:Hp}{E:XK}{ak:List (Addr×Obj)}{O:St}{H1:Hp}{s1:ae}{ex:Addr}{C:Addr}{dx:Addr}
end
section
variable {X:Cx}{x:Str}{C fI:Addr}{eW:List Value}{newId oE B:String}{e:Expr}{t:TA}{np bA pos:Pos}{k:Nat}{fd:FuncData}{ps:List Str}{sp:Sp}
end
def fc(ex:Addr)(cls:Value)(dx:Option Addr)(h:Heap):Prop:=∃o,h.get? ex=some o/\o.cls=cls/\o.dict=dx/\∃fs,o.data= .fields fs
def ClsAt(K:aa)(C:Addr):Prop:=∀h,K.In h->∃nm q N bs tl hdct sn sub ab col dd k0 k1 k2 k3 k5 newId,h.get? C=some (excClassObj nm q C N bs tl hdct sn sub ab col dd k0 k1 k2 k3 k5 newId)
theorem Exc.cls{K:aa}{mg:aJ}{x:Str}{C:Addr}{eW:List Value}{newId:String}(e:Exc K mg x C eW newId):ClsAt K C:=λh X=>by obtain⟨tl,N,nm,q,bs,hdct,sn,sub,ab,col,dd,k0,k1,k2,k3,k5,mN,hC,_⟩:=(e.own X).obj;exact⟨nm,q,N,bs,tl,hdct,sn,sub,ab,col,dd,k0,k1,k2,k3,k5,newId,hC⟩
inductive Et(i:Nat)(Cs:Addr->Prop)(tb:XK->TS)(th:TS)(D:Ends)(O:St)(H:Hp):Prop |mk (E:XK)(h0:tb E D O H)(h1:(∀cls dx H',E cls dx H'->∃C,cls= .ref C/\Cs C))(h2:∀(C ex:Addr)(dx:Option Addr)(σ':St)(H':Hp),σ'.length=O.length->E (.ref C) dx H'->H' ex=none->th {nx:=λσ2 H2=>D.nx (σ2.set i none) H2,rt:=D.rt,bk:=λσ2 H2=>D.bk (σ2.set i none) H2,ct:=λσ2 H2=>D.ct (σ2.set i none) H2} (σ'.set i (some (.ref ex))) (upd H' ex (.ext (fc ex (.ref C) dx))))
def wG(i:Nat)(Cs:Addr->Prop)(tb:XK->TS)(th:TS):TS:=λD O H=>Et i Cs tb th D O H
section
variable {X:Cx}{i:Nat}{n y:Str}{Dc:Addr}{pM:List Value}{newD:String}{body kI:List Stmt}{b0:Stmt}{np lD pos:Pos}{tb:XK->TS}{th:TS}{Cs:Addr->Prop}
theorem ya(d9:X.stack=X.env::X.outer)(Bs:X.env.frame=some X.env.locals)(hN:X.N.Nodup)(hi:X.N[i]? =some n)(hk:X.env.kindOf n=some .local)(hs:X.env.scope.names.lookup n=some .local) (hb:∀(E:XK)(xe:Value->ae->Prop),Passes (gc X.prog X.w) (X.dv xe) E->bW (X.dv xe) body (tb E)) (hg:Gl X y)(hy:Exc X.K X.mg y Dc pM newD)(oZ:pM.contains (.type "BaseException")=true)(p7:∀C,Cs C->ClsAt X.K C/\takes X.K C Dc) (hh:∀ex,bW (X.hand ex) (b0::kI) th)(cc:(y==("__debug__":Str))=false:=by decide): vp X (.Try body [.ExceptHandler (some (.Name y np)) (some n) (b0::kI) lD] [] [] pos) (wG i Cs tb th):=by
 intro s O H D I h;obtain⟨E,hq,oX,AS⟩:=h;refine wpAny_Try_except ?_;have ps:Passes (gc X.prog X.w) (X.dv λe s₁=>wpAny (model X.prog X.w) X.A (noteFrame e X.env) (λ_ s₂=>wpAny (model X.prog X.w) X.A (setFlight e none) (λ_ s₃=>wpAny (model X.prog X.w) X.A (handleBy e X.env [.ExceptHandler (some (.Name y np)) (some n) (b0::kI) lD]) (SP X [] D) X.xe s₃) X.xe s₂) X.xe s₁) E:=by
  intro nT σ' H1 s1 ev s2 I1 hx;obtain⟨ex,cls,dx,H',B,rfl,ho,ud,pA,F,hE⟩:=hx;obtain⟨C,rfl,hC⟩:=oX cls dx H' hE;have I0:Inv X [] σ' H1 s1:=I1.fg.E6;obtain⟨tZ,g2,d2,t2,o2⟩:=s2;have CQ:eZ B (X.env::X.outer) ex (.ref C) dx .none tZ:=by rw[<-d9];exact pA
  have hA:X.A.frames=some (X.env::X.outer):=by rw[<-d9];exact I0.ok.frames
  refine zC (s:=⟨tZ,g2,d2,t2,o2⟩) hA Bs CQ λh4 lM wk=>?_;refine pB lM λh5 jS wj=>?_;have F4:=F.step pA.1 lM.1 wk pA.2.2.1;have CV:h4.FunFrames B X.stack:=by rw[d9];exact lM.2.2.1
  have F5:=F4.step lM.1 jS.1 wj CV;have CU:h5.FunFrames B X.stack:=by rw[d9];exact jS.2.2.1
  have I5:Inv X [] σ' H' ⟨h5,g2,d2,t2,o2⟩:=I0.pL (s':=⟨h5,g2,d2,t2,o2⟩) ho F5.un F5.aE ud (λb hb=>(fH hb).elim);refine wpAny_handleBy_cons (codeAny_handlers_test (gw (X:=X.hand ex) (I5.hand ex) hg hy.at' ?_ cc)) (by intro q;cases q);obtain⟨eC,tk⟩:=p7 C hC;obtain⟨nm,q,Nn,bs,tl,hdct,sn,sub,ab,col,dd,k0,k1,k2,k3,k5,nw,oC⟩:=eC _ I5.bT;obtain⟨FU,GG,sP,q',uY,ug,r0,qI,vk,uN,uJ,j0,j1,j2,j3,j5,G6,oD,Gq,Gh,Ep⟩:=(hy.own I5.bT).obj;obtain⟨ob,B3,B2,_⟩:=jS.there;have tX:(Value.ref C::tl).contains (.ref Dc)=true:=by
   obtain⟨cd,ha,p0⟩:=Option.bind_eq_some_iff.mp tk;split at p0
   ·cases p0
   ·have hc:=cH p0
    unfold PySem.W.clsIn at ha;split at ha
    ·rename_i c1 c2 Gw c4 hl
     cases ha;have e1:=I5.bT _ _ hl;rw[show(Shared.heap ⟨h5,g2,d2,t2,o2⟩).get? C=some _ from oC]at e1;have e2:=cH e1;unfold excClassObj at e2;injection e2 with _ _ e3 _;injection e3 with e4;rw[<-e4]at hc;exact hc
    ·cases ha
  refine Dp oC oD B3 B2 (Ep.hasType oZ) tX ?_;refine codeAny_handlers_suite_as ?_;refine pB (s:=⟨h5,g2,d2,t2,o2⟩) jS λh6 uD wg=>?_;have F6:=F5.step jS.1 uD.1 wg CU;have wq:Un (bV X.stack) [] H1 (upd H' ex (.ext (fc ex (.ref C) dx))) s1.heap h6:=by
   have nb:∀b u,H' b=some u->b≠ex:=λb u e z=>by rw[z,F6.ne]at e;cases e
   refine⟨F6.un.keep,F6.un.slot,λb o e n hx=>?_,F6.un.there,λb xs e=>?_,λb o u e=>?_,λb ps e=>?_⟩
   ·rw[bo (λz=>by rw[z,F6.nw]at e;cases e)];exact F6.un.free b o e n hx
   ·have:=F6.un.dQ b xs e;rw[bo (nb b _ this)];exact this
   ·have:=F6.un.dI b o u e;rw[bo (nb b _ this)];exact this
   ·obtain⟨more,e1⟩:=F6.un.dR b ps e;exact⟨more,by rw[bo (nb b _ e1)];exact e1⟩
  have AZ:bH X.prog X.w (upd H' ex (.ext (fc ex (.ref C) dx))) h6:=λb u e=>by
   by_cases lO:b=ex
   ·subst lO
    rw[bO]at e;cases e;obtain⟨o6,e6,c6⟩:=uD.there;exact⟨⟨o6,e6,c6⟩,⟨o6,e6⟩,λg1 g3 ⟨o7,e7,c7⟩ k=>⟨o7,k o7 e7,c7⟩⟩
   ·rw[bo lO]at e
    refine(F6.aE b u e).fh (λc v hc q=>q) (λc q=>?_) λc xs q=>?_
    ·rw[bo (λz=>by rw[z,F6.ne]at q;cases q)];exact q
    ·rw[bo (λz=>by rw[z,F6.ne]at q;cases q)];exact q
  have I6:Inv X [] σ' (upd H' ex (.ext (fc ex (.ref C) dx))) ⟨h6,g2,d2,t2,o2⟩:=I0.pL (s':=⟨h6,g2,d2,t2,o2⟩) ho wq AZ ud (λb hb=>(fH hb).elim);refine kK (X:=X.hand ex) (I6.hand ex) hN hi (.inl hs) (v:=.ref ex) Z (λs7 I7=>?_) (.inr hs);refine dr (hh ex [] s7 _ _ _ I7 (AS C ex dx σ' H' (I0.len.trans I.len.symm) hE F.ne)) (λf s8 q=>?_) λe s8 q=>False.elim q;have un:∀(σ2:St)(H2:Hp)(Q:Unit->ae->Prop),Inv (X.hand ex) [] σ2 H2 s8->(∀s9,Inv X [] (σ2.set i none) H2 s9->Q () s9)->wpAny (model X.prog X.w) X.A (do bindName X.env n .none;unbindBehindTheSuite X.env n lD) Q X.xe s8:=λσ2 H2 Q I8 hq=>by
   have vz:=I8.back I0.ok;have cP:i<σ2.length:=by rw[vz.len];exact(gh.mp hi).1
   unfold bindName;refine au (au (eu (wpAny_point (au (kK vz hN hi (.inl hs) (v:=.aK) Z (λs9 I9=>wpAny_point ?_) (.inr hs))))));refine wm I9 hN hi hk hs (v:=.aK) (ql cP) λd6 mm=>hq d6 ?_;rw[List.set_set]at mm;exact mm
  cases f with |next=>obtain⟨σ2,H2,I8,dq⟩:=q;exact un σ2 H2 _ I8 λs9 I9=>⟨_,H2,I9,dq⟩ |brk=>obtain⟨σ2,H2,I8,dq⟩:=q;exact un σ2 H2 _ I8 λs9 I9=>⟨_,H2,I9,dq⟩ |cont=>obtain⟨σ2,H2,I8,dq⟩:=q;exact un σ2 H2 _ I8 λs9 I9=>⟨_,H2,I9,dq⟩ |ret u=>obtain⟨v,σ2,H2,I8,r8,dq⟩:=q;exact un σ2 H2 _ I8 λs9 I9=>⟨v,_,H2,I9,r8,dq⟩
 refine dr (hb E _ ps [] s O H D (I.dv _) hq) (λf s1 q=>?_) λe s1 q=>q;have q':=q.fg;cases f with |next=>exact kf q' |brk=>exact q' |cont=>exact q' |ret u=>exact q'
end
end L2
namespace L2
open PySem PySem.Spec PyProof.Rows PySem.W
section
variable {prog:af}{w:World}{A:ai}{E:Value->ae->Prop}{h:Heap}{g:Array GenState}{d:Drawn}{t:Nat}{os:OsState}{K:Frag}{x C:Addr}{ox:Obj}{od:Obj}{f:Str}{v:Value}
end
section
variable {X:Cx}{e:Expr}{f:Str}{pos:Pos}{ta:TE}
inductive Fp(K:Frag)(xs:List V)(H:Hp)(Q:VK):Prop |mk (ex:Addr)(C:Addr)(dx:Option Addr)(c:V)(cv:Value)(b:Bool)(h0:xs=[.ref ex,c])(h1:H ex=some (.ext (fc ex (.ref C) dx)))(h2:fb K C)(h3:DL c=some cv)(h4:kitOne K (.ref C) cv=some b)(h5:Q (.bl b) H)
def xU(K:Frag):List V->Hp->VK->Prop:=λxs H Q=>Fp K xs H Q
inductive Fm(K:Frag)(xs:List V)(H:Hp)(Q:VK):Prop |mk (ex:Addr)(C:Addr)(p:Addr)(dx:Option Addr)(Ds:List Addr)(b:Bool)(h0:xs=[.ref ex,.ref p])(h1:H ex=some (.ext (fc ex (.ref C) dx)))(h2:fb K C)(h3:H p=some (.tup (Ds.map V.ref)))(h4:kitAny K (.ref C) (Ds.map Value.ref)=some b)(h5:Q (.bl b) H)
def xT(K:Frag):List V->Hp->VK->Prop:=λxs H Q=>Fm K xs H Q
theorem e9(K:Frag)(hK:X.K=K):cn X (.builtin "isinstance") (λxs H Q=>xU K xs H Q\/xT K xs H Q):=by
 subst hK;intro ak s O H xs us Q I r h;rcases h with⟨ex,C,dx,c,cv,b,rfl,he,k,hc,kb,q⟩|⟨ex,C,p,dx,Ds,b,rfl,he,k,hp,kb,q⟩
 ·obtain⟨u,v,rfl,rx,rc⟩:=vals2 r
  cases(show u=Value.ref ex from rx);have hv:v=cv:=by cases c with |ref D=>cases(show v=Value.ref D from rc);exact cH hc |ty n=>cases(show v=Value.type n from rc);exact cH hc |_=>cases hc
  subst hv;obtain⟨o,o1,o2,_⟩:=(I.aE ex _ he).1;exact kia_one (tG k) I.bT ⟨o,o1,o2⟩ kb (λz=>nomatch z) λtk=>⟨.bl b,H,I.tok _,rfl,q⟩
 ·obtain⟨u,v,rfl,rx,rc⟩:=vals2 r
  cases(show u=Value.ref ex from rx);cases(show v=Value.ref p from rc);obtain⟨o,o1,o2,_⟩:=(I.aE ex _ he).1;obtain⟨_,its,rv,⟨cls,dd,dt,sl⟩,h1,h2,n,h3⟩:=(show cM X.prog X.w H s.heap p (.tup (Ds.map V.ref))from I.aE p _ hp);simp only at h2 h3;subst h2 h3;have e:=qw rv;subst e;exact kia_tup (tG k) I.bT ⟨o,o1,o2⟩ h1 kb (λz=>nomatch z) λtk=>⟨.bl b,H,I.tok _,rfl,q⟩
end
end L2
namespace L2
open PySem PySem.Spec PyProof.Rows
section
variable {X:Cx}{k:Nat}{x:Str}{p pos:Pos}{e:Expr}{es:List Expr}{t:TA}{sp:Sp}
end
structure dB(k:Nat)(A:ai):Prop where
 dp:A.depth+3*k+5<recursionLimit
 un:A.units+16*k+200<cLine
theorem dB.mono{j k:Nat}{A:ai}(r:dB k A)(h:j<=k):dB j A:=⟨by have:=r.dp;lia,by have:=r.un;lia⟩
theorem dB.units{k:Nat}{A:ai}(r:dB k A):A.units+64<cLine:=by have:=r.un;lia
theorem bq.mark{k:Nat}{A:ai}(r:bq k A)(v:Option Value):dB k (A.mark v):=⟨r.dp,r.un⟩
theorem dB.deeper{k:Nat}{A:ai}(r:dB (k+1) A)(env:Env):dB k (A.deeper env):=⟨by have:=r.dp;show A.depth+1+3*k+5<_;lia,by have:=r.un;show A.units+3+16*k+200<_;lia⟩
abbrev iT(P:af)(w:World)(K:aa)(mg:aJ)(ao:Heap)(N:List Str)(qual:Str)(scope:Scope)(f:Addr)(cd:Value)(A:ai)(outer:List Env)(s:ae)(H:Hp):Cx:={(cw cN P w K mg ao N qual scope f cd A outer s H (λ_ _ _=>False))with calm:=false,xe:=λ_ _=>False}
def vC(P:af)(w:World)(K:aa)(mg:aJ)(ao:Heap)(k:Nat)(f:Addr)(fd:FuncData)(ps:List Str)(sp:Sp):Prop:=(∀vs H Q E,sp vs H Q E->vs.length=ps.length)/\∀(A:ai)(outer:List Env)(s:ae)(H:Hp)(args:Args)(us:List Value)(vs:List V)(Q:VK),dB k A->gb P w K mg ao A outer s H->BindsTo s fd args (ps.zip us)->Vals vs us->sp vs H Q (λ_ _ _=>False)->codeAny (model P w) A (.call (.ref f) args) (λr s'=>match r with| .ok (.ret u)=>CE outer P w H s Q u s'|_=>False) s
theorem CO{P:af}{w:World}{K:aa}{mg:aJ}{ao:Heap}{k:Nat}{f:Addr}{name qual:Str}{params:Arguments}{body:List Stmt}{scope:Scope}{dV kV doc pm ax ct oc:Value}{an od:Option Addr} {bZ:Array (Option Value)}{N ps:List Str}{sp:Sp}(lk:K.lookup f=some ⟨oc,od,.func (PySem.W.fnOf name qual params body scope dV kV doc pm an ax ct),bZ⟩)(cb:PySem.W.codeIn K ax qual=true)(S:bw N ps scope)(len:∀vs H Q E,sp vs H Q E->vs.length=ps.length) (cq:∀(A:ai)(outer:List Env)(s:ae)(H:Hp)(vs:List V)(Q:VK),dB k (A.deeper (envOfC qual scope s.heap.objs.size f ax))->sp vs H Q (λ_ _ _=>False)->∃t,bW (iT P w K mg ao N qual scope f ax A outer s H) body t/\t {nx:=λ_ H'=>Q .aK H',rt:=Q} (start N vs) H): vC P w K mg ao (k+1) f (PySem.W.fnOf name qual params body scope dV kV doc pm an ax ct) ps sp:=by
 refine⟨len,λA outer s H args us vs Q hr e0 hb r cm=>?_⟩;have hl:=len _ _ _ _ cm;have KX:K.In s.heap:=e0.mod.fu.keeps λb o e=>(e0.bs b o e).1;have lim:s.heap.NoLimit:=e0.mod.nolimit.keeps λb o e=>(e0.bs b o e).1;have hk:∀y∈ps.zip us,scope.names.lookup y.1=some .local\/(scope.names.lookup y.1=some .cell/\((cellsFrom (s.heap.objs.size+1) scope.names []).lookup y.1).isSome=true):=λ⟨n,v⟩ hy=>by
  rcases S.par n (ko hy).1 with q|q
  ·exact .inl q
  ·exact .inr ⟨q,qa _ _ _ (.inl q)⟩
 refine vJ (by have:=hr.dp;lia) (KX _ _ lk) Z S.co S.gen Z (vL KX cb) (hb _ _ _ _ ?_);refine vG S.kind hk λenv he s1 x=>?_;subst he;refine⟨lim.keeps x.toInCall.keep,codeAny_func ?_⟩;obtain⟨t,ht,hq⟩:=cq A outer s H vs Q (hr.deeper _) cm;have e1:gb P w K mg ao {A with handled:=none} outer s H:=⟨e0.frames,e0.mod,e0.bs,e0.dJ,e0.cY,e0.eR,e0.aE,e0.bare⟩;have I:=oz (CX:=cN) (A:={A with handled:=none}) (E:=λ_ _ _=>False) S rfl e1 hl r x;have J:Inv (iT P w K mg ao N qual scope f ax A outer s H) [] (start N vs) H s1:=⟨⟨I.ok.mod,I.ok.kind,I.ok.glob,I.ok.blt,I.ok.above,I.ok.inj,I.ok.has,I.ok.gH,λh=>(cB h).elim,Around.frames_deeper e0.frames,I.ok.gS,I.ok.jT,I.ok.bs,I.ok.dJ,I.ok.gv,I.ok.gF,I.ok.cY,I.ok.eR⟩,I.os,I.bare,I.ao,I.loc,I.cell,I.free,I.da,I.pin,I.aE,I.len⟩;refine dr (ht [] s1 (start N vs) H _ J hq) (λfl s' hs=>?_) λe s' hs=>hs.elim;cases fl with |ret u=>obtain⟨v,σ',H',J',rv,q⟩:=hs;exact⟨v,H',J'.os,J'.bare,J'.ao,J'.aE,rv,q⟩ |next=>obtain⟨σ',H',J',q⟩:=hs;exact⟨V.aK,H',J'.os,J'.bare,J'.ao,J'.aE,Z,q⟩ |brk=>obtain⟨_,_,_,q⟩:=hs;exact False.elim q |cont=>obtain⟨_,_,_,q⟩:=hs;exact False.elim q
def mn(P:af)(w:World)(K:aa)(mg:aJ)(ao:Heap)(x:Str)(k:Nat)(sp:Sp):Prop:=∃f fd ps,vC P w K mg ao k f fd ps sp/\mg x=some (.ref f)/\PySem.W.keepIn K (.ref f)=true/\Binds K fd ps []
theorem FA.BF{P:af}{w:World}{K:aa}{mg:aJ}{ao:Heap}{x:Str}{st:Stmt}{N ps:List Str}{k:Nat}{sp:Sp}(F:FA K mg x st)(S:bw N ps (aQ st))(len:∀vs H Q E,sp vs H Q E->vs.length=ps.length) (hb:∀(kV doc pm:Value)(an:Option Addr)(ax ct:Value)(us:List Value),us.length=ps.length->bindArgs (PySem.W.fnOf x x (dA st) (bN st) (aQ st) .none kV doc pm an ax ct) ⟨us,[]⟩=pure (ps.zip us)) (cq:∀(f:Addr)(ax:Value)(A:ai)(outer:List Env)(s:ae)(H:Hp)(vs:List V)(Q:VK),dB k (A.deeper (envOfC x (aQ st) s.heap.objs.size f ax))->sp vs H Q (λ_ _ _=>False)->∃t,bW (iT P w K mg ao N x (aQ st) f ax A outer s H) (bN st) t/\t {nx:=λ_ H'=>Q .aK H',rt:=Q} (start N vs) H):mn P w K mg ao x (k+1) sp:=by obtain⟨f,fd,hm,F⟩:=F.ex;have oY:=F.binds hb;have kp:=F.kp;obtain⟨oc,od,kV,doc,pm,an,ax,ct,bZ,rfl,lk,cb⟩:=F.ex;exact⟨f,_,ps,CO lk cb S len λA outer s H vs Q hr cm=>cq f ax A outer s H vs Q hr cm,hm,kp,oY⟩
section
variable {X:Cx}{k:Nat}{x:Str}{p pos:Pos}{e:Expr}{es:List Expr}{t:TA}{sp:Sp}
def x6(sp:Sp)(t:TA):TE:=λO H Q=>t O H λvs H1=>sp vs H1 Q (λ_ _ _=>False)
theorem yw(F:mn X.prog X.w X.K X.mg X.ao x k sp)(hr:dB k X.A)(hg:Gl X x)(ha:PA X (e::es) t)(cc:(x==("__debug__":Str))=false:=by decide) (he:starEach (e::es) X.env=(false,eval e X.env)::starEach es X.env:=by rfl)(bM:(backTo pos (starEach es X.env)).any (·.1)=false:=by rfl):PE X (.Call (.Name x p) (e::es) [] pos) (x6 sp t):=by
 obtain⟨f,fd,ps,F,hm,hk,hb⟩:=F;intro ak s O H Q I h;refine ki (gw I hg hm ?_ cc);refine mD (h₀:=X.ao) I.ok.mod.fu hk (aF (ha pos ak s O H _ I h) λus s1 ⟨vs,H1,I1,r,q⟩=>⟨I1.bT,?_⟩) he bM;have hl:(us++[]).length=ps.length:=by rw[gQ,<-r.length];exact F.1 _ _ _ _ q
 have bt:=hb s1 us I1.bT hl;rw[gQ]at bt;refine wpAny_call (mB (F.2 X.A X.stack s1 H1 ⟨us,[]⟩ us vs Q hr I1.pF bt r q) λr s' hq=>?_);cases r with |error e=>exact hq.elim |ok fl=>cases fl with |ret u=>exact I1.after hq |next=>exact hq.elim |brk=>exact hq.elim |cont=>exact hq.elim
end
section
variable {P:af}{w:World}{K:aa}{mg:aJ}{ao:Heap}{N:List Str}{qual:Str}{scope:Scope}{f:Addr}{cd:Value}{A:ai}{outer:List Env}{s:ae}{H:Hp}{E E0:XK}
end
end L2
namespace L2
open PySem PySem.Spec PyProof.Rows
open Builtin Builtin.ObjectAttr
section
variable {prog:af}{w:World}{A:ai}{E:Value->ae->Prop}{s:ae}{K:aa}{x C dx:Addr}{ox:Obj}{fs:Array Value}{name:Str}{v:Value}{Q:Unit->ae->Prop}{mA:aJ}{ks:List Str}
end
section
variable {X:Cx}{o e value:Expr}{f:Str}{pos pos' jc:Pos}{ta tv:TE}
end
end L2
namespace L2
open PySem PySem.Spec PyProof.Rows
def me(P:af)(w:World)(K:aa)(mg:aJ)(ao:Heap)(C:Addr)(x:Str)(k:Nat)(sp:Sp):Prop:=∃f fd ps,cF P w K mg ao (gc P w) k f fd ps sp/\Mk K C f/\Binds K fd ps []/\mg x=some (.ref C)
section
variable {P:af}{w:World}{K:aa}{mg:aJ}{ao:Heap}
theorem dM.zr{m qual:Str}{st:Stmt}{f:Addr}{fd:FuncData}{N ps:List Str}{k:Nat}{sp:Sp}(F:dM K m qual st f fd)(S:bw N ps (aQ st))(len:∀vs H Q E,sp vs H Q E->vs.length=ps.length) (cq:∀(ax:Value)(A:ai)(outer:List Env)(s:ae)(H:Hp)(vs:List V)(Q:VK)(E:XK),bq k (A.deeper (envOfC qual (aQ st) s.heap.objs.size f ax))->sp vs H Q E->∃t,bW (cw (gc P w) P w K mg ao N qual (aQ st) f ax A outer s H E) (bN st) t/\t {nx:=λ_ H'=>Q .aK H',rt:=Q} (start N vs) H):cF P w K mg ao (gc P w) (k+1) f fd ps sp:=by obtain⟨oc,od,kV,doc,pm,an,ax,ct,bZ,rfl,lk,cb⟩:=F.ex;exact uC lk cb S len λA outer s H vs Q E hr cm=>cq ax A outer s H vs Q E hr cm
theorem CA.BG{C:Addr}{x qual:Str}{st:Stmt}{N ps:List Str}{k:Nat}{sp:Sp}(F:CA K mg C x qual st)(S:bw N ps (aQ st))(len:∀vs H Q E,sp vs H Q E->vs.length=ps.length) (hb:∀(kV doc pm:Value)(an:Option Addr)(ax ct:Value)(us:List Value),us.length=ps.length->bindArgs (PySem.W.fnOf "__init__" qual (dA st) (bN st) (aQ st) .none kV doc pm an ax ct) ⟨us,[]⟩=pure (ps.zip us)) (cq:∀(f:Addr)(ax:Value)(A:ai)(outer:List Env)(s:ae)(H:Hp)(vs:List V)(Q:VK)(E:XK),bq k (A.deeper (envOfC qual (aQ st) s.heap.objs.size f ax))->sp vs H Q E->∃t,bW (cw (gc P w) P w K mg ao N qual (aQ st) f ax A outer s H E) (bN st) t/\t {nx:=λ_ H'=>Q .aK H',rt:=Q} (start N vs) H):me P w K mg ao C x (k+1) sp:=by obtain⟨f,fd,hm,F'⟩:=F.ex;exact⟨f,fd,ps,F'.zr S len λax A outer s H vs Q E=>cq f ax A outer s H vs Q E,hm,F'.binds hb,F.tf⟩
end
section
variable {X:Cx}{k:Nat}{x m:Str}{C:Addr}{p pos apos:Pos}{o e:Expr}{es:List Expr}{t:TA}{ta:TE}{sp:Sp}{E:XK}
def wV(C:Addr)(sp:Sp)(E:XK)(t:TA):TE:=λO H Q=>t O H λvs H1=>∀x dx,H1 x=none->H1 dx=none->dx≠x->sp (.ref x::vs) (upd (upd H1 dx (.own x)) x (.ins C dx [])) (λv H2=>v= .aK/\Q (.ref x) H2) E
theorem yl(F:me X.prog X.w X.K X.mg X.ao C x k sp)(hp:Passes (gc X.prog X.w) X E)(hr:bq (k+1) X.A)(hg:Gl X x)(ha:PA X (e::es) t)(cc:(x==("__debug__":Str))=false:=by decide) (he:starEach (e::es) X.env=(false,eval e X.env)::starEach es X.env:=by rfl)(bM:(backTo pos (starEach es X.env)).any (·.1)=false:=by rfl): PE X (.Call (.Name x p) (e::es) [] pos) (wV C sp E t):=by
 obtain⟨f,fd,ps,F,M,hb,hm⟩:=F;have h:=sC (pos:=pos) (p:=p) M F hr hg hm hb .nil hp ha cc he bM;intro ak s O H Q I hq;refine h ak s O H Q I ?_;have e1:(λ(vs:List V) H1=>∀x dx,H1 x=none->H1 dx=none->dx≠x->sp (.ref x::(vs++[])) (upd (upd H1 dx (.own x)) x (.ins C dx [])) (λv H2=>v= .aK/\Q (.ref x) H2) E) =λvs H1=>∀x dx,H1 x=none->H1 dx=none->dx≠x->sp (.ref x::vs) (upd (upd H1 dx (.own x)) x (.ins C dx [])) (λv H2=>v= .aK/\Q (.ref x) H2) E:=by funext vs H1;rw[gQ]
 show t O H λvs H1=>∀x dx,H1 x=none->H1 dx=none->dx≠x->sp (.ref x::(vs++[])) (upd (upd H1 dx (.own x)) x (.ins C dx [])) (λv H2=>v= .aK/\Q (.ref x) H2) E;rw[e1];exact hq
end
end L2
namespace L2
open PySem PySem.Spec PyProof.Rows SeqAt
section
variable {X:Cx}{k:Nat}{x:Str}{p pos:Pos}{e:Expr}{es:List Expr}{t:TA}{sp:Sp}{E:XK}
inductive FJ(X:Cx)(i:Nat)(CX:dn)(E:XK)(t:TA)(O:St)(H:Hp)(Q:VK):Prop |mk (f:Addr)(fd:FuncData)(ps:List Str)(k:Nat)(sp:Sp)(h0:O[i]? =some (some (.ref f)))(h1:cF X.prog X.w X.K X.mg X.ao CX k f fd ps sp)(h2:PySem.W.keepIn X.K (.ref f)=true)(h3:Binds X.K fd ps [])(h4:bq k X.A)(h5:t O H λvs H1=>sp vs H1 Q E)
theorem yy(i:Nat){CX:dn}(hp:Passes CX X E)(hN:X.N[i]? =some x:=by rfl)(hv:m8 X.env.scope x:=by first|exact Or.inl rfl|exact Or.inr (Or.inl rfl)|exact Or.inr (Or.inr rfl))(ha:PA X (e::es) t)(hd:(x==("__debug__":Str))=false:=by decide) (cb:(x==("__classdict__":Str))=false:=by decide)(he:starEach (e::es) X.env=(false,eval e X.env)::starEach es X.env:=by rfl)(bM:(backTo pos (starEach es X.env)).any (·.1)=false:=by rfl): PE X (.Call (.Name x p) (e::es) [] pos) (λO H Q=>FJ X i CX E t O H Q):=by intro ak s O H Q I h;obtain⟨f,fd,ps,k,sp,h0,F,hk,hb,hr,ht⟩:=h;refine ki (aF (sx (pos:=p) hN hv hd cb ak s O H (λv H'=>v= .ref f/\H'=H) I ⟨_,h0,Z,Z⟩) λu s1 ⟨v,H1,I1,rv,e1,e2⟩=>?_);subst e1 e2;cases(show u=Value.ref f from rv);refine mD (h₀:=X.ao) I1.ok.mod.fu hk (aF (ha pos ak s1 O H1 _ I1 ht) λus s2 ⟨vs,H2,I2,r,q⟩=>⟨I2.bT,?_⟩) he bM;refine kR F hr hb .nil hp I2 r ?_;rw[gQ];exact q
end
section
variable {X:Cx}
theorem mL:∀{bs:List Bool}{us:List Value},Vals (bs.map V.bl) us->us=bs.map Value.bool |[],_,.nil=>rfl |b::bs,_,.cons q r=>by cases(show _=Value.bool b from q);rw[mL r];rfl
def hR:Value->Bool | .bool b=>b |_=>false
theorem uF{bs:List Bool}(A:ai)(s:ae):∀y,y∈(bs.map Value.bool).toArray->EqAt A s y (.bool true) (hR y):=λy hy=>by obtain⟨b,_,rfl⟩:=qh.mp (List.mem_toArray.mp hy);have:=EqAt.bool_bool (A:=A) (s:=s) b true;cases b<;>exact this
theorem DE(bs:List Bool):(bs.map Value.bool).countP hR=bs.count true:=by induction bs with |nil=>rfl |cons b r ih=>cases b<;>simp[List.countP_cons,hR,ih,List.count_cons]
inductive vy(K:aa)(x:V)(vs:List V)(H:Hp)(Q:VK):Prop |mk (l:Addr)(bs:List Bool)(h0:x= .ref l)(h1:vs=[.bl true])(h2:aH K H l (bs.map V.bl))(h3:Q (.int (bs.count true:Nat)) H)
theorem zV(K:aa)(hK:X.K=K):ka X "list.count" (λx vs H Q=>vy K x vs H Q):=by subst hK;intro ak s O H x vs v us Q I rx rv h;obtain⟨l,bs,rfl,rfl,hl,q⟩:=h;cases rx;obtain⟨u,rfl,ru⟩:=vals1 rv;cases(show u=Value.bool true from ru);obtain⟨its,r,pl,_⟩:=I.list hl;rw[mL r]at pl;obtain⟨⟨cls,dd,data,sl⟩,ho,hc,n,hd⟩:=id pl.isList;simp only at hc hd;subst hc hd;refine kj PySem.F.slot_list_count ⟨_,ho,Z⟩ PySem.F.entry_list_count (PySem.F.args_list_count_2 _ _) (list_countAt l _ n dd sl (.bool true) hR) ⟨ho,uF _ _,?_⟩;rw[show(bs.map Value.bool).toArray.toList=bs.map Value.bool from Z,DE];exact⟨.int _,H,I.tok _,⟨_,Z⟩,q⟩
inductive vx(K:aa)(x:V)(vs:List V)(H:Hp)(Q:VK):Prop |mk (l:Addr)(bs:List Bool)(j:Nat)(h0:x= .ref l)(h1:vs=[.bl true])(h2:aH K H l (bs.map V.bl))(h3:bs[j]? =some true)(h4:∀m,m<j->bs[m]? =some false)(h5:j<1000)(h6:Q (.int (j:Nat)) H)
theorem zU(K:aa)(hK:X.K=K):ka X "list.index" (λx vs H Q=>vx K x vs H Q):=by
 subst hK;intro ak s O H x vs v us Q I rx rv h;obtain⟨l,bs,j,rfl,rfl,hl,hj,hm,Gr,q⟩:=h;cases rx;obtain⟨u,rfl,ru⟩:=vals1 rv;cases(show u=Value.bool true from ru);obtain⟨its,r,pl,_⟩:=I.list hl;rw[mL r]at pl;obtain⟨⟨cls,dd,data,sl⟩,ho,hc,n,hd⟩:=id pl.isList;simp only at hc hd;subst hc hd;have Bd:=(gh.mp hj);obtain⟨Bg,Bf⟩:=Bd;refine kj PySem.F.slot_list_index ⟨_,ho,Z⟩ PySem.F.entry_list_index (PySem.F.args_list_index_2 _ _) (list_indexAt l _ n dd sl (.bool true) hR j (by simpa using Bg) aV ?_ (λm ub oN=>?_)) ⟨ho,uF _ _,⟨.int _,H,I.tok _,⟨_,Z⟩,q⟩⟩
 ·simp[Bf,hR]
 ·have:=hm m oN
  obtain⟨h1,h2⟩:=gh.mp this;simp[h2,hR]
theorem yC(K:aa)(h:X.K=K){o e:Expr}{to:TE}{t:TA}{apos bA:Pos}(ho:PE X o to)(ha:PA X [e] t) (fZ:attributeBase o "count" X.env (eval o X.env)=eval o X.env:=by rfl) (fY:((backTo bA (starEach [e] X.env)).all (λx=>!x.1)&&(backToKw bA (keywordEach [] X.env)).all (λx=>x.1.isSome) &&decide ([e].length+([]:List Keyword).length+(if([]:List Keyword).isEmpty then 0 else 1)<30))=true:=by rfl) (fW:(apos.endLine==bA.line)=true:=by rfl)(hs:starEach [e] X.env=(false,eval e X.env)::starEach [] X.env:=by rfl)(fU:(backTo bA (starEach [] X.env)).any (·.1)=false:=by rfl): PE X (.Call (.Attribute o "count" apos) [e] [] bA) (je K "list" (λx vs H Q=>vy K x vs H Q) to t):=by subst h;exact l7 PySem.F.plainAttrs_list PySem.F.slot_list_count PySem.F.type_list_count (zV X.K rfl) ho ha fZ fY fW hs fU
theorem yB(K:aa)(h:X.K=K){o e:Expr}{to:TE}{t:TA}{apos bA:Pos}(ho:PE X o to)(ha:PA X [e] t) (fZ:attributeBase o "index" X.env (eval o X.env)=eval o X.env:=by rfl) (fY:((backTo bA (starEach [e] X.env)).all (λx=>!x.1)&&(backToKw bA (keywordEach [] X.env)).all (λx=>x.1.isSome) &&decide ([e].length+([]:List Keyword).length+(if([]:List Keyword).isEmpty then 0 else 1)<30))=true:=by rfl) (fW:(apos.endLine==bA.line)=true:=by rfl)(hs:starEach [e] X.env=(false,eval e X.env)::starEach [] X.env:=by rfl)(fU:(backTo bA (starEach [] X.env)).any (·.1)=false:=by rfl): PE X (.Call (.Attribute o "index" apos) [e] [] bA) (je K "list" (λx vs H Q=>vx K x vs H Q) to t):=by subst h;exact l7 PySem.F.plainAttrs_list PySem.F.slot_list_index PySem.F.type_list_index (zU X.K rfl) ho ha fZ fY fW hs fU
end
end L2
namespace L2
open PySem PySem.Spec PyProof.Rows
section
variable {κ : Type} [DecidableEq κ]
end
section
variable {P:af}{w:World}{H:Hp}{h:Heap}{a:Addr}
end
section
variable {X:Cx}{ak:List (Addr×Obj)}{O:St}{H:Hp}{s:ae}{a:Addr}{y v:V}{u r:Value}{o:Option V}{A:ai}{E:Value->ae->Prop}
end
section
variable {X:Cx}{ak:List (Addr×Obj)}{O:St}{H:Hp}{s:ae}{a:Addr}{bE:List (Key×V)}{k:Key}{u:Value}{A:ai}{E:Value->ae->Prop}
end
def vv(i:Expr):Prop:=∀ov iv,subscripted i false ov iv=operate [ov,iv] (getItem ov iv)
theorem xg{prog:af}{w:World}{A:ai}{E:Value->ae->Prop}{s:ae}{env:Env}{value slice:Expr}{pos:Pos}{T id:String}{Q:Value->ae->Prop} (hl:typeLookup (.type T) "__getitem__"=pure (some (.builtin id)))(hs:vv slice) (h:wpAny (model prog w) A (eval value env) (λo s₁=>wpAny (model prog w) A (eval slice env) (λi s₂=>s₂.TypeIs o T/\wpAny (model prog w) A (getItem o i) Q E s₂) E s₁) E s): wpAny (model prog w) A (eval (.Subscript value slice pos) env) Q E s:=by
 refine Subscript_ (dr h (λo s₁ h₁=>dr h₁ (λi s₂ h₂=>?_) λ_ _ x=>x) λ_ _ x=>x);obtain⟨hT,h₂⟩:=h₂;unfold subscriptTail;refine au ?_;rw[getitemInPython_of_ne hT.not_modules];refine au (wpAny_specialOf hT hl ?_);have fin:wpAny (model prog w) A (subscripted slice false o i) (λr s₃=>wpAny (model prog w) A (letTemporaryGo value o r>>=λ_=>pure r) Q E s₃) E s₂:=by rw[hs o i];exact wpAny_operating (dr h₂ (λr s₃ h₃=>au (wpAny_letTemporaryGo (aZ h₃))) λ_ _ x=>x)
 first |exact aZ (au fin) |exact au (aZ (au fin)) |exact au fin
section
variable {X:Cx}{o i e value:Expr}{pos pos' jc:Pos}{td ty tv:TE}
end
section
variable {X:Cx} {pos:Pos}
end
section
variable {X:Cx}{ak:List (Addr×Obj)}{O:St}{H:Hp}{s:ae}{a:Addr}{y d:V}{u r:Value}{o:Option V}{A:ai}{E:Value->ae->Prop}
end
section
variable {X:Cx}{o e f:Expr}{apos bA:Pos}{td ty tx:TE}
end
section
variable {X:Cx}{ak:List (Addr×Obj)}{O:St}{H:Hp}{s:ae}{a:Addr}{bE:List (Key×V)}{A:ai}{E:Value->ae->Prop}
end
section
variable {X:Cx}{ak:List (Addr×Obj)}{O:St}{H:Hp}{s:ae}{a:Addr}{y:V}{u:Value}{A:ai}{E:Value->ae->Prop}
end
end L2
namespace L2
open PySem PySem.Spec PyProof.Rows PySem.W
structure GD(w:World)(K:Frag)(mg:aJ)(x:Str)(a:Addr):Prop where
 at':mg x=some (.ref a)
 ob:∃es n,K.lookup a=some ⟨.type "dict",none,.dict es n,#[]⟩/\KeysLit w.params es.toList
 lo:(a==sysModules)=false
theorem Cu{w:World}{K:Frag}{mg:aJ}{x:Str}{a:Addr}{h:Heap}{es:Array DictEntry}{n:Nat}(X:K.In h)(G:h.Ns mainGlobals mg)(e:nsIn K mainGlobals x=some (some (.ref a)))(hl:K.lookup a=some ⟨.type "dict",none,.dict es n,#[]⟩)(hk:KeysLit w.params es.toList)(lo:(a==sysModules)=false):GD w K mg x a:=⟨mg_of X G e,⟨es,n,hl,hk⟩,lo⟩
section
variable {X:Cx}{i:Expr}{x:Str}{a:Addr}{pos p:Pos}{ty:TE}
inductive FH(K:Frag)(a:Addr)(Q:VK)(y:V)(H:Hp):Prop |mk (z:Str)(r:Option Value)(h0:y= .str z)(h1:nsIn K a z=some r)(h2:Q (.bl r.isSome) H)
theorem yD(G:GD X.w X.K X.mg x a)(hg:Gl X x)(hi:PE X i ty)(cc:(x==("__debug__":Str))=false:=by decide):PC X .In i (.Name x p) (λO H Q=>ty O H λy H1=>FH X.K a Q y H1):=by intro ak s O H Q I h;obtain⟨es,n,hl,hk⟩:=G.ob;refine aF (hi ak s O H _ I h) λiv s1 ⟨y,H1,I1,ry,z,r,ey,e,q⟩=>gw I1 hg G.at' ?_ cc;subst ey;obtain⟨t,rfl⟩:=ry;refine wpAny_in_of (strKind_is X.prog X.w z t) G.lo (mapOf_K (prog:=X.prog) I1.bT hl hk) ?_;rw[find_K hl e];exact⟨.bl r.isSome,H1,I1.tok _,Z,q⟩
inductive FI(K:Frag)(a:Addr)(Q:VK)(y:V)(H:Hp):Prop |mk (z:Str)(u:Value)(v:V)(h0:y= .str z)(h1:nsIn K a z=some (some u))(h2:RelV v u)(h3:Q v H)
theorem yu(G:GD X.w X.K X.mg x a)(hg:Gl X x)(hi:PE X i ty)(hs:vv i)(cc:(x==("__debug__":Str))=false:=by decide):PE X (.Subscript (.Name x p) i pos) (λO H Q=>ty O H λy H1=>FI X.K a Q y H1):=by intro ak s O H Q I h;obtain⟨es,n,hl,hk⟩:=G.ob;refine xg PySem.F.slot_dict_getitem.lookup hs (gw I hg G.at' ?_ cc);refine aF (hi ak s O H _ I h) λiv s1 ⟨y,H1,I1,ry,z,u,v,ey,e,rv,q⟩=>?_;subst ey;obtain⟨t,rfl⟩:=ry;have hm:=mapOf_K (prog:=X.prog) (w:=X.w) I1.bT hl hk;exact⟨hm.typeIs,wpAny_getItem_of (strKind_is X.prog X.w z t) hm (find_K hl e) ⟨v,H1,I1.tok _,rv,q⟩⟩
end
theorem Ah{l:OpenLaw}{q:af}{loose:List Str}{XP:(aJ)->Heap->Prop}{YP:World->Heap->Prop}{d:DefRec}{K:Params->Frag}{k:Nat}{x:Str}{st:Stmt}(hn:l.most=some 63)(jM:d.params.defaults=[]) (hr:bq k callerA)(hY:∀(w:World)(h:Heap),YP w h->(K w.params).In h)(All:World->Frag->(aJ)->Prop) (F:∀(w:World)(mg:aJ)(h:Heap),(K w.params).In h->h.Ns mainGlobals mg->All w (K w.params) mg) (L:∀(w:World)(K:Frag)(mg:aJ),All w K mg->FA K mg d.name st) (hb:∀(kV doc pm:Value)(an:Option Addr)(ax ct u:Value),bindArgs (fnOf d.name d.name (dA st) (bN st) (aQ st) .none kV doc pm an ax ct) ⟨[u],[]⟩=pure [(x,u)]) (ok:∀(P:af)(w:World)(K:Frag)(mg:aJ)(ao:Heap)(f:Addr)(fd:FuncData),All w K mg->dM K d.name d.name st f fd->cF P w K mg ao cN k f fd [x] (λvs H Q _=>∃(a:Addr)(ns:List Int),vs=[.ref a]/\aH K H a (ns.map V.int)/\ns.length<=63/\∀H',Q (.bl true) H')): WalkO q loose XP YP l.row.toRowW d [] (λf vs=>PySem.call f vs):=L2.wc (n:=63) (k:=k) (x:=x) (CX:=λ_=>cN) (sp:=λw=>λvs H Q _=>∃(a:Addr)(ns:List Int),vs=[.ref a]/\aH (K w.params) H a (ns.map V.int)/\ns.length<=63/\∀H',Q (.bl true) H') hn aw jM hr hY (λw mg fa h KX G jJ=>by
 have A:=F w mg h KX G;obtain⟨f,fd,hm,Fn⟩:=(L _ _ _ A).ex;have e:fa=f:=by rw[jJ]at hm;injection (cH hm)
 subst e;refine⟨fd,λs u=>?_,λao _ _=>ok l.prog w _ mg ao fa fd A Fn⟩;obtain⟨oc,od,kV,doc,pm,an,ax,ct,bZ,rfl,lk,cb⟩:=Fn.ex;exact .of_eq (hb kV doc pm an ax ct u)) (λ_ _ a ns hl _ hS=>⟨a,ns,Z,hS,hl,λ_=>rfl⟩) λ_ _ _ _ _ z=>z
section
variable {P:af}{w:World}{K:Frag}{mg:aJ}{ao:Heap}{N:List Str}{qual:Str}{scope:Scope}{f:Addr}{cd:Value}{cl:List (Str×Addr)}{A:ai}{outer:List Env}{s:ae}{H:Hp}{E E0:XK}
end
section
variable {X:Cx}{x:Str}{p pos:Pos}{E:XK}
end
section
variable {X:Cx}{ak:List (Addr×Obj)}{O:St}{H:Hp}{s:ae}{pr:Arguments}{bd:Expr}{sc:Scope}{A6:Pos}{cl:List (Str×Addr)}{T c:Addr}{q:Str}
end
section
variable {X:Cx}{k:Nat}{x:Str}{p pos A6:Pos}{pr:Arguments}{bd:Expr}{sc:Scope}{sp:GC}{T c:Addr}{q:Str}{N:List Str}
end
section
variable {P:af}{w:World}{K:Frag}{mg:aJ}{ao:Heap}
end
end L2
namespace L2
open PySem PySem.Spec PyProof.Rows
section
variable {P:af}{w:World}{K:aa}{mg:aJ}{ao:Heap}{N:List Str}{qual:Str}{scope:Scope}{f:Addr}{cd:Value}{A:ai}{outer:List Env}{s:ae}{H:Hp}{E:XK}{ak:List (Addr×Obj)}{O:St}{H1:Hp}{s1:ae}{ex:Addr}{C:Addr}{dx:Addr}{φ:Heap->Prop}{cls:Value}{Gv:Option Addr}{h2:Heap}{vs:List Value}
theorem qs(I:Inv (cw (gc P w) P w K mg ao N qual scope f cd A outer s H E) ak O H1 s1)(hx:Heap.MadeExcOf s1.heap h2 ex cls vs)(q:E cls none H1):(cw (gc P w) P w K mg ao N qual scope f cd A outer s H E).xe (.ref ex) {s1 with heap:=h2}:=by
 obtain⟨t,e1,_⟩:=hx.there;have hf:H1 ex=none:=by cases e:H1 ex with |none=>rfl |some o=>obtain⟨ob,e2⟩:=(I.aE ex o e).there;rw[hx.new]at e2;cases e2
 have nw:s.heap.get? ex=none:=by cases e:s.heap.get? ex with |none=>rfl |some o=>obtain⟨ob,e2⟩:=I.ao.there ex o e (fH);rw[hx.new]at e2;cases e2
 have I2:=I.kept (t':=s1.toks) hx.keeps;have d9:h2.FunFrames ao (envOfC qual scope s.heap.objs.size f cd::outer):=I2.stack;have Bl:∀env∈(envOfC qual scope s.heap.objs.size f cd::outer),∀b,env.frame=some b->b∈ex::bV (envOfC qual scope s.heap.objs.size f cd::outer):=λenv he b hb=>.tail _ (j6.mpr ⟨env,he,hb⟩);have hB:(PySem.W.hideAll h2 (ex::bV (envOfC qual scope s.heap.objs.size f cd::outer))).StaysIn h2:=λb o e=>PySem.W.of_hideAll _ e;have lp:∀b o,s.heap.get? b=some o->b∉bV outer->b∉ex::bV (envOfC qual scope s.heap.objs.size f cd::outer):=λb o e hb hm=>by
  rcases cz.mp hm with rfl|hm
  ·rw[nw]at e;cases e
  obtain⟨env,he,hf⟩:=j6.mp hm;rcases cz.mp he with rfl|he
  ·have e1:s.heap.objs.size=b:=cH hf
   have h1:=bj e;rw[<-e1]at h1;exact absurd h1 (j4 _)
  ·exact hb (j6.mpr ⟨env,he,hf⟩)
 have F0:Fl P w outer H s.heap ex H1 (PySem.W.hideAll h2 (ex::bV (envOfC qual scope s.heap.objs.size f cd::outer))) h2:=by
  refine⟨I2.ao,I2.aE,λb o e n hb=>q0 _ (I2.ao.keep b o e n hb (fH)) (lp b o e hb),λb o e=>?_,λb o e hb=>?_,λb hb=>?_,nw,hf⟩
  ·obtain⟨o4,e1⟩:=(I2.aE b o e).there
   refine⟨o4,q0 _ e1 λhm=>?_⟩;rcases cz.mp hm with z|hm
   ·rw[z,hf]at e;cases e
   ·rw[I2.kL b hm]at e
    cases e
  ·obtain⟨o4,e1⟩:=I2.ao.there b o e (fH)
   exact⟨o4,q0 _ e1 (lp b o e hb)⟩
  ·obtain⟨env,he,hf⟩:=j6.mp hb
   exact I2.kL b (j6.mpr ⟨env,.tail _ he,hf⟩)
 show wpAny (model P w) (A.deeper (envOfC qual scope s.heap.objs.size f cd)) (leaving (envOfC qual scope s.heap.objs.size f cd) (.ref ex)) _ _ _;refine Ag (L:=s.heap.objs.size) I.ok.frames (PySem.W.funFrames_hide d9 Bl) Z e1 hB (PySem.W.hideAll_none _ (.head _)) Z Z λh' x1 x2=>?_;exact⟨ex,cls,none,H1,_,Z,I.os,I.bare,x1,F0.step hB x1.1 x2 d9.2.2,q⟩
end
section
variable {X:Cx} {sc:Scope}
end
end L2
set_option exponentiation.threshold 6000
namespace L2
open PySem PySem.Spec PyProof.Rows
section
variable {X:Cx}
theorem uV:cn X (.type "str") (λxs H Q=>(∃i,xs=[.int i]/\i.natAbs.log2<1920/\Q (.str (toString i)) H)\/∃z,xs=[.str z]/\Q (.str z) H):=by
 intro ak s O H xs us Q I r h;rcases h with⟨i,rfl,hz,q⟩|⟨z,rfl,q⟩
 ·obtain⟨u,rfl,t,rfl⟩:=vals1 r
  exact PySem.P.str_of_int hz ⟨.str _,H,I.tok _,⟨_,Z⟩,q⟩
 ·obtain⟨u,rfl,t,rfl⟩:=vals1 r
  exact PySem.P.str_of_str ⟨.str _,H,I,⟨_,Z⟩,q⟩
inductive Ff(K:aa)(x:V)(vs:List V)(H:Hp)(Q:VK):Prop |mk (sep:Str)(l:Addr)(zs:List Str)(h0:x= .str sep)(h1:vs=[.ref l])(h2:aH K H l (zs.map V.str))(h3:(∀z∈zs,z.length<=4000))(h4:sep.length<=8)(h5:zs.length<=1000)(h6:Q (.str (Txt.join sep zs)) H)
def sh(K:aa):V->List V->Hp->VK->Prop:=λx vs H Q=>Ff K x vs H Q
theorem zT(K:aa)(hK:X.K=K):ka X "str.join" (sh K):=by subst hK;intro ak s O H x vs v us Q I rx rv h;obtain⟨sep,l,zs,rfl,rfl,hl,hz,hs,hn,q⟩:=h;obtain⟨t,rfl⟩:=rx;obtain⟨u,rfl,ru⟩:=vals1 rv;cases(show u=Value.ref l from ru);obtain⟨its,r,pl,_⟩:=I.list hl;have AU:=sumLen_le_of_bound id 4000 zs hz;rw[List.map_id]at AU;have h1:zs.length*sep.length<=1000*8:=Nat.mul_le_mul hn hs;refine join_list (ys:=zs) pl.isList (StrsAre.of_carried (uT r)) aV λt' k=>?_;exact⟨.str _,H,I.tok _,⟨_,Z⟩,q⟩
theorem sF(K:aa)(h:X.K=K){o e:Expr}{to:TE}{t:TA}{apos bA:Pos}(ho:PE X o to)(ha:PA X [e] t) (fZ:attributeBase o "join" X.env (eval o X.env)=eval o X.env:=by rfl) (fY:((backTo bA (starEach [e] X.env)).all (λx=>!x.1)&&(backToKw bA (keywordEach [] X.env)).all (λx=>x.1.isSome) &&decide ([e].length+([]:List Keyword).length+(if([]:List Keyword).isEmpty then 0 else 1)<30))=true:=by rfl) (fW:(apos.endLine==bA.line)=true:=by rfl)(hs:starEach [e] X.env=(false,eval e X.env)::starEach [] X.env:=by rfl)(fU:(backTo bA (starEach [] X.env)).any (·.1)=false:=by rfl): PE X (.Call (.Attribute o "join" apos) [e] [] bA) (je K "str" (sh K) to t):=by subst h;exact l7 PySem.F.plainAttrs_str PySem.F.slot_str_join PySem.F.type_str_join (zT X.K rfl) ho ha fZ fY fW hs fU
theorem wu{i:Int}(h:i.natAbs<10^40):(Str.ofString (toString i)).length<=41:=by rw[PySem.ofString_length];exact int_text_length_le10 (k:=40) aw h
theorem tE{i:Int}(h:i.natAbs<10^40):i.natAbs.log2<1920:=by
 by_cases h0:i.natAbs=0
 ·rw[h0];decide
 ·exact(Nat.log2_lt h0).mpr (Nat.lt_trans h aw)
theorem uU:∀(l:List (Str×Tok)),Vals ((l.map (·.1)).map V.str) (strValues l) |[]=>.nil |(z,t)::l=>.cons ⟨t,Z⟩ (uU l)
theorem split_len(x y:Str):(Txt.split x y).length<=x.length+2:=by
 unfold Txt.split;split
 ·simp
 ·split
  ·simp
  ·have e1:=StrLaws.occ_length_le x y 0 x.length (x.length+1)
   rw[length_partsBetween];omega
inductive F7(x:V)(vs:List V)(H:Hp)(Q:VK):Prop |mk (z y:Str)(h0:x= .str z)(h1:vs=[.str y])(h2:(y.length==0)=false)(h3:z.length+2<=sizeLine)(h4:∀p H',Nw H H' p (.lst ((Txt.split z y).map V.str))->Q (.ref p) H')
def sg:V->List V->Hp->VK->Prop:=λx vs H Q=>F7 x vs H Q
theorem zS:ka X "str.split" sg:=by
 intro ak s O H x0 vs v us Q I rx rv h;obtain⟨x,y,rfl,rfl,hy,hz,q⟩:=h;obtain⟨t,rfl⟩:=rx;obtain⟨u0,rfl,u,rfl⟩:=vals1 rv;have key:∀(l:List (Str×Tok))(k:Nat),l.map (·.1)=Txt.split x y->EP X ak O Q (.ref s.heap.objs.size) {s with toks:=k,heap:=s.heap.push {cls:=.type "list",data:=.seq (strValues l).toArray}}:=λl k e=>by have nw:Nw H (upd H s.heap.objs.size (.lst ((Txt.split x y).map V.str))) s.heap.objs.size (.lst ((Txt.split x y).map V.str)):=.of (I.aE.fresh (br _));refine⟨.ref s.heap.objs.size,_,I.laid (t':=k) (o:=.lst ((Txt.split x y).map V.str)) (λb ob q=>bu _ q) (br _) ?_,Z,q _ _ nw⟩;have:=split_len x y;exact⟨by rw[bz];omega,_,0,by rw[<-e];exact uU l,cA _ Z⟩
 cases h1:(decide (x.length<y.length)||decide (Builtin.Str.strKind x<Builtin.Str.strKind y))
 ·cases hf:(Builtin.Str.occurrences x y 0 x.length (x.length+1)).isEmpty
  ·have e1:=StrLaws.occ_length_le x y 0 x.length (x.length+1)
   refine kj F.slot_str_split (typeIs_str _ _ _) F.entry_str_split (F.args_str_split_2 _ _) (meets_str_split_sep x y t u h1 hy hf bJ (by rw[length_partsBetween];omega)) ?_;show wants _ _ _ {s with toks:=_,heap:=s.heap.push {cls:=.type "list",data:=.seq (strsFrom s.toks (Builtin.Str.partsBetween x (Builtin.Str.occurrences x y 0 x.length (x.length+1)) y.length)).toArray}};rw[strsFrom_eq];exact key (numbered s.toks _) _ ((numbered_texts _ _).trans ((bf (vH h1)).trans (bf (vH hf))).symm)
  ·exact kj F.slot_str_split (typeIs_str _ _ _) F.entry_str_split (F.args_str_split_2 _ _) (meets_str_split_not_found x y t u h1 hy hf) (key [(x,t)] s.toks ((bf (vH h1)).trans (bc hf)).symm)
 ·exact kj F.slot_str_split (typeIs_str _ _ _) F.entry_str_split (F.args_str_split_2 _ _) (meets_str_split_cannot_occur x y t u h1) (key [(x,t)] s.toks (bc h1).symm)
theorem yA(K:aa)(h:X.K=K){o e:Expr}{to:TE}{t:TA}{apos bA:Pos}(ho:PE X o to)(ha:PA X [e] t) (fZ:attributeBase o "split" X.env (eval o X.env)=eval o X.env:=by rfl) (fY:((backTo bA (starEach [e] X.env)).all (λx=>!x.1)&&(backToKw bA (keywordEach [] X.env)).all (λx=>x.1.isSome) &&decide ([e].length+([]:List Keyword).length+(if([]:List Keyword).isEmpty then 0 else 1)<30))=true:=by rfl) (fW:(apos.endLine==bA.line)=true:=by rfl)(hs:starEach [e] X.env=(false,eval e X.env)::starEach [] X.env:=by rfl)(fU:(backTo bA (starEach [] X.env)).any (·.1)=false:=by rfl): PE X (.Call (.Attribute o "split" apos) [e] [] bA) (je K "str" sg to t):=by subst h;exact l7 PySem.F.plainAttrs_str PySem.F.slot_str_split PySem.F.type_str_split zS ho ha fZ fY fW hs fU
inductive FE(K:aa)(t1 t2:TG)(v:V)(O:St)(H:Hp)(Q:St->Hp->Prop):Prop |mk (a:Addr)(x:V)(xs:List V)(h0:v= .ref a)(h1:aH K H a (x::xs))(h2:xs.length<=16000)(h3:∀p H',Nw H H' p (.lst xs)->t1 x O H' λσ1 H1=>t2 (.ref p) σ1 H1 Q)
def CI(K:aa)(t1 t2:TG):TG:=λv O H Q=>FE K t1 t2 v O H Q
theorem yi(K:aa)(hK:X.K=K){e1 e2:Expr}{k:Nat}{t1 t2:TG}{sp pos:Pos}(hc:X.calm=true)(h1:PG X e1 t1)(h2:PG X e2 t2) (hs:assignEach [e1,.Starred e2 sp] X.env=[(false,assign e1 X.env),(true,assign e2 X.env)]:=by rfl):PG X (.Tuple [e1,.Starred e2 sp] k pos) (CI K t1 t2):=by subst hK;intro ak s O H v u Q I r hw;obtain⟨a,x,xs,e,hq,hl,hw⟩:=hw;subst e;cases r;obtain⟨its,rv,ht,hz⟩:=I.list hq;have hh:X.A.handled=none:=I.ok.hd hc;have jK:=ht.isList;cases rv with |cons r1 rr=>
 rename_i ux cO;have hlen:=rr.length;have cP:a≠s.heap.objs.size:=by obtain⟨o,ho,_⟩:=jK;exact cy (bj ho)
 rw[assign_Tuple];refine au (wpAny_standAt ?_);unfold unpack;rw[hs];refine au (eu ?_);show wpAny _ _ (unpackItems (.ref a) 2 (some 1)) _ _ _;unfold unpackItems;refine au ?_;unfold notIterableAtAll;refine au (wpAny_specialOf jK.typeIs slot_list_iter.lookup ?_);refine aZ ?_;simp only[Bool.false_eq_true,if_false];refine au (eu (wpAny_pyIter_list jK ?_));have sz:(ux::cO).toArray.size=xs.length+1:=by rw[bQ,gf,hlen]
 refine au (eu (PySem.W.kun_draw cP 1 0 _ _ ⟨_,cA _ Z,Z,Z⟩ (jK.push _) bJ λh₁ oP tW=>?_));have uc:h₁.IsList a (ux::cO).toArray:=(jK.push _).extBut tW.extBut cP;rw[Nat.zero_add]at oP;have Bh:=oP;obtain⟨oi,fw,_⟩:=Bh;have B7:=uc;obtain⟨ol,AY,_⟩:=B7;rw[bf (by simp)];refine au (eu (PySem.W.kun_collect (s:={s with heap:=h₁}) (T:="list_iterator") (.inr (.inr (.inl rfl))) (Walks.list (A:=X.A.in1) hh s.heap.objs.size a cP (ux::cO).toArray) (λj u st=>st.1.typeIs) (k:=1) bJ ⟨oP,uc⟩ (bj fw) (bj AY) (λh₂ tk hk=>?_) (by rw[mx];omega)));have ea:(ux::cO).toArray.toList.drop 1=cO:=by simp
 rw[ea];show wpAny _ _ (if cO.length<2-1-1 then _ else _) _ _ _;rw[bf bJ];show wpAny _ _ (newList (cO.take (cO.length-(2-1-1)))>>=λd=>pure ((ux::cO).toArray.toList.take 1++[d]++cO.drop (cO.length-(2-1-1)))) _ _ _;have eb:cO.take (cO.length-(2-1-1))=cO:=List.take_of_length_le bJ;have ec:cO.drop (cO.length-(2-1-1))=[]:=List.drop_eq_nil_of_le bJ;rw[eb,ec];have he:Heap.ExtBut s.heap.objs.size s.heap h₂:=λb o hb e=>hk b o hb (tW.extBut b o hb (bu _ e));refine au (wpAny_newList (s:={s with heap:=h₂,toks:=tk}) (aZ ?_) ?_)
 ·have I2:Inv X ak O H {s with heap:=h₂,toks:=tk}:=I.kept (t':=tk) λb o e=>he b o (cy (bj e)) e
  have nw:Nw H (upd H h₂.objs.size (.lst xs)) h₂.objs.size (.lst xs):=.of (I2.aE.fresh (br _));have I3:Inv X ak O (upd H h₂.objs.size (.lst xs)) {s with heap:=h₂.push {cls:=.type "list",data:=.seq cO.toArray},toks:=tk}:=I2.laid (t':=tk) (o:=.lst xs) (λb ob q=>bu _ q) (br _) ⟨by rw[gf]at hz;omega,cO,0,rr,cA _ rfl⟩;show wpAny _ _ (assignInOrder (assign e1 X.env::[assign e2 X.env]) (ux::[Value.ref h₂.objs.size])) _ _ _;refine assignInOrder_cons (aF (h1 ak _ O _ _ _ _ I3 r1 (hw _ _ nw)) λ_ s1 ⟨σ1,H1,I1,q1⟩=>?_);refine assignInOrder_cons (aF (h2 ak s1 σ1 H1 (.ref h₂.objs.size) _ _ I1 Z q1) λ_ s2 ⟨σ2,H2,I2,q2⟩=>?_);exact assignInOrder_nil ⟨σ2,H2,I2,q2⟩
 ·rw[<-hlen,mx];omega
end
end L2
namespace Tm
open PySem PySem.Spec PyProof.Rows PySem.NumText
def numS(i:Int):Str:=Str.ofString (toString i)
end Tm
namespace Lw
open PySem PySem.Spec PyProof.Rows L2
def top(i:Nat):Stmt:=PySem.Challenge.pw_glidequeue_k60_desks_made_of_any_things.main.body.getD i (.Pass ⟨0,0,0,0⟩)
section
variable {P:af}{w:World}{K:aa}{mg:aJ}{ao:Heap}
inductive EF(vs:List V)(H:Hp)(Q:VK):Prop |mk (p:_)(many:_)(h0:vs=[.ref p,.int many])(h1:dh H p)(h2:1<=many)(h3:many<=10^40)(h4:∀d H',0<=d->d<many->ba p H H'->Q (.int d) H')
def fi:Sp:=λvs H Q _=>EF vs H Q
abbrev mU:Stmt:=top 106
theorem rj:bw ["_law_bag_here","_law_many","_law_digit","_law_number","_law_room"] ["_law_bag_here","_law_many"] (aQ mU):=bR bC
theorem yR(F:FA K mg "_law_take" mU)(B:bI mg):aW P w K mg ao "_law_take" 1 fi:=by
 refine F.has rj (λvs H Q E h=>?_) (λ_ _ _ _ _ _=>g9 λ_ _=>rfl) (λf ax A outer s H vs Q E hr h=>?_)
 ·obtain⟨p,many,rfl,_⟩:=h
  rfl
 ·obtain⟨p,many,rfl,⟨c,m,hp,ok⟩,h1,h2,k⟩:=h
  obtain⟨c0,m0,m1⟩:=id ok;have nd:=rj.nd;refine⟨_,(aI (bG (bS yK (px K (pv 0) aD) aD (cj _)) (aI (pS 2 nd (bh iI (px K (pv 0) aD) (pv 1))) (aI (kX (bh sJ (px K (pv 0) aD) (pv 1)) (sv (pv 0) aD set_list)) (aY (bp (pv 2))))) bF) (aI (pS 3 nd aD) (aI (pS 4 nd aD) (aI (y9 PassesOwn.never (bS nY (pv 4) (pv 1) (cj _)) (aI (kX (bh iI (bh l8 (bh dz (bh fR (px K (pv 0) aD) aD) aD) aD) aD) (sv (pv 0) aD set_list)) (aI (pS 3 nd (bh dz (bh fR (pv 3) aD) (bh iI (bh fR (bh sJ (px K (pv 0) aD) aD) aD) aD))) (aY (pS 4 nd (bh fR (pv 4) aD)))))) (aY (bp (bh iI (pv 3) (pv 1)))))))),?_⟩;refine⟨_,Z,.inl ⟨p,_,0,.int c,Z,Z,aH.of hp,Z,_,_,Z,Z,_,Z,?_⟩⟩;refine cD (λhc=>?_) (λ_=>?_)
  ·refine⟨_,Z,.inl ⟨p,_,0,.int c,Z,Z,aH.of hp,Z,_,Z,_,_,Z,Z,h1,?_⟩⟩
   refine⟨_,Z,.inl ⟨p,_,0,.int c,Z,Z,aH.of hp,Z,_,Z,_,_,Z,Z,⟨h1,qu aV h2⟩,?_⟩⟩;refine⟨_,Z,p,_,0,0,Z,Z,hp,Z,?_⟩;refine⟨_,Z,?_⟩;exact k _ _ (mH _ aV) (mI _ aV) (ba.upd ⟨Int.ediv_nonneg c0 aV,m0,m1⟩)
  ·refine wb (λO H2=>∃(v:Option V)(n r:Int),O=[some (.ref p),some (.int many),v,some (.int n),some (.int r)]/\ba p H H2/\1<=r) (λO _=>match O with|[_,_,_,_,some (.int r)]=>(many-r).toNat|_=>0) ?_ ?_ ?_
   ·exact⟨none,0,1,Z,.refl ⟨c,m,hp,ok⟩,iB _⟩
   ·rintro O H2 ⟨v,n,r,rfl,bx,fT⟩
    obtain⟨c',m',lE,DZ,G8,G7⟩:=id bx.aS;refine⟨_,Z,_,Z,_,_,Z,Z,_,Z,?_⟩;refine cD (λhc=>?_) (λhc=>?_)
    ·have cP:r<many:=of_decide_eq_true hc
     refine⟨_,Z,.inl ⟨p,_,1,.int m',Z,Z,aH.of lE,Z,_,_,Z,Z,.of_right (gM aw aw),_,_,Z,Z,_,_,Z,Z,⟨aw,aw,?_⟩,_,_,Z,Z,(by show(0:Int)<2147483629;decide),?_⟩⟩
     ·have p9:(2:Nat)^64=18446744073709551616:=by decide
      rw[p9];lia
     refine⟨_,Z,p,_,1,1,Z,Z,lE,Z,?_⟩;have g0:0<=((m'*48271+7919)^(3:Int).toNat)%2147483629:=mH _ aw;have g1:((m'*48271+7919)^(3:Int).toNat)%2147483629<2147483629:=mI _ aw;have E1:ba p H (L2.upd H2 p (.lst [.int c',.int (((m'*48271+7919)^(3:Int).toNat)%2147483629)])):=bx.trans (.upd ⟨DZ,g0,Int.lt_trans g1 aw⟩);refine⟨_,Z,_,_,Z,Z,.of_right (gM aw aw),_,Z,.inl ⟨p,_,1,.int _,Z,Z,aH.of bO,Z,_,_,Z,Z,⟨aw,qu aw aw⟩,_,_,Z,Z,.of_right (gM aw aw),_,_,Z,Z,(by show(0:Int)<1073741789;decide),_,_,Z,Z,?_⟩⟩;refine⟨_,Z,_,_,Z,Z,.of_right (gM aw aw),?_⟩;refine⟨⟨v,_,_,Z,E1,?_⟩,?_⟩
     ·lia
     ·show(many-r*1073741789).toNat<(many-r).toNat
      lia
    ·refine⟨_,Z,_,Z,_,_,Z,Z,h1,?_⟩
     exact k _ _ (mH _ aV) (mI _ aV) bx
   ·rintro O H2 Q1 Q2 hq ⟨v1,e1,v2,e2,i,j,e3,e4,kk,e5,q⟩
    exact⟨v1,e1,v2,e2,i,j,e3,e4,kk,e5,hq _ _ q⟩
inductive F1(K:aa)(vs:List V)(H:Hp)(Q:VK):Prop |mk (a:Addr)(ns:List Int)(at':Int)(h0:vs=[.ref a,.int at'])(h1:aH K H a (ns.map V.int))(h2:ns.length<=63)(h3:0<=at')(h4:at'<=100)(h5:∀p H',H p=none->dh H' p->aA H H'->Q (.ref p) H')
def qY(K:aa):Sp:=λvs H Q _=>F1 K vs H Q
abbrev nD:Stmt:=top 105
theorem rP:bw ["_law_script","_law_at","_law_cell","_law_mix","_law_k"] ["_law_script","_law_at"] (aQ nD):=bR bC
theorem tQ{ns:List Int}{j:Nat}(h:j<ns.length):∃z,fD (ns.map V.int) (j:Int)=some (.int z):=⟨ns[j],Eb (by simp[h])⟩
theorem zo(F:FA K mg "_law_bag" nD)(B:bI mg):aW P w K mg ao "_law_bag" 1 (qY K):=by
 refine F.has rP (λvs H Q E h=>?_) (λ_ _ _ _ _ _=>g9 λ_ _=>rfl) (λf ax A outer s H vs Q E hr h=>?_)
 ·obtain⟨a,ns,at',rfl,_⟩:=h
  rfl
 ·obtain⟨a,ns,at',rfl,hS,hlen,h0,h1,k⟩:=h
  obtain⟨j,rfl⟩:∃j:Nat,at'=(j:Int):=⟨at'.toNat,aV⟩;have nd:=rP.nd;refine⟨_,(aI (pS 2 nd aD) (aI (jl (bG (bS nY (pv 1) (dG K B (aq (pv 0) az)) (cj _)) (aY (pS 2 nd (bX (x:="abs") DY Z (B.at "abs") PyProof.Rows.boot_abs (aq (px K (pv 0) (pv 1)) az)))) bF)) (aI (pS 3 nd (bh dz (bh dz (bh fR (bh fR aD (pv 1)) (pv 1)) (bh fR aD (pv 1))) aD)) (aI (sk PassesOwn.never Z (kY Z (B.at "range") (aq (bX (x:="min") (uW rfl) rfl (B.at "min") PyProof.Rows.boot_min (aq (dG K B (aq (pv 0) az)) (aq aD az))) az)) (cg 4 nd) (aY (pS 3 nd (bh iI (bh l8 (bh dz (bh dz (bh fR (pv 3) aD) (bh iI (px K (pv 0) (pv 4)) aD)) (bh fR (pv 4) (pv 4))) aD) aD)))) (aI (jl (bG (bS nY (pv 2) (bh l8 aD aD) (cj _)) (aY (pS 2 nd aD)) bF)) (aY (bp (eH (aq (pv 2) (aq (pv 3) az)))))))))),?_⟩;refine⟨λO H'=>H'=H/\∃c:Int,O=[some (.ref a),some (.int (j:Int)),some (.int c),none,none]/\0<=c,?_,?_⟩
  ·refine⟨_,Z,_,Z,a,_,Z,.inl hS,_,_,Z,Z,_,Z,?_⟩
   refine cD (λhc=>?_) (λ_=>?_)
   ·have hj:(j:Int)<((ns.map V.int).length:Int):=of_decide_eq_true hc
    rw[bz]at hj;obtain⟨z,hz⟩:=tQ (ns:=ns) (j:=j) aV;refine⟨_,Z,_,Z,.inl ⟨a,_,_,_,Z,Z,hS,hz,z,Z,?_⟩⟩;exact⟨Z,_,Z,by split<;>lia⟩
   ·exact⟨Z,0,Z,iB _⟩
  rintro O H' ⟨rfl,c,rfl,c0⟩;refine⟨_,Z,_,_,Z,Z,.of_left (gM aw aw),_,Z,_,_,Z,Z,.of_right (gM aV aV),_,Z,_,_,Z,Z,.of_left (gM aw aw),_,_,Z,Z,_,_,Z,Z,?_⟩;refine⟨_,Z,a,_,Z,.inl hS,_,_,Z,_,Z,?_,?_,?_⟩
  ·split<;>lia
  ·split<;>(try rw[bz])<;>lia
  refine uB (Pv:=λi O H2=>H2=H'/\∃(m:Int)(v:Option V),O=[some (.ref a),some (.int (j:Int)),some (.int c),some (.int m),v]/\0<=m/\m<2147483648) ?_ ?_ ?_
  ·refine⟨Z,_,none,Z,?_,?_⟩
   ·have:(0:Int)<=(j:Int)*(j:Int):=Int.mul_nonneg aV aV
    rw[Int.mul_assoc];lia
   ·have:(j:Int)*(j:Int)<=100*100:=Int.mul_le_mul aV aV aV aV
    rw[Int.mul_assoc];lia
  ·rintro i O H2 hi ⟨rfl,m,v,rfl,m0,m1⟩
   have Br:i<ns.length:=by rw[bz]at hi;split at hi<;>lia
   obtain⟨z,hz⟩:=tQ (ns:=ns) (j:=i) Br;rw[<-Int.zero_add (i:Int)]at hz;have AE:0<=z%2147483647:=mH _ aw;have AB:z%2147483647<2147483647:=mI _ aw;have Bm:(0:Int)<=(0+(i:Int))*(0+(i:Int)):=Int.mul_nonneg aV aV;have Bn:(0+(i:Int))*(0+(i:Int))<=100*100:=Int.mul_le_mul aV aV aV aV;refine⟨_,Z,_,_,Z,Z,.of_right (gM aw aw),_,Z,_,Z,.inl ⟨a,_,_,_,Z,Z,hS,hz,_,_,Z,Z,(by show(0:Int)<2147483647;decide),_,_,Z,Z,_,Z,_,Z,_,_,Z,Z,.of_right (gM aV aV),_,_,Z,Z,_,_,Z,Z,⟨aw,aw,?_⟩,_,_,Z,Z,(by show(0:Int)<2147483629;decide),?_⟩⟩
   ·have p9:(2:Nat)^64=18446744073709551616:=by decide
    rw[p9];generalize(0+(i:Int))*(0+(i:Int))=ii at Bm Bn⊢;generalize z%2147483647=zz at AE AB⊢
    lia
   ·exact⟨Z,_,_,Z,mH _ aw,Int.lt_trans (mI _ aw) aw⟩
  ·rintro O H2 ⟨rfl,m,v,rfl,m0,m1⟩
   refine⟨λO H3=>H3=H2/\∃c:Int,O=[some (.ref a),some (.int (j:Int)),some (.int c),some (.int m),v]/\0<=c,?_,?_⟩
   ·refine⟨_,Z,_,_,Z,Z,⟨aw,aw,aw⟩,_,_,Z,Z,_,Z,?_⟩
    refine cD (λhc=>?_) (λ_=>?_)
    ·exact⟨Z,0,Z,iB _⟩
    ·exact⟨Z,c,Z,c0⟩
   rintro O H3 ⟨rfl,c,rfl,c0⟩;refine⟨_,Z,_,Z,(by show 2<=sizeLine;decide),λp H4 nw=>?_⟩;exact k p H4 nw.no ⟨c,m,nw.at',c0,m0,m1⟩ nw.same
def jE(T:String):Bool:=dP T "int"&& !dP T "bool"
inductive EV(K:aa)(vs:List V)(H:Hp)(Q:VK):Prop |mk (v:_)(T:_)(h0:vs=[v])(h1:ij K H v T)(h2:Q (.bl (jE T)) H)
def ji(K:aa):Sp:=λvs H Q _=>EV K vs H Q
abbrev nr:Stmt:=top 107
theorem rG:bw ["_law_thing"] ["_law_thing"] (aQ nr):=bR bC
theorem zd(F:FA K mg "_law_is_whole" nr)(B:bI mg):aW P w K mg ao "_law_is_whole" 1 (ji K):=by
 refine F.has rG (λvs H Q E h=>?_) (λ_ _ _ _ _ _=>eY λ_=>rfl) (λf ax A outer s H vs Q E hr h=>?_)
 ·obtain⟨v,T,rfl,_⟩:=h
  rfl
 ·obtain⟨v,T,rfl,ty,k⟩:=h
  have nd:=rG.nd;refine⟨_,(aY (bp (jq (eJ K B (aq (pv 0) (aq (dX (x:="int") (v:=.ty "int") Z (B.at "int") PyProof.Rows.boot_int rfl) az))) (jn (sy (eJ K B (aq (pv 0) (aq (dX (x:="bool") (v:=.ty "bool") rfl (B.at "bool") PyProof.Rows.boot_bool rfl) az)))))))),?_⟩;refine⟨_,Z,.inl ⟨_,T,"int",_,Z,ty,aw,Z,_,Z,?_⟩⟩;unfold jE at k;refine cD (λhc=>?_) (λhc=>?_)
  ·refine⟨_,Z,.inl ⟨_,T,"bool",_,Z,ty,aw,Z,_,Z,?_⟩⟩
   rw[hc,fe]at k;exact k
  ·rw[ku.mpr hc,cS]at k
   exact k
abbrev ny:Stmt:=top 14
theorem rK:bw ["thing"] ["thing"] (aQ ny):=bR bC
theorem zi(F:FA K mg "is_whole" ny)(B:bI mg):aW P w K mg ao "is_whole" 1 (ji K):=by
 refine F.has rK (λvs H Q E h=>?_) (λ_ _ _ _ _ _=>eY λ_=>rfl) (λf ax A outer s H vs Q E hr h=>?_)
 ·obtain⟨v,T,rfl,_⟩:=h
  rfl
 ·obtain⟨v,T,rfl,ty,k⟩:=h
  have nd:=rK.nd;refine⟨_,(aY (bp (jq (eJ K B (aq (pv 0) (aq (dX (x:="int") (v:=.ty "int") Z (B.at "int") PyProof.Rows.boot_int rfl) az))) (jn (sy (eJ K B (aq (pv 0) (aq (dX (x:="bool") (v:=.ty "bool") rfl (B.at "bool") PyProof.Rows.boot_bool rfl) az)))))))),?_⟩;refine⟨_,Z,.inl ⟨_,T,"int",_,Z,ty,aw,Z,_,Z,?_⟩⟩;unfold jE at k;refine cD (λhc=>?_) (λhc=>?_)
  ·refine⟨_,Z,.inl ⟨_,T,"bool",_,Z,ty,aw,Z,_,Z,?_⟩⟩
   rw[hc,fe]at k;exact k
  ·rw[ku.mpr hc,cS]at k
   exact k
def gs:List ah:=[.none,.bool true,.bool false,.str "",.str "1",.str "a",.tuple [],.tuple [.int 1],.list [],.list [.int 1],.tuple [.int 1,.int 2],.tuple [.none],.str "1/2",.int (-1),.int 0,.int 1,.int (10^(39:Int).toNat),.int (-(10^(39:Int).toNat))]
theorem zv:∀d∈gs,dg 1 d:=hJ.mpr ⟨bC,bC⟩
inductive EL(K:aa)(vs:List V)(H:Hp)(Q:VK):Prop |mk (p:_)(h0:vs=[.ref p])(h1:dh H p)(h2:∀v d H',AD K p 1 H' v d->d∈gs->ba p H H'->Q v H')
def jh(K:aa):Sp:=λvs H Q _=>EL K vs H Q
abbrev fk:Stmt:=top 108
theorem rq:bw ["_law_bag_here","_law_some"] ["_law_bag_here"] (aQ fk):=bR bC
def lg:Expr:=match(bN fk)with| .Assign _ e _::_=>e|_=>.Constant .none 0 ⟨0,0,0,0⟩
theorem zx:lit 4 lg=some (.list gs):=by kernel_rfl
def t7(e:Expr):List Stmt:=match bN fk with| .Assign ts _ p::r=>.Assign ts e p::r|r=>r
theorem zW:t7 lg=bN fk:=by kernel_rfl
theorem zw{f:Addr}{ax:Value}{A:ai}{outer:List Env}{s:ae}{H:Hp}{p:Addr}{Q:VK}{E:XK}(e:Expr)(hr:bq 1 (A.deeper (envOfC "_law_odd_thing" (aQ fk) s.heap.objs.size f ax))) (he:pU (cw cN P w K mg ao ["_law_bag_here","_law_some"] "_law_odd_thing" (aQ fk) f ax A outer s H E).ft e (jd K (.list gs))) (eN:∀x l,swapsWith e (some x) l (cw cN P w K mg ao ["_law_bag_here","_law_some"] "_law_odd_thing" (aQ fk) f ax A outer s H E).ft.env=pure false) (B:bI mg)(cu:aW P w K mg ao "_law_take" 1 fi)(bg:dh H p)(k:∀v d H',AD K p 1 H' v d->d∈gs->ba p H H'->Q v H'): ∃t,bW (cw cN P w K mg ao ["_law_bag_here","_law_some"] "_law_odd_thing" (aQ fk) f ax A outer s H E).ft (t7 e) t/\t {nx:=λ_ H'=>Q .aK H',rt:=Q} (start ["_law_bag_here","_law_some"] [.ref p]) H:=by
 have nd:=rq.nd;refine⟨_,(aI (nS (i:=1) nd Z (Or.inl Z) he.out (eN _ _)) (aY (bp (px K (pv 1) (pf cu hr (aq (pv 0) (aq aD az))))))),?_⟩;intro l H1 s1 r1;have b1:ba p H H1:=.bL bg s1;have r2:RD K (del H1 p) l (.list gs):=RD.mono (CM bg.ne) _ r1;refine⟨_,Z,_,Z,p,18,Z,b1.aS,aw,aw,λi H2 i0 i1 b2=>?_⟩;have r3:RD K (del H2 p) l (.list gs):=RD.mono b2.sd _ r2;obtain⟨a,xs,rfl,hx,hd⟩:=r3.lst_inv;have hl:=hd.length;have hi:i.toNat<gs.length:=by show i.toNat<18;omega
 obtain⟨y,ey,ry⟩:=hd.get i.toNat (eA hi);refine .inl ⟨a,xs,i,y,Z,Z,hx.go cK,?_,?_⟩
 ·exact eX i0 ey
 ·exact k _ _ _ ⟨ry,zv _ (mG hi)⟩ (mG hi) (b1.trans b2)
theorem yX(F:FA K mg "_law_odd_thing" fk)(B:bI mg)(cu:aW P w K mg ao "_law_take" 1 fi):aW P w K mg ao "_law_odd_thing" 2 (jh K):=by
 refine F.has rq (λvs H Q E h=>?_) (λ_ _ _ _ _ _=>eY λ_=>rfl) (λf ax A outer s H vs Q E hr h=>?_)
 ·obtain⟨p,rfl,_⟩:=h
  rfl
 ·obtain⟨p,rfl,bg,k⟩:=h
  rw[<-zW];exact zw lg hr (sD K Z 4 lg _ zx) (λ_ _=>rfl) B cu bg k
theorem gm:dP "tuple" "tuple"=true:=by decide
theorem qt(d:ah):(∃i,d= .int i/\jE (gn d)=true)\/(jE (gn d)=false/\∀i,d≠ .int i):=by cases d with |int i=>exact .inl ⟨i,Z,by simp[gn];decide⟩ |_=>exact .inr ⟨by simp[gn];decide,λ_ z=>nomatch z⟩
theorem gR(d:ah):(∃ds,d= .tuple ds)\/(dP (gn d) "tuple"=false/\∀ds,d≠ .tuple ds):=by cases d with |tuple ds=>exact .inl ⟨ds,Z⟩ |_=>exact .inr ⟨by simp[gn];decide,λ_ z=>nomatch z⟩
def bB(lo hi:Int):ah->Bool | .int i=>decide (lo<=i)&&decide (i<=hi) |_=>false
theorem tR{lo hi:Int}{d:ah}(h:∀i,d≠ .int i):bB lo hi d=false:=by cases d<;>first|rfl|exact absurd rfl (h _)
inductive EE(K:aa)(vs:List V)(H:Hp)(Q:VK):Prop |mk (v:_)(d:_)(lo:_)(hi:_)(h0:vs=[v,.int lo,.int hi])(h1:RD K H v d)(h2:Q (.bl (bB lo hi d)) H)
def jf(K:aa):Sp:=λvs H Q _=>EE K vs H Q
abbrev mT:Stmt:=top 15
theorem rh:bw ["thing","low","high"] ["thing","low","high"] (aQ mT):=bR bC
theorem yQ(F:FA K mg "is_whole_within" mT)(B:bI mg)(Bi:aW P w K mg ao "is_whole" 1 (ji K)):aW P w K mg ao "is_whole_within" 2 (jf K):=by
 refine F.has rh (λvs H Q E h=>?_) (λ_ _ _ _ _ _=>jW λ_ _ _=>rfl) (λf ax A outer s H vs Q E hr h=>?_)
 ·obtain⟨v,d,lo,hi,rfl,_⟩:=h
  rfl
 ·obtain⟨v,d,lo,hi,rfl,rd,k⟩:=h
  have nd:=rh.nd;refine⟨_,(aY (bp (jq (pf Bi hr (aq (pv 0) az)) (jn (sE l9 l9 (pv 1) (pv 0) (pv 2)))))),?_⟩;refine⟨_,Z,_,_,Z,rd.ty,_,Z,?_⟩;rcases qt d with⟨i,rfl,e⟩|⟨e,hn⟩
  ·cases rd.int_inv
   rw[e];refine bU ?_;have k:Q (.bl (decide (lo<=i)&&decide (i<=hi))) H:=k;refine⟨_,Z,_,Z,_,_,Z,Z,_,Z,?_⟩;refine cD (λhc=>?_) (λhc=>?_)
   ·have dH:decide (lo<=i)=true:=hc
    rw[dH,fe]at k;exact⟨_,Z,_,_,Z,Z,k⟩
   ·have dH:decide (lo<=i)=false:=ku.mpr hc
    rw[dH,cS]at k;exact k
  ·rw[e]
   refine bK ?_;rw[tR hn]at k;exact k
def fv:ah->Bool | .tuple ds=>(ds.length==2||ds.length==3)&&ds.all (bB 1 100) |_=>false
def ck:ah->Bool | .tuple [r,a,b,c,t]=>fv r&&bB 1 100 t&&[a,b,c].all (bB 1 50) |_=>false
theorem tU(n:Nat):jF (.int n) [.int 2,.int 3]=(n==2||n==3):=by
 show((2:Int)==n||((3:Int)==n||false))=_;rw[Bool.or_false];congr 1
 ·rw[iC];simp;omega
 ·rw[iC];simp;omega
inductive EY(f:ah->Bool)(K:aa)(vs:List V)(H:Hp)(Q:VK):Prop |mk (v:_)(d:_)(h0:vs=[v])(h1:RD K H v d)(h2:∀H',aA H H'->Q (.bl (f d)) H')
def gW(f:ah->Bool)(K:aa):Sp:=λvs H Q _=>EY f K vs H Q
abbrev nE:Stmt:=top 23
theorem rQ:bw ["thing"] ["thing"] (aQ nE):=bR bC
theorem zp(F:FA K mg "are_rails" nE)(B:bI mg)(g1:GT K mg "AXES" [.int 2,.int 3])(C0:GV mg "LONGEST_RAIL" (.int 100))(iO:aW P w K mg ao "is_whole_within" 2 (jf K)):aW P w K mg ao "are_rails" 3 (gW fv K):=by
 refine F.has rQ (λvs H Q E h=>?_) (λ_ _ _ _ _ _=>eY λ_=>rfl) (λf ax A outer s H vs Q E hr h=>?_)
 ·obtain⟨v,d,rfl,_⟩:=h
  rfl
 ·obtain⟨v,d,rfl,rd,k⟩:=h
  have nd:=rQ.nd;obtain⟨aX,C4,xk⟩:=g1;refine⟨_,(aI (bG (PW.pt (fo (dw (d7 (eJ K B (aq (pv 0) (aq (dX (x:="tuple") (v:=.ty "tuple") Z (B.at "tuple") gP rfl) az))))) (fO (bS (sN K rfl) (dG K B (aq (pv 0) az)) (cT (x:="AXES") rfl C4) (by with_unfolding_all rfl))))) (aY (bp dF)) bF) (aY (bp (bX (x:="all") (iU K Z Z) Z (B.at "all") kn (aq (eI (N:=["rail"]) (js:=[none]) rfl rfl rfl (gZ K rfl (pv 0)) (λ_ _ _ _ _=>(cg 0 (iL _))) (λ_ _ _ _ _=>eE) (λ_ _ _ _ _=>(pf iO hr (aq (pv 0) (aq aD (aq (cT (x:="LONGEST_RAIL") rfl C0) az)))))) az))))),?_⟩;rcases gR d with⟨ds,rfl⟩|⟨ht,hn⟩
  ·refine⟨_,Z,.inl ⟨_,_,"tuple",true,Z,rd.ty,aw,gm,_,Z,bK ?_⟩⟩
   obtain⟨p,xs,rfl,hx,hd⟩:=rd.cC;have hl:=hd.length;refine⟨_,Z,p,_,Z,.inr hx,aX,_,Z,.inr (xk H),Z,Z,_,Z,?_⟩;have k:∀H',aA H H'->Q (.bl ((ds.length==2||ds.length==3)&&ds.all (bB 1 100))) H':=k;show if(!jF (.int xs.length) [.int 2,.int 3])=true then _ else _;rw[tU,hl];cases ie:(ds.length==2||ds.length==3)with |false=>rw[ie,cS]at k;exact bU (k H (aA.refl _)) |true=>
    rw[ie,fe]at k;refine bK ?_;have l3:ds.length<=3:=by rw[Bool.or_eq_true,bP,bP]at ie;omega
    refine⟨_,Z,p,Z,⟨_,hx⟩,λD H0 nw=>?_⟩;refine lY (xs:=xs) (bs:=ds.map (bB 1 100)) [] hx nw (by rw[bz,hl]) bJ ?_ ?_
    ·intro i x b H2 Q' ex eb s2 hq
     obtain⟨d,ed,rfl⟩:=lx eb;obtain⟨x',cQ,rx⟩:=hd.get i ed;rw[ex]at cQ;cases cQ;exact⟨_,Z,_,d,1,100,Z,RD.mono s2 _ rx,hq _ (aA.refl _)⟩
    ·intro H2 s2 d2
     refine⟨D,_,Z,aH.of d2,?_⟩;rw[all_map];exact k H2 s2
  ·have e:fv d=false:=by cases d<;>first|rfl|exact absurd rfl (hn _)
   rw[e]at k;refine⟨_,Z,.inl ⟨_,_,"tuple",false,Z,rd.ty,aw,ht,_,Z,bU ?_⟩⟩;exact k H (aA.refl _)
theorem oq(d:ah):(∃r a b c t,d= .tuple [r,a,b,c,t])\/(∃ds,d= .tuple ds/\ds.length≠5/\ck d=false)\/(dP (gn d) "tuple"=false/\ck d=false):=by
 rcases gR d with⟨ds,rfl⟩|⟨ht,hn⟩
 ·match ds with |[r,a,b,c,t]=>exact .inl ⟨r,a,b,c,t,Z⟩ |[]=>exact .inr (.inl ⟨_,Z,by simp,by simp[ck]⟩) |[_]=>exact .inr (.inl ⟨_,Z,by simp,by simp[ck]⟩) |[_,_]=>exact .inr (.inl ⟨_,Z,by simp,by simp[ck]⟩) |[_,_,_]=>exact .inr (.inl ⟨_,Z,by simp,by simp[ck]⟩) |[_,_,_,_]=>exact .inr (.inl ⟨_,Z,by simp,by simp[ck]⟩) |_::_::_::_::_::_::_=>exact .inr (.inl ⟨_,Z,by simp,by simp[ck]⟩)
 ·exact .inr (.inr ⟨ht,by cases d<;>first|rfl|exact absurd rfl (hn _)⟩)
abbrev nB:Stmt:=top 21
theorem rM:bw ["thing","rails","rise","fall","jump","ticks"] ["thing"] (aQ nB):=bR bC
theorem zk(F:FA K mg "is_machine" nB)(B:bI mg)(BZ:GV mg "MOST_TICKS" (.int 100))(C1:GV mg "GREATEST_CHANGE" (.int 50))(iO:aW P w K mg ao "is_whole_within" 2 (jf K))(BI:aW P w K mg ao "are_rails" 3 (gW fv K)):aW P w K mg ao "is_machine" 4 (gW ck K):=by
 refine F.has rM (λvs H Q E h=>?_) (λ_ _ _ _ _ _=>eY λ_=>rfl) (λf ax A outer s H vs Q E hr h=>?_)
 ·obtain⟨v,d,rfl,_⟩:=h
  rfl
 ·obtain⟨v,d,rfl,rd,k⟩:=h
  have nd:=rM.nd;refine⟨_,(aI (bG (PW.pt (fo (dw (d7 (eJ K B (aq (pv 0) (aq (dX (x:="tuple") (v:=.ty "tuple") Z (B.at "tuple") gP rfl) az))))) (fO (bS (jy K rfl hr.units) (dG K B (aq (pv 0) az)) aD (cj _))))) (aY (bp dF)) bF) (aI (kX (pv 0) (nV K Z (n:=5) Z (fP (cg 1 nd) (fP (cg 2 nd) (fP (cg 3 nd) (fP (cg 4 nd) (fP (cg 5 nd) nU))))))) (aI (bG (PW.pt (fo (dw (d7 (pf BI hr (aq (pv 1) az)))) (fO (dw (d7 (pf iO hr (aq (pv 5) (aq aD (aq (cT (x:="MOST_TICKS") Z BZ) az))))))))) (aY (bp dF)) bF) (aY (bp (bX (x:="all") (iU K Z Z) Z (B.at "all") kn (aq (eI (N:=["change"]) (js:=[none]) rfl rfl rfl (gZ K rfl (fQ (aq (pv 2) (aq (pv 3) (aq (pv 4) az))))) (λ_ _ _ _ _=>(cg 0 (iL _))) (λ_ _ _ _ _=>eE) (λ_ _ _ _ _=>(pf iO hr (aq (pv 0) (aq aD (aq (cT (x:="GREATEST_CHANGE") rfl C1) az)))))) az))))))),?_⟩;rcases oq d with⟨r,a,b,c,t,rfl⟩|⟨ds,rfl,hl,hf⟩|⟨ht,hf⟩
  ·refine⟨_,Z,.inl ⟨_,_,"tuple",true,Z,rd.ty,aw,gm,_,Z,bK ?_⟩⟩
   obtain⟨p,xs,rfl,hx,hd⟩:=rd.cC;obtain⟨u1,ys,rfl,r1,hd⟩:=hd.cons_inv;obtain⟨u2,ys,rfl,r2,hd⟩:=hd.cons_inv;obtain⟨u3,ys,rfl,r3,hd⟩:=hd.cons_inv;obtain⟨u4,ys,rfl,r4,hd⟩:=hd.cons_inv;obtain⟨u5,ys,rfl,r5,hd⟩:=hd.cons_inv;cases hd.nil_inv;have k:∀H',aA H H'->Q (.bl (fv r&&bB 1 100 t&&[a,b,c].all (bB 1 50))) H':=k;refine⟨_,Z,p,_,Z,.inr hx,.inl ⟨_,_,Z,Z,_,Z,bK ?_⟩⟩;refine⟨_,Z,p,_,Z,hx,Z,_,_,Z,_,_,Z,_,_,Z,_,_,Z,_,_,Z,Z,?_⟩;refine⟨_,Z,_,r,Z,r1,λH1 s1=>⟨_,Z,?_⟩⟩;cases e1:fv r with |false=>rw[e1,cS,cS]at k;exact bU (k H1 s1) |true=>rw[e1,fe]at k;refine bK ?_;refine⟨_,Z,_,t,1,100,Z,RD.mono s1 _ r5,_,Z,?_⟩;cases e2:bB 1 100 t with |false=>rw[e2,cS]at k;exact bU (k H1 s1) |true=>
    rw[e2,fe]at k;refine bK ?_;refine⟨_,Z,_,Z,_,Z,cI Z,λq H2 nq=>?_⟩;have s2:=s1.trans nq.same;refine⟨q,Z,⟨_,bb.of nq.at'⟩,λD H0 nw=>?_⟩;have oV:aG K H2 [u2,u3,u4] [a,b,c]:=eD (RD.mono s2 _ r2) (eD (RD.mono s2 _ r3) (eD (RD.mono s2 _ r4) fN));refine lY (xs:=[u2,u3,u4]) (bs:=[a,b,c].map (bB 1 50)) [] (bb.of nq.at') nw Z (mF Z) ?_ ?_
    ·intro i x b' H3 Q' ex eb s3 hq
     obtain⟨d,ed,rfl⟩:=lx eb;obtain⟨x',cQ,rx⟩:=oV.get i ed;rw[ex]at cQ;cases cQ;exact⟨_,Z,_,d,1,50,Z,RD.mono s3 _ rx,hq _ (aA.refl _)⟩
    ·intro H3 s3 d3
     refine⟨D,_,Z,aH.of d3,?_⟩;rw[all_map];exact k H3 (s2.trans s3)
  ·rw[hf]at k
   refine⟨_,Z,.inl ⟨_,_,"tuple",true,Z,rd.ty,aw,gm,_,Z,bK ?_⟩⟩;obtain⟨p,xs,rfl,hx,hd⟩:=rd.cC;refine⟨_,Z,p,_,Z,.inr hx,.inl ⟨_,_,Z,Z,_,Z,?_⟩⟩;have e:(!decide ((xs.length:Int)=5))=true:=by rw[hd.length];simp;omega
   rw[e];exact bU (k H (aA.refl _))
  ·rw[hf]at k
   refine⟨_,Z,.inl ⟨_,_,"tuple",false,Z,rd.ty,aw,ht,_,Z,bU ?_⟩⟩;exact k H (aA.refl _)
def eM(rs:List Int):ah->Bool | .tuple es=>es.length==rs.length&&((es.zip rs).map λp=>bB 0 p.2 p.1).all id |_=>false
inductive EK(K:aa)(vs:List V)(H:Hp)(Q:VK):Prop |mk (m:_)(v:_)(rs:_)(ds:_)(d:_)(h0:vs=[m,v])(h1:RD K H m (.tuple (.tuple (rs.map PyData.int)::ds)))(h2:RD K H v d)(h3:rs.length<=3)(h4:∀H',aA H H'->Q (.bl (eM rs d)) H')
def jg(K:aa):Sp:=λvs H Q _=>EK K vs H Q
theorem zip_get{es:List ah}{rs:List Int}{i:Nat}{b:Bool}(h:((es.zip rs).map λp=>bB 0 p.2 p.1)[i]? =some b):∃e r,es[i]? =some e/\rs[i]? =some r/\bB 0 r e=b:=by rw[dD]at h;cases q:(es.zip rs)[i]? with |none=>rw[q]at h;cases h |some p=>rw[q]at h;obtain⟨e1,e2⟩:=List.getElem?_zip_eq_some.mp q;exact⟨p.1,p.2,e1,e2,cH h⟩
theorem ints_get{rs:List Int}{i:Nat}{r:Int}(h:rs[i]? =some r):(rs.map V.int)[i]? =some (.int r):=by rw[dD,h];rfl
abbrev nA:Stmt:=top 22
theorem rL:bw ["machine","thing","rails"] ["machine","thing"] (aQ nA):=bR bC
theorem zj(F:FA K mg "is_place" nA)(B:bI mg)(iO:aW P w K mg ao "is_whole_within" 2 (jf K)):aW P w K mg ao "is_place" 3 (jg K):=by
 refine F.has rL (λvs H Q E h=>?_) (λ_ _ _ _ _ _=>g9 λ_ _=>rfl) (λf ax A outer s H vs Q E hr h=>?_)
 ·obtain⟨m,v,rs,ds,d,rfl,_⟩:=h
  rfl
 ·obtain⟨m,v,rs,ds,d,rfl,rm,rd,l3,k⟩:=h
  have nd:=rL.nd;refine⟨_,(aI (pS 2 nd (px K (pv 0) aD)) (aI (bG (PW.pt (fo (dw (d7 (eJ K B (aq (pv 1) (aq (dX (x:="tuple") (v:=.ty "tuple") Z (B.at "tuple") gP rfl) az))))) (fO (bS (jy K rfl hr.units) (dG K B (aq (pv 1) az)) (dG K B (aq (pv 2) az)) (cj _))))) (aY (bp dF)) bF) (aY (bp (bX (x:="all") (iU K Z Z) Z (B.at "all") kn (aq (eI (N:=["number","rail"]) (js:=[none,none]) rfl rfl rfl (su K rfl false false rfl (B.at "zip") (aq (pv 1) (aq (pv 2) az))) (λ_ _ _ _ _=>(nV K rfl (n:=2) rfl (fP (cg 0 (iK aw)) (fP (cg 1 (iK aw)) nU)))) (λ_ _ _ _ _=>eE) (λ_ _ _ _ _=>(pf iO hr (aq (pv 0) (aq aD (aq (pv 1) az)))))) az)))))),?_⟩;obtain⟨am,xm,rfl,hm,oU⟩:=rm.cC;obtain⟨yr,ym,rfl,r1,Bv⟩:=oU.cons_inv;obtain⟨ar,xr,rfl,fT,oT⟩:=r1.cC;cases oT.hU;refine⟨_,Z,.inr ⟨am,_,0,_,Z,Z,hm,eX (iB 0) Z,?_⟩⟩;rcases gR d with⟨es,rfl⟩|⟨ht,hn⟩
  ·refine⟨_,Z,.inl ⟨_,_,"tuple",true,Z,rd.ty,aw,gm,_,Z,bK ?_⟩⟩
   obtain⟨av,xs,rfl,hx,hd⟩:=rd.cC;have hl:=hd.length;refine⟨_,Z,av,_,Z,.inr hx,_,Z,ar,_,Z,.inr fT,.inl ⟨_,_,Z,Z,_,Z,?_⟩⟩;have k:∀H',aA H H'->Q (.bl (es.length==rs.length&&((es.zip rs).map λp=>bB 0 p.2 p.1).all id)) H':=k;have e0:(decide ((xs.length:Int)=((rs.map V.int).length:Int)))=(es.length==rs.length):=by rw[hl,bz,iC];simp;lia
   rw[e0];cases e:(es.length==rs.length)with |false=>rw[e,cS]at k;exact bU (k H (aA.refl _)) |true=>
    rw[e,fe]at k;refine bK ?_;have el:es.length=rs.length:=bP.mp e;refine⟨_,Z,_,Z,av,ar,Z,⟨_,hx⟩,⟨_,fT⟩,λD H0 nw=>?_⟩;refine uM (b1:=false) (b2:=false) (xs:=xs) (ys:=rs.map V.int) (bs:=(es.zip rs).map λp=>bB 0 p.2 p.1) [] rfl hx fT nw (by rw[bz,bz,qk,hl]) (by rw[bz,qk];lia) ?_ ?_
    ·intro i x y b H2 Q' ex ey eb s2 hq
     obtain⟨e',r,ee,er,rfl⟩:=zip_get eb;obtain⟨x',cQ,rx⟩:=hd.get i ee;rw[ex]at cQ;cases cQ;rw[ints_get er]at ey;cases ey;exact⟨_,Z,_,Z,_,e',0,r,Z,RD.mono s2 _ rx,hq _ (aA.refl _)⟩
    ·intro H2 s2 d2
     exact⟨D,_,Z,aH.of d2,k H2 s2⟩
  ·have e:eM rs d=false:=by cases d<;>first|rfl|exact absurd rfl (hn _)
   rw[e]at k;refine⟨_,Z,.inl ⟨_,_,"tuple",false,Z,rd.ty,aw,ht,_,Z,bU ?_⟩⟩;exact k H (aA.refl _)
inductive EU(K:aa)(vs:List V)(H:Hp)(Q:VK):Prop |mk (v:_)(d:_)(lo:_)(hi:_)(h0:vs=[v,.int lo,.int hi])(h1:RD K H v d)(h2:Q (.bl (bB lo hi d)) H)
def kO(K:aa):Sp:=λvs H Q _=>EU K vs H Q
abbrev nk:Stmt:=top 116
theorem rF:bw ["_law_thing","_law_low","_law_high"] ["_law_thing","_law_low","_law_high"] (aQ nk):=bR bC
theorem zc(F:FA K mg "_law_within" nk)(B:bI mg)(Cb:aW P w K mg ao "_law_is_whole" 1 (ji K)):aW P w K mg ao "_law_within" 2 (kO K):=by
 refine F.has rF (λvs H Q E h=>?_) (λ_ _ _ _ _ _=>jW λ_ _ _=>rfl) (λf ax A outer s H vs Q E hr h=>?_)
 ·obtain⟨v,d,lo,hi,rfl,_⟩:=h
  rfl
 ·obtain⟨v,d,lo,hi,rfl,rd,k⟩:=h
  have nd:=rF.nd;refine⟨_,(aY (bp (jq (pf Cb hr (aq (pv 0) az)) (jn (sE l9 l9 (pv 1) (pv 0) (pv 2)))))),?_⟩;refine⟨_,Z,_,_,Z,rd.ty,_,Z,?_⟩;rcases qt d with⟨i,rfl,e⟩|⟨e,hn⟩
  ·cases rd.int_inv
   rw[e];refine bU ?_;have k:Q (.bl (decide (lo<=i)&&decide (i<=hi))) H:=k;refine⟨_,Z,_,Z,_,_,Z,Z,_,Z,?_⟩;refine cD (λhc=>?_) (λhc=>?_)
   ·have dH:decide (lo<=i)=true:=hc
    rw[dH,fe]at k;exact⟨_,Z,_,_,Z,Z,k⟩
   ·have dH:decide (lo<=i)=false:=ku.mpr hc
    rw[dH,cS]at k;exact k
  ·rw[e]
   refine bK ?_;rw[tR hn]at k;exact k
abbrev nv:Stmt:=top 117
theorem rJ:bw ["_law_thing"] ["_law_thing"] (aQ nv):=bR bC
theorem zf(F:FA K mg "_law_is_machine" nv)(B:bI mg)(jQ:aW P w K mg ao "_law_within" 2 (kO K)):aW P w K mg ao "_law_is_machine" 3 (gW ck K):=by
 refine F.has rJ (λvs H Q E h=>?_) (λ_ _ _ _ _ _=>eY λ_=>rfl) (λf ax A outer s H vs Q E hr h=>?_)
 ·obtain⟨v,d,rfl,_⟩:=h
  rfl
 ·obtain⟨v,d,rfl,rd,k⟩:=h
  have nd:=rJ.nd;refine⟨_,(aI (bG (PW.pt (fo (dw (d7 (eJ K B (aq (pv 0) (aq (dX (x:="tuple") (v:=.ty "tuple") Z (B.at "tuple") gP rfl) az))))) (fo (bS (jy K rfl hr.units) (dG K B (aq (pv 0) az)) aD (cj _)) (fO (dw (d7 (eJ K B (aq (px K (pv 0) aD) (aq (dX (x:="tuple") (v:=.ty "tuple") rfl (B.at "tuple") gP rfl) az))))))))) (aY (bp dF)) bF) (aI (bG (PW.pt (fo (bS (sN K Z) (dG K B (aq (px K (pv 0) aD) az)) (eH (aq aD (aq aD az))) (by with_unfolding_all rfl)) (fO (dw (d7 (bX (x:="all") (iU K Z Z) Z (B.at "all") kn (aq (eI (N:=["_law_rail"]) (js:=[none]) rfl rfl rfl (gZ K rfl (px K (pv 0) aD)) (λ_ _ _ _ _=>(cg 0 (iL _))) (λ_ _ _ _ _=>eE) (λ_ _ _ _ _=>(pf jQ hr (aq (pv 0) (aq aD (aq aD az)))))) az))))))) (aY (bp dF)) bF) (aY (bp (jq (bX (x:="all") (iU K Z Z) Z (B.at "all") kn (aq (eI (N:=["_law_one"]) (js:=[none]) rfl rfl rfl (gZ K rfl (eG (xt K rfl) (pv 0) (dW aD) (dW aD))) (λ_ _ _ _ _=>(cg 0 (iL _))) (λ_ _ _ _ _=>eE) (λ_ _ _ _ _=>(pf jQ hr (aq (pv 0) (aq aD (aq aD az)))))) az)) (jn (pf jQ hr (aq (px K (pv 0) aD) (aq aD (aq aD az)))))))))),?_⟩;rcases oq d with⟨r,a,b,c,t,rfl⟩|⟨ds,rfl,hl,hf⟩|⟨ht,hf⟩
  ·refine⟨_,Z,.inl ⟨_,_,"tuple",true,Z,rd.ty,aw,gm,_,Z,bK ?_⟩⟩
   obtain⟨p,xs,rfl,hx,hd⟩:=rd.cC;obtain⟨u1,ys,rfl,r1,hd⟩:=hd.cons_inv;obtain⟨u2,ys,rfl,r2,hd⟩:=hd.cons_inv;obtain⟨u3,ys,rfl,r3,hd⟩:=hd.cons_inv;obtain⟨u4,ys,rfl,r4,hd⟩:=hd.cons_inv;obtain⟨u5,ys,rfl,r5,hd⟩:=hd.cons_inv;cases hd.nil_inv;have k:∀H',aA H H'->Q (.bl (fv r&&bB 1 100 t&&[a,b,c].all (bB 1 50))) H':=k;refine⟨_,Z,p,_,Z,.inr hx,.inl ⟨_,_,Z,Z,_,Z,bK ?_⟩⟩;refine⟨_,Z,.inr ⟨p,_,0,u1,Z,Z,hx,Z,?_⟩⟩;rcases gR r with⟨ds,rfl⟩|⟨ht,hn⟩
   ·refine .inl ⟨_,_,"tuple",true,Z,r1.ty,aw,gm,_,Z,bK ?_⟩
    obtain⟨q,ys,rfl,hy,ue⟩:=r1.cC;have hl:=ue.length;refine⟨_,Z,.inr ⟨p,_,0,_,Z,Z,hx,Z,q,_,Z,.inr hy,cI Z,λl H1 n1=>?_⟩⟩;refine⟨l,_,Z,.inl (aH.of n1.at'),Z,Z,_,Z,?_⟩;have k:∀H',aA H H'->Q (.bl (((ds.length==2||ds.length==3)&&ds.all (bB 1 100))&&bB 1 100 t&&[a,b,c].all (bB 1 50))) H':=k;show if(!jF (.int ys.length) [.int 2,.int 3])=true then _ else _;rw[tU,hl];cases ie:(ds.length==2||ds.length==3)with |false=>rw[ie,cS,cS,cS]at k;exact bU (k H1 n1.same) |true=>
     rw[ie,fe]at k;refine bK ?_;have l3:ds.length<=3:=by rw[Bool.or_eq_true,bP,bP]at ie;omega
     refine⟨_,Z,.inr ⟨p,_,0,_,Z,Z,hx.go n1.same,Z,q,Z,⟨_,hy.go n1.same⟩,λD H0 nw=>?_⟩⟩;refine lY (xs:=ys) (bs:=ds.map (bB 1 100)) [] (hy.go n1.same) nw (by rw[bz,hl]) bJ ?_ ?_
     ·intro i x b H2 Q' ex eb s2 hq
      obtain⟨d,ed,rfl⟩:=lx eb;obtain⟨x',cQ,rx⟩:=ue.get i ed;rw[ex]at cQ;cases cQ;exact⟨_,Z,_,d,1,100,Z,RD.mono (n1.same.trans s2) _ rx,hq _ (aA.refl _)⟩
     ·intro H2 s2 d2
      refine⟨D,_,Z,aH.of d2,_,Z,?_⟩;rw[all_map];have gY:=n1.same.trans s2;cases e4:ds.all (bB 1 100)with |false=>rw[e4,cS,cS]at k;exact bU (k H2 gY) |true=>
       rw[e4,fe,Bool.and_comm]at k;refine bK ?_;refine⟨_,Z,_,Z,_,Z,p,_,Z,.inr ⟨hx.go gY,(λz=>absurd z.1 (show¬((1:Nat)=0) by decide)),λq2 H3 n3=>?_⟩⟩;have kQ:=gY.trans n3.same;refine⟨q2,Z,⟨_,bb.of n3.at'⟩,λD2 H4 zA=>?_⟩;have oV:aG K H3 [u2,u3,u4] [a,b,c]:=eD (RD.mono kQ _ r2) (eD (RD.mono kQ _ r3) (eD (RD.mono kQ _ r4) fN));refine lY (xs:=[u2,u3,u4]) (bs:=[a,b,c].map (bB 1 50)) [] (bb.of n3.at') zA Z (mF Z) ?_ ?_
       ·intro i x b' H5 Q' ex eb s5 hq
        obtain⟨d,ed,rfl⟩:=lx eb;obtain⟨x',cQ,rx⟩:=oV.get i ed;rw[ex]at cQ;cases cQ;exact⟨_,Z,_,d,1,50,Z,RD.mono s5 _ rx,hq _ (aA.refl _)⟩
       ·intro H5 s5 d5
        refine⟨D2,_,Z,aH.of d5,_,Z,?_⟩;rw[all_map];have kP:=kQ.trans s5;cases e5:[a,b,c].all (bB 1 50)with |false=>rw[e5,cS]at k;exact bK (k H5 kP) |true=>rw[e5,fe]at k;exact bU ⟨_,Z,.inr ⟨p,_,4,u5,Z,Z,hx.go kP,Z,_,t,1,100,Z,RD.mono kP _ r5,k H5 kP⟩⟩
   ·have e:fv r=false:=by cases r<;>first|rfl|exact absurd rfl (hn _)
    rw[e,cS,cS]at k;refine .inl ⟨_,_,"tuple",false,Z,r1.ty,aw,ht,_,Z,bU ?_⟩;exact k H (aA.refl _)
  ·rw[hf]at k
   refine⟨_,Z,.inl ⟨_,_,"tuple",true,Z,rd.ty,aw,gm,_,Z,bK ?_⟩⟩;obtain⟨p,xs,rfl,hx,hd⟩:=rd.cC;refine⟨_,Z,p,_,Z,.inr hx,.inl ⟨_,_,Z,Z,_,Z,?_⟩⟩;have e:(!decide ((xs.length:Int)=5))=true:=by rw[hd.length];simp;omega
   rw[e];exact bU (k H (aA.refl _))
  ·rw[hf]at k
   refine⟨_,Z,.inl ⟨_,_,"tuple",false,Z,rd.ty,aw,ht,_,Z,bU ?_⟩⟩;exact k H (aA.refl _)
abbrev nu:Stmt:=top 118
theorem rH:bw ["_law_machine_here","_law_thing"] ["_law_machine_here","_law_thing"] (aQ nu):=bR bC
theorem ze(F:FA K mg "_law_is_place" nu)(B:bI mg)(jQ:aW P w K mg ao "_law_within" 2 (kO K)):aW P w K mg ao "_law_is_place" 3 (jg K):=by
 refine F.has rH (λvs H Q E h=>?_) (λ_ _ _ _ _ _=>g9 λ_ _=>rfl) (λf ax A outer s H vs Q E hr h=>?_)
 ·obtain⟨m,v,rs,ds,d,rfl,_⟩:=h
  rfl
 ·obtain⟨m,v,rs,ds,d,rfl,rm,rd,l3,k⟩:=h
  have nd:=rH.nd;refine⟨_,(aI (bG (PW.pt (fo (dw (d7 (eJ K B (aq (pv 1) (aq (dX (x:="tuple") (v:=.ty "tuple") Z (B.at "tuple") gP rfl) az))))) (fO (bS (jy K rfl hr.units) (dG K B (aq (pv 1) az)) (dG K B (aq (px K (pv 0) aD) az)) (cj _))))) (aY (bp dF)) bF) (aY (bp (bX (x:="all") (iU K Z Z) Z (B.at "all") kn (aq (eI (N:=["_law_at","_law_rail"]) (js:=[none,none]) rfl rfl rfl (su K rfl false false rfl (B.at "zip") (aq (pv 1) (aq (px K (pv 0) aD) az))) (λ_ _ _ _ _=>(nV K rfl (n:=2) rfl (fP (cg 0 (iK aw)) (fP (cg 1 (iK aw)) nU)))) (λ_ _ _ _ _=>eE) (λ_ _ _ _ _=>(pf jQ hr (aq (pv 0) (aq aD (aq (pv 1) az)))))) az))))),?_⟩;obtain⟨am,xm,rfl,hm,oU⟩:=rm.cC;obtain⟨yr,ym,rfl,r1,Bv⟩:=oU.cons_inv;obtain⟨ar,xr,rfl,fT,oT⟩:=r1.cC;cases oT.hU;rcases gR d with⟨es,rfl⟩|⟨ht,hn⟩
  ·refine⟨_,Z,.inl ⟨_,_,"tuple",true,Z,rd.ty,aw,gm,_,Z,bK ?_⟩⟩
   obtain⟨av,xs,rfl,hx,hd⟩:=rd.cC;have hl:=hd.length;refine⟨_,Z,av,_,Z,.inr hx,_,Z,.inr ⟨am,_,0,_,Z,Z,hm,eX (iB 0) Z,ar,_,Z,.inr fT,.inl ⟨_,_,Z,Z,_,Z,?_⟩⟩⟩;have k:∀H',aA H H'->Q (.bl (es.length==rs.length&&((es.zip rs).map λp=>bB 0 p.2 p.1).all id)) H':=k;have e0:(decide ((xs.length:Int)=((rs.map V.int).length:Int)))=(es.length==rs.length):=by rw[hl,bz,iC];simp;omega
   rw[e0];cases e:(es.length==rs.length)with |false=>rw[e,cS]at k;exact bU (k H (aA.refl _)) |true=>
    rw[e,fe]at k;refine bK ?_;have el:es.length=rs.length:=bP.mp e;refine⟨_,Z,_,Z,.inr ⟨am,_,0,_,Z,Z,hm,eX (iB 0) Z,av,ar,Z,⟨_,hx⟩,⟨_,fT⟩,λD H0 nw=>?_⟩⟩;refine uM (b1:=false) (b2:=false) (xs:=xs) (ys:=rs.map V.int) (bs:=(es.zip rs).map λp=>bB 0 p.2 p.1) [] rfl hx fT nw (by rw[bz,bz,qk,hl]) (by rw[bz,qk];omega) ?_ ?_
    ·intro i x y b H2 Q' ex ey eb s2 hq
     obtain⟨e',r,ee,er,rfl⟩:=zip_get eb;obtain⟨x',cQ,rx⟩:=hd.get i ee;rw[ex]at cQ;cases cQ;rw[ints_get er]at ey;cases ey;exact⟨_,Z,_,Z,_,e',0,r,Z,RD.mono s2 _ rx,hq _ (aA.refl _)⟩
    ·intro H2 s2 d2
     exact⟨D,_,Z,aH.of d2,k H2 s2⟩
  ·have e:eM rs d=false:=by cases d<;>first|rfl|exact absurd rfl (hn _)
   rw[e]at k;refine⟨_,Z,.inl ⟨_,_,"tuple",false,Z,rd.ty,aw,ht,_,Z,bU ?_⟩⟩;exact k H (aA.refl _)
theorem four{ds:List ah}(h:ds.length=4):∃a b c d,ds=[a,b,c,d]:=by match ds,h with |[a,b,c,d],_=>exact⟨a,b,c,d,Z⟩
def iW(rs:List Int)(ds:List ah):ah:=.tuple (.tuple (rs.map PyData.int)::ds)
structure m9(rs:List Int):Prop where
 lo:2<=rs.length
 hi:rs.length<=3
 all:∀r∈rs,1<=r/\r<=100
inductive ET(K:aa)(vs:List V)(H:Hp)(Q:VK):Prop |mk (p:_)(h0:vs=[.ref p])(h1:dh H p)(h2:∀v rs ds H',AD K p 2 H' v (iW rs ds)->m9 rs->ds.length=4->ba p H H'->Q v H')
def qU(K:aa):Sp:=λvs H Q _=>ET K vs H Q
abbrev nj:Stmt:=top 109
theorem rD:bw ["_law_bag_here","_law_axes","_law_far","_law_rails","_law_bounds"] ["_law_bag_here"] (aQ nj):=bR bC
theorem zb(F:FA K mg "_law_machine" nj)(B:bI mg)(cu:aW P w K mg ao "_law_take" 1 fi):aW P w K mg ao "_law_machine" 2 (qU K):=by
 refine F.has rD (λvs H Q E h=>?_) (λ_ _ _ _ _ _=>eY λ_=>rfl) (λf ax A outer s H vs Q E hr h=>?_)
 ·obtain⟨p,rfl,_⟩:=h
  rfl
 ·obtain⟨p,rfl,bg,k⟩:=h
  have nd:=rD.nd;refine⟨_,(aI (pS 1 nd (bh dz aD (pf cu hr (aq (pv 0) (aq aD az))))) (aI (pS 2 nd (px K (eH (aq aD (aq aD az))) (pf cu hr (aq (pv 0) (aq aD az))))) (aI (pS 3 nd (gr (x:="tuple") (mM K Z) Z (B.at "tuple") gP (aq (eI (N:=["_law_axis","_law_bag_here","_law_far"]) (js:=[none,some 0,some 2]) rfl rfl rfl (kY rfl (B.at "range") (aq (pv 1) az)) (λ_ _ _ _ _=>(cg 0 (show List.Nodup (["_law_axis","_law_bag_here","_law_far"]:List Str) by decide+kernel))) (λ_ _ _ _ _=>eE) (λ_ _ _ _ _=>(bh dz aD (pf cu hr (aq (pv 1) (aq (pv 2) az)))))) az))) (aI (pS 4 nd (gr (x:="tuple") (mM K Z) Z (B.at "tuple") gP (aq (eI (N:=["_law_k","_law_bag_here"]) (js:=[none,some 0]) rfl rfl rfl (kY rfl (B.at "range") (aq aD az)) (λ_ _ _ _ _=>(cg 0 (iK aw))) (λ_ _ _ _ _=>eE) (λ_ _ _ _ _=>(bh dz aD (pf cu hr (aq (pv 1) (aq aD az)))))) az))) (aY (bp (bh (fC K Z) (bh (fC K Z) (fQ (aq (pv 3) az)) (pv 4)) (fQ (aq (bh dz aD (pf cu hr (aq (pv 0) (aq aD az)))) az))))))))),?_⟩;refine⟨_,Z,p,2,Z,bg,aw,aw,λt0 H1 FX FW b1=>?_⟩;refine⟨_,_,Z,Z,?_⟩;refine⟨cI Z,λl H2 nw=>?_⟩;have b2:ba p H1 H2:=.bL b1.aS nw.same;have Ab:l≠p:=λe=>b1.aS.ne (e▸nw.no);refine⟨_,Z,p,2,Z,b2.aS,aw,aw,λi H3 i0 i1 b3=>?_⟩;obtain⟨lU,mf,ef⟩:=tP [100,20] i0 i1;have f1:1<=lU/\lU<=100:=by
   rcases cz.mp mf with rfl|mf
   ·exact⟨aw,aw⟩
   rcases cz.mp mf with rfl|mf
   ·exact⟨aw,aw⟩
   ·exact(fH mf).elim
  refine .inl ⟨l,_,_,_,Z,Z,aH.of (b3.same _ _ Ab nw.at'),ef,?_⟩;refine⟨_,Z,_,Z,bJ,bJ,λD H4 n4=>?_⟩;have hN:(2+t0).toNat<=1000:=by omega
  refine pI (2+t0).toNat [some (.ref p),some (.int lU)] n4 b3.aS hN (λi=>.int (0+(i:Int))) (λi H5 hi b5=>⟨hi,λy H6 ⟨e1,e2⟩=>⟨e1,e2⟩⟩) (λH5 b5=>br _) (λz=>1<=z/\z<=100) ?_ ?_
  ·intro i H5 Q' hi b5 hq
   refine⟨_,Z,_,Z,p,lU,Z,b5.aS,f1.1,bJ,λz H6 z0 z1 b6=>?_⟩;exact⟨_,_,Z,Z,hq _ _ ⟨bJ,bJ⟩ b6⟩
  intro H5 rs b5 d5 lr pr;refine⟨D,_,Z,.inl ⟨aH.of d5,λq H6 n6=>?_⟩⟩;have b6:ba p H5 H6:=.bL b5.aS n6.same;have aR:AD K p 1 H6 (.ref q) (.tuple (rs.map PyData.int)):=AD.dZ (jX rs) n6 b5.aS.ne;refine⟨3,Z,aw,aw,λD2 H7 n7=>?_⟩;refine pI 3 [some (.ref p)] n7 b6.aS aw (λi=>.int (0+(i:Int))) (λi H8 hi b8=>⟨hi,λy H9 ⟨e1,e2⟩=>⟨e1,e2⟩⟩) (λH8 b8=>br _) (λz=>True) ?_ ?_
  ·intro i H8 Q' hi b8 hq
   refine⟨_,Z,p,50,Z,b8.aS,aw,aw,λz H9 z0 z1 b9=>?_⟩;exact⟨_,_,Z,Z,hq _ _ trivial b9⟩
  intro H8 bs b8 d8 lb _;refine⟨D2,_,Z,.inl ⟨aH.of d8,λq2 H9 n9=>?_⟩⟩;have b9:ba p H8 H9:=.bL b8.aS n9.same;have aB:AD K p 1 H9 (.ref q2) (.tuple (bs.map PyData.int)):=AD.dZ (jX bs) n9 b8.aS.ne;have Ej:=aR.go (b8.trans b9).sd;refine⟨_,Z,cI Z,λt1 gK sZ=>?_⟩;have cx:ba p H9 gK:=.bL b9.aS sZ.same;refine⟨_,Z,p,1,_,_,cx.aS.ne,AD.dZ (.one Ej) sZ b9.aS.ne,(aB.go cx.sd).le aw,eB _ ?_,λv1 iu gq jZ=>?_⟩
  ·rw[bz,lb];exact mF rfl
  have vg:ba p gK iu:=.bL cx.aS gq;refine⟨_,Z,p,100,Z,vg.aS,aw,aw,λz FP z0 z1 m6=>?_⟩;refine⟨_,_,Z,Z,cI Z,λt2 vB sY=>?_⟩;have m5:ba p FP vB:=.bL m6.aS sY.same;refine⟨p,1,_,_,m5.aS.ne,jZ.go (m6.trans m5).sd,AD.dZ (.one (.int _)) sY m6.aS.ne,eB _ ?_,λv2 vA xG Em=>?_⟩
  ·rw[fJ,bz,lb];exact mF rfl
  have E8:ba p vB vA:=.bL m5.aS xG;exact k v2 rs _ vA Em ⟨bJ,bJ,pr⟩ (by show(bs.map PyData.int++[PyData.int (1+z)]).length=4;rw[fJ,bz,lb];rfl) (b1.trans (b2.trans (b3.trans (b5.trans (b6.trans (b8.trans (b9.trans (cx.trans (vg.trans (m6.trans (m5.trans E8)))))))))))
theorem tm{p:Addr}{H:Hp}{v:V}{rs:List Int}{ds:List ah}(h:AD K p 2 H v (iW rs ds)):∃a ym ar,v= .ref a/\bb K (del H p) a (.ref ar::ym)/\bb K (del H p) ar (rs.map V.int):=by obtain⟨a,xs,e,h1,h2⟩:=h.rd.cC;obtain⟨y,ys,rfl,r1,_⟩:=h2.cons_inv;obtain⟨ar,zs,rfl,h3,h4⟩:=r1.cC;cases h4.hU;exact⟨a,ys,ar,e,h1,h3⟩
inductive EJ(K:aa)(vs:List V)(H:Hp)(Q:VK):Prop |mk (p:_)(m:_)(rs:_)(ds:_)(h0:vs=[.ref p,m])(h1:dh H p)(h2:AD K p 2 H m (iW rs ds))(h3:m9 rs)(h4:∀(v:V)(is:List Int)(H':Hp),AD K p 1 H' v (.tuple (is.map PyData.int))->is.length=rs.length->ba p H H'->Q v H')
def qP(K:aa):Sp:=λvs H Q _=>EJ K vs H Q
abbrev mZ:Stmt:=top 110
theorem rn:bw ["_law_bag_here","_law_machine_here"] ["_law_bag_here","_law_machine_here"] (aQ mZ):=bR bC
theorem yW(F:FA K mg "_law_place" mZ)(B:bI mg)(cu:aW P w K mg ao "_law_take" 1 fi):aW P w K mg ao "_law_place" 2 (qP K):=by
 refine F.has rn (λvs H Q E h=>?_) (λ_ _ _ _ _ _=>g9 λ_ _=>rfl) (λf ax A outer s H vs Q E hr h=>?_)
 ·obtain⟨p,m,rs,ds,rfl,_⟩:=h
  rfl
 ·obtain⟨p,m,rs,ds,rfl,bg,am,dY,k⟩:=h
  have nd:=rn.nd;refine⟨_,(aY (bp (gr (x:="tuple") (mM K Z) Z (B.at "tuple") gP (aq (eI (N:=["_law_rail","_law_bag_here"]) (js:=[none,some 0]) rfl rfl rfl (gZ K rfl (px K (pv 1) aD)) (λ_ _ _ _ _=>(cg 0 (iK aw))) (λ_ _ _ _ _=>eE) (λ_ _ _ _ _=>(pf cu hr (aq (pv 1) (aq (bh dz (pv 0) aD) az))))) az)))),?_⟩;obtain⟨a,ym,ar,rfl,h1,h2⟩:=tm am;refine⟨_,Z,.inr ⟨a,_,0,_,Z,Z,h1.go cK,eX (iB 0) Z,?_⟩⟩;refine⟨ar,Z,⟨_,h2.go cK⟩,λD H4 n4=>?_⟩;have hl:=dY.hi;refine pI rs.length [some (.ref p)] n4 bg bJ (λi=>.int (rs.getD i 0)) (λi H5 hi b5=>?_) (λH5 b5=>⟨_,(h2.go b5.sd).go cK,by rw[bz];exact br _⟩) (λz=>True) ?_ ?_
  ·have e:(rs.map V.int)[i]? =some (.int (rs.getD i 0)):=by rw[dD,eA hi,List.getD_eq_getElem?_getD,eA hi];rfl
   refine⟨⟨_,_,(h2.go b5.sd).go cK,e⟩,λy H6 ⟨e1,e2⟩=>⟨e1,?_⟩⟩;have:=e2 _ ((h2.go b5.sd).go cK);rw[e]at this;exact(cH this).symm
  ·intro i H5 Q' hi b5 hq
   have fT:1<=rs.getD i 0/\rs.getD i 0<=100:=by rw[List.getD_eq_getElem?_getD,eA hi];exact dY.all _ (mG hi)
   refine⟨_,Z,_,Z,_,_,Z,Z,p,rs.getD i 0+1,Z,b5.aS,bJ,bJ,λz H6 z0 z1 b6=>hq _ _ trivial b6⟩
  intro H5 is b5 d5 li _;refine⟨D,_,Z,.inl ⟨aH.of d5,λq H6 n6=>?_⟩⟩;exact k _ is H6 (AD.dZ (jX is) n6 b5.aS.ne) li (b5.trans (.bL b5.aS n6.same))
inductive EO(K:aa)(vs:List V)(H:Hp)(Q:VK):Prop |mk (p:_)(v:_)(ds:_)(n:_)(h0:vs=[.ref p,v])(h1:dh H p)(h2:AD K p (n+2) H v (.tuple ds))(h3:1<=ds.length)(h4:ds.length<=10)(h5:∀v' lW H',AD K p (n+2) H' v' (.tuple lW)->lW.length<=100->ba p H H'->Q v' H')
def kN(K:aa):Sp:=λvs H Q _=>EO K vs H Q
abbrev ng:Stmt:=top 113
theorem rA:bw ["_law_bag_here","_law_things","_law_how","_law_at","_law_other"] ["_law_bag_here","_law_things"] (aQ ng):=bR bC
theorem yZ(F:FA K mg "_law_number_put" ng)(B:bI mg)(cu:aW P w K mg ao "_law_take" 1 fi)(jR:aW P w K mg ao "_law_odd_thing" 2 (jh K)):aW P w K mg ao "_law_number_put" 3 (kN K):=by
 refine F.has rA (λvs H Q E h=>?_) (λ_ _ _ _ _ _=>g9 λ_ _=>rfl) (λf ax A outer s H vs Q E hr h=>?_)
 ·obtain⟨p,v,ds,n,rfl,_⟩:=h
  rfl
 ·obtain⟨p,v,ds,n,rfl,bg,ad,l1,Gd,k⟩:=h
  have nd:=rA.nd;refine⟨_,(aI (pS 2 nd (pf cu hr (aq (pv 0) (aq aD az)))) (aI (pS 3 nd (pf cu hr (aq (pv 0) (aq (dG K B (aq (pv 1) az)) az)))) (aI (pS 4 nd (px K (eH (aq aD (aq aD (aq (kZ kB aD) (aq dF (aq (pf jR hr (aq (pv 0) az)) (aq dy az))))))) (pv 2))) (aY (bp (bh (fC K Z) (bh (fC K Z) (eG (fj K Z) (pv 1) fq (dW (pv 3))) (fQ (aq (pv 4) az))) (eG (fj K Z) (pv 1) (dW (bh dz (pv 3) aD)) fq))))))),?_⟩;refine⟨_,Z,p,6,Z,bg,aw,aw,λhow H1 lF oH b1=>?_⟩;have vj:=ad.go b1.sd;obtain⟨a,xs,rfl,hx,eg⟩:=vj.gU;have hl:=eg.dE.length;refine⟨_,Z,_,Z,a,_,Z,.inr (hx.go cK),p,xs.length,Z,b1.aS,bJ,bJ,λat_ H2 Gz Gy b2=>?_⟩;refine⟨_,Z,_,Z,p,Z,b2.aS,λodd dO H3 aO mO b3=>⟨cI Z,λl H4 n4=>?_⟩⟩;have bx:=b1.trans (b2.trans b3);have bne:=b3.aS.ne;have Eg:cV K p 1 H3 [.int 0,.int 101,.int (-1),.bl true,odd,.str "5"] [.int 0,.int 101,.int (-1),.bool true,dO,.str "5"]:=.cons (.int _) (.cons (.int _) (.cons (.int _) (.cons (.bl _) (.cons aO (.one ⟨kT _,⟨bC,iA _⟩⟩)))));have cP:how.toNat<6:=by omega
  obtain⟨y,ey,ay⟩:=Eg.get how.toNat (eA (l:=[.int 0,.int 101,.int (-1),.bool true,dO,.str "5"]) cP);refine⟨_,Z,.inl ⟨l,_,_,y,Z,Z,aH.of n4.at',eX lF ey,?_⟩⟩;have ne:∀{H'},aA H3 H'->H' p≠none:=λ{H'} s=>(ba.bL b3.aS s).aS.ne;have vi:AD K p (n+1+1) H3 (.ref a) (.tuple ds):=vj.go (b2.trans b3).sd;have s4:=n4.same;have cl:=pH ds;refine⟨_,Z,_,Z,_,Z,p,n+1,_,ne s4,vi.go s4.sd,λv1 H7 s7 a7=>?_⟩;have nG:=s4.trans s7;refine⟨_,Z,cI Z,λt2 H8 n8=>?_⟩;have jk:=nG.trans n8.same;refine⟨p,n+1,_,_,ne jk,a7.go n8.same.sd,AD.dZ (.one ((ay.go nG.sd).le bJ)) n8 (ne nG),eB _ ?_,λv2 H9 s9 a9=>?_⟩
  ·have h1:=cl none (some at_)
   show _+1<=1000;omega
  have fM:=jk.trans s9;refine⟨_,Z,_,Z,_,_,Z,Z,_,Z,p,n+1,_,ne fM,vi.go fM.sd,λv3 gK d6 pP=>?_⟩;have h1:=cl none (some at_);have h2:=cl (some (at_+1)) none;refine⟨p,n+1,_,_,ne (fM.trans d6),a9.go d6.sd,pP,eB _ ?_,λv4 iu gq jZ=>k _ _ _ jZ ?_ (bx.trans (.bL b3.aS (fM.trans (d6.trans gq))))⟩
  ·rw[fJ]
   show _+1+_<=1000;omega
  ·rw[fJ,fJ]
   show _+1+_<=100;omega
inductive ER(K:aa)(vs:List V)(H:Hp)(Q:VK):Prop |mk (p:_)(m:_)(rs:_)(ds:_)(h0:vs=[.ref p,m])(h1:dh H p)(h2:AD K p 2 H m (iW rs ds))(h3:m9 rs)(h4:ds.length=4)(h5:∀v d H',AD K p 4 H' v d->ba p H H'->Q v H')
def qS(K:aa):Sp:=λvs H Q _=>ER K vs H Q
abbrev nh:Stmt:=top 114
theorem rB:bw ["_law_bag_here","_law_machine_here","_law_how","_law_odd"] ["_law_bag_here","_law_machine_here"] (aQ nh):=bR bC
theorem z9(F:FA K mg "_law_no_machine" nh)(B:bI mg)(cu:aW P w K mg ao "_law_take" 1 fi)(jR:aW P w K mg ao "_law_odd_thing" 2 (jh K))(lP:aW P w K mg ao "_law_number_put" 3 (kN K)):aW P w K mg ao "_law_no_machine" 4 (qS K):=by
 refine F.has rB (λvs H Q E h=>?_) (λ_ _ _ _ _ _=>g9 λ_ _=>rfl) (λf ax A outer s H vs Q E hr h=>?_)
 ·obtain⟨p,m,rs,ds,rfl,_⟩:=h
  rfl
 ·obtain⟨p,m,rs,ds,rfl,bg,am,dY,l4,k⟩:=h
  have nd:=rB.nd;refine⟨_,(aI (pS 2 nd (pf cu hr (aq (pv 0) (aq aD az)))) (aI (pS 3 nd (pf jR hr (aq (pv 0) az))) (aI (bG (bS (eT K Z hr.units) (pv 2) aD (cj _)) (aY (bp (pv 3))) bF) (aI (bG (bS (eT K Z hr.units) (pv 2) aD (cj _)) (aY (bp (gr (x:="list") (ou K Z) Z (B.at "list") vR (aq (pv 1) az)))) bF) (aI (bG (bS (eT K Z hr.units) (pv 2) aD (cj _)) (aY (bp (eG (fj K Z) (pv 1) fq (dW (kZ kB aD))))) bF) (aI (bG (bS (eT K Z hr.units) (pv 2) aD (cj _)) (aY (bp (bh (fC K Z) (fQ (aq (gr (x:="list") (ou K Z) Z (B.at "list") vR (aq (px K (pv 1) aD) az)) az)) (eG (fj K rfl) (pv 1) (dW aD) fq)))) bF) (aI (bG (bS (eT K Z hr.units) (pv 2) aD (cj _)) (aY (bp (bh (fC K Z) (fQ (aq (pf lP hr (aq (pv 0) (aq (px K (pv 1) aD) az))) az)) (eG (fj K Z) (pv 1) (dW aD) fq)))) bF) (aY (bp (bh (fC K Z) (eG (fj K Z) (pv 1) fq (dW aD)) (pf lP hr (aq (pv 0) (aq (eG (fj K Z) (pv 1) (dW aD) fq) az))))))))))))),?_⟩;refine⟨_,Z,p,6,Z,bg,aw,aw,λhow H1 lF oH b1=>?_⟩;refine⟨_,Z,p,Z,b1.aS,λodd dO H2 aO mO b2=>?_⟩;have bx:=b1.trans b2;have bne:=b2.aS.ne;have pO:=am.go bx.sd;obtain⟨a,xs,rfl,hx,eg⟩:=AD.gU (show AD K p (1+1) H2 m (.tuple (.tuple (rs.map PyData.int)::ds))from pO);have fin:∀{v d H5},AD K p 4 H5 v d->ba p H2 H5->Q v H5:=λ{v d H5} ad bm=>k _ _ _ ad (bx.trans bm);have Bq:=dY.hi;have A9:=dY.lo;have cl:=pH (.tuple (rs.map PyData.int)::ds);have ll:(PyData.tuple (rs.map PyData.int)::ds).length=5:=by rw[gf,l4]
  have aM:AD K p (2+1) H2 (.ref a) (.tuple (.tuple (rs.map PyData.int)::ds)):=AD.le pO aw;have GB:AD K p (3+1) H2 (.ref a) (.tuple (.tuple (rs.map PyData.int)::ds)):=AD.le pO aw;obtain⟨y,ey,ay⟩:=eg.get 0 (d:=.tuple (rs.map PyData.int)) rfl;refine⟨_,Z,.inl ⟨_,_,Z,Z,_,Z,?_⟩⟩;refine cD (λ_=>?_) (λ_=>?_)
  ·exact⟨_,Z,fin (aO.le aw) (.refl b2.aS)⟩
  refine⟨_,Z,.inl ⟨_,_,Z,Z,_,Z,?_⟩⟩;refine cD (λ_=>?_) (λ_=>?_)
  ·exact⟨_,Z,a,_,Z,.inr (hx.go cK),λl H4 nw=>fin ((AD.o9 eg nw bne).le aw) (.bL b2.aS nw.same)⟩
  refine⟨_,Z,.inl ⟨_,_,Z,Z,_,Z,?_⟩⟩;refine cD (λ_=>?_) (λ_=>?_)
  ·exact⟨_,Z,_,Z,_,Z,p,2,_,bne,aM,λv1 H5 s5 a5=>fin (a5.le aw) (.bL b2.aS s5)⟩
  refine⟨_,Z,.inl ⟨_,_,Z,Z,_,Z,?_⟩⟩;refine cD (λ_=>?_) (λ_=>?_)
  ·obtain⟨ar,xr,rfl,AI,AH⟩:=AD.gU (show AD K p (0+1) H2 y (.tuple (rs.map PyData.int))from ay)
   refine⟨_,Z,.inr ⟨a,_,0,_,Z,Z,hx.go cK,eX aw ey,ar,_,Z,.inr (AI.go cK),λl H3 n3=>?_⟩⟩;refine⟨cI Z,λt H4 n4=>?_⟩;have s4:=n3.same.trans n4.same;have ne3:=(ba.bL b2.aS n3.same).aS.ne;have aL:AD K p (2+1) H4 (.ref t) (.tuple [.list (rs.map PyData.int)]):=(AD.dZ (.one (AD.o9 AH n3 bne)) n4 ne3).le aw;refine⟨_,Z,_,Z,p,2,_,(ba.bL b2.aS s4).aS.ne,aM.go s4.sd,λv5 H5 s5 a5=>?_⟩;have rR:=s4.trans s5;refine⟨p,2,_,_,(ba.bL b2.aS rR).aS.ne,aL.go s5.sd,a5,eB _ ?_,λv6 H6 s6 a6=>fin (a6.le aw) (.bL b2.aS (rR.trans s6))⟩;have h1:=cl (some 1) none;show 1+_<=1000;omega
  refine⟨_,Z,.inl ⟨_,_,Z,Z,_,Z,?_⟩⟩;refine cD (λ_=>?_) (λ_=>?_)
  ·refine⟨_,Z,_,Z,.inr ⟨a,_,0,_,Z,Z,hx.go cK,eX aw ey,?_⟩⟩
   refine⟨p,y,rs.map PyData.int,0,Z,b2.aS,ay.le aw,by rw[bz];omega,by rw[bz];omega,λv4 d4 H4 a4 Gb b4=>?_⟩;refine⟨cI Z,λt H5 nw=>?_⟩;have b5:ba p H4 H5:=.bL b4.aS nw.same;refine⟨_,Z,_,Z,p,2,_,b5.aS.ne,aM.go (b4.trans b5).sd,λv6 H6 s6 a6=>?_⟩;have b6:ba p H5 H6:=.bL b5.aS s6;refine⟨p,2,_,_,b6.aS.ne,(AD.dZ (.one a4) nw b4.aS.ne).go s6.sd,a6,eB _ ?_,λv7 H7 s7 a7=>fin (a7.le aw) (b4.trans (b5.trans (b6.trans (.bL b6.aS s7))))⟩;have h1:=cl (some 1) none;show 1+_<=1000;omega
  ·refine⟨_,Z,_,Z,p,2,_,bne,aM,λv3 H3 s3 a3=>?_⟩
   have b3:ba p H2 H3:=.bL b2.aS s3;refine⟨_,Z,_,Z,_,Z,p,2,_,b3.aS.ne,aM.go s3.sd,λv4 H4 s4 a4=>?_⟩;have b4:ba p H3 H4:=.bL b3.aS s4;have c1:1<=(cutD (.tuple (rs.map PyData.int)::ds) (some 1) none).length:=by obtain⟨d1,d2,d3,d4,rfl⟩:=four l4;exact(by decide:1<=4)
   have h1:=cl (some 1) none;have h2:=cl none (some 1);refine⟨p,v4,_,1,Z,b4.aS,a4,c1,bJ,λv5 d5 H5 a5 l5 b5=>?_⟩;refine⟨p,2,_,_,b5.aS.ne,a3.go (b4.trans b5).sd,a5,eB _ bJ,λv6 H6 s6 a6=>fin (a6.le aw) (b3.trans (b4.trans (b5.trans (.bL b5.aS s6))))⟩
inductive EN(K:aa)(vs:List V)(H:Hp)(Q:VK):Prop |mk (p:Addr)(m:V)(rs:List Int)(ds:List ah)(v:V)(is:List Int)(h0:vs=[.ref p,m,v])(h1:dh H p)(h2:AD K p 2 H m (iW rs ds))(h3:m9 rs)(h4:AD K p 1 H v (.tuple (is.map PyData.int)))(h5:is.length=rs.length)(h6:∀v d H',AD K p 4 H' v d->ba p H H'->Q v H')
def qR(K:aa):Sp:=λvs H Q _=>EN K vs H Q
abbrev nc:Stmt:=top 115
theorem rz:bw ["_law_bag_here","_law_machine_here","_law_place_here","_law_how","_law_odd","_law_axis"] ["_law_bag_here","_law_machine_here","_law_place_here"] (aQ nc):=bR bC
theorem yY(F:FA K mg "_law_no_place" nc)(B:bI mg)(cu:aW P w K mg ao "_law_take" 1 fi)(jR:aW P w K mg ao "_law_odd_thing" 2 (jh K))(lP:aW P w K mg ao "_law_number_put" 3 (kN K)):aW P w K mg ao "_law_no_place" 4 (qR K):=by
 refine F.has rz (λvs H Q E h=>?_) (λ_ _ _ _ _ _=>jW λ_ _ _=>rfl) (λf ax A outer s H vs Q E hr h=>?_)
 ·obtain⟨p,m,rs,ds,v,is,rfl,_⟩:=h
  rfl
 ·obtain⟨p,m,rs,ds,v,is,rfl,bg,am,dY,aP,li,k⟩:=h
  have nd:=rz.nd;refine⟨_,(aI (pS 3 nd (pf cu hr (aq (pv 0) (aq aD az)))) (aI (pS 4 nd (pf jR hr (aq (pv 0) az))) (aI (pS 5 nd (pf cu hr (aq (pv 0) (aq (dG K B (aq (pv 2) az)) az)))) (aI (bG (bS (eT K Z hr.units) (pv 3) aD (cj _)) (aY (bp (pv 4))) bF) (aI (bG (bS (eT K Z hr.units) (pv 3) aD (cj _)) (aY (bp (gr (x:="list") (ou K Z) Z (B.at "list") vR (aq (pv 2) az)))) bF) (aI (bG (bS (eT K Z hr.units) (pv 3) aD (cj _)) (aY (bp (bh (fC K Z) (pv 2) (fQ (aq aD az))))) bF) (aI (bG (bS (eT K Z hr.units) (pv 3) aD (cj _)) (aY (bp (eG (fj K Z) (pv 2) fq (dW (kZ kB aD))))) bF) (aI (bG (bS (eT K Z hr.units) (pv 3) aD (cj _)) (aY (bp (bh (fC K Z) (bh (fC K Z) (eG (fj K Z) (pv 2) fq (dW (pv 5))) (fQ (aq (bh dz (px K (px K (pv 1) aD) (pv 5)) aD) az))) (eG (fj K Z) (pv 2) (dW (bh dz (pv 5) aD)) fq)))) bF) (aY (bp (pf lP hr (aq (pv 0) (aq (pv 2) az))))))))))))),?_⟩;refine⟨_,Z,p,6,Z,bg,aw,aw,λhow H1 lF oH b1=>?_⟩;refine⟨_,Z,p,Z,b1.aS,λodd dO H3 aO mO b2=>?_⟩;have aP:=aP.go (b1.trans b2).sd;obtain⟨ap,xp,rfl,hp,AJ⟩:=aP.gU;cases AJ.dE.hU;have Bq:=dY.hi;have A9:=dY.lo;refine⟨_,Z,_,Z,ap,_,Z,.inr (hp.go cK),p,_,Z,b2.aS,by rw[bz];omega,by rw[bz];omega,λkk H4 k0 k1 b4=>?_⟩;have Gk:kk<is.length:=by rw[bz]at k1;exact k1
  have bx:=b1.trans (b2.trans b4);have bne:=b4.aS.ne;have jY:AD K p 1 H4 (.ref ap) (.tuple (is.map PyData.int)):=aP.go b4.sd;have Ek:AD K p (1+1) H4 (.ref ap) (.tuple (is.map PyData.int)):=jY.le aw;have AX:bb K H4 ap (is.map V.int):=(hp.go b4.sd).go cK;have El:AD K p 1 H4 odd dO:=aO.go b4.sd;have fin:∀{v d H5},AD K p 3 H5 v d->aA H4 H5->Q v H5:=λ{v d H5} ad sm=>k _ _ _ (ad.le aw) (bx.trans (.bL b4.aS sm));have ne:∀{H'},aA H4 H'->H' p≠none:=λ{H'} s=>(ba.bL b4.aS s).aS.ne;have cl:=pH (is.map PyData.int);have G9:(is.map PyData.int).length<=3:=by rw[bz];omega
  refine⟨_,Z,.inl ⟨_,_,Z,Z,_,Z,?_⟩⟩;refine cD (λ_=>?_) (λ_=>?_)
  ·exact⟨_,Z,fin (El.le aw) (aA.refl _)⟩
  refine⟨_,Z,.inl ⟨_,_,Z,Z,_,Z,?_⟩⟩;refine cD (λ_=>?_) (λ_=>?_)
  ·exact⟨_,Z,ap,_,Z,.inr AX,λl H5 nw=>fin ((AD.o9 (n:=0) (jX is) nw bne).le aw) nw.same⟩
  refine⟨_,Z,.inl ⟨_,_,Z,Z,_,Z,?_⟩⟩;refine cD (λ_=>?_) (λ_=>?_)
  ·refine⟨_,Z,cI Z,λt H6 nw=>?_⟩
   refine⟨p,0,_,_,ne nw.same,jY.go nw.same.sd,AD.dZ (.one (.int 0)) nw bne,eB _ ?_,λv2 H7 s7 a7=>fin (a7.le aw) (nw.same.trans s7)⟩;show _+1<=1000;omega
  refine⟨_,Z,.inl ⟨_,_,Z,Z,_,Z,?_⟩⟩;refine cD (λ_=>?_) (λ_=>?_)
  ·exact⟨_,Z,_,Z,_,Z,p,0,_,bne,jY,λv1 H5 s5 a5=>fin (a5.le aw) s5⟩
  refine⟨_,Z,.inl ⟨_,_,Z,Z,_,Z,?_⟩⟩;refine cD (λ_=>?_) (λ_=>?_)
  ·refine⟨_,Z,_,Z,_,Z,p,0,_,bne,jY,λv1 H5 s5 a5=>?_⟩
   obtain⟨aM,ym,ar,rfl,ub,oN⟩:=tm ((am.go bx.sd).go s5.sd);obtain⟨y,my,ey⟩:=tP rs k0 bJ;refine⟨_,Z,.inr ⟨aM,_,0,_,Z,Z,ub.go cK,eX (iB 0) Z,_,Z,.inr ⟨ar,_,_,_,Z,Z,oN.go cK,ey,_,_,Z,Z,?_⟩⟩⟩;refine⟨cI Z,λt2 H8 n8=>?_⟩;have jk:=s5.trans n8.same;refine⟨p,0,_,_,ne jk,a5.go n8.same.sd,AD.dZ (.one (.int _)) n8 (ne s5),eB _ ?_,λv2 H9 s9 a9=>?_⟩
   ·have h1:=cl none (some kk)
    show _+1<=1000;omega
   have fM:=jk.trans s9;refine⟨_,Z,_,Z,_,_,Z,Z,_,Z,p,0,_,ne fM,jY.go fM.sd,λv3 gK d6 pP=>?_⟩;refine⟨p,0,_,_,ne (fM.trans d6),a9.go d6.sd,pP,eB _ ?_,λv4 iu gq jZ=>fin (jZ.le aw) (fM.trans (d6.trans gq))⟩;have h1:=cl none (some kk);have h2:=cl (some (kk+1)) none;rw[fJ];show _+1+_<=1000;omega
  ·exact⟨_,Z,_,Z,p,_,_,0,Z,b4.aS,Ek,by rw[bz];omega,bJ,λv5 d5 H5 a5 l5 b5=>k _ _ _ (a5.le aw) (bx.trans b5)⟩
open Tm (numS)
def lh(ns:List Int):Str:=Txt.join " " (ns.map numS)
def Nm (i:Int):Prop:=i.natAbs<10^40
theorem sL{i:Int}(h:Nm i):(numS i).length<=41:=wu h
theorem sO(zs:List Str):eK (zs.map PyData.str)=true:=ju.mpr λd hd=>by obtain⟨z,_,rfl⟩:=qh.mp hd;rfl
theorem kJ{H:Hp}:∀{xs:List V}{zs:List Str},aG K H xs (zs.map PyData.str)->xs=zs.map V.str |xs,[],h=>h.nil_inv |xs,n::ns,h=>by obtain⟨y,ys,rfl,h1,h2⟩:=h.cons_inv;rw[h1.str_inv,kJ h2];rfl
inductive EM(K:aa)(vs:List V)(H:Hp)(Q:VK):Prop |mk (v:_)(ns:_)(h0:vs=[v])(h1:RD K H v (.tuple (ns.map PyData.int)))(h2:ns.length<=3)(h3:(∀n∈ns,Nm n))(h4:∀H',aA H H'->Q (.str (lh ns)) H')
def qQ(K:aa):Sp:=λvs H Q _=>EM K vs H Q
abbrev mW:Stmt:=top 80
theorem rl:bw ["numbers"] ["numbers"] (aQ mW):=bR bC
theorem yS(F:FA K mg "show_numbers" mW)(B:bI mg):aW P w K mg ao "show_numbers" 1 (qQ K):=by
 refine F.has rl (λvs H Q E h=>?_) (λ_ _ _ _ _ _=>eY λ_=>rfl) (λf ax A outer s H vs Q E hr h=>?_)
 ·obtain⟨v,ns,rfl,_⟩:=h
  rfl
 ·obtain⟨v,ns,rfl,rv,hl,hb,k⟩:=h
  have nd:=rl.nd;refine⟨_,(aY (bp (sF K Z dy (aq (eI (N:=["number"]) (js:=[none]) Z Z Z (gZ K Z (pv 0)) (λ_ _ _ _ _=>(cg 0 (iL _))) (λ_ _ _ _ _=>eE) (λ_ _ _ _ _=>(gr (x:="str") uV Z (B.at "str") vQ (aq (pv 0) az)))) az)))),?_⟩;obtain⟨a,xs,rfl,h1,h2⟩:=rv.cC;rw[h2.hU]at h1;refine⟨Z,?_⟩;refine⟨_,Z,a,Z,⟨_,h1⟩,λD H1 n1=>?_⟩;refine uL (K:=K) (ds:=(ns.map numS).map PyData.str) _ h1 n1 (by simp) (by simp;omega) (sO _) ?_ ?_
  ·intro i x d H2 Q' ex ed s2 hq
   rw[dD]at ex;obtain⟨n,en,rfl⟩:=Option.map_eq_some_iff.mp ex;rw[dD,dD,en]at ed;cases ed;have hn:=hb n (kq en);exact⟨_,Z,.inl ⟨n,Z,tE hn,hq _ _ (aA.refl _) (kT _)⟩⟩
  ·intro H2 zs s2 d2 r2
   rw[kJ r2]at d2;refine⟨" ",D,ns.map numS,Z,Z,aH.of d2,λz hz=>?_,bC,by rw[bz];omega,k _ s2⟩;obtain⟨n,hn,rfl⟩:=qh.mp hz;have:=sL (hb n hn);omega
def xJ(m b d q p r s k t:V):List (Str×V):=[("machine",m),("begun_at",b),("done",d),("queue",q),("pace",p),("rate_now",r),("side",s),("mark",k),("stopping",t)]
structure k6(K:aa)(C:Addr):Prop where
 cl:dj K C
 oh:cR K C "machine"
 sW:cR K C "begun_at"
 sV:cR K C "done"
 zO:cR K C "queue"
 zP:cR K C "pace"
 zN:cR K C "rate_now"
 zM:cR K C "side"
 zQ:cR K C "mark"
 zL:cR K C "stopping"
structure kd(K:aa)(D:Addr):Prop where
 cl:dj K D
 oh:cR K D "machine"
 sU:cR K D "runner"
def k7(C:Addr)(H:Hp)(r:Addr)(bv:V):Prop:=∃dx mv q pc,H r=some (.ins C dx (xJ mv bv (.int 0) (.ref q) pc (.int 100) (.str "up") (.str "") .aK))
abbrev mY:Stmt:=inClass (top 75) 0
theorem xC:bw ["self","machine","place"] ["self","machine","place"] (aQ mY):=bR bC
inductive EI(C:Addr)(vs:List V)(H:Hp)(Q:VK):Prop |mk (a:_)(dx:_)(mv:_)(cJ:_)(h0:vs=[.ref a,mv,cJ])(h1:H a=some (.ins C dx []))(h2:∀H',k7 C H' a cJ->vE [a] H H'->Q .aK H')
def qO(K:aa)(C:Addr):Sp:=λvs H Q _=>EI C vs H Q
theorem yV{C:Addr}(F:CA K mg C "Runner" "Runner.__init__" mY)(TC:k6 K C)(gN:GT K mg "NOUGHT" [.int 0,.int 1])(C3:GV mg "FIRST_RATE" (.int 100)):mi P w K mg ao C "Runner" 1 (qO K C):=by
 obtain⟨aN,BW,FZ⟩:=gN;refine F.has xC (λvs H Q E h=>?_) (λ_ _ _ _ _ _=>jW λ_ _ _=>rfl) (λf ax A outer s H vs Q E hr h=>?_)
 · obtain⟨a,dx,mv,cJ,rfl,_⟩:=h
   rfl
 · obtain⟨a,dx,mv,cJ,rfl,e,k⟩:=h
   refine⟨_,(aI (eF TC.cl TC.oh (pv 0) (pv 1)) (aI (eF TC.cl TC.sW (pv 0) (pv 2)) (aI (eF TC.cl TC.sV (pv 0) aD) (aI (eF TC.cl TC.zO (pv 0) (eH az)) (aI (eF TC.cl TC.zP (pv 0) (cT (x:="NOUGHT") rfl BW)) (aI (eF TC.cl TC.zN (pv 0) (cT (x:="FIRST_RATE") rfl C3)) (aI (eF TC.cl TC.zM (pv 0) dy) (aI (eF TC.cl TC.zQ (pv 0) dy) (aY (eF TC.cl TC.zL (pv 0) sA)))))))))),?_⟩;refine⟨_,Z,_,Z,a,dx,_,Z,e,aw,?_⟩;refine⟨_,Z,_,Z,a,dx,_,Z,bO,by show 1<1000;decide,?_⟩;refine⟨_,Z,a,dx,_,Z,bO,by show 2<1000;decide,?_⟩;refine⟨cI Z,λq H1 n1=>?_⟩;have e1:=n1.same _ _ (bO (a:=a));refine⟨_,Z,a,dx,_,Z,e1,by show 3<1000;decide,?_⟩;refine⟨_,Z,a,dx,_,Z,bO,by show 4<1000;decide,?_⟩;refine⟨_,Z,a,dx,_,Z,bO,by show 5<1000;decide,?_⟩;refine⟨_,Z,a,dx,_,Z,bO,by show 6<1000;decide,?_⟩;refine⟨_,Z,a,dx,_,Z,bO,by show 7<1000;decide,?_⟩;refine⟨_,Z,a,dx,_,Z,bO,by show 8<1000;decide,?_⟩;refine k _ ⟨dx,mv,q,.ref aN,bO⟩ λb o eb hb=>?_;have ha:b≠a:=λz=>hb (by rw[z];exact .head _)
   repeat rw[bo ha]
   exact n1.same _ _ (by repeat rw[bo ha]
                         exact eb)
abbrev mX:Stmt:=inClass (top 75) 1
theorem xB:bw ["self"] ["self"] (aQ mX):=bR bC
inductive EH(C:Addr)(vs:List V)(H:Hp)(Q:VK):Prop |mk (a:_)(bv:_)(h0:vs=[.ref a])(h1:k7 C H a bv)(h2:Q bv H)
def qN(K:aa)(C:Addr):Sp:=λvs H Q _=>EH C vs H Q
theorem yU{C:Addr}(F:MA K C "place" "Runner.place" mX)(TC:k6 K C):ir P w K mg ao C "place" 1 (qN K C):=by
 refine F.has xB (λvs H Q E h=>?_) (λ_ _ _ _ _ _=>eY λ_=>rfl) (λf ax A outer s H vs Q E hr h=>?_)
 ·obtain⟨a,bv,rfl,_⟩:=h
  rfl
 ·obtain⟨a,bv,rfl,⟨dx,mv,q,pc,e⟩,k⟩:=h
  exact⟨_,(aI (bG (bS (eT K Z hr.units) (nW TC.cl TC.sV (pv 0)) aD (cj _)) (aY (bp (nW TC.cl TC.sW (pv 0)))) bF) si),_,Z,a,dx,_,_,Z,e,Z,.inl ⟨_,_,Z,Z,_,Z,bU ⟨_,Z,a,dx,_,_,Z,e,Z,k⟩⟩⟩
inductive F2(K:aa)(C:Addr)(vs:List V)(H:Hp)(Q:VK):Prop |mk (a:_)(bv:_)(ns:_)(h0:vs=[.ref a])(h1:k7 C H a bv)(h2:RD K H bv (.tuple (ns.map PyData.int)))(h3:ns.length<=3)(h4:(∀n∈ns,Nm n))(h5:∀H',aA H H'->Q (.str (lh ns)) H')
def qZ(K:aa)(C:Addr):Sp:=λvs H Q _=>F2 K C vs H Q
abbrev nF:Stmt:=top 93
theorem xD:bw ["runner"] ["runner"] (aQ nF):=bR bC
theorem zq{C:Addr}(F:FA K mg "answer_place" nF)(TC:k6 K C)(AV:aW P w K mg ao "show_numbers" 1 (qQ K))(C6:ir P w K mg ao C "place" 1 (qN K C)):aW P w K mg ao "answer_place" 2 (qZ K C):=by
 refine F.has xD (λvs H Q E h=>?_) (λ_ _ _ _ _ _=>eY λ_=>rfl) (λf ax A outer s H vs Q E hr h=>?_)
 ·obtain⟨a,bv,ns,rfl,_⟩:=h
  rfl
 ·obtain⟨a,bv,ns,rfl,R,rd,hl,hn,k⟩:=h
  obtain⟨dx,mv,q,pc,e⟩:=id R;exact⟨_,(aY (bp (pf AV hr (aq (yj C6 TC.cl (hr.mono aw) (pv 0)) az)))),_,Z,a,dx,_,Z,e,Z,a,bv,Z,R,bv,ns,Z,rd,hl,hn,k⟩
abbrev mV:Stmt:=inClass (top 102) 1
theorem rk:bw ["self","text","word","rest","answer","item"] ["self","text"] (aQ mV):=bR bC
inductive EG(K:aa)(C:Addr)(D:Addr)(vs:List V)(H:Hp)(Q:VK):Prop |mk (a:_)(dx:_)(mv:_)(r:_)(bv:_)(ns:_)(h0:vs=[.ref a,.str "place"])(h1:H a=some (.ins D dx [("machine",mv),("runner",.ref r)]))(h2:k7 C H r bv)(h3:RD K H bv (.tuple (ns.map PyData.int)))(h4:ns.length<=3)(h5:(∀n∈ns,Nm n))(h6:∀H',aA H H'->Q (.str (lh ns)) H')
def qM(K:aa)(C D:Addr):Sp:=λvs H Q _=>EG K C D vs H Q
theorem xl:Txt.split "place" " "=[Str.ofString "place"]:=by decide+kernel
theorem yT{C D gA:Addr}(F:MA K D "say" "Desk.say" mV)(B:bI mg)(TC:kd K D)(GA:GD w K mg "ANSWERS" gA)(hG:PySem.W.nsIn K gA "place"=some (mg "answer_place"))(p4:aW P w K mg ao "answer_place" 2 (qZ K C)):ir P w K mg ao D "say" 3 (qM K C D):=by
 refine F.has rk (λvs H Q E h=>?_) (λ_ _ _ _ _ _=>g9 λ_ _=>rfl) (λf0 ax A outer s H vs Q E hr h=>?_)
 ·obtain⟨a,dx,mv,r,bv,ns,rfl,_⟩:=h
  rfl
 ·obtain⟨a,dx,mv,r,bv,ns,rfl,ea,R,rd,hl,hn,k⟩:=h
  obtain⟨f,fd,ps,Fo,hm,hk,hb⟩:=p4;rw[hm]at hG;have nd:=rk.nd;have Co:sizeLine=16777216:=by decide
  refine⟨_,(aI (bG (dw (d7 (eJ K B (aq (pv 1) (aq (dX (x:="str") (v:=.ty "str") Z (B.at "str") vQ rfl) az))))) (aY yb) bF) (aI (kX (yA K Z (pv 1) (aq dy az)) (yi K Z Z (cg 2 nd) (cg 3 nd))) (aI (bG (PW.pt (y2 (y8 (yD GA Z (pv 2)) (by with_unfolding_all rfl)) (y1 (dw (y6 K Z (pv 3)))))) (aI (pS 4 nd (yu GA Z (pv 2) (λ_ _=>rfl))) (aY (bp (yy 4 jr (ha:=(aq (nW TC.cl TC.sU (pv 0)) az)))))) bF) si))),?_⟩;refine⟨_,Z,.inl ⟨_,"str","str",true,Z,Z,aw,aw,_,Z,bK ?_⟩⟩;refine⟨_,Z,Z,"place"," ",Z,Z,bC,bC,λl H1 n1=>?_⟩;rw[xl]at n1;refine⟨l,.str "place",[],Z,aH.of n1.at',aw,λp H2 n2=>?_⟩;have s2:=n1.same.trans n2.same;refine⟨_,Z,"place",_,Z,hG,true,Z,bU ?_⟩;refine⟨_,Z,false,.inl ⟨_,aH.of n2.at',Z⟩,bU ?_⟩;refine⟨_,Z,"place",_,.ref f,Z,hG,Z,?_⟩;obtain⟨rx,oj,q',nX,er⟩:=id R;exact⟨f,fd,ps,2,_,Z,Fo,hk,hb,hr.mono aw,_,Z,a,dx,_,_,Z,s2 _ _ ea,Z,r,bv,ns,Z,⟨rx,oj,q',nX,s2 _ _ er⟩,RD.mono s2 _ rd,hl,hn,λH3 s3=>k _ (s2.trans s3)⟩
structure CC where
 g:Addr
 c0:Addr
 c1:Addr
 c2:Addr
 c3:Addr
 c4:Addr
 c5:Addr
 c6:Addr
 c7:Addr
 c8:Addr
 c9:Addr
 eV:Addr
structure KC(K:aa)(X:CC)(C:Addr)(b0 b1 b2 b3 b4 b5 b6 b7 b8 b9 cx:Bool):Prop where
 tk:takes K C X.g
 k:fb K C
 i0:PySem.W.kitOne K (.ref C) (.ref X.c0)=some b0
 i1:PySem.W.kitOne K (.ref C) (.ref X.c1)=some b1
 i2:PySem.W.kitOne K (.ref C) (.ref X.c2)=some b2
 i3:PySem.W.kitOne K (.ref C) (.ref X.c3)=some b3
 i4:PySem.W.kitOne K (.ref C) (.ref X.c4)=some b4
 i5:PySem.W.kitOne K (.ref C) (.ref X.c5)=some b5
 i6:PySem.W.kitOne K (.ref C) (.ref X.c6)=some b6
 i7:PySem.W.kitOne K (.ref C) (.ref X.c7)=some b7
 i8:PySem.W.kitOne K (.ref C) (.ref X.c8)=some b8
 i9:PySem.W.kitOne K (.ref C) (.ref X.c9)=some b9
 AA:PySem.W.kitOne K (.ref C) (.ref X.eV)=some cx
 ve:PySem.W.kitOne K (.ref C) (.type "ValueError")=some true
structure pY(mg:aJ)(X:CC):Prop where
 h0:GV mg "NoFraction" (.ref X.c0)
 h1:GV mg "NoRate" (.ref X.c1)
 h2:GV mg "NoItem" (.ref X.c2)
 h3:GV mg "OffRails" (.ref X.c3)
 h4:GV mg "Full" (.ref X.c4)
 h5:GV mg "Moving" (.ref X.c5)
 h6:GV mg "NoTape" (.ref X.c6)
 h7:GV mg "NoText" (.ref X.c7)
 h8:GV mg "NoMachine" (.ref X.c8)
 h9:GV mg "NoPlace" (.ref X.c9)
 h10:GV mg "NoLine" (.ref X.eV)
 v:mg "ValueError"=none
def g6:List Str:=["fraction","rate","item","off","full","moving","tape","text","machine","place","line"]
inductive EZ(K:aa)(X:CC)(vs:List V)(H:Hp)(Q:VK):Prop |mk (ex:Addr)(C:Addr)(dx:Option Addr)(b0:Bool)(b1:Bool)(b2:Bool)(b3:Bool)(b4:Bool)(b5:Bool)(b6:Bool)(b7:Bool)(b8:Bool)(b9:Bool)(cx:Bool)(j:Nat)(z:Str)(h0:vs=[.ref ex])(h1:H ex=some (.ext (fc ex (.ref C) dx)))(h2:KC K X C b0 b1 b2 b3 b4 b5 b6 b7 b8 b9 cx)(h3:[b0,b1,b2,b3,b4,b5,b6,b7,b8,b9,cx].count true=1)(h4:[b0,b1,b2,b3,b4,b5,b6,b7,b8,b9,cx][j]? =some true)(h5:(∀m:Nat,m<j->[b0,b1,b2,b3,b4,b5,b6,b7,b8,b9,cx][m]? =some false))(h6:g6[j]? =some z)(h7:∀H',aA H H'->Q (.str ("refused "++z)) H')
def qX(K:aa)(X:CC):Sp:=λvs H Q _=>EZ K X vs H Q
abbrev fm:Stmt:=top 111
theorem rO:bw ["_law_e","_law_some","_law_names"] ["_law_e"] (aQ fm):=bR bC
theorem DI{j:Nat}{z:Str}(h:g6[j]? =some z):j<1000/\z.length<=100:=by
 have hm:=kq h;refine⟨by have:=(gh.mp h).1;have e:g6.length=11:=rfl;omega,?_⟩;have:∀y∈g6,y.length<=100:=by decide+kernel
 exact this z hm
def lZ:Expr:=match bN fm with|_::_::_:: .Assign _ e _::_=>e|_=>.Constant .none 0 ⟨0,0,0,0⟩
theorem DM:lit 4 lZ=some (.list (g6.map PyData.str)):=by kernel_rfl
def t9(e:Expr):List Stmt:=match bN fm with|a::b::c:: .Assign ts _ p::r=>a::b::c:: .Assign ts e p::r|r=>r
theorem zX:t9 lZ=bN fm:=by kernel_rfl
theorem DJ{X:CC}{f:Addr}{ax:Value}{A:ai}{outer:List Env}{s:ae}{H:Hp}{Q:VK}(e:Expr)(hr:dB 0 (A.deeper (envOfC "_law_class" (aQ fm) s.heap.objs.size f ax))) (he:pU (iT P w K mg ao ["_law_e","_law_some","_law_names"] "_law_class" (aQ fm) f ax A outer s H) e (jd K (.list (g6.map PyData.str)))) (eN:∀x l,swapsWith e (some x) l (iT P w K mg ao ["_law_e","_law_some","_law_names"] "_law_class" (aQ fm) f ax A outer s H).env=pure false)(B:bI mg)(N:pY mg X) {ex C:Addr}{dx:Option Addr}{b0 b1 b2 b3 b4 b5 b6 b7 b8 b9 cx:Bool}{j:Nat}{z:Str}(e1:H ex=some (.ext (fc ex (.ref C) dx)))(kc:KC K X C b0 b1 b2 b3 b4 b5 b6 b7 b8 b9 cx)(cnt:[b0,b1,b2,b3,b4,b5,b6,b7,b8,b9,cx].count true=1)(o2:[b0,b1,b2,b3,b4,b5,b6,b7,b8,b9,cx][j]? =some true)(o3:∀m:Nat,m<j->[b0,b1,b2,b3,b4,b5,b6,b7,b8,b9,cx][m]? =some false)(o5:g6[j]? =some z)(k:∀H',aA H H'->Q (.str ("refused "++z)) H'): ∃t,bW (iT P w K mg ao ["_law_e","_law_some","_law_names"] "_law_class" (aQ fm) f ax A outer s H) (t9 e) t/\t {nx:=λ_ H'=>Q .aK H',rt:=Q} (start ["_law_e","_law_some","_law_names"] [.ref ex]) H:=by
 have nd:=rO.nd;have BV:=N.h0;have BP:=N.h1;have BU:=N.h2;have BM:=N.h3;have C2:=N.h4;have BX:=N.h5;have BO:=N.h6;have BN:=N.h7;have BR:=N.h8;have BQ:=N.h9;have BS:=N.h10;have BL:=N.v;have Co:sizeLine=16777216:=by decide
 refine⟨_,(aI (pS 1 nd (eH (aq (bX (x:="isinstance") (e9 K Z) Z (B.at "isinstance") ez (aq (pv 0) (aq (cT (x:="NoFraction") rfl BV) az))) (aq (bX (x:="isinstance") (e9 K rfl) rfl (B.at "isinstance") ez (aq (pv 0) (aq (cT (x:="NoRate") rfl BP) az))) (aq (bX (x:="isinstance") (e9 K rfl) rfl (B.at "isinstance") ez (aq (pv 0) (aq (cT (x:="NoItem") rfl BU) az))) (aq (bX (x:="isinstance") (e9 K rfl) rfl (B.at "isinstance") ez (aq (pv 0) (aq (cT (x:="OffRails") rfl BM) az))) az)))))) (aI (pS 1 nd (bh (uS K Z) (pv 1) (eH (aq (bX (x:="isinstance") (e9 K Z) Z (B.at "isinstance") ez (aq (pv 0) (aq (cT (x:="Full") rfl C2) az))) (aq (bX (x:="isinstance") (e9 K rfl) rfl (B.at "isinstance") ez (aq (pv 0) (aq (cT (x:="Moving") rfl BX) az))) (aq (bX (x:="isinstance") (e9 K rfl) rfl (B.at "isinstance") ez (aq (pv 0) (aq (cT (x:="NoTape") rfl BO) az))) (aq (bX (x:="isinstance") (e9 K rfl) rfl (B.at "isinstance") ez (aq (pv 0) (aq (cT (x:="NoText") rfl BN) az))) az))))))) (aI (pS 1 nd (bh (uS K Z) (pv 1) (eH (aq (bX (x:="isinstance") (e9 K Z) Z (B.at "isinstance") ez (aq (pv 0) (aq (cT (x:="NoMachine") rfl BR) az))) (aq (bX (x:="isinstance") (e9 K rfl) rfl (B.at "isinstance") ez (aq (pv 0) (aq (cT (x:="NoPlace") rfl BQ) az))) (aq (bX (x:="isinstance") (e9 K rfl) rfl (B.at "isinstance") ez (aq (pv 0) (aq (cT (x:="NoLine") rfl BS) az))) az)))))) (aI (nS (i:=2) nd Z (Or.inl Z) he.out (eN _ _)) (aI (bG (PW.pt (fo (bS (jy K Z hr.units) (yC K Z (pv 1) (aq dF az)) aD (cj _)) (fO (dw (d7 (bX (x:="isinstance") (e9 K Z) Z (B.at "isinstance") ez (aq (pv 0) (aq (dX (x:="ValueError") (v:=.ty "ValueError") rfl BL E2 rfl) az)))))))) (aY (bp dy)) bF) (aY (bp (bh yO dy (px K (pv 2) (yB K Z (pv 1) (aq dF az))))))))))),?_⟩;refine⟨_,Z,.inl ⟨ex,C,dx,.ref X.c0,.ref X.c0,b0,Z,e1,kc.k,Z,kc.i0,?_⟩⟩;refine⟨_,Z,.inl ⟨ex,C,dx,.ref X.c1,.ref X.c1,b1,Z,e1,kc.k,Z,kc.i1,?_⟩⟩;refine⟨_,Z,.inl ⟨ex,C,dx,.ref X.c2,.ref X.c2,b2,Z,e1,kc.k,Z,kc.i2,?_⟩⟩;refine⟨_,Z,.inl ⟨ex,C,dx,.ref X.c3,.ref X.c3,b3,Z,e1,kc.k,Z,kc.i3,?_⟩⟩;refine⟨cI Z,λl1 H1 n1=>?_⟩;have e2:=n1.same _ _ e1;refine⟨_,Z,?_⟩;refine⟨_,Z,.inl ⟨ex,C,dx,.ref X.c4,.ref X.c4,b4,Z,e2,kc.k,Z,kc.i4,?_⟩⟩;refine⟨_,Z,.inl ⟨ex,C,dx,.ref X.c5,.ref X.c5,b5,Z,e2,kc.k,Z,kc.i5,?_⟩⟩;refine⟨_,Z,.inl ⟨ex,C,dx,.ref X.c6,.ref X.c6,b6,Z,e2,kc.k,Z,kc.i6,?_⟩⟩;refine⟨_,Z,.inl ⟨ex,C,dx,.ref X.c7,.ref X.c7,b7,Z,e2,kc.k,Z,kc.i7,?_⟩⟩;refine⟨cI Z,λl2 H2 n2=>?_⟩;refine⟨l1,l2,_,_,Z,Z,aH.of (n2.same _ _ n1.at'),aH.of n2.at',by show 8<=_;omega,λl3 H3 n3=>?_⟩;have s3:=n1.same.trans (n2.same.trans n3.same);have e3:=s3 _ _ e1;refine⟨_,Z,?_⟩;refine⟨_,Z,.inl ⟨ex,C,dx,.ref X.c8,.ref X.c8,b8,Z,e3,kc.k,Z,kc.i8,?_⟩⟩;refine⟨_,Z,.inl ⟨ex,C,dx,.ref X.c9,.ref X.c9,b9,Z,e3,kc.k,Z,kc.i9,?_⟩⟩;refine⟨_,Z,.inl ⟨ex,C,dx,.ref X.eV,.ref X.eV,cx,Z,e3,kc.k,Z,kc.AA,?_⟩⟩;refine⟨cI Z,λl4 H4 n4=>?_⟩;refine⟨l3,l4,_,_,Z,Z,aH.of (n4.same _ _ n3.at'),aH.of n4.at',by show 11<=_;omega,λl5 H5 n5=>?_⟩;have B9:aH K H5 l5 ([b0,b1,b2,b3,b4,b5,b6,b7,b8,b9,cx].map V.bl):=aH.of n5.at';have s5:=s3.trans (n4.same.trans n5.same);intro Ga H6 sX r6;obtain⟨l6,xs6,rfl,AK,Bx⟩:=(RD.mono CK _ r6).lst_inv;cases kJ Bx;have s6:=s5.trans sX;have lI:=B9.go sX;have e6:=s6 _ _ e1;refine⟨_,Z,.inl ⟨Z,_,lI⟩,l5,_,Z,Z,lI,.inl ⟨_,_,Z,Z,_,Z,?_⟩⟩;rw[show(!decide (((([b0,b1,b2,b3,b4,b5,b6,b7,b8,b9,cx].count true:Nat)):Int)=1))=false by rw[cnt];rfl];refine bK ?_;refine⟨_,Z,.inl ⟨ex,C,dx,.ty "ValueError",.type "ValueError",true,Z,e6,kc.k,Z,kc.ve,_,Z,bK ?_⟩⟩;obtain⟨j1,z1⟩:=DI o5;have o6:(g6.map V.str)[j]? =some (.str z):=by rw[dD,o5];rfl
 refine⟨_,Z,_,Z,.inl ⟨Z,_,lI⟩,l5,_,j,Z,Z,lI,o2,o3,j1,?_⟩;refine .inl ⟨l6,g6.map V.str,_,_,Z,Z,AK,eX bJ o6,?_⟩;refine⟨_,_,Z,Z,?_,k _ s6⟩;have e8:Str.length "refused "=8:=by decide+kernel
 omega
theorem zm{X:CC}(F:FA K mg "_law_class" fm)(B:bI mg)(N:pY mg X):mn P w K mg ao "_law_class" 1 (qX K X):=by
 refine F.BF rO (λvs H Q E h=>?_) (λ_ _ _ _ _ _=>eY λ_=>rfl) (λf ax A outer s H vs Q hr h=>?_)
 ·obtain⟨ex,C,dx,b0,b1,b2,b3,b4,b5,b6,b7,b8,b9,cx,j,z,rfl,_⟩:=h
  rfl
 ·obtain⟨ex,C,dx,b0,b1,b2,b3,b4,b5,b6,b7,b8,b9,cx,j,z,rfl,e1,kc,cnt,o2,o3,o5,k⟩:=h
  rw[<-zX];exact DJ lZ hr (sD K Z 4 lZ _ DM) (λ_ _=>rfl) B N e1 kc cnt o2 o3 o5 k
def intOf:ah->Int | .int i=>i |_=>0
def intsOf:ah->List Int | .tuple ds=>ds.map intOf |_=>[]
def dS:ah->List Int | .tuple (r::_)=>intsOf r |_=>[]
theorem oA(lo:Int):∀{es:List ah}{rs:List Int},es.length=rs.length->((es.zip rs).map λp=>bB lo p.2 p.1).all id=true->es=(es.map intOf).map PyData.int/\∀n∈es.map intOf,lo<=n/\∃r∈rs,n<=r |[],[],_,_=>⟨Z,λn hn=>(fH hn).elim⟩ |e::es,r::rs,hl,h=>by rw[List.zip_cons_cons,j8,List.all_cons,cp]at h;obtain⟨h1,h2⟩:=h;obtain⟨h3,h4⟩:=oA lo (es:=es) (rs:=rs) (by simpa using hl) h2;cases e with
 |int i=>
  have h1:(decide (lo<=i)&&decide (i<=r))=true:=h1;rw[cp,vI,vI]at h1;refine⟨?_,λn hn=>?_⟩
  ·rw[j8,j8,<-h3];rfl
  ·rcases cz.mp hn with rfl|hn
   ·exact⟨h1.1,r,.head _,h1.2⟩
   ·obtain⟨q1,r',q2,q3⟩:=h4 n hn
    exact⟨q1,r',.tail _ q2,q3⟩ |_=>exact absurd (show(false:Bool)=true from h1) aw
theorem all_ints{es:List ah}{lo hi:Int}(h:es.all (bB lo hi)=true):es=(es.map intOf).map PyData.int/\∀n∈es.map intOf,lo<=n/\n<=hi:=by obtain⟨h1,h2⟩:=oA lo (es:=es) (rs:=List.replicate es.length hi) (by simp) (by rw[List.all_map,gi];intro p hp;have:=ko hp;have e:p.2=hi:=(List.mem_replicate.mp this.2).2;show bB lo p.2 p.1=true;rw[e];exact gi.mp h _ this.1);refine⟨h1,λn hn=>?_⟩;obtain⟨q1,r,q2,q3⟩:=h2 n hn;rw[(List.mem_replicate.mp q2).2]at q3;exact⟨q1,q3⟩
theorem oo{d:ah}(h:ck d=true):∃ds,d=iW (dS d) ds/\(dS d).length<=3/\∀r∈dS d,r<=100:=by
 rcases oq d with⟨r,a,b,c,t,rfl⟩|⟨ds,rfl,_,hf⟩|⟨_,hf⟩
 ·have h:(fv r&&bB 1 100 t&&[a,b,c].all (bB 1 50))=true:=h
  rw[cp,cp]at h;obtain⟨⟨h1,_⟩,_⟩:=h;rcases gR r with⟨rs,rfl⟩|⟨_,hn⟩
  ·have h1:((rs.length==2||rs.length==3)&&rs.all (bB 1 100))=true:=h1
   rw[cp]at h1;obtain⟨q1,q2⟩:=all_ints h1.2;have e:dS (.tuple [.tuple rs,a,b,c,t])=rs.map intOf:=rfl;rw[e];refine⟨[a,b,c,t],?_,?_,λr hr=>(q2 r hr).2⟩
   ·show _=PyData.tuple (.tuple ((rs.map intOf).map PyData.int)::_)
    rw[<-q1]
   ·rw[bz]
    have:=h1.1;rw[Bool.or_eq_true,bP,bP]at this;omega
  ·have e:fv r=false:=by cases r<;>first|rfl|exact absurd rfl (hn _)
   rw[e]at h1;cases h1
 ·rw[hf]at h;cases h
 ·rw[hf]at h;cases h
theorem sq{rs:List Int}{d:ah}(h:eM rs d=true)(hr:∀r∈rs,r<=100):d= .tuple ((intsOf d).map PyData.int)/\(intsOf d).length=rs.length/\∀n∈intsOf d,Nm n:=by
 rcases gR d with⟨es,rfl⟩|⟨_,hn⟩
 ·have h:(es.length==rs.length&&((es.zip rs).map λp=>bB 0 p.2 p.1).all id)=true:=h
  rw[cp,bP]at h;obtain⟨q1,q2⟩:=oA 0 h.1 h.2;refine⟨?_,?_,λn hn=>?_⟩
  ·show PyData.tuple es= .tuple ((es.map intOf).map PyData.int)
   rw[<-q1]
  ·show(es.map intOf).length=_
   rw[bz];exact h.1
  ·obtain⟨n0,r,iM,n1⟩:=q2 n hn
   have:=hr r iM;show n.natAbs<10^40;omega
 ·have e:eM rs d=false:=by cases d<;>first|rfl|exact absurd rfl (hn _)
  rw[e]at h;cases h
def ej(d d':ah):Str:=if ck d=true then if eM (dS d) d'=true then lh (intsOf d')else "refused place" else "refused machine"
abbrev nC:Stmt:=inClass (top 102) 0
theorem rN:bw ["self","machine","place"] ["self","machine","place"] (aQ nC):=bR bC
inductive EW(K:aa)(C:Addr)(D:Addr)(X:CC)(vs:List V)(H:Hp)(Q:VK)(E:XK):Prop |mk (a:_)(dx:_)(mv:_)(cJ:_)(d:_)(d':_)(h0:vs=[.ref a,mv,cJ])(h1:H a=some (.ins D dx []))(h2:RD K H mv d)(h3:RD K H cJ d')(h4:(ck d=false->∀H',aA H H'->E (.ref X.c8) none H'))(h5:(ck d=true->eM (dS d) d'=false->∀H',aA H H'->E (.ref X.c9) none H'))(h6:(ck d=true->eM (dS d) d'=true->∀r H',H' a=some (.ins D dx [("machine",mv),("runner",.ref r)])->k7 C H' r cJ->vE [a] H H'->Q .aK H'))
def qW(K:aa)(C D:Addr)(X:CC):Sp:=λvs H Q E=>EW K C D X vs H Q E
structure mq(K:aa)(mg:aJ)(X:CC):Prop where
 g:Exc K mg "GlideError" X.g ig iJ
 m:Exc K mg "NoMachine" X.c8 ig iJ
 p:Exc K mg "NoPlace" X.c9 ig iJ
 n:pY mg X
 km:KC K X X.c8 false false false false false false false false true false false
 kp:KC K X X.c9 false false false false false false false false false true false
theorem zl{C D:Addr}{X:CC}(F:CA K mg D "Desk" "Desk.__init__" nC)(TC:kd K D)(EX:mq K mg X)(Bk:aW P w K mg ao "is_machine" 4 (gW ck K))(Bj:aW P w K mg ao "is_place" 3 (jg K))(C5:mi P w K mg ao C "Runner" 1 (qO K C)):me P w K mg ao D "Desk" 5 (qW K C D X):=by
 have Ck:=EX.m;have Cj:=EX.p;refine F.BG rN (λvs H Q E h=>?_) (λ_ _ _ _ _ _=>jW λ_ _ _=>rfl) (λf ax A outer s H vs Q E hr h=>?_)
 ·obtain⟨a,dx,mv,cJ,d,d',rfl,_⟩:=h
  rfl
 ·obtain⟨a,dx,mv,cJ,d,d',rfl,e,rm,rp,k1,k2,k3⟩:=h
  have nd:=rN.nd;refine⟨_,(aI (bG (dw (d7 (pf Bk hr (aq (pv 1) az)))) (aY (sj (λ_ _ _ _ _ _ _ I m q=>qs I m q) Ck PySem.F.excBase_ValueError hr.hd Z (aq dy az))) bF) (aI (bG (dw (d7 (pf Bj hr (aq (pv 1) (aq (pv 2) az))))) (aY (sj (λ_ _ _ _ _ _ _ I m q=>qs I m q) Cj PySem.F.excBase_ValueError hr.hd Z (aq dy az))) bF) (aI (eF TC.cl TC.oh (pv 0) (pv 1)) (aY (eF TC.cl TC.sU (pv 0) (yn C5 (hr.mono aw) rfl (aq (pv 1) (aq (pv 2) az)))))))),?_⟩;refine⟨_,Z,mv,d,Z,rm,λH1 s1=>⟨_,Z,?_⟩⟩;cases em:ck d with |false=>exact bU ⟨cI Z,k1 em _ s1⟩ |true=>refine bK ?_;obtain⟨ds,ed,l3,lB⟩:=oo em;have rV:=RD.mono s1 _ rm;rw[ed]at rV;refine⟨_,Z,_,Z,mv,cJ,dS d,ds,d',Z,rV,RD.mono s1 _ rp,l3,λH2 s2=>⟨_,Z,?_⟩⟩;have gY:=s1.trans s2;cases ep:eM (dS d) d' with |false=>exact bU ⟨cI Z,k2 em ep _ gY⟩ |true=>
   refine bK ?_;have e2:=gY _ _ e;refine⟨_,Z,_,Z,a,dx,_,Z,e2,aw,?_⟩;refine⟨_,Z,_,Z,λr rx iM lA ne=>⟨r,rx,mv,cJ,Z,bO,λH3 RN bt=>⟨Z,?_⟩⟩⟩;have ar:a≠r:=λz=>by rw[<-z,bO]at iM;cases iM
   have Ec:a≠rx:=λz=>by rw[<-z,bO]at lA;cases lA
   have e3:=bt a _ (by rw[bo ar,bo Ec];exact bO) (λz=>ar (qf.mp z));refine⟨_,Z,a,dx,_,Z,e3,by show 1<1000;decide,?_⟩;refine k3 em ep r _ bO ?_ λb o eb hb=>?_
   ·obtain⟨xH,oj,q',nX,er⟩:=RN
    exact⟨xH,oj,q',nX,by rw[bo ar.symm];exact er⟩
   ·have ha:b≠a:=λz=>hb (by rw[z];exact .head _)
    have pG:=gY _ _ eb;have ui:b≠r:=λz=>by subst z;rw[bo ha,pG]at iM;cases iM
    have lO:b≠rx:=λz=>by subst z;rw[bo ha,pG]at lA;cases lA
    rw[bo ha];exact bt b o (by rw[bo ui,bo lO,bo ha];exact pG) (λz=>ui (qf.mp z))
theorem CT:∀m:Nat,m<8->[false,false,false,false,false,false,false,false,true,false,false][m]? =some false:=by decide
theorem CS:∀m:Nat,m<9->[false,false,false,false,false,false,false,false,false,true,false][m]? =some false:=by decide
inductive ES(K:aa)(vs:List V)(H:Hp)(Q:VK):Prop |mk (mv:_)(cJ:_)(d:_)(d':_)(h0:vs=[mv,cJ])(h1:RD K H mv d)(h2:RD K H cJ d')(h3:∀H',aA H H'->Q (.str (ej d d')) H')
def qT(K:aa):Sp:=λvs H Q _=>ES K vs H Q
abbrev ni:Stmt:=top 119
theorem rC:bw ["_law_machine_here","_law_place_here","_law_e"] ["_law_machine_here","_law_place_here"] (aQ ni):=bR bC
theorem za{C D:Addr}{X:CC}(F:FA K mg "_law_made" ni)(B:bI mg)(DC:kd K D)(EX:mq K mg X)(Cm:me P w K mg ao D "Desk" 5 (qW K C D X))(Cn:ir P w K mg ao D "say" 3 (qM K C D))(Ce:mn P w K mg ao "_law_class" 1 (qX K X)):aW P w K mg ao "_law_made" 8 (qT K):=by
 refine F.BH rC (λvs H Q E h=>?_) (λ_ _ _ _ _ _=>g9 λ_ _=>rfl) (λf ax A outer s H vs Q E hr h=>?_)
 ·obtain⟨mv,cJ,d,d',rfl,_⟩:=h
  rfl
 ·obtain⟨mv,cJ,d,d',rfl,rm,rp,k⟩:=h
  have nd:=rC.nd;have hy:=EX.g;have oZ:(ig).contains (.type "BaseException")=true:=by decide
  have p7:∀C',(C'=X.c8\/C'=X.c9)->ClsAt K C'/\takes K C' X.g:=λC' e=>by
   rcases e with rfl|rfl
   ·exact⟨EX.m.cls,EX.km.tk⟩
   ·exact⟨EX.p.cls,EX.kp.tk⟩
  refine⟨_,(k8.one (ya (i:=2) Z Z nd Z Z Z (λE xe hp=>(aY (bp (yk Cn DC.cl (hr.mono aw) (yl Cm hp (hr.mono aw) Z (aq (pv 0) (aq (pv 1) az))) (aq dy az))))) Z hy oZ p7 (λex=>(aY (bp (yw Ce ((hr.mark _).mono aw) Z (aq (pv 2) az))))))),?_⟩;refine⟨λcls dx H'=>aA H H'/\((cls= .ref X.c8/\ck d=false)\/(cls= .ref X.c9/\ck d=true/\eM (dS d) d'=false)),?_,λcls dx H' h=>?_,?_⟩
  ·refine⟨_,Z,_,Z,λx dx hx Bu ne=>?_⟩
   have s1:aA H (L2.upd (L2.upd H dx (.own x)) x (.ins D dx [])):=(aA.new Bu).trans (aA.new (by rw[bo ne.symm];exact hx));refine⟨x,dx,mv,cJ,d,d',Z,bO,RD.mono s1 _ rm,RD.mono s1 _ rp,λem H' s'=>⟨s1.trans s',.inl ⟨Z,em⟩⟩,λem ep H' s'=>⟨s1.trans s',.inr ⟨Z,em,ep⟩⟩,λem ep r H' ea RN bt=>⟨Z,?_⟩⟩;obtain⟨ds,ed,l3,lB⟩:=oo em;obtain⟨p1,p2,p3⟩:=sq ep lB;have s2:aA H H':=λb o eb=>bt b o (s1 b o eb) λz=>by rw[qf.mp z,hx]at eb;cases eb
   have rS:=RD.mono s2 _ rp;rw[p1]at rS;refine⟨x,dx,_,Z,ea,Z,x,dx,mv,r,cJ,intsOf d',Z,ea,RN,rS,bJ,p3,λH3 s3=>?_⟩;have:=k H3 (s2.trans s3);unfold ej at this;rw[bc em,bc ep]at this;exact this
  ·rcases h.2 with⟨e,_⟩|⟨e,_⟩
   ·exact⟨_,e,.inl Z⟩
   ·exact⟨_,e,.inr Z⟩
  ·rintro C' ex dx σ' H' hl ⟨sm,hE⟩ hex
   have Ba:σ'.length=3:=hl
   match σ',Ba with
   |[u1,u2,u3],_=>
    have e1:(L2.upd H' ex (.ext (fc ex (.ref C') dx))) ex=some (.ext (fc ex (.ref C') dx)):=bO;have sn:=sm.trans (aA.new (o:=.ext (fc ex (.ref C') dx)) hex);rcases hE with⟨eC,em⟩|⟨eC,em,ep⟩
    ·cases eC
     refine⟨_,Z,ex,X.c8,dx,_,_,_,_,_,_,_,_,_,_,_,8,"machine",Z,e1,EX.km,aw,Z,CT,Z,λH2 s2=>?_⟩
     ·have:=k H2 (sn.trans s2)
      unfold ej at this;rw[bf (by rw[em];decide)]at this;exact this
    ·cases eC
     refine⟨_,Z,ex,X.c9,dx,_,_,_,_,_,_,_,_,_,_,_,9,"place",Z,e1,EX.kp,aw,Z,CS,Z,λH2 s2=>?_⟩
     ·have:=k H2 (sn.trans s2)
      unfold ej at this;rw[bc em,bf (by rw[ep];decide)]at this;exact this
end
end Lw
set_option maxHeartbeats 2000000
namespace Lw
open PySem PySem.Spec PyProof.Rows L2
open Tm (numS)
section
variable {P:af}{w:World}{K:aa}{mg:aJ}{ao:Heap}
def qV(K:aa):Sp:=λvs H Q _=>∃(a:Addr)(ns:List Int),vs=[.ref a]/\aH K H a (ns.map V.int)/\ns.length<=63/\∀H',Q (.bl true) H'
abbrev jj:Stmt:=top 120
theorem rE:bw ["_law_script","_law_at","_law_bag_here","_law_how","_law_right","_law_place_here","_law_machine_here","_law_due"] ["_law_script"] (aQ jj):=bR bC
theorem zh{f:Addr}{fd:FuncData}(F:dM K "law" "law" jj f fd)(B:bI mg)(Cf:aW P w K mg ao "_law_bag" 1 (qY K))(cu:aW P w K mg ao "_law_take" 1 fi)(Ca:aW P w K mg ao "_law_machine" 2 (qU K))(C7:aW P w K mg ao "_law_place" 2 (qP K))(C9:aW P w K mg ao "_law_no_machine" 4 (qS K))(C8:aW P w K mg ao "_law_no_place" 4 (qR K))(Cd:aW P w K mg ao "_law_is_machine" 3 (gW ck K))(Cc:aW P w K mg ao "_law_is_place" 3 (jg K))(uk:aW P w K mg ao "_law_made" 8 (qT K)):cF P w K mg ao cN 9 f fd ["_law_script"] (qV K):=by
 refine F.ok rE (λvs H Q E h=>?_) (λax A outer s H vs Q E hr h=>?_)
 ·obtain⟨a,ns,rfl,_⟩:=h
  rfl
 ·obtain⟨a,ns,rfl,hS,hlen,k⟩:=h
  have nd:=rE.nd;refine⟨_,(aI (sk PassesOwn.never Z (kY Z (B.at "range") (aq (bX (x:="max") (DS rfl) rfl (B.at "max") PyProof.Rows.boot_max (aq aD (aq (bX (x:="min") (uW rfl) rfl (B.at "min") PyProof.Rows.boot_min (aq aD (aq (dG K B (aq (pv 0) az)) az))) az))) az)) (cg 1 nd) (aI (pS 2 nd (pf Cf hr (aq (pv 0) (aq (pv 1) az)))) (aI (pS 3 nd (pf cu hr (aq (pv 2) (aq aD az)))) (aI (pS 4 nd (pf Ca hr (aq (pv 2) az))) (aI (pS 5 nd (pf C7 hr (aq (pv 2) (aq (pv 4) az)))) (aI (pS 6 nd (pv 4)) (aI (jl (bG (bS (tS K Z) (pv 3) (eH (aq aD (aq aD az))) (by with_unfolding_all rfl)) (aY (pS 6 nd (pf C9 hr (aq (pv 2) (aq (pv 4) az))))) bF)) (aI (jl (bG (bS (tS K Z) (pv 3) (eH (aq aD (aq aD az))) (by with_unfolding_all rfl)) (aY (pS 5 nd (pf C8 hr (aq (pv 2) (aq (pv 4) (aq (pv 5) az)))))) bF)) (aI (pS 7 nd dy) (aI (jl (bG (d7 (pf Cd hr (aq (pv 6) az))) (aI (pS 7 nd dy) (aY (bG (d7 (pf Cc hr (aq (pv 6) (aq (pv 5) az)))) (aY (pS 7 nd (sF K Z dy (aq (eI (N:=["_law_one"]) (js:=[none]) Z Z Z (gZ K Z (pv 5)) (λ_ _ _ _ _=>(cg 0 (iL _))) (λ_ _ _ _ _=>eE) (λ_ _ _ _ _=>(gr (x:="str") uV Z (B.at "str") vQ (aq (pv 0) az)))) az)))) bF))) bF)) (aY (bG (PW.pt (fo (bS sI (pf uk hr (aq (pv 6) (aq (pv 5) az))) (pv 7) (cj _)) (fO (bS sI (pf uk hr (aq (pv 6) (aq (pv 5) az))) (pv 7) (cj _))))) (aY (bp dF)) bF)))))))))))) (aY (bp dF))),?_⟩;refine⟨_,Z,a,_,Z,.inl hS,_,_,Z,_,_,Z,_,Z,?_,?_,?_⟩
  ·split<;>(try split)<;>lia
  ·split<;>(try split)<;>(try rw[bz])<;>lia
  have hN:(if(if((ns.map V.int).length:Int)<12 then((ns.map V.int).length:Int)else 12)>1 then(if((ns.map V.int).length:Int)<12 then((ns.map V.int).length:Int)else 12)else 1).toNat<=12:=by split<;>(try split)<;>lia
  refine uB (Pv:=λi O H2=>aA H H2/\∃v1 v2 v3 v4 v5 v6 v7,O=[some (.ref a),v1,v2,v3,v4,v5,v6,v7]) ?_ ?_ ?_
  ·exact⟨aA.refl _,none,none,none,none,none,none,none,Z⟩
  ·rintro i O H2 hi ⟨s2,v1,v2,v3,v4,v5,v6,v7,rfl⟩
   have Gm:i<12:=cZ hi hN;refine⟨_,Z,_,Z,a,ns,_,Z,s2.seq hS,hlen,aV,aV,λp H3 np E5 s3=>?_⟩;refine⟨_,Z,p,4,Z,E5,aw,aw,λhow H4 lF oH b4=>?_⟩;refine⟨_,Z,p,Z,b4.aS,λm rs ds H5 am dY l4 b5=>?_⟩;refine⟨_,Z,_,Z,p,m,rs,ds,Z,b5.aS,am,dY,λpl is H6 aP li b6=>?_⟩;have E7:=b4.trans (b5.trans b6);refine⟨_,Z,?_⟩;refine⟨λO H'=>∃mh d,O=[some (.ref a),some (.int (0+(i:Int))),some (.ref p),some (.int how),some m,some pl,some mh,v7]/\AD K p 4 H' mh d/\ba p H6 H',?_,?_⟩
   ·refine⟨_,Z,cI Z,λl H7 n7=>?_⟩
    have b7:ba p H6 H7:=.bL b6.aS n7.same;refine⟨l,_,Z,.inl (aH.of n7.at'),Z,Z,_,Z,?_⟩;refine cD (λ_=>?_) (λ_=>?_)
    ·exact⟨_,Z,_,Z,p,m,rs,ds,Z,b7.aS,am.go (b6.trans b7).sd,dY,l4,λv d H8 a8 b8=>⟨v,d,Z,a8,b7.trans b8⟩⟩
    ·exact⟨m,_,Z,(am.go (b6.trans b7).sd).le aw,b7⟩
   rintro O H7 ⟨mh,d,rfl,aM,b7⟩;refine⟨λO H'=>∃ph d',O=[some (.ref a),some (.int (0+(i:Int))),some (.ref p),some (.int how),some m,some ph,some mh,v7]/\AD K p 4 H' ph d'/\ba p H7 H',?_,?_⟩
   ·refine⟨_,Z,cI Z,λl H8 n8=>?_⟩
    have b8:ba p H7 H8:=.bL b7.aS n8.same;refine⟨l,_,Z,.inl (aH.of n8.at'),Z,Z,_,Z,?_⟩;have m7:=aP.go (b7.trans b8).sd;refine cD (λ_=>?_) (λ_=>?_)
    ·exact⟨_,Z,_,Z,_,Z,p,m,rs,ds,pl,is,Z,b8.aS,am.go (b6.trans (b7.trans b8)).sd,dY,m7,li,λv d H9 a9 b9=>⟨v,d,Z,a9,b8.trans b9⟩⟩
    ·exact⟨pl,_,Z,m7.le aw,b8⟩
   rintro O H8 ⟨ph,d',rfl,m7,b8⟩;have rm:RD K H8 mh d:=(aM.go b8.sd).sf;have rp:RD K H8 ph d':=m7.sf;have s8:aA H H8:=ba.xE (s2.trans s3) (by cases e:H p with |none=>rfl |some o=>exact absurd (s2 _ _ e) (by rw[np];exact λz=>nomatch z)) (E7.trans (b7.trans b8));refine⟨λO H'=>O=[some (.ref a),some (.int (0+(i:Int))),some (.ref p),some (.int how),some m,some ph,some mh,some (.str (ej d d'))]/\aA H8 H',?_,?_⟩
   ·refine⟨_,Z,mh,d,Z,rm,λH9 s9=>⟨_,Z,?_⟩⟩
    cases em:ck d with |false=>exact bK ⟨by unfold ej;rw[bf (by rw[em];decide)];rfl,s9⟩ |true=>refine bU ?_;obtain⟨dm,ed,l3,lB⟩:=oo em;have rT:=RD.mono s9 _ rm;rw[ed]at rT;refine⟨_,Z,_,Z,mh,ph,dS d,dm,d',Z,rT,RD.mono s9 _ rp,l3,λgK d6=>⟨_,Z,?_⟩⟩;have gX:=s9.trans d6;cases ep:eM (dS d) d' with |false=>exact bK ⟨by unfold ej;rw[bc em,bf (by rw[ep];decide)];rfl,gX⟩ |true=>
     refine bU ?_;obtain⟨p1,p2,p3⟩:=sq ep lB;have nL:=RD.mono gX _ rp;rw[p1]at nL;generalize Dn:intsOf d'=zs at p2 p3 nL;obtain⟨ap,xs,rfl,h1,h2⟩:=nL.cC;rw[h2.hU]at h1;refine⟨Z,?_⟩;refine⟨_,Z,ap,Z,⟨_,h1⟩,λD H1 n1=>?_⟩;refine uL (K:=K) (ds:=(zs.map numS).map PyData.str) _ h1 n1 (by simp) (by simp;lia) (sO _) ?_ ?_
     ·intro i x d H2 Q' ex ed s2 hq
      rw[dD]at ex;obtain⟨n,en,rfl⟩:=Option.map_eq_some_iff.mp ex;rw[dD,dD,en]at ed;cases ed;have hn:=p3 n (kq en);exact⟨_,Z,.inl ⟨n,Z,tE hn,hq _ _ (aA.refl _) (kT _)⟩⟩
     ·intro H2 ys s2 d2 r2
      rw[kJ r2]at d2;refine⟨" ",D,zs.map numS,Z,Z,aH.of d2,λz hz=>?_,bC,by rw[bz];lia,by unfold ej;rw[bc em,bc ep,Dn];rfl,gX.trans s2⟩;obtain⟨n,hn,rfl⟩:=qh.mp hz;have:=sL (p3 n hn)
      lia
   rintro O H9 ⟨rfl,s9⟩;refine⟨_,Z,_,Z,mh,ph,d,d',Z,RD.mono s9 _ rm,RD.mono s9 _ rp,λgK d6=>?_⟩;have gX:=s9.trans d6;refine⟨_,Z,Z,_,Z,?_⟩;rw[show(!decide (V.str (ej d d')=V.str (ej d d')))=false by rw[decide_eq_true rfl];rfl];refine bK ?_;refine⟨_,Z,_,Z,mh,ph,d,d',Z,RD.mono gX _ rm,RD.mono gX _ rp,λiu gq=>?_⟩;refine⟨_,Z,Z,_,Z,?_⟩;rw[show(!decide (V.str (ej d d')=V.str (ej d d')))=false by rw[decide_eq_true rfl];rfl];exact bK ⟨s8.trans (gX.trans gq),_,_,_,_,_,_,_,Z⟩
  ·rintro O H2 ⟨_,v1,v2,v3,v4,v5,v6,v7,rfl⟩
   exact k H2
end
end Lw
set_option maxHeartbeats 1000000
namespace Lw
open PySem PySem.Spec PyProof.Rows L2
theorem eP{K:aa}{mg:aJ}{h:Heap}{x:Str}{c:Addr}(X:K.In h)(G:h.Ns mainGlobals mg)(a:PySem.W.nsIn K mainGlobals x=some (some (.ref c))):GV mg x (.ref c):=⟨_,iZ X G a,Z⟩
theorem pC{K:aa}{mg:aJ}{h:Heap}{x:Str}{c:Addr}{bm:List Value}{nw:String}(X:K.In h)(G:h.Ns mainGlobals mg)(a:PySem.W.nsIn K mainGlobals x=some (some (.ref c)))(q:PySem.W.excIn K c bm nw=true):Exc K mg x c bm nw:=⟨iZ X G a,q⟩
theorem Ed{K:aa}{mg:aJ}{h:Heap}{a:Addr}{v:Value}(X:K.In h)(G:h.Ns mainGlobals mg)(e1:PySem.W.nsIn K mainGlobals "answer_place"=some (some v))(e2:PySem.W.nsIn K a "place"=some (some v)):PySem.W.nsIn K a "place"=some (mg "answer_place"):=by rw[e2,iZ X G e1]
theorem Dw{K:aa}{mg:aJ}{h:Heap}{cG c0 c1 c2 c3 c4 c5 c6 c7 c8 c9 eV:Addr}(X:K.In h)(G:h.Ns mainGlobals mg)(ag:PySem.W.nsIn K mainGlobals "GlideError"=some (some (.ref cG)))(qg:PySem.W.excIn K cG ig iJ=true) (h0:PySem.W.nsIn K mainGlobals "NoFraction"=some (some (.ref c0)))(h1:PySem.W.nsIn K mainGlobals "NoRate"=some (some (.ref c1)))(h2:PySem.W.nsIn K mainGlobals "NoItem"=some (some (.ref c2)))(h3:PySem.W.nsIn K mainGlobals "OffRails"=some (some (.ref c3)))(h4:PySem.W.nsIn K mainGlobals "Full"=some (some (.ref c4)))(h5:PySem.W.nsIn K mainGlobals "Moving"=some (some (.ref c5)))(h6:PySem.W.nsIn K mainGlobals "NoTape"=some (some (.ref c6)))(h7:PySem.W.nsIn K mainGlobals "NoText"=some (some (.ref c7)))(h8:PySem.W.nsIn K mainGlobals "NoMachine"=some (some (.ref c8)))(h9:PySem.W.nsIn K mainGlobals "NoPlace"=some (some (.ref c9)))(h10:PySem.W.nsIn K mainGlobals "NoLine"=some (some (.ref eV)))(v:PySem.W.nsIn K mainGlobals "ValueError"=some none) (qm:PySem.W.excIn K c8 ig iJ=true)(qp:PySem.W.excIn K c9 ig iJ=true) (mt:takes K c8 cG)(mk:fb K c8)(mi0:PySem.W.kitOne K (.ref c8) (.ref c0)=some false)(mi1:PySem.W.kitOne K (.ref c8) (.ref c1)=some false)(mi2:PySem.W.kitOne K (.ref c8) (.ref c2)=some false)(mi3:PySem.W.kitOne K (.ref c8) (.ref c3)=some false)(mi4:PySem.W.kitOne K (.ref c8) (.ref c4)=some false)(mi5:PySem.W.kitOne K (.ref c8) (.ref c5)=some false)(mi6:PySem.W.kitOne K (.ref c8) (.ref c6)=some false)(mi7:PySem.W.kitOne K (.ref c8) (.ref c7)=some false)(mi8:PySem.W.kitOne K (.ref c8) (.ref c8)=some true)(mi9:PySem.W.kitOne K (.ref c8) (.ref c9)=some false)(mi10:PySem.W.kitOne K (.ref c8) (.ref eV)=some false)(mv:PySem.W.kitOne K (.ref c8) (.type "ValueError")=some true) (pt:takes K c9 cG)(pk:fb K c9)(pi0:PySem.W.kitOne K (.ref c9) (.ref c0)=some false)(pi1:PySem.W.kitOne K (.ref c9) (.ref c1)=some false)(pi2:PySem.W.kitOne K (.ref c9) (.ref c2)=some false)(pi3:PySem.W.kitOne K (.ref c9) (.ref c3)=some false)(pi4:PySem.W.kitOne K (.ref c9) (.ref c4)=some false)(pi5:PySem.W.kitOne K (.ref c9) (.ref c5)=some false)(pi6:PySem.W.kitOne K (.ref c9) (.ref c6)=some false)(pi7:PySem.W.kitOne K (.ref c9) (.ref c7)=some false)(pi8:PySem.W.kitOne K (.ref c9) (.ref c8)=some false)(pi9:PySem.W.kitOne K (.ref c9) (.ref c9)=some true)(pi10:PySem.W.kitOne K (.ref c9) (.ref eV)=some false)(pv:PySem.W.kitOne K (.ref c9) (.type "ValueError")=some true) :∃X,mq K mg X:=⟨⟨cG,c0,c1,c2,c3,c4,c5,c6,c7,c8,c9,eV⟩,pC X G ag qg,pC X G h8 qm,pC X G h9 qp,⟨eP X G h0,eP X G h1,eP X G h2,eP X G h3,eP X G h4,eP X G h5,eP X G h6,eP X G h7,eP X G h8,eP X G h9,eP X G h10,PySem.W.mg_none_of X G v⟩,⟨mt,mk,mi0,mi1,mi2,mi3,mi4,mi5,mi6,mi7,mi8,mi9,mi10,mv⟩,⟨pt,pk,pi0,pi1,pi2,pi3,pi4,pi5,pi6,pi7,pi8,pi9,pi10,pv⟩⟩
structure vD(K:aa)(mg:aJ)(C D:Addr):Prop where
 tc:k6 K C
 init:CA K mg C "Runner" "Runner.__init__" mY
 place:MA K C "place" "Runner.place" mX
 td:kd K D
 Dt:CA K mg D "Desk" "Desk.__init__" nC
 say:MA K D "say" "Desk.say" mV
structure All(w:World)(K:aa)(mg:aJ):Prop where
 B:bI mg
 Cy:GT K mg "NOUGHT" [.int 0,.int 1]
 CG:GT K mg "AXES" [.int 2,.int 3]
 CB:GV mg "LONGEST_RAIL" (.int 100)
 CD:GV mg "GREATEST_CHANGE" (.int 50)
 Cz:GV mg "MOST_TICKS" (.int 100)
 CF:GV mg "FIRST_RATE" (.int 100)
 Ee:∃a,GD w K mg "ANSWERS" a/\PySem.W.nsIn K a "place"=some (mg "answer_place")
 cls:∃X,mq K mg X
 dk:∃C D,vD K mg C D
 law:FA K mg "law" jj
 D0:FA K mg "is_whole" ny
 CZ:FA K mg "is_whole_within" mT
 D3:FA K mg "is_machine" nB
 D4:FA K mg "are_rails" nE
 D1:FA K mg "is_place" nA
 CY:FA K mg "show_numbers" mW
 D5:FA K mg "answer_place" nF
 Dm:FA K mg "_law_bag" nD
 D7:FA K mg "_law_take" mU
 Di:FA K mg "_law_is_whole" nr
 D9:FA K mg "_law_odd_thing" fk
 Dh:FA K mg "_law_machine" nj
 D8:FA K mg "_law_place" mZ
 Dl:FA K mg "_law_class" fm
 Dd:FA K mg "_law_number_put" ng
 Df:FA K mg "_law_no_machine" nh
 De:FA K mg "_law_no_place" nc
 D6:FA K mg "_law_within" nk
 Dk:FA K mg "_law_is_machine" nv
 Dj:FA K mg "_law_is_place" nu
 Dg:FA K mg "_law_made" ni
theorem Ef{P:af}{w:World}{K:aa}{mg:aJ}{ao:Heap}{f:Addr}{fd:FuncData}(A:All w K mg)(F:dM K "law" "law" jj f fd):cF P w K mg ao cN 9 f fd ["_law_script"] (qV K):=by obtain⟨gA,GA,hG⟩:=A.Ee;obtain⟨X,EX⟩:=A.cls;obtain⟨C,D,DA⟩:=A.dk;have tk:aW P w K mg ao "_law_take" 1 fi:=yR A.D7 A.B;have iw:aW P w K mg ao "is_whole" 1 (ji K):=zi A.D0 A.B;have ww:aW P w K mg ao "is_whole_within" 2 (jf K):=yQ A.CZ A.B iw;have im:aW P w K mg ao "is_machine" 4 (gW ck K):=zk A.D3 A.B A.Cz A.CD ww (zp A.D4 A.B A.CG A.CB ww);have ip:aW P w K mg ao "is_place" 3 (jg K):=zj A.D1 A.B ww;have tu:aW P w K mg ao "_law_within" 2 (kO K):=zc A.D6 A.B (zd A.Di A.B);have odd:aW P w K mg ao "_law_odd_thing" 2 (jh K):=yX A.D9 A.B tk;have np:aW P w K mg ao "_law_number_put" 3 (kN K):=yZ A.Dd A.B tk odd;have p4:=zq (P:=P) (w:=w) (ao:=ao) A.D5 DA.tc (yS A.CY A.B) (yU DA.place DA.tc);have say:=yT DA.say A.B DA.td GA hG p4;have Du:=zl (P:=P) (w:=w) (ao:=ao) DA.Dt DA.td EX im ip (yV DA.init DA.tc A.Cy A.CF);have md:=za A.Dg A.B DA.td EX Du say (zm A.Dl A.B EX.n);exact zh F A.B (zo A.Dm A.B) tk (zb A.Dh A.B tk) (yW A.D8 A.B tk) (z9 A.Df A.B tk odd np) (yY A.De A.B tk odd np) (zf A.Dk A.B tu) (ze A.Dj A.B tu) md
end Lw
def PySem.W.Fast.tw10394355991497479571:PySem.Program:=PySem.Challenge.pw_glidequeue_k60_desks_made_of_any_things
theorem PySem.W.Fast.te10394355991497479571:PySem.Challenge.pw_glidequeue_k60_desks_made_of_any_things=PySem.W.Fast.tw10394355991497479571:=rfl
def PySem.W.Fast.tw17831497118303190637:Nat:=0
def PySem.W.Fast.tw7561915941977877055:Nat:=0
def PySem.W.Fast.tw8381992659353318440:Nat:=0
def PySem.W.Fast.tw10630597504476955495:Nat:=0
def PySem.W.Fast.tw10533921331774559850:Nat:=0
def PySem.W.Fast.tw14381459050959802197:Nat:=0
def PySem.W.Fast.tw13974127928424945717:Nat:=0
def PySem.W.Fast.tw9778316335755171444:Nat:=0
def PySem.W.Fast.tw4037597824649353626:Nat:=0
def PySem.W.Fast.tw11368158184953067837:Nat:=0
def PySem.W.Fast.tw7758765069695301408:Nat:=0
def PySem.W.Fast.tw6702536656177226759:Nat:=0
def PySem.W.Fast.tw9964887073422469494:Nat:=0
def PySem.W.Fast.tw12520511359068911034:Nat:=0
def PySem.W.Fast.tw10728915820560291476:Nat:=0
def PySem.W.Fast.tw8101385511912380364:Nat:=0
def PySem.W.Fast.tw8588597703087511349:Nat:=0
def PySem.W.Fast.tw11610241557123795060:Nat:=0
def PySem.W.Fast.tw14055100843944894846:Nat:=0
def PySem.W.Fast.tw12522666158175583897:Nat:=0
def PySem.W.Fast.tw16731568517687020025:Nat:=0
def PySem.W.Fast.tw10972876692787923114:Nat:=0
def PySem.W.Fast.tw15447579818746855273:Nat:=0
def PySem.W.Fast.tw12948856258461271902:Nat:=0
def PySem.W.Fast.tw18256461141829899392:Nat:=0
def PySem.W.Fast.tw8997270751133438109:Nat:=0
def PySem.W.Fast.tw650417768284038491:Nat:=0
def PySem.W.Fast.tw17969780489707174850:Nat:=0
def PySem.W.Fast.tw11136621346648258424:Nat:=0
def PySem.W.Fast.tw2788814436585522538:Nat:=0
def PySem.W.Fast.tw8990627521861705114:Nat:=0
def PySem.W.Fast.tw4628561025428777658:Nat:=0
def PySem.W.Fast.tw17255773211204742145:Nat:=0
def PySem.W.Fast.tw14621784706499534427:Nat:=0
def PySem.W.Fast.tw17547553356224894634:Nat:=0
def PySem.W.Fast.tw17356974526173793243:Nat:=0
def PySem.W.Fast.tw14765024032918754859:Nat:=0
def PySem.W.Fast.tw2715913760391989326:Nat:=0
def PySem.W.Fast.tw4876115843783591050:Nat:=0
def PySem.W.Fast.tw1024276265351082986:Nat:=0
def PySem.W.Fast.tw9664636152213552219:Nat:=0
def PySem.W.Fast.tw6649509376870854570:Nat:=0
def PySem.W.Fast.tw622387608079221779:Nat:=0
def PySem.W.Fast.tw9325251678301153784:Nat:=0
def PySem.W.Fast.tw9297815798601140687:Nat:=0
def PySem.W.Fast.tw5254204580316146251:Nat:=0
def PySem.W.Fast.tw16590639937206718675:Nat:=0
def PySem.W.Fast.tw6238724859851245952:Nat:=0
def PySem.W.Fast.tw15663690253878647117:Nat:=0
def PySem.W.Fast.tw6879834371573575090:Nat:=0
def PySem.W.Fast.tw1873382260749165597:Nat:=0
def PySem.W.Fast.tw7263299196451385997:Nat:=0
def PySem.W.Fast.tw16757627517525239518:Nat:=0
def PySem.W.Fast.tw9344618309915457268:Nat:=0
def PySem.W.Fast.tw790456645646290659:Nat:=0
def PySem.W.Fast.tw11899995722711638219:Nat:=0
def PySem.W.Fast.tw14171798039917311280:Nat:=0
def PySem.W.Fast.tw2412953067622845367:Nat:=0
def PySem.W.Fast.tw12203710574526233675:Nat:=0
def PySem.W.Fast.tw1005365990111329939:Nat:=0
def PySem.W.Fast.tw8907211388778580824:Nat:=0
def PySem.W.Fast.tw14996124767289080352:Nat:=0
def PySem.W.Fast.tw7800107985641930227:Nat:=0
def PySem.W.Fast.tw6762084358824247363:Nat:=0
def PySem.W.Fast.tw16699501844312739957:Nat:=0
def PySem.W.Fast.tw1408398143957817953:Nat:=0
def PySem.W.Fast.tw16191757788376952547:Nat:=0
def PySem.W.Fast.tw7906507617782064873:Nat:=0
def PySem.W.Fast.tw5969723309044614044:Nat:=0
def PySem.W.Fast.tw9141123607126190035:Nat:=0
def PySem.W.Fast.tw6689495764036336543:Nat:=0
def PySem.W.Fast.tw9789251058819359003:Nat:=0
def PySem.W.Fast.tw15655702034555388522:Nat:=0
def PySem.W.Fast.tw10869897262676867865:Nat:=0
def PySem.W.Fast.tw3169869467059963213:Nat:=0
def PySem.W.Fast.tw14799907581055399578:Nat:=0
def PySem.W.Fast.tw8839365760610738074:Nat:=0
def PySem.W.Fast.tw8576892785601963481:Nat:=0
def PySem.W.Fast.tw5600536563279142398:Nat:=0
def PySem.W.Fast.tw8549891631479213387:Nat:=0
def PySem.W.Fast.tw14460680167483723084:Nat:=0
def PySem.W.Fast.tw16012759150743081784:Nat:=0
def PySem.W.Fast.tw1161184789267543709:Nat:=0
def PySem.W.Fast.tw2854944170368682308:Nat:=0
def PySem.W.Fast.tw5893734317684954131:Nat:=0
def PySem.W.Fast.tw36881468769838372:Nat:=0
def PySem.W.Fast.tw6739368964242469136:Nat:=0
def PySem.W.Fast.tw4145081919003031109:Nat:=0
def PySem.W.Fast.tw12573156743104293111:Nat:=0
def PySem.W.Fast.tw4926638379277618118:Nat:=0
def PySem.W.Fast.tw11601534369369617635:Nat:=0
def PySem.W.Fast.tw554606046926239506:Nat:=0
def PySem.W.Fast.tw3356671867043199372:Nat:=0
def PySem.W.Fast.tw6479562069065031509:Nat:=0
def PySem.W.Fast.tw2806090601094746040:Nat:=0
def PySem.W.Fast.tw11735395247643782467:Nat:=0
def PySem.W.Fast.tw17692282055191955077:Nat:=0
def PySem.W.Fast.tw4142141957719442399:Nat:=0
def PySem.W.Fast.tw2962229905350707130:Nat:=0
def PySem.W.Fast.tw8735513330759275081:Nat:=0
def PySem.W.Fast.tw5327402428644824148:Nat:=0
def PySem.W.Fast.tw7089521087437368034:Nat:=0
def PySem.W.Fast.tw15277914856323556794:Nat:=0
def PySem.W.Fast.tw7096526243438105277:Nat:=0
def PySem.W.Fast.tw6855840142118906576:Nat:=0
def PySem.W.Fast.tw18370474394019610142:Nat:=0
def PySem.W.Fast.tw17326318608981297112:Nat:=0
def PySem.W.Fast.tw7255201004219464942:Nat:=0
def PySem.W.Fast.tw6342245453494769502:Nat:=0
def PySem.W.Fast.tw70843991981686685:Nat:=0
def PySem.W.Fast.tw1485159711976052033:Nat:=0
def PySem.W.Fast.tw14375540644145180430:Nat:=0
def PySem.W.Fast.tw10340389641603843343:Nat:=0
def PySem.W.Fast.tw3234310116646267028:Nat:=0
def PySem.W.Fast.tw17399411036546523813:Nat:=0
def PySem.W.Fast.tw16487934915358630277:Nat:=0
def PySem.W.Fast.tw13556093093763880699:Nat:=0
def PySem.W.Fast.tw7431542846577107844:Nat:=0
def PySem.W.Fast.tw17167011001853139936:Nat:=0
open PySem PySem.W PyProof.Rows
set_option maxRecDepth 100000 in
set_option maxHeartbeats 0 in
theorem PySem.Challenge.cw_glidequeue_k60_desks_made_of_any_things_holds : PySem.Challenge.rw_glidequeue_k60_desks_made_of_any_things.Holds := by
 w_on; o_law; k_head; (case hw=>w_witness2)
 k_fill
 refine L2.Ah (l:=PySem.Challenge.rw_glidequeue_k60_desks_made_of_any_things) (k:=9) (x:="_law_script") (st:=Lw.jj) rfl rfl ⟨rfl,by decide,by decide⟩ (fun w h Y=>PySem.W.kIn_of Y) Lw.All ?F (fun _ _ _ A=>A.law) (fun _ _ _ _ _ _ _=>rfl) (fun _ _ _ _ _ _ _ A F=>Lw.Ef A F)
 case F=>
  intro w mg h KX G
  refine⟨L2.E3 KX G ?b,?t1,?t2,?g1,?g2,?g3,?g4,?an,?cl,?dk,?fl,?f0,?f1,?f2,?f3,?f4,?f5,?f6,?f7,?f8,?f9,?f10,?f11,?f12,?f13,?f14,?f15,?f16,?f17,?f18,?f19,?f20⟩
  case b=>(unfold L2.m4; repeat (refine L2.gI.cons ?z ?_; (case z=>k_is))); exact L2.gI.nil
  case t1=>refine' L2.ur KX G ?a ?l ?z ?r; (case a=>k_is); (case l=>k_is); (case z=>decide); (case r=>exact .cons ⟨_,rfl⟩ (.cons ⟨_,rfl⟩ .nil))
  case t2=>refine' L2.ur KX G ?a ?l ?z ?r; (case a=>k_is); (case l=>k_is); (case z=>decide); (case r=>exact .cons ⟨_,rfl⟩ (.cons ⟨_,rfl⟩ .nil))
  case g1=>(refine' L2.lR KX G ?z; (case z=>k_is))
  case g2=>(refine' L2.lR KX G ?z; (case z=>k_is))
  case g3=>(refine' L2.lR KX G ?z; (case z=>k_is))
  case g4=>(refine' L2.lR KX G ?z; (case z=>k_is))
  case an=>
   refine' ⟨_,L2.Cu KX G ?ga ?gl ?gk ?go,Lw.Ed KX G ?e1 ?e2⟩
   case ga=>k_is
   case gl=>k_is
   case go=>decide
   case e1=>k_is
   case e2=>k_is
   case gk=>
    show KeysLit _ (_::_)
    repeat (first | exact trivial | refine And.intro ⟨_,_,rfl,rfl⟩ ?_)
  case cl=>
   refine' Lw.Dw KX G ?ag ?qg ?h0 ?h1 ?h2 ?h3 ?h4 ?h5 ?h6 ?h7 ?h8 ?h9 ?h10 ?v ?qm ?qp ?mt ⟨?mk1,?mk2,?mk3,?mk4,?mk5,?mk6,?mk7,?mk8⟩ ?mi0 ?mi1 ?mi2 ?mi3 ?mi4 ?mi5 ?mi6 ?mi7 ?mi8 ?mi9 ?mi10 ?mv ?pt ⟨?pk1,?pk2,?pk3,?pk4,?pk5,?pk6,?pk7,?pk8⟩ ?pi0 ?pi1 ?pi2 ?pi3 ?pi4 ?pi5 ?pi6 ?pi7 ?pi8 ?pi9 ?pi10 ?pv
   case ag | h0 | h1 | h2 | h3 | h4 | h5 | h6 | h7 | h8 | h9 | h10 | v=>k_is
   case qg | qm | qp=>k_exc
   case mt=>(show PySem.W.mroIn _ _ _=_; k_is)
   case pt=>(show PySem.W.mroIn _ _ _=_; k_is)
   case mk1 | mk2 | mk3 | mk4 | mk5 | mk6 | mk7 | mk8 | pk1 | pk2 | pk3 | pk4 | pk5 | pk6 | pk7 | pk8=>k_is
   case mi0 | mi1 | mi2 | mi3 | mi4 | mi5 | mi6 | mi7 | mi8 | mi9 | mi10 | pi0 | pi1 | pi2 | pi3 | pi4 | pi5 | pi6 | pi7 | pi8 | pi9 | pi10 | mv | pv=>kit_is
  case dk=>
   refine' ⟨_,_,Lw.vD.mk (Lw.k6.mk (L2.dj.mk ?pg ?hd ?po ?sa) ?n1 ?n2 ?n3 ?n4 ?n5 ?n6 ?n7 ?n8 ?n9) (L2.uX KX G ?aC ?mk ?kc ?ia ?ii ?il ?ic ?ik) (L2.tq ?a0 ?i0 ?l0 ?c0 ?k0) (Lw.kd.mk (L2.dj.mk ?dpg ?dhd ?dpo ?dsa) ?d1 ?d2) (L2.uX KX G ?daC ?dmk ?dkc ?dia ?dii ?dil ?dic ?dik) (L2.tq ?a1 ?i1 ?l1 ?c1 ?k1)⟩
   (case aC=>k_is)
   (case daC=>k_is)
   case n1 | n2 | n3 | n4 | n5 | n6 | n7 | n8 | n9 | d1 | d2=>(unfold L2.cR; k_is)
   case pg | hd | po | sa | mk | kc | ia | ii | il | ic | ik | a0 | i0 | l0 | c0 | k0 | dpg | dhd | dpo | dsa | dmk | dkc | dia | dii | dil | dic | dik | a1 | i1 | l1 | c1 | k1=>k_is
  all_goals (refine' L2.CW KX G ?a ?l ?c ?k; (case a=>k_is); (case l=>k_is); (case c=>k_is); (case k=>k_is))
#print axioms PySem.Challenge.cw_glidequeue_k60_desks_made_of_any_things_holds
