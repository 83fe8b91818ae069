import PyProof.Rows.All
import Wide.All
import OpenK.AllK
import Wide.FinOn
import Lean
import PyProof.EqAt
import PyProof.EqKinds
import PyProof.TupleCall
import PySem.Challenge.RW_glidequeue_k13_whole_rows_lead_piece_by
set_option Elab.async false
set_option linter.all false
set_option maxRecDepth 100000
abbrev aM:=PySem.Str->Option PySem.Value
theorem aj{p:Prop}(h:p:=by decide):p:=h
theorem bf{p:Prop}(h:p:=by decide+kernel):p:=h
theorem aA {p:Prop} (h:p:=by lia):p:=h
theorem aQ{p:Prop}(h:p:=by omega):p:=h
theorem Z {α : Sort _} {a : α}:a=a:=rfl
abbrev a6:=PySem.W.Frag
abbrev a7:=PySem.Shared
abbrev a8:=PySem.Program
abbrev a9:=PySem.PyData
abbrev aa:=PySem.Around
abbrev ai:=@PySem.wpAny_bind
abbrev aG:=@PySem.wpAny_pure
abbrev aU:=@Nat.le_refl
abbrev aV:=@PySem.Heap.lt_size
abbrev aX:=@PySem.Heap.get?_push_of_some
abbrev aY:=@if_neg
abbrev aZ:=@if_pos
abbrev br:=@List.length_map
abbrev bC:=@List.getElem?_eq_getElem
abbrev bD:=@Nat.ne_of_lt
abbrev bM:=@List.getElem?_eq_some_iff
abbrev bR:=@List.mem_cons
abbrev bS:=@PySem.Heap.get?_push_size
abbrev bV:=@PySem.wpAny_field
abbrev ck:=@Option.some.inj
abbrev cm:=@List.getElem?_map
abbrev cx:=@beq_iff_eq
abbrev cC:=@List.size_toArray
abbrev cI:=@Bool.and_eq_true
abbrev cT:=@List.length_take
abbrev cZ:=@List.mem_append_right
abbrev dh:=@List.not_mem_nil
abbrev du:=@List.all_eq_true
abbrev dB:=@PySem.wpAny_mono
abbrev dQ:=@Nat.zero_le
abbrev dR:=@Int.le_refl
abbrev dS:=@Bool.false_ne_true
abbrev eB:=@PySem.wpAny_holding
abbrev eT:=@decide_eq_true
abbrev eU:=@Nat.lt_of_lt_of_le
abbrev fq:=@PySem.wpAny_newObj_type
abbrev ft:=@Ne.symm
abbrev fu:=@Nat.le_trans
abbrev fw:=@List.lookup_cons
abbrev fy:=@List.length_append
abbrev fH:=@List.append_nil
abbrev fZ:=@PyProof.Rows.boot_tuple
abbrev gu:=@PySem.wpAny_seqItems
abbrev gv:=@decide_eq_false
abbrev gw:=@List.take_of_length_le
abbrev gy:=@Bool.true_and
abbrev gz:=@Bool.false_and
abbrev hR:=@PySem.wpAny_passesOwn
abbrev hU:=@PySem.wpAny_call_entry
abbrev hV:=@PySem.wpAny_callSpecial?_slot
abbrev iI:=@List.take_succ
abbrev iJ:=@List.length_cons
abbrev iK:=@PySem.Heap.size_push
abbrev ju:=@PySem.wpAny_truthy_bool
abbrev jv:=@PySem.intBits_le_64
abbrev jw:=@List.mem_of_getElem?
abbrev jx:=@List.mem_map
abbrev kb:=@PySem.wpAny_setField_rec
abbrev kf:=@PySem.wpAny_setField
abbrev kg:=@or_false
abbrev kh:=@PyProof.Rows.slot_tuple_getitem
abbrev ki:=@PySem.PassesOwn.never
abbrev kj:=@List.mem_iff_getElem?
abbrev lB:=@PySem.wpAny_loadPart_at
abbrev lC:=@PySem.wpAny_execs_nil
abbrev lD:=@PySem.F.slot_zip_next
abbrev lE:=@PySem.F.slot_tuple_iterator_next
abbrev lF:=@List.mem_singleton
abbrev lG:=@List.mem_filterMap
abbrev mx:=@PySem.wpAny_standAt
abbrev my:=@PySem.wpAny_rule
abbrev mz:=@PySem.wpAny_onRaise
abbrev mB:=@PySem.wpAny_call
abbrev mC:=@PySem.wpAny_attempt
abbrev mD:=@PySem.codeAny_mono
abbrev mE:=@PySem.W.Looks.here
abbrev mF:=@Nat.lt_irrefl
abbrev mG:=@List.mem_cons_of_mem
abbrev mH:=@List.mem_append
abbrev mI:=@List.map_append
abbrev mJ:=@List.length_drop
abbrev mK:=@List.getElem_mem
abbrev mL:=@Array.length_toList
abbrev oY:=@PySem.wpAny_pyIter_list
abbrev oZ:=@PySem.W.mg_of
abbrev p3:=@PySem.Obj.data_mapFields
abbrev p4:=@Nat.ne_of_gt
abbrev p5:=@Nat.lt_succ_of_lt
abbrev p6:=@List.reverse_cons
abbrev p7:=@List.length_set
abbrev p8:=@List.length_reverse
abbrev p9:=@List.getElem?_append_right
abbrev pb:=@Int.toNat_natCast
abbrev pe:=@PySem.Heap.get?_update_self
abbrev ph:=@PySem.Heap.get?_update_other
abbrev rD:=@PySem.wpAny_typeOf
abbrev rE:=@PySem.wpAny_point
abbrev rF:=@PySem.wpAny_Call_Name_kw
abbrev rG:=@PySem.mem_of_lookup
abbrev rH:=@PyProof.Rows.callWith_type1
abbrev rJ:=@PyProof.Rows.boot_int
abbrev rK:=@Nat.sub_self
abbrev rL:=@List.take_length
abbrev rM:=@List.of_mem_zip
abbrev rN:=@List.map_cons
abbrev rO:=@List.getElem?_zip_eq_some
abbrev rP:=@List.getElem?_set_self
abbrev rQ:=@List.getElem?_append_left
abbrev rR:=@List.forIn_cons
abbrev rS:=@List.filterMap_cons
abbrev rT:=@List.any_cons
abbrev rV:=@Int.emod_nonneg
abbrev rW:=@Int.emod_lt_of_pos
abbrev rX:=@PySem.Heap.SameBut.update
abbrev rY:=@Bool.eq_iff_iff
abbrev rZ:=@Bool.eq_false_iff
abbrev wU:=@PySem.wpAny_updateSeq_pair
abbrev wV:=@PySem.wpAny_pyIter_zip
abbrev wW:=@PySem.wpAny_isSubtype_exc
abbrev wX:=@PySem.wpAny_isInstance
abbrev wY:=@of_decide_eq_true
abbrev wZ:=@PySem.isSubtype_stop
abbrev x5:=@decide_eq_true_iff
abbrev x6:=@beq_self_eq_true
abbrev x8:=@beq_eq_false_iff_ne
abbrev x9:=@PySem.W.hideAll_get
abbrev xf:=@PySem.W.cellsFrom_some
abbrev xg:=@PySem.W.callWith_K
abbrev xh:=@PySem.F.entry_zip_next
abbrev xi:=@PySem.F.entry_tuple_iterator_next
abbrev xj:=@PySem.F.args_zip_next_1
abbrev xk:=@PySem.F.args_tuple_iterator_next_1
abbrev xl:=@PyProof.Rows.boot_all
abbrev xm:=@PySem.Obj.isFreed_of_fields
abbrev xn:=@Nat.lt_succ_self
abbrev xo:=@Nat.le_of_lt
abbrev xp:=@Nat.le_of_ble_eq_true
abbrev xq:=@List.nodup_cons
abbrev xr:=@List.mem_of_mem_take
abbrev xt:=@List.mem_cons_self
abbrev xu:=@List.mem_append_left
abbrev xw:=@List.all_map
abbrev xx:=@PySem.Heap.get?_push_cases
abbrev xy:=@Array.getElem?_eq_some_iff
abbrev BK:=@PySem.wpAny_newFunctionEnv_cells
abbrev BL:=@PySem.wpAny_newFunctionEnv
abbrev BM:=@PySem.wpAny_comprehension_free
abbrev BN:=@PySem.codeAny_compStart_list
abbrev BO:=@PySem.codeAny_call_function
abbrev BP:=@PySem.W.plainGet_of
abbrev BQ:=@PySem.W.methodCall_KW
abbrev BR:=@PySem.W.looks_clsIn
abbrev BS:=@PySem.W.codeRec_of
abbrev BU:=@PySem.W.any_some
abbrev BV:=@PySem.Str.cps_append
abbrev BW:=@PySem.F.slot_tuple_add
abbrev BX:=@PySem.F.entry_tuple_add
abbrev BZ:=@PySem.F.args_tuple_add_2
abbrev C0:=@PyProof.Rows.boot_min
abbrev C1:=@PyProof.Rows.boot_max
abbrev C3:=@PyProof.Rows.boot_any
abbrev C4:=@Option.bind_eq_some_iff
abbrev C5:=@Nat.le_add_right
abbrev C6:=@List.zipIdx_cons
abbrev C7:=@List.getElem_set_self
abbrev C8:=@List.getElem?_take
abbrev C9:=@List.getElem?_set_ne
abbrev Ca:=@List.findIdx?_eq_none_iff
abbrev Cb:=@List.filterMap_append
abbrev Cc:=@List.contains_cons
abbrev Cd:=@List.any_eq_true
abbrev Ce:=@Array.toList_append
abbrev MP:=@List.findIdx?_eq_some_iff_getElem
abbrev MQ:=@Array.all_eq_true_iff_forall_mem
namespace L2
open PySem PySem.Spec PyProof.Rows
abbrev Key:=Sum Int Str
def A8:Key->Value->Bool | .inl k,v=>Value.isInt k v | .inr x,v=>Value.isStrOf x v
def He(w:World):Key->Int | .inl k=>hashInt k | .inr x=>hashStr w x
theorem iY:∀{k:Key}{v:Value},A8 k v=true->(∃i t,k=Sum.inl i/\v=Value.int i t)\/(∃x t,k=Sum.inr x/\v=Value.str x t) | .inl i,v,h=>by obtain⟨t,e⟩:=Value.isInt_shape (k:=i) (v:=v) h;exact .inl ⟨i,t,Z,e⟩ | .inr x,v,h=>by obtain⟨t,e⟩:=Value.isStrOf_shape (x:=x) (v:=v) h;exact .inr ⟨x,t,Z,e⟩
theorem Hd(a b:Int):decide ((Sum.inl a:Key)=Sum.inl b)=(a==b):=by
 by_cases e:a=b
 ·subst e;simp
 ·have h:¬(Sum.inl a:Key)=Sum.inl b:=λq=>e (Sum.inl.inj q)
  rw[gv h];exact(x8.mpr e).symm
theorem Ha(a b:Str):decide ((Sum.inr a:Key)=Sum.inr b)=decide (a=b):=by
 by_cases e:a=b
 ·subst e;simp
 ·have h:¬(Sum.inr a:Key)=Sum.inr b:=λq=>e (Sum.inr.inj q)
  rw[gv h,gv e]
theorem Hc(a:Int)(b:Str):decide ((Sum.inl a:Key)=Sum.inr b)=false:=gv (λq=>nomatch q)
theorem Hb(a:Str)(b:Int):decide ((Sum.inr a:Key)=Sum.inl b)=false:=gv (λq=>nomatch q)
def zU(prog:a8)(w:World):PySem.KeyKind prog w Key where
 is:=A8
 hash:=He w
 inj:=λv a b ha hb=>by
  rcases iY ha with⟨i,t,rfl,rfl⟩|⟨x,t,rfl,rfl⟩
  ·rcases iY hb with⟨j,u,rfl,e⟩|⟨y,u,rfl,e⟩
   ·injection e with e1 _;rw[e1]
   ·exact nomatch e
  ·rcases iY hb with⟨j,u,rfl,e⟩|⟨y,u,rfl,e⟩
   ·exact nomatch e
   ·injection e with e1 _;rw[e1]
 byValue:=λk v h=>by rcases iY h with⟨i,t,rfl,rfl⟩|⟨x,t,rfl,rfl⟩<;>rfl
 pyHash:=λhv h=>by
  rcases iY hv with⟨i,t,rfl,rfl⟩|⟨x,t,rfl,rfl⟩
  ·exact wpAny_pyHash_int h
  ·exact wpAny_pyHash_str h
 eqBool:=λhu hv h=>by
  rcases iY hu with⟨i,t,rfl,rfl⟩|⟨x,t,rfl,rfl⟩
  ·rcases iY hv with⟨j,u,rfl,rfl⟩|⟨y,u,rfl,rfl⟩
   ·rw[Hd]at h;exact wpAny_eqBool_int h
   ·rw[Hc]at h;exact SeqAt.EqAt.int_str i t y u _ _ _ _ h
  ·rcases iY hv with⟨j,u,rfl,rfl⟩|⟨y,u,rfl,rfl⟩
   ·rw[Hb]at h;exact SeqAt.EqAt.str_int x t j u _ _ _ _ h
   ·rw[Ha]at h;exact wpAny_eqBool_str h
 «strs»:=λk x t v h=>by
  rcases iY h with⟨i,u,rfl,e⟩|⟨y,u,rfl,e⟩
  ·exact nomatch e
  ·injection e with e1 _
   subst e1;cases v<;>rfl
inductive V where |bj|bl (b:Bool)|int (i:Int)|str (x:Str)|qP (b:Array UInt8)|qF (b:UInt64)|ref (a:Addr)|ty (n:String) deriving DecidableEq
def RelV:V->Value->Prop | .bj,u=>u=Value.none | .bl b,u=>u=Value.bool b | .int i,u=>∃t,u=Value.int i t | .str x,u=>∃t,u=Value.str x t | .qP b,u=>∃t,u=Value.bytes b t | .qF b,u=>∃t,u=Value.float b t | .ref a,u=>u=Value.ref a | .ty n,u=>u=Value.type n
abbrev Vals:List V->List Value->Prop:=Paired RelV
theorem Vals.length{xs:List V}{us:List Value}(r:Vals xs us):xs.length=us.length:=Paired.length r
theorem Vals.get:∀{xs:List V}{us:List Value}{i:Nat}{x:V},Vals xs us->xs[i]? =some x->∃u,us[i]? =some u/\RelV x u |_,_,_,_,.nil,e=>by simp at e |_,_,0,_,.cons r _,e=>by simp at e;subst e;exact⟨_,rfl,r⟩ |_,_,i+1,x,.cons _ t,e=>by obtain⟨u,h1,h2⟩:=Vals.get (i:=i) (x:=x) t (by simpa using e);exact⟨u,by simpa using h1,h2⟩
theorem Vals.set{x:V}{u:Value}(r:RelV x u):∀{xs:List V}{us:List Value}(i:Nat),Vals xs us->Vals (xs.set i x) (us.set i u) |_,_,_,.nil=>.nil |_,_,0,.cons _ t=>.cons r t |_,_,i+1,.cons q t=>.cons q (Vals.set r i t)
theorem Vals.append:∀{xs ys:List V}{us ws:List Value},Vals xs us->Vals ys ws->Vals (xs++ys) (us++ws) |_,_,_,_,.nil,s=>s |_,_,_,_,.cons r t,s=>.cons r (Vals.append t s)
theorem Vals.take:∀{xs:List V}{us:List Value}(n:Nat),Vals xs us->Vals (xs.take n) (us.take n) |_,_,0,_=>.nil |_,_,_+1,.nil=>.nil |_,_,n+1,.cons r t=>.cons r (Vals.take n t)
theorem Vals.drop:∀{xs:List V}{us:List Value}(n:Nat),Vals xs us->Vals (xs.drop n) (us.drop n) |_,_,0,r=>r |_,_,_+1,.nil=>.nil |_,_,n+1,.cons _ t=>Vals.drop n t
def iG:Option V->Option Value->Prop |some v,some u=>RelV v u |none,none=>True |_,_=>False
def KV{κ:Type}:List (κ×V)->List (κ×Value)->Prop:=Paired λ(p:κ×V)(q:κ×Value)=>p.1=q.1/\RelV p.2 q.2
def kV:Key->V | .inl i=>.int i | .inr x=>.str x
inductive HO where /--a list -/ |lst (xs:List V) /--a tuple (never changes) -/ |tup (xs:List V) /--a dict Cj keys are ints and texts; one Cj keys are tuples of ints and texts (lJ empty one is both) -/ |dK (dz:List (Key×V))|dT (dz:List (List Key×V)) /--a set of ints: its members,its size -/ |set (S:Int->Bool)(n:Nat) /--an instance of lJ class at C,its dict at dx,its attributes -/ |ins (C dx:Addr)(fs:List (Str×V)) /--lJ dict of lJ instance at x -/ |own (x:Addr) /--lJ dict of an exception -/ |xd (fs:List (Str×V)) /--a bound method,f of x -/ |met (f x:Addr) /--a range object lo,lo+1,.. below hi -/ |qd (lo hi:Int) /--a CQ MU is known to lJ object (lJ MZ; a dict while a loop walks it): read,never written while it is so -/ |gT (o:Obj)(u:HO) /--a code N3 table -/ |jz (ps:Array Value) /--any other CQ,by what is true of its one object (a def of N1 own: NK a S n:=HO.ext λh=>..) -/ |ext (φ:Heap->Prop)
abbrev Hp:=Addr->Option HO
def upd(H:Hp)(a:Addr)(o:HO):Hp:=λb=>if b=a then some o else H b
theorem bw{H:Hp}{a:Addr}{o:HO}:upd H a o a=some o:=by unfold upd;rw[aZ rfl]
theorem aI{H:Hp}{a b:Addr}{o:HO}(h:b≠a):upd H a o b=H b:=by unfold upd;rw[aY h]
theorem zN{H:Hp}{a b:Addr}{o u:HO}(h:H a=some o)(h':H b=some u)(d:o≠u):a≠b:=by intro e;subst e;rw[h]at h';exact d (ck h')
theorem cz{H:Hp}{a b:Addr}{o:HO}(h:H a=some o)(h':H b=none):a≠b:=by intro e;subst e;rw[h]at h';cases h'
section
variable (P:a8) (w:World)
def cN(H:Hp)(h:Heap)(a:Addr):HO->Prop | .lst xs=>xs.length<=sizeLine/\∃(its:List Value)(n:Nat),Vals xs its/\h.get? a=some {cls:=.type "list",data:=.seq its.toArray n} | .tup xs=>xs.length<=sizeLine/\∃its:List Value,Vals xs its/\IsTup h a its.toArray | .dK dz=>dz.length<=sizeLine/\(a==sysModules)=false/\∃vs,KV dz vs/\h.DictOf (zU P w) a vs | .dT dz=>dz.length<=sizeLine/\(a==sysModules)=false/\∃xs:List (List Key×Addr×Value),Paired (λ(p:List Key×V)(q:List Key×Addr×Value)=>p.1=q.1/\H q.2.1=some (.tup (p.1.map kV))/\RelV p.2 q.2.2) dz xs/\∃o es ep,h.get? a=some o/\o.ExactDict/\o.data= .dict es ep/\es.toList=xs.map (entryOfKey (tupleKind (zU P w)))/\(xs.map (·.1)).Nodup | .set S n=>h.SetOf (intKind P w) a S n | .ins C dx fs=>H dx=some (.own a)/\fs.length<=1000/\dx≠a/\h.get? a=some (PySem.W.instObj C dx)/\∃mA,h.Ns1 dx mA/\(∀f,iG (fs.lookup f) (mA f))/\PySem.Within mA (fs.map (·.1)) | .own _=>∃o,h.get? a=some o | .xd fs=>∃mA,h.Ns1 a mA/\∀f,iG (fs.lookup f) (mA f) | .qd lo hi=>∃t u v,h.get? a=some {cls:=.type "range",data:=.fields #[.int lo t,.int hi u,.int 1 v]} | .gT o u=>h.get? a=some o/\cN H h a u | .jz ps=>h.get? a=some {cls:=.none,data:=.fields ps} | .met f x=>h.get? a=some (PySem.W.methodObj (.ref f) (.ref x)) | .ext φ=>φ h/\(∃o,h.get? a=some o)/\∀h1 h2:Heap,φ h1->(∀o,h1.get? a=some o->h2.get? a=some o)->φ h2
def bL(H:Hp)(h:Heap):Prop:=∀a o,H a=some o->cN P w H h a o
end
section
variable {P:a8}{w:World}{H H':Hp}{h h':Heap}{a:Addr}{o:HO}
theorem cN.lt(x:cN P w H h a o):a<h.objs.size:=by cases o with |lst xs=>obtain⟨_,_,_,_,e⟩:=x;exact aV e |tup xs=>obtain⟨_,_,_,p⟩:=x;exact p.lt |dK dz=>obtain⟨_,_,_,_,o,_,_,e,_⟩:=x;exact aV e |dT dz=>obtain⟨_,_,_,_,o,_,_,e,_⟩:=x;exact aV e |set S n=>obtain⟨o,_,_,_,e,_⟩:=x;exact aV e |ins C dx fs=>obtain⟨_,_,_,e,_⟩:=x;exact aV e |own y=>obtain⟨_,e⟩:=x;exact aV e |xd fs=>obtain⟨_,⟨_,_,_,e,_⟩,_⟩:=x;exact aV e |qd lo hi=>obtain⟨_,_,_,e⟩:=x;exact aV e |gT ob u=>obtain⟨e,_⟩:=x;exact aV e |jz ps=>exact aV (show h.get? a=some _ from x) |met f y=>exact aV (show h.get? a=some _ from x) |ext φ=>obtain⟨_,⟨_,e⟩,_⟩:=x;exact aV e
theorem Paired.zW{α β:Type}{F G:α->β->Prop}:∀{l₁:List α}{l₂:List β},Paired F l₁ l₂->(∀a b,F a b->G a b)->Paired G l₁ l₂ |_,_,.nil,_=>.nil |_,_,.cons r t,f=>.cons (f _ _ r) (Paired.zW t f)
theorem cN.gb(x:cN P w H h a o)(k:∀b u,(b=a\/H b=some (.own a))->h.get? b=some u->h'.get? b=some u) (ho:∀b,H b=some (.own a)->H' b=some (.own a))(ht:∀b xs,H b=some (.tup xs)->H' b=some (.tup xs)):cN P w H' h' a o:=by induction o with |lst xs=>obtain⟨z,its,n,r,e⟩:=x;exact⟨z,its,n,r,k _ _ (.inl Z) e⟩ |tup xs=>obtain⟨z,its,r,ob,e,c⟩:=x;exact⟨z,its,r,ob,k _ _ (.inl Z) e,c⟩ |dK dz=>obtain⟨z,y,vs,r,ob,es,ep,e,c⟩:=x;exact⟨z,y,vs,r,ob,es,ep,k _ _ (.inl Z) e,c⟩ |dT dz=>obtain⟨z,y,xs,r,ob,es,ep,e,c⟩:=x;exact⟨z,y,xs,Paired.zW r λp q z=>⟨z.1,ht _ _ z.2.1,z.2.2⟩,ob,es,ep,k _ _ (.inl Z) e,c⟩ |set S n=>obtain⟨ob,es,ep,t,e,c⟩:=x;exact⟨ob,es,ep,t,k _ _ (.inl Z) e,c⟩ |ins C dx fs=>obtain⟨d,z,ne,e,mA,⟨od,es,ep,e2,c⟩,r⟩:=x;exact⟨ho _ d,z,ne,k _ _ (.inl Z) e,mA,⟨od,es,ep,k _ _ (.inr d) e2,c⟩,r⟩ |own y=>obtain⟨ob,e⟩:=x;exact⟨ob,k _ _ (.inl Z) e⟩ |xd fs=>obtain⟨mA,⟨od,es,ep,e,c⟩,r⟩:=x;exact⟨mA,⟨od,es,ep,k _ _ (.inl Z) e,c⟩,r⟩ |qd lo hi=>obtain⟨t,u,v,e⟩:=x;exact⟨t,u,v,k _ _ (.inl Z) e⟩ |gT ob u ih=>obtain⟨e,q⟩:=x;exact⟨k _ _ (.inl Z) e,ih q⟩ |jz ps=>have e:h.get? a=some {cls:=.none,data:=.fields ps}:=x;show h'.get? a=some {cls:=.none,data:=.fields ps};exact k a _ (.inl Z) e |met f y=>have e:h.get? a=some (PySem.W.methodObj (.ref f) (.ref y)):=x;show h'.get? a=some (PySem.W.methodObj (.ref f) (.ref y));exact k a _ (.inl Z) e |ext φ=>obtain⟨p,⟨o,e⟩,st⟩:=x;exact⟨st _ _ p λo q=>k _ _ (.inl Z) q,⟨o,k _ _ (.inl Z) e⟩,st⟩
theorem bL.lt(x:bL P w H h)(e:H a=some o):a<h.objs.size:=(x a o e).lt
theorem bL.fresh(x:bL P w H h)(e:h.objs.size<=a):H a=none:=by cases q:H a with |none=>rfl |some u=>exact absurd (eU (x.lt q) e) (mF _)
theorem bL.kept(x:bL P w H h)(k:∀b u,h.get? b=some u->h'.get? b=some u):bL P w H h':=λa o e=>(x a o e).gb (λb u _ q=>k b u q) (λ_ q=>q) λ_ _ q=>q
theorem bL.laid(x:bL P w H h)(k:∀b u,h.get? b=some u->h'.get? b=some u)(hp:h.objs.size<=a)(new:cN P w (upd H a o) h' a o):bL P w (upd H a o) h':=λb u e=>by
 have hn:=x.fresh hp;by_cases hb:b=a
 ·subst hb;rw[bw]at e;cases e;exact new
 ·rw[aI hb]at e
  exact(x b u e).gb (λc v _ q=>k c v q) (λc q=>by rw[aI (cz q hn)];exact q) λc xs q=>by rw[aI (cz q hn)];exact q
end
def Rd(H:Hp)(a:Addr)(u:HO):Prop:=H a=some u\/∃o,H a=some (.gT o u)
theorem Rd.ok{P:a8}{w:World}{H:Hp}{h:Heap}{a:Addr}{u:HO}(r:Rd H a u)(x:bL P w H h):cN P w H h a u:=by
 rcases r with r|⟨o,r⟩
 ·exact x a u r
 ·obtain⟨_,q⟩:=x a _ r
  exact q
def qY:Option HO->Prop |some (.lst _)=>True |some (.dK _)=>True |some (.dT _)=>True |some (.set _ _)=>True |some (.ins _ _ _)=>True |some (.ext _)=>True |_=>False
section
variable {P:a8}{w:World}{H:Hp}{h h':Heap}{x e:Addr}{o':HO}
theorem bL.write(ok:bL P w H h)(mu:qY (H x))(he:e=x\/H e=some (.own x))(k:∀b u,b≠e->h.get? b=some u->h'.get? b=some u)(m7:∃u,h'.get? e=some u) (new:cN P w (upd H x o') h' x o'):bL P w (upd H x o') h':=λb u q=>by
 have zL:∀c y,H c=some (.own y)->c≠x:=λc y r z=>by subst z;rw[r]at mu;exact mu
 have G3:∀c xs,H c=some (.tup xs)->c≠x:=λc xs r z=>by subst z;rw[r]at mu;exact mu
 by_cases hb:b=x
 ·subst hb;rw[bw]at q;cases q;exact new
 ·rw[aI hb]at q
  by_cases kW:b=e
  ·have q':H b=some (.own x):=by
    rcases he with z|z
    ·exact absurd (kW.trans z) hb
    ·rw[kW];exact z
   rw[q]at q';cases q';obtain⟨v,hv⟩:=m7;exact⟨v,by rw[kW];exact hv⟩
  ·refine(ok b u q).gb (λc v hc r=>k c v ?_ r) (λc r=>by rw[aI (zL c b r)];exact r) λc xs r=>by rw[aI (G3 c xs r)];exact r
   rcases hc with rfl|hc
   ·exact kW
   ·rintro rfl
    rcases he with z|z
    ·exact zL c b hc z
    ·rw[hc]at z;cases z;exact hb rfl
end
structure Un(fs ex:List Addr)(H H':Hp)(h h':Heap):Prop where
 keep:∀b o,h.get? b=some o->H b=none->b∉fs->b∉ex->h'.get? b=some o
 slot:∀b o,h.get? b=some o->H b=none->b∈fs->b∉ex->∃sl,h'.get? b=some {o with slots:=sl}
 free:∀b o,h.get? b=some o->H b=none->b∉ex->H' b=none
 there:∀b o,h.get? b=some o->b∉ex->∃o',h'.get? b=some o'
 eV:∀b xs,H b=some (.tup xs)->H' b=some (.tup xs)
 eL:∀b o u,H b=some (.gT o u)->H' b=some (.gT o u)
 eW:∀b ps,H b=some (.jz ps)->∃more,H' b=some (.jz (ps++more))
section
variable {fs md ex gY:List Addr}{H H1 H2:Hp}{h h1 h2 h':Heap}{a x e:Addr}{o:HO}
theorem Un.any(u:Un fs ex H H1 h h1){b:Addr}{ob:Obj}(q:h.get? b=some ob)(n:H b=none)(hx:b∉ex):∃sl,h1.get? b=some {ob with slots:=sl}:=by
 by_cases hb:b∈fs
 ·exact u.slot b ob q n hb hx
 ·exact⟨ob.slots,u.keep b ob q n hb hx⟩
theorem Un.kept(k:∀b u,h.get? b=some u->h'.get? b=some u):Un fs ex H H h h':=⟨λb ob q _ _ _=>k b ob q,λb ob q _ _ _=>⟨ob.slots,k b ob q⟩,λ_ _ _ n _=>n,λb ob q _=>⟨ob,k b ob q⟩,λ_ _ q=>q,λ_ _ _ q=>q,λ_ ps q=>⟨#[],by rw[q];simp⟩⟩
theorem Un.refl:Un fs ex H H h h:=Un.kept λ_ _ q=>q
theorem Un.laid(k:∀b u,h.get? b=some u->h'.get? b=some u)(hp:h.objs.size<=a)(hn:H a=none):Un fs ex H (upd H a o) h h' where
 keep:=λb u q _ _ _=>k b u q
 slot:=λb u q _ _ _=>⟨u.slots,k b u q⟩
 free:=λb u q n _=>by rw[aI (bD (eU (aV q) hp))];exact n
 there:=λb u q _=>⟨u,k b u q⟩
 eV:=λb xs q=>by rw[aI (cz q hn)];exact q
 eL:=λb u xs q=>by rw[aI (cz q hn)];exact q
 eW:=λb ps q=>⟨#[],by rw[aI (cz q hn),q];simp⟩
theorem Un.write(mu:qY (H x))(he:e=x\/H e=some (.own x))(k:∀b u,b≠e->h.get? b=some u->h'.get? b=some u)(m7:∃u,h'.get? e=some u):Un fs ex H (upd H x o) h h':=by
 have hx:∀b,H b=none->b≠x:=λb n z=>by subst z;rw[n]at mu;exact mu
 have hb:∀b,H b=none->b≠e:=λb n z=>by
  subst z;rcases he with r|r
  ·exact hx b n r
  ·rw[n]at r;cases r
 have hm:∀b u,H b=some u->¬qY (some u)->b≠x:=λb u q nm z=>by subst z;rw[q]at mu;exact nm mu
 refine⟨λb u q n _ _=>k b u (hb b n) q,λb u q n _ _=>⟨u.slots,k b u (hb b n) q⟩,λb u q n _=>by rw[aI (hx b n)];exact n,λb u q _=>?_,λb xs q=>by rw[aI (hm b _ q λz=>z)];exact q,λb u xs q=>by rw[aI (hm b _ q λz=>z)];exact q,λb ps q=>⟨#[],by rw[aI (hm b _ q λz=>z),q];simp⟩⟩;by_cases kW:b=e
 ·subst kW;exact m7
 ·exact⟨u,k b u kW q⟩
end
def pG(h:Heap)(H:Hp):List Addr:=(List.range h.objs.size).filter λa=>(H a).isSome
def jb(h:Heap)(H:Hp):Heap:=PySem.W.hideAll h (pG h H)
theorem Im(h:Heap)(H:Hp):(jb h H).objs.size=h.objs.size:=PySem.W.hideAll_size _ _
theorem Io{h:Heap}{H:Hp}{b:Addr}{o:Obj}(e:h.get? b=some o)(n:H b=none):(jb h H).get? b=some o:=x9 _ e λhm=>by have q:(H b).isSome=true:=(List.mem_filter.mp hm).2;rw[n]at q;simp at q
theorem FY{h:Heap}{H:Hp}{b:Addr}{o:Obj}(e:(jb h H).get? b=some o):h.get? b=some o/\H b=none:=by have e':h.get? b=some o:=PySem.W.of_hideAll (pG h H) e;refine⟨e',?_⟩;cases q:H b with |none=>rfl |some x=>have hm:b∈pG h H:=List.mem_filter.mpr ⟨List.mem_range.mpr (aV e'),by simp[q]⟩;have z:(jb h H).get? b=none:=PySem.W.hideAll_none (pG h H) hm;rw[z]at e;cases e
structure Mod(K:a6)(mg:aM)(ag:Heap):Prop where
 iX:K.In ag
 glob:ag.Ns mainGlobals mg
 blt:∃mb,ag.Ns builtinsNs mb/\∀x:Str,x≠"__name__"->mb x=bootBuiltins x
 nolimit:ag.NoLimit
structure Cx where
 prog:a8
 w:World
 K:a6
 mg:aM
 ag:Heap
 A:aa
 N:List Str
 s₀:a7
 H₀:Hp
 env:Env
 outer:List Env
 stack:List Env
 ex:List Addr
 fn:Str->Bool
 calm:Bool
 pn:List (Addr×Obj)
 xe:Value->a7->Prop
def cf(l:List Env):List Addr:=l.filterMap (·.frame)
abbrev Cx.fs(X:Cx):List Addr:=cf X.outer
def wB(sc:Scope)(x:Str):Prop:=sc.names.lookup x=some .local\/sc.names.lookup x=some .cell\/sc.names.lookup x=some .free
def Loc(sc:Scope)(x:Str):Prop:=sc.names.lookup x=some .local\/sc.names.lookup x=some .cell
def Look(env:Env)(h:Heap)(m:aM)(x:Str)(u:Value):Prop:=(env.kindOf x=some .local/\m x=some u)\/((env.kindOf x=some .cell\/env.kindOf x=some .free)/\∃c,env.cells.lookup x=some c/\h.IsCell c (some u))
structure Cx.Ok(X:Cx):Prop where
 mod:Mod X.K X.mg X.ag
 kind:X.env.scope.kind= .function
 glob:X.env.globals=mainGlobals
 blt:X.env.builtins=builtinsNs
 above:X.s₀.heap.objs.size<=X.env.locals
 inj:∀x y c,X.env.cells.lookup x=some c->X.env.cells.lookup y=some c->x=y
 has:∀x,(X.env.kindOf x=some .cell\/X.env.kindOf x=some .free)->∃c,X.env.cells.lookup x=some c
 iB:∀x c,X.fn x=true->X.env.cells.lookup x=some c->X.s₀.heap.objs.size<=c
 hd:X.calm=true->X.A.handled=none
 frames:X.A.frames=some X.stack
 iQ:X.stack=X.outer\/(X.stack=X.env::X.outer/\X.env.frame=some X.env.locals)
 l7:∀b∈X.ex,b≠X.env.locals/\∀x c,X.env.cells.lookup x=some c->c≠b
 bs:∀b o,X.ag.get? b=some o->X.s₀.heap.get? b=some o/\X.H₀ b=none
 fh:X.ag.objs.size<=X.s₀.heap.objs.size
 ie:∀b o,X.ag.get? b=some o->b∉X.ex
 gp:∀b∈X.ex,b∉X.fs
 dM:X.s₀.heap.FunFrames X.ag X.outer
 fP:∀b∈X.fs,X.H₀ b=none
structure Inv(X:Cx)(af:List (Addr×Obj))(O:List (Option V))(H:Hp)(s:a7):Prop where
 ok:X.Ok
 os:s.os=X.s₀.os
 bare:AllBare s.gens
 ag:Un X.fs X.ex X.H₀ H X.s₀.heap s.heap
 loc:∃m,s.heap.Ns X.env.locals m/\∀(i:Nat)(x:Str)(v:V),X.N[i]? =some x->O[i]? =some (some v)->wB X.env.scope x->∃u,RelV v u/\Look X.env s.heap m x u
 cell:∀x c,X.env.cells.lookup x=some c->∃v,s.heap.IsCell c v
 free:H X.env.locals=none
 eg:∀x c,X.env.cells.lookup x=some c->H c=none
 pin:∀p∈X.pn++af,s.heap.get? p.1=some p.2/\H p.1=none/\p.1≠X.env.locals/\p.1∉X.fs/\∀v,p.2.data≠ .cell v
 aD:bL X.prog X.w H s.heap
 len:O.length=X.N.length
section
variable {X:Cx}{af:List (Addr×Obj)}{O:List (Option V)}{H H':Hp}{s:a7}{h':Heap}
theorem Cx.Ok.G9(ok:X.Ok){b:Addr}{o:Obj}(e:X.ag.get? b=some o):b∉X.fs:=λhb=>by have:=(ok.dM.mem hb).1;rw[e]at this;cases this
theorem Inv.bs(I:Inv X af O H s):∀b o,X.ag.get? b=some o->s.heap.get? b=some o/\H b=none:=λb o e=>⟨I.ag.keep b o (I.ok.bs b o e).1 (I.ok.bs b o e).2 (I.ok.G9 e) (I.ok.ie b o e),I.ag.free b o (I.ok.bs b o e).1 (I.ok.bs b o e).2 (I.ok.ie b o e)⟩
theorem Inv.bk(I:Inv X af O H s):∀b o,X.ag.get? b=some o->s.heap.get? b=some o:=λb o e=>(I.bs b o e).1
theorem Inv.mod(I:Inv X af O H s):Mod X.K X.mg X.ag:=I.ok.mod
theorem Inv.bU(I:Inv X af O H s):X.K.In s.heap:=I.ok.mod.iX.keeps I.bk
theorem Inv.lt(I:Inv X af O H s):X.env.locals<s.heap.objs.size:=let⟨_,hn,_⟩:=I.loc;hn.lt
theorem Inv.sz(I:Inv X af O H s):X.s₀.heap.objs.size<=s.heap.objs.size:=fu I.ok.above (xo I.lt)
theorem Inv.G7(I:Inv X af O H s){a:Addr}(h:s.heap.objs.size<=a):a∉X.fs:=λhb=>by obtain⟨_,o,ho,_⟩:=I.ok.dM.mem hb;exact absurd (eU (aV ho) (fu I.sz h)) (mF _)
theorem Inv.hG(I:Inv X af O H s):∀x c,X.env.cells.lookup x=some c->c≠X.env.locals:=λx c e z=>by obtain⟨v,o,ho,hd⟩:=I.cell x c e;obtain⟨m,⟨o',es,ep,gO,iu,_⟩,_⟩:=I.loc;rw[z,gO]at ho;cases ho;rw[iu]at hd;cases hd
theorem Inv.dM(I:Inv X af O H s):s.heap.FunFrames X.ag X.outer:=by
 have all:∀(l:List Env),(∀b∈cf l,b∈X.fs)->X.s₀.heap.FunFrames X.ag l->s.heap.FunFrames X.ag l:=by intro l;induction l with |nil=>intro _ _;trivial |cons env r ih=>intro hs hl;obtain⟨hk,⟨L,o,hf,hn,ho,hd⟩,hr⟩:=hl;have hL:L∈X.fs:=hs L (by unfold cf;rw[rS,hf];exact xt);obtain⟨sl,e⟩:=I.ag.slot L o ho (I.ok.fP L hL) hL λz=>I.ok.gp L z hL;exact⟨hk,⟨L,_,hf,hn,e,hd⟩,ih (λb hb=>hs b (by unfold cf;rw[rS,hf];exact mG _ hb)) hr⟩
 exact all X.outer (λ_ hb=>hb) I.ok.dM
theorem Inv.stack(I:Inv X af O H s):s.heap.FunFrames X.ag X.stack:=by
 rcases I.ok.iQ with e|⟨e,hf⟩
 ·rw[e];exact I.dM
 ·rw[e]
  obtain⟨m,hn,_⟩:=I.loc;refine .cons (by rw[I.ok.kind];decide) hf hn ?_ I.dM;exact Heap.get?_none_of_le (fu I.ok.fh I.ok.above)
theorem Inv.sI(I:Inv X af O H s):∀b∈cf X.stack,b∈X.env.locals::X.fs:=λb hb=>by
 rcases I.ok.iQ with e|⟨e,hf⟩
 ·rw[e]at hb;exact mG _ hb
 ·rw[e]at hb
  unfold cf at hb;rw[rS,hf]at hb;exact hb
theorem Inv.pJ(I:Inv X af O H s):∀b∈cf X.stack,H b=none:=λb hb=>by
 rcases bR.mp (I.sI b hb)with e|hb
 ·rw[e];exact I.free
 ·obtain⟨_,o,ho,_⟩:=I.ok.dM.mem hb
  exact I.ag.free b o ho (I.ok.fP b hb) λz=>I.ok.gp b z hb
theorem Inv.step{g':Array GenState}{t':Nat}{d':Drawn}{ch:List Addr}(I:Inv X af O H s) (iy:∀b∈ch,(b∈X.ex\/X.s₀.heap.objs.size<=b)/\b≠X.env.locals/\(∀x c,X.env.cells.lookup x=some c->c≠b)/\∀p∈X.pn++af,p.1≠b) (keep:∀b o,b≠X.env.locals->b∉X.fs->b∉ch->s.heap.get? b=some o->H b=none->h'.get? b=some o) (slot:∀b o,b≠X.env.locals->b∈X.fs->b∉ch->s.heap.get? b=some o->H b=none->∃sl,h'.get? b=some {o with slots:=sl})(free:∀b o,b∉ch->s.heap.get? b=some o->H b=none->H' b=none) (there:∀b o,b∉ch->s.heap.get? b=some o->∃o',h'.get? b=some o') (eV:∀b xs,H b=some (.tup xs)->H' b=some (.tup xs))(eL:∀b o u,H b=some (.gT o u)->H' b=some (.gT o u))(eW:∀b ps,H b=some (.jz ps)->∃more,H' b=some (.jz (ps++more))) (ns:∀m,s.heap.Ns X.env.locals m->h'.Ns X.env.locals m)(aD:bL X.prog X.w H' h')(hg:AllBare g'): Inv X af O H' {s with heap:=h',gens:=g',drawn:=d',toks:=t'}:=by
 have zO:∀b o,X.s₀.heap.get? b=some o->b≠X.env.locals:=λb o e=>bD (eU (aV e) I.ok.above);have qq:∀b o,X.s₀.heap.get? b=some o->b∉X.ex->b∉ch:=λb o e hx hb=>by
  rcases(iy b hb).1 with z|z
  ·exact hx z
  ·exact absurd (eU (aV e) z) (mF _)
 have cellK:∀x c,X.env.cells.lookup x=some c->∀v,s.heap.IsCell c v->h'.IsCell c v:=λx c e v ⟨o,ho,hd⟩=>by
  have nI:c∉ch:=λz=>(iy c z).2.2.1 x c e rfl;by_cases hc:c∈X.fs
  ·obtain⟨sl,q⟩:=slot c o (I.hG x c e) hc nI ho (I.eg x c e)
   exact⟨_,q,hd⟩
  ·exact⟨o,keep c o (I.hG x c e) hc nI ho (I.eg x c e),hd⟩
 refine⟨I.ok,I.os,hg,⟨λb o e n hb hx=>?_,λb o e n hb hx=>?_,λb o e n hx=>?_,λb o e hx=>?_,λb xs e=>eV b xs (I.ag.eV b xs e),λb o xs e=>eL b o xs (I.ag.eL b o xs e),λb ps e=>?_⟩,?_,λx c e=>?_,?_,λx c e=>?_,λp hp=>?_,aD,I.len⟩
 ·exact keep b o (zO b o e) hb (qq b o e hx) (I.ag.keep b o e n hb hx) (I.ag.free b o e n hx)
 ·obtain⟨sl,e1⟩:=I.ag.slot b o e n hb hx
  obtain⟨sR,e2⟩:=slot b _ (zO b o e) hb (qq b o e hx) e1 (I.ag.free b o e n hx);exact⟨sR,e2⟩
 ·obtain⟨o',e1⟩:=I.ag.there b o e hx
  exact free b o' (qq b o e hx) e1 (I.ag.free b o e n hx)
 ·obtain⟨o',e1⟩:=I.ag.there b o e hx
  exact there b o' (qq b o e hx) e1
 ·obtain⟨m1,e1⟩:=I.ag.eW b ps e
  obtain⟨m2,e2⟩:=eW b _ e1;exact⟨m1++m2,by rw[e2,Array.append_assoc]⟩
 ·obtain⟨m,hn,hl⟩:=I.loc
  refine⟨m,ns m hn,λi x v e1 e2 e3=>?_⟩;obtain⟨u,r,l⟩:=hl i x v e1 e2 e3;refine⟨u,r,?_⟩;rcases l with l|⟨k,c,e,z⟩
  ·exact .inl l
  ·exact .inr ⟨k,c,e,cellK x c e _ z⟩
 ·obtain⟨v,z⟩:=I.cell x c e
  exact⟨v,cellK x c e v z⟩
 ·obtain⟨m,⟨o,_,_,ho,_⟩,_⟩:=I.loc
  exact free _ o (λz=>(iy _ z).2.1 Z) ho I.free
 ·obtain⟨v,o,ho,hd⟩:=I.cell x c e
  exact free c o (λz=>(iy c z).2.2.1 x c e Z) ho (I.eg x c e)
 ·obtain⟨e,n,ne,nf,d⟩:=I.pin p hp
  have nI:p.1∉ch:=λz=>(iy p.1 z).2.2.2 p hp rfl;exact⟨keep p.1 p.2 ne nf nI e n,free p.1 p.2 nI e n,ne,nf,d⟩
theorem Inv.un{t':Nat}(I:Inv X af O H s)(u:Un X.fs [] H H' s.heap h')(aD:bL X.prog X.w H' h'):Inv X af O H' {s with heap:=h',toks:=t'}:=by obtain⟨m,⟨o,es,ep,ho,r⟩,_⟩:=id I.loc;obtain⟨sl,hL⟩:=u.any ho I.free (by simp);exact I.step (g':=s.gens) (d':=s.drawn) (ch:=[]) (λ_ z=>nomatch z) (λb o _ hb _ e n=>u.keep b o e n hb (by simp)) (λb o _ hb _ e n=>u.slot b o e n hb (by simp)) (λb o _ e n=>u.free b o e n (by simp)) (λb o _ e=>u.there b o e (by simp)) u.eV u.eL u.eW (λm' hm=>by obtain⟨o',qH,vN,gO,r'⟩:=hm;rw[ho]at gO;cases gO;exact⟨_,qH,vN,hL,r'⟩) aD I.bare
theorem Inv.call{g':Array GenState}{t':Nat}{d':Drawn}{ch:List Addr}(I:Inv X af O H s)(u:Un (cf X.stack) ch H H' s.heap h')(aD:bL X.prog X.w H' h')(hg:AllBare g') (iy:∀b∈ch,(b∈X.ex\/X.s₀.heap.objs.size<=b)/\b≠X.env.locals/\(∀x c,X.env.cells.lookup x=some c->c≠b)/\∀p∈X.pn++af,p.1≠b): Inv X af O H' {s with heap:=h',gens:=g',drawn:=d',toks:=t'}:=by obtain⟨m,⟨o,es,ep,ho,r⟩,_⟩:=id I.loc;obtain⟨sl,hL⟩:=u.any ho I.free λz=>(iy _ z).2.1 rfl;exact I.step (ch:=ch) iy (λb o hL hb hc e n=>u.keep b o e n (λz=>(bR.mp (I.sI b z)).elim hL hb) hc) (λb o _ _ hc e n=>u.any e n hc) (λb o hc e n=>u.free b o e n hc) (λb o hc e=>u.there b o e hc) u.eV u.eL u.eW (λm' hm=>by obtain⟨o',qH,vN,gO,r'⟩:=hm;rw[ho]at gO;cases gO;exact⟨_,qH,vN,hL,r'⟩) aD hg
theorem Inv.turned{t':Nat}{it:Addr}(I:Inv X af O H s)(k:∀b o,b≠it->s.heap.get? b=some o->h'.get? b=some o)(hn:H it=none)(hL:it≠X.env.locals) (h1:it∈X.ex\/X.s₀.heap.objs.size<=it)(h2:∀x c,X.env.cells.lookup x=some c->c≠it)(h3:∀p∈X.pn++af,p.1≠it):Inv X af O H {s with heap:=h',toks:=t'}:=by
 have nG:∀b u,H b=some u->b≠it:=λb u e z=>by rw[z,hn]at e;cases e
 refine I.step (g':=s.gens) (d':=s.drawn) (ch:=[it]) (λb hb=>?_) (λb o _ _ hc e _=>k b o (λz=>hc (by simp[z])) e) (λb o _ _ hc e _=>⟨o.slots,k b o (λz=>hc (by simp[z])) e⟩) (λ_ _ _ _ n=>n) (λb o hc e=>⟨o,k b o (λz=>hc (by simp[z])) e⟩) (λ_ _ e=>e) (λ_ _ _ e=>e) (λb ps e=>⟨#[],by rw[e];simp⟩) (λm hm=>?_) (λb u e=>?_) I.bare
 ·have e:b=it:=by simpa using hb
  subst e;exact⟨h1,hL,h2,h3⟩
 ·obtain⟨o,es,ep,ho,r⟩:=hm
  exact⟨o,es,ep,k _ o (ft hL) ho,r⟩
 ·refine(I.aD b u e).gb (λc v hc q=>k c v ?_ q) (λ_ q=>q) λ_ _ q=>q
  rcases hc with z|z
  ·rw[z];exact nG b u e
  ·exact nG c _ z
theorem Inv.tok(I:Inv X af O H s)(t:Nat):Inv X af O H {s with toks:=t}:=I.un (h':=s.heap) (t':=t) Un.refl I.aD
theorem Inv.kept{t':Nat}(I:Inv X af O H s)(k:∀b u,s.heap.get? b=some u->h'.get? b=some u):Inv X af O H {s with heap:=h',toks:=t'}:=I.un (Un.kept k) (I.aD.kept k)
theorem Inv.laid{a:Addr}{o:HO}{t':Nat}(I:Inv X af O H s)(k:∀b u,s.heap.get? b=some u->h'.get? b=some u)(hp:s.heap.objs.size<=a)(new:cN X.prog X.w (upd H a o) h' a o): Inv X af O (upd H a o) {s with heap:=h',toks:=t'}:=I.un (Un.laid k hp (I.aD.fresh hp)) (I.aD.laid k hp new)
theorem Inv.write{x e:Addr}{o:HO}{t':Nat}(I:Inv X af O H s)(mu:qY (H x))(he:e=x\/H e=some (.own x))(k:∀b u,b≠e->s.heap.get? b=some u->h'.get? b=some u)(m7:∃u,h'.get? e=some u) (new:cN X.prog X.w (upd H x o) h' x o):Inv X af O (upd H x o) {s with heap:=h',toks:=t'}:=I.un (Un.write mu he k m7) (I.aD.write mu he k m7 new)
theorem Inv.zr{qg:List (Addr×Obj)}(I:Inv X af O H s)(h:∀p∈qg,s.heap.get? p.1=some p.2/\H p.1=none/\p.1≠X.env.locals/\p.1∉X.fs/\∀v,p.2.data≠ .cell v):Inv X qg O H s:=⟨I.ok,I.os,I.bare,I.ag,I.loc,I.cell,I.free,I.eg,λp hp=>(mH.mp hp).elim (λz=>I.pin p (xu _ z)) (h p),I.aD,I.len⟩
theorem uv{N:List Str}(hN:N.Nodup){i j:Nat}{x:Str}(a:N[i]? =some x)(b:N[j]? =some x):i=j:=by obtain⟨h1,e1⟩:=bM.mp a;obtain⟨h2,e2⟩:=bM.mp b;exact(List.getElem_inj hN).mp (e1.trans e2.symm)
theorem xW{M:Model}{A:aa}{E:Value->a7->Prop}{i:Nat}{x:Str}{v:V}{u:Value}{Q:Unit->a7->Prop}(I:Inv X af O H s)(hN:X.N.Nodup)(hi:X.N[i]? =some x)(hx:Loc X.env.scope x)(r:RelV v u) (h:∀s',Inv X af (O.set i (some v)) H s'->(∃a,Heap.SameBut a s.heap s'.heap/\(a=X.env.locals\/X.env.cells.lookup x=some a))->Q () s')(hf:X.fn x=true\/X.env.scope.names.lookup x=some .local:=by first|exact .inl rfl|exact .inr rfl|assumption):wpAny M A (storeName X.env x u) Q E s:=by
 obtain⟨m,hn,hl⟩:=id I.loc;have og:(X.env.scope.kind== .class||(X.env.scope.kind== .module&&X.env.locals !=X.env.globals))=false:=by rw[I.ok.kind];rfl
 have qB:i<O.length:=by rw[I.len];exact(bM.mp hi).1
 have hG:=I.hG;have tracked:∀{a:Addr}{h':Heap},(∃o,s.heap.get? a=some o/\H a=none)->Heap.SameBut a s.heap h'->bL X.prog X.w H h':=λ{a h'} ha hs b ob e=>by
  obtain⟨_,_,jR⟩:=ha;refine(I.aD b ob e).gb (λc w' hc q=>(hs.2 c ?_).trans q) (λ_ q=>q) λ_ _ q=>q;rintro rfl;rcases hc with rfl|hc
  ·rw[jR]at e;cases e
  ·rw[jR]at hc;cases hc
 rcases hx with hk|hk
 ·refine wpAny_storeName_local hk hn (λh' nW hs=>?_) og
  obtain⟨oL,_,_,An,_⟩:=id hn;refine h _ ⟨I.ok,I.os,I.bare,⟨λb o e n hb hx=>?_,λb o e n hb hx=>?_,I.ag.free,λb o e hx=>?_,I.ag.eV,I.ag.eL,I.ag.eW⟩,⟨_,nW,λj y v' e1 e2 e3=>?_⟩,λy c e=>?_,I.free,I.eg,λp hp=>?_,tracked ⟨oL,An,I.free⟩ hs,by simpa using I.len⟩ ⟨_,hs,.inl rfl⟩
  ·exact(hs.2 b (bD (eU (aV e) I.ok.above))).trans (I.ag.keep b o e n hb hx)
  ·obtain⟨sl,e1⟩:=I.ag.slot b o e n hb hx
   exact⟨sl,(hs.2 b (bD (eU (aV e) I.ok.above))).trans e1⟩
  ·obtain⟨o',e1⟩:=I.ag.there b o e hx
   exact⟨o',(hs.2 b (bD (eU (aV e) I.ok.above))).trans e1⟩
  ·by_cases hj:j=i
   ·subst hj
    rw[hi]at e1;cases e1;rw[rP qB]at e2;cases e2;exact⟨u,r,.inl ⟨hk,by simp⟩⟩
   ·rw[C9 (ft hj)]at e2
    obtain⟨u',r',q⟩:=hl j y v' e1 e2 e3;refine⟨u',r',?_⟩;rcases q with⟨k,e⟩|⟨k,c,e,z⟩
    ·refine .inl ⟨k,?_⟩
     have:y≠x:=λe=>hj (uv hN e1 (e▸hi));simp[this,e]
    ·exact .inr ⟨k,c,e,z.sameBut hs (hG y c e)⟩
  ·obtain⟨w',z⟩:=I.cell y c e
   exact⟨w',z.sameBut hs (hG y c e)⟩
  ·obtain⟨e,n,ne,nf,d⟩:=I.pin p hp
   exact⟨(hs.2 p.1 ne).trans e,n,ne,nf,d⟩
 ·have vi:X.fn x=true:=by
   rcases hf with z|z
   ·exact z
   ·rw[z]at hk;cases hk
  obtain⟨c,hc⟩:=I.ok.has x (.inl hk);obtain⟨w',z⟩:=I.cell x c hc;refine wpAny_storeName_cell I.ok.kind hk hc z (λh' e9 hs=>?_);obtain⟨oc,Am,HL⟩:=id z;refine h {s with heap:=h'} ⟨I.ok,I.os,I.bare,⟨λb o e n hb hx=>?_,λb o e n hb hx=>?_,I.ag.free,λb o e hx=>?_,I.ag.eV,I.ag.eL,I.ag.eW⟩,⟨m,hn.sameBut hs (ft (hG x c hc)),λj y v' e1 e2 e3=>?_⟩,λy c' e=>?_,I.free,I.eg,λp hp=>?_,tracked ⟨oc,Am,I.eg x c hc⟩ hs,by simpa using I.len⟩ ⟨c,hs,.inr hc⟩
  ·exact(hs.2 b (bD (eU (aV e) (I.ok.iB x c vi hc)))).trans (I.ag.keep b o e n hb hx)
  ·obtain⟨sl,e1⟩:=I.ag.slot b o e n hb hx
   exact⟨sl,(hs.2 b (bD (eU (aV e) (I.ok.iB x c vi hc)))).trans e1⟩
  ·obtain⟨o',e1⟩:=I.ag.there b o e hx
   exact⟨o',(hs.2 b (bD (eU (aV e) (I.ok.iB x c vi hc)))).trans e1⟩
  ·by_cases hj:j=i
   ·subst hj
    rw[hi]at e1;cases e1;rw[rP qB]at e2;cases e2;exact⟨u,r,.inr ⟨.inl hk,c,hc,e9⟩⟩
   ·rw[C9 (ft hj)]at e2
    obtain⟨u',r',q⟩:=hl j y v' e1 e2 e3;refine⟨u',r',?_⟩;rcases q with q|⟨k,c',e,z'⟩
    ·exact .inl q
    ·refine .inr ⟨k,c',e,z'.sameBut hs ?_⟩
     rintro rfl;exact hj (uv hN e1 (I.ok.inj _ _ _ e hc▸hi))
  ·by_cases Ay:c'=c
   ·subst Ay;exact⟨_,e9⟩
   ·obtain⟨w2,z2⟩:=I.cell y c' e
    exact⟨w2,z2.sameBut hs Ay⟩
  ·obtain⟨e,n,ne,nf,d⟩:=I.pin p hp
   refine⟨(hs.2 p.1 ?_).trans e,n,ne,nf,d⟩;intro q;rw[q,Am]at e;have q':oc=p.2:=ck e;exact d w' (by rw[<-q'];exact HL)
theorem lK{M:Model}{A:aa}{E:Value->a7->Prop}{i:Nat}{x:Str}{v:V}{u:Value}{Q:Unit->a7->Prop}(I:Inv X af O H s)(hN:X.N.Nodup)(hi:X.N[i]? =some x)(hx:Loc X.env.scope x)(r:RelV v u) (h:∀s',Inv X af (O.set i (some v)) H s'->Q () s')(hf:X.fn x=true\/X.env.scope.names.lookup x=some .local:=by first|exact .inl rfl|exact .inr rfl|assumption):wpAny M A (storeName X.env x u) Q E s:=xW I hN hi hx r (λs' I' _=>h s' I') hf
theorem Inv.lg{s':a7}{ch:List Addr}(I:Inv X af O H s)(ho:s'.os=s.os)(u:Un (cf X.stack) ch H H' s.heap s'.heap)(aD:bL X.prog X.w H' s'.heap)(hg:AllBare s'.gens) (iy:∀b∈ch,(b∈X.ex\/X.s₀.heap.objs.size<=b)/\b≠X.env.locals/\(∀x c,X.env.cells.lookup x=some c->c≠b)/\∀p∈X.pn++af,p.1≠b):Inv X af O H' s':=by obtain⟨h',g',d',t',o'⟩:=s';have e:o'=s.os:=ho;subst e;exact I.call (g':=g') (t':=t') (d':=d') u aD hg iy
end
abbrev XK:=Value->Option Addr->Hp->Prop
abbrev St:=List (Option V)
abbrev VK:=V->Hp->Prop
abbrev TE:=St->Hp->VK->Prop
abbrev TT:=St->Hp->(Bool->Hp->Prop)->Prop
abbrev TA:=St->Hp->(List V->Hp->Prop)->Prop
structure Ends where
 nx:St->Hp->Prop
 rt:VK
 bk:St->Hp->Prop:=λ_ _=>False
 ct:St->Hp->Prop:=λ_ _=>False
abbrev TS:=Ends->St->Hp->Prop
def EP(X:Cx)(af:List (Addr×Obj))(O:St)(Q:VK)(u:Value)(s':a7):Prop:=∃v H',Inv X af O H' s'/\RelV v u/\Q v H'
def TP(X:Cx)(af:List (Addr×Obj))(O:St)(Q:Bool->Hp->Prop)(b:Bool)(s':a7):Prop:=∃H',Inv X af O H' s'/\Q b H'
def AP(X:Cx)(af:List (Addr×Obj))(O:St)(Q:List V->Hp->Prop)(us:List Value)(s':a7):Prop:=∃vs H',Inv X af O H' s'/\Vals vs us/\Q vs H'
def SP(X:Cx)(af:List (Addr×Obj))(D:Ends)(f:Flow)(s':a7):Prop:=match f with | .next=>∃σ' H',Inv X af σ' H' s'/\D.nx σ' H' | .brk=>∃σ' H',Inv X af σ' H' s'/\D.bk σ' H' | .cont=>∃σ' H',Inv X af σ' H' s'/\D.ct σ' H' | .ret u=>∃v σ' H',Inv X af σ' H' s'/\RelV v u/\D.rt v H'
def PE(X:Cx)(e:Expr)(t:TE):Prop:=∀(af:List (Addr×Obj))(s:a7)(O:St)(H:Hp)(Q:VK),Inv X af O H s->t O H Q->wpAny (model X.prog X.w) X.A (eval e X.env) (EP X af O Q) X.xe s
def PT(X:Cx)(e:Expr)(t:TT):Prop:=∀(af:List (Addr×Obj))(s:a7)(O:St)(H:Hp)(Q:Bool->Hp->Prop),Inv X af O H s->t O H Q->wpAny (model X.prog X.w) X.A (isTrue e X.env (eval e X.env)) (TP X af O Q) X.xe s
def PW(X:Cx)(e:Expr)(t:TT):Prop:=∀(whole:Sem Value)(af:List (Addr×Obj))(s:a7)(O:St)(H:Hp)(Q:Bool->Hp->Prop),Inv X af O H s->t O H Q->wpAny (model X.prog X.w) X.A (isTrue e X.env whole) (TP X af O Q) X.xe s
theorem PW.pt{X:Cx}{e:Expr}{t:TT}(h:PW X e t):PT X e t:=h _
def PA(X:Cx)(es:List Expr)(t:TA):Prop:=∀(pos:Pos)(af:List (Addr×Obj))(s:a7)(O:St)(H:Hp)(Q:List V->Hp->Prop),Inv X af O H s->t O H Q->wpAny (model X.prog X.w) X.A (spliced (backTo pos (starEach es X.env))) (AP X af O Q) X.xe s
def PS(X:Cx)(st:Stmt)(t:TS):Prop:=∀(af:List (Addr×Obj))(s:a7)(O:St)(H:Hp)(D:Ends),Inv X af O H s->t D O H->wpAny (model X.prog X.w) X.A (exec st X.env) (SP X af D) X.xe s
def cw(X:Cx)(st:List Stmt)(t:TS):Prop:=∀(af:List (Addr×Obj))(s:a7)(O:St)(H:Hp)(D:Ends),Inv X af O H s->t D O H->wpAny (model X.prog X.w) X.A (execs st X.env) (SP X af D) X.xe s
theorem az{α:Type}{t:Sem α}{Q Q':α->a7->Prop}{M:Model}{A:aa}{E:Value->a7->Prop}{s:a7}(h:wpAny M A t Q E s)(hQ:∀a s,Q a s->Q' a s):wpAny M A t Q' E s:=dB h hQ λ_ _ x=>x
section
variable {X:Cx}
inductive Ly(i:Nat)(O:St)(H:Hp)(Q:VK):Prop |mk (v:_)(h0:O[i]? =some (some v))(h1:Q v H)
def sC(i:Nat):TE:=λO H Q=>Ly i O H Q
def tC (v:V):TE:=λ_ H Q=>Q v H
theorem EE{i:Nat}{x:Str}{pos:Pos}(hN:X.N[i]? =some x)(hv:wB X.env.scope x)(hd:(x==("__debug__":Str))=false:=by decide)(bZ:(x==("__classdict__":Str))=false:=by decide):PE X (.Name x pos) (sC i):=by
 intro af s O H Q I h;obtain⟨v,e,h⟩:=h;obtain⟨m,hn,hl⟩:=I.loc;obtain⟨u,r,l⟩:=hl i x v hN e hv;have fin:EP X af O Q u s:=⟨v,H,I,r,h⟩;rcases l with⟨hk,hm⟩|⟨hk,c,hc,iz⟩
 ·exact wpAny_Name (wpAny_loadName_local I.ok.kind hk hn hm fin) hd
 ·rcases hk with hk|hk
  ·exact wpAny_Name (wpAny_loadName_cell I.ok.kind hk hc iz fin) hd
  ·exact wpAny_Name (wpAny_loadName_free I.ok.kind hk hc iz fin bZ) hd
theorem ay{i j pos}:PE X (.Constant (.int i) j pos) (tC (.int i)):=λ_ _ _ H _ I h=>wpAny_Constant_int ⟨.int i,H,I.tok _,⟨_,Z⟩,h⟩
theorem gH{b j pos}:PE X (.Constant (.bool b) j pos) (tC (.bl b)):=λ_ _ _ H _ I h=>Constant_bool ⟨.bl b,H,I,Z,h⟩
theorem zv{j pos}:PE X (.Constant .none j pos) (tC .bj):=λ_ _ _ H _ I h=>Constant_none ⟨.bj,H,I,Z,h⟩
theorem cV{x j pos}:PE X (.Constant (.str x) j pos) (tC (.str x)):=λ_ _ _ H _ I h=>Calls.Constant_str ⟨.str x,H,I.tok _,⟨_,Z⟩,h⟩
def Gl(X:Cx)(x:Str):Prop:=X.env.kindOf x=some .globalImplicit
theorem kK{E:Value->a7->Prop}{af:List (Addr×Obj)}{s:a7}{O:St}{H:Hp}{x:Str}{u:Value}{pos:Pos}{Q:Value->a7->Prop}(I:Inv X af O H s)(hg:Gl X x)(hm:X.mg x=some u)(h:Q u s) (hd:(x==("__debug__":Str))=false:=by decide):wpAny (model X.prog X.w) X.A (eval (.Name x pos) X.env) Q E s:=Calls.Name_function_global I.ok.kind hg (Calls.loadGlobal_global (by rw[I.ok.glob];exact I.mod.glob.keeps I.bk) hm h) hd
theorem kL{E:Value->a7->Prop}{af:List (Addr×Obj)}{s:a7}{O:St}{H:Hp}{x:Str}{u:Value}{pos:Pos}{Q:Value->a7->Prop}(I:Inv X af O H s)(hg:Gl X x)(hm:X.mg x=none)(hv:bootBuiltins x=some u)(h:Q u s) (hn:x≠"__name__":=by decide)(hd:(x==("__debug__":Str))=false:=by decide):wpAny (model X.prog X.w) X.A (eval (.Name x pos) X.env) Q E s:=by obtain⟨mb,h1,h2⟩:=I.mod.blt;exact Calls.Name_function_global I.ok.kind hg (Calls.loadGlobal_builtin (by rw[I.ok.glob];exact I.mod.glob.keeps I.bk) hm (by rw[I.ok.blt];exact h1.keeps I.bk) ((h2 x hn).trans hv) h) hd
theorem EM{x:Str}{v:V}{u:Value}{pos:Pos}(hg:Gl X x)(hm:X.mg x=some u)(r:RelV v u)(hd:(x==("__debug__":Str))=false:=by decide):PE X (.Name x pos) (tC v):=λ_ _ _ H _ I h=>kK I hg hm ⟨v,H,I,r,h⟩ hd
theorem i6{x:Str}{v:V}{u:Value}{pos:Pos}(hg:Gl X x)(hm:X.mg x=none)(hv:bootBuiltins x=some u)(r:RelV v u)(hn:x≠"__name__":=by decide)(hd:(x==("__debug__":Str))=false:=by decide):PE X (.Name x pos) (tC v):=λ_ _ _ H _ I h=>kL I hg hm hv ⟨v,H,I,r,h⟩ hn hd
variable {a b:Expr}{ta tb:TE}{pos:Pos}
inductive LK(Q:Bool->Hp->Prop)(x:V)(H1:Hp):Prop |mk (c:_)(h0:x= .bl c)(h1:Q c H1)
def tB(t:TE):TT:=λO H Q=>t O H λx H1=>LK Q x H1
theorem dG{e:Expr}{t:TE}(h:PE X e t)(he:∀whole,isTrue e X.env whole=(do let v<-whole;standAt e.pos;holding [v] (truthy v)):=by intro _;rfl):PT X e (tB t):=by intro af s O H Q I hw;refine isTrue_plain (az (h af s O H _ I hw) λv s1 ⟨x,H1,I1,r1,q1⟩=>?_) (he _);obtain⟨d,rfl,q⟩:=q1;cases r1;exact ju ⟨H1,I1,q⟩
variable {tA pH:TT} {rest:List Expr}
def Dv(t u:TT):TT:=λO H Q=>t O H λc H1=>if c=true then u O H1 Q else Q false H1
def D8(t u:TT):TT:=λO H Q=>t O H λc H1=>if c=true then Q true H1 else u O H1 Q
def Dd(t:TT):TT:=λO H Q=>t O H λc H1=>Q (!c) H1
theorem zo(ha:PT X a tA):PW X (.BoolOp .And [a] pos) tA:=by intro wh af s O H Q I h;refine isTrue_and (az (ha af s O H Q I h) λc s1 e=>?_);cases c with |true=>exact isTrue_and_nil e |false=>exact e
theorem ku(ha:PT X a tA):PW X (.BoolOp .Or [a] pos) tA:=by intro wh af s O H Q I h;refine isTrue_or (az (ha af s O H Q I h) λc s1 e=>?_);cases c with |false=>exact isTrue_or_nil e |true=>exact e
theorem u9(ha:PT X a tA)(hb:PW X (.BoolOp .And (b::rest) pos) pH):PW X (.BoolOp .And (a::b::rest) pos) (Dv tA pH):=by intro wh af s O H Q I h;refine isTrue_and (az (ha af s O H _ I h) λc s1 ⟨H1,I1,q1⟩=>?_);cases c with |true=>exact hb wh af s1 O H1 Q I1 q1 |false=>exact⟨H1,I1,q1⟩
theorem kx(ha:PT X a tA)(hb:PW X (.BoolOp .Or (b::rest) pos) pH):PW X (.BoolOp .Or (a::b::rest) pos) (D8 tA pH):=by intro wh af s O H Q I h;refine isTrue_or (az (ha af s O H _ I h) λc s1 ⟨H1,I1,q1⟩=>?_);cases c with |true=>exact⟨H1,I1,q1⟩ |false=>exact hb wh af s1 O H1 Q I1 q1
theorem gj(ha:PT X a tA):PT X (.UnaryOp .Not a pos) (Dd tA):=by intro af s O H Q I h;exact isTrue_not (ha af s O H (λc H1=>Q (!c) H1) I h)
inductive LL(tb:TE)(O:St)(Q:VK)(x:V)(H1:Hp):Prop |mk (c:_)(h0:x= .bl c)(h1:if c=true then tb O H1 Q else Q (.bl false) H1)
def Du(ta tb:TE):TE:=λO H Q=>ta O H λx H1=>LL tb O Q x H1
inductive LD(tb:TE)(O:St)(Q:VK)(x:V)(H1:Hp):Prop |mk (c:_)(h0:x= .bl c)(h1:if c=true then Q (.bl true) H1 else tb O H1 Q)
def D7(ta tb:TE):TE:=λO H Q=>ta O H λx H1=>LD tb O Q x H1
inductive LF(Q:VK)(x:V)(H1:Hp):Prop |mk (c:_)(h0:x= .bl c)(h1:Q (.bl (!c)) H1)
def D9(ta:TE):TE:=λO H Q=>ta O H λx H1=>LF Q x H1
theorem nv{op}{t:TE}(h:PE X a t):PE X (.BoolOp op [a] pos) t:=λaf s O H Q I hw=>BoolOp_one (h af s O H Q I hw)
theorem ny(ha:PE X a ta)(hb:PE X (.BoolOp .And (b::rest) pos) tb):PE X (.BoolOp .And (a::b::rest) pos) (Du ta tb):=by intro af s O H Q I h;refine BoolOp_and (az (ha af s O H _ I h) λv s1 ⟨x,H1,I1,r1,q1⟩=>?_);obtain⟨c,rfl,q1⟩:=q1;cases r1;refine ju ?_;cases c with |true=>exact hb af s1 O H1 Q I1 q1 |false=>exact⟨.bl false,H1,I1,Z,q1⟩
theorem zu(ha:PE X a ta)(hb:PE X (.BoolOp .Or (b::rest) pos) tb):PE X (.BoolOp .Or (a::b::rest) pos) (D7 ta tb):=by intro af s O H Q I h;refine BoolOp_or (az (ha af s O H _ I h) λv s1 ⟨x,H1,I1,r1,q1⟩=>?_);obtain⟨c,rfl,q1⟩:=q1;cases r1;refine ju ?_;cases c with |false=>exact hb af s1 O H1 Q I1 q1 |true=>exact⟨.bl true,H1,I1,Z,q1⟩
theorem EG(ha:PE X a ta):PE X (.UnaryOp .Not a pos) (D9 ta):=by intro af s O H Q I h;refine UnaryOp_ (az (ha af s O H _ I h) λv s1 ⟨x,H1,I1,r1,q1⟩=>?_);obtain⟨c,rfl,q1⟩:=q1;cases r1;exact not_of (ju ⟨.bl (!c),H1,I1,Z,q1⟩)
def Dp(t:TT)(ta tb:TE):TE:=λO H Q=>t O H λc H1=>if c=true then ta O H1 Q else tb O H1 Q
theorem qi{c:Expr}(hc:PT X c tA)(ha:PE X a ta)(hb:PE X b tb):PE X (.IfExp c a b pos) (Dp tA ta tb):=by intro af s O H Q I h;refine wpAny_IfExp (az (hc af s O H _ I h) λd s1 ⟨H1,I1,q1⟩=>?_);cases d with |true=>exact ha af s1 O H1 Q I1 q1 |false=>exact hb af s1 O H1 Q I1 q1
end
def aF(K:a6)(H:Hp)(a:Addr)(xs:List V):Prop:=Rd H a (.lst xs)\/ ∃(o:Obj)(its:Array Value)(n:Nat),K.lookup a=some o/\o.cls= .type "list"/\o.dict=none/\o.data= .seq its n/\its.size<=sizeLine/\Vals xs its.toList
def aL(K:a6)(H:Hp)(a:Addr)(xs:List V):Prop:=Rd H a (.tup xs)\/ ∃(o:Obj)(its:Array Value)(n:Nat),K.lookup a=some o/\o.cls= .type "tuple"/\o.data= .seq its n/\its.size<=sizeLine/\Vals xs its.toList
def Lg:Value->Option V | .none=>some .bj | .bool b=>some (.bl b) | .int i _=>some (.int i) | .str x _=>some (.str x) | .bytes b _=>some (.qP b) | .float b _=>some (.qF b) | .ref a=>some (.ref a) | .type n=>some (.ty n) |_=>none
theorem RelV.abs{x:V}{u:Value}(r:RelV x u):Lg u=some x:=by cases x with |bj=>cases r;rfl |bl _=>cases r;rfl |int _=>obtain⟨t,rfl⟩:=r;rfl |str _=>obtain⟨t,rfl⟩:=r;rfl |qP _=>obtain⟨t,rfl⟩:=r;rfl |qF _=>obtain⟨t,rfl⟩:=r;rfl |ref _=>cases r;rfl |ty _=>cases r;rfl
theorem RelV.inj{x y:V}{u:Value}(r:RelV x u)(q:RelV y u):x=y:=ck (r.abs.symm.trans q.abs)
theorem Vals.inj:∀{xs ys:List V}{us:List Value},Vals xs us->Vals ys us->xs=ys |_,_,_,.nil,.nil=>rfl |_,_,_,.cons r t,.cons r' t'=>by rw[r.inj r',Vals.inj t t']
section
variable {X:Cx}{af:List (Addr×Obj)}{O:St}{H:Hp}{s:a7}{a:Addr}{xs ys:List V}
theorem aF.of{K:a6}(h:H a=some (.lst xs)):aF K H a xs:=.inl (.inl h)
theorem aL.of{K:a6}(h:H a=some (.tup xs)):aL K H a xs:=.inl (.inl h)
theorem Inv.list(I:Inv X af O H s)(h:aF X.K H a xs):∃its:List Value,Vals xs its/\PlainL s.heap a its.toArray/\xs.length<=sizeLine:=by
 rcases h with h|⟨o,its,n,hk,hc,hd,hs,hz,r⟩
 ·obtain⟨z,its,n,r,e⟩:=h.ok I.aD
  exact⟨its,r,⟨_,n,e,Z,Z,Z⟩,z⟩
 ·refine⟨its.toList,r,⟨o,n,I.bU a o hk,hc,hd,by simpa using hs⟩,?_⟩
  have e:=r.length;simp only[mL]at e
  lia
theorem Inv.tuple(I:Inv X af O H s)(h:aL X.K H a xs):∃its:List Value,Vals xs its/\IsTup s.heap a its.toArray/\xs.length<=sizeLine:=by
 rcases h with h|⟨o,its,n,hk,hc,hs,hz,r⟩
 ·obtain⟨z,its,r,p⟩:=h.ok I.aD
  exact⟨its,r,p,z⟩
 ·refine⟨its.toList,r,⟨o,I.bU a o hk,hc,n,by simpa using hs⟩,?_⟩
  have e:=r.length;simp only[mL]at e
  lia
theorem Inv.uG(I:Inv X af O H s)(h:aF X.K H a xs)(h':aF X.K H a ys):xs=ys:=by
 obtain⟨its,r,⟨o,n,e,_,_,d⟩,_⟩:=I.list h;obtain⟨its',r',⟨o',n',e',_,_,d'⟩,_⟩:=I.list h';rw[e]at e';cases e';rw[d]at d';injection d' with d1 _;have:its=its':=by simpa using congrArg Array.toList d1
 subst this;exact r.inj r'
theorem Inv.xJ(I:Inv X af O H s)(h:aL X.K H a xs)(h':aL X.K H a ys):xs=ys:=by
 obtain⟨its,r,⟨o,e,_,n,d⟩,_⟩:=I.tuple h;obtain⟨its',r',⟨o',e',_,n',d'⟩,_⟩:=I.tuple h';rw[e]at e';cases e';rw[d]at d';injection d' with d1 _;have:its=its':=by simpa using congrArg Array.toList d1
 subst this;exact r.inj r'
end
abbrev Cx.dC(X:Cx)(E:Value->a7->Prop):Cx:={X with xe:=E}
abbrev Cx.kI(X:Cx):Cx:=X.dC λ_ _=>False
theorem Cx.Ok.dC{X:Cx}(ok:X.Ok)(E:Value->a7->Prop):(X.dC E).Ok:=⟨ok.mod,ok.kind,ok.glob,ok.blt,ok.above,ok.inj,ok.has,ok.iB,ok.hd,ok.frames,ok.iQ,ok.l7,ok.bs,ok.fh,ok.ie,ok.gp,ok.dM,ok.fP⟩
theorem Cx.Ok.g9{X:Cx}{E:Value->a7->Prop}(ok:(X.dC E).Ok):X.Ok:=⟨ok.mod,ok.kind,ok.glob,ok.blt,ok.above,ok.inj,ok.has,ok.iB,ok.hd,ok.frames,ok.iQ,ok.l7,ok.bs,ok.fh,ok.ie,ok.gp,ok.dM,ok.fP⟩
section
variable {X:Cx}{af:List (Addr×Obj)}{O:St}{H:Hp}{s:a7}{E:Value->a7->Prop}
theorem Inv.dC(I:Inv X af O H s)(E:Value->a7->Prop):Inv (X.dC E) af O H s:=⟨I.ok.dC E,I.os,I.bare,I.ag,I.loc,I.cell,I.free,I.eg,I.pin,I.aD,I.len⟩
theorem Inv.g9(I:Inv (X.dC E) af O H s):Inv X af O H s:=⟨I.ok.g9,I.os,I.bare,I.ag,I.loc,I.cell,I.free,I.eg,I.pin,I.aD,I.len⟩
theorem SP.g9{D:Ends}{f:Flow}{s':a7}(h:SP (X.dC E) af D f s'):SP X af D f s':=by cases f with |next=>obtain⟨σ',H',I,q⟩:=h;exact⟨σ',H',I.g9,q⟩ |brk=>obtain⟨σ',H',I,q⟩:=h;exact⟨σ',H',I.g9,q⟩ |cont=>obtain⟨σ',H',I,q⟩:=h;exact⟨σ',H',I.g9,q⟩ |ret u=>obtain⟨v,σ',H',I,r,q⟩:=h;exact⟨v,σ',H',I.g9,r,q⟩
theorem cw.kI{st:List Stmt}{t:TS}(h:cw X.kI st t):cw X st t:=λaf s O H D I hw=>dB (h af s O H D (I.dC _) hw) (λ_ _ q=>q.g9) λ_ _ z=>False.elim z
end
section
variable {X:Cx}{st:Stmt}{rest:List Stmt}{t u:TS}{e:Expr}{te:TE}{pos:Pos}
def Df:TS:=λD O H=>D.nx O H
def D1(t u:TS):TS:=λD O H=>t {D with nx:=u D} O H
theorem bO:cw X [] Df:=λ_ _ O H _ I h=>lC ⟨O,H,I,h⟩
theorem aE(h1:PS X st t)(h2:cw X rest u):cw X (st::rest) (D1 t u):=by intro af s O H D I h;refine wpAny_execs_cons (az (h1 af s O H {D with nx:=u D} I h) λf s1 q=>?_);cases f with |next=>obtain⟨σ',H',I',q⟩:=q;exact h2 af s1 σ' H' D I' q |ret v=>exact q |brk=>exact q |cont=>exact q
theorem aJ(h1:PS X st t):cw X [st] t:=by intro af s O H D I h;refine wpAny_execs_cons (az (h1 af s O H D I h) λf s1 q=>?_);cases f with |next=>exact lC q |ret v=>exact q |brk=>exact q |cont=>exact q
theorem Inv.quiet{af:List (Addr×Obj)}{O:St}{H:Hp}{s:a7}(I:Inv X af O H s):interactive X.env=false:=by simp[interactive,I.ok.kind]
def Ds(te:TE):TS:=λD O H=>te O H λ_ H1=>D.nx O H1
theorem nq(he:PE X e te)(hs:swapsWith e none pos.line X.env=pure false:=by rfl):PS X (.Expr e pos) (Ds te):=by intro af s O H D I h;exact wpAny_Expr_any (az (he af s O H _ I h) λv s1 ⟨x,H1,I1,r1,q1⟩=>⟨O,H1,I1,q1⟩) I.quiet hs
def D4(te:TE):TS:=λD O H=>te O H D.rt
theorem bc(he:PE X e te):PS X (.Return (some e) pos) (D4 te):=by intro af s O H D I h;exact wpAny_Return_some (az (he af s O H _ I h) λv s1 ⟨x,H1,I1,r1,q1⟩=>⟨x,O,H1,I1,r1,q1⟩)
def Dn(c:TT)(t u:TS):TS:=λD O H=>c O H λb H1=>if b=true then t D O H1 else u D O H1
theorem bP{c:Expr}{a b:List Stmt}{tc:TT}(hc:PT X c tc)(ha:cw X a t)(hb:cw X b u):PS X (.If c a b pos) (Dn tc t u):=by intro af s O H D I h;refine wpAny_If (az (hc af s O H _ I h) λd s1 ⟨H1,I1,q1⟩=>?_);cases d with |true=>exact ha af s1 O H1 D I1 q1 |false=>exact hb af s1 O H1 D I1 q1
def Dg:TS:=λ_ _ _=>False
theorem zq:PS X st Dg:=λ_ _ _ _ _ _ h=>h.elim
end
abbrev TG:=V->St->Hp->(St->Hp->Prop)->Prop
abbrev gq:=List V->St->Hp->(St->Hp->Prop)->Prop
def PG(X:Cx)(target:Expr)(t:TG):Prop:=∀(af:List (Addr×Obj))(s:a7)(O:St)(H:Hp)(v:V)(u:Value)(Q:St->Hp->Prop),Inv X af O H s->RelV v u->t v O H Q->wpAny (model X.prog X.w) X.A (assign target X.env u) (λ_ s'=>∃σ' H',Inv X af σ' H' s'/\Q σ' H') X.xe s
def lq(X:Cx)(ts:List Expr)(t:gq):Prop:=∀(af:List (Addr×Obj))(s:a7)(O:St)(H:Hp)(vs:List V)(us:List Value)(Q:St->Hp->Prop),Inv X af O H s->Vals vs us->t vs O H Q->wpAny (model X.prog X.w) X.A (assignInOrder ((assignEach ts X.env).map (·.2)) us) (λ_ s'=>∃σ' H',Inv X af σ' H' s'/\Q σ' H') X.xe s
abbrev wF:=V->V->V->Hp->(Hp->Prop)->Prop
def BE(X:Cx)(t:wF):Prop:=∀(af:List (Addr×Obj))(s:a7)(O:St)(H:Hp)(o i v:V)(ov iv u:Value)(Q:Hp->Prop),Inv X af O H s->RelV o ov->RelV i iv->RelV v u->t o i v H Q->wpAny (model X.prog X.w) X.A (setItem ov iv u) (λ_ s'=>∃H',Inv X af O H' s'/\Q H') X.xe s
section
variable {X:Cx} {pos:Pos}
def dm(i:Nat):TG:=λv O H Q=>Q (O.set i (some v)) H
theorem EB{i:Nat}{x:Str}(hN:X.N.Nodup)(hi:X.N[i]? =some x)(hx:Loc X.env.scope x)(hf:X.fn x=true\/X.env.scope.names.lookup x=some .local:=by first|exact .inl rfl|exact .inr rfl|assumption):PG X (.Name x pos) (dm i):=by intro af s O H v u Q I r h;exact wpAny_assign_Name (lK I hN hi hx r (λs' I'=>⟨_,H,I',h⟩) hf)
def qD:gq:=λvs O H Q=>vs=[]/\Q O H
inductive MK(t:TG)(u:gq)(vs:List V)(O:St)(H:Hp)(Q:St->Hp->Prop):Prop |mk (v:_)(r:_)(h0:vs=v::r)(h1:t v O H λσ' H'=>u r σ' H' Q)
def l4(t:TG)(u:gq):gq:=λvs O H Q=>MK t u vs O H Q
theorem hX:lq X [] qD:=by intro af s O H vs us Q I r h;obtain⟨e,h⟩:=h;subst e;cases r;exact assignInOrder_nil ⟨O,H,I,h⟩
theorem cU{e:Expr}{es:List Expr}{t:TG}{u:gq}(h1:PG X e t)(h2:lq X es u) (hs:(assignEach (e::es) X.env).map (·.2)=assign e X.env::(assignEach es X.env).map (·.2):=by rfl):lq X (e::es) (l4 t u):=by intro af s O H vs us Q I r h;obtain⟨v,vr,e1,h⟩:=h;subst e1;cases r with |cons r rr=>rw[hs];refine assignInOrder_cons (az (h1 af s O H _ _ _ I r h) λ_ s1 ⟨σ1,H1,I1,q1⟩=>?_);exact h2 af s1 σ1 H1 _ _ Q I1 rr q1
inductive MJ(K:a6)(n:Nat)(t:gq)(v:V)(O:St)(H:Hp)(Q:St->Hp->Prop):Prop |mk (a:_)(xs:_)(h0:v= .ref a)(h1:aL K H a xs)(h2:xs.length=n)(h3:t xs O H Q)
def kZ(K:a6)(n:Nat)(t:gq):TG:=λv O H Q=>MJ K n t v O H Q
theorem Ez{es:List Expr}{k:Nat}{t:gq}{n:Nat}(hc:X.calm=true)(h:lq X es t) (hn:(assignEach es X.env).length=n:=by rfl)(cJ:(assignEach es X.env).findIdx? (·.1)=none:=by rfl):PG X (.Tuple es k pos) (kZ X.K n t):=by intro af s O H v u Q I r hw;obtain⟨a,xs,e1,hq,hl,hw⟩:=hw;subst e1;cases r;obtain⟨its,rv,ht,hz⟩:=I.tuple hq;refine assign_Tuple_tuple (I.ok.hd hc) ht (by simp[hn,<-hl,rv.length]) cJ λh' hx=>?_;have I1:Inv X af O H {s with heap:=h'}:=I.kept (t':=s.toks) λb o e=>hx b o (bD (aV e)) e;exact h af _ O H xs _ Q I1 (by simpa using rv) hw
def JD(to ti:TE)(t:wF):TG:=λv O H Q=>to O H λo H1=>ti O H1 λi H2=>t o i v H2 λH3=>Q O H3
theorem qh{o i:Expr}{to ti:TE}{t:wF}(ho:PE X o to)(hi:PE X i ti)(hs:BE X t) (ha:∀v,assign (.Subscript o i pos) X.env v=(do
 let ov<-holding [v] (eval o X.env)
 let iv<-holding [v,ov] (eval i X.env)
 standAt pos
 holding [v,ov,iv] (setItem ov iv v)
 release [v,ov,iv] []):=by intro _;rfl):PG X (.Subscript o i pos) (JD to ti t):=by
 intro af s O H v u Q I r h;rw[ha];refine ai (eB (az (ho af s O H _ I h) λov s1 ⟨x,H1,I1,r1,q1⟩=>?_));refine ai (eB (az (hi af s1 O H1 _ I1 q1) λiv s2 ⟨y,H2,I2,r2,q2⟩=>?_));refine ai (mx (ai (eB (az (hs af s2 O H2 x y v ov iv u _ I2 r1 r2 r q2) λ_ s3 ⟨H3,I3,q3⟩=>?_))));exact wpAny_release ⟨O,H3,I3,q3⟩
def pI(te:TE)(g:TG):TS:=λD O H=>te O H λx H1=>g x O H1 D.nx
theorem kz{tg e:Expr}{te:TE}{g:TG}(he:PE X e te)(hg:PG X tg g)(hs:swapsWithSole [tg] e pos.line X.env=pure false:=by rfl)(hw:swappedStores [tg] e X.env=pure none:=by rfl) (h1:(assignEach [tg] X.env).map (·.2)=[assign tg X.env]:=by rfl):PS X (.Assign [tg] e pos) (pI te g):=by intro af s O H D I h;refine wpAny_Assign_stores (az (he af s O H _ I h) λv s1 ⟨x,H1,I1,r1,q1⟩=>?_) hs hw;rw[h1];exact az (hg af s1 O H1 x v _ I1 r1 q1) λ_ s2 q=>q
theorem Eg{i:Nat}{x:Str}{e:Expr}{te:TE}{pos':Pos}(hN:X.N.Nodup)(hi:X.N[i]? =some x)(hx:Loc X.env.scope x)(he:PE X e te)(hs:swapsWith e (some (.Name x pos')) pos.line X.env=pure false:=by rfl)(hf:X.fn x=true\/X.env.scope.names.lookup x=some .local:=by first|exact .inl rfl|exact .inr rfl|assumption): PS X (.Assign [.Name x pos'] e pos) (pI te (dm i)):=by intro af s O H D I h;refine wpAny_Assign_Name (az (he af s O H _ I h) λv s1 ⟨y,H1,I1,r1,q1⟩=>?_) hs;exact lK I1 hN hi hx r1 (λs2 I2=>⟨_,H1,I2,q1⟩) hf
def xN(c:TT)(tb:TS):TS:=λD O H=>∃W:Nat->St->Hp->Prop,(∃m,W m O H)/\∀m O H,W m O H->c O H λb H1=>if b=true then∃N:St->Hp->Prop,(∀σ' H',N σ' H'->∃m',m'<m/\W m' σ' H')/\tb {D with nx:=N,ct:=N,bk:=D.nx} O H1 else D.nx O H1
theorem Ec{c:Expr}{body:List Stmt}{tc:TT}{tb:TS}(hp:PassesOwn (model X.prog X.w) X.A X.env X.xe)(hc:PT X c tc)(hb:cw X body tb):PS X (.While c body [] pos) (xN tc tb):=by intro af s O H D I h;obtain⟨W,⟨m0,w0⟩,turn⟩:=h;refine wpAny_While (codeAny_whileLoop (λn s'=>∃σ' H',Inv X af σ' H' s'/\W n σ' H') ?_ m0 ⟨O,H,I,w0⟩);rintro n s1 ⟨σ1,H1,I1,w1⟩;refine hR hp (az (hc af s1 σ1 H1 _ I1 (turn n σ1 H1 w1)) λb s2 ⟨H2,I2,q2⟩=>?_);cases b with
 |true=>obtain⟨N,hN,q2⟩:=q2;rw[aZ rfl];refine hR hp (az (hb af s2 σ1 H2 _ I2 q2) λf s3 q3=>?_);cases f with |next=>obtain⟨σ3,H3,I3,n3⟩:=q3;obtain⟨m',hm,w3⟩:=hN σ3 H3 n3;exact⟨m',hm,σ3,H3,I3,w3⟩ |cont=>obtain⟨σ3,H3,I3,n3⟩:=q3;obtain⟨m',hm,w3⟩:=hN σ3 H3 n3;exact⟨m',hm,σ3,H3,I3,w3⟩ |brk=>exact q3 |ret v=>exact q3
 |false=>rw[aY dS];exact lC ⟨σ1,H2,I2,q2⟩
end
structure It where
 go:Nat->Hp->Prop
 dU:Nat->Hp->V->Hp->Prop
 stop:Nat->Hp->Prop
def dg(X:Cx)(af:List (Addr×Obj))(H:Hp)(b:Addr):Prop:=H b=none/\b≠X.env.locals/\b∉X.fs/\(b∈X.ex\/X.s₀.heap.objs.size<=b)/\(∀x c,X.env.cells.lookup x=some c->c≠b)/\∀p∈X.pn++af,p.1≠b
theorem Inv.jh{X:Cx}{af:List (Addr×Obj)}{O:St}{H H':Hp}{s:a7}{b:Addr}(I:Inv X af O H s)(hb:s.heap.objs.size<=b)(hn:H' b=none):dg X af H' b:=by
 refine⟨hn,p4 (eU I.lt hb),I.G7 hb,.inr (fu I.sz hb),λx c e z=>?_,λp hp z=>?_⟩
 ·obtain⟨v,q⟩:=I.cell x c e
  exact absurd (eU q.lt (by rw[z];exact hb)) (mF _)
 ·exact absurd (eU (aV (I.pin p hp).1) (by rw[z];exact hb)) (mF _)
structure Turn(P:a8)(w:World)(K:a6)(tg:Expr)(J:It)(fp:List Addr)(it:Addr)(tn:Nat->Heap->Prop):Prop where
 mem:it∈fp
 obj:∀i h,tn i h->∀b∈fp,∃o,h.get? b=some o/\∀v,o.data≠ .cell v
 keep:∀i h h',tn i h->(∀b∈fp,∀o,h.get? b=some o->h'.get? b=some o)->tn i h'
 item:∀(X:Cx),X.prog=P->X.w=w->X.K=K->X.calm=true->∀(i:Nat)(af:List (Addr×Obj))(s:a7)(O:St)(H:Hp)(E:Value->a7->Prop),Inv X af O H s->(∀b∈fp,dg X af H b)->tn i s.heap->J.go i H->wpAny (model P w) X.A (pyNext (.ref it)) (λr s1=>∃u,r=some u/\wpAny (model P w) X.A (letOwnedTupleGo tg (.ref it) u) (λ_ s2=>∃x H',Inv X af O H' s2/\RelV x u/\J.dU i H x H'/\tn (i+1) s2.heap/\∀b∈fp,H' b=none) E s1) E s
 done:∀(X:Cx),X.prog=P->X.w=w->X.K=K->X.calm=true->∀(i:Nat)(af:List (Addr×Obj))(s:a7)(O:St)(H:Hp)(E:Value->a7->Prop),Inv X af O H s->(∀b∈fp,dg X af H b)->tn i s.heap->J.stop i H->wpAny (model P w) X.A (pyNext (.ref it)) (λr s1=>r=none/\Inv X af O H s1) E s
 self:∀(A:aa)(i:Nat)(s:a7)(Q:Value->a7->Prop)(E:Value->a7->Prop),tn i s.heap->Q (.ref it) s->wpAny (model P w) A (pyIter (.ref it)) Q E s
abbrev TI:=St->Hp->(It->Hp->Prop)->Prop
def wI(X:Cx)(af:List (Addr×Obj))(O:St)(tg:Expr)(R:It->Hp->Prop)(jM:Value)(s2:a7):Prop:=∃(it:Addr)(fp:List Addr)(tn:Nat->Heap->Prop)(J:It)(H':Hp),jM= .ref it/\Inv X af O H' s2/\Turn X.prog X.w X.K tg J fp it tn/\tn 0 s2.heap/\(∀b∈fp,dg X af H' b)/\R J H'
def PI(X:Cx)(tg iter:Expr)(wi:TI):Prop:=∀(af:List (Addr×Obj))(s:a7)(O:St)(H:Hp)(R:It->Hp->Prop),Inv X af O H s->wi O H R->wpAny (model X.prog X.w) X.A (eval iter X.env) (λv s1=>wpAny (model X.prog X.w) X.A (pyIter v) (wI X af O tg R) X.xe s1) X.xe s
theorem oy{M:Model}{A:aa}{E:Value->a7->Prop}{s:a7}{tg:Expr}{it:Addr}{u:Value}{o:Obj}{n:String}{vs:Array Value}{Q:Unit->a7->Prop}(ho:s.heap.get? it=some o)(hc:o.cls= .type n)(hd:o.data= .fields vs) (hn:["enumerate","zip","dict_itemiterator","dict_reverseitemiterator","odict_iterator","itertools.zip_longest","itertools.pairwise"].contains n=false)(hQ:Q () s):wpAny M A (letOwnedTupleGo tg (.ref it) u) Q E s:=by unfold letOwnedTupleGo;cases tg<;>first |exact aG hQ |(cases u<;>first
        |exact aG hQ
        | (refine ai (wpAny_load ho ?_)
           rw[hc,hd];show wpAny M A (if(["enumerate","zip","dict_itemiterator","dict_reverseitemiterator","odict_iterator","itertools.zip_longest","itertools.pairwise"].contains n&&vs[0]? ==some (rawInt _))=true then _ else _) Q E s;rw[aY (by intro h;rw[hn,gz]at h;cases h)];exact aG hQ))
def ka(K:a6)(a:Addr):It:=⟨λi H=>∃xs x,aF K H a xs/\xs[i]? =some x,λi H x H'=>H'=H/\∀xs,aF K H a xs->xs[i]? =some x,λi H=>∃xs,aF K H a xs/\xs.length<=i⟩
def jl(K:a6)(a:Addr):It:=⟨λi H=>∃xs x,aL K H a xs/\xs[i]? =some x,λi H x H'=>H'=H/\∀xs,aL K H a xs->xs[i]? =some x,λi H=>∃xs,aL K H a xs/\xs.length<=i⟩
def k9(lo:Int)(n:Nat):It:=⟨λi _=>i<n,λi H x H'=>H'=H/\x= .int (lo+i),λi _=>n<=i⟩
theorem CJ{P:a8}{w:World}{K:a6}{tg:Expr}(a it:Addr):Turn P w K tg (ka K a) [it] it (λi h=>h.IsListIter it a i) where
 mem:=by simp
 obj:=λi h st b hb=>by
  have e:b=it:=by simpa using hb
  subst e;obtain⟨o,e,c,d⟩:=st;exact⟨o,e,λv z=>by rw[d]at z;cases z⟩
 keep:=λi h h' st k=>st.at λo e=>k it (by simp) o e
 item:=by intro X hP hw hK hc i af s O H E I hf st hg;subst hP hw hK;obtain⟨xs,x,hq,hx⟩:=hg;obtain⟨its,rv,p,hz⟩:=I.list hq;obtain⟨u,hu,ru⟩:=rv.get hx;obtain⟨f0,f1,f2,f3,f4,f5⟩:=hf it (by simp);refine wpAny_pyNext_list_item st p.isList (x:=u) (by simpa using hu) λh' dE sb=>?_;have I1:Inv X af O H {s with heap:=h'}:=I.turned (t':=s.toks) (λb o hb e=>(sb.2 b hb).trans e) f0 f1 f3 f4 f5;obtain⟨o,e,c,d⟩:=id dE;exact⟨u,Z,oy (s:={s with heap:=h'}) e c d aj ⟨x,H,I1,ru,⟨Z,λys hy=>by rw[I.uG hy hq];exact hx⟩,dE,λb hb=>(hf b hb).1⟩⟩
 done:=by intro X hP hw hK hc i af s O H E I hf st hg;subst hP hw hK;obtain⟨xs,hq,hx⟩:=hg;obtain⟨its,rv,p,hz⟩:=I.list hq;obtain⟨f0,f1,f2,f3,f4,f5⟩:=hf it (by simp);have hl:=rv.length;exact wpAny_pyNext_list_end (I.ok.hd hc) st p.isList (by simp;lia) λh' eb=>⟨Z,I.turned (t':=s.toks) (λb o hb e=>eb b o hb e) f0 f1 f3 f4 f5⟩
 self:=λ_ _ _ _ _ st h=>wpAny_pyIter_listiter st h
theorem CF{P:a8}{w:World}{K:a6}{tg:Expr}(a it:Addr):Turn P w K tg (jl K a) [it] it (λi h=>h.IsTupleIter it a i) where
 mem:=by simp
 obj:=λi h st b hb=>by
  have e:b=it:=by simpa using hb
  subst e;obtain⟨o,e,c,d⟩:=st;exact⟨o,e,λv z=>by rw[d]at z;cases z⟩
 keep:=λi h h' st k=>st.at λo e=>k it (by simp) o e
 item:=by intro X hP hw hK hc i af s O H E I hf st hg;subst hP hw hK;obtain⟨xs,x,hq,hx⟩:=hg;obtain⟨its,rv,p,hz⟩:=I.tuple hq;obtain⟨u,hu,ru⟩:=rv.get hx;obtain⟨f0,f1,f2,f3,f4,f5⟩:=hf it (by simp);refine wpAny_pyNext_tuple_item st (show s.heap.IsTuple a its.toArray from p) (x:=u) (by simpa using hu) λh' dE sb=>?_;have I1:Inv X af O H {s with heap:=h'}:=I.turned (t':=s.toks) (λb o hb e=>(sb.2 b hb).trans e) f0 f1 f3 f4 f5;obtain⟨o,e,c,d⟩:=id dE;exact⟨u,Z,oy (s:={s with heap:=h'}) e c d aj ⟨x,H,I1,ru,⟨Z,λys hy=>by rw[I.xJ hy hq];exact hx⟩,dE,λb hb=>(hf b hb).1⟩⟩
 done:=by intro X hP hw hK hc i af s O H E I hf st hg;subst hP hw hK;obtain⟨xs,hq,hx⟩:=hg;obtain⟨its,rv,p,hz⟩:=I.tuple hq;obtain⟨f0,f1,f2,f3,f4,f5⟩:=hf it (by simp);have hl:=rv.length;exact wpAny_pyNext_tuple_end (I.ok.hd hc) st (show s.heap.IsTuple a its.toArray from p) (by simp;lia) λh' eb=>⟨Z,I.turned (t':=s.toks) (λb o hb e=>eb b o hb e) f0 f1 f3 f4 f5⟩
 self:=λ_ _ _ _ _ st h=>wpAny_pyIter_tupleiter st h
theorem CH{P:a8}{w:World}{K:a6}{tg:Expr}(it:Addr)(lo:Int)(n:Nat):Turn P w K tg (k9 lo n) [it] it (λi h=>IsRangeIter h it (lo+(i:Nat)*1) ((n:Int)-(i:Nat)) 1) where
 mem:=by simp
 obj:=λi h st b hb=>by
  have e:b=it:=by simpa using hb
  subst e;exact⟨_,st,λv z=>by have z':Data.fields _=Data.cell v:=z;cases z'⟩
 keep:=λi h h' st k=>k it (by simp) _ st
 item:=by intro X hP hw hK hc i af s O H E I hf st hg;subst hP hw hK;obtain⟨f0,f1,f2,f3,f4,f5⟩:=hf it (by simp);have W:=Walks.range (prog:=X.prog) (w:=X.w) (I.ok.hd hc) it lo 1 n;refine W.item i s _ _ hg st λv h' tk hv dE kk=>?_;obtain⟨t,rfl⟩:=hv;have I1:Inv X af O H {s with heap:=h',toks:=tk}:=I.turned (λb o hb e=>kk b o (by simpa using hb) e) f0 f1 f3 f4 f5;refine⟨_,Z,oy (s:={s with heap:=h',toks:=tk}) (n:="range_iterator") dE rfl rfl aj ⟨.int (lo+i),H,I1,⟨t,?_⟩,⟨Z,Z⟩,dE,λb hb=>(hf b hb).1⟩⟩;rw[Int.mul_one]
 done:=by intro X hP hw hK hc i af s O H E I hf st hg;subst hP hw hK;obtain⟨f0,f1,f2,f3,f4,f5⟩:=hf it (by simp);exact wpAny_pyNext_range_end (I.ok.hd hc) st (by have:n<=i:=hg;lia) λh' eb=>⟨Z,I.turned (t':=s.toks) (λb o hb e=>eb b o hb e) f0 f1 f3 f4 f5⟩
 self:=λ_ _ _ _ _ st h=>wpAny_pyIter_rangeiter st h
section
variable {X:Cx} {tg:Expr}
inductive MH(K:a6)(R:It->Hp->Prop)(x:V)(H1:Hp):Prop |mk (a:_)(h0:x= .ref a)(h1:(∃xs,aF K H1 a xs))(h2:R (ka K a) H1)
def Aj(K:a6)(tl:TE):TI:=λO H R=>tl O H λx H1=>MH K R x H1
inductive MD(K:a6)(R:It->Hp->Prop)(x:V)(H1:Hp):Prop |mk (a:_)(h0:x= .ref a)(h1:(∃xs,aL K H1 a xs))(h2:R (jl K a) H1)
def Ah(K:a6)(tl:TE):TI:=λO H R=>tl O H λx H1=>MD K R x H1
theorem Es{l:Expr}{tl:TE}(hl:PE X l tl):PI X tg l (Aj X.K tl):=by
 intro af s O H R I h;refine az (hl af s O H _ I h) λv s1 ⟨x,H1,I1,r1,q1⟩=>?_;obtain⟨a,e,⟨xs,hq⟩,q⟩:=q1;subst e;cases r1;obtain⟨its,rv,p,hz⟩:=I1.list hq;refine oY p.isList ?_;refine⟨s1.heap.objs.size,[s1.heap.objs.size],_,_,H1,Z,I1.kept (t':=s1.toks) λb o e=>aX _ e,CJ a _,⟨_,bS _ Z,Z,Z⟩,λb hb=>?_,q⟩;have e:b=s1.heap.objs.size:=by simpa using hb
 subst e;exact I1.jh (aU _) (I1.aD.fresh (aU _))
theorem Eo{l:Expr}{tl:TE}(hl:PE X l tl):PI X tg l (Ah X.K tl):=by
 intro af s O H R I h;refine az (hl af s O H _ I h) λv s1 ⟨x,H1,I1,r1,q1⟩=>?_;obtain⟨a,e,⟨xs,hq⟩,q⟩:=q1;subst e;cases r1;obtain⟨its,rv,p,hz⟩:=I1.tuple hq;refine wpAny_pyIter_tuple (show s1.heap.IsTuple a its.toArray from p) ?_;refine⟨s1.heap.objs.size,[s1.heap.objs.size],_,_,H1,Z,I1.kept (t':=s1.toks) λb o e=>aX _ e,CF a _,⟨_,bS _ Z,Z,Z⟩,λb hb=>?_,q⟩;have e:b=s1.heap.objs.size:=by simpa using hb
 subst e;exact I1.jh (aU _) (I1.aD.fresh (aU _))
theorem DX{af:List (Addr×Obj)}{O:St}{H:Hp}{s:a7}{R:It->Hp->Prop}{E:Value->a7->Prop}{lo hi:Int}{t u v:Tok}{tk:Nat}(I:Inv X af O H s)(h1:-(2^62)<=lo)(h2:lo<2^62)(h3:-(2^62)<=hi)(h4:hi<2^62) (q:R (k9 lo (hi-lo).toNat) H):wpAny (model X.prog X.w) X.A (pyIter (.ref s.heap.objs.size)) (wI X af O tg R) E {s with heap:=s.heap.push {cls:=.type "range",data:=.fields #[.int lo t,.int hi u,.int 1 v]},toks:=tk}:=by
 refine wpAny_pyIter_range (IsRange.new ..) (small_one h1 h2 h3 h4) ?_;have I1:Inv X af O H {s with heap:=s.heap.push {cls:=.type "range",data:=.fields #[.int lo t,.int hi u,.int 1 v]},toks:=tk}:=I.kept λb o e=>aX _ e;refine⟨(s.heap.push {cls:=.type "range",data:=.fields #[.int lo t,.int hi u,.int 1 v]}).objs.size,[(s.heap.push {cls:=.type "range",data:=.fields #[.int lo t,.int hi u,.int 1 v]}).objs.size],_,_,H,Z,I1.kept (t':=tk) λb o e=>aX _ e,CH _ lo (hi-lo).toNat,?_,λb hb=>?_,q⟩
 ·have e1:lo+((0:Nat):Int)*1=lo:=by simp
  have e2:(((hi-lo).toNat:Nat):Int)-((0:Nat):Int)=Builtin.Range.rangeSize lo hi 1:=by rw[rangeSize_one];split<;>lia
  show IsRangeIter _ _ (lo+((0:Nat):Int)*1) ((((hi-lo).toNat:Nat):Int)-((0:Nat):Int)) 1;rw[e1,e2];exact bS _ rfl
 ·have e:b=(s.heap.push {cls:=.type "range",data:=.fields #[.int lo t,.int hi u,.int 1 v]}).objs.size:=by simpa using hb
  subst e;exact I1.jh (aU _) (I1.aD.fresh (aU _))
inductive MF(R:It->Hp->Prop)(vs:List V)(H1:Hp):Prop |mk (j:Int)(h0:vs=[.int j])(h1:-(2^62)<=j)(h2:j<2^62)(h3:R (k9 0 j.toNat) H1)
def Hv(ta:TA):TI:=λO H R=>ta O H λvs H1=>MF R vs H1
theorem kA{a:Expr}{ta:TA}{p pos:Pos}(hg:Gl X "range")(hm:X.mg "range"=none)(ha:PA X [a] ta)(hs:starEach [a] X.env=[(false,eval a X.env)]:=by rfl):PI X tg (.Call (.Name "range" p) [a] [] pos) (Hv ta):=by intro af s O H R I h;refine Call_ (kL I hg hm boot_range (rH (az (ha pos af s O H _ I h) λus s1 ⟨vs,H1,I1,r1,q1⟩=>?_) hs Z));obtain⟨j,e,q1,q2,q⟩:=q1;subst e;cases r1 with |cons r rr=>cases rr;obtain⟨t,rfl⟩:=r;exact call_range_1 (DX I1 aA aA q1 q2 (by simpa using q))
def xP(wi:TI)(g:TG)(tb:TS):TS:=λD O H=>wi O H λJ H1=>∃W:Nat->Nat->St->Hp->Prop,(∃m,W 0 m O H1)/\∀i m O H,W i m O H->(J.stop i H/\D.nx O H)\/(J.go i H/\∃N:St->Hp->Prop,(∀σ' H',N σ' H'->∃m',m'<m/\W (i+1) m' σ' H')/\∀x H',J.dU i H x H'->g x O H' λσ2 H2=>tb {D with nx:=N,ct:=N,bk:=D.nx} σ2 H2)
def jF(fp:List Addr)(h:Heap):List (Addr×Obj):=fp.filterMap λb=>(h.get? b).map λo=>(b,o)
theorem ij{fp:List Addr}{h:Heap}{b:Addr}{o:Obj}(hb:b∈fp)(e:h.get? b=some o):(b,o)∈jF fp h:=lG.mpr ⟨b,hb,by rw[e];rfl⟩
theorem FX{fp:List Addr}{h:Heap}{p:Addr×Obj}(hp:p∈jF fp h):p.1∈fp/\h.get? p.1=some p.2:=by obtain⟨b,hb,e⟩:=lG.mp hp;cases q:h.get? b with |none=>rw[q]at e;cases e |some o=>rw[q]at e;have e':(b,o)=p:=ck e;subst e';exact⟨hb,q⟩
theorem Inv.pinned{af:List (Addr×Obj)}{O:St}{H:Hp}{s:a7}{fp:List Addr}(I:Inv X af O H s)(hf:∀b∈fp,dg X af H b)(ho:∀b∈fp,∃o,s.heap.get? b=some o/\∀v,o.data≠ .cell v):Inv X (af++jF fp s.heap) O H s:=I.zr λp hp=>(mH.mp hp).elim (λz=>I.pin p (cZ _ z)) λz=>by obtain⟨hb,e⟩:=FX z;obtain⟨f0,f1,f2,_⟩:=hf p.1 hb;obtain⟨o,e',d⟩:=ho p.1 hb;rw[e]at e';cases e';exact⟨e,f0,f1,f2,d⟩
theorem Inv.iM{af pl:List (Addr×Obj)}{O:St}{H:Hp}{s:a7}(I:Inv X (af++pl) O H s):Inv X af O H s:=I.zr λp hp=>I.pin p (cZ _ (xu _ hp))
theorem jD{iter:Expr}{body:List Stmt}{wi:TI}{g:TG}{tb:TS}{pos:Pos}(hp:PassesOwn (model X.prog X.w) X.A X.env X.xe)(hc:X.calm=true)(hi:PI X tg iter wi)(hg:PG X tg g)(hb:cw X body tb) (hs:∀x,foldedSetIterable iter X.env x=pure x:=by intro _;rfl):PS X (.For tg iter body [] pos) (xP wi g tb):=by
 intro af s O H D I h;refine wpAny_For (az (hi af s O H _ I h) λv s1 h1=>az h1 λjM s2 h2=>?_) hs;obtain⟨it,fp,tn,J,H2,e,I2,T,gc,f2,W,⟨m0,w0⟩,turn⟩:=h2;subst e;have dv:∀{H':Hp},(∀b∈fp,H' b=none)->∀b∈fp,dg X af H' b:=λhn b hb=>⟨hn b hb,(f2 b hb).2⟩;refine codeAny_forLoop_any (λn s'=>∃i σ' H',Inv X af σ' H' s'/\tn i s'.heap/\(∀b∈fp,H' b=none)/\W i n σ' H') ?_ m0 ⟨0,O,H2,I2,gc,λb hb=>(f2 b hb).1,w0⟩;rintro n s3 ⟨i,σ3,H3,I3,mS,oA,w3⟩;rcases turn i n σ3 H3 w3 with⟨stop,qn⟩|⟨go,N,hN,step⟩
 ·refine hR hp (az (T.done X Z Z Z hc i af s3 σ3 H3 X.xe I3 (dv oA) mS stop) λr s4 ⟨hr,I4⟩=>?_)
  subst hr;exact lC ⟨σ3,H3,I4,qn⟩
 ·refine hR hp (az (T.item X Z Z Z hc i af s3 σ3 H3 X.xe I3 (dv oA) mS go) λr s4 ⟨u,hr,h4⟩=>?_)
  subst hr;refine hR hp (az h4 λ_ s5 ⟨x,H5,I5,r5,y5,eD,gn⟩=>?_);have wO:=I5.pinned (dv gn) (T.obj _ _ eD);refine hR hp (az (hg _ s5 σ3 H5 x u _ wO r5 (step x H5 y5)) λ_ s6 ⟨σ6,H6,I6,q6⟩=>?_);refine hR hp (az (hb _ s6 σ6 H6 _ I6 q6) λf s7 q7=>?_);have again:∀{σ7:St}{H7:Hp},Inv X (af++jF fp s5.heap) σ7 H7 s7->N σ7 H7->∃m,m<n/\∃i σ' H',Inv X af σ' H' s7/\tn i s7.heap/\(∀b∈fp,H' b=none)/\W i m σ' H':=λ{σ7 H7} I7 n7=>by obtain⟨m',hm,w7⟩:=hN σ7 H7 n7;refine⟨m',hm,i+1,σ7,H7,I7.iM,T.keep _ _ _ eD λb hb o e=>(I7.pin (b,o) (cZ _ (cZ _ (ij hb e)))).1,λb hb=>?_,w7⟩;obtain⟨o,e,d⟩:=T.obj _ _ eD b hb;exact(I7.pin (b,o) (cZ _ (cZ _ (ij hb e)))).2.1
  cases f with |next=>obtain⟨σ7,H7,I7,n7⟩:=q7;exact again I7 n7 |cont=>obtain⟨σ7,H7,I7,n7⟩:=q7;exact again I7 n7 |brk=>obtain⟨σ7,H7,I7,q7⟩:=q7;exact⟨σ7,H7,I7.iM,q7⟩ |ret v=>obtain⟨x7,σ7,H7,I7,r7,q7⟩:=q7;exact⟨x7,σ7,H7,I7.iM,r7,q7⟩
end
theorem JG{K:a6}{a:Addr}{xs:List V}{g:TG}{tb:TS}{D:Ends}{O:St}{H:Hp}(Pv:Nat->St->Hp->Prop)(h0:Pv 0 O H)(hl:∀i O H,i<=xs.length->Pv i O H->aF K H a xs) (hs:∀i x O H,xs[i]? =some x->Pv i O H->g x O H λσ2 H2=>tb {D with nx:=Pv (i+1),ct:=Pv (i+1),bk:=D.nx} σ2 H2)(hd:∀O H,Pv xs.length O H->D.nx O H): ∃W:Nat->Nat->St->Hp->Prop,(∃m,W 0 m O H)/\∀i m O H,W i m O H->((ka K a).stop i H/\D.nx O H)\/((ka K a).go i H/\∃N:St->Hp->Prop,(∀σ' H',N σ' H'->∃m',m'<m/\W (i+1) m' σ' H')/\∀x H',(ka K a).dU i H x H'->g x O H' λσ2 H2=>tb {D with nx:=N,ct:=N,bk:=D.nx} σ2 H2):=by
 refine⟨λi m O H=>m=xs.length-i/\i<=xs.length/\Pv i O H,⟨xs.length,by simp,dQ _,h0⟩,?_⟩;rintro i m O H ⟨rfl,hi,p⟩;have q:=hl i O H hi p;by_cases bq:i<xs.length
 ·refine .inr ⟨⟨xs,xs[i],q,by simp[bq]⟩,Pv (i+1),λσ' H' p'=>⟨xs.length-(i+1),aA,Z,bq,p'⟩,λx H' y=>?_⟩
  obtain⟨e,y⟩:=y;subst e;exact hs i x O _ (y xs q) p
 ·have e:i=xs.length:=by lia
  subst e;exact .inl ⟨⟨xs,q,aU _⟩,hd O H p⟩
theorem AJ{K:a6}{a:Addr}{xs:List V}{g:TG}{tb:TS}{D:Ends}{O:St}{H:Hp}(Pv:Nat->St->Hp->Prop)(h0:Pv 0 O H)(hl:∀i O H,i<=xs.length->Pv i O H->aL K H a xs) (hs:∀i x O H,xs[i]? =some x->Pv i O H->g x O H λσ2 H2=>tb {D with nx:=Pv (i+1),ct:=Pv (i+1),bk:=D.nx} σ2 H2)(hd:∀O H,Pv xs.length O H->D.nx O H): ∃W:Nat->Nat->St->Hp->Prop,(∃m,W 0 m O H)/\∀i m O H,W i m O H->((jl K a).stop i H/\D.nx O H)\/((jl K a).go i H/\∃N:St->Hp->Prop,(∀σ' H',N σ' H'->∃m',m'<m/\W (i+1) m' σ' H')/\∀x H',(jl K a).dU i H x H'->g x O H' λσ2 H2=>tb {D with nx:=N,ct:=N,bk:=D.nx} σ2 H2):=by
 refine⟨λi m O H=>m=xs.length-i/\i<=xs.length/\Pv i O H,⟨xs.length,by simp,dQ _,h0⟩,?_⟩;rintro i m O H ⟨rfl,hi,p⟩;have q:=hl i O H hi p;by_cases bq:i<xs.length
 ·refine .inr ⟨⟨xs,xs[i],q,by simp[bq]⟩,Pv (i+1),λσ' H' p'=>⟨xs.length-(i+1),aQ,Z,bq,p'⟩,λx H' y=>?_⟩
  obtain⟨e,y⟩:=y;subst e;exact hs i x O _ (y xs q) p
 ·have e:i=xs.length:=by omega
  subst e;exact .inl ⟨⟨xs,q,aU _⟩,hd O H p⟩
theorem vF{lo:Int}{n:Nat}{g:TG}{tb:TS}{D:Ends}{O:St}{H:Hp}(Pv:Nat->St->Hp->Prop)(h0:Pv 0 O H) (hs:∀i O H,i<n->Pv i O H->g (.int (lo+i)) O H λσ2 H2=>tb {D with nx:=Pv (i+1),ct:=Pv (i+1),bk:=D.nx} σ2 H2)(hd:∀O H,Pv n O H->D.nx O H): ∃W:Nat->Nat->St->Hp->Prop,(∃m,W 0 m O H)/\∀i m O H,W i m O H->((k9 lo n).stop i H/\D.nx O H)\/((k9 lo n).go i H/\∃N:St->Hp->Prop,(∀σ' H',N σ' H'->∃m',m'<m/\W (i+1) m' σ' H')/\∀x H',(k9 lo n).dU i H x H'->g x O H' λσ2 H2=>tb {D with nx:=N,ct:=N,bk:=D.nx} σ2 H2):=by
 refine⟨λi m O H=>m=n-i/\i<=n/\Pv i O H,⟨n,by simp,dQ _,h0⟩,?_⟩;rintro i m O H ⟨rfl,hi,p⟩;by_cases bq:i<n
 ·refine .inr ⟨bq,Pv (i+1),λσ' H' p'=>⟨n-(i+1),aA,Z,bq,p'⟩,λx H' y=>?_⟩
  obtain⟨e,y⟩:=y;subst e y;exact hs i O _ bq p
 ·have e:i=n:=by lia
  subst e;exact .inl ⟨aU _,hd O H p⟩
theorem Cm{c:TT}{tb:TS}{D:Ends}{O:St}{H:Hp}(Pv:St->Hp->Prop)(μ:St->Hp->Nat)(h0:Pv O H) (hs:∀O H,Pv O H->c O H λb H1=>if b=true then tb {D with nx:=λσ' H'=>Pv σ' H'/\μ σ' H'<μ O H,ct:=λσ' H'=>Pv σ' H'/\μ σ' H'<μ O H,bk:=D.nx} O H1 else D.nx O H1) (mono:∀O H Q Q',(∀b H1,Q b H1->Q' b H1)->c O H Q->c O H Q'):xN c tb D O H:=by refine⟨λm O H=>m=μ O H/\Pv O H,⟨_,Z,h0⟩,?_⟩;rintro m O H ⟨rfl,p⟩;refine mono O H _ _ (λb H1 q=>?_) (hs O H p);cases b with |true=>exact⟨_,λσ' H' ⟨p',l⟩=>⟨_,l,Z,p'⟩,q⟩ |false=>exact q
abbrev R2:=V->V->Hp->VK->Prop
def bF(X:Cx)(f:Value->Value->Sem Value)(r:R2):Prop:=∀(af:List (Addr×Obj))(s:a7)(O:St)(H:Hp)(x y:V)(v u:Value)(Q:VK),Inv X af O H s->RelV x v->RelV y u->r x y H Q->wpAny (model X.prog X.w) X.A (f v u) (EP X af O Q) X.xe s
def wC(X:Cx)(f:Value->Sem Value)(r:V->Hp->VK->Prop):Prop:=∀(af:List (Addr×Obj))(s:a7)(O:St)(H:Hp)(x:V)(v:Value)(Q:VK),Inv X af O H s->RelV x v->r x H Q->wpAny (model X.prog X.w) X.A (f v) (EP X af O Q) X.xe s
def cP(X:Cx)(f:Value)(r:List V->Hp->VK->Prop):Prop:=∀(af:List (Addr×Obj))(s:a7)(O:St)(H:Hp)(xs:List V)(us:List Value)(Q:VK),Inv X af O H s->Vals xs us->r xs H Q->wpAny (model X.prog X.w) X.A (call f us) (EP X af O Q) X.xe s
def mP(r:R2)(ta tb:TE):TE:=λO H Q=>ta O H λx H1=>tb O H1 λy H2=>r x y H2 Q
def CV(r:V->Hp->VK->Prop)(ta:TE):TE:=λO H Q=>ta O H λx H1=>r x H1 Q
inductive Mv(C:Int->Int->Prop)(g:Int->Int->V)(x:V)(y:V)(H:Hp)(Q:VK):Prop |mk (i:_)(j:_)(h0:x= .int i)(h1:y= .int j)(h2:C i j)(h3:Q (g i j) H)
def rI(C:Int->Int->Prop)(g:Int->Int->V):R2:=λx y H Q=>Mv C g x y H Q
inductive Mu(g:Int->Int->V)(x:V)(y:V)(H:Hp)(Q:VK):Prop |mk (i:_)(j:_)(h0:x= .int i)(h1:y= .int j)(h2:Q (g i j) H)
def fA(g:Int->Int->V):R2:=λx y H Q=>Mu g x y H Q
inductive Mh(g:Int->V)(x:V)(H:Hp)(Q:VK):Prop |mk (i:_)(h0:x= .int i)(h1:Q (g i) H)
def rU(g:Int->V):V->Hp->VK->Prop:=λx H Q=>Mh g x H Q
section
variable {X:Cx}{a b c:Expr}{ta tb tc:TE}{pos:Pos}
theorem wj(ha:PE X a ta)(hb:PE X b tb){af:List (Addr×Obj)}{s:a7}{O:St}{H:Hp}{R:V->V->Hp->Prop}(I:Inv X af O H s) (h:ta O H λx H1=>tb O H1 λy H2=>R x y H2){Q:Value->a7->Prop}{f:Value->Value->Sem Value} (hf:∀v u s2 x y H2,Inv X af O H2 s2->RelV x v->RelV y u->R x y H2->wpAny (model X.prog X.w) X.A (f v u) Q X.xe s2): wpAny (model X.prog X.w) X.A (eval a X.env) (λv s₁=>wpAny (model X.prog X.w) X.A (eval b X.env) (λu s₂=>wpAny (model X.prog X.w) X.A (f v u) Q X.xe s₂) X.xe s₁) X.xe s:=by refine az (ha af s O H _ I h) λv s1 ⟨x,H1,I1,r1,q1⟩=>?_;refine az (hb af s1 O H1 _ I1 q1) λu s2 ⟨y,H2,I2,r2,q2⟩=>?_;exact hf v u s2 x y H2 I2 r1 r2 q2
theorem ba{op:Operator}{r:R2}(ho:bF X (binaryOp op) r)(ha:PE X a ta)(hb:PE X b tb):PE X (.BinOp a op b pos) (mP r ta tb):=by intro af s O H Q I h;exact wpAny_BinOp (wj ha hb I h λv u s2 x y H2 I2 rx ry q=>ho af s2 O H2 x y v u Q I2 rx ry q)
theorem iV{op:UnaryOp}{r:V->Hp->VK->Prop}(ho:wC X (unaryOp op) r)(ha:PE X a ta):PE X (.UnaryOp op a pos) (CV r ta):=by intro af s O H Q I h;exact UnaryOp_ (az (ha af s O H _ I h) λv s1 ⟨x,H1,I1,r1,q1⟩=>ho af s1 O H1 x v Q I1 r1 q1)
theorem ql{f:Value->Value->Sem Value}{C:Int->Int->Prop}{g:Int->Int->Int} (rule:∀(i j:Int)(t u:Tok)(s:a7)(Q:Value->a7->Prop)(E:Value->a7->Prop),C i j->Q (.int (g i j) s.toks) {s with toks:=s.toks+1}->wpAny (model X.prog X.w) X.A (f (.int i t) (.int j u)) Q E s): bF X f (rI C λi j=>.int (g i j)):=by intro af s O H x y v u Q I rx ry h;obtain⟨i,j,rfl,rfl,hc,q⟩:=h;obtain⟨t,rfl⟩:=rx;obtain⟨t',rfl⟩:=ry;exact rule i j t t' s _ _ hc ⟨.int (g i j),H,I.tok _,⟨_,Z⟩,q⟩
theorem zF{f:Value->Value->Sem Value}{g:Int->Int->Int} (rule:∀(i j:Int)(t u:Tok)(s:a7)(Q:Value->a7->Prop)(E:Value->a7->Prop),Q (.int (g i j) s.toks) {s with toks:=s.toks+1}->wpAny (model X.prog X.w) X.A (f (.int i t) (.int j u)) Q E s): bF X f (fA λi j=>.int (g i j)):=by intro af s O H x y v u Q I rx ry h;obtain⟨i,j,rfl,rfl,q⟩:=h;obtain⟨t,rfl⟩:=rx;obtain⟨t',rfl⟩:=ry;exact rule i j t t' s _ _ ⟨.int (g i j),H,I.tok _,⟨_,Z⟩,q⟩
theorem lT{f:Value->Value->Sem Value}{g:Int->Int->Bool} (rule:∀(i j:Int)(t u:Tok)(s:a7)(Q:Value->a7->Prop)(E:Value->a7->Prop),Q (.bool (g i j)) s->wpAny (model X.prog X.w) X.A (f (.int i t) (.int j u)) Q E s): bF X f (fA λi j=>.bl (g i j)):=by intro af s O H x y v u Q I rx ry h;obtain⟨i,j,rfl,rfl,q⟩:=h;obtain⟨t,rfl⟩:=rx;obtain⟨t',rfl⟩:=ry;exact rule i j t t' s _ _ ⟨.bl (g i j),H,I,Z,q⟩
def MO(i j:Int):Prop:=0<=j/\j<=1000000/\i.natAbs<2^64
theorem cQ:bF X (binaryOp .Add) (fA λi j=>.int (i+j)):=zF λ_ _ _ _ _ _ _ q=>add_int q
theorem qj:bF X (binaryOp .Sub) (fA λi j=>.int (i-j)):=zF λ_ _ _ _ _ _ _ q=>sub_int q
theorem lS:bF X (binaryOp .Mod) (rI (λ_ j=>0<j) λi j=>.int (i%j)):=ql λi j _ _ _ _ _ hc q=>by have h1:(0:Int)<j:=hc;exact mod_int' aA (by rw[Int.fmod_eq_emod_of_nonneg i aA];exact q)
theorem ui:bF X (binaryOp .Pow) (rI MO λi j=>.int (i^j.toNat)):=ql λ_ _ _ _ _ _ _ hc q=>pow_int_small hc.1 hc.2.1 hc.2.2 q
theorem Cu{f:Value->Sem Value}{g:Int->Int} (rule:∀(i:Int)(t:Tok)(s:a7)(Q:Value->a7->Prop)(E:Value->a7->Prop),Q (.int (g i) s.toks) {s with toks:=s.toks+1}->wpAny (model X.prog X.w) X.A (f (.int i t)) Q E s): wC X f (rU λi=>.int (g i)):=by intro af s O H x v Q I rx h;obtain⟨i,rfl,q⟩:=h;obtain⟨t,rfl⟩:=rx;exact rule i t s _ _ ⟨.int (g i),H,I.tok _,⟨_,Z⟩,q⟩
theorem iO:wC X (unaryOp .USub) (rU λi=>.int (-i)):=Cu λ_ _ _ _ _ q=>neg_int q
theorem JK{af:List (Addr×Obj)}{O:St}{H:Hp}{s:a7}{Q:VK}{k k':Bool}(I:Inv X af O H s)(q:Q (.bl k) H)(e:k=k'):EP X af O Q (.bool k') s:=by subst e;exact⟨.bl k,H,I,Z,q⟩
theorem qk:bF X (compareOp .Lt) (fA λi j=>.bl (decide (i<j))):=lT λ_ _ _ _ _ _ _ q=>lt_int q
theorem kC:bF X (compareOp .LtE) (fA λi j=>.bl (decide (i<=j))):=lT λ_ _ _ _ _ _ _ q=>le_int q
theorem uj:bF X (compareOp .Gt) (fA λi j=>.bl (decide (j<i))):=lT λ_ _ _ _ _ _ _ q=>gt_int q
theorem EZ:bF X (compareOp .GtE) (fA λi j=>.bl (decide (j<=i))):=lT λ_ _ _ _ _ _ _ q=>ge_int q
theorem EX:bF X (compareOp .In) (λx y H Q=>∃i j,x= .str i/\y= .str j/\Q (.bl (!(Builtin.Str.occurrences j i 0 j.length 1).isEmpty)) H):=by intro af s O H x y v u Q I rx ry h;obtain⟨i,j,rfl,rfl,q⟩:=h;obtain⟨t,rfl⟩:=rx;obtain⟨t',rfl⟩:=ry;exact in_str (JK I q Z)
theorem bF.or{f:Value->Value->Sem Value}{r r':R2}(h:bF X f r)(h':bF X f r'):bF X f (λx y H Q=>r x y H Q\/r' x y H Q):=by
 intro af s O H x y v u Q I rx ry q;rcases q with q|q
 ·exact h af s O H x y v u Q I rx ry q
 ·exact h' af s O H x y v u Q I rx ry q
theorem bG(b:Expr){op:CmpOp}(h:op≠ .In:=by decide)(h2:op≠ .NotIn:=by decide):behindInMarks op b=false:=by
 have e1:(op==CmpOp.In)=false:=by cases op<;>first|rfl|exact absurd rfl h
 have e2:(op==CmpOp.NotIn)=false:=by cases op<;>first|rfl|exact absurd rfl h2
 cases b<;>simp[behindInMarks,e1,e2]
theorem gG{op:CmpOp}{r:R2}(ho:bF X (compareOp op) r)(ha:PE X a ta)(hb:PE X b tb)(hm:behindInMarks op b=false):PE X (.Compare a [op] [b] pos) (mP r ta tb):=by intro af s O H Q I h;exact wpAny_Compare1 (wj ha hb I h λv u s2 x y H2 I2 rx ry q=>ho af s2 O H2 x y v u Q I2 rx ry q) hm
inductive LB(Q:Bool->Hp->Prop)(x:V)(H':Hp):Prop |mk (k:_)(h0:x= .bl k)(h1:Q k H')
def xO(t:TE):TT:=λO H Q=>t O H λx H'=>LB Q x H'
theorem cu{op:CmpOp}{r:R2}(ho:bF X (compareOp op) r)(ha:PE X a ta)(hb:PE X b tb)(hm:behindInMarks op b=false):PT X (.Compare a [op] [b] pos) (xO (mP r ta tb)):=by intro af s O H Q I h;refine wpAny_isTrue_Compare1 (az (ha af s O H _ I h) λv s1 ⟨x,H1,I1,r1,q1⟩=>az (hb af s1 O H1 _ I1 q1) λu s2 ⟨y,H2,I2,r2,q2⟩=>az (ho af s2 O H2 x y v u _ I2 r1 r2 q2) λc s3 ⟨z,H3,I3,r3,k,e,q3⟩=>?_) hm;subst e;cases r3;exact ju ⟨H3,I3,q3⟩
inductive LJ(r':R2)(tc:TE)(O:St)(Q:VK)(y:V)(z:V)(H3:Hp):Prop |mk (k:_)(h0:z= .bl k)(h1:(if k=true then tc O H3 λw' H4=>r' y w' H4 Q else Q (.bl false) H3))
def xS(r r':R2)(ta tb tc:TE):TE:=λO H Q=>ta O H λx H1=>tb O H1 λy H2=>r x y H2 λz H3=>LJ r' tc O Q y z H3
theorem zy{op kD:CmpOp}{r r':R2}(ho:bF X (compareOp op) r)(gO:bF X (compareOp kD) r')(ha:PE X a ta)(hb:PE X b tb)(hc:PE X c tc) (hm:lastMarks [op,kD] [b,c]=false:=by with_unfolding_all rfl):PE X (.Compare a [op,kD] [b,c] pos) (xS r r' ta tb tc):=by intro af s O H Q I h;refine Compare_chain (az (ha af s O H _ I h) λv s1 ⟨x,H1,I1,r1,q1⟩=>chain_link (az (hb af s1 O H1 _ I1 q1) λu s2 ⟨y,H2,I2,r2,q2⟩=>az (ho af s2 O H2 x y v u _ I2 r1 r2 q2) λd s3 ⟨z,H3,I3,r3,k,e,q3⟩=>?_)) hm;subst e;cases r3;refine ju ?_;cases k with |false=>exact ite_ff ⟨.bl false,H3,I3,Z,q3⟩ |true=>exact ite_tt (chain_last (az (hc af s3 O H3 _ I3 q3) λw' s4 ⟨z',H4,I4,r4,q4⟩=>gO af s4 O H4 y z' u w' Q I4 r2 r4 q4))
theorem Ea{op kD:CmpOp}{r r':R2}(ho:bF X (compareOp op) r)(gO:bF X (compareOp kD) r')(ha:PE X a ta)(hb:PE X b tb)(hc:PE X c tc) (hm:lastMarks [op,kD] [b,c]=false:=by with_unfolding_all rfl):PT X (.Compare a [op,kD] [b,c] pos) (xO (xS r r' ta tb tc)):=by intro af s O H Q I h;refine isTrue_chain (az (ha af s O H _ I h) λv s1 ⟨x,H1,I1,r1,q1⟩=>test_link (az (hb af s1 O H1 _ I1 q1) λu s2 ⟨y,H2,I2,r2,q2⟩=>az (ho af s2 O H2 x y v u _ I2 r1 r2 q2) λd s3 ⟨z,H3,I3,r3,k,e,q3⟩=>?_)) hm;subst e;cases r3;refine ju ?_;cases k with |false=>obtain⟨k',e',q'⟩:=q3;cases e';exact ite_ff ⟨H3,I3,q'⟩ |true=>refine ite_tt (test_last (az (hc af s3 O H3 _ I3 q3) λw' s4 ⟨z',H4,I4,r4,q4⟩=>az (gO af s4 O H4 y z' u w' _ I4 r2 r4 q4) λd' s5 ⟨z2,H5,I5,r5,k2,e2,q5⟩=>?_));subst e2;cases r5;exact ju ⟨H5,I5,q5⟩
theorem lZ:(sizeLine:Nat)<2^63:=by rw[sizeLine_eq];decide
theorem vals1{x:V}{us:List Value}(r:Vals [x] us):∃u,us=[u]/\RelV x u:=by cases r with |cons r1 r2=>cases r2;exact⟨_,rfl,r1⟩
theorem vals2{x y:V}{us:List Value}(r:Vals [x,y] us):∃u w',us=[u,w']/\RelV x u/\RelV y w':=by cases r with |cons r1 r2=>cases r2 with |cons r3 r4=>cases r4;exact⟨_,_,rfl,r1,r3⟩
theorem Bh:cP X (.builtin "abs") (λxs H Q=>∃i,xs=[.int i]/\Q (.int (if i<0 then-i else i)) H):=by intro af s O H xs us Q I r h;obtain⟨i,rfl,q⟩:=h;obtain⟨u,rfl,t,rfl⟩:=vals1 r;exact call_abs_int λu tk=>⟨.int (if i<0 then-i else i),H,I.tok _,⟨_,Z⟩,q⟩
theorem Bg(hc:X.calm=true):cP X (.builtin "max") (λxs H Q=>∃i j,xs=[.int i,.int j]/\Q (.int (if j>i then j else i)) H):=by
 intro af s O H xs us Q I r h;obtain⟨i,j,rfl,q⟩:=h;obtain⟨u,w',rfl,⟨t,rfl⟩,⟨t',rfl⟩⟩:=vals2 r;refine max_two_ints (I.ok.hd hc) λh' tk k=>⟨_,H,I.kept k,?_,q⟩;by_cases hj:j>i
 ·rw[aZ hj,aZ hj];exact⟨_,Z⟩
 ·rw[aY hj,aY hj];exact⟨_,Z⟩
theorem w9(hc:X.calm=true):cP X (.builtin "min") (λxs H Q=>∃i j,xs=[.int i,.int j]/\Q (.int (if j<i then j else i)) H):=by
 intro af s O H xs us Q I r h;obtain⟨i,j,rfl,q⟩:=h;obtain⟨u,w',rfl,⟨t,rfl⟩,⟨t',rfl⟩⟩:=vals2 r;refine min_two_ints (I.ok.hd hc) λh' tk k=>⟨_,H,I.kept k,?_,q⟩;by_cases hj:j<i
 ·rw[aZ hj,aZ hj];exact⟨_,Z⟩
 ·rw[aY hj,aY hj];exact⟨_,Z⟩
theorem KG:cP X (.type "int") (λxs H Q=>(∃i,xs=[.int i]/\Q (.int i) H)\/∃k,xs=[.bl k]/\Q (.int (if k then 1 else 0)) H):=by
 intro af s O H xs us Q I r h;rcases h with⟨i,rfl,q⟩|⟨k,rfl,q⟩
 ·obtain⟨u,rfl,t,rfl⟩:=vals1 r
  exact call_int_int ⟨.int i,H,I,⟨_,Z⟩,q⟩
 ·obtain⟨u,rfl,r1⟩:=vals1 r
  cases r1;exact call_int_bool ⟨.int (if k then 1 else 0),H,I.tok _,⟨_,Z⟩,q⟩
end
structure lu(h:Heap)(x dx C:Addr)(mA:aM):Prop where
 obj:h.get? x=some (PySem.W.instObj C dx)
 ns:h.Ns1 dx mA
 ne:dx≠x
theorem A0{h:Heap}{dx:Addr}{mA:aM}(n:h.Ns1 dx mA):∃od,h.get? dx=some od/\∀name,PySem.W.lookIn name od=some (mA name):=by
 obtain⟨o,es,ep,ho,hd,hk,_,hm⟩:=n;refine⟨o,ho,λname=>?_⟩;have e:=hm name;unfold nsFind findBy at e;rw[<-Array.find?_toList]at e;unfold PySem.W.lookIn;rw[hd];dsimp only;split
 ·rename_i y q
  rw[q]at e;exact congrArg some e
 ·rename_i q
  rw[q]at e;have a:es.toList.any (·.refKey)=false:=by rw[List.any_eq_false];intro y hy;obtain⟨z,t,HY⟩:=hk y (Array.mem_toList_iff.mp hy);simp[DictEntry.refKey,HY]
  have a':¬es.toList.any (·.refKey)=true:=by rw[a];exact dS
  rw[aY a'];exact congrArg some e
theorem lu.look{h:Heap}{x dx C:Addr}{mA:aM}(I:lu h x dx C mA):∃od,PySem.W.InstAt h x (PySem.W.instObj C dx) C (some od)/\∀name,PySem.W.lookIn name od=some (mA name):=let⟨od,ho,hl⟩:=A0 I.ns
 ⟨od,⟨I.obj,Z,Z,ho⟩,hl⟩
section
variable {prog:a8}{w:World}{A:aa}{E:Value->a7->Prop}{s:a7}{K:a6}{x dx C f:Addr}{mA:aM}{name:Str}{v:Value}
theorem get_map{expr:Bool}{Q:Value->a7->Prop}(X:K.In s.heap)(I:lu s.heap x dx C mA)(hg:PySem.W.plainGet K C name=true)(hh:PySem.W.hasDictIn K C=true) (ha:PySem.W.findIn K (.ref C) name=some none)(hv:mA name=some v)(HA:PySem.W.handedIn v=true)(h:Q v {s with toks:=s.toks+1}): wpAny (model prog w) A (getAttr (.ref x) name expr) Q E s:=by obtain⟨od,J,hl⟩:=I.look;exact PySem.W.get_value X J (BP hg).1 (PySem.W.findObj_own hh ha Z (by rw[hl,hv])) HA h
theorem Jp{pl:Sem Bool}{Q:Value×List Value->a7->Prop}(X:K.In s.heap)(I:lu s.heap x dx C mA)(hg:PySem.W.plainGet K C name=true) (hf:PySem.W.findIn K (.ref C) name=some (some (.ref f)))(ht:PySem.W.isFn K (.ref f)=true)(hv:mA name=none)(h:Q (.ref f,[.ref x]) s): wpAny (model prog w) A (getMethod (.ref x) name pl) Q E s:=by obtain⟨od,J,hl⟩:=I.look;exact PySem.W.method_fn X J (BP hg).1 (BP hg).2 hf (cx.mp ht) (by show(PySem.W.lookIn name od).map (·.isSome)=some false;rw[hl,hv];rfl) h
theorem DC{ns:List Str}{Q:Unit->a7->Prop}(X:K.In s.heap)(I:lu s.heap x dx C mA) (hs:PySem.W.findIn K (.ref C) "__setattr__"=some (some (.builtin "object.__setattr__")))(hp:PySem.W.plainOver K C=true)(ht:PySem.W.takerIn K C name=some none)(hh:PySem.W.hasDictIn K C=true) (hw:PySem.Within mA ns)(m6:ns.length<=sizeLine) (h:∀h',lu h' x dx C (λy=>if y=name then some v else mA y)->Heap.SameBut dx s.heap h'->Q () {s with heap:=h',toks:=s.toks+2}): wpAny (model prog w) A (setAttr (.ref x) name v) Q E s:=by obtain⟨od,J,hl⟩:=I.look;refine PySem.W.set_plain X J hs (PySem.W.osa_open (s:={s with toks:=s.toks+1}) (r:=none) X J hp ht λb=>?_);obtain⟨cd,hc,iu⟩:=BU hh;have hx:s.heap.get? x=some ⟨.ref C,some dx,.plain,#[]⟩:=I.obj;refine ai (aG (ai (ai (wpAny_loadPart hx (ai (mE (s:={s with toks:=s.toks+1}) (BR X hc) ?_))))));rw[iu];refine aG (a:=some dx) (ai (aG (ai ?_)));refine wpAny_nsSet1 (s:={s with toks:=s.toks+1}) I.ns λh' jP gL=>?_;obtain⟨oD,Kb,Kd,HM,ID,IG⟩:=jP.count (PySem.Within.cons name v hw);refine ai (wpAny_lookBehind HM (by rw[ID];exact pastItsLine_dict (fu IG (by rw[iJ];lia))) ?_);exact aG (h _ ⟨(gL.2 _ (ft I.ne)).trans I.obj,jP,I.ne⟩ gL)
theorem GB{R:Result->a7->Prop}{vs:List Value}{kw:List (Str×Value)}(X:K.In s.heap)(hm:PySem.W.makesIn K C=true) (hi:PySem.W.findIn K (.ref C) "__init__"=some (some (.ref f)))(hf:PySem.W.typeIn K (.ref f)=some (.type "function")) (h:codeAny (model prog w) (A.under (.builtin "type.__call__" ⟨.ref C::vs,kw⟩)) (.call (.ref f) ⟨.ref (s.heap.objs.size+1)::vs,kw⟩) (PySem.W.InitBack (s.heap.objs.size+1) R) {s with heap:=(s.heap.push PySem.W.emptyDict).push (PySem.W.instObj C s.heap.objs.size)}): codeAny (model prog w) A (.call (.ref C) ⟨vs,kw⟩) R s:=by obtain⟨hh,g,d,t,os⟩:=s;exact PySem.W.make_core (PySem.W.makes_of X hm) (PySem.W.looks_findIn X hi) (λself=>PySem.W.bind_fn X self hf) (.inl Z) h
end
def eF(f:Str)(v:V):List (Str×V)->List (Str×V) |[]=>[(f,v)] |(g,x)::r=>if g=f then(g,v)::r else(g,x)::eF f v r
theorem zZ(f g:Str)(v:V):∀fs:List (Str×V),(eF f v fs).lookup g=if g=f then some v else fs.lookup g
 |[]=>by
  show List.lookup g [(f,v)]=_;by_cases h:g=f
  ·have hb:(g==f)=true:=cx.mpr h
   simp only[List.lookup,hb,aZ h]
  ·have hb:(g==f)=false:=x8.mpr h
   simp only[List.lookup,hb,aY h] |(k,x)::r=>by
  have ih:=zZ f g v r;rw[show eF f v ((k,x)::r)=(if k=f then(k,v)::r else(k,x)::eF f v r)from rfl];by_cases hk:k=f
  ·rw[aZ hk]
   by_cases h:g=k
   ·have hb:(g==k)=true:=cx.mpr h
    simp only[List.lookup,hb,aZ (h.trans hk)]
   ·have hb:(g==k)=false:=x8.mpr h
    simp only[List.lookup,hb,aY (λe:g=f=>h (e.trans hk.symm))]
  ·rw[aY hk]
   by_cases h:g=k
   ·have hb:(g==k)=true:=cx.mpr h
    simp only[List.lookup,hb,aY (λe:g=f=>hk (h.symm.trans e))]
   ·have hb:(g==k)=false:=x8.mpr h
    simp only[List.lookup,hb];exact ih
theorem uK(f:Str)(v:V):∀fs:List (Str×V),f∈(eF f v fs).map (·.1)/\∀g,g∈fs.map (·.1)->g∈(eF f v fs).map (·.1)
 |[]=>⟨by simp[eF],λg h=>by simp at h⟩ |(k,x)::r=>by
  obtain⟨i1,i2⟩:=uK f v r;rw[show eF f v ((k,x)::r)=(if k=f then(k,v)::r else(k,x)::eF f v r)from rfl];by_cases hk:k=f
  ·rw[aZ hk]
   subst hk;exact⟨by simp,λg h=>by simpa using h⟩
  ·rw[aY hk]
   refine⟨?_,λg h=>?_⟩
   ·rw[rN]
    exact mG _ i1
   ·rw[rN]at h⊢
    rcases bR.mp h with e|e
    ·exact bR.mpr (.inl e)
    ·exact mG _ (i2 g e)
theorem A1(f:Str)(v:V):∀fs:List (Str×V),(eF f v fs).length<=fs.length+1
 |[]=>by simp[eF] |(k,x)::r=>by
  have ih:=A1 f v r;rw[show eF f v ((k,x)::r)=(if k=f then(k,v)::r else(k,x)::eF f v r)from rfl];by_cases hk:k=f
  ·rw[aZ hk,iJ,iJ];lia
  ·rw[aY hk,iJ,iJ];lia
theorem iG.some_of{v:V}{o:Option Value}(r:iG (some v) o):∃u,o=some u/\RelV v u:=by cases o with |none=>exact(show False from r).elim |some u=>exact⟨u,Z,r⟩
theorem iG.none_of{o:Option Value}(r:iG none o):o=none:=by cases o with |none=>rfl |some u=>exact(show False from r).elim
theorem IQ{v:V}{u:Value}(r:RelV v u):PySem.W.handedIn u=true:=by cases v with |bj=>cases(show u=Value.none from r);rfl |bl b=>cases(show u=Value.bool b from r);rfl |int i=>obtain⟨t,e⟩:=(show∃t,u=Value.int i t from r);cases e;rfl |str x=>obtain⟨t,e⟩:=(show∃t,u=Value.str x t from r);cases e;rfl |qP b=>obtain⟨t,e⟩:=(show∃t,u=Value.bytes b t from r);cases e;rfl |qF b=>obtain⟨t,e⟩:=(show∃t,u=Value.float b t from r);cases e;rfl |ref a=>cases(show u=Value.ref a from r);rfl |ty n=>cases(show u=Value.type n from r);rfl
section
variable {P:a8}{w:World}{H H':Hp}{h h':Heap}{a C dx:Addr}{fs md:List (Str×V)}
theorem uO(aD:bL P w H h)(e:H a=some (.ins C dx fs)):∃mA,lu h a dx C mA/\(∀f,iG (fs.lookup f) (mA f))/\PySem.Within mA (fs.map (·.1))/\fs.length<=1000/\H dx=some (.own a):=by obtain⟨d,z,ne,ob,mA,n,r,q⟩:=(show cN P w H h a (.ins C dx fs)from aD a _ e);exact⟨mA,⟨ob,n,ne⟩,r,q,z,d⟩
end
structure fX(K:a6)(C:Addr):Prop where
 pg:PySem.W.plainGet K C Str.empty=true
 hd:PySem.W.hasDictIn K C=true
 po:PySem.W.plainOver K C=true
 sa:PySem.W.findIn K (.ref C) "__setattr__"=some (some (.builtin "object.__setattr__"))
theorem fX.get{K:a6}{C:Addr}(c:fX K C)(f:Str):PySem.W.plainGet K C f=true:=c.pg
def eS(K:a6)(C:Addr)(f:Str):Prop:=PySem.W.findIn K (.ref C) f=some none
theorem eS.CT{K:a6}{C:Addr}{f:Str}(n:eS K C f):PySem.W.takerIn K C f=some none:=by unfold PySem.W.takerIn;rw[show PySem.W.findIn K (.ref C) f=some none from n];rfl
structure Meth(K:a6)(C:Addr)(m:Str)(f:Addr):Prop where
 at_:PySem.W.findIn K (.ref C) m=some (some (.ref f))
 fn:PySem.W.isFn K (.ref f)=true
 kp:PySem.W.keepIn K (.ref f)=true
section
variable {X:Cx}{af:List (Addr×Obj)}{O:St}{H:Hp}{s:a7}{a C dx:Addr}{fs:List (Str×V)}{f:Str}{v:V}{A:aa}{E:Value->a7->Prop}
theorem Jo{b:Bool}{Q:Value->a7->Prop}(I:Inv X af O H s)(e:H a=some (.ins C dx fs))(c:fX X.K C)(n:eS X.K C f)(l:fs.lookup f=some v) (h:∀u s',Inv X af O H s'->RelV v u->Q u s'):wpAny (model X.prog X.w) A (getAttr (.ref a) f b) Q E s:=by obtain⟨mA,NR,r,_,_,_⟩:=uO I.aD e;obtain⟨u,hu,ru⟩:=iG.some_of (v:=v) (o:=mA f) (by rw[<-l];exact r f);exact get_map I.bU NR (c.get f) c.hd n hu (IQ ru) (h u _ (I.tok _) ru)
theorem vE{m:Str}{g:Addr}{pl:Sem Bool}{Q:Value×List Value->a7->Prop}(I:Inv X af O H s)(e:H a=some (.ins C dx fs))(c:fX X.K C)(k:Meth X.K C m g)(l:fs.lookup m=none) (h:Q (.ref g,[.ref a]) s):wpAny (model X.prog X.w) A (getMethod (.ref a) m pl) Q E s:=by obtain⟨mA,NR,r,_,_,_⟩:=uO I.aD e;have hn:mA m=none:=iG.none_of (by rw[<-l];exact r m);exact Jp I.bU NR (c.get m) k.at_ k.fn hn h
theorem DB{y:V}{u:Value}{Q:Unit->a7->Prop}(I:Inv X af O H s)(e:H a=some (.ins C dx fs))(c:fX X.K C)(n:eS X.K C f)(hl:fs.length<1000)(ry:RelV y u) (h:∀s',Inv X af O (upd H a (.ins C dx (eF f y fs))) s'->Q () s'):wpAny (model X.prog X.w) A (setAttr (.ref a) f u) Q E s:=by
 obtain⟨mA,NR,r,wi,_,ho⟩:=uO I.aD e;have hz:(fs.map (·.1)).length<=sizeLine:=by rw[br,sizeLine_eq];lia
 refine DC I.bU NR c.sa c.po n.CT c.hd wi hz λh' O' sb=>h _ ?_;have hd:∃o,h'.get? dx=some o:=let⟨o,_,_,e',_⟩:=O'.ns;⟨o,e'⟩;refine I.write (x:=a) (e:=dx) (by rw[e];exact True.intro) (.inr ho) (λb q hb z=>(sb.2 b hb).trans z) hd ?_;refine⟨by rw[aI NR.ne];exact ho,?_,NR.ne,O'.obj,_,O'.ns,λg=>?_,λg hg=>?_⟩
 ·have:=A1 f y fs;lia
 ·show iG ((eF f y fs).lookup g) (if g=f then some u else mA g)
  rw[zZ];by_cases q:g=f
  ·rw[aZ q,aZ q];exact ry
  ·rw[aY q,aY q];exact r g
 ·by_cases q:g=f
  ·rw[q];exact(uK f y fs).1
  ·refine(uK f y fs).2 g (wi g λz=>hg ?_)
   show(if g=f then some u else mA g)=none;rw[aY q];exact z
theorem Inv.made(I:Inv X af O H s):Inv X af O (upd (upd H s.heap.objs.size (.own (s.heap.objs.size+1))) (s.heap.objs.size+1) (.ins C s.heap.objs.size [])) {s with heap:=(s.heap.push PySem.W.emptyDict).push (PySem.W.instObj C s.heap.objs.size)}:=by
 have e1:(s.heap.push PySem.W.emptyDict).get? s.heap.objs.size=some PySem.W.emptyDict:=bS s.heap rfl;have e2:((s.heap.push PySem.W.emptyDict).push (PySem.W.instObj C s.heap.objs.size)).get? (s.heap.objs.size+1)=some (PySem.W.instObj C s.heap.objs.size):=by have:=bS (s.heap.push PySem.W.emptyDict) (o:=PySem.W.instObj C s.heap.objs.size) rfl;rwa [iK]at this
 have e3:(s.heap.push PySem.W.emptyDict).Ns s.heap.objs.size (λ_=>none):=⟨PySem.W.emptyDict,#[],_,e1,Z,(λe he=>absurd he (by simp)),λ_=>rfl⟩;have I1:=I.laid (a:=s.heap.objs.size) (o:=.own (s.heap.objs.size+1)) (h':=s.heap.push PySem.W.emptyDict) (t':=s.toks) (λb u q=>aX _ q) (aU _) ⟨_,e1⟩;refine I1.laid (a:=s.heap.objs.size+1) (o:=.ins C s.heap.objs.size []) (t':=s.toks) (λb u q=>aX _ q) (Nat.le_of_eq (iK _ _)) ?_;have ne:s.heap.objs.size≠s.heap.objs.size+1:=bD (xn _);refine⟨by rw[aI ne,bw],dQ _,ne,e2,λ_=>none,(Heap.Ns1.of_empty e3).at λo q=>aX _ q,λ_=>True.intro,λy hy=>absurd rfl hy⟩
theorem Bv{prog:a8}{w:World}{env:Env}{e:Expr}{f:Str}{pos:Pos}{s:a7}{Q:Value->a7->Prop}(hb:attributeBase e f env (eval e env)=eval e env) (h:wpAny (model prog w) A (eval e env) (λo s₁=>wpAny (model prog w) A (getAttr o f true) Q E s₁) E s):wpAny (model prog w) A (eval (.Attribute e f pos) env) Q E s:=Attribute_any_ h (by rw[arm_eval_Attribute,hb])
end
section
variable {X:Cx}{o e value:Expr}{f:Str}{pos pos' jy:Pos}{ta tv:TE}
end
section
variable {X:Cx}{af:List (Addr×Obj)}{O:St}{H:Hp}{s:a7}{A:aa}{E:Value->a7->Prop}{Q:Value->a7->Prop}{c:Value}{b:Bool}
end
structure bo(k:Nat)(A:aa):Prop where
 hd:A.handled=none
 dp:A.depth+3*k+5<recursionLimit
 un:A.units+16*k+200<cLine
theorem bo.mono{j k:Nat}{A:aa}(r:bo k A)(h:j<=k):bo j A:=⟨r.hd,by have:=r.dp;lia,by have:=r.un;lia⟩
theorem bo.deeper{k:Nat}{A:aa}(r:bo (k+1) A)(env:Env):bo k (A.deeper env):=⟨r.hd,by have:=r.dp;show A.depth+1+3*k+5<_;lia,by have:=r.un;show A.units+3+16*k+200<_;lia⟩
theorem GC{A:aa}{C:Addr}{us:List Value}{kw:List (Str×Value)}:(A.under (.builtin "type.__call__" ⟨.ref C::us,kw⟩)).depth=A.depth+1:=by first|rfl|simp[Around.under,Code.weight,Code.isCreation,Code.isGuard,Code.isCaller,Code.frames,Code.isFrame,guardIds]
theorem GA{A:aa}{C:Addr}{us:List Value}{kw:List (Str×Value)}:(A.under (.builtin "type.__call__" ⟨.ref C::us,kw⟩)).units=A.units+1:=by first|rfl|simp[Around.under,Code.cUnits,Code.frames,Code.isFrame]
theorem bo.make{k:Nat}{A:aa}(r:bo (k+1) A)(C:Addr)(us:List Value)(kw:List (Str×Value)):bo k (A.under (.builtin "type.__call__" ⟨.ref C::us,kw⟩)):=⟨r.hd,by have:=r.dp;rw[GC];omega,by have:=r.un;rw[GA];omega⟩
theorem bo.depth{k:Nat}{A:aa}(r:bo k A):A.depth<recursionLimit:=by have:=r.dp;lia
theorem bo.units{k:Nat}{A:aa}(r:bo k A):A.units+64<cLine:=by have:=r.un;lia
def mQ:TA:=λ_ H Q=>Q [] H
def xR(ta:TE)(tr:TA):TA:=λO H Q=>ta O H λx H1=>tr O H1 λxs H2=>Q (x::xs) H2
section
variable {X:Cx}{e:Expr}{es:List Expr}{te:TE}{t:TA}{pos:Pos}
theorem ak:PA X [] mQ:=λ_ _ _ _ H Q I h=>Calls.spliced_nil ⟨[],H,I,.nil,h⟩
theorem ah(ha:PE X e te)(hr:PA X es t)(hs:starEach (e::es) X.env=(false,eval e X.env)::starEach es X.env:=by rfl):PA X (e::es) (xR te t):=by intro pos af s O H Q I h;rw[hs];show wpAny _ _ (spliced ((false,eval e X.env)::backTo pos (starEach es X.env))) _ _ s;refine Calls.spliced_cons (az (ha af s O H _ I h) λu s1 ⟨x,H1,I1,r1,q1⟩=>?_);exact az (hr pos af s1 O H1 _ I1 q1) λus s2 ⟨xs,H2,I2,r2,q2⟩=>⟨x::xs,H2,I2,.cons r1 r2,q2⟩
end
abbrev Sp:=List V->Hp->VK->XK->Prop
abbrev fm:=List Env->Hp->a7->XK->Value->a7->Prop
structure jt(P:a8)(w:World)(K:a6)(mg:aM)(ag:Heap)(A:aa)(outer:List Env)(s:a7)(H:Hp):Prop where
 frames:A.frames=some outer
 mod:Mod K mg ag
 bs:∀b o,ag.get? b=some o->s.heap.get? b=some o/\H b=none
 fh:ag.objs.size<=s.heap.objs.size
 dM:s.heap.FunFrames ag outer
 fP:∀b∈cf outer,H b=none
 aD:bL P w H s.heap
 bare:AllBare s.gens
def CE(outer:List Env)(P:a8)(w:World)(H:Hp)(s:a7)(Q:VK)(u:Value)(s':a7):Prop:=∃v H',s'.os=s.os/\AllBare s'.gens/\Un (cf outer) [] H H' s.heap s'.heap/\bL P w H' s'.heap/\RelV v u/\Q v H'
def CR(CX:fm)(outer:List Env)(P:a8)(w:World)(H:Hp)(s:a7)(Q:VK)(E:XK)(r:Result)(s':a7):Prop:=match r with | .ok (.ret u)=>CE outer P w H s Q u s' | .ok _=>False | .error e=>CX outer H s E e s'
structure cO(P:a8)(w:World)(K:a6)(mg:aM)(ag:Heap)(CX:fm)(k:Nat)(f:Addr)(fd:FuncData)(ps:List Str)(sp:Sp):Prop where
 len:∀vs H Q E,sp vs H Q E->vs.length=ps.length
 run:∀(A:aa)(outer:List Env)(s:a7)(H:Hp)(args:Args)(us:List Value)(vs:List V)(Q:VK)(E:XK),bo k A->jt P w K mg ag A outer s H->BindsTo s fd args (ps.zip us)->Vals vs us->sp vs H Q E->codeAny (model P w) A (.call (.ref f) args) (CR CX outer P w H s Q E) s
theorem jt.make{P:a8}{w:World}{K:a6}{mg:aM}{ag:Heap}{A:aa}{outer:List Env}{s:a7}{H:Hp}(e:jt P w K mg ag A outer s H)(C:Addr)(us:List Value)(kw:List (Str×Value)): jt P w K mg ag (A.under (.builtin "type.__call__" ⟨.ref C::us,kw⟩)) outer s H:=⟨by first|exact e.frames|(simpa[Around.under,Code.envs,Code.isFrame,pushEnvs]using e.frames),e.mod,e.bs,e.fh,e.dM,e.fP,e.aD,e.bare⟩
section
variable {X:Cx}{af:List (Addr×Obj)}{O:St}{H:Hp}{s s':a7}
theorem Inv.oG(I:Inv X af O H s):jt X.prog X.w X.K X.mg X.ag X.A X.stack s H:=⟨I.ok.frames,I.ok.mod,I.bs,fu I.ok.fh I.sz,I.stack,I.pJ,I.aD,I.bare⟩
theorem Inv.after{Q:VK}{u:Value}(I:Inv X af O H s)(h:CE X.stack X.prog X.w H s Q u s'):EP X af O Q u s':=by obtain⟨v,H',os,bare,un,aD,r,q⟩:=h;obtain⟨hh,g,d,t,eG⟩:=s';obtain rfl:eG=s.os:=os;exact⟨v,H',I.call (h':=hh) (g':=g) (d':=d) (t':=t) (ch:=[]) un aD bare (λb z=>absurd z (by simp)),r,q⟩
end
def Dt(sp:Sp)(dvs:List V)(E:XK)(t:TA):TE:=λO H Q=>t O H λvs H1=>sp (vs++dvs) H1 Q E
inductive wN(C:Addr)(m:Str)(sp:Sp)(dvs:List V)(E:XK)(t:TA)(O:St)(Q:VK)(x:V)(H1:Hp):Prop |mk (a:_)(dx:_)(fs:_)(h0:x= .ref a)(h1:H1 a=some (.ins C dx fs))(h2:fs.lookup m=none)(h3:t O H1 λvs H2=>sp (x::(vs++dvs)) H2 Q E)
def Dk(C:Addr)(m:Str)(sp:Sp)(dvs:List V)(E:XK)(ta:TE)(t:TA):TE:=λO H Q=>ta O H λx H1=>wN C m sp dvs E t O Q x H1
def Dl(C:Addr)(sp:Sp)(dvs:List V)(E:XK)(t:TA):TE:=λO H Q=>t O H λvs H1=>∀x dx,H1 x=none->H1 dx=none->dx≠x->sp (.ref x::(vs++dvs)) (upd (upd H1 dx (.own x)) x (.ins C dx [])) (λv H2=>v= .bj/\Q (.ref x) H2) E
def Binds(K:a6)(fd:FuncData)(ps:List Str)(ds:List Value):Prop:=∀(s:a7)(us:List Value),K.In s.heap->(us++ds).length=ps.length->BindsTo s fd ⟨us,[]⟩ (ps.zip (us++ds))
theorem Binds.all{K:a6}{fd:FuncData}{ps:List Str}(h:∀us:List Value,us.length=ps.length->bindArgs fd ⟨us,[]⟩=pure (ps.zip us)):Binds K fd ps []:=λs us _ hl=>by rw[fH]at hl⊢;exact .of_eq (h us hl)
def Passes(CX:fm)(X:Cx)(E:XK):Prop:=∀(af:List (Addr×Obj))(O:St)(H:Hp)(s:a7)(e:Value)(s':a7),Inv X af O H s->CX X.stack H s E e s'->X.xe e s'
section
variable {X:Cx}{CX:fm}{k:Nat}{f C:Addr}{fd:FuncData}{ps:List Str}{sp:Sp}{dvs:List V}{ds:List Value}{E:XK}{x m:Str}{p pos apos:Pos}{e o:Expr}{es:List Expr}{ta:TE}{t:TA}
theorem za{af:List (Addr×Obj)}{O:St}{H:Hp}{s:a7}{Q:VK}{us:List Value}{vs:List V}(F:cO X.prog X.w X.K X.mg X.ag CX k f fd ps sp)(hr:bo k X.A)(hb:Binds X.K fd ps ds)(hd:Vals dvs ds)(hx:Passes CX X E) (I:Inv X af O H s)(r:Vals vs us)(h:sp (vs++dvs) H Q E):wpAny (model X.prog X.w) X.A (call (.ref f) us) (EP X af O Q) X.xe s:=by
 have r2:Vals (vs++dvs) (us++ds):=r.append hd;have hl:(us++ds).length=ps.length:=by rw[<-r2.length];exact F.len _ _ _ _ h
 refine mB (mD (F.run X.A X.stack s H ⟨us,[]⟩ (us++ds) (vs++dvs) Q E hr I.oG (hb s us I.bU hl) r2 h) λr s' hq=>?_);cases r with |error e=>exact hx af O H s e s' I hq |ok fl=>cases fl with |ret u=>exact I.after hq |next=>exact False.elim hq |brk=>exact False.elim hq |cont=>exact False.elim hq
theorem zA(F:cO X.prog X.w X.K X.mg X.ag CX k f fd ps sp)(hr:bo k X.A)(hg:Gl X x)(hm:X.mg x=some (.ref f))(hk:PySem.W.keepIn X.K (.ref f)=true)(hb:Binds X.K fd ps ds)(hd:Vals dvs ds)(hx:Passes CX X E) (ha:PA X (e::es) t)(dc:(x==("__debug__":Str))=false:=by decide)(he:starEach (e::es) X.env=(false,eval e X.env)::starEach es X.env:=by rfl)(cK:(backTo pos (starEach es X.env)).any (·.1)=false:=by rfl): PE X (.Call (.Name x p) (e::es) [] pos) (Dt sp dvs E t):=by intro af s O H Q I h;refine rF (kK I hg hm ?_ dc);refine xg (h₀:=X.ag) I.ok.mod.iX hk (az (ha pos af s O H _ I h) λus s1 ⟨vs,H1,I1,r,q⟩=>⟨I1.bU,?_⟩) he cK;exact za F hr hb hd hx I1 r q
theorem EK{pl:Sem Bool}(he:PE X o ta)(c:fX X.K C)(hm:Meth X.K C m f)(F:cO X.prog X.w X.K X.mg X.ag CX k f fd ps sp)(hr:bo k X.A)(hb:Binds X.K fd ps ds)(hd:Vals dvs ds)(hx:Passes CX X E) (ht:eval (.Call (.Attribute o m apos) [] [] pos) X.env=(do
 let ov<-eval o X.env
 standAt apos.atName
 let(f,first)<-holding [ov] (getMethod ov m pl)
 callWith pos f first (backTo pos (starEach [] X.env)) (backToKw pos (keywordEach [] X.env))):=by rfl): PE X (.Call (.Attribute o m apos) [] [] pos) (Dk C m sp dvs E ta mQ):=by
 intro af s O H Q I h;refine BQ (pl:=pl) (az (he af s O H _ I h) λu s1 ⟨x,H1,I1,rx,a,dx,fs,ex,ea,l,q⟩=>?_) ht;subst ex;obtain rfl:u=Value.ref a:=rx;refine vE I1 ea c hm l ?_;exact PySem.W.callWith_K0 (first:=[.ref a]) I1.bU hm.kp (za (us:=[.ref a]) (vs:=[.ref a]) F hr hb hd hx I1 (.cons rfl .nil) q)
structure Mk(K:a6)(C f:Addr):Prop where
 makes:PySem.W.makesIn K C=true
 init:PySem.W.findIn K (.ref C) "__init__"=some (some (.ref f))
 fn:PySem.W.isFn K (.ref f)=true
 kp:PySem.W.keepIn K (.ref C)=true
theorem DL{af:List (Addr×Obj)}{O:St}{H:Hp}{s:a7}{Q:VK}{us:List Value}{vs:List V}(M:Mk X.K C f)(F:cO X.prog X.w X.K X.mg X.ag CX k f fd ps sp)(hr:bo (k+1) X.A)(hb:Binds X.K fd ps ds)(hd:Vals dvs ds) (hx:Passes CX X E)(I:Inv X af O H s)(r:Vals vs us) (h:∀x dx,H x=none->H dx=none->dx≠x->sp (.ref x::(vs++dvs)) (upd (upd H dx (.own x)) x (.ins C dx [])) (λv H2=>v= .bj/\Q (.ref x) H2) E): wpAny (model X.prog X.w) X.A (call (.ref C) us) (EP X af O Q) X.xe s:=by
 have hq:=h (s.heap.objs.size+1) s.heap.objs.size (I.aD.fresh (Nat.le_succ _)) (I.aD.fresh (aU _)) (bD (xn _));have I2:=Inv.made (C:=C) I;have r2:Vals (V.ref (s.heap.objs.size+1)::(vs++dvs)) (Value.ref (s.heap.objs.size+1)::(us++ds)):=.cons Z (r.append hd);have hl:(Value.ref (s.heap.objs.size+1)::us++ds).length=ps.length:=by have e:=r2.length;rw[F.len _ _ _ _ hq]at e;exact e.symm
 refine mB (GB (f:=f) I.bU M.makes M.init (cx.mp M.fn) (mD (F.run _ X.stack _ _ ⟨Value.ref (s.heap.objs.size+1)::us,[]⟩ (Value.ref (s.heap.objs.size+1)::(us++ds)) _ _ E (hr.make C us []) (I2.oG.make C us []) (hb _ (Value.ref (s.heap.objs.size+1)::us) I2.bU hl) r2 hq) λr s' eJ=>?_));cases r with |error e=>exact hx af O _ _ e s' I2 eJ |ok fl=>cases fl with |ret u=>obtain⟨v,H',I3,rv,ev,q3⟩:=I2.after eJ;subst ev;exact⟨rv,⟨V.ref (s.heap.objs.size+1),H',I3,Z,q3⟩⟩ |next=>exact False.elim eJ |brk=>exact False.elim eJ |cont=>exact False.elim eJ
theorem EL(M:Mk X.K C f)(F:cO X.prog X.w X.K X.mg X.ag CX k f fd ps sp)(hr:bo (k+1) X.A)(hg:Gl X x)(hm:X.mg x=some (.ref C))(hb:Binds X.K fd ps ds)(hd:Vals dvs ds)(hx:Passes CX X E) (ha:PA X (e::es) t)(dc:(x==("__debug__":Str))=false:=by decide)(he:starEach (e::es) X.env=(false,eval e X.env)::starEach es X.env:=by rfl)(cK:(backTo pos (starEach es X.env)).any (·.1)=false:=by rfl): PE X (.Call (.Name x p) (e::es) [] pos) (Dl C sp dvs E t):=by intro af s O H Q I h;refine rF (kK I hg hm ?_ dc);refine xg (h₀:=X.ag) I.ok.mod.iX M.kp (az (ha pos af s O H _ I h) λus s1 ⟨vs,H1,I1,r,q⟩=>⟨I1.bU,?_⟩) he cK;exact DL M F hr hb hd hx I1 r q
end
section
variable {X:Cx}{CX:fm}{k:Nat}{f C:Addr}{fd:FuncData}{ps ks:List Str}{sp:Sp}{E:XK}{x m:Str}{p pos apos Nh:Pos}{e o:Expr}{es:List Expr}{Ng:List Keyword}{te ta:TE}{t tk:TA}{nm:Option Str}
variable {g:List Value->List Value->List Value}{gV:List V->List V->List V}
end
structure bp(N P:List Str)(sc:Scope):Prop where
 kind:sc.kind= .function
 co:sc.isCoroutine=false
 gen:sc.isGenerator=false
 nd:N.Nodup
 pre:N.take P.length=P
 par:∀x∈P,sc.names.lookup x=some .local\/sc.names.lookup x=some .cell
 G8:∀y∈sc.names,y.2≠ .free
theorem Bi{kindOf:Str->Option NameKind}{x:Str}:∀{binds:List (Str×Value)}{m:aM},(∀v,(x,v)∉binds)->bindL kindOf binds m x=m x
 |[],_,_=>rfl |(n,v)::r,m,h=>by
  unfold bindL;rw[Bi λw hw=>h w (mG _ hw)];split
  ·have:x≠n:=by rintro rfl;exact h v xt
   simp[this]
  ·rfl
theorem Bk{kindOf:Str->Option NameKind}{x:Str}:∀{binds:List (Str×Value)}{m:aM},(∀v,(x,v)∉binds)->bindC kindOf binds m x=m x
 |[],_,_=>rfl |(n,v)::r,m,h=>by
  unfold bindC;rw[Bk λw hw=>h w (mG _ hw)];split
  ·rfl
  ·have:x≠n:=by rintro rfl;exact h v xt
   simp[this]
theorem Bj{kindOf:Str->Option NameKind}{x:Str}{v:Value}:∀{P:List Str}{vs:List Value}{i:Nat}{m:aM},P.Nodup->P[i]? =some x->vs[i]? =some v->kindOf x=some .local->bindL kindOf (P.zip vs) m x=some v |[],_,_,_,_,h,_,_=>by simp at h |_::_,[],_,_,_,_,h,_=>by simp at h |p::P,w::vs,0,m,nd,h1,h2,hk=>by simp at h1 h2;subst h1;subst h2;show bindL kindOf ((p,w)::P.zip vs) m p=_;unfold bindL;rw[Bi λv hv=>(xq.mp nd).1 (rM hv).1,aZ hk];simp |p::P,w::vs,i+1,m,nd,h1,h2,hk=>by show bindL kindOf ((p,w)::P.zip vs) m x=_;unfold bindL;exact Bj (i:=i) (xq.mp nd).2 (by simpa using h1) (by simpa using h2) hk
theorem Bl{kindOf:Str->Option NameKind}{x:Str}{v:Value}:∀{P:List Str}{vs:List Value}{i:Nat}{m:aM},P.Nodup->P[i]? =some x->vs[i]? =some v->kindOf x≠some .local->bindC kindOf (P.zip vs) m x=some v |[],_,_,_,_,h,_,_=>by simp at h |_::_,[],_,_,_,_,h,_=>by simp at h |p::P,w::vs,0,m,nd,h1,h2,hk=>by simp at h1 h2;subst h1;subst h2;show bindC kindOf ((p,w)::P.zip vs) m p=_;unfold bindC;rw[Bk λv hv=>(xq.mp nd).1 (rM hv).1,aY hk];simp |p::P,w::vs,i+1,m,nd,h1,h2,hk=>by show bindC kindOf ((p,w)::P.zip vs) m x=_;unfold bindC;exact Bl (i:=i) (xq.mp nd).2 (by simpa using h1) (by simpa using h2) hk
def start(N:List Str)(vs:List V):St:=vs.map some++List.replicate (N.length-vs.length) none
def dA(CX:fm)(P:a8)(w:World)(K:a6)(mg:aM)(ag:Heap)(N:List Str)(qual:Str)(scope:Scope)(f:Addr)(cd:Value)(A:aa)(outer:List Env)(s:a7)(H:Hp)(E:XK):Cx where
 prog:=P
 w:=w
 K:=K
 mg:=mg
 ag:=ag
 A:=A.deeper (envOfC qual scope s.heap.objs.size f cd)
 N:=N
 s₀:=s
 H₀:=H
 env:=envOfC qual scope s.heap.objs.size f cd
 outer:=outer
 stack:=envOfC qual scope s.heap.objs.size f cd::outer
 ex:=[]
 calm:=true
 fn:=λ_=>true
 pn:=[]
 xe:=λe s'=>wpAny (model P w) (A.deeper (envOfC qual scope s.heap.objs.size f cd)) (leaving (envOfC qual scope s.heap.objs.size f cd) e) (λ_ tO=>CX outer H s E e tO) (λe' tO=>CX outer H s E e' tO) s'
theorem Bd{sc:Scope}{n:Nat}{x:Str}(h:sc.names.lookup x=some .cell):∃c,(cellsFrom n sc.names []).lookup x=some c:=by have q:=xf sc.names n [] (.inl h);exact Option.isSome_iff_exists.mp q
theorem uN{CX:fm}{P:a8}{w:World}{K:a6}{mg:aM}{ag:Heap}{N ps:List Str}{qual:Str}{scope:Scope}{f:Addr}{cd:Value}{A:aa}{outer:List Env}{s s1:a7}{H:Hp}{E:XK}{us:List Value}{vs:List V} (S:bp N ps scope)(hd:A.handled=none)(e0:jt P w K mg ag A outer s H)(hl:vs.length=ps.length)(r:Vals vs us) (x:InCallC s s.heap.objs.size (bindL (envOfC qual scope s.heap.objs.size f cd).kindOf (ps.zip us) λ_=>none) (cellsFrom (s.heap.objs.size+1) scope.names []) (bindC (envOfC qual scope s.heap.objs.size f cd).kindOf (ps.zip us) λ_=>none) s1): Inv (dA CX P w K mg ag N qual scope f cd A outer s H E) [] (start N vs) H s1:=by
 have cK:ps.length<=N.length:=by have:=congrArg List.length S.pre;rw[cT]at this;lia
 obtain⟨h1,tk,rfl,hk⟩:=x.done;have nF:∀b:Addr,b∉(dA CX P w K mg ag N qual scope f cd A outer s H E).ex:=λb z=>absurd (show b∈([]:List Addr)from z) (by simp);refine⟨⟨e0.mod,S.kind,Z,Z,aU _,λy z c h1 h2=>?_,λy hy=>?_,λy c _ h=>?_,λ_=>hd,Around.frames_deeper e0.frames,.inr ⟨Z,Z⟩,λb z=>absurd z (nF b),e0.bs,e0.fh,λb _ _=>nF b,λb z=>absurd z (nF b),e0.dM,e0.fP⟩,rfl,e0.bare,Un.kept hk,⟨_,x.toInCall.ns,λi y v h1 h2 h3=>?_⟩,λy c h=>⟨_,x.cell y c h⟩,e0.aD.fresh (aU _),λy c h=>?_,λp hp=>absurd (show p∈([]:List (Addr×Obj))from hp) (by simp),e0.aD.kept hk,?_⟩
 ·exact name_of_addr x.apart (rG h1) (rG h2)
 ·have hy:scope.names.lookup y=some .cell\/scope.names.lookup y=some .free:=hy
  rcases hy with hy|hy
  ·exact Bd hy
  ·exact absurd Z (S.G8 _ (rG hy))
 ·exact xo (x.above y c (rG h))
 ·have hi:i<vs.length:=by
   unfold start at h2;by_cases hi:i<vs.length
   ·exact hi
   ·rw[p9 (by simpa using hi)]at h2
    rw[List.getElem?_replicate]at h2;split at h2<;>cases h2
  have ha:vs[i]? =some v:=by unfold start at h2;rw[rQ (by simpa using hi),cm]at h2;cases e:vs[i]? with |none=>rw[e]at h2;cases h2 |some a=>rw[e]at h2;cases h2;rfl
  obtain⟨u,hu,rv⟩:=r.get ha;have hp:ps[i]? =some y:=by rw[<-S.pre,List.getElem?_take_of_lt aA];exact h1
  have zP:ps.Nodup:=by rw[<-S.pre];exact S.nd.sublist (List.take_sublist _ _)
  refine⟨u,rv,?_⟩;rcases S.par y (jw hp)with k|k
  ·exact .inl ⟨k,Bj zP hp hu k⟩
  ·obtain⟨c,e⟩:=Bd (n:=s.heap.objs.size+1) k
   refine .inr ⟨.inl k,c,e,?_⟩;have q:=x.cell y c e;rw[Bl zP hp hu (by show scope.names.lookup y≠_;rw[k];decide)]at q;exact q
 ·exact e0.aD.fresh (xo (x.above y c (rG h)))
 ·unfold start
  show _=N.length;rw[fy,br,List.length_replicate]
  lia
theorem vG{CX:fm}{P:a8}{w:World}{K:a6}{mg:aM}{ag:Heap}{k:Nat}{f:Addr}{name qual:Str}{params:Arguments}{body:List Stmt}{scope:Scope}{dV kV doc pm ao ct oc:Value}{an od:Option Addr} {bX:Array (Option Value)}{N ps:List Str}{sp:Sp}(lk:K.lookup f=some ⟨oc,od,.func (PySem.W.fnOf name qual params body scope dV kV doc pm an ao ct),bX⟩)(bZ:PySem.W.codeIn K ao qual=true)(S:bp N ps scope) (len:∀vs H Q E,sp vs H Q E->vs.length=ps.length) (cG:∀(A:aa)(outer:List Env)(s:a7)(H:Hp)(vs:List V)(Q:VK)(E:XK),bo k (A.deeper (envOfC qual scope s.heap.objs.size f ao))->sp vs H Q E->∃t,cw (dA CX P w K mg ag N qual scope f ao A outer s H E) body t/\t {nx:=λ_ H'=>Q .bj H',rt:=Q} (start N vs) H): cO P w K mg ag CX (k+1) f (PySem.W.fnOf name qual params body scope dV kV doc pm an ao ct) ps sp:=by
 refine⟨len,λA outer s H args us vs Q E hr e0 hb r cA=>?_⟩;have hl:=len _ _ _ _ cA;have KX:K.In s.heap:=e0.mod.iX.keeps λb o e=>(e0.bs b o e).1;have lim:s.heap.NoLimit:=e0.mod.nolimit.keeps λb o e=>(e0.bs b o e).1;have fF:∀y∈ps.zip us,scope.names.lookup y.1=some .local\/(scope.names.lookup y.1=some .cell/\((cellsFrom (s.heap.objs.size+1) scope.names []).lookup y.1).isSome=true):=λ⟨n,v⟩ hy=>by
  rcases S.par n (rM hy).1 with q|q
  ·exact .inl q
  ·exact .inr ⟨q,xf _ _ _ (.inl q)⟩
 refine BO hr.depth (KX _ _ lk) Z S.co S.gen Z (BS KX bZ) (hb _ _ _ _ ?_);refine BK S.kind fF λenv he s1 x=>?_;subst he;refine⟨lim.keeps x.toInCall.keep,codeAny_func ?_⟩;obtain⟨t,ht,hq⟩:=cG A outer s H vs Q E (hr.deeper _) cA;have I:Inv (dA CX P w K mg ag N qual scope f ao A outer s H E) [] (start N vs) H s1:=uN S hr.hd e0 hl r x;refine dB (ht [] s1 (start N vs) H _ I hq) (λfl s' hs=>?_) λe s' hs=>hs;have fin:∀{σ':St}{H':Hp}{v:V}{u:Value},Inv (dA CX P w K mg ag N qual scope f ao A outer s H E) [] σ' H' s'->RelV v u->Q v H'->CE outer P w H s Q u s':=λ{σ' H' v u} J rv q=>⟨v,H',J.os,J.bare,J.ag,J.aD,rv,q⟩;cases fl with |ret u=>obtain⟨v,σ',H',J,rv,q⟩:=hs;exact fin J rv q |next=>obtain⟨σ',H',J,q⟩:=hs;exact fin (v:=V.bj) (u:=Value.none) J Z q |brk=>obtain⟨_,_,_,q⟩:=hs;exact False.elim q |cont=>obtain⟨_,_,_,q⟩:=hs;exact False.elim q
section
variable {X:Cx}{x:Str}{p pos:Pos}{e:Expr}{es:List Expr}{t:TA}{id T:String}{r:List V->Hp->VK->Prop}
def mR(r:List V->Hp->VK->Prop)(t:TA):TE:=λO H Q=>t O H λvs H1=>r vs H1 Q
theorem dH(hc:cP X (.builtin id) r)(hg:Gl X x)(hm:X.mg x=none)(hv:bootBuiltins x=some (.builtin id))(ha:PA X (e::es) t)(hn:x≠"__name__":=by decide)(dc:(x==("__debug__":Str))=false:=by decide) (he:starEach (e::es) X.env=(false,eval e X.env)::starEach es X.env:=by rfl)(cK:(backTo pos (starEach es X.env)).any (·.1)=false:=by rfl):PE X (.Call (.Name x p) (e::es) [] pos) (mR r t):=by intro af s O H Q I h;refine rF (kL I hg hm hv ?_ hn dc);exact PyProof.Rows.callWith_builtin1 (az (ha pos af s O H _ I h) λus s1 ⟨vs,H1,I1,r1,q1⟩=>hc af s1 O H1 vs us Q I1 r1 q1) he cK
theorem gk(hc:cP X (.type T) r)(hg:Gl X x)(hm:X.mg x=none)(hv:bootBuiltins x=some (.type T))(ha:PA X (e::es) t)(hn:x≠"__name__":=by decide)(dc:(x==("__debug__":Str))=false:=by decide) (he:starEach (e::es) X.env=(false,eval e X.env)::starEach es X.env:=by rfl)(cK:(backTo pos (starEach es X.env)).any (·.1)=false:=by rfl):PE X (.Call (.Name x p) (e::es) [] pos) (mR r t):=by intro af s O H Q I h;refine rF (kL I hg hm hv ?_ hn dc);exact rH (az (ha pos af s O H _ I h) λus s1 ⟨vs,H1,I1,r1,q1⟩=>hc af s1 O H1 vs us Q I1 r1 q1) he cK
end
end L2
namespace HT
open PySem PyProof.Rows
section
open PySem.SeqAt
open PySem.AutoSeq1 (wpAny_loadPart')
open PySem.MeetsSeq PySem.MeetsSeq2 PySem.MeetsSeq3
end
section
variable {prog:a8}{w:World}{A:aa}{E:Value->a7->Prop}{s:a7}
theorem Kx{t b:Addr}{vs ws:List Value}{Q:Value->a7->Prop}(ht:IsTup s.heap t vs.toArray)(hb:IsTup s.heap b ws.toArray)(hv:vs≠[]) (h1:ws=[]->Q (.ref t) s)(h2:ws≠[]->Q (.ref s.heap.objs.size) {s with heap:=s.heap.push {cls:=.type "tuple",data:=.seq (vs++ws).toArray}}) (m6:vs.length+ws.length<=sizeLine):wpAny (model prog w) A (binaryOp .Add (.ref t) (.ref b)) Q E s:=by
 obtain⟨⟨cls,dd,data,sl⟩,ho,hc,n,hd⟩:=id ht;obtain⟨⟨Ba,mj,data2,lM⟩,iq,cW,n2,hd2⟩:=id hb;simp only at hc hd cW hd2;subst hc hd cW hd2;have e:vs.toArray++ws.toArray=(vs++ws).toArray:=by simp
 by_cases hw:ws=[]
 ·exact concat_meets ⟨_,ho,Z⟩ ⟨_,iq,Z⟩ noFill_tuple_add seq_tuple_add BW BX (BZ _ _) (tuple_addW1 t b vs.toArray ws.toArray n n2 dd mj sl lM (by simpa using hv) (by simp[hw])) ⟨ho,iq,h1 hw⟩
 ·refine concat_meets ⟨_,ho,Z⟩ ⟨_,iq,Z⟩ noFill_tuple_add seq_tuple_add BW BX (BZ _ _) (tuple_addW2 t b vs.toArray ws.toArray n n2 dd mj sl lM (by simpa using hv) (by simpa using hw) (by rw[cC,cC];exact m6)) ⟨ho,iq,?_⟩;rw[e];exact h2 hw
def bb(n d:Nat):Option Int->Nat |none=>d |some v=>if v<0 then(v+(n:Int)).toNat else min v.toNat n
theorem yR (n d:Nat):bb n d none=d:=rfl
theorem yS(n d k:Nat):bb n d (some (k:Int))=min k n:=by show(if(k:Int)<0 then((k:Int)+(n:Int)).toNat else min (k:Int).toNat n)=min k n;rw[aY aA,pb]
theorem DJ(n d:Nat)(hd:d<=n)(o:Option Int):bb n d o<=n:=by cases o with |none=>exact hd |some v=>
 show(if v<0 then(v+(n:Int)).toNat else min v.toNat n)<=n;by_cases hv:v<0
 ·rw[aZ hv];lia
 ·rw[aY hv];exact Nat.min_le_right _ _
theorem Bb(v:Int)(n d:Nat):(if v<0 then max (v+(n:Int)) 0 else min v (n:Int))=((bb n d (some v):Nat):Int):=by
 show(if v<0 then max (v+(n:Int)) 0 else min v (n:Int))=(((if v<0 then(v+(n:Int)).toNat else min v.toNat n):Nat):Int);by_cases hv:v<0
 ·simp only[aZ hv];lia
 ·simp only[aY hv];lia
theorem Lf(lo hi:Option Int)(n:Nat):Builtin.Slice.sliceAdjust lo hi 1 (n:Int)=(((bb n 0 lo:Nat):Int),((bb n n hi:Nat):Int)):=by
 have h1:¬((1:Int)<0):=by lia
 unfold Builtin.Slice.sliceAdjust;simp only[h1,if_false];refine Prod.ext ?_ ?_
 ·cases lo with |none=>rfl |some v=>exact Bb v n 0
 ·cases hi with |none=>rfl |some v=>exact Bb v n n
theorem Ek(i j:Nat):Builtin.Slice.slicePlaces (i:Int) (j:Int) 1=j-i:=by
 unfold Builtin.Slice.slicePlaces;have h1:(1:Int)>0:=by lia
 simp only[h1,if_true,Int.ediv_one];split<;>lia
theorem mU{v:Value}{o:Option Int}{Q:Option Int->a7->Prop}(p:IsPart v o)(h:Q o s):wpAny (model prog w) A (Builtin.Slice.slicePartIndex v) Q E s:=by cases p with |none=>exact slicePart_none h |int i t=>exact slicePart_int h
theorem yo{sl:Addr}{vl vu:Value}{lo hi:Option Int}{n:Nat}{Q:Int×Int×Nat->a7->Prop}(hs:s.heap.IsSliceOf sl vl vu .none)(pl:IsPart vl lo)(pu:IsPart vu hi) (h:Q (((bb n 0 lo:Nat):Int),1,bb n n hi-bb n 0 lo) s):wpAny (model prog w) A (Builtin.Slice.sliceApplied (.ref sl) (pure (n:Int))) Q E s:=by obtain⟨os,fN,je,eK⟩:=id hs;unfold Builtin.Slice.sliceApplied Builtin.Slice.sliceFields;refine ai (ai (bV fN eK (x:=vl) Z (ai (bV fN eK (x:=vu) Z (ai (bV fN eK (x:=.none) Z (aG ?_)))))));refine ai (slicePart_none ?_);show wpAny _ _ (if((1:Int)==0)=true then _ else _) _ _ s;rw[aY aj];refine ai (mU pl (ai (mU pu (ai (aG ?_)))));show wpAny _ _ (match Builtin.Slice.sliceAdjust lo hi 1 (n:Int)with|(lo,hi)=>pure (lo,(1:Int),Builtin.Slice.slicePlaces lo hi 1)) _ _ s;rw[Lf lo hi n];show wpAny _ _ (pure (((bb n 0 lo:Nat):Int),(1:Int),Builtin.Slice.slicePlaces ((bb n 0 lo:Nat):Int) ((bb n n hi:Nat):Int) 1)) _ _ s;rw[Ek];exact aG h
theorem Em(xs:Array Value)(i k:Nat):((List.range k).filterMap λ(m:Nat)=>xs[((i:Int)+(m:Int)*1).toNat]?).toArray=((xs.toList.drop i).take k).toArray:=by
 have e:(λ(m:Nat)=>xs[((i:Int)+(m:Int)*1).toNat]?)=λm=>xs[i+m]?:=by
  funext m;have:((i:Int)+(m:Int)*1).toNat=i+m:=by lia
  rw[this]
 rw[e];have:=pick_run xs i k;rw[List.filterMap_map]at this;have e2:((λx=>xs[x]?)∘λx=>i+x)=λm=>xs[i+m]?:=rfl;rw[e2]at this;rw[this]
theorem Js{t sl:Addr}{items:Array Value}{vl vu:Value}{lo hi:Option Int}{Q:Value->a7->Prop}(ht:IsTup s.heap t items)(hs:s.heap.IsSliceOf sl vl vu .none)(pl:IsPart vl lo)(pu:IsPart vu hi) (hw:¬(bb items.size 0 lo=0/\bb items.size items.size hi=items.size)) (h:Q (.ref s.heap.objs.size) {s with heap:=s.heap.push {cls:=.type "tuple",data:=.seq ((items.toList.drop (bb items.size 0 lo)).take (bb items.size items.size hi-bb items.size 0 lo)).toArray}}) (m6:items.size<=sizeLine):wpAny (model prog w) A (getItem (.ref t) (.ref sl)) Q E s:=by
 have j7:sizeOk (.seq ((items.toList.drop (bb items.size 0 lo)).take (bb items.size items.size hi-bb items.size 0 lo)).toArray):=by show((items.toList.drop (bb items.size 0 lo)).take (bb items.size items.size hi-bb items.size 0 lo)).toArray.size<=sizeLine;rw[cC,cT,mJ,mL];omega
 have hj:bb items.size items.size hi<=items.size:=DJ _ _ (aU _) hi;obtain⟨os,fN,je,eK⟩:=id hs;have ou:s.TypeIs (.ref sl) "slice":=⟨os,fN,je⟩;unfold getItem
 try with_reducible refine eB ?_
 first|refine ai (aG ?_)|skip
 refine ai (wpAny_sequenceKey ht.typeIs aj ?_);refine ai (hV (name:=Str.ofString "__getitem__") ht.typeIs kh (hU kh ht.typeIs entry_tuple_getitem ?_ (args_tuple_getitem _ _)));show wpAny _ _ (Builtin.Tuple.tupleItemsOf (.ref t)>>=_) _ _ s;refine ai (tupleItemsOf_ ht ?_);refine ai (rD ou ?_);rw[aZ aj];refine ai (yo hs pl pu ?_);have vc:¬((((bb items.size 0 lo:Nat):Int)==0&&(1:Int)==1&&(bb items.size items.size hi-bb items.size 0 lo)==items.size)=true):=by intro q;rw[cI,cI]at q;have q1:((bb items.size 0 lo:Nat):Int)=0:=eq_of_beq q.1.1;have q2:bb items.size items.size hi-bb items.size 0 lo=items.size:=eq_of_beq q.2;exact hw ⟨aQ,aQ⟩
 show wpAny _ _ (if(((bb items.size 0 lo:Nat):Int)==0&&(1:Int)==1&&(bb items.size items.size hi-bb items.size 0 lo)==items.size)=true then _ else _) _ _ s;rw[aY vc,Em]
 first |exact ai (m:=Builtin.Tuple.tupleExact _) (fq (aG ⟨_,Z,aG h⟩) j7) |exact ai (m:=Builtin.Tuple.tupleExact _) (fq (ai (aG (aG ⟨_,Z,aG h⟩))) j7) |exact ai (ai (m:=Builtin.Tuple.tupleExact _) (fq (aG (aG ⟨_,Z,aG h⟩)) j7)) |exact ai (ai (m:=Builtin.Tuple.tupleExact _) (fq (aG ⟨_,Z,aG h⟩) j7))
end
end HT
namespace L2
open PySem PySem.Spec PyProof.Rows
abbrev TO:=St->Hp->(Option Int->Hp->Prop)->Prop
def PO(X:Cx)(e:Option Expr)(t:TO):Prop:=∀(af:List (Addr×Obj))(s:a7)(O:St)(H:Hp)(Q:Option Int->Hp->Prop),Inv X af O H s->t O H Q->wpAny (model X.prog X.w) X.A (evalPart e X.env) (λu s'=>∃o H',Inv X af O H' s'/\IsPart u o/\Q o H') X.xe s
def De:TO:=λ_ H Q=>Q none H
inductive LC(Q:Option Int->Hp->Prop)(x:V)(H1:Hp):Prop |mk (i:_)(h0:x= .int i)(h1:Q (some i) H1)
def D6(t:TE):TO:=λO H Q=>t O H λx H1=>LC Q x H1
section
variable {X:Cx}{e:Expr}{te:TE}{lo hi:Option Expr}{tl th:TO}{pos p2:Pos}
theorem uc:PO X none De:=by intro af s O H Q I h;rw[evalPart_none];exact aG ⟨none,H,I,.none,h⟩
theorem qf(h:PE X e te):PO X (some e) (D6 te):=by intro af s O H Q I hw;rw[evalPart_some];refine az (h af s O H _ I hw) λu s1 ⟨x,H1,I1,r1,q1⟩=>?_;obtain⟨i,rfl,q⟩:=q1;obtain⟨t,rfl⟩:=r1;exact⟨some i,H1,I1,.int i t,q⟩
def wH(X:Cx)(r:V->Option Int->Option Int->Hp->VK->Prop):Prop:=∀(af:List (Addr×Obj))(s:a7)(O:St)(H:Hp)(x:V)(v vl vu:Value)(lo hi:Option Int)(sl:Addr)(Q:VK),Inv X af O H s->RelV x v->s.heap.IsSliceOf sl vl vu .none->IsPart vl lo->IsPart vu hi->r x lo hi H Q->∃T id,typeLookup (.type T) "__getitem__"=pure (some (.builtin id))/\s.TypeIs v T/\wpAny (model X.prog X.w) X.A (getItem v (.ref sl)) (EP X af O Q) X.xe s
def CZ(r:V->Option Int->Option Int->Hp->VK->Prop)(te:TE)(tl th:TO):TE:=λO H Q=>te O H λx H1=>tl O H1 λl H2=>th O H2 λu H3=>r x l u H3 Q
theorem ue{r:V->Option Int->Option Int->Hp->VK->Prop}(hr:wH X r)(he:PE X e te)(hl:PO X lo tl)(hu:PO X hi th):PE X (.Subscript e (.Slice lo hi none p2) pos) (CZ r te tl th):=by intro af s O H Q I h;refine Subscript_ (az (he af s O H _ I h) λv s1 ⟨x,H1,I1,r1,q1⟩=>?_);refine wpAny_Slice (az (hl af s1 O H1 _ I1 q1) λvl s2 ⟨l,H2,I2,pl,q2⟩=>az (hu af s2 O H2 _ I2 q2) λvu s3 ⟨u,H3,I3,pu,q3⟩=>?_);rw[evalPart_none];refine aG ?_;have I4:Inv X af O H3 {s3 with heap:=s3.heap.push {cls:=.type "slice",data:=.fields #[vl,vu,.none]}}:=I3.kept (t':=s3.toks) λb ob q=>aX _ q;obtain⟨T,id,hT,ht,hg⟩:=hr af {s3 with heap:=s3.heap.push {cls:=.type "slice",data:=.fields #[vl,vu,.none]}} O H3 x v vl vu l u s3.heap.objs.size Q I4 r1 (Heap.IsSliceOf.new ..) pl pu q3;show wpAny (model X.prog X.w) X.A (subscriptTail e (.Slice lo hi none p2) v (.ref s3.heap.objs.size)) (EP X af O Q) X.xe {s3 with heap:=s3.heap.push {cls:=.type "slice",data:=.fields #[vl,vu,.none]}};exact tail_any (ops:=[.ref s3.heap.objs.size,v]) ht hT hg (by with_unfolding_all rfl)
def fQ(xs:List V)(lo hi:Option Int):List V:=(xs.drop (HT.bb xs.length 0 lo)).take (HT.bb xs.length xs.length hi-HT.bb xs.length 0 lo)
theorem Kp(xs:List V)(lo hi:Option Int):(fQ xs lo hi).length<=xs.length:=by
 unfold fQ;rw[cT,mJ]
 lia
inductive Mj(K:a6)(x:V)(lo:Option Int)(hi:Option Int)(H:Hp)(Q:VK):Prop |mk (a:_)(xs:_)(h0:x= .ref a)(h1:aL K H a xs)(h2:¬(HT.bb xs.length 0 lo=0/\HT.bb xs.length xs.length hi=xs.length))(h3:∀p,H p=none->Q (.ref p) (upd H p (.tup (fQ xs lo hi))))
def E3(K:a6):V->Option Int->Option Int->Hp->VK->Prop:=λx lo hi H Q=>Mj K x lo hi H Q
theorem Dy:wH X (E3 X.K):=by
 intro af s O H x v vl vu lo hi sl Q I rx hs pl pu h;obtain⟨a,xs,rfl,hx,hw,q⟩:=h;cases rx;obtain⟨its,r,ht,hz⟩:=I.tuple hx;have hlen:its.toArray.size=xs.length:=by rw[cC];exact r.length.symm
 refine⟨"tuple",_,kh.lookup,ht.typeIs,?_⟩;refine HT.Js ht hs pl pu (by rw[hlen];exact hw) ?_ (by rw[hlen];exact hz);rw[hlen];refine⟨.ref s.heap.objs.size,_,I.laid (t':=s.toks) (o:=.tup (fQ xs lo hi)) (λb ob q=>aX _ q) (aU _) ?_,Z,q _ (I.aD.fresh (aU _))⟩;exact⟨fu (Kp xs lo hi) hz,_,(r.drop (HT.bb xs.length 0 lo)).take (HT.bb xs.length xs.length hi-HT.bb xs.length 0 lo),IsTup.new _ _⟩
theorem Vals.ux{xs:List V}{us:List Value}(r:Vals xs us):us=[]↔xs=[]:=by cases r with |nil=>simp |cons _ _=>simp
end
def fC(n:Nat)(i:Int):Option Nat:=if 0<=i then(if i<n then some i.toNat else none)else if-(n:Int)<=i then some (i+n).toNat else none
def df{α:Type}(xs:List α)(i:Int):Option α:=(fC xs.length i).bind λj=>xs[j]?
theorem A9{n:Nat}{i:Int}{j:Nat}(h:fC n i=some j):seqIndex? i n=some j/\j<n/\-(n:Int)<=i/\i<n:=by
 unfold fC at h;by_cases h0:0<=i
 ·rw[aZ h0]at h
  by_cases h1:i<n
  ·rw[aZ h1]at h
   have e:i.toNat=j:=ck h;exact⟨by rw[seqIndex_of h0 h1,e],aA,aA,h1⟩
  ·rw[aY h1]at h;cases h
 ·rw[aY h0]at h
  by_cases h1:-(n:Int)<=i
  ·rw[aZ h1]at h
   have e:(i+n).toNat=j:=ck h;exact⟨by rw[seqIndex_neg aA h1,e],aA,h1,aA⟩
  ·rw[aY h1]at h;cases h
theorem wx{α:Type}{xs:List α}{i:Int}{v:α}(h:df xs i=some v):∃j,seqIndex? i xs.length=some j/\xs[j]? =some v/\j<xs.length/\-(xs.length:Int)<=i/\i<xs.length:=by unfold df at h;cases e:fC xs.length i with |none=>rw[e]at h;cases h |some j=>rw[e]at h;obtain⟨h1,h2,h3,h4⟩:=A9 e;exact⟨j,h1,h,h2,h3,h4⟩
theorem L7{α:Type}{xs:List α}{j:Nat}{v:α}(h:xs[j]? =some v):df xs (j:Int)=some v:=by
 have hj:j<xs.length:=(bM.mp h).1;have e:fC xs.length (j:Int)=some j:=by unfold fC;rw[aZ aA,aZ aA];simp
 unfold df;rw[e];exact h
def BD(b:Expr):Prop:=∀o i,subscripted b false o i=operate [o,i] (getItem o i)
def jk(X:Cx)(r:R2):Prop:=∀(value slice:Expr)(af:List (Addr×Obj))(s:a7)(O:St)(H:Hp)(x y:V)(v u:Value)(Q:VK),Inv X af O H s->RelV x v->RelV y u->r x y H Q->subscripted slice false v u=operate [v,u] (getItem v u)->wpAny (model X.prog X.w) X.A (subscriptTail value slice v u) (EP X af O Q) X.xe s
def BH(X:Cx)(id:String)(r:V->List V->Hp->VK->Prop):Prop:=∀(af:List (Addr×Obj))(s:a7)(O:St)(H:Hp)(x:V)(xs:List V)(v:Value)(us:List Value)(Q:VK),Inv X af O H s->RelV x v->Vals xs us->r x xs H Q->wpAny (model X.prog X.w) X.A (call (.builtin id) (v::us)) (EP X af O Q) X.xe s
section
variable {X:Cx}{a b:Expr}{ta tb:TE}{pos:Pos}
theorem jk.or{r r':R2}(h:jk X r)(h':jk X r'):jk X (λx y H Q=>r x y H Q\/r' x y H Q):=by
 intro value slice af s O H x y v u Q I rx ry q hs;rcases q with q|q
 ·exact h value slice af s O H x y v u Q I rx ry q hs
 ·exact h' value slice af s O H x y v u Q I rx ry q hs
theorem zx{r:R2}(hr:jk X r)(ha:PE X a ta)(hb:PE X b tb)(hs:BD b):PE X (.Subscript a b pos) (mP r ta tb):=by intro af s O H Q I h;exact Subscript_ (wj ha hb I h λv u s2 x y H2 I2 rx ry q=>hr a b af s2 O H2 x y v u Q I2 rx ry q (hs _ _))
inductive Mq(K:a6)(x:V)(y:V)(H:Hp)(Q:VK):Prop |mk (p:_)(xs:_)(i:_)(v:_)(h0:x= .ref p)(h1:y= .int i)(h2:aF K H p xs)(h3:df xs i=some v)(h4:Q v H)
def tZ(K:a6):R2:=λx y H Q=>Mq K x y H Q
inductive Mo(K:a6)(x:V)(y:V)(H:Hp)(Q:VK):Prop |mk (p:_)(xs:_)(i:_)(v:_)(h0:x= .ref p)(h1:y= .int i)(h2:aL K H p xs)(h3:df xs i=some v)(h4:Q v H)
def tY(K:a6):R2:=λx y H Q=>Mo K x y H Q
inductive Mp(x:V)(y:V)(H:Hp)(Q:VK):Prop |mk (z:_)(i:_)(c:_)(h0:x= .str z)(h1:y= .int i)(h2:z.length<=sizeLine)(h3:df z.cps.toList i=some c)(h4:Q (.str ⟨#[c]⟩) H)
def E5:R2:=λx y H Q=>Mp x y H Q
theorem Hh:jk X (tZ X.K):=by
 intro value slice af s O H x y v u Q I rx ry h hs;obtain⟨p,xs,i,z,rfl,rfl,hq,he,q⟩:=h;cases rx;obtain⟨t,rfl⟩:=ry;obtain⟨its,r,pl,hz⟩:=I.list hq;obtain⟨j,h1,h2,h3,h4,h5⟩:=wx he;obtain⟨w,ew,tQ⟩:=r.get h2;have hl:=r.length;have hn:=lZ;have fin:EP X af O Q w s:=⟨z,H,I,tQ,q⟩;by_cases h0:0<=i
 ·have hj:i.toNat=j:=by rw[seqIndex_of h0 h5]at h1;exact ck h1
  exact item_listR pl.isList h0 aA (by rw[hj];simpa using ew) fin hs
 ·have hj:(i+(its.toArray.size:Int)).toNat=j:=by rw[seqIndex_neg aA h4]at h1;rw[cC,<-hl];exact ck h1
  exact subscriptTail_builtinR (x:=w) pl.isList.typeIs slot_list_getitem.lookup (wpAny_getItem_list_neg (Q:=λr s'=>r=w/\EP X af O Q r s') pl.isList aA (by rw[cC]<;>lia) aA (by rw[hj];simpa using ew) ⟨Z,fin⟩) hs
theorem Hf:jk X (tY X.K):=by intro value slice af s O H x y v u Q I rx ry h hs;obtain⟨p,xs,i,z,rfl,rfl,hq,he,q⟩:=h;cases rx;obtain⟨t,rfl⟩:=ry;obtain⟨its,r,pl,hz⟩:=I.tuple hq;obtain⟨j,h1,h2,h3,h4,h5⟩:=wx he;obtain⟨w,ew,tQ⟩:=r.get h2;have hl:=r.length;have hn:=lZ;have fin:EP X af O Q w s:=⟨z,H,I,tQ,q⟩;exact subscriptTail_builtinR (x:=w) pl.typeIs slot_tuple_getitem.lookup (getItem_tuple (j:=j) (Q:=λr s'=>r=w/\EP X af O Q r s') pl aA aA (by rw[cC,<-hl];exact h1) (by simpa using ew) ⟨Z,fin⟩) hs
theorem Hg:jk X E5:=by
 intro value slice af s O H x y v u Q I rx ry h hs;obtain⟨z,i,c,rfl,rfl,hz,he,q⟩:=h;obtain⟨t,rfl⟩:=rx;obtain⟨t',rfl⟩:=ry;obtain⟨j,h1,h2,h3,h4,h5⟩:=wx he;have hl:z.cps.toList.length=z.length:=by simp[Str.length]
 rw[hl]at h1 h4 h5;have hn:=lZ;exact tail_any (typeIs_str s z t) slot_str_getitem.lookup (getItem_str (c:=c) (by have e1:decide (i< -(2^63:Int))=false:=gv aA;have e2:decide (i>=2^63)=false:=gv aA;rw[e1,e2,Bool.or_false]) (by rw[h1];simpa using h2) ⟨.str ⟨#[c]⟩,H,I.tok _,⟨_,Z⟩,q⟩) hs
theorem Gz(its:List Value)(n j:Nat)(u:Value):Obj.mapSeq (·.setIfInBounds j u) {cls:=.type "list",data:=.seq its.toArray n}={cls:=.type "list",data:=.seq (its.set j u).toArray n}:=by simp[Obj.mapSeq]
theorem Inv.lst{af:List (Addr×Obj)}{O:St}{H:Hp}{s:a7}{p:Addr}{xs:List V}(I:Inv X af O H s)(h:H p=some (.lst xs)): ∃(its:List Value)(n:Nat),Vals xs its/\s.heap.get? p=some {cls:=.type "list",data:=.seq its.toArray n}/\xs.length<=sizeLine:=by obtain⟨z,its,n,r,e⟩:=I.aD p _ h;exact⟨its,n,r,e,z⟩
theorem Inv.GI{af:List (Addr×Obj)}{O:St}{H:Hp}{s:a7}{p:Addr}{xs ys:List V}{its its':List Value}{n n':Nat}{f:Obj->Obj}(I:Inv X af O H s)(h:H p=some (.lst xs)) (ho:s.heap.get? p=some {cls:=.type "list",data:=.seq its.toArray n})(hf:f {cls:=.type "list",data:=.seq its.toArray n}={cls:=.type "list",data:=.seq its'.toArray n'})(r:Vals ys its')(hz:ys.length<=sizeLine)(t:Nat): Inv X af O (upd H p (.lst ys)) {s with heap:=s.heap.update p f,toks:=t}:=by
 have e:(s.heap.update p f).get? p=some {cls:=.type "list",data:=.seq its'.toArray n'}:=by rw[pe f ho (by rw[hf]<;>rfl),hf]
 refine I.write (x:=p) (e:=p) (by rw[h];trivial) (.inl Z) (λb u hb q=>(ph _ _ (ft hb)).trans q) ⟨_,e⟩ ?_;exact⟨hz,its',n',r,e⟩
inductive Ml(o:V)(i:V)(v:V)(H:Hp)(Q:Hp->Prop):Prop |mk (p:_)(xs:_)(k:_)(j:_)(h0:o= .ref p)(h1:i= .int k)(h2:H p=some (.lst xs))(h3:fC xs.length k=some j)(h4:Q (upd H p (.lst (xs.set j v))))
def E4:V->V->V->Hp->(Hp->Prop)->Prop:=λo i v H Q=>Ml o i v H Q
theorem set_list:BE X E4:=by
 intro af s O H o i v ov iv u Q I ro ri rv h;obtain⟨p,xs,k,j,rfl,rfl,hp,hj,q⟩:=h;cases ro;obtain⟨t,rfl⟩:=ri;obtain⟨its,n,r,ho,hz⟩:=I.lst hp;obtain⟨h1,h2,h3,h4⟩:=A9 hj;have hl:=r.length;have hn:=lZ;have I':Inv X af O (upd H p (.lst (xs.set j v))) {s with heap:=s.heap.update p (Obj.mapSeq (·.setIfInBounds j u))}:=I.GI hp ho (Gz its n j u) (r.set rv j) (by rw[p7];exact hz) s.toks;by_cases h0:0<=k
 ·have hk:k.toNat=j:=by rw[seqIndex_of h0 h4]at h1;exact ck h1
  exact PySem.W.ki_setAt ho h0 aA (by rw[cC,<-hl];exact h4) (by rw[hk];exact⟨_,I',q⟩)
 ·have hk:(k+(its.toArray.size:Int)).toNat=j:=by rw[seqIndex_neg aA h3]at h1;rw[cC,<-hl];exact ck h1
  exact PySem.W.ki_setBack ho aA (by rw[cC,<-hl];exact h3) aA (by rw[hk];exact⟨_,I',q⟩)
theorem KA:cP X (.builtin "len") (λxs H Q=>∃p ys,xs=[.ref p]/\(aF X.K H p ys\/aL X.K H p ys)/\Q (.int ys.length) H):=by
 intro af s O H xs us Q I r h;obtain⟨p,ys,rfl,hq,q⟩:=h;obtain⟨u,rfl,rx⟩:=vals1 r;cases rx;have hn:=lZ;rcases hq with hq|hq
 ·obtain⟨its,r',pl,hz⟩:=I.list hq
  have hlen:=r'.length;exact Calls.call_len_list pl.isList (by simp only[cC]<;>lia) ⟨.int ys.length,H,I.tok _,⟨s.toks+1,by rw[cC,hlen]⟩,q⟩
 ·obtain⟨its,r',pl,hz⟩:=I.tuple hq
  have hlen:=r'.length;exact len_tuple pl (by simp only[cC]<;>lia) ⟨.int ys.length,H,I.tok _,⟨s.toks+1,by rw[cC,hlen]⟩,q⟩
theorem Kz:cP X (.builtin "len") (λxs H Q=>∃z,xs=[.str z]/\z.length<=sizeLine/\Q (.int z.length) H):=by intro af s O H xs us Q I r h;obtain⟨z,rfl,hz,q⟩:=h;obtain⟨u,rfl,t,rfl⟩:=vals1 r;have hn:=lZ;exact len_str aA ⟨.int z.length,H,I.tok _,⟨_,Z⟩,q⟩
theorem cP.or{f:Value}{r r':List V->Hp->VK->Prop}(h:cP X f r)(h':cP X f r'):cP X f (λxs H Q=>r xs H Q\/r' xs H Q):=by
 intro af s O H xs us Q I rs q;rcases q with q|q
 ·exact h af s O H xs us Q I rs q
 ·exact h' af s O H xs us Q I rs q
theorem Ky:cP X (.type "tuple") (λxs H Q=>∃p ys,xs=[.ref p]/\((aF X.K H p ys/\∀l,H l=none->Q (.ref l) (upd H l (.tup ys)))\/(aL X.K H p ys/\Q (.ref p) H))):=by
 intro af s O H xs us Q I r h;obtain⟨p,ys,rfl,h⟩:=h;obtain⟨u,rfl,rx⟩:=vals1 r;cases rx;rcases h with⟨hq,q⟩|⟨hq,q⟩
 ·obtain⟨its,r',pl,hz⟩:=I.list hq
  have hlen:=r'.length;refine call_tuple_list pl.isList (λh' kp=>?_) (by simp only[cC]<;>lia);have I1:Inv X af O H {s with heap:=h'}:=I.kept (t':=s.toks) kp;have I2:Inv X af O (upd H h'.objs.size (.tup ys)) {s with heap:=h'.push {cls:=.type "tuple",data:=.seq its.toArray}}:=I1.laid (t':=s.toks) (λb o e=>aX _ e) (aU _) (show cN X.prog X.w _ _ _ (.tup ys)from⟨hz,its,r',IsTup.new _ _⟩);exact⟨.ref h'.objs.size,_,I2,Z,q _ (I1.aD.fresh (aU _))⟩
 ·obtain⟨its,r',pl,hz⟩:=I.tuple hq
  exact call_tuple_same pl ⟨.ref p,H,I,Z,q⟩
def xI(K:a6)(T:String)(x:V)(H:Hp):Prop:=match x with | .str _=>T="str" | .int _=>T="int" | .ref p=>(T="list"/\∃xs,aF K H p xs)\/(T="tuple"/\∃o,K.lookup p=some o/\o.cls= .type "tuple"/\o.dict=none)\/ (T="dict"/\((∃dz,H p=some (.dK dz))\/∃dz,H p=some (.dT dz)))\/(T="set"/\∃S n,H p=some (.set S n)) |_=>False
theorem Cv{af:List (Addr×Obj)}{O:St}{H:Hp}{s:a7}{T:String}{x:V}{v:Value}(I:Inv X af O H s)(r:RelV x v)(ty:xI X.K T x H): s.TypeIs v T/\∀a,v= .ref a->∃ob,s.heap.get? a=some ob/\ob.dict=none:=by cases x with
 |str z=>obtain⟨t,rfl⟩:=r;cases(show T="str" from ty);exact⟨typeIs_str s z t,λ_ e=>nomatch e⟩ |int i=>obtain⟨t,rfl⟩:=r;cases(show T="int" from ty);exact⟨typeIs_int s i t,λ_ e=>nomatch e⟩ |ref p=>
  cases r;rcases ty with⟨rfl,xs,hq⟩|⟨rfl,o,hk,hc,hd⟩|⟨rfl,hk⟩|⟨rfl,S,n,hk⟩
  ·obtain⟨its,_,pl,_⟩:=I.list hq
   refine⟨pl.isList.typeIs,λa e=>?_⟩;cases e;obtain⟨o,n,e,c,hd,_⟩:=pl;exact⟨o,e,hd⟩
  ·refine⟨⟨o,I.bU p o hk,hc⟩,λa e=>?_⟩
   cases e;exact⟨o,I.bU _ o hk,hd⟩
  ·have z:∃o,s.heap.get? p=some o/\o.ExactDict:=by
    rcases hk with⟨dz,hk⟩|⟨dz,hk⟩
    ·obtain⟨_,_,_,_,o,_,_,e,ex,_⟩:=I.aD p _ hk
     exact⟨o,e,ex⟩
    ·obtain⟨_,_,_,_,o,_,_,e,ex,_⟩:=I.aD p _ hk
     exact⟨o,e,ex⟩
   obtain⟨o,e,ex⟩:=z;refine⟨⟨o,e,ex.1⟩,λa e2=>?_⟩;cases e2;exact⟨o,e,ex.2.1⟩
  ·obtain⟨o,_,_,_,e,ex,_⟩:=I.aD p _ hk
   refine⟨⟨o,e,ex.1⟩,λa e2=>?_⟩;cases e2;exact⟨o,e,ex.2.1⟩ |_=>exact False.elim ty
def sE(K:a6)(T:String)(r:V->List V->Hp->VK->Prop)(to:TE)(t:TA):TE:=λO H Q=>to O H λx H1=>xI K T x H1/\t O H1 λxs H2=>r x xs H2 Q
variable {o e:Expr}{es:List Expr}{to:TE}{t:TA}{name:Str}{apos cL:Pos}{T id:String}{r:V->List V->Hp->VK->Prop}
theorem zB(pa:PlainAttrs T)(slot:Slot T name id)(uU:typeOf (.builtin id)=pure (.type "method_descriptor"))(hm:BH X id r)(ho:PE X o to)(ha:PA X (e::es) t) (om:attributeBase o name X.env (eval o X.env)=eval o X.env:=by rfl) (o8:((backTo cL (starEach (e::es) X.env)).all (λx=>!x.1)&&(backToKw cL (keywordEach [] X.env)).all (λx=>x.1.isSome) &&decide ((e::es).length+([]:List Keyword).length+(if([]:List Keyword).isEmpty then 0 else 1)<30))=true:=by rfl) (nY:(apos.endLine==cL.line)=true:=by rfl)(hs:starEach (e::es) X.env=(false,eval e X.env)::starEach es X.env:=by rfl)(nR:(backTo cL (starEach es X.env)).any (·.1)=false:=by rfl): PE X (.Call (.Attribute o name apos) (e::es) [] cL) (sE X.K T r to t):=by intro af s O H Q I h;refine wpAny_Call_method_late om o8 nY Z (az (ho af s O H _ I h) λv s1 ⟨x,H1,I1,r1,ty,q1⟩=>?_);obtain⟨h1,h2⟩:=Cv I1 r1 ty;refine⟨T,id,pa,slot,uU,h1,h2,?_⟩;have hA:=ha cL af s1 O H1 _ I1 q1;rw[hs]at hA⊢;refine Calls.callWith_builtin (by show(false||(backTo cL (starEach es X.env)).any (·.1))=false;rw[nR]<;>rfl) (Calls.evalArgs_plain ?_);exact az hA λus s2 ⟨vs,H2,I2,r2,q2⟩=>hm af s2 O H2 x vs v us Q I2 r1 r2 q2
end
def Lv(X:Cx)(id:String)(r:V->List V->Hp->VK->Prop):Prop:=∀(af:List (Addr×Obj))(s:a7)(O:St)(H:Hp)(x:V)(xs:List V)(v:Value)(us:List Value)(Q:VK),Inv X af O H s->RelV x v->Vals xs us->r x xs H Q->wpAny (model X.prog X.w) X.A (call (.builtin id) (v::us)) (EP X af O Q) X.xe s
theorem Vals.one:∀{x:V}{us:List Value},Vals [x] us->∃u,us=[u]/\RelV x u |_,_,.cons r .nil=>⟨_,Z,r⟩
theorem Vals.reverse{xs:List V}{us:List Value}(h:Vals xs us):Vals xs.reverse us.reverse:=by induction h with |nil=>exact .nil |cons r t ih=>rw[p6,p6];exact Vals.append ih (.cons r .nil)
section
variable {X:Cx}{af:List (Addr×Obj)}{O:St}{H:Hp}{s:a7}{l b:Addr}{xs ys zs:List V}
theorem Inv.GK{its its':List Value}{n:Nat}{f:Array Value->Array Value}{t':Nat}(I:Inv X af O H s)(hH:H l=some (.lst xs)) (e:s.heap.get? l=some {cls:=.type "list",data:=.seq its.toArray n})(hf:f its.toArray=its'.toArray)(hv:Vals ys its')(hz:ys.length<=sizeLine): Inv X af O (upd H l (.lst ys)) {s with heap:=s.heap.update l (Obj.mapSeq f),toks:=t'}:=by have q:=PySem.IsL.update e f;rw[hf]at q;refine I.write (x:=l) (e:=l) (by rw[hH];exact trivial) (.inl Z) (λb' u hb hu=>(ph s.heap (Obj.mapSeq f) (ft hb)).trans hu) ⟨_,q⟩ ?_;exact⟨hz,its',_,hv,q⟩
theorem Inv.uF{its:List Value}{t':Nat}(I:Inv X af O H s)(hv:Vals ys its)(hz:ys.length<=sizeLine): Inv X af O (upd H s.heap.objs.size (.lst ys)) {s with heap:=s.heap.push {cls:=.type "list",data:=.seq its.toArray},toks:=t'}:=I.laid (λ_ _ q=>aX _ q) (aU _) ⟨hz,its,0,hv,bS _ Z⟩
theorem Inv.GJ(I:Inv X af O H s)(hH:H l=some (.lst xs)):xs.length<=sizeLine/\∃(its:List Value)(n:Nat),Vals xs its/\xs.length=its.length/\s.heap.get? l=some {cls:=.type "list",data:=.seq its.toArray n}:=by obtain⟨z,its,n,r,e⟩:=I.aD l _ hH;exact⟨z,its,n,r,r.length,e⟩
end
section
variable {X:Cx}
inductive Mz(x:V)(vs:List V)(H:Hp)(Q:VK):Prop |mk (l:_)(xs:_)(y:_)(h0:x= .ref l)(h1:vs=[y])(h2:H l=some (.lst xs))(h3:xs.length<sizeLine)(h4:Q .bj (upd H l (.lst (xs++[y]))))
def zm:V->List V->Hp->VK->Prop:=λx vs H Q=>Mz x vs H Q
theorem qr:Lv X "list.append" zm:=by
 intro af s O H x vs v us Q I rx rv h;obtain⟨l,xs,y,rfl,rfl,hH,hz,q⟩:=h;cases rx;obtain⟨u,rfl,ru⟩:=rv.one;obtain⟨z,its,n,r,hl,e⟩:=I.GJ hH;refine call_meets F.slot_list_append ⟨_,e,Z⟩ F.entry_list_append (F.args_list_append_2 _ _) (PySem.list_append l its.toArray n u (by rw[cC];lia)) ⟨e,?_⟩;refine⟨.bj,_,I.GK (its':=its++[u]) hH e (by simp) (r.append (.cons ru .nil)) ?_,Z,q⟩;rw[fy,List.length_singleton]
 lia
end
section
variable {prog:a8}{w:World}{A:aa}{E:Value->a7->Prop}{s:a7}
end
section
variable {X:Cx}
end
end L2
namespace Att
open PySem PySem.W PySem.Calls PyProof.Rows
theorem Hk{P:Params}{h:Heap}:∀(ns:List Int)(vs:List Value),WellAll P h vs (ns.map WData.int)->IntsAre vs ns:=by intro ns;induction ns with |nil=>intro vs w;rw[List.map_nil]at w;cases w;exact .nil |cons n ns ih=>intro vs w;rw[rN]at w;cases w with |cons a b=>cases a;exact .cons _ _ (ih _ b)
theorem DF{l:OpenLaw}{n:Nat}(hn:l.most=some n){P:Params}{h:Heap}{args:List WData}{vals:List Value} (qx:l.row.toRowW.claim.pre args=true)(uS:WellAll P h vals args): ∃a vs ns,vals=[Value.ref a]/\args=[WData.list (ns.map WData.int)]/\h.get? a=some {cls:=.type "list",data:=.seq vs.toArray}/\IntsAre vs ns/\ns.length<=n:=by
 have HE:WShape.hasAll [] args [.list .int]=true:=(pre_splitW qx).1;have hc:l.pre.holds [] {args:=args}=true:=(pre_splitW qx).2;obtain⟨d,r,rfl,h1,h2⟩:=hasAllW_cons HE;obtain rfl:=hasAllW_nil h2;obtain⟨xs,rfl,h3⟩:=hasW_list h1;obtain⟨ns,rfl⟩:=items_int h3;have hlen:ns.length<=n:=by
  unfold OpenLaw.pre at hc;have h4:(WTm.not (.lt (.lit (.int (n:Int))) (.len (.arg 0)))).holds [] {args:=[.list (ns.map .int)]}=true:=by have h4:=(holds_andW hc).1;rw[hn]at h4;exact h4
  have h5:=condW_of h4 (w_not (w_lt w_lit (w_len_list (w_arg Z))));rw[br]at h5;refine Nat.le_of_not_lt λq=>?_;have q':(n:Int)<((ns.length:Nat):Int):=by omega
  first |(rw[eT q']at h5;exact absurd h5 aj) |(simp at h5;omega)
 cases uS with |cons w1 w2=>cases w2;cases w1 with |list ho vp=>exact⟨_,_,ns,Z,Z,ho,Hk ns _ vp,hlen⟩
theorem Ej(l:OpenLaw)(args:List WData):l.row.toRowW.claim.post args (.bool true) args=true:=postW_of (r:=l.row.toRowW) (X:=(true==true)) (show WShape.has [] (.bool true) .bool=true by first|rfl|decide|simp[WShape.has,WShape.arms,WShape.armsAll]) (show(WTm.eq .res (.lit (.bool true))).value [] {args:=args,res:=some (.bool true),after:=args}=some (.bool (true==true))from w_eq_bool (w_res Z) w_lit) rfl
theorem L5{l:OpenLaw}{n:Nat}{q:a8}{loose:List Str}{XP:(aM)->Heap->Prop}{YP:World->Heap->Prop}{d:DefRec} (hn:l.most=some n)(o9:d.params.defaults=[]) (call:∀(w:World)(s₀ s₁:a7)(mg mb:aM)(fa:Addr)(o:Obj)(pm cd doc:Value)(a:Addr)(vs:List Value)(ns:List Int),Ground q loose [] XP w s₀ mg mb s₁.heap->YP w s₁.heap->s₁.heap.get? fa=some o->o.data= .func (docDef d.name d.params d.body d.scope pm cd doc)->s₁.heap.CodeRec cd d.name->mg d.name=some (.ref fa)->s₁.heap.get? a=some {cls:=.type "list",data:=.seq vs.toArray}->IntsAre vs ns->ns.length<=n->s₁.gens=#[]->codeAny (model l.prog w) callerA (.call (.ref fa) ⟨[.ref a],[]⟩) (λr s'=>r= .ok (.ret (.bool true))/\OldK s₁.heap s'.heap/\s'.os=s₁.os/\AllBare s'.gens) s₁): WalkO q loose XP YP l.row.toRowW d [] (λf vs=>PySem.call f vs):=by intro w s₀ s₁ mg mb G Y fa o pm cd doc dV kV ho hd bZ hD nX hg args vals as qx Np Ni uS Nm;obtain rfl:dV= .none:=Dflts.none hD o9;obtain rfl:kV= .none:=Dflts.noKw hD;obtain⟨a,vs,ns,rfl,rfl,uZ,hints,hlen⟩:=DF hn qx uS;refine enter_call (mD (call w s₀ s₁ mg mb fa o pm cd doc a vs ns G Y ho (fd_plain hd) bZ nX uZ hints hlen hg) λr s' hq=>?_);obtain⟨rfl,h2,h3,h4⟩:=hq;exact⟨.inl ⟨.bool true,.bool true,[],Z,λ_=>rfl,.bool true,Ej l _,λ_=>⟨List.Pairwise.nil,λ_ hm=>(nomatch hm)⟩⟩,h2,h3,h4⟩
section
variable {prog:a8}{w:World}{A:aa}{E:Value->a7->Prop}{s:a7}{K:Frag}
end
end Att
namespace L2
open PySem PySem.Spec PyProof.Rows
theorem xG:∀{vs:List Value}{ns:List Int},IntsAre vs ns->Vals (ns.map V.int) vs |_,_,.nil=>.nil |_,_,.cons n t h=>.cons ⟨t,Z⟩ (xG h)
def wJ(H:Hp):Prop:=∀b,H b=none\/∃o xs,H b=some (.gT o (.lst xs))
theorem GY{P:a8}{w:World}{K:a6}{mg mb:aM}{CX:fm}{k:Nat}{fa a:Addr}{fd:FuncData}{x:Str}{sp:Sp}{s₁:a7}{vs:List Value}{ns:List Int} (KX:K.In s₁.heap)(Ao:s₁.heap.Ns mainGlobals mg)(hb:s₁.heap.Ns builtinsNs mb)(IJ:∀x:Str,x≠"__name__"->mb x=bootBuiltins x)(HS:s₁.heap.NoLimit)(hg:s₁.gens=#[]) (ha:s₁.heap.get? a=some {cls:=.type "list",data:=.seq vs.toArray})(hi:IntsAre vs ns)(hl:ns.length<=sizeLine)(hr:bo k callerA) (F:∀ag:Heap,K.In ag->ag.Ns mainGlobals mg->cO P w K mg ag CX k fa fd [x] sp)(II:∀(s:a7)(u:Value),BindsTo s fd ⟨[u],[]⟩ [(x,u)]) (cA:∀H:Hp,wJ H->aF K H a (ns.map V.int)->sp [.ref a] H (λv _=>v= .bl true) λ_ _ _=>False) (vy:∀H e s',CX [] H s₁ (λ_ _ _=>False) e s'->False): codeAny (model P w) callerA (.call (.ref fa) ⟨[.ref a],[]⟩) (λr s'=>r= .ok (.ret (.bool true))/\OldK s₁.heap s'.heap/\s'.os=s₁.os/\AllBare s'.gens) s₁:=by
 have rv:=xG hi;have GR:=hi.length;have core:∀H:Hp,wJ H->aF K H a (ns.map V.int)->bL P w H s₁.heap->(∀b,H b≠none->b=a)->(H a≠none->K.lookup a=none)->codeAny (model P w) callerA (.call (.ref fa) ⟨[.ref a],[]⟩) (λr s'=>r= .ok (.ret (.bool true))/\OldK s₁.heap s'.heap/\s'.os=s₁.os/\AllBare s'.gens) s₁:=by
  intro H hO hS aD hA hK;have Bn:∀{b:Addr}{o:Obj},s₁.heap.get? b=some o->H b=none->(jb s₁.heap H).get? b=some o:=λe n=>Io e n;have nF:∀{b:Addr}{o:Obj}{es:Array DictEntry}{ep:Nat},s₁.heap.get? b=some o->o.data= .dict es ep->H b=none:=λ{b o es ep} e d=>by cases q:H b with |none=>rfl |some u=>have e':b=a:=hA b (by rw[q];simp);subst e';rw[ha]at e;cases e;have d':Data.seq vs.toArray _=Data.dict es ep:=d;cases d'
  have qo:∀{b:Addr}{m:aM},s₁.heap.Ns b m->(jb s₁.heap H).Ns b m:=λ{b m} ⟨o,es,ep,e,d,r⟩=>⟨o,es,ep,Bn e (nF e d),d,r⟩;have AB:K.In (jb s₁.heap H):=λb o e=>Bn (KX b o e) (by cases q:H b with |none=>rfl |some u=>have e':b=a:=hA b (by rw[q];simp);subst e';rw[hK (by rw[q];simp)]at e;cases e);have hM:Mod K mg (jb s₁.heap H):=⟨AB,qo Ao,⟨mb,qo hb,IJ⟩,let⟨mc,h1,h2⟩:=HS;⟨mc,qo h1,h2⟩⟩;have e0:jt P w K mg (jb s₁.heap H) callerA [] s₁ H:=⟨Z,hM,λb o e=>FY e,Nat.le_of_eq (Im _ _),trivial,λb hb=>absurd (show b∈([]:List Addr)from hb) (by simp),aD,.of_eq hg⟩;refine mD ((F _ AB (qo Ao)).run callerA [] s₁ H ⟨[.ref a],[]⟩ [.ref a] [.ref a] _ _ hr e0 (II s₁ (.ref a)) (.cons Z .nil) (cA H hO hS)) λr s' h=>?_;cases r with |error e=>exact(vy H e s' h).elim |ok fl=>cases fl with |next=>exact False.elim h |brk=>exact False.elim h |cont=>exact False.elim h |ret u=>obtain⟨v,H',os,bare,un,HJ,r',q⟩:=h;have q':v= .bl true:=q;subst q';obtain rfl:u=Value.bool true:=r';refine⟨Z,OldK.of_keep λb o e=>?_,os,bare⟩;cases q:H b with |none=>exact un.keep b o e q (by intro z;exact absurd (show b∈([]:List Addr)from z) (by simp)) (by simp) |some u=>
   rcases hO b with z|⟨ob,xs,z⟩
   ·rw[q]at z;cases z
   ·have z2:=un.eL b ob _ z
    obtain⟨e1,_⟩:=aD b _ z;obtain⟨e2,_⟩:=HJ b _ z2;rw[e]at e1;cases e1;exact e2
 cases hk:K.lookup a with |some o=>have e:=KX a o hk;rw[ha]at e;cases e;refine core (λ_=>none) (λ_=>.inl Z) (.inr ⟨_,vs.toArray,_,hk,Z,Z,Z,by rw[cC,GR];exact hl,by simpa using rv⟩) (λb u z=>by have z':(none:Option HO)=some u:=z;cases z') (λb z=>absurd rfl z) λz=>absurd rfl z |none=>
  refine core (λb=>if b=a then some (.gT {cls:=.type "list",data:=.seq vs.toArray} (.lst (ns.map V.int)))else none) (λb=>?_) (.inl (.inr ⟨{cls:=.type "list",data:=.seq vs.toArray},aZ Z⟩)) (λb u z=>?_) (λb z=>?_) λ_=>hk
  ·by_cases hb:b=a
   ·exact .inr ⟨_,_,aZ hb⟩
   ·exact .inl (aY hb)
  ·by_cases hb:b=a
   ·have z':=(aZ hb).symm.trans z
    cases z';subst hb;exact⟨ha,by rw[br];exact hl,vs,_,rv,ha⟩
   ·have z':=(aY hb).symm.trans z
    cases z'
  ·by_cases hb:b=a
   ·exact hb
   ·exact absurd (aY hb) z
theorem Cp{l:PySem.W.OpenLaw}{n k:Nat}{q:a8}{loose:List Str}{XP:(aM)->Heap->Prop}{YP:World->Heap->Prop}{d:DefRec}{K:Params->a6}{CX:World->fm}{sp:World->Sp}{x:Str} (hn:l.most=some n)(jP:n<=sizeLine)(o9:d.params.defaults=[])(hr:bo k callerA) (hY:∀(w:World)(h:Heap),YP w h->(K w.params).In h) (F:∀(w:World)(mg:aM)(fa:Addr)(h:Heap),(K w.params).In h->h.Ns mainGlobals mg->mg d.name=some (.ref fa)->∃fd:FuncData,(∀(s:a7)(u:Value),BindsTo s fd ⟨[u],[]⟩ [(x,u)])/\∀ag:Heap,(K w.params).In ag->ag.Ns mainGlobals mg->cO l.prog w (K w.params) mg ag (CX w) k fa fd [x] (sp w)) (cA:∀(w:World)(H:Hp)(a:Addr)(ns:List Int),ns.length<=n->wJ H->aF (K w.params) H a (ns.map V.int)->sp w [.ref a] H (λv _=>v= .bl true) λ_ _ _=>False) (vy:∀(w:World)(H:Hp)(s:a7)(e:Value)(s':a7),CX w [] H s (λ_ _ _=>False) e s'->False): PySem.W.WalkO q loose XP YP l.row.toRowW d [] (λf vs=>PySem.call f vs):=by refine Att.L5 hn o9 λw s₀ s₁ mg mb fa o pm cd doc a vs ns G Y ho hd bZ nX uZ hints hlen hg=>?_;have KX:=hY w _ Y;obtain⟨fd,hb,hF⟩:=F w mg fa _ KX G.T.g nX;exact GY KX G.T.g G.T.b G.T.builtins G.T.nolimit hg uZ hints (fu hlen jP) hr hF hb (λH hO hS=>cA w H a ns hlen hO hS) λH e s'=>vy w H s₁ e s'
def inClass(s:Stmt)(j:Nat):Stmt:=match s with | .ClassDef _ _ _ body _ _ _ _ _ _ _=>body.getD j (.Pass ⟨0,0,0,0⟩) |_=>.Pass ⟨0,0,0,0⟩
def eN(s:Stmt):Arguments:=match s with | .FunctionDef _ a _ _ _ _ _ _ _ _=>a |_=>{posonlyargs:=[],args:=[],vararg:=none,kwonlyargs:=[],kw_defaults:=[],kwarg:=none,defaults:=[]}
def cB(s:Stmt):List Stmt:=match s with | .FunctionDef _ _ b _ _ _ _ _ _ _=>b |_=>[]
def aO(s:Stmt):Scope:=match s with | .FunctionDef _ _ _ _ _ _ sc _ _ _=>sc |_=>{kind:=.function,names:=[],isGenerator:=false,isCoroutine:=false}
abbrev dr:fm:=λ_ _ _ _ _ _=>False
abbrev E0:XK:=λ_ _ _=>False
theorem ug{X:Cx}:Passes dr X E0:=λ_ _ _ _ _ _ _ h=>h.elim
structure fk(K:a6)(x qual:Str)(st:Stmt)(f:Addr)(fd:FuncData):Prop where
 ex:∃(oc:Value)(od:Option Addr)(kV doc pm:Value)(an:Option Addr)(ao ct:Value)(bX:Array (Option Value)),fd=PySem.W.fnOf x qual (eN st) (cB st) (aO st) .none kV doc pm an ao ct/\K.lookup f=some ⟨oc,od,.func fd,bX⟩/\PySem.W.codeIn K ao qual=true
 kp:PySem.W.keepIn K (.ref f)=true
section
variable {P:a8}{w:World}{K:a6}{mg:aM}{ag:Heap}
theorem fk.ok{x qual:Str}{st:Stmt}{f:Addr}{fd:FuncData}{N ps:List Str}{k:Nat}{sp:Sp}(F:fk K x qual st f fd)(S:bp N ps (aO st))(len:∀vs H Q E,sp vs H Q E->vs.length=ps.length) (cG:∀(ao:Value)(A:aa)(outer:List Env)(s:a7)(H:Hp)(vs:List V)(Q:VK)(E:XK),bo k (A.deeper (envOfC qual (aO st) s.heap.objs.size f ao))->sp vs H Q E->∃t,cw (dA dr P w K mg ag N qual (aO st) f ao A outer s H E).kI (cB st) t/\t {nx:=λ_ H'=>Q .bj H',rt:=Q} (start N vs) H):cO P w K mg ag dr (k+1) f fd ps sp:=by obtain⟨oc,od,kV,doc,pm,an,ao,ct,bX,rfl,lk,bZ⟩:=F.ex;refine vG lk bZ S len λA outer s H vs Q E hr cA=>?_;obtain⟨t,h,q⟩:=cG ao A outer s H vs Q E hr cA;exact⟨t,h.kI,q⟩
theorem fk.binds{x qual:Str}{st:Stmt}{f:Addr}{fd:FuncData}{ps:List Str}(F:fk K x qual st f fd) (h:∀(kV doc pm:Value)(an:Option Addr)(ao ct:Value)(us:List Value),us.length=ps.length->bindArgs (PySem.W.fnOf x qual (eN st) (cB st) (aO st) .none kV doc pm an ao ct) ⟨us,[]⟩=pure (ps.zip us)):Binds K fd ps []:=by obtain⟨oc,od,kV,doc,pm,an,ao,ct,bX,rfl,lk,bZ⟩:=F.ex;exact .all (h kV doc pm an ao ct)
theorem qE{x qual:Str}{st:Stmt}{f:Addr}{oc:Value}{od an:Option Addr}{bX:Array (Option Value)}{kV doc pm ao ct:Value}(l:K.lookup f=some ⟨oc,od,.func (PySem.W.fnOf x qual (eN st) (cB st) (aO st) .none kV doc pm an ao ct),bX⟩) (c:PySem.W.codeIn K ao qual=true)(k:PySem.W.keepIn K (.ref f)=true):fk K x qual st f (PySem.W.fnOf x qual (eN st) (cB st) (aO st) .none kV doc pm an ao ct):=⟨⟨oc,od,kV,doc,pm,an,ao,ct,bX,Z,l,c⟩,k⟩
end
section
variable {X:Cx}
theorem pv(i:Nat){x:Str}{pos:Pos}(hN:X.N[i]? =some x:=by rfl)(hv:wB X.env.scope x:=by first|exact Or.inl rfl|exact Or.inr (Or.inl rfl)|exact Or.inr (Or.inr rfl))(hd:(x==("__debug__":Str))=false:=by decide) (bZ:(x==("__classdict__":Str))=false:=by decide):PE X (.Name x pos) (sC i):=EE hN hv hd bZ
end
theorem bz{A B:Prop}(h:B):if false=true then A else B:=by rw[aY dS];exact h
theorem bN{A B:Prop}(h:A):if true=true then A else B:=by rw[aZ rfl];exact h
theorem dY{c A B:Prop}[Decidable c](h1:c->A)(h2:¬c->B):if c then A else B:=by
 by_cases h:c
 ·rw[aZ h]
  exact h1 h
 ·rw[aY h]
  exact h2 h
def au(H H':Hp):Prop:=∀b o,H b=some o->H' b=some o
theorem au.refl(H:Hp):au H H:=λ_ _ h=>h
theorem au.trans{H H1 H2:Hp}(a:au H H1)(b:au H1 H2):au H H2:=λc o h=>b c o (a c o h)
theorem au.seq{K:a6}{H H':Hp}{a:Addr}{xs:List V}(e:au H H')(h:aF K H a xs):aF K H' a xs:=by
 rcases h with(h|⟨o,h⟩)|h
 ·exact .inl (.inl (e _ _ h))
 ·exact .inl (.inr ⟨o,e _ _ h⟩)
 ·exact .inr h
def Wd (i:Int):Prop:=i.natAbs<2^5000
theorem Wd.log{i:Int}(h:Wd i):i.natAbs.log2<9000:=by
 by_cases e:i.natAbs=0
 ·rw[e];decide
 ·have h1:i.natAbs.log2<5000:=(Nat.log2_lt e).mpr h
  lia
section
variable {X:Cx}
theorem zE:bF X (binaryOp .FloorDiv) (rI (λ_ j=>0<j/\Wd j) λi j=>.int (i/j)):=ql λi j _ _ _ _ _ hc q=>by have h1:(0:Int)<j:=hc.1;exact floordiv_int aA (by rw[Int.fdiv_eq_ediv_of_nonneg i aA];exact q) (.inl (PyProof.noPylong_of_log2 hc.2.log))
end
def lj(K:a6)(H:Hp)(x:V)(T:String):Prop:=match x with | .bj=>T="NoneType" | .bl _=>T="bool" | .int _=>T="int" | .str _=>T="str" | .ref a=>(T="list"/\∃xs,aF K H a xs)\/(T="tuple"/\∃xs,aL K H a xs) |_=>False
def dD(T n:String):Bool:=T==n||(T=="bool"&&n=="int")
def pF:List String:=["NoneType","bool","int","str","list","tuple"]
def mO:List String:=["bool","int","str","list","tuple"]
theorem A6{K:a6}{T n:String}(h1:T∈pF)(h2:n∈mO):PySem.W.kitOne K (.type T) (.type n)=some (dD T n):=by
 have all:pF.all (λT=>mO.all λn=>PySem.W.kitOne [] (.type T) (.type n)==some (dD T n))=true:=by decide+kernel
 have a1:=du.mp all T h1;have a2:=du.mp a1 n h2;have e:PySem.W.kitOne K (.type T) (.type n)=PySem.W.kitOne [] (.type T) (.type n):=by unfold PySem.W.kitOne PySem.W.kitCls PySem.W.subIn;rfl
 rw[e];exact cx.mp a2
section
variable {X:Cx}
theorem lj.mem{K:a6}{H:Hp}{x:V}{T:String}(h:lj K H x T):T∈pF:=by cases x with |bj=>cases(show T="NoneType" from h);decide |bl b=>cases(show T="bool" from h);decide |int b=>cases(show T="int" from h);decide |str b=>cases(show T="str" from h);decide |ref a=>rcases(show(T="list"/\∃xs,aF K H a xs)\/(T="tuple"/\∃xs,aL K H a xs)from h)with⟨e,_⟩|⟨e,_⟩<;>cases e<;>decide |_=>exact(show False from h).elim
theorem A7{af:List (Addr×Obj)}{s:a7}{O:St}{H:Hp}{x:V}{u:Value}{T:String}(I:Inv X af O H s)(rx:RelV x u)(ty:lj X.K H x T): ∃P:Heap->Prop,PySem.W.KitX X.K u (.type T) P/\P s.heap/\u≠ .builtin "__main__.__loader__#opaque":=by cases x with
 |bj=>cases(show T="NoneType" from ty);cases(show u=Value.none from rx);exact⟨_,PySem.W.kitx_none,True.intro,λz=>nomatch z⟩ |bl b=>cases(show T="bool" from ty);cases(show u=Value.bool b from rx);exact⟨_,PySem.W.kitx_bool,True.intro,λz=>nomatch z⟩ |int b=>cases(show T="int" from ty);obtain⟨t,q⟩:=(show∃t,u=Value.int b t from rx);cases q;exact⟨_,PySem.W.kitx_int,True.intro,λz=>nomatch z⟩ |str b=>cases(show T="str" from ty);obtain⟨t,q⟩:=(show∃t,u=Value.str b t from rx);cases q;exact⟨_,PySem.W.kitx_str,True.intro,λz=>nomatch z⟩ |ref a=>
  cases(show u=Value.ref a from rx);rcases(show(T="list"/\∃xs,aF X.K H a xs)\/(T="tuple"/\∃xs,aL X.K H a xs)from ty)with⟨e,xs,hx⟩|⟨e,xs,hx⟩
  ·cases e
   obtain⟨its,r,⟨o,n,h1,h2,_⟩,_⟩:=I.list hx;exact⟨_,PySem.W.kitx_list,⟨o,h1,h2⟩,λz=>nomatch z⟩
  ·cases e
   obtain⟨its,r,⟨o,h1,h2,_⟩,_⟩:=I.tuple hx;exact⟨_,PySem.W.kitx_tuple,⟨o,h1,h2⟩,λz=>nomatch z⟩ |_=>exact(show False from ty).elim
inductive Ms(K:a6)(xs:List V)(H:Hp)(Q:VK):Prop |mk (x:_)(T:_)(n:_)(b:_)(h0:xs=[x,.ty n])(h1:lj K H x T)(h2:n∈mO)(h3:dD T n=b)(h4:Q (.bl b) H)
def u6(K:a6):List V->Hp->VK->Prop:=λxs H Q=>Ms K xs H Q
theorem KD:cP X (.builtin "isinstance") (u6 X.K):=by intro af s O H xs us Q I r h;obtain⟨x,T,n,b,rfl,ty,hn,rfl,q⟩:=h;obtain⟨u,c,rfl,rx,rc⟩:=vals2 r;cases(show c=Value.type n from rc);obtain⟨P,NQ,p,hx⟩:=A7 I rx ty;exact PySem.W.kia_one NQ I.bU p (A6 ty.mem hn) hx λtk=>⟨.bl (dD T n),H,I.tok _,Z,q⟩
inductive Mr(K:a6)(xs:List V)(H:Hp)(Q:VK):Prop |mk (x:V)(T:String)(p:Addr)(ns:List String)(b:Bool)(h0:xs=[x,.ref p])(h1:H p=some (.tup (ns.map V.ty)))(h2:lj K H x T)(h3:(∀n∈ns,n∈mO))(h4:ns.any (dD T)=b)(h5:Q (.bl b) H)
def u5(K:a6):List V->Hp->VK->Prop:=λxs H Q=>Mr K xs H Q
theorem A5{K:a6}{T:String}(h1:T∈pF):∀{ns:List String},(∀n∈ns,n∈mO)->PySem.W.kitAny K (.type T) (ns.map Value.type)=some (ns.any (dD T)) |[],_=>rfl |n::r,h=>by have e:=A6 (K:=K) h1 (h n (xt ..));have ih:=A5 (K:=K) h1 (ns:=r) λm hm=>h m (mG _ hm);rw[rN,PySem.W.kitAny,e,rT];cases dD T n with |true=>rfl |false=>simpa using ih
theorem xF:∀{ns:List String}{us:List Value},Vals (ns.map V.ty) us->us=ns.map Value.type |[],_,.nil=>rfl |n::r,_,.cons q t=>by cases(show _=Value.type n from q);rw[xF t];rfl
theorem KC:cP X (.builtin "isinstance") (u5 X.K):=by intro af s O H xs us Q I r h;obtain⟨x,T,p,ns,b,rfl,hp,ty,hn,rfl,q⟩:=h;obtain⟨u,c,rfl,rx,rc⟩:=vals2 r;cases(show c=Value.ref p from rc);obtain⟨P,NQ,pp,hx⟩:=A7 I rx ty;obtain⟨_,its,rv,⟨cls,dd,dt,sl⟩,h1,h2,n,h3⟩:=(show cN X.prog X.w H s.heap p (.tup (ns.map V.ty))from I.aD p _ hp);simp only at h2 h3;subst h2 h3;have e:=xF rv;subst e;exact PySem.W.kia_tup NQ I.bU pp h1 (A5 ty.mem hn) hx λtk=>⟨.bl _,H,I.tok _,Z,q⟩
end
mutual
def RD(K:a6)(H:Hp):V->a9->Prop |x,.none=>x= .bj |x,.bool b=>x= .bl b |x,.int i=>x= .int i |x,.str y=>x= .str y |x,.list ds=>∃a xs,x= .ref a/\aF K H a xs/\aw K H xs ds |x,.tuple ds=>∃a xs,x= .ref a/\aL K H a xs/\aw K H xs ds |_,.dict _=>False
def aw (K:a6)(H:Hp):List V->List a9->Prop |xs,[]=>xs=[] |xs,d::ds=>∃y ys,xs=y::ys/\RD K H y d/\aw K H ys ds
end
section
variable {X:Cx}
mutual
theorem RD.reads{af:List (Addr×Obj)}{s:a7}{O:St}{H:Hp}(I:Inv X af O H s):∀{x:V}{u:Value}(d:a9),RelV x u->RD X.K H x d->∃as,Reads s.heap u d as |x,u,.none,r,h=>by cases(show x= .bj from by simpa[RD]using h);cases(show u=Value.none from r);exact⟨_,.none⟩ |x,u,.bool b,r,h=>by cases(show x= .bl b from by simpa[RD]using h);cases(show u=Value.bool b from r);exact⟨_,.bool b⟩ |x,u,.int i,r,h=>by cases(show x= .int i from by simpa[RD]using h);obtain⟨t,q⟩:=(show∃t,u=Value.int i t from r);cases q;exact⟨_,.int i t⟩ |x,u,.str y,r,h=>by cases(show x= .str y from by simpa[RD]using h);obtain⟨t,q⟩:=(show∃t,u=Value.str y t from r);cases q;exact⟨_,.str y t⟩ |x,u,.list ds,r,h=>by rw[RD]at h;obtain⟨a,xs,rfl,hx,hd⟩:=h;cases(show u=Value.ref a from r);obtain⟨its,rv,⟨o,n,h1,h2,h3,h4⟩,_⟩:=I.list hx;obtain⟨as,q⟩:=aw.reads I ds rv hd;exact⟨_,.list h1 h2 h4 (by simpa using q)⟩ |x,u,.tuple ds,r,h=>by rw[RD]at h;obtain⟨a,xs,rfl,hx,hd⟩:=h;cases(show u=Value.ref a from r);obtain⟨its,rv,⟨o,h1,h2,n,h4⟩,_⟩:=I.tuple hx;obtain⟨as,q⟩:=aw.reads I ds rv hd;exact⟨_,.tuple h1 h2 h4 (by simpa using q)⟩ |x,u,.dict _,r,h=>by simp[RD]at h
theorem aw.reads {af:List (Addr×Obj)}{s:a7}{O:St}{H:Hp}(I:Inv X af O H s):∀{xs:List V}{us:List Value}(ds:List a9),Vals xs us->aw X.K H xs ds->∃as,ReadsAll s.heap us ds as |xs,us,[],r,h=>by cases(show xs=[]from by simpa[aw]using h);cases r;exact⟨_,.nil⟩ |xs,us,d::ds,r,h=>by rw[aw]at h;obtain⟨y,ys,rfl,h1,h2⟩:=h;cases r with |cons ra rb=>obtain⟨as,q⟩:=RD.reads I d ra h1;obtain⟨bs,q'⟩:=aw.reads I ds rb h2;exact⟨_,.cons q q'⟩
end
inductive Mw(K:a6)(x:V)(y:V)(H:Hp)(Q:VK):Prop |mk (d:_)(e:_)(h0:RD K H x d)(h1:RD K H y e)(h2:SeqAt.shaped d=true)(h3:SeqAt.shaped e=true)(h4:Q (.bl (PyData.eqv d e)) H)
def u7(K:a6):R2:=λx y H Q=>Mw K x y H Q
inductive Mm(K:a6)(x:V)(y:V)(H:Hp)(Q:VK):Prop |mk (d:_)(e:_)(h0:RD K H x d)(h1:RD K H y e)(h2:SeqAt.shaped d=true)(h3:SeqAt.shaped e=true)(h4:Q (.bl (!PyData.eqv d e)) H)
def tX(K:a6):R2:=λx y H Q=>Mm K x y H Q
theorem F2(hu:X.A.units+64<cLine):bF X (compareOp .Eq) (u7 X.K):=by intro af s O H x y v u Q I rx ry h;obtain⟨d,e,hd,he,sd,se,q⟩:=h;obtain⟨as,ra⟩:=RD.reads I d rx hd;obtain⟨bs,rb⟩:=RD.reads I e ry he;exact eq_dataH ra rb sd se hu ⟨.bl _,H,I,Z,q⟩
theorem EV(hu:X.A.units+64<cLine):bF X (compareOp .NotEq) (tX X.K):=by intro af s O H x y v u Q I rx ry h;obtain⟨d,e,hd,he,sd,se,q⟩:=h;obtain⟨as,ra⟩:=RD.reads I d rx hd;obtain⟨bs,rb⟩:=RD.reads I e ry he;exact ne_dataH ra rb sd se hu ⟨.bl _,H,I,Z,q⟩
end
theorem au.new{H:Hp}{t:Addr}{o:HO}(ht:H t=none):au H (upd H t o):=λb o' e=>by rw[aI (cz e ht)];exact e
structure Nw(H H':Hp)(p:Addr)(o:HO):Prop where
 no:H p=none
 at':H' p=some o
 same:au H H'
 eq:H'=upd H p o
theorem Nw.of{H:Hp}{p:Addr}{o:HO}(h:H p=none):Nw H (upd H p o) p o:=⟨h,bw,.new h,Z⟩
def qQ:List Str:=["len","abs","min","max","range","isinstance","int","bool","str","tuple","list","any","all","sum","zip","enumerate","sorted","reversed","ord","chr","divmod","repr","dict","set"]
def bI (mg:aM):Prop:=∀x∈qQ,mg x=none
theorem bI.at{mg:aM}(B:bI mg)(x:Str)(h:x∈qQ:=by decide):mg x=none:=B x h
theorem iD{α:Type}{C:List α->Prop}(h:∀a,C [a]):∀us:List α,us.length=1->C us |[_],_=>h _
theorem eO{α:Type}{C:List α->Prop}(h:∀a b,C [a,b]):∀us:List α,us.length=2->C us |[_,_],_=>h _ _
theorem mq{α:Type}{C:List α->Prop}(h:∀a b c,C [a,b,c]):∀us:List α,us.length=3->C us |[_,_,_],_=>h _ _ _
theorem Bx{α:Type}{C:List α->Prop}(h:∀a b c d,C [a,b,c,d]):∀us:List α,us.length=4->C us |[_,_,_,_],_=>h _ _ _ _
def AI(N P:List Str)(sc:Scope):Bool:=decide (sc.kind= .function)&& !sc.isCoroutine&& !sc.isGenerator&&decide N.Nodup&&decide (N.take P.length=P)&&P.all (λx=>decide (sc.names.lookup x=some .local\/sc.names.lookup x=some .cell))&&sc.names.all λy=>decide (y.2≠ .free)
theorem bT{N P:List Str}{sc:Scope}(h:AI N P sc=true):bp N P sc:=by unfold AI at h;simp only[cI,decide_eq_true_eq,Bool.not_eq_true',du]at h;obtain⟨⟨⟨⟨⟨⟨h1,h2⟩,h3⟩,h4⟩,h5⟩,h6⟩,h7⟩:=h;exact⟨h1,h2,h3,h4,h5,h6,h7⟩
structure FA(K:a6)(mg:aM)(x:Str)(st:Stmt):Prop where ex:∃f fd,mg x=some (.ref f)/\fk K x x st f fd
def aP(P:a8)(w:World)(K:a6)(mg:aM)(ag:Heap)(x:Str)(k:Nat)(sp:Sp):Prop:=∃f fd ps,cO P w K mg ag dr k f fd ps sp/\mg x=some (.ref f)/\PySem.W.keepIn K (.ref f)=true/\Binds K fd ps []
section
variable {P:a8}{w:World}{K:a6}{mg:aM}{ag:Heap}
theorem JM{h:Heap}{x:Str}{st:Stmt}{f:Addr}{oc:Value}{od an:Option Addr}{bX:Array (Option Value)}{kV doc pm ao ct:Value}(X:K.In h)(G:h.Ns mainGlobals mg) (a:PySem.W.nsIn K mainGlobals x=some (some (.ref f))) (l:K.lookup f=some ⟨oc,od,.func (PySem.W.fnOf x x (eN st) (cB st) (aO st) .none kV doc pm an ao ct),bX⟩) (c:PySem.W.codeIn K ao x=true)(k:PySem.W.keepIn K (.ref f)=true):FA K mg x st:=⟨f,_,oZ X G a,qE l c k⟩
theorem FA.has{x:Str}{st:Stmt}{N ps:List Str}{k:Nat}{sp:Sp}(F:FA K mg x st)(S:bp N ps (aO st))(len:∀vs H Q E,sp vs H Q E->vs.length=ps.length) (hb:∀(kV doc pm:Value)(an:Option Addr)(ao ct:Value)(us:List Value),us.length=ps.length->bindArgs (PySem.W.fnOf x x (eN st) (cB st) (aO st) .none kV doc pm an ao ct) ⟨us,[]⟩=pure (ps.zip us)) (cG:∀(f:Addr)(ao:Value)(A:aa)(outer:List Env)(s:a7)(H:Hp)(vs:List V)(Q:VK)(E:XK),bo k (A.deeper (envOfC x (aO st) s.heap.objs.size f ao))->sp vs H Q E->∃t,cw (dA dr P w K mg ag N x (aO st) f ao A outer s H E).kI (cB st) t/\t {nx:=λ_ H'=>Q .bj H',rt:=Q} (start N vs) H):aP P w K mg ag x (k+1) sp:=by obtain⟨f,fd,hm,F⟩:=F.ex;exact⟨f,fd,ps,F.ok S len λao A outer s H vs Q E=>cG f ao A outer s H vs Q E,hm,F.kp,F.binds hb⟩
end
section
variable {X:Cx}{k:Nat}{x:Str}{p pos:Pos}{e:Expr}{es:List Expr}{t:TA}{sp:Sp}
def xQ(sp:Sp)(t:TA):TE:=λO H Q=>t O H λvs H1=>sp vs H1 Q E0
theorem EO(F:aP X.prog X.w X.K X.mg X.ag x k sp)(hr:bo k X.A)(hg:Gl X x)(ha:PA X (e::es) t)(dc:(x==("__debug__":Str))=false:=by decide) (he:starEach (e::es) X.env=(false,eval e X.env)::starEach es X.env:=by rfl)(cK:(backTo pos (starEach es X.env)).any (·.1)=false:=by rfl): PE X (.Call (.Name x p) (e::es) [] pos) (xQ sp t):=by
 obtain⟨f,fd,ps,F,hm,hk,hb⟩:=F;have h:=zA (pos:=pos) (p:=p) F hr hg hm hk hb .nil ug ha dc he cK;intro af s O H Q I hq;refine h af s O H Q I ?_;have e1:(λ(vs:List V) H1=>sp (vs++[]) H1 Q E0)=λvs H1=>sp vs H1 Q E0:=by funext vs H1;rw[fH]
 show t O H λvs H1=>sp (vs++[]) H1 Q E0;rw[e1];exact hq
theorem pf{j:Nat}(F:aP X.prog X.w X.K X.mg X.ag x j sp)(hr:bo k X.A)(ha:PA X (e::es) t)(HZ:j<=k:=by decide)(hg:Gl X x:=by rfl)(dc:(x==("__debug__":Str))=false:=by decide)(he:starEach (e::es) X.env=(false,eval e X.env)::starEach es X.env:=by rfl)(cK:(backTo pos (starEach es X.env)).any (·.1)=false:=by rfl):PE X (.Call (.Name x p) (e::es) [] pos) (xQ sp t):=EO F (hr.mono HZ) hg ha dc he cK
theorem i9:bF X (binaryOp .Mult) (rI (λi j=>IntMulOk i j) λi j=>.int (i*j)):=ql λ_ _ _ _ _ _ _ hc q=>mul_int q hc
theorem F1:bF X (compareOp .Eq) (fA λi j=>.bl (decide (i=j))):=lT λ_ _ _ _ _ _ _ q=>eq_int (by rw[Bool.beq_eq_decide_eq];exact q)
theorem EU:bF X (compareOp .NotEq) (fA λi j=>.bl (!decide (i=j))):=lT λ_ _ _ _ _ _ _ q=>ne_int (by rw[bne,Bool.beq_eq_decide_eq];exact q)
theorem F3(hu:X.A.units+64<cLine):bF X (compareOp .Eq) (λx y H Q=>fA (λi j=>.bl (decide (i=j))) x y H Q\/u7 X.K x y H Q):=F1.or (F2 hu)
theorem EW(hu:X.A.units+64<cLine):bF X (compareOp .NotEq) (λx y H Q=>fA (λi j=>.bl (!decide (i=j))) x y H Q\/tX X.K x y H Q):=EU.or (EV hu)
mutual
theorem eqv_refl:∀d:a9,d.canLay0=true->PyData.eqv d d=true | .none,_=>by simp[PyData.eqv] | .bool b,_=>by simp[PyData.eqv] | .int i,_=>by simp[PyData.eqv] | .str x,_=>by simp[PyData.eqv] | .list ds,h=>by simp only[PyData.eqv];exact eqvAll_refl ds (by simpa[PyData.canLay0]using h) | .tuple ds,h=>by simp only[PyData.eqv];exact eqvAll_refl ds (by simpa[PyData.canLay0]using h) | .dict _,h=>by simp[PyData.canLay0]at h
theorem eqvAll_refl:∀ds:List a9,PyData.canLayAll0 ds=true->PyData.eqvAll ds ds=true |[],_=>by simp[PyData.eqvAll] |d::ds,h=>by simp only[PyData.canLayAll0,cI]at h;simp only[PyData.eqvAll,cI];exact⟨eqv_refl d h.1,eqvAll_refl ds h.2⟩
end
theorem dw{K:a6}{H:Hp}(i:Int):RD K H (.int i) (.int i):=by simp[RD]
theorem cq{K:a6}{H:Hp}(x:Str):RD K H (.str x) (.str x):=by simp[RD]
theorem DT{K:a6}{H:Hp}:RD K H .bj .none:=by simp[RD]
theorem dF{K:a6}{H:Hp}{p:Addr}{xs:List V}{ds:List a9}(h:aL K H p xs)(r:aw K H xs ds):RD K H (.ref p) (.tuple ds):=by rw[RD];exact⟨p,xs,Z,h,r⟩
theorem zi{K:a6}{H:Hp}{p:Addr}{xs:List V}{ds:List a9}(h:aF K H p xs)(r:aw K H xs ds):RD K H (.ref p) (.list ds):=by rw[RD];exact⟨p,xs,Z,h,r⟩
theorem bW{K:a6}{H:Hp}:aw K H [] []:=by simp[aw]
theorem bJ{K:a6}{H:Hp}{x:V}{xs:List V}{d:a9}{ds:List a9}(h:RD K H x d)(r:aw K H xs ds):aw K H (x::xs) (d::ds):=by rw[aw];exact⟨x,xs,Z,h,r⟩
inductive LI(t:TS)(D:Ends)(O:St)(H:Hp):Prop |mk (wK:St->Hp->Prop)(h0:t {D with nx:=wK} O H)(h1:∀σ' H',wK σ' H'->D.nx σ' H')
def Dj (t:TS):TS:=λD O H=>LI t D O H
theorem ky{st:Stmt}{t:TS}(h:PS X st t):PS X st (Dj t):=by intro af s O H D I hq;obtain⟨wK,q,m⟩:=hq;refine az (h af s O H _ I q) λf s1 q1=>?_;cases f with |next=>obtain⟨σ',H',I',q'⟩:=q1;exact⟨σ',H',I',m _ _ q'⟩ |brk=>exact q1 |cont=>exact q1 |ret u=>exact q1
end
def jZ(K:a6)(xs:List Str):Prop:=∀x∈xs,PySem.W.nsIn K mainGlobals x=some none
theorem jZ.nil{K:a6}:jZ K []:=λ_ h=>nomatch h
theorem jZ.cons{K:a6}{x:Str}{xs:List Str}(a:PySem.W.nsIn K mainGlobals x=some none)(r:jZ K xs):jZ K (x::xs):=λy hy=>by
 rcases bR.mp hy with e|e
 ·rw[e];exact a
 ·exact r y e
theorem KR{K:a6}{mg:aM}{h:Heap}(X:K.In h)(G:h.Ns mainGlobals mg)(a:jZ K qQ):bI mg:=λx hx=>PySem.W.mg_none_of X G (a x hx)
theorem GX{l:PySem.W.OpenLaw}{q:a8}{loose:List Str}{XP:(aM)->Heap->Prop}{YP:World->Heap->Prop}{d:DefRec}{K:Params->a6}{k:Nat}{x:Str}{st:Stmt}(hn:l.most=some 63)(o9:d.params.defaults=[]) (hr:bo k callerA)(hY:∀(w:World)(h:Heap),YP w h->(K w.params).In h)(All:a6->(aM)->Prop) (F:∀(w:World)(mg:aM)(h:Heap),(K w.params).In h->h.Ns mainGlobals mg->All (K w.params) mg) (L:∀(K:a6)(mg:aM),All K mg->FA K mg d.name st) (hb:∀(kV doc pm:Value)(an:Option Addr)(ao ct u:Value),bindArgs (PySem.W.fnOf d.name d.name (eN st) (cB st) (aO st) .none kV doc pm an ao ct) ⟨[u],[]⟩=pure [(x,u)]) (ok:∀(P:a8)(w:World)(K:a6)(mg:aM)(ag:Heap)(f:Addr)(fd:FuncData),All K mg->fk K d.name d.name st f fd->cO P w K mg ag dr k f fd [x] (λvs H Q _=>∃(a:Addr)(ns:List Int),vs=[.ref a]/\aF K H a (ns.map V.int)/\ns.length<=63/\∀H',Q (.bl true) H')): PySem.W.WalkO q loose XP YP l.row.toRowW d [] (λf vs=>PySem.call f vs):=L2.Cp (n:=63) (k:=k) (x:=x) (CX:=λ_=>dr) (sp:=λw=>λvs H Q _=>∃(a:Addr)(ns:List Int),vs=[.ref a]/\aF (K w.params) H a (ns.map V.int)/\ns.length<=63/\∀H',Q (.bl true) H') hn aj o9 hr hY (λw mg fa h KX G nX=>by
 have A:=F w mg h KX G;obtain⟨f,fd,hm,Fn⟩:=(L _ _ A).ex;have e:fa=f:=by rw[nX]at hm;injection (ck hm)
 subst e;refine⟨fd,λs u=>?_,λag _ _=>ok l.prog w _ mg ag fa fd A Fn⟩;obtain⟨oc,od,kV,doc,pm,an,ao,ct,bX,rfl,lk,bZ⟩:=Fn.ex;exact .of_eq (hb kV doc pm an ao ct u)) (λ_ _ a ns hl _ hS=>⟨a,ns,Z,hS,hl,λ_=>rfl⟩) λ_ _ _ _ _ z=>z
theorem w6{env:Env}:∀(ns:List (Str×NameKind))(cs:List (Str×Addr)),(∀x∈ns,x.2= .free->∃c,env.cells.lookup x.1=some c)->(∀x c,cs.lookup x=some c->env.cells.lookup x=some c)->∃cl,(forIn ns cs (λx r=>if(x.2==NameKind.free)=true then do let a<-cellOf env x.1;pure (ForInStep.yield ((x.1,a)::r))else pure (ForInStep.yield r)):Sem (List (Str×Addr)))=pure cl/\(∀x c,cl.lookup x=some c->env.cells.lookup x=some c)/\(∀x c,cs.lookup x=some c->∃c',cl.lookup x=some c')/\∀x∈ns,x.2= .free->∃c,cl.lookup x.1=some c
 |[],cs,_,h2=>⟨cs,Z,h2,λx c e=>⟨c,e⟩,λ_ h=>nomatch h⟩ |(n,k)::r,cs,h1,h2=>by
  by_cases hk:k= .free
  ·subst hk
   obtain⟨c,hc⟩:=h1 (n,.free) (.head _) rfl;have e1:cellOf env n=pure c:=by unfold cellOf;rw[show env.cells.lookup n=some c from hc]
   obtain⟨cl,a1,a2,a3,a4⟩:=w6 r ((n,c)::cs) (λx hx=>h1 x (.tail _ hx)) (λx d e=>by rw[fw]at e;cases z:x==n with |true=>rw[z]at e;cases e;rw[cx.mp z];exact hc |false=>rw[z]at e;exact h2 x d e);refine⟨cl,?_,a2,λx d e=>?_,λx hx hf=>?_⟩
   ·rw[rR]
    show(do let r'<-(if(NameKind.free==NameKind.free)=true then do let a<-cellOf env n;pure (ForInStep.yield ((n,a)::cs))else pure (ForInStep.yield cs));_)=_;rw[aZ (by rfl),e1];exact a1
   ·by_cases z:x==n
    ·exact a3 x c (by rw[fw,z])
    ·exact a3 x d (by rw[fw,rZ.mpr z];exact e)
   ·rcases bR.mp hx with rfl|hx
    ·exact a3 n c (by rw[fw,x6])
    ·exact a4 x hx hf
  ·obtain⟨cl,a1,a2,a3,a4⟩:=w6 r cs (λx hx=>h1 x (.tail _ hx)) h2
   refine⟨cl,?_,a2,a3,λx hx hf=>?_⟩
   ·rw[rR]
    show(do let r'<-(if(k==NameKind.free)=true then do let a<-cellOf env n;pure (ForInStep.yield ((n,a)::cs))else pure (ForInStep.yield cs));_)=_;rw[aY (by simpa using hk)];exact a1
   ·rcases bR.mp hx with rfl|hx
    ·exact absurd hf hk
    ·exact a4 x hx hf
theorem w8{env:Env}{scope:Scope}(h1:∀x∈scope.names,x.2= .free->∃c,env.cells.lookup x.1=some c): ∃cl,closureFor scope env=pure cl/\(∀x c,cl.lookup x=some c->env.cells.lookup x=some c)/\∀x∈scope.names,x.2= .free->∃c,cl.lookup x.1=some c:=by
 obtain⟨cl,a1,a2,_,a4⟩:=w6 (env:=env) scope.names [] h1 (λx c e=>nomatch e);refine⟨cl,?_,a2,a4⟩;unfold closureFor;show(forIn scope.names ([]:List (Str×Addr)) (λ(x:Str×NameKind) r=>match x with|(name,kind)=>if(kind==NameKind.free)=true then do let a<-cellOf env name;pure (ForInStep.yield ((name,a)::r))else pure (ForInStep.yield r))>>=λr=>(pure r:Sem (List (Str×Addr))))=pure cl;have ef:(λ(x:Str×NameKind)(r:List (Str×Addr))=>match x with|(name,kind)=>(if(kind==NameKind.free)=true then do let a<-cellOf env name;pure (ForInStep.yield ((name,a)::r))else pure (ForInStep.yield r):Sem (ForInStep (List (Str×Addr))))) =λx r=>if(x.2==NameKind.free)=true then do let a<-cellOf env x.1;pure (ForInStep.yield ((x.1,a)::r))else pure (ForInStep.yield r):=by funext x r;obtain⟨n,k⟩:=x;rfl
 rw[ef,a1];rfl
theorem zY{env:Env}(hk:env.scope.kind= .function){x:Str}(hx:env.kindOf x=some .cell):∀{names:List (Str×NameKind)},names.lookup x=some .free->(names.map λ(n,k)=>if(k==NameKind.free&&env.scope.kind== .function&&env.kindOf n==some .cell)then(n,NameKind.cell)else(n,k)).lookup x=some .cell |[],h=>nomatch h |(n,k)::r,h=>by have ih:=@zY env hk x hx r;show List.lookup x ((if(k==NameKind.free&&env.scope.kind== .function&&env.kindOf n==some .cell)=true then(n,NameKind.cell)else(n,k))::_)=_;cases z:x==n with |true=>simp only[fw,z]at h;cases h;have e:=cx.mp z;subst e;rw[aZ (by rw[hk,hx];rfl),fw,z] |false=>simp only[fw,z]at h;split<;>(simp only[fw,z];exact ih h)
def bE(X:Cx)(N:List Str)(scope:Scope)(cl:List (Str×Addr))(s:a7)(H:Hp)(fp:List Addr)(af:List (Addr×Obj)):Cx:={prog:=X.prog,w:=X.w,K:=X.K,mg:=X.mg,ag:=X.ag,A:=X.A,N:=N,s₀:=s,H₀:=H,env:=compEnvC scope cl s.heap.objs.size X.env,outer:=X.stack,stack:=X.stack,ex:=fp,fn:=λ_=>false,calm:=X.calm,pn:=X.pn++af,xe:=λ_ _=>False}
def stC(js:List (Option Nat))(O:St):St:=js.map λ|none=>none|some j=>(O[j]?).join
def oM(X:Cx)(N:List Str)(js:List (Option Nat))(scope:Scope):Bool:=N.length==js.length&&(N.zip js).all λp=>match p.2 with|none=>true|some j=>X.N[j]? ==some p.1&&scope.names.lookup p.1==some NameKind.free&&X.env.kindOf p.1==some NameKind.cell
def jU(X:Cx)(scope:Scope):Bool:=scope.kind== .function&&X.env.scope.kind== .function&&scope.names.all λx=>match x.2 with | .free=>X.env.kindOf x.1==some NameKind.cell | .cell=>false | .local=>scope.names.lookup x.1==some NameKind.local |_=>true
section
variable {X:Cx}{af:List (Addr×Obj)}{O:St}{H:Hp}{s:a7}
theorem lookup_mem{α β:Type}[BEq α][LawfulBEq α]:∀{l:List (α×β)}{x:α}{b:β},l.lookup x=some b->(x,b)∈l |[],_,_,h=>nomatch h |(n,k)::r,x,b,h=>by rw[fw]at h;cases z:x==n with |true=>rw[z]at h;cases h;rw[cx.mp z];exact .head _ |false=>rw[z]at h;exact .tail _ (lookup_mem h)
theorem zf{env:Env}{x:Str}{k:NameKind}:∀{names:List (Str×NameKind)},(names.map λ(n,k)=>if(k==NameKind.free&&env.scope.kind== .function&&env.kindOf n==some .cell)then(n,NameKind.cell)else(n,k)).lookup x=some k->names.lookup x=some k\/(k= .cell/\names.lookup x=some .free) |[],h=>nomatch h |(n,k')::r,h=>by have ih:=@zf env x k r;have h':List.lookup x ((if(k'==NameKind.free&&env.scope.kind== .function&&env.kindOf n==some .cell)=true then(n,NameKind.cell)else(n,k'))::(r.map λ(n,k)=>if(k==NameKind.free&&env.scope.kind== .function&&env.kindOf n==some .cell)then(n,NameKind.cell)else(n,k)))=some k:=h;cases z:x==n with
 |true=>
  split at h'
  ·rename_i hc
   simp only[fw,z]at h';cases h';rw[cI,cI]at hc;have e:k'= .free:=cx.mp hc.1.1;subst e;exact .inr ⟨Z,by rw[fw,z]⟩
  ·simp only[fw,z]at h'
   cases h';exact .inl (by rw[fw,z]) |false=>
  rw[fw,z];refine ih ?_;split at h'
  ·simpa only[fw,z]using h'
  ·simpa only[fw,z]using h'
theorem Inv.comp{N:List Str}{js:List (Option Nat)}{scope:Scope}{cl:List (Str×Addr)}{fp:List Addr}{h':Heap}{tk:Nat}(I:Inv X af O H s)(hN:oM X N js scope=true)(hS:jU X scope=true) (c1:∀x c,cl.lookup x=some c->X.env.cells.lookup x=some c)(c2:∀x∈scope.names,x.2= .free->∃c,cl.lookup x.1=some c)(hf:∀b∈fp,dg X af H b)(Iw:∀b∈fp,b<s.heap.objs.size) (hn:h'.Ns s.heap.objs.size λ_=>none)(hk:∀b o,s.heap.get? b=some o->h'.get? b=some o):Inv (bE X N scope cl s H fp af) [] (stC js O) H {s with heap:=h',toks:=tk}:=by
 unfold jU at hS;rw[cI,cI]at hS;obtain⟨⟨s1,s2⟩,s3⟩:=hS;have fF:scope.kind= .function:=cx.mp s1;have HX:X.env.scope.kind= .function:=cx.mp s2;unfold oM at hN;rw[cI]at hN;obtain⟨n1,n2⟩:=hN;have hlen:N.length=js.length:=cx.mp n1;have Ag:∀x k,(relabel scope X.env).names.lookup x=some k->scope.names.lookup x=some k\/(k= .cell/\scope.names.lookup x=some .free):=λx k e=>zf e;have Gb:∀x,scope.names.lookup x≠some .cell:=λx e=>by have:=du.mp s3 _ (lookup_mem e);exact dS this
 have AH:∀b∈(bE X N scope cl s H fp af).fs,b∈X.env.locals::X.fs:=I.sI;have ok:(bE X N scope cl s H fp af).Ok:={
  mod:=I.ok.mod
  kind:=fF
  glob:=I.ok.glob
  blt:=I.ok.blt
  above:=aU _
  inj:=λx y c e1 e2=>I.ok.inj x y c (c1 x c e1) (c1 y c e2)
  has:=λx hx=>by
   have fr:scope.names.lookup x=some .free->∃c,cl.lookup x=some c:=λe=>c2 (x,.free) (lookup_mem e) rfl;rcases hx with e|e
   ·rcases Ag x _ e with e|⟨_,e⟩
    ·exact absurd e (Gb x)
    ·exact fr e
   ·rcases Ag x _ e with e|⟨z,_⟩
    ·exact fr e
    ·cases z
  iB:=λx c e=>nomatch e
  hd:=I.ok.hd
  frames:=I.ok.frames
  iQ:=.inl rfl
  l7:=λb hb=>⟨bD (Iw b hb),λx c e=>(hf b hb).2.2.2.2.1 x c (c1 x c e)⟩
  bs:=I.bs
  fh:=fu I.ok.fh I.sz
  ie:=λb o e hb=>by
   rcases(hf b hb).2.2.2.1 with z|z
   ·exact I.ok.ie b o e z
   ·exact absurd (eU (aV e) (fu I.ok.fh z)) (mF _)
  gp:=λb hb z=>by
   obtain⟨_,q1,q2,_⟩:=hf b hb;rcases bR.mp (AH b z)with e|e
   ·exact q1 e
   ·exact q2 e
  dM:=I.stack
  fP:=I.pJ};refine⟨ok,Z,I.bare,Un.kept hk,⟨_,hn,λi x v e1 e2 e3=>?_⟩,λx c e=>?_,I.aD.fresh (aU _),λx c e=>I.eg x c (c1 x c e),λp hp=>?_,I.aD.kept hk,?_⟩
 ·have mh:(js.map λ|none=>none|some j=>(O[j]?).join)[i]? =some (some v):=e2
  rw[cm]at mh;cases hj:js[i]? with |none=>rw[hj]at mh;cases mh |some o=>rw[hj]at mh;cases o with |none=>cases mh |some j=>
   have hz:(N.zip js)[i]? =some (x,some j):=by rw[rO];exact⟨e1,hj⟩
   have Bc:=du.mp n2 _ (jw hz);simp only[cI,cx]at Bc;obtain⟨⟨h1,h2⟩,h3⟩:=Bc;have qL:(O[j]?).join=some v:=by simpa using mh
   have hσ:O[j]? =some (some v):=by cases q:O[j]? with |none=>rw[q]at qL;cases qL |some o=>
    rw[q]at qL;have:o=some v:=by simpa using qL
    rw[this]
   obtain⟨m,hm,hl⟩:=I.loc;obtain⟨u,r,l⟩:=hl j x v h1 hσ (.inr (.inl h3));refine⟨u,r,?_⟩;rcases l with⟨k,_⟩|⟨_,c,hc,iz⟩
   ·rw[h3]at k;cases k
   ·obtain⟨c',e9⟩:=c2 (x,.free) (lookup_mem h2) rfl
    have:=c1 x c' e9;rw[hc]at this;cases this;refine .inr ⟨.inl (zY HX h3 h2),c,e9,?_⟩;obtain⟨ob,ho,hd⟩:=iz;exact⟨ob,hk _ _ ho,hd⟩
 ·obtain⟨v,ob,ho,hd⟩:=I.cell x c (c1 x c e)
  exact⟨v,ob,hk _ _ ho,hd⟩
 ·have qy:p∈X.pn++af:=by simpa[bE]using hp
  obtain⟨a1,a2,a3,a4,a5⟩:=I.pin p qy;refine⟨hk _ _ a1,a2,bD (aV a1),λz=>?_,a5⟩;rcases bR.mp (AH p.1 z)with e|e
  ·exact a3 e
  ·exact a4 e
 ·show(js.map _).length=N.length
  rw[br,hlen]
end
theorem vZ{prog:a8}{w:World}{A:aa}{R:Result->a7->Prop}{s:a7}{elt target iter:Expr}{ifs:List Expr}{scope:Scope}{pos:Pos}{it acc:Value}{env:Env}(I:Nat->a7->Prop) (turn:∀n s,I n s->wpAny (model prog w) A (pyNext it) (λr s₁=>match r with |none=>R (.ok .next) s₁ |some v=>wpAny (model prog w) A (letOwnedTupleGo target it v) (λ_ s₁=>wpAny (model prog w) A (assign target env v) (λ_ s₂=>wpAny (model prog w) A (forIn ifs true λc r=>if r=true then do let ok<-isTrue c env (eval c env);pure (ForInStep.yield ok)else pure (ForInStep.yield r)) (λok s₃=>if ok=true then wpAny (model prog w) A (eval elt env) (λx s₄=>wpAny (model prog w) A (call (.builtin "list.append") [acc,x]) (λ_ s₅=>∃m,m<n/\I m s₅) (λ_ _=>False) s₄) (λ_ _=>False) s₃ else∃m,m<n/\I m s₃) (λ_ _=>False) s₂) (λ_ _=>False) s₁) (λ_ _=>False) s₁) (λ_ _=>False) s) (n:Nat)(h:I n s):codeAny (model prog w) A (.compLoop (.ListComp elt [⟨target,iter,ifs,0⟩] scope pos) 0 it acc env) R s:=by refine codeAny_loop Z I (λn s hI=>?_) n h;show wpAny _ A ((compTurn (.ListComp elt [⟨target,iter,ifs,0⟩] scope pos) 0 it acc env).onRaise (λx=>do noteFrame x env;theTreesLotGoes x)) _ _ s;refine wpAny_noted ?_;rw[compTurn_list];refine ai (mx (ai (dB (turn n s hI) (λr s₁ h₁=>?_) λ_ _ h'=>h'.elim)));cases r with |none=>exact aG h₁ |some v=>refine ai (dB h₁ (λ_ MX h₁=>?_) λ_ _ h'=>h'.elim);refine ai (dB h₁ (λ_ s₂ h₂=>ai (dB h₂ (λok s₃ h₃=>?_) λ_ _ h'=>h'.elim)) λ_ _ h'=>h'.elim);cases ok with |false=>exact aG ⟨Z,h₃⟩ |true=>exact ai (ai (dB h₃ (λx s₄ h₄=>ai (dB h₄ (λ_ s₅ h₅=>aG (aG ⟨Z,h₅⟩)) λ_ _ h'=>h'.elim)) λ_ _ h'=>h'.elim))
def qV(X:Cx)(ifs:List Expr)(t:TT):Prop:=∀(af:List (Addr×Obj))(s:a7)(O:St)(H:Hp)(Q:Bool->Hp->Prop),Inv X af O H s->t O H Q->wpAny (model X.prog X.w) X.A (forIn ifs true λc r=>if r=true then do let ok<-isTrue c X.env (eval c X.env);pure (ForInStep.yield ok)else pure (ForInStep.yield r)) (TP X af O Q) X.xe s
def fz:TT:=λ_ H Q=>Q true H
theorem eX{X:Cx}:qV X [] fz:=λ_ _ _ H _ I h=>wpAny_tests_nil ⟨H,I,h⟩
def fW(J:It)(g:TG)(tt:TT)(te:TE)(Q:VK)(D:Addr)(O:St)(H:Hp):Prop:=∃W:Nat->Nat->St->Hp->Prop,(∃m,W 0 m O H)/\∀i m σ' H',W i m σ' H'->(J.stop i H'/\Q (.ref D) H')\/(J.go i H'/\∀x H2,J.dU i H' x H2->g x σ' H2 λσ3 H3=>tt σ3 H3 λok H4=>if ok=true then te σ3 H4 λy H5=>∃ys,H5 D=some (.lst ys)/\ys.length<sizeLine/\∃m',m'<m/\W (i+1) m' σ3 (upd H5 D (.lst (ys++[y]))) else∃m',m'<m/\W (i+1) m' σ3 H4)
def sD(js:List (Option Nat))(wi:TI)(g:TG)(tt:TT)(te:TE):TE:=λO H Q=>wi O H λJ H1=>∀D H2,Nw H1 H2 D (.lst [])->fW J g tt te Q D (stC js O) H2
theorem bL.but{P:a8}{w:World}{H:Hp}{h h':Heap}{C:Addr}(ok:bL P w H h)(hn:H C=none)(hs:Heap.SameBut C h h'):bL P w H h':=λb ob e=>by
 refine(ok b ob e).gb (λc w' hc q=>(hs.2 c ?_).trans q) (λ_ q=>q) λ_ _ q=>q;rintro rfl;rcases hc with rfl|hc
 ·rw[hn]at e;cases e
 ·rw[hn]at hc;cases hc
set_option maxHeartbeats 1000000 in
theorem fK{X:Cx}{N:List Str}{js:List (Option Nat)}{elt tg iter:Expr}{ifs:List Expr}{scope:Scope}{pos:Pos}{wi:TI}{g:TG}{tt:TT}{te:TE}(hc:X.calm=true)(hN:oM X N js scope=true)(hS:jU X scope=true) (hi:PI X tg iter wi)(hg:∀cl s H fp af,PG (bE X N scope cl s H fp af) tg g)(ht:∀cl s H fp af,qV (bE X N scope cl s H fp af) ifs tt)(he:∀cl s H fp af,PE (bE X N scope cl s H fp af) elt te) (hs:∀x,foldedSetIterable iter X.env x=pure x:=by intro _;rfl):PE X (.ListComp elt [⟨tg,iter,ifs,0⟩] scope pos) (sD js wi g tt te):=by
 intro af s O H Q I h;have gQ:=hS;unfold jU at gQ;rw[cI,cI]at gQ;obtain⟨⟨k1,k2⟩,k3⟩:=gQ;have fF:scope.kind= .function:=cx.mp k1;have jR:∀x∈scope.names,x.2= .free->∃c,X.env.cells.lookup x.1=some c:=λx hx e=>by have:=du.mp k3 x hx;rw[e]at this;exact I.ok.has x.1 (.inl (cx.mp this))
 have iz:∀x∈scope.names,x.2≠ .cell:=λx hx e=>by have:=du.mp k3 x hx;rw[e]at this;exact dS this
 have nV:∀x∈scope.names,x.2= .local->scope.names.lookup x.1=some .local:=λx hx e=>by have:=du.mp k3 x hx;rw[e]at this;exact cx.mp this
 obtain⟨cl,oh,c1,c2⟩:=w8 jR;rw[eval_ListComp];refine BM (use:=none) Z hs oh fF nV (az (hi af s O H _ I h) λv s1 h1=>az h1 λjM s2 h2=>?_);obtain⟨it,fp,tn,J,H2,e,I2,T,gc,f2,h2⟩:=h2;subst e;have hD:H2 s2.heap.objs.size=none:=I2.aD.fresh (aU _);obtain⟨W,⟨m0,w0⟩,turn⟩:=h2 _ _ (Nw.of hD);refine fq (BL iz (by intro y hy;simp at hy) (λh₁ jO jN=>?_) fF);have gU:∀b∈fp,b<s2.heap.objs.size:=λb hb=>by obtain⟨o,e,_⟩:=T.obj _ _ gc b hb;exact aV e
 have I3:Inv X af O (upd H2 s2.heap.objs.size (.lst [])) {s2 with heap:=s2.heap.push {cls:=.type "list",dict:=none,data:=.seq ([]:List Value).toArray}}:=I2.uF (its:=[]) (t':=s2.toks) .nil (dQ _);generalize jS:s2.heap.push {cls:=.type "list",dict:=none,data:=.seq ([]:List Value).toArray}=h3 at I3 jO jN;have jA:h3.objs.size=s2.heap.objs.size+1:=by rw[<-jS,iK]
 have nM:∀b o,s2.heap.get? b=some o->h3.get? b=some o:=λb o e=>by rw[<-jS];exact aX _ e
 have f3:∀b∈fp,dg X af (upd H2 s2.heap.objs.size (.lst [])) b:=λb hb=>⟨by rw[aI (bD (gU b hb))];exact(f2 b hb).1,(f2 b hb).2⟩;have jL:∀b o,h3.get? b=some o->h₁.get? b=some o:=λb o e=>(jN.2 b (bD (aV e))).trans (aX _ e);have I4:Inv (bE X N scope cl {s2 with heap:=h3} (upd H2 s2.heap.objs.size (.lst [])) fp af) [] (stC js O) (upd H2 s2.heap.objs.size (.lst [])) {s2 with heap:=h₁,toks:=s2.toks+([]:List (Str×Value)).length}:=I3.comp (s:={s2 with heap:=h3}) hN hS c1 c2 f3 (λb hb=>by show b<h3.objs.size;rw[jA];exact p5 (gU b hb)) (by simpa using jO) jL;have jB:tn 0 h₁:=T.keep _ _ _ gc λb _ o e=>jL b o (nM b o e);have loop:codeAny (model X.prog X.w) X.A (.compLoop (.ListComp elt [⟨tg,iter,ifs,0⟩] scope pos) 0 (.ref it) (.ref s2.heap.objs.size) (compEnvC scope cl h3.objs.size X.env)) (compPost (model X.prog X.w) X.A X.xe none (EP X af O Q) (.ref s2.heap.objs.size) h3.objs.size) {s2 with heap:=h₁,toks:=s2.toks+([]:List (Str×Value)).length}:=by
  refine vZ (λn s'=>∃i σ' H',Inv (bE X N scope cl {s2 with heap:=h3} (upd H2 s2.heap.objs.size (.lst [])) fp af) [] σ' H' s'/\tn i s'.heap/\(∀b∈fp,H' b=none)/\W i n σ' H') ?_ m0 ⟨0,_,_,I4,jB,λb hb=>(f3 b hb).1,w0⟩;rintro n s5 ⟨i,σ5,H5,I5,eD,gn,w5⟩;have dv:∀{H':Hp},(∀b∈fp,H' b=none)->∀b∈fp,dg (bE X N scope cl {s2 with heap:=h3} (upd H2 s2.heap.objs.size (.lst [])) fp af) [] H' b:=λ{H'} hn b hb=>by
   obtain⟨_,q1,q2,q3,q4,q5⟩:=f3 b hb;refine⟨hn b hb,λz=>?_,I4.ok.gp b hb,.inl hb,λx c e=>q4 x c (c1 x c e),λp hp=>q5 p (by simpa[bE]using hp)⟩;have bq:b<h3.objs.size:=by rw[jA];exact p5 (gU b hb)
   exact bD bq z
  rcases turn i n σ5 H5 w5 with⟨stop,qn⟩|⟨go,step⟩
  ·refine az (T.done (bE X N scope cl {s2 with heap:=h3} (upd H2 s2.heap.objs.size (.lst [])) fp af) rfl rfl rfl hc i [] s5 σ5 H5 _ I5 (dv gn) eD stop) λr s6 ⟨hr,I6⟩=>?_
   subst hr;obtain⟨m,hm,_⟩:=I6.loc;refine⟨m,hm,λh7 j8=>?_⟩;have u0:Un (cf X.stack) fp (upd H2 s2.heap.objs.size (.lst [])) H5 h3 s6.heap:=I6.ag;have ne:∀b o,h3.get? b=some o->b≠h3.objs.size:=λb o e=>bD (aV e);have u:Un (cf X.stack) fp (upd H2 s2.heap.objs.size (.lst [])) H5 h3 h7:=⟨λb o e n hb hx=>(j8.2 b (ne b o e)).trans (u0.keep b o e n hb hx),λb o e n hb hx=>let⟨sl,q⟩:=u0.slot b o e n hb hx;⟨sl,(j8.2 b (ne b o e)).trans q⟩,u0.free,λb o e hx=>let⟨o',q⟩:=u0.there b o e hx;⟨o',(j8.2 b (ne b o e)).trans q⟩,u0.eV,u0.eL,u0.eW⟩;have I7:Inv X af O H5 {s6 with heap:=h7}:=I3.lg (s':={s6 with heap:=h7}) (ch:=fp) I6.os u (I6.aD.but I6.free j8) I6.bare λb hb=>⟨(f3 b hb).2.2.2.1,(f3 b hb).2.1,(f3 b hb).2.2.2.2.1,(f3 b hb).2.2.2.2.2⟩;exact⟨.ref s2.heap.objs.size,H5,I7,Z,qn⟩
  ·refine az (T.item (bE X N scope cl {s2 with heap:=h3} (upd H2 s2.heap.objs.size (.lst [])) fp af) rfl rfl rfl hc i [] s5 σ5 H5 _ I5 (dv gn) eD go) λr s6 ⟨u,hr,h6⟩=>?_
   subst hr;refine az h6 λ_ s7 ⟨x,H7,I7,r7,y7,gD,oz⟩=>?_;have oV:=I7.pinned (dv oz) (T.obj _ _ gD);refine az (hg _ _ _ _ _ _ s7 σ5 H7 x u _ oV r7 (step x H7 y7)) λ_ s8 ⟨σ8,H8,I8,q8⟩=>?_;refine az (ht _ _ _ _ _ _ s8 σ8 H8 _ I8 q8) λok s9 ⟨H9,I9,q9⟩=>?_;have again:∀{s':a7}{σ7:St}{H7:Hp},Inv (bE X N scope cl {s2 with heap:=h3} (upd H2 s2.heap.objs.size (.lst [])) fp af) ([]++jF fp s7.heap) σ7 H7 s'->(∃m',m'<n/\W (i+1) m' σ7 H7)->∃m,m<n/\∃i σ' H',Inv (bE X N scope cl {s2 with heap:=h3} (upd H2 s2.heap.objs.size (.lst [])) fp af) [] σ' H' s'/\tn i s'.heap/\(∀b∈fp,H' b=none)/\W i m σ' H':=λ{s' σ7 H7} J7 n7=>by obtain⟨m',hm,w7⟩:=n7;refine⟨m',hm,i+1,σ7,H7,J7.iM,T.keep _ _ _ gD λb hb o e=>(J7.pin (b,o) (cZ _ (cZ _ (ij hb e)))).1,λb hb=>?_,w7⟩;obtain⟨o,e,d⟩:=T.obj _ _ gD b hb;exact(J7.pin (b,o) (cZ _ (cZ _ (ij hb e)))).2.1
   cases ok with |false=>rw[aY dS]at q9⊢;exact again I9 q9 |true=>rw[aZ rfl]at q9⊢;refine az (he _ _ _ _ _ _ s9 σ8 H9 _ I9 q9) λyv fJ ⟨y,fV,hJ,nj,ys,j6,hz,mM⟩=>?_;refine az (qr _ fJ σ8 fV (.ref s2.heap.objs.size) [y] (.ref s2.heap.objs.size) [yv] (λ_ eu=>∃m',m'<n/\W (i+1) m' σ8 eu) hJ Z (.cons nj .nil) ⟨_,ys,y,Z,Z,j6,hz,mM⟩) λ_ dj ⟨v11,eu,oW,nh,nk⟩=>?_;exact again oW nk
 exact BN loop (T.self _ 0 _ _ _ jB loop)
theorem wb:∀{bs:List Bool}{us:List Value},Vals (bs.map V.bl) us->us=bs.map Value.bool |[],_,.nil=>rfl |b::r,_,.cons q t=>by cases(show _=Value.bool b from q);rw[wb t];rfl
section
variable {X:Cx}
theorem KI(hc:X.calm=true):cP X (.builtin "all") (λxs H Q=>∃(l:Addr)(bs:List Bool),xs=[.ref l]/\aF X.K H l (bs.map V.bl)/\Q (.bl (bs.all id)) H):=by
 intro af s O H xs us Q I r h;obtain⟨l,bs,rfl,hl,q⟩:=h;obtain⟨u,rfl,ru⟩:=vals1 r;cases(show u=Value.ref l from ru);obtain⟨its,rv,pl,hz⟩:=I.list hl;have e:=wb rv;subst e;have fg:=pl.isList;have bq:l<s.heap.objs.size:=by obtain⟨_,e,_⟩:=fg;exact aV e
 have hh:=I.ok.hd hc;refine call_all_walk (oY fg ?_);refine⟨s.heap.objs.size,[s.heap.objs.size,l],[s.heap.objs.size],(bs.map Value.bool).toArray.size,_,_,λi=>(bs[i]?).getD true,Z,Walks.list (A:=X.A.in1) hh _ l (bD bq) (bs.map Value.bool).toArray,⟨⟨_,bS _ Z,Z,Z⟩,fg.push _⟩,λi v s' Q' E' hP hQ=>?_,λh' tk hk=>?_⟩
 ·have gR:(bs.map Value.bool)[i]? =some v:=by simpa using hP
  rw[cm]at gR;cases e:bs[i]? with |none=>rw[e]at gR;cases gR |some b=>rw[e]at gR;cases gR;simp only[e,Option.getD_some]at hQ;exact ju hQ
 ·have e:((List.range (bs.map Value.bool).toArray.size).all λi=>(bs[i]?).getD true)=bs.all id:=by rw[cC,br];exact LSm.range_all bs
  rw[e];exact⟨.bl _,H,I.kept (LSm.kept_iter hk),Z,q⟩
theorem KH(hc:X.calm=true):cP X (.builtin "any") (λxs H Q=>∃(l:Addr)(bs:List Bool),xs=[.ref l]/\aF X.K H l (bs.map V.bl)/\Q (.bl (bs.any id)) H):=by
 intro af s O H xs us Q I r h;obtain⟨l,bs,rfl,hl,q⟩:=h;obtain⟨u,rfl,ru⟩:=vals1 r;cases(show u=Value.ref l from ru);obtain⟨its,rv,pl,hz⟩:=I.list hl;have e:=wb rv;subst e;have fg:=pl.isList;have bq:l<s.heap.objs.size:=by obtain⟨_,e,_⟩:=fg;exact aV e
 have hh:=I.ok.hd hc;refine call_any_walk (oY fg ?_);refine⟨s.heap.objs.size,[s.heap.objs.size,l],[s.heap.objs.size],(bs.map Value.bool).toArray.size,_,_,λi=>(bs[i]?).getD false,Z,Walks.list (A:=X.A.in1) hh _ l (bD bq) (bs.map Value.bool).toArray,⟨⟨_,bS _ Z,Z,Z⟩,fg.push _⟩,λi v s' Q' E' hP hQ=>?_,λh' tk hk=>?_⟩
 ·have gR:(bs.map Value.bool)[i]? =some v:=by simpa using hP
  rw[cm]at gR;cases e:bs[i]? with |none=>rw[e]at gR;cases gR |some b=>rw[e]at gR;cases gR;simp only[e,Option.getD_some]at hQ;exact ju hQ
 ·have e:((List.range (bs.map Value.bool).toArray.size).any λi=>(bs[i]?).getD false)=bs.any id:=by rw[cC,br];exact LSm.range_any bs
  rw[e];exact⟨.bl _,H,I.kept (LSm.kept_iter hk),Z,q⟩
end
theorem l9{J:It}{g:TG}{tt:TT}{te:TE}{Q:VK}{D:Addr}{O:St}{H:Hp}(n:Nat)(Pv:Nat->St->Hp->Prop)(h0:Pv 0 O H) (hs:∀i O H,i<n->Pv i O H->J.go i H/\∀x H2,J.dU i H x H2->g x O H2 λσ3 H3=>tt σ3 H3 λok H4=>if ok=true then te σ3 H4 λy H5=>∃ys,H5 D=some (.lst ys)/\ys.length<sizeLine/\∃m',m'<n-i/\m'=n-(i+1)/\i+1<=n/\Pv (i+1) σ3 (upd H5 D (.lst (ys++[y]))) else∃m',m'<n-i/\m'=n-(i+1)/\i+1<=n/\Pv (i+1) σ3 H4) (hd:∀O H,Pv n O H->J.stop n H/\Q (.ref D) H): fW J g tt te Q D O H:=by
 refine⟨λi m O H=>m=n-i/\i<=n/\Pv i O H,⟨n,by simp,dQ _,h0⟩,?_⟩;rintro i m O H ⟨rfl,hi,p⟩;by_cases bq:i<n
 ·exact .inr (hs i O H bq p)
 ·have e:i=n:=by lia
  subst e;exact .inl (hd O H p)
section
variable {X:Cx} {tg:Expr}
theorem Hi(K:a6)(h:X.K=K):jk X (λx y H Q=>tZ K x y H Q\/tY K x y H Q):=by subst h;exact Hh.or Hf
theorem GS(K:a6)(h:X.K=K):cP X (.builtin "len") (λxs H Q=>∃p ys,xs=[.ref p]/\(aF K H p ys\/aL K H p ys)/\Q (.int ys.length) H):=by subst h;exact KA
theorem Hj(K:a6)(h:X.K=K):cP X (.builtin "isinstance") (λxs H Q=>u6 K xs H Q\/u5 K xs H Q):=by subst h;exact KD.or KC
theorem eM(K:a6)(h:X.K=K)(hu:X.A.units+64<cLine):bF X (compareOp .Eq) (λx y H Q=>fA (λi j=>.bl (decide (i=j))) x y H Q\/u7 K x y H Q):=by subst h;exact F3 hu
theorem gI(K:a6)(h:X.K=K)(hu:X.A.units+64<cLine):bF X (compareOp .NotEq) (λx y H Q=>fA (λi j=>.bl (!decide (i=j))) x y H Q\/tX K x y H Q):=by subst h;exact EW hu
theorem qT(K:a6)(h:X.K=K)(hc:X.calm=true):cP X (.builtin "all") (λxs H Q=>∃(l:Addr)(bs:List Bool),xs=[.ref l]/\aF K H l (bs.map V.bl)/\Q (.bl (bs.all id)) H):=by subst h;exact KI hc
theorem La(K:a6)(h:X.K=K)(hc:X.calm=true):cP X (.builtin "any") (λxs H Q=>∃(l:Addr)(bs:List Bool),xs=[.ref l]/\aF K H l (bs.map V.bl)/\Q (.bl (bs.any id)) H):=by subst h;exact KH hc
theorem gB(K:a6)(h:X.K=K):cP X (.type "tuple") (λxs H Q=>∃p ys,xs=[.ref p]/\((aF K H p ys/\∀l H',Nw H H' l (.tup ys)->Q (.ref l) H')\/(aL K H p ys/\Q (.ref p) H))):=by subst h;intro af s O H xs us Q I r hq;obtain⟨p,ys,e,h1⟩:=hq;exact Ky af s O H xs us Q I r ⟨p,ys,e,h1.imp (λ⟨a,k⟩=>⟨a,λl hl=>k l _ (.of hl)⟩) id⟩
def CW(t:TA):TE:=λO H Q=>t O H λxs H1=>xs.length<=sizeLine/\∀p H',Nw H1 H' p (.tup xs)->Q (.ref p) H'
def Dm(t:TA):TE:=λO H Q=>t O H λxs H1=>xs.length<=sizeLine/\∀p H',Nw H1 H' p (.lst xs)->Q (.ref p) H'
theorem hZ{es:List Expr}{t:TA}{pos:Pos} {x1}(h:PA X es t):PE X (.Tuple es x1 pos) (CW t):=by intro af s O H Q I hq;refine wpAny_Tuple_spliced (az (h pos af s O H _ I hq) λus s1 ⟨xs,H1,I1,r,z,q⟩=>⟨by rw[<-r.length];exact z,?_⟩);have hf:H1 s1.heap.objs.size=none:=I1.aD.fresh (aU _);refine⟨.ref s1.heap.objs.size,upd H1 s1.heap.objs.size (.tup xs),I1.laid (t':=s1.toks) (λb u e=>aX _ e) (aU _) ?_,Z,q _ _ (.of hf)⟩;exact⟨z,us,r,⟨_,bS _ Z,Z,_,Z⟩⟩
theorem fB{es:List Expr}{t:TA}{pos:Pos}(h:PA X es t):PE X (.List es pos) (Dm t):=by intro af s O H Q I hq;refine wpAny_List_spliced (az (h pos af s O H _ I hq) λus s1 ⟨xs,H1,I1,r,z,q⟩=>⟨by rw[<-r.length];exact z,?_⟩);have hf:H1 s1.heap.objs.size=none:=I1.aD.fresh (aU _);refine⟨.ref s1.heap.objs.size,upd H1 s1.heap.objs.size (.lst xs),I1.laid (t':=s1.toks) (λb u e=>aX _ e) (aU _) ?_,Z,q _ _ (.of hf)⟩;exact⟨z,us,0,r,bS _ Z⟩
theorem Ew(K:a6)(h:X.K=K){l:Expr}{tl:TE}(hl:PE X l tl):PI X tg l (Aj K tl):=by subst h;exact Es hl
theorem kB(K:a6)(h:X.K=K){l:Expr}{tl:TE}(hl:PE X l tl):PI X tg l (Ah K tl):=by subst h;exact Eo hl
theorem iU(K:a6)(h:X.K=K){es:List Expr}{k:Nat}{t:gq}{n:Nat}{pos:Pos}(hc:X.calm=true)(hg:lq X es t)(hn:(assignEach es X.env).length=n:=by rfl)(cJ:(assignEach es X.env).findIdx? (·.1)=none:=by rfl): PG X (.Tuple es k pos) (kZ K n t):=by subst h;exact Ez hc hg hn cJ
theorem nA(K:a6)(h:X.K=K){o e:Expr}{to:TE}{t:TA}{apos cL:Pos}(ho:PE X o to)(ha:PA X [e] t) (om:attributeBase o "append" X.env (eval o X.env)=eval o X.env:=by rfl) (o8:((backTo cL (starEach [e] X.env)).all (λx=>!x.1)&&(backToKw cL (keywordEach [] X.env)).all (λx=>x.1.isSome) &&decide ([e].length+([]:List Keyword).length+(if([]:List Keyword).isEmpty then 0 else 1)<30))=true:=by rfl) (nY:(apos.endLine==cL.line)=true:=by rfl)(hs:starEach [e] X.env=(false,eval e X.env)::starEach [] X.env:=by rfl)(nR:(backTo cL (starEach [] X.env)).any (·.1)=false:=by rfl): PE X (.Call (.Attribute o "append" apos) [e] [] cL) (sE K "list" zm to t):=by subst h;exact zB PySem.F.plainAttrs_list PySem.F.slot_list_append PySem.F.type_list_append qr ho ha om o8 nY hs nR
theorem pC{j:Nat}{x:V}{O:St}{H:Hp}{A B:St->Hp->Prop}(h:A (O.set j (some x)) H):dm j x O H λσ3 H3=>fz σ3 H3 λok H4=>if ok=true then A σ3 H4 else B σ3 H4:=by show if true=true then A (O.set j (some x)) H else B (O.set j (some x)) H;rw[aZ rfl];exact h
theorem yes{O:St}{H:Hp}{Q:Bool->Hp->Prop}(h:Q true H):fz O H Q:=h
end
theorem aF.go{K:a6}{H H':Hp}{a:Addr}{xs:List V}(s:au H H')(h:aF K H a xs):aF K H' a xs:=h.imp (λr=>r.imp (s _ _) λ⟨o,e⟩=>⟨o,s _ _ e⟩) id
theorem aL.go{K:a6}{H H':Hp}{a:Addr}{xs:List V}(s:au H H')(h:aL K H a xs):aL K H' a xs:=h.imp (λr=>r.imp (s _ _) λ⟨o,e⟩=>⟨o,s _ _ e⟩) id
mutual
theorem RD.mono{K:a6}{H H':Hp}(s:au H H'):∀{x:V}(d:a9),RD K H x d->RD K H' x d |x,.none,h=>by simpa[RD]using h |x,.bool b,h=>by simpa[RD]using h |x,.int i,h=>by simpa[RD]using h |x,.str y,h=>by simpa[RD]using h |x,.list ds,h=>by rw[RD]at h⊢;obtain⟨a,xs,e,h1,h2⟩:=h;exact⟨a,xs,e,h1.go s,aw.mono s ds h2⟩ |x,.tuple ds,h=>by rw[RD]at h⊢;obtain⟨a,xs,e,h1,h2⟩:=h;exact⟨a,xs,e,h1.go s,aw.mono s ds h2⟩ |x,.dict _,h=>by simp[RD]at h
theorem aw.mono {K:a6}{H H':Hp}(s:au H H'):∀{xs:List V}(ds:List a9),aw K H xs ds->aw K H' xs ds |xs,[],h=>by simpa[aw]using h |xs,d::ds,h=>by rw[aw]at h⊢;obtain⟨y,ys,e,h1,h2⟩:=h;exact⟨y,ys,e,RD.mono s d h1,aw.mono s ds h2⟩
end
section
variable {K:a6} {H H':Hp}
theorem aw.nil_inv{xs:List V}(h:aw K H xs []):xs=[]:=by simpa[aw]using h
theorem aw.cons_inv{xs:List V}{d:a9}{ds:List a9}(h:aw K H xs (d::ds)):∃y ys,xs=y::ys/\RD K H y d/\aw K H ys ds:=by rw[aw]at h;exact h
theorem RD.cD{x:V}{ds:List a9}(h:RD K H x (.tuple ds)):∃a xs,x= .ref a/\aL K H a xs/\aw K H xs ds:=by rw[RD]at h;exact h
theorem RD.lst_inv{x:V}{ds:List a9}(h:RD K H x (.list ds)):∃a xs,x= .ref a/\aF K H a xs/\aw K H xs ds:=by rw[RD]at h;exact h
theorem RD.int_inv{x:V}{i:Int}(h:RD K H x (.int i)):x= .int i:=by rw[RD]at h;exact h
theorem RD.KS{x:V}{i:Bool}(h:RD K H x (.bool i)):x= .bl i:=by rw[RD]at h;exact h
theorem RD.str_inv{x:V}{i:Str}(h:RD K H x (.str i)):x= .str i:=by rw[RD]at h;exact h
theorem RD.G6{x:V}(h:RD K H x .none):x= .bj:=by rw[RD]at h;exact h
theorem aw.length:∀{xs:List V}{ds:List a9},aw K H xs ds->xs.length=ds.length |xs,[],h=>by rw[h.nil_inv];rfl |xs,d::ds,h=>by obtain⟨y,ys,rfl,_,h2⟩:=h.cons_inv;rw[iJ,iJ,aw.length h2]
theorem aw.append:∀{xs ys:List V}{ds es:List a9},aw K H xs ds->aw K H ys es->aw K H (xs++ys) (ds++es) |xs,ys,[],es,h,g=>by rw[h.nil_inv];exact g |xs,ys,d::ds,es,h,g=>by obtain⟨y,zs,rfl,h1,h2⟩:=h.cons_inv;exact bJ h1 (aw.append h2 g)
theorem aw.take:∀(n:Nat){xs:List V}{ds:List a9},aw K H xs ds->aw K H (xs.take n) (ds.take n) |0,xs,ds,h=>by rw[List.take_zero,List.take_zero];exact bW |n+1,xs,[],h=>by rw[h.nil_inv];exact bW |n+1,xs,d::ds,h=>by obtain⟨y,zs,rfl,h1,h2⟩:=h.cons_inv;exact bJ h1 (aw.take n h2)
theorem aw.drop:∀(n:Nat){xs:List V}{ds:List a9},aw K H xs ds->aw K H (xs.drop n) (ds.drop n) |0,xs,ds,h=>h |n+1,xs,[],h=>by rw[h.nil_inv];exact bW |n+1,xs,d::ds,h=>by obtain⟨y,zs,rfl,h1,h2⟩:=h.cons_inv;exact aw.drop n h2
theorem aw.get:∀(n:Nat){xs:List V}{ds:List a9}{d:a9},aw K H xs ds->ds[n]? =some d->∃x,xs[n]? =some x/\RD K H x d
 |n,xs,[],d,h,e=>by simp at e |0,xs,d'::ds,d,h,e=>by
  obtain⟨y,zs,rfl,h1,h2⟩:=h.cons_inv;have e':d'=d:=by simpa using e
  subst e';exact⟨y,Z,h1⟩ |n+1,xs,d'::ds,d,h,e=>by obtain⟨y,zs,rfl,h1,h2⟩:=h.cons_inv;exact aw.get n h2 (by simpa using e)
theorem aw.get'(n:Nat){xs:List V}{ds:List a9}{x:V}(h:aw K H xs ds)(e:xs[n]? =some x):∃d,ds[n]? =some d/\RD K H x d:=by
 have hl:n<ds.length:=by rw[<-h.length];exact(bM.mp e).1
 obtain⟨y,e1,r⟩:=h.get n (bC hl);rw[e]at e1;cases e1;exact⟨_,bC hl,r⟩
def hW:a9->String | .none=>"NoneType" | .bool _=>"bool" | .int _=>"int" | .str _=>"str" | .list _=>"list" | .tuple _=>"tuple" | .dict _=>"dict"
theorem RD.ty{x:V}:∀{d:a9},RD K H x d->lj K H x (hW d) | .none,h=>by rw[h.G6];rfl | .bool b,h=>by rw[h.KS];rfl | .int b,h=>by rw[h.int_inv];rfl | .str b,h=>by rw[h.str_inv];rfl | .list ds,h=>by obtain⟨a,xs,rfl,h1,_⟩:=h.lst_inv;exact .inl ⟨Z,xs,h1⟩ | .tuple ds,h=>by obtain⟨a,xs,rfl,h1,_⟩:=h.cD;exact .inr ⟨Z,xs,h1⟩ | .dict _,h=>by simp[RD]at h
structure cg(n:Nat)(d:a9):Prop where
 lay:d.canLay0=true
 dep:d.depth<=n
def cY(n:Nat)(ds:List a9):Prop:=∀d∈ds,cg n d
theorem cg.le{n m:Nat}{d:a9}(h:cg n d)(l:n<=m):cg m d:=⟨h.lay,fu h.dep l⟩
theorem lU{n:Nat}:∀{ds:List a9},cY n ds↔(PyData.canLayAll0 ds=true/\PyData.depthAll ds<=n)
 |[]=>⟨λ_=>⟨Z,dQ _⟩,λ_ _ h=>nomatch h⟩ |d::ds=>by
  have ih:=lU (n:=n) (ds:=ds);simp only[PyData.canLayAll0,PyData.depthAll,cI];constructor
  ·intro h
   have h1:=h d (.head _);have h2:=ih.mp λx hx=>h x (.tail _ hx);exact⟨⟨h1.lay,h2.1⟩,Nat.max_le.mpr ⟨h1.dep,h2.2⟩⟩
  ·rintro⟨⟨a,b⟩,c⟩ x hx
   have c':=Nat.max_le.mp c;rcases bR.mp hx with rfl|hx
   ·exact⟨a,c'.1⟩
   ·exact ih.mpr ⟨b,c'.2⟩ x hx
theorem cY.tup{n:Nat}{ds:List a9}(h:cY n ds):cg (n+1) (.tuple ds):=⟨by simpa[PyData.canLay0]using(lU.mp h).1,by simpa[PyData.depth]using(lU.mp h).2⟩
theorem cY.lst{n:Nat}{ds:List a9}(h:cY n ds):cg (n+1) (.list ds):=⟨by simpa[PyData.canLay0]using(lU.mp h).1,by simpa[PyData.depth]using(lU.mp h).2⟩
theorem cg.cD{n:Nat}{ds:List a9}(h:cg (n+1) (.tuple ds)):cY n ds:=lU.mpr ⟨by simpa[PyData.canLay0]using h.lay,by simpa[PyData.depth]using h.dep⟩
theorem cg.int{n:Nat}(i:Int):cg n (.int i):=⟨Z,dQ _⟩
theorem cY.nil{n:Nat}:cY n []:=λ_ h=>nomatch h
theorem cY.cons{n:Nat}{d:a9}{ds:List a9}(h:cg n d)(g:cY n ds):cY n (d::ds):=λx hx=>by
 rcases bR.mp hx with rfl|hx
 ·exact h
 ·exact g x hx
theorem cY.app{n:Nat}{ds es:List a9}(h:cY n ds)(g:cY n es):cY n (ds++es):=λx hx=>(mH.mp hx).elim (h x) (g x)
theorem cg.shaped{n:Nat}{d:a9}(h:cg n d)(l:n<=64):SeqAt.shaped d=true:=by unfold SeqAt.shaped;rw[h.lay,gy];exact eT (fu h.dep l)
def del(H:Hp)(p:Addr):Hp:=λb=>if b=p then none else H b
theorem gZ{H:Hp}{p b:Addr}{o:HO}:del H p b=some o↔b≠p/\H b=some o:=by
 unfold del;by_cases e:b=p
 ·rw[aZ e];simp[e]
 ·rw[aY e];simp[e]
theorem vV{H:Hp}{p:Addr}:au (del H p) H:=λb o e=>(gZ.mp e).2
def SD(p:Addr)(H H':Hp):Prop:=au (del H p) (del H' p)
theorem au.sd{p:Addr}(s:au H H'):SD p H H':=λb o e=>gZ.mpr ⟨(gZ.mp e).1,s _ _ (gZ.mp e).2⟩
theorem Nw.del{p q:Addr}{o:HO}(h:Nw H H' q o)(hp:H p≠none):L2.del H' p q=some o:=gZ.mpr ⟨λe=>hp (e▸h.no),h.at'⟩
structure AD(K:a6)(p:Addr)(n:Nat)(H:Hp)(v:V)(d:a9):Prop where
 rd:RD K (del H p) v d
 ok:cg n d
structure fY(K:a6)(p:Addr)(n:Nat)(H:Hp)(vs:List V)(ds:List a9):Prop where
 gh:aw K (del H p) vs ds
 ok:cY n ds
variable {p:Addr}{n m:Nat}{v:V}{vs:List V}{d:a9}{ds es:List a9}
theorem AD.DW(h:AD K p n H v d):RD K H v d:=RD.mono vV _ h.rd
theorem AD.go(h:AD K p n H v d)(s:SD p H H'):AD K p n H' v d:=⟨RD.mono s _ h.rd,h.ok⟩
theorem fY.go(h:fY K p n H vs ds)(s:SD p H H'):fY K p n H' vs ds:=⟨aw.mono s _ h.gh,h.ok⟩
theorem AD.le(h:AD K p n H v d)(l:n<=m):AD K p m H v d:=⟨h.rd,h.ok.le l⟩
theorem fY.nil:fY K p n H [] []:=⟨bW,.nil⟩
theorem fY.cons(h:AD K p n H v d)(g:fY K p n H vs ds):fY K p n H (v::vs) (d::ds):=⟨bJ h.rd g.gh,.cons h.ok g.ok⟩
theorem fY.one(h:AD K p n H v d):fY K p n H [v] [d]:=.cons h .nil
theorem AD.int(i:Int):AD K p n H (.int i) (.int i):=⟨dw i,.int i⟩
theorem AD.nE{q:Addr}(h:fY K p n H vs ds)(w:Nw H H' q (.tup vs))(hp:H p≠none):AD K p (n+1) H' (.ref q) (.tuple ds):=⟨dF (aL.of (w.del hp)) (h.go w.same.sd).gh,h.ok.tup⟩
theorem AD.xY(h:AD K p (n+1) H v (.tuple ds)):∃a xs,v= .ref a/\aL K (del H p) a xs/\fY K p n H xs ds:=by obtain⟨a,xs,e,h1,h2⟩:=h.rd.cD;exact⟨a,xs,e,h1,h2,h.ok.cD⟩
end
inductive My(K:a6)(x:V)(y:V)(H:Hp)(Q:VK):Prop |mk (p:_)(n:_)(ds:_)(es:_)(h0:H p≠none)(h1:AD K p (n+1) H x (.tuple ds))(h2:AD K p (n+1) H y (.tuple es))(h3:ds.length+es.length<=sizeLine)(h4:∀v H',au H H'->AD K p (n+1) H' v (.tuple (ds++es))->Q v H')
def E8(K:a6):R2:=λx y H Q=>My K x y H Q
section
variable {X:Cx}
theorem Be(K:a6)(hK:X.K=K):bF X (binaryOp .Add) (E8 K):=by
 subst hK;intro af s O H x y v u Q I rx ry h;obtain⟨p,n,ds,es,hp,hx,hy,hz,q⟩:=h;obtain⟨a,xs,rfl,ha,dI⟩:=hx.xY;obtain⟨b,ys,rfl,hb,j6⟩:=hy.xY;cases rx;cases ry;obtain⟨its,r1,p1,_⟩:=I.tuple (ha.go vV);obtain⟨gJ,r2,p2,_⟩:=I.tuple (hb.go vV);have l1:=dI.gh.length;have l2:=j6.gh.length;by_cases e0:xs=[]
 ·subst e0
  have d0:ds=[]:=List.length_eq_zero_iff.mp (by rw[<-l1];rfl);subst d0;have i0:its=[]:=r1.ux.mpr rfl;subst i0;obtain⟨⟨cls,dd,data,sl⟩,ho,hc,n,hd⟩:=id p1;obtain⟨⟨Ba,mj,data2,lM⟩,iq,cW,n2,hd2⟩:=id p2;simp only at hc hd cW hd2;subst hc hd cW hd2;exact concat_meets ⟨_,ho,Z⟩ ⟨_,iq,Z⟩ noFill_tuple_add seq_tuple_add BW BX (BZ _ _) (tuple_addW0 a b _ gJ.toArray n n2 dd mj sl lM (by simp)) ⟨ho,iq,⟨.ref b,H,I,Z,q _ _ (au.refl H) hy⟩⟩
 ·refine HT.Kx p1 p2 (λz=>e0 (r1.ux.mp z)) (λz=>⟨.ref a,H,I,Z,?_⟩) (λz=>?_) (by rw[<-r1.length,<-r2.length,l1,l2];exact hz)
  ·have e1:ys=[]:=r2.ux.mp z
   have d1:es=[]:=List.length_eq_zero_iff.mp (by rw[<-l2,e1];rfl);subst d1;exact q _ _ (au.refl H) (by rw[fH];exact hx)
  ·have hf:H s.heap.objs.size=none:=I.aD.fresh (aU _)
   have nw:Nw H (upd H s.heap.objs.size (.tup (xs++ys))) s.heap.objs.size (.tup (xs++ys)):=.of hf;refine⟨.ref s.heap.objs.size,_,I.laid (t':=s.toks) (o:=.tup (xs++ys)) (λb ob q=>aX _ q) (aU _) ?_,Z,q _ _ nw.same ?_⟩
   ·exact⟨by rw[fy,l1,l2];exact hz,_,r1.append r2,IsTup.new _ _⟩
   ·exact AD.nE ⟨dI.gh.append j6.gh,dI.ok.app j6.ok⟩ nw hp
end
end L2
namespace HT
open PySem PySem.Spec PyProof.Rows
section
variable {prog:a8}{w:World}{A:aa}{E:Value->a7->Prop}{s:a7}
theorem Jq{t sl:Addr}{items:Array Value}{vl vu:Value}{lo hi:Option Int}{Q:Value->a7->Prop}(ht:IsTup s.heap t items)(hs:s.heap.IsSliceOf sl vl vu .none)(pl:IsPart vl lo)(pu:IsPart vu hi) (hw:bb items.size 0 lo=0/\bb items.size items.size hi=items.size)(h:Q (.ref t) s):wpAny (model prog w) A (getItem (.ref t) (.ref sl)) Q E s:=by
 obtain⟨os,fN,je,eK⟩:=id hs;have ou:s.TypeIs (.ref sl) "slice":=⟨os,fN,je⟩;unfold getItem
 try with_reducible refine eB ?_
 first|refine ai (aG ?_)|skip
 refine ai (wpAny_sequenceKey ht.typeIs aj ?_);refine ai (hV (name:=Str.ofString "__getitem__") ht.typeIs kh (hU kh ht.typeIs entry_tuple_getitem ?_ (args_tuple_getitem _ _)));show wpAny _ _ (Builtin.Tuple.tupleItemsOf (.ref t)>>=_) _ _ s;refine ai (tupleItemsOf_ ht ?_);refine ai (rD ou ?_);rw[aZ aj];refine ai (yo hs pl pu ?_);have Hy:(((bb items.size 0 lo:Nat):Int)==0&&(1:Int)==1&&(bb items.size items.size hi-bb items.size 0 lo)==items.size)=true:=by rw[hw.1,hw.2];simp
 show wpAny _ _ (if(((bb items.size 0 lo:Nat):Int)==0&&(1:Int)==1&&(bb items.size items.size hi-bb items.size 0 lo)==items.size)=true then _ else _) _ _ s;rw[aZ Hy];show wpAny _ _ (Builtin.Tuple.tupleIsExact (.ref t)>>=_) _ _ s;refine ai (m:=Builtin.Tuple.tupleIsExact _) (ai (rD ht.typeIs (aG ?_)));rw[aZ aj]
 wp_walk;exact⟨_,Z,aG h⟩
end
end HT
namespace L2
open PySem PySem.Spec PyProof.Rows
section
variable {X:Cx}
end
end L2
namespace L2
theorem ek{α:Type}{xs:List α}{i:Int}{v:α}(h0:0<=i)(h:xs[i.toNat]? =some v):df xs i=some v:=by have hl:i.toNat<xs.length:=(bM.mp h).1;unfold df fC;rw[aZ h0,aZ aA];exact h
end L2
namespace L2
open PySem PySem.Spec PyProof.Rows
theorem sP(n:Nat)(h:n<=1000):n<=sizeLine:=fu h aj
section
variable {X:Cx}{p pos pos':Pos}{a b e:Expr}{es:List Expr}{ta tb te:TE}{t:TA}{x:Str}
theorem px(K:a6)(ha:PE X a ta)(hb:PE X b tb)(hK:X.K=K:=by rfl)(hp:BD b:=by exact λ_ _=>rfl):PE X (.Subscript a b pos) (mP (λx y H Q=>tZ K x y H Q\/tY K x y H Q) ta tb):=zx (Hi K hK) ha hb hp
theorem i8(K:a6)(B:bI X.mg)(ha:PA X (e::es) t)(hK:X.K=K:=by rfl)(hg:Gl X "isinstance":=by rfl)(he:starEach (e::es) X.env=(false,eval e X.env)::starEach es X.env:=by rfl)(cK:(backTo pos (starEach es X.env)).any (·.1)=false:=by rfl):PE X (.Call (.Name "isinstance" p) (e::es) [] pos) (mR (λxs H Q=>u6 K xs H Q\/u5 K xs H Q) t):=dH (Hj K hK) hg (B.at "isinstance") PyProof.Rows.boot_isinstance ha aj aj he cK
theorem eY(K:a6)(B:bI X.mg)(ha:PA X (e::es) t)(hK:X.K=K:=by rfl)(hg:Gl X "len":=by rfl)(he:starEach (e::es) X.env=(false,eval e X.env)::starEach es X.env:=by rfl)(cK:(backTo pos (starEach es X.env)).any (·.1)=false:=by rfl):PE X (.Call (.Name "len" p) (e::es) [] pos) (mR (λxs H Q=>∃p ys,xs=[.ref p]/\(aF K H p ys\/aL K H p ys)/\Q (.int ys.length) H) t):=dH (GS K hK) hg (B.at "len") PySem.boot_len ha aj aj he cK
theorem pS(i:Nat)(hN:X.N.Nodup)(he:PE X e te)(hi:X.N[i]? =some x:=by rfl)(hx:Loc X.env.scope x:=by first|exact Or.inl rfl|exact Or.inr rfl)(hs:swapsWith e (some (.Name x pos')) pos.line X.env=pure false:=by rfl)(hf:X.fn x=true\/X.env.scope.names.lookup x=some .local:=by first|exact .inl rfl|exact .inr rfl|assumption):PS X (.Assign [.Name x pos'] e pos) (pI te (dm i)):=Eg hN hi hx he hs hf
theorem bB(i:Nat)(hN:X.N.Nodup)(hi:X.N[i]? =some x:=by rfl)(hx:Loc X.env.scope x:=by first|exact Or.inl rfl|exact Or.inr rfl)(hf:X.fn x=true\/X.env.scope.names.lookup x=some .local:=by first|exact .inl rfl|exact .inr rfl|assumption):PG X (.Name x pos) (dm i):=EB hN hi hx hf
theorem nH (a:Str):[a].Nodup:=by simp
theorem dX{a b:Str}(h:(a==b)=false):[a,b].Nodup:=by
 have:a≠b:=λz=>by rw[z,x6]at h;cases h
 simp[this]
theorem cE{n:Nat}(h:Nat.ble n 1000=true):n<=sizeLine:=sP n (xp h)
end
def GV(mg:aM)(x:Str)(v:V):Prop:=∃u,mg x=some u/\RelV v u
def GT(K:a6)(mg:aM)(x:Str)(vs:List V):Prop:=∃a,GV mg x (.ref a)/\∀H,aL K H a vs
theorem i5{X:Cx}{x:Str}{v:V}{pos:Pos}(hg:Gl X x)(h:GV X.mg x v)(hd:(x==("__debug__":Str))=false:=by decide):PE X (.Name x pos) (tC v):=by obtain⟨u,hm,r⟩:=h;exact EM hg hm r hd
section
variable {K:a6} {mg:aM} {h:Heap}
theorem m9{x:Str}{i:Int}{t:Tok}(X:K.In h)(G:h.Ns mainGlobals mg)(a:PySem.W.nsIn K mainGlobals x=some (some (.int i t))):GV mg x (.int i):=⟨_,oZ X G a,t,Z⟩
theorem AF{x:Str}{vs:List V}{b:Addr}{its:Array Value}{n:Nat}{od:Option Addr}{bX:Array (Option Value)}(X:K.In h)(G:h.Ns mainGlobals mg)(a:PySem.W.nsIn K mainGlobals x=some (some (.ref b))) (l:K.lookup b=some ⟨.type "tuple",od,.seq its n,bX⟩)(hz:its.size<=sizeLine)(r:Vals vs its.toList):GT K mg x vs:=⟨b,⟨_,oZ X G a,Z⟩,λH=>.inr ⟨_,its,n,l,Z,Z,hz,r⟩⟩
end
section
variable {X:Cx}
end
theorem B9{J:It}{xs:List V}{bs:List Bool}{te:TE}{Q:VK}{D:Addr}{H H0:Hp}(rest:St)(nw:Nw H H0 D (.lst []))(hl:xs.length=bs.length)(hz:xs.length<=1000) (go:∀i x H2,xs[i]? =some x->au H H2->J.go i H2/\∀y H3,J.dU i H2 y H3->H3=H2/\y=x)(stop:∀H2,au H H2->J.stop xs.length H2) (hs:∀(i:Nat)(x:V)(b:Bool)(H2:Hp)(Q':VK),xs[i]? =some x->bs[i]? =some b->au H H2->(∀H3,au H2 H3->Q' (.bl b) H3)->te (some x::rest) H2 Q') (hq:∀H',au H H'->H' D=some (.lst (bs.map V.bl))->Q (.ref D) H'):fW J (dm 0) fz te Q D (none::rest) H0:=by
 have hD:=nw.no;refine l9 xs.length (λi O H2=>au H H2/\H2 D=some (.lst ((bs.take i).map V.bl))/\∃v,O=v::rest) ?_ ?_ ?_
 ·exact⟨nw.same,nw.at',none,Z⟩
 ·rintro i O H2 hi ⟨s2,d2,v,rfl⟩
  have jQ:i<bs.length:=by rw[<-hl];exact hi
  have ex:=bC hi;have eb:=bC jQ;obtain⟨g1,g2⟩:=go i _ H2 ex s2;refine⟨g1,λy H3 hy=>?_⟩;obtain⟨rfl,rfl⟩:=g2 y H3 hy;refine pC ?_;refine hs i _ _ _ _ ex eb s2 λH4 s4=>?_;refine⟨_,s4 _ _ d2,?_,xs.length-(i+1),aA,Z,aA,λb o e=>?_,?_,_,Z⟩
  ·rw[br,cT]
   have:(1000:Nat)<sizeLine:=by decide
   lia
  ·rw[aI (cz e hD)];exact s4 b o (s2 b o e)
  ·rw[bw,iI,eb,mI];rfl
 ·rintro O H2 ⟨s2,d2,v,rfl⟩
  refine⟨stop H2 s2,hq H2 s2 ?_⟩;rw[d2,hl,rL]
theorem B8{K:a6}{a:Addr}{xs:List V}{bs:List Bool}{te:TE}{Q:VK}{D:Addr}{H H0:Hp}(rest:St)(hx:aL K H a xs)(nw:Nw H H0 D (.lst []))(hl:xs.length=bs.length)(hz:xs.length<=1000) (hs:∀(i:Nat)(x:V)(b:Bool)(H2:Hp)(Q':VK),xs[i]? =some x->bs[i]? =some b->au H H2->(∀H3,au H2 H3->Q' (.bl b) H3)->te (some x::rest) H2 Q') (hq:∀H',au H H'->H' D=some (.lst (bs.map V.bl))->Q (.ref D) H'):fW (jl K a) (dm 0) fz te Q D (none::rest) H0:=B9 rest nw hl hz (λi x H2 e s=>⟨⟨xs,x,hx.go s,e⟩,λy H3 ⟨e3,y3⟩=>⟨e3,by have:=y3 _ (hx.go s);rw[e]at this;exact(ck this).symm⟩⟩) (λH2 s=>⟨xs,hx.go s,aU _⟩) hs hq
theorem zV{ds:List a9}{f:a9->Bool}{i:Nat}{b:Bool}(h:(ds.map f)[i]? =some b):∃d,ds[i]? =some d/\f d=b:=by rw[cm]at h;cases e:ds[i]? with |none=>rw[e]at h;cases h |some d=>rw[e]at h;exact⟨d,Z,ck h⟩
theorem all_map{ds:List a9}{f:a9->Bool}:(ds.map f).all id=ds.all f:=by rw[xw];rfl
section
variable {X:Cx}
inductive Mx(K:a6)(x:V)(y:V)(H:Hp)(Q:VK):Prop |mk (a:_)(b:_)(xs:_)(ys:_)(h0:x= .ref a)(h1:y= .ref b)(h2:aF K H a xs)(h3:aF K H b ys)(h4:xs.length+ys.length<=sizeLine)(h5:∀p H',Nw H H' p (.lst (xs++ys))->Q (.ref p) H')
def E7(K:a6):R2:=λx y H Q=>Mx K x y H Q
theorem qO(K:a6)(hK:X.K=K):bF X (binaryOp .Add) (E7 K):=by
 subst hK;intro af s O H x y v u Q I rx ry h;obtain⟨a,b,xs,ys,rfl,rfl,ha,hb,hz,q⟩:=h;cases rx;cases ry;obtain⟨its,r1,p1,_⟩:=I.list ha;obtain⟨gJ,r2,p2,_⟩:=I.list hb;obtain⟨⟨cls,dd,data,sl⟩,n,ho,hc,Nz,hd⟩:=id p1;obtain⟨⟨Ba,mj,data2,lM⟩,n2,iq,cW,Ny,hd2⟩:=id p2;simp only at hc hd cW hd2;subst hc hd cW hd2;have e:its.toArray++gJ.toArray=(its++gJ).toArray:=by simp
 refine concat_meets ⟨_,ho,Z⟩ ⟨_,iq,Z⟩ noFill_list_add seq_list_add PySem.F.slot_list_add PySem.F.entry_list_add (PySem.F.args_list_add_2 _ _) (list_addW a b its.toArray gJ.toArray n n2 dd mj sl lM (by rw[cC,cC,<-r1.length,<-r2.length];exact hz)) ⟨ho,iq,?_⟩;rw[e];have nw:Nw H (upd H s.heap.objs.size (.lst (xs++ys))) s.heap.objs.size (.lst (xs++ys)):=.of (I.aD.fresh (aU _));refine⟨.ref s.heap.objs.size,_,I.laid (t':=s.toks) (o:=.lst (xs++ys)) (λb ob q=>aX _ q) (aU _) ?_,Z,q _ _ nw⟩;exact⟨by rw[fy];exact hz,_,0,r1.append r2,bS _ Z⟩
open Classical in
noncomputable def l8(h:Heap)(d:a9)(w:Value):Bool:=if q:∃e as,Reads h w e as then PyData.eqv q.choose d else false
theorem Kc{h:Heap}{d e:a9}{w:Value}{as:List Addr}(r:Reads h w e as):l8 h d w=PyData.eqv e d:=by have q:∃e as,Reads h w e as:=⟨e,as,r⟩;unfold l8;rw[dif_pos q];obtain⟨NJ,r'⟩:=q.choose_spec;rw[(Reads.unique r' e as r).1]
theorem AV{af:List (Addr×Obj)}{s:a7}{O:St}{H:Hp}(I:Inv X af O H s)(hu:X.A.units+65<cLine){x:V}{u:Value}{d:a9}(rx:RelV x u)(hd:RD X.K H x d)(sd:SeqAt.shaped d=true): ∀{xs:List V}{us:List Value}{ds:List a9},Vals xs us->aw X.K H xs ds->(∀e∈ds,SeqAt.shaped e=true)->(∀w∈us,SeqAt.EqAt X.A.in1 s w u (l8 s.heap d w))/\us.any (l8 s.heap d)=ds.any λe=>PyData.eqv e d |xs,us,[],rv,h,_=>by cases h.nil_inv;cases rv;exact⟨λ_ h=>(dh h).elim,Z⟩ |xs,us,e::ds,rv,h,se=>by obtain⟨y,ys,rfl,h1,h2⟩:=h.cons_inv;cases rv with |cons ra rb=>
 rename_i w ws;obtain⟨as,q1⟩:=RD.reads I e ra h1;obtain⟨bs,q2⟩:=RD.reads I d rx hd;have key:SeqAt.EqAt X.A.in1 s w u (PyData.eqv e d):=SeqAt.eqAt_reads e d X.A.in1 s w u as bs q1 q2 (SeqAt.canLay_of_shaped (se e (.head _))) (SeqAt.canLay_of_shaped sd) (SeqAt.room_of_shaped (se e (.head _)) (by show X.A.units+1+64<cLine;omega));obtain⟨k1,k2⟩:=AV I hu rx hd sd rb h2 (λe' he=>se e' (.tail _ he));have ew:l8 s.heap d w=PyData.eqv e d:=Kc q1;refine⟨λz hz=>?_,?_⟩
 ·rcases bR.mp hz with rfl|hz
  ·rw[ew];exact key
  ·exact k1 z hz
 ·rw[rT,rT,ew,k2]
def BB(X:Cx)(r:V->Hp->VK->Prop):Prop:=∀(af:List (Addr×Obj))(s:a7)(O:St)(H:Hp)(x:V)(v vs:Value)(sl:Addr)(Q:VK),Inv X af O H s->RelV x v->s.heap.IsSliceOf sl .none .none vs->IsPart vs (some (-1))->r x H Q->∃T id,typeLookup (.type T) "__getitem__"=pure (some (.builtin id))/\s.TypeIs v T/\wpAny (model X.prog X.w) X.A (getItem v (.ref sl)) (EP X af O Q) X.xe s
def D3(r:V->Hp->VK->Prop)(te:TE)(ts:TO):TE:=λO H Q=>te O H λx H1=>ts O H1 λo H2=>o=some (-1)/\r x H2 Q
theorem EF{r:V->Hp->VK->Prop}{e:Expr}{te:TE}{st:Expr}{ts:TO}{p2 pos:Pos}(hr:BB X r)(he:PE X e te)(hs:PO X (some st) ts):PE X (.Subscript e (.Slice none none (some st) p2) pos) (D3 r te ts):=by intro af s O H Q I h;refine Subscript_ (az (he af s O H _ I h) λv s1 ⟨x,H1,I1,r1,q1⟩=>?_);refine wpAny_Slice ?_;rw[evalPart_none];refine aG (aG ?_);refine az (hs af s1 O H1 _ I1 q1) λvs s3 ⟨o,H3,I3,ps,e3,q3⟩=>?_;subst e3;have I4:Inv X af O H3 {s3 with heap:=s3.heap.push {cls:=.type "slice",data:=.fields #[.none,.none,vs]}}:=I3.kept (t':=s3.toks) λb ob q=>aX _ q;obtain⟨T,id,hT,ht,hg⟩:=hr af {s3 with heap:=s3.heap.push {cls:=.type "slice",data:=.fields #[.none,.none,vs]}} O H3 x v vs s3.heap.objs.size Q I4 r1 (Heap.IsSliceOf.new ..) ps q3;show wpAny (model X.prog X.w) X.A (subscriptTail e (.Slice none none (some st) p2) v (.ref s3.heap.objs.size)) (EP X af O Q) X.xe {s3 with heap:=s3.heap.push {cls:=.type "slice",data:=.fields #[.none,.none,vs]}};exact tail_any (ops:=[v,.ref s3.heap.objs.size]) ht hT hg (by with_unfolding_all rfl)
theorem DR{prog:a8}{w:World}{A:aa}{E:Value->a7->Prop}{s:a7}{sl:Addr}{vs:Value}{n:Nat}{Q:Int×Int×Nat->a7->Prop}(hs:s.heap.IsSliceOf sl .none .none vs)(ps:IsPart vs (some (-1))) (h:Q ((n:Int)-1,-1,n) s):wpAny (model prog w) A (Builtin.Slice.sliceApplied (.ref sl) (pure (n:Int))) Q E s:=by
 obtain⟨os,fN,je,eK⟩:=id hs;unfold Builtin.Slice.sliceApplied Builtin.Slice.sliceFields;refine ai (ai (bV fN eK (x:=.none) Z (ai (bV fN eK (x:=.none) Z (ai (bV fN eK (x:=vs) Z (aG ?_)))))));refine ai (HT.mU ps ?_);show wpAny _ _ (if((-1:Int)==0)=true then _ else _) _ _ s;rw[aY aj];refine ai (HT.mU .none (ai (HT.mU .none (ai (aG ?_)))));have ep:Builtin.Slice.slicePlaces ((n:Int)-1) (-1) (-1)=n:=by
  unfold Builtin.Slice.slicePlaces;rw[aY aj];have e1:(- -1:Int)=1:=by decide
  rw[e1];split<;>lia
 show wpAny _ _ (pure ((n:Int)-1,(-1:Int),Builtin.Slice.slicePlaces ((n:Int)-1) (-1) (-1))) _ _ s;rw[ep];exact aG h
theorem AL{α β:Type}{f g:α->Option β}:∀{l:List α},(∀x∈l,f x=g x)->l.filterMap f=l.filterMap g |[],_=>rfl |a::l,h=>by rw[rS,rS,h a (.head _),AL λx hx=>h x (.tail _ hx)]
theorem El(xs:Array Value):((List.range xs.size).filterMap λ(m:Nat)=>xs[(((xs.size:Int)-1)+(m:Int)*(-1)).toNat]?).toArray=xs.toList.reverse.toArray:=by
 have e:(List.range xs.size).filterMap (λ(m:Nat)=>xs[(((xs.size:Int)-1)+(m:Int)*(-1)).toNat]?)=((List.range xs.size).map λk=>xs.size-1-k).filterMap (xs[·]?):=by
  rw[List.filterMap_map];refine AL λm hm=>?_;have:=List.mem_range.mp hm;have e1:(((xs.size:Int)-1)+(m:Int)*(-1)).toNat=xs.size-1-m:=by lia
  rw[e1];rfl
 rw[e,PySem.W.krv_range,List.filterMap_reverse,PySem.W.krv_all]
theorem Jr{prog:a8}{w:World}{A:aa}{E:Value->a7->Prop}{s:a7}{t sl:Addr}{items:Array Value}{vs:Value}{Q:Value->a7->Prop}(ht:IsTup s.heap t items)(hs:s.heap.IsSliceOf sl .none .none vs)(ps:IsPart vs (some (-1))) (h:Q (.ref s.heap.objs.size) {s with heap:=s.heap.push {cls:=.type "tuple",data:=.seq items.toList.reverse.toArray}}) (m6:items.size<=sizeLine):wpAny (model prog w) A (getItem (.ref t) (.ref sl)) Q E s:=by
 have j7:sizeOk (.seq items.toList.reverse.toArray):=by show items.toList.reverse.toArray.size<=sizeLine;rw[cC,p8,mL];exact m6
 obtain⟨os,fN,je,eK⟩:=id hs;have ou:s.TypeIs (.ref sl) "slice":=⟨os,fN,je⟩;unfold getItem
 try with_reducible refine eB ?_
 first|refine ai (aG ?_)|skip
 refine ai (wpAny_sequenceKey ht.typeIs aj ?_);refine ai (hV (name:=Str.ofString "__getitem__") ht.typeIs kh (hU kh ht.typeIs entry_tuple_getitem ?_ (args_tuple_getitem _ _)));show wpAny _ _ (Builtin.Tuple.tupleItemsOf (.ref t)>>=_) _ _ s;refine ai (tupleItemsOf_ ht ?_);refine ai (rD ou ?_);rw[aZ aj];refine ai (DR hs ps ?_);have vc:¬(((((items.size:Int)-1)==0)&&((-1:Int)==1)&&(items.size==items.size))=true):=by intro q;rw[cI,cI]at q;exact absurd q.1.2 aj
 show wpAny _ _ (if((((items.size:Int)-1)==0)&&((-1:Int)==1)&&(items.size==items.size))=true then _ else _) _ _ s;rw[aY vc,El]
 first |exact ai (m:=Builtin.Tuple.tupleExact _) (fq (aG ⟨_,Z,aG h⟩) j7) |exact ai (m:=Builtin.Tuple.tupleExact _) (fq (ai (aG (aG ⟨_,Z,aG h⟩))) j7) |exact ai (ai (m:=Builtin.Tuple.tupleExact _) (fq (aG (aG ⟨_,Z,aG h⟩)) j7)) |exact ai (ai (m:=Builtin.Tuple.tupleExact _) (fq (aG ⟨_,Z,aG h⟩) j7))
theorem DK(K:a6)(hK:X.K=K):BB X (λx H Q=>∃a xs,x= .ref a/\aL K H a xs/\∀p H',Nw H H' p (.tup xs.reverse)->Q (.ref p) H'):=by subst hK;intro af s O H x v vs sl Q I rx hs ps h;obtain⟨a,xs,rfl,hx,q⟩:=h;cases rx;obtain⟨its,r,ht,hz⟩:=I.tuple hx;have hlen:=r.length;refine⟨"tuple",_,kh.lookup,ht.typeIs,?_⟩;refine Jr ht hs ps ?_ (by rw[cC]<;>lia);have nw:Nw H (upd H s.heap.objs.size (.tup xs.reverse)) s.heap.objs.size (.tup xs.reverse):=.of (I.aD.fresh (aU _));refine⟨.ref s.heap.objs.size,_,I.laid (t':=s.toks) (o:=.tup xs.reverse) (λb ob q=>aX _ q) (aU _) ?_,Z,q _ _ nw⟩;exact⟨by rw[p8];exact hz,_,r.reverse,IsTup.new _ _⟩
end
end L2
namespace L2
theorem bo.Ct{k:Nat}{A:PySem.Around}(r:bo k A):A.units+65<PySem.cLine:=by have:=r.un;lia
end L2
namespace L2
open PySem PySem.Spec PyProof.Rows
def fi(b:Bool)(h:Heap)(it l:Addr)(k:Nat):Prop:=match b with|true=>h.IsListIter it l k|false=>h.IsTupleIter it l k
def cS(b:Bool)(h:Heap)(l:Addr)(xs:Array Value):Prop:=match b with|true=>h.IsList l xs|false=>h.IsTuple l xs
def jT(b:Bool):String:=match b with|true=>"list_iterator"|false=>"tuple_iterator"
theorem fi.to{b:Bool}{h g:Heap}{it l:Addr}{k:Nat}(x:fi b h it l k)(e:∀o,h.get? it=some o->g.get? it=some o):fi b g it l k:=by cases b<;>(obtain⟨o,ho,r⟩:=x;exact⟨o,e o ho,r⟩)
theorem cS.to{b:Bool}{h g:Heap}{l:Addr}{xs:Array Value}(x:cS b h l xs)(e:∀o,h.get? l=some o->g.get? l=some o):cS b g l xs:=by cases b<;>(obtain⟨o,ho,r⟩:=x;exact⟨o,e o ho,r⟩)
theorem fi.ob{b:Bool}{h:Heap}{it l:Addr}{k:Nat}(x:fi b h it l k):∃o,h.get? it=some o/\o.cls= .type (jT b)/\∀v,o.data≠ .cell v:=by cases b<;>(obtain⟨o,ho,c,d⟩:=x;exact⟨o,ho,c,λv z=>by rw[d]at z;cases z⟩)
section
variable {prog:a8}{w:World}{A:aa}{E:Value->a7->Prop}{s:a7}
theorem lW{b:Bool}{l:Addr}{xs:Array Value}{Q:Value->a7->Prop}(x:cS b s.heap l xs) (q:Q (.ref s.heap.objs.size) {s with heap:=s.heap.push {cls:=.type (jT b),data:=.fields #[.ref l,.int 0 0]}}):wpAny (model prog w) A (pyIter (.ref l)) Q E s:=by
 cases b
 ·exact wpAny_pyIter_tuple x q
 ·exact oY x q
theorem G1{it t:Addr}{k:Nat}{ts:Array Value}{x:Value}{Q:Value->a7->Prop}(hi:s.heap.IsTupleIter it t k)(ht:s.heap.IsTuple t ts)(hx:ts[k]? =some x) (q:∀g,g.IsTupleIter it t (k+1)->Heap.SameBut it s.heap g->Q x {s with heap:=g}):wpAny (model prog w) A (Builtin.SmallTypes.nextOf (.ref it)) Q E s:=by obtain⟨oi,dZ,ci,di⟩:=id hi;obtain⟨ot,nU,_,nt,dt⟩:=ht;unfold Builtin.SmallTypes.nextOf;refine ai (hV (name:=Str.ofString "__next__") hi.typeIs lE (hU lE hi.typeIs xi ?_ (xk _)));show wpAny _ _ (field (.ref it) 0>>=_) _ _ s;refine ai (bV dZ di (x:=.ref t) Z ?_);show wpAny _ _ (if(Value.ref t==Value.none)=true then _ else _) _ _ s;rw[aY (show¬((Value.ref t==Value.none)=true)from dS)];show wpAny _ _ (field (.ref it) 1>>=_) _ _ s;refine ai (bV dZ di (x:=.int k 0) Z ?_);show wpAny _ _ (seqItems? (.ref t)>>=_) _ _ s;refine ai (gu nU dt ?_);simp only[pb,hx];refine ai (kf dZ di (by simp) (aG ⟨x,Z,aG (q _ ?_ (rX ..))⟩));exact⟨_,pe _ dZ (xm (p3 di _)),(Obj.cls_mapFields ..).trans ci,by rw[p3 di];simp[rawInt]⟩
theorem Kf{it t:Addr}{k:Nat}{ts:Array Value}{Q:Value->a7->Prop}(hh:A.handled=none)(hi:s.heap.IsTupleIter it t k)(ht:s.heap.IsTuple t ts)(hx:ts[k]? =none) (q:∀g e,Heap.ExtBut it s.heap g->(∃o,g.get? e=some o/\o.cls= .type "StopIteration")->E (.ref e) {s with heap:=g}):wpAny (model prog w) A (Builtin.SmallTypes.nextOf (.ref it)) Q E s:=by
 obtain⟨oi,dZ,ci,di⟩:=id hi;obtain⟨ot,nU,_,nt,dt⟩:=ht;unfold Builtin.SmallTypes.nextOf;refine ai (hV (name:=Str.ofString "__next__") hi.typeIs lE (hU lE hi.typeIs xi ?_ (xk _)));show wpAny _ _ (field (.ref it) 0>>=_) _ _ s;refine ai (bV dZ di (x:=.ref t) Z ?_);show wpAny _ _ (if(Value.ref t==Value.none)=true then _ else _) _ _ s;rw[aY (show¬((Value.ref t==Value.none)=true)from dS)];show wpAny _ _ (field (.ref it) 1>>=_) _ _ s;refine ai (bV dZ di (x:=.int k 0) Z ?_);show wpAny _ _ (seqItems? (.ref t)>>=_) _ _ s;refine ai (gu nU dt ?_);simp only[pb,hx];refine ai (my (ai (kf dZ di (by simp) ?_)));show wpAny _ _ (newExc (.type "StopIteration") []>>=_) _ _ _;refine ai ?_;simp only[newExc,newTuple];refine ai (fq ?_ (by size_fits));refine ai (m:=firstArgMember _ _) (wpAny_of_eq (a:=Value.none) (by first|rfl|(simp only[firstArgMember];rfl)) ?_);refine fq ?_ (by size_fits);simp only[raiseNew];refine ai (wpAny_handled ?_)
 first|rw[show A.in1.handled=none from hh]|rw[hh]
 exact ai (aG (wpAny_throw (q _ _ (((rX ..).extBut.push _).push _) ⟨_,bS _ Z,Z⟩)))
theorem nC{b:Bool}{it l:Addr}{k:Nat}{xs:Array Value}{x:Value}{Q:Value->a7->Prop}(hi:fi b s.heap it l k)(hl:cS b s.heap l xs)(hx:xs[k]? =some x) (q:∀g,fi b g it l (k+1)->Heap.SameBut it s.heap g->Q x {s with heap:=g}):wpAny (model prog w) A (Builtin.SmallTypes.nextOf (.ref it)) Q E s:=by
 cases b
 ·exact G1 hi hl hx q
 ·exact wpAny_nextOf_list_item hi hl hx q
theorem vP{b:Bool}{it l:Addr}{k:Nat}{xs:Array Value}{Q:Value->a7->Prop}(hh:A.handled=none)(hi:fi b s.heap it l k)(hl:cS b s.heap l xs)(hx:xs[k]? =none) (q:∀g e,Heap.ExtBut it s.heap g->(∃o,g.get? e=some o/\o.cls= .type "StopIteration")->E (.ref e) {s with heap:=g}):wpAny (model prog w) A (Builtin.SmallTypes.nextOf (.ref it)) Q E s:=by
 cases b
 ·exact Kf hh hi hl hx q
 ·exact wpAny_nextOf_list_end hh hi hl hx q
structure Zp(b1 b2:Bool)(h:Heap)(z TI TO i1 i2 l1 l2:Addr)(f0:Value)(k:Nat):Prop where
 zz:IsZip h z TI TO f0
 ti:IsPair h TI (.ref i1) (.ref i2)
 to:∃a b,IsPair h TO a b
 n1:fi b1 h i1 l1 k
 n2:fi b2 h i2 l2 k
theorem uh{z TI TO:Addr}{Q:Bool->a7->Prop}(hz:IsZip s.heap z TI TO .none)(q:Q true s):wpAny (model prog w) A (Builtin.SmallTypes.ownedTupleIsFree (.ref z)) Q E s:=by unfold Builtin.SmallTypes.ownedTupleIsFree;exact ai (bV hz Z (x:=.none) Z (aG q))
theorem xA{b1 b2:Bool}{z TI TO i1 i2 l1 l2:Addr}{k:Nat}{xs ys:Array Value}{x y:Value}{Q:Value->a7->Prop}(D:ZipApart z TI TO i1 i2 l1 l2)(NQ:Zp b1 b2 s.heap z TI TO i1 i2 l1 l2 .none k) (fE:cS b1 s.heap l1 xs)(fO:cS b2 s.heap l2 ys)(hx:xs[k]? =some x)(hy:ys[k]? =some y) (q:∀g,Zp b1 b2 g z TI TO i1 i2 l1 l2 (rawInt s.heap.objs.size) (k+1)->IsPair g s.heap.objs.size x y->(∀c o,c≠z->c≠TO->c≠i1->c≠i2->s.heap.get? c=some o->g.get? c=some o)->Q (.ref s.heap.objs.size) {s with heap:=g}): wpAny (model prog w) A (Builtin.«zip.__next__» ⟨[.ref z],[]⟩) (λr s'=>∃v,r= .done (.ret v)/\Q v s') E s:=by
 obtain⟨hz,cX,⟨a,b,de⟩,h1,h2⟩:=NQ;show wpAny _ _ (field (.ref z) 2>>=_) _ _ _;refine ai (bV hz Z (x:=.bool false) Z ?_);show wpAny _ _ (field (.ref z) 3>>=_) _ _ _;refine ai (bV hz Z (x:=.ref TI) Z (ai (gu cX Z ?_)));show wpAny _ _ (Builtin.SmallTypes.ownedTupleIsFree (.ref z)>>=_) _ _ _;refine ai (uh hz ?_);simp only[if_true];refine ai (my (ai (bV hz Z (x:=.ref TO) Z (ai (kb hz (by simp) λg1 z1 e1=>?_)))));replace z1:IsZip g1 z TI TO .ellipsis:=z1;refine ai ?_;simp only[C6,List.zipIdx_nil,rR,List.forIn_nil];refine ai (ai (mz ?_));show wpAny _ _ (Builtin.SmallTypes.nextOf (.ref i1)>>=_) _ _ _;refine ai (nC (h1.to λo e=>e1.extBut _ _ D.i1z e) (fE.to λo e=>e1.extBut _ _ D.l1z e) hx λg2 n1 e2=>aG ?_);have t2:IsPair g2 TO a b:=e2.extBut _ _ D.TOi1 (e1.extBut _ _ D.TOz de);refine ai (gu t2 Z (ai (wU t2 λg3 t3 e3=>?_)));replace t3:IsPair g3 TO x b:=t3;refine ai (wpAny_letGo (aG ?_));refine ai (ai (mz ?_));show wpAny _ _ (Builtin.SmallTypes.nextOf (.ref i2)>>=_) _ _ _;refine ai (nC (h2.to λo e=>e3.extBut _ _ D.TOi2.symm (e2.extBut _ _ D.i12.symm (e1.extBut _ _ D.i2z e))) (fO.to λo e=>e3.extBut _ _ D.l2TO (e2.extBut _ _ D.l2i1 (e1.extBut _ _ D.l2z e))) hy λg4 n2 e4=>aG ?_);have t4:IsPair g4 TO x b:=e4.extBut _ _ D.TOi2 t3;refine ai (gu t4 Z (ai (wU t4 λg5 t5 e5=>?_)));replace t5:IsPair g5 TO x y:=t5;refine ai (wpAny_letGo (aG (aG ?_)));refine ai (gu t5 Z (ai (wpAny_newTuple ?_)));have sz:g5.objs.size=s.heap.objs.size:=by rw[e5.1,e4.1,e3.1,e2.1,e1.1]
 have z5:IsZip g5 z TI TO .ellipsis:=e5.extBut _ _ D.TOz.symm (e4.extBut _ _ D.i2z.symm (e3.extBut _ _ D.TOz.symm (e2.extBut _ _ D.i1z.symm z1)));have kp:∀c o,c≠z->c≠TO->c≠i1->c≠i2->s.heap.get? c=some o->g5.get? c=some o:=λc o c1 c2 c3 c4 e=>e5.extBut _ _ c2 (e4.extBut _ _ c4 (e3.extBut _ _ c2 (e2.extBut _ _ c3 (e1.extBut _ _ c1 e))));have m1:fi b1 g5 i1 l1 (k+1):=n1.to λo e=>e5.extBut _ _ D.TOi1.symm (e4.extBut _ _ D.i12 (e3.extBut _ _ D.TOi1.symm e));have m2:fi b2 g5 i2 l2 (k+1):=n2.to λo e=>e5.extBut _ _ D.TOi2.symm e;have pj:z<g5.objs.size:=aV z5;show wpAny _ _ (Builtin.SmallTypes.ownedTupleHandOut (.ref z) (.ref g5.objs.size)>>=_) _ _ _;refine ai ?_;unfold Builtin.SmallTypes.ownedTupleHandOut;have z6:IsZip (g5.push {cls:=.type "tuple",data:=.seq #[x,y]}) z TI TO .ellipsis:=aX _ z5;refine ai (kb z6 (by simp) λg7 z7 e7=>?_);replace z7:IsZip g7 z TI TO (rawInt g5.objs.size):=z7;refine kb z7 (by simp) λg8 z8 e8=>?_;replace z8:IsZip g8 z TI TO (rawInt g5.objs.size):=z8;have up:∀c o,c≠z->g5.get? c=some o->g8.get? c=some o:=λc o c1 e=>e8.extBut _ _ c1 (e7.extBut _ _ c1 (aX _ e));have t8:IsPair g8 g5.objs.size x y:=e8.extBut _ _ (p4 pj) (e7.extBut _ _ (p4 pj) (bS _ Z));rw[sz]at z8 t8;refine aG ⟨_,Z,?_⟩;show Q (.ref g5.objs.size) _;rw[sz];exact q g8 ⟨z8,up _ _ D.TIz (kp _ _ D.TIz D.TITO D.TIi1 D.TIi2 cX),⟨_,_,up _ _ D.TOz t5⟩,m1.to λo e=>up _ o D.i1z e,m2.to λo e=>up _ o D.i2z e⟩ t8 λc o c1 c2 c3 c4 e=>up c o c1 (kp c o c1 c2 c3 c4 e)
theorem Ci{b1 b2:Bool}{z TI TO i1 i2 l1 l2:Addr}{k:Nat}{xs ys:Array Value}{Q:Fin->a7->Prop}(hh:A.handled=none)(D:ZipApart z TI TO i1 i2 l1 l2)(NQ:Zp b1 b2 s.heap z TI TO i1 i2 l1 l2 .none k) (fE:cS b1 s.heap l1 xs)(fO:cS b2 s.heap l2 ys)(jc:xs[k]? =none\/ys[k]? =none) (q:∀g e,(∀c o,c≠z->c≠TO->c≠i1->c≠i2->s.heap.get? c=some o->g.get? c=some o)->(∃o,g.get? e=some o/\o.cls= .type "StopIteration")->E (.ref e) {s with heap:=g}): wpAny (model prog w) A (Builtin.«zip.__next__» ⟨[.ref z],[]⟩) Q E s:=by obtain⟨hz,cX,⟨a,b,de⟩,h1,h2⟩:=NQ;show wpAny _ _ (field (.ref z) 2>>=_) _ _ _;refine ai (bV hz Z (x:=.bool false) Z ?_);show wpAny _ _ (field (.ref z) 3>>=_) _ _ _;refine ai (bV hz Z (x:=.ref TI) Z (ai (gu cX Z ?_)));show wpAny _ _ (Builtin.SmallTypes.ownedTupleIsFree (.ref z)>>=_) _ _ _;refine ai (uh hz ?_);simp only[if_true];refine ai (my (ai (bV hz Z (x:=.ref TO) Z (ai (kb hz (by simp) λg1 z1 e1=>?_)))));replace z1:IsZip g1 z TI TO .ellipsis:=z1;refine ai ?_;simp only[C6,List.zipIdx_nil,rR,List.forIn_nil];refine ai (ai (mz ?_));show wpAny _ _ (Builtin.SmallTypes.nextOf (.ref i1)>>=_) _ _ _;have j1:=h1.to λo e=>e1.extBut _ _ D.i1z e;have k1:=fE.to λo e=>e1.extBut _ _ D.l1z e;cases hx:xs[k]? with
 |none=>
  refine ai (vP hh j1 k1 hx λg2 er e2 ⟨oe,dJ,gP⟩=>?_);have z2:IsZip g2 z TI TO .ellipsis:=e2 _ _ D.i1z.symm z1;have nz:er≠z:=λv=>by subst v;rw[z2]at dJ;cases dJ;simp at gP
  refine kb z2 (by simp) λg3 _ e3=>q g3 er (λc o c1 _ c3 _ v=>e3.extBut _ _ c1 (e2 _ _ c3 (e1.extBut _ _ c1 v))) ⟨oe,e3.extBut _ _ nz dJ,gP⟩ |some x=>
  have hy:ys[k]? =none:=by rcases jc with h|h;rw[hx]at h;cases h;exact h
  refine ai (nC j1 k1 hx λg2 n1 e2=>aG ?_);have t2:IsPair g2 TO a b:=e2.extBut _ _ D.TOi1 (e1.extBut _ _ D.TOz de);refine ai (gu t2 Z (ai (wU t2 λg3 t3 e3=>?_)));refine ai (wpAny_letGo (aG ?_));refine ai (ai (mz ?_));show wpAny _ _ (Builtin.SmallTypes.nextOf (.ref i2)>>=_) _ _ _;refine ai (vP hh (h2.to λo e=>e3.extBut _ _ D.TOi2.symm (e2.extBut _ _ D.i12.symm (e1.extBut _ _ D.i2z e))) (fO.to λo e=>e3.extBut _ _ D.l2TO (e2.extBut _ _ D.l2i1 (e1.extBut _ _ D.l2z e))) hy λg4 er e4 ⟨oe,dJ,gP⟩=>?_);have z4:IsZip g4 z TI TO .ellipsis:=e4 _ _ D.i2z.symm (e3.extBut _ _ D.TOz.symm (e2.extBut _ _ D.i1z.symm z1));have nz:er≠z:=λv=>by subst v;rw[z4]at dJ;cases dJ;simp at gP
  refine kb z4 (by simp) λg5 _ e5=>q g5 er (λc o c1 c2 c3 c4 v=>e5.extBut _ _ c1 (e4 _ _ c4 (e3.extBut _ _ c2 (e2.extBut _ _ c3 (e1.extBut _ _ c1 v))))) ⟨oe,e5.extBut _ _ nz dJ,gP⟩
abbrev pB(b1:Bool)(h:Heap)(l1:Addr):Heap:=h.push {cls:=.type (jT b1),data:=.fields #[.ref l1,.int 0 0]}
abbrev pA(b1 b2:Bool)(h:Heap)(l1 l2:Addr):Heap:=(pB b1 h l1).push {cls:=.type (jT b2),data:=.fields #[.ref l2,.int 0 0]}
abbrev pq(b1 b2:Bool)(h:Heap)(l1 l2:Addr):Heap:=(pA b1 b2 h l1 l2).push {cls:=.type "tuple",data:=.seq #[.ref h.objs.size,.ref (pB b1 h l1).objs.size]}
abbrev pk(b1 b2:Bool)(h:Heap)(l1 l2:Addr):Heap:=(pq b1 b2 h l1 l2).push {cls:=.type "tuple",data:=.seq #[.none,.none]}
abbrev lH(b1 b2:Bool)(h:Heap)(l1 l2:Addr):Heap:=(pk b1 b2 h l1 l2).push {cls:=.type "zip",data:=.fields #[.none,.bool false,.bool false,.ref (pA b1 b2 h l1 l2).objs.size,.ref (pq b1 b2 h l1 l2).objs.size]}
theorem Cf(b1 b2:Bool)(l1 l2:Addr)(xs ys:Array Value):Meets (Builtin.«zip.__new__» ⟨[.type "zip",.ref l1,.ref l2],[]⟩) (λ_ R s=>cS b1 s.heap l1 xs/\cS b2 s.heap l2 ys/\R (.ok (.ret (.ref (pk b1 b2 s.heap l1 l2).objs.size))) {s with heap:=lH b1 b2 s.heap l1 l2}):=.of_wp λprog w A R s h=>by
 obtain⟨hp,gg,d,tk,os⟩:=s;obtain⟨fE,fO,h⟩:=h;have nQ:=sub_zip;have Jk:cS b1 (Shared.heap ⟨hp,gg,d,tk,os⟩) l1 xs:=fE;have Jj:cS b2 (Shared.heap ⟨hp.push {cls:=.type (jT b1),data:=.fields #[.ref l1,.int 0 0]},gg,d,tk,os⟩) l2 ys:=fO.to λo e=>aX _ e
 wp_walk using lW Jk,lW Jj;exact⟨_,Z,h⟩
theorem xB{b1 b2:Bool}{l1 l2:Addr}{xs ys:Array Value}{Q:Value->a7->Prop}(fE:cS b1 s.heap l1 xs)(fO:cS b2 s.heap l2 ys) (q:∀g,Zp b1 b2 g (s.heap.objs.size+4) (s.heap.objs.size+2) (s.heap.objs.size+3) s.heap.objs.size (s.heap.objs.size+1) l1 l2 .none 0->(∀c o,s.heap.get? c=some o->g.get? c=some o)->Q (.ref (s.heap.objs.size+4)) {s with heap:=g}): wpAny (model prog w) A (call (.type "zip") [.ref l1,.ref l2]) Q E s:=by
 refine callType_new PySem.F.called_zip aj (PySem.F.typeCall_zip_2 _ _) (PySem.F.newCall_zip_2 _ _) (λobj=>PySem.F.args_object_init_3 obj _ _) PySem.F.entry_zip_new (Cf b1 b2 l1 l2 xs ys) ⟨fE,fO,?_⟩;have z1:(pB b1 s.heap l1).objs.size=s.heap.objs.size+1:=iK ..;have z2:(pA b1 b2 s.heap l1 l2).objs.size=s.heap.objs.size+2:=by rw[iK,z1]
 have z3:(pq b1 b2 s.heap l1 l2).objs.size=s.heap.objs.size+3:=by rw[iK,z2]
 have z4:(pk b1 b2 s.heap l1 l2).objs.size=s.heap.objs.size+4:=by rw[iK,z3]
 have g5:(lH b1 b2 s.heap l1 l2).get? (pk b1 b2 s.heap l1 l2).objs.size=some _:=bS _ rfl;have g4:(lH b1 b2 s.heap l1 l2).get? (pq b1 b2 s.heap l1 l2).objs.size=some _:=aX _ (bS _ Z);have g3:(lH b1 b2 s.heap l1 l2).get? (pA b1 b2 s.heap l1 l2).objs.size=some _:=aX _ (aX _ (bS _ Z));have g2:(lH b1 b2 s.heap l1 l2).get? (pB b1 s.heap l1).objs.size=some _:=aX _ (aX _ (aX _ (bS _ Z)));have g1:(lH b1 b2 s.heap l1 l2).get? s.heap.objs.size=some _:=aX _ (aX _ (aX _ (aX _ (bS _ Z))));show _/\_;rw[z2,z3,z4]at g5;rw[z1,z2]at g3;rw[z3]at g4;rw[z1]at g2;rw[z4];refine⟨⟨_,g5,Z⟩,q _ ⟨g5,g3,⟨_,_,g4⟩,?_,?_⟩ λc o e=>aX _ (aX _ (aX _ (aX _ (aX _ e))))⟩
 ·cases b1<;>exact⟨_,g1,rfl,rfl⟩
 ·cases b2<;>exact⟨_,g2,rfl,rfl⟩
end
section
variable {X:Cx}{af:List (Addr×Obj)}{O:St}{H:Hp}{s:a7}{h':Heap}
theorem Inv.km{t':Nat}{fp:List Addr}(I:Inv X af O H s)(k:∀b o,b∉fp->s.heap.get? b=some o->h'.get? b=some o)(hf:∀b∈fp,dg X af H b):Inv X af O H {s with heap:=h',toks:=t'}:=by
 have nG:∀b u,H b=some u->b∉fp:=λb u e z=>by rw[(hf b z).1]at e;cases e
 have hL:X.env.locals∉fp:=λz=>(hf _ z).2.1 rfl;refine I.step (g':=s.gens) (d':=s.drawn) (ch:=fp) (λb hb=>?_) (λb o _ _ hc e _=>k b o hc e) (λb o _ _ hc e _=>⟨o.slots,k b o hc e⟩) (λ_ _ _ _ n=>n) (λb o hc e=>⟨o,k b o hc e⟩) (λ_ _ e=>e) (λ_ _ _ e=>e) (λb ps e=>⟨#[],by rw[e];simp⟩) (λm hm=>?_) (λb u e=>?_) I.bare
 ·obtain⟨f0,f1,f2,f3,f4,f5⟩:=hf b hb
  exact⟨f3,f1,f4,f5⟩
 ·obtain⟨o,es,ep,ho,r⟩:=hm
  exact⟨o,es,ep,k _ o hL ho,r⟩
 ·refine(I.aD b u e).gb (λc v hc q=>k c v ?_ q) (λ_ q=>q) λ_ _ q=>q
  rcases hc with z|z
  ·rw[z];exact nG b u e
  ·exact nG c _ z
end
def bH(b:Bool)(K:a6)(H:Hp)(a:Addr)(xs:List V):Prop:=match b with|true=>aF K H a xs|false=>aL K H a xs
theorem bH.get{X:Cx}{af:List (Addr×Obj)}{O:St}{H:Hp}{s:a7}{b:Bool}{a:Addr}{xs:List V}(I:Inv X af O H s)(h:bH b X.K H a xs):∃its:List Value,Vals xs its/\cS b s.heap a its.toArray:=by
 cases b
 ·obtain⟨its,r,p,_⟩:=I.tuple h;exact⟨its,r,p⟩
 ·obtain⟨its,r,p,_⟩:=I.list h;exact⟨its,r,p.isList⟩
theorem bH.inj{X:Cx}{af:List (Addr×Obj)}{O:St}{H:Hp}{s:a7}{b:Bool}{a:Addr}{xs ys:List V}(I:Inv X af O H s)(h:bH b X.K H a xs)(g:bH b X.K H a ys):xs=ys:=by
 cases b
 ·exact I.xJ h g
 ·exact I.uG h g
def iH(K:a6)(b1 b2:Bool)(l1 l2:Addr):It:=⟨λi H=>∃xs ys x y,bH b1 K H l1 xs/\bH b2 K H l2 ys/\xs[i]? =some x/\ys[i]? =some y,λi H v H'=>∃T x y,v= .ref T/\(∀xs,bH b1 K H l1 xs->xs[i]? =some x)/\(∀ys,bH b2 K H l2 ys->ys[i]? =some y)/\Nw H H' T (.tup [x,y]),λi H=>∃xs ys,bH b1 K H l1 xs/\bH b2 K H l2 ys/\(xs.length<=i\/ys.length<=i)⟩
theorem CD{P:a8}{w:World}{K:a6}{elts:List Expr}{kt:Nat}{pos:Pos}{b1 b2:Bool}{z TI TO i1 i2 l1 l2:Addr}(D:ZipApart z TI TO i1 i2 l1 l2): Turn P w K (.Tuple elts kt pos) (iH K b1 b2 l1 l2) [z,TI,TO,i1,i2] z (λi h=>Zp b1 b2 h z TI TO i1 i2 l1 l2 .none i) where
 mem:=by simp
 obj:=λi h st b hb=>by
  obtain⟨hz,cX,⟨a,c,de⟩,h1,h2⟩:=st;simp only[bR,dh,kg]at hb;rcases hb with rfl|rfl|rfl|rfl|rfl
  ·exact⟨_,hz,λv e=>by cases e⟩
  ·exact⟨_,cX,λv e=>by cases e⟩
  ·exact⟨_,de,λv e=>by cases e⟩
  ·obtain⟨o,e,_,n⟩:=h1.ob;exact⟨o,e,n⟩
  ·obtain⟨o,e,_,n⟩:=h2.ob;exact⟨o,e,n⟩
 keep:=λi h h' st k=>by obtain⟨hz,cX,⟨a,c,de⟩,h1,h2⟩:=st;exact⟨k z (by simp) _ hz,k TI (by simp) _ cX,⟨a,c,k TO (by simp) _ de⟩,h1.to λo e=>k i1 (by simp) o e,h2.to λo e=>k i2 (by simp) o e⟩
 item:=by
  intro X hP hw hK hc i af s O H E I hf st hg;subst hP hw hK;obtain⟨xs,ys,x,y,q1,q2,e1,e2⟩:=hg;obtain⟨m4,r1,p1⟩:=q1.get I;obtain⟨gJ,r2,p2⟩:=q2.get I;obtain⟨u1,nP,gF⟩:=r1.get e1;obtain⟨u2,uT,kr⟩:=r2.get e2;have hT:s.TypeIs (.ref z) "zip":=⟨_,st.zz,Z⟩;unfold pyNext;refine ai (mC (hV (name:=Str.ofString "__next__") hT lD (hU lD hT xh (xA D st p1 p2 (x:=u1) (y:=u2) (by simpa using nP) (by simpa using uT) λg zg tg kp=>aG ?_) (xj _))));refine⟨_,Z,?_⟩;refine wpAny_letOwnedTupleGo_zip zg.zz λg' sf sb=>?_;have hs:=sb.extBut;have pj:z<s.heap.objs.size:=aV st.zz;have nw:Nw H (upd H s.heap.objs.size (.tup [x,y])) s.heap.objs.size (.tup [x,y]):=.of (I.aD.fresh (aU _));have I1:Inv X af O (upd H s.heap.objs.size (.tup [x,y])) {s with heap:=s.heap.push {cls:=.type "tuple",data:=.seq #[u1,u2]}}:=I.laid (t':=s.toks) (λb ob q=>aX _ q) (aU _) ⟨by show 2<=sizeLine;decide,[u1,u2],.cons gF (.cons kr .nil),⟨_,bS _ Z,Z,_,Z⟩⟩;have nL:∀b∈[z,TI,TO,i1,i2],b<s.heap.objs.size:=λb hb=>by
   simp only[bR,dh,kg]at hb;obtain⟨hz,cX,⟨a,c,de⟩,h1,h2⟩:=st;rcases hb with rfl|rfl|rfl|rfl|rfl
   ·exact aV hz
   ·exact aV cX
   ·exact aV de
   ·obtain⟨o,e,_⟩:=h1.ob;exact aV e
   ·obtain⟨o,e,_⟩:=h2.ob;exact aV e
  have hn:∀b∈[z,TI,TO,i1,i2],upd H s.heap.objs.size (.tup [x,y]) b=none:=λb hb=>by rw[aI (bD (nL b hb))];exact(hf b hb).1
  have I2:Inv X af O (upd H s.heap.objs.size (.tup [x,y])) {s with heap:=g'}:=Inv.km (s:={s with heap:=s.heap.push {cls:=.type "tuple",data:=.seq #[u1,u2]}}) (t':=s.toks) (fp:=[z,TI,TO,i1,i2]) I1 (λb o hb e=>by
   have e:(s.heap.push {cls:=.type "tuple",data:=.seq #[u1,u2]}).get? b=some o:=e;have nz:b≠z:=λq=>hb (by simp[q]);rcases xx e with⟨oo,rfl⟩|e'
   ·subst oo
    exact hs _ _ nz tg
   ·exact hs _ _ nz (kp b o nz (λq=>hb (by simp[q])) (λq=>hb (by simp[q])) (λq=>hb (by simp[q])) e')) (λb hb=>by obtain⟨f0,f1,f2,f3,f4,f5⟩:=hf b hb;exact⟨hn b hb,f1,f2,f3,f4,f5⟩);refine⟨.ref s.heap.objs.size,_,I2,Z,⟨s.heap.objs.size,x,y,Z,λzs hz=>?_,λzs hz=>?_,nw⟩,?_,hn⟩
  ·rw[bH.inj I hz q1];exact e1
  ·rw[bH.inj I hz q2];exact e2
  ·obtain⟨_,cX,⟨a,c,de⟩,h1,h2⟩:=zg
   exact⟨sf,hs _ _ D.TIz cX,⟨a,c,hs _ _ D.TOz de⟩,h1.to λo e=>hs _ o D.i1z e,h2.to λo e=>hs _ o D.i2z e⟩
 done:=by intro X hP hw hK hc i af s O H E I hf st hg;subst hP hw hK;obtain⟨xs,ys,q1,q2,jc⟩:=hg;obtain⟨m4,r1,p1⟩:=q1.get I;obtain⟨gJ,r2,p2⟩:=q2.get I;have hT:s.TypeIs (.ref z) "zip":=⟨_,st.zz,Z⟩;have l1:=r1.length;have l2:=r2.length;unfold pyNext;refine ai (mC (hV (name:=Str.ofString "__next__") hT lD (hU lD hT xh (Ci (I.ok.hd hc) D st p1 p2 (jc.imp (λh=>by simp;lia) λh=>by simp;lia) λg e kp he=>?_) (xj _))));obtain⟨o,ho,kT⟩:=he;refine ai (wX (T:="StopIteration") (b:=true) ⟨o,ho,kT⟩ wZ (aG ⟨Z,?_⟩));exact I.km (t':=s.toks) (fp:=[z,TI,TO,i1,i2]) (λb o hb e=>kp b o (λq=>hb (by simp[q])) (λq=>hb (by simp[q])) (λq=>hb (by simp[q])) (λq=>hb (by simp[q])) e) hf
 self:=λ_ _ _ _ _ st h=>wV st.zz h
inductive MC(K:a6)(b1:Bool)(b2:Bool)(R:It->Hp->Prop)(vs:List V)(H1:Hp):Prop |mk (l1:_)(l2:_)(h0:vs=[.ref l1,.ref l2])(h1:(∃xs,bH b1 K H1 l1 xs))(h2:(∃ys,bH b2 K H1 l2 ys))(h3:R (iH K b1 b2 l1 l2) H1)
def Ht(K:a6)(b1 b2:Bool)(ta:TA):TI:=λO H R=>ta O H λvs H1=>MC K b1 b2 R vs H1
theorem nu(K:a6){X:Cx}(hK:X.K=K)(b1 b2:Bool){elts:List Expr}{kt:Nat}{jy:Pos}{a b:Expr}{ta:TA}{p pos:Pos}(hg:Gl X "zip")(hm:X.mg "zip"=none)(ha:PA X [a,b] ta)(hs:starEach [a,b] X.env=[(false,eval a X.env),(false,eval b X.env)]:=by rfl)(gL:starEach [b] X.env=[(false,eval b X.env)]:=by rfl): PI X (.Tuple elts kt jy) (.Call (.Name "zip" p) [a,b] [] pos) (Ht K b1 b2 ta):=by
 subst hK;intro af s O H R I h;refine Call_ (kL I hg hm PyProof.Rows.boot_zip (rH (az (ha pos af s O H _ I h) λus s1 ⟨vs,H1,I1,r1,q1⟩=>?_) (by rw[hs,gL]) (by rw[gL];rfl)));obtain⟨l1,l2,e,⟨xs,h1⟩,⟨ys,h2⟩,q⟩:=q1;subst e;obtain⟨u1,u2,rfl,gF,kr⟩:=vals2 r1;cases(show u1=Value.ref l1 from gF);cases(show u2=Value.ref l2 from kr);obtain⟨m4,v1,p1⟩:=h1.get I1;obtain⟨gJ,v2,p2⟩:=h2.get I1;have a1:l1<s1.heap.objs.size:=by cases b1<;>(obtain⟨o,e,_⟩:=p1;exact aV e)
 have a2:l2<s1.heap.objs.size:=by cases b2<;>(obtain⟨o,e,_⟩:=p2;exact aV e)
 refine xB p1 p2 λg zg kp=>wV zg.zz ?_;refine⟨_,_,_,_,H1,Z,I1.kept (t':=s1.toks) kp,CD (zipApart_new a1 a2),zg,λc hc=>?_,q⟩;have hle:s1.heap.objs.size<=c:=by simp only[bR,dh,kg]at hc;rcases hc with rfl|rfl|rfl|rfl|rfl<;>first|exact aU _|exact C5 _ _
 exact I1.jh hle (I1.aD.fresh hle)
theorem bH.go{b:Bool}{K:a6}{H H':Hp}{a:Addr}{xs:List V}(s:au H H')(h:bH b K H a xs):bH b K H' a xs:=by
 cases b
 ·exact aL.go s h
 ·exact aF.go s h
theorem B7{K:a6}{b1 b2:Bool}{l1 l2:Addr}{xs ys:List V}{bs:List Bool}{te:TE}{Q:VK}{D:Addr}{H H0:Hp}{n:Nat}(rest:St)(hn:n=2)(h1:bH b1 K H l1 xs)(h2:bH b2 K H l2 ys)(nw:Nw H H0 D (.lst [])) (hl:min xs.length ys.length=bs.length)(hz:bs.length<=1000) (hs:∀(i:Nat)(x y:V)(b:Bool)(H2:Hp)(Q':VK),xs[i]? =some x->ys[i]? =some y->bs[i]? =some b->au H H2->(∀H3,au H2 H3->Q' (.bl b) H3)->te (some x::some y::rest) H2 Q') (hq:∀H',au H H'->H' D=some (.lst (bs.map V.bl))->Q (.ref D) H'):fW (iH K b1 b2 l1 l2) (kZ K n (l4 (dm 0) (l4 (dm 1) qD))) fz te Q D (none::none::rest) H0:=by
 subst hn;have hD:=nw.no;refine l9 bs.length (λi O H2=>au H H2/\H2 D=some (.lst ((bs.take i).map V.bl))/\∃v v',O=v::v'::rest) ?_ ?_ ?_
 ·exact⟨nw.same,nw.at',none,none,Z⟩
 ·rintro i O H2 hi ⟨s2,d2,v,v',rfl⟩
  have hx:i<xs.length:=by lia
  have hy:i<ys.length:=by lia
  have ex:=bC hx;have ey:=bC hy;have eb:=bC hi;refine⟨⟨xs,ys,_,_,h1.go s2,h2.go s2,ex,ey⟩,λy' H3 kO=>?_⟩;obtain⟨T,x0,y0,rfl,k1,k2,n3⟩:=kO;have e1:=k1 _ (h1.go s2);have e2:=k2 _ (h2.go s2);rw[ex]at e1;rw[ey]at e2;cases e1;cases e2;refine⟨T,_,Z,aL.of n3.at',Z,_,_,Z,_,_,Z,Z,?_⟩;refine yes (bN ?_);refine hs i _ _ _ _ _ ex ey eb (s2.trans n3.same) λH4 s4=>?_;refine⟨_,s4 _ _ (n3.same _ _ d2),?_,bs.length-(i+1),aA,Z,aA,λb o e=>?_,?_,_,_,Z⟩
  ·rw[br,cT]
   have:(1000:Nat)<sizeLine:=by decide
   lia
  ·rw[aI (cz e hD)];exact s4 b o (n3.same b o (s2 b o e))
  ·rw[bw,iI,eb,mI];rfl
 ·rintro O H2 ⟨s2,d2,v,v',rfl⟩
  refine⟨⟨xs,ys,h1.go s2,h2.go s2,aA⟩,hq H2 s2 ?_⟩;rw[d2,rL]
theorem cN.there{P:a8}{w:World}{H:Hp}{h:Heap}{a:Addr}{o:HO}(x:cN P w H h a o):∃ob,h.get? a=some ob:=by induction o with |lst xs=>obtain⟨_,_,_,_,e⟩:=x;exact⟨_,e⟩ |tup xs=>obtain⟨_,_,_,ob,e,_⟩:=x;exact⟨ob,e⟩ |dK dz=>obtain⟨_,_,_,_,ob,_,_,e,_⟩:=x;exact⟨ob,e⟩ |dT dz=>obtain⟨_,_,_,_,ob,_,_,e,_⟩:=x;exact⟨ob,e⟩ |set S n=>obtain⟨ob,_,_,_,e,_⟩:=x;exact⟨ob,e⟩ |ins C dx fs=>obtain⟨_,_,_,e,_⟩:=x;exact⟨_,e⟩ |own y=>exact x |xd fs=>obtain⟨_,⟨ob,_,_,e,_⟩,_⟩:=x;exact⟨ob,e⟩ |qd lo hi=>obtain⟨_,_,_,e⟩:=x;exact⟨_,e⟩ |gT ob u=>exact⟨_,x.1⟩ |jz ps=>exact⟨_,x⟩ |met f y=>exact⟨_,x⟩ |ext φ=>exact x.2.1
structure Fl(P:a8)(w:World)(outer:List Env)(H:Hp)(h₁:Heap)(ex:Addr)(H':Hp)(B h:Heap):Prop where
 un:Un (cf outer) [] H H' h₁ h
 aD:bL P w H' h
 k1:∀b o,h₁.get? b=some o->H b=none->b∉cf outer->B.get? b=some o
 k2:∀b o,H' b=some o->∃ob,B.get? b=some ob
 k3:∀b o,h₁.get? b=some o->b∉cf outer->∃ob,B.get? b=some ob
 fr:∀b∈cf outer,H' b=none
 nw:h₁.get? ex=none
 ne:H' ex=none
theorem Fl.step{P:a8}{w:World}{outer:List Env}{H H':Hp}{h₁ B h h':Heap}{ex:Addr}{ag:Heap}(F:Fl P w outer H h₁ ex H' B h)(st:B.StaysIn h)(dE:B.StaysIn h')(up:h.UpToSlots h')(ff:h.FunFrames ag outer):Fl P w outer H h₁ ex H' B h':=by
 have slot:∀b o,h₁.get? b=some o->H b=none->b∈cf outer->∃sl,h'.get? b=some {o with slots:=sl}:=λb o e n hb=>by obtain⟨sl,e1⟩:=F.un.slot b o e n hb (by simp);obtain⟨_,o2,e2,hd⟩:=ff.mem hb;rw[e1]at e2;cases e2;obtain⟨sR,e3⟩:=up b _ e1 (λvs=>hd vs);exact⟨sR,e3⟩
 refine⟨⟨λb o e n hb _=>dE b o (F.k1 b o e n hb),λb o e n hb _=>slot b o e n hb,F.un.free,λb o e hx=>?_,F.un.eV,F.un.eL,F.un.eW⟩,λb u e=>?_,F.k1,F.k2,F.k3,F.fr,F.nw,F.ne⟩
 ·by_cases hb:b∈cf outer
  ·obtain⟨_,o2,e2,hd⟩:=ff.mem hb
   obtain⟨sl,e3⟩:=up b o2 e2 hd;exact⟨_,e3⟩
  ·obtain⟨ob,e1⟩:=F.k3 b o e hb
   exact⟨ob,dE b ob e1⟩
 ·refine(F.aD b u e).gb (λc v hc q=>?_) (λ_ q=>q) λ_ _ q=>q
  have Hq:∃ob,B.get? c=some ob:=by
   rcases hc with z|z
   ·rw[z];exact F.k2 b u e
   ·exact F.k2 c _ z
  obtain⟨ob,e1⟩:=Hq;have e2:=st c ob e1;rw[q]at e2;cases e2;exact dE c _ e1
section
variable {P:a8}{w:World}{K:a6}{mg:aM}{ag:Heap}{N:List Str}{qual:Str}{scope:Scope}{f:Addr}{cd:Value}{A:aa}{outer:List Env}{s:a7}{H:Hp}{E:XK}{af:List (Addr×Obj)}{O:St}{H1:Hp}{s1:a7}{h2:Heap}{ex:Addr}{cls:Value}{vs:List Value}
end
section
variable {X:Cx}{x:Str}{C:Addr}{dn:List Value}{newId nN B:String}{e:Expr}{t:TA}{np cL pos:Pos}
end
section
variable {M:Model}{A:aa}{Ex:Value->a7->Prop}
theorem AQ{h:Heap}{g:Array GenState}{d:Drawn}{tk:Nat}{os:OsState}{e:Addr}{oe:Obj}{Q:Bool->a7->Prop}{C D N N':Addr}{nm uw q q':Str}{bs wa bm we:List Value}{hdct vm:Bool}{sn sO:List Str}{sub sG:List Value}{ab wz:Bool}{col w4:Option Bool}{dd vX:Option Addr}{k0 k1 k2 k3 k5 j0 j1 j2 j3 j5:Option Value}{newId Ge:String} (hC:h.get? C=some (excClassObj nm q C N bs bm hdct sn sub ab col dd k0 k1 k2 k3 k5 newId))(hD:h.get? D=some (excClassObj uw q' D N' wa we vm sO sG wz w4 vX j0 j1 j2 j3 j5 Ge)) (he:h.get? e=some oe)(og:oe.cls= .ref C)(hb:we.contains (.type "BaseException")=true)(hs:(Value.ref C::bm).contains (.ref D)=true) (hq:Q true ⟨h,g,d,tk,os⟩):wpAny M A (excMatches (.ref e) (.ref D)) Q Ex ⟨h,g,d,tk,os⟩:=by
 have IH:(Value.ref D::we).contains (.type "BaseException")=true:=by rw[Cc,hb,Bool.or_true]
 have f:=tc_notTuple;unfold excMatches
 repeat (first|(with_reducible refine lB he ?_;rw[og])|with_reducible refine lB hD ?_|(with_reducible refine wW hD ?_;rw[IH])|(with_reducible refine wW hC ?_;rw[hs])|with_reducible refine lB hC ?_|wp_step)
 exact hq
end
section
variable {X:Cx}{k:Nat}{x:Str}{p pos:Pos}{e:Expr}{es:List Expr}{t:TA}{sp:Sp}
end
abbrev Cx.hand(X:Cx)(ex:Addr):Cx:={X with A:=X.A.mark (some (.ref ex)),calm:=false,xe:=λ_ _=>False}
section
variable {X:Cx}{af:List (Addr×Obj)}{O:St}{H:Hp}{s:a7}
theorem Inv.hand(I:Inv X af O H s)(ex:Addr):Inv (X.hand ex) af O H s:=⟨⟨I.ok.mod,I.ok.kind,I.ok.glob,I.ok.blt,I.ok.above,I.ok.inj,I.ok.has,I.ok.iB,λh=>(dS h).elim,I.ok.frames,I.ok.iQ,I.ok.l7,I.ok.bs,I.ok.fh,I.ok.ie,I.ok.gp,I.ok.dM,I.ok.fP⟩,I.os,I.bare,I.ag,I.loc,I.cell,I.free,I.eg,I.pin,I.aD,I.len⟩
theorem Inv.back{ex:Addr}(ok:X.Ok)(I:Inv (X.hand ex) af O H s):Inv X af O H s:=⟨ok,I.os,I.bare,I.ag,I.loc,I.cell,I.free,I.eg,I.pin,I.aD,I.len⟩
theorem xH{M:Model}{A:aa}{E:Value->a7->Prop}{i:Nat}{x:Str}{v:V}{pos:Pos}{Q:Unit->a7->Prop}(I:Inv X af O H s)(hN:X.N.Nodup)(hi:X.N[i]? =some x)(hk:X.env.kindOf x=some .local)(hs:X.env.scope.names.lookup x=some .local) (hv:O[i]? =some (some v))(h:∀s',Inv X af (O.set i none) H s'->Q () s'):wpAny M A (unbindBehindTheSuite X.env x pos) Q E s:=by
 obtain⟨m,hn,hl⟩:=id I.loc;have og:(X.env.scope.kind== .class||(X.env.scope.kind== .module&&X.env.locals !=X.env.globals))=false:=by rw[I.ok.kind];rfl
 have qB:i<O.length:=by rw[I.len];exact(bM.mp hi).1
 have hG:=I.hG;obtain⟨u,r,look⟩:=hl i x v hi hv (.inl hs);have hm:m x=some u:=by
  rcases look with⟨_,e⟩|⟨k,_⟩
  ·exact e
  ·rcases k with k|k<;>(rw[hk]at k;cases k)
 unfold unbindBehindTheSuite;refine mz (wpAny_unbindName_local hk hn hm og λh' u' nW kP=>?_);obtain⟨oL,_,_,An,_⟩:=id hn;have tr:bL X.prog X.w H h':=λb ob e=>by
  refine(I.aD b ob e).gb (λc w' hc q=>(kP.2 c ?_).trans q) (λ_ q=>q) λ_ _ q=>q;rintro rfl;rcases hc with rfl|hc
  ·rw[I.free]at e;cases e
  ·rw[I.free]at hc;cases hc
 have lt:∀b o,X.s₀.heap.get? b=some o->b≠X.env.locals:=λb o e=>bD (eU (aV e) I.ok.above);refine h _ ⟨I.ok,I.os,I.bare,⟨λb o e n hb hx=>(kP.2 b (lt b o e)).trans (I.ag.keep b o e n hb hx),λb o e n hb hx=>?_,I.ag.free,λb o e hx=>?_,I.ag.eV,I.ag.eL,I.ag.eW⟩,⟨_,nW,λj y v' e1 e2 e3=>?_⟩,λy c e=>?_,I.free,I.eg,λp hp=>?_,tr,by simpa using I.len⟩
 ·obtain⟨sl,e1⟩:=I.ag.slot b o e n hb hx
  exact⟨sl,(kP.2 b (lt b o e)).trans e1⟩
 ·obtain⟨o',e1⟩:=I.ag.there b o e hx
  exact⟨o',(kP.2 b (lt b o e)).trans e1⟩
 ·by_cases hj:j=i
  ·subst hj
   rw[rP qB]at e2;cases e2
  ·rw[C9 (ft hj)]at e2
   obtain⟨u2,r2,q⟩:=hl j y v' e1 e2 e3;refine⟨u2,r2,?_⟩;rcases q with⟨k,e⟩|⟨k,c,e,z⟩
   ·have:y≠x:=λe=>hj (uv hN e1 (e▸hi))
    exact .inl ⟨k,by simp[this,e]⟩
   ·exact .inr ⟨k,c,e,z.sameBut kP (hG y c e)⟩
 ·obtain⟨w',z⟩:=I.cell y c e
  exact⟨w',z.sameBut kP (hG y c e)⟩
 ·obtain⟨e,n,ne,nf,d⟩:=I.pin p hp
  exact⟨(kP.2 p.1 ne).trans e,n,ne,nf,d⟩
end
def oO(X:Cx)(st:List Stmt)(t:TS):Prop:=∀(s:a7)(O:St)(H:Hp)(D:Ends),Inv X [] O H s->t D O H->wpAny (model X.prog X.w) X.A (execs st X.env) (SP X [] D) X.xe s
def qW(X:Cx)(st:Stmt)(t:TS):Prop:=∀(s:a7)(O:St)(H:Hp)(D:Ends),Inv X [] O H s->t D O H->wpAny (model X.prog X.w) X.A (exec st X.env) (SP X [] D) X.xe s
theorem oO.one{X:Cx}{st:Stmt}{t:TS}(h:qW X st t):oO X [st] t:=by intro s O H D I q;refine wpAny_execs_cons (az (h s O H D I q) λf s1 q=>?_);cases f with |next=>exact lC q |ret v=>exact q |brk=>exact q |cont=>exact q
theorem Inv.Bo{X:Cx}{af:List (Addr×Obj)}{O:St}{H:Hp}{s:a7}(I:Inv X af O H s):Inv X [] O H s:=⟨I.ok,I.os,I.bare,I.ag,I.loc,I.cell,I.free,I.eg,λp hp=>I.pin p (xu _ (by simpa using hp)),I.aD,I.len⟩
theorem JI{CX:fm}{P:a8}{w:World}{K:a6}{mg:aM}{ag:Heap}{k:Nat}{f:Addr}{name qual:Str}{params:Arguments}{body:List Stmt}{scope:Scope}{dV kV doc pm ao ct oc:Value}{an od:Option Addr} {bX:Array (Option Value)}{N ps:List Str}{sp:Sp}(lk:K.lookup f=some ⟨oc,od,.func (PySem.W.fnOf name qual params body scope dV kV doc pm an ao ct),bX⟩)(bZ:PySem.W.codeIn K ao qual=true)(S:bp N ps scope) (len:∀vs H Q E,sp vs H Q E->vs.length=ps.length) (cG:∀(A:aa)(outer:List Env)(s:a7)(H:Hp)(vs:List V)(Q:VK)(E:XK),bo k (A.deeper (envOfC qual scope s.heap.objs.size f ao))->sp vs H Q E->∃t,oO (dA CX P w K mg ag N qual scope f ao A outer s H E) body t/\t {nx:=λ_ H'=>Q .bj H',rt:=Q} (start N vs) H): cO P w K mg ag CX (k+1) f (PySem.W.fnOf name qual params body scope dV kV doc pm an ao ct) ps sp:=by
 refine⟨len,λA outer s H args us vs Q E hr e0 hb r cA=>?_⟩;have hl:=len _ _ _ _ cA;have KX:K.In s.heap:=e0.mod.iX.keeps λb o e=>(e0.bs b o e).1;have lim:s.heap.NoLimit:=e0.mod.nolimit.keeps λb o e=>(e0.bs b o e).1;have fF:∀y∈ps.zip us,scope.names.lookup y.1=some .local\/(scope.names.lookup y.1=some .cell/\((cellsFrom (s.heap.objs.size+1) scope.names []).lookup y.1).isSome=true):=λ⟨n,v⟩ hy=>by
  rcases S.par n (rM hy).1 with q|q
  ·exact .inl q
  ·exact .inr ⟨q,xf _ _ _ (.inl q)⟩
 refine BO hr.depth (KX _ _ lk) Z S.co S.gen Z (BS KX bZ) (hb _ _ _ _ ?_);refine BK S.kind fF λenv he s1 x=>?_;subst he;refine⟨lim.keeps x.toInCall.keep,codeAny_func ?_⟩;obtain⟨t,ht,hq⟩:=cG A outer s H vs Q E (hr.deeper _) cA;have I:Inv (dA CX P w K mg ag N qual scope f ao A outer s H E) [] (start N vs) H s1:=uN S hr.hd e0 hl r x;refine dB (ht s1 (start N vs) H _ I hq) (λfl s' hs=>?_) λe s' hs=>hs;have fin:∀{σ':St}{H':Hp}{v:V}{u:Value},Inv (dA CX P w K mg ag N qual scope f ao A outer s H E) [] σ' H' s'->RelV v u->Q v H'->CE outer P w H s Q u s':=λ{σ' H' v u} J rv q=>⟨v,H',J.os,J.bare,J.ag,J.aD,rv,q⟩;cases fl with |ret u=>obtain⟨v,σ',H',J,rv,q⟩:=hs;exact fin J rv q |next=>obtain⟨σ',H',J,q⟩:=hs;exact fin (v:=V.bj) (u:=Value.none) J Z q |brk=>obtain⟨_,_,_,q⟩:=hs;exact False.elim q |cont=>obtain⟨_,_,_,q⟩:=hs;exact False.elim q
def takes(K:a6)(C D:Addr):Prop:=PySem.W.mroIn K C (.ref D)=some true
section
variable {X:Cx}{i:Nat}{n y:Str}{Dc:Addr}{jj:List Value}{newD:String}{body gC:List Stmt}{b0:Stmt}{np fM pos:Pos}{tb:XK->TS}{th:TS}{Cs:Addr->Prop}
end
end L2
namespace L2
open PySem PySem.Spec PyProof.Rows PySem.W Builtin.Getset_descriptor
section
variable {prog:a8}{w:World}{A:aa}{E:Value->a7->Prop}{h:Heap}{g:Array GenState}{d:Drawn}{t:Nat}{os:OsState}{K:Frag}{x C:Addr}{o:Obj}
structure rC(K:Frag)(C:Addr):Prop where
 ga:findIn K (.ref C) "__getattribute__"=some (some (.builtin "BaseException.__getattribute__"))
 gx:findIn K (.ref C) "__getattr__"=some none
 cl:findIn K (.ref C) "__class__"=some (some (.builtin "object.__class__"))
 gt:specialIn K (.builtin "object.__class__") "__get__"=some (some (.builtin "getset_descriptor.__get__"))
 tk:takesIn K (.builtin "object.__class__")=some true
 ob:mroIn K C (.type "object")=some true
 be:mroIn K C (.type "BaseException")=some true
 is:hasDictIn K C=true
theorem Jt{M:Model}{zR:Value}{Q:Unit->a7->Prop}(X:K.In h)(k:rC K C)(L0:Looks M h (typeOf (.ref x)) (.ref C))(hq:Q () ⟨h,g,d,t,os⟩): wpAny M A (checkBuiltinCall "BaseException.__getattribute__" ⟨[.ref x,zR],[]⟩) Q E ⟨h,g,d,t,os⟩:=by
 have hk:builtinKind "BaseException.__getattribute__"=some .slot:=by decide+kernel
 have cA:splitId "BaseException.__getattribute__"=some ("BaseException","__getattribute__"):=by decide+kernel
 have ha:=PySem.F.args_bexc_ga (.ref x) zR;have L1:=looks_mroIn (M:=M) X k.be;simp only[checkBuiltinCall,hk,cA];refine ai ?_;unfold isInstance;refine ai (L0.at (L1.at ?_))
 repeat (first|assumption|wp_step)
end
end L2
namespace L2
open PySem PySem.Spec PyProof.Rows
section
variable {X:Cx}
end
abbrev wc:List Value:=[.type "ValueError",.type "Exception",.type "BaseException",.type "object"]
abbrev G2:String:="ValueError.__new__"
theorem FA.IL{P:a8}{w:World}{K:a6}{mg:aM}{ag:Heap}{x:Str}{st:Stmt}{N ps:List Str}{k:Nat}{sp:Sp}(F:FA K mg x st)(S:bp N ps (aO st))(len:∀vs H Q E,sp vs H Q E->vs.length=ps.length) (hb:∀(kV doc pm:Value)(an:Option Addr)(ao ct:Value)(us:List Value),us.length=ps.length->bindArgs (PySem.W.fnOf x x (eN st) (cB st) (aO st) .none kV doc pm an ao ct) ⟨us,[]⟩=pure (ps.zip us)) (cG:∀(f:Addr)(ao:Value)(A:aa)(outer:List Env)(s:a7)(H:Hp)(vs:List V)(Q:VK)(E:XK),bo k (A.deeper (envOfC x (aO st) s.heap.objs.size f ao))->sp vs H Q E->∃t,oO (dA dr P w K mg ag N x (aO st) f ao A outer s H E) (cB st) t/\t {nx:=λ_ H'=>Q .bj H',rt:=Q} (start N vs) H):aP P w K mg ag x (k+1) sp:=by obtain⟨f,fd,hm,F⟩:=F.ex;have kU:=F.binds hb;have kp:=F.kp;obtain⟨oc,od,kV,doc,pm,an,ao,ct,bX,rfl,lk,bZ⟩:=F.ex;exact⟨f,_,ps,JI lk bZ S len λA outer s H vs Q E hr cA=>cG f ao A outer s H vs Q E hr cA,hm,kp,kU⟩
end L2
namespace Ar
end Ar
namespace Rt
open Rat
section
variable {n m:Nat} {r s:Rat}
end
end Rt
namespace L2
open PySem PySem.Spec PyProof.Rows
def dN(H H':Hp):Prop:=∀b o,(∀xs,o≠ .lst xs)->H b=some o->H' b=some o
section
variable {K:a6} {H H' H2:Hp}
theorem dN.trans(a:dN H H')(b:dN H' H2):dN H H2:=λc o n e=>b c o n (a c o n e)
theorem dN.iL{D:Addr}{xs ys:List V}(h:H D=some (.lst xs)):dN H (upd H D (.lst ys)):=λb o n e=>by rw[aI (zN e h (n xs))];exact e
theorem aL.t{a:Addr}{xs:List V}(s:dN H H')(h:aL K H a xs):aL K H' a xs:=h.imp (λr=>r.imp (s _ _ λ_ z=>nomatch z) λ⟨o,e⟩=>⟨o,s _ _ (λ_ z=>nomatch z) e⟩) id
mutual
def dW:a9->Bool | .list _=>false | .dict _=>false | .tuple ds=>cF ds | .none=>true | .bool _=>true | .int _=>true | .str _=>true
def cF:List a9->Bool |[]=>true |d::ds=>dW d&&cF ds
end
theorem eH:∀{ds:List a9},cF ds=true↔∀d∈ds,dW d=true
 |[]=>⟨λ_ _ h=>(nomatch h),λ_=>by simp[cF]⟩ |d::ds=>by
  rw[cF,cI,eH (ds:=ds)];constructor
  ·rintro⟨a,b⟩ x hx
   rcases bR.mp hx with rfl|hx
   ·exact a
   ·exact b x hx
  ·intro h
   exact⟨h d (.head _),λx hx=>h x (.tail _ hx)⟩
theorem jI(ns:List Int):cF (ns.map PyData.int)=true:=eH.mpr λd hd=>by obtain⟨i,_,rfl⟩:=jx.mp hd;simp[dW]
mutual
theorem RD.t(s:dN H H'):∀{x:V}(d:a9),dW d=true->RD K H x d->RD K H' x d |x,.none,_,h=>by simpa[RD]using h |x,.bool b,_,h=>by simpa[RD]using h |x,.int i,_,h=>by simpa[RD]using h |x,.str y,_,h=>by simpa[RD]using h |x,.list ds,n,h=>by simp[dW]at n |x,.tuple ds,n,h=>by rw[RD]at h⊢;obtain⟨a,xs,e,h1,h2⟩:=h;exact⟨a,xs,e,h1.t s,aw.t s ds (by simpa[dW]using n) h2⟩ |x,.dict _,_,h=>by simp[RD]at h
theorem aw.t (s:dN H H'):∀{xs:List V}(ds:List a9),cF ds=true->aw K H xs ds->aw K H' xs ds |xs,[],_,h=>by simpa[aw]using h |xs,d::ds,n,h=>by rw[aw]at h⊢;rw[cF,cI]at n;obtain⟨y,ys,e,h1,h2⟩:=h;exact⟨y,ys,e,RD.t s d n.1 h1,aw.t s ds n.2 h2⟩
end
theorem aw.gK:∀{xs:List V}{ns:List Int},aw K H xs (ns.map PyData.int)->xs=ns.map V.int |xs,[],h=>h.nil_inv |xs,n::ns,h=>by obtain⟨y,ys,rfl,h1,h2⟩:=h.cons_inv;rw[h1.int_inv,aw.gK h2];rfl
theorem ng:∀(ns:List Int),aw K H (ns.map V.int) (ns.map PyData.int) |[]=>bW |n::ns=>bJ (dw n) (ng ns)
theorem Kr{J:It}{xs:List V}{ds:List a9}{te:TE}{Q:VK}{D:Addr}{H0:Hp}(rest:St)(nw:Nw H H0 D (.lst []))(hl:xs.length=ds.length)(hz:xs.length<=1000)(hn:cF ds=true) (go:∀i x H2,xs[i]? =some x->au H H2->J.go i H2/\∀y H3,J.dU i H2 y H3->H3=H2/\y=x)(stop:∀H2,au H H2->J.stop xs.length H2) (hs:∀(i:Nat)(x:V)(d:a9)(H2:Hp)(Q':VK),xs[i]? =some x->ds[i]? =some d->au H H2->(∀y H3,au H2 H3->RD K H3 y d->Q' y H3)->te (some x::rest) H2 Q') (hq:∀H' ys,au H H'->H' D=some (.lst ys)->aw K H' ys ds->Q (.ref D) H'):fW J (dm 0) fz te Q D (none::rest) H0:=by
 have hD:=nw.no;refine l9 xs.length (λi O H2=>au H H2/\(∃ys,H2 D=some (.lst ys)/\aw K H2 ys (ds.take i))/\∃v,O=v::rest) ?_ ?_ ?_
 ·exact⟨nw.same,⟨[],nw.at',bW⟩,none,Z⟩
 ·rintro i O H2 hi ⟨s2,⟨ys,d2,r2⟩,v,rfl⟩
  have jQ:i<ds.length:=by rw[<-hl];exact hi
  have ex:=bC hi;have eb:=bC jQ;obtain⟨g1,g2⟩:=go i _ H2 ex s2;refine⟨g1,λy H3 hy=>?_⟩;obtain⟨rfl,rfl⟩:=g2 y H3 hy;refine pC ?_;refine hs i _ _ _ _ ex eb s2 λz H4 s4 r4=>?_;have d4:=s4 _ _ d2;have len:=r2.length;rw[cT]at len;refine⟨ys,d4,?_,xs.length-(i+1),aA,Z,aA,λb o e=>?_,⟨ys++[z],bw,?_⟩,_,Z⟩
  ·have:(1000:Nat)<sizeLine:=by decide
   lia
  ·rw[aI (cz e hD)];exact s4 b o (s2 b o e)
  ·have t:dN H4 (upd H4 D (.lst (ys++[z]))):=.iL d4
   rw[iI,eb];have n1:cF (ds.take i)=true:=eH.mpr λd hd=>eH.mp hn d (xr hd);exact(aw.t t _ n1 (aw.mono s4 _ r2)).append (bJ (RD.t t _ (eH.mp hn _ (mK jQ)) r4) bW)
 ·rintro O H2 ⟨s2,⟨ys,d2,r2⟩,v,rfl⟩
  refine⟨stop H2 s2,hq H2 ys s2 d2 ?_⟩;rw[hl,rL]at r2;exact r2
theorem B5{a:Addr}{xs:List V}{ds:List a9}{te:TE}{Q:VK}{D:Addr}{H0:Hp}(rest:St)(hx:aL K H a xs)(nw:Nw H H0 D (.lst []))(hl:xs.length=ds.length)(hz:xs.length<=1000)(hn:cF ds=true) (hs:∀(i:Nat)(x:V)(d:a9)(H2:Hp)(Q':VK),xs[i]? =some x->ds[i]? =some d->au H H2->(∀y H3,au H2 H3->RD K H3 y d->Q' y H3)->te (some x::rest) H2 Q') (hq:∀H' ys,au H H'->H' D=some (.lst ys)->aw K H' ys ds->Q (.ref D) H'):fW (jl K a) (dm 0) fz te Q D (none::rest) H0:=Kr rest nw hl hz hn (λi x H2 e s=>⟨⟨xs,x,hx.go s,e⟩,λy H3 ⟨e3,y3⟩=>⟨e3,by have:=y3 _ (hx.go s);rw[e]at this;exact(ck this).symm⟩⟩) (λH2 s=>⟨xs,hx.go s,aU _⟩) hs hq
theorem B4{b1 b2:Bool}{l1 l2:Addr}{xs ys:List V}{ds:List a9}{te:TE}{Q:VK}{D:Addr}{H0:Hp}{n:Nat}(rest:St)(jP:n=2)(h1:bH b1 K H l1 xs)(h2:bH b2 K H l2 ys)(nw:Nw H H0 D (.lst [])) (hl:min xs.length ys.length=ds.length)(hz:ds.length<=1000)(hn:cF ds=true) (hs:∀(i:Nat)(x y:V)(d:a9)(H2:Hp)(Q':VK),xs[i]? =some x->ys[i]? =some y->ds[i]? =some d->au H H2->(∀z H3,au H2 H3->RD K H3 z d->Q' z H3)->te (some x::some y::rest) H2 Q') (hq:∀H' zs,au H H'->H' D=some (.lst zs)->aw K H' zs ds->Q (.ref D) H'):fW (iH K b1 b2 l1 l2) (kZ K n (l4 (dm 0) (l4 (dm 1) qD))) fz te Q D (none::none::rest) H0:=by
 subst jP;have hD:=nw.no;refine l9 ds.length (λi O H2=>au H H2/\(∃zs,H2 D=some (.lst zs)/\aw K H2 zs (ds.take i))/\∃v v',O=v::v'::rest) ?_ ?_ ?_
 ·exact⟨nw.same,⟨[],nw.at',bW⟩,none,none,Z⟩
 ·rintro i O H2 hi ⟨s2,⟨zs,d2,r2⟩,v,v',rfl⟩
  have hx:i<xs.length:=by lia
  have hy:i<ys.length:=by lia
  have ex:=bC hx;have ey:=bC hy;have eb:=bC hi;refine⟨⟨xs,ys,_,_,h1.go s2,h2.go s2,ex,ey⟩,λy' H3 kO=>?_⟩;obtain⟨T,x0,y0,rfl,k1,k2,n3⟩:=kO;have e1:=k1 _ (h1.go s2);have e2:=k2 _ (h2.go s2);rw[ex]at e1;rw[ey]at e2;cases e1;cases e2;refine⟨T,_,Z,aL.of n3.at',Z,_,_,Z,_,_,Z,Z,?_⟩;refine yes (bN ?_);refine hs i _ _ _ _ _ ex ey eb (s2.trans n3.same) λz H4 s4 r4=>?_;have kq:=n3.same.trans s4;have d4:=kq _ _ d2;have len:=r2.length;rw[cT]at len;refine⟨zs,d4,?_,ds.length-(i+1),aA,Z,aA,λb o e=>?_,⟨zs++[z],bw,?_⟩,_,_,Z⟩
  ·have:(1000:Nat)<sizeLine:=by decide
   lia
  ·rw[aI (cz e hD)];exact kq b o (s2 b o e)
  ·have t:dN H4 (upd H4 D (.lst (zs++[z]))):=.iL d4
   rw[iI,eb];have n1:cF (ds.take i)=true:=eH.mpr λd hd=>eH.mp hn d (xr hd);exact(aw.t t _ n1 (aw.mono kq _ r2)).append (bJ (RD.t t _ (eH.mp hn _ (mK hi)) r4) bW)
 ·rintro O H2 ⟨s2,⟨zs,d2,r2⟩,v,v',rfl⟩
  refine⟨⟨xs,ys,h1.go s2,h2.go s2,aA⟩,hq H2 zs s2 d2 ?_⟩;rw[rL]at r2;exact r2
end
theorem Ad:∀{ns:List Int}{us:List Value},Vals (ns.map V.int) us->(∀v∈us,∃a t,v=Value.int a t)/\numsOf us=ns
 |[],_,.nil=>⟨λ_ h=>(nomatch h),rfl⟩ |n::ns,_,.cons q r=>by
  obtain⟨t,rfl⟩:=(show∃t,_=Value.int n t from q);obtain⟨h1,h2⟩:=Ad r;refine⟨λv hv=>?_,?_⟩
  ·rcases bR.mp hv with rfl|hv
   ·exact⟨n,t,Z⟩
   ·exact h1 v hv
  ·show n::numsOf _=_
   rw[h2]
section
variable {X:Cx}
theorem Gw(K:a6)(hK:X.K=K)(hc:X.calm=true):cP X (.builtin "max") (λxs H Q=>∃(l:Addr)(ns:List Int),xs=[.ref l]/\aF K H l (ns.map V.int)/\ns≠[]/\∀M,M∈ns->(∀a∈ns,a<=M)->Q (.int M) H):=by
 subst hK;intro af s O H xs us Q I r h;obtain⟨l,ns,rfl,hl,vd,q⟩:=h;obtain⟨u,rfl,ru⟩:=vals1 r;cases(show u=Value.ref l from ru);obtain⟨its,rv,pl,hz⟩:=I.list hl;obtain⟨a1,a2⟩:=Ad rv;have all:AllInts its.toArray:=λv hv=>a1 v (by simpa using hv);obtain⟨ps,Al⟩:=all.items;have e0:numsOf (intItems ps).toList=ns:=by rw[<-Al];exact a2
 rw[nums_intItems]at e0;have hlen:ps.size=ns.length:=by rw[<-e0,br,mL]
 have fM:0<ps.size:=by rw[hlen];exact List.length_pos_iff.mpr vd
 refine max_intList (I.ok.hd hc) (by rw[<-Al];exact pl.isList) fM λv h' tk hv hk=>?_;obtain⟨t,rfl⟩:=intItems_at hv;obtain⟨h1,h2⟩:=argBest_gt (numAt ps) (ps.size-1);refine⟨.int _,H,I.kept hk,⟨_,Z⟩,q _ ?_ λa ha=>?_⟩
 ·rw[numAt_eq,e0];exact getD_mem aQ
 ·obtain⟨j,hj,rfl⟩:=mem_getD ha
  rw[<-e0,<-numAt_eq];exact h2 j aQ
theorem Ae{ns:List Int}{us:List Value}(r:Vals (ns.map V.int) us){i:Nat}{v:Value}(h:us[i]? =some v):∃n t,ns[i]? =some n/\v=Value.int n t:=by
 have hl:=r.length;rw[br]at hl;have hi:i<ns.length:=by rw[hl];exact(bM.mp h).1
 obtain⟨u,e,ru⟩:=r.get (i:=i) (x:=.int ns[i]) (by rw[cm,bC hi];rfl);rw[h]at e;cases e;obtain⟨t,rfl⟩:=(show∃t,v=Value.int ns[i] t from ru);exact⟨_,t,bC hi,Z⟩
theorem DY(ns:List Int):((List.range ns.length).any λi=>((ns.map (· !=0))[i]?).getD false)=ns.any (· !=0):=by have:=LSm.range_any (ns.map (· !=0));rw[br]at this;rw[this,List.any_map];rfl
theorem Bw(K:a6)(hK:X.K=K)(hc:X.calm=true):cP X (.builtin "any") (λxs H Q=>∃(l:Addr)(ns:List Int),xs=[.ref l]/\(aF K H l (ns.map V.int)\/aL K H l (ns.map V.int))/\Q (.bl (ns.any (· !=0))) H):=by
 subst hK;intro af s O H xs us Q I r h;obtain⟨l,ns,rfl,hl,q⟩:=h;obtain⟨u,rfl,ru⟩:=vals1 r;cases(show u=Value.ref l from ru);have hh:=I.ok.hd hc;have fin:∀(its:List Value),Vals (ns.map V.int) its->((List.range its.toArray.size).any λi=>((ns.map (· !=0))[i]?).getD false)=ns.any (· !=0):=λits rv=>by rw[cC,<-rv.length,br];exact DY ns
 rcases hl with hl|hl
 ·obtain⟨its,rv,pl,hz⟩:=I.list hl
  have fg:=pl.isList;have bq:l<s.heap.objs.size:=by obtain⟨_,e,_⟩:=fg;exact aV e
  refine call_any_walk (oY fg ?_);refine⟨s.heap.objs.size,[s.heap.objs.size,l],[s.heap.objs.size],its.toArray.size,_,_,λi=>((ns.map (· !=0))[i]?).getD false,Z,Walks.list (A:=X.A.in1) hh _ l (bD bq) its.toArray,⟨⟨_,bS _ Z,Z,Z⟩,fg.push _⟩,λi v s' Q' E' hP hQ=>?_,λh' tk hk=>?_⟩
  ·obtain⟨n,t,e,rfl⟩:=Ae rv (i:=i) (v:=v) (by simpa using hP)
   simp only[cm,e]at hQ;exact truthy_int hQ
  ·rw[fin its rv]
   exact⟨.bl _,H,I.kept (LSm.kept_iter hk),Z,q⟩
 ·obtain⟨its,rv,pl,hz⟩:=I.tuple hl
  have fg:s.heap.IsTuple l its.toArray:=by obtain⟨⟨cls,dd,data,sl⟩,ho,e9,n,hd⟩:=pl;exact⟨_,ho,e9,by simpa using⟨n,hd⟩⟩
  have bq:l<s.heap.objs.size:=by obtain⟨_,e,_⟩:=fg;exact aV e
  refine call_any_walk (wpAny_pyIter_tuple fg ?_);refine⟨s.heap.objs.size,[s.heap.objs.size,l],[s.heap.objs.size],its.toArray.size,_,_,λi=>((ns.map (· !=0))[i]?).getD false,Z,Walks.tuple (A:=X.A.in1) hh _ l (bD bq) its.toArray,⟨⟨_,bS _ Z,Z,Z⟩,fg.push _⟩,λi v s' Q' E' hP hQ=>?_,λh' tk hk=>?_⟩
  ·obtain⟨n,t,e,rfl⟩:=Ae rv (i:=i) (v:=v) (by simpa using hP)
   simp only[cm,e]at hQ;exact truthy_int hQ
  ·rw[fin its rv]
   exact⟨.bl _,H,I.kept (LSm.kept_iter hk),Z,q⟩
end
end L2
set_option maxHeartbeats 1000000
namespace Lw
open PySem PySem.Spec PyProof.Rows L2
def BF(c m:Int):Prop:=0<=c/\0<=m/\m<2147483648
def dP(H:Hp)(p:Addr):Prop:=∃c m,H p=some (.lst [.int c,.int m])/\BF c m
structure aH(p:Addr)(H H':Hp):Prop where
 aK:dP H' p
 same:∀b o,b≠p->H b=some o->H' b=some o
theorem aH.refl{p:Addr}{H:Hp}(h:dP H p):aH p H H:=⟨h,λ_ _ _ e=>e⟩
theorem aH.trans{p:Addr}{H H1 H2:Hp}(a:aH p H H1)(b:aH p H1 H2):aH p H H2:=⟨b.aK,λc o n e=>b.same c o n (a.same c o n e)⟩
theorem aH.upd{p:Addr}{H:Hp}{c m:Int}(h:BF c m):aH p H (L2.upd H p (.lst [.int c,.int m])):=⟨⟨c,m,bw,h⟩,λb o n e=>by rw[aI n];exact e⟩
theorem aH.cy{p:Addr}{H H':Hp}(h:dP H p)(s:au H H'):aH p H H':=by obtain⟨c,m,e,ok⟩:=h;exact⟨⟨c,m,s _ _ e,ok⟩,λb o _ e=>s b o e⟩
theorem xD{j:Int}(h0:0<=j)(h:j<=10^40):Wd j:=by
 have:j.natAbs<=10^40:=by lia
 exact Nat.lt_of_le_of_lt this bf
theorem dP.ne{H:Hp}{p:Addr}(h:dP H p):H p≠none:=by obtain⟨c,m,e,_⟩:=h;rw[e];exact λz=>nomatch z
theorem aH.sd{p:Addr}{H H':Hp}(b:aH p H H'):SD p H H':=λc o e=>gZ.mpr ⟨(gZ.mp e).1,b.same _ _ (gZ.mp e).1 (gZ.mp e).2⟩
theorem dP.Gg{H:Hp}{p:Addr}{q:Addr}{o:HO}(h:dP H p)(e:H q=some o)(n:∀xs,o≠ .lst xs):q≠p:=by obtain⟨c,m,e',_⟩:=h;exact zN e e' (n _)
theorem aH.t{p:Addr}{H H':Hp}(bg:dP H p)(b:aH p H H'):dN H H':=λc o n e=>b.same c o (bg.Gg e n) e
theorem aH.DH{p:Addr}{H0 H H':Hp}(s:au H0 H)(hp:H0 p=none)(b:aH p H H'):au H0 H':=λc o e=>b.same c o (cz e hp) (s c o e)
section
variable {K:a6}
theorem vY{J:It}{te:TE}{Q:VK}{D p:Addr}{H H0:Hp}(n:Nat)(rest:L2.St)(nw:Nw H H0 D (.lst []))(bg:dP H p)(hn:n<=1000)(xv:Nat->V) (go:∀i H2,i<n->aH p H H2->J.go i H2/\∀y H3,J.dU i H2 y H3->H3=H2/\y=xv i)(stop:∀H2,aH p H H2->J.stop n H2)(Pz:Int->Prop) (hs:∀i H2 (Q':VK),i<n->aH p H H2->(∀z H3,Pz z->aH p H2 H3->Q' (.int z) H3)->te (some (xv i)::rest) H2 Q') (hq:∀H' (is:List Int),aH p H H'->H' D=some (.lst (is.map V.int))->is.length=n->(∀z∈is,Pz z)->Q (.ref D) H'):fW J (dm 0) fz te Q D (none::rest) H0:=by
 have ow:D≠p:=λe=>bg.ne (e▸nw.no);refine l9 n (λi O H3=>aH p H H3/\(∃is:List Int,H3 D=some (.lst (is.map V.int))/\is.length=i/\∀z∈is,Pz z)/\∃v,O=v::rest) ?_ ?_ ?_
 ·exact⟨.cy bg nw.same,⟨[],nw.at',Z,λ_ h=>(dh h).elim⟩,none,Z⟩
 ·rintro i O H3 hi ⟨b3,⟨is,d3,li,pi⟩,v,rfl⟩
  obtain⟨g1,g2⟩:=go i H3 hi b3;refine⟨g1,λy H4 hy=>?_⟩;obtain⟨rfl,rfl⟩:=g2 y H4 hy;refine pC ?_;refine hs i _ _ hi b3 λz H5 pz b5=>?_;refine⟨_,b5.same _ _ ow d3,?_,n-(i+1),aA,Z,aA,?_,⟨is++[z],?_,?_,?_⟩,_,Z⟩
  ·rw[br,li]
   have:(1000:Nat)<sizeLine:=by decide
   lia
  ·have jW:=b3.trans b5
   refine⟨?_,λb o n e=>?_⟩
   ·obtain⟨c,m,e,ok⟩:=jW.aK
    exact⟨c,m,by rw[aI ow.symm];exact e,ok⟩
   ·rw[aI (cz e nw.no)];exact jW.same b o n e
  ·rw[bw,mI];rfl
  ·rw[fy,li];rfl
  ·intro y hy
   rcases mH.mp hy with h|h
   ·exact pi y h
   ·rw[lF.mp h];exact pz
 ·rintro O H3 ⟨b3,⟨is,d3,li,pi⟩,v,rfl⟩
  exact⟨stop H3 b3,hq H3 is b3 d3 li pi⟩
theorem Hl(ns:List Int){i:Int}(h0:0<=i)(h:i<ns.length):∃z,z∈ns/\df (ns.map V.int) i=some (.int z):=by
 have hl:i.toNat<ns.length:=by omega
 exact⟨ns[i.toNat],mK hl,ek h0 (by rw[cm,bC hl];rfl)⟩
theorem wy{p:Addr}{H:Hp}{n:Nat}:∀(is:List Int),fY K p n H (is.map V.int) (is.map PyData.int) |[]=>.nil |i::r=>.cons (.int i) (wy r)
theorem B6{J:It}{te:TE}{Q:VK}{D p:Addr}{H H0:Hp}(n:Nat)(rest:L2.St)(nw:Nw H H0 D (.lst []))(bg:dP H p)(hn:n<=1000)(xv:Nat->V) (go:∀i H2,i<n->aH p H H2->J.go i H2/\∀y H3,J.dU i H2 y H3->H3=H2/\y=xv i)(stop:∀H2,aH p H H2->J.stop n H2)(Pd:Nat->a9->Prop) (hs:∀i H2 (Q':VK),i<n->aH p H H2->(∀y d H3,Pd i d->dW d=true->RD K H3 y d->aH p H2 H3->Q' y H3)->te (some (xv i)::rest) H2 Q') (hq:∀H' ys ds,aH p H H'->H' D=some (.lst ys)->aw K H' ys ds->ds.length=n->cF ds=true->(∀i d,ds[i]? =some d->Pd i d)->Q (.ref D) H'):fW J (dm 0) fz te Q D (none::rest) H0:=by
  have ow:D≠p:=λe=>bg.ne (e▸nw.no);refine l9 n (λi O H3=>aH p H H3/\(∃ys ds,H3 D=some (.lst ys)/\aw K H3 ys ds/\ds.length=i/\cF ds=true/\∀j d,ds[j]? =some d->Pd j d)/\∃v,O=v::rest) ?_ ?_ ?_
  ·exact⟨.cy bg nw.same,⟨[],[],nw.at',bW,Z,Z,λj d e=>by simp at e⟩,none,Z⟩
  · rintro i O H3 hi ⟨b3,⟨ys,ds,d3,r3,li,ni,pi⟩,v,rfl⟩
    obtain⟨g1,g2⟩:=go i H3 hi b3;refine⟨g1,λy H4 hy=>?_⟩;obtain⟨rfl,rfl⟩:=g2 y H4 hy;refine pC ?_;refine hs i _ _ hi b3 λz d H5 pz nz rz b5=>?_;have d5:=b5.same _ _ ow d3;have t:dN H5 (L2.upd H5 D (.lst (ys++[z]))):=.iL d5;refine⟨ys,d5,?_,n-(i+1),aA,Z,aA,?_,⟨ys++[z],ds++[d],bw,?_,?_,?_,?_⟩,_,Z⟩
    · rw[r3.length,li]
      have:(1000:Nat)<sizeLine:=by decide
      lia
    · have jW:=b3.trans b5
      refine⟨?_,λb o n e=>?_⟩
      · obtain⟨c,m,e,ok⟩:=jW.aK
        exact⟨c,m,by rw[aI ow.symm];exact e,ok⟩
      ·rw[aI (cz e nw.no)];exact jW.same b o n e
    ·exact(aw.t ((aH.t b3.aK b5).trans t) _ ni r3).append (bJ (RD.t t _ nz rz) bW)
    ·rw[fy,li];rfl
    ·exact eH.mpr λx hx=>by
        rcases mH.mp hx with h|h
        ·exact eH.mp ni x h
        ·rw[lF.mp h];exact nz
    · intro j e he
      by_cases hj:j<ds.length
      · rw[rQ hj]at he
        exact pi j e he
      · have ja:j=ds.length:=by
          have:=(bM.mp he).1;rw[fy]at this;have:j<ds.length+1:=this
          lia
        subst ja;rw[p9 (aU _),rK]at he;cases he;rw[li];exact pz
  · rintro O H3 ⟨b3,⟨ys,ds,d3,r3,li,ni,pi⟩,v,rfl⟩
    exact⟨stop H3 b3,hq H3 ys ds b3 d3 r3 li ni pi⟩
end
end Lw
namespace Ln
open PySem L2
def BA(i:Int):Int:=if i<0 then-i else i
end Ln
namespace L2
open PySem PySem.Spec PyProof.Rows
abbrev qJ(b:Bool)(h:Heap)(l:Addr):Heap:=h.push {cls:=.type (jT b),data:=.fields #[.ref l,.int 0 0]}
abbrev vR(b:Bool)(h:Heap)(l:Addr):Heap:=(qJ b h l).push {cls:=.type "enumerate",data:=.fields #[.none,.bool false,.ref h.objs.size,rawInt 0,.none,.none]}
theorem Kg(b:Bool)(l:Addr)(xs:Array Value):Meets (Builtin.«enumerate.__new__» ⟨[.type "enumerate",.ref l],[]⟩) (λ_ R s=>cS b s.heap l xs/\R (.ok (.ret (.ref (qJ b s.heap l).objs.size))) {s with heap:=vR b s.heap l}):=.of_wp λprog w A R s h=>by
 obtain⟨hp,gg,d,tk,os⟩:=s;obtain⟨hl,h⟩:=h;have nQ:=sub_enumerate;have hL:cS b (Shared.heap ⟨hp,gg,d,tk,os⟩) l xs:=hl
 wp_walk using lW hL;refine wpAny_stack_any λst=>aG ?_;split
 ·rename_i c _ _ _ _ _
  cases(c==Value.type "enumerate")
  ·wp_walk using lW hL
   exact⟨_,Z,h⟩
  ·wp_walk using lW hL
   exact⟨_,Z,h⟩
 ·wp_walk using lW hL
  exact⟨_,Z,h⟩
section
variable {prog:a8}{w:World}{A:aa}{E:Value->a7->Prop}{s:a7}
theorem Kh{b:Bool}{l:Addr}{xs:Array Value}{Q:Value->a7->Prop}(hl:cS b s.heap l xs) (q:∀g,IsEnum g (s.heap.objs.size+1) s.heap.objs.size 0 .none->fi b g s.heap.objs.size l 0->(∀c o,s.heap.get? c=some o->g.get? c=some o)->Q (.ref (s.heap.objs.size+1)) {s with heap:=g}): wpAny (model prog w) A (call (.type "enumerate") [.ref l]) Q E s:=by refine callType_new PySem.F.called_enumerate aj (PySem.F.typeCall_enumerate_1 _) (PySem.F.newCall_enumerate_1 _) (λobj=>PySem.F.args_object_init_2 obj _) PySem.F.entry_enumerate_new (Kg b l xs) ⟨hl,?_⟩;have z1:(qJ b s.heap l).objs.size=s.heap.objs.size+1:=iK ..;have g2:(vR b s.heap l).get? (qJ b s.heap l).objs.size=some _:=bS _ rfl;have g1:(vR b s.heap l).get? s.heap.objs.size=some _:=aX _ (bS _ Z);show _/\_;rw[z1]at g2⊢;refine⟨⟨_,g2,Z⟩,q _ g2 ?_ λc o e=>aX _ (aX _ e)⟩;cases b<;>exact⟨_,g1,rfl,rfl⟩
theorem AZ{b:Bool}{it l:Addr}{xs:Array Value}(hh:A.handled=none)(ne:l≠it):Draws prog w A it [it,l] xs.size (λi x=>xs[i]? =some x) (λi h=>fi b h it l i/\cS b h l xs) where
 live:=λi h st=>by obtain⟨o,e,_⟩:=st.1.ob;exact⟨o,e⟩
 frame:=λi h h' st k=>⟨st.1.to λo e=>k it (by simp) o e,st.2.to λo e=>k l (by simp) o e⟩
 item:=λi s Q E hi st hQ=>nC st.1 st.2 (x:=xs[i]) (by simp[hi]) λg gi sb=>hQ _ g s.toks (by simp[hi]) ⟨gi,st.2.to λo e=>sb.extBut _ _ ne e⟩ sb
 done:=λs Q E st hE=>vP hh st.1 st.2 (by simp) λg e a b=>hE g e a b
end
def oT(K:a6)(b:Bool)(l:Addr):It:=⟨λi H=>∃xs x,bH b K H l xs/\xs[i]? =some x,λi H v H'=>∃T x,v= .ref T/\(∀xs,bH b K H l xs->xs[i]? =some x)/\Nw H H' T (.tup [.int i,x]),λi H=>∃xs,bH b K H l xs/\xs.length=i⟩
theorem CK{P:a8}{w:World}{K:a6}{elts:List Expr}{kt:Nat}{pos:Pos}{b:Bool}{e it l:Addr}(D:e≠it): Turn P w K (.Tuple elts kt pos) (oT K b l) [e,it] e (λi h=>(∃old,IsEnum h e it i old)/\fi b h it l i) where
 mem:=by simp
 obj:=λi h st c hc=>by
  obtain⟨⟨old,he⟩,h1⟩:=st;simp only[bR,dh,kg]at hc;rcases hc with rfl|rfl
  ·exact⟨_,he,λv e=>by cases e⟩
  ·obtain⟨o,e,_,n⟩:=h1.ob;exact⟨o,e,n⟩
 keep:=λi h h' st k=>by obtain⟨⟨old,he⟩,h1⟩:=st;exact⟨⟨old,k e (by simp) _ he⟩,h1.to λo q=>k it (by simp) o q⟩
 item:=by
  intro X hP hw hK hc i af s O H E I hf st hg;subst hP hw hK;obtain⟨xs,x,q1,e1⟩:=hg;obtain⟨its,r1,p1⟩:=q1.get I;obtain⟨u1,nP,gF⟩:=r1.get e1;obtain⟨⟨old,he⟩,h1⟩:=st;obtain⟨oi,dZ,ci,_⟩:=h1.ob;have uH:∃o,s.heap.get? l=some o/\(o.cls= .type "list"\/o.cls= .type "tuple"):=by cases b<;>(obtain⟨o,ho,cc,_⟩:=p1;first|exact⟨o,ho,.inl cc⟩|exact⟨o,ho,.inr cc⟩)
  obtain⟨ol,gM,cl⟩:=uH;have Gf:e≠l:=λz=>by subst z;rw[he]at gM;cases gM;rcases cl with h|h<;>simp at h
  have nil:l≠it:=λz=>by subst z;rw[dZ]at gM;cases gM;rw[ci]at cl;cases b<;>(rcases cl with h|h<;>simp[jT]at h)
  have bq:i<its.toArray.size:=by rw[cC,<-r1.length];exact(bM.mp e1).1
  refine wpAny_pyNext_enum_itemD (AZ (I.ok.hd hc) nil) he ⟨h1,p1⟩ bq D (by simp[D,Gf]) λy h' tk J4 ho cJ hT m6 kp=>⟨_,Z,?_⟩;have ey:y=u1:=by
   have a1:its.toArray[i]? =some y:=J4;have a2:its.toArray[i]? =some u1:=by simpa using nP
   rw[a1]at a2;exact ck a2
  subst ey;refine wpAny_letOwnedTupleGo_enum ho λg' IB sb=>?_;have hs:=sb.extBut;have elt:e<s.heap.objs.size:=aV he;have Hr:it<s.heap.objs.size:=aV dZ;have nw:Nw H (upd H s.heap.objs.size (.tup [.int i,x])) s.heap.objs.size (.tup [.int i,x]):=.of (I.aD.fresh (aU _));have I1:Inv X af O (upd H s.heap.objs.size (.tup [.int i,x])) {s with heap:=s.heap.push {cls:=.type "tuple",data:=.seq #[.int i tk,y]},toks:=tk+1}:=I.laid (t':=tk+1) (λb ob q=>aX _ q) (aU _) ⟨by show 2<=sizeLine;decide,[.int i tk,y],.cons ⟨tk,Z⟩ (.cons gF .nil),⟨_,bS _ Z,Z,_,Z⟩⟩;have nL:∀c∈[e,it],c<s.heap.objs.size:=λc hc=>by
   simp only[bR,dh,kg]at hc;rcases hc with rfl|rfl
   ·exact elt
   ·exact Hr
  have hn:∀c∈[e,it],upd H s.heap.objs.size (.tup [.int i,x]) c=none:=λc hc=>by rw[aI (bD (nL c hc))];exact(hf c hc).1
  have I2:Inv X af O (upd H s.heap.objs.size (.tup [.int i,x])) {s with heap:=g',toks:=tk+1}:=Inv.km (s:={s with heap:=s.heap.push {cls:=.type "tuple",data:=.seq #[.int i tk,y]},toks:=tk+1}) (t':=tk+1) (fp:=[e,it]) I1 (λc o hc q=>by
   have q:(s.heap.push {cls:=.type "tuple",data:=.seq #[.int i tk,y]}).get? c=some o:=q;have nz:c≠e:=λz=>hc (by simp[z]);rcases xx q with⟨oo,rfl⟩|q'
   ·subst oo
    exact hs _ _ nz hT
   ·exact hs _ _ nz (kp c o nz (λz=>hc (by simp[z])) q')) (λc hc=>by obtain⟨f0,f1,f2,f3,f4,f5⟩:=hf c hc;exact⟨hn c hc,f1,f2,f3,f4,f5⟩);refine⟨.ref s.heap.objs.size,_,I2,Z,⟨s.heap.objs.size,x,Z,λzs hz=>?_,nw⟩,⟨⟨_,by simpa using IB⟩,cJ.1.to λo q=>hs _ o (ft D) q⟩,hn⟩;rw[bH.inj I hz q1];exact e1
 done:=by
  intro X hP hw hK hc i af s O H E I hf st hg;subst hP hw hK;obtain⟨xs,q1,jc⟩:=hg;obtain⟨its,r1,p1⟩:=q1.get I;obtain⟨⟨old,he⟩,h1⟩:=st;obtain⟨oi,dZ,ci,_⟩:=h1.ob;have uH:∃o,s.heap.get? l=some o/\(o.cls= .type "list"\/o.cls= .type "tuple"):=by cases b<;>(obtain⟨o,ho,cc,_⟩:=p1;first|exact⟨o,ho,.inl cc⟩|exact⟨o,ho,.inr cc⟩)
  obtain⟨ol,gM,cl⟩:=uH;have nil:l≠it:=λz=>by subst z;rw[dZ]at gM;cases gM;rw[ci]at cl;cases b<;>(rcases cl with h|h<;>simp[jT]at h)
  have hi:i=its.toArray.size:=by rw[cC,<-r1.length];exact jc.symm
  subst hi;refine wpAny_pyNext_enum_endD (AZ (I.ok.hd hc) nil) he ⟨h1,p1⟩ λh' kp=>⟨Z,?_⟩;exact I.km (t':=s.toks) (fp:=[e,it]) (λc o hc q=>kp c o (λz=>hc (by simp[z])) q) hf
 self:=λ_ _ _ _ _ st h=>by obtain⟨⟨old,he⟩,_⟩:=st;exact wpAny_pyIter_enum he h
inductive MI(K:a6)(b:Bool)(R:It->Hp->Prop)(vs:List V)(H1:Hp):Prop |mk (l:_)(h0:vs=[.ref l])(h1:(∃xs,bH b K H1 l xs))(h2:R (oT K b l) H1)
def Hw(K:a6)(b:Bool)(ta:TA):TI:=λO H R=>ta O H λvs H1=>MI K b R vs H1
theorem Et(K:a6){X:Cx}(hK:X.K=K)(b:Bool){elts:List Expr}{kt:Nat}{jy:Pos}{a:Expr}{ta:TA}{p pos:Pos}(hg:Gl X "enumerate")(hm:X.mg "enumerate"=none)(ha:PA X [a] ta)(hs:starEach [a] X.env=[(false,eval a X.env)]:=by rfl)(gL:starEach [] X.env=[]:=by rfl): PI X (.Tuple elts kt jy) (.Call (.Name "enumerate" p) [a] [] pos) (Hw K b ta):=by
 subst hK;intro af s O H R I h;refine Call_ (kL I hg hm PyProof.Rows.boot_enumerate (rH (az (ha pos af s O H _ I h) λus s1 ⟨vs,H1,I1,r1,q1⟩=>?_) (by rw[hs,gL]) (by rw[gL];rfl)));obtain⟨l,e,⟨xs,h1⟩,q⟩:=q1;subst e;obtain⟨u1,rfl,gF⟩:=vals1 r1;cases(show u1=Value.ref l from gF);obtain⟨m4,v1,p1⟩:=h1.get I1;refine Kh p1 λg zg ig kp=>wpAny_pyIter_enum zg ?_;refine⟨_,_,_,_,H1,Z,I1.kept (t':=s1.toks) kp,CK (p4 (xn _)),⟨⟨_,zg⟩,ig⟩,λc hc=>?_,q⟩;have hle:s1.heap.objs.size<=c:=by simp only[bR,dh,kg]at hc;rcases hc with rfl|rfl<;>first|exact aU _|exact C5 _ _
 exact I1.jh hle (I1.aD.fresh hle)
theorem JH{K:a6}{b:Bool}{a:Addr}{xs:List V}{g:TG}{tb:TS}{D:Ends}{O:St}{H:Hp}(Pv:Nat->St->Hp->Prop)(h0:Pv 0 O H)(hl:∀i O H,i<=xs.length->Pv i O H->bH b K H a xs) (hs:∀i x O H,xs[i]? =some x->Pv i O H->∀T H',Nw H H' T (.tup [.int i,x])->g (.ref T) O H' λσ2 H2=>tb {D with nx:=Pv (i+1),ct:=Pv (i+1),bk:=D.nx} σ2 H2)(hd:∀O H,Pv xs.length O H->D.nx O H): ∃W:Nat->Nat->St->Hp->Prop,(∃m,W 0 m O H)/\∀i m O H,W i m O H->((oT K b a).stop i H/\D.nx O H)\/((oT K b a).go i H/\∃N:St->Hp->Prop,(∀σ' H',N σ' H'->∃m',m'<m/\W (i+1) m' σ' H')/\∀x H',(oT K b a).dU i H x H'->g x O H' λσ2 H2=>tb {D with nx:=N,ct:=N,bk:=D.nx} σ2 H2):=by
 refine⟨λi m O H=>m=xs.length-i/\i<=xs.length/\Pv i O H,⟨xs.length,by simp,dQ _,h0⟩,?_⟩;rintro i m O H ⟨rfl,hi,p⟩;have q:=hl i O H hi p;by_cases bq:i<xs.length
 ·refine .inr ⟨⟨xs,xs[i],q,by simp[bq]⟩,Pv (i+1),λσ' H' p'=>⟨xs.length-(i+1),aA,Z,bq,p'⟩,λx H' y=>?_⟩
  obtain⟨T,z,rfl,ez,nw⟩:=y;exact hs i z O H (ez xs q) p T H' nw
 ·have e:i=xs.length:=by lia
  subst e;exact .inl ⟨⟨xs,q,Z⟩,hd O H p⟩
theorem JE{K:a6}{b1 b2:Bool}{a1 a2:Addr}{xs ys:List V}{g:TG}{tb:TS}{D:Ends}{O:St}{H:Hp}(n:Nat)(hn:n=min xs.length ys.length)(Pv:Nat->St->Hp->Prop)(h0:Pv 0 O H)(hl:∀i O H,i<=n->Pv i O H->bH b1 K H a1 xs/\bH b2 K H a2 ys) (hs:∀i x y O H,xs[i]? =some x->ys[i]? =some y->Pv i O H->∀T H',Nw H H' T (.tup [x,y])->g (.ref T) O H' λσ2 H2=>tb {D with nx:=Pv (i+1),ct:=Pv (i+1),bk:=D.nx} σ2 H2)(hd:∀O H,Pv n O H->D.nx O H): ∃W:Nat->Nat->St->Hp->Prop,(∃m,W 0 m O H)/\∀i m O H,W i m O H->((iH K b1 b2 a1 a2).stop i H/\D.nx O H)\/((iH K b1 b2 a1 a2).go i H/\∃N:St->Hp->Prop,(∀σ' H',N σ' H'->∃m',m'<m/\W (i+1) m' σ' H')/\∀x H',(iH K b1 b2 a1 a2).dU i H x H'->g x O H' λσ2 H2=>tb {D with nx:=N,ct:=N,bk:=D.nx} σ2 H2):=by
 refine⟨λi m O H=>m=n-i/\i<=n/\Pv i O H,⟨n,by simp,dQ _,h0⟩,?_⟩;rintro i m O H ⟨rfl,hi,p⟩;obtain⟨q1,q2⟩:=hl i O H hi p;by_cases bq:i<n
 ·have l1:i<xs.length:=by lia
  have l2:i<ys.length:=by lia
  refine .inr ⟨⟨xs,ys,xs[i],ys[i],q1,q2,by simp[l1],by simp[l2]⟩,Pv (i+1),λσ' H' p'=>⟨n-(i+1),aA,Z,bq,p'⟩,λx H' y=>?_⟩;obtain⟨T,z1,z2,rfl,e1,e2,nw⟩:=y;exact hs i z1 z2 O H (e1 xs q1) (e2 ys q2) p T H' nw
 ·have e:i=n:=by lia
  subst e;exact .inl ⟨⟨xs,ys,q1,q2,aA⟩,hd O H p⟩
section
variable {X:Cx}
end
set_option maxHeartbeats 1000000 in
theorem Ef{X:Cx}{N:List Str}{js:List (Option Nat)}{elt tg iter:Expr}{ifs:List Expr}{scope:Scope}{pos:Pos}{wi:TI}{g:TG}{tt:TT}{te:TE}{i0:Nat}{x0:Str}{lQ xZ:Pos}(J6:X.N.Nodup)(Ib:X.N[i0]? =some x0)(uR:Loc X.env.scope x0)(hc:X.calm=true)(hN:oM X N js scope=true)(hS:jU X scope=true) (hi:PI X tg iter wi)(hg:∀cl s H fp af,PG (bE X N scope cl s H fp af) tg g)(ht:∀cl s H fp af,qV (bE X N scope cl s H fp af) ifs tt)(he:∀cl s H fp af,PE (bE X N scope cl s H fp af) elt te) (HC:swapsWith (.ListComp elt [⟨tg,iter,ifs,0⟩] scope pos) (some (.Name x0 lQ)) xZ.line X.env=pure true:=by rfl)(Iy:X.fn x0=true\/X.env.scope.names.lookup x0=some .local:=by first|exact .inl rfl|exact .inr rfl) (hs:∀x,foldedSetIterable iter X.env x=pure x:=by intro _;rfl):PS X (.Assign [.Name x0 lQ] (.ListComp elt [⟨tg,iter,ifs,0⟩] scope pos) xZ) (pI (sD js wi g tt te) (dm i0)):=by
 intro af s O H D0 I h;have gQ:=hS;unfold jU at gQ;rw[cI,cI]at gQ;obtain⟨⟨k1,k2⟩,k3⟩:=gQ;have fF:scope.kind= .function:=cx.mp k1;have jR:∀x∈scope.names,x.2= .free->∃c,X.env.cells.lookup x.1=some c:=λx hx e=>by have:=du.mp k3 x hx;rw[e]at this;exact I.ok.has x.1 (.inl (cx.mp this))
 have iz:∀x∈scope.names,x.2≠ .cell:=λx hx e=>by have:=du.mp k3 x hx;rw[e]at this;exact dS this
 have nV:∀x∈scope.names,x.2= .local->scope.names.lookup x.1=some .local:=λx hx e=>by have:=du.mp k3 x hx;rw[e]at this;exact cx.mp this
 obtain⟨cl,oh,c1,c2⟩:=w8 jR;rw[exec_Assign_Name_used _ _ _ _ HC];refine ai (mx (ai ?_));show wpAny _ X.A (do let _<-comprehension (.ListComp elt [⟨tg,iter,ifs,0⟩] scope pos) scope X.env _ (newList []) false (eval iter X.env) (some (assign (.Name x0 lQ) X.env))) _ _ s;refine ai (dB (BM (use:=some (assign (.Name x0 lQ) X.env)) (Q:=λ_ s'=>SP X af D0 .next s') Z hs oh fF nV (az (hi af s O H _ I h) λv s1 h1=>az h1 λjM s2 h2=>?_)) (λ_ s' hq=>aG (aG hq)) λ_ _ e=>e);obtain⟨it,fp,tn,J,H2,e,I2,T,gc,f2,h2⟩:=h2;subst e;have hD:H2 s2.heap.objs.size=none:=I2.aD.fresh (aU _);obtain⟨W,⟨m0,w0⟩,turn⟩:=h2 _ _ (Nw.of hD);refine fq (BL iz (by intro y hy;simp at hy) (λh₁ jO jN=>?_) fF);have gU:∀b∈fp,b<s2.heap.objs.size:=λb hb=>by obtain⟨o,e,_⟩:=T.obj _ _ gc b hb;exact aV e
 have I3:Inv X af O (upd H2 s2.heap.objs.size (.lst [])) {s2 with heap:=s2.heap.push {cls:=.type "list",dict:=none,data:=.seq ([]:List Value).toArray}}:=I2.uF (its:=[]) (t':=s2.toks) .nil (dQ _);generalize jS:s2.heap.push {cls:=.type "list",dict:=none,data:=.seq ([]:List Value).toArray}=h3 at I3 jO jN;have jA:h3.objs.size=s2.heap.objs.size+1:=by rw[<-jS,iK]
 have nM:∀b o,s2.heap.get? b=some o->h3.get? b=some o:=λb o e=>by rw[<-jS];exact aX _ e
 have f3:∀b∈fp,dg X af (upd H2 s2.heap.objs.size (.lst [])) b:=λb hb=>⟨by rw[aI (bD (gU b hb))];exact(f2 b hb).1,(f2 b hb).2⟩;have jL:∀b o,h3.get? b=some o->h₁.get? b=some o:=λb o e=>(jN.2 b (bD (aV e))).trans (aX _ e);have I4:Inv (bE X N scope cl {s2 with heap:=h3} (upd H2 s2.heap.objs.size (.lst [])) fp af) [] (stC js O) (upd H2 s2.heap.objs.size (.lst [])) {s2 with heap:=h₁,toks:=s2.toks+([]:List (Str×Value)).length}:=I3.comp (s:={s2 with heap:=h3}) hN hS c1 c2 f3 (λb hb=>by show b<h3.objs.size;rw[jA];exact p5 (gU b hb)) (by simpa using jO) jL;have jB:tn 0 h₁:=T.keep _ _ _ gc λb _ o e=>jL b o (nM b o e);have loop:codeAny (model X.prog X.w) X.A (.compLoop (.ListComp elt [⟨tg,iter,ifs,0⟩] scope pos) 0 (.ref it) (.ref s2.heap.objs.size) (compEnvC scope cl h3.objs.size X.env)) (compPost (model X.prog X.w) X.A X.xe (some (assign (.Name x0 lQ) X.env)) (λ_ s'=>SP X af D0 .next s') (.ref s2.heap.objs.size) h3.objs.size) {s2 with heap:=h₁,toks:=s2.toks+([]:List (Str×Value)).length}:=by
  refine vZ (λn s'=>∃i σ' H',Inv (bE X N scope cl {s2 with heap:=h3} (upd H2 s2.heap.objs.size (.lst [])) fp af) [] σ' H' s'/\tn i s'.heap/\(∀b∈fp,H' b=none)/\W i n σ' H') ?_ m0 ⟨0,_,_,I4,jB,λb hb=>(f3 b hb).1,w0⟩;rintro n s5 ⟨i,σ5,H5,I5,eD,gn,w5⟩;have dv:∀{H':Hp},(∀b∈fp,H' b=none)->∀b∈fp,dg (bE X N scope cl {s2 with heap:=h3} (upd H2 s2.heap.objs.size (.lst [])) fp af) [] H' b:=λ{H'} hn b hb=>by
   obtain⟨_,q1,q2,q3,q4,q5⟩:=f3 b hb;refine⟨hn b hb,λz=>?_,I4.ok.gp b hb,.inl hb,λx c e=>q4 x c (c1 x c e),λp hp=>q5 p (by simpa[bE]using hp)⟩;have bq:b<h3.objs.size:=by rw[jA];exact p5 (gU b hb)
   exact bD bq z
  rcases turn i n σ5 H5 w5 with⟨stop,qn⟩|⟨go,step⟩
  ·refine az (T.done (bE X N scope cl {s2 with heap:=h3} (upd H2 s2.heap.objs.size (.lst [])) fp af) rfl rfl rfl hc i [] s5 σ5 H5 _ I5 (dv gn) eD stop) λr s6 ⟨hr,I6⟩=>?_
   subst hr;obtain⟨m,hm,_⟩:=I6.loc;have u0:Un (cf X.stack) fp (upd H2 s2.heap.objs.size (.lst [])) H5 h3 s6.heap:=I6.ag;have I7:Inv X af O H5 s6:=I3.lg (s':=s6) (ch:=fp) I6.os u0 I6.aD I6.bare λb hb=>⟨(f3 b hb).2.2.2.1,(f3 b hb).2.1,(f3 b hb).2.2.2.2.1,(f3 b hb).2.2.2.2.2⟩;have hC:dg X af H5 h3.objs.size:=I3.jh (aU _) I6.free;show wpAny _ X.A (assign (.Name x0 lQ) X.env (.ref s2.heap.objs.size)) _ _ s6;refine wpAny_assign_Name (xW I7 J6 Ib uR (show RelV (.ref s2.heap.objs.size) (.ref s2.heap.objs.size)from Z) (λs8 I8 HF=>?_) Iy);obtain⟨a,sb,ha⟩:=HF;have Jl:h3.objs.size≠a:=by
    rcases ha with rfl|ha
    ·exact hC.2.1
    ·exact λz=>hC.2.2.2.2.1 x0 a ha z.symm
   refine⟨m,hm.sameBut sb Jl,λh9 HG=>⟨_,H5,?_,qn⟩⟩;exact I8.km (t':=s8.toks) (fp:=[h3.objs.size]) (λb o hb e=>HG.extBut b o (λz=>hb (by simp[z])) e) λb hb=>by rw[lF.mp hb];exact hC
  ·refine az (T.item (bE X N scope cl {s2 with heap:=h3} (upd H2 s2.heap.objs.size (.lst [])) fp af) rfl rfl rfl hc i [] s5 σ5 H5 _ I5 (dv gn) eD go) λr s6 ⟨u,hr,h6⟩=>?_
   subst hr;refine az h6 λ_ s7 ⟨x,H7,I7,r7,y7,gD,oz⟩=>?_;have oV:=I7.pinned (dv oz) (T.obj _ _ gD);refine az (hg _ _ _ _ _ _ s7 σ5 H7 x u _ oV r7 (step x H7 y7)) λ_ s8 ⟨σ8,H8,I8,q8⟩=>?_;refine az (ht _ _ _ _ _ _ s8 σ8 H8 _ I8 q8) λok s9 ⟨H9,I9,q9⟩=>?_;have again:∀{s':a7}{σ7:St}{H7:Hp},Inv (bE X N scope cl {s2 with heap:=h3} (upd H2 s2.heap.objs.size (.lst [])) fp af) ([]++jF fp s7.heap) σ7 H7 s'->(∃m',m'<n/\W (i+1) m' σ7 H7)->∃m,m<n/\∃i σ' H',Inv (bE X N scope cl {s2 with heap:=h3} (upd H2 s2.heap.objs.size (.lst [])) fp af) [] σ' H' s'/\tn i s'.heap/\(∀b∈fp,H' b=none)/\W i m σ' H':=λ{s' σ7 H7} J7 n7=>by obtain⟨m',hm,w7⟩:=n7;refine⟨m',hm,i+1,σ7,H7,J7.iM,T.keep _ _ _ gD λb hb o e=>(J7.pin (b,o) (cZ _ (cZ _ (ij hb e)))).1,λb hb=>?_,w7⟩;obtain⟨o,e,d⟩:=T.obj _ _ gD b hb;exact(J7.pin (b,o) (cZ _ (cZ _ (ij hb e)))).2.1
   cases ok with |false=>rw[aY dS]at q9⊢;exact again I9 q9 |true=>rw[aZ rfl]at q9⊢;refine az (he _ _ _ _ _ _ s9 σ8 H9 _ I9 q9) λyv fJ ⟨y,fV,hJ,nj,ys,j6,hz,mM⟩=>?_;refine az (qr _ fJ σ8 fV (.ref s2.heap.objs.size) [y] (.ref s2.heap.objs.size) [yv] (λ_ eu=>∃m',m'<n/\W (i+1) m' σ8 eu) hJ Z (.cons nj .nil) ⟨_,ys,y,Z,Z,j6,hz,mM⟩) λ_ dj ⟨v11,eu,oW,nh,nk⟩=>?_;exact again oW nk
 exact BN loop (T.self _ 0 _ _ _ jB loop)
theorem Bf:∀{zs:List Str}{us:List Value},Vals (zs.map V.str) us->CarriedAll us (zs.map PyData.str) |[],_,.nil=>.nil |z::zs,_,.cons q r=>by obtain⟨t,rfl⟩:=(show∃t,_=Value.str z t from q);exact .cons (.str z t) (Bf r)
section
variable {X:Cx}
inductive Mn(K:a6)(x:V)(vs:List V)(H:Hp)(Q:VK):Prop |mk (sep:Str)(l:Addr)(zs:List Str)(h0:x= .str sep)(h1:vs=[.ref l])(h2:aF K H l (zs.map V.str))(h3:(∀z∈zs,z.length<=8))(h4:sep.length<=8)(h5:zs.length<=1000)(h6:Q (.str (Txt.join sep zs)) H)
def rJoin(K:a6):V->List V->Hp->VK->Prop:=λx vs H Q=>Mn K x vs H Q
theorem Gs(K:a6)(hK:X.K=K):BH X "str.join" (rJoin K):=by subst hK;intro af s O H x vs v us Q I rx rv h;obtain⟨sep,l,zs,rfl,rfl,hl,hz,hs,hn,q⟩:=h;obtain⟨t,rfl⟩:=rx;obtain⟨u,rfl,ru⟩:=vals1 rv;cases(show u=Value.ref l from ru);obtain⟨its,r,pl,_⟩:=I.list hl;refine join_madeW (l:=zs) (g:=id) 8 pl.isList (by rw[List.map_id];exact Bf r) (λa ha=>hz a ha) aA aA λt' k=>?_;rw[List.map_id];exact⟨.str _,H,I.tok _,⟨_,Z⟩,q⟩
theorem ES(K:a6)(h:X.K=K){o e:Expr}{to:TE}{t:TA}{apos cL:Pos}(ho:PE X o to)(ha:PA X [e] t) (om:attributeBase o "join" X.env (eval o X.env)=eval o X.env:=by rfl) (o8:((backTo cL (starEach [e] X.env)).all (λx=>!x.1)&&(backToKw cL (keywordEach [] X.env)).all (λx=>x.1.isSome) &&decide ([e].length+([]:List Keyword).length+(if([]:List Keyword).isEmpty then 0 else 1)<30))=true:=by rfl) (nY:(apos.endLine==cL.line)=true:=by rfl)(hs:starEach [e] X.env=(false,eval e X.env)::starEach [] X.env:=by rfl)(nR:(backTo cL (starEach [] X.env)).any (·.1)=false:=by rfl): PE X (.Call (.Attribute o "join" apos) [e] [] cL) (sE K "str" (rJoin K) to t):=by subst h;exact zB PySem.F.plainAttrs_str PySem.F.slot_str_join PySem.F.type_str_join (Gs X.K rfl) ho ha om o8 nY hs nR
end
end L2
namespace Wk
open PySem L2
def cH(pl ns:List Int):List Int:=List.zipWith (λa b=>a+b) pl ns
def behind(pl:List Int):Option (List Int)->List Int |none=>pl |some ns=>cH pl ns
def walk(pl:List Int):List (Option (List Int))->List (List Int) |[]=>[] |o::os=>behind pl o::walk (behind pl o) os
def aW(pl:List Int)(os:List (Option (List Int))):List Int:=os.foldl behind pl
theorem vO(pl:List Int)(os:List (Option (List Int)))(o:Option (List Int)):aW pl (os++[o])=behind (aW pl os) o:=by unfold aW;rw[List.foldl_append];rfl
theorem sg:∀(pl:List Int)(os:List (Option (List Int)))(o:Option (List Int)),walk pl (os++[o])=walk pl os++[behind (aW pl os) o] |pl,[],o=>rfl |pl,q::os,o=>by show behind pl q::walk (behind pl q) (os++[o])=_;rw[sg (behind pl q) os o];rfl
theorem gA:∀(pl:List Int)(os:List (Option (List Int))),(walk pl os).length=os.length |_,[]=>rfl |pl,o::os=>by show(walk (behind pl o) os).length+1=_;rw[gA];rfl
theorem oH{pl:List Int}{os:List (Option (List Int))}{i:Nat}{o:Option (List Int)}(h:os[i]? =some o):aW pl (os.take (i+1))=behind (aW pl (os.take i)) o:=by rw[iI,h];exact vO _ _ _
theorem xE{pl:List Int}{os:List (Option (List Int))}{i:Nat}{o:Option (List Int)}(h:os[i]? =some o):walk pl (os.take (i+1))=walk pl (os.take i)++[behind (aW pl (os.take i)) o]:=by rw[iI,h];exact sg _ _ _
theorem pD:∀(pl:List Int)(os:List (Option (List Int)))(i:Nat),walk pl (os.take i)=(walk pl os).take i |pl,[],i=>by simp[walk] |pl,o::os,0=>rfl |pl,o::os,i+1=>by show behind pl o::walk (behind pl o) (os.take i)=behind pl o::(walk (behind pl o) os).take i;rw[pD]
theorem Cq{pl:List Int}{os:List (Option (List Int))}{i:Nat}{o:Option (List Int)}(h:os[i]? =some o):(walk pl os)[i]? =some (behind (aW pl (os.take i)) o):=by
 have hl:i<os.length:=(bM.mp h).1;have e:=xE (pl:=pl) h;rw[pD,pD]at e;have l1:((walk pl os).take i).length=i:=by rw[cT,gA];lia
 have:((walk pl os).take (i+1))[i]? =some (behind (aW pl (os.take i)) o):=by rw[e,p9 aA,l1,rK];rfl
 rw[C8]at this;rw[aZ (xn i)]at this;exact this
theorem fT{pl ns:List Int}(h:ns.length=pl.length):(cH pl ns).length=pl.length:=by unfold cH;rw[List.length_zipWith,h];exact Nat.min_self _
theorem oN{pl ns:List Int}{i:Nat}{a b:Int}(h1:pl[i]? =some a)(h2:ns[i]? =some b):(cH pl ns)[i]? =some (a+b):=by unfold cH;rw[List.getElem?_zipWith,h1,h2]
def bK(rs pl:List Int):Bool:=(pl.zip rs).all λp=>decide (0<=p.1)&&decide (p.1<=p.2)
structure mr(rs pl:List Int):Prop where
 len:pl.length=rs.length
 at':∀(i:Nat)(x r:Int),pl[i]? =some x->rs[i]? =some r->0<=x/\x<=r
theorem zG{rs pl:List Int}(h:pl.length=rs.length):bK rs pl=true↔mr rs pl:=by
 unfold bK;rw[du];constructor
 ·intro a
  refine⟨h,λi x r e1 e2=>?_⟩;have:=a (x,r) (jw ((rO (z:=(x,r))).mpr ⟨e1,e2⟩));rw[cI,x5,x5]at this;exact this
 ·rintro a ⟨x,r⟩ hp
  obtain⟨i,hi⟩:=kj.mp hp;obtain⟨e1,e2⟩:=(rO (z:=(x,r))).mp hi;have:=a.at' i x r e1 e2;rw[cI,x5,x5];exact this
end Wk
namespace L2
open PySem PySem.Spec PyProof.Rows
section
variable {X:Cx}{af:List (Addr×Obj)}{O:St}{H:Hp}{s:a7}
end
section
variable {X:Cx}
end
def wM(z:Str):It:=⟨λi _=>i<z.cps.size,λi H x H'=>H'=H/\∃c,z.cps.toList[i]? =some c/\x= .str ⟨#[c]⟩,λi _=>z.cps.size<=i⟩
theorem CG{P:a8}{w:World}{K:a6}{tg:Expr}(it:Addr)(z:Str)(t:Tok)(ty:String)(uU:["enumerate","zip","dict_itemiterator","dict_reverseitemiterator","odict_iterator","itertools.zip_longest","itertools.pairwise"].contains ty=false) (W:∀A':aa,A'.handled=none->Walks P w A' it [it] [it] z.cps.size (SignAt z) (λi h=>h.IsStrIter it ty z t i)) (self:∀(A:aa)(i:Nat)(s:a7)(Q:Value->a7->Prop)(E:Value->a7->Prop),s.heap.IsStrIter it ty z t i->Q (.ref it) s->wpAny (model P w) A (pyIter (.ref it)) Q E s): Turn P w K tg (wM z) [it] it (λi h=>h.IsStrIter it ty z t i/\i<=z.cps.size) where
 mem:=by simp
 obj:=λi h st b hb=>by
  have e:b=it:=by simpa using hb
  subst e;obtain⟨⟨o,e,c,d⟩,_⟩:=st;exact⟨o,e,λv z=>by rw[d]at z;cases z⟩
 keep:=λi h h' st k=>⟨let⟨o,e,r⟩:=st.1;⟨o,k it (by simp) o e,r⟩,st.2⟩
 item:=by intro X hP hw hK hc i af s O H E I hf st hg;subst hP hw hK;obtain⟨f0,f1,f2,f3,f4,f5⟩:=hf it (by simp);refine(W X.A (I.ok.hd hc)).item i s _ _ hg st.1 λv h' tk hv dE kk=>?_;obtain⟨c,u,ec,rfl⟩:=hv;have I1:Inv X af O H {s with heap:=h',toks:=tk}:=I.turned (λb o hb e=>kk b o (by simpa using hb) e) f0 f1 f3 f4 f5;obtain⟨o,e,cl,d⟩:=id dE;exact⟨_,Z,oy (s:={s with heap:=h',toks:=tk}) e cl d uU ⟨.str ⟨#[c]⟩,H,I1,⟨u,Z⟩,⟨Z,c,by simpa using ec,Z⟩,⟨dE,hg⟩,λb hb=>(hf b hb).1⟩⟩
 done:=by intro X hP hw hK hc i af s O H E I hf st hg;subst hP hw hK;obtain⟨f0,f1,f2,f3,f4,f5⟩:=hf it (by simp);obtain⟨st,hle⟩:=st;have ei:i=z.cps.size:=Nat.le_antisymm hle hg;subst ei;exact(W X.A (I.ok.hd hc)).done s _ _ st λh' tk eb=>⟨Z,I.turned (λb o hb e=>eb b o (by simpa using hb) e) f0 f1 f3 f4 f5⟩
 self:=λA i s Q E st h=>self A i s Q E st.1 h
section
variable {X:Cx} {tg:Expr}
inductive ME(R:It->Hp->Prop)(x:V)(H1:Hp):Prop |mk (z:_)(h0:x= .str z)(h1:R (wM z) H1)
def Hu(tl:TE):TI:=λO H R=>tl O H λx H1=>ME R x H1
theorem Ep{l:Expr}{tl:TE}(hl:PE X l tl):PI X tg l (Hu tl):=by
 intro af s O H R I h;refine az (hl af s O H _ I h) λv s1 ⟨x,H1,I1,r1,q1⟩=>?_;obtain⟨z,e,q⟩:=q1;subst e;obtain⟨t,rfl⟩:=r1;have fin:∀ty,["enumerate","zip","dict_itemiterator","dict_reverseitemiterator","odict_iterator","itertools.zip_longest","itertools.pairwise"].contains ty=false->(∀A':aa,A'.handled=none->Walks X.prog X.w A' s1.heap.objs.size [s1.heap.objs.size] [s1.heap.objs.size] z.cps.size (SignAt z) (λi h=>h.IsStrIter s1.heap.objs.size ty z t i))->(∀(A:aa)(i:Nat)(s:a7)(Q:Value->a7->Prop)(E:Value->a7->Prop),s.heap.IsStrIter s1.heap.objs.size ty z t i->Q (.ref s1.heap.objs.size) s->wpAny (model X.prog X.w) A (pyIter (.ref s1.heap.objs.size)) Q E s)->wI X af O tg R (.ref s1.heap.objs.size) {s1 with heap:=s1.heap.push {cls:=.type ty,data:=.fields #[.str z t,.int 0 0]}}:=λty h1 h2 h3=>by
  refine⟨s1.heap.objs.size,[s1.heap.objs.size],_,_,H1,Z,I1.kept (t':=s1.toks) λb o e=>aX _ e,CG _ z t ty h1 h2 h3,⟨⟨_,bS _ Z,Z,Z⟩,dQ _⟩,λb hb=>?_,q⟩;have e:b=s1.heap.objs.size:=by simpa using hb
  subst e;exact I1.jh (aU _) (I1.aD.fresh (aU _))
 cases ha:z.cps.all (·<128)
 ·exact wpAny_pyIter_wide ha (fin "str_iterator" aj (λA' hA=>Walks.strWide hA _ z t) (λ_ _ _ _ _ st h=>wpAny_pyIter_striter_wide st h))
 ·exact wpAny_pyIter_ascii ha (fin "str_ascii_iterator" aj (λA' hA=>Walks.strAscii hA _ z t) (λ_ _ _ _ _ st h=>wpAny_pyIter_striter_ascii st h))
theorem Ks{z:Str}{f:Nat->Bool}{te:TE}{Q:VK}{D:Addr}{H H0:Hp}(rest:St)(nw:Nw H H0 D (.lst []))(hz:z.length<=1000) (hs:∀(c:Nat)(H2:Hp)(Q':VK),c∈z.cps.toList->au H H2->(∀H3,au H2 H3->Q' (.bl (f c)) H3)->te (some (.str ⟨#[c]⟩)::rest) H2 Q') (hq:∀H',au H H'->H' D=some (.lst ((z.cps.toList.map f).map V.bl))->Q (.ref D) H'):fW (wM z) (dm 0) fz te Q D (none::rest) H0:=by
 have hl:z.cps.toList.length=z.cps.size:=by simp
 refine B9 (xs:=z.cps.toList.map λc=>V.str ⟨#[c]⟩) (bs:=z.cps.toList.map f) rest nw (by simp) (by simpa[Str.length]using hz) ?_ ?_ ?_ hq
 ·intro i x H2 ex s2
  rw[cm]at ex;cases ec:z.cps.toList[i]? with |none=>rw[ec]at ex;cases ex |some c=>rw[ec]at ex;cases ex;refine⟨by have:=(bM.mp ec).1;show i<z.cps.size;omega,λy H3 ⟨e3,c',B0,e⟩=>⟨e3,?_⟩⟩;rw[ec]at B0;cases B0;exact e
 ·intro H2 s2
  show z.cps.size<=(z.cps.toList.map _).length;rw[br,hl];exact aU _
 ·intro i x b H2 Q' ex eb s2 eJ
  rw[cm]at ex eb;cases ec:z.cps.toList[i]? with |none=>rw[ec]at ex;cases ex |some c=>rw[ec]at ex eb;cases ex;cases eb;exact hs c H2 Q' (jw ec) s2 eJ
theorem EY:bF X (compareOp .In) (λx y H Q=>∃c j,x= .str ⟨#[c]⟩/\y= .str j/\Q (.bl (decide (c∈j.cps.toList))) H):=by intro af s O H x y v u Q I rx ry h;obtain⟨c,j,rfl,rfl,q⟩:=h;refine EX af s O H _ _ v u Q I rx ry ⟨_,_,Z,Z,?_⟩;rw[PySem.StrLaws.found_one];exact q
inductive Mt(K:a6)(x:V)(y:V)(H:Hp)(Q:VK):Prop |mk (p:_)(xs:_)(d:_)(ds:_)(h0:y= .ref p)(h1:aL K H p xs)(h2:RD K H x d)(h3:aw K H xs ds)(h4:SeqAt.shaped d=true)(h5:(∀e∈ds,SeqAt.shaped e=true))(h6:Q (.bl (ds.any λe=>PyData.eqv e d)) H)
def E6(K:a6):R2:=λx y H Q=>Mt K x y H Q
theorem Ho(K:a6)(hK:X.K=K)(hu:X.A.units+65<cLine):bF X (compareOp .In) (E6 K):=by
 subst hK;intro af s O H x y v u Q I rx ry h;obtain⟨p,xs,d,ds,rfl,hx,hd,eK,sd,DE,q⟩:=h;cases ry;obtain⟨its,r,pl,hz⟩:=I.tuple hx;obtain⟨k1,k2⟩:=AV I hu rx hd sd r eK DE;refine SeqAt.in_tupleAt (l8 s.heap d) (show s.heap.IsTuple p its.toArray from pl) (λw hw=>k1 w (by simpa using hw)) ⟨.bl _,H,I,Z,?_⟩;have e:its.toArray.any (l8 s.heap d)=ds.any λe=>PyData.eqv e d:=by rw[<-k2];simp
 rw[e];exact q
end
section
variable {prog:a8}{w:World}{A:aa}{E:Value->a7->Prop}{s:a7}
end
inductive Mi(K:a6)(x:V)(lo:Option Int)(hi:Option Int)(H:Hp)(Q:VK):Prop |mk (a:_)(xs:_)(h0:x= .ref a)(h1:aL K H a xs)(h2:∀c H',au H H'->aL K H' c (fQ xs lo hi)->Q (.ref c) H')
def E2(K:a6):V->Option Int->Option Int->Hp->VK->Prop:=λx lo hi H Q=>Mi K x lo hi H Q
theorem Ko{xs:List V}{lo hi:Option Int}(h1:HT.bb xs.length 0 lo=0)(h2:HT.bb xs.length xs.length hi=xs.length):fQ xs lo hi=xs:=by unfold fQ;rw[h1,h2];simp
section
variable {X:Cx}
theorem sQ(K:a6)(hK:X.K=K):wH X (E2 K):=by
 subst hK;intro af s O H x v vl vu lo hi sl Q I rx hs pl pu h;obtain⟨a,xs,rfl,vq,q⟩:=h;by_cases hw:HT.bb xs.length 0 lo=0/\HT.bb xs.length xs.length hi=xs.length
 ·cases rx
  obtain⟨its,r,ht,hz⟩:=I.tuple vq;have hlen:its.toArray.size=xs.length:=by rw[cC];exact r.length.symm
  refine⟨"tuple",_,kh.lookup,ht.typeIs,?_⟩;refine HT.Jq ht hs pl pu (by rw[hlen];exact hw) ⟨.ref a,H,I,Z,q _ _ (au.refl H) ?_⟩;rw[Ko hw.1 hw.2];exact vq
 ·refine Dy af s O H _ v vl vu lo hi sl Q I rx hs pl pu ⟨a,xs,Z,vq,hw,λr hr=>?_⟩
  have nw:Nw H (upd H r (.tup (fQ xs lo hi))) r (.tup (fQ xs lo hi)):=.of hr;exact q _ _ nw.same (aL.of nw.at')
end
theorem B3(xs:List V)(k:Nat):fQ xs none (some (k:Int))=xs.take k:=by unfold fQ;rw[HT.yR,HT.yS];simp
theorem Kn(xs:List V)(k:Nat):fQ xs (some (k:Int)) none=xs.drop k:=by
 unfold fQ;rw[HT.yR,HT.yS];by_cases h:k<=xs.length
 ·rw[Nat.min_eq_left h,gw (by rw[mJ];lia)]
 ·rw[Nat.min_eq_right aA,List.drop_of_length_le (aU _),List.drop_of_length_le aA];simp
section
variable {X:Cx}
open PyProof
end
end L2
namespace L2
open PySem PySem.Spec PyProof.Rows
section
variable {K:a6} {H H' H2:Hp}
end
section
variable {X:Cx} {tg:Expr}
end
structure MA(K:a6)(C:Addr)(m qual:Str)(st:Stmt):Prop where ex:∃f fd,Meth K C m f/\fk K m qual st f fd
def oQ(P:a8)(w:World)(K:a6)(mg:aM)(ag:Heap)(C:Addr)(m:Str)(k:Nat)(sp:Sp):Prop:=∃f fd ps,cO P w K mg ag dr k f fd ps sp/\Meth K C m f/\Binds K fd ps []
structure CA(K:a6)(mg:aM)(C:Addr)(x qual:Str)(st:Stmt):Prop where
 Gu:mg x=some (.ref C)
 ex:∃f fd,Mk K C f/\fk K "__init__" qual st f fd
def rj(P:a8)(w:World)(K:a6)(mg:aM)(ag:Heap)(C:Addr)(x:Str)(k:Nat)(sp:Sp):Prop:=∃f fd ps,cO P w K mg ag dr k f fd ps sp/\Mk K C f/\Binds K fd ps []/\mg x=some (.ref C)
section
variable {P:a8}{w:World}{K:a6}{mg:aM}{ag:Heap}
theorem zX{C:Addr}{m qual:Str}{st:Stmt}{f:Addr}{oc:Value}{od an:Option Addr}{bX:Array (Option Value)}{kV doc pm ao ct:Value} (a:PySem.W.findIn K (.ref C) m=some (some (.ref f)))(i:PySem.W.isFn K (.ref f)=true) (l:K.lookup f=some ⟨oc,od,.func (PySem.W.fnOf m qual (eN st) (cB st) (aO st) .none kV doc pm an ao ct),bX⟩) (c:PySem.W.codeIn K ao qual=true)(k:PySem.W.keepIn K (.ref f)=true):MA K C m qual st:=⟨f,_,⟨a,i,k⟩,qE l c k⟩
theorem KL{h:Heap}{C:Addr}{x qual:Str}{st:Stmt}{f:Addr}{oc:Value}{od an:Option Addr}{bX:Array (Option Value)}{kV doc pm ao ct:Value}(X:K.In h)(G:h.Ns mainGlobals mg) (aC:PySem.W.nsIn K mainGlobals x=some (some (.ref C)))(mk:PySem.W.makesIn K C=true)(kc:PySem.W.keepIn K (.ref C)=true) (a:PySem.W.findIn K (.ref C) "__init__"=some (some (.ref f)))(i:PySem.W.isFn K (.ref f)=true) (l:K.lookup f=some ⟨oc,od,.func (PySem.W.fnOf "__init__" qual (eN st) (cB st) (aO st) .none kV doc pm an ao ct),bX⟩) (c:PySem.W.codeIn K ao qual=true)(k:PySem.W.keepIn K (.ref f)=true):CA K mg C x qual st:=⟨oZ X G aC,f,_,⟨mk,a,i,kc⟩,qE l c k⟩
theorem MA.has{C:Addr}{m qual:Str}{st:Stmt}{N ps:List Str}{k:Nat}{sp:Sp}(F:MA K C m qual st)(S:bp N ps (aO st))(len:∀vs H Q E,sp vs H Q E->vs.length=ps.length) (hb:∀(kV doc pm:Value)(an:Option Addr)(ao ct:Value)(us:List Value),us.length=ps.length->bindArgs (PySem.W.fnOf m qual (eN st) (cB st) (aO st) .none kV doc pm an ao ct) ⟨us,[]⟩=pure (ps.zip us)) (cG:∀(f:Addr)(ao:Value)(A:aa)(outer:List Env)(s:a7)(H:Hp)(vs:List V)(Q:VK)(E:XK),bo k (A.deeper (envOfC qual (aO st) s.heap.objs.size f ao))->sp vs H Q E->∃t,cw (dA dr P w K mg ag N qual (aO st) f ao A outer s H E).kI (cB st) t/\t {nx:=λ_ H'=>Q .bj H',rt:=Q} (start N vs) H):oQ P w K mg ag C m (k+1) sp:=by obtain⟨f,fd,hm,F⟩:=F.ex;exact⟨f,fd,ps,F.ok S len λao A outer s H vs Q E=>cG f ao A outer s H vs Q E,hm,F.binds hb⟩
theorem CA.has{C:Addr}{x qual:Str}{st:Stmt}{N ps:List Str}{k:Nat}{sp:Sp}(F:CA K mg C x qual st)(S:bp N ps (aO st))(len:∀vs H Q E,sp vs H Q E->vs.length=ps.length) (hb:∀(kV doc pm:Value)(an:Option Addr)(ao ct:Value)(us:List Value),us.length=ps.length->bindArgs (PySem.W.fnOf "__init__" qual (eN st) (cB st) (aO st) .none kV doc pm an ao ct) ⟨us,[]⟩=pure (ps.zip us)) (cG:∀(f:Addr)(ao:Value)(A:aa)(outer:List Env)(s:a7)(H:Hp)(vs:List V)(Q:VK)(E:XK),bo k (A.deeper (envOfC qual (aO st) s.heap.objs.size f ao))->sp vs H Q E->∃t,cw (dA dr P w K mg ag N qual (aO st) f ao A outer s H E).kI (cB st) t/\t {nx:=λ_ H'=>Q .bj H',rt:=Q} (start N vs) H):rj P w K mg ag C x (k+1) sp:=by obtain⟨f,fd,hm,F'⟩:=F.ex;exact⟨f,fd,ps,F'.ok S len λao A outer s H vs Q E=>cG f ao A outer s H vs Q E,hm,F'.binds hb,F.Gu⟩
end
section
variable {X:Cx}{k:Nat}{x m:Str}{C:Addr}{p pos apos:Pos}{o e:Expr}{es:List Expr}{t:TA}{ta:TE}{sp:Sp}
inductive BI(C:Addr)(m:Str)(sp:Sp)(t:TA)(O:St)(Q:VK)(x:V)(H1:Hp):Prop |mk (a:_)(dx:_)(fs:_)(h0:x= .ref a)(h1:H1 a=some (.ins C dx fs))(h2:fs.lookup m=none)(h3:t O H1 λvs H2=>sp (x::vs) H2 Q E0)
def Dh(C:Addr)(m:Str)(sp:Sp)(ta:TE)(t:TA):TE:=λO H Q=>ta O H λx H1=>BI C m sp t O Q x H1
theorem Gr{O:St}{Q:VK}{x:V}{H1:Hp}:wN C m sp [] E0 t O Q x H1=BI C m sp t O Q x H1:=by
 have e1:(λ(vs:List V) H1=>sp (x::(vs++[])) H1 Q E0)=λvs H1=>sp (x::vs) H1 Q E0:=by funext vs H1;rw[fH]
 refine propext ⟨λ⟨a,dx,fs,h0,h1,h2,h3⟩=>⟨a,dx,fs,h0,h1,h2,?_⟩,λ⟨a,dx,fs,h0,h1,h2,h3⟩=>⟨a,dx,fs,h0,h1,h2,?_⟩⟩
 ·rw[<-e1];exact h3
 ·rw[e1];exact h3
theorem zw{pl:Sem Bool}(F:oQ X.prog X.w X.K X.mg X.ag C m k sp)(c:fX X.K C)(hr:bo k X.A)(he:PE X o ta) (ht:eval (.Call (.Attribute o m apos) [] [] pos) X.env=(do
 let ov<-eval o X.env
 standAt apos.atName
 let(f,first)<-holding [ov] (getMethod ov m pl)
 callWith pos f first (backTo pos (starEach [] X.env)) (backToKw pos (keywordEach [] X.env))):=by rfl): PE X (.Call (.Attribute o m apos) [] [] pos) (Dh C m sp ta mQ):=by
 obtain⟨f,fd,ps,F,hm,hb⟩:=F;have h:=EK (pos:=pos) (apos:=apos) (pl:=pl) he c hm F hr hb .nil ug ht;intro af s O H Q I hq;refine h af s O H Q I ?_;show ta O H λx H1=>wN C m sp [] E0 mQ O Q x H1;simp only[Gr];exact hq
def Di(C:Addr)(sp:Sp)(t:TA):TE:=λO H Q=>t O H λvs H1=>∀x dx,H1 x=none->H1 dx=none->dx≠x->sp (.ref x::vs) (upd (upd H1 dx (.own x)) x (.ins C dx [])) (λv H2=>v= .bj/\Q (.ref x) H2) E0
theorem EJ(F:rj X.prog X.w X.K X.mg X.ag C x k sp)(hr:bo (k+1) X.A)(hg:Gl X x)(ha:PA X (e::es) t)(dc:(x==("__debug__":Str))=false:=by decide) (he:starEach (e::es) X.env=(false,eval e X.env)::starEach es X.env:=by rfl)(cK:(backTo pos (starEach es X.env)).any (·.1)=false:=by rfl): PE X (.Call (.Name x p) (e::es) [] pos) (Di C sp t):=by
 obtain⟨f,fd,ps,F,M,hb,hm⟩:=F;have h:=EL (pos:=pos) (p:=p) M F hr hg hm hb .nil ug ha dc he cK;intro af s O H Q I hq;refine h af s O H Q I ?_;have e1:(λ(vs:List V) H1=>∀x dx,H1 x=none->H1 dx=none->dx≠x->sp (.ref x::(vs++[])) (upd (upd H1 dx (.own x)) x (.ins C dx [])) (λv H2=>v= .bj/\Q (.ref x) H2) E0) =λvs H1=>∀x dx,H1 x=none->H1 dx=none->dx≠x->sp (.ref x::vs) (upd (upd H1 dx (.own x)) x (.ins C dx [])) (λv H2=>v= .bj/\Q (.ref x) H2) E0:=by funext vs H1;rw[fH]
 show t O H λvs H1=>∀x dx,H1 x=none->H1 dx=none->dx≠x->sp (.ref x::(vs++[])) (upd (upd H1 dx (.own x)) x (.ins C dx [])) (λv H2=>v= .bj/\Q (.ref x) H2) E0;rw[e1];exact hq
inductive MM(C:Addr)(x:Str)(Q:VK)(v:V)(H1:Hp):Prop |mk (a dx:Addr)(fs:List (Str×V))(u:V)(h0:v= .ref a)(h1:H1 a=some (.ins C dx fs))(h2:fs.lookup x=some u)(h3:Q u H1)
theorem i7(T:fX X.K C)(hn:eS X.K C x)(he:PE X e ta)(hb:attributeBase e x X.env (eval e X.env)=eval e X.env:=by rfl): PE X (.Attribute e x pos) (λO H Q=>ta O H λv H1=>MM C x Q v H1):=by intro af s O H Q I h;refine Bv hb (az (he af s O H _ I h) λu s1 ⟨v,H1,I1,rx,a,dx,fs,w,ex,ea,l,q⟩=>?_);subst ex;obtain rfl:u=Value.ref a:=rx;exact Jo I1 ea T hn l λu' s2 I2 ru=>⟨w,H1,I2,ru,q⟩
inductive ML(C:Addr)(x:Str)(D:Ends)(O:St)(y v:V)(H2:Hp):Prop |mk (a dx:Addr)(fs:List (Str×V))(h0:v= .ref a)(h1:H2 a=some (.ins C dx fs))(h2:fs.length<1000)(h3:D.nx O (upd H2 a (.ins C dx (eF x y fs))))
theorem iT{value:Expr}{tv:TE}{pos':Pos}(T:fX X.K C)(hn:eS X.K C x)(ha:PE X o ta)(hv:PE X value tv)(hs:swapsWith value (some (.Attribute o x pos')) pos.line X.env=pure false:=by rfl): PS X (.Assign [.Attribute o x pos'] value pos) (λD O H=>tv O H λy H1=>ta O H1 λv H2=>ML C x D O y v H2):=by intro af s O H D I h;refine plainObj_wpAny_Assign_Attribute (az (hv af s O H _ I h) λu s1 ⟨y,H1,I1,ry,q⟩=>az (ha af s1 O H1 _ I1 q) λov s2 ⟨v,H2,I2,rx,a,dx,fs,ex,ea,l,q2⟩=>?_) hs;subst ex;obtain rfl:ov=Value.ref a:=rx;exact DB I2 ea T hn l ry λs3 I3=>⟨O,_,I3,q2⟩
end
def BJ(S:List Addr)(H H':Hp):Prop:=∀b o,H b=some o->b∉S->H' b=some o
section
variable {K:a6} {H H' H2:Hp}
end
theorem Km(f:Array Value->Array Value)(o:Obj):(o.mapFields f).dict=o.dict:=by obtain⟨c,d,dt,sl⟩:=o;cases dt<;>rfl
def Lq(h B:Heap)(ex:Addr)(cls:Value)(dx:Option Addr)(fl:Value):Prop:=∃ob fs tb ot ts,h.get? ex=some ob/\ob.cls=cls/\ob.dict=dx/\ob.data= .fields fs/\fs[1]? =some (.ref tb)/\B.get? tb=none/\tb≠ex/\h.get? tb=some ot/\ot.data= .fields ts/\ts[3]? =some fl/\fs[2]? =some .none
def gr(B:Heap)(l:List Env)(ex:Addr)(cls:Value)(dx:Option Addr)(fl:Value)(h:Heap):Prop:=B.StaysIn h/\B.get? ex=none/\h.FunFrames B l/\Lq h B ex cls dx fl
theorem gr.there{B h:Heap}{l:List Env}{ex:Addr}{cls fl:Value}{dx:Option Addr}(x:gr B l ex cls dx fl h):∃ob,h.get? ex=some ob/\ob.cls=cls/\ob.dict=dx/\∃fs,ob.data= .fields fs/\fs[2]? =some .none:=by obtain⟨_,_,_,ob,fs,_,_,_,e,c,d,z,_,_,_,_,_,_,z2⟩:=x;exact⟨ob,e,c,d,fs,z,z2⟩
section
variable {M:Model}{A:aa}{E:Value->a7->Prop}{s:a7}{B:Heap}{env:Env}{outer:List Env}{L ex:Addr}{ob:Obj}{fs:Array Value}{head:Value}{nx:Bool}{Q:Unit->a7->Prop}{cls fl:Value}{dx:Option Addr}
theorem AX(hA:A.frames=some (env::outer))(ff:s.heap.FunFrames B (env::outer))(hL:env.frame=some L)(ho:s.heap.get? ex=some ob)(st:B.StaysIn s.heap)(hB:B.get? ex=none)(hd:ob.data= .fields fs)(hz:1<fs.size)(cW:fs[2]? =some .none) (q:∀h',gr B (env::outer) ex ob.cls ob.dict (rawInt L) h'->s.heap.UpToSlots h'->Q () {s with heap:=h'}): wpAny M A (do let a<-frameOf env;let pl<-entryPlaceOf L nx;let b<-EntryCells.newEntry head a .none (rawInt L) .none pl;setField (.ref ex) 1 b) Q E s:=by
 have qp:ex∉(env::outer).filterMap (·.frame):=λhm=>by obtain⟨_,o,e1,nf⟩:=ff.mem hm;rw[ho]at e1;cases e1;exact nf fs hd
 refine ai (wpAny_frameOf_fun hA ff hL λg1 k1=>ai (wpAny_entryPlaceOf λpl hp=>?_));unfold EntryCells.newEntry newFields;refine ai (fq ?_ (hp.sizeOk5 _ _ _ _ _));have o1:g1.get? ex=some ob:=(k1.2.1 ex qp).trans ho;have xX:B.StaysIn g1:=λb o e=>(k1.2.1 b λhm=>by rw[(ff.mem hm).1]at e;cases e).trans (st b o e);generalize hT:({cls:=.type "traceback",dict:=none,data:=.fields ([head,.ref L,.none,rawInt L,.none]++(if pl.isEmpty then List.replicate 6 Value.none else pl)).toArray}:Obj)=T;have o2:(g1.push T).get? ex=some ob:=aX T o1;refine kf o2 hd hz (q _ ?_ ?_);all_goals have ne:g1.objs.size≠ex:=p4 (aV o1)
 all_goals have keep:∀b o,b≠ex->g1.get? b=some o->((g1.push T).update ex (Obj.mapFields (·.setIfInBounds 1 (Value.ref g1.objs.size)))).get? b=some o:=λb o nb e=>by rw[ph _ _ (ft nb)];exact aX _ e
 all_goals have jH:∀b o,s.heap.get? b=some o->(∀vs,o.data≠ .fields vs)->b≠ex:=λb o e nf z=>by rw[z,ho]at e;cases e;exact nf fs hd
 ·have d3:=p3 hd (·.setIfInBounds 1 (Value.ref g1.objs.size))
  have o3:=pe (Obj.mapFields (·.setIfInBounds 1 (Value.ref g1.objs.size))) o2 (xm d3);refine⟨λb o e=>keep b o (λz=>by rw[z,hB]at e;cases e) (xX b o e),hB,ff.of_keeps λb o e nf=>?_,?_⟩
  ·obtain⟨sl,e1⟩:=k1.2.2 b o e
   exact⟨_,keep b _ (jH b o e nf) e1,Z⟩
  ·refine⟨_,_,g1.objs.size,T,_,o3,Obj.cls_mapFields _ _,Km _ _,d3,by simp[hz],xX.fresh,ne,?_,by rw[<-hT],?_⟩
   ·rw[ph _ _ (ft ne)];exact bS g1 (by rw[<-hT];rfl)
   ·refine⟨?_,by simpa using cW⟩
    first|(simp;done)|(rcases hp with rfl|⟨_,_,_,_,_,_,_,rfl⟩<;>simp)
 ·intro b o e nf
  obtain⟨sl,e1⟩:=k1.2.2 b o e;exact⟨sl,keep b _ (jH b o e nf) e1⟩
theorem G5(hA:A.frames=some (env::outer))(ff:s.heap.FunFrames B (env::outer))(hL:env.frame=some L)(ho:s.heap.get? ex=some ob)(st:B.StaysIn s.heap)(hB:B.get? ex=none)(hd:ob.data= .fields fs)(h1:fs[1]? =some .none)(cW:fs[2]? =some .none) (q:∀h',gr B (env::outer) ex ob.cls ob.dict (rawInt L) h'->s.heap.UpToSlots h'->Q () {s with heap:=h'}):wpAny M A (noteFrame (.ref ex) env) Q E s:=by unfold noteFrame;simp only[hL];refine ai (bV ho hd h1 ?_);rw[aY aj];exact AX hA ff hL ho st hB hd (xy.mp h1).1 cW q
theorem zM(hA:A.frames=some (env::outer))(hL:env.frame=some L)(x:gr B (env::outer) ex cls dx .none s.heap) (q:∀h',gr B (env::outer) ex cls dx (rawInt L) h'->s.heap.UpToSlots h'->Q () {s with heap:=h'}):wpAny M A (noteFrame (.ref ex) env) Q E s:=by
 obtain⟨st,hB,ff,ob,fs,tb,ot,ts,ho,rfl,rfl,hd,h1,qC,nt,ht,ir,h3,cW⟩:=x;unfold noteFrame;simp only[hL];refine ai (bV ho hd h1 ?_);rw[aZ (show(Value.ref tb !=Value.none)=true from by simp)];refine ai (bV ht ir h3 ?_);rw[aY (show¬((Value.none==rawInt L)=true)from by simp[rawInt])];refine ai (kf ht ir (xy.mp h3).1 ?_);have other:∀b,b≠tb->(s.heap.update tb (Obj.mapFields (·.setIfInBounds 3 Value.none))).get? b=s.heap.get? b:=λb nb=>ph _ _ (ft nb);have jH:∀b o,s.heap.get? b=some o->(∀vs,o.data≠ .fields vs)->b≠tb:=λb o e nf z=>by rw[z,ht]at e;cases e;exact nf ts ir
 refine AX (s:={s with heap:=s.heap.update tb (Obj.mapFields (·.setIfInBounds 3 Value.none))}) hA (ff.of_keeps λb o e nf=>⟨o,(other b (jH b o e nf)).trans e,Z⟩) hL ((other ex (ft nt)).trans ho) (λb o e=>(other b λz=>by rw[z,qC]at e;cases e).trans (st b o e)) hB hd (xy.mp h1).1 cW λh' y up=>q h' y λb o e nf=>up b o ((other b (jH b o e nf)).trans e) nf
theorem oB{l:List Env}(x:gr B l ex cls dx fl s.heap)(q:∀h',gr B l ex cls dx .none h'->s.heap.UpToSlots h'->Q () {s with heap:=h'}):wpAny M A (setFlight (.ref ex) none) Q E s:=by
 obtain⟨st,hB,ff,ob,fs,tb,ot,ts,ho,hc,hx,hd,h1,qC,nt,ht,ir,h3,cW⟩:=x;have z3:3<ts.size:=(xy.mp h3).1;have other:∀b,b≠tb->(s.heap.update tb (Obj.mapFields (·.setIfInBounds 3 ((none:Option Addr).elim Value.none λf=>rawInt f)))).get? b=s.heap.get? b:=λb nb=>ph _ _ (ft nb);have jH:∀b o,s.heap.get? b=some o->(∀vs,o.data≠ .fields vs)->b≠tb:=λb o e nf z=>by rw[z,ht]at e;cases e;exact nf ts ir
 unfold setFlight;refine ai (bV ho hd h1 ?_);rw[aZ (show(Value.ref tb !=Value.none)=true from by simp)];refine kf ht ir z3 (q _ ⟨λb o e=>(other b λz=>by rw[z,qC]at e;cases e).trans (st b o e),hB,ff.of_keeps λb o e nf=>⟨o,(other b (jH b o e nf)).trans e,rfl⟩,?_⟩ λb o e nf=>⟨o.slots,(other b (jH b o e nf)).trans e⟩);exact⟨ob,fs,tb,_,_,(other ex (ft nt)).trans ho,hc,hx,hd,h1,qC,nt,pe _ ht (xm (p3 ir _)),p3 ir _,by simp[z3],cW⟩
theorem GU(hA:A.frames=some (env::outer))(ff:s.heap.FunFrames B (env::outer))(hL:env.frame=some L)(ho:s.heap.get? ex=some ob)(st:B.StaysIn s.heap)(hB:B.get? ex=none)(hd:ob.data= .fields fs)(h1:fs[1]? =some .none)(cW:fs[2]? =some .none) (q:∀h',gr B outer ex ob.cls ob.dict .none h'->s.heap.UpToSlots h'->Q () {s with heap:=h'}):wpAny M A (leaving env (.ref ex)) Q E s:=by unfold leaving;refine ai (G5 hA ff hL ho st hB hd h1 cW λh1 x1 u1=>oB x1 λh2 x2 u2=>q h2 ?_ (u1.trans u2));obtain⟨a,b,⟨_,_,c⟩,d⟩:=x2;exact⟨a,b,c,d⟩
end
end L2
namespace L2
open PySem PySem.Spec PyProof.Rows
open Builtin Builtin.ObjectAttr
def kl:List Value:=[.type "ValueError",.type "Exception",.type "BaseException",.type "object"]
def iW:List Value->Bool | .ref _::r=>iW r |l=>l==kl
theorem DS(self:Value){l:List Value}(e:iW l=true):refuseLoop self "__setattr__" l=pure ():=by induction l with |nil=>simp[iW,kl]at e |cons v r ih=>cases v with |ref c=>rw[refuseLoop_ref];exact ih (by simpa[iW]using e) |_=>have e':=cx.mp (show(_==kl)=true from e);rw[e'];exact PySem.F.store_ValueError.passes self
theorem IK{t:String}(ht:(kl.contains (.type t))=true):∀{l:List Value},iW l=true->l.contains (.type t)=true |l,e=>by induction l with |nil=>simp[iW,kl]at e |cons v r ih=>cases v with |ref c=>rw[Cc,ih (by simpa[iW]using e),Bool.or_true] |_=>have e':=cx.mp (show(_==kl)=true from e);rw[e'];exact ht
def zC(K:a6)(C:Addr):Bool:=(PySem.W.clsIn K C).any λcd=>iW cd.mro
section
variable {prog:a8}{w:World}{A:aa}{E:Value->a7->Prop}{s:a7}{K:a6}{x C:Addr}{ox:Obj}{fs:Array Value}{name:Str}{v:Value}{Q:Unit->a7->Prop}
theorem DD(X:K.In s.heap)(hx:s.heap.get? x=some ox)(hc:ox.cls= .ref C)(hd:ox.dict=none)(hf:ox.data= .fields fs) (hs:PySem.W.findIn K (.ref C) "__setattr__"=some (some (.builtin "object.__setattr__")))(hp:zC K C=true)(ht:PySem.W.takerIn K C name=some none)(hh:PySem.W.hasDictIn K C=true) (h:∀h',h'.get? x=some {ox with dict:=some s.heap.objs.size}->h'.Ns1 s.heap.objs.size (λy=>if y=name then some v else none)->(∀b o,b≠x->s.heap.get? b=some o->h'.get? b=some o)->Q () {s with heap:=h',toks:=s.toks+2}): wpAny (model prog w) A (setAttr (.ref x) name v) Q E s:=by
 have I:PySem.W.InstAt s.heap x ox C none:=⟨hx,hc,by unfold PySem.W.notCls;rw[hf],by rw[hd];trivial⟩;refine PySem.W.set_plain X I hs ?_;have SF:=PySem.F.store_object;obtain⟨cd,bZ,ho⟩:=BU hp;have ne:cd.mro.isEmpty=false:=by cases q:cd.mro with|nil=>rw[q]at ho;simp[iW,kl]at ho|cons _ _=>rfl
 have sub:PySem.W.Looks (model prog w) s.heap (isInstance (.ref x) (.type "object")) true:=I.type.andThen (PySem.W.looks_mroIn X (by unfold PySem.W.mroIn;rw[bZ,Option.bind_some,aY (by rw[ne];decide),IK aj ho]));refine codeAny_call_builtin SF.slot.plain SF.entry (@PySem.W.check_slot (model prog w) _ _ {s with toks:=s.toks+1} "object.__setattr__" "object" "__setattr__" (.ref x) [.str name s.toks,v] [] _ SF.kind SF.split sub (SF.args (.ref x) (.str name s.toks) v) ?_);obtain⟨attr,ha,hr⟩:=C4.mp ht;have hm:PySem.W.Looks (model prog w) s.heap (mroOf (.ref C)) cd.mro:=(BR X bZ).andThen .now;have L3:PySem.W.Looks (model prog w) s.heap (storeTaker? attr) none:=by cases attr with |none=>exact .now |some a=>obtain⟨b,hb,e⟩:=Option.map_eq_some_iff.mp hr;refine(PySem.W.looks_takesIn X hb).andThen ?_;cases b with |false=>exact .now |true=>cases e
 rw[PySem.W.osa_eq,refuse_eq];refine ai (ai (mE (s:={s with toks:=s.toks+1}) I.type (ai (mE (s:={s with toks:=s.toks+1}) hm ?_))));rw[DS _ ho];refine aG (ai (mE (s:={s with toks:=s.toks+1}) I.type (ai (mE (s:={s with toks:=s.toks+1}) (PySem.W.looks_findIn X ha) (ai (mE (s:={s with toks:=s.toks+1}) L3 ?_))))));obtain⟨NF,cW,hd2⟩:=BU hh;refine ai (aG (ai (ai (wpAny_loadPart (s:={s with toks:=s.toks+1}) hx ?_))));rw[hc];refine ai (mE (s:={s with toks:=s.toks+1}) (BR X cW) ?_);rw[hd2,hd,hf];rw[aY aj];show wpAny _ _ (if(!true|| !typeHasDict (Value.ref C))=true then _ else _) _ _ _;rw[aY (by simp[typeHasDict])];have x1:(s.heap.push {cls:=.type "dict",data:=.dict #[]}).get? x=some ox:=aX _ hx;have nx:x≠s.heap.objs.size:=bD (aV hx);refine ai (wpAny_alloc' (ai (wpAny_update' x1 (aG ?_))));have gd:((s.heap.push {cls:=.type "dict",data:=.dict #[]}).update x λo=>{cls:=o.cls,dict:=some s.heap.objs.size,data:=o.data,slots:=o.slots}).get? s.heap.objs.size=some {cls:=.type "dict",data:=.dict #[]}:=(Heap.get?_update_ne _ _ _ _ nx.symm).trans (Heap.get?_push_at Z rfl);have n0:((s.heap.push {cls:=.type "dict",data:=.dict #[]}).update x λo=>{cls:=o.cls,dict:=some s.heap.objs.size,data:=o.data,slots:=o.slots}).Ns s.heap.objs.size (λ_=>none):=⟨_,#[],_,gd,Z,(λe he=>absurd he (by simp)),λ_=>rfl⟩;show wpAny _ _ (storeInDict s.heap.objs.size (.str name s.toks) name v) _ _ _;unfold storeInDict newKeyGuard;refine ai (aG (ai (wpAny_nsSet1 (Heap.Ns1.of_empty n0) λh2 n2 sb=>?_)));obtain⟨oD,Kb,Kd,e1,e2,e3⟩:=n2.count (PySem.Within.cons name v PySem.Within.nil);refine ai (wpAny_lookBehind e1 (by rw[e2];exact pastItsLine_dict (fu e3 (by rw[iJ,List.length_nil,sizeLine_eq];lia))) ?_);refine aG (h h2 ?_ n2 λb o nb e=>?_)
 ·refine(sb.2 x nx).trans (pe _ x1 ?_)
  obtain⟨oc,od,uu,bX⟩:=ox;cases hf;rfl
 ·exact(sb.2 b (bD (aV e))).trans ((Heap.get?_update_ne _ _ _ _ nb).trans (aX _ e))
end
end L2
namespace L2
open PySem PySem.Spec PyProof.Rows
def lA(ex C:Addr)(h:Heap):Prop:=∃ob fs,h.get? ex=some ob/\ob.cls= .ref C/\ob.dict=none/\ob.data= .fields fs/\fs[1]? =some .none/\fs[2]? =some .none
def jr(ex C dx:Addr)(h:Heap):Prop:=∃ob fs,h.get? ex=some ob/\ob.cls= .ref C/\ob.dict=some dx/\ob.data= .fields fs/\fs[1]? =some .none/\fs[2]? =some .none
structure wA(K:a6)(C:Addr)(f:Str):Prop where
 sa:PySem.W.findIn K (.ref C) "__setattr__"=some (some (.builtin "object.__setattr__"))
 ov:zC K C=true
 tk:PySem.W.takerIn K C f=some none
 hd:PySem.W.hasDictIn K C=true
inductive Mg(K:a6)(f:Str)(D:Ends)(O:St)(y:V)(x:V)(H2:Hp):Prop |mk (ex:_)(C:_)(h0:x= .ref ex)(h1:H2 ex=some (.ext (lA ex C)))(h2:wA K C f)(h3:∀dx,H2 dx=none->dx≠ex->D.nx O (upd (upd H2 dx (.xd [(f,y)])) ex (.ext (jr ex C dx))))
def DI(K:a6)(ta tv:TE)(f:Str):TS:=λD O H=>tv O H λy H1=>ta O H1 λx H2=>Mg K f D O y x H2
section
variable {X:Cx}{o e value:Expr}{f:Str}{pos pos' jy:Pos}{ta tv:TE}
theorem Eb(K:a6)(hK:X.K=K)(ha:PE X o ta)(hv:PE X value tv)(hs:swapsWith value (some (.Attribute o f pos')) pos.line X.env=pure false:=by rfl):PS X (.Assign [.Attribute o f pos'] value pos) (DI K ta tv f):=by
 subst hK;intro af s O H D I h;refine plainObj_wpAny_Assign_Attribute (az (hv af s O H _ I h) λu s1 ⟨y,H1,I1,ry,q⟩=>az (ha af s1 O H1 _ I1 q) λov s2 ⟨x,H2,I2,rx,ex,C,e1,ee,xc,q2⟩=>?_) hs;subst e1;obtain rfl:ov=Value.ref ex:=rx;obtain⟨⟨ob,fs,g1,g2,g3,g4,g5,g6⟩,_,_⟩:=(show cN X.prog X.w H2 s2.heap ex (.ext (lA ex C))from I2.aD ex _ ee);refine DD I2.bU g1 g2 g3 g4 xc.sa xc.ov xc.tk xc.hd λh' k1 k2 k3=>?_;have ne:s2.heap.objs.size≠ex:=p4 (aV g1);have fr:H2 s2.heap.objs.size=none:=I2.aD.fresh (aU _);obtain⟨oD,es,ep,d1,d2⟩:=id k2;have HQ:(s2.heap.push oD).get? s2.heap.objs.size=some oD:=bS _ (by obtain⟨oc,od,uu,bX⟩:=oD;have:uu= .dict es ep:=d2.1;subst this;rfl);have IE:cN X.prog X.w (upd H2 s2.heap.objs.size (.xd [(f,y)])) (s2.heap.push oD) s2.heap.objs.size (.xd [(f,y)]):=by
  refine⟨_,k2.at λo e=>?_,λg=>?_⟩
  ·rw[d1]at e;cases e;exact HQ
  ·by_cases q:g=f
   ·subst q
    simp only[List.lookup,x6,if_true];exact ry
   ·have:(g==f)=false:=by simpa using q
    simp only[List.lookup,this,aY q];trivial
 have J1:=I2.laid (a:=s2.heap.objs.size) (o:=.xd [(f,y)]) (h':=s2.heap.push oD) (t':=s2.toks+2) (λb u q=>aX _ q) (aU _) IE;have J2:=J1.write (x:=ex) (e:=ex) (o:=.ext (jr ex C s2.heap.objs.size)) (h':=h') (t':=s2.toks+2) (by rw[aI ne.symm,ee];trivial) (.inl Z) (λb u nb e=>by
  rcases xx e with⟨rfl,rfl⟩|e
  ·exact d1
  ·exact k3 b u nb e) ⟨_,k1⟩ ⟨⟨_,fs,k1,g2,Z,g4,g5,g6⟩,⟨_,k1⟩,λh1 h2 ⟨kH,md,z1,z2⟩ k=>⟨kH,md,k _ z1,z2⟩⟩;exact⟨O,_,J2,q2 _ fr ne⟩
end
abbrev AR(rest:List Value):Obj:={cls:=.type "tuple",data:=.seq rest.toArray}
abbrev vM(C t:Addr):Obj:={cls:=.ref C,data:=.fields #[.ref t,.none,.none,.none,.bool false,.none]}
abbrev gX(h:Heap)(C:Addr)(rest:List Value):Heap:=(h.push (AR rest)).push (vM C h.objs.size)
section
variable {prog:a8}{w:World}{A:aa}{E:Value->a7->Prop}{h:Heap}{g:Array GenState}{d:Drawn}{t:Nat}{os:OsState}
variable {nm q:Str}{C N fI:Addr}{bs bm dn:List Value}{hdct:Bool}{sn:List Str}{sub:List Value}{ab:Bool}{col:Option Bool}{dd:Option Addr}{k0 k1 k2 k3 k5:Option Value}{B newId nN:String}{mN:aM}{rest:List Value}{oI:Obj}
theorem AS:(gX h C rest).get? (h.objs.size+1)=some (vM C h.objs.size):=by have:=bS (h.push (AR rest)) (o:=vM C h.objs.size) rfl;rwa [iK]at this
theorem me{b:Addr}{o:Obj}(e:h.get? b=some o):(gX h C rest).get? b=some o:=aX _ (aX _ e)
theorem CS(F:ExcBaseFacts B newId nN dn)(T:OwnTail h dn bm){Q:Fin->a7->Prop}(hC:h.get? C=some (excClassObj nm q C N bs bm hdct sn sub ab col dd k0 k1 k2 k3 k5 newId))(hn:h.Ns N mN)(hi:mN "__init__"=some (.ref fI)) (hf:h.get? fI=some oI)(vj:oI.cls= .type "function")(hz:rest.length<=sizeLine) (hq:wpAny (model prog w) A (call (.ref fI) (.ref (h.objs.size+1)::rest)) (λr s'=>r= .none/\Q (.done (.ret (.ref (h.objs.size+1)))) s') E ⟨gX h C rest,g,d,t,os⟩): wpAny (model prog w) A (Builtin.«type.__call__» ⟨.ref C::rest,[]⟩) Q E ⟨h,g,d,t,os⟩:=by
 repeat (first|with_reducible refine lB hC ?_|with_reducible refine wpAny_madeBy_exc hC ?_|wp_step)
 refine codeAny_call_builtin_code (Code.quiet_builtin _ F.quiet) (wpAny_check_new_subT F T hC (codeAny_exc_new_subT F T hC ?_ hz));show wpAny _ _ _ _ _ _;have c1:=me (C:=C) (rest:=rest) hC;have f1:=me (C:=C) (rest:=rest) hf;have n1:(gX h C rest).Ns N mN:=let⟨o,es,ep,e,r⟩:=hn;⟨o,es,ep,me e,r⟩;have x1:=AS (h:=h) (C:=C) (rest:=rest);have cc:(Value.ref C::bm).contains (.ref C)=true:=by simp
 have T1:=T.keeps (h':=gX h C rest) λb o e=>me e;unfold isInstance
 repeat (first|with_reducible refine lB x1 ?_|(with_reducible refine wW c1 ?_;rw[cc])|wp_step)
 show wpAny _ _ (typeLookup (.ref C) _) _ _ _;refine wpAny_typeLookup_tail c1 n1 T1 F.mroIs F.init.lookup ?_;rw[hi];refine eB (ai ?_);unfold bindSpecial;refine ai (rD (T:="function") ⟨_,f1,vj⟩ ?_);rw[aZ aj];refine aG (ai (dB hq (λr s' ⟨e,z⟩=>?_) λ_ _ z=>z));subst e
 wp_walk;exact z
theorem KJ(F:ExcBaseFacts B newId nN dn)(T:OwnTail h dn bm){Q:Value->a7->Prop}(hC:h.get? C=some (excClassObj nm q C N bs bm hdct sn sub ab col dd k0 k1 k2 k3 k5 newId))(hn:h.Ns N mN)(hi:mN "__init__"=some (.ref fI)) (hf:h.get? fI=some oI)(vj:oI.cls= .type "function")(hz:rest.length<=sizeLine) (hq:wpAny (model prog w) (A.under (.builtin "type.__call__" ⟨.ref C::rest,[]⟩)) (call (.ref fI) (.ref (h.objs.size+1)::rest)) (λr s'=>r= .none/\Q (.ref (h.objs.size+1)) s') E ⟨gX h C rest,g,d,t,os⟩): wpAny (model prog w) A (call (.ref C) rest) Q E ⟨h,g,d,t,os⟩:=by
 have f1:=tc_lookup;have f2:=tc_bind (.ref C);have hT:(⟨h,g,d,t,os⟩:a7).TypeIs (.ref C) "type":=⟨_,hC,Z⟩;refine mB (codeAny_of_tree ?_);show wpAny _ _ (callAny (.ref C) _) _ _ _
 repeat (any_goals (first|assumption|with_reducible refine lB hC ?_|wp_step))
 refine⟨Z,codeAny_call_builtin_at (Code.quiet_builtin _ bf) entry_typeCall (wpAny_check_type_call_sub hC (CS F T hC hn hi hf vj hz ?_))⟩;exact hq
end
section
variable {M:Model}{A:aa}{E:Value->a7->Prop}{env:Env}{nm q:Str}{C N:Addr}{bs bm:List Value}{hdct:Bool}{sn:List Str}{sub:List Value}{ab:Bool}{col:Option Bool}{dd:Option Addr}{k0 k1 k2 k3 k5:Option Value}{newId:String}
theorem E1{s:a7}{x:Sem Value}{Q:Flow->a7->Prop}(hb:bm.contains (.type "BaseException")=true)(hh:A.handled=none) (h:wpAny M A x (λv s1=>∃e oe fs,v= .ref e/\s1.heap.get? C=some (excClassObj nm q C N bs bm hdct sn sub ab col dd k0 k1 k2 k3 k5 newId)/\s1.heap.get? e=some oe/\oe.cls= .ref C/\oe.data= .fields fs/\fs[1]? =some .none/\E (.ref e) s1) E s): wpAny M A (raiseStmt env (some x) none) Q E s:=by
 have cb:(Value.ref C::bm).contains (.type "BaseException")=true:=by rw[Cc,hb,Bool.or_true]
 unfold raiseStmt;refine ai (dB h (λv s1 ⟨e,oe,fs,ev,hC,he,hc,ir,h1,hE⟩=>?_) λ_ _ z=>z);subst ev;obtain⟨hp,g,d,tk,os⟩:=s1;obtain⟨oc,odd,uu,bX⟩:=oe;cases hc;cases ir
 repeat (first|with_reducible refine lB he ?_|with_reducible refine lB hC ?_|(with_reducible refine wW hC ?_;rw[cb])|rw[h1]|wp_step)
 exact wpAny_raiseNew_none hh hE
end
def fG(P:a8)(w:World):fm:=λouter H s E e s'=>∃(ex:Addr)(cls:Value)(dx:Option Addr)(H':Hp)(B:Heap),e= .ref ex/\s'.os=s.os/\AllBare s'.gens/\gr B outer ex cls dx .none s'.heap/\Fl P w outer H s.heap ex H' B s'.heap/\E cls dx H'
theorem vW{H:Hp}{p:Addr}:del H p p=none:=by unfold del;rw[aZ rfl]
theorem ji{H:Hp}{p b:Addr}(h:b≠p):del H p b=H b:=by unfold del;rw[aY h]
theorem bL.del{P:a8}{w:World}{H:Hp}{h:Heap}{p:Addr}{φ:Heap->Prop}(ok:bL P w H h)(e:H p=some (.ext φ)):bL P w (del H p) h:=λb u q=>by
 obtain⟨nb,q⟩:=gZ.mp q;refine(ok b u q).gb (λ_ _ _ z=>z) (λc z=>?_) λc xs z=>?_
 ·rw[ji (λy=>by rw[y,e]at z;cases z)];exact z
 ·rw[ji (λy=>by rw[y,e]at z;cases z)];exact z
section
variable {P:a8}{w:World}{K:a6}{mg:aM}{ag:Heap}{N:List Str}{qual:Str}{scope:Scope}{f:Addr}{cd:Value}{A:aa}{outer:List Env}{s:a7}{H:Hp}{E:XK}{af:List (Addr×Obj)}{O:St}{H1:Hp}{s1:a7}{ex:Addr}{C:Addr}{dx:Addr}
theorem xC(I:Inv (dA (fG P w) P w K mg ag N qual scope f cd A outer s H E) af O H1 s1)(hx:H1 ex=some (.ext (jr ex C dx)))(hs:s.heap.objs.size<=ex)(q:E (.ref C) (some dx) (del H1 ex)): (dA (fG P w) P w K mg ag N qual scope f cd A outer s H E).xe (.ref ex) s1:=by
 have cJ:s1.heap.FunFrames ag (envOfC qual scope s.heap.objs.size f cd::outer):=I.stack;have Ij:∀env∈(envOfC qual scope s.heap.objs.size f cd::outer),∀b,env.frame=some b->b∈ex::cf (envOfC qual scope s.heap.objs.size f cd::outer):=λenv he b hb=>.tail _ (lG.mpr ⟨env,he,hb⟩);have hB:(PySem.W.hideAll s1.heap (ex::cf (envOfC qual scope s.heap.objs.size f cd::outer))).StaysIn s1.heap:=λb o e=>PySem.W.of_hideAll _ e;obtain⟨⟨ob,fs,g1,g2,g3,g4,g5,g6⟩,_,_⟩:=(show cN P w H1 s1.heap ex (.ext (jr ex C dx))from I.aD ex _ hx);have nw:s.heap.get? ex=none:=Heap.get?_none_of_le hs;have qp:∀b o,s.heap.get? b=some o->b∉cf outer->b∉ex::cf (envOfC qual scope s.heap.objs.size f cd::outer):=λb o e hb hm=>by
  rcases bR.mp hm with rfl|hm
  ·rw[nw]at e;cases e
  obtain⟨env,he,hf⟩:=lG.mp hm;rcases bR.mp he with rfl|he
  ·have e1:s.heap.objs.size=b:=ck hf
   have h1:=aV e;rw[<-e1]at h1;exact absurd h1 (mF _)
  ·exact hb (lG.mpr ⟨env,he,hf⟩)
 have uy:∀b u,H1 b=some u->(∀φ,u≠ .ext φ)->del H1 ex b=some u:=λb u e n=>by rw[ji (λz=>by rw[z,hx]at e;exact n _ (ck e).symm)];exact e
 have F0:Fl P w outer H s.heap ex (del H1 ex) (PySem.W.hideAll s1.heap (ex::cf (envOfC qual scope s.heap.objs.size f cd::outer))) s1.heap:=by
  refine⟨⟨I.ag.keep,I.ag.slot,λb o e n hb=>?_,I.ag.there,λb xs e=>uy b _ (I.ag.eV b xs e) (λ_ z=>nomatch z),λb o u e=>uy b _ (I.ag.eL b o u e) (λ_ z=>nomatch z),λb ps e=>?_⟩,I.aD.del hx,λb o e n hb=>x9 _ (I.ag.keep b o e n hb (dh)) (qp b o e hb),λb o e=>?_,λb o e hb=>?_,λb hb=>?_,nw,vW⟩
  ·by_cases z:b=ex
   ·rw[z];exact vW
   ·rw[ji z];exact I.ag.free b o e n hb
  ·obtain⟨more,e1⟩:=I.ag.eW b ps e
   exact⟨more,uy b _ e1 (λ_ z=>nomatch z)⟩
  ·obtain⟨nb,e⟩:=gZ.mp e
   obtain⟨kH,e1⟩:=(I.aD b o e).there;refine⟨kH,x9 _ e1 λhm=>?_⟩;rcases bR.mp hm with z|hm
   ·exact nb z
   ·rw[I.pJ b hm]at e
    cases e
  ·obtain⟨kH,e1⟩:=I.ag.there b o e (dh)
   exact⟨kH,x9 _ e1 (qp b o e hb)⟩
  ·obtain⟨env,he,hf⟩:=lG.mp hb
   have e1:=I.pJ b (lG.mpr ⟨env,.tail _ he,hf⟩);by_cases z:b=ex
   ·rw[z];exact vW
   ·rw[ji z];exact e1
 show wpAny (model P w) (A.deeper (envOfC qual scope s.heap.objs.size f cd)) (leaving (envOfC qual scope s.heap.objs.size f cd) (.ref ex)) _ _ _;refine GU (L:=s.heap.objs.size) I.ok.frames (PySem.W.funFrames_hide cJ Ij) Z g1 hB (PySem.W.hideAll_none _ (.head _)) g4 g5 g6 λh' x1 x2=>?_;exact⟨ex,.ref C,some dx,del H1 ex,_,Z,I.os,I.bare,by rw[g2,g3]at x1;exact x1,F0.step hB x1.1 x2 cJ.2.2,q⟩
end
def vL(K:a6)(C fI:Addr)(dn:List Value)(newId:String):Bool:=match K.lookup C with |some ⟨.type "type",_,.cls cd,sl⟩=>(match cd.mro,sl.toList with | .ref C'::bm,[_,_,_,_,some (.builtin n),_]=>C'==C&&n==newId&& !cd.hasDel&&PySem.W.tailIn K dn bm&&PySem.W.nsOkIn K cd.ns&&(PySem.W.nsIn K cd.ns "__init__"==some (some (.ref fI))) |_,_=>false) |_=>false
structure jq(K:a6)(mg:aM)(x:Str)(C fI:Addr)(dn:List Value)(newId:String):Prop where
 at':mg x=some (.ref C)
 ok:vL K C fI dn newId=true
theorem G4{K:a6}{h:Heap}{N:Addr}{m:aM}{n:Str}{v:Value}(X:K.In h)(G:h.Ns N m)(e:PySem.W.nsIn K N n=some (some v)):m n=some v:=by
 obtain⟨o,es,ep,ho,hd,_,hf⟩:=G;unfold PySem.W.nsIn at e;split at e
 ·rename_i c d qH n' sl q
  have z:=X _ _ q;rw[ho]at z;cases z;cases hd;split at e
  ·rename_i en he
   cases e;rw[<-hf];unfold nsFind findBy;rw[<-Array.find?_toList,he];rfl
  ·split at e<;>cases e
 ·cases e
theorem jq.own{K:a6}{mg:aM}{x:Str}{C fI:Addr}{dn:List Value}{newId:String}{h:Heap}(e:jq K mg x C fI dn newId)(X:K.In h): ∃tl N nm q bs hdct sn sub ab col dd k0 k1 k2 k3 k5 mN,h.get? C=some (excClassObj nm q C N bs tl hdct sn sub ab col dd k0 k1 k2 k3 k5 newId)/\h.Ns N mN/\mN "__init__"=some (.ref fI)/\OwnTail h dn tl:=by
 have q:=e.ok;unfold vL at q;split at q
 ·rename_i dd cd sl ho
  split at q
  ·rename_i D2 bl a0 a1 a2 a3 nn a5 hm hs
   simp only[cx,cI,Bool.not_eq_true']at q;obtain⟨⟨⟨⟨⟨r1,r2⟩,Aw⟩,ht⟩,aD⟩,Ap⟩:=q;subst r1 r2;obtain⟨c1,c2,c3,c4,c5,c6,c7,c8,c9,KN,NG⟩:=cd;dsimp only at hm Aw aD Ap;subst hm Aw;obtain⟨l⟩:=sl;simp only at hs;subst hs;have G:=Heap.Ns.of_isNs (PySem.W.isNs_of_in X aD);exact⟨bl,c4,c1,c5,c2,c6,c7,c8,c9,KN,dd,a0,a1,a2,a3,a5,_,X _ _ ho,G,G4 X G Ap,PySem.W.tail_of_in X ht⟩
  ·cases q
 ·cases q
def fnAt(K:a6)(f:Addr):Bool:=match K.lookup f with |some o=>o.cls== .type "function" |none=>false
theorem JJ{K:a6}{h:Heap}{f:Addr}(X:K.In h)(e:fnAt K f=true):∃o,h.get? f=some o/\o.cls= .type "function":=by
 unfold fnAt at e;split at e
 ·rename_i o ho
  exact⟨o,X _ _ ho,cx.mp e⟩
 ·cases e
def D5(E:XK)(C:Addr)(sp:Sp)(t:TA):TS:=λ_ O H=>t O H λvs H1=>vs.length<=sizeLine/\∀ex,H1 ex=none->sp (.ref ex::vs) (upd H1 ex (.ext (lA ex C))) (λv H2=>v= .bj/\∃dx,H2 ex=some (.ext (jr ex C dx))/\E (.ref C) (some dx) (del H2 ex)) (λ_ _ _=>False)
section
variable {X:Cx}{x:Str}{C fI:Addr}{dn:List Value}{newId nN B:String}{e:Expr}{t:TA}{np cL pos:Pos}{k:Nat}{fd:FuncData}{ps:List Str}{sp:Sp}
theorem zp{E:XK}(hx:∀af O H s ex dx,Inv X af O H s->H ex=some (.ext (jr ex C dx))->X.s₀.heap.objs.size<=ex->E (.ref C) (some dx) (del H ex)->X.xe (.ref ex) s) (EC:jq X.K X.mg x C fI dn newId)(FB:ExcBaseFacts B newId nN dn)(hh:X.A.handled=none)(F:cO X.prog X.w X.K X.mg X.ag dr k fI fd ps sp)(hr:bo (k+1) X.A)(hb:Binds X.K fd ps [])(hf:fnAt X.K fI=true)(hg:Gl X x)(ha:PA X [e] t) (he:starEach [e] X.env=[(false,eval e X.env)]:=by rfl)(hd:(x==("__debug__":Str))=false:=by decide): PS X (.Raise (some (.Call (.Name x np) [e] [] cL)) none pos) (D5 E C sp t):=by
 intro af s O H D I h;obtain⟨tl,Nn,nm,q,bs,hdct,sn,sub,ab,col,dd,k0,k1,k2,k3,k5,mN,hC,hN,hi,T⟩:=EC.own I.ok.mod.iX;have hA:=ha cL af s O H _ I h;rw[arm_exec_Raise];refine ai (mx (E1 (C:=C) (nm:=nm) (q:=q) (N:=Nn) (bs:=bs) (bm:=tl) (hdct:=hdct) (sn:=sn) (sub:=sub) (ab:=ab) (col:=col) (dd:=dd) (k0:=k0) (k1:=k1) (k2:=k2) (k3:=k3) (k5:=k5) (newId:=newId) (T.hasType FB.hasBase) hh (ai (dB (wpAny_Call_ofName (kK I hg EC.at' ?_ hd)) (λv s3 h3=>ai (mx (aG h3))) λ_ _ z=>z))));unfold callWith;rw[he]at hA⊢;refine ai (eB (dB (Calls.evalArgs_plain (Q:=λ(a:Args) s2=>a.kw=[]/\AP X af O (λvs H1=>vs.length<=sizeLine/\∀ex,H1 ex=none->sp (.ref ex::vs) (upd H1 ex (.ext (lA ex C))) (λv H2=>v= .bj/\∃dx,H2 ex=some (.ext (jr ex C dx))/\E (.ref C) (some dx) (del H2 ex)) (λ_ _ _=>False)) a.pos s2) (az hA λus s2 z=>⟨Z,z⟩)) (λa s2 z=>ai (mx ?_)) λ_ _ z=>z));obtain⟨us,Le⟩:=a;obtain⟨HW,vs,H1,I1,r1,z1,w1⟩:=z;obtain rfl:Le=[]:=HW;have C2:=I1.bk _ _ hC;have T2:=T.keeps I1.bk;have N2:=hN.keeps I1.bk;obtain⟨oI,f1,f2⟩:=JJ I1.bU hf;have GH:us.length<=sizeLine:=by rw[<-r1.length];exact z1
 obtain⟨hp,g,d,tk,os⟩:=s2;rw[show(backTo cL [(false,eval e X.env)]).any (·.1)=false from rfl];refine ai (wpAny_keeperOf_exc C2 ?_);have NL:Inv X af O H1 ⟨gX hp C us,g,d,tk,os⟩:=I1.kept (t':=tk) (h':=gX hp C us) λb u e=>me e;have xa:=AS (h:=hp) (C:=C) (rest:=us);have fx:H1 (hp.objs.size+1)=none:=I1.aD.fresh (Nat.le_succ _);have I2:Inv X af O (upd H1 (hp.objs.size+1) (.ext (lA (hp.objs.size+1) C))) ⟨gX hp C us,g,d,tk,os⟩:=by refine I1.laid (a:=hp.objs.size+1) (o:=.ext (lA (hp.objs.size+1) C)) (h':=gX hp C us) (t':=tk) (λb u e=>me e) (Nat.le_succ _) ?_;exact⟨⟨_,_,xa,Z,Z,Z,Z,Z⟩,⟨_,xa⟩,λh1 h2 ⟨kH,md,y1,y2⟩ k=>⟨kH,md,k _ y1,y2⟩⟩
 have hq:=w1 (hp.objs.size+1) fx;have r2:Vals (V.ref (hp.objs.size+1)::vs) (Value.ref (hp.objs.size+1)::us):=.cons Z r1;have hl:(Value.ref (hp.objs.size+1)::us++[]).length=ps.length:=by have e:=r2.length;rw[F.len _ _ _ _ hq]at e;rw[fH];exact e.symm
 have bt:=hb ⟨gX hp C us,g,d,tk,os⟩ (Value.ref (hp.objs.size+1)::us) I2.bU hl;rw[fH]at bt;refine ai (KJ FB T2 C2 N2 hi f1 f2 GH (mB (mD (F.run _ X.stack _ _ ⟨Value.ref (hp.objs.size+1)::us,[]⟩ (Value.ref (hp.objs.size+1)::us) _ _ (λ_ _ _=>False) (hr.make C us []) (I2.oG.make C us []) bt r2 hq) λr s' eJ=>?_)));cases r with |error e=>exact False.elim eJ |ok fl=>cases fl with |ret u=>obtain⟨v,H',I3,rv,ev,dx,ed,q3⟩:=I2.after eJ;subst ev;refine⟨rv,ai (eB (rE (aG ?_)))⟩;obtain⟨⟨ob,fs,g1,g2,g3,g4,g5,g6⟩,_,_⟩:=(show cN X.prog X.w H' s'.heap _ (.ext (jr (hp.objs.size+1) C dx))from I3.aD _ _ ed);exact⟨_,ob,fs,Z,I3.bk _ _ hC,g1,g2,g4,g5,hx af O H' s' _ dx I3 ed (fu I1.sz (Nat.le_succ _)) q3⟩ |next=>exact False.elim eJ |brk=>exact False.elim eJ |cont=>exact False.elim eJ
end
def eA(ex:Addr)(cls:Value)(dx:Option Addr)(h:Heap):Prop:=∃o,h.get? ex=some o/\o.cls=cls/\o.dict=dx/\∃fs,o.data= .fields fs/\fs[2]? =some .none
def ClsAt(K:a6)(C:Addr):Prop:=∀h,K.In h->∃nm q N bs tl hdct sn sub ab col dd k0 k1 k2 k3 k5 newId,h.get? C=some (excClassObj nm q C N bs tl hdct sn sub ab col dd k0 k1 k2 k3 k5 newId)
theorem jq.cls{K:a6}{mg:aM}{x:Str}{C fI:Addr}{dn:List Value}{newId:String}(e:jq K mg x C fI dn newId):ClsAt K C:=λh X=>by obtain⟨tl,N,nm,q,bs,hdct,sn,sub,ab,col,dd,k0,k1,k2,k3,k5,mN,hC,_⟩:=e.own X;exact⟨nm,q,N,bs,tl,hdct,sn,sub,ab,col,dd,k0,k1,k2,k3,k5,newId,hC⟩
inductive LA(i:Nat)(Cs:Addr->Prop)(tb:XK->TS)(th:TS)(D:Ends)(O:St)(H:Hp):Prop |mk (E:XK)(h0:tb E D O H)(h1:(∀cls dx H',E cls dx H'->∃C,cls= .ref C/\Cs C))(h2:∀(C ex:Addr)(dx:Option Addr)(σ':St)(H':Hp),σ'.length=O.length->E (.ref C) dx H'->H' ex=none->th {nx:=λσ2 H2=>D.nx (σ2.set i none) H2,rt:=D.rt,bk:=λσ2 H2=>D.bk (σ2.set i none) H2,ct:=λσ2 H2=>D.ct (σ2.set i none) H2} (σ'.set i (some (.ref ex))) (upd H' ex (.ext (eA ex (.ref C) dx))))
def CY(i:Nat)(Cs:Addr->Prop)(tb:XK->TS)(th:TS):TS:=λD O H=>LA i Cs tb th D O H
section
variable {X:Cx}{i:Nat}{n y:Str}{Dc:Addr}{jj:List Value}{newD:String}{body gC:List Stmt}{b0:Stmt}{np fM pos:Pos}{tb:XK->TS}{th:TS}{Cs:Addr->Prop}
end
end L2
namespace L2
open PySem PySem.Spec PyProof.Rows PySem.W
section
variable {prog:a8}{w:World}{A:aa}{E:Value->a7->Prop}{h:Heap}{g:Array GenState}{d:Drawn}{t:Nat}{os:OsState}{K:Frag}{x C:Addr}{ox:Obj}{od:Obj}{f:Str}{v:Value}
theorem Ka{b:Bool}{Q:Value->a7->Prop}(X:K.In h)(k:rC K C)(I:InstAt h x ox C (some od))(ha:findIn K (.ref C) f=some none)(hl:lookIn f od=some (some v))(hv:handedIn v=true) (hq:Q v ⟨h,g,d,t+1,os⟩):wpAny (model prog w) A (getAttr (.ref x) f b) Q E ⟨h,g,d,t,os⟩:=by
 have L0:=I.type (M:=model prog w);have L1:=looks_findIn (M:=model prog w) X k.ga;have L2:=looks_findIn (M:=model prog w) X k.gx;have L3:=looks_find (M:=model prog w) X I (findObj_own k.is ha Z hl);have f3:=PySem.F.excAttr_ValueError.ga.bind (.ref x);have Hz:(Value.builtin "BaseException.__getattribute__"==Value.builtin "object.__getattribute__")=false:=by decide+kernel
 have uR:(b&&onTheHeap (Value.builtin "BaseException.__getattribute__"))=false:=by cases b<;>rfl
 unfold getAttr getAttrBy;refine ai (wpAny_mkText (eB (ai (L0.at (ai (L1.at ?_))))));show wpAny _ _ (if(onTheHeap (Value.ref C)&&Value.builtin "BaseException.__getattribute__"==Value.builtin "object.__getattribute__")=true then _ else _) _ _ _;rw[Hz,Bool.and_false,aY aj];unfold getAttrByItsOwn hookBefore;refine ai ?_;show wpAny _ _ (typeLookup (.ref C) "__getattr__") _ _ _;refine L2.at (ai (mC (eB ?_)));unfold callGetattribute;rw[uR,aY aj];unfold boundAndCalled;rw[f3];refine ai (aG (mB ?_));refine codeAny_call_builtin PySem.F.excAttr_ValueError.ga.plain PySem.F.entry_bexc_ga (Jt X k L0 ?_);refine ai (aG (ai (aG (ai (L0.at (ai (L3.at ?_)))))));exact aG (handed_on hv hq)
end
inductive Lx(K:Frag)(f:Str)(Q:VK)(x:V)(H1:Hp):Prop |mk (ex:_)(C:_)(dx:_)(fs:_)(i:_)(h0:x= .ref ex)(h1:H1 ex=some (.ext (eA ex (.ref C) (some dx))))(h2:H1 dx=some (.xd fs))(h3:rC K C)(h4:findIn K (.ref C) f=some none)(h5:fs.lookup f=some (.int i))(h6:Q (.int i) H1)
def CU(K:Frag)(ta:TE)(f:Str):TE:=λO H Q=>ta O H λx H1=>Lx K f Q x H1
section
variable {X:Cx}{e:Expr}{f:Str}{pos:Pos}{ta:TE}
theorem zt(K:Frag)(hK:X.K=K)(he:PE X e ta)(hb:attributeBase e f X.env (eval e X.env)=eval e X.env:=by rfl):PE X (.Attribute e f pos) (CU K ta f):=by subst hK;intro af s O H Q I h;refine Bv hb (az (he af s O H _ I h) λu s1 ⟨x,H1,I1,rx,ex,C,dx,fs,i,ee,h1,h2,k,ha,hl,q⟩=>?_);subst ee;obtain rfl:u=Value.ref ex:=rx;obtain⟨⟨o,o1,o2,o3,md,o4,o5⟩,_,_⟩:=(show cN X.prog X.w H1 s1.heap ex (.ext (eA ex (.ref C) (some dx)))from I1.aD ex _ h1);obtain⟨mA,n1,n2⟩:=(show cN X.prog X.w H1 s1.heap dx (.xd fs)from I1.aD dx _ h2);obtain⟨od,e1,e2⟩:=A0 n1;have r:=n2 f;rw[hl]at r;cases em:mA f with |none=>rw[em]at r;exact r.elim |some v=>rw[em]at r;obtain⟨t,rfl⟩:=(show∃t,v=Value.int i t from r);have J:InstAt s1.heap ex o C (some od):=⟨o1,o2,by unfold notCls;rw[o4],by rw[o3];exact e1⟩;obtain⟨hp,g,d,tk,os⟩:=s1;exact Ka I1.bU k J ha (by rw[e2,em]) Z ⟨.int i,H1,I1.tok _,⟨t,Z⟩,q⟩
end
end L2
namespace L2
open PySem PySem.Spec PyProof.Rows
def rB(P:a8)(w:World)(K:a6)(mg:aM)(ag:Heap)(x:Str)(k:Nat)(sp:Sp):Prop:=∃f fd ps,cO P w K mg ag (fG P w) k f fd ps sp/\mg x=some (.ref f)/\PySem.W.keepIn K (.ref f)=true/\Binds K fd ps []
theorem FA.vo{P:a8}{w:World}{K:a6}{mg:aM}{ag:Heap}{x:Str}{st:Stmt}{N ps:List Str}{k:Nat}{sp:Sp}(F:FA K mg x st)(S:bp N ps (aO st))(len:∀vs H Q E,sp vs H Q E->vs.length=ps.length) (hb:∀(kV doc pm:Value)(an:Option Addr)(ao ct:Value)(us:List Value),us.length=ps.length->bindArgs (PySem.W.fnOf x x (eN st) (cB st) (aO st) .none kV doc pm an ao ct) ⟨us,[]⟩=pure (ps.zip us)) (cG:∀(f:Addr)(ao:Value)(A:aa)(outer:List Env)(s:a7)(H:Hp)(vs:List V)(Q:VK)(E:XK),bo k (A.deeper (envOfC x (aO st) s.heap.objs.size f ao))->sp vs H Q E->∃t,cw (dA (fG P w) P w K mg ag N x (aO st) f ao A outer s H E) (cB st) t/\t {nx:=λ_ H'=>Q .bj H',rt:=Q} (start N vs) H):rB P w K mg ag x (k+1) sp:=by obtain⟨f,fd,hm,F⟩:=F.ex;have kU:=F.binds hb;have kp:=F.kp;obtain⟨oc,od,kV,doc,pm,an,ao,ct,bX,rfl,lk,bZ⟩:=F.ex;exact⟨f,_,ps,vG lk bZ S len λA outer s H vs Q E hr cA=>cG f ao A outer s H vs Q E hr cA,hm,kp,kU⟩
section
variable {X:Cx}{k:Nat}{x:Str}{p pos:Pos}{e:Expr}{es:List Expr}{t:TA}{sp:Sp}
def Dq(sp:Sp)(E:XK)(t:TA):TE:=λO H Q=>t O H λvs H1=>sp vs H1 Q E
theorem EN{E:XK}(F:rB X.prog X.w X.K X.mg X.ag x k sp)(hp:Passes (fG X.prog X.w) X E)(hr:bo k X.A)(hg:Gl X x)(ha:PA X (e::es) t)(dc:(x==("__debug__":Str))=false:=by decide) (he:starEach (e::es) X.env=(false,eval e X.env)::starEach es X.env:=by rfl)(cK:(backTo pos (starEach es X.env)).any (·.1)=false:=by rfl): PE X (.Call (.Name x p) (e::es) [] pos) (Dq sp E t):=by
 obtain⟨f,fd,ps,F,hm,hk,hb⟩:=F;have h:=zA (pos:=pos) (p:=p) F hr hg hm hk hb .nil hp ha dc he cK;intro af s O H Q I hq;refine h af s O H Q I ?_;have e1:(λ(vs:List V) H1=>sp (vs++[]) H1 Q E)=λvs H1=>sp vs H1 Q E:=by funext vs H1;rw[fH]
 show t O H λvs H1=>sp (vs++[]) H1 Q E;rw[e1];exact hq
end
theorem Ku{K:a6}{mg:aM}{h:Heap}{x:Str}{C fI:Addr}{dn:List Value}{newId:String}(X:K.In h)(G:h.Ns mainGlobals mg)(a:PySem.W.nsIn K mainGlobals x=some (some (.ref C)))(k:vL K C fI dn newId=true):jq K mg x C fI dn newId:=⟨oZ X G a,k⟩
structure iE(k:Nat)(A:aa):Prop where
 dp:A.depth+3*k+5<recursionLimit
 un:A.units+16*k+200<cLine
theorem iE.mono{j k:Nat}{A:aa}(r:iE k A)(h:j<=k):iE j A:=⟨by have:=r.dp;lia,by have:=r.un;lia⟩
theorem iE.units{k:Nat}{A:aa}(r:iE k A):A.units+64<cLine:=by have:=r.un;lia
theorem bo.mark{k:Nat}{A:aa}(r:bo k A)(v:Option Value):iE k (A.mark v):=⟨r.dp,r.un⟩
theorem iE.deeper{k:Nat}{A:aa}(r:iE (k+1) A)(env:Env):iE k (A.deeper env):=⟨by have:=r.dp;show A.depth+1+3*k+5<_;lia,by have:=r.un;show A.units+3+16*k+200<_;lia⟩
abbrev qN(P:a8)(w:World)(K:a6)(mg:aM)(ag:Heap)(N:List Str)(qual:Str)(scope:Scope)(f:Addr)(cd:Value)(A:aa)(outer:List Env)(s:a7)(H:Hp):Cx:={(dA dr P w K mg ag N qual scope f cd A outer s H (λ_ _ _=>False))with calm:=false,xe:=λ_ _=>False}
section
variable {X:Cx}{k:Nat}{x:Str}{p pos:Pos}{e:Expr}{es:List Expr}{t:TA}{sp:Sp}
end
def fj(A:aa)(h:Heap):Prop:=∃ex o fs,A.handled=some (.ref ex)/\h.get? ex=some o/\o.data= .fields fs/\fs[2]? =some .none
theorem Ke:entryFor table "proto.unchain"=some Builtin.«proto.unchain»:=entryFor_of_tree (by kernel_rfl)
section
variable {prog:a8}{w:World}{A:aa}{E:Value->a7->Prop}{s:a7}
theorem DZ{α:Type}{e:Addr}{oe:Obj}{fe:Array Value}{Q:α->a7->Prop}(hh:fj A s.heap)(vd:∀ex,A.handled=some (.ref ex)->ex≠e)(dJ:s.heap.get? e=some oe)(Ax:oe.data= .fields fe)(hz:2<fe.size) (h:∀g,Heap.SameBut e s.heap g->(∃o,g.get? e=some o/\o.cls=oe.cls)->E (.ref e) {s with heap:=g}):wpAny (model prog w) A (raiseNew (.ref e):Sem α) Q E s:=by
 obtain⟨ex,o,fs,h1,h2,h3,h4⟩:=hh;have ne:=vd ex h1;unfold raiseNew;refine ai (wpAny_handled ?_);rw[h1];have hb:(Value.ref ex !=Value.ref e)=true:=by rw[bne_iff_ne];intro z;injection z with z;exact ne z
 dsimp only;rw[aZ hb];refine ai (eB (wpAny_runValue (codeAny_builtin Ke ?_)));show wpAny _ _ (field (.ref ex) 2>>=_) _ _ s;refine ai (bV h2 h3 (x:=.none) h4 ?_);show wpAny _ _ (if(Value.none==Value.none)=true then _ else _) _ _ s;rw[aZ (show(Value.none==Value.none)=true from Z)];refine aG ?_;show wpAny _ _ (setField (.ref e) 2 (.ref ex)>>=_) _ _ s;refine ai (kf dJ Ax hz (wpAny_throw (h _ (rX ..) ⟨_,pe _ dJ (xm (p3 Ax _)),Obj.cls_mapFields ..⟩)))
theorem fj.go{h g:Heap}(x:fj A h)(k:∀ex,A.handled=some (.ref ex)->∀o,h.get? ex=some o->g.get? ex=some o):fj A g:=by obtain⟨ex,o,fs,h1,h2,h3,h4⟩:=x;exact⟨ex,o,fs,h1,k ex h1 o h2,h3,h4⟩
theorem sH{α:Type}{it:Addr}{Q:α->a7->Prop}{f:Obj->Obj}(hh:fj A s.heap)(hi:∀ex,A.handled=some (.ref ex)->ex≠it) (h:∀g e,Heap.ExtBut it s.heap g->(∃o,g.get? e=some o/\o.cls= .type "StopIteration")->E (.ref e) {s with heap:=g}):wpAny (model prog w) A (newExc (.type "StopIteration") []>>=λe=>(raiseNew e:Sem α)) Q E {s with heap:=s.heap.update it f}:=by
 obtain⟨ex,o,fs,h1,h2,h3,h4⟩:=id hh;have e2:(s.heap.update it f).get? ex=some o:=((rX (h:=s.heap) (a:=it) (f:=f)).2 ex (hi ex h1)).trans h2;refine ai ?_;simp only[newExc,newTuple];refine ai (fq ?_ (by size_fits));refine ai (m:=firstArgMember _ _) (wpAny_of_eq (a:=Value.none) (by first|rfl|(simp only[firstArgMember];rfl)) ?_);refine fq ?_ (by size_fits);have lt:ex<(s.heap.update it f).objs.size:=aV e2;refine DZ (hh:=⟨ex,o,fs,h1,aX _ (aX _ e2),h3,h4⟩) (λgY z=>?_) (bS _ Z) Z (xp Z) λg sb ⟨o',e',c'⟩=>h g _ ?_ ⟨o',e',c'⟩
 ·rw[h1]at z
  cases z;exact bD (aV (aX _ e2))
 ·intro b ob hb eb
  have e3:(s.heap.update it f).get? b=some ob:=((rX (h:=s.heap) (a:=it) (f:=f)).2 b hb).trans eb;have e4:=aX {cls:=.type "tuple",data:=.seq #[]} e3;exact(sb.2 b (bD (aV e4))).trans (aX _ e4)
def jm(A:aa)(b:Addr):Prop:=∀ex,A.handled=some (.ref ex)->ex≠b
theorem GP{it l:Addr}{i:Nat} {items}{Q:Option Value->a7->Prop}(hh:fj A s.heap)(hn:jm A it) (hit:s.heap.IsListIter it l i)(hl:s.heap.IsList l items)(hx:items[i]? =none) (hQ:∀h',Heap.ExtBut it s.heap h'->Q none {s with heap:=h'}):wpAny (model prog w) A (pyNext (.ref it)) Q E s:=by obtain⟨o,ho,hc,hd⟩:=id hit;obtain⟨ol,gM,_,nl,vk⟩:=hl;unfold pyNext;refine ai (mC (hV (name:=Str.ofString "__next__") hit.typeIs slot_listiter_next (hU slot_listiter_next hit.typeIs entry_listiter_next ?_ (args_listiter_next _))));show wpAny _ _ (field (.ref it) 0>>=_) _ _ s;refine ai (bV ho hd (x:=.ref l) Z ?_);show wpAny _ _ (if(Value.ref l==Value.none)=true then _ else _) _ _ s;rw[aY (show¬((Value.ref l==Value.none)=true)from dS)];show wpAny _ _ (field (.ref it) 1>>=_) _ _ s;refine ai (bV ho hd (x:=.int i 0) Z ?_);show wpAny _ _ (seqItems? (.ref l)>>=_) _ _ s;refine ai (gu gM vk ?_);simp only[pb,hx];refine ai (my (ai (kf ho hd (by simp) ?_)));refine sH (A:=A.in1) hh hn λg e xb ex=>?_;refine ai (wX (T:="StopIteration") (b:=true) ex wZ ?_);exact aG (hQ _ xb)
theorem CL{it t:Addr}{i:Nat} {items}{Q:Option Value->a7->Prop}(hh:fj A s.heap)(hn:jm A it) (hit:s.heap.IsTupleIter it t i)(hl:s.heap.IsTuple t items)(hx:items[i]? =none) (hQ:∀h',Heap.ExtBut it s.heap h'->Q none {s with heap:=h'}):wpAny (model prog w) A (pyNext (.ref it)) Q E s:=by obtain⟨o,ho,hc,hd⟩:=id hit;obtain⟨ol,gM,_,nl,vk⟩:=hl;unfold pyNext;refine ai (mC (hV (name:=Str.ofString "__next__") hit.typeIs lE (hU lE hit.typeIs xi ?_ (xk _))));show wpAny _ _ (field (.ref it) 0>>=_) _ _ s;refine ai (bV ho hd (x:=.ref t) Z ?_);show wpAny _ _ (if(Value.ref t==Value.none)=true then _ else _) _ _ s;rw[aY (show¬((Value.ref t==Value.none)=true)from dS)];show wpAny _ _ (field (.ref it) 1>>=_) _ _ s;refine ai (bV ho hd (x:=.int i 0) Z ?_);show wpAny _ _ (seqItems? (.ref t)>>=_) _ _ s;refine ai (gu gM vk ?_);simp only[pb,hx];refine ai (my (ai (kf ho hd (by simp) ?_)));refine sH (A:=A.in1) hh hn λg e xb ex=>?_;refine ai (wX (T:="StopIteration") (b:=true) ex wZ ?_);exact aG (hQ _ xb)
theorem AY{it t:Addr}{k:Nat}{ts:Array Value}{Q:Value->a7->Prop}(hh:fj A s.heap)(hn:jm A it)(hi:s.heap.IsTupleIter it t k)(ht:s.heap.IsTuple t ts)(hx:ts[k]? =none) (q:∀g e,Heap.ExtBut it s.heap g->(∃o,g.get? e=some o/\o.cls= .type "StopIteration")->E (.ref e) {s with heap:=g}):wpAny (model prog w) A (Builtin.SmallTypes.nextOf (.ref it)) Q E s:=by obtain⟨oi,dZ,ci,di⟩:=id hi;obtain⟨ot,nU,_,nt,dt⟩:=ht;unfold Builtin.SmallTypes.nextOf;refine ai (hV (name:=Str.ofString "__next__") hi.typeIs lE (hU lE hi.typeIs xi ?_ (xk _)));show wpAny _ _ (field (.ref it) 0>>=_) _ _ s;refine ai (bV dZ di (x:=.ref t) Z ?_);show wpAny _ _ (if(Value.ref t==Value.none)=true then _ else _) _ _ s;rw[aY (show¬((Value.ref t==Value.none)=true)from dS)];show wpAny _ _ (field (.ref it) 1>>=_) _ _ s;refine ai (bV dZ di (x:=.int k 0) Z ?_);show wpAny _ _ (seqItems? (.ref t)>>=_) _ _ s;refine ai (gu nU dt ?_);simp only[pb,hx];refine ai (my (ai (kf dZ di (by simp) ?_)));exact sH (A:=A.in1) hh hn λg e xb ex=>q g e xb ex
theorem Cr{t:Addr}{items:Array Value}{Q:List Value->a7->Prop}(hh:fj A s.heap)(ht:IsTup s.heap t items) (hQ:∀h',Heap.ExtBut s.heap.objs.size s.heap h'->Q items.toList {s with heap:=h'}):wpAny (model prog w) A (unpackItems (.ref t) items.size none) Q E s:=by
 have bq:t≠s.heap.objs.size:=by obtain⟨o,ho,_⟩:=ht;exact bD (aV ho)
 have hn:jm A s.heap.objs.size:=λex z=>by obtain⟨gY,o,fs,h1,h2,_⟩:=hh;rw[h1]at z;cases z;exact bD (aV h2)
 unfold unpackItems;refine ai ?_;unfold notIterableAtAll;refine ai (wpAny_specialOf ht.typeIs slot_tuple_iter.lookup ?_);refine aG ?_;simp only[Bool.false_eq_true,if_false];refine ai (eB (iter_tuple ht ?_));refine ai (eB (draw_tuple bq items.size 0 _ _ ⟨_,bS _ Z,Z,Z⟩ (ht.push _) aQ λh₁ Ic uW=>?_));have vp:List.take items.size (List.drop 0 items.toList)=items.toList:=by rw[List.drop_zero];exact gw (by simp)
 rw[vp];rw[aY (by simp)];have HB:IsTup h₁ t items:=(ht.push _).extBut uW.extBut bq;have Ir:fj A h₁:=hh.go λex z o e=>uW.extBut _ _ (hn ex z) (aX _ e);refine ai (eB (CL Ir hn Ic HB (by simp) λh₂ Iz=>?_));simp only[Option.isSome_none,Bool.false_eq_true,if_false];exact aG (hQ h₂ λb o hb e=>Iz b o hb (uW.extBut b o hb (aX _ e)))
theorem L8{env:Env}{elts:List Expr} {x1}{pos:Pos}{t:Addr}{items:Array Value}{Q:Unit->a7->Prop}(hh:fj A s.heap)(ht:IsTup s.heap t items) (hn:(assignEach elts env).length=items.size)(HD:(assignEach elts env).findIdx? (·.1)=none) (h:∀h',Heap.ExtBut s.heap.objs.size s.heap h'->wpAny (model prog w) A (assignInOrder ((assignEach elts env).map (·.2)) items.toList) Q E {s with heap:=h'}):wpAny (model prog w) A (assign (.Tuple elts x1 pos) env (.ref t)) Q E s:=by rw[assign_Tuple];refine ai (mx ?_);unfold unpack;rw[hn,HD];exact ai (eB (Cr hh ht h))
theorem Cg{z TI TO i1 i2 l1 l2:Addr}{k:Nat}{xs ys:Array Value}{Q:Fin->a7->Prop}(hh:fj A s.heap)(nz:jm A z)(nT:jm A TO)(n1:jm A i1)(n2:jm A i2)(D:ZipApart z TI TO i1 i2 l1 l2)(NQ:Zp false false s.heap z TI TO i1 i2 l1 l2 .none k) (fE:cS false s.heap l1 xs)(fO:cS false s.heap l2 ys)(jc:xs[k]? =none\/ys[k]? =none) (q:∀g e,(∀c o,c≠z->c≠TO->c≠i1->c≠i2->s.heap.get? c=some o->g.get? c=some o)->(∃o,g.get? e=some o/\o.cls= .type "StopIteration")->E (.ref e) {s with heap:=g}): wpAny (model prog w) A (Builtin.«zip.__next__» ⟨[.ref z],[]⟩) Q E s:=by obtain⟨hz,cX,⟨a,b,de⟩,h1,h2⟩:=NQ;show wpAny _ _ (field (.ref z) 2>>=_) _ _ _;refine ai (bV hz Z (x:=.bool false) Z ?_);show wpAny _ _ (field (.ref z) 3>>=_) _ _ _;refine ai (bV hz Z (x:=.ref TI) Z (ai (gu cX Z ?_)));show wpAny _ _ (Builtin.SmallTypes.ownedTupleIsFree (.ref z)>>=_) _ _ _;refine ai (uh hz ?_);simp only[if_true];refine ai (my (ai (bV hz Z (x:=.ref TO) Z (ai (kb hz (by simp) λg1 z1 e1=>?_)))));replace z1:IsZip g1 z TI TO .ellipsis:=z1;have Av:fj A g1:=hh.go λex zz o e=>e1.extBut _ _ (nz ex zz) e;refine ai ?_;simp only[C6,List.zipIdx_nil,rR,List.forIn_nil];refine ai (ai (mz ?_));show wpAny _ _ (Builtin.SmallTypes.nextOf (.ref i1)>>=_) _ _ _;have j1:=h1.to λo e=>e1.extBut _ _ D.i1z e;have k1:=fE.to λo e=>e1.extBut _ _ D.l1z e;cases hx:xs[k]? with
 |none=>
  refine ai (AY Av n1 j1 k1 hx λg2 er e2 ⟨oe,dJ,gP⟩=>?_);have z2:IsZip g2 z TI TO .ellipsis:=e2 _ _ D.i1z.symm z1;have nz:er≠z:=λv=>by subst v;rw[z2]at dJ;cases dJ;simp at gP
  refine kb z2 (by simp) λg3 _ e3=>q g3 er (λc o c1 _ c3 _ v=>e3.extBut _ _ c1 (e2 _ _ c3 (e1.extBut _ _ c1 v))) ⟨oe,e3.extBut _ _ nz dJ,gP⟩ |some x=>
  have hy:ys[k]? =none:=by rcases jc with h|h;rw[hx]at h;cases h;exact h
  refine ai (nC j1 k1 hx λg2 m1 e2=>aG ?_);have t2:IsPair g2 TO a b:=e2.extBut _ _ D.TOi1 (e1.extBut _ _ D.TOz de);refine ai (gu t2 Z (ai (wU t2 λg3 t3 e3=>?_)));have Iv:fj A g3:=Av.go λex zz o e=>e3.extBut _ _ (nT ex zz) (e2.extBut _ _ (n1 ex zz) e);refine ai (wpAny_letGo (aG ?_));refine ai (ai (mz ?_));show wpAny _ _ (Builtin.SmallTypes.nextOf (.ref i2)>>=_) _ _ _;refine ai (AY Iv n2 (h2.to λo e=>e3.extBut _ _ D.TOi2.symm (e2.extBut _ _ D.i12.symm (e1.extBut _ _ D.i2z e))) (fO.to λo e=>e3.extBut _ _ D.l2TO (e2.extBut _ _ D.l2i1 (e1.extBut _ _ D.l2z e))) hy λg4 er e4 ⟨oe,dJ,gP⟩=>?_);have z4:IsZip g4 z TI TO .ellipsis:=e4 _ _ D.i2z.symm (e3.extBut _ _ D.TOz.symm (e2.extBut _ _ D.i1z.symm z1));have nz:er≠z:=λv=>by subst v;rw[z4]at dJ;cases dJ;simp at gP
  refine kb z4 (by simp) λg5 _ e5=>q g5 er (λc o c1 c2 c3 c4 v=>e5.extBut _ _ c1 (e4 _ _ c4 (e3.extBut _ _ c2 (e2.extBut _ _ c3 (e1.extBut _ _ c1 v))))) ⟨oe,e5.extBut _ _ nz dJ,gP⟩
end
def fU(ex:Addr)(H:Hp):Prop:=∃cls dx,H ex=some (.ext (eA ex cls dx))
theorem fU.go{ex:Addr}{H H':Hp}(s:au H H')(h:fU ex H):fU ex H':=let⟨c,d,e⟩:=h;⟨c,d,s _ _ e⟩
theorem Inv.vn{X:Cx}{af:List (Addr×Obj)}{O:St}{H:Hp}{s:a7}{ex:Addr}(I:Inv X af O H s)(hx:X.A.handled=some (.ref ex))(h:fU ex H):fj X.A s.heap:=by obtain⟨cls,dx,e⟩:=h;obtain⟨⟨o,o1,o2,o3,fs,o4,o5⟩,_,_⟩:=(show cN X.prog X.w H s.heap ex (.ext (eA ex cls dx))from I.aD ex _ e);exact⟨ex,o,fs,hx,o1,o4,o5⟩
theorem dg.oa{X:Cx}{af:List (Addr×Obj)}{H:Hp}{b ex:Addr}(f:dg X af H b)(hx:X.A.handled=some (.ref ex))(h:fU ex H):jm X.A b:=λgY z q=>by obtain⟨cls,dx,e⟩:=h;rw[hx]at z;cases z;rw[q,f.1]at e;cases e
def oS(K:a6)(ex a:Addr):It:=⟨(ka K a).go,(ka K a).dU,λi H=>(ka K a).stop i H/\fU ex H⟩
structure wD(ex:Addr)(P:a8)(w:World)(K:a6)(tg:Expr)(J:It)(fp:List Addr)(it:Addr)(tn:Nat->Heap->Prop):Prop where
 mem:it∈fp
 obj:∀i h,tn i h->∀b∈fp,∃o,h.get? b=some o/\∀v,o.data≠ .cell v
 keep:∀i h h',tn i h->(∀b∈fp,∀o,h.get? b=some o->h'.get? b=some o)->tn i h'
 item:∀(X:Cx),X.prog=P->X.w=w->X.K=K->X.A.handled=some (.ref ex)->∀(i:Nat)(af:List (Addr×Obj))(s:a7)(O:St)(H:Hp)(E:Value->a7->Prop),Inv X af O H s->(∀b∈fp,dg X af H b)->tn i s.heap->J.go i H->wpAny (model P w) X.A (pyNext (.ref it)) (λr s1=>∃u,r=some u/\wpAny (model P w) X.A (letOwnedTupleGo tg (.ref it) u) (λ_ s2=>∃x H',Inv X af O H' s2/\RelV x u/\J.dU i H x H'/\tn (i+1) s2.heap/\∀b∈fp,H' b=none) E s1) E s
 done:∀(X:Cx),X.prog=P->X.w=w->X.K=K->X.A.handled=some (.ref ex)->∀(i:Nat)(af:List (Addr×Obj))(s:a7)(O:St)(H:Hp)(E:Value->a7->Prop),Inv X af O H s->(∀b∈fp,dg X af H b)->tn i s.heap->J.stop i H->wpAny (model P w) X.A (pyNext (.ref it)) (λr s1=>r=none/\Inv X af O H s1) E s
 self:∀(A:aa)(i:Nat)(s:a7)(Q:Value->a7->Prop)(E:Value->a7->Prop),tn i s.heap->Q (.ref it) s->wpAny (model P w) A (pyIter (.ref it)) Q E s
def Lr(ex:Addr)(X:Cx)(af:List (Addr×Obj))(O:St)(tg:Expr)(R:It->Hp->Prop)(jM:Value)(s2:a7):Prop:=∃(it:Addr)(fp:List Addr)(tn:Nat->Heap->Prop)(J:It)(H':Hp),jM= .ref it/\Inv X af O H' s2/\wD ex X.prog X.w X.K tg J fp it tn/\tn 0 s2.heap/\(∀b∈fp,dg X af H' b)/\R J H'
def oP(ex:Addr)(X:Cx)(tg iter:Expr)(wi:TI):Prop:=∀(af:List (Addr×Obj))(s:a7)(O:St)(H:Hp)(R:It->Hp->Prop),Inv X af O H s->wi O H R->wpAny (model X.prog X.w) X.A (eval iter X.env) (λv s1=>wpAny (model X.prog X.w) X.A (pyIter v) (Lr ex X af O tg R) X.xe s1) X.xe s
theorem CI{P:a8}{w:World}{K:a6}{tg:Expr}(ex a it:Addr):wD ex P w K tg (oS K ex a) [it] it (λi h=>h.IsListIter it a i) where
 mem:=by simp
 obj:=λi h st b hb=>by
  have e:b=it:=by simpa using hb
  subst e;obtain⟨o,e,c,d⟩:=st;exact⟨o,e,λv z=>by rw[d]at z;cases z⟩
 keep:=λi h h' st k=>st.at λo e=>k it (by simp) o e
 item:=by intro X hP hw hK hc i af s O H E I hf st hg;subst hP hw hK;obtain⟨xs,x,hq,hx⟩:=hg;obtain⟨its,rv,p,hz⟩:=I.list hq;obtain⟨u,hu,ru⟩:=rv.get hx;obtain⟨f0,f1,f2,f3,f4,f5⟩:=hf it (by simp);refine wpAny_pyNext_list_item st p.isList (x:=u) (by simpa using hu) λh' dE sb=>?_;have I1:Inv X af O H {s with heap:=h'}:=I.turned (t':=s.toks) (λb o hb e=>(sb.2 b hb).trans e) f0 f1 f3 f4 f5;obtain⟨o,e,c,d⟩:=id dE;exact⟨u,Z,oy (s:={s with heap:=h'}) e c d aj ⟨x,H,I1,ru,⟨Z,λys hy=>by rw[I.uG hy hq];exact hx⟩,dE,λb hb=>(hf b hb).1⟩⟩
 done:=by intro X hP hw hK hc i af s O H E I hf st hg;subst hP hw hK;obtain⟨⟨xs,hq,hx⟩,hd⟩:=hg;obtain⟨its,rv,p,hz⟩:=I.list hq;obtain⟨f0,f1,f2,f3,f4,f5⟩:=hf it (by simp);have hl:=rv.length;exact GP (I.vn hc hd) ((hf it (by simp)).oa hc hd) st p.isList (by simp;omega) λh' eb=>⟨Z,I.turned (t':=s.toks) (λb o hb e=>eb b o hb e) f0 f1 f3 f4 f5⟩
 self:=λ_ _ _ _ _ st h=>wpAny_pyIter_listiter st h
def wL(K:a6)(ex l1 l2:Addr):It:=⟨(iH K false false l1 l2).go,(iH K false false l1 l2).dU,λi H=>(iH K false false l1 l2).stop i H/\fU ex H⟩
section
variable {X:Cx} {tg:Expr} {ex:Addr}
inductive MG(K:a6)(ex:Addr)(R:It->Hp->Prop)(x:V)(H1:Hp):Prop |mk (a:_)(h0:x= .ref a)(h1:(∃xs,aF K H1 a xs))(h2:R (oS K ex a) H1)
def Ai(K:a6)(ex:Addr)(tl:TE):TI:=λO H R=>tl O H λx H1=>MG K ex R x H1
theorem Er{l:Expr}{tl:TE}(hl:PE X l tl):oP ex X tg l (Ai X.K ex tl):=by
 intro af s O H R I h;refine az (hl af s O H _ I h) λv s1 ⟨x,H1,I1,r1,q1⟩=>?_;obtain⟨a,e,⟨xs,hq⟩,q⟩:=q1;subst e;cases r1;obtain⟨its,rv,p,hz⟩:=I1.list hq;refine oY p.isList ?_;refine⟨s1.heap.objs.size,[s1.heap.objs.size],_,_,H1,Z,I1.kept (t':=s1.toks) λb o e=>aX _ e,CI ex a _,⟨_,bS _ Z,Z,Z⟩,λb hb=>?_,q⟩;have e:b=s1.heap.objs.size:=by simpa using hb
 subst e;exact I1.jh (aU _) (I1.aD.fresh (aU _))
theorem Ei{iter:Expr}{body:List Stmt}{wi:TI}{g:TG}{tb:TS}{pos:Pos}(hp:PassesOwn (model X.prog X.w) X.A X.env X.xe)(hc:X.A.handled=some (.ref ex))(hi:oP ex X tg iter wi)(hg:PG X tg g)(hb:cw X body tb) (hs:∀x,foldedSetIterable iter X.env x=pure x:=by intro _;rfl):PS X (.For tg iter body [] pos) (xP wi g tb):=by
 intro af s O H D I h;refine wpAny_For (az (hi af s O H _ I h) λv s1 h1=>az h1 λjM s2 h2=>?_) hs;obtain⟨it,fp,tn,J,H2,e,I2,T,gc,f2,W,⟨m0,w0⟩,turn⟩:=h2;subst e;have dv:∀{H':Hp},(∀b∈fp,H' b=none)->∀b∈fp,dg X af H' b:=λhn b hb=>⟨hn b hb,(f2 b hb).2⟩;refine codeAny_forLoop_any (λn s'=>∃i σ' H',Inv X af σ' H' s'/\tn i s'.heap/\(∀b∈fp,H' b=none)/\W i n σ' H') ?_ m0 ⟨0,O,H2,I2,gc,λb hb=>(f2 b hb).1,w0⟩;rintro n s3 ⟨i,σ3,H3,I3,mS,oA,w3⟩;rcases turn i n σ3 H3 w3 with⟨stop,qn⟩|⟨go,N,hN,step⟩
 ·refine hR hp (az (T.done X Z Z Z hc i af s3 σ3 H3 X.xe I3 (dv oA) mS stop) λr s4 ⟨hr,I4⟩=>?_)
  subst hr;exact lC ⟨σ3,H3,I4,qn⟩
 ·refine hR hp (az (T.item X Z Z Z hc i af s3 σ3 H3 X.xe I3 (dv oA) mS go) λr s4 ⟨u,hr,h4⟩=>?_)
  subst hr;refine hR hp (az h4 λ_ s5 ⟨x,H5,I5,r5,y5,eD,gn⟩=>?_);have wO:=I5.pinned (dv gn) (T.obj _ _ eD);refine hR hp (az (hg _ s5 σ3 H5 x u _ wO r5 (step x H5 y5)) λ_ s6 ⟨σ6,H6,I6,q6⟩=>?_);refine hR hp (az (hb _ s6 σ6 H6 _ I6 q6) λf s7 q7=>?_);have again:∀{σ7:St}{H7:Hp},Inv X (af++jF fp s5.heap) σ7 H7 s7->N σ7 H7->∃m,m<n/\∃i σ' H',Inv X af σ' H' s7/\tn i s7.heap/\(∀b∈fp,H' b=none)/\W i m σ' H':=λ{σ7 H7} I7 n7=>by obtain⟨m',hm,w7⟩:=hN σ7 H7 n7;refine⟨m',hm,i+1,σ7,H7,I7.iM,T.keep _ _ _ eD λb hb o e=>(I7.pin (b,o) (cZ _ (cZ _ (ij hb e)))).1,λb hb=>?_,w7⟩;obtain⟨o,e,d⟩:=T.obj _ _ eD b hb;exact(I7.pin (b,o) (cZ _ (cZ _ (ij hb e)))).2.1
  cases f with |next=>obtain⟨σ7,H7,I7,n7⟩:=q7;exact again I7 n7 |cont=>obtain⟨σ7,H7,I7,n7⟩:=q7;exact again I7 n7 |brk=>obtain⟨σ7,H7,I7,q7⟩:=q7;exact⟨σ7,H7,I7.iM,q7⟩ |ret v=>obtain⟨x7,σ7,H7,I7,r7,q7⟩:=q7;exact⟨x7,σ7,H7,I7.iM,r7,q7⟩
end
theorem JF{K:a6}{ex a:Addr}{xs:List V}{g:TG}{tb:TS}{D:Ends}{O:St}{H:Hp}(Pv:Nat->St->Hp->Prop)(h0:Pv 0 O H)(hl:∀i O H,i<=xs.length->Pv i O H->aF K H a xs) (hs:∀i x O H,xs[i]? =some x->Pv i O H->g x O H λσ2 H2=>tb {D with nx:=Pv (i+1),ct:=Pv (i+1),bk:=D.nx} σ2 H2)(hx:∀O H,Pv xs.length O H->fU ex H)(hd:∀O H,Pv xs.length O H->D.nx O H): ∃W:Nat->Nat->St->Hp->Prop,(∃m,W 0 m O H)/\∀i m O H,W i m O H->((oS K ex a).stop i H/\D.nx O H)\/((oS K ex a).go i H/\∃N:St->Hp->Prop,(∀σ' H',N σ' H'->∃m',m'<m/\W (i+1) m' σ' H')/\∀x H',(oS K ex a).dU i H x H'->g x O H' λσ2 H2=>tb {D with nx:=N,ct:=N,bk:=D.nx} σ2 H2):=by
 refine⟨λi m O H=>m=xs.length-i/\i<=xs.length/\Pv i O H,⟨xs.length,by simp,dQ _,h0⟩,?_⟩;rintro i m O H ⟨rfl,hi,p⟩;have q:=hl i O H hi p;by_cases bq:i<xs.length
 ·refine .inr ⟨⟨xs,xs[i],q,by simp[bq]⟩,Pv (i+1),λσ' H' p'=>⟨xs.length-(i+1),aQ,Z,bq,p'⟩,λx H' y=>?_⟩
  obtain⟨e,y⟩:=y;subst e;exact hs i x O _ (y xs q) p
 ·have e:i=xs.length:=by omega
  subst e;exact .inl ⟨⟨⟨xs,q,aU _⟩,hx O H p⟩,hd O H p⟩
theorem CC{P:a8}{w:World}{K:a6}{elts:List Expr}{kt:Nat}{pos:Pos}{ex z TI TO i1 i2 l1 l2:Addr}(D:ZipApart z TI TO i1 i2 l1 l2): wD ex P w K (.Tuple elts kt pos) (wL K ex l1 l2) [z,TI,TO,i1,i2] z (λi h=>Zp false false h z TI TO i1 i2 l1 l2 .none i) where
 mem:=by simp
 obj:=λi h st b hb=>by
  obtain⟨hz,cX,⟨a,c,de⟩,h1,h2⟩:=st;simp only[bR,dh,kg]at hb;rcases hb with rfl|rfl|rfl|rfl|rfl
  ·exact⟨_,hz,λv e=>by cases e⟩
  ·exact⟨_,cX,λv e=>by cases e⟩
  ·exact⟨_,de,λv e=>by cases e⟩
  ·obtain⟨o,e,_,n⟩:=h1.ob;exact⟨o,e,n⟩
  ·obtain⟨o,e,_,n⟩:=h2.ob;exact⟨o,e,n⟩
 keep:=λi h h' st k=>by obtain⟨hz,cX,⟨a,c,de⟩,h1,h2⟩:=st;exact⟨k z (by simp) _ hz,k TI (by simp) _ cX,⟨a,c,k TO (by simp) _ de⟩,h1.to λo e=>k i1 (by simp) o e,h2.to λo e=>k i2 (by simp) o e⟩
 item:=by
  intro X hP hw hK hc i af s O H E I hf st hg;subst hP hw hK;obtain⟨xs,ys,x,y,q1,q2,e1,e2⟩:=hg;obtain⟨m4,r1,p1⟩:=q1.get I;obtain⟨gJ,r2,p2⟩:=q2.get I;obtain⟨u1,nP,gF⟩:=r1.get e1;obtain⟨u2,uT,kr⟩:=r2.get e2;have hT:s.TypeIs (.ref z) "zip":=⟨_,st.zz,Z⟩;unfold pyNext;refine ai (mC (hV (name:=Str.ofString "__next__") hT lD (hU lD hT xh (xA D st p1 p2 (x:=u1) (y:=u2) (by simpa using nP) (by simpa using uT) λg zg tg kp=>aG ?_) (xj _))));refine⟨_,Z,?_⟩;refine wpAny_letOwnedTupleGo_zip zg.zz λg' sf sb=>?_;have hs:=sb.extBut;have pj:z<s.heap.objs.size:=aV st.zz;have nw:Nw H (upd H s.heap.objs.size (.tup [x,y])) s.heap.objs.size (.tup [x,y]):=.of (I.aD.fresh (aU _));have I1:Inv X af O (upd H s.heap.objs.size (.tup [x,y])) {s with heap:=s.heap.push {cls:=.type "tuple",data:=.seq #[u1,u2]}}:=I.laid (t':=s.toks) (λb ob q=>aX _ q) (aU _) ⟨by show 2<=sizeLine;decide,[u1,u2],.cons gF (.cons kr .nil),⟨_,bS _ Z,Z,_,Z⟩⟩;have nL:∀b∈[z,TI,TO,i1,i2],b<s.heap.objs.size:=λb hb=>by
   simp only[bR,dh,kg]at hb;obtain⟨hz,cX,⟨a,c,de⟩,h1,h2⟩:=st;rcases hb with rfl|rfl|rfl|rfl|rfl
   ·exact aV hz
   ·exact aV cX
   ·exact aV de
   ·obtain⟨o,e,_⟩:=h1.ob;exact aV e
   ·obtain⟨o,e,_⟩:=h2.ob;exact aV e
  have hn:∀b∈[z,TI,TO,i1,i2],upd H s.heap.objs.size (.tup [x,y]) b=none:=λb hb=>by rw[aI (bD (nL b hb))];exact(hf b hb).1
  have I2:Inv X af O (upd H s.heap.objs.size (.tup [x,y])) {s with heap:=g'}:=Inv.km (s:={s with heap:=s.heap.push {cls:=.type "tuple",data:=.seq #[u1,u2]}}) (t':=s.toks) (fp:=[z,TI,TO,i1,i2]) I1 (λb o hb e=>by
   have e:(s.heap.push {cls:=.type "tuple",data:=.seq #[u1,u2]}).get? b=some o:=e;have nz:b≠z:=λq=>hb (by simp[q]);rcases xx e with⟨oo,rfl⟩|e'
   ·subst oo
    exact hs _ _ nz tg
   ·exact hs _ _ nz (kp b o nz (λq=>hb (by simp[q])) (λq=>hb (by simp[q])) (λq=>hb (by simp[q])) e')) (λb hb=>by obtain⟨f0,f1,f2,f3,f4,f5⟩:=hf b hb;exact⟨hn b hb,f1,f2,f3,f4,f5⟩);refine⟨.ref s.heap.objs.size,_,I2,Z,⟨s.heap.objs.size,x,y,Z,λzs hz=>?_,λzs hz=>?_,nw⟩,?_,hn⟩
  ·rw[bH.inj I hz q1];exact e1
  ·rw[bH.inj I hz q2];exact e2
  ·obtain⟨_,cX,⟨a,c,de⟩,h1,h2⟩:=zg
   exact⟨sf,hs _ _ D.TIz cX,⟨a,c,hs _ _ D.TOz de⟩,h1.to λo e=>hs _ o D.i1z e,h2.to λo e=>hs _ o D.i2z e⟩
 done:=by intro X hP hw hK hc i af s O H E I hf st hg;subst hP hw hK;obtain⟨⟨xs,ys,q1,q2,jc⟩,hd⟩:=hg;obtain⟨m4,r1,p1⟩:=q1.get I;obtain⟨gJ,r2,p2⟩:=q2.get I;have hT:s.TypeIs (.ref z) "zip":=⟨_,st.zz,Z⟩;have l1:=r1.length;have l2:=r2.length;unfold pyNext;refine ai (mC (hV (name:=Str.ofString "__next__") hT lD (hU lD hT xh (Cg (I.vn hc hd) ((hf z (by simp)).oa hc hd) ((hf TO (by simp)).oa hc hd) ((hf i1 (by simp)).oa hc hd) ((hf i2 (by simp)).oa hc hd) D st p1 p2 (jc.imp (λh=>by simp;omega) λh=>by simp;omega) λg e kp he=>?_) (xj _))));obtain⟨o,ho,kT⟩:=he;refine ai (wX (T:="StopIteration") (b:=true) ⟨o,ho,kT⟩ wZ (aG ⟨Z,?_⟩));exact I.km (t':=s.toks) (fp:=[z,TI,TO,i1,i2]) (λb o hb e=>kp b o (λq=>hb (by simp[q])) (λq=>hb (by simp[q])) (λq=>hb (by simp[q])) (λq=>hb (by simp[q])) e) hf
 self:=λ_ _ _ _ _ st h=>wV st.zz h
inductive MB(K:a6)(ex:Addr)(R:It->Hp->Prop)(vs:List V)(H1:Hp):Prop |mk (l1:_)(l2:_)(h0:vs=[.ref l1,.ref l2])(h1:(∃xs,bH false K H1 l1 xs))(h2:(∃ys,bH false K H1 l2 ys))(h3:R (wL K ex l1 l2) H1)
def Hs(K:a6)(ex:Addr)(ta:TA):TI:=λO H R=>ta O H λvs H1=>MB K ex R vs H1
theorem En(K:a6){X:Cx}(hK:X.K=K)(ex:Addr){elts:List Expr}{kt:Nat}{jy:Pos}{a b:Expr}{ta:TA}{p pos:Pos}(hg:Gl X "zip")(hm:X.mg "zip"=none)(ha:PA X [a,b] ta)(hs:starEach [a,b] X.env=[(false,eval a X.env),(false,eval b X.env)]:=by rfl)(gL:starEach [b] X.env=[(false,eval b X.env)]:=by rfl): oP ex X (.Tuple elts kt jy) (.Call (.Name "zip" p) [a,b] [] pos) (Hs K ex ta):=by
 subst hK;intro af s O H R I h;refine Call_ (kL I hg hm PyProof.Rows.boot_zip (rH (az (ha pos af s O H _ I h) λus s1 ⟨vs,H1,I1,r1,q1⟩=>?_) (by rw[hs,gL]) (by rw[gL];rfl)));obtain⟨l1,l2,e,⟨xs,h1⟩,⟨ys,h2⟩,q⟩:=q1;subst e;obtain⟨u1,u2,rfl,gF,kr⟩:=vals2 r1;cases(show u1=Value.ref l1 from gF);cases(show u2=Value.ref l2 from kr);obtain⟨m4,v1,p1⟩:=h1.get I1;obtain⟨gJ,v2,p2⟩:=h2.get I1;have a1:l1<s1.heap.objs.size:=by obtain⟨o,e,_⟩:=p1;exact aV e
 have a2:l2<s1.heap.objs.size:=by obtain⟨o,e,_⟩:=p2;exact aV e
 refine xB p1 p2 λg zg kp=>wV zg.zz ?_;refine⟨_,_,_,_,H1,Z,I1.kept (t':=s1.toks) kp,CC (zipApart_new a1 a2),zg,λc hc=>?_,q⟩;have hle:s1.heap.objs.size<=c:=by simp only[bR,dh,kg]at hc;rcases hc with rfl|rfl|rfl|rfl|rfl<;>first|exact aU _|exact C5 _ _
 exact I1.jh hle (I1.aD.fresh hle)
section
variable {X:Cx} {ex:Addr} {pos:Pos}
theorem Ey{es:List Expr}{k:Nat}{t:gq}{n:Nat}(hc:X.A.handled=some (.ref ex))(h:lq X es t) (hn:(assignEach es X.env).length=n:=by rfl)(cJ:(assignEach es X.env).findIdx? (·.1)=none:=by rfl):PG X (.Tuple es k pos) (λx O H Q=>fU ex H/\kZ X.K n t x O H Q):=by intro af s O H v u Q I r hw;obtain⟨hd,a,xs,e1,hq,hl,hw⟩:=hw;subst e1;cases r;obtain⟨its,rv,ht,hz⟩:=I.tuple hq;refine L8 (I.vn hc hd) ht (by simp[hn,<-hl,rv.length]) cJ λh' hx=>?_;have I1:Inv X af O H {s with heap:=h'}:=I.kept (t':=s.toks) λb o e=>hx b o (bD (aV e)) e;exact h af _ O H xs _ Q I1 (by simpa using rv) hw
theorem ER{N:List Str}{js:List (Option Nat)}{elt tg iter:Expr}{ifs:List Expr}{scope:Scope}{pos:Pos}{wi:TI}{g:TG}{tt:TT}{te:TE}(hc:X.A.handled=some (.ref ex))(hN:oM X N js scope=true)(hS:jU X scope=true) (hi:oP ex X tg iter wi)(hg:∀cl s H fp af,PG (bE X N scope cl s H fp af) tg g)(ht:∀cl s H fp af,qV (bE X N scope cl s H fp af) ifs tt)(he:∀cl s H fp af,PE (bE X N scope cl s H fp af) elt te) (hs:∀x,foldedSetIterable iter X.env x=pure x:=by intro _;rfl):PE X (.ListComp elt [⟨tg,iter,ifs,0⟩] scope pos) (sD js wi g tt te):=by
 intro af s O H Q I h;have gQ:=hS;unfold jU at gQ;rw[cI,cI]at gQ;obtain⟨⟨k1,k2⟩,k3⟩:=gQ;have fF:scope.kind= .function:=cx.mp k1;have jR:∀x∈scope.names,x.2= .free->∃c,X.env.cells.lookup x.1=some c:=λx hx e=>by have:=du.mp k3 x hx;rw[e]at this;exact I.ok.has x.1 (.inl (cx.mp this))
 have iz:∀x∈scope.names,x.2≠ .cell:=λx hx e=>by have:=du.mp k3 x hx;rw[e]at this;exact dS this
 have nV:∀x∈scope.names,x.2= .local->scope.names.lookup x.1=some .local:=λx hx e=>by have:=du.mp k3 x hx;rw[e]at this;exact cx.mp this
 obtain⟨cl,oh,c1,c2⟩:=w8 jR;rw[eval_ListComp];refine BM (use:=none) Z hs oh fF nV (az (hi af s O H _ I h) λv s1 h1=>az h1 λjM s2 h2=>?_);obtain⟨it,fp,tn,J,H2,e,I2,T,gc,f2,h2⟩:=h2;subst e;have hD:H2 s2.heap.objs.size=none:=I2.aD.fresh (aU _);obtain⟨W,⟨m0,w0⟩,turn⟩:=h2 _ _ (Nw.of hD);refine fq (BL iz (by intro y hy;simp at hy) (λh₁ jO jN=>?_) fF);have gU:∀b∈fp,b<s2.heap.objs.size:=λb hb=>by obtain⟨o,e,_⟩:=T.obj _ _ gc b hb;exact aV e
 have I3:Inv X af O (upd H2 s2.heap.objs.size (.lst [])) {s2 with heap:=s2.heap.push {cls:=.type "list",dict:=none,data:=.seq ([]:List Value).toArray}}:=I2.uF (its:=[]) (t':=s2.toks) .nil (dQ _);generalize jS:s2.heap.push {cls:=.type "list",dict:=none,data:=.seq ([]:List Value).toArray}=h3 at I3 jO jN;have jA:h3.objs.size=s2.heap.objs.size+1:=by rw[<-jS,iK]
 have nM:∀b o,s2.heap.get? b=some o->h3.get? b=some o:=λb o e=>by rw[<-jS];exact aX _ e
 have f3:∀b∈fp,dg X af (upd H2 s2.heap.objs.size (.lst [])) b:=λb hb=>⟨by rw[aI (bD (gU b hb))];exact(f2 b hb).1,(f2 b hb).2⟩;have jL:∀b o,h3.get? b=some o->h₁.get? b=some o:=λb o e=>(jN.2 b (bD (aV e))).trans (aX _ e);have I4:Inv (bE X N scope cl {s2 with heap:=h3} (upd H2 s2.heap.objs.size (.lst [])) fp af) [] (stC js O) (upd H2 s2.heap.objs.size (.lst [])) {s2 with heap:=h₁,toks:=s2.toks+([]:List (Str×Value)).length}:=I3.comp (s:={s2 with heap:=h3}) hN hS c1 c2 f3 (λb hb=>by show b<h3.objs.size;rw[jA];exact p5 (gU b hb)) (by simpa using jO) jL;have jB:tn 0 h₁:=T.keep _ _ _ gc λb _ o e=>jL b o (nM b o e);have loop:codeAny (model X.prog X.w) X.A (.compLoop (.ListComp elt [⟨tg,iter,ifs,0⟩] scope pos) 0 (.ref it) (.ref s2.heap.objs.size) (compEnvC scope cl h3.objs.size X.env)) (compPost (model X.prog X.w) X.A X.xe none (EP X af O Q) (.ref s2.heap.objs.size) h3.objs.size) {s2 with heap:=h₁,toks:=s2.toks+([]:List (Str×Value)).length}:=by
  refine vZ (λn s'=>∃i σ' H',Inv (bE X N scope cl {s2 with heap:=h3} (upd H2 s2.heap.objs.size (.lst [])) fp af) [] σ' H' s'/\tn i s'.heap/\(∀b∈fp,H' b=none)/\W i n σ' H') ?_ m0 ⟨0,_,_,I4,jB,λb hb=>(f3 b hb).1,w0⟩;rintro n s5 ⟨i,σ5,H5,I5,eD,gn,w5⟩;have dv:∀{H':Hp},(∀b∈fp,H' b=none)->∀b∈fp,dg (bE X N scope cl {s2 with heap:=h3} (upd H2 s2.heap.objs.size (.lst [])) fp af) [] H' b:=λ{H'} hn b hb=>by
   obtain⟨_,q1,q2,q3,q4,q5⟩:=f3 b hb;refine⟨hn b hb,λz=>?_,I4.ok.gp b hb,.inl hb,λx c e=>q4 x c (c1 x c e),λp hp=>q5 p (by simpa[bE]using hp)⟩;have bq:b<h3.objs.size:=by rw[jA];exact p5 (gU b hb)
   exact bD bq z
  rcases turn i n σ5 H5 w5 with⟨stop,qn⟩|⟨go,step⟩
  ·refine az (T.done (bE X N scope cl {s2 with heap:=h3} (upd H2 s2.heap.objs.size (.lst [])) fp af) rfl rfl rfl hc i [] s5 σ5 H5 _ I5 (dv gn) eD stop) λr s6 ⟨hr,I6⟩=>?_
   subst hr;obtain⟨m,hm,_⟩:=I6.loc;refine⟨m,hm,λh7 j8=>?_⟩;have u0:Un (cf X.stack) fp (upd H2 s2.heap.objs.size (.lst [])) H5 h3 s6.heap:=I6.ag;have ne:∀b o,h3.get? b=some o->b≠h3.objs.size:=λb o e=>bD (aV e);have u:Un (cf X.stack) fp (upd H2 s2.heap.objs.size (.lst [])) H5 h3 h7:=⟨λb o e n hb hx=>(j8.2 b (ne b o e)).trans (u0.keep b o e n hb hx),λb o e n hb hx=>let⟨sl,q⟩:=u0.slot b o e n hb hx;⟨sl,(j8.2 b (ne b o e)).trans q⟩,u0.free,λb o e hx=>let⟨o',q⟩:=u0.there b o e hx;⟨o',(j8.2 b (ne b o e)).trans q⟩,u0.eV,u0.eL,u0.eW⟩;have I7:Inv X af O H5 {s6 with heap:=h7}:=I3.lg (s':={s6 with heap:=h7}) (ch:=fp) I6.os u (I6.aD.but I6.free j8) I6.bare λb hb=>⟨(f3 b hb).2.2.2.1,(f3 b hb).2.1,(f3 b hb).2.2.2.2.1,(f3 b hb).2.2.2.2.2⟩;exact⟨.ref s2.heap.objs.size,H5,I7,Z,qn⟩
  ·refine az (T.item (bE X N scope cl {s2 with heap:=h3} (upd H2 s2.heap.objs.size (.lst [])) fp af) rfl rfl rfl hc i [] s5 σ5 H5 _ I5 (dv gn) eD go) λr s6 ⟨u,hr,h6⟩=>?_
   subst hr;refine az h6 λ_ s7 ⟨x,H7,I7,r7,y7,gD,oz⟩=>?_;have oV:=I7.pinned (dv oz) (T.obj _ _ gD);refine az (hg _ _ _ _ _ _ s7 σ5 H7 x u _ oV r7 (step x H7 y7)) λ_ s8 ⟨σ8,H8,I8,q8⟩=>?_;refine az (ht _ _ _ _ _ _ s8 σ8 H8 _ I8 q8) λok s9 ⟨H9,I9,q9⟩=>?_;have again:∀{s':a7}{σ7:St}{H7:Hp},Inv (bE X N scope cl {s2 with heap:=h3} (upd H2 s2.heap.objs.size (.lst [])) fp af) ([]++jF fp s7.heap) σ7 H7 s'->(∃m',m'<n/\W (i+1) m' σ7 H7)->∃m,m<n/\∃i σ' H',Inv (bE X N scope cl {s2 with heap:=h3} (upd H2 s2.heap.objs.size (.lst [])) fp af) [] σ' H' s'/\tn i s'.heap/\(∀b∈fp,H' b=none)/\W i m σ' H':=λ{s' σ7 H7} J7 n7=>by obtain⟨m',hm,w7⟩:=n7;refine⟨m',hm,i+1,σ7,H7,J7.iM,T.keep _ _ _ gD λb hb o e=>(J7.pin (b,o) (cZ _ (cZ _ (ij hb e)))).1,λb hb=>?_,w7⟩;obtain⟨o,e,d⟩:=T.obj _ _ gD b hb;exact(J7.pin (b,o) (cZ _ (cZ _ (ij hb e)))).2.1
   cases ok with |false=>rw[aY dS]at q9⊢;exact again I9 q9 |true=>rw[aZ rfl]at q9⊢;refine az (he _ _ _ _ _ _ s9 σ8 H9 _ I9 q9) λyv fJ ⟨y,fV,hJ,nj,ys,j6,hz,mM⟩=>?_;refine az (qr _ fJ σ8 fV (.ref s2.heap.objs.size) [y] (.ref s2.heap.objs.size) [yv] (λ_ eu=>∃m',m'<n/\W (i+1) m' σ8 eu) hJ Z (.cons nj .nil) ⟨_,ys,y,Z,Z,j6,hz,mM⟩) λ_ dj ⟨v11,eu,oW,nh,nk⟩=>?_;exact again oW nk
 exact BN loop (T.self _ 0 _ _ _ jB loop)
end
section
variable {K:a6} {H:Hp}
theorem Kq{ex l1 l2:Addr}{xs ys:List V}{ds:List a9}{te:TE}{Q:VK}{D:Addr}{H0:Hp}{n:Nat}(rest:St)(jP:n=2)(h1:bH false K H l1 xs)(h2:bH false K H l2 ys)(nw:Nw H H0 D (.lst []))(Au:fU ex H) (hl:min xs.length ys.length=ds.length)(hz:ds.length<=1000)(hn:cF ds=true) (hs:∀(i:Nat)(x y:V)(d:a9)(H2:Hp)(Q':VK),xs[i]? =some x->ys[i]? =some y->ds[i]? =some d->au H H2->(∀z H3,au H2 H3->RD K H3 z d->Q' z H3)->te (some x::some y::rest) H2 Q') (hq:∀H' zs,au H H'->H' D=some (.lst zs)->aw K H' zs ds->Q (.ref D) H'):fW (wL K ex l1 l2) (λx O H Q=>fU ex H/\kZ K n (l4 (dm 0) (l4 (dm 1) qD)) x O H Q) fz te Q D (none::none::rest) H0:=by
 subst jP;have hD:=nw.no;refine l9 ds.length (λi O H2=>au H H2/\(∃zs,H2 D=some (.lst zs)/\aw K H2 zs (ds.take i))/\∃v v',O=v::v'::rest) ?_ ?_ ?_
 ·exact⟨nw.same,⟨[],nw.at',bW⟩,none,none,Z⟩
 ·rintro i O H2 hi ⟨s2,⟨zs,d2,r2⟩,v,v',rfl⟩
  have hx:i<xs.length:=by omega
  have hy:i<ys.length:=by omega
  have ex:=bC hx;have ey:=bC hy;have eb:=bC hi;refine⟨⟨xs,ys,_,_,h1.go s2,h2.go s2,ex,ey⟩,λy' H3 kO=>?_⟩;obtain⟨T,x0,y0,rfl,k1,k2,n3⟩:=kO;have e1:=k1 _ (h1.go s2);have e2:=k2 _ (h2.go s2);rw[ex]at e1;rw[ey]at e2;cases e1;cases e2;refine⟨Au.go (s2.trans n3.same),T,_,Z,aL.of n3.at',Z,_,_,Z,_,_,Z,Z,?_⟩;refine yes (bN ?_);refine hs i _ _ _ _ _ ex ey eb (s2.trans n3.same) λz H4 s4 r4=>?_;have kq:=n3.same.trans s4;have d4:=kq _ _ d2;have len:=r2.length;rw[cT]at len;refine⟨zs,d4,?_,ds.length-(i+1),aQ,Z,aQ,λb o e=>?_,⟨zs++[z],bw,?_⟩,_,_,Z⟩
  ·have:(1000:Nat)<sizeLine:=by decide
   omega
  ·rw[aI (cz e hD)];exact kq b o (s2 b o e)
  ·have t:dN H4 (upd H4 D (.lst (zs++[z]))):=.iL d4
   rw[iI,eb];have n1:cF (ds.take i)=true:=eH.mpr λd hd=>eH.mp hn d (xr hd);exact(aw.t t _ n1 (aw.mono kq _ r2)).append (bJ (RD.t t _ (eH.mp hn _ (mK hi)) r4) bW)
 ·rintro O H2 ⟨s2,⟨zs,d2,r2⟩,v,v',rfl⟩
  refine⟨⟨⟨xs,ys,h1.go s2,h2.go s2,aQ⟩,Au.go s2⟩,hq H2 zs s2 d2 ?_⟩;rw[rL]at r2;exact r2
end
theorem ED(K:a6){X:Cx}{ex:Addr}(h:X.K=K){es:List Expr}{k:Nat}{t:gq}{n:Nat}{pos:Pos}(hc:X.A.handled=some (.ref ex))(hg:lq X es t)(hn:(assignEach es X.env).length=n:=by rfl)(cJ:(assignEach es X.env).findIdx? (·.1)=none:=by rfl):PG X (.Tuple es k pos) (λx O H Q=>fU ex H/\kZ K n t x O H Q):=by subst h;exact Ey hc hg hn cJ
theorem Eu(K:a6){X:Cx}{ex:Addr}{tg:Expr}(h:X.K=K){l:Expr}{tl:TE}(hl:PE X l tl):oP ex X tg l (Ai K ex tl):=by subst h;exact Er hl
section
variable {X:Cx}
end
theorem Jn{K:a6}{mg:aM}{x z:Str}{t:Tok}{h:Heap}(X:K.In h)(G:h.Ns mainGlobals mg)(a:PySem.W.nsIn K mainGlobals x=some (some (.str z t))):GV mg x (.str z):=⟨_,oZ X G a,t,Z⟩
section
variable {P:a8}{w:World}{K:a6}{mg:aM}{ag:Heap}{N:List Str}{qual:Str}{scope:Scope}{f:Addr}{cd:Value}{A:aa}{outer:List Env}{s:a7}{H:Hp}{E E0:XK}
end
end L2
namespace L2
open PySem PySem.Spec PyProof.Rows
open Builtin Builtin.ObjectAttr
section
variable {prog:a8}{w:World}{A:aa}{E:Value->a7->Prop}{s:a7}{K:a6}{x C dx:Addr}{ox:Obj}{fs:Array Value}{name:Str}{v:Value}{Q:Unit->a7->Prop}{mA:aM}{ks:List Str}
end
section
variable {X:Cx}{o e value:Expr}{f:Str}{pos pos' jy:Pos}{ta tv:TE}
end
end L2
namespace L2
open PySem PySem.Spec PyProof.Rows
def qZ(P:a8)(w:World)(K:a6)(mg:aM)(ag:Heap)(C:Addr)(m:Str)(k:Nat)(sp:Sp):Prop:=∃f fd ps,cO P w K mg ag (fG P w) k f fd ps sp/\Meth K C m f/\Binds K fd ps []
section
variable {P:a8}{w:World}{K:a6}{mg:aM}{ag:Heap}
theorem fk.FT{m qual:Str}{st:Stmt}{f:Addr}{fd:FuncData}{N ps:List Str}{k:Nat}{sp:Sp}(F:fk K m qual st f fd)(S:bp N ps (aO st))(len:∀vs H Q E,sp vs H Q E->vs.length=ps.length) (cG:∀(ao:Value)(A:aa)(outer:List Env)(s:a7)(H:Hp)(vs:List V)(Q:VK)(E:XK),bo k (A.deeper (envOfC qual (aO st) s.heap.objs.size f ao))->sp vs H Q E->∃t,cw (dA (fG P w) P w K mg ag N qual (aO st) f ao A outer s H E) (cB st) t/\t {nx:=λ_ H'=>Q .bj H',rt:=Q} (start N vs) H):cO P w K mg ag (fG P w) (k+1) f fd ps sp:=by obtain⟨oc,od,kV,doc,pm,an,ao,ct,bX,rfl,lk,bZ⟩:=F.ex;exact vG lk bZ S len λA outer s H vs Q E hr cA=>cG ao A outer s H vs Q E hr cA
theorem MA.vo{C:Addr}{m qual:Str}{st:Stmt}{N ps:List Str}{k:Nat}{sp:Sp}(F:MA K C m qual st)(S:bp N ps (aO st))(len:∀vs H Q E,sp vs H Q E->vs.length=ps.length) (hb:∀(kV doc pm:Value)(an:Option Addr)(ao ct:Value)(us:List Value),us.length=ps.length->bindArgs (PySem.W.fnOf m qual (eN st) (cB st) (aO st) .none kV doc pm an ao ct) ⟨us,[]⟩=pure (ps.zip us)) (cG:∀(f:Addr)(ao:Value)(A:aa)(outer:List Env)(s:a7)(H:Hp)(vs:List V)(Q:VK)(E:XK),bo k (A.deeper (envOfC qual (aO st) s.heap.objs.size f ao))->sp vs H Q E->∃t,cw (dA (fG P w) P w K mg ag N qual (aO st) f ao A outer s H E) (cB st) t/\t {nx:=λ_ H'=>Q .bj H',rt:=Q} (start N vs) H):qZ P w K mg ag C m (k+1) sp:=by obtain⟨f,fd,hm,F⟩:=F.ex;exact⟨f,fd,ps,F.FT S len λao A outer s H vs Q E=>cG f ao A outer s H vs Q E,hm,F.binds hb⟩
end
section
variable {X:Cx}{k:Nat}{x m:Str}{C:Addr}{p pos apos:Pos}{o e:Expr}{es:List Expr}{t:TA}{ta:TE}{sp:Sp}{E:XK}
inductive LG(C:Addr)(m:Str)(sp:Sp)(E:XK)(t:TA)(O:St)(Q:VK)(x:V)(H1:Hp):Prop |mk (a:Addr)(dx:Addr)(fs:List (Str×V))(h0:x= .ref a)(h1:H1 a=some (.ins C dx fs))(h2:fs.lookup m=none)(h3:t O H1 λvs H2=>sp (x::vs) H2 Q E)
end
structure eQ(ex:Addr)(k:Nat)(A:aa):Prop where
 n:iE k A
 hd:A.handled=some (.ref ex)
theorem eQ.mono{ex:Addr}{j k:Nat}{A:aa}(r:eQ ex k A)(h:j<=k):eQ ex j A:=⟨r.n.mono h,r.hd⟩
theorem eQ.units{ex:Addr}{k:Nat}{A:aa}(r:eQ ex k A):A.units+64<cLine:=r.n.units
theorem eQ.deeper{ex:Addr}{k:Nat}{A:aa}(r:eQ ex (k+1) A)(env:Env):eQ ex k (A.deeper env):=⟨r.n.deeper env,r.hd⟩
theorem bo.Gx{k:Nat}{A:aa}(r:bo k A)(ex:Addr):eQ ex k (A.mark (some (.ref ex))):=⟨r.mark _,Z⟩
def rA(ex:Addr)(P:a8)(w:World)(K:a6)(mg:aM)(ag:Heap)(k:Nat)(f:Addr)(fd:FuncData)(ps:List Str)(sp:Sp):Prop:=(∀vs H Q E,sp vs H Q E->vs.length=ps.length)/\∀(A:aa)(outer:List Env)(s:a7)(H:Hp)(args:Args)(us:List Value)(vs:List V)(Q:VK),eQ ex k A->jt P w K mg ag A outer s H->BindsTo s fd args (ps.zip us)->Vals vs us->sp vs H Q (λ_ _ _=>False)->codeAny (model P w) A (.call (.ref f) args) (λr s'=>match r with| .ok (.ret u)=>CE outer P w H s Q u s'|_=>False) s
theorem AK{ex:Addr}{P:a8}{w:World}{K:a6}{mg:aM}{ag:Heap}{k:Nat}{f:Addr}{name qual:Str}{params:Arguments}{body:List Stmt}{scope:Scope}{dV kV doc pm ao ct oc:Value}{an od:Option Addr} {bX:Array (Option Value)}{N ps:List Str}{sp:Sp}(lk:K.lookup f=some ⟨oc,od,.func (PySem.W.fnOf name qual params body scope dV kV doc pm an ao ct),bX⟩)(bZ:PySem.W.codeIn K ao qual=true)(S:bp N ps scope)(len:∀vs H Q E,sp vs H Q E->vs.length=ps.length) (cG:∀(A:aa)(outer:List Env)(s:a7)(H:Hp)(vs:List V)(Q:VK),eQ ex k (A.deeper (envOfC qual scope s.heap.objs.size f ao))->sp vs H Q (λ_ _ _=>False)->∃t,cw (qN P w K mg ag N qual scope f ao A outer s H) body t/\t {nx:=λ_ H'=>Q .bj H',rt:=Q} (start N vs) H): rA ex P w K mg ag (k+1) f (PySem.W.fnOf name qual params body scope dV kV doc pm an ao ct) ps sp:=by
 refine⟨len,λA outer s H args us vs Q hr e0 hb r cA=>?_⟩;have hl:=len _ _ _ _ cA;have KX:K.In s.heap:=e0.mod.iX.keeps λb o e=>(e0.bs b o e).1;have lim:s.heap.NoLimit:=e0.mod.nolimit.keeps λb o e=>(e0.bs b o e).1;have hk:∀y∈ps.zip us,scope.names.lookup y.1=some .local\/(scope.names.lookup y.1=some .cell/\((cellsFrom (s.heap.objs.size+1) scope.names []).lookup y.1).isSome=true):=λ⟨n,v⟩ hy=>by
  rcases S.par n (rM hy).1 with q|q
  ·exact .inl q
  ·exact .inr ⟨q,xf _ _ _ (.inl q)⟩
 refine BO (by have:=hr.n.dp;omega) (KX _ _ lk) Z S.co S.gen Z (BS KX bZ) (hb _ _ _ _ ?_);refine BK S.kind hk λenv he s1 x=>?_;subst he;refine⟨lim.keeps x.toInCall.keep,codeAny_func ?_⟩;obtain⟨t,ht,hq⟩:=cG A outer s H vs Q (hr.deeper _) cA;have e1:jt P w K mg ag {A with handled:=none} outer s H:=⟨e0.frames,e0.mod,e0.bs,e0.fh,e0.dM,e0.fP,e0.aD,e0.bare⟩;have I:=uN (CX:=dr) (A:={A with handled:=none}) (E:=λ_ _ _=>False) S rfl e1 hl r x;have J:Inv (qN P w K mg ag N qual scope f ao A outer s H) [] (start N vs) H s1:=⟨⟨I.ok.mod,I.ok.kind,I.ok.glob,I.ok.blt,I.ok.above,I.ok.inj,I.ok.has,I.ok.iB,λh=>(dS h).elim,Around.frames_deeper e0.frames,I.ok.iQ,I.ok.l7,I.ok.bs,I.ok.fh,I.ok.ie,I.ok.gp,I.ok.dM,I.ok.fP⟩,I.os,I.bare,I.ag,I.loc,I.cell,I.free,I.eg,I.pin,I.aD,I.len⟩;refine dB (ht [] s1 (start N vs) H _ J hq) (λfl s' hs=>?_) λe s' hs=>hs.elim;cases fl with |ret u=>obtain⟨v,σ',H',J',rv,q⟩:=hs;exact⟨v,H',J'.os,J'.bare,J'.ag,J'.aD,rv,q⟩ |next=>obtain⟨σ',H',J',q⟩:=hs;exact⟨V.bj,H',J'.os,J'.bare,J'.ag,J'.aD,Z,q⟩ |brk=>obtain⟨_,_,_,q⟩:=hs;exact False.elim q |cont=>obtain⟨_,_,_,q⟩:=hs;exact False.elim q
def jo(P:a8)(w:World)(K:a6)(mg:aM)(ag:Heap)(x:Str)(k:Nat)(sp:Addr->Sp):Prop:=∃f fd ps,(∀ex,rA ex P w K mg ag k f fd ps (sp ex))/\mg x=some (.ref f)/\PySem.W.keepIn K (.ref f)=true/\Binds K fd ps []
def r9(P:a8)(w:World)(K:a6)(mg:aM)(ag:Heap)(C:Addr)(m:Str)(k:Nat)(sp:Addr->Sp):Prop:=∃f fd ps,(∀ex,rA ex P w K mg ag k f fd ps (sp ex))/\Meth K C m f/\Binds K fd ps []
theorem FA.oq{P:a8}{w:World}{K:a6}{mg:aM}{ag:Heap}{x:Str}{st:Stmt}{N ps:List Str}{k:Nat}{sp:Addr->Sp}(F:FA K mg x st)(S:bp N ps (aO st))(len:∀ex vs H Q E,sp ex vs H Q E->vs.length=ps.length) (hb:∀(kV doc pm:Value)(an:Option Addr)(ao ct:Value)(us:List Value),us.length=ps.length->bindArgs (PySem.W.fnOf x x (eN st) (cB st) (aO st) .none kV doc pm an ao ct) ⟨us,[]⟩=pure (ps.zip us)) (cG:∀(ex f:Addr)(ao:Value)(A:aa)(outer:List Env)(s:a7)(H:Hp)(vs:List V)(Q:VK),eQ ex k (A.deeper (envOfC x (aO st) s.heap.objs.size f ao))->sp ex vs H Q (λ_ _ _=>False)->∃t,cw (qN P w K mg ag N x (aO st) f ao A outer s H) (cB st) t/\t {nx:=λ_ H'=>Q .bj H',rt:=Q} (start N vs) H):jo P w K mg ag x (k+1) sp:=by obtain⟨f,fd,hm,F⟩:=F.ex;have kU:=F.binds hb;have kp:=F.kp;obtain⟨oc,od,kV,doc,pm,an,ao,ct,bX,rfl,lk,bZ⟩:=F.ex;exact⟨f,_,ps,λex=>AK lk bZ S (len ex) λA outer s H vs Q hr cA=>cG ex f ao A outer s H vs Q hr cA,hm,kp,kU⟩
theorem MA.oq{P:a8}{w:World}{K:a6}{mg:aM}{ag:Heap}{C:Addr}{m qual:Str}{st:Stmt}{N ps:List Str}{k:Nat}{sp:Addr->Sp}(F:MA K C m qual st)(S:bp N ps (aO st))(len:∀ex vs H Q E,sp ex vs H Q E->vs.length=ps.length) (hb:∀(kV doc pm:Value)(an:Option Addr)(ao ct:Value)(us:List Value),us.length=ps.length->bindArgs (PySem.W.fnOf m qual (eN st) (cB st) (aO st) .none kV doc pm an ao ct) ⟨us,[]⟩=pure (ps.zip us)) (cG:∀(ex f:Addr)(ao:Value)(A:aa)(outer:List Env)(s:a7)(H:Hp)(vs:List V)(Q:VK),eQ ex k (A.deeper (envOfC qual (aO st) s.heap.objs.size f ao))->sp ex vs H Q (λ_ _ _=>False)->∃t,cw (qN P w K mg ag N qual (aO st) f ao A outer s H) (cB st) t/\t {nx:=λ_ H'=>Q .bj H',rt:=Q} (start N vs) H):r9 P w K mg ag C m (k+1) sp:=by obtain⟨f,fd,hm,F⟩:=F.ex;have kU:=F.binds hb;obtain⟨oc,od,kV,doc,pm,an,ao,ct,bX,rfl,lk,bZ⟩:=F.ex;exact⟨f,_,ps,λex=>AK lk bZ S (len ex) λA outer s H vs Q hr cA=>cG ex f ao A outer s H vs Q hr cA,hm,kU⟩
section
variable {X:Cx}{ex:Addr}{k:Nat}{x m:Str}{C:Addr}{p pos apos:Pos}{o e:Expr}{es:List Expr}{t:TA}{ta:TE}{sp:Addr->Sp}
theorem z9{af:List (Addr×Obj)}{O:St}{H:Hp}{s:a7}{Q:VK}{us:List Value}{vs:List V}{f:Addr}{fd:FuncData}{ps:List Str}{sp:Sp}(F:rA ex X.prog X.w X.K X.mg X.ag k f fd ps sp)(hr:eQ ex k X.A)(hb:Binds X.K fd ps [])(I:Inv X af O H s)(r:Vals vs us)(h:sp vs H Q (λ_ _ _=>False)): wpAny (model X.prog X.w) X.A (call (.ref f) us) (EP X af O Q) X.xe s:=by
 have hl:(us++[]).length=ps.length:=by rw[fH,<-r.length];exact F.1 _ _ _ _ h
 have bt:=hb s us I.bU hl;rw[fH]at bt;refine mB (mD (F.2 X.A X.stack s H ⟨us,[]⟩ us vs Q hr I.oG bt r h) λr s' hq=>?_);cases r with |error e=>exact hq.elim |ok fl=>cases fl with |ret u=>exact I.after hq |next=>exact hq.elim |brk=>exact hq.elim |cont=>exact hq.elim
def Dr(sp:Sp)(t:TA):TE:=λO H Q=>t O H λvs H1=>sp vs H1 Q (λ_ _ _=>False)
theorem uf(F:jo X.prog X.w X.K X.mg X.ag x k sp)(hr:eQ ex k X.A)(hg:Gl X x)(ha:PA X (e::es) t)(dc:(x==("__debug__":Str))=false:=by decide) (he:starEach (e::es) X.env=(false,eval e X.env)::starEach es X.env:=by rfl)(cK:(backTo pos (starEach es X.env)).any (·.1)=false:=by rfl):PE X (.Call (.Name x p) (e::es) [] pos) (Dr (sp ex) t):=by obtain⟨f,fd,ps,F,hm,hk,hb⟩:=F;intro af s O H Q I h;refine rF (kK I hg hm ?_ dc);exact xg (h₀:=X.ag) I.ok.mod.iX hk (az (ha pos af s O H _ I h) λus s1 ⟨vs,H1,I1,r,q⟩=>⟨I1.bU,z9 (F ex) hr hb I1 r q⟩) he cK
inductive LH(C:Addr)(m:Str)(sp:Sp)(Q:VK)(x:V)(H1:Hp):Prop |mk (a:_)(dx:_)(fs:_)(h0:x= .ref a)(h1:H1 a=some (.ins C dx fs))(h2:fs.lookup m=none)(h3:sp [x] H1 Q (λ_ _ _=>False))
theorem EI{pl:Sem Bool}(F:r9 X.prog X.w X.K X.mg X.ag C m k sp)(c:fX X.K C)(hr:eQ ex k X.A)(he:PE X o ta) (ht:eval (.Call (.Attribute o m apos) [] [] pos) X.env=(do
 let ov<-eval o X.env
 standAt apos.atName
 let(f,first)<-holding [ov] (getMethod ov m pl)
 callWith pos f first (backTo pos (starEach [] X.env)) (backToKw pos (keywordEach [] X.env))):=by rfl): PE X (.Call (.Attribute o m apos) [] [] pos) (λO H Q=>ta O H λx H1=>LH C m (sp ex) Q x H1):=by
 obtain⟨f,fd,ps,F,hm,hb⟩:=F;intro af s O H Q I h;refine BQ (pl:=pl) (az (he af s O H _ I h) λu s1 ⟨x,H1,I1,rx,a,dx,fs,gY,ea,l,q⟩=>?_) ht;subst gY;obtain rfl:u=Value.ref a:=rx;refine vE I1 ea c hm l ?_;exact PySem.W.callWith_K0 (first:=[.ref a]) I1.bU hm.kp (z9 (us:=[.ref a]) (vs:=[.ref a]) (F ex) hr hb I1 (.cons rfl .nil) q)
end
def Cx.hold(X:Cx)(af:List (Addr×Obj)):Cx:={X with pn:=X.pn++af}
theorem Inv.hold{X:Cx}{af:List (Addr×Obj)}{O:St}{H:Hp}{s:a7}(I:Inv X af O H s):Inv (X.hold af) [] O H s:=⟨⟨I.ok.mod,I.ok.kind,I.ok.glob,I.ok.blt,I.ok.above,I.ok.inj,I.ok.has,I.ok.iB,I.ok.hd,I.ok.frames,I.ok.iQ,I.ok.l7,I.ok.bs,I.ok.fh,I.ok.ie,I.ok.gp,I.ok.dM,I.ok.fP⟩,I.os,I.bare,I.ag,I.loc,I.cell,I.free,I.eg,λp hp=>I.pin p (by simpa[Cx.hold]using hp),I.aD,I.len⟩
theorem Inv.let{X:Cx}{af:List (Addr×Obj)}{O:St}{H:Hp}{s:a7}(I:Inv (X.hold af) [] O H s):Inv X af O H s:=⟨⟨I.ok.mod,I.ok.kind,I.ok.glob,I.ok.blt,I.ok.above,I.ok.inj,I.ok.has,I.ok.iB,I.ok.hd,I.ok.frames,I.ok.iQ,I.ok.l7,I.ok.bs,I.ok.fh,I.ok.ie,I.ok.gp,I.ok.dM,I.ok.fP⟩,I.os,I.bare,I.ag,I.loc,I.cell,I.free,I.eg,λp hp=>I.pin p (by simpa[Cx.hold]using hp),I.aD,I.len⟩
theorem Eh{X:Cx}{st:Stmt}{t:TS}(h:∀af,qW (X.hold af) st t):PS X st t:=by intro af s O H D I hq;refine az (h af s O H D I.hold hq) λf s1 q=>?_;cases f with |next=>obtain⟨σ',H',I',q⟩:=q;exact⟨σ',H',I'.let,q⟩ |brk=>obtain⟨σ',H',I',q⟩:=q;exact⟨σ',H',I'.let,q⟩ |cont=>obtain⟨σ',H',I',q⟩:=q;exact⟨σ',H',I'.let,q⟩ |ret v=>obtain⟨x,σ',H',I',r,q⟩:=q;exact⟨x,σ',H',I'.let,r,q⟩
def qU(CX:fm)(X:Cx)(E:St->XK):Prop:=∀(af:List (Addr×Obj))(O:St)(H:Hp)(s:a7)(e:Value)(s':a7),Inv X af O H s->CX X.stack H s (E O) e s'->X.xe e s'
section
variable {X:Cx}{CX:fm}{k:Nat}{f:Addr}{fd:FuncData}{ps:List Str}{sp:Sp}{dvs:List V}{ds:List Value}{E:St->XK}{x:Str}{p pos:Pos}{e:Expr}{es:List Expr}{t:TA}
theorem DM{af:List (Addr×Obj)}{O:St}{H:Hp}{s:a7}{Q:VK}{us:List Value}{vs:List V}(F:cO X.prog X.w X.K X.mg X.ag CX k f fd ps sp)(hr:bo k X.A)(hb:Binds X.K fd ps ds)(hd:Vals dvs ds)(hx:qU CX X E)(I:Inv X af O H s)(r:Vals vs us)(h:sp (vs++dvs) H Q (E O)):wpAny (model X.prog X.w) X.A (call (.ref f) us) (EP X af O Q) X.xe s:=by
 have r2:Vals (vs++dvs) (us++ds):=r.append hd;have hl:(us++ds).length=ps.length:=by rw[<-r2.length];exact F.len _ _ _ _ h
 refine mB (mD (F.run X.A X.stack s H ⟨us,[]⟩ (us++ds) (vs++dvs) Q (E O) hr I.oG (hb s us I.bU hl) r2 h) λr s' hq=>?_);cases r with |error e=>exact hx af O H s e s' I hq |ok fl=>cases fl with |ret u=>exact I.after hq |next=>exact False.elim hq |brk=>exact False.elim hq |cont=>exact False.elim hq
end
section
variable {X:Cx}{i:Nat}{n y:Str}{Dc:Addr}{jj:List Value}{newD:String}{body gC:List Stmt}{b0:Stmt}{np fM pos:Pos}{tb:(St->XK)->TS}{th:TS}{Cs:Addr->Prop}
end
section
variable {X:Cx}{i:Nat}{n y:Str}{Dc:Addr}{jj:List Value}{newD:String}{body gC:List Stmt}{b0:Stmt}{np fM pos:Pos}{tb:XK->TS}{th:TS}{Cs:Addr->Prop}
theorem Ee{fI:Addr}(cJ:X.stack=X.env::X.outer)(vh:X.env.frame=some X.env.locals)(hN:X.N.Nodup)(hi:X.N[i]? =some n)(hk:X.env.kindOf n=some .local)(hs:X.env.scope.names.lookup n=some .local) (hb:∀(E:XK)(xe:Value->a7->Prop),Passes (fG X.prog X.w) (X.dC xe) E->cw (X.dC xe) body (tb E)) (hg:Gl X y)(hy:jq X.K X.mg y Dc fI jj newD)(kX:jj.contains (.type "BaseException")=true)(kY:∀C,Cs C->ClsAt X.K C/\takes X.K C Dc) (hh:∀ex,cw (X.hand ex) (b0::gC) th)(dc:(y==("__debug__":Str))=false:=by decide): qW X (.Try body [.ExceptHandler (some (.Name y np)) (some n) (b0::gC) fM] [] [] pos) (CY i Cs tb th):=by
 intro s O H D I h;obtain⟨E,hq,kT,uV⟩:=h;refine wpAny_Try_except ?_;have ps:Passes (fG X.prog X.w) (X.dC λe s₁=>wpAny (model X.prog X.w) X.A (noteFrame e X.env) (λ_ s₂=>wpAny (model X.prog X.w) X.A (setFlight e none) (λ_ s₃=>wpAny (model X.prog X.w) X.A (handleBy e X.env [.ExceptHandler (some (.Name y np)) (some n) (b0::gC) fM]) (SP X [] D) X.xe s₃) X.xe s₂) X.xe s₁) E:=by
  intro qg σ' H1 s1 ev s2 I1 hx;obtain⟨ex,cls,dx,H',B,rfl,ho,nZ,l5,F,hE⟩:=hx;obtain⟨C,rfl,hC⟩:=kT cls dx H' hE;have I0:Inv X [] σ' H1 s1:=I1.g9.Bo;obtain⟨nS,g2,d2,t2,o2⟩:=s2;have vH:gr B (X.env::X.outer) ex (.ref C) dx .none nS:=by rw[<-cJ];exact l5
  have hA:X.A.frames=some (X.env::X.outer):=by rw[<-cJ];exact I0.ok.frames
  refine zM (s:=⟨nS,g2,d2,t2,o2⟩) hA vh vH λh4 jd sq=>?_;refine oB jd λh5 gW sk=>?_;have F4:=F.step l5.1 jd.1 sq l5.2.2.1;have vJ:h4.FunFrames B X.stack:=by rw[cJ];exact jd.2.2.1
  have F5:=F4.step jd.1 gW.1 sk vJ;have vI:h5.FunFrames B X.stack:=by rw[cJ];exact gW.2.2.1
  have I5:Inv X [] σ' H' ⟨h5,g2,d2,t2,o2⟩:=I0.lg (s':=⟨h5,g2,d2,t2,o2⟩) ho F5.un F5.aD nZ (λb hb=>(dh hb).elim);refine wpAny_handleBy_cons (codeAny_handlers_test (kK (X:=X.hand ex) (I5.hand ex) hg hy.at' ?_ dc)) (by intro q;cases q);obtain⟨eC,tk⟩:=kY C hC;obtain⟨nm,q,Nn,bs,tl,hdct,sn,sub,ab,col,dd,k0,k1,k2,k3,k5,nw,oC⟩:=eC _ I5.bU;obtain⟨CO,Lu,uw,q',wa,vm,sO,sG,wz,w4,vX,j0,j1,j2,j3,j5,GF,oD,J5,HN,wG⟩:=hy.own I5.bU;obtain⟨ob,vb,va,_⟩:=gW.there;have nQ:(Value.ref C::tl).contains (.ref Dc)=true:=by
   obtain⟨cd,ha,jf⟩:=C4.mp tk;split at jf
   ·cases jf
   ·have hc:=ck jf
    unfold PySem.W.clsIn at ha;split at ha
    ·rename_i c1 c2 Kw c4 hl
     cases ha;have e1:=I5.bU _ _ hl;rw[show(Shared.heap ⟨h5,g2,d2,t2,o2⟩).get? C=some _ from oC]at e1;have e2:=ck e1;unfold excClassObj at e2;injection e2 with _ _ e3 _;injection e3 with e4;rw[<-e4]at hc;exact hc
    ·cases ha
  refine AQ oC oD vb va (wG.hasType kX) nQ ?_;refine codeAny_handlers_suite_as ?_;refine oB (s:=⟨h5,g2,d2,t2,o2⟩) gW λh6 oE sj=>?_;have F6:=F5.step gW.1 oE.1 sj vI;have sr:Un (cf X.stack) [] H1 (upd H' ex (.ext (eA ex (.ref C) dx))) s1.heap h6:=by
   have nb:∀b u,H' b=some u->b≠ex:=λb u e z=>by rw[z,F6.ne]at e;cases e
   refine⟨F6.un.keep,F6.un.slot,λb o e n hx=>?_,F6.un.there,λb xs e=>?_,λb o u e=>?_,λb ps e=>?_⟩
   ·rw[aI (λz=>by rw[z,F6.nw]at e;cases e)];exact F6.un.free b o e n hx
   ·have:=F6.un.eV b xs e;rw[aI (nb b _ this)];exact this
   ·have:=F6.un.eL b o u e;rw[aI (nb b _ this)];exact this
   ·obtain⟨more,e1⟩:=F6.un.eW b ps e;exact⟨more,by rw[aI (nb b _ e1)];exact e1⟩
  have uY:bL X.prog X.w (upd H' ex (.ext (eA ex (.ref C) dx))) h6:=λb u e=>by
   by_cases oj:b=ex
   ·subst oj
    rw[bw]at e;cases e;obtain⟨o6,e6,c6⟩:=oE.there;exact⟨⟨o6,e6,c6⟩,⟨o6,e6⟩,λg1 g3 ⟨o7,e7,c7⟩ k=>⟨o7,k o7 e7,c7⟩⟩
   ·rw[aI oj]at e
    refine(F6.aD b u e).gb (λc v hc q=>q) (λc q=>?_) λc xs q=>?_
    ·rw[aI (λz=>by rw[z,F6.ne]at q;cases q)];exact q
    ·rw[aI (λz=>by rw[z,F6.ne]at q;cases q)];exact q
  have I6:Inv X [] σ' (upd H' ex (.ext (eA ex (.ref C) dx))) ⟨h6,g2,d2,t2,o2⟩:=I0.lg (s':=⟨h6,g2,d2,t2,o2⟩) ho sr uY nZ (λb hb=>(dh hb).elim);refine lK (X:=X.hand ex) (I6.hand ex) hN hi (.inl hs) (v:=.ref ex) Z (λs7 I7=>?_) (.inr hs);refine dB (hh ex [] s7 _ _ _ I7 (uV C ex dx σ' H' (I0.len.trans I.len.symm) hE F.ne)) (λf s8 q=>?_) λe s8 q=>False.elim q;have un:∀(σ2:St)(H2:Hp)(Q:Unit->a7->Prop),Inv (X.hand ex) [] σ2 H2 s8->(∀s9,Inv X [] (σ2.set i none) H2 s9->Q () s9)->wpAny (model X.prog X.w) X.A (do bindName X.env n .none;unbindBehindTheSuite X.env n fM) Q X.xe s8:=λσ2 H2 Q I8 hq=>by
   have oU:=I8.back I0.ok;have bq:i<σ2.length:=by rw[oU.len];exact(bM.mp hi).1
   unfold bindName;refine ai (ai (eB (rE (ai (lK oU hN hi (.inl hs) (v:=.bj) Z (λs9 I9=>rE ?_) (.inr hs))))));refine xH I9 hN hi hk hs (v:=.bj) (rP bq) λfJ hJ=>hq fJ ?_;rw[List.set_set]at hJ;exact hJ
  cases f with |next=>obtain⟨σ2,H2,I8,dq⟩:=q;exact un σ2 H2 _ I8 λs9 I9=>⟨_,H2,I9,dq⟩ |brk=>obtain⟨σ2,H2,I8,dq⟩:=q;exact un σ2 H2 _ I8 λs9 I9=>⟨_,H2,I9,dq⟩ |cont=>obtain⟨σ2,H2,I8,dq⟩:=q;exact un σ2 H2 _ I8 λs9 I9=>⟨_,H2,I9,dq⟩ |ret u=>obtain⟨v,σ2,H2,I8,r8,dq⟩:=q;exact un σ2 H2 _ I8 λs9 I9=>⟨v,_,H2,I9,r8,dq⟩
 refine dB (hb E _ ps [] s O H D (I.dC _) hq) (λf s1 q=>?_) λe s1 q=>q;have q':=q.g9;cases f with |next=>exact lC q' |brk=>exact q' |cont=>exact q' |ret u=>exact q'
end
section
variable {X:Cx}{i:Nat}{n y:Str}{Dc:Addr}{jj:List Value}{newD:String}{body gC:List Stmt}{b0:Stmt}{np fM pos:Pos}{tb:(St->XK)->TS}{th:TS}{Cs:Addr->Prop}
end
inductive Lz(i:Nat)(Cs:Addr->Prop)(tb:(St->XK)->TS)(th:Addr->TS)(D:Ends)(O:St)(H:Hp):Prop |mk (E:St->XK)(h0:tb E D O H)(h1:(∀σ' cls dx H',E σ' cls dx H'->∃C,cls= .ref C/\Cs C))(h2:∀(C ex:Addr)(dx:Option Addr)(σ':St)(H':Hp),σ'.length=O.length->E σ' (.ref C) dx H'->H' ex=none->th ex {nx:=λσ2 H2=>D.nx (σ2.set i none) H2,rt:=D.rt,bk:=λσ2 H2=>D.bk (σ2.set i none) H2,ct:=λσ2 H2=>D.ct (σ2.set i none) H2} (σ'.set i (some (.ref ex))) (upd H' ex (.ext (eA ex (.ref C) dx))))
section
variable {X:Cx}{i:Nat}{n y:Str}{Dc:Addr}{jj:List Value}{newD:String}{body gC:List Stmt}{b0:Stmt}{np fM pos:Pos}{tb:(St->XK)->TS}{th:Addr->TS}{Cs:Addr->Prop}
theorem Ed{fI:Addr}(cJ:X.stack=X.env::X.outer)(vh:X.env.frame=some X.env.locals)(hN:X.N.Nodup)(hi:X.N[i]? =some n)(hk:X.env.kindOf n=some .local)(hs:X.env.scope.names.lookup n=some .local) (hb:∀(E:St->XK)(xe:Value->a7->Prop),qU (fG X.prog X.w) (X.dC xe) E->cw (X.dC xe) body (tb E)) (hg:Gl X y)(hy:jq X.K X.mg y Dc fI jj newD)(kX:jj.contains (.type "BaseException")=true)(kY:∀C,Cs C->ClsAt X.K C/\takes X.K C Dc) (hh:∀ex,cw (X.hand ex) (b0::gC) (th ex))(dc:(y==("__debug__":Str))=false:=by decide): qW X (.Try body [.ExceptHandler (some (.Name y np)) (some n) (b0::gC) fM] [] [] pos) (λD O H=>Lz i Cs tb th D O H):=by
 intro s O H D I h;obtain⟨E,hq,kT,uV⟩:=h;refine wpAny_Try_except ?_;have ps:qU (fG X.prog X.w) (X.dC λe s₁=>wpAny (model X.prog X.w) X.A (noteFrame e X.env) (λ_ s₂=>wpAny (model X.prog X.w) X.A (setFlight e none) (λ_ s₃=>wpAny (model X.prog X.w) X.A (handleBy e X.env [.ExceptHandler (some (.Name y np)) (some n) (b0::gC) fM]) (SP X [] D) X.xe s₃) X.xe s₂) X.xe s₁) E:=by
  intro qg σ' H1 s1 ev s2 I1 hx;obtain⟨ex,cls,dx,H',B,rfl,ho,nZ,l5,F,hE⟩:=hx;obtain⟨C,rfl,hC⟩:=kT σ' cls dx H' hE;have I0:Inv X [] σ' H1 s1:=I1.g9.Bo;obtain⟨nS,g2,d2,t2,o2⟩:=s2;have vH:gr B (X.env::X.outer) ex (.ref C) dx .none nS:=by rw[<-cJ];exact l5
  have hA:X.A.frames=some (X.env::X.outer):=by rw[<-cJ];exact I0.ok.frames
  refine zM (s:=⟨nS,g2,d2,t2,o2⟩) hA vh vH λh4 jd sq=>?_;refine oB jd λh5 gW sk=>?_;have F4:=F.step l5.1 jd.1 sq l5.2.2.1;have vJ:h4.FunFrames B X.stack:=by rw[cJ];exact jd.2.2.1
  have F5:=F4.step jd.1 gW.1 sk vJ;have vI:h5.FunFrames B X.stack:=by rw[cJ];exact gW.2.2.1
  have I5:Inv X [] σ' H' ⟨h5,g2,d2,t2,o2⟩:=I0.lg (s':=⟨h5,g2,d2,t2,o2⟩) ho F5.un F5.aD nZ (λb hb=>(dh hb).elim);refine wpAny_handleBy_cons (codeAny_handlers_test (kK (X:=X.hand ex) (I5.hand ex) hg hy.at' ?_ dc)) (by intro q;cases q);obtain⟨eC,tk⟩:=kY C hC;obtain⟨nm,q,Nn,bs,tl,hdct,sn,sub,ab,col,dd,k0,k1,k2,k3,k5,nw,oC⟩:=eC _ I5.bU;obtain⟨CO,Lu,uw,q',wa,vm,sO,sG,wz,w4,vX,j0,j1,j2,j3,j5,GF,oD,J5,HN,wG⟩:=hy.own I5.bU;obtain⟨ob,vb,va,_⟩:=gW.there;have nQ:(Value.ref C::tl).contains (.ref Dc)=true:=by
   obtain⟨cd,ha,jf⟩:=C4.mp tk;split at jf
   ·cases jf
   ·have hc:=ck jf
    unfold PySem.W.clsIn at ha;split at ha
    ·rename_i c1 c2 Kw c4 hl
     cases ha;have e1:=I5.bU _ _ hl;rw[show(Shared.heap ⟨h5,g2,d2,t2,o2⟩).get? C=some _ from oC]at e1;have e2:=ck e1;unfold excClassObj at e2;injection e2 with _ _ e3 _;injection e3 with e4;rw[<-e4]at hc;exact hc
    ·cases ha
  refine AQ oC oD vb va (wG.hasType kX) nQ ?_;refine codeAny_handlers_suite_as ?_;refine oB (s:=⟨h5,g2,d2,t2,o2⟩) gW λh6 oE sj=>?_;have F6:=F5.step gW.1 oE.1 sj vI;have sr:Un (cf X.stack) [] H1 (upd H' ex (.ext (eA ex (.ref C) dx))) s1.heap h6:=by
   have nb:∀b u,H' b=some u->b≠ex:=λb u e z=>by rw[z,F6.ne]at e;cases e
   refine⟨F6.un.keep,F6.un.slot,λb o e n hx=>?_,F6.un.there,λb xs e=>?_,λb o u e=>?_,λb ps e=>?_⟩
   ·rw[aI (λz=>by rw[z,F6.nw]at e;cases e)];exact F6.un.free b o e n hx
   ·have:=F6.un.eV b xs e;rw[aI (nb b _ this)];exact this
   ·have:=F6.un.eL b o u e;rw[aI (nb b _ this)];exact this
   ·obtain⟨more,e1⟩:=F6.un.eW b ps e;exact⟨more,by rw[aI (nb b _ e1)];exact e1⟩
  have uY:bL X.prog X.w (upd H' ex (.ext (eA ex (.ref C) dx))) h6:=λb u e=>by
   by_cases oj:b=ex
   ·subst oj
    rw[bw]at e;cases e;obtain⟨o6,e6,c6⟩:=oE.there;exact⟨⟨o6,e6,c6⟩,⟨o6,e6⟩,λg1 g3 ⟨o7,e7,c7⟩ k=>⟨o7,k o7 e7,c7⟩⟩
   ·rw[aI oj]at e
    refine(F6.aD b u e).gb (λc v hc q=>q) (λc q=>?_) λc xs q=>?_
    ·rw[aI (λz=>by rw[z,F6.ne]at q;cases q)];exact q
    ·rw[aI (λz=>by rw[z,F6.ne]at q;cases q)];exact q
  have I6:Inv X [] σ' (upd H' ex (.ext (eA ex (.ref C) dx))) ⟨h6,g2,d2,t2,o2⟩:=I0.lg (s':=⟨h6,g2,d2,t2,o2⟩) ho sr uY nZ (λb hb=>(dh hb).elim);refine lK (X:=X.hand ex) (I6.hand ex) hN hi (.inl hs) (v:=.ref ex) Z (λs7 I7=>?_) (.inr hs);refine dB (hh ex [] s7 _ _ _ I7 (uV C ex dx σ' H' (I0.len.trans I.len.symm) hE F.ne)) (λf s8 q=>?_) λe s8 q=>False.elim q;have un:∀(σ2:St)(H2:Hp)(Q:Unit->a7->Prop),Inv (X.hand ex) [] σ2 H2 s8->(∀s9,Inv X [] (σ2.set i none) H2 s9->Q () s9)->wpAny (model X.prog X.w) X.A (do bindName X.env n .none;unbindBehindTheSuite X.env n fM) Q X.xe s8:=λσ2 H2 Q I8 hq=>by
   have oU:=I8.back I0.ok;have bq:i<σ2.length:=by rw[oU.len];exact(bM.mp hi).1
   unfold bindName;refine ai (ai (eB (rE (ai (lK oU hN hi (.inl hs) (v:=.bj) Z (λs9 I9=>rE ?_) (.inr hs))))));refine xH I9 hN hi hk hs (v:=.bj) (rP bq) λfJ hJ=>hq fJ ?_;rw[List.set_set]at hJ;exact hJ
  cases f with |next=>obtain⟨σ2,H2,I8,dq⟩:=q;exact un σ2 H2 _ I8 λs9 I9=>⟨_,H2,I9,dq⟩ |brk=>obtain⟨σ2,H2,I8,dq⟩:=q;exact un σ2 H2 _ I8 λs9 I9=>⟨_,H2,I9,dq⟩ |cont=>obtain⟨σ2,H2,I8,dq⟩:=q;exact un σ2 H2 _ I8 λs9 I9=>⟨_,H2,I9,dq⟩ |ret u=>obtain⟨v,σ2,H2,I8,r8,dq⟩:=q;exact un σ2 H2 _ I8 λs9 I9=>⟨v,_,H2,I9,r8,dq⟩
 refine dB (hb E _ ps [] s O H D (I.dC _) hq) (λf s1 q=>?_) λe s1 q=>q;have q':=q.g9;cases f with |next=>exact lC q' |brk=>exact q' |cont=>exact q' |ret u=>exact q'
end
section
variable {X:Cx}{k:Nat}{m:Str}{C:Addr}{pos apos:Pos}{o e:Expr}{es:List Expr}{t:TA}{ta:TE}{sp:Sp}{E:St->XK}
theorem EH{pl:Sem Bool}(F:qZ X.prog X.w X.K X.mg X.ag C m k sp)(hp:qU (fG X.prog X.w) X E)(c:fX X.K C)(hr:bo k X.A)(he:PE X o ta)(ha:PA X (e::es) t) (cJ:starEach (e::es) X.env=(false,eval e X.env)::starEach es X.env:=by rfl)(cK:(backTo pos (starEach es X.env)).any (·.1)=false:=by rfl) (ht:eval (.Call (.Attribute o m apos) (e::es) [] pos) X.env=(do
 let ov<-eval o X.env
 standAt apos.atName
 let(f,first)<-holding [ov] (getMethod ov m pl)
 callWith pos f first (backTo pos (starEach (e::es) X.env)) (backToKw pos (keywordEach [] X.env))):=by rfl): PE X (.Call (.Attribute o m apos) (e::es) [] pos) (λO H Q=>ta O H λx H1=>LG C m sp (E O) t O Q x H1):=by
 obtain⟨f,fd,ps,F,hm,hb⟩:=F;intro af s O H Q I h;refine BQ (pl:=pl) (az (he af s O H _ I h) λu s1 ⟨x,H1,I1,rx,a,dx,fs,ex,ea,l,q⟩=>?_) ht;subst ex;obtain rfl:u=Value.ref a:=rx;refine vE I1 ea c hm l ?_;refine xg (h₀:=X.ag) (first:=[.ref a]) I1.ok.mod.iX hm.kp (az (ha pos af s1 O H1 _ I1 q) λus s2 ⟨vs,H2,I2,r,q2⟩=>⟨I2.bU,?_⟩) cJ cK;exact DM (us:=.ref a::us) (vs:=.ref a::vs) (dvs:=[]) (ds:=[]) F hr hb .nil hp I2 (.cons Z r) (by rw[fH];exact q2)
end
end L2
namespace Lw
open PySem PySem.Spec PyProof.Rows L2
def top(i:Nat):Stmt:=PySem.Challenge.pw_glidequeue_k13_whole_rows_lead_piece_by.main.body.getD i (.Pass ⟨0,0,0,0⟩)
section
variable {P:a8}{w:World}{K:a6}{mg:aM}{ag:Heap}
inductive LR(vs:List V)(H:Hp)(Q:VK):Prop |mk (p:_)(many:_)(h0:vs=[.ref p,.int many])(h1:dP H p)(h2:1<=many)(h3:many<=10^40)(h4:∀d H',0<=d->d<many->aH p H H'->Q (.int d) H')
def iR:Sp:=λvs H Q _=>LR vs H Q
abbrev sX:Stmt:=top 37
theorem yu:bp ["_law_bag_here","_law_many","_law_digit","_law_number","_law_room"] ["_law_bag_here","_law_many"] (aO sX):=bT bf
theorem Fg(F:FA K mg "_law_take" sX)(B:bI mg):aP P w K mg ag "_law_take" 1 iR:=by
 refine F.has yu (λvs H Q E h=>?_) (λ_ _ _ _ _ _=>eO λ_ _=>rfl) (λf ao A outer s H vs Q E hr h=>?_)
 ·obtain⟨p,many,rfl,_⟩:=h
  rfl
 ·obtain⟨p,many,rfl,⟨c,m,hp,ok⟩,h1,h2,k⟩:=h
  obtain⟨c0,m0,m1⟩:=id ok;have nd:=yu.nd;refine⟨_,(aE (bP (cu uj (px K (pv 0) ay) ay (bG _)) (aE (pS 2 nd (ba lS (px K (pv 0) ay) (pv 1))) (aE (kz (ba zE (px K (pv 0) ay) (pv 1)) (qh (pv 0) ay set_list)) (aJ (bc (pv 2))))) bO) (aE (pS 3 nd ay) (aE (pS 4 nd ay) (aE (Ec ki (cu qk (pv 4) (pv 1) (bG _)) (aE (kz (ba lS (ba ui (ba cQ (ba i9 (px K (pv 0) ay) ay) ay) ay) ay) (qh (pv 0) ay set_list)) (aE (pS 3 nd (ba cQ (ba i9 (pv 3) ay) (ba lS (ba i9 (ba zE (px K (pv 0) ay) ay) ay) ay))) (aJ (pS 4 nd (ba i9 (pv 4) ay)))))) (aJ (bc (ba lS (pv 3) (pv 1)))))))),?_⟩;refine⟨_,Z,.inl ⟨p,_,0,.int c,Z,Z,aF.of hp,Z,_,_,Z,Z,_,Z,?_⟩⟩;refine dY (λhc=>?_) (λ_=>?_)
  ·refine⟨_,Z,.inl ⟨p,_,0,.int c,Z,Z,aF.of hp,Z,_,Z,_,_,Z,Z,h1,?_⟩⟩
   refine⟨_,Z,.inl ⟨p,_,0,.int c,Z,Z,aF.of hp,Z,_,Z,_,_,Z,Z,⟨h1,xD aA h2⟩,?_⟩⟩;refine⟨_,Z,p,_,0,0,Z,Z,hp,Z,?_⟩;refine⟨_,Z,?_⟩;exact k _ _ (rV _ aA) (rW _ aA) (aH.upd ⟨Int.ediv_nonneg c0 aA,m0,m1⟩)
  ·refine Cm (λO H2=>∃(v:Option V)(n r:Int),O=[some (.ref p),some (.int many),v,some (.int n),some (.int r)]/\aH p H H2/\1<=r) (λO _=>match O with|[_,_,_,_,some (.int r)]=>(many-r).toNat|_=>0) ?_ ?_ ?_
   ·exact⟨none,0,1,Z,.refl ⟨c,m,hp,ok⟩,dR _⟩
   ·rintro O H2 ⟨v,n,r,rfl,bx,Nj⟩
    obtain⟨c',m',qy,KO,N9,N8⟩:=id bx.aK;refine⟨_,Z,_,Z,_,_,Z,Z,_,Z,?_⟩;refine dY (λhc=>?_) (λhc=>?_)
    ·have bq:r<many:=wY hc
     refine⟨_,Z,.inl ⟨p,_,1,.int m',Z,Z,aF.of qy,Z,_,_,Z,Z,.of_right (jv aj aj),_,_,Z,Z,_,_,Z,Z,⟨aj,aj,?_⟩,_,_,Z,Z,(by show(0:Int)<2147483629;decide),?_⟩⟩
     ·have vA:(2:Nat)^64=18446744073709551616:=by decide
      rw[vA];lia
     refine⟨_,Z,p,_,1,1,Z,Z,qy,Z,?_⟩;have g0:0<=((m'*48271+7919)^(3:Int).toNat)%2147483629:=rV _ aj;have g1:((m'*48271+7919)^(3:Int).toNat)%2147483629<2147483629:=rW _ aj;have KP:aH p H (L2.upd H2 p (.lst [.int c',.int (((m'*48271+7919)^(3:Int).toNat)%2147483629)])):=bx.trans (.upd ⟨KO,g0,Int.lt_trans g1 aj⟩);refine⟨_,Z,_,_,Z,Z,.of_right (jv aj aj),_,Z,.inl ⟨p,_,1,.int _,Z,Z,aF.of bw,Z,_,_,Z,Z,⟨aj,xD aj aj⟩,_,_,Z,Z,.of_right (jv aj aj),_,_,Z,Z,(by show(0:Int)<1073741789;decide),_,_,Z,Z,?_⟩⟩;refine⟨_,Z,_,_,Z,Z,.of_right (jv aj aj),?_⟩;refine⟨⟨v,_,_,Z,KP,?_⟩,?_⟩
     ·lia
     ·show(many-r*1073741789).toNat<(many-r).toNat
      lia
    ·refine⟨_,Z,_,Z,_,_,Z,Z,h1,?_⟩
     exact k _ _ (rV _ aA) (rW _ aA) bx
   ·rintro O H2 Q1 Q2 hq ⟨v1,e1,v2,e2,i,j,e3,e4,kk,e5,q⟩
    exact⟨v1,e1,v2,e2,i,j,e3,e4,kk,e5,hq _ _ q⟩
inductive Mf(K:a6)(vs:List V)(H:Hp)(Q:VK):Prop |mk (a:Addr)(ns:List Int)(at':Int)(h0:vs=[.ref a,.int at'])(h1:aF K H a (ns.map V.int))(h2:ns.length<=63)(h3:0<=at')(h4:at'<=100)(h5:∀p H',H p=none->dP H' p->au H H'->Q (.ref p) H')
def yn(K:a6):Sp:=λvs H Q _=>Mf K vs H Q
abbrev tK:Stmt:=top 36
theorem yP:bp ["_law_script","_law_at","_law_cell","_law_mix","_law_k"] ["_law_script","_law_at"] (aO tK):=bT bf
theorem Af{ns:List Int}{j:Nat}(h:j<ns.length):∃z,df (ns.map V.int) (j:Int)=some (.int z):=⟨ns[j],L7 (by simp[h])⟩
theorem FQ(F:FA K mg "_law_bag" tK)(B:bI mg):aP P w K mg ag "_law_bag" 1 (yn K):=by
 refine F.has yP (λvs H Q E h=>?_) (λ_ _ _ _ _ _=>eO λ_ _=>rfl) (λf ao A outer s H vs Q E hr h=>?_)
 ·obtain⟨a,ns,at',rfl,_⟩:=h
  rfl
 ·obtain⟨a,ns,at',rfl,hS,hlen,h0,h1,k⟩:=h
  obtain⟨j,rfl⟩:∃j:Nat,at'=(j:Int):=⟨at'.toNat,aA⟩;have nd:=yP.nd;refine⟨_,(aE (pS 2 nd ay) (aE (ky (bP (cu qk (pv 1) (eY K B (ah (pv 0) ak)) (bG _)) (aJ (pS 2 nd (dH (x:="abs") Bh Z (B.at "abs") PyProof.Rows.boot_abs (ah (px K (pv 0) (pv 1)) ak)))) bO)) (aE (pS 3 nd (ba cQ (ba cQ (ba i9 (ba i9 ay (pv 1)) (pv 1)) (ba i9 ay (pv 1))) ay)) (aE (jD ki Z (kA Z (B.at "range") (ah (dH (x:="min") (w9 rfl) rfl (B.at "min") C0 (ah (eY K B (ah (pv 0) ak)) (ah ay ak))) ak)) (bB 4 nd) (aJ (pS 3 nd (ba lS (ba ui (ba cQ (ba cQ (ba i9 (pv 3) ay) (ba lS (px K (pv 0) (pv 4)) ay)) (ba i9 (pv 4) (pv 4))) ay) ay)))) (aE (ky (bP (cu qk (pv 2) (ba ui ay ay) (bG _)) (aJ (pS 2 nd ay)) bO)) (aJ (bc (fB (ah (pv 2) (ah (pv 3) ak)))))))))),?_⟩;refine⟨λO H'=>H'=H/\∃c:Int,O=[some (.ref a),some (.int (j:Int)),some (.int c),none,none]/\0<=c,?_,?_⟩
  ·refine⟨_,Z,_,Z,a,_,Z,.inl hS,_,_,Z,Z,_,Z,?_⟩
   refine dY (λhc=>?_) (λ_=>?_)
   ·have hj:(j:Int)<((ns.map V.int).length:Int):=wY hc
    rw[br]at hj;obtain⟨z,hz⟩:=Af (ns:=ns) (j:=j) aA;refine⟨_,Z,_,Z,.inl ⟨a,_,_,_,Z,Z,hS,hz,z,Z,?_⟩⟩;exact⟨Z,_,Z,by split<;>lia⟩
   ·exact⟨Z,0,Z,dR _⟩
  rintro O H' ⟨rfl,c,rfl,c0⟩;refine⟨_,Z,_,_,Z,Z,.of_left (jv aj aj),_,Z,_,_,Z,Z,.of_right (jv aA aA),_,Z,_,_,Z,Z,.of_left (jv aj aj),_,_,Z,Z,_,_,Z,Z,?_⟩;refine⟨_,Z,a,_,Z,.inl hS,_,_,Z,_,Z,?_,?_,?_⟩
  ·split<;>lia
  ·split<;>(try rw[br])<;>lia
  refine vF (Pv:=λi O H2=>H2=H'/\∃(m:Int)(v:Option V),O=[some (.ref a),some (.int (j:Int)),some (.int c),some (.int m),v]/\0<=m/\m<2147483648) ?_ ?_ ?_
  ·refine⟨Z,_,none,Z,?_,?_⟩
   ·have:(0:Int)<=(j:Int)*(j:Int):=Int.mul_nonneg aA aA
    rw[Int.mul_assoc];lia
   ·have:(j:Int)*(j:Int)<=100*100:=Int.mul_le_mul aA aA aA aA
    rw[Int.mul_assoc];lia
  ·rintro i O H2 hi ⟨rfl,m,v,rfl,m0,m1⟩
   have Iq:i<ns.length:=by rw[br]at hi;split at hi<;>lia
   obtain⟨z,hz⟩:=Af (ns:=ns) (j:=i) Iq;rw[<-Int.zero_add (i:Int)]at hz;have Ak:0<=z%2147483647:=rV _ aj;have Hx:z%2147483647<2147483647:=rW _ aj;have Ik:(0:Int)<=(0+(i:Int))*(0+(i:Int)):=Int.mul_nonneg aA aA;have Il:(0+(i:Int))*(0+(i:Int))<=100*100:=Int.mul_le_mul aA aA aA aA;refine⟨_,Z,_,_,Z,Z,.of_right (jv aj aj),_,Z,_,Z,.inl ⟨a,_,_,_,Z,Z,hS,hz,_,_,Z,Z,(by show(0:Int)<2147483647;decide),_,_,Z,Z,_,Z,_,Z,_,_,Z,Z,.of_right (jv aA aA),_,_,Z,Z,_,_,Z,Z,⟨aj,aj,?_⟩,_,_,Z,Z,(by show(0:Int)<2147483629;decide),?_⟩⟩
   ·have vA:(2:Nat)^64=18446744073709551616:=by decide
    rw[vA];generalize(0+(i:Int))*(0+(i:Int))=ii at Ik Il⊢;generalize z%2147483647=zz at Ak Hx⊢
    lia
   ·exact⟨Z,_,_,Z,rV _ aj,Int.lt_trans (rW _ aj) aj⟩
  ·rintro O H2 ⟨rfl,m,v,rfl,m0,m1⟩
   refine⟨λO H3=>H3=H2/\∃c:Int,O=[some (.ref a),some (.int (j:Int)),some (.int c),some (.int m),v]/\0<=c,?_,?_⟩
   ·refine⟨_,Z,_,_,Z,Z,⟨aj,aj,aj⟩,_,_,Z,Z,_,Z,?_⟩
    refine dY (λhc=>?_) (λ_=>?_)
    ·exact⟨Z,0,Z,dR _⟩
    ·exact⟨Z,c,Z,c0⟩
   rintro O H3 ⟨rfl,c,rfl,c0⟩;refine⟨_,Z,_,Z,(by show 2<=sizeLine;decide),λp H4 nw=>?_⟩;exact k p H4 nw.no ⟨c,m,nw.at',c0,m0,m1⟩ nw.same
def qw(T:String):Bool:=dD T "int"&& !dD T "bool"
inductive M8(K:a6)(vs:List V)(H:Hp)(Q:VK):Prop |mk (v:_)(T:_)(h0:vs=[v])(h1:lj K H v T)(h2:Q (.bl (qw T)) H)
def sM(K:a6):Sp:=λvs H Q _=>M8 K vs H Q
abbrev tx:Stmt:=top 7
theorem yH:bp ["thing"] ["thing"] (aO tx):=bT bf
theorem Fy(F:FA K mg "is_whole" tx)(B:bI mg):aP P w K mg ag "is_whole" 1 (sM K):=by
 refine F.has yH (λvs H Q E h=>?_) (λ_ _ _ _ _ _=>iD λ_=>rfl) (λf ao A outer s H vs Q E hr h=>?_)
 ·obtain⟨v,T,rfl,_⟩:=h
  rfl
 ·obtain⟨v,T,rfl,ty,k⟩:=h
  have nd:=yH.nd;refine⟨_,(aJ (bc (ny (i8 K B (ah (pv 0) (ah (i6 (x:="int") (v:=.ty "int") Z (B.at "int") rJ rfl) ak))) (nv (EG (i8 K B (ah (pv 0) (ah (i6 (x:="bool") (v:=.ty "bool") rfl (B.at "bool") PyProof.Rows.boot_bool rfl) ak)))))))),?_⟩;refine⟨_,Z,.inl ⟨_,T,"int",_,Z,ty,aj,Z,_,Z,?_⟩⟩;unfold qw at k;refine dY (λhc=>?_) (λhc=>?_)
  ·refine⟨_,Z,.inl ⟨_,T,"bool",_,Z,ty,aj,Z,_,Z,?_⟩⟩
   rw[hc,gy]at k;exact k
  ·rw[rZ.mpr hc,gz]at k
   exact k
theorem pE:dD "tuple" "tuple"=true:=by decide
theorem Ck(d:a9):(∃i,d= .int i/\qw (hW d)=true)\/(qw (hW d)=false/\∀i,d≠ .int i):=by cases d with |int i=>exact .inl ⟨i,Z,by simp[hW];decide⟩ |_=>exact .inr ⟨by simp[hW];decide,λ_ z=>nomatch z⟩
theorem xK(d:a9):(∃ds,d= .tuple ds)\/(dD (hW d) "tuple"=false/\∀ds,d≠ .tuple ds):=by cases d with |tuple ds=>exact .inl ⟨ds,Z⟩ |_=>exact .inr ⟨by simp[hW];decide,λ_ z=>nomatch z⟩
def eI(lo hi:Int):a9->Bool | .int i=>decide (lo<=i)&&decide (i<=hi) |_=>false
theorem Hm{lo hi:Int}{d:a9}(h:∀i,d≠ .int i):eI lo hi d=false:=by cases d<;>first|rfl|exact absurd rfl (h _)
inductive LN(K:a6)(vs:List V)(H:Hp)(Q:VK):Prop |mk (v:_)(d:_)(lo:_)(hi:_)(h0:vs=[v,.int lo,.int hi])(h1:RD K H v d)(h2:Q (.bl (eI lo hi d)) H)
def lL(K:a6):Sp:=λvs H Q _=>LN K vs H Q
abbrev sU:Stmt:=top 8
theorem yq:bp ["thing","low","high"] ["thing","low","high"] (aO sU):=bT bf
theorem Fd(F:FA K mg "is_whole_within" sU)(B:bI mg)(Ie:aP P w K mg ag "is_whole" 1 (sM K)):aP P w K mg ag "is_whole_within" 2 (lL K):=by
 refine F.has yq (λvs H Q E h=>?_) (λ_ _ _ _ _ _=>mq λ_ _ _=>rfl) (λf ao A outer s H vs Q E hr h=>?_)
 ·obtain⟨v,d,lo,hi,rfl,_⟩:=h
  rfl
 ·obtain⟨v,d,lo,hi,rfl,rd,k⟩:=h
  have nd:=yq.nd;refine⟨_,(aJ (bc (ny (pf Ie hr (ah (pv 0) ak)) (nv (zy kC kC (pv 1) (pv 0) (pv 2)))))),?_⟩;refine⟨_,Z,_,_,Z,rd.ty,_,Z,?_⟩;rcases Ck d with⟨i,rfl,e⟩|⟨e,hn⟩
  ·cases rd.int_inv
   rw[e];refine bN ?_;have k:Q (.bl (decide (lo<=i)&&decide (i<=hi))) H:=k;refine⟨_,Z,_,Z,_,_,Z,Z,_,Z,?_⟩;refine dY (λhc=>?_) (λhc=>?_)
   ·have e9:decide (lo<=i)=true:=hc
    rw[e9,gy]at k;exact⟨_,Z,_,_,Z,Z,k⟩
   ·have e9:decide (lo<=i)=false:=rZ.mpr hc
    rw[e9,gz]at k;exact k
  ·rw[e]
   refine bz ?_;rw[Hm hn]at k;exact k
open Ln
def fL(ns:List Int)(sp:Int):a9:=.tuple [.str "line",.tuple (ns.map PyData.int),.int sp]
theorem GQ(ns:List Int)(sp:Int):dW (fL ns sp)=true:=by simp[fL,dW,cF,jI]
structure eR(ax:Nat)(m:Int)(ns:List Int):Prop where
 len:ns.length=ax
 bd:∀z∈ns,(z.natAbs:Int)<=m
 nz:∃z∈ns,z≠0
theorem lX{H:Hp}{v:V}{ns:List Int}{sp:Int}(h:RD K H v (fL ns sp)):∃a b,v= .ref a/\aL K H a [.str "line",.ref b,.int sp]/\aL K H b (ns.map V.int):=by obtain⟨a,xs,rfl,h1,h2⟩:=h.cD;obtain⟨x1,r1,rfl,e1,h2⟩:=h2.cons_inv;obtain⟨x2,r2,rfl,e2,h2⟩:=h2.cons_inv;obtain⟨x3,r3,rfl,e3,h2⟩:=h2.cons_inv;cases h2.nil_inv;cases e1.str_inv;cases e3.int_inv;obtain⟨b,ys,rfl,h3,h4⟩:=e2.cD;rw[h4.gK]at h3;exact⟨a,b,Z,h1,h3⟩
theorem qs{ns:List Int}{f:Int->a9}{i:Nat}{d:a9}(h:(ns.map f)[i]? =some d):∃n,ns[i]? =some n/\f n=d:=by rw[cm]at h;cases e:ns[i]? with |none=>rw[e]at h;cases h |some n=>rw[e]at h;exact⟨n,Z,ck h⟩
theorem Gy{ns:List Int}{i:Nat}{x:V}{n:Int}(h:(ns.map V.int)[i]? =some x)(e:ns[i]? =some n):x= .int n:=by rw[cm,e]at h;exact(ck h).symm
open Wk
theorem Cw:dD "tuple" "tuple"=true:=by decide
def eZ(rs es:List Int):a9:=.tuple (.tuple (rs.map PyData.int)::es.map PyData.int)
theorem qv(rs es:List Int):dW (eZ rs es)=true:=by simp[eZ,dW,cF,jI]
theorem qt{H:Hp}{v:V}{rs es:List Int}(h:RD K H v (eZ rs es)):∃a b ys,v= .ref a/\aL K H a (.ref b::ys)/\aL K H b (rs.map V.int):=by obtain⟨a,xs,rfl,h1,h2⟩:=h.cD;obtain⟨x1,r1,rfl,e1,h2⟩:=h2.cons_inv;obtain⟨b,ys,rfl,h3,h4⟩:=e1.cD;rw[h4.gK]at h3;exact⟨a,b,r1,Z,h1,h3⟩
structure mw(rs:List Int):Prop where
 len:rs.length=2\/rs.length=3
 rl:∀z∈rs,1<=z/\z<=100
def bA(pl:List Int):a9:=.tuple (pl.map PyData.int)
theorem jE(pl:List Int):dW (bA pl)=true:=by rw[bA,dW];exact jI pl
theorem ud(pl:List Int):cg 1 (bA pl):=cY.tup λd hd=>by obtain⟨a,_,rfl⟩:=jx.mp hd;exact .int _
theorem lR{H:Hp}{v:V}{pl:List Int}(h:RD K H v (bA pl)):∃a,v= .ref a/\aL K H a (pl.map V.int):=by obtain⟨a,xs,rfl,h1,h2⟩:=h.cD;rw[h2.gK]at h1;exact⟨a,Z,h1⟩
theorem nr{H:Hp}{a:Addr}{pl:List Int}(h:aL K H a (pl.map V.int)):RD K H (.ref a) (bA pl):=dF h (ng pl)
inductive M3(K:a6)(vs:List V)(H:Hp)(Q:VK):Prop |mk (p:_)(h0:vs=[.ref p])(h1:dP H p)(h2:∀v rs es H',RD K H' v (eZ rs es)->mw rs->aH p H H'->Q v H')
def yf(K:a6):Sp:=λvs H Q _=>M3 K vs H Q
abbrev tm:Stmt:=top 38
theorem yC:bp ["_law_bag_here","_law_axes","_law_far","_law_rails","_law_bounds"] ["_law_bag_here"] (aO tm):=bT bf
theorem Fv(F:FA K mg "_law_machine" tm)(B:bI mg)(cj:aP P w K mg ag "_law_take" 1 iR):aP P w K mg ag "_law_machine" 2 (yf K):=by
 refine F.has yC (λvs H Q E h=>?_) (λ_ _ _ _ _ _=>iD λ_=>rfl) (λf ao A outer s H vs Q E hr h=>?_)
 ·obtain⟨p,rfl,_⟩:=h
  rfl
 ·obtain⟨p,rfl,bg,k⟩:=h
  have nd:=yC.nd;refine⟨_,(aE (pS 1 nd (ba cQ ay (pf cj hr (ah (pv 0) (ah ay ak))))) (aE (pS 2 nd (px K (fB (ah ay (ah ay ak))) (pf cj hr (ah (pv 0) (ah ay ak))))) (aE (pS 3 nd (gk (x:="tuple") (gB K Z) Z (B.at "tuple") fZ (ah (fK (N:=["_law_axis","_law_bag_here","_law_far"]) (js:=[none,some 0,some 2]) rfl rfl rfl (kA rfl (B.at "range") (ah (pv 1) ak)) (λ_ _ _ _ _=>(bB 0 (show List.Nodup (["_law_axis","_law_bag_here","_law_far"]:List Str) by decide+kernel))) (λ_ _ _ _ _=>eX) (λ_ _ _ _ _=>(ba cQ ay (pf cj hr (ah (pv 1) (ah (pv 2) ak)))))) ak))) (aE (pS 4 nd (gk (x:="tuple") (gB K Z) Z (B.at "tuple") fZ (ah (fK (N:=["_law_k","_law_bag_here"]) (js:=[none,some 0]) rfl rfl rfl (kA rfl (B.at "range") (ah ay ak)) (λ_ _ _ _ _=>(bB 0 (dX aj))) (λ_ _ _ _ _=>eX) (λ_ _ _ _ _=>(ba cQ ay (pf cj hr (ah (pv 1) (ah ay ak)))))) ak))) (aJ (bc (ba (Be K Z) (ba (Be K Z) (hZ (ah (pv 3) ak)) (pv 4)) (hZ (ah (ba cQ ay (pf cj hr (ah (pv 0) (ah ay ak)))) ak))))))))),?_⟩;refine⟨_,Z,p,2,Z,bg,aj,aj,λt0 H1 MW MV b1=>?_⟩;refine⟨_,_,Z,Z,?_⟩;refine⟨cE Z,λl H2 nw=>?_⟩;have b2:aH p H1 H2:=.cy b1.aK nw.same;have GO:l≠p:=λe=>b1.aK.ne (e▸nw.no);refine⟨_,Z,p,2,Z,b2.aK,aj,aj,λi H3 i0 i1 b3=>?_⟩;obtain⟨qG,mf,ef⟩:=Hl [100,20] i0 i1;have f1:1<=qG/\qG<=100:=by
   rcases bR.mp mf with rfl|mf
   ·exact⟨aj,aj⟩
   rcases bR.mp mf with rfl|mf
   ·exact⟨aj,aj⟩
   ·exact(dh mf).elim
  refine .inl ⟨l,_,_,_,Z,Z,aF.of (b3.same _ _ GO nw.at'),ef,?_⟩;refine⟨_,Z,_,Z,aQ,aQ,λD H4 n4=>?_⟩;have hN:(2+t0).toNat<=1000:=by omega
  refine vY (2+t0).toNat [some (.ref p),some (.int qG)] n4 b3.aK hN (λi=>.int (0+(i:Int))) (λi H5 hi b5=>⟨hi,λy H6 ⟨e1,e2⟩=>⟨e1,e2⟩⟩) (λH5 b5=>aU _) (λz=>1<=z/\z<=100) ?_ ?_
  ·intro i H5 Q' hi b5 hq
   refine⟨_,Z,_,Z,p,qG,Z,b5.aK,f1.1,aQ,λz H6 z0 z1 b6=>?_⟩;exact⟨_,_,Z,Z,hq _ _ ⟨aQ,aQ⟩ b6⟩
  intro H5 rs b5 d5 lr pr;refine⟨D,_,Z,.inl ⟨aF.of d5,λq H6 n6=>?_⟩⟩;have b6:aH p H5 H6:=.cy b5.aK n6.same;have aR:AD K p 1 H6 (.ref q) (.tuple (rs.map PyData.int)):=AD.nE (wy rs) n6 b5.aK.ne;refine⟨3,Z,aj,aj,λD2 H7 n7=>?_⟩;refine vY 3 [some (.ref p)] n7 b6.aK aj (λi=>.int (0+(i:Int))) (λi H8 hi b8=>⟨hi,λy H9 ⟨e1,e2⟩=>⟨e1,e2⟩⟩) (λH8 b8=>aU _) (λz=>True) ?_ ?_
  ·intro i H8 Q' hi b8 hq
   refine⟨_,Z,p,50,Z,b8.aK,aj,aj,λz H9 z0 z1 b9=>?_⟩;exact⟨_,_,Z,Z,hq _ _ trivial b9⟩
  intro H8 bs b8 d8 lb _;refine⟨D2,_,Z,.inl ⟨aF.of d8,λq2 H9 n9=>?_⟩⟩;have b9:aH p H8 H9:=.cy b8.aK n9.same;have aB:AD K p 1 H9 (.ref q2) (.tuple (bs.map PyData.int)):=AD.nE (wy bs) n9 b8.aK.ne;have Lm:=aR.go (b8.trans b9).sd;refine⟨_,Z,cE Z,λt1 fV zT=>?_⟩;have jX:aH p H9 fV:=.cy b9.aK zT.same;refine⟨_,Z,p,1,_,_,jX.aK.ne,AD.nE (.one Lm) zT b9.aK.ne,(aB.go jX.sd).le aj,sP _ ?_,λv1 eu dj Lp=>?_⟩
  ·rw[br,lb];exact xp rfl
  have Bu:aH p fV eu:=.cy jX.aK dj;refine⟨_,Z,p,100,Z,Bu.aK,aj,aj,λz rn z0 z1 iC=>?_⟩;refine⟨_,_,Z,Z,cE Z,λt2 oX nK=>?_⟩;have lh:aH p rn oX:=.cy iC.aK nK.same;refine⟨p,1,_,_,lh.aK.ne,Lp.go (iC.trans lh).sd,AD.nE (.one (.int _)) nK iC.aK.ne,sP _ ?_,λv2 wQ eE Lo=>?_⟩
  ·rw[fy,br,lb];exact xp rfl
  have mm:aH p oX wQ:=.cy lh.aK eE;have rd:=Lo.DW;have ed:([PyData.tuple (rs.map PyData.int)]++bs.map PyData.int++[PyData.int (1+z)])=PyData.tuple (rs.map PyData.int)::(bs++[1+z]).map PyData.int:=by simp
  rw[ed]at rd;exact k v2 rs (bs++[1+z]) wQ rd ⟨aQ,pr⟩ (b1.trans (b2.trans (b3.trans (b5.trans (b6.trans (b8.trans (b9.trans (jX.trans (Bu.trans (iC.trans (lh.trans mm)))))))))))
inductive LY(K:a6)(vs:List V)(H:Hp)(Q:VK):Prop |mk (p:_)(m:_)(rs:_)(es:_)(h0:vs=[.ref p,m])(h1:dP H p)(h2:RD K H m (eZ rs es))(h3:mw rs)(h4:∀v pl H',RD K H' v (bA pl)->mr rs pl->aH p H H'->Q v H')
def yc(K:a6):Sp:=λvs H Q _=>LY K vs H Q
abbrev t9:Stmt:=top 39
theorem yz:bp ["_law_bag_here","_law_machine_here"] ["_law_bag_here","_law_machine_here"] (aO t9):=bT bf
theorem Fp(F:FA K mg "_law_place" t9)(B:bI mg)(cj:aP P w K mg ag "_law_take" 1 iR):aP P w K mg ag "_law_place" 2 (yc K):=by
 refine F.has yz (λvs H Q E h=>?_) (λ_ _ _ _ _ _=>eO λ_ _=>rfl) (λf ao A outer s H vs Q E hr h=>?_)
 ·obtain⟨p,m,rs,es,rfl,_⟩:=h
  rfl
 ·obtain⟨p,m,rs,es,rfl,bg,rm,dy,k⟩:=h
  have nd:=yz.nd;refine⟨_,(aJ (bc (gk (x:="tuple") (gB K Z) Z (B.at "tuple") fZ (ah (fK (N:=["_law_rail","_law_bag_here"]) (js:=[none,some 0]) rfl rfl rfl (kB K rfl (px K (pv 1) ay)) (λ_ _ _ _ _=>(bB 0 (dX aj))) (λ_ _ _ _ _=>eX) (λ_ _ _ _ _=>(pf cj hr (ah (pv 1) (ah (ba cQ (pv 0) ay) ak))))) ak)))),?_⟩;obtain⟨ma,mb,ys,rfl,j9,fD⟩:=qt rm;have lr:=dy.len;refine⟨_,Z,.inr ⟨ma,_,0,.ref mb,Z,Z,j9,ek (dR 0) Z,mb,Z,⟨_,fD⟩,λD H1 n1=>?_⟩⟩;refine B6 (K:=K) (J:=jl K mb) (p:=p) (H:=H) rs.length _ n1 bg aA (λi=>.int (rs.getD i 0)) (λi H2 hi b2=>?_) (λH2 b2=>?_) (λi d=>∃z r,d= .int z/\rs[i]? =some r/\0<=z/\z<=r) ?_ ?_
  ·have As:=fD.t (aH.t bg b2)
   have e:(rs.map V.int)[i]? =some (.int (rs.getD i 0)):=by rw[cm,List.getD_eq_getElem?_getD,bC hi];rfl
   exact⟨⟨_,_,As,e⟩,λy H3 ⟨e3,y3⟩=>⟨e3,by have:=y3 _ As;rw[e]at this;exact(ck this).symm⟩⟩
  ·exact⟨_,fD.t (aH.t bg b2),by rw[br];exact aU _⟩
  ·intro i H2 Q' hi b2 hq
   have er:rs[i]? =some (rs.getD i 0):=by rw[List.getD_eq_getElem?_getD,bC hi];rfl
   obtain⟨r0,r1⟩:=dy.rl _ (jw er);refine⟨_,Z,_,Z,_,_,Z,Z,p,_,Z,b2.aK,aA,aA,λz H3 z0 z1 b3=>?_⟩;exact hq _ _ _ ⟨z,_,Z,er,z0,aA⟩ Z (dw z) b3
  ·intro H2 ys ds b2 d2 r2 l2 nl pd
   have eK:∃pl:List Int,ds=pl.map PyData.int/\mr rs pl:=by
    have key:∀(ds:List a9),(∀d∈ds,∃z:Int,d= .int z)->∃pl:List Int,ds=pl.map PyData.int:=by intro ds;induction ds with |nil=>exact λ_=>⟨[],Z⟩ |cons d ds ih=>intro h;obtain⟨z,rfl⟩:=h d (.head _);obtain⟨pl,rfl⟩:=ih λx hx=>h x (.tail _ hx);exact⟨z::pl,Z⟩
    obtain⟨pl,rfl⟩:=key ds λd hd=>by obtain⟨i,hi⟩:=kj.mp hd;obtain⟨z,_,e,_⟩:=pd i d hi;exact⟨z,e⟩
    refine⟨pl,Z,by simpa using l2,λi x r e1 e2=>?_⟩;obtain⟨z,r',e,er,h0,h1⟩:=pd i (.int x) (by rw[cm,e1];rfl);cases e;rw[e2]at er;cases er;exact⟨h0,h1⟩
   obtain⟨pl,rfl,on⟩:=eK;refine⟨D,_,Z,.inl ⟨aF.of d2,λt H3 n3=>?_⟩⟩;have et:=n3.at';rw[r2.gK]at et;exact k (.ref t) pl H3 (nr (aL.of et)) on (b2.trans (.cy b2.aK n3.same))
def fc(d:a9)(o:Option (List Int)):Prop:=(∃ns sp,d=fL ns sp/\o=some ns)\/∃w x,d= .tuple [.str w,x]/\(w="wait"\/w="tool"\/w="mark")/\dW x=true/\o=none
theorem fc.no{d:a9}{o:Option (List Int)}(h:fc d o):dW d=true:=by
 rcases h with⟨ns,sp,rfl,_⟩|⟨w,x,rfl,_,h,_⟩
 ·exact GQ _ _
 ·simp[dW,cF,h]
theorem m5{H:Hp}{v:V}{d:a9}{o:Option (List Int)}(h:RD K H v d)(i:fc d o):∃a w ys,v= .ref a/\aL K H a (.str w::ys)/\(PyData.eqv (.str w) (.str "line")=o.isSome)/\SeqAt.shaped (.str w)=true:=by
 rcases i with⟨ns,sp,rfl,rfl⟩|⟨w,x,rfl,hw,_,rfl⟩
 ·obtain⟨a,b,rfl,h1,_⟩:=lX h
  exact⟨a,_,_,Z,h1,(by show PyData.eqv (.str "line") (.str "line")=true;decide+kernel),bf⟩
 ·obtain⟨a,xs,rfl,h1,h2⟩:=h.cD
  obtain⟨x1,r1,rfl,e1,h2⟩:=h2.cons_inv;cases e1.str_inv;refine⟨a,w,r1,Z,h1,?_,?_⟩
  ·show PyData.eqv (.str w) (.str "line")=false
   rcases hw with rfl|rfl|rfl<;>decide+kernel
  ·rcases hw with rfl|rfl|rfl<;>decide+kernel
theorem lY:SeqAt.shaped (.str "line")=true:=by decide+kernel
inductive LQ(K:a6)(vs:List V)(H:Hp)(Q:VK):Prop |mk (pw:_)(iv:_)(pl:_)(d:_)(o:_)(h0:vs=[pw,iv])(h1:RD K H pw (bA pl))(h2:RD K H iv d)(h3:fc d o)(h4:(∀ns,o=some ns->ns.length=pl.length))(h5:pl.length<=1000)(h6:∀v' H',RD K H' v' (bA (behind pl o))->au H H'->Q v' H')
def gE(K:a6):Sp:=λvs H Q _=>LQ K vs H Q
abbrev sW:Stmt:=top 43
theorem yt:bp ["_law_here","_law_item_here"] ["_law_here","_law_item_here"] (aO sW):=bT bf
theorem Ff(F:FA K mg "_law_there" sW)(B:bI mg):aP P w K mg ag "_law_there" 1 (gE K):=by
 refine F.has yt (λvs H Q E h=>?_) (λ_ _ _ _ _ _=>eO λ_ _=>rfl) (λf ao A outer s H vs Q E hr h=>?_)
 ·obtain⟨pw,iv,pl,d,o,rfl,_⟩:=h
  rfl
 ·obtain⟨pw,iv,pl,d,o,rfl,rp,ri,it,hl,hz,k⟩:=h
  have nd:=yt.nd;refine⟨_,(aE (bP (cu (gI K Z hr.units) (px K (pv 1) ay) cV (bG _)) (aJ (bc (pv 0))) bO) (aJ (bc (gk (x:="tuple") (gB K Z) Z (B.at "tuple") fZ (ah (fK (N:=["_law_at","_law_step"]) (js:=[none,none]) rfl rfl rfl (nu K rfl false false rfl (B.at "zip") (ah (pv 0) (ah (px K (pv 1) ay) ak))) (λ_ _ _ _ _=>(iU K rfl (n:=2) rfl (cU (bB 0 (dX aj)) (cU (bB 1 (dX aj)) hX)))) (λ_ _ _ _ _=>eX) (λ_ _ _ _ _=>(ba cQ (pv 0) (pv 1)))) ak))))),?_⟩;obtain⟨a,wd,ys,rfl,h1,ew,sw⟩:=m5 ri it;refine⟨_,Z,.inr ⟨a,_,0,.str wd,Z,Z,h1,ek (dR 0) Z,.inr ⟨_,_,cq _,cq _,sw,lY,_,Z,?_⟩⟩⟩;rw[ew];rcases it with⟨ns,sp,rfl,rfl⟩|⟨w',x,rfl,hw,_,rfl⟩
  ·refine bz ?_
   obtain⟨a',b,e,ha,hb⟩:=lX ri;cases e;obtain⟨pa,rfl,hp⟩:=lR rp;have ln:=hl ns rfl;refine⟨_,Z,_,Z,.inr ⟨a,_,1,.ref b,Z,Z,ha,Z,pa,b,Z,⟨_,hp⟩,⟨_,hb⟩,λD H1 n1=>?_⟩⟩;refine B4 (K:=K) (b1:=false) (b2:=false) (xs:=pl.map V.int) (ys:=ns.map V.int) (ds:=(cH pl ns).map PyData.int) [] rfl hp hb n1 (by simp[fT ln,ln]) (by rw[br,fT ln];exact hz) (jI _) ?_ ?_
   ·intro i x y d H2 Q' ex ey ed s2 hq
    obtain⟨m,em,rfl⟩:=qs ed;rw[cm]at ex ey;cases e1:pl[i]? with |none=>rw[e1]at ex;cases ex |some u=>cases e2:ns[i]? with |none=>rw[e2]at ey;cases ey |some v=>rw[e1]at ex;rw[e2]at ey;cases ex;cases ey;rw[oN e1 e2]at em;cases em;exact⟨_,Z,_,Z,_,_,Z,Z,hq _ _ (au.refl _) (dw _)⟩
   ·intro H2 zs s2 d2 r2
    refine⟨D,_,Z,.inl ⟨aF.of d2,λt H3 n3=>?_⟩⟩;have et:=n3.at';rw[r2.gK]at et;exact k (.ref t) H3 (nr (aL.of et)) (s2.trans n3.same)
  ·refine bN ?_
   exact⟨_,Z,k pw H rp (au.refl _)⟩
inductive Ma(K:a6)(vs:List V)(H:Hp)(Q:VK):Prop |mk (v:_)(d:_)(o:_)(h0:vs=[v])(h1:RD K H v d)(h2:fc d o)(h3:Q (.bl o.isSome) H)
def pN(K:a6):Sp:=λvs H Q _=>Ma K vs H Q
abbrev pW:Stmt:=top 20
theorem pR:bp ["item"] ["item"] (aO pW):=bT bf
theorem FE(F:FA K mg "is_line" pW)(B:bI mg):aP P w K mg ag "is_line" 1 (pN K):=by
 refine F.has pR (λvs H Q E h=>?_) (λ_ _ _ _ _ _=>iD λ_=>rfl) (λf ao A outer s H vs Q E hr h=>?_)
 ·obtain⟨v,d,o,rfl,_⟩:=h
  rfl
 ·obtain⟨v,d,o,rfl,ri,it,k⟩:=h
  have nd:=pR.nd;refine⟨_,(aJ (bc (gG (eM K Z hr.units) (px K (pv 0) ay) cV (bG _)))),?_⟩;obtain⟨a,wd,ys,rfl,h1,ew,sw⟩:=m5 ri it;refine⟨_,Z,.inr ⟨a,_,0,.str wd,Z,Z,h1,ek (dR 0) Z,.inr ⟨_,_,cq _,cq _,sw,lY,?_⟩⟩⟩;rw[ew];exact k
inductive M1(K:a6)(vs:List V)(H:Hp)(Q:VK):Prop |mk (pw:_)(b:_)(pl:_)(ns:_)(h0:vs=[pw,.ref b])(h1:RD K H pw (bA pl))(h2:aL K H b (ns.map V.int))(h3:ns.length=pl.length)(h4:pl.length<=1000)(h5:∀v' H',RD K H' v' (bA (cH pl ns))->au H H'->Q v' H')
def pL(K:a6):Sp:=λvs H Q _=>M1 K vs H Q
abbrev pV:Stmt:=top 22
theorem pQ:bp ["place","steps"] ["place","steps"] (aO pV):=bT bf
theorem Fu(F:FA K mg "moved" pV)(B:bI mg):aP P w K mg ag "moved" 1 (pL K):=by
 refine F.has pQ (λvs H Q E h=>?_) (λ_ _ _ _ _ _=>eO λ_ _=>rfl) (λf ao A outer s H vs Q E hr h=>?_)
 ·obtain⟨pw,b,pl,ns,rfl,_⟩:=h
  rfl
 ·obtain⟨pw,b,pl,ns,rfl,rp,hb,ln,hz,k⟩:=h
  have nd:=pQ.nd;refine⟨_,(aJ (bc (gk (x:="tuple") (gB K Z) Z (B.at "tuple") fZ (ah (fK (N:=["number","step"]) (js:=[none,none]) rfl rfl rfl (nu K rfl false false rfl (B.at "zip") (ah (pv 0) (ah (pv 1) ak))) (λ_ _ _ _ _=>(iU K rfl (n:=2) rfl (cU (bB 0 (dX aj)) (cU (bB 1 (dX aj)) hX)))) (λ_ _ _ _ _=>eX) (λ_ _ _ _ _=>(ba cQ (pv 0) (pv 1)))) ak)))),?_⟩;obtain⟨pa,rfl,hp⟩:=lR rp;refine⟨_,Z,_,Z,pa,b,Z,⟨_,hp⟩,⟨_,hb⟩,λD H1 n1=>?_⟩;refine B4 (K:=K) (b1:=false) (b2:=false) (xs:=pl.map V.int) (ys:=ns.map V.int) (ds:=(cH pl ns).map PyData.int) [] rfl hp hb n1 (by simp[fT ln,ln]) (by rw[br,fT ln];exact hz) (jI _) ?_ ?_
  ·intro i x y d H2 Q' ex ey ed s2 hq
   obtain⟨m,em,rfl⟩:=qs ed;rw[cm]at ex ey;cases e1:pl[i]? with |none=>rw[e1]at ex;cases ex |some u=>cases e2:ns[i]? with |none=>rw[e2]at ey;cases ey |some v=>rw[e1]at ex;rw[e2]at ey;cases ex;cases ey;rw[oN e1 e2]at em;cases em;exact⟨_,Z,_,Z,_,_,Z,Z,hq _ _ (au.refl _) (dw _)⟩
  ·intro H2 zs s2 d2 r2
   refine⟨D,_,Z,.inl ⟨aF.of d2,λt H3 n3=>?_⟩⟩;have et:=n3.at';rw[r2.gK]at et;exact k (.ref t) H3 (nr (aL.of et)) (s2.trans n3.same)
abbrev pX:Stmt:=top 21
theorem pT:bp ["place","item"] ["place","item"] (aO pX):=bT bf
theorem FP(F:FA K mg "place_behind" pX)(B:bI mg)(vg:aP P w K mg ag "is_line" 1 (pN K))(ve:aP P w K mg ag "moved" 1 (pL K)):aP P w K mg ag "place_behind" 2 (gE K):=by
 refine F.has pT (λvs H Q E h=>?_) (λ_ _ _ _ _ _=>eO λ_ _=>rfl) (λf ao A outer s H vs Q E hr h=>?_)
 ·obtain⟨pw,iv,pl,d,o,rfl,_⟩:=h
  rfl
 ·obtain⟨pw,iv,pl,d,o,rfl,rp,ri,it,hl,hz,k⟩:=h
  have nd:=pT.nd;refine⟨_,(aJ (bc (qi (dG (pf vg hr (ah (pv 1) ak))) (pf ve hr (ah (pv 0) (ah (px K (pv 1) ay) ak))) (pv 0)))),?_⟩;refine⟨_,Z,iv,d,o,Z,ri,it,?_⟩;rcases it with⟨ns,sp,rfl,rfl⟩|⟨w',x,rfl,hw,_,rfl⟩
  ·refine⟨_,Z,bN ?_⟩
   obtain⟨a,b,rfl,ha,hb⟩:=lX ri;have ln:=hl ns rfl;exact⟨_,Z,_,Z,.inr ⟨a,_,1,.ref b,Z,Z,ha,Z,pw,b,pl,ns,Z,rp,hb,ln,hz,λv' H' r s=>k v' H' r s⟩⟩
  ·refine⟨_,Z,bz ?_⟩
   exact⟨_,Z,k pw H rp (au.refl _)⟩
inductive M9(K:a6)(vs:List V)(H:Hp)(Q:VK):Prop |mk (m:_)(v:_)(rs:_)(es:_)(pl:_)(h0:vs=[m,v])(h1:RD K H m (eZ rs es))(h2:RD K H v (bA pl))(h3:pl.length=rs.length)(h4:rs.length<=1000)(h5:∀H',au H H'->Q (.bl (bK rs pl)) H')
def pM(K:a6):Sp:=λvs H Q _=>M9 K vs H Q
abbrev tw:Stmt:=top 10
theorem yG:bp ["machine","thing","rails"] ["machine","thing"] (aO tw):=bT bf
theorem FC(F:FA K mg "is_place" tw)(B:bI mg)(kR:aP P w K mg ag "is_whole_within" 2 (lL K)):aP P w K mg ag "is_place" 3 (pM K):=by
 refine F.has yG (λvs H Q E h=>?_) (λ_ _ _ _ _ _=>eO λ_ _=>rfl) (λf ao A outer s H vs Q E hr h=>?_)
 ·obtain⟨m,v,rs,es,pl,rfl,_⟩:=h
  rfl
 ·obtain⟨m,v,rs,es,pl,rfl,rm,rv,hl,hz,k⟩:=h
  have nd:=yG.nd;refine⟨_,(aE (pS 2 nd (px K (pv 0) ay)) (aE (bP (PW.pt (kx (gj (dG (i8 K B (ah (pv 1) (ah (i6 (x:="tuple") (v:=.ty "tuple") Z (B.at "tuple") fZ rfl) ak))))) (ku (cu (gI K rfl hr.units) (eY K B (ah (pv 1) ak)) (eY K B (ah (pv 2) ak)) (bG _))))) (aJ (bc gH)) bO) (aJ (bc (dH (x:="all") (qT K Z Z) Z (B.at "all") xl (ah (fK (N:=["number","rail"]) (js:=[none,none]) rfl rfl rfl (nu K rfl false false rfl (B.at "zip") (ah (pv 1) (ah (pv 2) ak))) (λ_ _ _ _ _=>(iU K rfl (n:=2) rfl (cU (bB 0 (dX aj)) (cU (bB 1 (dX aj)) hX)))) (λ_ _ _ _ _=>eX) (λ_ _ _ _ _=>(pf kR hr (ah (pv 0) (ah ay (ah (pv 1) ak)))))) ak)))))),?_⟩;obtain⟨ma,mb,ys,rfl,j9,fD⟩:=qt rm;obtain⟨a,rfl,ha⟩:=lR rv;refine⟨_,Z,.inr ⟨ma,_,0,.ref mb,Z,Z,j9,ek (dR 0) Z,?_⟩⟩;refine⟨_,Z,.inl ⟨_,"tuple","tuple",_,Z,.inr ⟨Z,_,ha⟩,aj,Cw,_,Z,bz ?_⟩⟩;refine⟨_,Z,a,_,Z,.inr ha,_,Z,mb,_,Z,.inr fD,.inl ⟨_,_,Z,Z,_,Z,?_⟩⟩;rw[eT (by rw[br,br,hl])];refine bz ?_;refine⟨_,Z,_,Z,a,mb,Z,⟨_,ha⟩,⟨_,fD⟩,λD H1 n1=>?_⟩;refine B7 (b1:=false) (b2:=false) (xs:=pl.map V.int) (ys:=rs.map V.int) (bs:=(pl.zip rs).map λp=>decide (0<=p.1)&&decide (p.1<=p.2)) [] rfl ha fD n1 (by simp) (by simp;omega) ?_ ?_
  ·intro i x y b H2 Q' ex ey eb s2 hq
   rw[cm]at ex ey eb;cases e1:pl[i]? with |none=>rw[e1]at ex;cases ex |some u=>cases e2:rs[i]? with |none=>rw[e2]at ey;cases ey |some v=>rw[e1]at ex;rw[e2]at ey;rw[(rO (z:=(u,v))).mpr ⟨e1,e2⟩]at eb;cases ex;cases ey;cases eb;exact⟨_,Z,_,Z,_,.int u,0,v,Z,dw u,hq _ (au.refl _)⟩
  ·intro H2 s2 d2
   refine⟨D,_,Z,aF.of d2,?_⟩;have e:((pl.zip rs).map λp=>decide (0<=p.1)&&decide (p.1<=p.2)).all id=bK rs pl:=by rw[xw];rfl
   rw[e];exact k H2 s2
end
end Lw
set_option exponentiation.threshold 6000
namespace Lw
open PySem PySem.Spec PyProof.Rows L2 Ln Wk
section
variable {P:a8}{w:World}{K:a6}{mg:aM}{ag:Heap}
theorem xU{H:Hp}:∀{xs:List V}{zs:List Str},aw K H xs (zs.map PyData.str)->xs=zs.map V.str |xs,[],h=>h.nil_inv |xs,n::ns,h=>by obtain⟨y,ys,rfl,h1,h2⟩:=h.cons_inv;rw[h1.str_inv,xU h2];rfl
def eP:Str:="abcdefghijklmnopqrstuvwxyz"
theorem Lj:eP.cps.toList.length=26:=by decide+kernel
theorem GD{H:Hp}{v:V}{rs:List Int}{es:List a9}(h:RD K H v (.tuple (.tuple (rs.map PyData.int)::es))):∃a b ys,v= .ref a/\aL K H a (.ref b::ys)/\aL K H b (rs.map V.int):=by obtain⟨a,xs,rfl,h1,h2⟩:=h.cD;obtain⟨x1,r1,rfl,e1,h2⟩:=h2.cons_inv;obtain⟨b,ys,rfl,h3,h4⟩:=e1.cD;rw[h4.gK]at h3;exact⟨a,b,r1,Z,h1,h3⟩
def dk(z:Str):a9->Bool | .str x=>x==z |_=>false
theorem qI(z:Str)(d:a9):PyData.eqv d (.str z)=dk z d:=by cases d<;>simp[PyData.eqv,dk]
theorem AU(z:Str)(d:a9):PyData.eqv (.str z) d=dk z d:=by cases d<;>simp[PyData.eqv,dk];rw[rY];simp;exact eq_comm
theorem Dw(d:a9):(∃z,d= .str z)\/(dD (hW d) "str"=false/\∀z,d≠ .str z):=by cases d with |str z=>exact .inl ⟨z,Z⟩ |_=>exact .inr ⟨by simp[hW];decide,λ_ z=>nomatch z⟩
theorem Cy:dD "str" "str"=true:=by decide
def uM(d:a9):Bool:=dk "up" d||dk "down" d
def lV(c:Nat):Bool:=decide (97<=c)&&decide (c<=122)
def isNm:a9->Bool | .str x=>(decide (1<=x.length)&&decide (x.length<=8))&&x.cps.toList.all lV |_=>false
def iZ(wd v:a9):Bool:=if dk "wait" wd then eI 1 1000 v else if dk "tool" wd then uM v else dk "mark" wd&&isNm v
def nB:a9->Bool | .int i=>i !=0 |_=>true
def kF(n:Nat):a9->Bool | .tuple ds=>(ds.length==n&&ds.all (eI (-100) 100))&&ds.any nB |_=>false
def kM(n:Nat):a9->Bool | .tuple [wd,a,b]=>dk "line" wd&&(kF n a&&eI 1 20 b) | .tuple [wd,v]=>iZ wd v |_=>false
def jC:a9->Bool | .str x=>decide (x.length<=900) |_=>true
def sS:a9->Bool | .tuple ds=>ds.all jC |_=>true
inductive LO(f:a9->Bool)(K:a6)(vs:List V)(H:Hp)(Q:VK):Prop |mk (v:_)(d:_)(h0:vs=[v])(h1:RD K H v d)(h2:jC d=true)(h3:∀H',au H H'->Q (.bl (f d)) H')
def y4(f:a9->Bool)(K:a6):Sp:=λvs H Q _=>LO f K vs H Q
theorem Dz{z:Str}(h:jC (.str z)=true):z.length<=900:=wY h
theorem zQ(n:Nat):decide ((1:Int)<=(n:Int))=decide (1<=n):=by rw[rY];simp;omega
theorem Gh(n:Nat):decide ((n:Int)<=8)=decide (n<=8):=by rw[rY];simp;omega
theorem Lb{l:List Nat}{f:Nat->Bool}:(l.map f).all id=l.all f:=by rw[xw];rfl
theorem Li:∀c<128,decide (c∈eP.cps.toList)=lV c:=by decide+kernel
theorem Ll:∀c∈eP.cps.toList,c<128:=by decide+kernel
theorem Lk(c:Nat):decide (c∈eP.cps.toList)=lV c:=by
 by_cases h:c<128
 ·exact Li c h
 ·rw[gv (λhc=>h (Ll c hc)),lV,gv (show¬c<=122 by omega),Bool.and_false]
abbrev tE:Stmt:=top 25
theorem yJ:bp ["thing"] ["thing"] (aO tE):=bT bf
theorem FG(F:FA K mg "is_name" tE)(B:bI mg)(IW:GV mg "LONGEST_NAME" (.int 8))(IX:GV mg "LETTERS" (.str eP)):aP P w K mg ag "is_name" 1 (y4 isNm K):=by
 refine F.has yJ (λvs H Q E h=>?_) (λ_ _ _ _ _ _=>iD λ_=>rfl) (λf ao A outer s H vs Q E hr h=>?_)
 ·obtain⟨v,d,rfl,_⟩:=h
  rfl
 ·obtain⟨v,d,rfl,rd,sh,k⟩:=h
  have nd:=yJ.nd;refine⟨_,(aE (bP (PW.pt (kx (gj (dG (i8 K B (ah (pv 0) (ah (i6 (x:="str") (v:=.ty "str") Z (B.at "str") PyProof.Rows.boot_str rfl) ak))))) (ku (gj (Ea kC kC ay (dH (x:="len") Kz rfl (B.at "len") PySem.boot_len (ah (pv 0) ak)) (i5 (x:="LONGEST_NAME") rfl IW)))))) (aJ (bc gH)) bO) (aJ (bc (dH (x:="all") (qT K Z Z) Z (B.at "all") xl (ah (fK (N:=["letter"]) (js:=[none]) rfl rfl rfl (Ep (pv 0)) (λ_ _ _ _ _=>(bB 0 (nH _))) (λ_ _ _ _ _=>eX) (λ_ _ _ _ _=>(gG EY (pv 0) (i5 (x:="LETTERS") rfl IX) (by with_unfolding_all rfl)))) ak))))),?_⟩;rcases Dw d with⟨z,rfl⟩|⟨ht,hn⟩
  ·refine⟨_,Z,.inl ⟨_,_,"str",true,Z,rd.ty,aj,Cy,_,Z,bz ?_⟩⟩
   cases rd.str_inv;have hl:=Dz sh;have k:∀H',au H H'->Q (.bl ((decide (1<=z.length)&&decide (z.length<=8))&&z.cps.toList.all lV)) H':=k;refine⟨_,Z,z,Z,fu hl aj,_,_,Z,Z,_,Z,?_⟩;refine dY (λh1=>?_) (λh1=>?_)
   ·rw[<-zQ,show decide ((1:Int)<=(z.length:Int))=true from h1,gy]at k
    refine⟨_,_,Z,Z,_,Z,?_⟩;rw[Gh];cases e8:decide (z.length<=8)with |false=>rw[e8,gz]at k;exact bN (k H (au.refl _)) |true=>
     rw[e8,gy]at k;refine bz ⟨_,Z,z,Z,λD H0 nw=>?_⟩;refine Ks (f:=lV) [] nw aA (λc H2 Q' hc s2 hq=>?_) (λH2 s2 d2=>?_)
     ·refine⟨_,Z,c,eP,Z,Z,?_⟩
      rw[Lk];exact hq _ (au.refl _)
     ·refine⟨D,_,Z,aF.of d2,?_⟩
      rw[Lb];exact k H2 s2
   ·rw[<-zQ,show decide ((1:Int)<=(z.length:Int))=false from rZ.mpr h1,gz,gz]at k
    exact⟨_,Z,bN (k H (au.refl _))⟩
  ·have e:isNm d=false:=by cases d<;>first|rfl|exact absurd rfl (hn _)
   rw[e]at k;refine⟨_,Z,.inl ⟨_,_,"str",false,Z,rd.ty,aj,ht,_,Z,bN ?_⟩⟩;exact k H (au.refl _)
inductive LU(K:a6)(vs:List V)(H:Hp)(Q:VK):Prop |mk (x:_)(v:_)(wd:_)(d:_)(h0:vs=[x,v])(h1:RD K H x wd)(h2:RD K H v d)(h3:cg 8 wd)(h4:cg 8 d)(h5:jC d=true)(h6:∀H',au H H'->Q (.bl (iZ wd d)) H')
def y8(K:a6):Sp:=λvs H Q _=>LU K vs H Q
theorem mV{d:a9}(h:cg 8 d):SeqAt.shaped d=true:=h.shaped aj
abbrev tD:Stmt:=top 24
theorem yI:bp ["word","value"] ["word","value"] (aO tD):=bT bf
theorem FF(F:FA K mg "is_short_item" tD)(B:bI mg)(IV:GV mg "LONGEST_WAIT" (.int 1000))(gS:GT K mg "SIDES" [.str "up",.str "down"])(kR:aP P w K mg ag "is_whole_within" 2 (lL K))(Ih:aP P w K mg ag "is_name" 1 (y4 isNm K)):aP P w K mg ag "is_short_item" 3 (y8 K):=by
 refine F.has yI (λvs H Q E h=>?_) (λ_ _ _ _ _ _=>eO λ_ _=>rfl) (λf ao A outer s H vs Q E hr h=>?_)
 ·obtain⟨x,v,wd,d,rfl,_⟩:=h
  rfl
 ·obtain⟨x,v,wd,d,rfl,tP,rd,um,da,sh,k⟩:=h
  have nd:=yI.nd;obtain⟨aS,IS,Dx⟩:=gS;refine⟨_,(aE (bP (cu (eM K Z hr.units) (pv 0) cV (bG _)) (aJ (bc (pf kR hr (ah (pv 1) (ah ay (ah (i5 (x:="LONGEST_WAIT") Z IV) ak)))))) bO) (aE (bP (cu (eM K Z hr.units) (pv 0) cV (bG _)) (aJ (bc (gG (Ho K Z (hr.Ct)) (pv 1) (i5 (x:="SIDES") Z IS) (by with_unfolding_all rfl)))) bO) (aJ (bc (ny (gG (eM K Z hr.units) (pv 0) cV (bG _)) (nv (pf Ih hr (ah (pv 1) ak)))))))),?_⟩;have k:∀H',au H H'->Q (.bl (if dk "wait" wd then eI 1 1000 d else if dk "tool" wd then uM d else dk "mark" wd&&isNm d)) H':=k;refine⟨_,Z,.inr ⟨_,_,tP,cq _,mV um,bf,_,Z,?_⟩⟩;rw[qI];cases e1:dk "wait" wd with |true=>rw[e1,aZ rfl]at k;exact bN ⟨_,Z,_,d,1,1000,Z,rd,k H (au.refl _)⟩ |false=>rw[e1,aY dS]at k;refine bz ⟨_,Z,.inr ⟨_,_,tP,cq _,mV um,bf,_,Z,?_⟩⟩;rw[qI];cases e2:dk "tool" wd with
   |true=>
    rw[e2,aZ rfl]at k;refine bN ⟨_,Z,aS,_,d,[.str "up",.str "down"],Z,Dx H,rd,bJ (cq _) (bJ (cq _) bW),mV da,?_,?_⟩
    ·intro e he
     rcases bR.mp he with rfl|he
     ·decide+kernel
     rcases bR.mp he with rfl|he
     ·decide+kernel
     ·exact(dh he).elim
    ·have e:([.str "up",.str "down"]:List a9).any (λe=>PyData.eqv e d)=uM d:=by rw[rT,rT,List.any_nil,AU,AU,Bool.or_false];rfl
     rw[e];exact k H (au.refl _) |false=>rw[e2,aY dS]at k;refine bz ⟨_,Z,.inr ⟨_,_,tP,cq _,mV um,bf,_,Z,?_⟩⟩;rw[qI];cases e3:dk "mark" wd with |true=>rw[e3,gy]at k;exact bN ⟨_,Z,_,d,Z,rd,sh,k⟩ |false=>rw[e3,gz]at k;exact bz (k H (au.refl _))
theorem G0(i:Int):(!decide (i=0))=(i !=0):=by rw[rY];simp
theorem Hn{lo hi:Int}{d:a9}(h:eI lo hi d=true):∃i,d= .int i:=by cases d<;>simp[eI]at h;exact⟨_,Z⟩
theorem any_map'{ds:List a9}{f:a9->Bool}:(ds.map f).any id=ds.any f:=by rw[List.any_map];rfl
inductive LS(K:a6)(vs:List V)(H:Hp)(Q:VK):Prop |mk (m:V)(v:V)(rs:List Int)(es:List a9)(d:a9)(h0:vs=[m,v])(h1:RD K H m ((.tuple (.tuple (rs.map PyData.int)::es))))(h2:RD K H v d)(h3:rs.length<=3)(h4:∀H',au H H'->Q (.bl (kF rs.length d)) H')
def y6(K:a6):Sp:=λvs H Q _=>LS K vs H Q
abbrev tL:Stmt:=top 23
theorem yQ:bp ["machine","thing","rails"] ["machine","thing"] (aO tL):=bT bf
theorem FR(F:FA K mg "are_steps" tL)(B:bI mg)(Az:GV mg "MOST_STEPS" (.int 100))(kR:aP P w K mg ag "is_whole_within" 2 (lL K)):aP P w K mg ag "are_steps" 3 (y6 K):=by
 refine F.has yQ (λvs H Q E h=>?_) (λ_ _ _ _ _ _=>eO λ_ _=>rfl) (λf ao A outer s H vs Q E hr h=>?_)
 ·obtain⟨m,v,rs,es,d,rfl,_⟩:=h
  rfl
 ·obtain⟨m,v,rs,es,d,rfl,rm,rd,l3,k⟩:=h
  have nd:=yQ.nd;refine⟨_,(aE (pS 2 nd (px K (pv 0) ay)) (aE (bP (PW.pt (kx (gj (dG (i8 K B (ah (pv 1) (ah (i6 (x:="tuple") (v:=.ty "tuple") Z (B.at "tuple") fZ rfl) ak))))) (ku (cu (gI K rfl hr.units) (eY K B (ah (pv 1) ak)) (eY K B (ah (pv 2) ak)) (bG _))))) (aJ (bc gH)) bO) (aE (bP (gj (dG (dH (x:="all") (qT K Z Z) Z (B.at "all") xl (ah (fK (N:=["step"]) (js:=[none]) rfl rfl rfl (kB K rfl (pv 1)) (λ_ _ _ _ _=>(bB 0 (nH _))) (λ_ _ _ _ _=>eX) (λ_ _ _ _ _=>(pf kR hr (ah (pv 0) (ah (iV iO (i5 (x:="MOST_STEPS") rfl Az)) (ah (i5 (x:="MOST_STEPS") rfl Az) ak)))))) ak)))) (aJ (bc gH)) bO) (aJ (bc (dH (x:="any") (La K Z Z) Z (B.at "any") C3 (ah (fK (N:=["step"]) (js:=[none]) rfl rfl rfl (kB K rfl (pv 1)) (λ_ _ _ _ _=>(bB 0 (nH _))) (λ_ _ _ _ _=>eX) (λ_ _ _ _ _=>(gG (gI K rfl hr.units) (pv 0) ay (bG _)))) ak))))))),?_⟩;obtain⟨am,ar,ym,rfl,hm,IP⟩:=GD rm;refine⟨_,Z,.inr ⟨am,_,0,_,Z,Z,hm,ek (dR 0) Z,?_⟩⟩;rcases xK d with⟨ds,rfl⟩|⟨ht,hn⟩
  ·refine⟨_,Z,.inl ⟨_,_,"tuple",true,Z,rd.ty,aj,pE,_,Z,bz ?_⟩⟩
   obtain⟨av,xs,rfl,hx,hd⟩:=rd.cD;have hl:=hd.length;refine⟨_,Z,av,_,Z,.inr hx,_,Z,ar,_,Z,.inr IP,.inl ⟨_,_,Z,Z,_,Z,?_⟩⟩;have k:∀H',au H H'->Q (.bl ((ds.length==rs.length&&ds.all (eI (-100) 100))&&ds.any nB)) H':=k;have e0:(!decide ((xs.length:Int)=((rs.map V.int).length:Int)))= !(ds.length==rs.length):=by rw[hl,br];congr 1;rw[rY];simp;lia
   rw[e0];cases e:(ds.length==rs.length)with |false=>rw[e,gz,gz]at k;exact bN (k H (au.refl _)) |true=>
    rw[e,gy]at k;refine bz ?_;have el:ds.length=rs.length:=cx.mp e;refine⟨_,Z,av,Z,⟨_,hx⟩,λD H0 nw=>?_⟩;refine B8 (xs:=xs) (bs:=ds.map (eI (-100) 100)) [] hx nw (by rw[br,hl]) aA ?_ ?_
    ·intro i x b H2 Q' ex eb s2 hq
     obtain⟨d,ed,rfl⟩:=zV eb;obtain⟨x',gY,rx⟩:=hd.get i ed;rw[ex]at gY;cases gY;exact⟨_,Z,_,Z,_,d,-100,100,Z,RD.mono s2 _ rx,hq _ (au.refl _)⟩
    ·intro H2 s2 d2
     refine⟨D,_,Z,aF.of d2,_,Z,?_⟩;rw[all_map];cases e1:ds.all (eI (-100) 100)with |false=>rw[e1,gz]at k;exact bN (k H2 s2) |true=>
      rw[e1,gy]at k;refine bz ⟨_,Z,av,Z,⟨_,hx.go s2⟩,λD2 H3 n3=>?_⟩;refine B8 (xs:=xs) (bs:=ds.map nB) [] (hx.go s2) n3 (by rw[br,hl]) aA ?_ ?_
      ·intro i x b H4 Q' ex eb s4 hq
       obtain⟨d,ed,rfl⟩:=zV eb;obtain⟨x',gY,rx⟩:=hd.get i ed;rw[ex]at gY;cases gY;obtain⟨z,rfl⟩:=Hn (du.mp e1 d (jw ed));cases rx.int_inv;refine⟨_,Z,.inl ⟨_,_,Z,Z,?_⟩⟩;show Q' (.bl (!decide (z=0))) H4;rw[G0];exact hq _ (au.refl _)
      ·intro H4 s4 d4
       refine⟨D2,_,Z,aF.of d4,?_⟩;rw[any_map'];exact k H4 (s2.trans s4)
  ·have e:kF rs.length d=false:=by cases d<;>first|rfl|exact absurd rfl (hn _)
   rw[e]at k;refine⟨_,Z,.inl ⟨_,_,"tuple",false,Z,rd.ty,aj,ht,_,Z,bN ?_⟩⟩;exact k H (au.refl _)
theorem item_cases(n:Nat)(d:a9):(∃wd a b,d= .tuple [wd,a,b])\/(∃wd v,d= .tuple [wd,v])\/(∃ds,d= .tuple ds/\ds.length≠3/\ds.length≠2/\kM n d=false)\/(dD (hW d) "tuple"=false/\kM n d=false):=by
 rcases xK d with⟨ds,rfl⟩|⟨ht,hn⟩
 ·match ds with |[r,a,b]=>exact .inl ⟨r,a,b,Z⟩ |[r,a]=>exact .inr (.inl ⟨r,a,Z⟩) |[]=>exact .inr (.inr (.inl ⟨_,Z,by simp,by simp,by simp[kM]⟩)) |[_]=>exact .inr (.inr (.inl ⟨_,Z,by simp,by simp,by simp[kM]⟩)) |_::_::_::_::_=>exact .inr (.inr (.inl ⟨_,Z,by simp,by simp,by simp[kM]⟩))
 ·exact .inr (.inr (.inr ⟨ht,by cases d<;>first|rfl|exact absurd rfl (hn _)⟩))
inductive M6(K:a6)(vs:List V)(H:Hp)(Q:VK):Prop |mk (m:V)(v:V)(rs:List Int)(es:List a9)(d:a9)(h0:vs=[m,v])(h1:RD K H m ((.tuple (.tuple (rs.map PyData.int)::es))))(h2:RD K H v d)(h3:rs.length<=3)(h4:cg 8 d)(h5:sS d=true)(h6:∀H',au H H'->Q (.bl (kM rs.length d)) H')
def sL(K:a6):Sp:=λvs H Q _=>M6 K vs H Q
theorem uo{ds:List a9}(h:cg 8 (.tuple ds)){d:a9}(hd:d∈ds):cg 8 d:=((cg.cD (n:=7) h) d hd).le aj
theorem DA{ds:List a9}(h:sS (.tuple ds)=true){d:a9}(hd:d∈ds):jC d=true:=du.mp (show ds.all jC=true from h) d hd
abbrev tF:Stmt:=top 18
theorem yK:bp ["machine","thing","word","steps","speed","value"] ["machine","thing"] (aO tF):=bT bf
theorem FH(F:FA K mg "is_item" tF)(B:bI mg)(IY:GV mg "GREATEST_SPEED" (.int 20))(kR:aP P w K mg ag "is_whole_within" 2 (lL K))(IM:aP P w K mg ag "are_steps" 3 (y6 K))(Ig:aP P w K mg ag "is_short_item" 3 (y8 K)):aP P w K mg ag "is_item" 4 (sL K):=by
 refine F.has yK (λvs H Q E h=>?_) (λ_ _ _ _ _ _=>eO λ_ _=>rfl) (λf ao A outer s H vs Q E hr h=>?_)
 ·obtain⟨m,v,rs,es,d,rfl,_⟩:=h
  rfl
 ·obtain⟨m,v,rs,es,d,rfl,rm,rd,l3,da,sh,k⟩:=h
  have nd:=yK.nd;refine⟨_,(aE (bP (gj (dG (i8 K B (ah (pv 1) (ah (i6 (x:="tuple") (v:=.ty "tuple") Z (B.at "tuple") fZ rfl) ak))))) (aJ (bc gH)) bO) (aE (bP (cu (eM K Z hr.units) (eY K B (ah (pv 1) ak)) ay (bG _)) (aE (kz (pv 1) (iU K Z (n:=3) Z (cU (bB 2 nd) (cU (bB 3 nd) (cU (bB 4 nd) hX))))) (aJ (bc (ny (gG (eM K Z hr.units) (pv 2) cV (bG _)) (ny (pf IM hr (ah (pv 0) (ah (pv 3) ak))) (nv (pf kR hr (ah (pv 4) (ah ay (ah (i5 (x:="GREATEST_SPEED") Z IY) ak)))))))))) bO) (aE (bP (cu (eM K Z hr.units) (eY K B (ah (pv 1) ak)) ay (bG _)) (aE (kz (pv 1) (iU K Z (n:=2) Z (cU (bB 2 nd) (cU (bB 5 nd) hX)))) (aJ (bc (pf Ig hr (ah (pv 2) (ah (pv 5) ak)))))) bO) (aJ (bc gH))))),?_⟩;rcases item_cases rs.length d with⟨wd,a,b,rfl⟩|⟨wd,a,rfl⟩|⟨ds,rfl,h3,h2,hf⟩|⟨ht,hf⟩
  ·refine⟨_,Z,.inl ⟨_,_,"tuple",true,Z,rd.ty,aj,pE,_,Z,bz ?_⟩⟩
   obtain⟨p,xs,rfl,hx,hd⟩:=rd.cD;obtain⟨u1,ys,rfl,r1,hd⟩:=hd.cons_inv;obtain⟨u2,ys,rfl,r2,hd⟩:=hd.cons_inv;obtain⟨u3,ys,rfl,r3,hd⟩:=hd.cons_inv;cases hd.nil_inv;have k:∀H',au H H'->Q (.bl (dk "line" wd&&(kF rs.length a&&eI 1 20 b))) H':=k;refine⟨_,Z,p,_,Z,.inr hx,.inl ⟨_,_,Z,Z,_,Z,bN ?_⟩⟩;refine⟨_,Z,p,_,Z,hx,Z,_,_,Z,_,_,Z,_,_,Z,Z,?_⟩;refine⟨_,Z,.inr ⟨_,_,r1,cq _,mV (uo da (by simp)),bf,_,Z,?_⟩⟩;rw[qI];cases e1:dk "line" wd with |false=>rw[e1,gz]at k;exact bz (k H (au.refl _)) |true=>rw[e1,gy]at k;refine bN ⟨_,Z,_,Z,_,_,rs,es,a,Z,rm,r2,l3,λH1 s1=>⟨_,Z,?_⟩⟩;cases e2:kF rs.length a with |false=>rw[e2,gz]at k;exact bz (k H1 s1) |true=>rw[e2,gy]at k;exact bN ⟨_,Z,_,b,1,20,Z,RD.mono s1 _ r3,k H1 s1⟩
  ·refine⟨_,Z,.inl ⟨_,_,"tuple",true,Z,rd.ty,aj,pE,_,Z,bz ?_⟩⟩
   obtain⟨p,xs,rfl,hx,hd⟩:=rd.cD;obtain⟨u1,ys,rfl,r1,hd⟩:=hd.cons_inv;obtain⟨u2,ys,rfl,r2,hd⟩:=hd.cons_inv;cases hd.nil_inv;have k:∀H',au H H'->Q (.bl (iZ wd a)) H':=k;refine⟨_,Z,p,_,Z,.inr hx,.inl ⟨_,_,Z,Z,_,Z,bz ?_⟩⟩;refine⟨_,Z,p,_,Z,.inr hx,.inl ⟨_,_,Z,Z,_,Z,bN ?_⟩⟩;refine⟨_,Z,p,_,Z,hx,Z,_,_,Z,_,_,Z,Z,?_⟩;exact⟨_,Z,_,Z,_,_,wd,a,Z,r1,r2,uo da (by simp),uo da (by simp),DA sh (by simp),k⟩
  ·rw[hf]at k
   refine⟨_,Z,.inl ⟨_,_,"tuple",true,Z,rd.ty,aj,pE,_,Z,bz ?_⟩⟩;obtain⟨p,xs,rfl,hx,hd⟩:=rd.cD;have hl:=hd.length;refine⟨_,Z,p,_,Z,.inr hx,.inl ⟨_,_,Z,Z,_,Z,?_⟩⟩;rw[show decide ((xs.length:Int)=3)=false from gv aA];refine bz ⟨_,Z,p,_,Z,.inr hx,.inl ⟨_,_,Z,Z,_,Z,?_⟩⟩;rw[show decide ((xs.length:Int)=2)=false from gv aA];exact bz (k H (au.refl _))
  ·rw[hf]at k
   refine⟨_,Z,.inl ⟨_,_,"tuple",false,Z,rd.ty,aj,ht,_,Z,bN ?_⟩⟩;exact k H (au.refl _)
def cM(z:Str):Prop:=∀c∈z.cps.toList,c<0x110000
theorem cM.app{a b:Str}(ha:cM a)(hb:cM b):cM (a++b):=λc hc=>by rw[BV,Ce,mH]at hc;exact hc.elim (ha c) (hb c)
theorem cM.joined{sep:Str}(hs:cM sep):∀l:List Str,(∀a∈l,cM a)->cM (PySem.Str.join sep l) |[],_=>λc hc=>by simp[PySem.Str.join,PySem.Str.empty]at hc |[x],h=>h x (.head _) |x::y::r,h=>((h x (.head _)).app hs).app (cM.joined hs (y::r) λa ha=>h a (.tail _ ha))
theorem cM.join{sep:Str}{l:List Str}(hs:cM sep)(h:∀a∈l,cM a):cM (Txt.join sep l):=by show cM (Builtin.Str.glued sep l);rw[StrLaws.glued_eq_join];exact cM.joined hs l h
theorem Fc{n:Nat}{z:Str}(h:cM z):cg n (.str z):=⟨by show PyData.strOk z=true;unfold PyData.strOk;rw[MQ];exact λc hc=>eT (h c (by simpa using hc)),dQ _⟩
theorem F8{n:Nat}{z:Str}(h:cg n (.str z)):cM z:=λc hc=>by have q:PyData.strOk z=true:=h.lay;unfold PyData.strOk at q;rw[MQ]at q;exact wY (q c (by simpa using hc))
theorem zH{z:Str}(h:z.cps.all (·<0x110000)=true):cM z:=F8 (n:=0) ⟨h,dQ _⟩
theorem xV:∀(ds:List a9),(∀d∈ds,∃z:Str,d= .str z/\z.length=1/\cM z/\z.cps.toList.all (λc=>decide (97<=c)&&decide (c<=122))=true)->∃zs:List Str,ds=zs.map PyData.str/\∀z∈zs,z.length=1/\cM z/\z.cps.toList.all (λc=>decide (97<=c)&&decide (c<=122))=true |[],_=>⟨[],Z,λ_ h=>nomatch h⟩ |d::ds,h=>by obtain⟨z,rfl,e⟩:=h d (.head _);obtain⟨zs,rfl,q⟩:=xV ds λx hx=>h x (.tail _ hx);exact⟨z::zs,Z,λy hy=>by
 rcases bR.mp hy with rfl|hy
 ·exact e
 ·exact q y hy⟩
theorem Lh:cM eP:=zH bf
def uD(c:Nat):Bool:=decide (97<=c)&&decide (c<=122)
def nJ(s:Str):Bool:=(decide (1<=s.length)&&decide (s.length<=8))&&s.cps.toList.all uD
def zD(w s:Str):Prop:=(w="tool"/\(s="up"\/s="down"))\/(w="mark"/\nJ s=true)
def Ls(d:a9):Prop:=(∃n,d= .tuple [.str "wait",.int n]/\1<=n/\n<=1000)\/∃w s,d= .tuple [.str w,.str s]/\(w="tool"\/w="mark")/\cg 0 (.str s)/\zD w s
theorem AG:∀l:List Str,(PySem.Str.join ("":Str) l).cps.toList=(l.map λz=>z.cps.toList).flatten
 |[]=>by simp[PySem.Str.join,PySem.Str.empty] |[x]=>by simp[PySem.Str.join] |x::y::r=>by
  show((x++("":Str))++PySem.Str.join ("":Str) (y::r)).cps.toList=_;rw[BV,BV,Ce,Ce,AG (y::r)];have:(("":Str)).cps.toList=[]:=by decide+kernel
  rw[this];simp
theorem Gi{l:List Str}(h1:1<=l.length)(h8:l.length<=8)(h:∀z∈l,z.length=1/\z.cps.toList.all uD=true):nJ (Txt.join ("":Str) l)=true:=by
 have e:(Txt.join ("":Str) l).cps.toList=(l.map λz=>z.cps.toList).flatten:=by show(Builtin.Str.glued ("":Str) l).cps.toList=_;rw[StrLaws.glued_eq_join];exact AG l
 have el:(Txt.join ("":Str) l).length=l.length:=by
  show(Txt.join ("":Str) l).cps.size=_;rw[<-mL,e,List.length_flatten,List.map_map];have:∀(l:List Str),(∀z∈l,z.length=1/\z.cps.toList.all uD=true)->(l.map (List.length∘λz=>z.cps.toList)).sum=l.length:=by intro l;induction l with |nil=>intro _;rfl |cons a r ih=>
   intro h;rw[rN,List.sum_cons,ih λz hz=>h z (.tail _ hz),iJ];have:=(h a (.head _)).1;have e2:(List.length∘λz:Str=>z.cps.toList) a=1:=by show a.cps.toList.length=1;rw[mL];exact this
   rw[e2,Nat.add_comm]
  exact this l h
 unfold nJ;rw[el,e,eT h1,eT h8,gy,gy,du];intro c hc;obtain⟨cs,je,cW⟩:=List.mem_flatten.mp hc;obtain⟨z,hz,rfl⟩:=jx.mp je;exact du.mp (h z hz).2 c cW
theorem L9:∀{ns:List Int},(∃z∈ns,z≠0)->(ns.map PyData.int).any nB=true:=λ{ns} ⟨z,hz,h⟩=>Cd.mpr ⟨.int z,jx.mpr ⟨z,hz,Z⟩,by show(z !=0)=true;simpa using h⟩
theorem Ld{ns:List Int}(h:∀z∈ns,(z.natAbs:Int)<=100):(ns.map PyData.int).all (eI (-100) 100)=true:=by rw[du];intro d hd;obtain⟨z,hz,rfl⟩:=jx.mp hd;have:=h z hz;show(decide (-100<=z)&&decide (z<=100))=true;rw[eT aQ,eT aQ];rfl
def jn(n:Nat)(d:a9):Prop:=kM n d=true/\cg 8 d/\sS d=true
theorem vD{n:Nat}{ns:List Int}{sp:Int}(jG:eR n 100 ns)(s1:1<=sp)(s2:sp<=20):jn n (fL ns sp):=by
 refine⟨?_,?_,Z⟩
 ·show(dk "line" (.str "line")&&(kF n (.tuple (ns.map PyData.int))&&eI 1 20 (.int sp)))=true
  have e1:dk "line" (.str "line")=true:=by decide+kernel
  have e2:kF n (.tuple (ns.map PyData.int))=true:=by show(((ns.map PyData.int).length==n&&(ns.map PyData.int).all (eI (-100) 100))&&(ns.map PyData.int).any nB)=true;rw[Ld jG.bd,L9 jG.nz,br,jG.len,x6];rfl
  have e3:eI 1 20 (.int sp)=true:=by show(decide (1<=sp)&&decide (sp<=20))=true;rw[eT s1,eT s2];rfl
  rw[e1,e2,e3];rfl
 ·refine(cY.tup (n:=1) (.cons ⟨bf,dQ _⟩ (.cons (cY.tup (n:=0) λd hd=>?_) (.cons (.int _) .nil)))).le aj
  obtain⟨a,_,rfl⟩:=jx.mp hd;exact .int _
theorem vC{n:Nat}{d:a9}(h:Ls d):jn n d:=by
 rcases h with⟨z,rfl,z1,z2⟩|⟨w,s,rfl,hw,F9,on⟩
 ·refine⟨?_,(cY.tup (n:=0) (.cons ⟨bf,dQ _⟩ (.cons (.int _) .nil))).le aj,Z⟩
  show iZ (.str "wait") (.int z)=true;unfold iZ;rw[aZ bf];show(decide (1<=z)&&decide (z<=1000))=true;rw[eT z1,eT z2];rfl
 ·have GZ:jC (.str s)=true:=by
   refine eT ?_;rcases on with⟨_,rfl|rfl⟩|⟨_,hn⟩
   ·decide+kernel
   ·decide+kernel
   ·unfold nJ at hn
    simp only[cI,decide_eq_true_eq]at hn;omega
  refine⟨?_,(cY.tup (n:=0) (.cons ?_ (.cons F9 .nil))).le aj,?_⟩
  ·rcases on with⟨rfl,hs⟩|⟨rfl,hn⟩
   ·show iZ (.str "tool") (.str s)=true
    unfold iZ;rw[aY bf,aZ bf];rcases hs with rfl|rfl<;>decide+kernel
   ·show iZ (.str "mark") (.str s)=true
    unfold iZ;rw[aY bf,aY bf];rw[show isNm (.str s)=true from hn];decide+kernel
  ·rcases hw with rfl|rfl<;>exact⟨bf,dQ _⟩
  ·show([.str w,.str s]:List a9).all jC=true
   rw[List.all_cons,List.all_cons,List.all_nil,GZ];rcases hw with rfl|rfl<;>decide+kernel
inductive M0(vs:List V)(H:Hp)(Q:VK):Prop |mk (p:_)(h0:vs=[.ref p])(h1:dP H p)(h2:∀z H',cg 0 (.str z)->nJ z=true->aH p H H'->Q (.str z) H')
def ye(K:a6):Sp:=λvs H Q _=>M0 vs H Q
abbrev tj:Stmt:=top 40
theorem yB:bp ["_law_bag_here"] ["_law_bag_here"] (aO tj):=bT bf
theorem Fs(F:FA K mg "_law_name" tj)(B:bI mg)(cj:aP P w K mg ag "_law_take" 1 iR):aP P w K mg ag "_law_name" 2 (ye K):=by
 refine F.has yB (λvs H Q E h=>?_) (λ_ _ _ _ _ _=>iD λ_=>rfl) (λf ao A outer s H vs Q E hr h=>?_)
 ·obtain⟨p,rfl,_⟩:=h
  rfl
 ·obtain⟨p,rfl,bg,k⟩:=h
  have nd:=yB.nd;refine⟨_,(aJ (bc (ES K Z cV (ah (fK (N:=["_law_k","_law_bag_here"]) (js:=[none,some 0]) Z Z Z (kA Z (B.at "range") (ah (ba cQ ay (pf cj hr (ah (pv 0) (ah ay ak)))) ak)) (λ_ _ _ _ _=>(bB 0 (dX aj))) (λ_ _ _ _ _=>eX) (λ_ _ _ _ _=>(zx Hg cV (pf cj hr (ah (pv 1) (ah ay ak))) (λ_ _=>rfl)))) ak)))),?_⟩;refine⟨Z,?_⟩;refine⟨_,Z,p,8,Z,bg,aj,aj,λn H1 n0 n1 b1=>?_⟩;refine⟨_,_,Z,Z,_,Z,aQ,aQ,λD H2 nD=>?_⟩;refine B6 (K:=K) (J:=k9 0 (1+n).toNat) (p:=p) (H:=H1) (1+n).toNat _ nD b1.aK aQ (λi=>.int (0+(i:Int))) (λi H3 hi _=>⟨hi,λy H4 ⟨e,q⟩=>⟨e,q⟩⟩) (λH3 _=>aU _) (λ_ d=>∃z:Str,d= .str z/\z.length=1/\cM z/\z.cps.toList.all (λc=>decide (97<=c)&&decide (c<=122))=true) ?_ ?_
  ·intro i H3 Q' hi b3 hq
   refine⟨_,Z,p,26,Z,b3.aK,aj,aj,λd H4 d0 d1 b4=>?_⟩;have hd:d.toNat<eP.cps.toList.length:=by rw[Lj];omega
   refine⟨eP,d,eP.cps.toList[d.toNat],Z,Z,bf,ek d0 (bC hd),?_⟩;have FV:cM ⟨#[eP.cps.toList[d.toNat]]⟩:=λc hc=>by have e9:c=eP.cps.toList[d.toNat]:=lF.mp hc;rw[e9];exact Lh _ (mK hd)
   have FU:(⟨#[eP.cps.toList[d.toNat]]⟩:Str).cps.toList.all (λc=>decide (97<=c)&&decide (c<=122))=true:=by have:=du.mp (show eP.cps.toList.all (λc=>decide (97<=c)&&decide (c<=122))=true by decide+kernel) _ (mK hd);show([eP.cps.toList[d.toNat]]:List Nat).all _=true;rw[List.all_cons,List.all_nil,Bool.and_true];exact this
   exact hq _ _ _ ⟨_,Z,Z,FV,FU⟩ Z (cq _) b4
  ·intro H3 ys ds b3 d3 r3 l3 nl pd
   obtain⟨zs,rfl,hz⟩:=xV ds λd hd=>by obtain⟨i,hi⟩:=kj.mp hd;exact pd i d hi
   rw[xU r3]at d3;rw[br]at l3;refine⟨"",D,zs,Z,Z,aF.of d3,λz gm=>by rw[(hz z gm).1];decide,aj,aQ,?_⟩;exact k _ _ (Fc (cM.join (zH bf) λa ha=>(hz a ha).2.1)) (Gi aQ aQ λz gm=>⟨(hz z gm).1,(hz z gm).2.2⟩) (b1.trans b3)
inductive M7(K:a6)(vs:List V)(H:Hp)(Q:VK):Prop |mk (p:Addr)(ax:Nat)(h0:vs=[.ref p,.int ax])(h1:dP H p)(h2:1<=ax)(h3:ax<=100)(h4:∀v d o H',RD K H' v d->fc d o->(∀ns,o=some ns->eR ax 100 ns)->jn ax d->aH p H H'->Q v H')
def yi(K:a6):Sp:=λvs H Q _=>M7 K vs H Q
abbrev tq:Stmt:=top 41
theorem yF:bp ["_law_bag_here","_law_axes","_law_sort","_law_speed","_law_most","_law_steps"] ["_law_bag_here","_law_axes"] (aO tq):=bT bf
theorem Fz(F:FA K mg "_law_item" tq)(B:bI mg)(cj:aP P w K mg ag "_law_take" 1 iR)(Jc:aP P w K mg ag "_law_name" 2 (ye K)):aP P w K mg ag "_law_item" 3 (yi K):=by
 refine F.has yF (λvs H Q E h=>?_) (λ_ _ _ _ _ _=>eO λ_ _=>rfl) (λf ao A outer s H vs Q E hr h=>?_)
 ·obtain⟨p,ax,rfl,_⟩:=h
  rfl
 ·obtain⟨p,ax,rfl,bg,NI,NH,k⟩:=h
  have nd:=yF.nd;refine⟨_,(aE (pS 2 nd (pf cj hr (ah (pv 0) (ah ay ak)))) (aE (bP (cu (eM K Z hr.units) (pv 2) ay (bG _)) (aJ (bc (hZ (ah cV (ah (ba cQ ay (pf cj hr (ah (pv 0) (ah ay ak)))) ak))))) bO) (aE (bP (cu (eM K Z hr.units) (pv 2) ay (bG _)) (aJ (bc (hZ (ah cV (ah (px K (fB (ah cV (ah cV ak))) (pf cj hr (ah (pv 0) (ah ay ak)))) ak))))) bO) (aE (bP (cu (eM K Z hr.units) (pv 2) ay (bG _)) (aJ (bc (hZ (ah cV (ah (pf Jc hr (ah (pv 0) ak)) ak))))) bO) (aE (pS 3 nd (ba cQ ay (pf cj hr (ah (pv 0) (ah ay ak))))) (aE (pS 4 nd (px K (fB (ah ay (ah ay (ah ay ak)))) (pf cj hr (ah (pv 0) (ah ay ak))))) (aE (Ef (i0:=5) nd Z (Or.inl Z) (N:=["_law_axis","_law_most","_law_bag_here"]) (js:=[none,some 4,some 0]) Z Z Z (kA Z (B.at "range") (ah (pv 1) ak)) (λ_ _ _ _ _=>(bB 0 (show List.Nodup (["_law_axis","_law_most","_law_bag_here"]:List Str) by decide+kernel))) (λ_ _ _ _ _=>eX) (λ_ _ _ _ _=>(ba qj (pf cj hr (ah (pv 2) (ah (ba cQ (ba i9 ay (pv 1)) ay) ak))) (pv 1)))) (aE (ky (bP (gj (dG (dH (x:="any") (Bw K Z Z) Z (B.at "any") C3 (ah (pv 5) ak)))) (aJ (kz ay (qh (pv 5) (pf cj hr (ah (pv 0) (ah (pv 1) ak))) set_list))) bO)) (aJ (bc (hZ (ah cV (ah (gk (x:="tuple") (gB K Z) Z (B.at "tuple") fZ (ah (pv 5) ak)) (ah (pv 3) ak)))))))))))))),?_⟩;refine⟨_,Z,p,6,Z,bg,aj,aj,λso H1 s0 s1 b1=>?_⟩;refine⟨_,Z,.inl ⟨_,_,Z,Z,_,Z,?_⟩⟩;refine dY (λhc=>?_) (λhc=>?_)
  ·refine⟨_,Z,p,1000,Z,b1.aK,aj,aj,λn H2 n0 n1 b2=>?_⟩
   refine⟨_,_,Z,Z,cE Z,λt H3 n3=>?_⟩;exact k (.ref t) _ none H3 (dF (aL.of n3.at') (bJ (cq _) (bJ (dw _) bW))) (.inr ⟨_,_,Z,.inl Z,Z,Z⟩) (λ_ z=>nomatch z) (vC (.inl ⟨_,rfl,aQ,aQ⟩)) (b1.trans (b2.trans (.cy b2.aK n3.same)))
  refine⟨_,Z,.inl ⟨_,_,Z,Z,_,Z,?_⟩⟩;refine dY (λhc=>?_) (λhc=>?_)
  ·refine⟨cE Z,λc H2 n2=>?_⟩
   have b2:aH p H1 H2:=.cy b1.aK n2.same;have cp:c≠p:=λz=>b1.aK.ne (z▸n2.no);refine⟨_,Z,p,2,Z,b2.aK,aj,aj,λi H3 i0 i1 b3=>?_⟩;have hi:∃z:Str,df ([.str "up",.str "down"]:List V) i=some (.str z)/\cg 0 (.str z)/\zD "tool" z:=by
    rcases(show i=0\/i=1 by omega)with rfl|rfl
    ·exact⟨"up",Z,⟨bf,bf⟩,.inl ⟨Z,.inl Z⟩⟩
    ·exact⟨"down",Z,⟨bf,bf⟩,.inl ⟨Z,.inr Z⟩⟩
   obtain⟨z,ez,uk,F7⟩:=hi;refine .inl ⟨c,_,_,_,Z,Z,aF.of (b3.same _ _ cp n2.at'),ez,cE Z,λt H4 n4=>?_⟩;exact k (.ref t) _ none H4 (dF (aL.of n4.at') (bJ (cq _) (bJ (cq _) bW))) (.inr ⟨_,_,Z,.inr (.inl Z),Z,Z⟩) (λ_ z=>nomatch z) (vC (.inr ⟨_,_,rfl,.inl rfl,uk,F7⟩)) (b1.trans (b2.trans (b3.trans (.cy b3.aK n4.same))))
  refine⟨_,Z,.inl ⟨_,_,Z,Z,_,Z,?_⟩⟩;refine dY (λhc=>?_) (λhc=>?_)
  ·refine⟨_,Z,p,Z,b1.aK,λz H2 uk nz b2=>⟨cE Z,λt H3 n3=>?_⟩⟩
   exact k (.ref t) _ none H3 (dF (aL.of n3.at') (bJ (cq _) (bJ (cq _) bW))) (.inr ⟨_,_,Z,.inr (.inr Z),Z,Z⟩) (λ_ z=>nomatch z) (vC (.inr ⟨_,_,rfl,.inr rfl,uk,.inr ⟨rfl,nz⟩⟩)) (b1.trans (b2.trans (.cy b2.aK n3.same)))
  refine⟨_,Z,p,20,Z,b1.aK,aj,aj,λsp H2 p0 p1 b2=>?_⟩;refine⟨_,_,Z,Z,?_⟩;refine⟨cE Z,λc H3 n3=>?_⟩;have b3:aH p H2 H3:=.cy b2.aK n3.same;have cp:c≠p:=λz=>b2.aK.ne (z▸n3.no);refine⟨_,Z,p,3,Z,b3.aK,aj,aj,λi H4 i0 i1 b4=>?_⟩;have hm:∃m:Int,df ([.int 3,.int 20,.int 100]:List V) i=some (.int m)/\1<=m/\m<=100:=by
   rcases(show i=0\/i=1\/i=2 by omega)with rfl|rfl|rfl
   ·exact⟨3,Z,aj,aj⟩
   ·exact⟨20,Z,aj,aj⟩
   ·exact⟨100,Z,aj,aj⟩
  obtain⟨m,em,m1,m2⟩:=hm;refine .inl ⟨c,_,_,_,Z,Z,aF.of (b4.same _ _ cp n3.at'),em,?_⟩;have mm:=b1.trans (b2.trans (b3.trans b4));refine⟨_,Z,_,Z,aQ,aQ,λD H5 nD=>?_⟩;refine vY (J:=k9 0 ax) (p:=p) (H:=H4) ax _ nD mm.aK aQ (λi=>.int (0+(i:Int))) (λi H3 hi _=>⟨hi,λy H4 ⟨e,q⟩=>⟨e,q⟩⟩) (λH3 _=>aU _) (λz=>(z.natAbs:Int)<=m) ?_ ?_
  ·intro i H6 Q' hi b6 hq
   refine⟨_,Z,_,Z,_,_,Z,Z,.of_left (jv aj aj),_,_,Z,Z,p,2*m+1,Z,b6.aK,aQ,aQ,λd H7 d0 d1 b7=>?_⟩;exact⟨_,Z,_,_,Z,Z,hq _ _ aQ b7⟩
  intro H6 is b6 d6 l6 Bm;have wu:=mm.trans b6;have lp:D≠p:=λz=>mm.aK.ne (z▸nD.no);have nl:H D=none:=by cases e:H D with |none=>rfl |some o=>have:=mm.same _ _ lp e;rw[nD.no]at this;cases this
  refine⟨λO H7=>aH p H H7/\∃(is:List Int),H7 D=some (.lst (is.map V.int))/\eR ax 100 is/\O=[some (.ref p),some (.int ax),some (.int so),some (.int (1+sp)),some (.int m),some (.ref D)],?_,?_⟩
  ·refine⟨_,Z,D,is,Z,.inl (aF.of d6),_,Z,?_⟩
   cases ha:is.any (· !=0)with |false=>
    refine bN ?_;refine⟨_,Z,_,Z,_,Z,p,(ax:Int),Z,wu.aK,aQ,aQ,λix H7 i0 i1 b7=>?_⟩;have d7:=b7.same _ _ lp d6;refine⟨D,_,ix,ix.toNat,Z,Z,d7,?_,?_⟩
    ·unfold fC;rw[aZ i0,aZ (by rw[br,l6];exact i1)]
    refine⟨?_,is.set ix.toNat 1,?_,⟨?_,?_,?_⟩,Z⟩
    ·have Bt:=wu.trans b7
     refine⟨?_,λb o n e=>?_⟩
     ·obtain⟨c',m',e,ok⟩:=Bt.aK
      exact⟨c',m',by rw[aI lp.symm];exact e,ok⟩
     ·rw[aI (cz e nl)];exact Bt.same b o n e
    ·rw[bw,List.map_set]
    ·rw[p7];exact l6
    ·intro z hz
     rcases List.mem_or_eq_of_mem_set hz with h|h
     ·have:=Bm z h;omega
     ·rw[h];decide
    ·exact⟨1,List.mem_iff_getElem.mpr ⟨ix.toNat,by rw[p7];omega,by rw[C7]⟩,aj⟩ |true=>refine bz ?_;refine⟨wu,is,d6,⟨l6,λz hz=>by have:=Bm z hz;omega,?_⟩,Z⟩;obtain⟨z,hz,h0⟩:=Cd.mp ha;exact⟨z,hz,by simpa using h0⟩
  rintro O H7 ⟨b7,is,d7,ok,rfl⟩;refine⟨_,Z,D,_,Z,.inl ⟨aF.of d7,λq H8 n8=>?_⟩⟩;refine⟨_,Z,cE Z,λt H9 n9=>?_⟩;refine k (.ref t) (fL is (1+sp)) (some is) H9 (dF (aL.of n9.at') (bJ (cq _) (bJ (dF (aL.of (n9.same _ _ n8.at')) (ng is)) (bJ (dw _) bW)))) (.inl ⟨is,_,Z,Z⟩) (λns e=>by cases e;exact ok) (vD ok aQ aQ) (b7.trans (.cy b7.aK (n8.same.trans n9.same)))
inductive Mb(K:a6)(vs:List V)(H:Hp)(Q:VK):Prop |mk (p:_)(m:_)(rs:_)(es:_)(x:_)(pl:_)(mo:_)(h0:vs=[.ref p,m,x,.int mo])(h1:dP H p)(h2:RD K H m (eZ rs es))(h3:mw rs)(h4:RD K H x (bA pl))(h5:mr rs pl)(h6:1<=mo)(h7:mo<=100)(h8:∀v ns sp H',RD K H' v (fL ns sp)->eR rs.length 100 ns->mr rs (cH pl ns)->1<=sp->sp<=20->aH p H H'->Q v H')
def sN(K:a6):Sp:=λvs H Q _=>Mb K vs H Q
abbrev tG:Stmt:=top 42
theorem yL:bp ["_law_bag_here","_law_machine_here","_law_here","_law_most","_law_speed","_law_steps","_law_at","_law_rail","_law_low"] ["_law_bag_here","_law_machine_here","_law_here","_law_most"] (aO tG):=bT bf
theorem FJ(F:FA K mg "_law_line_from" tG)(B:bI mg)(cj:aP P w K mg ag "_law_take" 1 iR):aP P w K mg ag "_law_line_from" 2 (sN K):=by
 refine F.has yL (λvs H Q E h=>?_) (λ_ _ _ _ _ _=>Bx λ_ _ _ _=>rfl) (λf ao A outer s H vs Q E hr h=>?_)
 ·obtain⟨p,m,rs,es,x,pl,mo,rfl,_⟩:=h
  rfl
 ·obtain⟨p,m,rs,es,x,pl,mo,rfl,bg,rm,dy,rx,on,N5,N4,k⟩:=h
  have nd:=yL.nd;refine⟨_,(aE (pS 4 nd (ba cQ ay (pf cj hr (ah (pv 0) (ah ay ak))))) (aE (pS 5 nd (fB ak)) (aE (jD ki Z (nu K Z false false Z (B.at "zip") (ah (pv 2) (ah (px K (pv 1) ay) ak))) (iU K rfl (n:=2) rfl (cU (bB 6 nd) (cU (bB 7 nd) hX))) (aE (pS 8 nd (dH (x:="max") (Bg Z) Z (B.at "max") C1 (ah (iV iO (pv 6)) (ah (iV iO (pv 3)) ak)))) (aJ (nq (nA K Z (pv 5) (ah (ba cQ (pv 8) (pf cj hr (ah (pv 0) (ah (ba cQ (ba qj (dH (x:="min") (w9 Z) Z (B.at "min") C0 (ah (ba qj (pv 7) (pv 6)) (ah (pv 3) ak))) (pv 8)) ay) ak)))) ak)))))) (aE (ky (bP (gj (dG (dH (x:="any") (Bw K Z Z) Z (B.at "any") C3 (ah (pv 5) ak)))) (aJ (kz (px K (fB (ah ay (ah (iV iO ay) ak))) (gk (x:="int") KG Z (B.at "int") rJ (ah (gG (eM K rfl hr.units) (px K (pv 2) ay) (px K (px K (pv 1) ay) ay) (bG _)) ak))) (qh (pv 5) ay set_list))) bO)) (aJ (bc (hZ (ah cV (ah (gk (x:="tuple") (gB K Z) Z (B.at "tuple") fZ (ah (pv 5) ak)) (ah (pv 4) ak)))))))))),?_⟩;have lr:=dy.len;have lp:=on.len;obtain⟨ma,mb,ys,rfl,j9,fD⟩:=qt rm;obtain⟨xa,rfl,uQ⟩:=lR rx;refine⟨_,Z,p,20,Z,bg,aj,aj,λsp H1 p0 p1 b1=>?_⟩;refine⟨_,_,Z,Z,?_⟩;refine⟨cE Z,λl H2 n2=>?_⟩;have b2:aH p H1 H2:=.cy b1.aK n2.same;have iC:=b1.trans b2;have jJ:l≠p:=λz=>b1.aK.ne (z▸n2.no);have nl:H l=none:=by cases e:H l with |none=>rfl |some o=>have:=b1.same _ _ jJ e;rw[n2.no]at this;cases this
  have sF:=aH.t bg iC;refine⟨_,Z,_,Z,.inr ⟨ma,_,0,.ref mb,Z,Z,j9.t sF,ek (dR 0) Z,xa,mb,Z,⟨_,uQ.t sF⟩,⟨_,fD.t sF⟩,?_⟩⟩;refine JE (K:=K) (b1:=false) (b2:=false) (xs:=pl.map V.int) (ys:=rs.map V.int) rs.length (by simp[lp]) (λi O H3=>aH p H H3/\∃(is:List Int)(v1 v2 v3:Option V),H3 l=some (.lst (is.map V.int))/\is.length=i/\(∀(j:Nat)(z a r:Int),is[j]? =some z->pl[j]? =some a->rs[j]? =some r->0<=a+z/\a+z<=r/\(z.natAbs:Int)<=mo)/\O=[some (.ref p),some (.ref ma),some (.ref xa),some (.int mo),some (.int (1+sp)),some (.ref l),v1,v2,v3]) ?_ (λi O H3 _ h=>⟨uQ.t (aH.t bg h.1),fD.t (aH.t bg h.1)⟩) ?_ ?_
  ·exact⟨iC,[],none,none,none,n2.at',Z,λj z a r e=>by simp at e,Z⟩
  ·rintro i x y O H3 ex ey ⟨b3,is,v1,v2,v3,dl,li,hz,rfl⟩ T H4 n4
   have b4:aH p H3 H4:=.cy b3.aK n4.same;have hx:∃a r,pl[i]? =some a/\rs[i]? =some r/\x= .int a/\y= .int r:=by rw[cm]at ex ey;cases e1:pl[i]? with |none=>rw[e1]at ex;cases ex |some u=>cases e2:rs[i]? with |none=>rw[e2]at ey;cases ey |some v=>rw[e1]at ex;rw[e2]at ey;exact⟨u,v,Z,Z,(ck ex).symm,(ck ey).symm⟩
   obtain⟨a,r,ea,er,rfl,rfl⟩:=hx;obtain⟨a0,a1⟩:=on.at' i a r ea er;obtain⟨r0,r1⟩:=dy.rl r (jw er);refine⟨T,_,Z,aL.of n4.at',Z,_,_,Z,_,_,Z,Z,?_⟩;refine⟨_,Z,_,Z,_,Z,_,Z,_,_,Z,?_⟩;have qM:=n4.same _ _ dl;have HR:∃low:Int,(if(-mo:Int)>-a then-mo else-a)=low/\low<=0/\-mo<=low/\-a<=low:=⟨_,Z,by split<;>omega,by split<;>omega,by split<;>omega⟩;obtain⟨low,Ki,Nb,lo1,Na⟩:=HR;rw[Ki];have Iu:∃hi:Int,(if mo<r-a then mo else r-a)=hi/\0<=hi/\hi<=mo/\hi<=r-a:=⟨_,Z,by split<;>omega,by split<;>omega,by split<;>omega⟩;obtain⟨hi,Kj,Nx,Nv,Nu⟩:=Iu;refine⟨_,Z,.inl ⟨Z,_,aF.of qM⟩,?_⟩;refine⟨_,Z,_,Z,_,Z,_,Z,_,_,Z,Z,_,Z,_,_,Z,?_⟩;rw[Kj];refine⟨_,Z,_,_,Z,Z,_,_,Z,Z,p,hi-low+1,Z,b4.aK,aQ,aQ,λd H5 d0 d1 b5=>?_⟩;have mi:=b5.same _ _ jJ qM;refine⟨_,_,Z,Z,l,_,_,Z,Z,mi,?_,?_⟩
   ·rw[br,li]
    have:(1000:Nat)<sizeLine:=by decide
    have:=(bM.mp er).1;omega
   have jW:=b3.trans (b4.trans b5);refine⟨?_,is++[low+d],_,_,_,?_,?_,?_,Z⟩
   ·refine⟨?_,λb o n e=>?_⟩
    ·obtain⟨c',m',e,ok⟩:=jW.aK
     exact⟨c',m',by rw[aI jJ.symm];exact e,ok⟩
    ·rw[aI (cz e nl)];exact jW.same b o n e
   ·rw[bw,mI];rfl
   ·rw[fy,li];rfl
   ·intro j z a' r' ej qK iA
    by_cases hj:j<is.length
    ·rw[rQ hj]at ej
     exact hz j z a' r' ej qK iA
    ·have ja:j=is.length:=by have:=(bM.mp ej).1;rw[fy]at this;have:j<is.length+1:=this;omega
     rw[ja,p9 (aU _),rK]at ej;cases ej;rw[ja,li]at qK iA;rw[ea]at qK;rw[er]at iA;cases qK;cases iA;omega
  ·rintro O H3 ⟨b3,is,v1,v2,v3,dl,li,hz,rfl⟩
   have l0:0<is.length:=by omega
   have GN:0<pl.length:=by omega
   have GL:0<rs.length:=by omega
   have ea:=bC GN;have er:=bC GL;have a3:=uQ.t (aH.t bg b3);have m3:=j9.t (aH.t bg b3);have Gv:=fD.t (aH.t bg b3);refine⟨λO H4=>aH p H H4/\∃(is:List Int),H4 l=some (.lst (is.map V.int))/\eR rs.length 100 is/\mr rs (cH pl is)/\O=[some (.ref p),some (.ref ma),some (.ref xa),some (.int mo),some (.int (1+sp)),some (.ref l),v1,v2,v3],?_,?_⟩
   ·refine⟨_,Z,l,is,Z,.inl (aF.of dl),_,Z,?_⟩
    cases ha:is.any (· !=0)with |false=>
     refine bN ?_;have z0:∀z∈is,z=0:=λz gm=>by have:=List.any_eq_false.mp ha z gm;simpa using this
     refine⟨_,Z,cE Z,λc H4 n4=>?_⟩;have s4:=n4.same;refine⟨_,Z,.inr ⟨xa,_,0,.int pl[0],Z,Z,a3.go s4,ek (dR 0) (by rw[cm];show Option.map _ pl[0]? =_;rw[ea];rfl),?_⟩⟩;refine⟨_,Z,.inr ⟨ma,_,0,.ref mb,Z,Z,m3.go s4,ek (dR 0) Z,?_⟩⟩;refine .inr ⟨mb,_,0,.int rs[0],Z,Z,Gv.go s4,ek (dR 0) (by rw[cm];show Option.map _ rs[0]? =_;rw[er];rfl),?_⟩;refine .inl ⟨_,_,Z,Z,.inr ⟨_,Z,?_⟩⟩;obtain⟨a0,a1⟩:=on.at' 0 _ _ ea er;obtain⟨r0,r1⟩:=dy.rl _ (jw er);have hy:∃y:Int,df ([.int 1,.int (-1)]:List V) (if decide (pl[0]=rs[0])=true then 1 else 0)=some (.int y)/\y.natAbs=1/\0<=pl[0]+y/\pl[0]+y<=rs[0]:=by
      by_cases h:pl[0]=rs[0]
      ·rw[eT h];exact⟨-1,Z,Z,aQ,aQ⟩
      ·rw[gv h];exact⟨1,Z,Z,aQ,aQ⟩
     obtain⟨y,ey,y1,y2,y3⟩:=hy;refine .inl ⟨c,_,_,_,Z,Z,aF.of n4.at',ey,?_⟩;have qM:=s4 _ _ dl;refine⟨_,Z,l,_,0,0,Z,Z,qM,?_,?_⟩
     ·unfold fC;rw[aZ (dR 0),aZ (by rw[br];omega)];rfl
     have b4:aH p H3 H4:=.cy b3.aK s4;have Br:=b3.trans b4;have ls:(is.set 0 y).length=pl.length:=by rw[p7];omega
     refine⟨?_,is.set 0 y,?_,⟨?_,?_,?_⟩,⟨?_,?_⟩,Z⟩
     ·refine⟨?_,λb o n e=>?_⟩
      ·obtain⟨c',m',e,ok⟩:=Br.aK
       exact⟨c',m',by rw[aI jJ.symm];exact e,ok⟩
      ·rw[aI (cz e nl)];exact Br.same b o n e
     ·rw[bw,List.map_set]
     ·rw[p7];exact li
     ·intro z gm
      rcases List.mem_or_eq_of_mem_set gm with h|h
      ·rw[z0 z h];decide
      ·rw[h];omega
     ·exact⟨y,List.mem_iff_getElem.mpr ⟨0,by rw[p7];omega,by rw[C7]⟩,aQ⟩
     ·rw[fT ls];exact lp
     ·intro j x r ej iA
      have hj:j<pl.length:=by have:=(bM.mp ej).1;rw[fT ls]at this;exact this
      have oJ:=oN (bC hj) (bC (show j<(is.set 0 y).length by omega));rw[ej]at oJ;have vQ:=ck oJ;by_cases h0:j=0
      ·subst h0
       rw[C7]at vQ;rw[er]at iA;cases iA;omega
      ·rw[List.getElem_set_ne (ft h0)]at vQ
       have Ak:=z0 _ (mK (show j<is.length by omega));have:=on.at' j _ r (bC hj) iA;omega |true=>
     refine bz ?_;have ls:is.length=pl.length:=by omega
     refine⟨b3,is,dl,⟨li,λz gm=>?_,?_⟩,⟨?_,?_⟩,Z⟩
     ·obtain⟨j,hj⟩:=kj.mp gm
      have qA:=(bM.mp hj).1;have:=hz j z _ _ hj (bC (show j<pl.length by omega)) (bC (show j<rs.length by omega));omega
     ·obtain⟨z,gm,h0⟩:=Cd.mp ha
      exact⟨z,gm,by simpa using h0⟩
     ·rw[fT ls];exact lp
     ·intro j x r ej iA
      have hj:j<pl.length:=by have:=(bM.mp ej).1;rw[fT ls]at this;exact this
      have oJ:=oN (bC hj) (bC (show j<is.length by omega));rw[ej]at oJ;have vQ:=ck oJ;have:=hz j _ _ r (bC (show j<is.length by omega)) (bC hj) iA;omega
   rintro O H4 ⟨b4,is,dl,ok,kE,rfl⟩;refine⟨_,Z,l,_,Z,.inl ⟨aF.of dl,λq H5 n5=>?_⟩⟩;refine⟨_,Z,cE Z,λt H6 n6=>?_⟩;exact k (.ref t) is (1+sp) H6 (dF (aL.of n6.at') (bJ (cq _) (bJ (dF (aL.of (n6.same _ _ n5.at')) (ng is)) (bJ (dw _) bW)))) ok kE aQ aQ (b4.trans (.cy b4.aK (n5.same.trans n6.same)))
structure bQ(rs:List Int)(ds:List a9)(os:List (Option (List Int))):Prop where
 len:ds.length=os.length
 it:∀(i:Nat)(d:a9)(o:Option (List Int)),ds[i]? =some d->os[i]? =some o->fc d o
 ok:∀(i:Nat)(ns:List Int),os[i]? =some (some ns)->eR rs.length 100 ns
theorem bQ.nil{rs:List Int}:bQ rs [] []:=⟨Z,λi d o e=>by simp at e,λi ns e=>by simp at e⟩
theorem bQ.snoc{rs:List Int}{ds:List a9}{os:List (Option (List Int))}{d:a9}{o:Option (List Int)}(h:bQ rs ds os)(i:fc d o)(g:∀ns,o=some ns->eR rs.length 100 ns):bQ rs (ds++[d]) (os++[o]):=by
 have key:∀{α:Type}{xs:List α}{x y:α}{j:Nat},(xs++[x])[j]? =some y->xs[j]? =some y\/(j=xs.length/\y=x):=λ{α xs x y j} e=>by
  by_cases hj:j<xs.length
  ·rw[rQ hj]at e;exact .inl e
  ·have ja:j=xs.length:=by have:=(bM.mp e).1;rw[fy]at this;have:j<xs.length+1:=this;omega
   rw[ja,p9 (aU _),rK]at e;exact .inr ⟨ja,(ck e).symm⟩
 refine⟨by rw[fy,fy,h.len];rfl,λj d' o' e1 e2=>?_,λj ns e=>?_⟩
 ·have hl:=h.len
  rcases key e1 with e1|⟨j1,rfl⟩
  ·rcases key e2 with e2|⟨j2,rfl⟩
   ·exact h.it j d' o' e1 e2
   ·have:=(bM.mp e1).1;omega
  ·rcases key e2 with e2|⟨j2,rfl⟩
   ·have:=(bM.mp e2).1;omega
   ·exact i
 ·rcases key e with e|⟨_,e⟩
  ·exact h.ok j ns e
  ·exact g ns e.symm
theorem bQ.no{rs:List Int}{ds:List a9}{os:List (Option (List Int))}(h:bQ rs ds os):cF ds=true:=eH.mpr λd hd=>by obtain⟨i,hi⟩:=kj.mp hd;have hl:=(bM.mp hi).1;exact(h.it i d _ hi (bC (by rw[<-h.len];exact hl))).no
theorem bQ.jK{rs pl:List Int}{ds:List a9}{os:List (Option (List Int))}(h:bQ rs ds os)(hp:pl.length=rs.length):∀i,(aW pl (os.take i)).length=rs.length |0=>hp |i+1=>by cases e:os[i]? with |none=>rw[iI,e,Option.toList_none,fH];exact h.jK hp i |some o=>rw[oH e];have ih:=h.jK hp i;cases o with |none=>exact ih |some ns=>rw[behind,fT (by rw[(h.ok i ns e).len,ih])];exact ih
theorem Kt{b D:Addr}{ns:List Int}{H H0:Hp}{rest:L2.St}{Q:VK}(hb:aL K H b (ns.map V.int))(nw:Nw H H0 D (.lst []))(hz:ns.length<=1000)(hq:∀H',au H H'->H' D=some (.lst ((ns.map BA).map V.int))->Q (.ref D) H'): fW (jl K b) (dm 0) fz (mR (λxs H Q=>∃i,xs=[V.int i]/\Q (V.int (if i<0 then-i else i)) H) (xR (sC 0) mQ)) Q D (none::rest) H0:=by
 refine B5 (K:=K) (xs:=ns.map V.int) (ds:=(ns.map BA).map PyData.int) rest hb nw (by simp) (by simpa using hz) (jI _) ?_ ?_
 ·intro i x d H2 Q' ex ed s2 hq
  obtain⟨m,em,rfl⟩:=qs ed;rw[cm]at em;cases en:ns[i]? with |none=>rw[en]at em;cases em |some n=>rw[en]at em;cases em;cases Gy ex en;exact⟨_,Z,n,Z,hq _ _ (au.refl _) (dw _)⟩
 ·intro H' ys s2 d2 r2
  rw[r2.gK]at d2;exact hq H' s2 d2
theorem aw.pO{H:Hp}{l:Addr}{ys:List V}{y:V}{ds:List a9}{d:a9}(dl:H l=some (.lst ys))(r:aw K H ys ds)(rd:RD K H y d)(n1:cF ds=true)(n2:dW d=true):aw K (L2.upd H l (.lst (ys++[y]))) (ys++[y]) (ds++[d]):=by have t:dN H (L2.upd H l (.lst (ys++[y]))):=.iL dl;exact(aw.t t _ n1 r).append (bJ (RD.t t _ n2 rd) bW)
theorem Ga(ps:List (List Int)):cF (ps.map bA)=true:=eH.mpr λd hd=>by obtain⟨q,_,rfl⟩:=jx.mp hd;exact jE q
abbrev tI:Stmt:=top 19
theorem yN:bp ["machine","place","items","told","here","at","item"] ["machine","place","items"] (aO tI):=bT bf
def wR(rs:List Int)(ps:List (List Int))(n:Nat):Prop:=(∀j q,j<n->ps[j]? =some q->bK rs q=true)/\∃q,ps[n]? =some q/\bK rs q=false
def Kv(s:Stmt):List Stmt:=match s with | .ClassDef _ _ _ b _ _ _ _ _ _ _=>b |_=>[]
abbrev sT:Stmt:=(Kv (top 4)).getD 0 (.Pass ⟨0,0,0,0⟩)
theorem yp:bp ["self","at"] ["self","at"] (aO sT):=bT bf
inductive LM(K:a6)(vs:List V)(H:Hp)(Q:VK):Prop |mk (ex:_)(C:_)(y:_)(h0:vs=[.ref ex,y])(h1:H ex=some (.ext (lA ex C)))(h2:wA K C "at")(h3:∀dx,H dx=none->dx≠ex->Q .bj (L2.upd (L2.upd H dx (.xd [("at",y)])) ex (.ext (jr ex C dx))))
def sJ(K:a6):Sp:=λvs H Q _=>LM K vs H Q
theorem zI{f:Addr}{fd:FuncData}(F:fk K "__init__" "OffRails.__init__" sT f fd):cO P w K mg ag dr 1 f fd ["self","at"] (sJ K):=by
 refine F.ok yp (λvs H Q E h=>?_) (λao A outer s H vs Q E hr h=>?_)
 ·obtain⟨ex,C,y,rfl,_⟩:=h
  rfl
 ·obtain⟨ex,C,y,rfl,e1,xc,k⟩:=h
  have nd:=yp.nd;refine⟨_,(aJ (Eb K Z (pv 0) (pv 1))),?_⟩;exact⟨_,Z,_,Z,ex,C,Z,e1,xc,k⟩
structure BG(K:a6)(mg:aM)(C fI:Addr):Prop where
 e:jq K mg "OffRails" C fI wc G2
 i:PySem.W.findIn K (.ref C) "__init__"=some (some (.ref fI))
 x:wA K C "at"
 f:fnAt K fI=true
 fn:∃fd,fk K "__init__" "OffRails.__init__" sT fI fd
inductive Md(K:a6)(C:Addr)(vs:List V)(H:Hp)(Q:VK)(E:XK):Prop |mk (m:_)(x:_)(iv:_)(rs:_)(es:_)(pl:_)(ds:_)(os:_)(h0:vs=[m,x,iv])(h1:RD K H m (eZ rs es))(h2:RD K H x (bA pl))(h3:pl.length=rs.length)(h4:rs.length<=1000)(h5:RD K H iv (.tuple ds))(h6:bQ rs ds os)(h7:ds.length<=100)(h8:(∀(n:Nat) H' dx,wR rs (walk pl os) n->au H H'->H' dx=some (.xd [("at",.int n)])->E (.ref C) (some dx) H'))(h9:((∀q∈walk pl os,bK rs q=true)->∀l ys H',H l=none->H' l=some (.lst ys)->aw K H' ys ((walk pl os).map bA)->au H H'->Q (.ref l) H'))
def yk(K:a6)(C:Addr):Sp:=λvs H Q E=>Md K C vs H Q E
theorem FL{C fI:Addr}(F:FA K mg "ends" tI)(B:bI mg)(OC:BG K mg C fI)(kQ:aP P w K mg ag "place_behind" 2 (gE K))(vf:aP P w K mg ag "is_place" 3 (pM K)):rB P w K mg ag "ends" 4 (yk K C):=by
 obtain⟨fd,FI⟩:=OC.fn;have vx:=OC.e;have vv:cO P w K mg ag dr 1 fI fd ["self","at"] (sJ K):=zI FI;have vz:Binds K fd ["self","at"] []:=FI.binds (λ_ _ _ _ _ _=>eO λ_ _=>rfl);have vw:=OC.f;refine F.vo yN (λvs H Q E h=>?_) (λ_ _ _ _ _ _=>mq λ_ _ _=>rfl) (λf ao A outer s H vs Q E hr h=>?_)
 ·obtain⟨m,x,iv,rs,es,pl,ds,os,rfl,_⟩:=h
  rfl
 ·obtain⟨m,x,iv,rs,es,pl,ds,os,rfl,rm,rx,lp,lr,ri,its,hz,ke,k⟩:=h
  have nd:=yN.nd;refine⟨_,(aE (pS 3 nd (fB ak)) (aE (pS 4 nd (pv 1)) (aE (jD PassesOwn.leaving Z (Et K Z false Z (B.at "enumerate") (ah (pv 2) ak)) (iU K rfl (n:=2) rfl (cU (bB 5 nd) (cU (bB 6 nd) hX))) (aE (pS 4 nd (pf kQ hr (ah (pv 4) (ah (pv 6) ak)))) (aE (bP (gj (dG (pf vf hr (ah (pv 0) (ah (pv 4) ak))))) (aJ (zp (λ_ _ _ _ _ _ I a b q=>xC I a b q) vx PySem.F.excBase_ValueError hr.hd vv (hr.mono aj) vz vw Z (ah (pv 5) ak))) bO) (aJ (nq (nA K Z (pv 3) (ah (pv 4) ak))))))) (aJ (bc (pv 3)))))),?_⟩;refine⟨cE Z,λl H1 n1=>?_⟩;refine⟨_,Z,?_⟩;obtain⟨ia,xs,rfl,hi,dI⟩:=ri.cD;have lx:=dI.length;refine⟨_,Z,ia,Z,⟨_,hi.go n1.same⟩,JH (K:=K) (b:=false) (a:=ia) (xs:=xs) (λi O H2=>au H H2/\∃ys hv v1 v2,H2 l=some (.lst ys)/\aw K H2 ys ((walk pl (os.take i)).map bA)/\RD K H2 hv (bA (aW pl (os.take i)))/\(∀j q,j<i->(walk pl os)[j]? =some q->bK rs q=true)/\O=[some m,some x,some (.ref ia),some (.ref l),some hv,v1,v2]) ?_ (λi O H2 _ h=>hi.go h.1) ?_ ?_⟩
  ·exact⟨n1.same,[],x,none,none,n1.at',bW,RD.mono n1.same _ rx,λj q hj=>absurd hj (Nat.not_lt_zero _),Z⟩
  ·rintro i y O H2 hy ⟨s2,ys,hv,v1,v2,dl,ry,rh,qm,rfl⟩ T H3 n3
   obtain⟨d,ed,rd⟩:=dI.get' i hy;have kS:i<os.length:=by rw[<-its.len];exact(bM.mp ed).1
   have eo:=bC kS;have it:=its.it i d _ ed eo;have s3:=s2.trans n3.same;have le:=its.jK lp i;refine⟨T,_,Z,aL.of n3.at',Z,_,_,Z,_,_,Z,Z,?_⟩;refine⟨_,Z,_,Z,hv,y,_,d,os[i],Z,RD.mono n3.same _ rh,RD.mono s3 _ rd,it,λns e=>by rw[le,(its.ok i ns (by rw[eo,e])).len],aQ,λh2 H4 tS s4=>?_⟩;have t4:=s3.trans s4;have lb:(behind (aW pl (os.take i)) os[i]).length=rs.length:=by rw[<-oH eo];exact its.jK lp (i+1)
   refine⟨_,Z,_,Z,m,h2,rs,es,_,Z,RD.mono t4 _ rm,tS,lb,lr,λH5 s5=>⟨_,Z,?_⟩⟩;have wg:=Cq (pl:=pl) eo;have qb:=n3.same.trans (s4.trans s5);cases eb:bK rs (behind (aW pl (os.take i)) os[i])with
   |false=>
    refine bN ?_;refine⟨_,Z,cE Z,λex fx=>?_⟩;refine⟨ex,C,_,Z,bw,OC.x,λdx oF ne=>⟨Z,dx,bw,?_⟩⟩;have vK:H5 dx=none:=by rw[aI ne]at oF;exact oF
    refine ke i _ dx ⟨qm,_,wg,eb⟩ (λb o e=>?_) ?_
    ·have e5:=qb b o (s2 b o e)
     have nb:b≠ex:=cz e5 fx;have dX:b≠dx:=cz e5 vK;rw[ji nb,aI nb,aI dX,aI nb];exact e5
    ·rw[ji ne,aI ne,bw] |true=>
    refine bz ?_;have mi:=qb _ _ dl;have len:=ry.length;rw[br,gA,cT]at len;refine⟨_,Z,.inl ⟨Z,_,aF.of mi⟩,_,Z,l,ys,_,Z,Z,mi,?_,?_⟩
    ·have:(1000:Nat)<sizeLine:=by decide
     have:=its.len;omega
    refine⟨λb o e=>?_,_,h2,_,_,bw,?_,?_,λj q hj e=>?_,Z⟩
    ·rw[aI (cz e n1.no)];exact qb b o (s2 b o e)
    ·rw[xE eo,mI]
     exact aw.pO mi (aw.mono qb _ ry) (RD.mono s5 _ tS) (Ga _) (jE _)
    ·rw[oH eo]
     exact RD.t (.iL mi) _ (jE _) (RD.mono s5 _ tS)
    ·by_cases Ia:j<i
     ·exact qm j q Ia e
     ·have:j=i:=by omega
      subst this;rw[wg]at e;cases e;exact eb
  ·rintro O H2 ⟨s2,ys,hv,v1,v2,dl,ry,rh,qm,rfl⟩
   rw[gw (by have:=its.len;omega)]at ry;refine⟨_,Z,k (λq hq=>?_) l ys H2 n1.no dl ry s2⟩;obtain⟨j,hj⟩:=kj.mp hq;have:=(bM.mp hj).1;rw[gA]at this;exact qm j q (by have:=its.len;omega) hj
def iP(rs pl:List Int)(os:List (Option (List Int))):a9:=match(walk pl os).findIdx? (λq=>!bK rs q)with |none=>.list ((walk pl os).map bA) |some n=>.int (n:Int)
theorem CN{rs pl:List Int}{os:List (Option (List Int))}{n:Nat}(h:wR rs (walk pl os) n):(walk pl os).findIdx? (λq=>!bK rs q)=some n:=by obtain⟨h1,q,h2,h3⟩:=h;obtain⟨hl,e⟩:=bM.mp h2;rw[MP];refine⟨hl,by rw[e,h3];rfl,λj hj=>?_⟩;have:=h1 j _ hj (bC aQ);rw[this];decide
theorem xM{rs pl:List Int}{os:List (Option (List Int))}(h:∀q∈walk pl os,bK rs q=true):(walk pl os).findIdx? (λq=>!bK rs q)=none:=by rw[Ca];intro q hq;rw[h q hq];rfl
theorem DU{H:Hp}{l:Addr}{ys:List V}{ds:List a9}(e:H l=some (.lst ys))(r:aw K H ys ds):RD K H (.ref l) (.list ds):=zi (aF.of e) r
structure qX(K:a6)(mg:aM)(C fI:Addr):Prop where
 oc:BG K mg C fI
 t:takes K C C
 k:rC K C
 fat:PySem.W.findIn K (.ref C) "at"=some none
inductive LP(K:a6)(vs:List V)(H:Hp)(Q:VK):Prop |mk (m:_)(x:_)(iv:_)(rs:_)(es:_)(pl:_)(ds:_)(os:_)(h0:vs=[m,x,iv])(h1:RD K H m (eZ rs es))(h2:RD K H x (bA pl))(h3:pl.length=rs.length)(h4:rs.length<=1000)(h5:RD K H iv (.tuple ds))(h6:bQ rs ds os)(h7:ds.length<=100)(h8:∀v H',RD K H' v (iP rs pl os)->au H H'->Q v H')
def pK(K:a6):Sp:=λvs H Q _=>LP K vs H Q
abbrev sV:Stmt:=top 46
theorem yr:bp ["_law_machine_here","_law_place_here","_law_row_here","e"] ["_law_machine_here","_law_place_here","_law_row_here"] (aO sV):=bT bf
theorem Fe{C fI:Addr}(F:FA K mg "_law_told" sV)(B:bI mg)(EA:qX K mg C fI)(IA:rB P w K mg ag "ends" 4 (yk K C)):aP P w K mg ag "_law_told" 5 (pK K):=by
 refine F.IL yr (λvs H Q E h=>?_) (λ_ _ _ _ _ _=>mq λ_ _ _=>rfl) (λf ao A outer s H vs Q E hr h=>?_)
 ·obtain⟨m,x,iv,rs,es,pl,ds,os,rfl,_⟩:=h
  rfl
 ·obtain⟨m,x,iv,rs,es,pl,ds,os,rfl,rm,rx,lp,lr,ri,its,hz,k⟩:=h
  have nd:=yr.nd;have hy:=EA.oc.e;have kX:(wc).contains (.type "BaseException")=true:=by decide
  have kY:∀C',C'=C->ClsAt K C'/\takes K C' C:=λC' e=>by subst e;exact⟨EA.oc.e.cls,EA.t⟩
  refine⟨_,(oO.one (Ee (i:=3) Z Z nd Z Z Z (λE xe hp=>(aJ (bc (EN IA hp (hr.mono aj) Z (ah (pv 0) (ah (pv 1) (ah (pv 2) ak))))))) Z hy kX kY (λex=>(aJ (bc (zt K Z (pv 3))))))),?_⟩;refine⟨λcls dx H'=>cls= .ref C/\∃(d:Addr)(n:Nat),dx=some d/\wR rs (walk pl os) n/\au H H'/\H' d=some (.xd [("at",.int n)]),?_,λcls dx H' h=>⟨C,h.1,Z⟩,?_⟩
  ·refine⟨_,Z,_,Z,_,Z,m,x,iv,rs,es,pl,ds,os,Z,rm,rx,lp,lr,ri,its,hz,λn H' dx fo sm hd=>⟨Z,dx,n,Z,fo,sm,hd⟩,λon l ys H' _ e r sm=>?_⟩
   refine k (.ref l) H' ?_ sm;unfold iP;rw[xM on];exact DU e r
  ·rintro C' ex dx σ' H' hl ⟨eC,d,n,rfl,fo,sm,hd⟩ hex
   cases eC;have HU:σ'.length=4:=hl
   match σ',HU with |[u1,u2,u3,u4],_=>have e1:(L2.upd H' ex (.ext (eA ex (.ref C) (some d)))) ex=some (.ext (eA ex (.ref C) (some d))):=bw;have vT:d≠ex:=cz hd hex;refine⟨_,Z,ex,C,d,_,(n:Int),Z,e1,by rw[aI vT];exact hd,EA.k,EA.fat,Z,k _ _ ?_ (sm.trans (au.new hex))⟩;unfold iP;rw[CN fo];exact dw _
end
end Lw
set_option maxHeartbeats 2000000
namespace Lw
open PySem PySem.Spec PyProof.Rows L2 Ln Wk
section
variable {P:a8}{w:World}{K:a6}{mg:aM}{ag:Heap}
inductive M4(K:a6)(vs:List V)(H:Hp)(Q:VK):Prop |mk (v:_)(d:_)(o:_)(n:_)(h0:vs=[v])(h1:RD K H v d)(h2:fc d o)(h3:(∀ns,o=some ns->eR n 100 ns))(h4:n<=1000)(h5:∀i H',au H H'->Q (.int i) H')
def yg(K:a6):Sp:=λvs H Q _=>M4 K vs H Q
abbrev tp:Stmt:=top 44
theorem yD:bp ["_law_item_here"] ["_law_item_here"] (aO tp):=bT bf
theorem Fw(F:FA K mg "_law_lead" tp)(B:bI mg):aP P w K mg ag "_law_lead" 1 (yg K):=by
 refine F.has yD (λvs H Q E h=>?_) (λ_ _ _ _ _ _=>iD λ_=>rfl) (λf ao A outer s H vs Q E hr h=>?_)
 ·obtain⟨v,d,o,n,rfl,_⟩:=h
  rfl
 ·obtain⟨v,d,o,n,rfl,rd,it,da,hn,k⟩:=h
  have nd:=yD.nd;refine⟨_,(aJ (bc (qi (cu (eM K Z hr.units) (px K (pv 0) ay) cV (bG _)) (dH (x:="max") (Gw K Z Z) Z (B.at "max") C1 (ah (fK (N:=["_law_step"]) (js:=[none]) rfl rfl rfl (kB K rfl (px K (pv 0) ay)) (λ_ _ _ _ _=>(bB 0 (nH _))) (λ_ _ _ _ _=>eX) (λ_ _ _ _ _=>(dH (x:="abs") Bh rfl (B.at "abs") PyProof.Rows.boot_abs (ah (pv 0) ak)))) ak)) ay))),?_⟩;obtain⟨a,wd,ys,rfl,h1,ew,sw⟩:=m5 rd it;refine⟨_,Z,.inr ⟨a,_,0,.str wd,Z,Z,h1,ek (dR 0) Z,.inr ⟨_,_,cq _,cq _,sw,lY,_,Z,?_⟩⟩⟩;rw[ew];rcases it with⟨ns,sp,rfl,rfl⟩|⟨w',x,rfl,hw,_,rfl⟩
  ·obtain⟨a',b,e,ha,hb⟩:=lX rd
   cases e;have jG:=da ns rfl;refine bN ?_;refine⟨_,Z,.inr ⟨a,_,1,.ref b,Z,Z,ha,Z,b,Z,⟨_,hb⟩,λD H9 n9=>?_⟩⟩;refine Kt hb n9 (by rw[jG.len];exact hn) λH9 s9 d9=>⟨D,_,Z,aF.of d9,?_,λM q1 q2=>k _ _ s9⟩;obtain⟨z,hz,_⟩:=jG.nz;intro e;have e':ns=[]:=by simpa using e
   rw[e']at hz;exact(dh hz).elim
  ·refine bz ?_
   exact k 0 H (au.refl _)
theorem A2{rs pl:List Int}{ds:List a9}{os:List (Option (List Int))}(h:bQ rs ds os)(hp:pl.length=rs.length):(aW pl os).length=rs.length:=by have:=h.jK hp os.length;rwa [gw (aU _)]at this
inductive LV(K:a6)(vs:List V)(H:Hp)(Q:VK):Prop |mk (p:_)(m:_)(x:_)(rs:_)(es:_)(pl:_)(h0:vs=[.ref p,m,x])(h1:dP H p)(h2:RD K H m (eZ rs es))(h3:mw rs)(h4:RD K H x (bA pl))(h5:pl.length=rs.length)(h6:∀v ds os H',RD K H' v (.tuple ds)->bQ rs ds os->(∀d∈ds,jn rs.length d)->ds.length<=20->aH p H H'->Q v H')
def y9(K:a6):Sp:=λvs H Q _=>LV K vs H Q
abbrev sY:Stmt:=top 45
theorem yx:bp ["_law_bag_here","_law_machine_here","_law_place_here","_law_most","_law_many","_law_wild","_law_found","_law_left","_law_k","_law_how","_law_item_here","_law_there_here","_law_fits"] ["_law_bag_here","_law_machine_here","_law_place_here"] (aO sY):=bT bf
theorem Fh(F:FA K mg "_law_row" sY)(B:bI mg)(cj:aP P w K mg ag "_law_take" 1 iR)(Jf:aP P w K mg ag "_law_item" 3 (yi K))(Je:aP P w K mg ag "_law_line_from" 2 (sN K))(AA:aP P w K mg ag "_law_lead" 1 (yg K))(J8:aP P w K mg ag "_law_there" 1 (gE K)):aP P w K mg ag "_law_row" 4 (y9 K):=by
 refine F.has yx (λvs H Q E h=>?_) (λ_ _ _ _ _ _=>mq λ_ _ _=>rfl) (λf ao A outer s H vs Q E hr h=>?_)
 ·obtain⟨p,m,x,rs,es,pl,rfl,_⟩:=h
  rfl
 ·obtain⟨p,m,x,rs,es,pl,rfl,bg,rm,dy,rx,lp,k⟩:=h
  have nd:=yx.nd;refine⟨_,(aE (pS 3 nd (px K (fB (ah ay (ah ay (ah ay ak)))) (pf cj hr (ah (pv 0) (ah ay ak))))) (aE (pS 4 nd (pf cj hr (ah (pv 0) (ah ay ak)))) (aE (pS 5 nd (pf cj hr (ah (pv 0) (ah ay ak)))) (aE (pS 6 nd (fB ak)) (aE (pS 7 nd ay) (aE (jD ki Z (kA Z (B.at "range") (ah (pv 4) ak)) (bB 8 nd) (aE (pS 9 nd (pf cj hr (ah (pv 0) (ah ay ak)))) (aE (pS 10 nd (pf Jf hr (ah (pv 0) (ah (eY K B (ah (px K (pv 1) ay) ak)) ak)))) (aE (pS 11 nd (dH (x:="all") (qT K Z Z) Z (B.at "all") xl (ah (fK (N:=["_law_at","_law_rail"]) (js:=[none,none]) rfl rfl rfl (nu K rfl false false rfl (B.at "zip") (ah (pv 2) (ah (px K (pv 1) ay) ak))) (λ_ _ _ _ _=>(iU K rfl (n:=2) rfl (cU (bB 0 (dX aj)) (cU (bB 1 (dX aj)) hX)))) (λ_ _ _ _ _=>eX) (λ_ _ _ _ _=>(zy kC kC ay (pv 0) (pv 1)))) ak))) (aE (ky (bP (PW.pt (u9 (dG (pv 11)) (u9 (cu uj (pv 9) ay (bG _)) (zo (PW.pt (kx (cu (eM K Z hr.units) (pv 5) ay (bG _)) (ku (cu qk (pv 9) ay (bG _))))))))) (aJ (pS 10 nd (pf Je hr (ah (pv 0) (ah (pv 1) (ah (pv 2) (ah (pv 3) ak))))))) bO)) (aE (ky (pS 12 nd (zu (gG (eM K Z hr.units) (pv 5) ay (bG _)) (zu (gG (gI K Z hr.units) (px K (pv 10) ay) cV (bG _)) (nv (gG uj (pv 9) ay (bG _))))))) (aJ (bP (PW.pt (u9 (dG (pv 12)) (zo (cu kC (pf AA hr (ah (pv 10) ak)) (pv 7) (bG _))))) (aE (nq (nA K Z (pv 6) (ah (pv 10) ak))) (aE (pS 7 nd (ba qj (pv 7) (pf AA hr (ah (pv 10) ak)))) (aJ (pS 2 nd (pf J8 hr (ah (pv 2) (ah (pv 10) ak))))))) bO)))))))) (aJ (bc (gk (x:="tuple") (gB K Z) Z (B.at "tuple") fZ (ah (pv 6) ak)))))))))),?_⟩;have lr:=dy.len;refine⟨cE Z,λc H1 n1=>?_⟩;have b1:aH p H H1:=.cy bg n1.same;have cp:c≠p:=λz=>bg.ne (z▸n1.no);refine⟨_,Z,p,3,Z,b1.aK,aj,aj,λi H2 i0 i1 b2=>?_⟩;have hm:∃m:Int,df ([.int 3,.int 20,.int 100]:List V) i=some (.int m)/\1<=m/\m<=100:=by
   rcases(show i=0\/i=1\/i=2 by omega)with rfl|rfl|rfl
   ·exact⟨3,Z,aj,aj⟩
   ·exact⟨20,Z,aj,aj⟩
   ·exact⟨100,Z,aj,aj⟩
  obtain⟨mo,em,m1,m2⟩:=hm;refine .inl ⟨c,_,_,_,Z,Z,aF.of (b2.same _ _ cp n1.at'),em,?_⟩;have iC:=b1.trans b2;refine⟨_,Z,p,21,Z,iC.aK,aj,aj,λmn NM N7 N6 Bs=>?_⟩;refine⟨_,Z,p,2,Z,Bs.aK,aj,aj,λwd MN MS MR L4=>?_⟩;have qS:=iC.trans (Bs.trans L4);refine⟨cE Z,λl H3 n3=>?_⟩;have b3:aH p MN H3:=.cy qS.aK n3.same;have lh:=qS.trans b3;have jJ:l≠p:=λz=>qS.aK.ne (z▸n3.no);have nl:H l=none:=by cases e:H l with |none=>rfl |some o=>have:=qS.same _ _ jJ e;rw[n3.no]at this;cases this
  refine⟨_,Z,_,Z,aQ,aQ,?_⟩;refine vF (Pv:=λi O H5=>aH p H H5/\∃(ys:List V)(ds:List a9)(os:List (Option (List Int)))(iS:V)(left:Int)(v1 v2 v3 v4 v5:Option V),H5 l=some (.lst ys)/\aw K H5 ys ds/\bQ rs ds os/\(∀d∈ds,jn rs.length d)/\ds.length<=i/\RD K H5 iS (bA (aW pl os))/\O=[some (.ref p),some m,some iS,some (.int mo),some (.int mn),some (.int wd),some (.ref l),some (.int left),v1,v2,v3,v4,v5]) ?_ ?_ ?_
  ·exact⟨lh,[],[],[],x,300,none,none,none,none,none,n3.at',bW,bQ.nil,λd hd=>(dh hd).elim,aU _,RD.t (aH.t bg lh) _ (jE _) rx,Z⟩
  ·rintro i O H5 hi ⟨b5,ys,ds,os,iS,left,v1,v2,v3,v4,v5,dl,gh,its,jg,hlen,rp,rfl⟩
   have le:=A2 its lp;have Nt:i<20:=by omega
   refine⟨_,Z,p,4,Z,b5.aK,aj,aj,λhow H6 Nl Nk b6=>?_⟩;have wo:=b5.trans b6;obtain⟨ma,mb,ym,rfl,j9,fD⟩:=qt (RD.t (aH.t bg wo) _ (qv _ _) rm);refine⟨_,Z,_,Z,.inr ⟨ma,_,0,.ref mb,Z,Z,j9,ek (dR 0) Z,mb,_,Z,.inr fD,?_⟩⟩;refine⟨p,rs.length,(by rw[br]),wo.aK,aQ,aQ,λiv d o H7 rd it da gd b7=>?_⟩;have qR:=b6.trans b7;have ml:=b5.trans qR;have t7:=aH.t wo.aK b7;have HP:=j9.t t7;have Aq:=fD.t t7;have DQ:=RD.t (aH.t b5.aK qR) _ (jE _) rp;obtain⟨pa,rfl,uX⟩:=lR DQ;refine⟨_,Z,_,Z,.inr ⟨ma,_,0,.ref mb,Z,Z,HP,ek (dR 0) Z,pa,mb,Z,⟨_,uX⟩,⟨_,Aq⟩,λD H8 n8=>?_⟩⟩;refine B7 (b1:=false) (b2:=false) (xs:=(aW pl os).map V.int) (ys:=rs.map V.int) (bs:=((aW pl os).zip rs).map λp=>decide (0<=p.1)&&decide (p.1<=p.2)) [] rfl uX Aq n8 (by simp) (by simp;omega) ?_ ?_
   ·intro i x y b H2 Q' ex ey eb s2 hq
    rw[cm]at ex ey eb;cases e1:(aW pl os)[i]? with |none=>rw[e1]at ex;cases ex |some u=>cases e2:rs[i]? with |none=>rw[e2]at ey;cases ey |some v=>
     rw[e1]at ex;rw[e2]at ey;rw[(rO (z:=(u,v))).mpr ⟨e1,e2⟩]at eb;cases ex;cases ey;cases eb;have hq:=hq H2 (au.refl _);refine⟨_,Z,_,_,Z,Z,_,Z,?_⟩;refine dY (λhc=>?_) (λhc=>?_)
     ·have e9:decide (0<=u)=true:=hc
      simp only[e9,gy]at hq;exact⟨_,Z,_,_,Z,Z,hq⟩
     ·have e9:decide (0<=u)=false:=rZ.mpr hc
      simp only[e9,gz]at hq;exact hq
   intro H9 s9 d9;refine⟨D,_,Z,aF.of d9,?_⟩;have e:(((aW pl os).zip rs).map λp=>decide (0<=p.1)&&decide (p.1<=p.2)).all id=bK rs (aW pl os):=by rw[xw];rfl
   rw[e];have b9:aH p H7 H9:=.cy ml.aK s9;refine⟨λO H'=>∃iv d o,O=[some (.ref p),some (.ref ma),some (.ref pa),some (.int mo),some (.int mn),some (.int wd),some (.ref l),some (.int left),some (.int (0+(i:Int))),some (.int how),some iv,some (.bl (bK rs (aW pl os))),v5]/\RD K H' iv d/\fc d o/\(∀ns,o=some ns->eR rs.length 100 ns)/\jn rs.length d/\aH p H7 H',?_,?_⟩
   ·have skip:∃Aa d o,[some (V.ref p),some (.ref ma),some (.ref pa),some (.int mo),some (.int mn),some (.int wd),some (.ref l),some (.int left),some (.int (0+(i:Int))),some (.int how),some iv,some (.bl (bK rs (aW pl os))),v5]=[some (.ref p),some (.ref ma),some (.ref pa),some (.int mo),some (.int mn),some (.int wd),some (.ref l),some (.int left),some (.int (0+(i:Int))),some (.int how),some Aa,some (.bl (bK rs (aW pl os))),v5]/\RD K H9 Aa d/\fc d o/\(∀ns,o=some ns->eR rs.length 100 ns)/\jn rs.length d/\aH p H7 H9:=⟨iv,d,o,Z,RD.mono s9 _ rd,it,da,gd,b9⟩
    refine⟨_,Z,_,Z,?_⟩;cases eo:bK rs (aW pl os)with |false=>exact bz (by rw[eo]at skip;exact skip) |true=>
     rw[eo]at skip;refine bN ?_;have go:∀{Q':V->Hp->Prop},(∀v ns sp H',RD K H' v (fL ns sp)->eR rs.length 100 ns->1<=sp->sp<=20->aH p H9 H'->Q' v H')->sN K [.ref p,.ref ma,.ref pa,.int mo] H9 Q' E0:=λ{Q'} h=>⟨p,_,rs,es,_,aW pl os,mo,Z,b9.aK,RD.t (aH.t bg (ml.trans b9)) _ (qv _ _) rm,dy,RD.mono s9 _ (nr uX),(zG le).mp eo,m1,m2,λv ns sp H' r1 r2 _ r4 r5 r6=>h v ns sp H' r1 r2 r4 r5 r6⟩;refine⟨_,Z,_,_,Z,Z,_,Z,?_⟩;refine dY (λ_=>?_) (λ_=>skip);refine⟨_,Z,.inl ⟨_,_,Z,Z,_,Z,?_⟩⟩;refine dY (λ_=>?_) (λ_=>?_)
     ·exact bN ⟨_,Z,_,Z,_,Z,_,Z,go λv ns sp H' r1 r2 r4 r5 r6=>⟨v,_,some ns,Z,r1,.inl ⟨ns,sp,Z,Z⟩,λzK e=>by cases e;exact r2,vD r2 r4 r5,b9.trans r6⟩⟩
     ·refine⟨_,Z,_,_,Z,Z,_,Z,?_⟩
      refine dY (λ_=>?_) (λ_=>skip);exact⟨_,Z,_,Z,_,Z,_,Z,go λv ns sp H' r1 r2 r4 r5 r6=>⟨v,_,some ns,Z,r1,.inl ⟨ns,sp,Z,Z⟩,λzK e=>by cases e;exact r2,vD r2 r4 r5,b9.trans r6⟩⟩
   rintro O fV ⟨iv,d,o,rfl,rd,it,da,gd,jX⟩;refine⟨λO H'=>H'=fV/\∃b,O=[some (.ref p),some (.ref ma),some (.ref pa),some (.int mo),some (.int mn),some (.int wd),some (.ref l),some (.int left),some (.int (0+(i:Int))),some (.int how),some iv,some (.bl (bK rs (aW pl os))),some (.bl b)],?_,?_⟩
   ·refine⟨_,Z,.inl ⟨_,_,Z,Z,_,Z,?_⟩⟩
    refine dY (λ_=>⟨Z,_,Z⟩) (λ_=>?_);obtain⟨a,Cn,yw,rfl,h1,ew,sw⟩:=m5 rd it;refine⟨_,Z,.inr ⟨a,_,0,.str Cn,Z,Z,h1,ek (dR 0) Z,.inr ⟨_,_,cq _,cq _,sw,lY,_,Z,?_⟩⟩⟩;refine dY (λ_=>⟨Z,_,Z⟩) (λ_=>?_);exact⟨_,Z,_,_,Z,Z,Z,_,Z⟩
   rintro O fV ⟨rfl,fb,rfl⟩;have wt:=ml.trans jX;have xT:=aH.t b5.aK (qR.trans jX);have B2:=(qR.trans jX).same _ _ jJ dl;have tV:=aw.t xT _ its.no gh;have tR:=RD.t xT _ (jE _) rp;have Nc:=gh.length;have small:ys.length<sizeLine:=by
    have:(1000:Nat)<sizeLine:=by decide
    omega
   refine⟨_,Z,_,Z,?_⟩;cases fb with |false=>exact bz ⟨wt,ys,ds,os,_,left,_,_,_,_,_,B2,tV,its,jg,aQ,tR,Z⟩ |true=>
    refine bN ?_;refine⟨_,Z,iv,d,o,rs.length,Z,rd,it,da,aQ,λld eu dj=>?_⟩;refine⟨_,Z,_,_,Z,Z,_,Z,?_⟩;have wq:=wt.trans (.cy wt.aK dj);have oK:=dj _ _ B2;refine dY (λ_=>?_) (λ_=>?_)
    ·refine⟨_,Z,.inl ⟨Z,_,aF.of oK⟩,_,Z,l,ys,_,Z,Z,oK,small,?_⟩
     have tU:dN eu (L2.upd eu l (.lst (ys++[iv]))):=.iL oK;have bu:aH p H (L2.upd eu l (.lst (ys++[iv]))):=by
      refine⟨?_,λb o n e=>?_⟩
      ·obtain⟨c',m',e,ok⟩:=wq.aK
       exact⟨c',m',by rw[aI jJ.symm];exact e,ok⟩
      ·rw[aI (cz e nl)];exact wq.same b o n e
     have zj:=RD.t tU _ it.no (RD.mono dj _ rd);refine⟨_,Z,_,Z,iv,d,o,rs.length,Z,zj,it,da,aQ,λNd rn gf=>?_⟩;refine⟨_,_,Z,Z,?_⟩;refine⟨_,Z,_,Z,.ref pa,iv,aW pl os,d,o,Z,RD.mono gf _ (RD.t tU _ (jE _) (RD.mono dj _ tR)),RD.mono gf _ zj,it,λns e=>by rw[le,(da ns e).len],aQ,λx2 oX E9 lO=>?_⟩;have tN:=gf.trans lO;refine⟨bu.trans (.cy bu.aK tN),ys++[iv],ds++[d],os++[o],x2,_,_,_,_,_,_,tN _ _ bw,aw.mono tN _ (aw.pO oK (aw.mono dj _ tV) (RD.mono dj _ rd) its.no it.no),its.snoc it da,?_,?_,?_,Z⟩
     ·intro d' iu
      rcases mH.mp iu with h|h
      ·exact jg d' h
      ·rw[lF.mp h];exact gd
     ·rw[fy];show ds.length+1<=_;omega
     ·rw[vO];exact E9
    ·exact⟨wq,ys,ds,os,_,left,_,_,_,_,_,oK,aw.mono dj _ tV,its,jg,aQ,RD.mono dj _ tR,Z⟩
  ·rintro O H5 ⟨b5,ys,ds,os,iS,left,v1,v2,v3,v4,v5,dl,gh,its,jg,hlen,rp,rfl⟩
   refine⟨_,Z,l,_,Z,.inl ⟨aF.of dl,λt H6 n6=>?_⟩⟩;exact k (.ref t) ds os H6 (dF (aL.of n6.at') (aw.mono n6.same _ gh)) its jg aQ (b5.trans (.cy b5.aK n6.same))
abbrev Os:=List (Option (List Int))
theorem si:∀(pl:List Int)(a b:Os),walk pl (a++b)=walk pl a++walk (aW pl a) b |_,[],_=>rfl |pl,o::a,b=>congrArg (behind pl o::·) (si (behind pl o) a b)
theorem uI:∀(pl:List Int)(os:Os),(pl::walk pl os)[os.length]? =some (aW pl os) |_,[]=>rfl |pl,o::os=>uI (behind pl o) os
theorem bQ.take{rs:List Int}{ds:List a9}{os:Os}(h:bQ rs ds os)(c:Nat):bQ rs (ds.take c) (os.take c):=by
 refine⟨by rw[cT,cT,h.len],λi d o e1 e2=>?_,λi ns e=>?_⟩
 ·rw[C8]at e1 e2
  split at e1
  ·rename_i hi
   rw[aZ hi]at e2;exact h.it i d o e1 e2
  ·cases e1
 ·rw[C8]at e
  split at e
  ·exact h.ok i ns e
  ·cases e
theorem bQ.drop{rs:List Int}{ds:List a9}{os:Os}(h:bQ rs ds os)(c:Nat):bQ rs (ds.drop c) (os.drop c):=by
 refine⟨by rw[mJ,mJ,h.len],λi d o e1 e2=>?_,λi ns e=>?_⟩
 ·rw[List.getElem?_drop]at e1 e2
  exact h.it _ d o e1 e2
 ·rw[List.getElem?_drop]at e
  exact h.ok _ ns e
def cv(rs pl:List Int)(os:Os):Option Nat:=(walk pl os).findIdx? λq=>!bK rs q
theorem lI{rs pl:List Int}{os:Os}{n:Nat}(h:cv rs pl os=some n):iP rs pl os= .int (n:Int):=by unfold iP;rw[show(walk pl os).findIdx? (λq=>!bK rs q)=some n from h]
theorem kn{rs pl:List Int}{os:Os}(h:cv rs pl os=none):iP rs pl os= .list ((walk pl os).map bA):=by unfold iP;rw[show(walk pl os).findIdx? (λq=>!bK rs q)=none from h]
theorem ur(rs pl:List Int)(a b:Os):cv rs pl (a++b)=match cv rs pl a with |some n=>some n |none=>(cv rs (aW pl a) b).map (·+a.length):=by unfold cv;rw[si,List.findIdx?_append,gA];cases(walk pl a).findIdx? (λq=>!bK rs q)<;>rfl
theorem uq{rs pl:List Int}{os:Os}{n:Nat}(h:cv rs pl os=some n):cv rs pl (os.take n)=none/\n<os.length:=by unfold cv at h⊢;have h':=MP.mp h;obtain⟨hl,_,hj⟩:=h';rw[gA]at hl;refine⟨?_,hl⟩;rw[pD,Ca];intro q hq;obtain⟨j,ja⟩:=kj.mp hq;obtain⟨qA,e⟩:=bM.mp ja;rw[cT]at qA;have:=hj j aQ;rw[List.getElem_take]at e;rw[<-e];simpa using this
theorem sy:dD "int" "int"=true:=by decide
theorem su:dD "list" "int"=false:=by decide
theorem qe{H:Hp}{v:V}{ds:List a9}(h:RD K H v (.list ds)):∃l ys,v= .ref l/\aF K H l ys/\aw K H ys ds:=h.lst_inv
inductive LZ(K:a6)(vs:List V)(H:Hp)(Q:VK):Prop |mk (m:V)(x:V)(iv:V)(rs:List Int)(es:List Int)(pl:List Int)(ds:List a9)(os:Os)(c:Nat)(h0:vs=[m,x,iv,.int c])(h1:RD K H m (eZ rs es))(h2:RD K H x (bA pl))(h3:pl.length=rs.length)(h4:rs.length<=1000)(h5:RD K H iv (.tuple ds))(h6:bQ rs ds os)(h7:ds.length<=100)(h8:c<=ds.length)(h9:∀v H',RD K H' v (iP rs pl os)->au H H'->Q v H')
def yd(K:a6):Sp:=λvs H Q _=>LZ K vs H Q
abbrev tf:Stmt:=top 47
theorem yA:bp ["_law_machine_here","_law_place_here","_law_row_here","_law_cut","_law_first","_law_second"] ["_law_machine_here","_law_place_here","_law_row_here","_law_cut"] (aO tf):=bT bf
theorem Fq(F:FA K mg "_law_pieces" tf)(B:bI mg)(m8:aP P w K mg ag "_law_told" 5 (pK K)):aP P w K mg ag "_law_pieces" 6 (yd K):=by
 refine F.has yA (λvs H Q E h=>?_) (λ_ _ _ _ _ _=>Bx λ_ _ _ _=>rfl) (λf ao A outer s H vs Q E hr h=>?_)
 ·obtain⟨m,x,iv,rs,es,pl,ds,os,c,rfl,_⟩:=h
  rfl
 ·obtain⟨m,x,iv,rs,es,pl,ds,os,c,rfl,rm,rx,lp,lr,ri,its,hz,hc,k⟩:=h
  have nd:=yA.nd;have AE:sizeLine=16777216:=by decide
  refine⟨_,(aE (pS 4 nd (pf m8 hr (ah (pv 0) (ah (pv 1) (ah (ue (sQ K Z) (pv 2) uc (qf (pv 3))) ak))))) (aE (bP (dG (i8 K B (ah (pv 4) (ah (i6 (x:="int") (v:=.ty "int") Z (B.at "int") rJ rfl) ak)))) (aJ (bc (pv 4))) bO) (aE (pS 5 nd (pf m8 hr (ah (pv 0) (ah (px K (ba (qO K Z) (fB (ah (pv 1) ak)) (pv 4)) (iV iO ay)) (ah (ue (sQ K Z) (pv 2) (qf (pv 3)) uc) ak))))) (aJ (bc (qi (dG (i8 K B (ah (pv 5) (ah (i6 (x:="int") (v:=.ty "int") Z (B.at "int") rJ rfl) ak)))) (ba cQ (pv 3) (pv 5)) (ba (qO K rfl) (pv 4) (pv 5)))))))),?_⟩;obtain⟨ia,xs,rfl,hi,dI⟩:=ri.cD;have lx:=dI.length;have lo:=its.len;have AW:=List.take_append_drop c os;have key:=ur rs pl (os.take c) (os.drop c);rw[AW]at key;have uE:(os.take c).length=c:=by rw[cT];omega
  refine⟨_,Z,_,Z,_,Z,_,Z,_,Z,ia,xs,Z,hi,λca H1 s1 h1=>?_⟩;rw[B3]at h1;have r1:RD K H1 (.ref ca) (.tuple (ds.take c)):=dF h1 (aw.mono s1 _ (dI.take c));refine⟨m,x,.ref ca,rs,es,pl,_,_,Z,RD.mono s1 _ rm,RD.mono s1 _ rx,lp,lr,r1,its.take c,by rw[cT];omega,λfv H2 rf s2=>?_⟩;have gf:=s1.trans s2;cases e1:cv rs pl (os.take c)with |some n=>rw[lI e1]at rf;cases rf.int_inv;rw[e1]at key;refine⟨_,Z,.inl ⟨_,"int","int",true,Z,Z,aj,sy,_,Z,bN ?_⟩⟩;refine⟨_,Z,k _ H2 ?_ gf⟩;rw[lI key];exact dw _ |none=>
   rw[kn e1]at rf;rw[e1]at key;obtain⟨l1,ys,rfl,fE,ry⟩:=qe rf;have ly:=ry.length;rw[br,gA,uE]at ly;refine⟨_,Z,.inl ⟨_,"list","int",false,Z,rf.ty,aj,su,_,Z,bz ?_⟩⟩;refine⟨_,Z,_,Z,cE Z,λla H3 n3=>?_⟩;have lO:=gf.trans n3.same;have HV:=fE.go n3.same;refine⟨_,Z,la,l1,_,_,Z,Z,aF.of n3.at',HV,by show 1+_<=_;omega,λlb H4 n4=>?_⟩;have eE:=lO.trans n4.same;have tW:aw K H4 (x::ys) ((pl::walk pl (os.take c)).map bA):=bJ (RD.mono eE _ rx) (aw.mono (n3.same.trans n4.same) _ ry);obtain⟨z,ez,rz⟩:=tW.get c (d:=bA (aW pl (os.take c))) (by have:=uI pl (os.take c);rw[uE]at this;rw[cm,this];rfl);have zl:(x::ys).length=c+1:=by rw[iJ,ly]
   have L6:df ([x]++ys) (-1)=some z:=by show df (x::ys) (-1)=some z;unfold df;rw[show fC (x::ys).length (-1)=some c by rw[zl];unfold fC;rw[aY aj,aZ aQ];congr 1;omega];exact ez
   refine⟨_,Z,.inl ⟨lb,_,_,z,Z,Z,aF.of n4.at',L6,?_⟩⟩;refine⟨_,Z,_,Z,_,Z,ia,xs,Z,hi.go eE,λcb H5 s5 h5=>?_⟩;rw[Kn]at h5;have lN:=eE.trans s5;have r5:RD K H5 (.ref cb) (.tuple (ds.drop c)):=dF h5 (aw.mono lN _ (dI.drop c));have le:=(its.take c).jK lp c;rw[gw aQ]at le;refine⟨m,z,.ref cb,rs,es,aW pl (os.take c),_,_,Z,RD.mono lN _ rm,RD.mono s5 _ rz,le,lr,r5,its.drop c,by rw[mJ];omega,λsv H6 mY s6=>?_⟩;have yY:=lN.trans s6;cases e2:cv rs (aW pl (os.take c)) (os.drop c)with
   |some n=>
    rw[lI e2]at mY;cases mY.int_inv;rw[e2,uE]at key;refine⟨_,Z,.inl ⟨_,"int","int",true,Z,Z,aj,sy,_,Z,bN ?_⟩⟩;refine⟨_,Z,_,Z,_,_,Z,Z,k _ H6 ?_ yY⟩;rw[lI (n:=n+c) key];have:((n+c:Nat):Int)=(c:Int)+(n:Int):=by omega
    rw[this];exact dw _ |none=>rw[kn e2]at mY;rw[e2]at key;obtain⟨l2,zs,rfl,fO,mX⟩:=qe mY;have lz:=mX.length;rw[br,gA,mJ]at lz;refine⟨_,Z,.inl ⟨_,"list","int",false,Z,mY.ty,aj,su,_,Z,bz ?_⟩⟩;have yX:=n3.same.trans (n4.same.trans (s5.trans s6));refine⟨_,Z,_,Z,l1,l2,_,_,Z,Z,fE.go yX,fO,aQ,λlc H7 n7=>?_⟩;refine k _ H7 ?_ (yY.trans n7.same);rw[kn (os:=os) key,<-AW,si,mI];exact zi (aF.of n7.at') ((aw.mono (yX.trans n7.same) _ ry).append (aw.mono n7.same _ mX))
def cR(ns:List Int):List Int:=ns.map λz=>-z
def fR(os:Os):Os:=(os.reverse.filterMap id).map λns=>some (cR ns)
def nO:Option (List Int)->Os |some ns=>[some (cR ns)] |none=>[]
theorem KY(os:Os)(o:Option (List Int)):fR (os++[o])=nO o++fR os:=by unfold fR;rw[List.reverse_append];cases o<;>rfl
theorem Bz:∀{a b:List Int},b.length=a.length->cH (cH a b) (cR b)=a |[],[],_=>rfl |x::a,y::b,h=>by show(x+y+-y)::cH (cH a b) (cR b)=x::a;rw[Bz (by simpa using h)];congr 1;omega
theorem Bq{rs pl:List Int}:∀(n:Nat)(os:Os),os.length=n->pl.length=rs.length->bK rs pl=true->(∀(i:Nat) ns,os[i]? =some (some ns)->ns.length=rs.length)->(∀q∈walk pl os,bK rs q=true)->aW (aW pl os) (fR os)=pl/\(∀q∈walk (aW pl os) (fR os),bK rs q=true)/\(aW pl os).length=rs.length/\bK rs (aW pl os)=true
 |0,os,hn,hl,h0,_,_=>by cases os with |nil=>exact⟨Z,λq hq=>(dh hq).elim,hl,h0⟩ |cons o r=>simp at hn
 |n+1,os,hn,hl,h0,hs,hw=>by
  obtain⟨eG,o,rfl⟩:∃eG o,os=eG++[o]:=⟨os.dropLast,os.getLast (by intro z;rw[z]at hn;simp at hn),(List.dropLast_concat_getLast _).symm⟩;rw[fy]at hn;have nW:eG.length=n:=by have:eG.length+1=n+1:=hn;omega
  rw[sg]at hw;obtain⟨i1,i2,i3,i4⟩:=Bq n eG nW hl h0 (λi ns e=>hs i ns (by rw[rQ (bM.mp e).1];exact e)) (λq hq=>hw q (xu _ hq));have on:=hw _ (cZ _ (lF.mpr Z));rw[vO,KY];cases o with |none=>exact⟨i1,i2,i3,i4⟩ |some ns=>
   have ln:ns.length=rs.length:=hs eG.length ns (by rw[p9 (aU _),rK];rfl);have e:cH (cH (aW pl eG) ns) (cR ns)=aW pl eG:=Bz (by rw[ln,i3]);refine⟨?_,?_,?_,on⟩
   ·show aW (cH (cH (aW pl eG) ns) (cR ns)) (fR eG)=pl
    rw[e];exact i1
   ·intro q hq
    have eJ:q∈cH (cH (aW pl eG) ns) (cR ns)::walk (cH (cH (aW pl eG) ns) (cR ns)) (fR eG):=hq;rw[e]at eJ;rcases bR.mp eJ with rfl|h
    ·exact i4
    ·exact i2 q h
   ·show(cH (aW pl eG) ns).length=_
    rw[fT (by rw[ln,i3])];exact i3
def fS(d:a9):Option a9:=match d with | .tuple [.str _,.tuple xs,.int sp]=>some (.tuple [.str "line",.tuple (xs.map λ| .int z=>.int (-z)|e=>e),.int sp]) |_=>none
theorem wm(ns:List Int)(sp:Int):fS (fL ns sp)=some (fL (cR ns) sp):=by show some (PyData.tuple [.str "line",.tuple ((ns.map PyData.int).map λ| .int z=>.int (-z)|e=>e),.int sp])=some (.tuple [.str "line",.tuple ((cR ns).map PyData.int),.int sp]);rw[List.map_map];unfold cR;rw[List.map_map];rfl
theorem wk(w:Str)(x:a9):fS (.tuple [.str w,x])=none:=by cases x<;>rfl
theorem zh{H:Hp}:∀{ds:List a9}{xs:List V},aw K H xs ds->aw K H xs.reverse ds.reverse |[],xs,h=>by rw[h.nil_inv];exact bW |d::ds,xs,h=>by obtain⟨y,ys,rfl,h1,h2⟩:=h.cons_inv;rw[p6,p6];exact(zh h2).append (bJ h1 bW)
theorem Fb{n:Nat}{ns:List Int}(h:eR n 100 ns):eR n 100 (cR ns):=by
 refine⟨by unfold cR;rw[br];exact h.len,λz hz=>?_,?_⟩
 ·obtain⟨y,hy,rfl⟩:=jx.mp hz
  have:=h.bd y hy;rw[Int.natAbs_neg];exact this
 ·obtain⟨y,hy,h0⟩:=h.nz
  exact⟨-y,jx.mpr ⟨y,hy,Z⟩,aQ⟩
def jV(ds:List a9):List a9:=ds.reverse.filterMap fS
theorem Ab{rs:List Int}:∀(n:Nat)(ds:List a9)(os:Os),os.length=n->bQ rs ds os->bQ rs (jV ds) (fR os)
 |0,ds,os,hn,h=>by have hd:=h.len;cases os with |cons _ _=>simp at hn |nil=>cases ds with |cons _ _=>simp at hd |nil=>exact bQ.nil
 |n+1,ds,os,hn,h=>by have hd:=h.len;cases os with |nil=>simp at hn |cons o os=>cases ds with |nil=>simp at hd |cons d ds=>
  have h':bQ rs ds os:=⟨by simpa using hd,λi d' o' e1 e2=>h.it (i+1) d' o' (by simpa using e1) (by simpa using e2),λi ns e=>h.ok (i+1) ns (by simpa using e)⟩;have ih:=Ab n ds os (by simpa using hn) h';have it:=h.it 0 d o Z rfl;have e1:jV (d::ds)=jV ds++(fS d).toList:=by unfold jV;rw[p6,Cb];cases hb:fS d<;>simp[List.filterMap,hb]
  have e2:fR (o::os)=fR os++nO o:=by unfold fR;rw[p6,Cb,mI];cases o<;>rfl
  rw[e1,e2];rcases it with⟨ns,sp,rfl,rfl⟩|⟨w',x,rfl,hw,_,rfl⟩
  ·rw[wm]
   exact ih.snoc (.inl ⟨cR ns,sp,Z,Z⟩) (λzK e=>by cases e;exact Fb (h.ok 0 ns rfl))
  ·rw[wk]
   show bQ rs (jV ds++[]) (fR os++[]);rw[fH,fH];exact ih
theorem Bp(ds:List a9):(jV ds).length<=ds.length:=by unfold jV;have:=List.length_filterMap_le fS ds.reverse;rw[p8]at this;exact this
inductive Me(K:a6)(vs:List V)(H:Hp)(Q:VK):Prop |mk (iv:V)(rs:List Int)(ds:List a9)(os:Os)(h0:vs=[iv])(h1:RD K H iv (.tuple ds))(h2:bQ rs ds os)(h3:rs.length<=1000)(h4:ds.length<=100)(h5:∀v H',RD K H' v (.tuple (jV ds))->au H H'->Q v H')
def yl(K:a6):Sp:=λvs H Q _=>Me K vs H Q
abbrev tJ:Stmt:=top 49
theorem yO:bp ["_law_row_here","_law_found","_law_item_here"] ["_law_row_here"] (aO tJ):=bT bf
theorem FN(F:FA K mg "_law_back" tJ)(B:bI mg):aP P w K mg ag "_law_back" 1 (yl K):=by
 refine F.has yO (λvs H Q E h=>?_) (λ_ _ _ _ _ _=>iD λ_=>rfl) (λf ao A outer s H vs Q E hr h=>?_)
 ·obtain⟨iv,rs,ds,os,rfl,_⟩:=h
  rfl
 ·obtain⟨iv,rs,ds,os,rfl,ri,its,lr,hz,k⟩:=h
  have nd:=yO.nd;refine⟨_,(aE (pS 1 nd (fB ak)) (aE (jD ki Z (kB K Z (EF (DK K Z) (pv 0) (qf (iV iO ay)))) (bB 2 nd) (aJ (bP (cu (eM K Z hr.units) (px K (pv 2) ay) cV (bG _)) (aJ (nq (nA K Z (pv 1) (ah (hZ (ah cV (ah (gk (x:="tuple") (gB K Z) Z (B.at "tuple") fZ (ah (fK (N:=["_law_step"]) (js:=[none]) rfl rfl rfl (kB K rfl (px K (pv 2) ay)) (λ_ _ _ _ _=>(bB 0 (nH _))) (λ_ _ _ _ _=>eX) (λ_ _ _ _ _=>(iV iO (pv 0)))) ak)) (ah (px K (pv 2) ay) ak)))) ak)))) bO))) (aJ (bc (gk (x:="tuple") (gB K Z) Z (B.at "tuple") fZ (ah (pv 1) ak)))))),?_⟩;obtain⟨ia,xs,rfl,hi,dI⟩:=ri.cD;have lx:=dI.length;refine⟨cE Z,λl H1 n1=>?_⟩;refine⟨_,Z,_,Z,_,Z,Z,ia,_,Z,hi.go n1.same,λra H2 n2=>?_⟩;have s2:=n1.same.trans n2.same;have ne:ra≠l:=λz=>by have:=n2.no;rw[z,n1.at']at this;cases this
  have eK:aw K H xs.reverse ds.reverse:=zh dI;have ho:=its.len;refine⟨ra,Z,⟨_,aL.of n2.at'⟩,AJ (K:=K) (a:=ra) (xs:=xs.reverse) (λi O H5=>au H H5/\H5 ra=some (.tup xs.reverse)/\∃ys v,H5 l=some (.lst ys)/\aw K H5 ys ((ds.reverse.take i).filterMap fS)/\O=[some (.ref ia),some (.ref l),v]) ?_ (λi O H5 _ h=>aL.of h.2.1) ?_ ?_⟩
  ·exact⟨s2,n2.at',[],none,n2.same _ _ n1.at',bW,Z⟩
  ·rintro i y O H5 hy ⟨s5,e5,ys,v,dl,ry,rfl⟩
   obtain⟨d,ed,rd⟩:=eK.get' i hy;have zk:=RD.mono s5 _ rd;obtain⟨o,it,da⟩:∃o,fc d o/\∀ns,o=some ns->eR rs.length 100 ns:=by obtain⟨j,hj⟩:=kj.mp (List.mem_reverse.mp (jw ed));have qA:=(bM.mp hj).1;have eo:=bC (l:=os) (i:=j) aQ;exact⟨_,its.it j d _ hj eo,λns e=>its.ok j ns (by rw[eo,e])⟩
   have tk:(ds.reverse.take (i+1)).filterMap fS=(ds.reverse.take i).filterMap fS++(fS d).toList:=by rw[iI,ed,Cb];cases hb:fS d<;>simp[List.filterMap,hb]
   have Gd:cF ((ds.reverse.take i).filterMap fS)=true:=eH.mpr λe he=>by
    obtain⟨d',iu,hb⟩:=lG.mp he;obtain⟨j,hj⟩:=kj.mp (List.mem_reverse.mp (xr iu));have qA:=(bM.mp hj).1;rcases its.it j d' _ hj (bC (l:=os) (i:=j) aQ)with⟨ns,sp,rfl,_⟩|⟨w',x,rfl,hw,_,_⟩
    ·rw[wm]at hb;cases hb;exact(show fc (fL (cR ns) sp) (some (cR ns))from .inl ⟨_,_,rfl,rfl⟩).no
    ·rw[wk]at hb;cases hb
   have ly:=ry.length;have small:ys.length<sizeLine:=by
    have h1:=List.length_filterMap_le fS (ds.reverse.take i);rw[cT,p8]at h1;have:(1000:Nat)<sizeLine:=by decide
    omega
   obtain⟨a,wd,yw,rfl,h1,ew,sw⟩:=m5 zk it;refine⟨_,Z,.inr ⟨a,_,0,.str wd,Z,Z,h1,ek (dR 0) Z,.inr ⟨_,_,cq _,cq _,sw,lY,_,Z,?_⟩⟩⟩;rw[ew];rcases it with⟨ns,sp,rfl,rfl⟩|⟨w',x,rfl,hw,_,rfl⟩
   ·refine bN ?_
    obtain⟨a',b,e,ha,hb⟩:=lX zk;cases e;have jG:=da ns rfl;refine⟨_,Z,.inl ⟨Z,_,aF.of dl⟩,?_⟩;refine⟨_,Z,.inr ⟨a,_,1,.ref b,Z,Z,ha,Z,b,Z,⟨_,hb⟩,λD H6 n6=>?_⟩⟩;refine B5 (K:=K) (xs:=ns.map V.int) (ds:=(cR ns).map PyData.int) _ hb n6 (by simp[cR]) (by rw[br,jG.len];exact lr) (jI _) ?_ ?_
    ·intro j x d H7 Q' ex ed s7 hq
     rw[cm]at ex;obtain⟨z,ez,rfl⟩:=Option.map_eq_some_iff.mp ex;have Kk:((cR ns).map PyData.int)[j]? =some (.int (-z)):=by rw[cm];unfold cR;rw[cm,ez];rfl
     rw[Kk]at ed;cases ed;exact⟨_,Z,_,Z,hq _ _ (au.refl _) (dw _)⟩
    ·intro H7 zs s7 d7 r7
     rw[r7.gK]at d7;refine⟨D,_,Z,.inl ⟨aF.of d7,λq H8 n8=>?_⟩⟩;have yW:=s7.trans n8.same;refine⟨_,Z,.inr ⟨a,_,2,.int sp,Z,Z,ha.go yW,Z,cE Z,λt H9 n9=>?_⟩⟩;have qa:=yW.trans n9.same;have vU:=qa _ _ dl;refine⟨l,ys,_,Z,Z,vU,small,?_⟩;have tU:dN H9 (L2.upd H9 l (.lst (ys++[.ref t]))):=.iL vU;have DV:RD K H9 (.ref t) (fL (cR ns) sp):=dF (aL.of n9.at') (bJ (cq _) (bJ (dF (aL.of (n9.same _ _ n8.at')) (ng _)) (bJ (dw _) bW)));refine⟨λb' o' e=>?_,?_,ys++[.ref t],_,bw,?_,Z⟩
     ·rw[aI (cz e n1.no)];exact qa _ _ (s5 _ _ e)
     ·rw[aI ne];exact qa _ _ e5
     ·rw[tk,wm]
      exact aw.pO vU (aw.mono qa _ ry) DV Gd (show fc (fL (cR ns) sp) (some (cR ns))from .inl ⟨_,_,Z,Z⟩).no
   ·refine bz ⟨s5,e5,ys,_,dl,?_,Z⟩
    rw[tk,wk];show aw K H5 ys (_++[]);rw[fH];exact ry
  ·rintro O H5 ⟨s5,e5,ys,v,dl,ry,rfl⟩
   rw[gw (by rw[p8,p8];omega)]at ry;refine⟨_,Z,l,_,Z,.inl ⟨aF.of dl,λt H6 n6=>?_⟩⟩;exact k (.ref t) H6 (dF (aL.of n6.at') (aw.mono n6.same _ ry)) (s5.trans n6.same)
end
end Lw
set_option maxHeartbeats 1000000
namespace Lw
open PySem PySem.Spec PyProof.Rows L2 Ln Wk
section
variable {P:a8}{w:World}{K:a6}{mg:aM}{ag:Heap}
def ze(m b d q p r s k t:V):List (Str×V):=[("machine",m),("begun_at",b),("done",d),("queue",q),("pace",p),("rate_now",r),("side",s),("mark",k),("stopping",t)]
structure ll(K:a6)(C:Addr):Prop where
 cl:fX K C
 uz:eS K C "machine"
 uA:eS K C "begun_at"
 Gq:eS K C "done"
 kJ:eS K C "queue"
 Gn:eS K C "pace"
 Gm:eS K C "rate_now"
 Gk:eS K C "side"
 Gp:eS K C "mark"
 Gj:eS K C "stopping"
structure jY(K:a6)(C:Addr)(H:Hp)(a q:Addr)(mv bv:V)(ds:List a9):Prop where
 ob:∃dx pc,H a=some (.ins C dx (ze mv bv (.int 0) (.ref q) pc (.int 100) (.str "up") (.str "") .bj))
 qu:∃ys,H q=some (.lst ys)/\aw K H ys ds
theorem jY.go{C:Addr}{H H':Hp}{a q:Addr}{mv bv:V}{ds:List a9}(h:jY K C H a q mv bv ds)(s:au H H'):jY K C H' a q mv bv ds:=by obtain⟨⟨dx,pc,e⟩,ys,eq,r⟩:=h;exact⟨⟨dx,pc,s _ _ e⟩,ys,s _ _ eq,aw.mono s _ r⟩
abbrev sZ:Stmt:=inClass (top 34) 0
theorem DG:bp ["self","machine","place"] ["self","machine","place"] (aO sZ):=bT bf
inductive LW(K:a6)(C:Addr)(vs:List V)(H:Hp)(Q:VK):Prop |mk (a:_)(dx:_)(mv:_)(iS:_)(h0:vs=[.ref a,mv,iS])(h1:H a=some (.ins C dx []))(h2:∀q H',jY K C H' a q mv iS []->H q=none->a≠q->BJ [a] H H'->Q .bj H')
def ya(K:a6)(C:Addr):Sp:=λvs H Q _=>LW K C vs H Q
theorem Fm{C:Addr}(F:CA K mg C "Runner" "Runner.__init__" sZ)(TC:ll K C)(gN:GT K mg "NOUGHT" [.int 0,.int 1])(IZ:GV mg "FIRST_RATE" (.int 100)):rj P w K mg ag C "Runner" 1 (ya K C):=by
 obtain⟨aN,IT,MY⟩:=gN;refine F.has DG (λvs H Q E h=>?_) (λ_ _ _ _ _ _=>mq λ_ _ _=>rfl) (λf ao A outer s H vs Q E hr h=>?_)
 · obtain⟨a,dx,mv,iS,rfl,_⟩:=h
   rfl
 · obtain⟨a,dx,mv,iS,rfl,e,k⟩:=h
   refine⟨_,(aE (iT TC.cl TC.uz (pv 0) (pv 1)) (aE (iT TC.cl TC.uA (pv 0) (pv 2)) (aE (iT TC.cl TC.Gq (pv 0) ay) (aE (iT TC.cl TC.kJ (pv 0) (fB ak)) (aE (iT TC.cl TC.Gn (pv 0) (i5 (x:="NOUGHT") rfl IT)) (aE (iT TC.cl TC.Gm (pv 0) (i5 (x:="FIRST_RATE") rfl IZ)) (aE (iT TC.cl TC.Gk (pv 0) cV) (aE (iT TC.cl TC.Gp (pv 0) cV) (aJ (iT TC.cl TC.Gj (pv 0) zv)))))))))),?_⟩;refine⟨_,Z,_,Z,a,dx,_,Z,e,aj,?_⟩;refine⟨_,Z,_,Z,a,dx,_,Z,bw,by show 1<1000;decide,?_⟩;refine⟨_,Z,a,dx,_,Z,bw,by show 2<1000;decide,?_⟩;refine⟨cE Z,λq H1 n1=>?_⟩;have aq:a≠q:=λz=>by have:=n1.no;rw[<-z,bw]at this;cases this
   have e1:=n1.same _ _ (bw (a:=a));refine⟨_,Z,a,dx,_,Z,e1,by show 3<1000;decide,?_⟩;refine⟨_,Z,a,dx,_,Z,bw,by show 4<1000;decide,?_⟩;refine⟨_,Z,a,dx,_,Z,bw,by show 5<1000;decide,?_⟩;refine⟨_,Z,a,dx,_,Z,bw,by show 6<1000;decide,?_⟩;refine⟨_,Z,a,dx,_,Z,bw,by show 7<1000;decide,?_⟩;refine⟨_,Z,a,dx,_,Z,bw,by show 8<1000;decide,?_⟩;refine k q _ ⟨⟨dx,.ref aN,bw⟩,[],?_,bW⟩ ?_ aq λb o eb hb=>?_
   · repeat rw[aI aq.symm]
     exact n1.at'
   · have:=n1.no
     repeat rw[aI aq.symm]at this
     exact this
   have ha:b≠a:=λz=>hb (by rw[z];exact .head _)
   repeat rw[aI ha]
   exact n1.same _ _ (by repeat rw[aI ha]
                         exact eb)
inductive M5(K:a6)(C:Addr)(vs:List V)(H:Hp)(Q:VK):Prop |mk (a:Addr)(q:Addr)(mv:V)(bv:V)(rs:List Int)(pl:List Int)(ds:List a9)(os:Os)(h0:vs=[.ref a])(h1:jY K C H a q mv bv ds)(h2:RD K H bv (bA pl))(h3:bQ rs ds os)(h4:pl.length=rs.length)(h5:rs.length<=1000)(h6:∀v H',RD K H' v (bA (aW pl os))->au H H'->Q v H')
def mT(K:a6)(C:Addr):Sp:=λvs H Q _=>M5 K C vs H Q
abbrev pU:Stmt:=inClass (top 34) 2
theorem pP:bp ["self","here","item"] ["self"] (aO pU):=bT bf
theorem Fj{C:Addr}(F:MA K C "leads_to" "Runner.leads_to" pU)(TC:ll K C)(kQ:aP P w K mg ag "place_behind" 2 (gE K)):oQ P w K mg ag C "leads_to" 3 (mT K C):=by
 refine F.has pP (λvs H Q E h=>?_) (λ_ _ _ _ _ _=>iD λ_=>rfl) (λf ao A outer s H vs Q E hr h=>?_)
 ·obtain⟨a,q,mv,bv,rs,pl,ds,os,rfl,_⟩:=h
  rfl
 ·obtain⟨a,q,mv,bv,rs,pl,ds,os,rfl,R,rb,its,lp,lr,k⟩:=h
  obtain⟨⟨dx,pc,e⟩,ys,eq,rq⟩:=R;have nd:=pP.nd;have lo:=its.len;have ly:=rq.length;refine⟨_,(aE (pS 1 nd (i7 TC.cl TC.uA (pv 0))) (aE (jD ki Z (Ew K Z (i7 TC.cl TC.kJ (pv 0))) (bB 2 nd) (aJ (pS 1 nd (pf kQ hr (ah (pv 1) (ah (pv 2) ak)))))) (aJ (bc (pv 1))))),?_⟩;refine⟨_,Z,a,dx,_,_,Z,e,Z,?_⟩;refine⟨_,Z,a,dx,_,_,Z,e,Z,q,Z,⟨_,aF.of eq⟩,JG (K:=K) (a:=q) (xs:=ys) (λi O H2=>au H H2/\∃hv v,RD K H2 hv (bA (aW pl (os.take i)))/\O=[some (.ref a),some hv,v]) ?_ (λi O H2 _ h=>aF.of (h.1 _ _ eq)) ?_ ?_⟩
  ·exact⟨au.refl _,bv,none,rb,Z⟩
  ·rintro i y O H2 hy ⟨s2,hv,v,rh,rfl⟩
   obtain⟨d,ed,rd⟩:=rq.get' i hy;have kS:i<os.length:=by rw[<-lo];exact(bM.mp ed).1
   have eo:=bC kS;have it:=its.it i d _ ed eo;have le:=its.jK lp i;refine⟨_,Z,_,Z,hv,y,_,d,os[i],Z,rh,RD.mono s2 _ rd,it,λns e=>by rw[le,(its.ok i ns (by rw[eo,e])).len],aA,λu H3 ru s3=>⟨s2.trans s3,u,_,?_,Z⟩⟩;rw[oH eo];exact ru
  ·rintro O H2 ⟨s2,hv,v,rh,rfl⟩
   rw[gw aA]at rh;exact⟨_,Z,k hv H2 rh s2⟩
def j4(sp:Sp)(ex:Addr):Sp:=λvs H Q E=>fU ex H/\sp vs H Q E
theorem FD(F:FA K mg "is_line" pW)(B:bI mg):jo P w K mg ag "is_line" 1 (j4 (pN K)):=by
 refine F.oq pR (λex vs H Q E h=>?_) (λ_ _ _ _ _ _=>iD λ_=>rfl) (λex f ao A outer s H vs Q hr h=>?_)
 ·obtain⟨_,v,d,o,rfl,_⟩:=h
  rfl
 ·obtain⟨hd,v,d,o,rfl,rd,it,k⟩:=h
  have nd:=pR.nd;refine⟨_,(aJ (bc (gG (eM K Z hr.units) (px K (pv 0) ay) cV (bG _)))),?_⟩;obtain⟨a,wd,ys,rfl,h1,ew,sw⟩:=m5 rd it;refine⟨_,Z,.inr ⟨a,_,0,.str wd,Z,Z,h1,ek (dR 0) Z,.inr ⟨_,_,cq _,cq _,sw,lY,?_⟩⟩⟩;rw[ew];exact k
theorem Ft(F:FA K mg "moved" pV)(B:bI mg):jo P w K mg ag "moved" 1 (j4 (pL K)):=by
 refine F.oq pQ (λex vs H Q E h=>?_) (λ_ _ _ _ _ _=>eO λ_ _=>rfl) (λex f ao A outer s H vs Q hr h=>?_)
 ·obtain⟨_,pw,b,pl,ns,rfl,_⟩:=h
  rfl
 ·obtain⟨hd,pw,b,pl,ns,rfl,rp,hb,ln,hz,k⟩:=h
  have nd:=pQ.nd;refine⟨_,(aJ (bc (gk (x:="tuple") (gB K Z) Z (B.at "tuple") fZ (ah (ER (N:=["number","step"]) (js:=[none,none]) hr.hd rfl rfl (En K rfl ex rfl (B.at "zip") (ah (pv 0) (ah (pv 1) ak))) (λ_ _ _ _ _=>(ED K rfl (n:=2) hr.hd (cU (bB 0 (dX aj)) (cU (bB 1 (dX aj)) hX)))) (λ_ _ _ _ _=>eX) (λ_ _ _ _ _=>(ba cQ (pv 0) (pv 1)))) ak)))),?_⟩;obtain⟨pa,rfl,hp⟩:=lR rp;refine⟨_,Z,_,Z,pa,b,Z,⟨_,hp⟩,⟨_,hb⟩,λD H1 n1=>?_⟩;refine Kq (K:=K) (xs:=pl.map V.int) (ys:=ns.map V.int) (ds:=(cH pl ns).map PyData.int) [] rfl hp hb n1 hd (by simp[fT ln,ln]) (by rw[br,fT ln];exact hz) (jI _) ?_ ?_
  ·intro i x y d H2 Q' ex ey ed s2 hq
   obtain⟨m,em,rfl⟩:=qs ed;rw[cm]at ex ey;cases e1:pl[i]? with |none=>rw[e1]at ex;cases ex |some u=>cases e2:ns[i]? with |none=>rw[e2]at ey;cases ey |some v=>rw[e1]at ex;rw[e2]at ey;cases ex;cases ey;rw[oN e1 e2]at em;cases em;exact⟨_,Z,_,Z,_,_,Z,Z,hq _ _ (au.refl _) (dw _)⟩
  ·intro H2 zs s2 d2 r2
   refine⟨D,_,Z,.inl ⟨aF.of d2,λt H3 n3=>?_⟩⟩;have et:=n3.at';rw[r2.gK]at et;exact k (.ref t) H3 (nr (aL.of et)) (s2.trans n3.same)
theorem FO(F:FA K mg "place_behind" pX)(B:bI mg)(vg:jo P w K mg ag "is_line" 1 (j4 (pN K)))(ve:jo P w K mg ag "moved" 1 (j4 (pL K))):jo P w K mg ag "place_behind" 2 (j4 (gE K)):=by
 refine F.oq pT (λex vs H Q E h=>?_) (λ_ _ _ _ _ _=>eO λ_ _=>rfl) (λex f ao A outer s H vs Q hr h=>?_)
 ·obtain⟨_,pw,iv,pl,d,o,rfl,_⟩:=h
  rfl
 ·obtain⟨hd,pw,iv,pl,d,o,rfl,rp,ri,it,hl,hz,k⟩:=h
  have nd:=pT.nd;refine⟨_,(aJ (bc (qi (dG (uf vg (hr.mono aj) Z (ah (pv 1) ak))) (uf ve (hr.mono aj) Z (ah (pv 0) (ah (px K (pv 1) ay) ak))) (pv 0)))),?_⟩;refine⟨_,Z,hd,iv,d,o,Z,ri,it,?_⟩;rcases it with⟨ns,sp,rfl,rfl⟩|⟨w',x,rfl,hw,_,rfl⟩
  ·refine⟨_,Z,bN ?_⟩
   obtain⟨a,b,rfl,ha,hb⟩:=lX ri;have ln:=hl ns rfl;exact⟨_,Z,_,Z,.inr ⟨a,_,1,.ref b,Z,Z,ha,Z,hd,pw,b,pl,ns,Z,rp,hb,ln,hz,λv' H' r s=>k v' H' r s⟩⟩
  ·refine⟨_,Z,bz ?_⟩
   exact⟨_,Z,k pw H rp (au.refl _)⟩
theorem Fi{C:Addr}(F:MA K C "leads_to" "Runner.leads_to" pU)(TC:ll K C)(kQ:jo P w K mg ag "place_behind" 2 (j4 (gE K))):r9 P w K mg ag C "leads_to" 3 (j4 (mT K C)):=by
 refine F.oq pP (λex vs H Q E h=>?_) (λ_ _ _ _ _ _=>iD λ_=>rfl) (λex f ao A outer s H vs Q hr h=>?_)
 ·obtain⟨_,a,q,mv,bv,rs,pl,ds,os,rfl,_⟩:=h
  rfl
 ·obtain⟨hd,a,q,mv,bv,rs,pl,ds,os,rfl,R,rb,its,lp,lr,k⟩:=h
  obtain⟨⟨dx,pc,e⟩,ys,eq,rq⟩:=R;have nd:=pP.nd;have lo:=its.len;have ly:=rq.length;refine⟨_,(aE (pS 1 nd (i7 TC.cl TC.uA (pv 0))) (aE (Ei ki hr.hd (Eu K rfl (i7 TC.cl TC.kJ (pv 0))) (bB 2 nd) (aJ (pS 1 nd (uf kQ (hr.mono aj) rfl (ah (pv 1) (ah (pv 2) ak)))))) (aJ (bc (pv 1))))),?_⟩;refine⟨_,Z,a,dx,_,_,Z,e,Z,?_⟩;refine⟨_,Z,a,dx,_,_,Z,e,Z,q,Z,⟨_,aF.of eq⟩,JF (K:=K) (ex:=ex) (a:=q) (xs:=ys) (λi O H2=>au H H2/\∃hv v,RD K H2 hv (bA (aW pl (os.take i)))/\O=[some (.ref a),some hv,v]) ?_ (λi O H2 _ h=>aF.of (h.1 _ _ eq)) ?_ (λO H2 h=>hd.go h.1) ?_⟩
  ·exact⟨au.refl _,bv,none,rb,Z⟩
  ·rintro i y O H2 hy ⟨s2,hv,v,rh,rfl⟩
   obtain⟨d,ed,rd⟩:=rq.get' i hy;have kS:i<os.length:=by rw[<-lo];exact(bM.mp ed).1
   have eo:=bC kS;have it:=its.it i d _ ed eo;have le:=its.jK lp i;refine⟨_,Z,_,Z,hd.go s2,hv,y,_,d,os[i],Z,rh,RD.mono s2 _ rd,it,λns e=>by rw[le,(its.ok i ns (by rw[eo,e])).len],aQ,λu H3 ru s3=>⟨s2.trans s3,u,_,?_,Z⟩⟩;rw[oH eo];exact ru
  ·rintro O H2 ⟨s2,hv,v,rh,rfl⟩
   rw[gw aQ]at rh;exact⟨_,Z,k hv H2 rh s2⟩
end
end Lw
set_option maxHeartbeats 2000000
namespace Lw
open PySem PySem.Spec PyProof.Rows L2 Ln Wk
section
variable {P:a8}{w:World}{K:a6}{mg:aM}{ag:Heap}
inductive LX(K:a6)(C:Addr)(Co:Addr)(vs:List V)(H:Hp)(Q:VK)(E:XK):Prop |mk (a:Addr)(q:Addr)(mv:V)(bv:V)(v:V)(rs:List Int)(es:List Int)(pl:List Int)(ds:List a9)(os:Os)(d:a9)(o:Option (List Int))(h0:vs=[.ref a,v])(h1:jY K C H a q mv bv ds)(h2:a≠q)(h3:RD K H mv (eZ rs es))(h4:RD K H bv (bA pl))(h5:bQ rs ds os)(h6:mw rs)(h7:pl.length=rs.length)(h8:RD K H v d)(h9:fc d o)(ND:(∀ns,o=some ns->eR rs.length 100 ns))(vB:jn rs.length d)(NC:ds.length<20)(NB:(bK rs (behind (aW pl os) o)=false->∀H' dx,au H H'->H' dx=some (.xd [("at",.int (ds.length:Int))])->E (.ref Co) (some dx) H'))(NA:(bK rs (behind (aW pl os) o)=true->∀H',jY K C H' a q mv bv (ds++[d])->BJ [q] H H'->Q (.int (ds.length+1:Nat)) H'))
def yb(K:a6)(C Co:Addr):Sp:=λvs H Q E=>LX K C Co vs H Q E
abbrev t6:Stmt:=inClass (top 34) 11
theorem yy:bp ["self","item"] ["self","item"] (aO t6):=bT bf
theorem Fo{C Co fI:Addr}(F:MA K C "feed" "Runner.feed" t6)(TC:ll K C)(B:bI mg)(OX:qX K mg Co fI)(IU:GV mg "MOST_WAITING" (.int 20))(Ii:aP P w K mg ag "is_item" 4 (sL K))(vf:aP P w K mg ag "is_place" 3 (pM K))(kQ:aP P w K mg ag "place_behind" 2 (gE K))(vt:oQ P w K mg ag C "leads_to" 3 (mT K C)):qZ P w K mg ag C "feed" 5 (yb K C Co):=by
 have OC:=OX.oc;obtain⟨fd,FI⟩:=OC.fn;have vx:=OC.e;have vv:cO P w K mg ag dr 1 fI fd ["self","at"] (sJ K):=zI FI;have vz:Binds K fd ["self","at"] []:=FI.binds (λ_ _ _ _ _ _=>eO λ_ _=>rfl);have vw:=OC.f;refine F.vo yy (λvs H Q E h=>?_) (λ_ _ _ _ _ _=>eO λ_ _=>rfl) (λf ao A outer s H vs Q E hr h=>?_)
 ·obtain⟨a,q,mv,bv,v,rs,es,pl,ds,os,d,o,rfl,_⟩:=h
  rfl
 ·obtain⟨a,q,mv,bv,v,rs,es,pl,ds,os,d,o,rfl,R,aq,rm,rb,its,dy,lp,rd,it,da,gd,uJ,ko,kd⟩:=h
  obtain⟨⟨dx,pc,e⟩,ys,eq,rq⟩:=id R;have nd:=yy.nd;have lr:=dy.len;have ly:=rq.length;refine⟨_,(aE (bP (gj (dG (pf Ii hr (ah (i7 TC.cl TC.uz (pv 0)) (ah (pv 1) ak))))) (aJ zq) bO) (aE (bP (gj (dG (pf vf hr (ah (i7 TC.cl TC.uz (pv 0)) (ah (pf kQ hr (ah (zw vt TC.cl (hr.mono aj) (pv 0)) (ah (pv 1) ak))) ak))))) (aJ (zp (λ_ _ _ _ _ _ I a b q=>xC I a b q) vx PySem.F.excBase_ValueError hr.hd vv (hr.mono aj) vz vw Z (ah (eY K B (ah (i7 TC.cl TC.kJ (pv 0)) ak)) ak))) bO) (aE (bP (cu EZ (eY K B (ah (i7 TC.cl TC.kJ (pv 0)) ak)) (i5 (x:="MOST_WAITING") rfl IU) (bG _)) (aJ zq) bO) (aE (nq (nA K Z (i7 TC.cl TC.kJ (pv 0)) (ah (pv 1) ak))) (aJ (bc (eY K B (ah (i7 TC.cl TC.kJ (pv 0)) ak)))))))),?_⟩;refine⟨_,Z,a,dx,_,_,Z,e,Z,_,Z,mv,v,rs,_,d,Z,rm,rd,aA,gd.2.1,gd.2.2,λH1 s1=>⟨_,Z,?_⟩⟩;rw[gd.1];refine bz ?_;have e1:=s1 _ _ e;refine⟨_,Z,a,dx,_,_,Z,e1,Z,?_⟩;refine⟨_,Z,a,dx,_,Z,e1,Z,a,q,mv,bv,rs,pl,ds,os,Z,R.go s1,RD.mono s1 _ rb,its,lp,aA,λg H2 rg s2=>?_⟩;have gf:=s1.trans s2;have gl:=A2 its lp;refine⟨_,Z,g,v,aW pl os,d,o,Z,rg,RD.mono gf _ rd,it,λns e'=>by rw[gl,(da ns e').len],aA,λu H3 ru s3=>?_⟩;have lO:=gf.trans s3;have bl:(behind (aW pl os) o).length=rs.length:=by cases o with |none=>exact gl |some ns=>show(cH (aW pl os) ns).length=_;rw[fT (by rw[(da ns Z).len,gl])];exact gl
  refine⟨mv,u,rs,es,_,Z,RD.mono lO _ rm,ru,bl,aA,λH4 s4=>⟨_,Z,?_⟩⟩;have eE:=lO.trans s4;have e4:=eE _ _ e;have eq4:=eE _ _ eq;cases ho:bK rs (behind (aW pl os) o)with
  |false=>
   refine bN ?_;refine⟨_,Z,a,dx,_,_,Z,e4,Z,q,_,Z,.inl (aF.of eq4),cE Z,λex fx=>?_⟩;refine⟨ex,Co,_,Z,bw,OC.x,λdd oF ne=>⟨Z,dd,bw,?_⟩⟩;have vK:H4 dd=none:=by rw[aI ne]at oF;exact oF
   rw[ly];refine ko ho _ dd (λb o' eb=>?_) ?_
   ·have e5:=eE b o' eb
    have nb:b≠ex:=cz e5 fx;have dX:b≠dd:=cz e5 vK;rw[ji nb,aI nb,aI dX,aI nb];exact e5
   ·rw[ji ne,aI ne,bw] |true=>
   refine bz ?_;refine⟨_,Z,a,dx,_,_,Z,e4,Z,q,_,Z,.inl (aF.of eq4),_,_,Z,Z,_,Z,?_⟩;rw[show decide ((ys.length:Int)>=20)=false from gv aA];refine bz ?_;have AE:sizeLine=16777216:=by decide
   refine⟨_,Z,a,dx,_,_,Z,e4,Z,.inl ⟨Z,_,aF.of eq4⟩,_,Z,q,ys,_,Z,Z,eq4,aA,?_⟩;have tu:dN H4 (L2.upd H4 q (.lst (ys++[v]))):=.iL eq4;have e5:(L2.upd H4 q (.lst (ys++[v]))) a=some (.ins C dx (ze mv bv (.int 0) (.ref q) pc (.int 100) (.str "up") (.str "") .bj)):=by rw[aI aq];exact e4
   refine⟨_,Z,a,dx,_,_,Z,e5,Z,q,_,Z,.inl (aF.of bw),?_⟩;have el:((ys++[v]).length:Int)=((ds.length+1:Nat):Int):=by rw[fy,ly];rfl
   rw[el];refine kd ho _ ⟨⟨dx,pc,e5⟩,_,bw,?_⟩ λb o' eb hb=>?_
   ·exact aw.pO eq4 (aw.mono eE _ rq) (RD.mono eE _ rd) its.no it.no
   ·have jf:b≠q:=λz=>hb (by rw[z];simp)
    rw[aI jf];exact eE _ _ eb
def eh(rs pl:List Int)(os:Os):Nat:=(cv rs pl os).getD os.length
def kG(rs pl:List Int)(os:Os):a9:=match cv rs pl os with |some n=>.int (n:Int) |none=>.none
theorem zJ(rs pl:List Int)(o:Option (List Int))(r:Os):cv rs pl (o::r)=if bK rs (behind pl o)=true then(cv rs (behind pl o) r).map (·+1)else some 0:=by unfold cv;show(behind pl o::walk (behind pl o) r).findIdx? _=_;rw[List.findIdx?_cons];cases bK rs (behind pl o)<;>simp
theorem FW{rs pl:List Int}{os:Os}{i:Nat}{o:Option (List Int)}(e:os[i]? =some o)(h:cv rs pl (os.take i)=none):(bK rs (behind (aW pl (os.take i)) o)=false->cv rs pl os=some i)/\(bK rs (behind (aW pl (os.take i)) o)=true->cv rs pl (os.take (i+1))=none):=by
 have hl:=(bM.mp e).1;have lt:(os.take i).length=i:=by rw[cT];omega
 constructor
 ·intro hb
  have eo:os=os.take i++(o::os.drop (i+1)):=by
   have:os.drop i=o::os.drop (i+1):=by rw[List.drop_eq_getElem_cons hl,(bM.mp e).2]
   rw[<-this,List.take_append_drop]
  rw[eo,ur,h,zJ,aY (by rw[hb];decide),lt];show some (0+i)=some i;rw[Nat.zero_add]
 ·intro hb
  rw[iI,e,ur,h];show(cv rs (aW pl (os.take i)) [o]).map _=none;rw[zJ,aZ hb];rfl
inductive Mc(K:a6)(vs:List V)(H:Hp)(Q:VK):Prop |mk (m:V)(x:V)(iv:V)(rs:List Int)(es:List Int)(pl:List Int)(ds:List a9)(os:Os)(h0:vs=[m,x,iv])(h1:RD K H m (eZ rs es))(h2:mw rs)(h3:RD K H x (bA pl))(h4:pl.length=rs.length)(h5:RD K H iv (.tuple ds))(h6:bQ rs ds os)(h7:(∀d∈ds,jn rs.length d))(h8:ds.length<=20)(h9:∀v H',RD K H' v (.tuple [.int (eh rs pl os:Nat),kG rs pl os,bA (aW pl (os.take (eh rs pl os)))])->au H H'->Q v H')
def yj(K:a6):Sp:=λvs H Q _=>Mc K vs H Q
abbrev tH:Stmt:=top 48
theorem yM:bp ["_law_machine_here","_law_place_here","_law_row_here","_law_runner","_law_many","_law_item_here","e"] ["_law_machine_here","_law_place_here","_law_row_here"] (aO tH):=bT bf
theorem FK{C Co fI:Addr}(F:FA K mg "_law_fed" tH)(TC:ll K C)(B:bI mg)(OX:qX K mg Co fI)(J0:rj P w K mg ag C "Runner" 1 (ya K C))(J3:qZ P w K mg ag C "feed" 5 (yb K C Co))(vt:oQ P w K mg ag C "leads_to" 3 (mT K C))(Jm:r9 P w K mg ag C "leads_to" 3 (j4 (mT K C))):aP P w K mg ag "_law_fed" 6 (yj K):=by
 have hy:=OX.oc.e;have kX:(wc).contains (.type "BaseException")=true:=by decide
 have kY:∀C',C'=Co->ClsAt K C'/\takes K C' Co:=λC' e=>by subst e;exact⟨OX.oc.e.cls,OX.t⟩
 refine F.has yM (λvs H Q E h=>?_) (λ_ _ _ _ _ _=>mq λ_ _ _=>rfl) (λf ao A outer s H vs Q E hr h=>?_)
 ·obtain⟨m,x,iv,rs,es,pl,ds,os,rfl,_⟩:=h
  rfl
 ·obtain⟨m,x,iv,rs,es,pl,ds,os,rfl,rm,dy,rx,lp,ri,its,jg,uJ,k⟩:=h
  have nd:=yM.nd;have lr:=dy.len;have lo:=its.len;obtain⟨ia,xs,rfl,hi,dI⟩:=ri.cD;have lx:=dI.length;refine⟨_,(aE (pS 3 nd (EJ J0 (hr.mono aj) Z (ah (pv 0) (ah (pv 1) ak)))) (aE (pS 4 nd ay) (aE (jD ki Z (kB K Z (pv 2)) (bB 5 nd) (aJ (Eh λaf=>Ed (i:=6) Z Z nd Z Z Z (λE xe hp=>(aJ (pS 4 nd (EH J3 hp TC.cl (hr.mono aj) (pv 3) (ah (pv 5) ak))))) Z hy kX kY (λex=>(aJ (bc (hZ (ah (pv 4) (ah (zt K Z (pv 6)) (ah (EI Jm TC.cl ((hr.Gx ex).mono aj) (pv 3)) ak)))))))))) (aJ (bc (hZ (ah (pv 4) (ah zv (ah (zw vt TC.cl (hr.mono aj) (pv 3)) ak))))))))),?_⟩;refine⟨_,Z,_,Z,λa dx ha IC ne=>⟨a,dx,m,x,Z,bw,λq H1 R1 hq aq bt=>⟨Z,?_⟩⟩⟩;have s0:au H (L2.upd (L2.upd H dx (.own a)) a (.ins C dx [])):=(au.new IC).trans (au.new (by rw[aI ne.symm];exact ha));have s1:au H H1:=λb o eb=>bt b o (s0 b o eb) λz=>by rw[lF.mp z,ha]at eb;cases eb
  have HH:H q=none:=by cases e:H q with |none=>rfl |some o=>have:=s0 _ _ e;rw[hq]at this;cases this
  refine⟨_,Z,ia,Z,⟨_,hi.go s1⟩,AJ (K:=K) (a:=ia) (xs:=xs) (λi O H2=>au H H2/\jY K C H2 a q m x (ds.take i)/\cv rs pl (os.take i)=none/\∃v5 v6,O=[some m,some x,some (.ref ia),some (.ref a),some (.int (i:Nat)),v5,v6]) ?_ (λi O H2 _ h=>hi.go h.1) ?_ ?_⟩
  ·exact⟨s1,R1,Z,none,none,Z⟩
  ·rintro i y O H2 kO ⟨s2,R2,kE,v5,v6,rfl⟩
   obtain⟨d,ed,rd⟩:=dI.get' i kO;have Nq:=(bM.mp ed).1;have kS:i<os.length:=by omega
   have eo:=bC kS;have it:=its.it i d _ ed eo;have da:∀ns,os[i]=some ns->eR rs.length 100 ns:=λns e=>its.ok i ns (by rw[eo,e]);have gd:=jg d (jw ed);obtain⟨HK,HI⟩:=FW (rs:=rs) (pl:=pl) eo kE;have lt:(ds.take i).length=i:=by rw[cT];omega
   obtain⟨⟨vS,ET,e2⟩,_⟩:=id R2;refine⟨λσ' cls dx H'=>cls= .ref Co/\σ'=[some m,some x,some (.ref ia),some (.ref a),some (.int (i:Nat)),some y,v6]/\cv rs pl os=some i/\∃d',dx=some d'/\H' d'=some (.xd [("at",.int (i:Nat))])/\au H2 H',?_,λσ' cls dx H' h=>⟨Co,h.1,Z⟩,?_⟩
   ·refine⟨_,Z,a,vS,_,Z,e2,Z,_,Z,a,q,m,x,y,rs,es,pl,ds.take i,os.take i,d,os[i],Z,R2,aq,RD.mono s2 _ rm,RD.mono s2 _ rx,its.take i,dy,lp,RD.mono s2 _ rd,it,da,gd,aQ,λhb H' B1 s' e'=>?_,λhb H' R' KQ=>?_⟩
    ·rw[lt]at e'
     exact⟨Z,Z,HK hb,B1,Z,e',s'⟩
    ·rw[lt]
     refine⟨λb o eb=>KQ b o (s2 b o eb) λz=>?_,?_,HI hb,_,_,Z⟩
     ·rw[lF.mp z,HH]at eb;cases eb
     ·rw[iI,ed];exact R'
   ·rintro C' ex B1 σ' H' hl ⟨eC,rfl,qz,d',rfl,iu,s'⟩ hex
    cases eC;have e1:(L2.upd H' ex (.ext (eA ex (.ref Co) (some d')))) ex=some (.ext (eA ex (.ref Co) (some d'))):=bw;have sn:au H2 (L2.upd H' ex (.ext (eA ex (.ref Co) (some d')))):=s'.trans (au.new hex);have vT:d'≠ex:=cz iu hex;have R3:=R2.go sn;obtain⟨⟨Kl,N0,e3⟩,_⟩:=id R3;refine⟨_,Z,_,Z,ex,Co,d',_,(i:Nat),Z,e1,by rw[aI vT];exact iu,OX.k,OX.fat,Z,?_⟩;have sx:=s2.trans sn;refine⟨_,Z,a,Kl,_,Z,e3,Z,⟨_,_,e1⟩,a,q,m,x,rs,pl,ds.take i,os.take i,Z,R3,RD.mono sx _ rx,its.take i,lp,aQ,λg H3 rg s3=>⟨cE Z,λt H4 n4=>?_⟩⟩;refine k (.ref t) H4 ?_ (sx.trans (s3.trans n4.same));have en:eh rs pl os=i:=by unfold eh;rw[qz];rfl
    have ev:kG rs pl os= .int (i:Nat):=by unfold kG;rw[qz]
    rw[en,ev];exact dF (aL.of n4.at') (bJ (dw _) (bJ (dw _) (bJ (RD.mono n4.same _ rg) bW)))
  ·rintro O H2 ⟨s2,R2,kE,v5,v6,rfl⟩
   rw[gw aQ]at R2 kE;obtain⟨⟨vS,ET,e2⟩,_⟩:=id R2;refine⟨_,Z,_,Z,a,vS,_,Z,e2,Z,a,q,m,x,rs,pl,ds,os,Z,R2,RD.mono s2 _ rx,its,lp,aQ,λg H3 rg s3=>⟨cE Z,λt H4 n4=>?_⟩⟩;refine k (.ref t) H4 ?_ (s2.trans (s3.trans n4.same));have en:eh rs pl os=os.length:=by unfold eh;rw[kE];rfl
   have ev:kG rs pl os= .none:=by unfold kG;rw[kE]
   rw[en,ev,gw (aU _)];have el:xs.length=os.length:=by omega
   rw[<-el];exact dF (aL.of n4.at') (bJ (dw _) (bJ DT (bJ (RD.mono n4.same _ rg) bW)))
end
end Lw
set_option maxHeartbeats 4000000
namespace Lw
open PySem PySem.Spec PyProof.Rows L2 Ln Wk
section
variable {P:a8}{w:World}{K:a6}{mg:aM}{ag:Heap}
theorem A4{H:Hp}{x:V}{ys:List V}{p:List Int}{os:Os}(rx:RD K H x (bA p))(ry:aw K H ys ((walk p os).map bA)):∃z,df ([x]++ys) (-1)=some z/\RD K H z (bA (aW p os)):=by
 have ly:=ry.length;rw[br,gA]at ly;have tW:aw K H (x::ys) ((p::walk p os).map bA):=bJ rx ry;obtain⟨z,ez,rz⟩:=tW.get os.length (d:=bA (aW p os)) (by rw[cm,uI p os];rfl);refine⟨z,?_,rz⟩;show df (x::ys) (-1)=some z;unfold df;have zl:(x::ys).length=os.length+1:=by rw[iJ,ly]
 rw[show fC (x::ys).length (-1)=some os.length by rw[zl];unfold fC;rw[aY aj,aZ aQ];congr 1;omega];exact ez
theorem CM(rs pl:List Int)(os:Os):cg 2 (iP rs pl os):=by cases e:cv rs pl os with |none=>rw[kn e];refine cY.lst λd hd=>?_;obtain⟨q,_,rfl⟩:=jx.mp hd;exact ud q |some n=>rw[lI e];exact .int _
theorem Cz:dD "list" "list"=true:=by decide
def yh(K:a6):Sp:=λvs H Q _=>∃(a:Addr)(ns:List Int),vs=[.ref a]/\aF K H a (ns.map V.int)/\ns.length<=63/\∀H',Q (.bl true) H'
abbrev mW:Stmt:=top 50
theorem yE:bp ["_law_script","_law_at","_law_bag_here","_law_machine_here","_law_place_here","_law_row_here","_law_cut","_law_told_here","_law_many","_law_off","_law_there_here","_law_back_here"] ["_law_script"] (aO mW):=bT bf
theorem Fx{f:Addr}{fd:FuncData}(F:fk K "law" "law" mW f fd)(B:bI mg)(Jh:aP P w K mg ag "_law_bag" 1 (yn K))(cj:aP P w K mg ag "_law_take" 1 iR)(Jd:aP P w K mg ag "_law_machine" 2 (yf K))(Ja:aP P w K mg ag "_law_place" 2 (yc K))(J9:aP P w K mg ag "_law_row" 4 (y9 K))(m8:aP P w K mg ag "_law_told" 5 (pK K))(Jb:aP P w K mg ag "_law_pieces" 6 (yd K))(Jg:aP P w K mg ag "_law_fed" 6 (yj K))(Ji:aP P w K mg ag "_law_back" 1 (yl K)):cO P w K mg ag dr 8 f fd ["_law_script"] (yh K):=by
 refine F.ok yE (λvs H Q E h=>?_) (λao A outer s H vs Q E hr h=>?_)
 ·obtain⟨a,ns,rfl,_⟩:=h
  rfl
 ·obtain⟨a,ns,rfl,hS,hlen,k⟩:=h
  have nd:=yE.nd;refine⟨_,(aE (jD ki Z (kA Z (B.at "range") (ah (dH (x:="max") (Bg rfl) rfl (B.at "max") C1 (ah ay (ah (dH (x:="min") (w9 rfl) rfl (B.at "min") C0 (ah ay (ah (eY K B (ah (pv 0) ak)) ak))) ak))) ak)) (bB 1 nd) (aE (pS 2 nd (pf Jh hr (ah (pv 0) (ah (pv 1) ak)))) (aE (pS 3 nd (pf Jd hr (ah (pv 2) ak))) (aE (pS 4 nd (pf Ja hr (ah (pv 2) (ah (pv 3) ak)))) (aE (pS 5 nd (pf J9 hr (ah (pv 2) (ah (pv 3) (ah (pv 4) ak))))) (aE (pS 6 nd (pf cj hr (ah (pv 2) (ah (ba cQ (eY K B (ah (pv 5) ak)) ay) ak)))) (aE (pS 7 nd (pf m8 hr (ah (pv 3) (ah (pv 4) (ah (pv 5) ak))))) (aE (bP (cu (gI K Z hr.units) (pv 7) (pf Jb hr (ah (pv 3) (ah (pv 4) (ah (pv 5) (ah (pv 6) ak))))) (bG _)) (aJ (bc gH)) bO) (aE (kz (pf Jg hr (ah (pv 3) (ah (pv 4) (ah (pv 5) ak)))) (iU K Z (n:=3) Z (cU (bB 8 nd) (cU (bB 9 nd) (cU (bB 10 nd) hX))))) (aE (ky (bP (dG (i8 K B (ah (pv 7) (ah (i6 (x:="int") (v:=.ty "int") Z (B.at "int") rJ rfl) ak)))) (aE (bP (PW.pt (kx (cu (gI K Z hr.units) (pv 8) (pv 7) (bG _)) (ku (cu (gI K Z hr.units) (pv 9) (pv 7) (bG _))))) (aJ (bc gH)) bO) (aE (pS 5 nd (ue (sQ K Z) (pv 5) uc (qf (pv 7)))) (aJ (pS 7 nd (pf m8 hr (ah (pv 3) (ah (pv 4) (ah (pv 5) ak)))))))) bO)) (aE (bP (PW.pt (kx (cu (gI K Z hr.units) (pv 8) (eY K B (ah (pv 5) ak)) (bG _)) (ku (cu (gI K Z hr.units) (pv 10) (px K (ba (qO K Z) (fB (ah (pv 4) ak)) (pv 7)) (iV iO ay)) (bG _))))) (aJ (bc gH)) bO) (aE (pS 11 nd (pf m8 hr (ah (pv 3) (ah (pv 10) (ah (pf Ji hr (ah (pv 5) ak)) ak))))) (aJ (bP (PW.pt (kx (gj (dG (i8 K B (ah (pv 11) (ah (i6 (x:="list") (v:=.ty "list") Z (B.at "list") PyProof.Rows.boot_list rfl) ak))))) (ku (cu (gI K rfl hr.units) (px K (ba (qO K rfl) (fB (ah (pv 10) ak)) (pv 11)) (iV iO ay)) (pv 4) (bG _))))) (aJ (bc gH)) bO)))))))))))))) (aJ (bc gH))),?_⟩;refine⟨_,Z,a,_,Z,.inl hS,_,_,Z,_,_,Z,_,Z,?_,?_,?_⟩
  ·split<;>(try split)<;>lia
  ·split<;>(try split)<;>(try rw[br])<;>lia
  have hN:(if(if((ns.map V.int).length:Int)<6 then((ns.map V.int).length:Int)else 6)>1 then(if((ns.map V.int).length:Int)<6 then((ns.map V.int).length:Int)else 6)else 1).toNat<=12:=by split<;>(try split)<;>lia
  refine vF (Pv:=λi O H2=>au H H2/\∃v1 v2 v3 v4 v5 v6 v7 v8 v9 v10 v11,O=[some (.ref a),v1,v2,v3,v4,v5,v6,v7,v8,v9,v10,v11]) ?_ ?_ ?_
  ·exact⟨au.refl _,none,none,none,none,none,none,none,none,none,none,none,Z⟩
  ·rintro i O H2 hi ⟨s2,v1,v2,v3,v4,v5,v6,v7,v8,v9,v10,v11,rfl⟩
   have Nr:i<12:=eU hi hN;refine⟨_,Z,_,Z,a,ns,_,Z,s2.seq hS,hlen,aA,aA,λp H3 np KW s3=>?_⟩;refine⟨_,Z,p,Z,KW,λm rs es H4 rm dy b4=>?_⟩;refine⟨_,Z,_,Z,p,m,rs,es,Z,b4.aK,rm,dy,λx pl H5 rx on b5=>?_⟩;have zc:RD K H5 m (eZ rs es):=RD.t (aH.t b4.aK b5) _ (qv _ _) rm;refine⟨_,Z,_,Z,_,Z,p,m,x,rs,es,pl,Z,b5.aK,zc,dy,rx,on.len,λrv ds os H6 rr its jg uJ b6=>?_⟩;obtain⟨ia,xs,rfl,Ip,dI⟩:=rr.cD;have lx:=dI.length;have lo:=its.len;refine⟨_,Z,_,Z,ia,_,Z,.inr Ip,_,_,Z,Z,p,_,Z,b6.aK,aA,aA,λc H7 c0 c1 b7=>?_⟩;have KZ:=b4.trans (b5.trans (b6.trans b7));have ml:=b6.trans b7;have nc:RD K H7 m (eZ rs es):=RD.t (aH.t b5.aK ml) _ (qv _ _) zc;have lP:RD K H7 x (bA pl):=RD.t (aH.t b5.aK ml) _ (jE _) rx;have mZ:RD K H7 (.ref ia) (.tuple ds):=RD.t (aH.t b6.aK b7) _ (by show cF ds=true;exact its.no) rr;have s7:au H H7:=KZ.DH (s2.trans s3) (by cases e:H p with |none=>rfl |some o=>have:=s2 _ _ e;rw[np]at this;cases this);have lr:rs.length<=3:=by have:=dy.len;lia
   have lp:=on.len;have AE:sizeLine=16777216:=by decide
   obtain⟨cn,rfl⟩:∃cn:Nat,c=(cn:Int):=⟨c.toNat,aA⟩;refine⟨_,Z,_,Z,_,Z,m,x,.ref ia,rs,es,pl,ds,os,Z,nc,lP,lp,aA,mZ,its,aA,λtv H8 rt s8=>?_⟩;refine⟨_,Z,_,Z,_,Z,_,Z,_,Z,m,x,.ref ia,rs,es,pl,ds,os,cn,Z,RD.mono s8 _ nc,RD.mono s8 _ lP,lp,aA,RD.mono s8 _ mZ,its,aA,aA,λpv H9 rp s9=>?_⟩;have tok:=CM rs pl os;refine .inr ⟨_,_,RD.mono s9 _ rt,rp,tok.shaped aj,tok.shaped aj,_,Z,?_⟩;rw[eqv_refl _ tok.lay];refine bz ?_;have pY:=s8.trans s9;refine⟨_,Z,_,Z,_,Z,m,x,.ref ia,rs,es,pl,ds,os,Z,RD.mono pY _ nc,dy,RD.mono pY _ lP,lp,RD.mono pY _ mZ,its,jg,uJ,λfv fV rf fJ=>?_⟩;have q0:=pY.trans fJ;obtain⟨t,zs,rfl,ht,kN⟩:=rf.cD;obtain⟨z1,zs,rfl,r1,kN⟩:=kN.cons_inv;obtain⟨z2,zs,rfl,r2,kN⟩:=kN.cons_inv;obtain⟨g,zs,rfl,rg,kN⟩:=kN.cons_inv;cases kN.nil_inv;cases r1.int_inv;refine⟨t,_,Z,ht,Z,_,_,Z,_,_,Z,_,_,Z,Z,?_⟩;have fl:eh rs pl os<=os.length:=by unfold eh;cases e:cv rs pl os with |none=>exact aU _ |some n=>exact xo (uq e).2
   refine⟨λO H'=>∃iv sA,O=[some (.ref a),some (.int (0+(i:Int))),some (.ref p),some m,some x,some iv,some (.int cn),some sA,some (.int (eh rs pl os:Nat)),some z2,some g,v11]/\au fV H'/\RD K H' iv (.tuple (ds.take (eh rs pl os)))/\RD K H' sA (.list ((walk pl (os.take (eh rs pl os))).map bA))/\cv rs pl (os.take (eh rs pl os))=none,?_,?_⟩
   ·cases e:cv rs pl os with |none=>
    have en:eh rs pl os=os.length:=by unfold eh;rw[e];rfl
    rw[kn e]at rt;refine⟨_,Z,.inl ⟨_,"list","int",false,Z,(RD.mono (s9.trans fJ) _ rt).ty,aj,su,_,Z,bz ?_⟩⟩;refine⟨.ref ia,tv,Z,au.refl _,?_,?_,?_⟩
    ·rw[en,gw aA];exact RD.mono q0 _ mZ
    ·rw[en,gw (aU _)];exact RD.mono (s9.trans fJ) _ rt
    ·rw[en,gw (aU _)];exact e |some n=>
    have en:eh rs pl os=n:=by unfold eh;rw[e];rfl
    have ev:kG rs pl os= .int (n:Nat):=by unfold kG;rw[e]
    rw[lI e]at rt;cases rt.int_inv;rw[ev]at r2;cases r2.int_inv;refine⟨_,Z,.inl ⟨_,"int","int",true,Z,Z,aj,sy,_,Z,bN ?_⟩⟩;refine⟨_,Z,_,Z,.inl ⟨_,_,Z,Z,_,Z,?_⟩⟩;rw[en,eT rfl];refine bz ⟨_,Z,_,Z,.inl ⟨_,_,Z,Z,_,Z,?_⟩⟩;rw[eT rfl];refine bz ?_;have DP:=RD.mono q0 _ mZ;obtain⟨ib,xs2,e2,jQ,uP⟩:=DP.cD;cases e2;refine⟨_,Z,_,Z,_,Z,ia,xs2,Z,jQ,λca eu dj vB=>?_⟩;rw[B3]at vB;have nh:RD K eu (.ref ca) (.tuple (ds.take n)):=dF vB (aw.mono dj _ (uP.take n));have pZ:=q0.trans dj;refine⟨_,Z,_,Z,_,Z,m,x,.ref ca,rs,es,pl,_,_,Z,RD.mono pZ _ nc,RD.mono pZ _ lP,lp,aA,nh,its.take n,by rw[cT];lia,λCB rn zb gf=>?_⟩;rw[kn (uq e).1]at zb;exact⟨.ref ca,CB,Z,dj.trans gf,RD.mono gf _ nh,zb,(uq e).1⟩
   rintro O eu ⟨iv,sA,rfl,dj,zd,DN,qz⟩;have pZ:=q0.trans dj;generalize eh rs pl os=N at*;obtain⟨ib,xs2,rfl,jQ,uP⟩:=zd.cD;have GG:=uP.length;rw[cT]at GG;refine⟨_,Z,_,Z,ib,_,Z,.inr jQ,.inl ⟨_,_,Z,Z,_,Z,?_⟩⟩;rw[show decide ((N:Int)=(xs2.length:Int))=true from eT aA];refine bz ?_;obtain⟨l1,ys,rfl,fE,ry⟩:=qe DN;have ly:=ry.length;rw[br,gA,cT]at ly;refine⟨_,Z,_,Z,cE Z,λla rn uC=>?_⟩;refine⟨_,Z,la,l1,_,_,Z,Z,aF.of uC.at',fE.go uC.same,by show 1+_<=_;lia,λlb oX nK=>?_⟩;have qc:=uC.same.trans nK.same;have yV:=pZ.trans qc;obtain⟨z,ez,rz⟩:=A4 (RD.mono yV _ lP) (aw.mono qc _ ry);refine⟨_,Z,.inl ⟨lb,_,_,z,Z,Z,aF.of nK.at',ez,?_⟩⟩;have tT:RD K oX g (bA (aW pl (os.take N))):=RD.mono (dj.trans qc) _ rg;have ub:=ud (aW pl (os.take N));refine .inr ⟨_,_,tT,rz,ub.shaped aj,ub.shaped aj,_,Z,?_⟩;rw[eqv_refl _ ub.lay];refine bz ?_;have uL:=its.take N;obtain⟨h1,h2,h3,h4⟩:=Bq (rs:=rs) (pl:=pl) _ (os.take N) Z lp ((zG lp).mpr on) (λj nz e=>(uL.ok j nz e).len) (λq hq=>by have:=(Ca.mp (show(walk pl (os.take N)).findIdx? (λq=>!bK rs q)=none from qz)) q hq;simpa using this);refine⟨_,Z,_,Z,_,Z,.ref ib,rs,ds.take N,os.take N,Z,RD.mono qc _ zd,uL,aA,by rw[cT];lia,λbv wQ rb eE=>?_⟩;have yU:=yV.trans eE;have Ac:=Ab _ _ _ Z uL;refine⟨m,g,bv,rs,es,aW pl (os.take N),_,_,Z,RD.mono yU _ nc,RD.mono eE _ tT,h3,aA,rb,Ac,by have:=Bp (ds.take N);rw[cT]at this;lia,λkv NP rk lN=>?_⟩;have FZ:cv rs (aW pl (os.take N)) (fR (os.take N))=none:=xM h2;rw[kn FZ]at rk;refine⟨_,Z,.inl ⟨_,"list","list",true,Z,rk.ty,aj,Cz,_,Z,bz ?_⟩⟩;obtain⟨l2,zs,rfl,fO,mX⟩:=qe rk;have lz:=mX.length;rw[br,gA]at lz;have Nf:=Ac.len;have GW:=Bp (ds.take N);rw[cT]at GW;refine⟨_,Z,cE Z,λlc NO uB=>?_⟩;refine⟨_,Z,lc,l2,_,_,Z,Z,aF.of uB.at',fO.go uB.same,by show 1+_<=_;lia,λld NN zS=>?_⟩;have tM:=uB.same.trans zS.same;have yT:=yU.trans (lN.trans tM);obtain⟨z',K9,yZ⟩:=A4 (RD.mono (eE.trans (lN.trans tM)) _ tT) (aw.mono tM _ mX);rw[h1]at yZ;have ua:=ud pl;refine⟨_,Z,.inl ⟨ld,_,_,z',Z,Z,aF.of zS.at',K9,?_⟩⟩;refine⟨_,Z,.inr ⟨_,_,yZ,RD.mono yT _ lP,ua.shaped aj,ua.shaped aj,_,Z,?_⟩⟩;rw[eqv_refl _ ua.lay];exact bz ⟨s7.trans yT,_,_,_,_,_,_,_,_,_,_,_,Z⟩
  ·rintro O H2 ⟨_,v1,v2,v3,v4,v5,v6,v7,v8,v9,v10,v11,rfl⟩
   exact k H2
end
end Lw
set_option maxHeartbeats 1000000
namespace Lw
open PySem PySem.Spec PyProof.Rows L2 Ln Wk
theorem CP{K:a6}{C:Addr}{f:Str}(h:PySem.W.findIn K (.ref C) f=some none):PySem.W.takerIn K C f=some none:=by unfold PySem.W.takerIn;rw[h];rfl
structure BC(K:a6)(mg:aM)(C:Addr):Prop where
 tc:ll K C
 init:CA K mg C "Runner" "Runner.__init__" sZ
 A3:MA K C "leads_to" "Runner.leads_to" pU
 feed:MA K C "feed" "Runner.feed" t6
structure All(K:a6)(mg:aM):Prop where
 B:bI mg
 Jv:GT K mg "NOUGHT" [.int 0,.int 1]
 Ju:GT K mg "SIDES" [.str "up",.str "down"]
 JA:GV mg "LETTERS" (.str eP)
 Jx:GV mg "MOST_STEPS" (.int 100)
 JB:GV mg "GREATEST_SPEED" (.int 20)
 Jy:GV mg "LONGEST_WAIT" (.int 1000)
 Jz:GV mg "LONGEST_NAME" (.int 8)
 Jw:GV mg "MOST_WAITING" (.int 20)
 JC:GV mg "FIRST_RATE" (.int 100)
 ox:∃C fI,qX K mg C fI
 rq:∃C,BC K mg C
 law:FA K mg "law" mW
 JO:FA K mg "is_whole" tx
 JN:FA K mg "is_whole_within" sU
 JQ:FA K mg "is_place" tw
 JS:FA K mg "is_item" tF
 JT:FA K mg "ends" tI
 AO:FA K mg "is_line" pW
 AM:FA K mg "place_behind" pX
 AN:FA K mg "moved" pV
 JU:FA K mg "are_steps" tL
 JP:FA K mg "is_short_item" tD
 JR:FA K mg "is_name" tE
 K7:FA K mg "_law_bag" tK
 JX:FA K mg "_law_take" sX
 K2:FA K mg "_law_machine" tm
 JZ:FA K mg "_law_place" t9
 K1:FA K mg "_law_name" tj
 K5:FA K mg "_law_item" tq
 K3:FA K mg "_law_line_from" tG
 JW:FA K mg "_law_there" sW
 K4:FA K mg "_law_lead" tp
 JY:FA K mg "_law_row" sY
 JV:FA K mg "_law_told" sV
 K0:FA K mg "_law_pieces" tf
 K6:FA K mg "_law_fed" tH
 K8:FA K mg "_law_back" tJ
theorem Lc{P:a8}{w:World}{K:a6}{mg:aM}{ag:Heap}{f:Addr}{fd:FuncData}(A:All K mg)(F:fk K "law" "law" mW f fd):cO P w K mg ag dr 8 f fd ["_law_script"] (yh K):=by obtain⟨Co,fI,OX⟩:=A.ox;obtain⟨C,RA⟩:=A.rq;have tk:aP P w K mg ag "_law_take" 1 iR:=Fg A.JX A.B;have iw:aP P w K mg ag "is_whole" 1 (sM K):=Fy A.JO A.B;have ww:aP P w K mg ag "is_whole_within" 2 (lL K):=Fd A.JN A.B iw;have ip:aP P w K mg ag "is_place" 3 (pM K):=FC A.JQ A.B ww;have bh:aP P w K mg ag "place_behind" 2 (gE K):=FP A.AM A.B (FE A.AO A.B) (Fu A.AN A.B);have KU:jo P w K mg ag "place_behind" 2 (j4 (gE K)):=FO A.AM A.B (FD A.AO A.B) (Ft A.AN A.B);have ii:aP P w K mg ag "is_item" 4 (sL K):=FH A.JS A.B A.JB ww (FR A.JU A.B A.Jx ww) (FF A.JP A.B A.Jy A.Ju ww (FG A.JR A.B A.Jz A.JA));have th:aP P w K mg ag "_law_there" 1 (gE K):=Ff A.JW A.B;have td:aP P w K mg ag "_law_told" 5 (pK K):=Fe A.JV A.B OX (FL A.JT A.B OX.oc bh ip);have lt:=Fj (P:=P) (w:=w) (mg:=mg) (ag:=ag) RA.A3 RA.tc bh;have JL:=FK (P:=P) (w:=w) (ag:=ag) A.K6 RA.tc A.B OX (Fm RA.init RA.tc A.Jv A.JC) (Fo RA.feed RA.tc A.B OX A.Jw ii ip bh lt) lt (Fi RA.A3 RA.tc KU);exact Fx F A.B (FQ A.K7 A.B) tk (Fv A.K2 A.B tk) (Fp A.JZ A.B tk) (Fh A.JY A.B tk (Fz A.K5 A.B tk (Fs A.K1 A.B tk)) (FJ A.K3 A.B tk) (Fw A.K4 A.B) th) td (Fq A.K0 A.B td) JL (FN A.K8 A.B)
end Lw
def PySem.W.Fast.tw5197859830595788524:PySem.Program:=PySem.Challenge.pw_glidequeue_k13_whole_rows_lead_piece_by
theorem PySem.W.Fast.te5197859830595788524:PySem.Challenge.pw_glidequeue_k13_whole_rows_lead_piece_by=PySem.W.Fast.tw5197859830595788524:=rfl
def PySem.W.Fast.tw10998793082196421113:Nat:=0
def PySem.W.Fast.tw7212182360288732316:Nat:=0
def PySem.W.Fast.tw16101862536156859349:Nat:=0
def PySem.W.Fast.tw3056436389839830486:Nat:=0
def PySem.W.Fast.tw3055610439821765089:Nat:=0
def PySem.W.Fast.tw12549402119179299585:Nat:=0
def PySem.W.Fast.tw11327305530655776727:Nat:=0
def PySem.W.Fast.tw15608119931049128060:Nat:=0
def PySem.W.Fast.tw1580923811094993938:Nat:=0
def PySem.W.Fast.tw5298476315643193828:Nat:=0
def PySem.W.Fast.tw2341438768428988945:Nat:=0
def PySem.W.Fast.tw10350122733092360744:Nat:=0
def PySem.W.Fast.tw16701376030313455364:Nat:=0
def PySem.W.Fast.tw16229948858622318320:Nat:=0
def PySem.W.Fast.tw17905916632416020158:Nat:=0
def PySem.W.Fast.tw17962403785838703426:Nat:=0
def PySem.W.Fast.tw13125572009147599054:Nat:=0
def PySem.W.Fast.tw17567359292907878181:Nat:=0
def PySem.W.Fast.tw12180109462766517027:Nat:=0
def PySem.W.Fast.tw16748838329775222547:Nat:=0
def PySem.W.Fast.tw8129003552796458955:Nat:=0
def PySem.W.Fast.tw10986071472038300681:Nat:=0
def PySem.W.Fast.tw12186629301316932953:Nat:=0
def PySem.W.Fast.tw17497979576921073121:Nat:=0
def PySem.W.Fast.tw3721306482940154216:Nat:=0
def PySem.W.Fast.tw17937210629991760611:Nat:=0
def PySem.W.Fast.tw16712478943544843013:Nat:=0
def PySem.W.Fast.tw7401128449536298531:Nat:=0
def PySem.W.Fast.tw15925943008168996226:Nat:=0
def PySem.W.Fast.tw11895403496190696543:Nat:=0
def PySem.W.Fast.tw569790341385247761:Nat:=0
def PySem.W.Fast.tw18244700281735507229:Nat:=0
def PySem.W.Fast.tw7441439978912361656:Nat:=0
def PySem.W.Fast.tw7741961624728643041:Nat:=0
def PySem.W.Fast.tw11084045565080487731:Nat:=0
def PySem.W.Fast.tw4731923738848304132:Nat:=0
def PySem.W.Fast.tw1643606393208574894:Nat:=0
def PySem.W.Fast.tw7971718669535190955:Nat:=0
def PySem.W.Fast.tw629671974195463906:Nat:=0
def PySem.W.Fast.tw7414722448572097422:Nat:=0
def PySem.W.Fast.tw1964887771941962069:Nat:=0
def PySem.W.Fast.tw15546737073897560919:Nat:=0
def PySem.W.Fast.tw2795561106027987523:Nat:=0
def PySem.W.Fast.tw9961798953440173502:Nat:=0
def PySem.W.Fast.tw2412813535403973085:Nat:=0
def PySem.W.Fast.tw10605415129845773890:Nat:=0
def PySem.W.Fast.tw13495072650799237417:Nat:=0
def PySem.W.Fast.tw9634382880902125725:Nat:=0
def PySem.W.Fast.tw6427717280740911645:Nat:=0
def PySem.W.Fast.tw2327718602158526057:Nat:=0
def PySem.W.Fast.tw17964715810931486777:Nat:=0
def PySem.W.Fast.tw11081099773828320889:Nat:=0
def PySem.W.Fast.tw394855453396769309:Nat:=0
def PySem.W.Fast.tw12776768540151660935:Nat:=0
def PySem.W.Fast.tw6053981830211269122:Nat:=0
def PySem.W.Fast.tw10199361069025286908:Nat:=0
def PySem.W.Fast.tw2837926497767852372:Nat:=0
def PySem.W.Fast.tw4667387012008639898:Nat:=0
def PySem.W.Fast.tw11888462485252709184:Nat:=0
def PySem.W.Fast.tw930837902483586791:Nat:=0
def PySem.W.Fast.tw4874463577178605842:Nat:=0
def PySem.W.Fast.tw9545634301167067954:Nat:=0
def PySem.W.Fast.tw17245420214617656465:Nat:=0
def PySem.W.Fast.tw11474859576614675581:Nat:=0
def PySem.W.Fast.tw11540510545145885353:Nat:=0
def PySem.W.Fast.tw12958196250578062075:Nat:=0
def PySem.W.Fast.tw16664377928532227613:Nat:=0
def PySem.W.Fast.tw16865393201029010380:Nat:=0
def PySem.W.Fast.tw11505066612261839437:Nat:=0
def PySem.W.Fast.tw14088855701856043016:Nat:=0
def PySem.W.Fast.tw6748274168152157920:Nat:=0
def PySem.W.Fast.tw2058084675045328633:Nat:=0
def PySem.W.Fast.tw226407136299570895:Nat:=0
def PySem.W.Fast.tw15568814894205603121:Nat:=0
def PySem.W.Fast.tw3827826335573809783:Nat:=0
def PySem.W.Fast.tw6013969940679104715:Nat:=0
def PySem.W.Fast.tw367596625628632409:Nat:=0
def PySem.W.Fast.tw13819231040843165976:Nat:=0
def PySem.W.Fast.tw9734054891895053390:Nat:=0
def PySem.W.Fast.tw14317419881876324803:Nat:=0
def PySem.W.Fast.tw3487737679661643762:Nat:=0
def PySem.W.Fast.tw11975218245792540070:Nat:=0
def PySem.W.Fast.tw15435791495644566948:Nat:=0
def PySem.W.Fast.tw11951401071455077032:Nat:=0
def PySem.W.Fast.tw9681231470955635051:Nat:=0
def PySem.W.Fast.tw1243390449251474686:Nat:=0
def PySem.W.Fast.tw744808708773668861:Nat:=0
def PySem.W.Fast.tw6689955012911396046:Nat:=0
def PySem.W.Fast.tw14624929788283825393:Nat:=0
def PySem.W.Fast.tw16961241528537185029:Nat:=0
def PySem.W.Fast.tw15892074079054577048:Nat:=0
def PySem.W.Fast.tw2261498921767538792:Nat:=0
def PySem.W.Fast.tw8981309361832588207:Nat:=0
def PySem.W.Fast.tw13066769238260087249:Nat:=0
def PySem.W.Fast.tw4267769560943119306:Nat:=0
def PySem.W.Fast.tw18273218600419014962:Nat:=0
def PySem.W.Fast.tw5233419767025578525:Nat:=0
def PySem.W.Fast.tw4139214558640230441:Nat:=0
def PySem.W.Fast.tw8044856614415075081:Nat:=0
def PySem.W.Fast.tw13832939703894541262:Nat:=0
def PySem.W.Fast.tw3786831673198384952:Nat:=0
def PySem.W.Fast.tw11713489582729826128:Nat:=0
def PySem.W.Fast.tw15264102036638531017:Nat:=0
def PySem.W.Fast.tw1233262018008276246:Nat:=0
def PySem.W.Fast.tw4995472865666503407:Nat:=0
def PySem.W.Fast.tw3085747104342321754:Nat:=0
def PySem.W.Fast.tw16234513693798810173:Nat:=0
def PySem.W.Fast.tw17494231065853528448:Nat:=0
def PySem.W.Fast.tw9812500324607876960:Nat:=0
def PySem.W.Fast.tw2415939459540137000:Nat:=0
def PySem.W.Fast.tw1854005490532593841:Nat:=0
def PySem.W.Fast.tw8009380312311291654:Nat:=0
def PySem.W.Fast.tw16349390311555064895:Nat:=0
def PySem.W.Fast.tw12766283390663428253:Nat:=0
def PySem.W.Fast.tw7583223587926625409:Nat:=0
def PySem.W.Fast.tw10771800291868129014:Nat:=0
def PySem.W.Fast.tw1690536666265678808:Nat:=0
def PySem.W.Fast.tw14806713978485934776:Nat:=0
def PySem.W.Fast.tw1184536633441535121:Nat:=0
open PySem PySem.W PyProof.Rows
set_option maxRecDepth 100000 in
set_option maxHeartbeats 0 in
theorem PySem.Challenge.cw_glidequeue_k13_whole_rows_lead_piece_by_holds : PySem.Challenge.rw_glidequeue_k13_whole_rows_lead_piece_by.Holds := by
 w_on; o_law; k_head; (case hw=>w_witness2)
 k_fill
 refine L2.GX (l:=PySem.Challenge.rw_glidequeue_k13_whole_rows_lead_piece_by) (k:=8) (x:="_law_script") (st:=Lw.mW) rfl rfl ⟨rfl,by decide,by decide⟩ (fun w h Y=>PySem.W.kIn_of Y) Lw.All ?F (fun _ _ A=>A.law) (fun _ _ _ _ _ _ _=>rfl) (fun _ _ _ _ _ _ _ A F=>Lw.Lc A F)
 case F=>
  intro w mg h KX G
  refine⟨L2.KR KX G ?b,?t1,?t2,?gs,?gi0,?gi1,?gi2,?gi3,?gi4,?gi5,?ox,?rq,?fl,?f0,?f1,?f2,?f3,?f4,?f5,?f6,?f7,?f8,?f9,?f10,?f11,?f12,?f13,?f14,?f15,?f16,?f17,?f18,?f19,?f20,?f21,?f22,?f23,?f24⟩
  case b=>(unfold L2.qQ; repeat (refine L2.jZ.cons ?z ?_; (case z=>k_is))); exact L2.jZ.nil
  case t1=>refine' L2.AF KX G ?a ?l ?z ?r; (case a=>k_is); (case l=>k_is); (case z=>decide); (case r=>exact .cons ⟨_,rfl⟩ (.cons ⟨_,rfl⟩ .nil))
  case t2=>refine' L2.AF KX G ?a ?l ?z ?r; (case a=>k_is); (case l=>k_is); (case z=>decide); (case r=>exact .cons ⟨_,rfl⟩ (.cons ⟨_,rfl⟩ .nil))
  case gs=>(refine' L2.Jn KX G ?z; (case z=>k_is))
  case gi0=>(refine' L2.m9 KX G ?z; (case z=>k_is))
  case gi1=>(refine' L2.m9 KX G ?z; (case z=>k_is))
  case gi2=>(refine' L2.m9 KX G ?z; (case z=>k_is))
  case gi3=>(refine' L2.m9 KX G ?z; (case z=>k_is))
  case gi4=>(refine' L2.m9 KX G ?z; (case z=>k_is))
  case gi5=>(refine' L2.m9 KX G ?z; (case z=>k_is))
  case ox=>
   refine' ⟨_,_,⟨⟨L2.Ku KX G ?a1 ?q1,?i1,⟨?x1,?x2,Lw.CP ?x3,?x4⟩,?f,_,L2.qE ?l ?c ?kk⟩,?t,⟨?k1,?k2,?k3,?k4,?k5,?k6,?k7,?k8⟩,?fat⟩⟩
   case a1=>k_is
   case i1=>k_is
   case x1=>k_is
   case x3=>k_is
   case x4=>k_is
   case l=>k_is
   case c=>k_is
   case kk=>k_is
   case k1 | k2 | k3 | k4 | k5 | k6 | k7 | k8 | fat=>k_is
   case q1=>kernel_rfl
   case x2=>kernel_rfl
   case f=>kernel_rfl
   case t=>(show PySem.W.mroIn _ _ _=_; k_is)
  case rq=>
   refine' ⟨_,Lw.BC.mk (Lw.ll.mk (L2.fX.mk ?pg ?hd ?po ?sa) ?n1 ?n2 ?n3 ?n4 ?n5 ?n6 ?n7 ?n8 ?n9) (L2.KL KX G ?aC ?mk ?kc ?ia ?ii ?il ?ic ?ik) (L2.zX ?a0 ?i0 ?l0 ?c0 ?k0) (L2.zX ?a1 ?i1 ?l1 ?c1 ?k1)⟩
   (case aC=>k_is)
   case n1 | n2 | n3 | n4 | n5 | n6 | n7 | n8 | n9=>(unfold L2.eS; k_is)
   case pg | hd | po | sa | mk | kc | ia | ii | il | ic | ik | a0 | i0 | l0 | c0 | k0 | a1 | i1 | l1 | c1 | k1=>k_is
  all_goals (refine' L2.JM KX G ?a ?l ?c ?k; (case a=>k_is); (case l=>k_is); (case c=>k_is); (case k=>k_is))
#print axioms PySem.Challenge.cw_glidequeue_k13_whole_rows_lead_piece_by_holds
