import PyProof.Rows.All
import Wide.All
import OpenK.AllK
import Wide.FinOn
import Lean
import PyProof.EqAt
import PyProof.EqKinds
import PyProof.TupleCall
import PySem.Challenge.RW_glidequeue_k54_texts_of_no_items
set_option Elab.async false
set_option linter.all false
set_option maxRecDepth 100000
abbrev ag:=@PySem.wpAny_bind
abbrev aC:=@if_neg
abbrev aD:=@Nat.le_refl
abbrev aF:=@List.length_map
abbrev aH:=@if_pos
abbrev aM:=@PySem.wpAny_pure
abbrev aN:=@PySem.Heap.lt_size
abbrev aX:=@List.mem_cons
abbrev ba:=@Bool.false_ne_true
abbrev br:=@decide_eq_true
abbrev bu:=@decide_eq_false
abbrev bw:=@PySem.Heap.get?_push_of_some
abbrev bC:=@List.size_toArray
abbrev bE:=@Nat.zero_le
abbrev bF:=@Nat.ne_of_lt
abbrev bG:=@Nat.le_trans
abbrev bN:=@List.mem_map
abbrev bQ:=@Bool.and_eq_true
abbrev bV:=@List.all_eq_true
abbrev cf:=@Option.some.inj
abbrev cg:=@List.getElem?_map
abbrev cj:=@Bool.true_and
abbrev cu:=@beq_iff_eq
abbrev cw:=@PySem.Heap.get?_push_size
abbrev cA:=@Bool.false_and
abbrev cQ:=@List.not_mem_nil
abbrev de:=@List.length_append
abbrev dy:=@PySem.wpAny_mono
abbrev dz:=@Nat.lt_of_lt_of_le
abbrev dA:=@List.getElem?_eq_some_iff
abbrev dB:=@Bool.eq_iff_iff
abbrev dN:=@PySem.wpAny_holding
abbrev dP:=@List.map_append
abbrev e9:=@PySem.intBits_le_64
abbrev eg:=@List.mem_append
abbrev eh:=@List.map_cons
abbrev et:=@List.lookup_cons
abbrev eK:=@List.mem_singleton
abbrev eL:=@List.mem_of_getElem?
abbrev eM:=@List.mem_append_right
abbrev f7:=@congrArg
abbrev f9:=@Ne.symm
abbrev fc:=@Bool.eq_false_iff
abbrev ft:=@List.length_cons
abbrev fu:=@List.getElem?_eq_getElem
abbrev gB:=@PySem.wpAny_field
abbrev gC:=@PyProof.Rows.boot_tuple
abbrev gW:=@PySem.wpAny_truthy_bool
abbrev gX:=@or_false
abbrev gY:=@List.length_take
abbrev gZ:=@List.any_cons
abbrev hG:=@Int.le_refl
abbrev iB:=@PySem.wpAny_newObj_type
abbrev iC:=@if_true
abbrev iD:=@decide_eq_true_eq
abbrev iE:=@List.take_of_length_le
abbrev jk:=@PySem.wpAny_loadPart_at
abbrev jl:=@of_decide_eq_true
abbrev jm:=@PySem.PassesOwn.never
abbrev jn:=@List.append_nil
abbrev jo:=@List.all_cons
abbrev ke:=@PySem.wpAny_standAt
abbrev kf:=@PySem.wpAny_passesOwn
abbrev kg:=@PySem.wpAny_call
abbrev kh:=@PySem.strLen_append
abbrev kj:=@PySem.StrLaws.glued_eq_join
abbrev kl:=@PySem.boot_len
abbrev km:=@PySem.W.mg_of
abbrev kn:=@PySem.Str.cps_append
abbrev kq:=@Nat.lt_irrefl
abbrev kr:=@List.mem_of_mem_take
abbrev ku:=@List.mem_filterMap
abbrev kv:=@List.getElem_mem
abbrev kx:=@Bool.and_false
abbrev me:=@PySem.wpAny_pyIter_list
abbrev mh:=@PySem.wpAny_execs_nil
abbrev mi:=@PySem.typeIs_str
abbrev mj:=@PySem.intText_digits
abbrev ml:=@PySem.W.Looks.here
abbrev mn:=@PyProof.Rows.boot_str
abbrev mq:=@Option.map_eq_some_iff
abbrev mr:=@List.length_drop
abbrev mw:=@PySem.Heap.get?_update_other
abbrev mx:=@Array.toList_append
abbrev my:=@Array.length_toList
abbrev oZ:=@PySem.wpAny_setField
abbrev p4:=@PySem.sizeLine_eq
abbrev p5:=@PySem.W.looks_findIn
abbrev p6:=@PySem.codeAny_mono
abbrev p7:=@PySem.mem_of_lookup
abbrev p8:=@PyProof.Rows.boot_int
abbrev p9:=@PySem.Obj.data_mapFields
abbrev pe:=@List.take_succ
abbrev pg:=@List.sum_cons
abbrev ph:=@List.of_mem_zip
abbrev pj:=@List.mem_cons_of_mem
abbrev pk:=@List.mem_append_left
abbrev pq:=@List.map_map
abbrev pw:=@List.any_map
abbrev pA:=@Int.emod_nonneg
abbrev pB:=@Int.emod_lt_of_pos
abbrev pC:=@PySem.Heap.get?_update_self
abbrev pD:=@Bool.not_eq_true'
abbrev ue:=@PySem.wpAny_isSubtype_exc
abbrev uf:=@PySem.wpAny_Call_Name_kw
abbrev ug:=@PySem.codeAny_call_builtin
abbrev uh:=@beq_self_eq_true
abbrev ui:=@PySem.W.hideAll_get
abbrev uj:=@PySem.W.cellsFrom_some
abbrev uk:=@PySem.F.slot_tuple_iterator_next
abbrev um:=@PySem.F.plainAttrs_str
abbrev uo:=@PySem.F.excAttr_ValueError
abbrev uq:=@PyProof.Rows.boot_isinstance
abbrev ur:=@PyProof.Rows.boot_any
abbrev uu:=@Nat.ne_of_gt
abbrev uv:=@Nat.lt_succ_of_lt
abbrev uw:=@Nat.le_of_lt
abbrev uy:=@Nat.le_of_eq
abbrev uz:=@List.nodup_cons
abbrev uA:=@List.mem_of_mem_drop
abbrev uB:=@List.mem_iff_getElem?
abbrev uC:=@List.mem_cons_self
abbrev uD:=@List.length_pos_iff
abbrev uE:=@List.getLastD_eq_getLast?
abbrev uF:=@List.getElem?_set_self
abbrev uG:=@List.eq_nil_or_concat
abbrev uH:=@List.drop_of_length_le
abbrev uI:=@List.cons_append
abbrev uJ:=@List.concat_eq_append
abbrev uK:=@List.all_nil
abbrev uL:=@Int.toNat_of_nonneg
abbrev uM:=@PySem.Heap.size_push
abbrev uN:=@Bool.and_true
abbrev uO:=@Array.getElem?_eq_some_iff
abbrev Bt:=@PySem.wpAny_newFunctionEnv_cells
abbrev Bu:=@PySem.wpAny_callSpecial?_slot
abbrev Bv:=@ne_true_of_eq_false
abbrev Bw:=@PySem.int_text_length_le10
abbrev Bx:=@PySem.codeAny_call_function
abbrev Bz:=@PySem.ofString_length
abbrev BA:=@PySem.W.codeRec_of
abbrev BB:=@PySem.F.slot_tuple_add
abbrev BC:=@PySem.F.entry_tuple_add
abbrev BD:=@PySem.F.args_tuple_add_2
abbrev BE:=@PyProof.Rows.slot_tuple_getitem
abbrev BF:=@PyProof.Rows.callWith_type1
abbrev BG:=@PyProof.Rows.boot_all
abbrev BH:=@PySem.Obj.isFreed_of_fields
abbrev BI:=@List.take_length
abbrev BJ:=@List.getLast?_eq_some_getLast
abbrev BK:=@List.getLast?_append
abbrev BL:=@List.getElem?_set_ne
abbrev BM:=@List.getElem?_append_left
abbrev BN:=@List.filterMap_cons
abbrev BO:=@List.contains_cons
abbrev BP:=@List.any_eq_true
abbrev BQ:=@Int.toNat_natCast
abbrev BR:=@Bool.false_eq_true
abbrev BS:=@Bool.beq_eq_decide_eq
abbrev BU:=@Array.all_eq_true_iff_forall_mem
abbrev L8:=@PySem.F.entry_tuple_iterator_next
abbrev L9:=@PySem.F.args_tuple_iterator_next_1
abbrev La:=@List.length_filter_eq_length_iff
abbrev M5:=PySem.W.Frag
abbrev M6:=PySem.Shared
abbrev M7:=PySem.Program
abbrev M8:=PySem.PyData
abbrev M9:=PySem.Around
namespace L2
open PySem PySem.Spec PyProof.Rows
abbrev Key:=Sum Int Str
def xZ:Key->Value->Bool | .inl k,v=>Value.isInt k v | .inr x,v=>Value.isStrOf x v
def GL(w:World):Key->Int | .inl k=>hashInt k | .inr x=>hashStr w x
theorem gL:∀{k:Key}{v:Value},xZ k v=true->(∃i t,k=Sum.inl i/\v=Value.int i t)\/(∃x t,k=Sum.inr x/\v=Value.str x t) | .inl i,v,h=>by obtain⟨t,e⟩:=Value.isInt_shape (k:=i) (v:=v) h;exact .inl ⟨i,t,rfl,e⟩ | .inr x,v,h=>by obtain⟨t,e⟩:=Value.isStrOf_shape (x:=x) (v:=v) h;exact .inr ⟨x,t,rfl,e⟩
theorem GK(a b:Int):decide ((Sum.inl a:Key)=Sum.inl b)=(a==b):=by
 by_cases e:a=b
 ·subst e;simp
 · have h:¬(Sum.inl a:Key)=Sum.inl b:=fun q=>e (Sum.inl.inj q)
   rw[bu h];exact(beq_eq_false_iff_ne.mpr e).symm
theorem GH(a b:Str):decide ((Sum.inr a:Key)=Sum.inr b)=decide (a=b):=by
 by_cases e:a=b
 ·subst e;simp
 · have h:¬(Sum.inr a:Key)=Sum.inr b:=fun q=>e (Sum.inr.inj q)
   rw[bu h,bu e]
theorem GJ(a:Int)(b:Str):decide ((Sum.inl a:Key)=Sum.inr b)=false:=bu (fun q=>nomatch q)
theorem GI(a:Str)(b:Int):decide ((Sum.inr a:Key)=Sum.inl b)=false:=bu (fun q=>nomatch q)
def rM(prog:M7)(w:World):PySem.KeyKind prog w Key where
 is:=xZ
 hash:=GL w
 inj:=fun v a b ha hb=>by
  rcases gL ha with⟨i,t,rfl,rfl⟩|⟨x,t,rfl,rfl⟩
  · rcases gL hb with⟨j,u,rfl,e⟩|⟨y,u,rfl,e⟩
    ·injection e with e1 _;rw[e1]
    ·exact nomatch e
  · rcases gL hb with⟨j,u,rfl,e⟩|⟨y,u,rfl,e⟩
    ·exact nomatch e
    ·injection e with e1 _;rw[e1]
 byValue:=fun k v h=>by rcases gL h with⟨i,t,rfl,rfl⟩|⟨x,t,rfl,rfl⟩<;>rfl
 pyHash:=fun hv h=>by
  rcases gL hv with⟨i,t,rfl,rfl⟩|⟨x,t,rfl,rfl⟩
  ·exact wpAny_pyHash_int h
  ·exact wpAny_pyHash_str h
 eqBool:=fun hu hv h=>by
  rcases gL hu with⟨i,t,rfl,rfl⟩|⟨x,t,rfl,rfl⟩
  · rcases gL hv with⟨j,u,rfl,rfl⟩|⟨y,u,rfl,rfl⟩
    ·rw[GK]at h;exact wpAny_eqBool_int h
    ·rw[GJ]at h;exact SeqAt.EqAt.int_str i t y u _ _ _ _ h
  · rcases gL hv with⟨j,u,rfl,rfl⟩|⟨y,u,rfl,rfl⟩
    ·rw[GI]at h;exact SeqAt.EqAt.str_int x t j u _ _ _ _ h
    ·rw[GH]at h;exact wpAny_eqBool_str h
 «strs»:=fun k x t v h=>by
  rcases gL h with⟨i,u,rfl,e⟩|⟨y,u,rfl,e⟩
  ·exact nomatch e
  · injection e with e1 _
    subst e1;cases v<;>rfl
inductive V where |au|bl (b:Bool)|int (i:Int)|str (x:Str)|eX (b:Array UInt8)|sZ (b:UInt64)|ref (a:Addr)|ty (n:String) deriving DecidableEq
def RelV:V->Value->Prop | .au,u=>u=Value.none | .bl b,u=>u=Value.bool b | .int i,u=>∃t,u=Value.int i t | .str x,u=>∃t,u=Value.str x t | .eX b,u=>∃t,u=Value.bytes b t | .sZ b,u=>∃t,u=Value.float b t | .ref a,u=>u=Value.ref a | .ty n,u=>u=Value.type n
abbrev Vals:List V->List Value->Prop:=Paired RelV
theorem Vals.length{xs:List V}{us:List Value}(r:Vals xs us):xs.length=us.length:=Paired.length r
theorem Vals.get:∀{xs:List V}{us:List Value}{i:Nat}{x:V},Vals xs us->xs[i]? =some x->∃u,us[i]? =some u/\RelV x u |_,_,_,_,.nil,e=>by simp at e |_,_,0,_,.cons r _,e=>by simp at e;subst e;exact⟨_,rfl,r⟩ |_,_,i+1,x,.cons _ t,e=>by obtain⟨u,h1,h2⟩:=Vals.get (i:=i) (x:=x) t (by simpa using e);exact⟨u,by simpa using h1,h2⟩
theorem Vals.set{x:V}{u:Value}(r:RelV x u):∀{xs:List V}{us:List Value}(i:Nat),Vals xs us->Vals (xs.set i x) (us.set i u) |_,_,_,.nil=>.nil |_,_,0,.cons _ t=>.cons r t |_,_,i+1,.cons q t=>.cons q (Vals.set r i t)
theorem Vals.append:∀{xs ys:List V}{us ws:List Value},Vals xs us->Vals ys ws->Vals (xs++ys) (us++ws) |_,_,_,_,.nil,s=>s |_,_,_,_,.cons r t,s=>.cons r (Vals.append t s)
theorem Vals.take:∀{xs:List V}{us:List Value}(n:Nat),Vals xs us->Vals (xs.take n) (us.take n) |_,_,0,_=>.nil |_,_,_+1,.nil=>.nil |_,_,n+1,.cons r t=>.cons r (Vals.take n t)
theorem Vals.drop:∀{xs:List V}{us:List Value}(n:Nat),Vals xs us->Vals (xs.drop n) (us.drop n) |_,_,0,r=>r |_,_,_+1,.nil=>.nil |_,_,n+1,.cons _ t=>Vals.drop n t
def zZ:Option V->Option Value->Prop |some v,some u=>RelV v u |none,none=>True |_,_=>False
def KV{κ:Type}:List (κ×V)->List (κ×Value)->Prop:=Paired fun(p:κ×V)(q:κ×Value)=>p.1=q.1/\RelV p.2 q.2
def kV:Key->V | .inl i=>.int i | .inr x=>.str x
inductive HO where /--a list -/ |lst (xs:List V) /--a tuple (never changes) -/ |tup (xs:List V) /--a dict C1 keys are ints and texts; one C1 keys are tuples of ints and texts (jq empty one is both) -/ |dK (bp:List (Key×V))|dT (bp:List (List Key×V)) /--a set of ints: its members,its size -/ |set (S:Int->Bool)(n:Nat) /--an instance of jq class at C,its dict at dx,its attributes -/ |ins (C dx:Addr)(fs:List (Str×V)) /--jq dict of jq instance at x -/ |own (x:Addr) /--jq dict of an exception -/ |xd (fs:List (Str×V)) /--a bound method,f of x -/ |met (f x:Addr) /--a range object lo,lo+1,.. below hi -/ |mY (lo hi:Int) /--a Ct Ld is known to jq object (jq Li; a dict while a loop walks it): read,never written while it is so -/ |fQ (o:Obj)(u:HO) /--a code Ll table -/ |hU (ps:Array Value) /--any other Ct,by what is true of its one object (a def of Lk own: M1 a S n:=HO.ext fun h=>..) -/ |ext (φ:Heap->Prop)
abbrev Hp:=Addr->Option HO
def upd(H:Hp)(a:Addr)(o:HO):Hp:=fun b=>if b=a then some o else H b
theorem bR{H:Hp}{a:Addr}{o:HO}:upd H a o a=some o:=by unfold upd;rw[aH rfl]
theorem aL{H:Hp}{a b:Addr}{o:HO}(h:b≠a):upd H a o b=H b:=by unfold upd;rw[aC h]
theorem xD{H:Hp}{a b:Addr}{o u:HO}(h:H a=some o)(h':H b=some u)(d:o≠u):a≠b:=by intro e;subst e;rw[h]at h';exact d (cf h')
theorem cn{H:Hp}{a b:Addr}{o:HO}(h:H a=some o)(h':H b=none):a≠b:=by intro e;subst e;rw[h]at h';cases h'
section
variable (P:M7) (w:World)
def bZ(H:Hp)(h:Heap)(a:Addr):HO->Prop | .lst xs=>xs.length<=sizeLine/\∃(its:List Value)(n:Nat),Vals xs its/\h.get? a=some {cls:=.type "list",data:=.seq its.toArray n} | .tup xs=>xs.length<=sizeLine/\∃its:List Value,Vals xs its/\IsTup h a its.toArray | .dK bp=>bp.length<=sizeLine/\(a==sysModules)=false/\∃vs,KV bp vs/\h.DictOf (rM P w) a vs | .dT bp=>bp.length<=sizeLine/\(a==sysModules)=false/\∃xs:List (List Key×Addr×Value),Paired (fun(p:List Key×V)(q:List Key×Addr×Value)=>p.1=q.1/\H q.2.1=some (.tup (p.1.map kV))/\RelV p.2 q.2.2) bp xs/\∃o es ep,h.get? a=some o/\o.ExactDict/\o.data= .dict es ep/\es.toList=xs.map (entryOfKey (tupleKind (rM P w)))/\(xs.map (·.1)).Nodup | .set S n=>h.SetOf (intKind P w) a S n | .ins C dx fs=>H dx=some (.own a)/\fs.length<=1000/\dx≠a/\h.get? a=some (PySem.W.instObj C dx)/\∃mA,h.Ns1 dx mA/\(∀f,zZ (fs.lookup f) (mA f))/\PySem.Within mA (fs.map (·.1)) | .own _=>∃o,h.get? a=some o | .xd fs=>∃mA,h.Ns1 a mA/\∀f,zZ (fs.lookup f) (mA f) | .mY lo hi=>∃t u v,h.get? a=some {cls:=.type "range",data:=.fields #[.int lo t,.int hi u,.int 1 v]} | .fQ o u=>h.get? a=some o/\bZ H h a u | .hU ps=>h.get? a=some {cls:=.none,data:=.fields ps} | .met f x=>h.get? a=some (PySem.W.methodObj (.ref f) (.ref x)) | .ext φ=>φ h/\(∃o,h.get? a=some o)/\∀h1 h2:Heap,φ h1->(∀o,h1.get? a=some o->h2.get? a=some o)->φ h2
def bq(H:Hp)(h:Heap):Prop:=∀a o,H a=some o->bZ P w H h a o
end
section
variable {P:M7}{w:World}{H H':Hp}{h h':Heap}{a:Addr}{o:HO}
theorem bZ.lt(x:bZ P w H h a o):a<h.objs.size:=by cases o with |lst xs=>obtain⟨_,_,_,_,e⟩:=x;exact aN e |tup xs=>obtain⟨_,_,_,p⟩:=x;exact p.lt |dK bp=>obtain⟨_,_,_,_,o,_,_,e,_⟩:=x;exact aN e |dT bp=>obtain⟨_,_,_,_,o,_,_,e,_⟩:=x;exact aN e |set S n=>obtain⟨o,_,_,_,e,_⟩:=x;exact aN e |ins C dx fs=>obtain⟨_,_,_,e,_⟩:=x;exact aN e |own y=>obtain⟨_,e⟩:=x;exact aN e |xd fs=>obtain⟨_,⟨_,_,_,e,_⟩,_⟩:=x;exact aN e |mY lo hi=>obtain⟨_,_,_,e⟩:=x;exact aN e |fQ ob u=>obtain⟨e,_⟩:=x;exact aN e |hU ps=>exact aN (show h.get? a=some _ from x) |met f y=>exact aN (show h.get? a=some _ from x) |ext φ=>obtain⟨_,⟨_,e⟩,_⟩:=x;exact aN e
theorem Paired.xP{α β:Type}{F G:α->β->Prop}:∀{l₁:List α}{l₂:List β},Paired F l₁ l₂->(∀a b,F a b->G a b)->Paired G l₁ l₂ |_,_,.nil,_=>.nil |_,_,.cons r t,f=>.cons (f _ _ r) (Paired.xP t f)
theorem bZ.fv(x:bZ P w H h a o)(k:∀b u,(b=a\/H b=some (.own a))->h.get? b=some u->h'.get? b=some u) (ho:∀b,H b=some (.own a)->H' b=some (.own a))(ht:∀b xs,H b=some (.tup xs)->H' b=some (.tup xs)):bZ P w H' h' a o:=by induction o with |lst xs=>obtain⟨z,its,n,r,e⟩:=x;exact⟨z,its,n,r,k _ _ (.inl rfl) e⟩ |tup xs=>obtain⟨z,its,r,ob,e,c⟩:=x;exact⟨z,its,r,ob,k _ _ (.inl rfl) e,c⟩ |dK bp=>obtain⟨z,y,vs,r,ob,es,ep,e,c⟩:=x;exact⟨z,y,vs,r,ob,es,ep,k _ _ (.inl rfl) e,c⟩ |dT bp=>obtain⟨z,y,xs,r,ob,es,ep,e,c⟩:=x;exact⟨z,y,xs,Paired.xP r fun p q z=>⟨z.1,ht _ _ z.2.1,z.2.2⟩,ob,es,ep,k _ _ (.inl rfl) e,c⟩ |set S n=>obtain⟨ob,es,ep,t,e,c⟩:=x;exact⟨ob,es,ep,t,k _ _ (.inl rfl) e,c⟩ |ins C dx fs=>obtain⟨d,z,ne,e,mA,⟨od,es,ep,e2,c⟩,r⟩:=x;exact⟨ho _ d,z,ne,k _ _ (.inl rfl) e,mA,⟨od,es,ep,k _ _ (.inr d) e2,c⟩,r⟩ |own y=>obtain⟨ob,e⟩:=x;exact⟨ob,k _ _ (.inl rfl) e⟩ |xd fs=>obtain⟨mA,⟨od,es,ep,e,c⟩,r⟩:=x;exact⟨mA,⟨od,es,ep,k _ _ (.inl rfl) e,c⟩,r⟩ |mY lo hi=>obtain⟨t,u,v,e⟩:=x;exact⟨t,u,v,k _ _ (.inl rfl) e⟩ |fQ ob u ih=>obtain⟨e,q⟩:=x;exact⟨k _ _ (.inl rfl) e,ih q⟩ |hU ps=>have e:h.get? a=some {cls:=.none,data:=.fields ps}:=x;show h'.get? a=some {cls:=.none,data:=.fields ps};exact k a _ (.inl rfl) e |met f y=>have e:h.get? a=some (PySem.W.methodObj (.ref f) (.ref y)):=x;show h'.get? a=some (PySem.W.methodObj (.ref f) (.ref y));exact k a _ (.inl rfl) e |ext φ=>obtain⟨p,⟨o,e⟩,st⟩:=x;exact⟨st _ _ p fun o q=>k _ _ (.inl rfl) q,⟨o,k _ _ (.inl rfl) e⟩,st⟩
theorem bq.lt(x:bq P w H h)(e:H a=some o):a<h.objs.size:=(x a o e).lt
theorem bq.fresh(x:bq P w H h)(e:h.objs.size<=a):H a=none:=by cases q:H a with |none=>rfl |some u=>exact absurd (dz (x.lt q) e) (kq _)
theorem bq.kept(x:bq P w H h)(k:∀b u,h.get? b=some u->h'.get? b=some u):bq P w H h':=fun a o e=>(x a o e).fv (fun b u _ q=>k b u q) (fun _ q=>q) fun _ _ q=>q
theorem bq.laid(x:bq P w H h)(k:∀b u,h.get? b=some u->h'.get? b=some u)(hp:h.objs.size<=a)(new:bZ P w (upd H a o) h' a o):bq P w (upd H a o) h':=fun b u e=>by
 have hn:=x.fresh hp;by_cases hb:b=a
 ·subst hb;rw[bR]at e;cases e;exact new
 · rw[aL hb]at e
   exact(x b u e).fv (fun c v _ q=>k c v q) (fun c q=>by rw[aL (cn q hn)];exact q) fun c xs q=>by rw[aL (cn q hn)];exact q
end
def Rd(H:Hp)(a:Addr)(u:HO):Prop:=H a=some u\/∃o,H a=some (.fQ o u)
theorem Rd.ok{P:M7}{w:World}{H:Hp}{h:Heap}{a:Addr}{u:HO}(r:Rd H a u)(x:bq P w H h):bZ P w H h a u:=by
 rcases r with r|⟨o,r⟩
 ·exact x a u r
 · obtain⟨_,q⟩:=x a _ r
   exact q
def oT:Option HO->Prop |some (.lst _)=>True |some (.dK _)=>True |some (.dT _)=>True |some (.set _ _)=>True |some (.ins _ _ _)=>True |some (.ext _)=>True |_=>False
section
variable {P:M7}{w:World}{H:Hp}{h h':Heap}{x e:Addr}{o':HO}
theorem bq.write(ok:bq P w H h)(mu:oT (H x))(he:e=x\/H e=some (.own x))(k:∀b u,b≠e->h.get? b=some u->h'.get? b=some u)(jP:∃u,h'.get? e=some u) (new:bZ P w (upd H x o') h' x o'):bq P w (upd H x o') h':=fun b u q=>by
  have xy:∀c y,H c=some (.own y)->c≠x:=fun c y r z=>by subst z;rw[r]at mu;exact mu
  have FO:∀c xs,H c=some (.tup xs)->c≠x:=fun c xs r z=>by subst z;rw[r]at mu;exact mu
  by_cases hb:b=x
  ·subst hb;rw[bR]at q;cases q;exact new
  · rw[aL hb]at q
    by_cases j6:b=e
    · have q':H b=some (.own x):=by
        rcases he with z|z
        ·exact absurd (j6.trans z) hb
        ·rw[j6];exact z
      rw[q]at q';cases q';obtain⟨v,hv⟩:=jP;exact⟨v,by rw[j6];exact hv⟩
    · refine(ok b u q).fv (fun c v hc r=>k c v ?_ r) (fun c r=>by rw[aL (xy c b r)];exact r) fun c xs r=>by rw[aL (FO c xs r)];exact r
      rcases hc with rfl|hc
      ·exact j6
      · rintro rfl
        rcases he with z|z
        ·exact xy c b hc z
        ·rw[hc]at z;cases z;exact hb rfl
end
structure Un(fs ex:List Addr)(H H':Hp)(h h':Heap):Prop where
 keep:∀b o,h.get? b=some o->H b=none->b∉fs->b∉ex->h'.get? b=some o
 slot:∀b o,h.get? b=some o->H b=none->b∈fs->b∉ex->∃sl,h'.get? b=some {o with slots:=sl}
 free:∀b o,h.get? b=some o->H b=none->b∉ex->H' b=none
 there:∀b o,h.get? b=some o->b∉ex->∃o',h'.get? b=some o'
 tups:∀b xs,H b=some (.tup xs)->H' b=some (.tup xs)
 frzs:∀b o u,H b=some (.fQ o u)->H' b=some (.fQ o u)
 tbls:∀b ps,H b=some (.hU ps)->∃more,H' b=some (.hU (ps++more))
section
variable {fs jQ ex jU:List Addr}{H H1 H2:Hp}{h h1 h2 h':Heap}{a x e:Addr}{o:HO}
theorem Un.any(u:Un fs ex H H1 h h1){b:Addr}{ob:Obj}(q:h.get? b=some ob)(n:H b=none)(hx:b∉ex):∃sl,h1.get? b=some {ob with slots:=sl}:=by
 by_cases hb:b∈fs
 ·exact u.slot b ob q n hb hx
 ·exact⟨ob.slots,u.keep b ob q n hb hx⟩
theorem Un.kept(k:∀b u,h.get? b=some u->h'.get? b=some u):Un fs ex H H h h':=⟨fun b ob q _ _ _=>k b ob q,fun b ob q _ _ _=>⟨ob.slots,k b ob q⟩,fun _ _ _ n _=>n,fun b ob q _=>⟨ob,k b ob q⟩,fun _ _ q=>q,fun _ _ _ q=>q,fun _ ps q=>⟨#[],by rw[q];simp⟩⟩
theorem Un.refl:Un fs ex H H h h:=Un.kept fun _ _ q=>q
theorem Un.laid(k:∀b u,h.get? b=some u->h'.get? b=some u)(hp:h.objs.size<=a)(hn:H a=none):Un fs ex H (upd H a o) h h' where
 keep:=fun b u q _ _ _=>k b u q
 slot:=fun b u q _ _ _=>⟨u.slots,k b u q⟩
 free:=fun b u q n _=>by rw[aL (bF (dz (aN q) hp))];exact n
 there:=fun b u q _=>⟨u,k b u q⟩
 tups:=fun b xs q=>by rw[aL (cn q hn)];exact q
 frzs:=fun b u xs q=>by rw[aL (cn q hn)];exact q
 tbls:=fun b ps q=>⟨#[],by rw[aL (cn q hn),q];simp⟩
theorem Un.write(mu:oT (H x))(he:e=x\/H e=some (.own x))(k:∀b u,b≠e->h.get? b=some u->h'.get? b=some u)(jP:∃u,h'.get? e=some u):Un fs ex H (upd H x o) h h':=by
 have hx:∀b,H b=none->b≠x:=fun b n z=>by subst z;rw[n]at mu;exact mu
 have hb:∀b,H b=none->b≠e:=fun b n z=>by
  subst z;rcases he with r|r
  ·exact hx b n r
  ·rw[n]at r;cases r
 have hm:∀b u,H b=some u->¬oT (some u)->b≠x:=fun b u q nm z=>by subst z;rw[q]at mu;exact nm mu
 refine⟨fun b u q n _ _=>k b u (hb b n) q,fun b u q n _ _=>⟨u.slots,k b u (hb b n) q⟩,fun b u q n _=>by rw[aL (hx b n)];exact n,fun b u q _=>?_,fun b xs q=>by rw[aL (hm b _ q fun z=>z)];exact q,fun b u xs q=>by rw[aL (hm b _ q fun z=>z)];exact q,fun b ps q=>⟨#[],by rw[aL (hm b _ q fun z=>z),q];simp⟩⟩;by_cases j6:b=e
 ·subst j6;exact jP
 ·exact⟨u,k b u j6 q⟩
end
def mF(h:Heap)(H:Hp):List Addr:=(List.range h.objs.size).filter fun a=>(H a).isSome
def gN(h:Heap)(H:Hp):Heap:=PySem.W.hideAll h (mF h H)
theorem Ii(h:Heap)(H:Hp):(gN h H).objs.size=h.objs.size:=PySem.W.hideAll_size _ _
theorem Ij{h:Heap}{H:Hp}{b:Addr}{o:Obj}(e:h.get? b=some o)(n:H b=none):(gN h H).get? b=some o:=ui _ e fun hm=>by have q:(H b).isSome=true:=(List.mem_filter.mp hm).2;rw[n]at q;simp at q
theorem Fy{h:Heap}{H:Hp}{b:Addr}{o:Obj}(e:(gN h H).get? b=some o):h.get? b=some o/\H b=none:=by have e':h.get? b=some o:=PySem.W.of_hideAll (mF h H) e;refine⟨e',?_⟩;cases q:H b with |none=>rfl |some x=>have hm:b∈mF h H:=List.mem_filter.mpr ⟨List.mem_range.mpr (aN e'),by simp[q]⟩;have z:(gN h H).get? b=none:=PySem.W.hideAll_none (mF h H) hm;rw[z]at e;cases e
structure Mod(K:M5)(mg:Str->Option Value)(base:Heap):Prop where
 kin:K.In base
 glob:base.Ns mainGlobals mg
 blt:∃mb,base.Ns builtinsNs mb/\∀x:Str,x≠"__name__"->mb x=bootBuiltins x
 nolimit:base.NoLimit
structure Cx where
 prog:M7
 w:World
 K:M5
 mg:Str->Option Value
 base:Heap
 A:M9
 N:List Str
 s₀:M6
 H₀:Hp
 env:Env
 outer:List Env
 stack:List Env
 ex:List Addr
 fn:Str->Bool
 calm:Bool
 pn:List (Addr×Obj)
 xe:Value->M6->Prop
def bK(l:List Env):List Addr:=l.filterMap (·.frame)
abbrev Cx.fs(X:Cx):List Addr:=bK X.outer
def tZ(sc:Scope)(x:Str):Prop:=sc.names.lookup x=some .local\/sc.names.lookup x=some .cell\/sc.names.lookup x=some .free
def Loc(sc:Scope)(x:Str):Prop:=sc.names.lookup x=some .local\/sc.names.lookup x=some .cell
def Look(env:Env)(h:Heap)(m:Str->Option Value)(x:Str)(u:Value):Prop:=(env.kindOf x=some .local/\m x=some u)\/((env.kindOf x=some .cell\/env.kindOf x=some .free)/\∃c,env.cells.lookup x=some c/\h.IsCell c (some u))
structure Cx.Ok(X:Cx):Prop where
 mod:Mod X.K X.mg X.base
 kind:X.env.scope.kind= .function
 glob:X.env.globals=mainGlobals
 blt:X.env.builtins=builtinsNs
 above:X.s₀.heap.objs.size<=X.env.locals
 inj:∀x y c,X.env.cells.lookup x=some c->X.env.cells.lookup y=some c->x=y
 has:∀x,(X.env.kindOf x=some .cell\/X.env.kindOf x=some .free)->∃c,X.env.cells.lookup x=some c
 cab:∀x c,X.fn x=true->X.env.cells.lookup x=some c->X.s₀.heap.objs.size<=c
 hd:X.calm=true->X.A.handled=none
 frames:X.A.frames=some X.stack
 stk:X.stack=X.outer\/(X.stack=X.env::X.outer/\X.env.frame=some X.env.locals)
 exf:∀b∈X.ex,b≠X.env.locals/\∀x c,X.env.cells.lookup x=some c->c≠b
 bs:∀b o,X.base.get? b=some o->X.s₀.heap.get? b=some o/\X.H₀ b=none
 bsz:X.base.objs.size<=X.s₀.heap.objs.size
 noex:∀b o,X.base.get? b=some o->b∉X.ex
 exfs:∀b∈X.ex,b∉X.fs
 dJ:X.s₀.heap.FunFrames X.base X.outer
 frf:∀b∈X.fs,X.H₀ b=none
structure Inv(X:Cx)(pins:List (Addr×Obj))(σ:List (Option V))(H:Hp)(s:M6):Prop where
 ok:X.Ok
 os:s.os=X.s₀.os
 bare:AllBare s.gens
 base:Un X.fs X.ex X.H₀ H X.s₀.heap s.heap
 loc:∃m,s.heap.Ns X.env.locals m/\∀(i:Nat)(x:Str)(v:V),X.N[i]? =some x->σ[i]? =some (some v)->tZ X.env.scope x->∃u,RelV v u/\Look X.env s.heap m x u
 cell:∀x c,X.env.cells.lookup x=some c->∃v,s.heap.IsCell c v
 free:H X.env.locals=none
 freeC:∀x c,X.env.cells.lookup x=some c->H c=none
 pin:∀p∈X.pn++pins,s.heap.get? p.1=some p.2/\H p.1=none/\p.1≠X.env.locals/\p.1∉X.fs/\∀v,p.2.data≠ .cell v
 hok:bq X.prog X.w H s.heap
 len:σ.length=X.N.length
section
variable {X:Cx}{pins:List (Addr×Obj)}{σ:List (Option V)}{H H':Hp}{s:M6}{h':Heap}
theorem Cx.Ok.FU(ok:X.Ok){b:Addr}{o:Obj}(e:X.base.get? b=some o):b∉X.fs:=fun hb=>by have:=(ok.dJ.mem hb).1;rw[e]at this;cases this
theorem Inv.bs(I:Inv X pins σ H s):∀b o,X.base.get? b=some o->s.heap.get? b=some o/\H b=none:=fun b o e=>⟨I.base.keep b o (I.ok.bs b o e).1 (I.ok.bs b o e).2 (I.ok.FU e) (I.ok.noex b o e),I.base.free b o (I.ok.bs b o e).1 (I.ok.bs b o e).2 (I.ok.noex b o e)⟩
theorem Inv.bk(I:Inv X pins σ H s):∀b o,X.base.get? b=some o->s.heap.get? b=some o:=fun b o e=>(I.bs b o e).1
theorem Inv.mod(I:Inv X pins σ H s):Mod X.K X.mg X.base:=I.ok.mod
theorem Inv.cM(I:Inv X pins σ H s):X.K.In s.heap:=I.ok.mod.kin.keeps I.bk
theorem Inv.lt(I:Inv X pins σ H s):X.env.locals<s.heap.objs.size:=let⟨_,hn,_⟩:=I.loc;hn.lt
theorem Inv.sz(I:Inv X pins σ H s):X.s₀.heap.objs.size<=s.heap.objs.size:=bG I.ok.above (uw I.lt)
theorem Inv.FT(I:Inv X pins σ H s){a:Addr}(h:s.heap.objs.size<=a):a∉X.fs:=fun hb=>by obtain⟨_,o,ho,_⟩:=I.ok.dJ.mem hb;exact absurd (dz (aN ho) (bG I.sz h)) (kq _)
theorem Inv.fS(I:Inv X pins σ H s):∀x c,X.env.cells.lookup x=some c->c≠X.env.locals:=fun x c e z=>by obtain⟨v,o,ho,hd⟩:=I.cell x c e;obtain⟨m,⟨o',es,ep,fK,lR,_⟩,_⟩:=I.loc;rw[z,fK]at ho;cases ho;rw[lR]at hd;cases hd
theorem Inv.dJ(I:Inv X pins σ H s):s.heap.FunFrames X.base X.outer:=by
 have all:∀(l:List Env),(∀b∈bK l,b∈X.fs)->X.s₀.heap.FunFrames X.base l->s.heap.FunFrames X.base l:=by intro l;induction l with |nil=>intro _ _;trivial |cons env r ih=>intro hs hl;obtain⟨hk,⟨L,o,hf,hn,ho,hd⟩,hr⟩:=hl;have hL:L∈X.fs:=hs L (by unfold bK;rw[BN,hf];exact uC);obtain⟨sl,e⟩:=I.base.slot L o ho (I.ok.frf L hL) hL fun z=>I.ok.exfs L z hL;exact⟨hk,⟨L,_,hf,hn,e,hd⟩,ih (fun b hb=>hs b (by unfold bK;rw[BN,hf];exact pj _ hb)) hr⟩
 exact all X.outer (fun _ hb=>hb) I.ok.dJ
theorem Inv.stack(I:Inv X pins σ H s):s.heap.FunFrames X.base X.stack:=by
 rcases I.ok.stk with e|⟨e,hf⟩
 ·rw[e];exact I.dJ
 · rw[e]
   obtain⟨m,hn,_⟩:=I.loc;refine .cons (by rw[I.ok.kind];decide) hf hn ?_ I.dJ;exact Heap.get?_none_of_le (bG I.ok.bsz I.ok.above)
theorem Inv.pM(I:Inv X pins σ H s):∀b∈bK X.stack,b∈X.env.locals::X.fs:=fun b hb=>by
 rcases I.ok.stk with e|⟨e,hf⟩
 ·rw[e]at hb;exact pj _ hb
 · rw[e]at hb
   unfold bK at hb;rw[BN,hf]at hb;exact hb
theorem Inv.mR(I:Inv X pins σ H s):∀b∈bK X.stack,H b=none:=fun b hb=>by
 rcases aX.mp (I.pM b hb)with e|hb
 ·rw[e];exact I.free
 · obtain⟨_,o,ho,_⟩:=I.ok.dJ.mem hb
   exact I.base.free b o ho (I.ok.frf b hb) fun z=>I.ok.exfs b z hb
theorem Inv.step{g':Array GenState}{t':Nat}{d':Drawn}{ch:List Addr}(I:Inv X pins σ H s) (fk:∀b∈ch,(b∈X.ex\/X.s₀.heap.objs.size<=b)/\b≠X.env.locals/\(∀x c,X.env.cells.lookup x=some c->c≠b)/\∀p∈X.pn++pins,p.1≠b) (keep:∀b o,b≠X.env.locals->b∉X.fs->b∉ch->s.heap.get? b=some o->H b=none->h'.get? b=some o) (slot:∀b o,b≠X.env.locals->b∈X.fs->b∉ch->s.heap.get? b=some o->H b=none->∃sl,h'.get? b=some {o with slots:=sl})(free:∀b o,b∉ch->s.heap.get? b=some o->H b=none->H' b=none) (there:∀b o,b∉ch->s.heap.get? b=some o->∃o',h'.get? b=some o') (tups:∀b xs,H b=some (.tup xs)->H' b=some (.tup xs))(frzs:∀b o u,H b=some (.fQ o u)->H' b=some (.fQ o u))(tbls:∀b ps,H b=some (.hU ps)->∃more,H' b=some (.hU (ps++more))) (ns:∀m,s.heap.Ns X.env.locals m->h'.Ns X.env.locals m)(hok:bq X.prog X.w H' h')(hg:AllBare g'): Inv X pins σ H' {s with heap:=h',gens:=g',drawn:=d',toks:=t'}:=by
  have xE:∀b o,X.s₀.heap.get? b=some o->b≠X.env.locals:=fun b o e=>bF (dz (aN e) I.ok.above);have nJ:∀b o,X.s₀.heap.get? b=some o->b∉X.ex->b∉ch:=fun b o e hx hb=>by
   rcases(fk b hb).1 with z|z
   ·exact hx z
   ·exact absurd (dz (aN e) z) (kq _)
  have cellK:∀x c,X.env.cells.lookup x=some c->∀v,s.heap.IsCell c v->h'.IsCell c v:=fun x c e v ⟨o,ho,hd⟩=>by
   have la:c∉ch:=fun z=>(fk c z).2.2.1 x c e rfl;by_cases hc:c∈X.fs
   · obtain⟨sl,q⟩:=slot c o (I.fS x c e) hc la ho (I.freeC x c e)
     exact⟨_,q,hd⟩
   ·exact⟨o,keep c o (I.fS x c e) hc la ho (I.freeC x c e),hd⟩
  refine⟨I.ok,I.os,hg,⟨fun b o e n hb hx=>?_,fun b o e n hb hx=>?_,fun b o e n hx=>?_,fun b o e hx=>?_,fun b xs e=>tups b xs (I.base.tups b xs e),fun b o xs e=>frzs b o xs (I.base.frzs b o xs e),fun b ps e=>?_⟩,?_,fun x c e=>?_,?_,fun x c e=>?_,fun p hp=>?_,hok,I.len⟩
  ·exact keep b o (xE b o e) hb (nJ b o e hx) (I.base.keep b o e n hb hx) (I.base.free b o e n hx)
  · obtain⟨sl,e1⟩:=I.base.slot b o e n hb hx
    obtain⟨pW,e2⟩:=slot b _ (xE b o e) hb (nJ b o e hx) e1 (I.base.free b o e n hx);exact⟨pW,e2⟩
  · obtain⟨o',e1⟩:=I.base.there b o e hx
    exact free b o' (nJ b o e hx) e1 (I.base.free b o e n hx)
  · obtain⟨o',e1⟩:=I.base.there b o e hx
    exact there b o' (nJ b o e hx) e1
  · obtain⟨m1,e1⟩:=I.base.tbls b ps e
    obtain⟨m2,e2⟩:=tbls b _ e1;exact⟨m1++m2,by rw[e2,Array.append_assoc]⟩
  · obtain⟨m,hn,hl⟩:=I.loc
    refine⟨m,ns m hn,fun i x v e1 e2 e3=>?_⟩;obtain⟨u,r,l⟩:=hl i x v e1 e2 e3;refine⟨u,r,?_⟩;rcases l with l|⟨k,c,e,z⟩
    ·exact .inl l
    ·exact .inr ⟨k,c,e,cellK x c e _ z⟩
  · obtain⟨v,z⟩:=I.cell x c e
    exact⟨v,cellK x c e v z⟩
  · obtain⟨m,⟨o,_,_,ho,_⟩,_⟩:=I.loc
    exact free _ o (fun z=>(fk _ z).2.1 rfl) ho I.free
  · obtain⟨v,o,ho,hd⟩:=I.cell x c e
    exact free c o (fun z=>(fk c z).2.2.1 x c e rfl) ho (I.freeC x c e)
  · obtain⟨e,n,ne,nf,d⟩:=I.pin p hp
    have la:p.1∉ch:=fun z=>(fk p.1 z).2.2.2 p hp rfl;exact⟨keep p.1 p.2 ne nf la e n,free p.1 p.2 la e n,ne,nf,d⟩
theorem Inv.un{t':Nat}(I:Inv X pins σ H s)(u:Un X.fs [] H H' s.heap h')(hok:bq X.prog X.w H' h'):Inv X pins σ H' {s with heap:=h',toks:=t'}:=by obtain⟨m,⟨o,es,ep,ho,r⟩,_⟩:=id I.loc;obtain⟨sl,hL⟩:=u.any ho I.free (by simp);exact I.step (g':=s.gens) (d':=s.drawn) (ch:=[]) (fun _ z=>nomatch z) (fun b o _ hb _ e n=>u.keep b o e n hb (by simp)) (fun b o _ hb _ e n=>u.slot b o e n hb (by simp)) (fun b o _ e n=>u.free b o e n (by simp)) (fun b o _ e=>u.there b o e (by simp)) u.tups u.frzs u.tbls (fun m' hm=>by obtain⟨o',oz,tf,fK,r'⟩:=hm;rw[ho]at fK;cases fK;exact⟨_,oz,tf,hL,r'⟩) hok I.bare
theorem Inv.call{g':Array GenState}{t':Nat}{d':Drawn}{ch:List Addr}(I:Inv X pins σ H s)(u:Un (bK X.stack) ch H H' s.heap h')(hok:bq X.prog X.w H' h')(hg:AllBare g') (fk:∀b∈ch,(b∈X.ex\/X.s₀.heap.objs.size<=b)/\b≠X.env.locals/\(∀x c,X.env.cells.lookup x=some c->c≠b)/\∀p∈X.pn++pins,p.1≠b): Inv X pins σ H' {s with heap:=h',gens:=g',drawn:=d',toks:=t'}:=by obtain⟨m,⟨o,es,ep,ho,r⟩,_⟩:=id I.loc;obtain⟨sl,hL⟩:=u.any ho I.free fun z=>(fk _ z).2.1 rfl;exact I.step (ch:=ch) fk (fun b o hL hb hc e n=>u.keep b o e n (fun z=>(aX.mp (I.pM b z)).elim hL hb) hc) (fun b o _ _ hc e n=>u.any e n hc) (fun b o hc e n=>u.free b o e n hc) (fun b o hc e=>u.there b o e hc) u.tups u.frzs u.tbls (fun m' hm=>by obtain⟨o',oz,tf,fK,r'⟩:=hm;rw[ho]at fK;cases fK;exact⟨_,oz,tf,hL,r'⟩) hok hg
theorem Inv.turned{t':Nat}{it:Addr}(I:Inv X pins σ H s)(k:∀b o,b≠it->s.heap.get? b=some o->h'.get? b=some o)(hn:H it=none)(hL:it≠X.env.locals) (h1:it∈X.ex\/X.s₀.heap.objs.size<=it)(h2:∀x c,X.env.cells.lookup x=some c->c≠it)(h3:∀p∈X.pn++pins,p.1≠it):Inv X pins σ H {s with heap:=h',toks:=t'}:=by
  have l5:∀b u,H b=some u->b≠it:=fun b u e z=>by rw[z,hn]at e;cases e
  refine I.step (g':=s.gens) (d':=s.drawn) (ch:=[it]) (fun b hb=>?_) (fun b o _ _ hc e _=>k b o (fun z=>hc (by simp[z])) e) (fun b o _ _ hc e _=>⟨o.slots,k b o (fun z=>hc (by simp[z])) e⟩) (fun _ _ _ _ n=>n) (fun b o hc e=>⟨o,k b o (fun z=>hc (by simp[z])) e⟩) (fun _ _ e=>e) (fun _ _ _ e=>e) (fun b ps e=>⟨#[],by rw[e];simp⟩) (fun m hm=>?_) (fun b u e=>?_) I.bare
  · have e:b=it:=by simpa using hb
    subst e;exact⟨h1,hL,h2,h3⟩
  · obtain⟨o,es,ep,ho,r⟩:=hm
    exact⟨o,es,ep,k _ o (f9 hL) ho,r⟩
  · refine(I.hok b u e).fv (fun c v hc q=>k c v ?_ q) (fun _ q=>q) fun _ _ q=>q
    rcases hc with z|z
    ·rw[z];exact l5 b u e
    ·exact l5 c _ z
theorem Inv.tok(I:Inv X pins σ H s)(t:Nat):Inv X pins σ H {s with toks:=t}:=I.un (h':=s.heap) (t':=t) Un.refl I.hok
theorem Inv.kept{t':Nat}(I:Inv X pins σ H s)(k:∀b u,s.heap.get? b=some u->h'.get? b=some u):Inv X pins σ H {s with heap:=h',toks:=t'}:=I.un (Un.kept k) (I.hok.kept k)
theorem Inv.laid{a:Addr}{o:HO}{t':Nat}(I:Inv X pins σ H s)(k:∀b u,s.heap.get? b=some u->h'.get? b=some u)(hp:s.heap.objs.size<=a)(new:bZ X.prog X.w (upd H a o) h' a o): Inv X pins σ (upd H a o) {s with heap:=h',toks:=t'}:=I.un (Un.laid k hp (I.hok.fresh hp)) (I.hok.laid k hp new)
theorem Inv.write{x e:Addr}{o:HO}{t':Nat}(I:Inv X pins σ H s)(mu:oT (H x))(he:e=x\/H e=some (.own x))(k:∀b u,b≠e->s.heap.get? b=some u->h'.get? b=some u)(jP:∃u,h'.get? e=some u) (new:bZ X.prog X.w (upd H x o) h' x o):Inv X pins σ (upd H x o) {s with heap:=h',toks:=t'}:=I.un (Un.write mu he k jP) (I.hok.write mu he k jP new)
theorem Inv.wU{qU:List (Addr×Obj)}(I:Inv X pins σ H s)(h:∀p∈qU,s.heap.get? p.1=some p.2/\H p.1=none/\p.1≠X.env.locals/\p.1∉X.fs/\∀v,p.2.data≠ .cell v):Inv X qU σ H s:=⟨I.ok,I.os,I.bare,I.base,I.loc,I.cell,I.free,I.freeC,fun p hp=>(eg.mp hp).elim (fun z=>I.pin p (pk _ z)) (h p),I.hok,I.len⟩
theorem rA{N:List Str}(hN:N.Nodup){i j:Nat}{x:Str}(a:N[i]? =some x)(b:N[j]? =some x):i=j:=by obtain⟨h1,e1⟩:=dA.mp a;obtain⟨h2,e2⟩:=dA.mp b;exact(List.getElem_inj hN).mp (e1.trans e2.symm)
theorem vk{M:Model}{A:M9}{E:Value->M6->Prop}{i:Nat}{x:Str}{v:V}{u:Value}{Q:Unit->M6->Prop}(I:Inv X pins σ H s)(hN:X.N.Nodup)(hi:X.N[i]? =some x)(hx:Loc X.env.scope x)(r:RelV v u) (h:∀s',Inv X pins (σ.set i (some v)) H s'->(∃a,Heap.SameBut a s.heap s'.heap/\(a=X.env.locals\/X.env.cells.lookup x=some a))->Q () s')(hf:X.fn x=true\/X.env.scope.names.lookup x=some .local:=by first|exact .inl rfl|exact .inr rfl|assumption):wpAny M A (storeName X.env x u) Q E s:=by
  obtain⟨m,hn,hl⟩:=id I.loc;have lS:(X.env.scope.kind== .class||(X.env.scope.kind== .module&&X.env.locals !=X.env.globals))=false:=by rw[I.ok.kind];rfl
  have o9:i<σ.length:=by rw[I.len];exact(dA.mp hi).1
  have fS:=I.fS;have tracked:∀{a:Addr}{h':Heap},(∃o,s.heap.get? a=some o/\H a=none)->Heap.SameBut a s.heap h'->bq X.prog X.w H h':=fun{a h'} ha hs b ob e=>by
   obtain⟨_,_,jO⟩:=ha;refine(I.hok b ob e).fv (fun c w' hc q=>(hs.2 c ?_).trans q) (fun _ q=>q) fun _ _ q=>q;rintro rfl;rcases hc with rfl|hc
   ·rw[jO]at e;cases e
   ·rw[jO]at hc;cases hc
  rcases hx with hk|hk
  · refine wpAny_storeName_local hk hn (fun h' lL hs=>?_) lS
    obtain⟨oL,_,_,yo,_⟩:=id hn;refine h _ ⟨I.ok,I.os,I.bare,⟨fun b o e n hb hx=>?_,fun b o e n hb hx=>?_,I.base.free,fun b o e hx=>?_,I.base.tups,I.base.frzs,I.base.tbls⟩,⟨_,lL,fun j y v' e1 e2 e3=>?_⟩,fun y c e=>?_,I.free,I.freeC,fun p hp=>?_,tracked ⟨oL,yo,I.free⟩ hs,by simpa using I.len⟩ ⟨_,hs,.inl rfl⟩
    ·exact(hs.2 b (bF (dz (aN e) I.ok.above))).trans (I.base.keep b o e n hb hx)
    · obtain⟨sl,e1⟩:=I.base.slot b o e n hb hx
      exact⟨sl,(hs.2 b (bF (dz (aN e) I.ok.above))).trans e1⟩
    · obtain⟨o',e1⟩:=I.base.there b o e hx
      exact⟨o',(hs.2 b (bF (dz (aN e) I.ok.above))).trans e1⟩
    · by_cases hj:j=i
      · subst hj
        rw[hi]at e1;cases e1;rw[uF o9]at e2;cases e2;exact⟨u,r,.inl ⟨hk,by simp⟩⟩
      · rw[BL (f9 hj)]at e2
        obtain⟨u',r',q⟩:=hl j y v' e1 e2 e3;refine⟨u',r',?_⟩;rcases q with⟨k,e⟩|⟨k,c,e,z⟩
        · refine .inl ⟨k,?_⟩
          have:y≠x:=fun e=>hj (rA hN e1 (e▸hi));simp[this,e]
        ·exact .inr ⟨k,c,e,z.sameBut hs (fS y c e)⟩
    · obtain⟨w',z⟩:=I.cell y c e
      exact⟨w',z.sameBut hs (fS y c e)⟩
    · obtain⟨e,n,ne,nf,d⟩:=I.pin p hp
      exact⟨(hs.2 p.1 ne).trans e,n,ne,nf,d⟩
  · have sF:X.fn x=true:=by
      rcases hf with z|z
      ·exact z
      ·rw[z]at hk;cases hk
    obtain⟨c,hc⟩:=I.ok.has x (.inl hk);obtain⟨w',z⟩:=I.cell x c hc;refine wpAny_storeName_cell I.ok.kind hk hc z (fun h' eU hs=>?_);obtain⟨oc,yn,Hz⟩:=id z;refine h {s with heap:=h'} ⟨I.ok,I.os,I.bare,⟨fun b o e n hb hx=>?_,fun b o e n hb hx=>?_,I.base.free,fun b o e hx=>?_,I.base.tups,I.base.frzs,I.base.tbls⟩,⟨m,hn.sameBut hs (f9 (fS x c hc)),fun j y v' e1 e2 e3=>?_⟩,fun y c' e=>?_,I.free,I.freeC,fun p hp=>?_,tracked ⟨oc,yn,I.freeC x c hc⟩ hs,by simpa using I.len⟩ ⟨c,hs,.inr hc⟩
    ·exact(hs.2 b (bF (dz (aN e) (I.ok.cab x c sF hc)))).trans (I.base.keep b o e n hb hx)
    · obtain⟨sl,e1⟩:=I.base.slot b o e n hb hx
      exact⟨sl,(hs.2 b (bF (dz (aN e) (I.ok.cab x c sF hc)))).trans e1⟩
    · obtain⟨o',e1⟩:=I.base.there b o e hx
      exact⟨o',(hs.2 b (bF (dz (aN e) (I.ok.cab x c sF hc)))).trans e1⟩
    · by_cases hj:j=i
      · subst hj
        rw[hi]at e1;cases e1;rw[uF o9]at e2;cases e2;exact⟨u,r,.inr ⟨.inl hk,c,hc,eU⟩⟩
      · rw[BL (f9 hj)]at e2
        obtain⟨u',r',q⟩:=hl j y v' e1 e2 e3;refine⟨u',r',?_⟩;rcases q with q|⟨k,c',e,z'⟩
        ·exact .inl q
        · refine .inr ⟨k,c',e,z'.sameBut hs ?_⟩
          rintro rfl;exact hj (rA hN e1 (I.ok.inj _ _ _ e hc▸hi))
    · by_cases yx:c'=c
      ·subst yx;exact⟨_,eU⟩
      · obtain⟨w2,z2⟩:=I.cell y c' e
        exact⟨w2,z2.sameBut hs yx⟩
    · obtain⟨e,n,ne,nf,d⟩:=I.pin p hp
      refine⟨(hs.2 p.1 ?_).trans e,n,ne,nf,d⟩;intro q;rw[q,yn]at e;have q':oc=p.2:=cf e;exact d w' (by rw[<-q'];exact Hz)
theorem mQ{M:Model}{A:M9}{E:Value->M6->Prop}{i:Nat}{x:Str}{v:V}{u:Value}{Q:Unit->M6->Prop}(I:Inv X pins σ H s)(hN:X.N.Nodup)(hi:X.N[i]? =some x)(hx:Loc X.env.scope x)(r:RelV v u) (h:∀s',Inv X pins (σ.set i (some v)) H s'->Q () s')(hf:X.fn x=true\/X.env.scope.names.lookup x=some .local:=by first|exact .inl rfl|exact .inr rfl|assumption):wpAny M A (storeName X.env x u) Q E s:=vk I hN hi hx r (fun s' I' _=>h s' I') hf
theorem Inv.oN{s':M6}{ch:List Addr}(I:Inv X pins σ H s)(ho:s'.os=s.os)(u:Un (bK X.stack) ch H H' s.heap s'.heap)(hok:bq X.prog X.w H' s'.heap)(hg:AllBare s'.gens) (fk:∀b∈ch,(b∈X.ex\/X.s₀.heap.objs.size<=b)/\b≠X.env.locals/\(∀x c,X.env.cells.lookup x=some c->c≠b)/\∀p∈X.pn++pins,p.1≠b):Inv X pins σ H' s':=by obtain⟨h',g',d',t',o'⟩:=s';have e:o'=s.os:=ho;subst e;exact I.call (g':=g') (t':=t') (d':=d') u hok hg fk
end
abbrev XK:=Value->Option Addr->Hp->Prop
abbrev St:=List (Option V)
abbrev VK:=V->Hp->Prop
abbrev TE:=St->Hp->VK->Prop
abbrev TT:=St->Hp->(Bool->Hp->Prop)->Prop
abbrev TA:=St->Hp->(List V->Hp->Prop)->Prop
structure Ends where
 nx:St->Hp->Prop
 rt:VK
 bk:St->Hp->Prop:=fun _ _=>False
 ct:St->Hp->Prop:=fun _ _=>False
abbrev TS:=Ends->St->Hp->Prop
def EP(X:Cx)(pins:List (Addr×Obj))(σ:St)(Q:VK)(u:Value)(s':M6):Prop:=∃v H',Inv X pins σ H' s'/\RelV v u/\Q v H'
def TP(X:Cx)(pins:List (Addr×Obj))(σ:St)(Q:Bool->Hp->Prop)(b:Bool)(s':M6):Prop:=∃H',Inv X pins σ H' s'/\Q b H'
def AP(X:Cx)(pins:List (Addr×Obj))(σ:St)(Q:List V->Hp->Prop)(us:List Value)(s':M6):Prop:=∃vs H',Inv X pins σ H' s'/\Vals vs us/\Q vs H'
def SP(X:Cx)(pins:List (Addr×Obj))(D:Ends)(f:Flow)(s':M6):Prop:=match f with | .next=>∃σ' H',Inv X pins σ' H' s'/\D.nx σ' H' | .brk=>∃σ' H',Inv X pins σ' H' s'/\D.bk σ' H' | .cont=>∃σ' H',Inv X pins σ' H' s'/\D.ct σ' H' | .ret u=>∃v σ' H',Inv X pins σ' H' s'/\RelV v u/\D.rt v H'
def PE(X:Cx)(e:Expr)(t:TE):Prop:=∀(pins:List (Addr×Obj))(s:M6)(σ:St)(H:Hp)(Q:VK),Inv X pins σ H s->t σ H Q->wpAny (model X.prog X.w) X.A (eval e X.env) (EP X pins σ Q) X.xe s
def PT(X:Cx)(e:Expr)(t:TT):Prop:=∀(pins:List (Addr×Obj))(s:M6)(σ:St)(H:Hp)(Q:Bool->Hp->Prop),Inv X pins σ H s->t σ H Q->wpAny (model X.prog X.w) X.A (isTrue e X.env (eval e X.env)) (TP X pins σ Q) X.xe s
def PW(X:Cx)(e:Expr)(t:TT):Prop:=∀(whole:Sem Value)(pins:List (Addr×Obj))(s:M6)(σ:St)(H:Hp)(Q:Bool->Hp->Prop),Inv X pins σ H s->t σ H Q->wpAny (model X.prog X.w) X.A (isTrue e X.env whole) (TP X pins σ Q) X.xe s
theorem PW.pt{X:Cx}{e:Expr}{t:TT}(h:PW X e t):PT X e t:=h _
def PA(X:Cx)(es:List Expr)(t:TA):Prop:=∀(pos:Pos)(pins:List (Addr×Obj))(s:M6)(σ:St)(H:Hp)(Q:List V->Hp->Prop),Inv X pins σ H s->t σ H Q->wpAny (model X.prog X.w) X.A (spliced (backTo pos (starEach es X.env))) (AP X pins σ Q) X.xe s
def PS(X:Cx)(st:Stmt)(t:TS):Prop:=∀(pins:List (Addr×Obj))(s:M6)(σ:St)(H:Hp)(D:Ends),Inv X pins σ H s->t D σ H->wpAny (model X.prog X.w) X.A (exec st X.env) (SP X pins D) X.xe s
def cF(X:Cx)(st:List Stmt)(t:TS):Prop:=∀(pins:List (Addr×Obj))(s:M6)(σ:St)(H:Hp)(D:Ends),Inv X pins σ H s->t D σ H->wpAny (model X.prog X.w) X.A (execs st X.env) (SP X pins D) X.xe s
theorem ak{α:Type}{t:Sem α}{Q Q':α->M6->Prop}{M:Model}{A:M9}{E:Value->M6->Prop}{s:M6}(h:wpAny M A t Q E s)(hQ:∀a s,Q a s->Q' a s):wpAny M A t Q' E s:=dy h hQ fun _ _ x=>x
section
variable {X:Cx}
inductive A8(i:Nat)(σ:St)(H:Hp)(Q:VK):Prop |mk (v:_)(h0:σ[i]? =some (some v))(h1:Q v H):A8 i σ H Q
def vb(i:Nat):TE:=fun σ H Q=>A8 i σ H Q
def tC (v:V):TE:=fun _ H Q=>Q v H
theorem Eh{i:Nat}{x:Str}{pos:Pos}(hN:X.N[i]? =some x)(hv:tZ X.env.scope x)(hd:(x==("__debug__":Str))=false:=by decide)(bO:(x==("__classdict__":Str))=false:=by decide):PE X (.Name x pos) (vb i):=by
 intro pins s σ H Q I h;obtain⟨v,e,h⟩:=h;obtain⟨m,hn,hl⟩:=I.loc;obtain⟨u,r,l⟩:=hl i x v hN e hv;have fin:EP X pins σ Q u s:=⟨v,H,I,r,h⟩;rcases l with⟨hk,hm⟩|⟨hk,c,hc,ie⟩
 ·exact wpAny_Name (wpAny_loadName_local I.ok.kind hk hn hm fin) hd
 · rcases hk with hk|hk
   ·exact wpAny_Name (wpAny_loadName_cell I.ok.kind hk hc ie fin) hd
   ·exact wpAny_Name (wpAny_loadName_free I.ok.kind hk hc ie fin bO) hd
theorem ae{i j pos}:PE X (.Constant (.int i) j pos) (tC (.int i)):=fun _ _ _ H _ I h=>wpAny_Constant_int ⟨.int i,H,I.tok _,⟨_,rfl⟩,h⟩
theorem i4{b j pos}:PE X (.Constant (.bool b) j pos) (tC (.bl b)):=fun _ _ _ H _ I h=>Constant_bool ⟨.bl b,H,I,rfl,h⟩
theorem cD{j pos}:PE X (.Constant .none j pos) (tC .au):=fun _ _ _ H _ I h=>Constant_none ⟨.au,H,I,rfl,h⟩
theorem aw{x j pos}:PE X (.Constant (.str x) j pos) (tC (.str x)):=fun _ _ _ H _ I h=>Calls.Constant_str ⟨.str x,H,I.tok _,⟨_,rfl⟩,h⟩
def Gl(X:Cx)(x:Str):Prop:=X.env.kindOf x=some .globalImplicit
theorem lh{E:Value->M6->Prop}{pins:List (Addr×Obj)}{s:M6}{σ:St}{H:Hp}{x:Str}{u:Value}{pos:Pos}{Q:Value->M6->Prop}(I:Inv X pins σ H s)(hg:Gl X x)(hm:X.mg x=some u)(h:Q u s) (hd:(x==("__debug__":Str))=false:=by decide):wpAny (model X.prog X.w) X.A (eval (.Name x pos) X.env) Q E s:=Calls.Name_function_global I.ok.kind hg (Calls.loadGlobal_global (by rw[I.ok.glob];exact I.mod.glob.keeps I.bk) hm h) hd
theorem ll{E:Value->M6->Prop}{pins:List (Addr×Obj)}{s:M6}{σ:St}{H:Hp}{x:Str}{u:Value}{pos:Pos}{Q:Value->M6->Prop}(I:Inv X pins σ H s)(hg:Gl X x)(hm:X.mg x=none)(hv:bootBuiltins x=some u)(h:Q u s) (hn:x≠"__name__":=by decide)(hd:(x==("__debug__":Str))=false:=by decide):wpAny (model X.prog X.w) X.A (eval (.Name x pos) X.env) Q E s:=by obtain⟨mb,h1,h2⟩:=I.mod.blt;exact Calls.Name_function_global I.ok.kind hg (Calls.loadGlobal_builtin (by rw[I.ok.glob];exact I.mod.glob.keeps I.bk) hm (by rw[I.ok.blt];exact h1.keeps I.bk) ((h2 x hn).trans hv) h) hd
theorem Ej{x:Str}{v:V}{u:Value}{pos:Pos}(hg:Gl X x)(hm:X.mg x=some u)(r:RelV v u)(hd:(x==("__debug__":Str))=false:=by decide):PE X (.Name x pos) (tC v):=fun _ _ _ H _ I h=>lh I hg hm ⟨v,H,I,r,h⟩ hd
theorem fi{x:Str}{v:V}{u:Value}{pos:Pos}(hg:Gl X x)(hm:X.mg x=none)(hv:bootBuiltins x=some u)(r:RelV v u)(hn:x≠"__name__":=by decide)(hd:(x==("__debug__":Str))=false:=by decide):PE X (.Name x pos) (tC v):=fun _ _ _ H _ I h=>ll I hg hm hv ⟨v,H,I,r,h⟩ hn hd
variable {a b:Expr}{ta tb:TE}{pos:Pos}
inductive Ag(Q:Bool->Hp->Prop)(x:V)(H1:Hp):Prop |mk (c:_)(h0:x= .bl c)(h1:Q c H1):Ag Q x H1
def tB(t:TE):TT:=fun σ H Q=>t σ H fun x H1=>Ag Q x H1
theorem dE{e:Expr}{t:TE}(h:PE X e t)(he:∀whole,isTrue e X.env whole=(do let v<-whole;standAt e.pos;holding [v] (truthy v)):=by intro _;rfl):PT X e (tB t):=by intro pins s σ H Q I hw;refine isTrue_plain (ak (h pins s σ H _ I hw) fun v s1 ⟨x,H1,I1,r1,q1⟩=>?_) (he _);obtain⟨d,rfl,q⟩:=q1;cases r1;exact gW ⟨H1,I1,q⟩
variable {tA mL:TT} {rest:List Expr}
def D1(t u:TT):TT:=fun σ H Q=>t σ H fun c H1=>if c=true then u σ H1 Q else Q false H1
def CG(t u:TT):TT:=fun σ H Q=>t σ H fun c H1=>if c=true then Q true H1 else u σ H1 Q
def CI(t:TT):TT:=fun σ H Q=>t σ H fun c H1=>Q (!c) H1
theorem qT(ha:PT X a tA):PW X (.BoolOp .And [a] pos) tA:=by intro wh pins s σ H Q I h;refine isTrue_and (ak (ha pins s σ H Q I h) fun c s1 e=>?_);cases c with |true=>exact isTrue_and_nil e |false=>exact e
theorem gF(ha:PT X a tA):PW X (.BoolOp .Or [a] pos) tA:=by intro wh pins s σ H Q I h;refine isTrue_or (ak (ha pins s σ H Q I h) fun c s1 e=>?_);cases c with |false=>exact isTrue_or_nil e |true=>exact e
theorem nc(ha:PT X a tA)(hb:PW X (.BoolOp .And (b::rest) pos) mL):PW X (.BoolOp .And (a::b::rest) pos) (D1 tA mL):=by intro wh pins s σ H Q I h;refine isTrue_and (ak (ha pins s σ H _ I h) fun c s1 ⟨H1,I1,q1⟩=>?_);cases c with |true=>exact hb wh pins s1 σ H1 Q I1 q1 |false=>exact⟨H1,I1,q1⟩
theorem fB(ha:PT X a tA)(hb:PW X (.BoolOp .Or (b::rest) pos) mL):PW X (.BoolOp .Or (a::b::rest) pos) (CG tA mL):=by intro wh pins s σ H Q I h;refine isTrue_or (ak (ha pins s σ H _ I h) fun c s1 ⟨H1,I1,q1⟩=>?_);cases c with |true=>exact⟨H1,I1,q1⟩ |false=>exact hb wh pins s1 σ H1 Q I1 q1
theorem eF(ha:PT X a tA):PT X (.UnaryOp .Not a pos) (CI tA):=by intro pins s σ H Q I h;exact isTrue_not (ha pins s σ H (fun c H1=>Q (!c) H1) I h)
inductive Ah(tb:TE)(σ:St)(Q:VK)(x:V)(H1:Hp):Prop |mk (c:_)(h0:x= .bl c)(h1:if c=true then tb σ H1 Q else Q (.bl false) H1):Ah tb σ Q x H1
def CZ(ta tb:TE):TE:=fun σ H Q=>ta σ H fun x H1=>Ah tb σ Q x H1
inductive Ad(Q:VK)(x:V)(H1:Hp):Prop |mk (c:_)(h0:x= .bl c)(h1:Q (.bl (!c)) H1):Ad Q x H1
def CH(ta:TE):TE:=fun σ H Q=>ta σ H fun x H1=>Ad Q x H1
theorem kT{op}{t:TE}(h:PE X a t):PE X (.BoolOp op [a] pos) t:=fun pins s σ H Q I hw=>BoolOp_one (h pins s σ H Q I hw)
theorem jC(ha:PE X a ta)(hb:PE X (.BoolOp .And (b::rest) pos) tb):PE X (.BoolOp .And (a::b::rest) pos) (CZ ta tb):=by intro pins s σ H Q I h;refine BoolOp_and (ak (ha pins s σ H _ I h) fun v s1 ⟨x,H1,I1,r1,q1⟩=>?_);obtain⟨c,rfl,q1⟩:=q1;cases r1;refine gW ?_;cases c with |true=>exact hb pins s1 σ H1 Q I1 q1 |false=>exact⟨.bl false,H1,I1,rfl,q1⟩
theorem wW(ha:PE X a ta):PE X (.UnaryOp .Not a pos) (CH ta):=by intro pins s σ H Q I h;refine UnaryOp_ (ak (ha pins s σ H _ I h) fun v s1 ⟨x,H1,I1,r1,q1⟩=>?_);obtain⟨c,rfl,q1⟩:=q1;cases r1;exact not_of (gW ⟨.bl (!c),H1,I1,rfl,q1⟩)
def CQ(t:TT)(ta tb:TE):TE:=fun σ H Q=>t σ H fun c H1=>if c=true then ta σ H1 Q else tb σ H1 Q
theorem i2{c:Expr}(hc:PT X c tA)(ha:PE X a ta)(hb:PE X b tb):PE X (.IfExp c a b pos) (CQ tA ta tb):=by intro pins s σ H Q I h;refine wpAny_IfExp (ak (hc pins s σ H _ I h) fun d s1 ⟨H1,I1,q1⟩=>?_);cases d with |true=>exact ha pins s1 σ H1 Q I1 q1 |false=>exact hb pins s1 σ H1 Q I1 q1
end
end L2
namespace L2
open PySem PySem.Spec PyProof.Rows
def aa(K:M5)(H:Hp)(a:Addr)(xs:List V):Prop:=Rd H a (.lst xs)\/ ∃(o:Obj)(its:Array Value)(n:Nat),K.lookup a=some o/\o.cls= .type "list"/\o.dict=none/\o.data= .seq its n/\its.size<=sizeLine/\Vals xs its.toList
def az(K:M5)(H:Hp)(a:Addr)(xs:List V):Prop:=Rd H a (.tup xs)\/ ∃(o:Obj)(its:Array Value)(n:Nat),K.lookup a=some o/\o.cls= .type "tuple"/\o.data= .seq its n/\its.size<=sizeLine/\Vals xs its.toList
def KJ:Value->Option V | .none=>some .au | .bool b=>some (.bl b) | .int i _=>some (.int i) | .str x _=>some (.str x) | .bytes b _=>some (.eX b) | .float b _=>some (.sZ b) | .ref a=>some (.ref a) | .type n=>some (.ty n) |_=>none
theorem RelV.abs{x:V}{u:Value}(r:RelV x u):KJ u=some x:=by cases x with |au=>cases r;rfl |bl _=>cases r;rfl |int _=>obtain⟨t,rfl⟩:=r;rfl |str _=>obtain⟨t,rfl⟩:=r;rfl |eX _=>obtain⟨t,rfl⟩:=r;rfl |sZ _=>obtain⟨t,rfl⟩:=r;rfl |ref _=>cases r;rfl |ty _=>cases r;rfl
theorem RelV.inj{x y:V}{u:Value}(r:RelV x u)(q:RelV y u):x=y:=cf (r.abs.symm.trans q.abs)
theorem Vals.inj:∀{xs ys:List V}{us:List Value},Vals xs us->Vals ys us->xs=ys |_,_,_,.nil,.nil=>rfl |_,_,_,.cons r t,.cons r' t'=>by rw[r.inj r',Vals.inj t t']
section
variable {X:Cx}{pins:List (Addr×Obj)}{σ:St}{H:Hp}{s:M6}{a:Addr}{xs ys:List V}
theorem aa.of{K:M5}(h:H a=some (.lst xs)):aa K H a xs:=.inl (.inl h)
theorem az.of{K:M5}(h:H a=some (.tup xs)):az K H a xs:=.inl (.inl h)
theorem Inv.list(I:Inv X pins σ H s)(h:aa X.K H a xs):∃its:List Value,Vals xs its/\PlainL s.heap a its.toArray/\xs.length<=sizeLine:=by
 rcases h with h|⟨o,its,n,hk,hc,hd,hs,hz,r⟩
 · obtain⟨z,its,n,r,e⟩:=h.ok I.hok
   exact⟨its,r,⟨_,n,e,rfl,rfl,rfl⟩,z⟩
 · refine⟨its.toList,r,⟨o,n,I.cM a o hk,hc,hd,by simpa using hs⟩,?_⟩
   have e:=r.length;simp only[my]at e;omega
theorem Inv.tuple(I:Inv X pins σ H s)(h:az X.K H a xs):∃its:List Value,Vals xs its/\IsTup s.heap a its.toArray/\xs.length<=sizeLine:=by
 rcases h with h|⟨o,its,n,hk,hc,hs,hz,r⟩
 · obtain⟨z,its,r,p⟩:=h.ok I.hok
   exact⟨its,r,p,z⟩
 · refine⟨its.toList,r,⟨o,I.cM a o hk,hc,n,by simpa using hs⟩,?_⟩
   have e:=r.length;simp only[my]at e;omega
theorem Inv.xT(I:Inv X pins σ H s)(h:aa X.K H a xs)(h':aa X.K H a ys):xs=ys:=by
 obtain⟨its,r,⟨o,n,e,_,_,d⟩,_⟩:=I.list h;obtain⟨its',r',⟨o',n',e',_,_,d'⟩,_⟩:=I.list h';rw[e]at e';cases e';rw[d]at d';injection d' with d1 _;have:its=its':=by simpa using f7 Array.toList d1
 subst this;exact r.inj r'
theorem Inv.uX(I:Inv X pins σ H s)(h:az X.K H a xs)(h':az X.K H a ys):xs=ys:=by
 obtain⟨its,r,⟨o,e,_,n,d⟩,_⟩:=I.tuple h;obtain⟨its',r',⟨o',e',_,n',d'⟩,_⟩:=I.tuple h';rw[e]at e';cases e';rw[d]at d';injection d' with d1 _;have:its=its':=by simpa using f7 Array.toList d1
 subst this;exact r.inj r'
end
abbrev Cx.eu(X:Cx)(E:Value->M6->Prop):Cx:={X with xe:=E}
abbrev Cx.iU(X:Cx):Cx:=X.eu fun _ _=>False
theorem Cx.Ok.eu{X:Cx}(ok:X.Ok)(E:Value->M6->Prop):(X.eu E).Ok:=⟨ok.mod,ok.kind,ok.glob,ok.blt,ok.above,ok.inj,ok.has,ok.cab,ok.hd,ok.frames,ok.stk,ok.exf,ok.bs,ok.bsz,ok.noex,ok.exfs,ok.dJ,ok.frf⟩
theorem Cx.Ok.gc{X:Cx}{E:Value->M6->Prop}(ok:(X.eu E).Ok):X.Ok:=⟨ok.mod,ok.kind,ok.glob,ok.blt,ok.above,ok.inj,ok.has,ok.cab,ok.hd,ok.frames,ok.stk,ok.exf,ok.bs,ok.bsz,ok.noex,ok.exfs,ok.dJ,ok.frf⟩
section
variable {X:Cx}{pins:List (Addr×Obj)}{σ:St}{H:Hp}{s:M6}{E:Value->M6->Prop}
theorem Inv.eu(I:Inv X pins σ H s)(E:Value->M6->Prop):Inv (X.eu E) pins σ H s:=⟨I.ok.eu E,I.os,I.bare,I.base,I.loc,I.cell,I.free,I.freeC,I.pin,I.hok,I.len⟩
theorem Inv.gc(I:Inv (X.eu E) pins σ H s):Inv X pins σ H s:=⟨I.ok.gc,I.os,I.bare,I.base,I.loc,I.cell,I.free,I.freeC,I.pin,I.hok,I.len⟩
theorem SP.gc{D:Ends}{f:Flow}{s':M6}(h:SP (X.eu E) pins D f s'):SP X pins D f s':=by cases f with |next=>obtain⟨σ',H',I,q⟩:=h;exact⟨σ',H',I.gc,q⟩ |brk=>obtain⟨σ',H',I,q⟩:=h;exact⟨σ',H',I.gc,q⟩ |cont=>obtain⟨σ',H',I,q⟩:=h;exact⟨σ',H',I.gc,q⟩ |ret u=>obtain⟨v,σ',H',I,r,q⟩:=h;exact⟨v,σ',H',I.gc,r,q⟩
theorem cF.iU{st:List Stmt}{t:TS}(h:cF X.iU st t):cF X st t:=fun pins s σ H D I hw=>dy (h pins s σ H D (I.eu _) hw) (fun _ _ q=>q.gc) fun _ _ z=>False.elim z
end
section
variable {X:Cx}{st:Stmt}{rest:List Stmt}{t u:TS}{e:Expr}{te:TE}{pos:Pos}
def CL:TS:=fun D σ H=>D.nx σ H
def CB(t u:TS):TS:=fun D σ H=>t {D with nx:=u D} σ H
theorem aV:cF X [] CL:=fun _ _ σ H _ I h=>mh ⟨σ,H,I,h⟩
theorem ai(h1:PS X st t)(h2:cF X rest u):cF X (st::rest) (CB t u):=by intro pins s σ H D I h;refine wpAny_execs_cons (ak (h1 pins s σ H {D with nx:=u D} I h) fun f s1 q=>?_);cases f with |next=>obtain⟨σ',H',I',q⟩:=q;exact h2 pins s1 σ' H' D I' q |ret v=>exact q |brk=>exact q |cont=>exact q
theorem ao(h1:PS X st t):cF X [st] t:=by intro pins s σ H D I h;refine wpAny_execs_cons (ak (h1 pins s σ H D I h) fun f s1 q=>?_);cases f with |next=>exact mh q |ret v=>exact q |brk=>exact q |cont=>exact q
theorem Inv.quiet{pins:List (Addr×Obj)}{σ:St}{H:Hp}{s:M6}(I:Inv X pins σ H s):interactive X.env=false:=by simp[interactive,I.ok.kind]
def CV(te:TE):TS:=fun D σ H=>te σ H fun _ H1=>D.nx σ H1
theorem wR(he:PE X e te)(hs:swapsWith e none pos.line X.env=pure false:=by rfl):PS X (.Expr e pos) (CV te):=by intro pins s σ H D I h;exact wpAny_Expr_any (ak (he pins s σ H _ I h) fun v s1 ⟨x,H1,I1,r1,q1⟩=>⟨σ,H1,I1,q1⟩) I.quiet hs
def CC(te:TE):TS:=fun D σ H=>te σ H D.rt
theorem aE(he:PE X e te):PS X (.Return (some e) pos) (CC te):=by intro pins s σ H D I h;exact wpAny_Return_some (ak (he pins s σ H _ I h) fun v s1 ⟨x,H1,I1,r1,q1⟩=>⟨x,σ,H1,I1,r1,q1⟩)
def CP(c:TT)(t u:TS):TS:=fun D σ H=>c σ H fun b H1=>if b=true then t D σ H1 else u D σ H1
theorem aR{c:Expr}{a b:List Stmt}{tc:TT}(hc:PT X c tc)(ha:cF X a t)(hb:cF X b u):PS X (.If c a b pos) (CP tc t u):=by intro pins s σ H D I h;refine wpAny_If (ak (hc pins s σ H _ I h) fun d s1 ⟨H1,I1,q1⟩=>?_);cases d with |true=>exact ha pins s1 σ H1 D I1 q1 |false=>exact hb pins s1 σ H1 D I1 q1
end
abbrev TG:=V->St->Hp->(St->Hp->Prop)->Prop
abbrev gz:=List V->St->Hp->(St->Hp->Prop)->Prop
def PG(X:Cx)(target:Expr)(t:TG):Prop:=∀(pins:List (Addr×Obj))(s:M6)(σ:St)(H:Hp)(v:V)(u:Value)(Q:St->Hp->Prop),Inv X pins σ H s->RelV v u->t v σ H Q->wpAny (model X.prog X.w) X.A (assign target X.env u) (fun _ s'=>∃σ' H',Inv X pins σ' H' s'/\Q σ' H') X.xe s
def m8(X:Cx)(ts:List Expr)(t:gz):Prop:=∀(pins:List (Addr×Obj))(s:M6)(σ:St)(H:Hp)(vs:List V)(us:List Value)(Q:St->Hp->Prop),Inv X pins σ H s->Vals vs us->t vs σ H Q->wpAny (model X.prog X.w) X.A (assignInOrder ((assignEach ts X.env).map (·.2)) us) (fun _ s'=>∃σ' H',Inv X pins σ' H' s'/\Q σ' H') X.xe s
abbrev u6:=V->V->V->Hp->(Hp->Prop)->Prop
def A1(X:Cx)(t:u6):Prop:=∀(pins:List (Addr×Obj))(s:M6)(σ:St)(H:Hp)(o i v:V)(ov iv u:Value)(Q:Hp->Prop),Inv X pins σ H s->RelV o ov->RelV i iv->RelV v u->t o i v H Q->wpAny (model X.prog X.w) X.A (setItem ov iv u) (fun _ s'=>∃H',Inv X pins σ H' s'/\Q H') X.xe s
section
variable {X:Cx} {pos:Pos}
def dY(i:Nat):TG:=fun v σ H Q=>Q (σ.set i (some v)) H
theorem Ef{i:Nat}{x:Str}(hN:X.N.Nodup)(hi:X.N[i]? =some x)(hx:Loc X.env.scope x)(hf:X.fn x=true\/X.env.scope.names.lookup x=some .local:=by first|exact .inl rfl|exact .inr rfl|assumption):PG X (.Name x pos) (dY i):=by intro pins s σ H v u Q I r h;exact wpAny_assign_Name (mQ I hN hi hx r (fun s' I'=>⟨_,H,I',h⟩) hf)
def Jq:gz:=fun vs σ H Q=>vs=[]/\Q σ H
inductive Bp(t:TG)(u:gz)(vs:List V)(σ:St)(H:Hp)(Q:St->Hp->Prop):Prop |mk (v:_)(r:_)(h0:vs=v::r)(h1:t v σ H fun σ' H'=>u r σ' H' Q):Bp t u vs σ H Q
def Jr(t:TG)(u:gz):gz:=fun vs σ H Q=>Bp t u vs σ H Q
theorem qW:m8 X [] Jq:=by intro pins s σ H vs us Q I r h;obtain⟨e,h⟩:=h;subst e;cases r;exact assignInOrder_nil ⟨σ,H,I,h⟩
theorem iO{e:Expr}{es:List Expr}{t:TG}{u:gz}(h1:PG X e t)(h2:m8 X es u) (hs:(assignEach (e::es) X.env).map (·.2)=assign e X.env::(assignEach es X.env).map (·.2):=by rfl):m8 X (e::es) (Jr t u):=by intro pins s σ H vs us Q I r h;obtain⟨v,vr,e1,h⟩:=h;subst e1;cases r with |cons r rr=>rw[hs];refine assignInOrder_cons (ak (h1 pins s σ H _ _ _ I r h) fun _ s1 ⟨σ1,H1,I1,q1⟩=>?_);exact h2 pins s1 σ1 H1 _ _ Q I1 rr q1
inductive Bn(K:M5)(n:Nat)(t:gz)(v:V)(σ:St)(H:Hp)(Q:St->Hp->Prop):Prop |mk (a:_)(xs:_)(h0:v= .ref a)(h1:az K H a xs)(h2:xs.length=n)(h3:t xs σ H Q):Bn K n t v σ H Q
def yN(K:M5)(n:Nat)(t:gz):TG:=fun v σ H Q=>Bn K n t v σ H Q
theorem Ee{es:List Expr}{k:Nat}{t:gz}{n:Nat}(hc:X.calm=true)(h:m8 X es t) (hn:(assignEach es X.env).length=n:=by rfl)(eT:(assignEach es X.env).findIdx? (·.1)=none:=by rfl):PG X (.Tuple es k pos) (yN X.K n t):=by intro pins s σ H v u Q I r hw;obtain⟨a,xs,e1,hq,hl,hw⟩:=hw;subst e1;cases r;obtain⟨its,rv,ht,hz⟩:=I.tuple hq;refine assign_Tuple_tuple (I.ok.hd hc) ht (by simp[hn,<-hl,rv.length]) eT fun h' hx=>?_;have I1:Inv X pins σ H {s with heap:=h'}:=I.kept (t':=s.toks) fun b o e=>hx b o (bF (aN e)) e;exact h pins _ σ H xs _ Q I1 (by simpa using rv) hw
def Jo(to ti:TE)(t:u6):TG:=fun v σ H Q=>to σ H fun o H1=>ti σ H1 fun i H2=>t o i v H2 fun H3=>Q σ H3
theorem qX{o i:Expr}{to ti:TE}{t:u6}(ho:PE X o to)(hi:PE X i ti)(hs:A1 X t) (ha:∀v,assign (.Subscript o i pos) X.env v=(do
     let ov<-holding [v] (eval o X.env)
     let iv<-holding [v,ov] (eval i X.env)
     standAt pos
     holding [v,ov,iv] (setItem ov iv v)
     release [v,ov,iv] []):=by intro _;rfl):PG X (.Subscript o i pos) (Jo to ti t):=by
  intro pins s σ H v u Q I r h;rw[ha];refine ag (dN (ak (ho pins s σ H _ I h) fun ov s1 ⟨x,H1,I1,r1,q1⟩=>?_));refine ag (dN (ak (hi pins s1 σ H1 _ I1 q1) fun iv s2 ⟨y,H2,I2,r2,q2⟩=>?_));refine ag (ke (ag (dN (ak (hs pins s2 σ H2 x y v ov iv u _ I2 r1 r2 r q2) fun _ s3 ⟨H3,I3,q3⟩=>?_))));exact wpAny_release ⟨σ,H3,I3,q3⟩
def mM(te:TE)(g:TG):TS:=fun D σ H=>te σ H fun x H1=>g x σ H1 D.nx
theorem jA{tg e:Expr}{te:TE}{g:TG}(he:PE X e te)(hg:PG X tg g)(hs:swapsWithSole [tg] e pos.line X.env=pure false:=by rfl)(hw:swappedStores [tg] e X.env=pure none:=by rfl) (h1:(assignEach [tg] X.env).map (·.2)=[assign tg X.env]:=by rfl):PS X (.Assign [tg] e pos) (mM te g):=by intro pins s σ H D I h;refine wpAny_Assign_stores (ak (he pins s σ H _ I h) fun v s1 ⟨x,H1,I1,r1,q1⟩=>?_) hs hw;rw[h1];exact ak (hg pins s1 σ H1 x v _ I1 r1 q1) fun _ s2 q=>q
theorem E6{i:Nat}{x:Str}{e:Expr}{te:TE}{pos':Pos}(hN:X.N.Nodup)(hi:X.N[i]? =some x)(hx:Loc X.env.scope x)(he:PE X e te)(hs:swapsWith e (some (.Name x pos')) pos.line X.env=pure false:=by rfl)(hf:X.fn x=true\/X.env.scope.names.lookup x=some .local:=by first|exact .inl rfl|exact .inr rfl|assumption): PS X (.Assign [.Name x pos'] e pos) (mM te (dY i)):=by intro pins s σ H D I h;refine wpAny_Assign_Name (ak (he pins s σ H _ I h) fun v s1 ⟨y,H1,I1,r1,q1⟩=>?_) hs;exact mQ I1 hN hi hx r1 (fun s2 I2=>⟨_,H1,I2,q1⟩) hf
end
section
variable {X:Cx} {pos:Pos}
def va(c:TT)(tb:TS):TS:=fun D σ H=>∃W:Nat->St->Hp->Prop,(∃m,W m σ H)/\∀m σ H,W m σ H->c σ H fun b H1=>if b=true then∃N:St->Hp->Prop,(∀σ' H',N σ' H'->∃m',m'<m/\W m' σ' H')/\tb {D with nx:=N,ct:=N,bk:=D.nx} σ H1 else D.nx σ H1
theorem E4{c:Expr}{body:List Stmt}{tc:TT}{tb:TS}(hp:PassesOwn (model X.prog X.w) X.A X.env X.xe)(hc:PT X c tc)(hb:cF X body tb):PS X (.While c body [] pos) (va tc tb):=by intro pins s σ H D I h;obtain⟨W,⟨m0,w0⟩,turn⟩:=h;refine wpAny_While (codeAny_whileLoop (fun n s'=>∃σ' H',Inv X pins σ' H' s'/\W n σ' H') ?_ m0 ⟨σ,H,I,w0⟩);rintro n s1 ⟨σ1,H1,I1,w1⟩;refine kf hp (ak (hc pins s1 σ1 H1 _ I1 (turn n σ1 H1 w1)) fun b s2 ⟨H2,I2,q2⟩=>?_);cases b with
 |true=>obtain⟨N,hN,q2⟩:=q2;rw[aH rfl];refine kf hp (ak (hb pins s2 σ1 H2 _ I2 q2) fun f s3 q3=>?_);cases f with |next=>obtain⟨σ3,H3,I3,n3⟩:=q3;obtain⟨m',hm,w3⟩:=hN σ3 H3 n3;exact⟨m',hm,σ3,H3,I3,w3⟩ |cont=>obtain⟨σ3,H3,I3,n3⟩:=q3;obtain⟨m',hm,w3⟩:=hN σ3 H3 n3;exact⟨m',hm,σ3,H3,I3,w3⟩ |brk=>exact q3 |ret v=>exact q3
 |false=>rw[aC ba];exact mh ⟨σ1,H2,I2,q2⟩
end
structure It where
 go:Nat->Hp->Prop
 yld:Nat->Hp->V->Hp->Prop
 stop:Nat->Hp->Prop
def eZ(X:Cx)(pins:List (Addr×Obj))(H:Hp)(b:Addr):Prop:=H b=none/\b≠X.env.locals/\b∉X.fs/\(b∈X.ex\/X.s₀.heap.objs.size<=b)/\(∀x c,X.env.cells.lookup x=some c->c≠b)/\∀p∈X.pn++pins,p.1≠b
theorem Inv.jR{X:Cx}{pins:List (Addr×Obj)}{σ:St}{H H':Hp}{s:M6}{b:Addr}(I:Inv X pins σ H s)(hb:s.heap.objs.size<=b)(hn:H' b=none):eZ X pins H' b:=by
 refine⟨hn,uu (dz I.lt hb),I.FT hb,.inr (bG I.sz hb),fun x c e z=>?_,fun p hp z=>?_⟩
 · obtain⟨v,q⟩:=I.cell x c e
   exact absurd (dz q.lt (by rw[z];exact hb)) (kq _)
 ·exact absurd (dz (aN (I.pin p hp).1) (by rw[z];exact hb)) (kq _)
structure Turn(P:M7)(w:World)(K:M5)(tg:Expr)(J:It)(fp:List Addr)(it:Addr)(tn:Nat->Heap->Prop):Prop where
 mem:it∈fp
 obj:∀i h,tn i h->∀b∈fp,∃o,h.get? b=some o/\∀v,o.data≠ .cell v
 keep:∀i h h',tn i h->(∀b∈fp,∀o,h.get? b=some o->h'.get? b=some o)->tn i h'
 item:∀(X:Cx),X.prog=P->X.w=w->X.K=K->X.calm=true->∀(i:Nat)(pins:List (Addr×Obj))(s:M6)(σ:St)(H:Hp)(E:Value->M6->Prop),Inv X pins σ H s->(∀b∈fp,eZ X pins H b)->tn i s.heap->J.go i H->wpAny (model P w) X.A (pyNext (.ref it)) (fun r s1=>∃u,r=some u/\wpAny (model P w) X.A (letOwnedTupleGo tg (.ref it) u) (fun _ s2=>∃x H',Inv X pins σ H' s2/\RelV x u/\J.yld i H x H'/\tn (i+1) s2.heap/\∀b∈fp,H' b=none) E s1) E s
 done:∀(X:Cx),X.prog=P->X.w=w->X.K=K->X.calm=true->∀(i:Nat)(pins:List (Addr×Obj))(s:M6)(σ:St)(H:Hp)(E:Value->M6->Prop),Inv X pins σ H s->(∀b∈fp,eZ X pins H b)->tn i s.heap->J.stop i H->wpAny (model P w) X.A (pyNext (.ref it)) (fun r s1=>r=none/\Inv X pins σ H s1) E s
 self:∀(A:M9)(i:Nat)(s:M6)(Q:Value->M6->Prop)(E:Value->M6->Prop),tn i s.heap->Q (.ref it) s->wpAny (model P w) A (pyIter (.ref it)) Q E s
abbrev TI:=St->Hp->(It->Hp->Prop)->Prop
def u7(X:Cx)(pins:List (Addr×Obj))(σ:St)(tg:Expr)(R:It->Hp->Prop)(nO:Value)(s2:M6):Prop:=∃(it:Addr)(fp:List Addr)(tn:Nat->Heap->Prop)(J:It)(H':Hp),nO= .ref it/\Inv X pins σ H' s2/\Turn X.prog X.w X.K tg J fp it tn/\tn 0 s2.heap/\(∀b∈fp,eZ X pins H' b)/\R J H'
def PI(X:Cx)(tg iter:Expr)(wi:TI):Prop:=∀(pins:List (Addr×Obj))(s:M6)(σ:St)(H:Hp)(R:It->Hp->Prop),Inv X pins σ H s->wi σ H R->wpAny (model X.prog X.w) X.A (eval iter X.env) (fun v s1=>wpAny (model X.prog X.w) X.A (pyIter v) (u7 X pins σ tg R) X.xe s1) X.xe s
theorem ou{M:Model}{A:M9}{E:Value->M6->Prop}{s:M6}{tg:Expr}{it:Addr}{u:Value}{o:Obj}{n:String}{vs:Array Value}{Q:Unit->M6->Prop}(ho:s.heap.get? it=some o)(hc:o.cls= .type n)(hd:o.data= .fields vs) (hn:["enumerate","zip","dict_itemiterator","dict_reverseitemiterator","odict_iterator","itertools.zip_longest","itertools.pairwise"].contains n=false)(hQ:Q () s):wpAny M A (letOwnedTupleGo tg (.ref it) u) Q E s:=by unfold letOwnedTupleGo;cases tg<;>first |exact aM hQ |(cases u<;>first
        |exact aM hQ
        | (refine ag (wpAny_load ho ?_)
           rw[hc,hd];show wpAny M A (if(["enumerate","zip","dict_itemiterator","dict_reverseitemiterator","odict_iterator","itertools.zip_longest","itertools.pairwise"].contains n&&vs[0]? ==some (rawInt _))=true then _ else _) Q E s;rw[aC (by intro h;rw[hn,cA]at h;cases h)];exact aM hQ))
def ka(K:M5)(a:Addr):It:=⟨fun i H=>∃xs x,aa K H a xs/\xs[i]? =some x,fun i H x H'=>H'=H/\∀xs,aa K H a xs->xs[i]? =some x,fun i H=>∃xs,aa K H a xs/\xs.length<=i⟩
def oU(K:M5)(a:Addr):It:=⟨fun i H=>∃xs x,az K H a xs/\xs[i]? =some x,fun i H x H'=>H'=H/\∀xs,az K H a xs->xs[i]? =some x,fun i H=>∃xs,az K H a xs/\xs.length<=i⟩
def gT(lo:Int)(n:Nat):It:=⟨fun i _=>i<n,fun i H x H'=>H'=H/\x= .int (lo+i),fun i _=>n<=i⟩
theorem Ci{P:M7}{w:World}{K:M5}{tg:Expr}(a it:Addr):Turn P w K tg (ka K a) [it] it (fun i h=>h.IsListIter it a i) where
 mem:=by simp
 obj:=fun i h st b hb=>by
  have e:b=it:=by simpa using hb
  subst e;obtain⟨o,e,c,d⟩:=st;exact⟨o,e,fun v z=>by rw[d]at z;cases z⟩
 keep:=fun i h h' st k=>st.at fun o e=>k it (by simp) o e
 item:=by intro X hP hw hK hc i pins s σ H E I hf st hg;subst hP hw hK;obtain⟨xs,x,hq,hx⟩:=hg;obtain⟨its,rv,p,hz⟩:=I.list hq;obtain⟨u,hu,ru⟩:=rv.get hx;obtain⟨f0,f1,f2,f3,f4,f5⟩:=hf it (by simp);refine wpAny_pyNext_list_item st p.isList (x:=u) (by simpa using hu) fun h' dQ sb=>?_;have I1:Inv X pins σ H {s with heap:=h'}:=I.turned (t':=s.toks) (fun b o hb e=>(sb.2 b hb).trans e) f0 f1 f3 f4 f5;obtain⟨o,e,c,d⟩:=id dQ;exact⟨u,rfl,ou (s:={s with heap:=h'}) e c d (by decide) ⟨x,H,I1,ru,⟨rfl,fun ys hy=>by rw[I.xT hy hq];exact hx⟩,dQ,fun b hb=>(hf b hb).1⟩⟩
 done:=by intro X hP hw hK hc i pins s σ H E I hf st hg;subst hP hw hK;obtain⟨xs,hq,hx⟩:=hg;obtain⟨its,rv,p,hz⟩:=I.list hq;obtain⟨f0,f1,f2,f3,f4,f5⟩:=hf it (by simp);have hl:=rv.length;exact wpAny_pyNext_list_end (I.ok.hd hc) st p.isList (by simp;omega) fun h' eb=>⟨rfl,I.turned (t':=s.toks) (fun b o hb e=>eb b o hb e) f0 f1 f3 f4 f5⟩
 self:=fun _ _ _ _ _ st h=>wpAny_pyIter_listiter st h
theorem Ce{P:M7}{w:World}{K:M5}{tg:Expr}(a it:Addr):Turn P w K tg (oU K a) [it] it (fun i h=>h.IsTupleIter it a i) where
 mem:=by simp
 obj:=fun i h st b hb=>by
  have e:b=it:=by simpa using hb
  subst e;obtain⟨o,e,c,d⟩:=st;exact⟨o,e,fun v z=>by rw[d]at z;cases z⟩
 keep:=fun i h h' st k=>st.at fun o e=>k it (by simp) o e
 item:=by intro X hP hw hK hc i pins s σ H E I hf st hg;subst hP hw hK;obtain⟨xs,x,hq,hx⟩:=hg;obtain⟨its,rv,p,hz⟩:=I.tuple hq;obtain⟨u,hu,ru⟩:=rv.get hx;obtain⟨f0,f1,f2,f3,f4,f5⟩:=hf it (by simp);refine wpAny_pyNext_tuple_item st (show s.heap.IsTuple a its.toArray from p) (x:=u) (by simpa using hu) fun h' dQ sb=>?_;have I1:Inv X pins σ H {s with heap:=h'}:=I.turned (t':=s.toks) (fun b o hb e=>(sb.2 b hb).trans e) f0 f1 f3 f4 f5;obtain⟨o,e,c,d⟩:=id dQ;exact⟨u,rfl,ou (s:={s with heap:=h'}) e c d (by decide) ⟨x,H,I1,ru,⟨rfl,fun ys hy=>by rw[I.uX hy hq];exact hx⟩,dQ,fun b hb=>(hf b hb).1⟩⟩
 done:=by intro X hP hw hK hc i pins s σ H E I hf st hg;subst hP hw hK;obtain⟨xs,hq,hx⟩:=hg;obtain⟨its,rv,p,hz⟩:=I.tuple hq;obtain⟨f0,f1,f2,f3,f4,f5⟩:=hf it (by simp);have hl:=rv.length;exact wpAny_pyNext_tuple_end (I.ok.hd hc) st (show s.heap.IsTuple a its.toArray from p) (by simp;omega) fun h' eb=>⟨rfl,I.turned (t':=s.toks) (fun b o hb e=>eb b o hb e) f0 f1 f3 f4 f5⟩
 self:=fun _ _ _ _ _ st h=>wpAny_pyIter_tupleiter st h
theorem Cg{P:M7}{w:World}{K:M5}{tg:Expr}(it:Addr)(lo:Int)(n:Nat):Turn P w K tg (gT lo n) [it] it (fun i h=>IsRangeIter h it (lo+(i:Nat)*1) ((n:Int)-(i:Nat)) 1) where
 mem:=by simp
 obj:=fun i h st b hb=>by
  have e:b=it:=by simpa using hb
  subst e;exact⟨_,st,fun v z=>by have z':Data.fields _=Data.cell v:=z;cases z'⟩
 keep:=fun i h h' st k=>k it (by simp) _ st
 item:=by intro X hP hw hK hc i pins s σ H E I hf st hg;subst hP hw hK;obtain⟨f0,f1,f2,f3,f4,f5⟩:=hf it (by simp);have W:=Walks.range (prog:=X.prog) (w:=X.w) (I.ok.hd hc) it lo 1 n;refine W.item i s _ _ hg st fun v h' tk hv dQ kk=>?_;obtain⟨t,rfl⟩:=hv;have I1:Inv X pins σ H {s with heap:=h',toks:=tk}:=I.turned (fun b o hb e=>kk b o (by simpa using hb) e) f0 f1 f3 f4 f5;refine⟨_,rfl,ou (s:={s with heap:=h',toks:=tk}) (n:="range_iterator") dQ rfl rfl (by decide) ⟨.int (lo+i),H,I1,⟨t,?_⟩,⟨rfl,rfl⟩,dQ,fun b hb=>(hf b hb).1⟩⟩;rw[Int.mul_one]
 done:=by intro X hP hw hK hc i pins s σ H E I hf st hg;subst hP hw hK;obtain⟨f0,f1,f2,f3,f4,f5⟩:=hf it (by simp);exact wpAny_pyNext_range_end (I.ok.hd hc) st (by have:n<=i:=hg;omega) fun h' eb=>⟨rfl,I.turned (t':=s.toks) (fun b o hb e=>eb b o hb e) f0 f1 f3 f4 f5⟩
 self:=fun _ _ _ _ _ st h=>wpAny_pyIter_rangeiter st h
section
variable {X:Cx} {tg:Expr}
inductive Bl(K:M5)(R:It->Hp->Prop)(x:V)(H1:Hp):Prop |mk (a:_)(h0:x= .ref a)(h1:(∃xs,aa K H1 a xs))(h2:R (ka K a) H1):Bl K R x H1
def yh(K:M5)(tl:TE):TI:=fun σ H R=>tl σ H fun x H1=>Bl K R x H1
inductive Bi(K:M5)(R:It->Hp->Prop)(x:V)(H1:Hp):Prop |mk (a:_)(h0:x= .ref a)(h1:(∃xs,az K H1 a xs))(h2:R (oU K a) H1):Bi K R x H1
def yg(K:M5)(tl:TE):TI:=fun σ H R=>tl σ H fun x H1=>Bi K R x H1
theorem Ec{l:Expr}{tl:TE}(hl:PE X l tl):PI X tg l (yh X.K tl):=by
 intro pins s σ H R I h;refine ak (hl pins s σ H _ I h) fun v s1 ⟨x,H1,I1,r1,q1⟩=>?_;obtain⟨a,e,⟨xs,hq⟩,q⟩:=q1;subst e;cases r1;obtain⟨its,rv,p,hz⟩:=I1.list hq;refine me p.isList ?_;refine⟨s1.heap.objs.size,[s1.heap.objs.size],_,_,H1,rfl,I1.kept (t':=s1.toks) fun b o e=>bw _ e,Ci a _,⟨_,cw _ rfl,rfl,rfl⟩,fun b hb=>?_,q⟩;have e:b=s1.heap.objs.size:=by simpa using hb
 subst e;exact I1.jR (aD _) (I1.hok.fresh (aD _))
theorem Eb{l:Expr}{tl:TE}(hl:PE X l tl):PI X tg l (yg X.K tl):=by
 intro pins s σ H R I h;refine ak (hl pins s σ H _ I h) fun v s1 ⟨x,H1,I1,r1,q1⟩=>?_;obtain⟨a,e,⟨xs,hq⟩,q⟩:=q1;subst e;cases r1;obtain⟨its,rv,p,hz⟩:=I1.tuple hq;refine wpAny_pyIter_tuple (show s1.heap.IsTuple a its.toArray from p) ?_;refine⟨s1.heap.objs.size,[s1.heap.objs.size],_,_,H1,rfl,I1.kept (t':=s1.toks) fun b o e=>bw _ e,Ce a _,⟨_,cw _ rfl,rfl,rfl⟩,fun b hb=>?_,q⟩;have e:b=s1.heap.objs.size:=by simpa using hb
 subst e;exact I1.jR (aD _) (I1.hok.fresh (aD _))
theorem DF{pins:List (Addr×Obj)}{σ:St}{H:Hp}{s:M6}{R:It->Hp->Prop}{E:Value->M6->Prop}{lo hi:Int}{t u v:Tok}{tk:Nat}(I:Inv X pins σ H s)(h1:-(2^62)<=lo)(h2:lo<2^62)(h3:-(2^62)<=hi)(h4:hi<2^62) (q:R (gT lo (hi-lo).toNat) H):wpAny (model X.prog X.w) X.A (pyIter (.ref s.heap.objs.size)) (u7 X pins σ tg R) E {s with heap:=s.heap.push {cls:=.type "range",data:=.fields #[.int lo t,.int hi u,.int 1 v]},toks:=tk}:=by
  refine wpAny_pyIter_range (IsRange.new ..) (small_one h1 h2 h3 h4) ?_;have I1:Inv X pins σ H {s with heap:=s.heap.push {cls:=.type "range",data:=.fields #[.int lo t,.int hi u,.int 1 v]},toks:=tk}:=I.kept fun b o e=>bw _ e;refine⟨(s.heap.push {cls:=.type "range",data:=.fields #[.int lo t,.int hi u,.int 1 v]}).objs.size,[(s.heap.push {cls:=.type "range",data:=.fields #[.int lo t,.int hi u,.int 1 v]}).objs.size],_,_,H,rfl,I1.kept (t':=tk) fun b o e=>bw _ e,Cg _ lo (hi-lo).toNat,?_,fun b hb=>?_,q⟩
  · have e1:lo+((0:Nat):Int)*1=lo:=by simp
    have e2:(((hi-lo).toNat:Nat):Int)-((0:Nat):Int)=Builtin.Range.rangeSize lo hi 1:=by rw[rangeSize_one];split<;>omega
    show IsRangeIter _ _ (lo+((0:Nat):Int)*1) ((((hi-lo).toNat:Nat):Int)-((0:Nat):Int)) 1;rw[e1,e2];exact cw _ rfl
  · have e:b=(s.heap.push {cls:=.type "range",data:=.fields #[.int lo t,.int hi u,.int 1 v]}).objs.size:=by simpa using hb
    subst e;exact I1.jR (aD _) (I1.hok.fresh (aD _))
inductive Bk(R:It->Hp->Prop)(vs:List V)(H1:Hp):Prop |mk (j:Int)(h0:vs=[.int j])(h1:-(2^62)<=j)(h2:j<2^62)(h3:R (gT 0 j.toNat) H1):Bk R vs H1
def Hj(ta:TA):TI:=fun σ H R=>ta σ H fun vs H1=>Bk R vs H1
theorem gH{a:Expr}{ta:TA}{p pos:Pos}(hg:Gl X "range")(hm:X.mg "range"=none)(ha:PA X [a] ta)(hs:starEach [a] X.env=[(false,eval a X.env)]:=by rfl):PI X tg (.Call (.Name "range" p) [a] [] pos) (Hj ta):=by intro pins s σ H R I h;refine Call_ (ll I hg hm boot_range (BF (ak (ha pos pins s σ H _ I h) fun us s1 ⟨vs,H1,I1,r1,q1⟩=>?_) hs rfl));obtain⟨j,e,q1,q2,q⟩:=q1;subst e;cases r1 with |cons r rr=>cases rr;obtain⟨t,rfl⟩:=r;exact call_range_1 (DF I1 (by omega) (by omega) q1 q2 (by simpa using q))
def CS(wi:TI)(g:TG)(tb:TS):TS:=fun D σ H=>wi σ H fun J H1=>∃W:Nat->Nat->St->Hp->Prop,(∃m,W 0 m σ H1)/\∀i m σ H,W i m σ H->(J.stop i H/\D.nx σ H)\/(J.go i H/\∃N:St->Hp->Prop,(∀σ' H',N σ' H'->∃m',m'<m/\W (i+1) m' σ' H')/\∀x H',J.yld i H x H'->g x σ H' fun σ2 H2=>tb {D with nx:=N,ct:=N,bk:=D.nx} σ2 H2)
def jB(fp:List Addr)(h:Heap):List (Addr×Obj):=fp.filterMap fun b=>(h.get? b).map fun o=>(b,o)
theorem jL{fp:List Addr}{h:Heap}{b:Addr}{o:Obj}(hb:b∈fp)(e:h.get? b=some o):(b,o)∈jB fp h:=ku.mpr ⟨b,hb,by rw[e];rfl⟩
theorem Fx{fp:List Addr}{h:Heap}{p:Addr×Obj}(hp:p∈jB fp h):p.1∈fp/\h.get? p.1=some p.2:=by obtain⟨b,hb,e⟩:=ku.mp hp;cases q:h.get? b with |none=>rw[q]at e;cases e |some o=>rw[q]at e;have e':(b,o)=p:=cf e;subst e';exact⟨hb,q⟩
theorem Inv.pinned{pins:List (Addr×Obj)}{σ:St}{H:Hp}{s:M6}{fp:List Addr}(I:Inv X pins σ H s)(hf:∀b∈fp,eZ X pins H b)(ho:∀b∈fp,∃o,s.heap.get? b=some o/\∀v,o.data≠ .cell v):Inv X (pins++jB fp s.heap) σ H s:=I.wU fun p hp=>(eg.mp hp).elim (fun z=>I.pin p (eM _ z)) fun z=>by obtain⟨hb,e⟩:=Fx z;obtain⟨f0,f1,f2,_⟩:=hf p.1 hb;obtain⟨o,e',d⟩:=ho p.1 hb;rw[e]at e';cases e';exact⟨e,f0,f1,f2,d⟩
theorem Inv.kF{pins pl:List (Addr×Obj)}{σ:St}{H:Hp}{s:M6}(I:Inv X (pins++pl) σ H s):Inv X pins σ H s:=I.wU fun p hp=>I.pin p (eM _ (pk _ hp))
theorem hX{iter:Expr}{body:List Stmt}{wi:TI}{g:TG}{tb:TS}{pos:Pos}(hp:PassesOwn (model X.prog X.w) X.A X.env X.xe)(hc:X.calm=true)(hi:PI X tg iter wi)(hg:PG X tg g)(hb:cF X body tb) (hs:∀x,foldedSetIterable iter X.env x=pure x:=by intro _;rfl):PS X (.For tg iter body [] pos) (CS wi g tb):=by
  intro pins s σ H D I h;refine wpAny_For (ak (hi pins s σ H _ I h) fun v s1 h1=>ak h1 fun nO s2 h2=>?_) hs;obtain⟨it,fp,tn,J,H2,e,I2,T,iK,f2,W,⟨m0,w0⟩,turn⟩:=h2;subst e;have fw:∀{H':Hp},(∀b∈fp,H' b=none)->∀b∈fp,eZ X pins H' b:=fun hn b hb=>⟨hn b hb,(f2 b hb).2⟩;refine codeAny_forLoop_any (fun n s'=>∃i σ' H',Inv X pins σ' H' s'/\tn i s'.heap/\(∀b∈fp,H' b=none)/\W i n σ' H') ?_ m0 ⟨0,σ,H2,I2,iK,fun b hb=>(f2 b hb).1,w0⟩;rintro n s3 ⟨i,σ3,H3,I3,vm,yT,w3⟩;rcases turn i n σ3 H3 w3 with⟨stop,qn⟩|⟨go,N,hN,step⟩
  · refine kf hp (ak (T.done X rfl rfl rfl hc i pins s3 σ3 H3 X.xe I3 (fw yT) vm stop) fun r s4 ⟨hr,I4⟩=>?_)
    subst hr;exact mh ⟨σ3,H3,I4,qn⟩
  · refine kf hp (ak (T.item X rfl rfl rfl hc i pins s3 σ3 H3 X.xe I3 (fw yT) vm go) fun r s4 ⟨u,hr,h4⟩=>?_)
    subst hr;refine kf hp (ak h4 fun _ s5 ⟨x,H5,I5,r5,y5,gD,j8⟩=>?_);have L6:=I5.pinned (fw j8) (T.obj _ _ gD);refine kf hp (ak (hg _ s5 σ3 H5 x u _ L6 r5 (step x H5 y5)) fun _ s6 ⟨σ6,H6,I6,q6⟩=>?_);refine kf hp (ak (hb _ s6 σ6 H6 _ I6 q6) fun f s7 q7=>?_);have again:∀{σ7:St}{H7:Hp},Inv X (pins++jB fp s5.heap) σ7 H7 s7->N σ7 H7->∃m,m<n/\∃i σ' H',Inv X pins σ' H' s7/\tn i s7.heap/\(∀b∈fp,H' b=none)/\W i m σ' H':=fun{σ7 H7} I7 n7=>by obtain⟨m',hm,w7⟩:=hN σ7 H7 n7;refine⟨m',hm,i+1,σ7,H7,I7.kF,T.keep _ _ _ gD fun b hb o e=>(I7.pin (b,o) (eM _ (eM _ (jL hb e)))).1,fun b hb=>?_,w7⟩;obtain⟨o,e,d⟩:=T.obj _ _ gD b hb;exact(I7.pin (b,o) (eM _ (eM _ (jL hb e)))).2.1
    cases f with |next=>obtain⟨σ7,H7,I7,n7⟩:=q7;exact again I7 n7 |cont=>obtain⟨σ7,H7,I7,n7⟩:=q7;exact again I7 n7 |brk=>obtain⟨σ7,H7,I7,q7⟩:=q7;exact⟨σ7,H7,I7.kF,q7⟩ |ret v=>obtain⟨x7,σ7,H7,I7,r7,q7⟩:=q7;exact⟨x7,σ7,H7,I7.kF,r7,q7⟩
end
theorem yU{K:M5}{a:Addr}{xs:List V}{g:TG}{tb:TS}{D:Ends}{σ:St}{H:Hp}(Pv:Nat->St->Hp->Prop)(h0:Pv 0 σ H)(hl:∀i σ H,i<=xs.length->Pv i σ H->aa K H a xs) (hs:∀i x σ H,xs[i]? =some x->Pv i σ H->g x σ H fun σ2 H2=>tb {D with nx:=Pv (i+1),ct:=Pv (i+1),bk:=D.nx} σ2 H2)(hd:∀σ H,Pv xs.length σ H->D.nx σ H): ∃W:Nat->Nat->St->Hp->Prop,(∃m,W 0 m σ H)/\∀i m σ H,W i m σ H->((ka K a).stop i H/\D.nx σ H)\/((ka K a).go i H/\∃N:St->Hp->Prop,(∀σ' H',N σ' H'->∃m',m'<m/\W (i+1) m' σ' H')/\∀x H',(ka K a).yld i H x H'->g x σ H' fun σ2 H2=>tb {D with nx:=N,ct:=N,bk:=D.nx} σ2 H2):=by
  refine⟨fun i m σ H=>m=xs.length-i/\i<=xs.length/\Pv i σ H,⟨xs.length,by simp,bE _,h0⟩,?_⟩;rintro i m σ H ⟨rfl,hi,p⟩;have q:=hl i σ H hi p;by_cases bf:i<xs.length
  · refine .inr ⟨⟨xs,xs[i],q,by simp[bf]⟩,Pv (i+1),fun σ' H' p'=>⟨xs.length-(i+1),by omega,rfl,bf,p'⟩,fun x H' y=>?_⟩
    obtain⟨e,y⟩:=y;subst e;exact hs i x σ _ (y xs q) p
  · have e:i=xs.length:=by omega
    subst e;exact .inl ⟨⟨xs,q,aD _⟩,hd σ H p⟩
theorem jS{lo:Int}{n:Nat}{g:TG}{tb:TS}{D:Ends}{σ:St}{H:Hp}(Pv:Nat->St->Hp->Prop)(h0:Pv 0 σ H) (hs:∀i σ H,i<n->Pv i σ H->g (.int (lo+i)) σ H fun σ2 H2=>tb {D with nx:=Pv (i+1),ct:=Pv (i+1),bk:=D.nx} σ2 H2)(hd:∀σ H,Pv n σ H->D.nx σ H): ∃W:Nat->Nat->St->Hp->Prop,(∃m,W 0 m σ H)/\∀i m σ H,W i m σ H->((gT lo n).stop i H/\D.nx σ H)\/((gT lo n).go i H/\∃N:St->Hp->Prop,(∀σ' H',N σ' H'->∃m',m'<m/\W (i+1) m' σ' H')/\∀x H',(gT lo n).yld i H x H'->g x σ H' fun σ2 H2=>tb {D with nx:=N,ct:=N,bk:=D.nx} σ2 H2):=by
  refine⟨fun i m σ H=>m=n-i/\i<=n/\Pv i σ H,⟨n,by simp,bE _,h0⟩,?_⟩;rintro i m σ H ⟨rfl,hi,p⟩;by_cases bf:i<n
  · refine .inr ⟨bf,Pv (i+1),fun σ' H' p'=>⟨n-(i+1),by omega,rfl,bf,p'⟩,fun x H' y=>?_⟩
    obtain⟨e,y⟩:=y;subst e y;exact hs i σ _ bf p
  · have e:i=n:=by omega
    subst e;exact .inl ⟨aD _,hd σ H p⟩
theorem C4{c:TT}{tb:TS}{D:Ends}{σ:St}{H:Hp}(Pv:St->Hp->Prop)(μ:St->Hp->Nat)(h0:Pv σ H) (hs:∀σ H,Pv σ H->c σ H fun b H1=>if b=true then tb {D with nx:=fun σ' H'=>Pv σ' H'/\μ σ' H'<μ σ H,ct:=fun σ' H'=>Pv σ' H'/\μ σ' H'<μ σ H,bk:=D.nx} σ H1 else D.nx σ H1) (mono:∀σ H Q Q',(∀b H1,Q b H1->Q' b H1)->c σ H Q->c σ H Q'):va c tb D σ H:=by refine⟨fun m σ H=>m=μ σ H/\Pv σ H,⟨_,rfl,h0⟩,?_⟩;rintro m σ H ⟨rfl,p⟩;refine mono σ H _ _ (fun b H1 q=>?_) (hs σ H p);cases b with |true=>exact⟨_,fun σ' H' ⟨p',l⟩=>⟨_,l,rfl,p'⟩,q⟩ |false=>exact q
abbrev R2:=V->V->Hp->VK->Prop
def aQ(X:Cx)(f:Value->Value->Sem Value)(r:R2):Prop:=∀(pins:List (Addr×Obj))(s:M6)(σ:St)(H:Hp)(x y:V)(v u:Value)(Q:VK),Inv X pins σ H s->RelV x v->RelV y u->r x y H Q->wpAny (model X.prog X.w) X.A (f v u) (EP X pins σ Q) X.xe s
def u4(X:Cx)(f:Value->Sem Value)(r:V->Hp->VK->Prop):Prop:=∀(pins:List (Addr×Obj))(s:M6)(σ:St)(H:Hp)(x:V)(v:Value)(Q:VK),Inv X pins σ H s->RelV x v->r x H Q->wpAny (model X.prog X.w) X.A (f v) (EP X pins σ Q) X.xe s
def bM(X:Cx)(f:Value)(r:List V->Hp->VK->Prop):Prop:=∀(pins:List (Addr×Obj))(s:M6)(σ:St)(H:Hp)(xs:List V)(us:List Value)(Q:VK),Inv X pins σ H s->Vals xs us->r xs H Q->wpAny (model X.prog X.w) X.A (call f us) (EP X pins σ Q) X.xe s
def KU(X:Cx)(r:V->Hp->(Bool->Hp->Prop)->Prop):Prop:=∀(pins:List (Addr×Obj))(s:M6)(σ:St)(H:Hp)(x:V)(v:Value)(Q:Bool->Hp->Prop),Inv X pins σ H s->RelV x v->r x H Q->wpAny (model X.prog X.w) X.A (truthy v) (TP X pins σ Q) X.xe s
def kI(r:R2)(ta tb:TE):TE:=fun σ H Q=>ta σ H fun x H1=>tb σ H1 fun y H2=>r x y H2 Q
def Cw(r:V->Hp->VK->Prop)(ta:TE):TE:=fun σ H Q=>ta σ H fun x H1=>r x H1 Q
inductive Bd(C:Int->Int->Prop)(g:Int->Int->V)(x:V)(y:V)(H:Hp)(Q:VK):Prop |mk (i:_)(j:_)(h0:x= .int i)(h1:y= .int j)(h2:C i j)(h3:Q (g i j) H):Bd C g x y H Q
def rI(C:Int->Int->Prop)(g:Int->Int->V):R2:=fun x y H Q=>Bd C g x y H Q
inductive Bc(g:Int->Int->V)(x:V)(y:V)(H:Hp)(Q:VK):Prop |mk (i:_)(j:_)(h0:x= .int i)(h1:y= .int j)(h2:Q (g i j) H):Bc g x y H Q
def eN(g:Int->Int->V):R2:=fun x y H Q=>Bc g x y H Q
inductive AO(g:Int->V)(x:V)(H:Hp)(Q:VK):Prop |mk (i:_)(h0:x= .int i)(h1:Q (g i) H):AO g x H Q
def rU(g:Int->V):V->Hp->VK->Prop:=fun x H Q=>AO g x H Q
section
variable {X:Cx}{a b c:Expr}{ta tb tc:TE}{pos:Pos}
theorem tO(ha:PE X a ta)(hb:PE X b tb){pins:List (Addr×Obj)}{s:M6}{σ:St}{H:Hp}{R:V->V->Hp->Prop}(I:Inv X pins σ H s) (h:ta σ H fun x H1=>tb σ H1 fun y H2=>R x y H2){Q:Value->M6->Prop}{f:Value->Value->Sem Value} (hf:∀v u s2 x y H2,Inv X pins σ H2 s2->RelV x v->RelV y u->R x y H2->wpAny (model X.prog X.w) X.A (f v u) Q X.xe s2): wpAny (model X.prog X.w) X.A (eval a X.env) (fun v s₁=>wpAny (model X.prog X.w) X.A (eval b X.env) (fun u s₂=>wpAny (model X.prog X.w) X.A (f v u) Q X.xe s₂) X.xe s₁) X.xe s:=by refine ak (ha pins s σ H _ I h) fun v s1 ⟨x,H1,I1,r1,q1⟩=>?_;refine ak (hb pins s1 σ H1 _ I1 q1) fun u s2 ⟨y,H2,I2,r2,q2⟩=>?_;exact hf v u s2 x y H2 I2 r1 r2 q2
theorem ay{op:Operator}{r:R2}(ho:aQ X (binaryOp op) r)(ha:PE X a ta)(hb:PE X b tb):PE X (.BinOp a op b pos) (kI r ta tb):=by intro pins s σ H Q I h;exact wpAny_BinOp (tO ha hb I h fun v u s2 x y H2 I2 rx ry q=>ho pins s2 σ H2 x y v u Q I2 rx ry q)
theorem hZ{op:UnaryOp}{r:V->Hp->VK->Prop}(ho:u4 X (unaryOp op) r)(ha:PE X a ta):PE X (.UnaryOp op a pos) (Cw r ta):=by intro pins s σ H Q I h;exact UnaryOp_ (ak (ha pins s σ H _ I h) fun v s1 ⟨x,H1,I1,r1,q1⟩=>ho pins s1 σ H1 x v Q I1 r1 q1)
theorem nu{f:Value->Value->Sem Value}{C:Int->Int->Prop}{g:Int->Int->Int} (rule:∀(i j:Int)(t u:Tok)(s:M6)(Q:Value->M6->Prop)(E:Value->M6->Prop),C i j->Q (.int (g i j) s.toks) {s with toks:=s.toks+1}->wpAny (model X.prog X.w) X.A (f (.int i t) (.int j u)) Q E s): aQ X f (rI C fun i j=>.int (g i j)):=by intro pins s σ H x y v u Q I rx ry h;obtain⟨i,j,rfl,rfl,hc,q⟩:=h;obtain⟨t,rfl⟩:=rx;obtain⟨t',rfl⟩:=ry;exact rule i j t t' s _ _ hc ⟨.int (g i j),H,I.tok _,⟨_,rfl⟩,q⟩
theorem xj{f:Value->Value->Sem Value}{g:Int->Int->Int} (rule:∀(i j:Int)(t u:Tok)(s:M6)(Q:Value->M6->Prop)(E:Value->M6->Prop),Q (.int (g i j) s.toks) {s with toks:=s.toks+1}->wpAny (model X.prog X.w) X.A (f (.int i t) (.int j u)) Q E s): aQ X f (eN fun i j=>.int (g i j)):=by intro pins s σ H x y v u Q I rx ry h;obtain⟨i,j,rfl,rfl,q⟩:=h;obtain⟨t,rfl⟩:=rx;obtain⟨t',rfl⟩:=ry;exact rule i j t t' s _ _ ⟨.int (g i j),H,I.tok _,⟨_,rfl⟩,q⟩
theorem kZ{f:Value->Value->Sem Value}{g:Int->Int->Bool} (rule:∀(i j:Int)(t u:Tok)(s:M6)(Q:Value->M6->Prop)(E:Value->M6->Prop),Q (.bool (g i j)) s->wpAny (model X.prog X.w) X.A (f (.int i t) (.int j u)) Q E s): aQ X f (eN fun i j=>.bl (g i j)):=by intro pins s σ H x y v u Q I rx ry h;obtain⟨i,j,rfl,rfl,q⟩:=h;obtain⟨t,rfl⟩:=rx;obtain⟨t',rfl⟩:=ry;exact rule i j t t' s _ _ ⟨.bl (g i j),H,I,rfl,q⟩
def L7(i j:Int):Prop:=0<=j/\j<=1000000/\i.natAbs<2^64
theorem bT:aQ X (binaryOp .Add) (eN fun i j=>.int (i+j)):=xj fun _ _ _ _ _ _ _ q=>add_int q
theorem rf:aQ X (binaryOp .Sub) (eN fun i j=>.int (i-j)):=xj fun _ _ _ _ _ _ _ q=>sub_int q
theorem jE:aQ X (binaryOp .Mod) (rI (fun _ j=>0<j) fun i j=>.int (i%j)):=nu fun i j _ _ _ _ _ hc q=>by have h1:(0:Int)<j:=hc;exact mod_int' (by omega) (by rw[Int.fmod_eq_emod_of_nonneg i (by omega)];exact q)
theorem nh:aQ X (binaryOp .Pow) (rI L7 fun i j=>.int (i^j.toNat)):=nu fun _ _ _ _ _ _ _ hc q=>pow_int_small hc.1 hc.2.1 hc.2.2 q
theorem Ca{f:Value->Sem Value}{g:Int->Int} (rule:∀(i:Int)(t:Tok)(s:M6)(Q:Value->M6->Prop)(E:Value->M6->Prop),Q (.int (g i) s.toks) {s with toks:=s.toks+1}->wpAny (model X.prog X.w) X.A (f (.int i t)) Q E s): u4 X f (rU fun i=>.int (g i)):=by intro pins s σ H x v Q I rx h;obtain⟨i,rfl,q⟩:=h;obtain⟨t,rfl⟩:=rx;exact rule i t s _ _ ⟨.int (g i),H,I.tok _,⟨_,rfl⟩,q⟩
theorem hJ:u4 X (unaryOp .USub) (rU fun i=>.int (-i)):=Ca fun _ _ _ _ _ q=>neg_int q
end
def vN:V->V->Bool | .au,.au=>true| .au,.int _=>true| .int _,.au=>true| .au,.bl _=>true| .bl _,.au=>true| .au,.str _=>true| .str _,.au=>true | .int _,.int _=>true| .bl _,.bl _=>true| .str _,.str _=>true| .eX _,.eX _=>true | .int _,.str _=>true| .str _,.int _=>true| .bl _,.str _=>true| .str _,.bl _=>true |_,_=>false
def DU:R2:=fun x y H Q=>vN x y=true/\Q (.bl (decide (x=y))) H
def DN:R2:=fun x y H Q=>vN x y=true/\Q (.bl (!decide (x=y))) H
theorem zi{i j:Int}:decide (V.int i=V.int j)=(i==j):=by rw[dB];simp
theorem zk{i j:Bool}:decide (V.bl i=V.bl j)=(i==j):=by rw[dB];simp
theorem zh{i j:Str}:decide (V.str i=V.str j)=(i==j):=by rw[dB];simp
theorem zj{i j:Array UInt8}:decide (V.eX i=V.eX j)=(i.toList==j.toList):=by rw[dB];cases i;cases j;simp
section
variable {X:Cx}{a b c:Expr}{ta tb tc:TE}{pos:Pos}
theorem bj{pins:List (Addr×Obj)}{σ:St}{H:Hp}{s:M6}{Q:VK}{k k':Bool}(I:Inv X pins σ H s)(q:Q (.bl k) H)(e:k=k'):EP X pins σ Q (.bool k') s:=by subst e;exact⟨.bl k,H,I,rfl,q⟩
theorem dj:aQ X (compareOp .Eq) DU:=by intro pins s σ H x y v u Q I rx ry h;obtain⟨hs,q⟩:=h;cases x with
 |au=>cases rx;cases y with |au=>cases ry;exact PySem.EqNone.eq_none_none (bj I q (by simp)) |bl j=>cases ry;exact PySem.EqNone.eq_none_bool (bj I q (by simp)) |int j=>obtain⟨t',rfl⟩:=ry;exact PySem.EqNone.eq_none_int (bj I q (by simp)) |str j=>obtain⟨t',rfl⟩:=ry;exact PySem.EqNone.eq_none_str (bj I q (by simp)) |_=>exact absurd (show false=true from hs) ba
 |bl i=>cases rx;cases y with |au=>cases ry;exact PySem.EqNone.eq_bool_none (bj I q (by simp)) |bl j=>cases ry;exact eq_bool (bj I q zk) |str j=>obtain⟨t',rfl⟩:=ry;exact PySem.EqMixed.eq_bool_str (bj I q (by simp)) |_=>exact absurd (show false=true from hs) ba
 |int i=>obtain⟨t,rfl⟩:=rx;cases y with |au=>cases ry;exact PySem.EqNone.eq_int_none (bj I q (by simp)) |int j=>obtain⟨t',rfl⟩:=ry;exact eq_int (bj I q zi) |str j=>obtain⟨t',rfl⟩:=ry;exact PySem.EqMixed.eq_int_str (bj I q (by simp)) |_=>exact absurd (show false=true from hs) ba
 |str i=>obtain⟨t,rfl⟩:=rx;cases y with |au=>cases ry;exact PySem.EqNone.eq_str_none (bj I q (by simp)) |bl j=>cases ry;exact PySem.EqMixed.eq_str_bool (bj I q (by simp)) |int j=>obtain⟨t',rfl⟩:=ry;exact PySem.EqMixed.eq_str_int (bj I q (by simp)) |str j=>obtain⟨t',rfl⟩:=ry;exact eq_str (bj I q zh) |_=>exact absurd (show false=true from hs) ba
 |eX i=>obtain⟨t,rfl⟩:=rx;cases y with |eX j=>obtain⟨t',rfl⟩:=ry;exact PySem.W.eq_bytes (bj I q zj) |_=>exact absurd (show false=true from hs) ba
 |_=>cases y<;>exact absurd (show false=true from hs) ba
theorem nj:aQ X (compareOp .NotEq) DN:=by intro pins s σ H x y v u Q I rx ry h;obtain⟨hs,q⟩:=h;cases x with
 |au=>cases rx;cases y with |au=>cases ry;exact PySem.EqNone.ne_none_none (bj I q (by simp)) |bl j=>cases ry;exact PySem.EqNone.ne_none_bool (bj I q (by simp)) |int j=>obtain⟨t',rfl⟩:=ry;exact PySem.EqNone.ne_none_int (bj I q (by simp)) |str j=>obtain⟨t',rfl⟩:=ry;exact PySem.EqNone.ne_none_str (bj I q (by simp)) |_=>exact absurd (show false=true from hs) ba
 |bl i=>cases rx;cases y with |au=>cases ry;exact PySem.EqNone.ne_bool_none (bj I q (by simp)) |bl j=>cases ry;exact ne_bool (bj I q (f7 not zk)) |str j=>obtain⟨t',rfl⟩:=ry;exact PySem.EqMixed.ne_bool_str (bj I q (by simp)) |_=>exact absurd (show false=true from hs) ba
 |int i=>obtain⟨t,rfl⟩:=rx;cases y with |au=>cases ry;exact PySem.EqNone.ne_int_none (bj I q (by simp)) |int j=>obtain⟨t',rfl⟩:=ry;exact ne_int (bj I q (f7 not zi)) |str j=>obtain⟨t',rfl⟩:=ry;exact PySem.EqMixed.ne_int_str (bj I q (by simp)) |_=>exact absurd (show false=true from hs) ba
 |str i=>obtain⟨t,rfl⟩:=rx;cases y with |au=>cases ry;exact PySem.EqNone.ne_str_none (bj I q (by simp)) |bl j=>cases ry;exact PySem.EqMixed.ne_str_bool (bj I q (by simp)) |int j=>obtain⟨t',rfl⟩:=ry;exact PySem.EqMixed.ne_str_int (bj I q (by simp)) |str j=>obtain⟨t',rfl⟩:=ry;exact ne_str (bj I q (f7 not zh)) |_=>exact absurd (show false=true from hs) ba
 |eX i=>obtain⟨t,rfl⟩:=rx;cases y with |eX j=>obtain⟨t',rfl⟩:=ry;exact PySem.W.ne_bytes (bj I q (f7 not zj)) |_=>exact absurd (show false=true from hs) ba
 |_=>cases y<;>exact absurd (show false=true from hs) ba
theorem rg:aQ X (compareOp .Lt) (eN fun i j=>.bl (decide (i<j))):=kZ fun _ _ _ _ _ _ _ q=>lt_int q
theorem gj:aQ X (compareOp .LtE) (eN fun i j=>.bl (decide (i<=j))):=kZ fun _ _ _ _ _ _ _ q=>le_int q
theorem EE:aQ X (compareOp .Gt) (eN fun i j=>.bl (decide (j<i))):=kZ fun _ _ _ _ _ _ _ q=>gt_int q
theorem EB:aQ X (compareOp .In) (fun x y H Q=>∃i j,x= .str i/\y= .str j/\Q (.bl (!(Builtin.Str.occurrences j i 0 j.length 1).isEmpty)) H):=by intro pins s σ H x y v u Q I rx ry h;obtain⟨i,j,rfl,rfl,q⟩:=h;obtain⟨t,rfl⟩:=rx;obtain⟨t',rfl⟩:=ry;exact in_str (bj I q rfl)
theorem nk:aQ X (compareOp .Is) (fun x y H Q=>y= .au/\Q (.bl (decide (x= .au))) H):=by intro pins s σ H x y v u Q I rx ry h;obtain⟨rfl,q⟩:=h;cases ry;refine is_none_gen (bj I q ?_);cases x<;>first |(cases rx;rfl) |(obtain⟨t,rfl⟩:=rx;rfl)
theorem Et:aQ X (compareOp .NotIn) (fun x y H Q=>∃i j,x= .str i/\y= .str j/\Q (.bl (!(!(Builtin.Str.occurrences j i 0 j.length 1).isEmpty))) H):=by intro pins s σ H x y v u Q I rx ry h;obtain⟨i,j,rfl,rfl,q⟩:=h;obtain⟨t,rfl⟩:=rx;obtain⟨t',rfl⟩:=ry;exact notIn_str (bj I q rfl)
theorem aQ.or{f:Value->Value->Sem Value}{r r':R2}(h:aQ X f r)(h':aQ X f r'):aQ X f (fun x y H Q=>r x y H Q\/r' x y H Q):=by
 intro pins s σ H x y v u Q I rx ry q;rcases q with q|q
 ·exact h pins s σ H x y v u Q I rx ry q
 ·exact h' pins s σ H x y v u Q I rx ry q
theorem aP(b:Expr){op:CmpOp}(h:op≠ .In:=by decide)(h2:op≠ .NotIn:=by decide):behindInMarks op b=false:=by
 have e1:(op==CmpOp.In)=false:=by cases op<;>first|rfl|exact absurd rfl h
 have e2:(op==CmpOp.NotIn)=false:=by cases op<;>first|rfl|exact absurd rfl h2
 cases b<;>simp[behindInMarks,e1,e2]
theorem i3{op:CmpOp}{r:R2}(ho:aQ X (compareOp op) r)(ha:PE X a ta)(hb:PE X b tb)(hm:behindInMarks op b=false):PE X (.Compare a [op] [b] pos) (kI r ta tb):=by intro pins s σ H Q I h;exact wpAny_Compare1 (tO ha hb I h fun v u s2 x y H2 I2 rx ry q=>ho pins s2 σ H2 x y v u Q I2 rx ry q) hm
inductive Ab(Q:Bool->Hp->Prop)(x:V)(H':Hp):Prop |mk (k:_)(h0:x= .bl k)(h1:Q k H'):Ab Q x H'
def vc(t:TE):TT:=fun σ H Q=>t σ H fun x H'=>Ab Q x H'
theorem aO{op:CmpOp}{r:R2}(ho:aQ X (compareOp op) r)(ha:PE X a ta)(hb:PE X b tb)(hm:behindInMarks op b=false):PT X (.Compare a [op] [b] pos) (vc (kI r ta tb)):=by intro pins s σ H Q I h;refine wpAny_isTrue_Compare1 (ak (ha pins s σ H _ I h) fun v s1 ⟨x,H1,I1,r1,q1⟩=>ak (hb pins s1 σ H1 _ I1 q1) fun u s2 ⟨y,H2,I2,r2,q2⟩=>ak (ho pins s2 σ H2 x y v u _ I2 r1 r2 q2) fun c s3 ⟨z,H3,I3,r3,k,e,q3⟩=>?_) hm;subst e;cases r3;exact gW ⟨H3,I3,q3⟩
inductive Af(r':R2)(tc:TE)(σ:St)(Q:VK)(y:V)(z:V)(H3:Hp):Prop |mk (k:_)(h0:z= .bl k)(h1:(if k=true then tc σ H3 fun w' H4=>r' y w' H4 Q else Q (.bl false) H3)):Af r' tc σ Q y z H3
def vg(r r':R2)(ta tb tc:TE):TE:=fun σ H Q=>ta σ H fun x H1=>tb σ H1 fun y H2=>r x y H2 fun z H3=>Af r' tc σ Q y z H3
theorem En{op iP:CmpOp}{r r':R2}(ho:aQ X (compareOp op) r)(fK:aQ X (compareOp iP) r')(ha:PE X a ta)(hb:PE X b tb)(hc:PE X c tc) (hm:lastMarks [op,iP] [b,c]=false:=by with_unfolding_all rfl):PE X (.Compare a [op,iP] [b,c] pos) (vg r r' ta tb tc):=by intro pins s σ H Q I h;refine Compare_chain (ak (ha pins s σ H _ I h) fun v s1 ⟨x,H1,I1,r1,q1⟩=>chain_link (ak (hb pins s1 σ H1 _ I1 q1) fun u s2 ⟨y,H2,I2,r2,q2⟩=>ak (ho pins s2 σ H2 x y v u _ I2 r1 r2 q2) fun d s3 ⟨z,H3,I3,r3,k,e,q3⟩=>?_)) hm;subst e;cases r3;refine gW ?_;cases k with |false=>exact ite_ff ⟨.bl false,H3,I3,rfl,q3⟩ |true=>exact ite_tt (chain_last (ak (hc pins s3 σ H3 _ I3 q3) fun w' s4 ⟨z',H4,I4,r4,q4⟩=>fK pins s4 σ H4 y z' u w' Q I4 r2 r4 q4))
theorem kR{op iP:CmpOp}{r r':R2}(ho:aQ X (compareOp op) r)(fK:aQ X (compareOp iP) r')(ha:PE X a ta)(hb:PE X b tb)(hc:PE X c tc) (hm:lastMarks [op,iP] [b,c]=false:=by with_unfolding_all rfl):PT X (.Compare a [op,iP] [b,c] pos) (vc (vg r r' ta tb tc)):=by intro pins s σ H Q I h;refine isTrue_chain (ak (ha pins s σ H _ I h) fun v s1 ⟨x,H1,I1,r1,q1⟩=>test_link (ak (hb pins s1 σ H1 _ I1 q1) fun u s2 ⟨y,H2,I2,r2,q2⟩=>ak (ho pins s2 σ H2 x y v u _ I2 r1 r2 q2) fun d s3 ⟨z,H3,I3,r3,k,e,q3⟩=>?_)) hm;subst e;cases r3;refine gW ?_;cases k with |false=>obtain⟨k',e',q'⟩:=q3;cases e';exact ite_ff ⟨H3,I3,q'⟩ |true=>refine ite_tt (test_last (ak (hc pins s3 σ H3 _ I3 q3) fun w' s4 ⟨z',H4,I4,r4,q4⟩=>ak (fK pins s4 σ H4 y z' u w' _ I4 r2 r4 q4) fun d' s5 ⟨z2,H5,I5,r5,k2,e2,q5⟩=>?_));subst e2;cases r5;exact gW ⟨H5,I5,q5⟩
def u5(K:M5)(x:V)(H:Hp)(k:Bool):Prop:=match x with | .au=>k=false | .bl b=>k=b | .int i=>k=(i !=0) | .str y=>y.length<=sizeLine/\k=((y.length:Int) !=0) | .eX y=>y.size<=sizeLine/\k=((y.size:Int) !=0) | .ref p=>(∃xs,aa K H p xs/\k= !xs.isEmpty)\/(∃xs,az K H p xs/\k= !xs.isEmpty)\/∃bp,H p=some (.dK bp)/\k= !bp.isEmpty |_=>False
theorem Ha{κ:Type}{bp:List (κ×V)}{vs:List (κ×Value)}(r:KV bp vs):(!vs.isEmpty)= !bp.isEmpty:=by cases r<;>rfl
theorem ya{xs:List V}{its:List Value}(r:Vals xs its):(!its.toArray.isEmpty)= !xs.isEmpty:=by cases r<;>simp
theorem iV:(sizeLine:Nat)<2^63:=by rw[p4];decide
theorem Ck:KU X (fun x H Q=>∃k,u5 X.K x H k/\Q k H):=by intro pins s σ H x v Q I rx h;obtain⟨k,e,q⟩:=h;have hl:=iV;have hs:sizeLine=16777216:=p4;cases x with |au=>cases rx;have e':k=false:=e;subst e';exact truthy_none ⟨H,I,q⟩ |bl b=>cases rx;have e':k=b:=e;subst e';exact gW ⟨H,I,q⟩ |int i=>obtain⟨t,rfl⟩:=rx;have e':k=(i !=0):=e;subst e';exact PySem.P.truthy_int ⟨H,I,q⟩ |str y=>obtain⟨t,rfl⟩:=rx;obtain⟨hy,e'⟩:y.length<=sizeLine/\k=((y.length:Int) !=0):=e;subst e';exact PySem.P.truthy_str (by omega) ⟨H,I.tok _,q⟩ |eX y=>obtain⟨t,rfl⟩:=rx;obtain⟨hy,e'⟩:y.size<=sizeLine/\k=((y.size:Int) !=0):=e;subst e';exact PySem.W.truthy_bytes (by omega) ⟨H,I.tok _,q⟩ |ref p=>
   cases rx;have e':(∃xs,aa X.K H p xs/\k= !xs.isEmpty)\/(∃xs,az X.K H p xs/\k= !xs.isEmpty)\/∃bp,H p=some (.dK bp)/\k= !bp.isEmpty:=e;rcases e' with⟨xs,hx,e'⟩|⟨xs,hx,e'⟩|⟨bp,hx,e'⟩
   · subst e'
     obtain⟨its,r,pl,hz⟩:=I.list hx;have hlen:=r.length;exact wpAny_truthy_list pl.isList (by simp only[bC];omega) ⟨H,I.tok _,by rw[ya r];exact q⟩
   · subst e'
     obtain⟨its,r,pl,hz⟩:=I.tuple hx;have hlen:=r.length;exact truthy_tuple pl (by simp only[bC];omega) ⟨H,I.tok _,by rw[ya r];exact q⟩
   · subst e'
     obtain⟨hz,hS,vs,r,m⟩:bp.length<=sizeLine/\(p==sysModules)=false/\∃vs,KV bp vs/\s.heap.DictOf (rM X.prog X.w) p vs:=I.hok p _ hx;have hlen:bp.length=vs.length:=Paired.length r;exact wpAny_truthy_dict hS m (by omega) ⟨H,I.tok _,by rw[Ha r];exact q⟩ |_=>exact(show False from e).elim
theorem E1(ha:PE X a ta)(he:∀whole,isTrue a X.env whole=(do let v<-whole;standAt a.pos;holding [v] (truthy v))): PT X a (fun σ H Q=>ta σ H fun x H'=>∃k,u5 X.K x H' k/\Q k H'):=by intro pins s σ H Q I h;exact isTrue_plain (ak (ha pins s σ H _ I h) fun v s1 ⟨x,H1,I1,r1,q1⟩=>Ck pins s1 σ H1 x v Q I1 r1 q1) (he _)
theorem eG:aQ X (binaryOp .Add) (fun x y H Q=>∃i j,x= .str i/\y= .str j/\i.length+j.length<=sizeLine/\Q (.str (i++j)) H):=by intro pins s σ H x y v u Q I rx ry h;obtain⟨i,j,rfl,rfl,hz,q⟩:=h;obtain⟨t,rfl⟩:=rx;obtain⟨t',rfl⟩:=ry;exact add_str (fun t' tk=>⟨.str (i++j),H,I.tok _,⟨_,rfl⟩,q⟩) hz
theorem vals1{x:V}{us:List Value}(r:Vals [x] us):∃u,us=[u]/\RelV x u:=by cases r with |cons r1 r2=>cases r2;exact⟨_,rfl,r1⟩
theorem vals2{x y:V}{us:List Value}(r:Vals [x,y] us):∃u w',us=[u,w']/\RelV x u/\RelV y w':=by cases r with |cons r1 r2=>cases r2 with |cons r3 r4=>cases r4;exact⟨_,_,rfl,r1,r3⟩
theorem Kn:bM X (.builtin "abs") (fun xs H Q=>∃i,xs=[.int i]/\Q (.int (if i<0 then-i else i)) H):=by intro pins s σ H xs us Q I r h;obtain⟨i,rfl,q⟩:=h;obtain⟨u,rfl,t,rfl⟩:=vals1 r;exact call_abs_int fun u tk=>⟨.int (if i<0 then-i else i),H,I.tok _,⟨_,rfl⟩,q⟩
theorem Kg(hc:X.calm=true):bM X (.builtin "max") (fun xs H Q=>∃i j,xs=[.int i,.int j]/\Q (.int (if j>i then j else i)) H):=by
 intro pins s σ H xs us Q I r h;obtain⟨i,j,rfl,q⟩:=h;obtain⟨u,w',rfl,⟨t,rfl⟩,⟨t',rfl⟩⟩:=vals2 r;refine max_two_ints (I.ok.hd hc) fun h' tk k=>⟨_,H,I.kept k,?_,q⟩;by_cases hj:j>i
 ·rw[aH hj,aH hj];exact⟨_,rfl⟩
 ·rw[aC hj,aC hj];exact⟨_,rfl⟩
theorem zH(hc:X.calm=true):bM X (.builtin "min") (fun xs H Q=>∃i j,xs=[.int i,.int j]/\Q (.int (if j<i then j else i)) H):=by
 intro pins s σ H xs us Q I r h;obtain⟨i,j,rfl,q⟩:=h;obtain⟨u,w',rfl,⟨t,rfl⟩,⟨t',rfl⟩⟩:=vals2 r;refine min_two_ints (I.ok.hd hc) fun h' tk k=>⟨_,H,I.kept k,?_,q⟩;by_cases hj:j<i
 ·rw[aH hj,aH hj];exact⟨_,rfl⟩
 ·rw[aC hj,aC hj];exact⟨_,rfl⟩
theorem Kk:bM X (.type "int") (fun xs H Q=>(∃i,xs=[.int i]/\Q (.int i) H)\/∃k,xs=[.bl k]/\Q (.int (if k then 1 else 0)) H):=by
 intro pins s σ H xs us Q I r h;rcases h with⟨i,rfl,q⟩|⟨k,rfl,q⟩
 · obtain⟨u,rfl,t,rfl⟩:=vals1 r
   exact call_int_int ⟨.int i,H,I,⟨_,rfl⟩,q⟩
 · obtain⟨u,rfl,r1⟩:=vals1 r
   cases r1;exact call_int_bool ⟨.int (if k then 1 else 0),H,I.tok _,⟨_,rfl⟩,q⟩
end
end L2
namespace L2
open PySem PySem.Spec PyProof.Rows
theorem Gv{h:Heap}{dx:Addr}{mA:Str->Option Value}(n:h.Ns1 dx mA):∃od,h.get? dx=some od/\∀name,PySem.W.lookIn name od=some (mA name):=by
 obtain⟨o,es,ep,ho,hd,hk,_,hm⟩:=n;refine⟨o,ho,fun name=>?_⟩;have e:=hm name;unfold nsFind findBy at e;rw[<-Array.find?_toList]at e;unfold PySem.W.lookIn;rw[hd];dsimp only;split
 · rename_i y q
   rw[q]at e;exact f7 some e
 · rename_i q
   rw[q]at e;have a:es.toList.any (·.refKey)=false:=by rw[List.any_eq_false];intro y hy;obtain⟨z,t,HS⟩:=hk y (Array.mem_toList_iff.mp hy);simp[DictEntry.refKey,HS]
   have a':¬es.toList.any (·.refKey)=true:=by rw[a];exact ba
   rw[aC a'];exact f7 some e
section
variable {prog:M7}{w:World}{A:M9}{E:Value->M6->Prop}{s:M6}{K:M5}{x dx C f:Addr}{mA:Str->Option Value}{name:Str}{v:Value}
end
section
variable {P:M7}{w:World}{H H':Hp}{h h':Heap}{a C dx:Addr}{fs jQ:List (Str×V)}
end
section
variable {X:Cx}{pins:List (Addr×Obj)}{σ:St}{H:Hp}{s:M6}{a C dx:Addr}{fs:List (Str×V)}{f:Str}{v:V}{A:M9}{E:Value->M6->Prop}
theorem Ky{prog:M7}{w:World}{env:Env}{e:Expr}{f:Str}{pos:Pos}{s:M6}{Q:Value->M6->Prop}(hb:attributeBase e f env (eval e env)=eval e env) (h:wpAny (model prog w) A (eval e env) (fun o s₁=>wpAny (model prog w) A (getAttr o f true) Q E s₁) E s):wpAny (model prog w) A (eval (.Attribute e f pos) env) Q E s:=Attribute_any_ h (by rw[arm_eval_Attribute,hb])
end
section
variable {X:Cx}{o e value:Expr}{f:Str}{pos pos' pK:Pos}{ta tv:TE}
end
section
variable {X:Cx}{pins:List (Addr×Obj)}{σ:St}{H:Hp}{s:M6}{A:M9}{E:Value->M6->Prop}{Q:Value->M6->Prop}{c:Value}{b:Bool}
end
end L2
namespace L2
open PySem PySem.Spec PyProof.Rows
structure bo(k:Nat)(A:M9):Prop where
 hd:A.handled=none
 dp:A.depth+3*k+5<recursionLimit
 un:A.units+16*k+200<cLine
theorem bo.mono{j k:Nat}{A:M9}(r:bo k A)(h:j<=k):bo j A:=⟨r.hd,by have:=r.dp;omega,by have:=r.un;omega⟩
theorem bo.deeper{k:Nat}{A:M9}(r:bo (k+1) A)(env:Env):bo k (A.deeper env):=⟨r.hd,by have:=r.dp;show A.depth+1+3*k+5<_;omega,by have:=r.un;show A.units+3+16*k+200<_;omega⟩
theorem Gh{A:M9}{C:Addr}{us:List Value}{kw:List (Str×Value)}:(A.under (.builtin "type.__call__" ⟨.ref C::us,kw⟩)).depth=A.depth+1:=by first|rfl|simp[Around.under,Code.weight,Code.isCreation,Code.isGuard,Code.isCaller,Code.frames,Code.isFrame,guardIds]
theorem Gg{A:M9}{C:Addr}{us:List Value}{kw:List (Str×Value)}:(A.under (.builtin "type.__call__" ⟨.ref C::us,kw⟩)).units=A.units+1:=by first|rfl|simp[Around.under,Code.cUnits,Code.frames,Code.isFrame]
theorem bo.make{k:Nat}{A:M9}(r:bo (k+1) A)(C:Addr)(us:List Value)(kw:List (Str×Value)):bo k (A.under (.builtin "type.__call__" ⟨.ref C::us,kw⟩)):=⟨r.hd,by have:=r.dp;rw[Gh];omega,by have:=r.un;rw[Gg];omega⟩
theorem bo.depth{k:Nat}{A:M9}(r:bo k A):A.depth<recursionLimit:=by have:=r.dp;omega
theorem bo.units{k:Nat}{A:M9}(r:bo k A):A.units+64<cLine:=by have:=r.un;omega
def CK:TA:=fun _ H Q=>Q [] H
def CW(ta:TE)(tr:TA):TA:=fun σ H Q=>ta σ H fun x H1=>tr σ H1 fun xs H2=>Q (x::xs) H2
section
variable {X:Cx}{e:Expr}{es:List Expr}{te:TE}{t:TA}{pos:Pos}
theorem a8:PA X [] CK:=fun _ _ _ _ H Q I h=>Calls.spliced_nil ⟨[],H,I,.nil,h⟩
theorem a7(ha:PE X e te)(hr:PA X es t)(hs:starEach (e::es) X.env=(false,eval e X.env)::starEach es X.env:=by rfl):PA X (e::es) (CW te t):=by intro pos pins s σ H Q I h;rw[hs];show wpAny _ _ (spliced ((false,eval e X.env)::backTo pos (starEach es X.env))) _ _ s;refine Calls.spliced_cons (ak (ha pins s σ H _ I h) fun u s1 ⟨x,H1,I1,r1,q1⟩=>?_);exact ak (hr pos pins s1 σ H1 _ I1 q1) fun us s2 ⟨xs,H2,I2,r2,q2⟩=>⟨x::xs,H2,I2,.cons r1 r2,q2⟩
end
abbrev Sp:=List V->Hp->VK->XK->Prop
abbrev f6:=List Env->Hp->M6->XK->Value->M6->Prop
structure gU(P:M7)(w:World)(K:M5)(mg:Str->Option Value)(base:Heap)(A:M9)(outer:List Env)(s:M6)(H:Hp):Prop where
 frames:A.frames=some outer
 mod:Mod K mg base
 bs:∀b o,base.get? b=some o->s.heap.get? b=some o/\H b=none
 bsz:base.objs.size<=s.heap.objs.size
 dJ:s.heap.FunFrames base outer
 frf:∀b∈bK outer,H b=none
 hok:bq P w H s.heap
 bare:AllBare s.gens
def CE(outer:List Env)(P:M7)(w:World)(H:Hp)(s:M6)(Q:VK)(u:Value)(s':M6):Prop:=∃v H',s'.os=s.os/\AllBare s'.gens/\Un (bK outer) [] H H' s.heap s'.heap/\bq P w H' s'.heap/\RelV v u/\Q v H'
def CR(CX:f6)(outer:List Env)(P:M7)(w:World)(H:Hp)(s:M6)(Q:VK)(E:XK)(r:Result)(s':M6):Prop:=match r with | .ok (.ret u)=>CE outer P w H s Q u s' | .ok _=>False | .error e=>CX outer H s E e s'
structure dZ(P:M7)(w:World)(K:M5)(mg:Str->Option Value)(base:Heap)(CX:f6)(k:Nat)(f:Addr)(fd:FuncData)(ps:List Str)(sp:Sp):Prop where
 len:∀vs H Q E,sp vs H Q E->vs.length=ps.length
 run:∀(A:M9)(outer:List Env)(s:M6)(H:Hp)(args:Args)(us:List Value)(vs:List V)(Q:VK)(E:XK),bo k A->gU P w K mg base A outer s H->BindsTo s fd args (ps.zip us)->Vals vs us->sp vs H Q E->codeAny (model P w) A (.call (.ref f) args) (CR CX outer P w H s Q E) s
theorem gU.make{P:M7}{w:World}{K:M5}{mg:Str->Option Value}{base:Heap}{A:M9}{outer:List Env}{s:M6}{H:Hp}(e:gU P w K mg base A outer s H)(C:Addr)(us:List Value)(kw:List (Str×Value)): gU P w K mg base (A.under (.builtin "type.__call__" ⟨.ref C::us,kw⟩)) outer s H:=⟨by first|exact e.frames|(simpa[Around.under,Code.envs,Code.isFrame,pushEnvs]using e.frames),e.mod,e.bs,e.bsz,e.dJ,e.frf,e.hok,e.bare⟩
section
variable {X:Cx}{pins:List (Addr×Obj)}{σ:St}{H:Hp}{s s':M6}
theorem Inv.tj(I:Inv X pins σ H s):gU X.prog X.w X.K X.mg X.base X.A X.stack s H:=⟨I.ok.frames,I.ok.mod,I.bs,bG I.ok.bsz I.sz,I.stack,I.mR,I.hok,I.bare⟩
theorem Inv.after{Q:VK}{u:Value}(I:Inv X pins σ H s)(h:CE X.stack X.prog X.w H s Q u s'):EP X pins σ Q u s':=by obtain⟨v,H',os,bare,un,hok,r,q⟩:=h;obtain⟨hh,g,d,t,Es⟩:=s';obtain rfl:Es=s.os:=os;exact⟨v,H',I.call (h':=hh) (g':=g) (d':=d) (t':=t) (ch:=[]) un hok bare (fun b z=>absurd z (by simp)),r,q⟩
end
def CY(sp:Sp)(ip:List V)(E:XK)(t:TA):TE:=fun σ H Q=>t σ H fun vs H1=>sp (vs++ip) H1 Q E
def Binds(K:M5)(fd:FuncData)(ps:List Str)(ds:List Value):Prop:=∀(s:M6)(us:List Value),K.In s.heap->(us++ds).length=ps.length->BindsTo s fd ⟨us,[]⟩ (ps.zip (us++ds))
theorem Binds.all{K:M5}{fd:FuncData}{ps:List Str}(h:∀us:List Value,us.length=ps.length->bindArgs fd ⟨us,[]⟩=pure (ps.zip us)):Binds K fd ps []:=fun s us _ hl=>by rw[jn]at hl⊢;exact .of_eq (h us hl)
def Passes(CX:f6)(X:Cx)(E:XK):Prop:=∀(pins:List (Addr×Obj))(σ:St)(H:Hp)(s:M6)(e:Value)(s':M6),Inv X pins σ H s->CX X.stack H s E e s'->X.xe e s'
section
variable {X:Cx}{CX:f6}{k:Nat}{f C:Addr}{fd:FuncData}{ps:List Str}{sp:Sp}{ip:List V}{ds:List Value}{E:XK}{x m:Str}{p pos apos:Pos}{e o:Expr}{es:List Expr}{ta:TE}{t:TA}
theorem Dw{pins:List (Addr×Obj)}{σ:St}{H:Hp}{s:M6}{Q:VK}{us:List Value}{vs:List V}(F:dZ X.prog X.w X.K X.mg X.base CX k f fd ps sp)(hr:bo k X.A)(hb:Binds X.K fd ps ds)(hd:Vals ip ds)(hx:Passes CX X E) (I:Inv X pins σ H s)(r:Vals vs us)(h:sp (vs++ip) H Q E):wpAny (model X.prog X.w) X.A (call (.ref f) us) (EP X pins σ Q) X.xe s:=by
  have r2:Vals (vs++ip) (us++ds):=r.append hd;have hl:(us++ds).length=ps.length:=by rw[<-r2.length];exact F.len _ _ _ _ h
  refine kg (p6 (F.run X.A X.stack s H ⟨us,[]⟩ (us++ds) (vs++ip) Q E hr I.tj (hb s us I.cM hl) r2 h) fun r s' hq=>?_);cases r with |error e=>exact hx pins σ H s e s' I hq |ok fl=>cases fl with |ret u=>exact I.after hq |next=>exact False.elim hq |brk=>exact False.elim hq |cont=>exact False.elim hq
theorem wX(F:dZ X.prog X.w X.K X.mg X.base CX k f fd ps sp)(hr:bo k X.A)(hg:Gl X x)(hm:X.mg x=some (.ref f))(hk:PySem.W.keepIn X.K (.ref f)=true)(hb:Binds X.K fd ps ds)(hd:Vals ip ds)(hx:Passes CX X E) (ha:PA X (e::es) t)(dW:(x==("__debug__":Str))=false:=by decide)(he:starEach (e::es) X.env=(false,eval e X.env)::starEach es X.env:=by rfl)(cX:(backTo pos (starEach es X.env)).any (·.1)=false:=by rfl): PE X (.Call (.Name x p) (e::es) [] pos) (CY sp ip E t):=by intro pins s σ H Q I h;refine uf (lh I hg hm ?_ dW);refine PySem.W.callWith_K (h₀:=X.base) I.ok.mod.kin hk (ak (ha pos pins s σ H _ I h) fun us s1 ⟨vs,H1,I1,r,q⟩=>⟨I1.cM,?_⟩) he cX;exact Dw F hr hb hd hx I1 r q
end
section
variable {X:Cx}{CX:f6}{k:Nat}{f C:Addr}{fd:FuncData}{ps ks:List Str}{sp:Sp}{E:XK}{x m:Str}{p pos apos LA:Pos}{e o:Expr}{es:List Expr}{Lz:List Keyword}{te ta:TE}{t tk:TA}{nm:Option Str}
variable {g:List Value->List Value->List Value}{gV:List V->List V->List V}
end
structure aW(N P:List Str)(sc:Scope):Prop where
 kind:sc.kind= .function
 co:sc.isCoroutine=false
 gen:sc.isGenerator=false
 nd:N.Nodup
 pre:N.take P.length=P
 par:∀x∈P,sc.names.lookup x=some .local\/sc.names.lookup x=some .cell
 nofree:∀y∈sc.names,y.2≠ .free
theorem zK{kindOf:Str->Option NameKind}{x:Str}:∀{binds:List (Str×Value)}{m:Str->Option Value},(∀v,(x,v)∉binds)->bindL kindOf binds m x=m x
  |[],_,_=>rfl |(n,v)::r,m,h=>by
    unfold bindL;rw[zK fun w hw=>h w (pj _ hw)];split
    · have:x≠n:=by rintro rfl;exact h v uC
      simp[this]
    ·rfl
theorem zM{kindOf:Str->Option NameKind}{x:Str}:∀{binds:List (Str×Value)}{m:Str->Option Value},(∀v,(x,v)∉binds)->bindC kindOf binds m x=m x
  |[],_,_=>rfl |(n,v)::r,m,h=>by
    unfold bindC;rw[zM fun w hw=>h w (pj _ hw)];split
    ·rfl
    · have:x≠n:=by rintro rfl;exact h v uC
      simp[this]
theorem zL{kindOf:Str->Option NameKind}{x:Str}{v:Value}:∀{P:List Str}{vs:List Value}{i:Nat}{m:Str->Option Value},P.Nodup->P[i]? =some x->vs[i]? =some v->kindOf x=some .local->bindL kindOf (P.zip vs) m x=some v |[],_,_,_,_,h,_,_=>by simp at h |_::_,[],_,_,_,_,h,_=>by simp at h |p::P,w::vs,0,m,nd,h1,h2,hk=>by simp at h1 h2;subst h1;subst h2;show bindL kindOf ((p,w)::P.zip vs) m p=_;unfold bindL;rw[zK fun v hv=>(uz.mp nd).1 (ph hv).1,aH hk];simp |p::P,w::vs,i+1,m,nd,h1,h2,hk=>by show bindL kindOf ((p,w)::P.zip vs) m x=_;unfold bindL;exact zL (i:=i) (uz.mp nd).2 (by simpa using h1) (by simpa using h2) hk
theorem zN{kindOf:Str->Option NameKind}{x:Str}{v:Value}:∀{P:List Str}{vs:List Value}{i:Nat}{m:Str->Option Value},P.Nodup->P[i]? =some x->vs[i]? =some v->kindOf x≠some .local->bindC kindOf (P.zip vs) m x=some v |[],_,_,_,_,h,_,_=>by simp at h |_::_,[],_,_,_,_,h,_=>by simp at h |p::P,w::vs,0,m,nd,h1,h2,hk=>by simp at h1 h2;subst h1;subst h2;show bindC kindOf ((p,w)::P.zip vs) m p=_;unfold bindC;rw[zM fun v hv=>(uz.mp nd).1 (ph hv).1,aC hk];simp |p::P,w::vs,i+1,m,nd,h1,h2,hk=>by show bindC kindOf ((p,w)::P.zip vs) m x=_;unfold bindC;exact zN (i:=i) (uz.mp nd).2 (by simpa using h1) (by simpa using h2) hk
def start(N:List Str)(vs:List V):St:=vs.map some++List.replicate (N.length-vs.length) none
def dm(CX:f6)(P:M7)(w:World)(K:M5)(mg:Str->Option Value)(base:Heap)(N:List Str)(qual:Str)(scope:Scope)(f:Addr)(cd:Value)(A:M9)(outer:List Env)(s:M6)(H:Hp)(E:XK):Cx where
 prog:=P
 w:=w
 K:=K
 mg:=mg
 base:=base
 A:=A.deeper (envOfC qual scope s.heap.objs.size f cd)
 N:=N
 s₀:=s
 H₀:=H
 env:=envOfC qual scope s.heap.objs.size f cd
 outer:=outer
 stack:=envOfC qual scope s.heap.objs.size f cd::outer
 ex:=[]
 calm:=true
 fn:=fun _=>true
 pn:=[]
 xe:=fun e s'=>wpAny (model P w) (A.deeper (envOfC qual scope s.heap.objs.size f cd)) (leaving (envOfC qual scope s.heap.objs.size f cd) e) (fun _ qF=>CX outer H s E e qF) (fun e' qF=>CX outer H s E e' qF) s'
theorem zD{sc:Scope}{n:Nat}{x:Str}(h:sc.names.lookup x=some .cell):∃c,(cellsFrom n sc.names []).lookup x=some c:=by have q:=uj sc.names n [] (.inl h);exact Option.isSome_iff_exists.mp q
theorem rZ{CX:f6}{P:M7}{w:World}{K:M5}{mg:Str->Option Value}{base:Heap}{N ps:List Str}{qual:Str}{scope:Scope}{f:Addr}{cd:Value}{A:M9}{outer:List Env}{s s1:M6}{H:Hp}{E:XK}{us:List Value}{vs:List V} (S:aW N ps scope)(hd:A.handled=none)(e0:gU P w K mg base A outer s H)(hl:vs.length=ps.length)(r:Vals vs us) (x:InCallC s s.heap.objs.size (bindL (envOfC qual scope s.heap.objs.size f cd).kindOf (ps.zip us) fun _=>none) (cellsFrom (s.heap.objs.size+1) scope.names []) (bindC (envOfC qual scope s.heap.objs.size f cd).kindOf (ps.zip us) fun _=>none) s1): Inv (dm CX P w K mg base N qual scope f cd A outer s H E) [] (start N vs) H s1:=by
  have cX:ps.length<=N.length:=by have:=f7 List.length S.pre;rw[gY]at this;omega
  obtain⟨h1,tk,rfl,hk⟩:=x.done;have l4:∀b:Addr,b∉(dm CX P w K mg base N qual scope f cd A outer s H E).ex:=fun b z=>absurd (show b∈([]:List Addr)from z) (by simp);refine⟨⟨e0.mod,S.kind,rfl,rfl,aD _,fun y z c h1 h2=>?_,fun y hy=>?_,fun y c _ h=>?_,fun _=>hd,Around.frames_deeper e0.frames,.inr ⟨rfl,rfl⟩,fun b z=>absurd z (l4 b),e0.bs,e0.bsz,fun b _ _=>l4 b,fun b z=>absurd z (l4 b),e0.dJ,e0.frf⟩,rfl,e0.bare,Un.kept hk,⟨_,x.toInCall.ns,fun i y v h1 h2 h3=>?_⟩,fun y c h=>⟨_,x.cell y c h⟩,e0.hok.fresh (aD _),fun y c h=>?_,fun p hp=>absurd (show p∈([]:List (Addr×Obj))from hp) (by simp),e0.hok.kept hk,?_⟩
  ·exact name_of_addr x.apart (p7 h1) (p7 h2)
  · have hy:scope.names.lookup y=some .cell\/scope.names.lookup y=some .free:=hy
    rcases hy with hy|hy
    ·exact zD hy
    ·exact absurd rfl (S.nofree _ (p7 hy))
  ·exact uw (x.above y c (p7 h))
  · have hi:i<vs.length:=by
      unfold start at h2;by_cases hi:i<vs.length
      ·exact hi
      · rw[List.getElem?_append_right (by simpa using hi)]at h2
        rw[List.getElem?_replicate]at h2;split at h2<;>cases h2
    have ha:vs[i]? =some v:=by unfold start at h2;rw[BM (by simpa using hi),cg]at h2;cases e:vs[i]? with |none=>rw[e]at h2;cases h2 |some a=>rw[e]at h2;cases h2;rfl
    obtain⟨u,hu,rv⟩:=r.get ha;have hp:ps[i]? =some y:=by rw[<-S.pre,List.getElem?_take_of_lt (by omega)];exact h1
    have xF:ps.Nodup:=by rw[<-S.pre];exact S.nd.sublist (List.take_sublist _ _)
    refine⟨u,rv,?_⟩;rcases S.par y (eL hp)with k|k
    ·exact .inl ⟨k,zL xF hp hu k⟩
    · obtain⟨c,e⟩:=zD (n:=s.heap.objs.size+1) k
      refine .inr ⟨.inl k,c,e,?_⟩;have q:=x.cell y c e;rw[zN xF hp hu (by show scope.names.lookup y≠_;rw[k];decide)]at q;exact q
  ·exact e0.hok.fresh (uw (x.above y c (p7 h)))
  · unfold start
    show _=N.length;rw[de,aF,List.length_replicate];omega
theorem yW{CX:f6}{P:M7}{w:World}{K:M5}{mg:Str->Option Value}{base:Heap}{k:Nat}{f:Addr}{name qual:Str}{params:Arguments}{body:List Stmt}{scope:Scope}{dV kV doc pm ah ct oc:Value}{an od:Option Addr} {bX:Array (Option Value)}{N ps:List Str}{sp:Sp}(lk:K.lookup f=some ⟨oc,od,.func (PySem.W.fnOf name qual params body scope dV kV doc pm an ah ct),bX⟩)(bO:PySem.W.codeIn K ah qual=true)(S:aW N ps scope) (len:∀vs H Q E,sp vs H Q E->vs.length=ps.length) (dX:∀(A:M9)(outer:List Env)(s:M6)(H:Hp)(vs:List V)(Q:VK)(E:XK),bo k (A.deeper (envOfC qual scope s.heap.objs.size f ah))->sp vs H Q E->∃t,cF (dm CX P w K mg base N qual scope f ah A outer s H E) body t/\t {nx:=fun _ H'=>Q .au H',rt:=Q} (start N vs) H): dZ P w K mg base CX (k+1) f (PySem.W.fnOf name qual params body scope dV kV doc pm an ah ct) ps sp:=by
  refine⟨len,fun A outer s H args us vs Q E hr e0 hb r bD=>?_⟩;have hl:=len _ _ _ _ bD;have KX:K.In s.heap:=e0.mod.kin.keeps fun b o e=>(e0.bs b o e).1;have lim:s.heap.NoLimit:=e0.mod.nolimit.keeps fun b o e=>(e0.bs b o e).1;have fM:∀y∈ps.zip us,scope.names.lookup y.1=some .local\/(scope.names.lookup y.1=some .cell/\((cellsFrom (s.heap.objs.size+1) scope.names []).lookup y.1).isSome=true):=fun⟨n,v⟩ hy=>by
   rcases S.par n (ph hy).1 with q|q
   ·exact .inl q
   ·exact .inr ⟨q,uj _ _ _ (.inl q)⟩
  refine Bx hr.depth (KX _ _ lk) rfl S.co S.gen rfl (BA KX bO) (hb _ _ _ _ ?_);refine Bt S.kind fM fun env he s1 x=>?_;subst he;refine⟨lim.keeps x.toInCall.keep,codeAny_func ?_⟩;obtain⟨t,ht,hq⟩:=dX A outer s H vs Q E (hr.deeper _) bD;have I:Inv (dm CX P w K mg base N qual scope f ah A outer s H E) [] (start N vs) H s1:=rZ S hr.hd e0 hl r x;refine dy (ht [] s1 (start N vs) H _ I hq) (fun fl s' hs=>?_) fun e s' hs=>hs;have fin:∀{σ':St}{H':Hp}{v:V}{u:Value},Inv (dm CX P w K mg base N qual scope f ah A outer s H E) [] σ' H' s'->RelV v u->Q v H'->CE outer P w H s Q u s':=fun{σ' H' v u} J rv q=>⟨v,H',J.os,J.bare,J.base,J.hok,rv,q⟩;cases fl with |ret u=>obtain⟨v,σ',H',J,rv,q⟩:=hs;exact fin J rv q |next=>obtain⟨σ',H',J,q⟩:=hs;exact fin (v:=V.au) (u:=Value.none) J rfl q |brk=>obtain⟨_,_,_,q⟩:=hs;exact False.elim q |cont=>obtain⟨_,_,_,q⟩:=hs;exact False.elim q
section
variable {X:Cx}{x:Str}{p pos:Pos}{e:Expr}{es:List Expr}{t:TA}{id T:String}{r:List V->Hp->VK->Prop}
def mK(r:List V->Hp->VK->Prop)(t:TA):TE:=fun σ H Q=>t σ H fun vs H1=>r vs H1 Q
theorem cm(hc:bM X (.builtin id) r)(hg:Gl X x)(hm:X.mg x=none)(hv:bootBuiltins x=some (.builtin id))(ha:PA X (e::es) t)(hn:x≠"__name__":=by decide)(dW:(x==("__debug__":Str))=false:=by decide) (he:starEach (e::es) X.env=(false,eval e X.env)::starEach es X.env:=by rfl)(cX:(backTo pos (starEach es X.env)).any (·.1)=false:=by rfl):PE X (.Call (.Name x p) (e::es) [] pos) (mK r t):=by intro pins s σ H Q I h;refine uf (ll I hg hm hv ?_ hn dW);exact PyProof.Rows.callWith_builtin1 (ak (ha pos pins s σ H _ I h) fun us s1 ⟨vs,H1,I1,r1,q1⟩=>hc pins s1 σ H1 vs us Q I1 r1 q1) he cX
theorem eP(hc:bM X (.type T) r)(hg:Gl X x)(hm:X.mg x=none)(hv:bootBuiltins x=some (.type T))(ha:PA X (e::es) t)(hn:x≠"__name__":=by decide)(dW:(x==("__debug__":Str))=false:=by decide) (he:starEach (e::es) X.env=(false,eval e X.env)::starEach es X.env:=by rfl)(cX:(backTo pos (starEach es X.env)).any (·.1)=false:=by rfl):PE X (.Call (.Name x p) (e::es) [] pos) (mK r t):=by intro pins s σ H Q I h;refine uf (ll I hg hm hv ?_ hn dW);exact BF (ak (ha pos pins s σ H _ I h) fun us s1 ⟨vs,H1,I1,r1,q1⟩=>hc pins s1 σ H1 vs us Q I1 r1 q1) he cX
end
end L2
namespace HT
open PySem PyProof.Rows
section
open PySem.SeqAt
open PySem.AutoSeq1 (wpAny_loadPart')
open PySem.MeetsSeq PySem.MeetsSeq2 PySem.MeetsSeq3
end
section
variable {prog:M7}{w:World}{A:M9}{E:Value->M6->Prop}{s:M6}
theorem Ke{t b:Addr}{vs ws:List Value}{Q:Value->M6->Prop}(ht:IsTup s.heap t vs.toArray)(hb:IsTup s.heap b ws.toArray)(hv:vs≠[]) (h1:ws=[]->Q (.ref t) s)(h2:ws≠[]->Q (.ref s.heap.objs.size) {s with heap:=s.heap.push {cls:=.type "tuple",data:=.seq (vs++ws).toArray}}) (hsz:vs.length+ws.length<=sizeLine):wpAny (model prog w) A (binaryOp .Add (.ref t) (.ref b)) Q E s:=by
  obtain⟨⟨cls,dd,data,sl⟩,ho,hc,n,hd⟩:=id ht;obtain⟨⟨zA,jW,data2,ju⟩,gn,cq,n2,hd2⟩:=id hb;simp only at hc hd cq hd2;subst hc hd cq hd2;have e:vs.toArray++ws.toArray=(vs++ws).toArray:=by simp
  by_cases hw:ws=[]
  ·exact concat_meets ⟨_,ho,rfl⟩ ⟨_,gn,rfl⟩ noFill_tuple_add seq_tuple_add BB BC (BD _ _) (tuple_addW1 t b vs.toArray ws.toArray n n2 dd jW sl ju (by simpa using hv) (by simp[hw])) ⟨ho,gn,h1 hw⟩
  · refine concat_meets ⟨_,ho,rfl⟩ ⟨_,gn,rfl⟩ noFill_tuple_add seq_tuple_add BB BC (BD _ _) (tuple_addW2 t b vs.toArray ws.toArray n n2 dd jW sl ju (by simpa using hv) (by simpa using hw) (by rw[bC,bC];exact hsz)) ⟨ho,gn,?_⟩;rw[e];exact h2 hw
def aI(n d:Nat):Option Int->Nat |none=>d |some v=>if v<0 then(v+(n:Int)).toNat else min v.toNat n
theorem qt (n d:Nat):aI n d none=d:=rfl
theorem qu(n d k:Nat):aI n d (some (k:Int))=min k n:=by show(if(k:Int)<0 then((k:Int)+(n:Int)).toNat else min (k:Int).toNat n)=min k n;rw[aC (by omega),BQ]
theorem Dt(n d:Nat)(hd:d<=n)(o:Option Int):aI n d o<=n:=by cases o with |none=>exact hd |some v=>
   show(if v<0 then(v+(n:Int)).toNat else min v.toNat n)<=n;by_cases hv:v<0
   ·rw[aH hv];omega
   ·rw[aC hv];exact Nat.min_le_right _ _
theorem oK(v:Int)(n d:Nat):(if v<0 then max (v+(n:Int)) 0 else min v (n:Int))=((aI n d (some v):Nat):Int):=by
 show(if v<0 then max (v+(n:Int)) 0 else min v (n:Int))=(((if v<0 then(v+(n:Int)).toNat else min v.toNat n):Nat):Int);by_cases hv:v<0
 ·simp only[aH hv];omega
 ·simp only[aC hv];omega
theorem KI(lo hi:Option Int)(n:Nat):Builtin.Slice.sliceAdjust lo hi 1 (n:Int)=(((aI n 0 lo:Nat):Int),((aI n n hi:Nat):Int)):=by
 have h1:¬((1:Int)<0):=by omega
 unfold Builtin.Slice.sliceAdjust;simp only[h1,if_false];refine Prod.ext ?_ ?_
 ·cases lo with |none=>rfl |some v=>exact oK v n 0
 ·cases hi with |none=>rfl |some v=>exact oK v n n
theorem E8(i j:Nat):Builtin.Slice.slicePlaces (i:Int) (j:Int) 1=j-i:=by
 unfold Builtin.Slice.slicePlaces;have h1:(1:Int)>0:=by omega
 simp only[h1,iC,Int.ediv_one];split<;>omega
theorem vL{v:Value}{o:Option Int}{Q:Option Int->M6->Prop}(p:IsPart v o)(h:Q o s):wpAny (model prog w) A (Builtin.Slice.slicePartIndex v) Q E s:=by cases p with |none=>exact slicePart_none h |int i t=>exact slicePart_int h
theorem De{sl:Addr}{vl vu:Value}{lo hi:Option Int}{n:Nat}{Q:Int×Int×Nat->M6->Prop}(hs:s.heap.IsSliceOf sl vl vu .none)(pl:IsPart vl lo)(pu:IsPart vu hi) (h:Q (((aI n 0 lo:Nat):Int),1,aI n n hi-aI n 0 lo) s):wpAny (model prog w) A (Builtin.Slice.sliceApplied (.ref sl) (pure (n:Int))) Q E s:=by obtain⟨os,lI,oj,ic⟩:=id hs;unfold Builtin.Slice.sliceApplied Builtin.Slice.sliceFields;refine ag (ag (gB lI ic (x:=vl) rfl (ag (gB lI ic (x:=vu) rfl (ag (gB lI ic (x:=.none) rfl (aM ?_)))))));refine ag (slicePart_none ?_);show wpAny _ _ (if((1:Int)==0)=true then _ else _) _ _ s;rw[aC (by decide)];refine ag (vL pl (ag (vL pu (ag (aM ?_)))));show wpAny _ _ (match Builtin.Slice.sliceAdjust lo hi 1 (n:Int)with|(lo,hi)=>pure (lo,(1:Int),Builtin.Slice.slicePlaces lo hi 1)) _ _ s;rw[KI lo hi n];show wpAny _ _ (pure (((aI n 0 lo:Nat):Int),(1:Int),Builtin.Slice.slicePlaces ((aI n 0 lo:Nat):Int) ((aI n n hi:Nat):Int) 1)) _ _ s;rw[E8];exact aM h
theorem Ea(xs:Array Value)(i k:Nat):((List.range k).filterMap fun(m:Nat)=>xs[((i:Int)+(m:Int)*1).toNat]?).toArray=((xs.toList.drop i).take k).toArray:=by
 have e:(fun(m:Nat)=>xs[((i:Int)+(m:Int)*1).toNat]?)=fun m=>xs[i+m]?:=by
  funext m;have:((i:Int)+(m:Int)*1).toNat=i+m:=by omega
  rw[this]
 rw[e];have:=pick_run xs i k;rw[List.filterMap_map]at this;have e2:((fun x=>xs[x]?)∘fun x=>i+x)=fun m=>xs[i+m]?:=rfl;rw[e2]at this;rw[this]
theorem Jm{t sl:Addr}{items:Array Value}{vl vu:Value}{lo hi:Option Int}{Q:Value->M6->Prop}(ht:IsTup s.heap t items)(hs:s.heap.IsSliceOf sl vl vu .none)(pl:IsPart vl lo)(pu:IsPart vu hi) (hw:¬(aI items.size 0 lo=0/\aI items.size items.size hi=items.size)) (h:Q (.ref s.heap.objs.size) {s with heap:=s.heap.push {cls:=.type "tuple",data:=.seq ((items.toList.drop (aI items.size 0 lo)).take (aI items.size items.size hi-aI items.size 0 lo)).toArray}}) (hsz:items.size<=sizeLine):wpAny (model prog w) A (getItem (.ref t) (.ref sl)) Q E s:=by
  have nU:sizeOk (.seq ((items.toList.drop (aI items.size 0 lo)).take (aI items.size items.size hi-aI items.size 0 lo)).toArray):=by show((items.toList.drop (aI items.size 0 lo)).take (aI items.size items.size hi-aI items.size 0 lo)).toArray.size<=sizeLine;rw[bC,gY,mr,my];omega
  have hj:aI items.size items.size hi<=items.size:=Dt _ _ (aD _) hi;obtain⟨os,lI,oj,ic⟩:=id hs;have J6:s.TypeIs (.ref sl) "slice":=⟨os,lI,oj⟩;unfold getItem
  try with_reducible refine dN ?_
  first|refine ag (aM ?_)|skip
  refine ag (wpAny_sequenceKey ht.typeIs (by decide) ?_);refine ag (Bu (name:=Str.ofString "__getitem__") ht.typeIs BE (wpAny_call_entry BE ht.typeIs entry_tuple_getitem ?_ (args_tuple_getitem _ _)));show wpAny _ _ (Builtin.Tuple.tupleItemsOf (.ref t)>>=_) _ _ s;refine ag (tupleItemsOf_ ht ?_);refine ag (wpAny_typeOf J6 ?_);rw[aH (by decide)];refine ag (De hs pl pu ?_);have o8:¬((((aI items.size 0 lo:Nat):Int)==0&&(1:Int)==1&&(aI items.size items.size hi-aI items.size 0 lo)==items.size)=true):=by intro q;rw[bQ,bQ]at q;have q1:((aI items.size 0 lo:Nat):Int)=0:=eq_of_beq q.1.1;have q2:aI items.size items.size hi-aI items.size 0 lo=items.size:=eq_of_beq q.2;exact hw ⟨by omega,by omega⟩
  show wpAny _ _ (if(((aI items.size 0 lo:Nat):Int)==0&&(1:Int)==1&&(aI items.size items.size hi-aI items.size 0 lo)==items.size)=true then _ else _) _ _ s;rw[aC o8,Ea]
  first |exact ag (m:=Builtin.Tuple.tupleExact _) (iB (aM ⟨_,rfl,aM h⟩) nU) |exact ag (m:=Builtin.Tuple.tupleExact _) (iB (ag (aM (aM ⟨_,rfl,aM h⟩))) nU) |exact ag (ag (m:=Builtin.Tuple.tupleExact _) (iB (aM (aM ⟨_,rfl,aM h⟩)) nU)) |exact ag (ag (m:=Builtin.Tuple.tupleExact _) (iB (aM ⟨_,rfl,aM h⟩) nU))
end
end HT
namespace L2
open PySem PySem.Spec PyProof.Rows
abbrev TO:=St->Hp->(Option Int->Hp->Prop)->Prop
def PO(X:Cx)(e:Option Expr)(t:TO):Prop:=∀(pins:List (Addr×Obj))(s:M6)(σ:St)(H:Hp)(Q:Option Int->Hp->Prop),Inv X pins σ H s->t σ H Q->wpAny (model X.prog X.w) X.A (evalPart e X.env) (fun u s'=>∃o H',Inv X pins σ H' s'/\IsPart u o/\Q o H') X.xe s
def CJ:TO:=fun _ H Q=>Q none H
inductive Ac(Q:Option Int->Hp->Prop)(x:V)(H1:Hp):Prop |mk (i:_)(h0:x= .int i)(h1:Q (some i) H1):Ac Q x H1
def CF(t:TE):TO:=fun σ H Q=>t σ H fun x H1=>Ac Q x H1
section
variable {X:Cx}{e:Expr}{te:TE}{lo hi:Option Expr}{tl th:TO}{pos p2:Pos}
theorem cU:PO X none CJ:=by intro pins s σ H Q I h;rw[evalPart_none];exact aM ⟨none,H,I,.none,h⟩
theorem cC(h:PE X e te):PO X (some e) (CF te):=by intro pins s σ H Q I hw;rw[evalPart_some];refine ak (h pins s σ H _ I hw) fun u s1 ⟨x,H1,I1,r1,q1⟩=>?_;obtain⟨i,rfl,q⟩:=q1;obtain⟨t,rfl⟩:=r1;exact⟨some i,H1,I1,.int i t,q⟩
def m6(X:Cx)(r:V->Option Int->Option Int->Hp->VK->Prop):Prop:=∀(pins:List (Addr×Obj))(s:M6)(σ:St)(H:Hp)(x:V)(v vl vu:Value)(lo hi:Option Int)(sl:Addr)(Q:VK),Inv X pins σ H s->RelV x v->s.heap.IsSliceOf sl vl vu .none->IsPart vl lo->IsPart vu hi->r x lo hi H Q->∃T id,typeLookup (.type T) "__getitem__"=pure (some (.builtin id))/\s.TypeIs v T/\wpAny (model X.prog X.w) X.A (getItem v (.ref sl)) (EP X pins σ Q) X.xe s
def CA(r:V->Option Int->Option Int->Hp->VK->Prop)(te:TE)(tl th:TO):TE:=fun σ H Q=>te σ H fun x H1=>tl σ H1 fun l H2=>th σ H2 fun u H3=>r x l u H3 Q
theorem cL{r:V->Option Int->Option Int->Hp->VK->Prop}(hr:m6 X r)(he:PE X e te)(hl:PO X lo tl)(hu:PO X hi th):PE X (.Subscript e (.Slice lo hi none p2) pos) (CA r te tl th):=by intro pins s σ H Q I h;refine Subscript_ (ak (he pins s σ H _ I h) fun v s1 ⟨x,H1,I1,r1,q1⟩=>?_);refine wpAny_Slice (ak (hl pins s1 σ H1 _ I1 q1) fun vl s2 ⟨l,H2,I2,pl,q2⟩=>ak (hu pins s2 σ H2 _ I2 q2) fun vu s3 ⟨u,H3,I3,pu,q3⟩=>?_);rw[evalPart_none];refine aM ?_;have I4:Inv X pins σ H3 {s3 with heap:=s3.heap.push {cls:=.type "slice",data:=.fields #[vl,vu,.none]}}:=I3.kept (t':=s3.toks) fun b ob q=>bw _ q;obtain⟨T,id,hT,ht,hg⟩:=hr pins {s3 with heap:=s3.heap.push {cls:=.type "slice",data:=.fields #[vl,vu,.none]}} σ H3 x v vl vu l u s3.heap.objs.size Q I4 r1 (Heap.IsSliceOf.new ..) pl pu q3;show wpAny (model X.prog X.w) X.A (subscriptTail e (.Slice lo hi none p2) v (.ref s3.heap.objs.size)) (EP X pins σ Q) X.xe {s3 with heap:=s3.heap.push {cls:=.type "slice",data:=.fields #[vl,vu,.none]}};exact tail_any (ops:=[.ref s3.heap.objs.size,v]) ht hT hg (by with_unfolding_all rfl)
def cN(xs:List V)(lo hi:Option Int):List V:=(xs.drop (HT.aI xs.length 0 lo)).take (HT.aI xs.length xs.length hi-HT.aI xs.length 0 lo)
theorem zo(xs:List V)(lo hi:Option Int):(cN xs lo hi).length<=xs.length:=by unfold cN;rw[gY,mr];omega
inductive AS(K:M5)(x:V)(lo:Option Int)(hi:Option Int)(H:Hp)(Q:VK):Prop |mk (a:_)(xs:_)(h0:x= .ref a)(h1:az K H a xs)(h2:¬(HT.aI xs.length 0 lo=0/\HT.aI xs.length xs.length hi=xs.length))(h3:∀p,H p=none->Q (.ref p) (upd H p (.tup (cN xs lo hi)))):AS K x lo hi H Q
def DI(K:M5):V->Option Int->Option Int->Hp->VK->Prop:=fun x lo hi H Q=>AS K x lo hi H Q
theorem Df:m6 X (DI X.K):=by
 intro pins s σ H x v vl vu lo hi sl Q I rx hs pl pu h;obtain⟨a,xs,rfl,hx,hw,q⟩:=h;cases rx;obtain⟨its,r,ht,hz⟩:=I.tuple hx;have hlen:its.toArray.size=xs.length:=by rw[bC];exact r.length.symm
 refine⟨"tuple",_,BE.lookup,ht.typeIs,?_⟩;refine HT.Jm ht hs pl pu (by rw[hlen];exact hw) ?_ (by rw[hlen];exact hz);rw[hlen];refine⟨.ref s.heap.objs.size,_,I.laid (t':=s.toks) (o:=.tup (cN xs lo hi)) (fun b ob q=>bw _ q) (aD _) ?_,rfl,q _ (I.hok.fresh (aD _))⟩;exact⟨bG (zo xs lo hi) hz,_,(r.drop (HT.aI xs.length 0 lo)).take (HT.aI xs.length xs.length hi-HT.aI xs.length 0 lo),IsTup.new _ _⟩
theorem Vals.rC{xs:List V}{us:List Value}(r:Vals xs us):us=[]↔xs=[]:=by cases r with |nil=>simp |cons _ _=>simp
end
end L2
namespace L2
open PySem PySem.Spec PyProof.Rows
def gm(n:Nat)(i:Int):Option Nat:=if 0<=i then(if i<n then some i.toNat else none)else if-(n:Int)<=i then some (i+n).toNat else none
def cO{α:Type}(xs:List α)(i:Int):Option α:=(gm xs.length i).bind fun j=>xs[j]?
theorem y4{n:Nat}{i:Int}{j:Nat}(h:gm n i=some j):seqIndex? i n=some j/\j<n/\-(n:Int)<=i/\i<n:=by
 unfold gm at h;by_cases h0:0<=i
 · rw[aH h0]at h
   by_cases h1:i<n
   · rw[aH h1]at h
     have e:i.toNat=j:=cf h;exact⟨by rw[seqIndex_of h0 h1,e],by omega,by omega,h1⟩
   ·rw[aC h1]at h;cases h
 · rw[aC h0]at h
   by_cases h1:-(n:Int)<=i
   · rw[aH h1]at h
     have e:(i+n).toNat=j:=cf h;exact⟨by rw[seqIndex_neg (by omega) h1,e],by omega,h1,by omega⟩
   ·rw[aC h1]at h;cases h
theorem tT{α:Type}{xs:List α}{i:Int}{v:α}(h:cO xs i=some v):∃j,seqIndex? i xs.length=some j/\xs[j]? =some v/\j<xs.length/\-(xs.length:Int)<=i/\i<xs.length:=by unfold cO at h;cases e:gm xs.length i with |none=>rw[e]at h;cases h |some j=>rw[e]at h;obtain⟨h1,h2,h3,h4⟩:=y4 e;exact⟨j,h1,h,h2,h3,h4⟩
theorem KA{α:Type}{xs:List α}{j:Nat}{v:α}(h:xs[j]? =some v):cO xs (j:Int)=some v:=by
 have hj:j<xs.length:=(dA.mp h).1;have e:gm xs.length (j:Int)=some j:=by unfold gm;rw[aH (by omega),aH (by omega)];simp
 unfold cO;rw[e];exact h
def A0(b:Expr):Prop:=∀o i,subscripted b false o i=operate [o,i] (getItem o i)
def gR(X:Cx)(r:R2):Prop:=∀(value slice:Expr)(pins:List (Addr×Obj))(s:M6)(σ:St)(H:Hp)(x y:V)(v u:Value)(Q:VK),Inv X pins σ H s->RelV x v->RelV y u->r x y H Q->subscripted slice false v u=operate [v,u] (getItem v u)->wpAny (model X.prog X.w) X.A (subscriptTail value slice v u) (EP X pins σ Q) X.xe s
def m9(X:Cx)(id:String)(r:V->List V->Hp->VK->Prop):Prop:=∀(pins:List (Addr×Obj))(s:M6)(σ:St)(H:Hp)(x:V)(xs:List V)(v:Value)(us:List Value)(Q:VK),Inv X pins σ H s->RelV x v->Vals xs us->r x xs H Q->wpAny (model X.prog X.w) X.A (call (.builtin id) (v::us)) (EP X pins σ Q) X.xe s
section
variable {X:Cx}{a b:Expr}{ta tb:TE}{pos:Pos}
theorem gR.or{r r':R2}(h:gR X r)(h':gR X r'):gR X (fun x y H Q=>r x y H Q\/r' x y H Q):=by
 intro value slice pins s σ H x y v u Q I rx ry q hs;rcases q with q|q
 ·exact h value slice pins s σ H x y v u Q I rx ry q hs
 ·exact h' value slice pins s σ H x y v u Q I rx ry q hs
theorem kW{r:R2}(hr:gR X r)(ha:PE X a ta)(hb:PE X b tb)(hs:A0 b):PE X (.Subscript a b pos) (kI r ta tb):=by intro pins s σ H Q I h;exact Subscript_ (tO ha hb I h fun v u s2 x y H2 I2 rx ry q=>hr a b pins s2 σ H2 x y v u Q I2 rx ry q (hs _ _))
inductive B3(K:M5)(x:V)(y:V)(H:Hp)(Q:VK):Prop |mk (p:_)(xs:_)(i:_)(v:_)(h0:x= .ref p)(h1:y= .int i)(h2:aa K H p xs)(h3:cO xs i=some v)(h4:Q v H):B3 K x y H Q
def qM(K:M5):R2:=fun x y H Q=>B3 K x y H Q
inductive B1(K:M5)(x:V)(y:V)(H:Hp)(Q:VK):Prop |mk (p:_)(xs:_)(i:_)(v:_)(h0:x= .ref p)(h1:y= .int i)(h2:az K H p xs)(h3:cO xs i=some v)(h4:Q v H):B1 K x y H Q
def qL(K:M5):R2:=fun x y H Q=>B1 K x y H Q
inductive B2(x:V)(y:V)(H:Hp)(Q:VK):Prop |mk (z:_)(i:_)(c:_)(h0:x= .str z)(h1:y= .int i)(h2:z.length<=sizeLine)(h3:cO z.cps.toList i=some c)(h4:Q (.str ⟨#[c]⟩) H):B2 x y H Q
def DP:R2:=fun x y H Q=>B2 x y H Q
theorem GQ:gR X (qM X.K):=by
 intro value slice pins s σ H x y v u Q I rx ry h hs;obtain⟨p,xs,i,z,rfl,rfl,hq,he,q⟩:=h;cases rx;obtain⟨t,rfl⟩:=ry;obtain⟨its,r,pl,hz⟩:=I.list hq;obtain⟨j,h1,h2,h3,h4,h5⟩:=tT he;obtain⟨w,ew,qH⟩:=r.get h2;have hl:=r.length;have hn:=iV;have fin:EP X pins σ Q w s:=⟨z,H,I,qH,q⟩;by_cases h0:0<=i
 · have hj:i.toNat=j:=by rw[seqIndex_of h0 h5]at h1;exact cf h1
   exact item_listR pl.isList h0 (by omega) (by rw[hj];simpa using ew) fin hs
 · have hj:(i+(its.toArray.size:Int)).toNat=j:=by rw[seqIndex_neg (by omega) h4]at h1;rw[bC,<-hl];exact cf h1
   exact subscriptTail_builtinR (x:=w) pl.isList.typeIs slot_list_getitem.lookup (wpAny_getItem_list_neg (Q:=fun r s'=>r=w/\EP X pins σ Q r s') pl.isList (by omega) (by rw[bC]<;>omega) (by omega) (by rw[hj];simpa using ew) ⟨rfl,fin⟩) hs
theorem GP:gR X (qL X.K):=by intro value slice pins s σ H x y v u Q I rx ry h hs;obtain⟨p,xs,i,z,rfl,rfl,hq,he,q⟩:=h;cases rx;obtain⟨t,rfl⟩:=ry;obtain⟨its,r,pl,hz⟩:=I.tuple hq;obtain⟨j,h1,h2,h3,h4,h5⟩:=tT he;obtain⟨w,ew,qH⟩:=r.get h2;have hl:=r.length;have hn:=iV;have fin:EP X pins σ Q w s:=⟨z,H,I,qH,q⟩;exact subscriptTail_builtinR (x:=w) pl.typeIs slot_tuple_getitem.lookup (getItem_tuple (j:=j) (Q:=fun r s'=>r=w/\EP X pins σ Q r s') pl (by omega) (by omega) (by rw[bC,<-hl];exact h1) (by simpa using ew) ⟨rfl,fin⟩) hs
theorem nN:gR X DP:=by
 intro value slice pins s σ H x y v u Q I rx ry h hs;obtain⟨z,i,c,rfl,rfl,hz,he,q⟩:=h;obtain⟨t,rfl⟩:=rx;obtain⟨t',rfl⟩:=ry;obtain⟨j,h1,h2,h3,h4,h5⟩:=tT he;have hl:z.cps.toList.length=z.length:=by simp[Str.length]
 rw[hl]at h1 h4 h5;have hn:=iV;exact tail_any (mi s z t) slot_str_getitem.lookup (getItem_str (c:=c) (by have e1:decide (i< -(2^63:Int))=false:=bu (by omega);have e2:decide (i>=2^63)=false:=bu (by omega);rw[e1,e2,Bool.or_false]) (by rw[h1];simpa using h2) ⟨.str ⟨#[c]⟩,H,I.tok _,⟨_,rfl⟩,q⟩) hs
theorem Gf(its:List Value)(n j:Nat)(u:Value):Obj.mapSeq (·.setIfInBounds j u) {cls:=.type "list",data:=.seq its.toArray n}={cls:=.type "list",data:=.seq (its.set j u).toArray n}:=by simp[Obj.mapSeq]
theorem Inv.lst{pins:List (Addr×Obj)}{σ:St}{H:Hp}{s:M6}{p:Addr}{xs:List V}(I:Inv X pins σ H s)(h:H p=some (.lst xs)): ∃(its:List Value)(n:Nat),Vals xs its/\s.heap.get? p=some {cls:=.type "list",data:=.seq its.toArray n}/\xs.length<=sizeLine:=by obtain⟨z,its,n,r,e⟩:=I.hok p _ h;exact⟨its,n,r,e,z⟩
theorem Inv.Gq{pins:List (Addr×Obj)}{σ:St}{H:Hp}{s:M6}{p:Addr}{xs ys:List V}{its its':List Value}{n n':Nat}{f:Obj->Obj}(I:Inv X pins σ H s)(h:H p=some (.lst xs)) (ho:s.heap.get? p=some {cls:=.type "list",data:=.seq its.toArray n})(hf:f {cls:=.type "list",data:=.seq its.toArray n}={cls:=.type "list",data:=.seq its'.toArray n'})(r:Vals ys its')(hz:ys.length<=sizeLine)(t:Nat): Inv X pins σ (upd H p (.lst ys)) {s with heap:=s.heap.update p f,toks:=t}:=by
  have e:(s.heap.update p f).get? p=some {cls:=.type "list",data:=.seq its'.toArray n'}:=by rw[pC f ho (by rw[hf]<;>rfl),hf]
  refine I.write (x:=p) (e:=p) (by rw[h];trivial) (.inl rfl) (fun b u hb q=>(mw _ _ (f9 hb)).trans q) ⟨_,e⟩ ?_;exact⟨hz,its',n',r,e⟩
inductive AX(o:V)(i:V)(v:V)(H:Hp)(Q:Hp->Prop):Prop |mk (p:_)(xs:_)(k:_)(j:_)(h0:o= .ref p)(h1:i= .int k)(h2:H p=some (.lst xs))(h3:gm xs.length k=some j)(h4:Q (upd H p (.lst (xs.set j v)))):AX o i v H Q
def DM:V->V->V->Hp->(Hp->Prop)->Prop:=fun o i v H Q=>AX o i v H Q
theorem set_list:A1 X DM:=by
 intro pins s σ H o i v ov iv u Q I ro ri rv h;obtain⟨p,xs,k,j,rfl,rfl,hp,hj,q⟩:=h;cases ro;obtain⟨t,rfl⟩:=ri;obtain⟨its,n,r,ho,hz⟩:=I.lst hp;obtain⟨h1,h2,h3,h4⟩:=y4 hj;have hl:=r.length;have hn:=iV;have I':Inv X pins σ (upd H p (.lst (xs.set j v))) {s with heap:=s.heap.update p (Obj.mapSeq (·.setIfInBounds j u))}:=I.Gq hp ho (Gf its n j u) (r.set rv j) (by rw[List.length_set];exact hz) s.toks;by_cases h0:0<=k
 · have hk:k.toNat=j:=by rw[seqIndex_of h0 h4]at h1;exact cf h1
   exact PySem.W.ki_setAt ho h0 (by omega) (by rw[bC,<-hl];exact h4) (by rw[hk];exact⟨_,I',q⟩)
 · have hk:(k+(its.toArray.size:Int)).toNat=j:=by rw[seqIndex_neg (by omega) h3]at h1;rw[bC,<-hl];exact cf h1
   exact PySem.W.ki_setBack ho (by omega) (by rw[bC,<-hl];exact h3) (by omega) (by rw[hk];exact⟨_,I',q⟩)
theorem D9(lo hi:Option Int)(n:Nat):(sliceBounds lo hi none n).1=((HT.aI n 0 lo:Nat):Int)/\(sliceBounds lo hi none n).2.1=((HT.aI n n hi:Nat):Int)/\(sliceBounds lo hi none n).2.2=1:=by
 refine⟨?_,?_,rfl⟩
 ·cases lo with |none=>simp[sliceBounds,HT.aI] |some i=>
     simp only[sliceBounds,HT.aI,Option.getD_none,show(1:Int)>0 by decide,iC];by_cases h:i<0
     ·simp only[h,iC]<;>omega
     ·simp only[h,if_false]<;>omega
 ·cases hi with |none=>simp[sliceBounds,HT.aI] |some i=>
     simp only[sliceBounds,HT.aI,Option.getD_none,show(1:Int)>0 by decide,iC];by_cases h:i<0
     ·simp only[h,iC]<;>omega
     ·simp only[h,if_false]<;>omega
theorem Dd(its:List Value)(lo hi:Option Int):slicePick its.toArray lo hi none=((its.drop (HT.aI its.length 0 lo)).take (HT.aI its.length its.length hi-HT.aI its.length 0 lo)).toArray:=by obtain⟨h1,h2,h3⟩:=D9 lo hi its.toArray.size;unfold slicePick;rw[h1,h2,h3];simp only[sliceRange_one,pick_run,bC]<;>rfl
inductive AU(K:M5)(x:V)(lo:Option Int)(hi:Option Int)(H:Hp)(Q:VK):Prop |mk (a:_)(xs:_)(h0:x= .ref a)(h1:aa K H a xs)(h2:∀p,H p=none->Q (.ref p) (upd H p (.lst (cN xs lo hi)))):AU K x lo hi H Q
def DJ(K:M5):V->Option Int->Option Int->Hp->VK->Prop:=fun x lo hi H Q=>AU K x lo hi H Q
theorem Dg:m6 X (DJ X.K):=by intro pins s σ H x v vl vu lo hi sl Q I rx hs pl pu h;obtain⟨a,xs,rfl,hx,q⟩:=h;cases rx;obtain⟨its,r,ht,hz⟩:=I.list hx;have hlen:=r.length;refine⟨"list",_,slot_list_getitem.lookup,ht.isList.typeIs,?_⟩;refine wpAny_getItem_list_slice ht.isList hs pl pu .none (by simp) ?_ (by rw[bC]<;>omega);rw[Dd,<-hlen];refine⟨.ref s.heap.objs.size,_,I.laid (t':=s.toks) (o:=.lst (cN xs lo hi)) (fun b ob q=>bw _ q) (aD _) ?_,rfl,q _ (I.hok.fresh (aD _))⟩;exact⟨bG (zo xs lo hi) hz,_,0,(r.drop (HT.aI xs.length 0 lo)).take (HT.aI xs.length xs.length hi-HT.aI xs.length 0 lo),cw _ rfl⟩
def ij:V->Bool | .au=>true | .bl _=>true | .int _=>true | .str _=>true |_=>false
def il:V->V->Bool | .au,.au=>true | .bl a,.bl b=>a==b | .bl a,.int b=>(if a then 1 else 0)==b | .int a,.bl b=>a==(if b then 1 else 0) | .int a,.int b=>a==b | .str a,.str b=>a==b |_,_=>false
theorem JP{A:M9}{s:M6}{y x:V}{u v:Value}(ry:RelV y u)(rx:RelV x v)(fy:ij y=true)(fx:ij x=true):SeqAt.EqAt A s u v (il y x):=by cases y with
 |au=>cases ry;cases x with |au=>cases rx;exact SeqAt.EqAt.same _ |bl b=>cases rx;exact SeqAt.EqAt.none_bool b |int b=>obtain⟨t,rfl⟩:=rx;exact SeqAt.EqAt.none_int b t |str b=>obtain⟨t,rfl⟩:=rx;exact SeqAt.EqAt.none_str b t |_=>exact absurd (show false=true from fx) ba
 |bl a=>cases ry;cases x with |au=>cases rx;exact SeqAt.EqAt.bool_none a |bl b=>cases rx;exact SeqAt.EqAt.bool_bool a b |int b=>obtain⟨t,rfl⟩:=rx;exact SeqAt.EqAt.bool_int a b t |str b=>obtain⟨t,rfl⟩:=rx;exact SeqAt.EqAt.bool_str a b t |_=>exact absurd (show false=true from fx) ba
 |int a=>obtain⟨t',rfl⟩:=ry;cases x with |au=>cases rx;exact SeqAt.EqAt.int_none a t' |bl b=>cases rx;exact SeqAt.EqAt.int_bool a t' b |int b=>obtain⟨t,rfl⟩:=rx;exact SeqAt.EqAt.int_int a t' b t |str b=>obtain⟨t,rfl⟩:=rx;exact SeqAt.EqAt.int_str a t' b t |_=>exact absurd (show false=true from fx) ba
 |str a=>obtain⟨t',rfl⟩:=ry;cases x with |au=>cases rx;exact SeqAt.EqAt.str_none a t' |bl b=>cases rx;exact SeqAt.EqAt.str_bool a t' b |int b=>obtain⟨t,rfl⟩:=rx;exact SeqAt.EqAt.str_int a t' b t |str b=>obtain⟨t,rfl⟩:=rx;exact SeqAt.EqAt.str_str a t' b t |_=>exact absurd (show false=true from fx) ba
 |_=>exact absurd (show false=true from fy) ba
def gO(x:V)(u:Value):Bool:=match u with | .none=>il .au x | .bool b=>il (.bl b) x | .int i _=>il (.int i) x | .str z _=>il (.str z) x |_=>false
theorem z7{x y:V}{u:Value}(r:RelV y u)(f:ij y=true):gO x u=il y x:=by cases y with |au=>cases r;rfl |bl b=>cases r;rfl |int i=>obtain⟨t,rfl⟩:=r;rfl |str z=>obtain⟨t,rfl⟩:=r;rfl |_=>exact absurd (show false=true from f) ba
theorem tU{x:V}:∀{xs:List V}{us:List Value},Vals xs us->xs.all ij=true->us.any (gO x)=xs.any fun y=>il y x |_,_,.nil,_=>rfl |y::xs,u::us,.cons r t,f=>by rw[jo,bQ]at f;rw[gZ,gZ,z7 r f.1,tU t f.2]
theorem rN{A:M9}{s:M6}{x:V}{v:Value}(rx:RelV x v)(fx:ij x=true):∀{xs:List V}{us:List Value},Vals xs us->xs.all ij=true->∀u∈us,SeqAt.EqAt A s u v (gO x u)
  |_,_,.nil,_=>fun u hu=>by cases hu |y::xs,u::us,.cons r t,f=>fun u' hu=>by
    rw[jo,bQ]at f;rcases aX.mp hu with rfl|hu
    ·rw[z7 r f.1];exact JP r rx f.1 fx
    ·exact rN rx fx t f.2 u' hu
def yd(x:V)(xs:List V):Bool:=xs.any fun y=>il y x
inductive Bb(K:M5)(neg:Bool)(x:V)(y:V)(H:Hp)(Q:VK):Prop |mk (p:_)(xs:_)(h0:y= .ref p)(h1:(aa K H p xs\/az K H p xs))(h2:ij x=true)(h3:xs.all ij=true)(h4:Q (.bl (if neg then !yd x xs else yd x xs)) H):Bb K neg x y H Q
def wM(K:M5)(neg:Bool):R2:=fun x y H Q=>Bb K neg x y H Q
theorem ED:aQ X (compareOp .In) (wM X.K false):=by
 intro pins s σ H x y v u Q I rx ry h;obtain⟨p,xs,rfl,hq,fx,fs,q⟩:=h;cases ry;rcases hq with hq|hq
 · obtain⟨its,r,pl,hz⟩:=I.list hq
   refine SeqAt.in_listAt (gO x) pl.isList (fun w hw=>rN rx fx r fs w (by simpa using hw)) ⟨.bl _,H,I,rfl,?_⟩;rw[show its.toArray.any (gO x)=its.any (gO x) by simp,tU r fs];exact q
 · obtain⟨its,r,pl,hz⟩:=I.tuple hq
   refine SeqAt.in_tupleAt (gO x) pl (fun w hw=>rN rx fx r fs w (by simpa using hw)) ⟨.bl _,H,I,rfl,?_⟩;rw[show its.toArray.any (gO x)=its.any (gO x) by simp,tU r fs];exact q
theorem Kh:bM X (.builtin "len") (fun xs H Q=>∃p ys,xs=[.ref p]/\(aa X.K H p ys\/az X.K H p ys)/\Q (.int ys.length) H):=by
 intro pins s σ H xs us Q I r h;obtain⟨p,ys,rfl,hq,q⟩:=h;obtain⟨u,rfl,rx⟩:=vals1 r;cases rx;have hn:=iV;rcases hq with hq|hq
 · obtain⟨its,r',pl,hz⟩:=I.list hq
   have hlen:=r'.length;exact Calls.call_len_list pl.isList (by simp only[bC]<;>omega) ⟨.int ys.length,H,I.tok _,⟨s.toks+1,by rw[bC,hlen]⟩,q⟩
 · obtain⟨its,r',pl,hz⟩:=I.tuple hq
   have hlen:=r'.length;exact len_tuple pl (by simp only[bC]<;>omega) ⟨.int ys.length,H,I.tok _,⟨s.toks+1,by rw[bC,hlen]⟩,q⟩
theorem jY:bM X (.builtin "len") (fun xs H Q=>∃z,xs=[.str z]/\z.length<=sizeLine/\Q (.int z.length) H):=by intro pins s σ H xs us Q I r h;obtain⟨z,rfl,hz,q⟩:=h;obtain⟨u,rfl,t,rfl⟩:=vals1 r;have hn:=iV;exact len_str (by omega) ⟨.int z.length,H,I.tok _,⟨_,rfl⟩,q⟩
theorem bM.or{f:Value}{r r':List V->Hp->VK->Prop}(h:bM X f r)(h':bM X f r'):bM X f (fun xs H Q=>r xs H Q\/r' xs H Q):=by
 intro pins s σ H xs us Q I rs q;rcases q with q|q
 ·exact h pins s σ H xs us Q I rs q
 ·exact h' pins s σ H xs us Q I rs q
theorem Kf:bM X (.type "tuple") (fun xs H Q=>∃p ys,xs=[.ref p]/\((aa X.K H p ys/\∀l,H l=none->Q (.ref l) (upd H l (.tup ys)))\/(az X.K H p ys/\Q (.ref p) H))):=by
 intro pins s σ H xs us Q I r h;obtain⟨p,ys,rfl,h⟩:=h;obtain⟨u,rfl,rx⟩:=vals1 r;cases rx;rcases h with⟨hq,q⟩|⟨hq,q⟩
 · obtain⟨its,r',pl,hz⟩:=I.list hq
   have hlen:=r'.length;refine call_tuple_list pl.isList (fun h' kp=>?_) (by simp only[bC]<;>omega);have I1:Inv X pins σ H {s with heap:=h'}:=I.kept (t':=s.toks) kp;have I2:Inv X pins σ (upd H h'.objs.size (.tup ys)) {s with heap:=h'.push {cls:=.type "tuple",data:=.seq its.toArray}}:=I1.laid (t':=s.toks) (fun b o e=>bw _ e) (aD _) (show bZ X.prog X.w _ _ _ (.tup ys)from⟨hz,its,r',IsTup.new _ _⟩);exact⟨.ref h'.objs.size,_,I2,rfl,q _ (I1.hok.fresh (aD _))⟩
 · obtain⟨its,r',pl,hz⟩:=I.tuple hq
   exact call_tuple_same pl ⟨.ref p,H,I,rfl,q⟩
def uU(K:M5)(T:String)(x:V)(H:Hp):Prop:=match x with | .str _=>T="str" | .int _=>T="int" | .ref p=>(T="list"/\∃xs,aa K H p xs)\/(T="tuple"/\∃o,K.lookup p=some o/\o.cls= .type "tuple"/\o.dict=none)\/ (T="dict"/\((∃bp,H p=some (.dK bp))\/∃bp,H p=some (.dT bp)))\/(T="set"/\∃S n,H p=some (.set S n)) |_=>False
theorem Cc{pins:List (Addr×Obj)}{σ:St}{H:Hp}{s:M6}{T:String}{x:V}{v:Value}(I:Inv X pins σ H s)(r:RelV x v)(ty:uU X.K T x H): s.TypeIs v T/\∀a,v= .ref a->∃ob,s.heap.get? a=some ob/\ob.dict=none:=by cases x with
  |str z=>obtain⟨t,rfl⟩:=r;cases(show T="str" from ty);exact⟨mi s z t,fun _ e=>nomatch e⟩ |int i=>obtain⟨t,rfl⟩:=r;cases(show T="int" from ty);exact⟨typeIs_int s i t,fun _ e=>nomatch e⟩ |ref p=>
    cases r;rcases ty with⟨rfl,xs,hq⟩|⟨rfl,o,hk,hc,hd⟩|⟨rfl,hk⟩|⟨rfl,S,n,hk⟩
    · obtain⟨its,_,pl,_⟩:=I.list hq
      refine⟨pl.isList.typeIs,fun a e=>?_⟩;cases e;obtain⟨o,n,e,c,hd,_⟩:=pl;exact⟨o,e,hd⟩
    · refine⟨⟨o,I.cM p o hk,hc⟩,fun a e=>?_⟩
      cases e;exact⟨o,I.cM _ o hk,hd⟩
    · have z:∃o,s.heap.get? p=some o/\o.ExactDict:=by
        rcases hk with⟨bp,hk⟩|⟨bp,hk⟩
        · obtain⟨_,_,_,_,o,_,_,e,ex,_⟩:=I.hok p _ hk
          exact⟨o,e,ex⟩
        · obtain⟨_,_,_,_,o,_,_,e,ex,_⟩:=I.hok p _ hk
          exact⟨o,e,ex⟩
      obtain⟨o,e,ex⟩:=z;refine⟨⟨o,e,ex.1⟩,fun a e2=>?_⟩;cases e2;exact⟨o,e,ex.2.1⟩
    · obtain⟨o,_,_,_,e,ex,_⟩:=I.hok p _ hk
      refine⟨⟨o,e,ex.1⟩,fun a e2=>?_⟩;cases e2;exact⟨o,e,ex.2.1⟩ |_=>exact False.elim ty
def jr(K:M5)(T:String)(r:V->List V->Hp->VK->Prop)(to:TE)(t:TA):TE:=fun σ H Q=>to σ H fun x H1=>uU K T x H1/\t σ H1 fun xs H2=>r x xs H2 Q
variable {o e:Expr}{es:List Expr}{to:TE}{t:TA}{name:Str}{apos aU:Pos}{T id:String}{r:V->List V->Hp->VK->Prop}
theorem kX(pa:PlainAttrs T)(slot:Slot T name id)(sk:typeOf (.builtin id)=pure (.type "method_descriptor"))(hm:m9 X id r)(ho:PE X o to)(ha:PA X (e::es) t) (fO:attributeBase o name X.env (eval o X.env)=eval o X.env:=by rfl) (fN:((backTo aU (starEach (e::es) X.env)).all (fun x=>!x.1)&&(backToKw aU (keywordEach [] X.env)).all (fun x=>x.1.isSome) &&decide ((e::es).length+([]:List Keyword).length+(if([]:List Keyword).isEmpty then 0 else 1)<30))=true:=by rfl) (fL:(apos.endLine==aU.line)=true:=by rfl)(hs:starEach (e::es) X.env=(false,eval e X.env)::starEach es X.env:=by rfl)(fJ:(backTo aU (starEach es X.env)).any (·.1)=false:=by rfl): PE X (.Call (.Attribute o name apos) (e::es) [] aU) (jr X.K T r to t):=by intro pins s σ H Q I h;refine wpAny_Call_method_late fO fN fL rfl (ak (ho pins s σ H _ I h) fun v s1 ⟨x,H1,I1,r1,ty,q1⟩=>?_);obtain⟨h1,h2⟩:=Cc I1 r1 ty;refine⟨T,id,pa,slot,sk,h1,h2,?_⟩;have hA:=ha aU pins s1 σ H1 _ I1 q1;rw[hs]at hA⊢;refine Calls.callWith_builtin (by show(false||(backTo aU (starEach es X.env)).any (·.1))=false;rw[fJ]<;>rfl) (Calls.evalArgs_plain ?_);exact ak hA fun us s2 ⟨vs,H2,I2,r2,q2⟩=>hm pins s2 σ H2 x vs v us Q I2 r1 r2 q2
end
end L2
namespace L2
open PySem PySem.Spec PyProof.Rows
def L5(X:Cx)(id:String)(r:V->List V->Hp->VK->Prop):Prop:=∀(pins:List (Addr×Obj))(s:M6)(σ:St)(H:Hp)(x:V)(xs:List V)(v:Value)(us:List Value)(Q:VK),Inv X pins σ H s->RelV x v->Vals xs us->r x xs H Q->wpAny (model X.prog X.w) X.A (call (.builtin id) (v::us)) (EP X pins σ Q) X.xe s
theorem Vals.one:∀{x:V}{us:List Value},Vals [x] us->∃u,us=[u]/\RelV x u |_,_,.cons r .nil=>⟨_,rfl,r⟩
section
variable {X:Cx}{pins:List (Addr×Obj)}{σ:St}{H:Hp}{s:M6}{l b:Addr}{xs ys zs:List V}
theorem Inv.Gs{its its':List Value}{n:Nat}{f:Array Value->Array Value}{t':Nat}(I:Inv X pins σ H s)(hH:H l=some (.lst xs)) (e:s.heap.get? l=some {cls:=.type "list",data:=.seq its.toArray n})(hf:f its.toArray=its'.toArray)(hv:Vals ys its')(hz:ys.length<=sizeLine): Inv X pins σ (upd H l (.lst ys)) {s with heap:=s.heap.update l (Obj.mapSeq f),toks:=t'}:=by have q:=PySem.IsL.update e f;rw[hf]at q;refine I.write (x:=l) (e:=l) (by rw[hH];exact trivial) (.inl rfl) (fun b' u hb hu=>(mw s.heap (Obj.mapSeq f) (f9 hb)).trans hu) ⟨_,q⟩ ?_;exact⟨hz,its',_,hv,q⟩
theorem Inv.xS{its:List Value}{t':Nat}(I:Inv X pins σ H s)(hv:Vals ys its)(hz:ys.length<=sizeLine): Inv X pins σ (upd H s.heap.objs.size (.lst ys)) {s with heap:=s.heap.push {cls:=.type "list",data:=.seq its.toArray},toks:=t'}:=I.laid (fun _ _ q=>bw _ q) (aD _) ⟨hz,its,0,hv,cw _ rfl⟩
theorem Inv.Gr(I:Inv X pins σ H s)(hH:H l=some (.lst xs)):xs.length<=sizeLine/\∃(its:List Value)(n:Nat),Vals xs its/\xs.length=its.length/\s.heap.get? l=some {cls:=.type "list",data:=.seq its.toArray n}:=by obtain⟨z,its,n,r,e⟩:=I.hok l _ hH;exact⟨z,its,n,r,r.length,e⟩
end
section
variable {X:Cx}
inductive Bh(x:V)(vs:List V)(H:Hp)(Q:VK):Prop |mk (l:_)(xs:_)(y:_)(h0:x= .ref l)(h1:vs=[y])(h2:H l=some (.lst xs))(h3:xs.length<sizeLine)(h4:Q .au (upd H l (.lst (xs++[y])))):Bh x vs H Q
def wN:V->List V->Hp->VK->Prop:=fun x vs H Q=>Bh x vs H Q
theorem rL:L5 X "list.append" wN:=by intro pins s σ H x vs v us Q I rx rv h;obtain⟨l,xs,y,rfl,rfl,hH,hz,q⟩:=h;cases rx;obtain⟨u,rfl,ru⟩:=rv.one;obtain⟨z,its,n,r,hl,e⟩:=I.Gr hH;refine call_meets F.slot_list_append ⟨_,e,rfl⟩ F.entry_list_append (F.args_list_append_2 _ _) (PySem.list_append l its.toArray n u (by rw[bC];omega)) ⟨e,?_⟩;refine⟨.au,_,I.Gs (its':=its++[u]) hH e (by simp) (r.append (.cons ru .nil)) ?_,rfl,q⟩;rw[de,List.length_singleton];omega
end
section
variable {prog:M7}{w:World}{A:M9}{E:Value->M6->Prop}{s:M6}
end
section
variable {X:Cx}
end
end L2
namespace Att
open PySem PySem.W PySem.Calls PyProof.Rows
theorem Hb{P:Params}{h:Heap}:∀(ns:List Int)(vs:List Value),WellAll P h vs (ns.map WData.int)->IntsAre vs ns:=by intro ns;induction ns with |nil=>intro vs w;rw[List.map_nil]at w;cases w;exact .nil |cons n ns ih=>intro vs w;rw[eh]at w;cases w with |cons a b=>cases a;exact .cons _ _ (ih _ b)
theorem Dn{l:OpenLaw}{n:Nat}(hn:l.most=some n){P:Params}{h:Heap}{args:List WData}{vals:List Value} (nX:l.row.toRowW.claim.pre args=true)(fj:WellAll P h vals args): ∃a vs ns,vals=[Value.ref a]/\args=[WData.list (ns.map WData.int)]/\h.get? a=some {cls:=.type "list",data:=.seq vs.toArray}/\IntsAre vs ns/\ns.length<=n:=by
  have Ht:WShape.hasAll [] args [.list .int]=true:=(pre_splitW nX).1;have hc:l.pre.holds [] {args:=args}=true:=(pre_splitW nX).2;obtain⟨d,r,rfl,h1,h2⟩:=hasAllW_cons Ht;obtain rfl:=hasAllW_nil h2;obtain⟨xs,rfl,h3⟩:=hasW_list h1;obtain⟨ns,rfl⟩:=items_int h3;have hlen:ns.length<=n:=by
   unfold OpenLaw.pre at hc;have h4:(WTm.not (.lt (.lit (.int (n:Int))) (.len (.arg 0)))).holds [] {args:=[.list (ns.map .int)]}=true:=by have h4:=(holds_andW hc).1;rw[hn]at h4;exact h4
   have h5:=condW_of h4 (w_not (w_lt w_lit (w_len_list (w_arg rfl))));rw[aF]at h5;refine Nat.le_of_not_lt fun q=>?_;have q':(n:Int)<((ns.length:Nat):Int):=by omega
   first |(rw[br q']at h5;exact absurd h5 (by decide)) |(simp at h5;omega)
  cases fj with |cons w1 w2=>cases w2;cases w1 with |list ho IH=>exact⟨_,_,ns,rfl,rfl,ho,Hb ns _ IH,hlen⟩
theorem E7(l:OpenLaw)(args:List WData):l.row.toRowW.claim.post args (.bool true) args=true:=postW_of (r:=l.row.toRowW) (X:=(true==true)) (show WShape.has [] (.bool true) .bool=true by first|rfl|decide|simp[WShape.has,WShape.arms,WShape.armsAll]) (show(WTm.eq .res (.lit (.bool true))).value [] {args:=args,res:=some (.bool true),after:=args}=some (.bool (true==true))from w_eq_bool (w_res rfl) w_lit) rfl
theorem Kz{l:OpenLaw}{n:Nat}{q:M7}{loose:List Str}{XP:(Str->Option Value)->Heap->Prop}{YP:World->Heap->Prop}{d:DefRec} (hn:l.most=some n)(lP:d.params.defaults=[]) (call:∀(w:World)(s₀ s₁:M6)(mg mb:Str->Option Value)(fa:Addr)(o:Obj)(pm cd doc:Value)(a:Addr)(vs:List Value)(ns:List Int),Ground q loose [] XP w s₀ mg mb s₁.heap->YP w s₁.heap->s₁.heap.get? fa=some o->o.data= .func (docDef d.name d.params d.body d.scope pm cd doc)->s₁.heap.CodeRec cd d.name->mg d.name=some (.ref fa)->s₁.heap.get? a=some {cls:=.type "list",data:=.seq vs.toArray}->IntsAre vs ns->ns.length<=n->s₁.gens=#[]->codeAny (model l.prog w) callerA (.call (.ref fa) ⟨[.ref a],[]⟩) (fun r s'=>r= .ok (.ret (.bool true))/\OldK s₁.heap s'.heap/\s'.os=s₁.os/\AllBare s'.gens) s₁): WalkO q loose XP YP l.row.toRowW d [] (fun f vs=>PySem.call f vs):=by intro w s₀ s₁ mg mb G Y fa o pm cd doc dV kV ho hd bO hD lM hg args vals as nX LK LH fj HL;obtain rfl:dV= .none:=Dflts.none hD lP;obtain rfl:kV= .none:=Dflts.noKw hD;obtain⟨a,vs,ns,rfl,rfl,sx,hints,hlen⟩:=Dn hn nX fj;refine enter_call (p6 (call w s₀ s₁ mg mb fa o pm cd doc a vs ns G Y ho (fd_plain hd) bO lM sx hints hlen hg) fun r s' hq=>?_);obtain⟨rfl,h2,h3,h4⟩:=hq;exact⟨.inl ⟨.bool true,.bool true,[],rfl,fun _=>rfl,.bool true,E7 l _,fun _=>⟨List.Pairwise.nil,fun _ hm=>(nomatch hm)⟩⟩,h2,h3,h4⟩
section
variable {prog:M7}{w:World}{A:M9}{E:Value->M6->Prop}{s:M6}{K:Frag}
end
end Att
namespace L2
open PySem PySem.Spec PyProof.Rows
theorem uT:∀{vs:List Value}{ns:List Int},IntsAre vs ns->Vals (ns.map V.int) vs |_,_,.nil=>.nil |_,_,.cons n t h=>.cons ⟨t,rfl⟩ (uT h)
def u9(H:Hp):Prop:=∀b,H b=none\/∃o xs,H b=some (.fQ o (.lst xs))
theorem GC{P:M7}{w:World}{K:M5}{mg mb:Str->Option Value}{CX:f6}{k:Nat}{fa a:Addr}{fd:FuncData}{x:Str}{sp:Sp}{s₁:M6}{vs:List Value}{ns:List Int} (KX:K.In s₁.heap)(yp:s₁.heap.Ns mainGlobals mg)(hb:s₁.heap.Ns builtinsNs mb)(Iy:∀x:Str,x≠"__name__"->mb x=bootBuiltins x)(HM:s₁.heap.NoLimit)(hg:s₁.gens=#[]) (ha:s₁.heap.get? a=some {cls:=.type "list",data:=.seq vs.toArray})(hi:IntsAre vs ns)(hl:ns.length<=sizeLine)(hr:bo k callerA) (F:∀base:Heap,K.In base->base.Ns mainGlobals mg->dZ P w K mg base CX k fa fd [x] sp)(Iw:∀(s:M6)(u:Value),BindsTo s fd ⟨[u],[]⟩ [(x,u)]) (bD:∀H:Hp,u9 H->aa K H a (ns.map V.int)->sp [.ref a] H (fun v _=>v= .bl true) fun _ _ _=>False) (sQ:∀H e s',CX [] H s₁ (fun _ _ _=>False) e s'->False): codeAny (model P w) callerA (.call (.ref fa) ⟨[.ref a],[]⟩) (fun r s'=>r= .ok (.ret (.bool true))/\OldK s₁.heap s'.heap/\s'.os=s₁.os/\AllBare s'.gens) s₁:=by
  have rv:=uT hi;have Gy:=hi.length;have core:∀H:Hp,u9 H->aa K H a (ns.map V.int)->bq P w H s₁.heap->(∀b,H b≠none->b=a)->(H a≠none->K.lookup a=none)->codeAny (model P w) callerA (.call (.ref fa) ⟨[.ref a],[]⟩) (fun r s'=>r= .ok (.ret (.bool true))/\OldK s₁.heap s'.heap/\s'.os=s₁.os/\AllBare s'.gens) s₁:=by
    intro H hO hS hok hA hK;have zQ:∀{b:Addr}{o:Obj},s₁.heap.get? b=some o->H b=none->(gN s₁.heap H).get? b=some o:=fun e n=>Ij e n;have l4:∀{b:Addr}{o:Obj}{es:Array DictEntry}{ep:Nat},s₁.heap.get? b=some o->o.data= .dict es ep->H b=none:=fun{b o es ep} e d=>by cases q:H b with |none=>rfl |some u=>have e':b=a:=hA b (by rw[q];simp);subst e';rw[ha]at e;cases e;have d':Data.seq vs.toArray _=Data.dict es ep:=d;cases d'
    have nC:∀{b:Addr}{m:Str->Option Value},s₁.heap.Ns b m->(gN s₁.heap H).Ns b m:=fun{b m} ⟨o,es,ep,e,d,r⟩=>⟨o,es,ep,zQ e (l4 e d),d,r⟩;have yC:K.In (gN s₁.heap H):=fun b o e=>zQ (KX b o e) (by cases q:H b with |none=>rfl |some u=>have e':b=a:=hA b (by rw[q];simp);subst e';rw[hK (by rw[q];simp)]at e;cases e);have hM:Mod K mg (gN s₁.heap H):=⟨yC,nC yp,⟨mb,nC hb,Iy⟩,let⟨mc,h1,h2⟩:=HM;⟨mc,nC h1,h2⟩⟩;have e0:gU P w K mg (gN s₁.heap H) callerA [] s₁ H:=⟨rfl,hM,fun b o e=>Fy e,uy (Ii _ _),trivial,fun b hb=>absurd (show b∈([]:List Addr)from hb) (by simp),hok,.of_eq hg⟩;refine p6 ((F _ yC (nC yp)).run callerA [] s₁ H ⟨[.ref a],[]⟩ [.ref a] [.ref a] _ _ hr e0 (Iw s₁ (.ref a)) (.cons rfl .nil) (bD H hO hS)) fun r s' h=>?_;cases r with |error e=>exact(sQ H e s' h).elim |ok fl=>cases fl with |next=>exact False.elim h |brk=>exact False.elim h |cont=>exact False.elim h |ret u=>obtain⟨v,H',os,bare,un,Hy,r',q⟩:=h;have q':v= .bl true:=q;subst q';obtain rfl:u=Value.bool true:=r';refine⟨rfl,OldK.of_keep fun b o e=>?_,os,bare⟩;cases q:H b with |none=>exact un.keep b o e q (by intro z;exact absurd (show b∈([]:List Addr)from z) (by simp)) (by simp) |some u=>
          rcases hO b with z|⟨ob,xs,z⟩
          ·rw[q]at z;cases z
          · have z2:=un.frzs b ob _ z
            obtain⟨e1,_⟩:=hok b _ z;obtain⟨e2,_⟩:=Hy b _ z2;rw[e]at e1;cases e1;exact e2
  cases hk:K.lookup a with |some o=>have e:=KX a o hk;rw[ha]at e;cases e;refine core (fun _=>none) (fun _=>.inl rfl) (.inr ⟨_,vs.toArray,_,hk,rfl,rfl,rfl,by rw[bC,Gy];exact hl,by simpa using rv⟩) (fun b u z=>by have z':(none:Option HO)=some u:=z;cases z') (fun b z=>absurd rfl z) fun z=>absurd rfl z |none=>
    refine core (fun b=>if b=a then some (.fQ {cls:=.type "list",data:=.seq vs.toArray} (.lst (ns.map V.int)))else none) (fun b=>?_) (.inl (.inr ⟨{cls:=.type "list",data:=.seq vs.toArray},aH rfl⟩)) (fun b u z=>?_) (fun b z=>?_) fun _=>hk
    · by_cases hb:b=a
      ·exact .inr ⟨_,_,aH hb⟩
      ·exact .inl (aC hb)
    · by_cases hb:b=a
      · have z':=(aH hb).symm.trans z
        cases z';subst hb;exact⟨ha,by rw[aF];exact hl,vs,_,rv,ha⟩
      · have z':=(aC hb).symm.trans z
        cases z'
    · by_cases hb:b=a
      ·exact hb
      ·exact absurd (aC hb) z
theorem C5{l:PySem.W.OpenLaw}{n k:Nat}{q:M7}{loose:List Str}{XP:(Str->Option Value)->Heap->Prop}{YP:World->Heap->Prop}{d:DefRec}{K:Params->M5}{CX:World->f6}{sp:World->Sp}{x:Str} (hn:l.most=some n)(HE:n<=sizeLine)(lP:d.params.defaults=[])(hr:bo k callerA) (hY:∀(w:World)(h:Heap),YP w h->(K w.params).In h) (F:∀(w:World)(mg:Str->Option Value)(fa:Addr)(h:Heap),(K w.params).In h->h.Ns mainGlobals mg->mg d.name=some (.ref fa)->∃fd:FuncData,(∀(s:M6)(u:Value),BindsTo s fd ⟨[u],[]⟩ [(x,u)])/\∀base:Heap,(K w.params).In base->base.Ns mainGlobals mg->dZ l.prog w (K w.params) mg base (CX w) k fa fd [x] (sp w)) (bD:∀(w:World)(H:Hp)(a:Addr)(ns:List Int),ns.length<=n->u9 H->aa (K w.params) H a (ns.map V.int)->sp w [.ref a] H (fun v _=>v= .bl true) fun _ _ _=>False) (sQ:∀(w:World)(H:Hp)(s:M6)(e:Value)(s':M6),CX w [] H s (fun _ _ _=>False) e s'->False): PySem.W.WalkO q loose XP YP l.row.toRowW d [] (fun f vs=>PySem.call f vs):=by refine Att.Kz hn lP fun w s₀ s₁ mg mb fa o pm cd doc a vs ns G Y ho hd bO lM sx hints hlen hg=>?_;have KX:=hY w _ Y;obtain⟨fd,hb,hF⟩:=F w mg fa _ KX G.T.g lM;exact GC KX G.T.g G.T.b G.T.builtins G.T.nolimit hg sx hints (bG hlen HE) hr hF hb (fun H hO hS=>bD w H a ns hlen hO hS) fun H e s'=>sQ w H s₁ e s'
def gv(s:Stmt):Arguments:=match s with | .FunctionDef _ a _ _ _ _ _ _ _ _=>a |_=>{posonlyargs:=[],args:=[],vararg:=none,kwonlyargs:=[],kw_defaults:=[],kwarg:=none,defaults:=[]}
def d9(s:Stmt):List Stmt:=match s with | .FunctionDef _ _ b _ _ _ _ _ _ _=>b |_=>[]
def aK(s:Stmt):Scope:=match s with | .FunctionDef _ _ _ _ _ _ sc _ _ _=>sc |_=>{kind:=.function,names:=[],isGenerator:=false,isCoroutine:=false}
abbrev dw:f6:=fun _ _ _ _ _ _=>False
abbrev E0:XK:=fun _ _ _=>False
theorem Er{X:Cx}:Passes dw X E0:=fun _ _ _ _ _ _ _ h=>h.elim
structure fZ(K:M5)(x qual:Str)(st:Stmt)(f:Addr)(fd:FuncData):Prop where
 ex:∃(oc:Value)(od:Option Addr)(kV doc pm:Value)(an:Option Addr)(ah ct:Value)(bX:Array (Option Value)),fd=PySem.W.fnOf x qual (gv st) (d9 st) (aK st) .none kV doc pm an ah ct/\K.lookup f=some ⟨oc,od,.func fd,bX⟩/\PySem.W.codeIn K ah qual=true
 kp:PySem.W.keepIn K (.ref f)=true
section
variable {P:M7}{w:World}{K:M5}{mg:Str->Option Value}{base:Heap}
theorem fZ.ok{x qual:Str}{st:Stmt}{f:Addr}{fd:FuncData}{N ps:List Str}{k:Nat}{sp:Sp}(F:fZ K x qual st f fd)(S:aW N ps (aK st))(len:∀vs H Q E,sp vs H Q E->vs.length=ps.length) (dX:∀(ah:Value)(A:M9)(outer:List Env)(s:M6)(H:Hp)(vs:List V)(Q:VK)(E:XK),bo k (A.deeper (envOfC qual (aK st) s.heap.objs.size f ah))->sp vs H Q E->∃t,cF (dm dw P w K mg base N qual (aK st) f ah A outer s H E).iU (d9 st) t/\t {nx:=fun _ H'=>Q .au H',rt:=Q} (start N vs) H):dZ P w K mg base dw (k+1) f fd ps sp:=by obtain⟨oc,od,kV,doc,pm,an,ah,ct,bX,rfl,lk,bO⟩:=F.ex;refine yW lk bO S len fun A outer s H vs Q E hr bD=>?_;obtain⟨t,h,q⟩:=dX ah A outer s H vs Q E hr bD;exact⟨t,h.iU,q⟩
theorem fZ.binds{x qual:Str}{st:Stmt}{f:Addr}{fd:FuncData}{ps:List Str}(F:fZ K x qual st f fd) (h:∀(kV doc pm:Value)(an:Option Addr)(ah ct:Value)(us:List Value),us.length=ps.length->bindArgs (PySem.W.fnOf x qual (gv st) (d9 st) (aK st) .none kV doc pm an ah ct) ⟨us,[]⟩=pure (ps.zip us)):Binds K fd ps []:=by obtain⟨oc,od,kV,doc,pm,an,ah,ct,bX,rfl,lk,bO⟩:=F.ex;exact .all (h kV doc pm an ah ct)
theorem yO{x qual:Str}{st:Stmt}{f:Addr}{oc:Value}{od an:Option Addr}{bX:Array (Option Value)}{kV doc pm ah ct:Value}(l:K.lookup f=some ⟨oc,od,.func (PySem.W.fnOf x qual (gv st) (d9 st) (aK st) .none kV doc pm an ah ct),bX⟩) (c:PySem.W.codeIn K ah qual=true)(k:PySem.W.keepIn K (.ref f)=true):fZ K x qual st f (PySem.W.fnOf x qual (gv st) (d9 st) (aK st) .none kV doc pm an ah ct):=⟨⟨oc,od,kV,doc,pm,an,ah,ct,bX,rfl,l,c⟩,k⟩
end
section
variable {X:Cx}
theorem pv(i:Nat){x:Str}{pos:Pos}(hN:X.N[i]? =some x:=by rfl)(hv:tZ X.env.scope x:=by first|exact Or.inl rfl|exact Or.inr (Or.inl rfl)|exact Or.inr (Or.inr rfl))(hd:(x==("__debug__":Str))=false:=by decide) (bO:(x==("__classdict__":Str))=false:=by decide):PE X (.Name x pos) (vb i):=Eh hN hv hd bO
end
theorem aB{A B:Prop}(h:B):if false=true then A else B:=by rw[aC ba];exact h
theorem aJ{A B:Prop}(h:A):if true=true then A else B:=by rw[aH rfl];exact h
theorem bH{c A B:Prop}[Decidable c](h1:c->A)(h2:¬c->B):if c then A else B:=by
 by_cases h:c
 · rw[aH h]
   exact h1 h
 · rw[aC h]
   exact h2 h
def af(H H':Hp):Prop:=∀b o,H b=some o->H' b=some o
theorem af.refl(H:Hp):af H H:=fun _ _ h=>h
theorem af.trans{H H1 H2:Hp}(a:af H H1)(b:af H1 H2):af H H2:=fun c o h=>b c o (a c o h)
theorem af.free{H H':Hp}(e:af H H'){l:Addr}(h:H' l=Option.none):H l=Option.none:=by cases q:H l with |none=>rfl |some o=>rw[e l o q]at h;cases h
theorem af.seq{K:M5}{H H':Hp}{a:Addr}{xs:List V}(e:af H H')(h:aa K H a xs):aa K H' a xs:=by
 rcases h with(h|⟨o,h⟩)|h
 ·exact .inl (.inl (e _ _ h))
 ·exact .inl (.inr ⟨o,e _ _ h⟩)
 ·exact .inr h
def Wd (i:Int):Prop:=i.natAbs<2^5000
theorem Wd.bits{i:Int}(h:Wd i):Builtin.Int.intBits i<=2^20:=bG (PyProof.Rows.intBits_le h) (by decide)
theorem Wd.log{i:Int}(h:Wd i):i.natAbs.log2<9000:=by
 by_cases e:i.natAbs=0
 ·rw[e];decide
 · have h1:i.natAbs.log2<5000:=(Nat.log2_lt e).mpr h
   omega
section
variable {X:Cx}
theorem xi:aQ X (binaryOp .FloorDiv) (rI (fun _ j=>0<j/\Wd j) fun i j=>.int (i/j)):=nu fun i j _ _ _ _ _ hc q=>by have h1:(0:Int)<j:=hc.1;exact floordiv_int (by omega) (by rw[Int.fdiv_eq_ediv_of_nonneg i (by omega)];exact q) (.inl (PyProof.noPylong_of_log2 hc.2.log))
end
def jf(K:M5)(H:Hp)(x:V)(T:String):Prop:=match x with | .au=>T="NoneType" | .bl _=>T="bool" | .int _=>T="int" | .str _=>T="str" | .ref a=>(T="list"/\∃xs,aa K H a xs)\/(T="tuple"/\∃xs,az K H a xs) |_=>False
def ck(T n:String):Bool:=T==n||(T=="bool"&&n=="int")
def mE:List String:=["NoneType","bool","int","str","list","tuple"]
def kG:List String:=["bool","int","str","list","tuple"]
theorem xX{K:M5}{T n:String}(h1:T∈mE)(h2:n∈kG):PySem.W.kitOne K (.type T) (.type n)=some (ck T n):=by
 have all:mE.all (fun T=>kG.all fun n=>PySem.W.kitOne [] (.type T) (.type n)==some (ck T n))=true:=by decide+kernel
 have a1:=bV.mp all T h1;have a2:=bV.mp a1 n h2;have e:PySem.W.kitOne K (.type T) (.type n)=PySem.W.kitOne [] (.type T) (.type n):=by unfold PySem.W.kitOne PySem.W.kitCls PySem.W.subIn;rfl
 rw[e];exact cu.mp a2
section
variable {X:Cx}
theorem jf.mem{K:M5}{H:Hp}{x:V}{T:String}(h:jf K H x T):T∈mE:=by cases x with |au=>cases(show T="NoneType" from h);decide |bl b=>cases(show T="bool" from h);decide |int b=>cases(show T="int" from h);decide |str b=>cases(show T="str" from h);decide |ref a=>rcases(show(T="list"/\∃xs,aa K H a xs)\/(T="tuple"/\∃xs,az K H a xs)from h)with⟨e,_⟩|⟨e,_⟩<;>cases e<;>decide |_=>exact(show False from h).elim
theorem xY{pins:List (Addr×Obj)}{s:M6}{σ:St}{H:Hp}{x:V}{u:Value}{T:String}(I:Inv X pins σ H s)(rx:RelV x u)(ty:jf X.K H x T): ∃P:Heap->Prop,PySem.W.KitX X.K u (.type T) P/\P s.heap/\u≠ .builtin "__main__.__loader__#opaque":=by cases x with
  |au=>cases(show T="NoneType" from ty);cases(show u=Value.none from rx);exact⟨_,PySem.W.kitx_none,True.intro,fun z=>nomatch z⟩ |bl b=>cases(show T="bool" from ty);cases(show u=Value.bool b from rx);exact⟨_,PySem.W.kitx_bool,True.intro,fun z=>nomatch z⟩ |int b=>cases(show T="int" from ty);obtain⟨t,q⟩:=(show∃t,u=Value.int b t from rx);cases q;exact⟨_,PySem.W.kitx_int,True.intro,fun z=>nomatch z⟩ |str b=>cases(show T="str" from ty);obtain⟨t,q⟩:=(show∃t,u=Value.str b t from rx);cases q;exact⟨_,PySem.W.kitx_str,True.intro,fun z=>nomatch z⟩ |ref a=>
    cases(show u=Value.ref a from rx);rcases(show(T="list"/\∃xs,aa X.K H a xs)\/(T="tuple"/\∃xs,az X.K H a xs)from ty)with⟨e,xs,hx⟩|⟨e,xs,hx⟩
    · cases e
      obtain⟨its,r,⟨o,n,h1,h2,_⟩,_⟩:=I.list hx;exact⟨_,PySem.W.kitx_list,⟨o,h1,h2⟩,fun z=>nomatch z⟩
    · cases e
      obtain⟨its,r,⟨o,h1,h2,_⟩,_⟩:=I.tuple hx;exact⟨_,PySem.W.kitx_tuple,⟨o,h1,h2⟩,fun z=>nomatch z⟩ |_=>exact(show False from ty).elim
inductive B5(K:M5)(xs:List V)(H:Hp)(Q:VK):Prop |mk (x:_)(T:_)(n:_)(b:_)(h0:xs=[x,.ty n])(h1:jf K H x T)(h2:n∈kG)(h3:ck T n=b)(h4:Q (.bl b) H):B5 K xs H Q
def qO(K:M5):List V->Hp->VK->Prop:=fun xs H Q=>B5 K xs H Q
theorem Kj:bM X (.builtin "isinstance") (qO X.K):=by intro pins s σ H xs us Q I r h;obtain⟨x,T,n,b,rfl,ty,hn,rfl,q⟩:=h;obtain⟨u,c,rfl,rx,rc⟩:=vals2 r;cases(show c=Value.type n from rc);obtain⟨P,Z,p,hx⟩:=xY I rx ty;exact PySem.W.kia_one Z I.cM p (xX ty.mem hn) hx fun tk=>⟨.bl (ck T n),H,I.tok _,rfl,q⟩
inductive B4(K:M5)(xs:List V)(H:Hp)(Q:VK):Prop |mk (x:V)(T:String)(p:Addr)(ns:List String)(b:Bool)(h0:xs=[x,.ref p])(h1:H p=some (.tup (ns.map V.ty)))(h2:jf K H x T)(h3:(∀n∈ns,n∈kG))(h4:ns.any (ck T)=b)(h5:Q (.bl b) H):B4 K xs H Q
def qN(K:M5):List V->Hp->VK->Prop:=fun xs H Q=>B4 K xs H Q
theorem xW{K:M5}{T:String}(h1:T∈mE):∀{ns:List String},(∀n∈ns,n∈kG)->PySem.W.kitAny K (.type T) (ns.map Value.type)=some (ns.any (ck T)) |[],_=>rfl |n::r,h=>by have e:=xX (K:=K) h1 (h n (uC ..));have ih:=xW (K:=K) h1 (ns:=r) fun m hm=>h m (pj _ hm);rw[eh,PySem.W.kitAny,e,gZ];cases ck T n with |true=>rfl |false=>simpa using ih
theorem uR:∀{ns:List String}{us:List Value},Vals (ns.map V.ty) us->us=ns.map Value.type |[],_,.nil=>rfl |n::r,_,.cons q t=>by cases(show _=Value.type n from q);rw[uR t];rfl
theorem Ki:bM X (.builtin "isinstance") (qN X.K):=by intro pins s σ H xs us Q I r h;obtain⟨x,T,p,ns,b,rfl,hp,ty,hn,rfl,q⟩:=h;obtain⟨u,c,rfl,rx,rc⟩:=vals2 r;cases(show c=Value.ref p from rc);obtain⟨P,Z,pp,hx⟩:=xY I rx ty;obtain⟨_,its,rv,⟨cls,dd,dt,sl⟩,h1,h2,n,h3⟩:=(show bZ X.prog X.w H s.heap p (.tup (ns.map V.ty))from I.hok p _ hp);simp only at h2 h3;subst h2 h3;have e:=uR rv;subst e;exact PySem.W.kia_tup Z I.cM pp h1 (xW ty.mem hn) hx fun tk=>⟨.bl _,H,I.tok _,rfl,q⟩
end
mutual
def RD(K:M5)(H:Hp):V->M8->Prop |x,.none=>x= .au |x,.bool b=>x= .bl b |x,.int i=>x= .int i |x,.str y=>x= .str y |x,.list ds=>∃a xs,x= .ref a/\aa K H a xs/\aj K H xs ds |x,.tuple ds=>∃a xs,x= .ref a/\az K H a xs/\aj K H xs ds |_,.dict _=>False
def aj (K:M5)(H:Hp):List V->List M8->Prop |xs,[]=>xs=[] |xs,d::ds=>∃y ys,xs=y::ys/\RD K H y d/\aj K H ys ds
end
section
variable {X:Cx}
mutual
theorem RD.reads{pins:List (Addr×Obj)}{s:M6}{σ:St}{H:Hp}(I:Inv X pins σ H s):∀{x:V}{u:Value}(d:M8),RelV x u->RD X.K H x d->∃as,Reads s.heap u d as |x,u,.none,r,h=>by cases(show x= .au from by simpa[RD]using h);cases(show u=Value.none from r);exact⟨_,.none⟩ |x,u,.bool b,r,h=>by cases(show x= .bl b from by simpa[RD]using h);cases(show u=Value.bool b from r);exact⟨_,.bool b⟩ |x,u,.int i,r,h=>by cases(show x= .int i from by simpa[RD]using h);obtain⟨t,q⟩:=(show∃t,u=Value.int i t from r);cases q;exact⟨_,.int i t⟩ |x,u,.str y,r,h=>by cases(show x= .str y from by simpa[RD]using h);obtain⟨t,q⟩:=(show∃t,u=Value.str y t from r);cases q;exact⟨_,.str y t⟩ |x,u,.list ds,r,h=>by rw[RD]at h;obtain⟨a,xs,rfl,hx,hd⟩:=h;cases(show u=Value.ref a from r);obtain⟨its,rv,⟨o,n,h1,h2,h3,h4⟩,_⟩:=I.list hx;obtain⟨as,q⟩:=aj.reads I ds rv hd;exact⟨_,.list h1 h2 h4 (by simpa using q)⟩ |x,u,.tuple ds,r,h=>by rw[RD]at h;obtain⟨a,xs,rfl,hx,hd⟩:=h;cases(show u=Value.ref a from r);obtain⟨its,rv,⟨o,h1,h2,n,h4⟩,_⟩:=I.tuple hx;obtain⟨as,q⟩:=aj.reads I ds rv hd;exact⟨_,.tuple h1 h2 h4 (by simpa using q)⟩ |x,u,.dict _,r,h=>by simp[RD]at h
theorem aj.reads {pins:List (Addr×Obj)}{s:M6}{σ:St}{H:Hp}(I:Inv X pins σ H s):∀{xs:List V}{us:List Value}(ds:List M8),Vals xs us->aj X.K H xs ds->∃as,ReadsAll s.heap us ds as |xs,us,[],r,h=>by cases(show xs=[]from by simpa[aj]using h);cases r;exact⟨_,.nil⟩ |xs,us,d::ds,r,h=>by rw[aj]at h;obtain⟨y,ys,rfl,h1,h2⟩:=h;cases r with |cons ra rb=>obtain⟨as,q⟩:=RD.reads I d ra h1;obtain⟨bs,q'⟩:=aj.reads I ds rb h2;exact⟨_,.cons q q'⟩
end
inductive Be(K:M5)(x:V)(y:V)(H:Hp)(Q:VK):Prop |mk (d:_)(e:_)(h0:RD K H x d)(h1:RD K H y e)(h2:SeqAt.shaped d=true)(h3:SeqAt.shaped e=true)(h4:Q (.bl (PyData.eqv d e)) H):Be K x y H Q
def qP(K:M5):R2:=fun x y H Q=>Be K x y H Q
inductive AZ(K:M5)(x:V)(y:V)(H:Hp)(Q:VK):Prop |mk (d:_)(e:_)(h0:RD K H x d)(h1:RD K H y e)(h2:SeqAt.shaped d=true)(h3:SeqAt.shaped e=true)(h4:Q (.bl (!PyData.eqv d e)) H):AZ K x y H Q
def qK(K:M5):R2:=fun x y H Q=>AZ K x y H Q
theorem EG(hu:X.A.units+64<cLine):aQ X (compareOp .Eq) (qP X.K):=by intro pins s σ H x y v u Q I rx ry h;obtain⟨d,e,hd,he,sd,se,q⟩:=h;obtain⟨as,ra⟩:=RD.reads I d rx hd;obtain⟨bs,rb⟩:=RD.reads I e ry he;exact eq_dataH ra rb sd se hu ⟨.bl _,H,I,rfl,q⟩
theorem Ey(hu:X.A.units+64<cLine):aQ X (compareOp .NotEq) (qK X.K):=by intro pins s σ H x y v u Q I rx ry h;obtain⟨d,e,hd,he,sd,se,q⟩:=h;obtain⟨as,ra⟩:=RD.reads I d rx hd;obtain⟨bs,rb⟩:=RD.reads I e ry he;exact ne_dataH ra rb sd se hu ⟨.bl _,H,I,rfl,q⟩
end
end L2
namespace L2
open PySem PySem.Spec PyProof.Rows
theorem af.new{H:Hp}{t:Addr}{o:HO}(ht:H t=none):af H (upd H t o):=fun b o' e=>by rw[aL (cn e ht)];exact e
structure Nw(H H':Hp)(p:Addr)(o:HO):Prop where
 no:H p=none
 at':H' p=some o
 same:af H H'
 eq:H'=upd H p o
theorem Nw.of{H:Hp}{p:Addr}{o:HO}(h:H p=none):Nw H (upd H p o) p o:=⟨h,bR,.new h,rfl⟩
def oO:List Str:=["len","abs","min","max","range","isinstance","int","bool","str","tuple","list","any","all","sum","zip","enumerate","sorted","reversed","ord","chr","divmod","repr","dict","set"]
def bb(mg:Str->Option Value):Prop:=∀x∈oO,mg x=none
theorem bb.at{mg:Str->Option Value}(B:bb mg)(x:Str)(h:x∈oO:=by decide):mg x=none:=B x h
theorem gy{α:Type}{C:List α->Prop}(h:∀a,C [a]):∀us:List α,us.length=1->C us |[_],_=>h _
theorem dn{α:Type}{C:List α->Prop}(h:∀a b,C [a,b]):∀us:List α,us.length=2->C us |[_,_],_=>h _ _
theorem zX{α:Type}{C:List α->Prop}(h:∀a b c,C [a,b,c]):∀us:List α,us.length=3->C us |[_,_,_],_=>h _ _ _
def yR(N P:List Str)(sc:Scope):Bool:=decide (sc.kind= .function)&& !sc.isCoroutine&& !sc.isGenerator&&decide N.Nodup&&decide (N.take P.length=P)&&P.all (fun x=>decide (sc.names.lookup x=some .local\/sc.names.lookup x=some .cell))&&sc.names.all fun y=>decide (y.2≠ .free)
theorem bz{N P:List Str}{sc:Scope}(h:yR N P sc=true):aW N P sc:=by unfold yR at h;simp only[bQ,iD,pD,bV]at h;obtain⟨⟨⟨⟨⟨⟨h1,h2⟩,h3⟩,h4⟩,h5⟩,h6⟩,h7⟩:=h;exact⟨h1,h2,h3,h4,h5,h6,h7⟩
structure FA(K:M5)(mg:Str->Option Value)(x:Str)(st:Stmt):Prop where ex:∃f fd,mg x=some (.ref f)/\fZ K x x st f fd
def aq(P:M7)(w:World)(K:M5)(mg:Str->Option Value)(base:Heap)(x:Str)(k:Nat)(sp:Sp):Prop:=∃f fd ps,dZ P w K mg base dw k f fd ps sp/\mg x=some (.ref f)/\PySem.W.keepIn K (.ref f)=true/\Binds K fd ps []
section
variable {P:M7}{w:World}{K:M5}{mg:Str->Option Value}{base:Heap}
theorem JH{h:Heap}{x:Str}{st:Stmt}{f:Addr}{oc:Value}{od an:Option Addr}{bX:Array (Option Value)}{kV doc pm ah ct:Value}(X:K.In h)(G:h.Ns mainGlobals mg) (a:PySem.W.nsIn K mainGlobals x=some (some (.ref f))) (l:K.lookup f=some ⟨oc,od,.func (PySem.W.fnOf x x (gv st) (d9 st) (aK st) .none kV doc pm an ah ct),bX⟩) (c:PySem.W.codeIn K ah x=true)(k:PySem.W.keepIn K (.ref f)=true):FA K mg x st:=⟨f,_,km X G a,yO l c k⟩
theorem FA.has{x:Str}{st:Stmt}{N ps:List Str}{k:Nat}{sp:Sp}(F:FA K mg x st)(S:aW N ps (aK st))(len:∀vs H Q E,sp vs H Q E->vs.length=ps.length) (hb:∀(kV doc pm:Value)(an:Option Addr)(ah ct:Value)(us:List Value),us.length=ps.length->bindArgs (PySem.W.fnOf x x (gv st) (d9 st) (aK st) .none kV doc pm an ah ct) ⟨us,[]⟩=pure (ps.zip us)) (dX:∀(f:Addr)(ah:Value)(A:M9)(outer:List Env)(s:M6)(H:Hp)(vs:List V)(Q:VK)(E:XK),bo k (A.deeper (envOfC x (aK st) s.heap.objs.size f ah))->sp vs H Q E->∃t,cF (dm dw P w K mg base N x (aK st) f ah A outer s H E).iU (d9 st) t/\t {nx:=fun _ H'=>Q .au H',rt:=Q} (start N vs) H):aq P w K mg base x (k+1) sp:=by obtain⟨f,fd,hm,F⟩:=F.ex;exact⟨f,fd,ps,F.ok S len fun ah A outer s H vs Q E=>dX f ah A outer s H vs Q E,hm,F.kp,F.binds hb⟩
end
section
variable {X:Cx}{k:Nat}{x:Str}{p pos:Pos}{e:Expr}{es:List Expr}{t:TA}{sp:Sp}
def vd(sp:Sp)(t:TA):TE:=fun σ H Q=>t σ H fun vs H1=>sp vs H1 Q E0
theorem Em(F:aq X.prog X.w X.K X.mg X.base x k sp)(hr:bo k X.A)(hg:Gl X x)(ha:PA X (e::es) t)(dW:(x==("__debug__":Str))=false:=by decide) (he:starEach (e::es) X.env=(false,eval e X.env)::starEach es X.env:=by rfl)(cX:(backTo pos (starEach es X.env)).any (·.1)=false:=by rfl): PE X (.Call (.Name x p) (e::es) [] pos) (vd sp t):=by
  obtain⟨f,fd,ps,F,hm,hk,hb⟩:=F;have h:=wX (pos:=pos) (p:=p) F hr hg hm hk hb .nil Er ha dW he cX;intro pins s σ H Q I hq;refine h pins s σ H Q I ?_;have e1:(fun(vs:List V) H1=>sp (vs++[]) H1 Q E0)=fun vs H1=>sp vs H1 Q E0:=by funext vs H1;rw[jn]
  show t σ H fun vs H1=>sp (vs++[]) H1 Q E0;rw[e1];exact hq
theorem pf{j:Nat}(F:aq X.prog X.w X.K X.mg X.base x j sp)(hr:bo k X.A)(ha:PA X (e::es) t)(HU:j<=k:=by decide)(hg:Gl X x:=by rfl)(dW:(x==("__debug__":Str))=false:=by decide)(he:starEach (e::es) X.env=(false,eval e X.env)::starEach es X.env:=by rfl)(cX:(backTo pos (starEach es X.env)).any (·.1)=false:=by rfl):PE X (.Call (.Name x p) (e::es) [] pos) (vd sp t):=Em F (hr.mono HU) hg ha dW he cX
theorem eQ:aQ X (binaryOp .Mult) (rI (fun i j=>IntMulOk i j) fun i j=>.int (i*j)):=nu fun _ _ _ _ _ _ _ hc q=>mul_int q hc
theorem EF:aQ X (compareOp .Eq) (eN fun i j=>.bl (decide (i=j))):=kZ fun _ _ _ _ _ _ _ q=>eq_int (by rw[BS];exact q)
theorem Ew:aQ X (compareOp .NotEq) (eN fun i j=>.bl (!decide (i=j))):=kZ fun _ _ _ _ _ _ _ q=>ne_int (by rw[bne,BS];exact q)
theorem EH(hu:X.A.units+64<cLine):aQ X (compareOp .Eq) (fun x y H Q=>eN (fun i j=>.bl (decide (i=j))) x y H Q\/qP X.K x y H Q):=EF.or (EG hu)
theorem Ez(hu:X.A.units+64<cLine):aQ X (compareOp .NotEq) (fun x y H Q=>eN (fun i j=>.bl (!decide (i=j))) x y H Q\/qK X.K x y H Q):=Ew.or (Ey hu)
mutual
theorem eqv_refl:∀d:M8,d.canLay0=true->PyData.eqv d d=true | .none,_=>by simp[PyData.eqv] | .bool b,_=>by simp[PyData.eqv] | .int i,_=>by simp[PyData.eqv] | .str x,_=>by simp[PyData.eqv] | .list ds,h=>by simp only[PyData.eqv];exact eqvAll_refl ds (by simpa[PyData.canLay0]using h) | .tuple ds,h=>by simp only[PyData.eqv];exact eqvAll_refl ds (by simpa[PyData.canLay0]using h) | .dict _,h=>by simp[PyData.canLay0]at h
theorem eqvAll_refl:∀ds:List M8,PyData.canLayAll0 ds=true->PyData.eqvAll ds ds=true |[],_=>by simp[PyData.eqvAll] |d::ds,h=>by simp only[PyData.canLayAll0,bQ]at h;simp only[PyData.eqvAll,bQ];exact⟨eqv_refl d h.1,eqvAll_refl ds h.2⟩
end
theorem iM{K:M5}{H:Hp}(b:Bool):RD K H (.bl b) (.bool b):=by simp[RD]
theorem eE{K:M5}{H:Hp}(i:Int):RD K H (.int i) (.int i):=by simp[RD]
theorem bc{K:M5}{H:Hp}(x:Str):RD K H (.str x) (.str x):=by simp[RD]
theorem dg{K:M5}{H:Hp}:RD K H .au .none:=by simp[RD]
theorem cx{K:M5}{H:Hp}{p:Addr}{xs:List V}{ds:List M8}(h:az K H p xs)(r:aj K H xs ds):RD K H (.ref p) (.tuple ds):=by rw[RD];exact⟨p,xs,rfl,h,r⟩
theorem DC{K:M5}{H:Hp}{p:Addr}{xs:List V}{ds:List M8}(h:aa K H p xs)(r:aj K H xs ds):RD K H (.ref p) (.list ds):=by rw[RD];exact⟨p,xs,rfl,h,r⟩
theorem cT{K:M5}{H:Hp}:aj K H [] []:=by simp[aj]
theorem bS{K:M5}{H:Hp}{x:V}{xs:List V}{d:M8}{ds:List M8}(h:RD K H x d)(r:aj K H xs ds):aj K H (x::xs) (d::ds):=by rw[aj];exact⟨x,xs,rfl,h,r⟩
inductive Ae(t:TS)(D:Ends)(σ:St)(H:Hp):Prop |mk (ua:St->Hp->Prop)(h0:t {D with nx:=ua} σ H)(h1:∀σ' H',ua σ' H'->D.nx σ' H'):Ae t D σ H
def CM (t:TS):TS:=fun D σ H=>Ae t D σ H
theorem gG{st:Stmt}{t:TS}(h:PS X st t):PS X st (CM t):=by intro pins s σ H D I hq;obtain⟨ua,q,m⟩:=hq;refine ak (h pins s σ H _ I q) fun f s1 q1=>?_;cases f with |next=>obtain⟨σ',H',I',q'⟩:=q1;exact⟨σ',H',I',m _ _ q'⟩ |brk=>exact q1 |cont=>exact q1 |ret u=>exact q1
end
end L2
namespace L2
open PySem PySem.Spec PyProof.Rows
def iy(K:M5)(xs:List Str):Prop:=∀x∈xs,PySem.W.nsIn K mainGlobals x=some none
theorem iy.nil{K:M5}:iy K []:=fun _ h=>nomatch h
theorem iy.cons{K:M5}{x:Str}{xs:List Str}(a:PySem.W.nsIn K mainGlobals x=some none)(r:iy K xs):iy K (x::xs):=fun y hy=>by
 rcases aX.mp hy with e|e
 ·rw[e];exact a
 ·exact r y e
theorem Kt{K:M5}{mg:Str->Option Value}{h:Heap}(X:K.In h)(G:h.Ns mainGlobals mg)(a:iy K oO):bb mg:=fun x hx=>PySem.W.mg_none_of X G (a x hx)
theorem GB{l:PySem.W.OpenLaw}{q:M7}{loose:List Str}{XP:(Str->Option Value)->Heap->Prop}{YP:World->Heap->Prop}{d:DefRec}{K:Params->M5}{k:Nat}{x:Str}{st:Stmt}(hn:l.most=some 63)(lP:d.params.defaults=[]) (hr:bo k callerA)(hY:∀(w:World)(h:Heap),YP w h->(K w.params).In h)(All:M5->(Str->Option Value)->Prop) (F:∀(w:World)(mg:Str->Option Value)(h:Heap),(K w.params).In h->h.Ns mainGlobals mg->All (K w.params) mg) (L:∀(K:M5)(mg:Str->Option Value),All K mg->FA K mg d.name st) (hb:∀(kV doc pm:Value)(an:Option Addr)(ah ct u:Value),bindArgs (PySem.W.fnOf d.name d.name (gv st) (d9 st) (aK st) .none kV doc pm an ah ct) ⟨[u],[]⟩=pure [(x,u)]) (ok:∀(P:M7)(w:World)(K:M5)(mg:Str->Option Value)(base:Heap)(f:Addr)(fd:FuncData),All K mg->fZ K d.name d.name st f fd->dZ P w K mg base dw k f fd [x] (fun vs H Q _=>∃(a:Addr)(ns:List Int),vs=[.ref a]/\aa K H a (ns.map V.int)/\ns.length<=63/\∀H',Q (.bl true) H')): PySem.W.WalkO q loose XP YP l.row.toRowW d [] (fun f vs=>PySem.call f vs):=L2.C5 (n:=63) (k:=k) (x:=x) (CX:=fun _=>dw) (sp:=fun w=>fun vs H Q _=>∃(a:Addr)(ns:List Int),vs=[.ref a]/\aa (K w.params) H a (ns.map V.int)/\ns.length<=63/\∀H',Q (.bl true) H') hn (by decide) lP hr hY (fun w mg fa h KX G lM=>by
     have A:=F w mg h KX G;obtain⟨f,fd,hm,Fn⟩:=(L _ _ A).ex;have e:fa=f:=by rw[lM]at hm;injection (cf hm)
     subst e;refine⟨fd,fun s u=>?_,fun base _ _=>ok l.prog w _ mg base fa fd A Fn⟩;obtain⟨oc,od,kV,doc,pm,an,ah,ct,bX,rfl,lk,bO⟩:=Fn.ex;exact .of_eq (hb kV doc pm an ah ct u)) (fun _ _ a ns hl _ hS=>⟨a,ns,rfl,hS,hl,fun _=>rfl⟩) fun _ _ _ _ _ z=>z
theorem tG{env:Env}:∀(ns:List (Str×NameKind))(cs:List (Str×Addr)),(∀x∈ns,x.2= .free->∃c,env.cells.lookup x.1=some c)->(∀x c,cs.lookup x=some c->env.cells.lookup x=some c)->∃cl,(forIn ns cs (fun x r=>if(x.2==NameKind.free)=true then do let a<-cellOf env x.1;pure (ForInStep.yield ((x.1,a)::r))else pure (ForInStep.yield r)):Sem (List (Str×Addr)))=pure cl/\(∀x c,cl.lookup x=some c->env.cells.lookup x=some c)/\(∀x c,cs.lookup x=some c->∃c',cl.lookup x=some c')/\∀x∈ns,x.2= .free->∃c,cl.lookup x.1=some c
  |[],cs,_,h2=>⟨cs,rfl,h2,fun x c e=>⟨c,e⟩,fun _ h=>nomatch h⟩ |(n,k)::r,cs,h1,h2=>by
    by_cases hk:k= .free
    · subst hk
      obtain⟨c,hc⟩:=h1 (n,.free) (.head _) rfl;have e1:cellOf env n=pure c:=by unfold cellOf;rw[show env.cells.lookup n=some c from hc]
      obtain⟨cl,a1,a2,a3,a4⟩:=tG r ((n,c)::cs) (fun x hx=>h1 x (.tail _ hx)) (fun x d e=>by rw[et]at e;cases z:x==n with |true=>rw[z]at e;cases e;rw[cu.mp z];exact hc |false=>rw[z]at e;exact h2 x d e);refine⟨cl,?_,a2,fun x d e=>?_,fun x hx hf=>?_⟩
      · rw[List.forIn_cons]
        show(do let r'<-(if(NameKind.free==NameKind.free)=true then do let a<-cellOf env n;pure (ForInStep.yield ((n,a)::cs))else pure (ForInStep.yield cs));_)=_;rw[aH (by rfl),e1];exact a1
      · by_cases z:x==n
        ·exact a3 x c (by rw[et,z])
        ·exact a3 x d (by rw[et,fc.mpr z];exact e)
      · rcases aX.mp hx with rfl|hx
        ·exact a3 n c (by rw[et,uh])
        ·exact a4 x hx hf
    · obtain⟨cl,a1,a2,a3,a4⟩:=tG r cs (fun x hx=>h1 x (.tail _ hx)) h2
      refine⟨cl,?_,a2,a3,fun x hx hf=>?_⟩
      · rw[List.forIn_cons]
        show(do let r'<-(if(k==NameKind.free)=true then do let a<-cellOf env n;pure (ForInStep.yield ((n,a)::cs))else pure (ForInStep.yield cs));_)=_;rw[aC (by simpa using hk)];exact a1
      · rcases aX.mp hx with rfl|hx
        ·exact absurd hf hk
        ·exact a4 x hx hf
theorem zB{env:Env}{scope:Scope}(h1:∀x∈scope.names,x.2= .free->∃c,env.cells.lookup x.1=some c): ∃cl,closureFor scope env=pure cl/\(∀x c,cl.lookup x=some c->env.cells.lookup x=some c)/\∀x∈scope.names,x.2= .free->∃c,cl.lookup x.1=some c:=by
  obtain⟨cl,a1,a2,_,a4⟩:=tG (env:=env) scope.names [] h1 (fun x c e=>nomatch e);refine⟨cl,?_,a2,a4⟩;unfold closureFor;show(forIn scope.names ([]:List (Str×Addr)) (fun(x:Str×NameKind) r=>match x with|(name,kind)=>if(kind==NameKind.free)=true then do let a<-cellOf env name;pure (ForInStep.yield ((name,a)::r))else pure (ForInStep.yield r))>>=fun r=>(pure r:Sem (List (Str×Addr))))=pure cl;have ef:(fun(x:Str×NameKind)(r:List (Str×Addr))=>match x with|(name,kind)=>(if(kind==NameKind.free)=true then do let a<-cellOf env name;pure (ForInStep.yield ((name,a)::r))else pure (ForInStep.yield r):Sem (ForInStep (List (Str×Addr))))) =fun x r=>if(x.2==NameKind.free)=true then do let a<-cellOf env x.1;pure (ForInStep.yield ((x.1,a)::r))else pure (ForInStep.yield r):=by funext x r;obtain⟨n,k⟩:=x;rfl
  rw[ef,a1];rfl
theorem xR{env:Env}(hk:env.scope.kind= .function){x:Str}(hx:env.kindOf x=some .cell):∀{names:List (Str×NameKind)},names.lookup x=some .free->(names.map fun(n,k)=>if(k==NameKind.free&&env.scope.kind== .function&&env.kindOf n==some .cell)then(n,NameKind.cell)else(n,k)).lookup x=some .cell |[],h=>nomatch h |(n,k)::r,h=>by have ih:=@xR env hk x hx r;show List.lookup x ((if(k==NameKind.free&&env.scope.kind== .function&&env.kindOf n==some .cell)=true then(n,NameKind.cell)else(n,k))::_)=_;cases z:x==n with |true=>simp only[et,z]at h;cases h;have e:=cu.mp z;subst e;rw[aH (by rw[hk,hx];rfl),et,z] |false=>simp only[et,z]at h;split<;>(simp only[et,z];exact ih h)
def bL(X:Cx)(N:List Str)(scope:Scope)(cl:List (Str×Addr))(s:M6)(H:Hp)(fp:List Addr)(pins:List (Addr×Obj)):Cx:={prog:=X.prog,w:=X.w,K:=X.K,mg:=X.mg,base:=X.base,A:=X.A,N:=N,s₀:=s,H₀:=H,env:=compEnvC scope cl s.heap.objs.size X.env,outer:=X.stack,stack:=X.stack,ex:=fp,fn:=fun _=>false,calm:=X.calm,pn:=X.pn++pins,xe:=fun _ _=>False}
def stC(js:List (Option Nat))(σ:St):St:=js.map fun|none=>none|some j=>(σ[j]?).join
def oM(X:Cx)(N:List Str)(js:List (Option Nat))(scope:Scope):Bool:=N.length==js.length&&(N.zip js).all fun p=>match p.2 with|none=>true|some j=>X.N[j]? ==some p.1&&scope.names.lookup p.1==some NameKind.free&&X.env.kindOf p.1==some NameKind.cell
def jX(X:Cx)(scope:Scope):Bool:=scope.kind== .function&&X.env.scope.kind== .function&&scope.names.all fun x=>match x.2 with | .free=>X.env.kindOf x.1==some NameKind.cell | .cell=>false | .local=>scope.names.lookup x.1==some NameKind.local |_=>true
section
variable {X:Cx}{pins:List (Addr×Obj)}{σ:St}{H:Hp}{s:M6}
theorem lookup_mem{α β:Type}[BEq α][LawfulBEq α]:∀{l:List (α×β)}{x:α}{b:β},l.lookup x=some b->(x,b)∈l |[],_,_,h=>nomatch h |(n,k)::r,x,b,h=>by rw[et]at h;cases z:x==n with |true=>rw[z]at h;cases h;rw[cu.mp z];exact .head _ |false=>rw[z]at h;exact .tail _ (lookup_mem h)
theorem wG{env:Env}{x:Str}{k:NameKind}:∀{names:List (Str×NameKind)},(names.map fun(n,k)=>if(k==NameKind.free&&env.scope.kind== .function&&env.kindOf n==some .cell)then(n,NameKind.cell)else(n,k)).lookup x=some k->names.lookup x=some k\/(k= .cell/\names.lookup x=some .free) |[],h=>nomatch h |(n,k')::r,h=>by have ih:=@wG env x k r;have h':List.lookup x ((if(k'==NameKind.free&&env.scope.kind== .function&&env.kindOf n==some .cell)=true then(n,NameKind.cell)else(n,k'))::(r.map fun(n,k)=>if(k==NameKind.free&&env.scope.kind== .function&&env.kindOf n==some .cell)then(n,NameKind.cell)else(n,k)))=some k:=h;cases z:x==n with
    |true=>
      split at h'
      · rename_i hc
        simp only[et,z]at h';cases h';rw[bQ,bQ]at hc;have e:k'= .free:=cu.mp hc.1.1;subst e;exact .inr ⟨rfl,by rw[et,z]⟩
      · simp only[et,z]at h'
        cases h';exact .inl (by rw[et,z]) |false=>
      rw[et,z];refine ih ?_;split at h'
      ·simpa only[et,z]using h'
      ·simpa only[et,z]using h'
theorem Inv.comp{N:List Str}{js:List (Option Nat)}{scope:Scope}{cl:List (Str×Addr)}{fp:List Addr}{h':Heap}{tk:Nat}(I:Inv X pins σ H s)(hN:oM X N js scope=true)(hS:jX X scope=true) (c1:∀x c,cl.lookup x=some c->X.env.cells.lookup x=some c)(c2:∀x∈scope.names,x.2= .free->∃c,cl.lookup x.1=some c)(hf:∀b∈fp,eZ X pins H b)(Im:∀b∈fp,b<s.heap.objs.size) (hn:h'.Ns s.heap.objs.size fun _=>none)(hk:∀b o,s.heap.get? b=some o->h'.get? b=some o):Inv (bL X N scope cl s H fp pins) [] (stC js σ) H {s with heap:=h',toks:=tk}:=by
  unfold jX at hS;rw[bQ,bQ]at hS;obtain⟨⟨s1,s2⟩,s3⟩:=hS;have fM:scope.kind= .function:=cu.mp s1;have HR:X.env.scope.kind= .function:=cu.mp s2;unfold oM at hN;rw[bQ]at hN;obtain⟨n1,n2⟩:=hN;have hlen:N.length=js.length:=cu.mp n1;have yf:∀x k,(relabel scope X.env).names.lookup x=some k->scope.names.lookup x=some k\/(k= .cell/\scope.names.lookup x=some .free):=fun x k e=>wG e;have FX:∀x,scope.names.lookup x≠some .cell:=fun x e=>by have:=bV.mp s3 _ (lookup_mem e);exact ba this
  have yQ:∀b∈(bL X N scope cl s H fp pins).fs,b∈X.env.locals::X.fs:=I.pM;have ok:(bL X N scope cl s H fp pins).Ok:={
    mod:=I.ok.mod
    kind:=fM
    glob:=I.ok.glob
    blt:=I.ok.blt
    above:=aD _
    inj:=fun x y c e1 e2=>I.ok.inj x y c (c1 x c e1) (c1 y c e2)
    has:=fun x hx=>by
     have fr:scope.names.lookup x=some .free->∃c,cl.lookup x=some c:=fun e=>c2 (x,.free) (lookup_mem e) rfl;rcases hx with e|e
     · rcases yf x _ e with e|⟨_,e⟩
       ·exact absurd e (FX x)
       ·exact fr e
     · rcases yf x _ e with e|⟨z,_⟩
       ·exact fr e
       ·cases z
    cab:=fun x c e=>nomatch e
    hd:=I.ok.hd
    frames:=I.ok.frames
    stk:=.inl rfl
    exf:=fun b hb=>⟨bF (Im b hb),fun x c e=>(hf b hb).2.2.2.2.1 x c (c1 x c e)⟩
    bs:=I.bs
    bsz:=bG I.ok.bsz I.sz
    noex:=fun b o e hb=>by
     rcases(hf b hb).2.2.2.1 with z|z
     ·exact I.ok.noex b o e z
     ·exact absurd (dz (aN e) (bG I.ok.bsz z)) (kq _)
    exfs:=fun b hb z=>by
     obtain⟨_,q1,q2,_⟩:=hf b hb;rcases aX.mp (yQ b z)with e|e
     ·exact q1 e
     ·exact q2 e
    dJ:=I.stack
    frf:=I.mR};refine⟨ok,rfl,I.bare,Un.kept hk,⟨_,hn,fun i x v e1 e2 e3=>?_⟩,fun x c e=>?_,I.hok.fresh (aD _),fun x c e=>I.freeC x c (c1 x c e),fun p hp=>?_,I.hok.kept hk,?_⟩
  · have jV:(js.map fun|none=>none|some j=>(σ[j]?).join)[i]? =some (some v):=e2
    rw[cg]at jV;cases hj:js[i]? with |none=>rw[hj]at jV;cases jV |some o=>rw[hj]at jV;cases o with |none=>cases jV |some j=>
        have hz:(N.zip js)[i]? =some (x,some j):=by rw[List.getElem?_zip_eq_some];exact⟨e1,hj⟩
        have zC:=bV.mp n2 _ (eL hz);simp only[bQ,cu]at zC;obtain⟨⟨h1,h2⟩,h3⟩:=zC;have oF:(σ[j]?).join=some v:=by simpa using jV
        have hσ:σ[j]? =some (some v):=by cases q:σ[j]? with |none=>rw[q]at oF;cases oF |some o=>
           rw[q]at oF;have:o=some v:=by simpa using oF
           rw[this]
        obtain⟨m,hm,hl⟩:=I.loc;obtain⟨u,r,l⟩:=hl j x v h1 hσ (.inr (.inl h3));refine⟨u,r,?_⟩;rcases l with⟨k,_⟩|⟨_,c,hc,ie⟩
        ·rw[h3]at k;cases k
        · obtain⟨c',eU⟩:=c2 (x,.free) (lookup_mem h2) rfl
          have:=c1 x c' eU;rw[hc]at this;cases this;refine .inr ⟨.inl (xR HR h3 h2),c,eU,?_⟩;obtain⟨ob,ho,hd⟩:=ie;exact⟨ob,hk _ _ ho,hd⟩
  · obtain⟨v,ob,ho,hd⟩:=I.cell x c (c1 x c e)
    exact⟨v,ob,hk _ _ ho,hd⟩
  · have nZ:p∈X.pn++pins:=by simpa[bL]using hp
    obtain⟨a1,a2,a3,a4,a5⟩:=I.pin p nZ;refine⟨hk _ _ a1,a2,bF (aN a1),fun z=>?_,a5⟩;rcases aX.mp (yQ p.1 z)with e|e
    ·exact a3 e
    ·exact a4 e
  · show(js.map _).length=N.length
    rw[aF,hlen]
end
theorem zx{prog:M7}{w:World}{A:M9}{R:Result->M6->Prop}{s:M6}{elt target iter:Expr}{ifs:List Expr}{scope:Scope}{pos:Pos}{it acc:Value}{env:Env}(I:Nat->M6->Prop) (turn:∀n s,I n s->wpAny (model prog w) A (pyNext it) (fun r s₁=>match r with |none=>R (.ok .next) s₁ |some v=>wpAny (model prog w) A (letOwnedTupleGo target it v) (fun _ s₁=>wpAny (model prog w) A (assign target env v) (fun _ s₂=>wpAny (model prog w) A (forIn ifs true fun c r=>if r=true then do let ok<-isTrue c env (eval c env);pure (ForInStep.yield ok)else pure (ForInStep.yield r)) (fun ok s₃=>if ok=true then wpAny (model prog w) A (eval elt env) (fun x s₄=>wpAny (model prog w) A (call (.builtin "list.append") [acc,x]) (fun _ s₅=>∃m,m<n/\I m s₅) (fun _ _=>False) s₄) (fun _ _=>False) s₃ else∃m,m<n/\I m s₃) (fun _ _=>False) s₂) (fun _ _=>False) s₁) (fun _ _=>False) s₁) (fun _ _=>False) s) (n:Nat)(h:I n s):codeAny (model prog w) A (.compLoop (.ListComp elt [⟨target,iter,ifs,0⟩] scope pos) 0 it acc env) R s:=by refine codeAny_loop rfl I (fun n s hI=>?_) n h;show wpAny _ A ((compTurn (.ListComp elt [⟨target,iter,ifs,0⟩] scope pos) 0 it acc env).onRaise (fun x=>do noteFrame x env;theTreesLotGoes x)) _ _ s;refine wpAny_noted ?_;rw[compTurn_list];refine ag (ke (ag (dy (turn n s hI) (fun r s₁ h₁=>?_) fun _ _ h'=>h'.elim)));cases r with |none=>exact aM h₁ |some v=>refine ag (dy h₁ (fun _ Lg h₁=>?_) fun _ _ h'=>h'.elim);refine ag (dy h₁ (fun _ s₂ h₂=>ag (dy h₂ (fun ok s₃ h₃=>?_) fun _ _ h'=>h'.elim)) fun _ _ h'=>h'.elim);cases ok with |false=>exact aM ⟨rfl,h₃⟩ |true=>exact ag (ag (dy h₃ (fun x s₄ h₄=>ag (dy h₄ (fun _ s₅ h₅=>aM (aM ⟨rfl,h₅⟩)) fun _ _ h'=>h'.elim)) fun _ _ h'=>h'.elim))
def oQ(X:Cx)(ifs:List Expr)(t:TT):Prop:=∀(pins:List (Addr×Obj))(s:M6)(σ:St)(H:Hp)(Q:Bool->Hp->Prop),Inv X pins σ H s->t σ H Q->wpAny (model X.prog X.w) X.A (forIn ifs true fun c r=>if r=true then do let ok<-isTrue c X.env (eval c X.env);pure (ForInStep.yield ok)else pure (ForInStep.yield r)) (TP X pins σ Q) X.xe s
def gf:TT:=fun _ H Q=>Q true H
theorem eO{X:Cx}:oQ X [] gf:=fun _ _ _ H _ I h=>wpAny_tests_nil ⟨H,I,h⟩
theorem DZ{X:Cx}{c:Expr}{t:TT}(h:PT X c t):oQ X [c] t:=fun pins s σ H Q I hq=>wpAny_tests_one (h pins s σ H Q I hq)
def gb(J:It)(g:TG)(tt:TT)(te:TE)(Q:VK)(D:Addr)(σ:St)(H:Hp):Prop:=∃W:Nat->Nat->St->Hp->Prop,(∃m,W 0 m σ H)/\∀i m σ' H',W i m σ' H'->(J.stop i H'/\Q (.ref D) H')\/(J.go i H'/\∀x H2,J.yld i H' x H2->g x σ' H2 fun σ3 H3=>tt σ3 H3 fun ok H4=>if ok=true then te σ3 H4 fun y H5=>∃ys,H5 D=some (.lst ys)/\ys.length<sizeLine/\∃m',m'<m/\W (i+1) m' σ3 (upd H5 D (.lst (ys++[y]))) else∃m',m'<m/\W (i+1) m' σ3 H4)
def vf(js:List (Option Nat))(wi:TI)(g:TG)(tt:TT)(te:TE):TE:=fun σ H Q=>wi σ H fun J H1=>∀D H2,Nw H1 H2 D (.lst [])->gb J g tt te Q D (stC js σ) H2
theorem bq.but{P:M7}{w:World}{H:Hp}{h h':Heap}{C:Addr}(ok:bq P w H h)(hn:H C=none)(hs:Heap.SameBut C h h'):bq P w H h':=fun b ob e=>by
 refine(ok b ob e).fv (fun c w' hc q=>(hs.2 c ?_).trans q) (fun _ q=>q) fun _ _ q=>q;rintro rfl;rcases hc with rfl|hc
 ·rw[hn]at e;cases e
 ·rw[hn]at hc;cases hc
set_option maxHeartbeats 1000000 in
theorem fh{X:Cx}{N:List Str}{js:List (Option Nat)}{elt tg iter:Expr}{ifs:List Expr}{scope:Scope}{pos:Pos}{wi:TI}{g:TG}{tt:TT}{te:TE}(hc:X.calm=true)(hN:oM X N js scope=true)(hS:jX X scope=true) (hi:PI X tg iter wi)(hg:∀cl s H fp pins,PG (bL X N scope cl s H fp pins) tg g)(ht:∀cl s H fp pins,oQ (bL X N scope cl s H fp pins) ifs tt)(he:∀cl s H fp pins,PE (bL X N scope cl s H fp pins) elt te) (hs:∀x,foldedSetIterable iter X.env x=pure x:=by intro _;rfl):PE X (.ListComp elt [⟨tg,iter,ifs,0⟩] scope pos) (vf js wi g tt te):=by
  intro pins s σ H Q I h;have j7:=hS;unfold jX at j7;rw[bQ,bQ]at j7;obtain⟨⟨k1,k2⟩,k3⟩:=j7;have fM:scope.kind= .function:=cu.mp k1;have jO:∀x∈scope.names,x.2= .free->∃c,X.env.cells.lookup x.1=some c:=fun x hx e=>by have:=bV.mp k3 x hx;rw[e]at this;exact I.ok.has x.1 (.inl (cu.mp this))
  have ie:∀x∈scope.names,x.2≠ .cell:=fun x hx e=>by have:=bV.mp k3 x hx;rw[e]at this;exact ba this
  have sA:∀x∈scope.names,x.2= .local->scope.names.lookup x.1=some .local:=fun x hx e=>by have:=bV.mp k3 x hx;rw[e]at this;exact cu.mp this
  obtain⟨cl,sH,c1,c2⟩:=zB jO;rw[eval_ListComp];refine wpAny_comprehension_free (use:=none) rfl hs sH fM sA (ak (hi pins s σ H _ I h) fun v s1 h1=>ak h1 fun nO s2 h2=>?_);obtain⟨it,fp,tn,J,H2,e,I2,T,iK,f2,h2⟩:=h2;subst e;have hD:H2 s2.heap.objs.size=none:=I2.hok.fresh (aD _);obtain⟨W,⟨m0,w0⟩,turn⟩:=h2 _ _ (Nw.of hD);refine iB (wpAny_newFunctionEnv ie (by intro y hy;simp at hy) (fun h₁ lJ lH=>?_) fM);have j9:∀b∈fp,b<s2.heap.objs.size:=fun b hb=>by obtain⟨o,e,_⟩:=T.obj _ _ iK b hb;exact aN e
  have I3:Inv X pins σ (upd H2 s2.heap.objs.size (.lst [])) {s2 with heap:=s2.heap.push {cls:=.type "list",dict:=none,data:=.seq ([]:List Value).toArray}}:=I2.xS (its:=[]) (t':=s2.toks) .nil (bE _);generalize lU:s2.heap.push {cls:=.type "list",dict:=none,data:=.seq ([]:List Value).toArray}=h3 at I3 lJ lH;have kJ:h3.objs.size=s2.heap.objs.size+1:=by rw[<-lU,uM]
  have rT:∀b o,s2.heap.get? b=some o->h3.get? b=some o:=fun b o e=>by rw[<-lU];exact bw _ e
  have f3:∀b∈fp,eZ X pins (upd H2 s2.heap.objs.size (.lst [])) b:=fun b hb=>⟨by rw[aL (bF (j9 b hb))];exact(f2 b hb).1,(f2 b hb).2⟩;have lq:∀b o,h3.get? b=some o->h₁.get? b=some o:=fun b o e=>(lH.2 b (bF (aN e))).trans (bw _ e);have I4:Inv (bL X N scope cl {s2 with heap:=h3} (upd H2 s2.heap.objs.size (.lst [])) fp pins) [] (stC js σ) (upd H2 s2.heap.objs.size (.lst [])) {s2 with heap:=h₁,toks:=s2.toks+([]:List (Str×Value)).length}:=I3.comp (s:={s2 with heap:=h3}) hN hS c1 c2 f3 (fun b hb=>by show b<h3.objs.size;rw[kJ];exact uv (j9 b hb)) (by simpa using lJ) lq;have kK:tn 0 h₁:=T.keep _ _ _ iK fun b _ o e=>lq b o (rT b o e);have loop:codeAny (model X.prog X.w) X.A (.compLoop (.ListComp elt [⟨tg,iter,ifs,0⟩] scope pos) 0 (.ref it) (.ref s2.heap.objs.size) (compEnvC scope cl h3.objs.size X.env)) (compPost (model X.prog X.w) X.A X.xe none (EP X pins σ Q) (.ref s2.heap.objs.size) h3.objs.size) {s2 with heap:=h₁,toks:=s2.toks+([]:List (Str×Value)).length}:=by
    refine zx (fun n s'=>∃i σ' H',Inv (bL X N scope cl {s2 with heap:=h3} (upd H2 s2.heap.objs.size (.lst [])) fp pins) [] σ' H' s'/\tn i s'.heap/\(∀b∈fp,H' b=none)/\W i n σ' H') ?_ m0 ⟨0,_,_,I4,kK,fun b hb=>(f3 b hb).1,w0⟩;rintro n s5 ⟨i,σ5,H5,I5,gD,j8,w5⟩;have fw:∀{H':Hp},(∀b∈fp,H' b=none)->∀b∈fp,eZ (bL X N scope cl {s2 with heap:=h3} (upd H2 s2.heap.objs.size (.lst [])) fp pins) [] H' b:=fun{H'} hn b hb=>by
     obtain⟨_,q1,q2,q3,q4,q5⟩:=f3 b hb;refine⟨hn b hb,fun z=>?_,I4.ok.exfs b hb,.inl hb,fun x c e=>q4 x c (c1 x c e),fun p hp=>q5 p (by simpa[bL]using hp)⟩;have bf:b<h3.objs.size:=by rw[kJ];exact uv (j9 b hb)
     exact bF bf z
    rcases turn i n σ5 H5 w5 with⟨stop,qn⟩|⟨go,step⟩
    · refine ak (T.done (bL X N scope cl {s2 with heap:=h3} (upd H2 s2.heap.objs.size (.lst [])) fp pins) rfl rfl rfl hc i [] s5 σ5 H5 _ I5 (fw j8) gD stop) fun r s6 ⟨hr,I6⟩=>?_
      subst hr;obtain⟨m,hm,_⟩:=I6.loc;refine⟨m,hm,fun h7 nV=>?_⟩;have u0:Un (bK X.stack) fp (upd H2 s2.heap.objs.size (.lst [])) H5 h3 s6.heap:=I6.base;have ne:∀b o,h3.get? b=some o->b≠h3.objs.size:=fun b o e=>bF (aN e);have u:Un (bK X.stack) fp (upd H2 s2.heap.objs.size (.lst [])) H5 h3 h7:=⟨fun b o e n hb hx=>(nV.2 b (ne b o e)).trans (u0.keep b o e n hb hx),fun b o e n hb hx=>let⟨sl,q⟩:=u0.slot b o e n hb hx;⟨sl,(nV.2 b (ne b o e)).trans q⟩,u0.free,fun b o e hx=>let⟨o',q⟩:=u0.there b o e hx;⟨o',(nV.2 b (ne b o e)).trans q⟩,u0.tups,u0.frzs,u0.tbls⟩;have I7:Inv X pins σ H5 {s6 with heap:=h7}:=I3.oN (s':={s6 with heap:=h7}) (ch:=fp) I6.os u (I6.hok.but I6.free nV) I6.bare fun b hb=>⟨(f3 b hb).2.2.2.1,(f3 b hb).2.1,(f3 b hb).2.2.2.2.1,(f3 b hb).2.2.2.2.2⟩;exact⟨.ref s2.heap.objs.size,H5,I7,rfl,qn⟩
    · refine ak (T.item (bL X N scope cl {s2 with heap:=h3} (upd H2 s2.heap.objs.size (.lst [])) fp pins) rfl rfl rfl hc i [] s5 σ5 H5 _ I5 (fw j8) gD go) fun r s6 ⟨u,hr,h6⟩=>?_
      subst hr;refine ak h6 fun _ s7 ⟨x,H7,I7,r7,y7,iJ,sX⟩=>?_;have ub:=I7.pinned (fw sX) (T.obj _ _ iJ);refine ak (hg _ _ _ _ _ _ s7 σ5 H7 x u _ ub r7 (step x H7 y7)) fun _ s8 ⟨σ8,H8,I8,q8⟩=>?_;refine ak (ht _ _ _ _ _ _ s8 σ8 H8 _ I8 q8) fun ok s9 ⟨H9,I9,q9⟩=>?_;have again:∀{s':M6}{σ7:St}{H7:Hp},Inv (bL X N scope cl {s2 with heap:=h3} (upd H2 s2.heap.objs.size (.lst [])) fp pins) ([]++jB fp s7.heap) σ7 H7 s'->(∃m',m'<n/\W (i+1) m' σ7 H7)->∃m,m<n/\∃i σ' H',Inv (bL X N scope cl {s2 with heap:=h3} (upd H2 s2.heap.objs.size (.lst [])) fp pins) [] σ' H' s'/\tn i s'.heap/\(∀b∈fp,H' b=none)/\W i m σ' H':=fun{s' σ7 H7} J7 n7=>by obtain⟨m',hm,w7⟩:=n7;refine⟨m',hm,i+1,σ7,H7,J7.kF,T.keep _ _ _ iJ fun b hb o e=>(J7.pin (b,o) (eM _ (eM _ (jL hb e)))).1,fun b hb=>?_,w7⟩;obtain⟨o,e,d⟩:=T.obj _ _ iJ b hb;exact(J7.pin (b,o) (eM _ (eM _ (jL hb e)))).2.1
      cases ok with |false=>rw[aC ba]at q9⊢;exact again I9 q9 |true=>rw[aH rfl]at q9⊢;refine ak (he _ _ _ _ _ _ s9 σ8 H9 _ I9 q9) fun yv cJ ⟨y,cz,kc,qQ,ys,sf,hz,kE⟩=>?_;refine ak (rL _ cJ σ8 cz (.ref s2.heap.objs.size) [y] (.ref s2.heap.objs.size) [yv] (fun _ dc=>∃m',m'<n/\W (i+1) m' σ8 dc) kc rfl (.cons qQ .nil) ⟨_,ys,y,rfl,rfl,sf,hz,kE⟩) fun _ fg ⟨v11,dc,uc,DX,jx⟩=>?_;exact again uc jx
  exact codeAny_compStart_list loop (T.self _ 0 _ _ _ kK loop)
theorem tJ:∀{bs:List Bool}{us:List Value},Vals (bs.map V.bl) us->us=bs.map Value.bool |[],_,.nil=>rfl |b::r,_,.cons q t=>by cases(show _=Value.bool b from q);rw[tJ t];rfl
section
variable {X:Cx}
theorem Km(hc:X.calm=true):bM X (.builtin "all") (fun xs H Q=>∃(l:Addr)(bs:List Bool),xs=[.ref l]/\aa X.K H l (bs.map V.bl)/\Q (.bl (bs.all id)) H):=by
 intro pins s σ H xs us Q I r h;obtain⟨l,bs,rfl,hl,q⟩:=h;obtain⟨u,rfl,ru⟩:=vals1 r;cases(show u=Value.ref l from ru);obtain⟨its,rv,pl,hz⟩:=I.list hl;have e:=tJ rv;subst e;have cZ:=pl.isList;have bf:l<s.heap.objs.size:=by obtain⟨_,e,_⟩:=cZ;exact aN e
 have hh:=I.ok.hd hc;refine call_all_walk (me cZ ?_);refine⟨s.heap.objs.size,[s.heap.objs.size,l],[s.heap.objs.size],(bs.map Value.bool).toArray.size,_,_,fun i=>(bs[i]?).getD true,rfl,Walks.list (A:=X.A.in1) hh _ l (bF bf) (bs.map Value.bool).toArray,⟨⟨_,cw _ rfl,rfl,rfl⟩,cZ.push _⟩,fun i v s' Q' E' hP hQ=>?_,fun h' tk hk=>?_⟩
 · have fP:(bs.map Value.bool)[i]? =some v:=by simpa using hP
   rw[cg]at fP;cases e:bs[i]? with |none=>rw[e]at fP;cases fP |some b=>rw[e]at fP;cases fP;simp only[e,Option.getD_some]at hQ;exact gW hQ
 · have e:((List.range (bs.map Value.bool).toArray.size).all fun i=>(bs[i]?).getD true)=bs.all id:=by rw[bC,aF];exact LSm.range_all bs
   rw[e];exact⟨.bl _,H,I.kept (LSm.kept_iter hk),rfl,q⟩
theorem Kl(hc:X.calm=true):bM X (.builtin "any") (fun xs H Q=>∃(l:Addr)(bs:List Bool),xs=[.ref l]/\aa X.K H l (bs.map V.bl)/\Q (.bl (bs.any id)) H):=by
 intro pins s σ H xs us Q I r h;obtain⟨l,bs,rfl,hl,q⟩:=h;obtain⟨u,rfl,ru⟩:=vals1 r;cases(show u=Value.ref l from ru);obtain⟨its,rv,pl,hz⟩:=I.list hl;have e:=tJ rv;subst e;have cZ:=pl.isList;have bf:l<s.heap.objs.size:=by obtain⟨_,e,_⟩:=cZ;exact aN e
 have hh:=I.ok.hd hc;refine call_any_walk (me cZ ?_);refine⟨s.heap.objs.size,[s.heap.objs.size,l],[s.heap.objs.size],(bs.map Value.bool).toArray.size,_,_,fun i=>(bs[i]?).getD false,rfl,Walks.list (A:=X.A.in1) hh _ l (bF bf) (bs.map Value.bool).toArray,⟨⟨_,cw _ rfl,rfl,rfl⟩,cZ.push _⟩,fun i v s' Q' E' hP hQ=>?_,fun h' tk hk=>?_⟩
 · have fP:(bs.map Value.bool)[i]? =some v:=by simpa using hP
   rw[cg]at fP;cases e:bs[i]? with |none=>rw[e]at fP;cases fP |some b=>rw[e]at fP;cases fP;simp only[e,Option.getD_some]at hQ;exact gW hQ
 · have e:((List.range (bs.map Value.bool).toArray.size).any fun i=>(bs[i]?).getD false)=bs.any id:=by rw[bC,aF];exact LSm.range_any bs
   rw[e];exact⟨.bl _,H,I.kept (LSm.kept_iter hk),rfl,q⟩
end
theorem lZ{J:It}{g:TG}{tt:TT}{te:TE}{Q:VK}{D:Addr}{σ:St}{H:Hp}(n:Nat)(Pv:Nat->St->Hp->Prop)(h0:Pv 0 σ H) (hs:∀i σ H,i<n->Pv i σ H->J.go i H/\∀x H2,J.yld i H x H2->g x σ H2 fun σ3 H3=>tt σ3 H3 fun ok H4=>if ok=true then te σ3 H4 fun y H5=>∃ys,H5 D=some (.lst ys)/\ys.length<sizeLine/\∃m',m'<n-i/\m'=n-(i+1)/\i+1<=n/\Pv (i+1) σ3 (upd H5 D (.lst (ys++[y]))) else∃m',m'<n-i/\m'=n-(i+1)/\i+1<=n/\Pv (i+1) σ3 H4) (hd:∀σ H,Pv n σ H->J.stop n H/\Q (.ref D) H): gb J g tt te Q D σ H:=by
  refine⟨fun i m σ H=>m=n-i/\i<=n/\Pv i σ H,⟨n,by simp,bE _,h0⟩,?_⟩;rintro i m σ H ⟨rfl,hi,p⟩;by_cases bf:i<n
  ·exact .inr (hs i σ H bf p)
  · have e:i=n:=by omega
    subst e;exact .inl (hd σ H p)
section
variable {X:Cx} {tg:Expr}
theorem GR(K:M5)(h:X.K=K):gR X (fun x y H Q=>qM K x y H Q\/qL K x y H Q):=by subst h;exact GQ.or GP
inductive AW(K:M5)(x:V)(lo:Option Int)(hi:Option Int)(H:Hp)(Q:VK):Prop |mk (a:_)(xs:_)(h0:x= .ref a)(h1:((aa K H a xs/\∀p H',Nw H H' p (.lst (cN xs lo hi))->Q (.ref p) H')\/ (az K H a xs/\¬(HT.aI xs.length 0 lo=0/\HT.aI xs.length xs.length hi=xs.length)/\∀p H',Nw H H' p (.tup (cN xs lo hi))->Q (.ref p) H'))):AW K x lo hi H Q
def DL(K:M5):V->Option Int->Option Int->Hp->VK->Prop:=fun x lo hi H Q=>AW K x lo hi H Q
theorem gh(K:M5)(h:X.K=K):m6 X (DL K):=by
 subst h;intro pins s σ H x v vl vu lo hi sl Q I rx hs pl pu hq;obtain⟨a,xs,e,hq⟩:=hq;rcases hq with⟨h1,k⟩|⟨h1,h2,k⟩
 ·exact Dg pins s σ H x v vl vu lo hi sl Q I rx hs pl pu ⟨a,xs,e,h1,fun p hp=>k p _ (.of hp)⟩
 ·exact Df pins s σ H x v vl vu lo hi sl Q I rx hs pl pu ⟨a,xs,e,h1,h2,fun p hp=>k p _ (.of hp)⟩
theorem Gz(K:M5)(h:X.K=K):bM X (.builtin "len") (fun xs H Q=>∃p ys,xs=[.ref p]/\(aa K H p ys\/az K H p ys)/\Q (.int ys.length) H):=by subst h;exact Kh
theorem GY(K:M5)(h:X.K=K):bM X (.builtin "isinstance") (fun xs H Q=>qO K xs H Q\/qN K xs H Q):=by subst h;exact Kj.or Ki
theorem eW(K:M5)(h:X.K=K)(hu:X.A.units+64<cLine):aQ X (compareOp .Eq) (fun x y H Q=>eN (fun i j=>.bl (decide (i=j))) x y H Q\/qP K x y H Q):=by subst h;exact EH hu
theorem nH(K:M5)(h:X.K=K)(hu:X.A.units+64<cLine):aQ X (compareOp .NotEq) (fun x y H Q=>eN (fun i j=>.bl (!decide (i=j))) x y H Q\/qK K x y H Q):=by subst h;exact Ez hu
theorem tV(K:M5)(h:X.K=K)(hc:X.calm=true):bM X (.builtin "all") (fun xs H Q=>∃(l:Addr)(bs:List Bool),xs=[.ref l]/\aa K H l (bs.map V.bl)/\Q (.bl (bs.all id)) H):=by subst h;exact Km hc
theorem zU(K:M5)(h:X.K=K)(hc:X.calm=true):bM X (.builtin "any") (fun xs H Q=>∃(l:Addr)(bs:List Bool),xs=[.ref l]/\aa K H l (bs.map V.bl)/\Q (.bl (bs.any id)) H):=by subst h;exact Kl hc
theorem iH(K:M5)(h:X.K=K):bM X (.type "tuple") (fun xs H Q=>∃p ys,xs=[.ref p]/\((aa K H p ys/\∀l H',Nw H H' l (.tup ys)->Q (.ref l) H')\/(az K H p ys/\Q (.ref p) H))):=by subst h;intro pins s σ H xs us Q I r hq;obtain⟨p,ys,e,h1⟩:=hq;exact Kf pins s σ H xs us Q I r ⟨p,ys,e,h1.imp (fun⟨a,k⟩=>⟨a,fun l hl=>k l _ (.of hl)⟩) id⟩
def Cy(t:TA):TE:=fun σ H Q=>t σ H fun xs H1=>xs.length<=sizeLine/\∀p H',Nw H1 H' p (.tup xs)->Q (.ref p) H'
def CN(t:TA):TE:=fun σ H Q=>t σ H fun xs H1=>xs.length<=sizeLine/\∀p H',Nw H1 H' p (.lst xs)->Q (.ref p) H'
theorem dF{es:List Expr}{t:TA}{pos:Pos} {x1}(h:PA X es t):PE X (.Tuple es x1 pos) (Cy t):=by intro pins s σ H Q I hq;refine wpAny_Tuple_spliced (ak (h pos pins s σ H _ I hq) fun us s1 ⟨xs,H1,I1,r,z,q⟩=>⟨by rw[<-r.length];exact z,?_⟩);have hf:H1 s1.heap.objs.size=none:=I1.hok.fresh (aD _);refine⟨.ref s1.heap.objs.size,upd H1 s1.heap.objs.size (.tup xs),I1.laid (t':=s1.toks) (fun b u e=>bw _ e) (aD _) ?_,rfl,q _ _ (.of hf)⟩;exact⟨z,us,r,⟨_,cw _ rfl,rfl,_,rfl⟩⟩
theorem cV{es:List Expr}{t:TA}{pos:Pos}(h:PA X es t):PE X (.List es pos) (CN t):=by intro pins s σ H Q I hq;refine wpAny_List_spliced (ak (h pos pins s σ H _ I hq) fun us s1 ⟨xs,H1,I1,r,z,q⟩=>⟨by rw[<-r.length];exact z,?_⟩);have hf:H1 s1.heap.objs.size=none:=I1.hok.fresh (aD _);refine⟨.ref s1.heap.objs.size,upd H1 s1.heap.objs.size (.lst xs),I1.laid (t':=s1.toks) (fun b u e=>bw _ e) (aD _) ?_,rfl,q _ _ (.of hf)⟩;exact⟨z,us,0,r,cw _ rfl⟩
theorem ng(K:M5)(h:X.K=K){l:Expr}{tl:TE}(hl:PE X l tl):PI X tg l (yh K tl):=by subst h;exact Ec hl
theorem qV(K:M5)(h:X.K=K){l:Expr}{tl:TE}(hl:PE X l tl):PI X tg l (yg K tl):=by subst h;exact Eb hl
theorem qY(K:M5)(h:X.K=K){es:List Expr}{k:Nat}{t:gz}{n:Nat}{pos:Pos}(hc:X.calm=true)(hg:m8 X es t)(hn:(assignEach es X.env).length=n:=by rfl)(eT:(assignEach es X.env).findIdx? (·.1)=none:=by rfl): PG X (.Tuple es k pos) (yN K n t):=by subst h;exact Ee hc hg hn eT
theorem wY(K:M5)(h:X.K=K){o e:Expr}{to:TE}{t:TA}{apos aU:Pos}(ho:PE X o to)(ha:PA X [e] t) (fO:attributeBase o "append" X.env (eval o X.env)=eval o X.env:=by rfl) (fN:((backTo aU (starEach [e] X.env)).all (fun x=>!x.1)&&(backToKw aU (keywordEach [] X.env)).all (fun x=>x.1.isSome) &&decide ([e].length+([]:List Keyword).length+(if([]:List Keyword).isEmpty then 0 else 1)<30))=true:=by rfl) (fL:(apos.endLine==aU.line)=true:=by rfl)(hs:starEach [e] X.env=(false,eval e X.env)::starEach [] X.env:=by rfl)(fJ:(backTo aU (starEach [] X.env)).any (·.1)=false:=by rfl): PE X (.Call (.Attribute o "append" apos) [e] [] aU) (jr K "list" wN to t):=by subst h;exact kX PySem.F.plainAttrs_list PySem.F.slot_list_append PySem.F.type_list_append rL ho ha fO fN fL hs fJ
theorem mz{j:Nat}{x:V}{σ:St}{H:Hp}{A B:St->Hp->Prop}(h:A (σ.set j (some x)) H):dY j x σ H fun σ3 H3=>gf σ3 H3 fun ok H4=>if ok=true then A σ3 H4 else B σ3 H4:=by show if true=true then A (σ.set j (some x)) H else B (σ.set j (some x)) H;rw[aH rfl];exact h
end
end L2
namespace L2
open PySem PySem.Spec PyProof.Rows
theorem aa.go{K:M5}{H H':Hp}{a:Addr}{xs:List V}(s:af H H')(h:aa K H a xs):aa K H' a xs:=h.imp (fun r=>r.imp (s _ _) fun⟨o,e⟩=>⟨o,s _ _ e⟩) id
theorem az.go{K:M5}{H H':Hp}{a:Addr}{xs:List V}(s:af H H')(h:az K H a xs):az K H' a xs:=h.imp (fun r=>r.imp (s _ _) fun⟨o,e⟩=>⟨o,s _ _ e⟩) id
mutual
theorem RD.mono{K:M5}{H H':Hp}(s:af H H'):∀{x:V}(d:M8),RD K H x d->RD K H' x d |x,.none,h=>by simpa[RD]using h |x,.bool b,h=>by simpa[RD]using h |x,.int i,h=>by simpa[RD]using h |x,.str y,h=>by simpa[RD]using h |x,.list ds,h=>by rw[RD]at h⊢;obtain⟨a,xs,e,h1,h2⟩:=h;exact⟨a,xs,e,h1.go s,aj.mono s ds h2⟩ |x,.tuple ds,h=>by rw[RD]at h⊢;obtain⟨a,xs,e,h1,h2⟩:=h;exact⟨a,xs,e,h1.go s,aj.mono s ds h2⟩ |x,.dict _,h=>by simp[RD]at h
theorem aj.mono {K:M5}{H H':Hp}(s:af H H'):∀{xs:List V}(ds:List M8),aj K H xs ds->aj K H' xs ds |xs,[],h=>by simpa[aj]using h |xs,d::ds,h=>by rw[aj]at h⊢;obtain⟨y,ys,e,h1,h2⟩:=h;exact⟨y,ys,e,RD.mono s d h1,aj.mono s ds h2⟩
end
section
variable {K:M5} {H H':Hp}
theorem aj.nil_inv{xs:List V}(h:aj K H xs []):xs=[]:=by simpa[aj]using h
theorem aj.cons_inv{xs:List V}{d:M8}{ds:List M8}(h:aj K H xs (d::ds)):∃y ys,xs=y::ys/\RD K H y d/\aj K H ys ds:=by rw[aj]at h;exact h
theorem RD.cS{x:V}{ds:List M8}(h:RD K H x (.tuple ds)):∃a xs,x= .ref a/\az K H a xs/\aj K H xs ds:=by rw[RD]at h;exact h
theorem RD.lst_inv{x:V}{ds:List M8}(h:RD K H x (.list ds)):∃a xs,x= .ref a/\aa K H a xs/\aj K H xs ds:=by rw[RD]at h;exact h
theorem RD.int_inv{x:V}{i:Int}(h:RD K H x (.int i)):x= .int i:=by rw[RD]at h;exact h
theorem RD.tN{x:V}{i:Bool}(h:RD K H x (.bool i)):x= .bl i:=by rw[RD]at h;exact h
theorem RD.str_inv{x:V}{i:Str}(h:RD K H x (.str i)):x= .str i:=by rw[RD]at h;exact h
theorem RD.nE{x:V}(h:RD K H x .none):x= .au:=by rw[RD]at h;exact h
theorem aj.length:∀{xs:List V}{ds:List M8},aj K H xs ds->xs.length=ds.length |xs,[],h=>by rw[h.nil_inv];rfl |xs,d::ds,h=>by obtain⟨y,ys,rfl,_,h2⟩:=h.cons_inv;rw[ft,ft,aj.length h2]
theorem aj.append:∀{xs ys:List V}{ds es:List M8},aj K H xs ds->aj K H ys es->aj K H (xs++ys) (ds++es) |xs,ys,[],es,h,g=>by rw[h.nil_inv];exact g |xs,ys,d::ds,es,h,g=>by obtain⟨y,zs,rfl,h1,h2⟩:=h.cons_inv;exact bS h1 (aj.append h2 g)
theorem aj.take:∀(n:Nat){xs:List V}{ds:List M8},aj K H xs ds->aj K H (xs.take n) (ds.take n) |0,xs,ds,h=>by rw[List.take_zero,List.take_zero];exact cT |n+1,xs,[],h=>by rw[h.nil_inv];exact cT |n+1,xs,d::ds,h=>by obtain⟨y,zs,rfl,h1,h2⟩:=h.cons_inv;exact bS h1 (aj.take n h2)
theorem aj.get:∀(n:Nat){xs:List V}{ds:List M8}{d:M8},aj K H xs ds->ds[n]? =some d->∃x,xs[n]? =some x/\RD K H x d
  |n,xs,[],d,h,e=>by simp at e |0,xs,d'::ds,d,h,e=>by
    obtain⟨y,zs,rfl,h1,h2⟩:=h.cons_inv;have e':d'=d:=by simpa using e
    subst e';exact⟨y,rfl,h1⟩ |n+1,xs,d'::ds,d,h,e=>by obtain⟨y,zs,rfl,h1,h2⟩:=h.cons_inv;exact aj.get n h2 (by simpa using e)
def df:M8->String | .none=>"NoneType" | .bool _=>"bool" | .int _=>"int" | .str _=>"str" | .list _=>"list" | .tuple _=>"tuple" | .dict _=>"dict"
theorem RD.ty{x:V}:∀{d:M8},RD K H x d->jf K H x (df d) | .none,h=>by rw[h.nE];rfl | .bool b,h=>by rw[h.tN];rfl | .int b,h=>by rw[h.int_inv];rfl | .str b,h=>by rw[h.str_inv];rfl | .list ds,h=>by obtain⟨a,xs,rfl,h1,_⟩:=h.lst_inv;exact .inl ⟨rfl,xs,h1⟩ | .tuple ds,h=>by obtain⟨a,xs,rfl,h1,_⟩:=h.cS;exact .inr ⟨rfl,xs,h1⟩ | .dict _,h=>by simp[RD]at h
structure aY(n:Nat)(d:M8):Prop where
 lay:d.canLay0=true
 dep:d.depth<=n
def cH(n:Nat)(ds:List M8):Prop:=∀d∈ds,aY n d
theorem aY.le{n m:Nat}{d:M8}(h:aY n d)(l:n<=m):aY m d:=⟨h.lay,bG h.dep l⟩
theorem ny{n:Nat}:∀{ds:List M8},cH n ds↔(PyData.canLayAll0 ds=true/\PyData.depthAll ds<=n)
  |[]=>⟨fun _=>⟨rfl,bE _⟩,fun _ _ h=>nomatch h⟩ |d::ds=>by
    have ih:=ny (n:=n) (ds:=ds);simp only[PyData.canLayAll0,PyData.depthAll,bQ];constructor
    · intro h
      have h1:=h d (.head _);have h2:=ih.mp fun x hx=>h x (.tail _ hx);exact⟨⟨h1.lay,h2.1⟩,Nat.max_le.mpr ⟨h1.dep,h2.2⟩⟩
    · rintro⟨⟨a,b⟩,c⟩ x hx
      have c':=Nat.max_le.mp c;rcases aX.mp hx with rfl|hx
      ·exact⟨a,c'.1⟩
      ·exact ih.mpr ⟨b,c'.2⟩ x hx
theorem cH.tup{n:Nat}{ds:List M8}(h:cH n ds):aY (n+1) (.tuple ds):=⟨by simpa[PyData.canLay0]using(ny.mp h).1,by simpa[PyData.depth]using(ny.mp h).2⟩
theorem aY.cS{n:Nat}{ds:List M8}(h:aY (n+1) (.tuple ds)):cH n ds:=ny.mpr ⟨by simpa[PyData.canLay0]using h.lay,by simpa[PyData.depth]using h.dep⟩
theorem aY.int{n:Nat}(i:Int):aY n (.int i):=⟨rfl,bE _⟩
theorem aY.au{n:Nat}:aY n .none:=⟨rfl,bE _⟩
theorem cH.nil{n:Nat}:cH n []:=fun _ h=>nomatch h
theorem cH.cons{n:Nat}{d:M8}{ds:List M8}(h:aY n d)(g:cH n ds):cH n (d::ds):=fun x hx=>by
 rcases aX.mp hx with rfl|hx
 ·exact h
 ·exact g x hx
theorem aY.shaped{n:Nat}{d:M8}(h:aY n d)(l:n<=64):SeqAt.shaped d=true:=by unfold SeqAt.shaped;rw[h.lay,cj];exact br (bG h.dep l)
def del(H:Hp)(p:Addr):Hp:=fun b=>if b=p then none else H b
theorem iq{H:Hp}{p b:Addr}{o:HO}:del H p b=some o↔b≠p/\H b=some o:=by
 unfold del;by_cases e:b=p
 ·rw[aH e];simp[e]
 ·rw[aC e];simp[e]
theorem zf{H:Hp}{p:Addr}:af (del H p) H:=fun b o e=>(iq.mp e).2
def SD(p:Addr)(H H':Hp):Prop:=af (del H p) (del H' p)
variable {p:Addr}{n m:Nat}{v:V}{vs:List V}{d:M8}{ds es:List M8}
end
section
variable {X:Cx}
end
end L2
namespace HT
open PySem PySem.Spec PyProof.Rows
section
variable {prog:M7}{w:World}{A:M9}{E:Value->M6->Prop}{s:M6}
end
end HT
namespace L2
open PySem PySem.Spec PyProof.Rows
section
variable {X:Cx}
end
def fr(H H':Hp):Hp:=fun b=>match H b with|none=>H' b|some _=>none
theorem gr{H H':Hp}{b:Addr}{o:HO}:fr H H' b=some o↔H b=none/\H' b=some o:=by unfold fr;cases H b<;>simp
theorem Jt{H H':Hp}{p:Addr}(hp:H p≠none):af (fr H H') (del H' p):=fun b o e=>iq.mpr ⟨fun z=>hp (z▸(gr.mp e).1),(gr.mp e).2⟩
theorem sW{H H1 H2:Hp}(s:af H1 H2):af (fr H H1) (fr H H2):=fun b o e=>gr.mpr ⟨(gr.mp e).1,s _ _ (gr.mp e).2⟩
theorem Js{H H1 H2:Hp}(s:af H H1):af (fr H1 H2) (fr H H2):=fun b o e=>gr.mpr ⟨s.free (gr.mp e).1,(gr.mp e).2⟩
def mJ(K:M5)(d:M8):TE:=fun _ H Q=>∀v H',af H H'->RD K (fr H H') v d->Q v H'
def CO(K:M5)(ds:List M8):TA:=fun _ H Q=>∀vs H',af H H'->aj K (fr H H') vs ds->Q vs H'
def lg(f:Expr->Option M8):List Expr->Option (List M8) |[]=>some [] |e::es=>match f e,lg f es with |some d,some ds=>some (d::ds) |_,_=>none
def lit:Nat->Expr->Option M8
  |0,_=>none |_+1,.Constant .none _ _=>some .none |_+1,.Constant (.bool b) _ _=>some (.bool b) |_+1,.Constant (.int i) _ _=>some (.int i) |_+1,.Constant (.str x) _ _=>some (.str x) |n+1,.Tuple es _ _=>match lg (lit n) es with |some ds=>if ds.length<=1000 then some (.tuple ds)else none |none=>none
  |n+1,.List es _=>match lg (lit n) es with |some ds=>if ds.length<=1000 then some (.list ds)else none |none=>none
  |n+1,.UnaryOp .USub a _=>match lit n a with |some (.int i)=>some (.int (-i)) |_=>none
  |n+1,.BinOp a .Pow b _=>match lit n a,lit n b with |some (.int i),some (.int j)=>if 0<=j/\j<=1000000/\i.natAbs<2^64 then some (.int (i^j.toNat))else none |_,_=>none
  |_,_=>none
section
variable {X:Cx}
theorem D5{e:Expr}{es:List Expr}{env:Env}(h:∀a b,e≠ .Starred a b):starEach (e::es) env=(false,eval e env)::starEach es env:=by cases e<;>first|rfl|exact absurd rfl (h _ _)
theorem Gx{n:Nat}{e:Expr}{d:M8}(h:lit n e=some d):∀a b,e≠ .Starred a b:=by intro a b z;subst z;cases n<;>simp[lit]at h
theorem wZ(K:M5)(f:Expr->Option M8)(hp:∀e d,f e=some d->∀a b,e≠ .Starred a b)(hf:∀e d,f e=some d->PE X e (mJ K d)):∀(es:List Expr)(ds:List M8),lg f es=some ds->PA X es (CO K ds)
  |[],ds,h=>by cases h;intro pos pins s σ H Q I hq;exact a8 pos pins s σ H Q I (hq [] H (af.refl H) cT) |e::es,ds,h=>by
    rw[lg]at h;split at h
    · rename_i d JZ e1 e2
      cases h;intro pos pins s σ H Q I hq;refine a7 (hf e d e1) (wZ K f hp hf es JZ e2) (D5 (hp e d e1)) pos pins s σ H Q I ?_;intro v H1 s1 r1 vs H2 s2 r2;exact hq (v::vs) H2 (s1.trans s2) (bS (RD.mono (sW s2) _ r1) (aj.mono (Js s1) _ r2))
    ·cases h
theorem kU(K:M5)(hK:X.K=K):∀(n:Nat)(e:Expr)(d:M8),lit n e=some d->PE X e (mJ K d)
  |0,e,d,h=>by simp[lit]at h |n+1,e,d,h=>by
    have hA:=wZ (X:=X) K (lit n) (fun e d h=>Gx h) (fun e d h=>kU K hK n e d h);unfold lit at h;split at h
    case h_1=>cases‹Nat.succ n=0›
    case h_2=>cases h;intro pins s σ H Q I hq;exact cD pins s σ H Q I (hq .au H (af.refl H) dg)
    case h_3=>cases h;intro pins s σ H Q I hq;exact i4 pins s σ H Q I (hq (.bl _) H (af.refl H) (iM _))
    case h_4=>cases h;intro pins s σ H Q I hq;exact ae pins s σ H Q I (hq (.int _) H (af.refl H) (eE _))
    case h_5=>cases h;intro pins s σ H Q I hq;exact aw pins s σ H Q I (hq (.str _) H (af.refl H) (bc _))
    case h_6=>
     rename_i m es _ _ hm;cases hm;split at h
     · rename_i ds e1
       by_cases hl:ds.length<=1000
       · rw[aH hl]at h
         cases h;intro pins s σ H Q I hq;refine dF (hA es ds e1) pins s σ H Q I ?_;intro vs H1 s1 r1;refine⟨by rw[r1.length];exact bG hl (by decide),fun p H' nw=>?_⟩;refine hq _ _ (s1.trans nw.same) (cx (az.of (gr.mpr ⟨s1.free nw.no,nw.at'⟩)) (aj.mono (sW nw.same) _ r1))
       ·rw[aC hl]at h;cases h
     ·cases h
    case h_7=>
     rename_i m es _ hm;cases hm;split at h
     · rename_i ds e1
       by_cases hl:ds.length<=1000
       · rw[aH hl]at h
         cases h;intro pins s σ H Q I hq;refine cV (hA es ds e1) pins s σ H Q I ?_;intro vs H1 s1 r1;refine⟨by rw[r1.length];exact bG hl (by decide),fun p H' nw=>?_⟩;refine hq _ _ (s1.trans nw.same) (DC (aa.of (gr.mpr ⟨s1.free nw.no,nw.at'⟩)) (aj.mono (sW nw.same) _ r1))
       ·rw[aC hl]at h;cases h
     ·cases h
    case h_8=>
     rename_i m a _ hm;cases hm;split at h
     · rename_i i e1
       cases h;intro pins s σ H Q I hq;refine hZ hJ (kU K hK n a _ e1) pins s σ H Q I ?_;intro v H1 s1 r1;exact⟨i,r1.int_inv,hq _ _ s1 (eE _)⟩
     ·cases h
    case h_9=>
     rename_i m a b _ hm;cases hm;split at h
     · rename_i i j e1 e2
       by_cases hc:0<=j/\j<=1000000/\i.natAbs<2^64
       · rw[aH hc]at h
         cases h;intro pins s σ H Q I hq;refine ay nh (kU K hK n a _ e1) (kU K hK n b _ e2) pins s σ H Q I ?_;intro v H1 s1 r1 v2 H2 s2 r2;exact⟨i,j,r1.int_inv,r2.int_inv,hc,hq _ _ (s1.trans s2) (eE _)⟩
       ·rw[aC hc]at h;cases h
     ·cases h
    case h_10=>cases h
end
end L2
namespace L2
theorem da{α:Type}{xs:List α}{i:Int}{v:α}(h0:0<=i)(h:xs[i.toNat]? =some v):cO xs i=some v:=by have hl:i.toNat<xs.length:=(dA.mp h).1;unfold cO gm;rw[aH h0,aH (by omega)];exact h
end L2
namespace L2
open PySem PySem.Spec PyProof.Rows
theorem D8(n:Nat)(h:n<=1000):n<=sizeLine:=bG h (by decide)
structure A3(X:Cx)(e:Expr)(t:TE):Prop where out:PE X e t
theorem Ei{X:Cx}(K:M5)(hK:X.K=K)(n:Nat)(e:Expr)(d:M8)(h:lit n e=some d):A3 X e (mJ K d):=⟨kU K hK n e d h⟩
section
variable {X:Cx}{p pos pos':Pos}{a b e:Expr}{es:List Expr}{ta tb te:TE}{t:TA}{x:Str}
theorem px(K:M5)(ha:PE X a ta)(hb:PE X b tb)(hK:X.K=K:=by rfl)(hp:A0 b:=by exact fun _ _=>rfl):PE X (.Subscript a b pos) (kI (fun x y H Q=>qM K x y H Q\/qL K x y H Q) ta tb):=kW (GR K hK) ha hb hp
theorem fC(K:M5)(B:bb X.mg)(ha:PA X (e::es) t)(hK:X.K=K:=by rfl)(hg:Gl X "isinstance":=by rfl)(he:starEach (e::es) X.env=(false,eval e X.env)::starEach es X.env:=by rfl)(cX:(backTo pos (starEach es X.env)).any (·.1)=false:=by rfl):PE X (.Call (.Name "isinstance" p) (e::es) [] pos) (mK (fun xs H Q=>qO K xs H Q\/qN K xs H Q) t):=cm (GY K hK) hg (B.at "isinstance") uq ha (by decide) (by decide) he cX
theorem dh(K:M5)(B:bb X.mg)(ha:PA X (e::es) t)(hK:X.K=K:=by rfl)(hg:Gl X "len":=by rfl)(he:starEach (e::es) X.env=(false,eval e X.env)::starEach es X.env:=by rfl)(cX:(backTo pos (starEach es X.env)).any (·.1)=false:=by rfl):PE X (.Call (.Name "len" p) (e::es) [] pos) (mK (fun xs H Q=>∃p ys,xs=[.ref p]/\(aa K H p ys\/az K H p ys)/\Q (.int ys.length) H) t):=cm (Gz K hK) hg (B.at "len") kl ha (by decide) (by decide) he cX
theorem pS(i:Nat)(hN:X.N.Nodup)(he:PE X e te)(hi:X.N[i]? =some x:=by rfl)(hx:Loc X.env.scope x:=by first|exact Or.inl rfl|exact Or.inr rfl)(hs:swapsWith e (some (.Name x pos')) pos.line X.env=pure false:=by rfl)(hf:X.fn x=true\/X.env.scope.names.lookup x=some .local:=by first|exact .inl rfl|exact .inr rfl|assumption):PS X (.Assign [.Name x pos'] e pos) (mM te (dY i)):=E6 hN hi hx he hs hf
theorem bA(i:Nat)(hN:X.N.Nodup)(hi:X.N[i]? =some x:=by rfl)(hx:Loc X.env.scope x:=by first|exact Or.inl rfl|exact Or.inr rfl)(hf:X.fn x=true\/X.env.scope.names.lookup x=some .local:=by first|exact .inl rfl|exact .inr rfl|assumption):PG X (.Name x pos) (dY i):=Ef hN hi hx hf
theorem gK (a:Str):[a].Nodup:=by simp
theorem jJ{a b:Str}(h:(a==b)=false):[a,b].Nodup:=by
 have:a≠b:=fun z=>by rw[z,uh]at h;cases h
 simp[this]
theorem dS{n:Nat}(h:Nat.ble n 1000=true):n<=sizeLine:=D8 n (Nat.le_of_ble_eq_true h)
end
end L2
namespace L2
open PySem PySem.Spec PyProof.Rows
def GV(mg:Str->Option Value)(x:Str)(v:V):Prop:=∃u,mg x=some u/\RelV v u
def GT(K:M5)(mg:Str->Option Value)(x:Str)(vs:List V):Prop:=∃a,GV mg x (.ref a)/\∀H,az K H a vs
theorem cE{X:Cx}{x:Str}{v:V}{pos:Pos}(hg:Gl X x)(h:GV X.mg x v)(hd:(x==("__debug__":Str))=false:=by decide):PE X (.Name x pos) (tC v):=by obtain⟨u,hm,r⟩:=h;exact Ej hg hm r hd
section
variable {K:M5}{mg:Str->Option Value}{h:Heap}
theorem lX{x:Str}{i:Int}{t:Tok}(X:K.In h)(G:h.Ns mainGlobals mg)(a:PySem.W.nsIn K mainGlobals x=some (some (.int i t))):GV mg x (.int i):=⟨_,km X G a,t,rfl⟩
theorem Jl{x:Str}{vs:List V}{b:Addr}{its:Array Value}{n:Nat}{od:Option Addr}{bX:Array (Option Value)}(X:K.In h)(G:h.Ns mainGlobals mg)(a:PySem.W.nsIn K mainGlobals x=some (some (.ref b))) (l:K.lookup b=some ⟨.type "tuple",od,.seq its n,bX⟩)(hz:its.size<=sizeLine)(r:Vals vs its.toList):GT K mg x vs:=⟨b,⟨_,km X G a,rfl⟩,fun H=>.inr ⟨_,its,n,l,rfl,rfl,hz,r⟩⟩
end
section
variable {X:Cx}
theorem ye(K:M5)(h:X.K=K):aQ X (compareOp .In) (wM K false):=by subst h;exact ED
end
theorem zw{J:It}{xs:List V}{bs:List Bool}{te:TE}{Q:VK}{D:Addr}{H H0:Hp}(rest:St)(nw:Nw H H0 D (.lst []))(hl:xs.length=bs.length)(hz:xs.length<=1000) (go:∀i x H2,xs[i]? =some x->af H H2->J.go i H2/\∀y H3,J.yld i H2 y H3->H3=H2/\y=x)(stop:∀H2,af H H2->J.stop xs.length H2) (hs:∀(i:Nat)(x:V)(b:Bool)(H2:Hp)(Q':VK),xs[i]? =some x->bs[i]? =some b->af H H2->(∀H3,af H2 H3->Q' (.bl b) H3)->te (some x::rest) H2 Q') (hq:∀H',af H H'->H' D=some (.lst (bs.map V.bl))->Q (.ref D) H'):gb J (dY 0) gf te Q D (none::rest) H0:=by
  have hD:=nw.no;refine lZ xs.length (fun i σ H2=>af H H2/\H2 D=some (.lst ((bs.take i).map V.bl))/\∃v,σ=v::rest) ?_ ?_ ?_
  ·exact⟨nw.same,nw.at',none,rfl⟩
  · rintro i σ H2 hi ⟨s2,d2,v,rfl⟩
    have og:i<bs.length:=by rw[<-hl];exact hi
    have ex:=fu hi;have eb:=fu og;obtain⟨g1,g2⟩:=go i _ H2 ex s2;refine⟨g1,fun y H3 hy=>?_⟩;obtain⟨rfl,rfl⟩:=g2 y H3 hy;refine mz ?_;refine hs i _ _ _ _ ex eb s2 fun H4 s4=>?_;refine⟨_,s4 _ _ d2,?_,xs.length-(i+1),by omega,rfl,by omega,fun b o e=>?_,?_,_,rfl⟩
    · rw[aF,gY]
      have:(1000:Nat)<sizeLine:=by decide
      omega
    ·rw[aL (cn e hD)];exact s4 b o (s2 b o e)
    ·rw[bR,pe,eb,dP];rfl
  · rintro σ H2 ⟨s2,d2,v,rfl⟩
    refine⟨stop H2 s2,hq H2 s2 ?_⟩;rw[d2,hl,BI]
theorem zv{K:M5}{a:Addr}{xs:List V}{bs:List Bool}{te:TE}{Q:VK}{D:Addr}{H H0:Hp}(rest:St)(hx:az K H a xs)(nw:Nw H H0 D (.lst []))(hl:xs.length=bs.length)(hz:xs.length<=1000) (hs:∀(i:Nat)(x:V)(b:Bool)(H2:Hp)(Q':VK),xs[i]? =some x->bs[i]? =some b->af H H2->(∀H3,af H2 H3->Q' (.bl b) H3)->te (some x::rest) H2 Q') (hq:∀H',af H H'->H' D=some (.lst (bs.map V.bl))->Q (.ref D) H'):gb (oU K a) (dY 0) gf te Q D (none::rest) H0:=zw rest nw hl hz (fun i x H2 e s=>⟨⟨xs,x,hx.go s,e⟩,fun y H3 ⟨e3,y3⟩=>⟨e3,by have:=y3 _ (hx.go s);rw[e]at this;exact(cf this).symm⟩⟩) (fun H2 s=>⟨xs,hx.go s,aD _⟩) hs hq
theorem xO{ds:List M8}{f:M8->Bool}{i:Nat}{b:Bool}(h:(ds.map f)[i]? =some b):∃d,ds[i]? =some d/\f d=b:=by rw[cg]at h;cases e:ds[i]? with |none=>rw[e]at h;cases h |some d=>rw[e]at h;exact⟨d,rfl,cf h⟩
theorem all_map{ds:List M8}{f:M8->Bool}:(ds.map f).all id=ds.all f:=by rw[List.all_map];rfl
section
variable {X:Cx}
inductive Bg(K:M5)(x:V)(y:V)(H:Hp)(Q:VK):Prop |mk (a:_)(b:_)(xs:_)(ys:_)(h0:x= .ref a)(h1:y= .ref b)(h2:aa K H a xs)(h3:aa K H b ys)(h4:xs.length+ys.length<=sizeLine)(h5:∀p H',Nw H H' p (.lst (xs++ys))->Q (.ref p) H'):Bg K x y H Q
def DW(K:M5):R2:=fun x y H Q=>Bg K x y H Q
theorem iu(K:M5)(hK:X.K=K):aQ X (binaryOp .Add) (DW K):=by
 subst hK;intro pins s σ H x y v u Q I rx ry h;obtain⟨a,b,xs,ys,rfl,rfl,ha,hb,hz,q⟩:=h;cases rx;cases ry;obtain⟨its,r1,p1,_⟩:=I.list ha;obtain⟨lD,r2,p2,_⟩:=I.list hb;obtain⟨⟨cls,dd,data,sl⟩,n,ho,hc,LP,hd⟩:=id p1;obtain⟨⟨zA,jW,data2,ju⟩,n2,gn,cq,LO,hd2⟩:=id p2;simp only at hc hd cq hd2;subst hc hd cq hd2;have e:its.toArray++lD.toArray=(its++lD).toArray:=by simp
 refine concat_meets ⟨_,ho,rfl⟩ ⟨_,gn,rfl⟩ noFill_list_add seq_list_add PySem.F.slot_list_add PySem.F.entry_list_add (PySem.F.args_list_add_2 _ _) (list_addW a b its.toArray lD.toArray n n2 dd jW sl ju (by rw[bC,bC,<-r1.length,<-r2.length];exact hz)) ⟨ho,gn,?_⟩;rw[e];have nw:Nw H (upd H s.heap.objs.size (.lst (xs++ys))) s.heap.objs.size (.lst (xs++ys)):=.of (I.hok.fresh (aD _));refine⟨.ref s.heap.objs.size,_,I.laid (t':=s.toks) (o:=.lst (xs++ys)) (fun b ob q=>bw _ q) (aD _) ?_,rfl,q _ _ nw⟩;exact⟨by rw[de];exact hz,_,0,r1.append r2,cw _ rfl⟩
inductive Ba(K:M5)(neg:Bool)(x:V)(y:V)(H:Hp)(Q:VK):Prop |mk (p:_)(xs:_)(d:_)(ds:_)(h0:y= .ref p)(h1:aa K H p xs)(h2:RD K H x d)(h3:aj K H xs ds)(h4:SeqAt.shaped d=true)(h5:(∀e∈ds,SeqAt.shaped e=true))(h6:Q (.bl (if neg then !(ds.any fun e=>PyData.eqv e d)else ds.any fun e=>PyData.eqv e d)) H):Ba K neg x y H Q
def DT(K:M5)(neg:Bool):R2:=fun x y H Q=>Ba K neg x y H Q
open Classical in
noncomputable def gP(h:Heap)(d:M8)(w:Value):Bool:=if q:∃e as,Reads h w e as then PyData.eqv q.choose d else false
theorem JO{h:Heap}{d e:M8}{w:Value}{as:List Addr}(r:Reads h w e as):gP h d w=PyData.eqv e d:=by have q:∃e as,Reads h w e as:=⟨e,as,r⟩;unfold gP;rw[dif_pos q];obtain⟨M0,r'⟩:=q.choose_spec;rw[(Reads.unique r' e as r).1]
theorem t9{pins:List (Addr×Obj)}{s:M6}{σ:St}{H:Hp}(I:Inv X pins σ H s)(hu:X.A.units+65<cLine){x:V}{u:Value}{d:M8}(rx:RelV x u)(hd:RD X.K H x d)(sd:SeqAt.shaped d=true): ∀{xs:List V}{us:List Value}{ds:List M8},Vals xs us->aj X.K H xs ds->(∀e∈ds,SeqAt.shaped e=true)->(∀w∈us,SeqAt.EqAt X.A.in1 s w u (gP s.heap d w))/\us.any (gP s.heap d)=ds.any fun e=>PyData.eqv e d |xs,us,[],rv,h,_=>by cases h.nil_inv;cases rv;exact⟨fun _ h=>(cQ h).elim,rfl⟩ |xs,us,e::ds,rv,h,se=>by obtain⟨y,ys,rfl,h1,h2⟩:=h.cons_inv;cases rv with |cons ra rb=>
      rename_i w ws;obtain⟨as,q1⟩:=RD.reads I e ra h1;obtain⟨bs,q2⟩:=RD.reads I d rx hd;have key:SeqAt.EqAt X.A.in1 s w u (PyData.eqv e d):=SeqAt.eqAt_reads e d X.A.in1 s w u as bs q1 q2 (SeqAt.canLay_of_shaped (se e (.head _))) (SeqAt.canLay_of_shaped sd) (SeqAt.room_of_shaped (se e (.head _)) (by show X.A.units+1+64<cLine;omega));obtain⟨k1,k2⟩:=t9 I hu rx hd sd rb h2 (fun e' he=>se e' (.tail _ he));have ew:gP s.heap d w=PyData.eqv e d:=JO q1;refine⟨fun z hz=>?_,?_⟩
      · rcases aX.mp hz with rfl|hz
        ·rw[ew];exact key
        ·exact k1 z hz
      ·rw[gZ,gZ,ew,k2]
theorem inD(K:M5)(hK:X.K=K)(hu:X.A.units+65<cLine):aQ X (compareOp .In) (DT K false):=by
 subst hK;intro pins s σ H x y v u Q I rx ry h;obtain⟨p,xs,d,ds,rfl,hx,hd,ic,sd,pX,q⟩:=h;cases ry;obtain⟨its,r,pl,hz⟩:=I.list hx;obtain⟨k1,k2⟩:=t9 I hu rx hd sd r ic pX;refine SeqAt.in_listAt (gP s.heap d) pl.isList (fun w hw=>k1 w (by simpa using hw)) ⟨.bl _,H,I,rfl,?_⟩;have e:its.toArray.any (gP s.heap d)=ds.any fun e=>PyData.eqv e d:=by rw[<-k2];simp
 rw[e];exact q
end
end L2
namespace L2
theorem bo.pF{k:Nat}{A:PySem.Around}(r:bo k A):A.units+65<PySem.cLine:=by have:=r.un;omega
end L2
namespace L2
open PySem PySem.Spec PyProof.Rows
def fY(b:Bool)(h:Heap)(it l:Addr)(k:Nat):Prop:=match b with|true=>h.IsListIter it l k|false=>h.IsTupleIter it l k
def fW(b:Bool)(h:Heap)(l:Addr)(xs:Array Value):Prop:=match b with|true=>h.IsList l xs|false=>h.IsTuple l xs
def m3(b:Bool):String:=match b with|true=>"list_iterator"|false=>"tuple_iterator"
theorem fY.to{b:Bool}{h g:Heap}{it l:Addr}{k:Nat}(x:fY b h it l k)(e:∀o,h.get? it=some o->g.get? it=some o):fY b g it l k:=by cases b<;>(obtain⟨o,ho,r⟩:=x;exact⟨o,e o ho,r⟩)
theorem fW.to{b:Bool}{h g:Heap}{l:Addr}{xs:Array Value}(x:fW b h l xs)(e:∀o,h.get? l=some o->g.get? l=some o):fW b g l xs:=by cases b<;>(obtain⟨o,ho,r⟩:=x;exact⟨o,e o ho,r⟩)
theorem fY.ob{b:Bool}{h:Heap}{it l:Addr}{k:Nat}(x:fY b h it l k):∃o,h.get? it=some o/\o.cls= .type (m3 b)/\∀v,o.data≠ .cell v:=by cases b<;>(obtain⟨o,ho,c,d⟩:=x;exact⟨o,ho,c,fun v z=>by rw[d]at z;cases z⟩)
section
variable {prog:M7}{w:World}{A:M9}{E:Value->M6->Prop}{s:M6}
theorem nG{b:Bool}{l:Addr}{xs:Array Value}{Q:Value->M6->Prop}(x:fW b s.heap l xs) (q:Q (.ref s.heap.objs.size) {s with heap:=s.heap.push {cls:=.type (m3 b),data:=.fields #[.ref l,.int 0 0]}}):wpAny (model prog w) A (pyIter (.ref l)) Q E s:=by
  cases b
  ·exact wpAny_pyIter_tuple x q
  ·exact me x q
theorem FJ{it t:Addr}{k:Nat}{ts:Array Value}{x:Value}{Q:Value->M6->Prop}(hi:s.heap.IsTupleIter it t k)(ht:s.heap.IsTuple t ts)(hx:ts[k]? =some x) (q:∀g,g.IsTupleIter it t (k+1)->Heap.SameBut it s.heap g->Q x {s with heap:=g}):wpAny (model prog w) A (Builtin.SmallTypes.nextOf (.ref it)) Q E s:=by obtain⟨oi,cY,ci,di⟩:=id hi;obtain⟨ot,sv,_,nt,dt⟩:=ht;unfold Builtin.SmallTypes.nextOf;refine ag (Bu (name:=Str.ofString "__next__") hi.typeIs uk (wpAny_call_entry uk hi.typeIs L8 ?_ (L9 _)));show wpAny _ _ (field (.ref it) 0>>=_) _ _ s;refine ag (gB cY di (x:=.ref t) rfl ?_);show wpAny _ _ (if(Value.ref t==Value.none)=true then _ else _) _ _ s;rw[aC (show¬((Value.ref t==Value.none)=true)from ba)];show wpAny _ _ (field (.ref it) 1>>=_) _ _ s;refine ag (gB cY di (x:=.int k 0) rfl ?_);show wpAny _ _ (seqItems? (.ref t)>>=_) _ _ s;refine ag (wpAny_seqItems sv dt ?_);simp only[BQ,hx];refine ag (oZ cY di (by simp) (aM ⟨x,rfl,aM (q _ ?_ (Heap.SameBut.update ..))⟩));exact⟨_,pC _ cY (BH (p9 di _)),(Obj.cls_mapFields ..).trans ci,by rw[p9 di];simp[rawInt]⟩
theorem JQ{it t:Addr}{k:Nat}{ts:Array Value}{Q:Value->M6->Prop}(hh:A.handled=none)(hi:s.heap.IsTupleIter it t k)(ht:s.heap.IsTuple t ts)(hx:ts[k]? =none) (q:∀g e,Heap.ExtBut it s.heap g->(∃o,g.get? e=some o/\o.cls= .type "StopIteration")->E (.ref e) {s with heap:=g}):wpAny (model prog w) A (Builtin.SmallTypes.nextOf (.ref it)) Q E s:=by
  obtain⟨oi,cY,ci,di⟩:=id hi;obtain⟨ot,sv,_,nt,dt⟩:=ht;unfold Builtin.SmallTypes.nextOf;refine ag (Bu (name:=Str.ofString "__next__") hi.typeIs uk (wpAny_call_entry uk hi.typeIs L8 ?_ (L9 _)));show wpAny _ _ (field (.ref it) 0>>=_) _ _ s;refine ag (gB cY di (x:=.ref t) rfl ?_);show wpAny _ _ (if(Value.ref t==Value.none)=true then _ else _) _ _ s;rw[aC (show¬((Value.ref t==Value.none)=true)from ba)];show wpAny _ _ (field (.ref it) 1>>=_) _ _ s;refine ag (gB cY di (x:=.int k 0) rfl ?_);show wpAny _ _ (seqItems? (.ref t)>>=_) _ _ s;refine ag (wpAny_seqItems sv dt ?_);simp only[BQ,hx];refine ag (wpAny_rule (ag (oZ cY di (by simp) ?_)));show wpAny _ _ (newExc (.type "StopIteration") []>>=_) _ _ _;refine ag ?_;simp only[newExc,newTuple];refine ag (iB ?_ (by size_fits));refine ag (m:=firstArgMember _ _) (wpAny_of_eq (a:=Value.none) (by first|rfl|(simp only[firstArgMember];rfl)) ?_);refine iB ?_ (by size_fits);simp only[raiseNew];refine ag (wpAny_handled ?_)
  first|rw[show A.in1.handled=none from hh]|rw[hh]
  exact ag (aM (wpAny_throw (q _ _ (((Heap.SameBut.update ..).extBut.push _).push _) ⟨_,cw _ rfl,rfl⟩)))
theorem FK{b:Bool}{it l:Addr}{k:Nat}{xs:Array Value}{x:Value}{Q:Value->M6->Prop}(hi:fY b s.heap it l k)(hl:fW b s.heap l xs)(hx:xs[k]? =some x) (q:∀g,fY b g it l (k+1)->Heap.SameBut it s.heap g->Q x {s with heap:=g}):wpAny (model prog w) A (Builtin.SmallTypes.nextOf (.ref it)) Q E s:=by
  cases b
  ·exact FJ hi hl hx q
  ·exact wpAny_nextOf_list_item hi hl hx q
theorem JR{b:Bool}{it l:Addr}{k:Nat}{xs:Array Value}{Q:Value->M6->Prop}(hh:A.handled=none)(hi:fY b s.heap it l k)(hl:fW b s.heap l xs)(hx:xs[k]? =none) (q:∀g e,Heap.ExtBut it s.heap g->(∃o,g.get? e=some o/\o.cls= .type "StopIteration")->E (.ref e) {s with heap:=g}):wpAny (model prog w) A (Builtin.SmallTypes.nextOf (.ref it)) Q E s:=by
  cases b
  ·exact JQ hh hi hl hx q
  ·exact wpAny_nextOf_list_end hh hi hl hx q
end
section
variable {X:Cx}{pins:List (Addr×Obj)}{σ:St}{H:Hp}{s:M6}{h':Heap}
theorem Inv.pJ{t':Nat}{fp:List Addr}(I:Inv X pins σ H s)(k:∀b o,b∉fp->s.heap.get? b=some o->h'.get? b=some o)(hf:∀b∈fp,eZ X pins H b):Inv X pins σ H {s with heap:=h',toks:=t'}:=by
 have l5:∀b u,H b=some u->b∉fp:=fun b u e z=>by rw[(hf b z).1]at e;cases e
 have hL:X.env.locals∉fp:=fun z=>(hf _ z).2.1 rfl;refine I.step (g':=s.gens) (d':=s.drawn) (ch:=fp) (fun b hb=>?_) (fun b o _ _ hc e _=>k b o hc e) (fun b o _ _ hc e _=>⟨o.slots,k b o hc e⟩) (fun _ _ _ _ n=>n) (fun b o hc e=>⟨o,k b o hc e⟩) (fun _ _ e=>e) (fun _ _ _ e=>e) (fun b ps e=>⟨#[],by rw[e];simp⟩) (fun m hm=>?_) (fun b u e=>?_) I.bare
 · obtain⟨f0,f1,f2,f3,f4,f5⟩:=hf b hb
   exact⟨f3,f1,f4,f5⟩
 · obtain⟨o,es,ep,ho,r⟩:=hm
   exact⟨o,es,ep,k _ o hL ho,r⟩
 · refine(I.hok b u e).fv (fun c v hc q=>k c v ?_ q) (fun _ q=>q) fun _ _ q=>q
   rcases hc with z|z
   ·rw[z];exact l5 b u e
   ·exact l5 c _ z
end
def fV(b:Bool)(K:M5)(H:Hp)(a:Addr)(xs:List V):Prop:=match b with|true=>aa K H a xs|false=>az K H a xs
theorem fV.get{X:Cx}{pins:List (Addr×Obj)}{σ:St}{H:Hp}{s:M6}{b:Bool}{a:Addr}{xs:List V}(I:Inv X pins σ H s)(h:fV b X.K H a xs):∃its:List Value,Vals xs its/\fW b s.heap a its.toArray:=by
 cases b
 ·obtain⟨its,r,p,_⟩:=I.tuple h;exact⟨its,r,p⟩
 ·obtain⟨its,r,p,_⟩:=I.list h;exact⟨its,r,p.isList⟩
theorem fV.inj{X:Cx}{pins:List (Addr×Obj)}{σ:St}{H:Hp}{s:M6}{b:Bool}{a:Addr}{xs ys:List V}(I:Inv X pins σ H s)(h:fV b X.K H a xs)(g:fV b X.K H a ys):xs=ys:=by
 cases b
 ·exact I.uX h g
 ·exact I.xT h g
theorem bZ.there{P:M7}{w:World}{H:Hp}{h:Heap}{a:Addr}{o:HO}(x:bZ P w H h a o):∃ob,h.get? a=some ob:=by induction o with |lst xs=>obtain⟨_,_,_,_,e⟩:=x;exact⟨_,e⟩ |tup xs=>obtain⟨_,_,_,ob,e,_⟩:=x;exact⟨ob,e⟩ |dK bp=>obtain⟨_,_,_,_,ob,_,_,e,_⟩:=x;exact⟨ob,e⟩ |dT bp=>obtain⟨_,_,_,_,ob,_,_,e,_⟩:=x;exact⟨ob,e⟩ |set S n=>obtain⟨ob,_,_,_,e,_⟩:=x;exact⟨ob,e⟩ |ins C dx fs=>obtain⟨_,_,_,e,_⟩:=x;exact⟨_,e⟩ |own y=>exact x |xd fs=>obtain⟨_,⟨ob,_,_,e,_⟩,_⟩:=x;exact⟨ob,e⟩ |mY lo hi=>obtain⟨_,_,_,e⟩:=x;exact⟨_,e⟩ |fQ ob u=>exact⟨_,x.1⟩ |hU ps=>exact⟨_,x⟩ |met f y=>exact⟨_,x⟩ |ext φ=>exact x.2.1
structure Fl(P:M7)(w:World)(outer:List Env)(H:Hp)(h₁:Heap)(ex:Addr)(H':Hp)(B h:Heap):Prop where
 un:Un (bK outer) [] H H' h₁ h
 hok:bq P w H' h
 k1:∀b o,h₁.get? b=some o->H b=none->b∉bK outer->B.get? b=some o
 k2:∀b o,H' b=some o->∃ob,B.get? b=some ob
 k3:∀b o,h₁.get? b=some o->b∉bK outer->∃ob,B.get? b=some ob
 fr:∀b∈bK outer,H' b=none
 nw:h₁.get? ex=none
 ne:H' ex=none
theorem Fl.step{P:M7}{w:World}{outer:List Env}{H H':Hp}{h₁ B h h':Heap}{ex:Addr}{base:Heap}(F:Fl P w outer H h₁ ex H' B h)(st:B.StaysIn h)(dQ:B.StaysIn h')(up:h.UpToSlots h')(ff:h.FunFrames base outer):Fl P w outer H h₁ ex H' B h':=by
 have slot:∀b o,h₁.get? b=some o->H b=none->b∈bK outer->∃sl,h'.get? b=some {o with slots:=sl}:=fun b o e n hb=>by obtain⟨sl,e1⟩:=F.un.slot b o e n hb (by simp);obtain⟨_,o2,e2,hd⟩:=ff.mem hb;rw[e1]at e2;cases e2;obtain⟨pW,e3⟩:=up b _ e1 (fun vs=>hd vs);exact⟨pW,e3⟩
 refine⟨⟨fun b o e n hb _=>dQ b o (F.k1 b o e n hb),fun b o e n hb _=>slot b o e n hb,F.un.free,fun b o e hx=>?_,F.un.tups,F.un.frzs,F.un.tbls⟩,fun b u e=>?_,F.k1,F.k2,F.k3,F.fr,F.nw,F.ne⟩
 · by_cases hb:b∈bK outer
   · obtain⟨_,o2,e2,hd⟩:=ff.mem hb
     obtain⟨sl,e3⟩:=up b o2 e2 hd;exact⟨_,e3⟩
   · obtain⟨ob,e1⟩:=F.k3 b o e hb
     exact⟨ob,dQ b ob e1⟩
 · refine(F.hok b u e).fv (fun c v hc q=>?_) (fun _ q=>q) fun _ _ q=>q
   have dk:∃ob,B.get? c=some ob:=by
    rcases hc with z|z
    ·rw[z];exact F.k2 b u e
    ·exact F.k2 c _ z
   obtain⟨ob,e1⟩:=dk;have e2:=st c ob e1;rw[q]at e2;cases e2;exact dQ c _ e1
section
variable {P:M7}{w:World}{K:M5}{mg:Str->Option Value}{base:Heap}{N:List Str}{qual:Str}{scope:Scope}{f:Addr}{cd:Value}{A:M9}{outer:List Env}{s:M6}{H:Hp}{E:XK}{pins:List (Addr×Obj)}{σ:St}{H1:Hp}{s1:M6}{h2:Heap}{ex:Addr}{cls:Value}{vs:List Value}
end
structure Exc(K:M5)(mg:Str->Option Value)(x:Str)(C:Addr)(bP:List Value)(newId:String):Prop where
 at':mg x=some (.ref C)
 ok:PySem.W.excIn K C bP newId=true
theorem Exc.own{K:M5}{mg:Str->Option Value}{x:Str}{C:Addr}{bP:List Value}{newId:String}{h:Heap}(e:Exc K mg x C bP newId)(X:K.In h):OwnCls x C bP newId mg h:=by
 refine⟨e.at',?_⟩;have q:=e.ok;unfold PySem.W.excIn at q;split at q
 · rename_i dd cd sl ho
   split at q
   · rename_i D2 bl a0 a1 a2 a3 nn a5 hm hs
     simp only[cu,bQ,pD]at q;obtain⟨⟨⟨⟨⟨r1,r2⟩,lQ⟩,ht⟩,hok⟩,lK⟩:=q;subst r1 r2;obtain⟨c1,c2,c3,c4,c5,c6,c7,c8,c9,tI,Kp⟩:=cd;dsimp only at hm lQ hok lK;subst hm lQ;obtain⟨l⟩:=sl;simp only at hs;subst hs;exact⟨bl,c4,c1,c5,c2,c6,c7,c8,c9,tI,dd,a0,a1,a2,a3,a5,_,X _ _ ho,.of_isNs (PySem.W.isNs_of_in X hok),PySem.W.nsMap_none_of_in X hok lK,PySem.W.tail_of_in X ht⟩
   ·cases q
 ·cases q
section
variable {X:Cx}{x:Str}{C:Addr}{bP:List Value}{newId lF B:String}{e:Expr}{t:TA}{np aU pos:Pos}
end
end L2
namespace L2
open PySem PySem.Spec PyProof.Rows
section
variable {M:Model}{A:M9}{Ex:Value->M6->Prop}
theorem JI{h:Heap}{g:Array GenState}{d:Drawn}{tk:Nat}{os:OsState}{e:Addr}{oe:Obj}{Q:Bool->M6->Prop}{C D N N':Addr}{nm xB q q':Str}{bs zJ bm tM:List Value}{hdct yw:Bool}{sn vK:List Str}{sub vh:List Value}{ab zY:Bool}{col zy:Option Bool}{dd zl:Option Addr}{k0 k1 k2 k3 k5 j0 j1 j2 j3 j5:Option Value}{newId FY:String} (hC:h.get? C=some (excClassObj nm q C N bs bm hdct sn sub ab col dd k0 k1 k2 k3 k5 newId))(hD:h.get? D=some (excClassObj xB q' D N' zJ tM yw vK vh zY zy zl j0 j1 j2 j3 j5 FY)) (he:h.get? e=some oe)(lS:oe.cls= .ref C)(hb:tM.contains (.type "BaseException")=true)(hs:(Value.ref C::bm).contains (.ref D)=true) (hq:Q true ⟨h,g,d,tk,os⟩):wpAny M A (excMatches (.ref e) (.ref D)) Q Ex ⟨h,g,d,tk,os⟩:=by
  have Iv:(Value.ref D::tM).contains (.type "BaseException")=true:=by rw[BO,hb,Bool.or_true]
  have f:=tc_notTuple;unfold excMatches
  repeat (first|(with_reducible refine jk he ?_;rw[lS])|with_reducible refine jk hD ?_|(with_reducible refine ue hD ?_;rw[Iv])|(with_reducible refine ue hC ?_;rw[hs])|with_reducible refine jk hC ?_|wp_step)
  exact hq
end
section
variable {X:Cx}{k:Nat}{x:Str}{p pos:Pos}{e:Expr}{es:List Expr}{t:TA}{sp:Sp}
end
abbrev Cx.hand(X:Cx)(ex:Addr):Cx:={X with A:=X.A.mark (some (.ref ex)),calm:=false,xe:=fun _ _=>False}
section
variable {X:Cx}{pins:List (Addr×Obj)}{σ:St}{H:Hp}{s:M6}
theorem Inv.hand(I:Inv X pins σ H s)(ex:Addr):Inv (X.hand ex) pins σ H s:=⟨⟨I.ok.mod,I.ok.kind,I.ok.glob,I.ok.blt,I.ok.above,I.ok.inj,I.ok.has,I.ok.cab,fun h=>(ba h).elim,I.ok.frames,I.ok.stk,I.ok.exf,I.ok.bs,I.ok.bsz,I.ok.noex,I.ok.exfs,I.ok.dJ,I.ok.frf⟩,I.os,I.bare,I.base,I.loc,I.cell,I.free,I.freeC,I.pin,I.hok,I.len⟩
theorem Inv.back{ex:Addr}(ok:X.Ok)(I:Inv (X.hand ex) pins σ H s):Inv X pins σ H s:=⟨ok,I.os,I.bare,I.base,I.loc,I.cell,I.free,I.freeC,I.pin,I.hok,I.len⟩
theorem C9{M:Model}{A:M9}{E:Value->M6->Prop}{i:Nat}{x:Str}{v:V}{pos:Pos}{Q:Unit->M6->Prop}(I:Inv X pins σ H s)(hN:X.N.Nodup)(hi:X.N[i]? =some x)(hk:X.env.kindOf x=some .local)(hs:X.env.scope.names.lookup x=some .local) (hv:σ[i]? =some (some v))(h:∀s',Inv X pins (σ.set i none) H s'->Q () s'):wpAny M A (unbindBehindTheSuite X.env x pos) Q E s:=by
  obtain⟨m,hn,hl⟩:=id I.loc;have lS:(X.env.scope.kind== .class||(X.env.scope.kind== .module&&X.env.locals !=X.env.globals))=false:=by rw[I.ok.kind];rfl
  have o9:i<σ.length:=by rw[I.len];exact(dA.mp hi).1
  have fS:=I.fS;obtain⟨u,r,look⟩:=hl i x v hi hv (.inl hs);have hm:m x=some u:=by
   rcases look with⟨_,e⟩|⟨k,_⟩
   ·exact e
   ·rcases k with k|k<;>(rw[hk]at k;cases k)
  unfold unbindBehindTheSuite;refine wpAny_onRaise (wpAny_unbindName_local hk hn hm lS fun h' u' lL iZ=>?_);obtain⟨oL,_,_,yo,_⟩:=id hn;have tr:bq X.prog X.w H h':=fun b ob e=>by
   refine(I.hok b ob e).fv (fun c w' hc q=>(iZ.2 c ?_).trans q) (fun _ q=>q) fun _ _ q=>q;rintro rfl;rcases hc with rfl|hc
   ·rw[I.free]at e;cases e
   ·rw[I.free]at hc;cases hc
  have lt:∀b o,X.s₀.heap.get? b=some o->b≠X.env.locals:=fun b o e=>bF (dz (aN e) I.ok.above);refine h _ ⟨I.ok,I.os,I.bare,⟨fun b o e n hb hx=>(iZ.2 b (lt b o e)).trans (I.base.keep b o e n hb hx),fun b o e n hb hx=>?_,I.base.free,fun b o e hx=>?_,I.base.tups,I.base.frzs,I.base.tbls⟩,⟨_,lL,fun j y v' e1 e2 e3=>?_⟩,fun y c e=>?_,I.free,I.freeC,fun p hp=>?_,tr,by simpa using I.len⟩
  · obtain⟨sl,e1⟩:=I.base.slot b o e n hb hx
    exact⟨sl,(iZ.2 b (lt b o e)).trans e1⟩
  · obtain⟨o',e1⟩:=I.base.there b o e hx
    exact⟨o',(iZ.2 b (lt b o e)).trans e1⟩
  · by_cases hj:j=i
    · subst hj
      rw[uF o9]at e2;cases e2
    · rw[BL (f9 hj)]at e2
      obtain⟨u2,r2,q⟩:=hl j y v' e1 e2 e3;refine⟨u2,r2,?_⟩;rcases q with⟨k,e⟩|⟨k,c,e,z⟩
      · have:y≠x:=fun e=>hj (rA hN e1 (e▸hi))
        exact .inl ⟨k,by simp[this,e]⟩
      ·exact .inr ⟨k,c,e,z.sameBut iZ (fS y c e)⟩
  · obtain⟨w',z⟩:=I.cell y c e
    exact⟨w',z.sameBut iZ (fS y c e)⟩
  · obtain⟨e,n,ne,nf,d⟩:=I.pin p hp
    exact⟨(iZ.2 p.1 ne).trans e,n,ne,nf,d⟩
end
def m7(X:Cx)(st:List Stmt)(t:TS):Prop:=∀(s:M6)(σ:St)(H:Hp)(D:Ends),Inv X [] σ H s->t D σ H->wpAny (model X.prog X.w) X.A (execs st X.env) (SP X [] D) X.xe s
def A2(X:Cx)(st:Stmt)(t:TS):Prop:=∀(s:M6)(σ:St)(H:Hp)(D:Ends),Inv X [] σ H s->t D σ H->wpAny (model X.prog X.w) X.A (exec st X.env) (SP X [] D) X.xe s
theorem m7.one{X:Cx}{st:Stmt}{t:TS}(h:A2 X st t):m7 X [st] t:=by intro s σ H D I q;refine wpAny_execs_cons (ak (h s σ H D I q) fun f s1 q=>?_);cases f with |next=>exact mh q |ret v=>exact q |brk=>exact q |cont=>exact q
theorem Inv.Ku{X:Cx}{pins:List (Addr×Obj)}{σ:St}{H:Hp}{s:M6}(I:Inv X pins σ H s):Inv X [] σ H s:=⟨I.ok,I.os,I.bare,I.base,I.loc,I.cell,I.free,I.freeC,fun p hp=>I.pin p (pk _ (by simpa using hp)),I.hok,I.len⟩
theorem Jx{CX:f6}{P:M7}{w:World}{K:M5}{mg:Str->Option Value}{base:Heap}{k:Nat}{f:Addr}{name qual:Str}{params:Arguments}{body:List Stmt}{scope:Scope}{dV kV doc pm ah ct oc:Value}{an od:Option Addr} {bX:Array (Option Value)}{N ps:List Str}{sp:Sp}(lk:K.lookup f=some ⟨oc,od,.func (PySem.W.fnOf name qual params body scope dV kV doc pm an ah ct),bX⟩)(bO:PySem.W.codeIn K ah qual=true)(S:aW N ps scope) (len:∀vs H Q E,sp vs H Q E->vs.length=ps.length) (dX:∀(A:M9)(outer:List Env)(s:M6)(H:Hp)(vs:List V)(Q:VK)(E:XK),bo k (A.deeper (envOfC qual scope s.heap.objs.size f ah))->sp vs H Q E->∃t,m7 (dm CX P w K mg base N qual scope f ah A outer s H E) body t/\t {nx:=fun _ H'=>Q .au H',rt:=Q} (start N vs) H): dZ P w K mg base CX (k+1) f (PySem.W.fnOf name qual params body scope dV kV doc pm an ah ct) ps sp:=by
  refine⟨len,fun A outer s H args us vs Q E hr e0 hb r bD=>?_⟩;have hl:=len _ _ _ _ bD;have KX:K.In s.heap:=e0.mod.kin.keeps fun b o e=>(e0.bs b o e).1;have lim:s.heap.NoLimit:=e0.mod.nolimit.keeps fun b o e=>(e0.bs b o e).1;have fM:∀y∈ps.zip us,scope.names.lookup y.1=some .local\/(scope.names.lookup y.1=some .cell/\((cellsFrom (s.heap.objs.size+1) scope.names []).lookup y.1).isSome=true):=fun⟨n,v⟩ hy=>by
   rcases S.par n (ph hy).1 with q|q
   ·exact .inl q
   ·exact .inr ⟨q,uj _ _ _ (.inl q)⟩
  refine Bx hr.depth (KX _ _ lk) rfl S.co S.gen rfl (BA KX bO) (hb _ _ _ _ ?_);refine Bt S.kind fM fun env he s1 x=>?_;subst he;refine⟨lim.keeps x.toInCall.keep,codeAny_func ?_⟩;obtain⟨t,ht,hq⟩:=dX A outer s H vs Q E (hr.deeper _) bD;have I:Inv (dm CX P w K mg base N qual scope f ah A outer s H E) [] (start N vs) H s1:=rZ S hr.hd e0 hl r x;refine dy (ht s1 (start N vs) H _ I hq) (fun fl s' hs=>?_) fun e s' hs=>hs;have fin:∀{σ':St}{H':Hp}{v:V}{u:Value},Inv (dm CX P w K mg base N qual scope f ah A outer s H E) [] σ' H' s'->RelV v u->Q v H'->CE outer P w H s Q u s':=fun{σ' H' v u} J rv q=>⟨v,H',J.os,J.bare,J.base,J.hok,rv,q⟩;cases fl with |ret u=>obtain⟨v,σ',H',J,rv,q⟩:=hs;exact fin J rv q |next=>obtain⟨σ',H',J,q⟩:=hs;exact fin (v:=V.au) (u:=Value.none) J rfl q |brk=>obtain⟨_,_,_,q⟩:=hs;exact False.elim q |cont=>obtain⟨_,_,_,q⟩:=hs;exact False.elim q
def ExcAt(ex:Addr)(cls:Value)(h:Heap):Prop:=∃o,h.get? ex=some o/\o.cls=cls
def takes(K:M5)(C D:Addr):Prop:=PySem.W.mroIn K C (.ref D)=some true
section
variable {X:Cx}{i:Nat}{n y:Str}{Dc:Addr}{tL:List Value}{newD:String}{body mO:List Stmt}{b0:Stmt}{np nY pos:Pos}{tb:XK->TS}{th:TS}{Cs:Addr->Prop}
end
end L2
namespace L2
open PySem PySem.Spec PyProof.Rows PySem.W Builtin.Getset_descriptor
section
variable {prog:M7}{w:World}{A:M9}{E:Value->M6->Prop}{h:Heap}{g:Array GenState}{d:Drawn}{t:Nat}{os:OsState}{K:Frag}{x C:Addr}{o:Obj}
theorem yZ{M:Model}(h1:h.get? x=some o)(h2:o.cls= .ref C):Looks M h (typeOf (.ref x)) (.ref C):=h2▸(Looks.ld h1).andThen .now
structure g8(K:Frag)(C:Addr):Prop where
 ga:findIn K (.ref C) "__getattribute__"=some (some (.builtin "BaseException.__getattribute__"))
 gx:findIn K (.ref C) "__getattr__"=some none
 cl:findIn K (.ref C) "__class__"=some (some (.builtin "object.__class__"))
 gt:specialIn K (.builtin "object.__class__") "__get__"=some (some (.builtin "getset_descriptor.__get__"))
 tk:takesIn K (.builtin "object.__class__")=some true
 ob:mroIn K C (.type "object")=some true
 be:mroIn K C (.type "BaseException")=some true
 is:hasDictIn K C=true
theorem Gu{M:Model}(X:K.In h)(k:g8 K C):Looks M h (Builtin.ObjectAttr.find (.ref x) (.ref C) "__class__") (.bind (.builtin "getset_descriptor.__get__") (.builtin "object.__class__")):=by have L1:=p5 (M:=M) X k.cl;have L2:Looks M h (Builtin.ObjectAttr.getOf (some (.builtin "object.__class__"))) (some (.builtin "getset_descriptor.__get__")):=looks_specialIn X k.gt;have L3:=looks_takesIn (M:=M) X k.tk;unfold Builtin.ObjectAttr.find;refine L1.andThen (L2.andThen ?_);have L4:Looks M h (Builtin.ObjectAttr.dataDescriptor? (some (.builtin "object.__class__")) (some (.builtin "getset_descriptor.__get__"))) (some (.builtin "getset_descriptor.__get__",.builtin "object.__class__")):=L3.andThen .now;exact L4.andThen (Looks.tag .now)
theorem yM{M:Model}{xH:Value}{Q:Unit->M6->Prop}(X:K.In h)(k:g8 K C)(L0:Looks M h (typeOf (.ref x)) (.ref C))(hq:Q () ⟨h,g,d,t,os⟩): wpAny M A (checkBuiltinCall "BaseException.__getattribute__" ⟨[.ref x,xH],[]⟩) Q E ⟨h,g,d,t,os⟩:=by
  have hk:builtinKind "BaseException.__getattribute__"=some .slot:=by decide+kernel
  have bD:splitId "BaseException.__getattribute__"=some ("BaseException","__getattribute__"):=by decide+kernel
  have ha:=PySem.F.args_bexc_ga (.ref x) xH;have L1:=looks_mroIn (M:=M) X k.be;simp only[checkBuiltinCall,hk,bD];refine ag ?_;unfold isInstance;refine ag (L0.at (L1.at ?_))
  repeat (first|assumption|wp_step)
theorem get_cls{R:Result->M6->Prop}{tp:Value}(X:K.In h)(k:g8 K C)(L0:Looks (model prog w) h (typeOf (.ref x)) (.ref C))(hq:R (.ok (.ret (.ref C))) ⟨h,g,d,t,os⟩): codeAny (model prog w) A (.call (.builtin "getset_descriptor.__get__") ⟨[.builtin "object.__class__",.ref x,tp],[]⟩) R ⟨h,g,d,t,os⟩:=by
  have L1:=looks_mroIn (M:=model prog w) X k.ob;refine ug KF.slot_gs.plain KF.entry_gs (KF.slot_gs.check _ _ _ _ _ _ _ _ KF.type_class (KF.args_gs _ _ _) ?_);unfold Builtin.«getset_descriptor.__get__»descrGet;rw[dga_obj];refine ag (aM ?_);unfold descrGetter descrCheckInstance descrNameAndClass isInstance;simp only[KF.owner_class];repeat lk
  refine⟨Code.quiet_builtin _ (by decide+kernel),codeAny_builtin KF.entry_class ?_⟩;unfold Builtin.«object.__class__»shownTypeOf;repeat lk
  exact hq
theorem Jn{tk:Tok}{Q:Fin->M6->Prop}(X:K.In h)(k:g8 K C)(L0:Looks (model prog w) h (typeOf (.ref x)) (.ref C)) (hq:Q (.done (.ret (.ref C))) ⟨h,g,d,t,os⟩):wpAny (model prog w) A (Builtin.«object.__getattribute__» ⟨[.ref x,.str "__class__" tk],[]⟩) Q E ⟨h,g,d,t,os⟩:=by have L1:=Gu (M:=model prog w) (x:=x) X k;refine ag (aM (ag (aM (ag (L0.at (ag (L1.at ?_)))))));show wpAny _ _ (Builtin.ObjectAttr.bindTo _ _ (.ref x) (.ref C)) _ _ _;unfold Builtin.ObjectAttr.bindTo;show wpAny _ _ (holding [_] (call (.builtin "getset_descriptor.__get__") [.builtin "object.__class__",.ref x,.ref C])>>=_) _ _ _;exact ag (dN (kg (get_cls X k L0 (aM hq))))
theorem K9{Q:Option Value->M6->Prop}(X:K.In h)(k:g8 K C)(L0:Looks (model prog w) h (typeOf (.ref x)) (.ref C)) (hq:Q (some (.ref C)) ⟨h,g,d,t+1,os⟩):wpAny (model prog w) A (getAttr? (.ref x) "__class__") Q E ⟨h,g,d,t,os⟩:=by
  have L1:=p5 (M:=model prog w) X k.ga;have L2:=p5 (M:=model prog w) X k.gx;have f3:=uo.ga.bind (.ref x);have si:(Value.builtin "BaseException.__getattribute__"==Value.builtin "object.__getattribute__")=false:=by decide+kernel
  unfold getAttr? getAttrBy? getAttrBy;refine ag (wpAny_mkText (ag (wpAny_attempt (dN (ag (L0.at (ag (L1.at ?_))))))));show wpAny _ _ (if(onTheHeap (Value.ref C)&&Value.builtin "BaseException.__getattribute__"==Value.builtin "object.__getattribute__")=true then _ else _) _ _ _;rw[si,kx,aC (by decide)];unfold getAttrByItsOwn hookBefore;refine ag ?_;show wpAny _ _ (typeLookup (.ref C) "__getattr__") _ _ _;refine L2.at (ag (wpAny_attempt (dN ?_)));unfold callGetattribute;show wpAny _ _ (boundAndCalled _ _ _) _ _ _;unfold boundAndCalled;rw[f3];refine ag (aM (kg ?_));refine ug uo.ga.plain PySem.F.entry_bexc_ga (yM X k L0 (Jn X k L0 ?_));exact handed_on rfl (aM hq)
theorem xV(k:g8 K C):KitX K (.ref x) (.ref C) (ExcAt x (.ref C)) where
 ty:=fun M h _ p=>by obtain⟨o,h1,h2⟩:=p;exact yZ h1 h2
 it:=fun _ _ X _=>by
  obtain⟨cd,hc,_⟩:=any_some k.is;unfold clsIn at hc;split at hc
  · rename_i c1 d1 Kd Dh ho
    intro A' Q' E' s' kk q;unfold isType loadHead;exact ag (wpAny_loadPart (kk _ _ (X _ _ ho)) (aM q))
  ·cases hc
 ne:=fun h tp dd its n sl X Ho=>by
  obtain⟨cd,hc,_⟩:=any_some k.is;refine fc.mpr fun q=>?_;have e:C=tp:=Value.ref.inj (cu.mp q);subst e;unfold clsIn at hc;split at hc
  · rename_i c1 d1 Kd Dh ho
    cases(X _ _ ho).symm.trans Ho
  ·cases hc
 ca:=fun{prog w A E Q s} X p q=>by obtain⟨o,h1,h2⟩:=p;obtain⟨h0,g0,d0,t0,Lj⟩:=s;exact K9 X k (yZ h1 h2) q
end
end L2
namespace L2
open PySem PySem.Spec PyProof.Rows
def Ka:V->Option Value | .ref D=>some (.ref D) | .ty n=>some (.type n) |_=>none
theorem uS:∀{Ds:List Addr}{us:List Value},Vals (Ds.map V.ref) us->us=Ds.map Value.ref |[],_,.nil=>rfl |n::r,_,.cons q t=>by cases(show _=Value.ref n from q);rw[uS t];rfl
section
variable {X:Cx}
end
end L2
namespace L2
open PySem PySem.Spec PyProof.Rows
theorem Ks:bootBuiltins "ValueError"=some (.type "ValueError"):=by kernel_rfl
abbrev tK:List Value:=[.type "ValueError",.type "Exception",.type "BaseException",.type "object"]
abbrev xu:String:="ValueError.__new__"
theorem FA.ID{P:M7}{w:World}{K:M5}{mg:Str->Option Value}{base:Heap}{x:Str}{st:Stmt}{N ps:List Str}{k:Nat}{sp:Sp}(F:FA K mg x st)(S:aW N ps (aK st))(len:∀vs H Q E,sp vs H Q E->vs.length=ps.length) (hb:∀(kV doc pm:Value)(an:Option Addr)(ah ct:Value)(us:List Value),us.length=ps.length->bindArgs (PySem.W.fnOf x x (gv st) (d9 st) (aK st) .none kV doc pm an ah ct) ⟨us,[]⟩=pure (ps.zip us)) (dX:∀(f:Addr)(ah:Value)(A:M9)(outer:List Env)(s:M6)(H:Hp)(vs:List V)(Q:VK)(E:XK),bo k (A.deeper (envOfC x (aK st) s.heap.objs.size f ah))->sp vs H Q E->∃t,m7 (dm dw P w K mg base N x (aK st) f ah A outer s H E) (d9 st) t/\t {nx:=fun _ H'=>Q .au H',rt:=Q} (start N vs) H):aq P w K mg base x (k+1) sp:=by obtain⟨f,fd,hm,F⟩:=F.ex;have lT:=F.binds hb;have kp:=F.kp;obtain⟨oc,od,kV,doc,pm,an,ah,ct,bX,rfl,lk,bO⟩:=F.ex;exact⟨f,_,ps,Jx lk bO S len fun A outer s H vs Q E hr bD=>dX f ah A outer s H vs Q E hr bD,hm,kp,lT⟩
end L2
namespace Ar
end Ar
namespace Rt
open Rat
section
variable {n m:Nat} {r s:Rat}
end
end Rt
namespace L2
open PySem PySem.Spec PyProof.Rows
def eJ(H H':Hp):Prop:=∀b o,(∀xs,o≠ .lst xs)->H b=some o->H' b=some o
section
variable {K:M5} {H H' H2:Hp}
theorem eJ.trans(a:eJ H H')(b:eJ H' H2):eJ H H2:=fun c o n e=>b c o n (a c o n e)
theorem eJ.mC{D:Addr}{xs ys:List V}(h:H D=some (.lst xs)):eJ H (upd H D (.lst ys)):=fun b o n e=>by rw[aL (xD e h (n xs))];exact e
theorem az.t{a:Addr}{xs:List V}(s:eJ H H')(h:az K H a xs):az K H' a xs:=h.imp (fun r=>r.imp (s _ _ fun _ z=>nomatch z) fun⟨o,e⟩=>⟨o,s _ _ (fun _ z=>nomatch z) e⟩) id
mutual
def dH:M8->Bool | .list _=>false | .dict _=>false | .tuple ds=>bB ds | .none=>true | .bool _=>true | .int _=>true | .str _=>true
def bB:List M8->Bool |[]=>true |d::ds=>dH d&&bB ds
end
theorem dG:∀{ds:List M8},bB ds=true↔∀d∈ds,dH d=true
  |[]=>⟨fun _ _ h=>(nomatch h),fun _=>by simp[bB]⟩ |d::ds=>by
    rw[bB,bQ,dG (ds:=ds)];constructor
    · rintro⟨a,b⟩ x hx
      rcases aX.mp hx with rfl|hx
      ·exact a
      ·exact b x hx
    · intro h
      exact⟨h d (.head _),fun x hx=>h x (.tail _ hx)⟩
theorem FW(ns:List Int):bB (ns.map PyData.int)=true:=dG.mpr fun d hd=>by obtain⟨i,_,rfl⟩:=bN.mp hd;simp[dH]
mutual
theorem RD.t(s:eJ H H'):∀{x:V}(d:M8),dH d=true->RD K H x d->RD K H' x d |x,.none,_,h=>by simpa[RD]using h |x,.bool b,_,h=>by simpa[RD]using h |x,.int i,_,h=>by simpa[RD]using h |x,.str y,_,h=>by simpa[RD]using h |x,.list ds,n,h=>by simp[dH]at n |x,.tuple ds,n,h=>by rw[RD]at h⊢;obtain⟨a,xs,e,h1,h2⟩:=h;exact⟨a,xs,e,h1.t s,aj.t s ds (by simpa[dH]using n) h2⟩ |x,.dict _,_,h=>by simp[RD]at h
theorem aj.t (s:eJ H H'):∀{xs:List V}(ds:List M8),bB ds=true->aj K H xs ds->aj K H' xs ds |xs,[],_,h=>by simpa[aj]using h |xs,d::ds,n,h=>by rw[aj]at h⊢;rw[bB,bQ]at n;obtain⟨y,ys,e,h1,h2⟩:=h;exact⟨y,ys,e,RD.t s d n.1 h1,aj.t s ds n.2 h2⟩
end
theorem aj.nS:∀{xs:List V}{ns:List Int},aj K H xs (ns.map PyData.int)->xs=ns.map V.int |xs,[],h=>h.nil_inv |xs,n::ns,h=>by obtain⟨y,ys,rfl,h1,h2⟩:=h.cons_inv;rw[h1.int_inv,aj.nS h2];rfl
theorem mZ:∀(ns:List Int),aj K H (ns.map V.int) (ns.map PyData.int) |[]=>cT |n::ns=>bS (eE n) (mZ ns)
theorem zu{J:It}{xs:List V}{ds:List M8}{te:TE}{Q:VK}{D:Addr}{H0:Hp}(rest:St)(nw:Nw H H0 D (.lst []))(hl:xs.length=ds.length)(hz:xs.length<=1000)(hn:bB ds=true) (go:∀i x H2,xs[i]? =some x->af H H2->J.go i H2/\∀y H3,J.yld i H2 y H3->H3=H2/\y=x)(stop:∀H2,af H H2->J.stop xs.length H2) (hs:∀(i:Nat)(x:V)(d:M8)(H2:Hp)(Q':VK),xs[i]? =some x->ds[i]? =some d->af H H2->(∀y H3,af H2 H3->RD K H3 y d->Q' y H3)->te (some x::rest) H2 Q') (hq:∀H' ys,af H H'->H' D=some (.lst ys)->aj K H' ys ds->Q (.ref D) H'):gb J (dY 0) gf te Q D (none::rest) H0:=by
  have hD:=nw.no;refine lZ xs.length (fun i σ H2=>af H H2/\(∃ys,H2 D=some (.lst ys)/\aj K H2 ys (ds.take i))/\∃v,σ=v::rest) ?_ ?_ ?_
  ·exact⟨nw.same,⟨[],nw.at',cT⟩,none,rfl⟩
  · rintro i σ H2 hi ⟨s2,⟨ys,d2,r2⟩,v,rfl⟩
    have og:i<ds.length:=by rw[<-hl];exact hi
    have ex:=fu hi;have eb:=fu og;obtain⟨g1,g2⟩:=go i _ H2 ex s2;refine⟨g1,fun y H3 hy=>?_⟩;obtain⟨rfl,rfl⟩:=g2 y H3 hy;refine mz ?_;refine hs i _ _ _ _ ex eb s2 fun z H4 s4 r4=>?_;have d4:=s4 _ _ d2;have len:=r2.length;rw[gY]at len;refine⟨ys,d4,?_,xs.length-(i+1),by omega,rfl,by omega,fun b o e=>?_,⟨ys++[z],bR,?_⟩,_,rfl⟩
    · have:(1000:Nat)<sizeLine:=by decide
      omega
    ·rw[aL (cn e hD)];exact s4 b o (s2 b o e)
    · have t:eJ H4 (upd H4 D (.lst (ys++[z]))):=.mC d4
      rw[pe,eb];have n1:bB (ds.take i)=true:=dG.mpr fun d hd=>dG.mp hn d (kr hd);exact(aj.t t _ n1 (aj.mono s4 _ r2)).append (bS (RD.t t _ (dG.mp hn _ (kv og)) r4) cT)
  · rintro σ H2 ⟨s2,⟨ys,d2,r2⟩,v,rfl⟩
    refine⟨stop H2 s2,hq H2 ys s2 d2 ?_⟩;rw[hl,BI]at r2;exact r2
theorem K7{a:Addr}{xs:List V}{ds:List M8}{te:TE}{Q:VK}{D:Addr}{H0:Hp}(rest:St)(hx:az K H a xs)(nw:Nw H H0 D (.lst []))(hl:xs.length=ds.length)(hz:xs.length<=1000)(hn:bB ds=true) (hs:∀(i:Nat)(x:V)(d:M8)(H2:Hp)(Q':VK),xs[i]? =some x->ds[i]? =some d->af H H2->(∀y H3,af H2 H3->RD K H3 y d->Q' y H3)->te (some x::rest) H2 Q') (hq:∀H' ys,af H H'->H' D=some (.lst ys)->aj K H' ys ds->Q (.ref D) H'):gb (oU K a) (dY 0) gf te Q D (none::rest) H0:=zu rest nw hl hz hn (fun i x H2 e s=>⟨⟨xs,x,hx.go s,e⟩,fun y H3 ⟨e3,y3⟩=>⟨e3,by have:=y3 _ (hx.go s);rw[e]at this;exact(cf this).symm⟩⟩) (fun H2 s=>⟨xs,hx.go s,aD _⟩) hs hq
theorem zr{a:Addr}{xs:List V}{ds:List M8}{te:TE}{Q:VK}{D:Addr}{H0:Hp}(rest:St)(hx:aa K H a xs)(nw:Nw H H0 D (.lst []))(hl:xs.length=ds.length)(hz:xs.length<=1000)(hn:bB ds=true) (hs:∀(i:Nat)(x:V)(d:M8)(H2:Hp)(Q':VK),xs[i]? =some x->ds[i]? =some d->af H H2->(∀y H3,af H2 H3->RD K H3 y d->Q' y H3)->te (some x::rest) H2 Q') (hq:∀H' ys,af H H'->H' D=some (.lst ys)->aj K H' ys ds->Q (.ref D) H'):gb (ka K a) (dY 0) gf te Q D (none::rest) H0:=zu rest nw hl hz hn (fun i x H2 e s=>⟨⟨xs,x,hx.go s,e⟩,fun y H3 ⟨e3,y3⟩=>⟨e3,by have:=y3 _ (hx.go s);rw[e]at this;exact(cf this).symm⟩⟩) (fun H2 s=>⟨xs,hx.go s,aD _⟩) hs hq
end
section
variable {X:Cx}
theorem yb{ns:List Int}{us:List Value}(r:Vals (ns.map V.int) us){i:Nat}{v:Value}(h:us[i]? =some v):∃n t,ns[i]? =some n/\v=Value.int n t:=by
 have hl:=r.length;rw[aF]at hl;have hi:i<ns.length:=by rw[hl];exact(dA.mp h).1
 obtain⟨u,e,ru⟩:=r.get (i:=i) (x:=.int ns[i]) (by rw[cg,fu hi];rfl);rw[h]at e;cases e;obtain⟨t,rfl⟩:=(show∃t,v=Value.int ns[i] t from ru);exact⟨_,t,fu hi,rfl⟩
theorem DG(ns:List Int):((List.range ns.length).any fun i=>((ns.map (· !=0))[i]?).getD false)=ns.any (· !=0):=by have:=LSm.range_any (ns.map (· !=0));rw[aF]at this;rw[this,pw];rfl
theorem zV(K:M5)(hK:X.K=K)(hc:X.calm=true):bM X (.builtin "any") (fun xs H Q=>∃(l:Addr)(ns:List Int),xs=[.ref l]/\(aa K H l (ns.map V.int)\/az K H l (ns.map V.int))/\Q (.bl (ns.any (· !=0))) H):=by
 subst hK;intro pins s σ H xs us Q I r h;obtain⟨l,ns,rfl,hl,q⟩:=h;obtain⟨u,rfl,ru⟩:=vals1 r;cases(show u=Value.ref l from ru);have hh:=I.ok.hd hc;have fin:∀(its:List Value),Vals (ns.map V.int) its->((List.range its.toArray.size).any fun i=>((ns.map (· !=0))[i]?).getD false)=ns.any (· !=0):=fun its rv=>by rw[bC,<-rv.length,aF];exact DG ns
 rcases hl with hl|hl
 · obtain⟨its,rv,pl,hz⟩:=I.list hl
   have cZ:=pl.isList;have bf:l<s.heap.objs.size:=by obtain⟨_,e,_⟩:=cZ;exact aN e
   refine call_any_walk (me cZ ?_);refine⟨s.heap.objs.size,[s.heap.objs.size,l],[s.heap.objs.size],its.toArray.size,_,_,fun i=>((ns.map (· !=0))[i]?).getD false,rfl,Walks.list (A:=X.A.in1) hh _ l (bF bf) its.toArray,⟨⟨_,cw _ rfl,rfl,rfl⟩,cZ.push _⟩,fun i v s' Q' E' hP hQ=>?_,fun h' tk hk=>?_⟩
   · obtain⟨n,t,e,rfl⟩:=yb rv (i:=i) (v:=v) (by simpa using hP)
     simp only[cg,e]at hQ;exact truthy_int hQ
   · rw[fin its rv]
     exact⟨.bl _,H,I.kept (LSm.kept_iter hk),rfl,q⟩
 · obtain⟨its,rv,pl,hz⟩:=I.tuple hl
   have cZ:s.heap.IsTuple l its.toArray:=by obtain⟨⟨cls,dd,data,sl⟩,ho,eU,n,hd⟩:=pl;exact⟨_,ho,eU,by simpa using⟨n,hd⟩⟩
   have bf:l<s.heap.objs.size:=by obtain⟨_,e,_⟩:=cZ;exact aN e
   refine call_any_walk (wpAny_pyIter_tuple cZ ?_);refine⟨s.heap.objs.size,[s.heap.objs.size,l],[s.heap.objs.size],its.toArray.size,_,_,fun i=>((ns.map (· !=0))[i]?).getD false,rfl,Walks.tuple (A:=X.A.in1) hh _ l (bF bf) its.toArray,⟨⟨_,cw _ rfl,rfl,rfl⟩,cZ.push _⟩,fun i v s' Q' E' hP hQ=>?_,fun h' tk hk=>?_⟩
   · obtain⟨n,t,e,rfl⟩:=yb rv (i:=i) (v:=v) (by simpa using hP)
     simp only[cg,e]at hQ;exact truthy_int hQ
   · rw[fin its rv]
     exact⟨.bl _,H,I.kept (LSm.kept_iter hk),rfl,q⟩
end
end L2
set_option maxHeartbeats 1000000
namespace Lw
open PySem PySem.Spec PyProof.Rows L2
def A5(c m:Int):Prop:=0<=c/\0<=m/\m<2147483648
def cI(H:Hp)(p:Addr):Prop:=∃c m,H p=some (.lst [.int c,.int m])/\A5 c m
structure aA(p:Addr)(H H':Hp):Prop where
 bag:cI H' p
 same:∀b o,b≠p->H b=some o->H' b=some o
theorem aA.refl{p:Addr}{H:Hp}(h:cI H p):aA p H H:=⟨h,fun _ _ _ e=>e⟩
theorem aA.trans{p:Addr}{H H1 H2:Hp}(a:aA p H H1)(b:aA p H1 H2):aA p H H2:=⟨b.bag,fun c o n e=>b.same c o n (a.same c o n e)⟩
theorem aA.upd{p:Addr}{H:Hp}{c m:Int}(h:A5 c m):aA p H (L2.upd H p (.lst [.int c,.int m])):=⟨⟨c,m,bR,h⟩,fun b o n e=>by rw[aL n];exact e⟩
theorem aA.bh{p:Addr}{H H':Hp}(h:cI H p)(s:af H H'):aA p H H':=by obtain⟨c,m,e,ok⟩:=h;exact⟨⟨c,m,s _ _ e,ok⟩,fun b o _ e=>s b o e⟩
theorem uQ{j:Int}(h0:0<=j)(h:j<=10^40):Wd j:=by
 have:j.natAbs<=10^40:=by omega
 exact Nat.lt_of_le_of_lt this (by decide+kernel)
theorem cI.ne{H:Hp}{p:Addr}(h:cI H p):H p≠none:=by obtain⟨c,m,e,_⟩:=h;rw[e];exact fun z=>nomatch z
theorem aA.sd{p:Addr}{H H':Hp}(b:aA p H H'):SD p H H':=fun c o e=>iq.mpr ⟨(iq.mp e).1,b.same _ _ (iq.mp e).1 (iq.mp e).2⟩
theorem cI.G0{H:Hp}{p:Addr}{q:Addr}{o:HO}(h:cI H p)(e:H q=some o)(n:∀xs,o≠ .lst xs):q≠p:=by obtain⟨c,m,e',_⟩:=h;exact xD e e' (n _)
theorem aA.t{p:Addr}{H H':Hp}(bg:cI H p)(b:aA p H H'):eJ H H':=fun c o n e=>b.same c o (bg.G0 e n) e
theorem aA.Dp{p:Addr}{H0 H H':Hp}(s:af H0 H)(hp:H0 p=none)(b:aA p H H'):af H0 H':=fun c o e=>b.same c o (cn e hp) (s c o e)
section
variable {K:M5}
theorem tF{J:It}{te:TE}{Q:VK}{D p:Addr}{H H0:Hp}(n:Nat)(rest:L2.St)(nw:Nw H H0 D (.lst []))(bg:cI H p)(hn:n<=1000)(xv:Nat->V) (go:∀i H2,i<n->aA p H H2->J.go i H2/\∀y H3,J.yld i H2 y H3->H3=H2/\y=xv i)(stop:∀H2,aA p H H2->J.stop n H2)(Pz:Int->Prop) (hs:∀i H2 (Q':VK),i<n->aA p H H2->(∀z H3,Pz z->aA p H2 H3->Q' (.int z) H3)->te (some (xv i)::rest) H2 Q') (hq:∀H' (is:List Int),aA p H H'->H' D=some (.lst (is.map V.int))->is.length=n->(∀z∈is,Pz z)->Q (.ref D) H'):gb J (dY 0) gf te Q D (none::rest) H0:=by
  have lV:D≠p:=fun e=>bg.ne (e▸nw.no);refine lZ n (fun i σ H3=>aA p H H3/\(∃is:List Int,H3 D=some (.lst (is.map V.int))/\is.length=i/\∀z∈is,Pz z)/\∃v,σ=v::rest) ?_ ?_ ?_
  ·exact⟨.bh bg nw.same,⟨[],nw.at',rfl,fun _ h=>(cQ h).elim⟩,none,rfl⟩
  · rintro i σ H3 hi ⟨b3,⟨is,d3,li,pi⟩,v,rfl⟩
    obtain⟨g1,g2⟩:=go i H3 hi b3;refine⟨g1,fun y H4 hy=>?_⟩;obtain⟨rfl,rfl⟩:=g2 y H4 hy;refine mz ?_;refine hs i _ _ hi b3 fun z H5 pz b5=>?_;refine⟨_,b5.same _ _ lV d3,?_,n-(i+1),by omega,rfl,by omega,?_,⟨is++[z],?_,?_,?_⟩,_,rfl⟩
    · rw[aF,li]
      have:(1000:Nat)<sizeLine:=by decide
      omega
    · have m5:=b3.trans b5
      refine⟨?_,fun b o n e=>?_⟩
      · obtain⟨c,m,e,ok⟩:=m5.bag
        exact⟨c,m,by rw[aL lV.symm];exact e,ok⟩
      ·rw[aL (cn e nw.no)];exact m5.same b o n e
    ·rw[bR,dP];rfl
    ·rw[de,li];rfl
    · intro y hy
      rcases eg.mp hy with h|h
      ·exact pi y h
      ·rw[eK.mp h];exact pz
  · rintro σ H3 ⟨b3,⟨is,d3,li,pi⟩,v,rfl⟩
    exact⟨stop H3 b3,hq H3 is b3 d3 li pi⟩
theorem Hc(ns:List Int){i:Int}(h0:0<=i)(h:i<ns.length):∃z,z∈ns/\cO (ns.map V.int) i=some (.int z):=by
 have hl:i.toNat<ns.length:=by omega
 exact⟨ns[i.toNat],kv hl,da h0 (by rw[cg,fu hl];rfl)⟩
theorem zt{J:It}{te:TE}{Q:VK}{D p:Addr}{H H0:Hp}(n:Nat)(rest:L2.St)(nw:Nw H H0 D (.lst []))(bg:cI H p)(hn:n<=1000)(xv:Nat->V) (go:∀i H2,i<n->aA p H H2->J.go i H2/\∀y H3,J.yld i H2 y H3->H3=H2/\y=xv i)(stop:∀H2,aA p H H2->J.stop n H2)(Pd:Nat->M8->Prop) (hs:∀i H2 (Q':VK),i<n->aA p H H2->(∀y d H3,Pd i d->dH d=true->RD K H3 y d->aA p H2 H3->Q' y H3)->te (some (xv i)::rest) H2 Q') (hq:∀H' ys ds,aA p H H'->H' D=some (.lst ys)->aj K H' ys ds->ds.length=n->bB ds=true->(∀i d,ds[i]? =some d->Pd i d)->Q (.ref D) H'):gb J (dY 0) gf te Q D (none::rest) H0:=by
  have lV:D≠p:=fun e=>bg.ne (e▸nw.no);refine lZ n (fun i σ H3=>aA p H H3/\(∃ys ds,H3 D=some (.lst ys)/\aj K H3 ys ds/\ds.length=i/\bB ds=true/\∀j d,ds[j]? =some d->Pd j d)/\∃v,σ=v::rest) ?_ ?_ ?_
  ·exact⟨.bh bg nw.same,⟨[],[],nw.at',cT,rfl,rfl,fun j d e=>by simp at e⟩,none,rfl⟩
  · rintro i σ H3 hi ⟨b3,⟨ys,ds,d3,r3,li,ni,pi⟩,v,rfl⟩
    obtain⟨g1,g2⟩:=go i H3 hi b3;refine⟨g1,fun y H4 hy=>?_⟩;obtain⟨rfl,rfl⟩:=g2 y H4 hy;refine mz ?_;refine hs i _ _ hi b3 fun z d H5 pz nz rz b5=>?_;have d5:=b5.same _ _ lV d3;have t:eJ H5 (L2.upd H5 D (.lst (ys++[z]))):=.mC d5;refine⟨ys,d5,?_,n-(i+1),by omega,rfl,by omega,?_,⟨ys++[z],ds++[d],bR,?_,?_,?_,?_⟩,_,rfl⟩
    · rw[r3.length,li]
      have:(1000:Nat)<sizeLine:=by decide
      omega
    · have m5:=b3.trans b5
      refine⟨?_,fun b o n e=>?_⟩
      · obtain⟨c,m,e,ok⟩:=m5.bag
        exact⟨c,m,by rw[aL lV.symm];exact e,ok⟩
      ·rw[aL (cn e nw.no)];exact m5.same b o n e
    ·exact(aj.t ((aA.t b3.bag b5).trans t) _ ni r3).append (bS (RD.t t _ nz rz) cT)
    ·rw[de,li];rfl
    ·exact dG.mpr fun x hx=>by
        rcases eg.mp hx with h|h
        ·exact dG.mp ni x h
        ·rw[eK.mp h];exact nz
    · intro j e he
      by_cases hj:j<ds.length
      · rw[BM hj]at he
        exact pi j e he
      · have HV:j=ds.length:=by have:=(dA.mp he).1;rw[de]at this;have:j<ds.length+1:=this;omega
        subst HV;rw[List.getElem?_append_right (aD _),Nat.sub_self]at he;cases he;rw[li];exact pz
  · rintro σ H3 ⟨b3,⟨ys,ds,d3,r3,li,ni,pi⟩,v,rfl⟩
    exact⟨stop H3 b3,hq H3 ys ds b3 d3 r3 li ni pi⟩
end
end Lw
namespace Ln
open PySem L2
end Ln
namespace L2
open PySem PySem.Spec PyProof.Rows
abbrev oE(b:Bool)(h:Heap)(l:Addr):Heap:=h.push {cls:=.type (m3 b),data:=.fields #[.ref l,.int 0 0]}
abbrev tm(b:Bool)(h:Heap)(l:Addr):Heap:=(oE b h l).push {cls:=.type "enumerate",data:=.fields #[.none,.bool false,.ref h.objs.size,rawInt 0,.none,.none]}
theorem JS(b:Bool)(l:Addr)(xs:Array Value):Meets (Builtin.«enumerate.__new__» ⟨[.type "enumerate",.ref l],[]⟩) (fun _ R s=>fW b s.heap l xs/\R (.ok (.ret (.ref (oE b s.heap l).objs.size))) {s with heap:=tm b s.heap l}):=.of_wp fun prog w A R s h=>by
   obtain⟨hp,gg,d,tk,os⟩:=s;obtain⟨hl,h⟩:=h;have yj:=sub_enumerate;have hL:fW b (Shared.heap ⟨hp,gg,d,tk,os⟩) l xs:=hl
   wp_walk using nG hL;refine wpAny_stack_any fun st=>aM ?_;split
   · rename_i c _ _ _ _ _
     cases(c==Value.type "enumerate")
     · wp_walk using nG hL
       exact⟨_,rfl,h⟩
     · wp_walk using nG hL
       exact⟨_,rfl,h⟩
   · wp_walk using nG hL
     exact⟨_,rfl,h⟩
section
variable {prog:M7}{w:World}{A:M9}{E:Value->M6->Prop}{s:M6}
theorem JT{b:Bool}{l:Addr}{xs:Array Value}{Q:Value->M6->Prop}(hl:fW b s.heap l xs) (q:∀g,IsEnum g (s.heap.objs.size+1) s.heap.objs.size 0 .none->fY b g s.heap.objs.size l 0->(∀c o,s.heap.get? c=some o->g.get? c=some o)->Q (.ref (s.heap.objs.size+1)) {s with heap:=g}): wpAny (model prog w) A (call (.type "enumerate") [.ref l]) Q E s:=by refine callType_new PySem.F.called_enumerate (by decide) (PySem.F.typeCall_enumerate_1 _) (PySem.F.newCall_enumerate_1 _) (fun obj=>PySem.F.args_object_init_2 obj _) PySem.F.entry_enumerate_new (JS b l xs) ⟨hl,?_⟩;have z1:(oE b s.heap l).objs.size=s.heap.objs.size+1:=uM ..;have g2:(tm b s.heap l).get? (oE b s.heap l).objs.size=some _:=cw _ rfl;have g1:(tm b s.heap l).get? s.heap.objs.size=some _:=bw _ (cw _ rfl);show _/\_;rw[z1]at g2⊢;refine⟨⟨_,g2,rfl⟩,q _ g2 ?_ fun c o e=>bw _ (bw _ e)⟩;cases b<;>exact⟨_,g1,rfl,rfl⟩
theorem z9{b:Bool}{it l:Addr}{xs:Array Value}(hh:A.handled=none)(ne:l≠it):Draws prog w A it [it,l] xs.size (fun i x=>xs[i]? =some x) (fun i h=>fY b h it l i/\fW b h l xs) where
 live:=fun i h st=>by obtain⟨o,e,_⟩:=st.1.ob;exact⟨o,e⟩
 frame:=fun i h h' st k=>⟨st.1.to fun o e=>k it (by simp) o e,st.2.to fun o e=>k l (by simp) o e⟩
 item:=fun i s Q E hi st hQ=>FK st.1 st.2 (x:=xs[i]) (by simp[hi]) fun g gi sb=>hQ _ g s.toks (by simp[hi]) ⟨gi,st.2.to fun o e=>sb.extBut _ _ ne e⟩ sb
 done:=fun s Q E st hE=>JR hh st.1 st.2 (by simp) fun g e a b=>hE g e a b
end
def md(K:M5)(b:Bool)(l:Addr):It:=⟨fun i H=>∃xs x,fV b K H l xs/\xs[i]? =some x,fun i H v H'=>∃T x,v= .ref T/\(∀xs,fV b K H l xs->xs[i]? =some x)/\Nw H H' T (.tup [.int i,x]),fun i H=>∃xs,fV b K H l xs/\xs.length=i⟩
theorem Cj{P:M7}{w:World}{K:M5}{elts:List Expr}{kt:Nat}{pos:Pos}{b:Bool}{e it l:Addr}(D:e≠it): Turn P w K (.Tuple elts kt pos) (md K b l) [e,it] e (fun i h=>(∃old,IsEnum h e it i old)/\fY b h it l i) where
  mem:=by simp
  obj:=fun i h st c hc=>by
   obtain⟨⟨old,he⟩,h1⟩:=st;simp only[aX,cQ,gX]at hc;rcases hc with rfl|rfl
   ·exact⟨_,he,fun v e=>by cases e⟩
   ·obtain⟨o,e,_,n⟩:=h1.ob;exact⟨o,e,n⟩
  keep:=fun i h h' st k=>by obtain⟨⟨old,he⟩,h1⟩:=st;exact⟨⟨old,k e (by simp) _ he⟩,h1.to fun o q=>k it (by simp) o q⟩
  item:=by
   intro X hP hw hK hc i pins s σ H E I hf st hg;subst hP hw hK;obtain⟨xs,x,q1,e1⟩:=hg;obtain⟨its,r1,p1⟩:=q1.get I;obtain⟨u1,Hn,qI⟩:=r1.get e1;obtain⟨⟨old,he⟩,h1⟩:=st;obtain⟨oi,cY,ci,_⟩:=h1.ob;have rS:∃o,s.heap.get? l=some o/\(o.cls= .type "list"\/o.cls= .type "tuple"):=by cases b<;>(obtain⟨o,ho,cc,_⟩:=p1;first|exact⟨o,ho,.inl cc⟩|exact⟨o,ho,.inr cc⟩)
   obtain⟨ol,gM,cl⟩:=rS;have FZ:e≠l:=fun z=>by subst z;rw[he]at gM;cases gM;rcases cl with h|h<;>simp at h
   have nil:l≠it:=fun z=>by subst z;rw[cY]at gM;cases gM;rw[ci]at cl;cases b<;>(rcases cl with h|h<;>simp[m3]at h)
   have bf:i<its.toArray.size:=by rw[bC,<-r1.length];exact(dA.mp e1).1
   refine wpAny_pyNext_enum_itemD (z9 (I.ok.hd hc) nil) he ⟨h1,p1⟩ bf D (by simp[D,FZ]) fun y h' tk J8 ho eT hT hsz kp=>⟨_,rfl,?_⟩;have ey:y=u1:=by
    have a1:its.toArray[i]? =some y:=J8;have a2:its.toArray[i]? =some u1:=by simpa using Hn
    rw[a1]at a2;exact cf a2
   subst ey;refine wpAny_letOwnedTupleGo_enum ho fun g' Iq sb=>?_;have hs:=sb.extBut;have elt:e<s.heap.objs.size:=aN he;have Hh:it<s.heap.objs.size:=aN cY;have nw:Nw H (upd H s.heap.objs.size (.tup [.int i,x])) s.heap.objs.size (.tup [.int i,x]):=.of (I.hok.fresh (aD _));have I1:Inv X pins σ (upd H s.heap.objs.size (.tup [.int i,x])) {s with heap:=s.heap.push {cls:=.type "tuple",data:=.seq #[.int i tk,y]},toks:=tk+1}:=I.laid (t':=tk+1) (fun b ob q=>bw _ q) (aD _) ⟨by show 2<=sizeLine;decide,[.int i tk,y],.cons ⟨tk,rfl⟩ (.cons qI .nil),⟨_,cw _ rfl,rfl,_,rfl⟩⟩;have Gp:∀c∈[e,it],c<s.heap.objs.size:=fun c hc=>by
    simp only[aX,cQ,gX]at hc;rcases hc with rfl|rfl
    ·exact elt
    ·exact Hh
   have hn:∀c∈[e,it],upd H s.heap.objs.size (.tup [.int i,x]) c=none:=fun c hc=>by rw[aL (bF (Gp c hc))];exact(hf c hc).1
   have I2:Inv X pins σ (upd H s.heap.objs.size (.tup [.int i,x])) {s with heap:=g',toks:=tk+1}:=Inv.pJ (s:={s with heap:=s.heap.push {cls:=.type "tuple",data:=.seq #[.int i tk,y]},toks:=tk+1}) (t':=tk+1) (fp:=[e,it]) I1 (fun c o hc q=>by
    have q:(s.heap.push {cls:=.type "tuple",data:=.seq #[.int i tk,y]}).get? c=some o:=q;have nz:c≠e:=fun z=>hc (by simp[z]);rcases Heap.get?_push_cases q with⟨Iz,rfl⟩|q'
    · subst Iz
      exact hs _ _ nz hT
    ·exact hs _ _ nz (kp c o nz (fun z=>hc (by simp[z])) q')) (fun c hc=>by obtain⟨f0,f1,f2,f3,f4,f5⟩:=hf c hc;exact⟨hn c hc,f1,f2,f3,f4,f5⟩);refine⟨.ref s.heap.objs.size,_,I2,rfl,⟨s.heap.objs.size,x,rfl,fun zs hz=>?_,nw⟩,⟨⟨_,by simpa using Iq⟩,eT.1.to fun o q=>hs _ o (f9 D) q⟩,hn⟩;rw[fV.inj I hz q1];exact e1
  done:=by
   intro X hP hw hK hc i pins s σ H E I hf st hg;subst hP hw hK;obtain⟨xs,q1,Ip⟩:=hg;obtain⟨its,r1,p1⟩:=q1.get I;obtain⟨⟨old,he⟩,h1⟩:=st;obtain⟨oi,cY,ci,_⟩:=h1.ob;have rS:∃o,s.heap.get? l=some o/\(o.cls= .type "list"\/o.cls= .type "tuple"):=by cases b<;>(obtain⟨o,ho,cc,_⟩:=p1;first|exact⟨o,ho,.inl cc⟩|exact⟨o,ho,.inr cc⟩)
   obtain⟨ol,gM,cl⟩:=rS;have nil:l≠it:=fun z=>by subst z;rw[cY]at gM;cases gM;rw[ci]at cl;cases b<;>(rcases cl with h|h<;>simp[m3]at h)
   have hi:i=its.toArray.size:=by rw[bC,<-r1.length];exact Ip.symm
   subst hi;refine wpAny_pyNext_enum_endD (z9 (I.ok.hd hc) nil) he ⟨h1,p1⟩ fun h' kp=>⟨rfl,?_⟩;exact I.pJ (t':=s.toks) (fp:=[e,it]) (fun c o hc q=>kp c o (fun z=>hc (by simp[z])) q) hf
  self:=fun _ _ _ _ _ st h=>by obtain⟨⟨old,he⟩,_⟩:=st;exact wpAny_pyIter_enum he h
inductive Bm(K:M5)(b:Bool)(R:It->Hp->Prop)(vs:List V)(H1:Hp):Prop |mk (l:_)(h0:vs=[.ref l])(h1:(∃xs,fV b K H1 l xs))(h2:R (md K b l) H1):Bm K b R vs H1
def Hk(K:M5)(b:Bool)(ta:TA):TI:=fun σ H R=>ta σ H fun vs H1=>Bm K b R vs H1
theorem Ed(K:M5){X:Cx}(hK:X.K=K)(b:Bool){elts:List Expr}{kt:Nat}{pK:Pos}{a:Expr}{ta:TA}{p pos:Pos}(hg:Gl X "enumerate")(hm:X.mg "enumerate"=none)(ha:PA X [a] ta)(hs:starEach [a] X.env=[(false,eval a X.env)]:=by rfl)(yk:starEach [] X.env=[]:=by rfl): PI X (.Tuple elts kt pK) (.Call (.Name "enumerate" p) [a] [] pos) (Hk K b ta):=by
  subst hK;intro pins s σ H R I h;refine Call_ (ll I hg hm PyProof.Rows.boot_enumerate (BF (ak (ha pos pins s σ H _ I h) fun us s1 ⟨vs,H1,I1,r1,q1⟩=>?_) (by rw[hs,yk]) (by rw[yk];rfl)));obtain⟨l,e,⟨xs,h1⟩,q⟩:=q1;subst e;obtain⟨u1,rfl,qI⟩:=vals1 r1;cases(show u1=Value.ref l from qI);obtain⟨LB,v1,p1⟩:=h1.get I1;refine JT p1 fun g zg ig kp=>wpAny_pyIter_enum zg ?_;refine⟨_,_,_,_,H1,rfl,I1.kept (t':=s1.toks) kp,Cj (uu (Nat.lt_succ_self _)),⟨⟨_,zg⟩,ig⟩,fun c hc=>?_,q⟩;have hle:s1.heap.objs.size<=c:=by simp only[aX,cQ,gX]at hc;rcases hc with rfl|rfl<;>first|exact aD _|exact Nat.le_add_right _ _
  exact I1.jR hle (I1.hok.fresh hle)
theorem Jv{K:M5}{b:Bool}{a:Addr}{xs:List V}{g:TG}{tb:TS}{D:Ends}{σ:St}{H:Hp}(Pv:Nat->St->Hp->Prop)(h0:Pv 0 σ H)(hl:∀i σ H,i<=xs.length->Pv i σ H->fV b K H a xs) (hs:∀i x σ H,xs[i]? =some x->Pv i σ H->∀T H',Nw H H' T (.tup [.int i,x])->g (.ref T) σ H' fun σ2 H2=>tb {D with nx:=Pv (i+1),ct:=Pv (i+1),bk:=D.nx} σ2 H2)(hd:∀σ H,Pv xs.length σ H->D.nx σ H): ∃W:Nat->Nat->St->Hp->Prop,(∃m,W 0 m σ H)/\∀i m σ H,W i m σ H->((md K b a).stop i H/\D.nx σ H)\/((md K b a).go i H/\∃N:St->Hp->Prop,(∀σ' H',N σ' H'->∃m',m'<m/\W (i+1) m' σ' H')/\∀x H',(md K b a).yld i H x H'->g x σ H' fun σ2 H2=>tb {D with nx:=N,ct:=N,bk:=D.nx} σ2 H2):=by
  refine⟨fun i m σ H=>m=xs.length-i/\i<=xs.length/\Pv i σ H,⟨xs.length,by simp,bE _,h0⟩,?_⟩;rintro i m σ H ⟨rfl,hi,p⟩;have q:=hl i σ H hi p;by_cases bf:i<xs.length
  · refine .inr ⟨⟨xs,xs[i],q,by simp[bf]⟩,Pv (i+1),fun σ' H' p'=>⟨xs.length-(i+1),by omega,rfl,bf,p'⟩,fun x H' y=>?_⟩
    obtain⟨T,z,rfl,ez,nw⟩:=y;exact hs i z σ H (ez xs q) p T H' nw
  · have e:i=xs.length:=by omega
    subst e;exact .inl ⟨⟨xs,q,rfl⟩,hd σ H p⟩
section
variable {X:Cx}
end
end L2
namespace L2
open PySem PySem.Spec PyProof.Rows
set_option maxHeartbeats 1000000 in
theorem wO{X:Cx}{N:List Str}{js:List (Option Nat)}{elt tg iter:Expr}{ifs:List Expr}{scope:Scope}{pos:Pos}{wi:TI}{g:TG}{tt:TT}{te:TE}{i0:Nat}{x0:Str}{jz vo:Pos}(J9:X.N.Nodup)(HW:X.N[i0]? =some x0)(sj:Loc X.env.scope x0)(hc:X.calm=true)(hN:oM X N js scope=true)(hS:jX X scope=true) (hi:PI X tg iter wi)(hg:∀cl s H fp pins,PG (bL X N scope cl s H fp pins) tg g)(ht:∀cl s H fp pins,oQ (bL X N scope cl s H fp pins) ifs tt)(he:∀cl s H fp pins,PE (bL X N scope cl s H fp pins) elt te) (Hq:swapsWith (.ListComp elt [⟨tg,iter,ifs,0⟩] scope pos) (some (.Name x0 jz)) vo.line X.env=pure true:=by rfl)(Io:X.fn x0=true\/X.env.scope.names.lookup x0=some .local:=by first|exact .inl rfl|exact .inr rfl) (hs:∀x,foldedSetIterable iter X.env x=pure x:=by intro _;rfl):PS X (.Assign [.Name x0 jz] (.ListComp elt [⟨tg,iter,ifs,0⟩] scope pos) vo) (mM (vf js wi g tt te) (dY i0)):=by
  intro pins s σ H D0 I h;have j7:=hS;unfold jX at j7;rw[bQ,bQ]at j7;obtain⟨⟨k1,k2⟩,k3⟩:=j7;have fM:scope.kind= .function:=cu.mp k1;have jO:∀x∈scope.names,x.2= .free->∃c,X.env.cells.lookup x.1=some c:=fun x hx e=>by have:=bV.mp k3 x hx;rw[e]at this;exact I.ok.has x.1 (.inl (cu.mp this))
  have ie:∀x∈scope.names,x.2≠ .cell:=fun x hx e=>by have:=bV.mp k3 x hx;rw[e]at this;exact ba this
  have sA:∀x∈scope.names,x.2= .local->scope.names.lookup x.1=some .local:=fun x hx e=>by have:=bV.mp k3 x hx;rw[e]at this;exact cu.mp this
  obtain⟨cl,sH,c1,c2⟩:=zB jO;rw[exec_Assign_Name_used _ _ _ _ Hq];refine ag (ke (ag ?_));show wpAny _ X.A (do let _<-comprehension (.ListComp elt [⟨tg,iter,ifs,0⟩] scope pos) scope X.env _ (newList []) false (eval iter X.env) (some (assign (.Name x0 jz) X.env))) _ _ s;refine ag (dy (wpAny_comprehension_free (use:=some (assign (.Name x0 jz) X.env)) (Q:=fun _ s'=>SP X pins D0 .next s') rfl hs sH fM sA (ak (hi pins s σ H _ I h) fun v s1 h1=>ak h1 fun nO s2 h2=>?_)) (fun _ s' hq=>aM (aM hq)) fun _ _ e=>e);obtain⟨it,fp,tn,J,H2,e,I2,T,iK,f2,h2⟩:=h2;subst e;have hD:H2 s2.heap.objs.size=none:=I2.hok.fresh (aD _);obtain⟨W,⟨m0,w0⟩,turn⟩:=h2 _ _ (Nw.of hD);refine iB (wpAny_newFunctionEnv ie (by intro y hy;simp at hy) (fun h₁ lJ lH=>?_) fM);have j9:∀b∈fp,b<s2.heap.objs.size:=fun b hb=>by obtain⟨o,e,_⟩:=T.obj _ _ iK b hb;exact aN e
  have I3:Inv X pins σ (upd H2 s2.heap.objs.size (.lst [])) {s2 with heap:=s2.heap.push {cls:=.type "list",dict:=none,data:=.seq ([]:List Value).toArray}}:=I2.xS (its:=[]) (t':=s2.toks) .nil (bE _);generalize lU:s2.heap.push {cls:=.type "list",dict:=none,data:=.seq ([]:List Value).toArray}=h3 at I3 lJ lH;have kJ:h3.objs.size=s2.heap.objs.size+1:=by rw[<-lU,uM]
  have rT:∀b o,s2.heap.get? b=some o->h3.get? b=some o:=fun b o e=>by rw[<-lU];exact bw _ e
  have f3:∀b∈fp,eZ X pins (upd H2 s2.heap.objs.size (.lst [])) b:=fun b hb=>⟨by rw[aL (bF (j9 b hb))];exact(f2 b hb).1,(f2 b hb).2⟩;have lq:∀b o,h3.get? b=some o->h₁.get? b=some o:=fun b o e=>(lH.2 b (bF (aN e))).trans (bw _ e);have I4:Inv (bL X N scope cl {s2 with heap:=h3} (upd H2 s2.heap.objs.size (.lst [])) fp pins) [] (stC js σ) (upd H2 s2.heap.objs.size (.lst [])) {s2 with heap:=h₁,toks:=s2.toks+([]:List (Str×Value)).length}:=I3.comp (s:={s2 with heap:=h3}) hN hS c1 c2 f3 (fun b hb=>by show b<h3.objs.size;rw[kJ];exact uv (j9 b hb)) (by simpa using lJ) lq;have kK:tn 0 h₁:=T.keep _ _ _ iK fun b _ o e=>lq b o (rT b o e);have loop:codeAny (model X.prog X.w) X.A (.compLoop (.ListComp elt [⟨tg,iter,ifs,0⟩] scope pos) 0 (.ref it) (.ref s2.heap.objs.size) (compEnvC scope cl h3.objs.size X.env)) (compPost (model X.prog X.w) X.A X.xe (some (assign (.Name x0 jz) X.env)) (fun _ s'=>SP X pins D0 .next s') (.ref s2.heap.objs.size) h3.objs.size) {s2 with heap:=h₁,toks:=s2.toks+([]:List (Str×Value)).length}:=by
    refine zx (fun n s'=>∃i σ' H',Inv (bL X N scope cl {s2 with heap:=h3} (upd H2 s2.heap.objs.size (.lst [])) fp pins) [] σ' H' s'/\tn i s'.heap/\(∀b∈fp,H' b=none)/\W i n σ' H') ?_ m0 ⟨0,_,_,I4,kK,fun b hb=>(f3 b hb).1,w0⟩;rintro n s5 ⟨i,σ5,H5,I5,gD,j8,w5⟩;have fw:∀{H':Hp},(∀b∈fp,H' b=none)->∀b∈fp,eZ (bL X N scope cl {s2 with heap:=h3} (upd H2 s2.heap.objs.size (.lst [])) fp pins) [] H' b:=fun{H'} hn b hb=>by
     obtain⟨_,q1,q2,q3,q4,q5⟩:=f3 b hb;refine⟨hn b hb,fun z=>?_,I4.ok.exfs b hb,.inl hb,fun x c e=>q4 x c (c1 x c e),fun p hp=>q5 p (by simpa[bL]using hp)⟩;have bf:b<h3.objs.size:=by rw[kJ];exact uv (j9 b hb)
     exact bF bf z
    rcases turn i n σ5 H5 w5 with⟨stop,qn⟩|⟨go,step⟩
    · refine ak (T.done (bL X N scope cl {s2 with heap:=h3} (upd H2 s2.heap.objs.size (.lst [])) fp pins) rfl rfl rfl hc i [] s5 σ5 H5 _ I5 (fw j8) gD stop) fun r s6 ⟨hr,I6⟩=>?_
      subst hr;obtain⟨m,hm,_⟩:=I6.loc;have u0:Un (bK X.stack) fp (upd H2 s2.heap.objs.size (.lst [])) H5 h3 s6.heap:=I6.base;have I7:Inv X pins σ H5 s6:=I3.oN (s':=s6) (ch:=fp) I6.os u0 I6.hok I6.bare fun b hb=>⟨(f3 b hb).2.2.2.1,(f3 b hb).2.1,(f3 b hb).2.2.2.2.1,(f3 b hb).2.2.2.2.2⟩;have hC:eZ X pins H5 h3.objs.size:=I3.jR (aD _) I6.free;show wpAny _ X.A (assign (.Name x0 jz) X.env (.ref s2.heap.objs.size)) _ _ s6;refine wpAny_assign_Name (vk I7 J9 HW sj (show RelV (.ref s2.heap.objs.size) (.ref s2.heap.objs.size)from rfl) (fun s8 I8 Hu=>?_) Io);obtain⟨a,sb,ha⟩:=Hu;have Jj:h3.objs.size≠a:=by
       rcases ha with rfl|ha
       ·exact hC.2.1
       ·exact fun z=>hC.2.2.2.2.1 x0 a ha z.symm
      refine⟨m,hm.sameBut sb Jj,fun h9 Hv=>⟨_,H5,?_,qn⟩⟩;exact I8.pJ (t':=s8.toks) (fp:=[h3.objs.size]) (fun b o hb e=>Hv.extBut b o (fun z=>hb (by simp[z])) e) fun b hb=>by rw[eK.mp hb];exact hC
    · refine ak (T.item (bL X N scope cl {s2 with heap:=h3} (upd H2 s2.heap.objs.size (.lst [])) fp pins) rfl rfl rfl hc i [] s5 σ5 H5 _ I5 (fw j8) gD go) fun r s6 ⟨u,hr,h6⟩=>?_
      subst hr;refine ak h6 fun _ s7 ⟨x,H7,I7,r7,y7,iJ,sX⟩=>?_;have ub:=I7.pinned (fw sX) (T.obj _ _ iJ);refine ak (hg _ _ _ _ _ _ s7 σ5 H7 x u _ ub r7 (step x H7 y7)) fun _ s8 ⟨σ8,H8,I8,q8⟩=>?_;refine ak (ht _ _ _ _ _ _ s8 σ8 H8 _ I8 q8) fun ok s9 ⟨H9,I9,q9⟩=>?_;have again:∀{s':M6}{σ7:St}{H7:Hp},Inv (bL X N scope cl {s2 with heap:=h3} (upd H2 s2.heap.objs.size (.lst [])) fp pins) ([]++jB fp s7.heap) σ7 H7 s'->(∃m',m'<n/\W (i+1) m' σ7 H7)->∃m,m<n/\∃i σ' H',Inv (bL X N scope cl {s2 with heap:=h3} (upd H2 s2.heap.objs.size (.lst [])) fp pins) [] σ' H' s'/\tn i s'.heap/\(∀b∈fp,H' b=none)/\W i m σ' H':=fun{s' σ7 H7} J7 n7=>by obtain⟨m',hm,w7⟩:=n7;refine⟨m',hm,i+1,σ7,H7,J7.kF,T.keep _ _ _ iJ fun b hb o e=>(J7.pin (b,o) (eM _ (eM _ (jL hb e)))).1,fun b hb=>?_,w7⟩;obtain⟨o,e,d⟩:=T.obj _ _ iJ b hb;exact(J7.pin (b,o) (eM _ (eM _ (jL hb e)))).2.1
      cases ok with |false=>rw[aC ba]at q9⊢;exact again I9 q9 |true=>rw[aH rfl]at q9⊢;refine ak (he _ _ _ _ _ _ s9 σ8 H9 _ I9 q9) fun yv cJ ⟨y,cz,kc,qQ,ys,sf,hz,kE⟩=>?_;refine ak (rL _ cJ σ8 cz (.ref s2.heap.objs.size) [y] (.ref s2.heap.objs.size) [yv] (fun _ dc=>∃m',m'<n/\W (i+1) m' σ8 dc) kc rfl (.cons qQ .nil) ⟨_,ys,y,rfl,rfl,sf,hz,kE⟩) fun _ fg ⟨v11,dc,uc,DX,jx⟩=>?_;exact again uc jx
  exact codeAny_compStart_list loop (T.self _ 0 _ _ _ kK loop)
theorem zF:∀{zs:List Str}{us:List Value},Vals (zs.map V.str) us->CarriedAll us (zs.map PyData.str) |[],_,.nil=>.nil |z::zs,_,.cons q r=>by obtain⟨t,rfl⟩:=(show∃t,_=Value.str z t from q);exact .cons (.str z t) (zF r)
section
variable {X:Cx}
end
end L2
namespace L2
open PySem PySem.Spec PyProof.Rows
section
variable {X:Cx}{pins:List (Addr×Obj)}{σ:St}{H:Hp}{s:M6}
end
end L2
namespace L2
open PySem PySem.Spec PyProof.Rows
section
variable {X:Cx}
end
end L2
namespace L2
open PySem PySem.Spec PyProof.Rows
section
variable {prog:M7}{w:World}{A:M9}{E:Value->M6->Prop}{s:M6}
end
end L2
namespace L2
open PySem PySem.Spec PyProof.Rows
theorem E2(K:M5){X:Cx}(hK:X.K=K){a:Expr}{ta:TE}(ha:PE X a ta)(he:∀whole,isTrue a X.env whole=(do let v<-whole;standAt a.pos;holding [v] (truthy v)):=by intro _;rfl): PT X a (fun σ H Q=>ta σ H fun x H'=>∃k,u5 K x H' k/\Q k H'):=by subst hK;exact E1 ha he
inductive Bf(K:M5)(x:V)(y:V)(H:Hp)(Q:VK):Prop |mk (a:_)(b:_)(xs:_)(ys:_)(h0:x= .ref a)(h1:y= .ref b)(h2:az K H a xs)(h3:az K H b ys)(h4:xs.length+ys.length<=sizeLine)(h5:∀c H',af H H'->az K H' c (xs++ys)->Q (.ref c) H'):Bf K x y H Q
def DV(K:M5):R2:=fun x y H Q=>Bf K x y H Q
section
variable {X:Cx}
theorem zE(K:M5)(hK:X.K=K):aQ X (binaryOp .Add) (DV K):=by
 subst hK;intro pins s σ H x y v u Q I rx ry h;obtain⟨a,b,xs,ys,rfl,rfl,ha,hb,hz,q⟩:=h;cases rx;cases ry;obtain⟨its,r1,p1,_⟩:=I.tuple ha;obtain⟨lD,r2,p2,_⟩:=I.tuple hb;by_cases e0:xs=[]
 · subst e0
   have i0:its=[]:=r1.rC.mpr rfl;subst i0;obtain⟨⟨cls,dd,data,sl⟩,ho,hc,n,hd⟩:=id p1;obtain⟨⟨zA,jW,data2,ju⟩,gn,cq,n2,hd2⟩:=id p2;simp only at hc hd cq hd2;subst hc hd cq hd2;exact concat_meets ⟨_,ho,rfl⟩ ⟨_,gn,rfl⟩ noFill_tuple_add seq_tuple_add BB BC (BD _ _) (tuple_addW0 a b _ lD.toArray n n2 dd jW sl ju (by simp)) ⟨ho,gn,⟨.ref b,H,I,rfl,q _ _ (af.refl H) hb⟩⟩
 · refine HT.Ke p1 p2 (fun z=>e0 (r1.rC.mp z)) (fun z=>⟨.ref a,H,I,rfl,?_⟩) (fun z=>?_) (by rw[<-r1.length,<-r2.length];exact hz)
   · have e1:ys=[]:=r2.rC.mp z
     subst e1;exact q _ _ (af.refl H) (by rw[jn];exact ha)
   · have hf:H s.heap.objs.size=none:=I.hok.fresh (aD _)
     have nw:Nw H (upd H s.heap.objs.size (.tup (xs++ys))) s.heap.objs.size (.tup (xs++ys)):=.of hf;refine⟨.ref s.heap.objs.size,_,I.laid (t':=s.toks) (o:=.tup (xs++ys)) (fun b ob q=>bw _ q) (aD _) ?_,rfl,q _ _ nw.same (az.of nw.at')⟩;exact⟨by rw[de];exact hz,_,r1.append r2,IsTup.new _ _⟩
end
theorem K5(xs:List V):cN xs none (some (-1))=xs.take (xs.length-1):=by
 unfold cN;have e:=HT.oK (-1) xs.length xs.length;rw[HT.qt];have e2:HT.aI xs.length xs.length (some (-1))=xs.length-1:=by simp at e;omega
 rw[e2];simp
section
variable {X:Cx}
open PyProof
end
end L2
namespace L2
open PySem PySem.Spec PyProof.Rows
section
variable {K:M5} {H H' H2:Hp}
end
end L2
namespace L2
open PySem PySem.Spec PyProof.Rows
section
variable {X:Cx} {tg:Expr}
end
end L2
namespace L2
open PySem PySem.Spec PyProof.Rows
section
variable {P:M7}{w:World}{K:M5}{mg:Str->Option Value}{base:Heap}
end
section
variable {X:Cx}{k:Nat}{x m:Str}{C:Addr}{p pos apos:Pos}{o e:Expr}{es:List Expr}{t:TA}{ta:TE}{sp:Sp}
end
section
variable {K:M5} {H H' H2:Hp}
end
end L2
namespace L2
open PySem PySem.Spec PyProof.Rows
section
variable {X:Cx}
end
theorem yH{K:M5}{mg:Str->Option Value}{x z:Str}{t:Tok}{h:Heap}(X:K.In h)(G:h.Ns mainGlobals mg)(a:PySem.W.nsIn K mainGlobals x=some (some (.str z t))):GV mg x (.str z):=⟨_,km X G a,t,rfl⟩
end L2
set_option exponentiation.threshold 6000
namespace L2
open PySem PySem.Spec PyProof.Rows
section
variable {X:Cx}
theorem tH:bM X (.type "str") (fun xs H Q=>(∃i,xs=[.int i]/\i.natAbs.log2<1920/\Q (.str (toString i)) H)\/∃z,xs=[.str z]/\Q (.str z) H):=by
 intro pins s σ H xs us Q I r h;rcases h with⟨i,rfl,hz,q⟩|⟨z,rfl,q⟩
 · obtain⟨u,rfl,t,rfl⟩:=vals1 r
   exact PySem.P.str_of_int hz ⟨.str _,H,I.tok _,⟨_,rfl⟩,q⟩
 · obtain⟨u,rfl,t,rfl⟩:=vals1 r
   exact PySem.P.str_of_str ⟨.str _,H,I,⟨_,rfl⟩,q⟩
theorem rV(sep:Str){B:Nat}:∀(zs:List Str),(∀z∈zs,z.length<=B)->(Txt.join sep zs).length<=zs.length*(B+sep.length)
  |[],_=>bE _ |a::r,h=>by
    show(Builtin.Str.glued sep (a::r)).length<=_;rw[kj,len_join_cons];have:=sumLen_le_of_bound id B (a::r) h;rw[List.map_id]at this;rw[ft]at this⊢;have e1:(r.length+1)*(B+sep.length)=B*(r.length+1)+(r.length*sep.length+sep.length):=by rw[Nat.mul_add,Nat.mul_comm (r.length+1) B,Nat.add_mul r.length 1 sep.length,Nat.one_mul]
    omega
inductive B0(K:M5)(x:V)(vs:List V)(H:Hp)(Q:VK):Prop |mk (sep:Str)(l:Addr)(zs:List Str)(h0:x= .str sep)(h1:vs=[.ref l])(h2:aa K H l (zs.map V.str))(h3:(∀z∈zs,z.length<=4000))(h4:sep.length<=8)(h5:zs.length<=1000)(h6:Q (.str (Txt.join sep zs)) H):B0 K x vs H Q
def wL(K:M5):V->List V->Hp->VK->Prop:=fun x vs H Q=>B0 K x vs H Q
theorem Gb(K:M5)(hK:X.K=K):m9 X "str.join" (wL K):=by subst hK;intro pins s σ H x vs v us Q I rx rv h;obtain⟨sep,l,zs,rfl,rfl,hl,hz,hs,hn,q⟩:=h;obtain⟨t,rfl⟩:=rx;obtain⟨u,rfl,ru⟩:=vals1 rv;cases(show u=Value.ref l from ru);obtain⟨its,r,pl,_⟩:=I.list hl;have Hr:=sumLen_le_of_bound id 4000 zs hz;rw[List.map_id]at Hr;have h1:zs.length*sep.length<=1000*8:=Nat.mul_le_mul hn hs;refine join_list (ys:=zs) pl.isList (StrsAre.of_carried (zF r)) (by omega) fun t' k=>?_;exact⟨.str _,H,I.tok _,⟨_,rfl⟩,q⟩
theorem kY(K:M5)(h:X.K=K){o e:Expr}{to:TE}{t:TA}{apos aU:Pos}(ho:PE X o to)(ha:PA X [e] t) (fO:attributeBase o "join" X.env (eval o X.env)=eval o X.env:=by rfl) (fN:((backTo aU (starEach [e] X.env)).all (fun x=>!x.1)&&(backToKw aU (keywordEach [] X.env)).all (fun x=>x.1.isSome) &&decide ([e].length+([]:List Keyword).length+(if([]:List Keyword).isEmpty then 0 else 1)<30))=true:=by rfl) (fL:(apos.endLine==aU.line)=true:=by rfl)(hs:starEach [e] X.env=(false,eval e X.env)::starEach [] X.env:=by rfl)(fJ:(backTo aU (starEach [] X.env)).any (·.1)=false:=by rfl): PE X (.Call (.Attribute o "join" apos) [e] [] aU) (jr K "str" (wL K) to t):=by subst h;exact kX um PySem.F.slot_str_join PySem.F.type_str_join (Gb X.K rfl) ho ha fO fN fL hs fJ
theorem uW{i:Int}(h:i.natAbs<10^40):(Str.ofString (toString i)).length<=41:=by rw[Bz];exact Bw (k:=40) (by decide) h
theorem rO{i:Int}(h:i.natAbs<10^40):i.natAbs.log2<1920:=by
 by_cases h0:i.natAbs=0
 ·rw[h0];decide
 ·exact(Nat.log2_lt h0).mpr (Nat.lt_trans h (by decide))
theorem zG:∀(l:List (Str×Tok)),Vals ((l.map (·.1)).map V.str) (strValues l) |[]=>.nil |(z,t)::l=>.cons ⟨t,rfl⟩ (zG l)
theorem split_len(x y:Str):(Txt.split x y).length<=x.length+2:=by
 unfold Txt.split;split
 ·simp
 · split
   ·simp
   · have e1:=StrLaws.occ_length_le x y 0 x.length (x.length+1)
     rw[length_partsBetween];omega
inductive AR(x:V)(vs:List V)(H:Hp)(Q:VK):Prop |mk (z y:Str)(h0:x= .str z)(h1:vs=[.str y])(h2:(y.length==0)=false)(h3:z.length+2<=sizeLine)(h4:∀p H',Nw H H' p (.lst ((Txt.split z y).map V.str))->Q (.ref p) H'):AR x vs H Q
def wJ:V->List V->Hp->VK->Prop:=fun x vs H Q=>AR x vs H Q
theorem G9:m9 X "str.split" wJ:=by
 intro pins s σ H x0 vs v us Q I rx rv h;obtain⟨x,y,rfl,rfl,hy,hz,q⟩:=h;obtain⟨t,rfl⟩:=rx;obtain⟨u0,rfl,u,rfl⟩:=vals1 rv;have key:∀(l:List (Str×Tok))(k:Nat),l.map (·.1)=Txt.split x y->EP X pins σ Q (.ref s.heap.objs.size) {s with toks:=k,heap:=s.heap.push {cls:=.type "list",data:=.seq (strValues l).toArray}}:=fun l k e=>by have nw:Nw H (upd H s.heap.objs.size (.lst ((Txt.split x y).map V.str))) s.heap.objs.size (.lst ((Txt.split x y).map V.str)):=.of (I.hok.fresh (aD _));refine⟨.ref s.heap.objs.size,_,I.laid (t':=k) (o:=.lst ((Txt.split x y).map V.str)) (fun b ob q=>bw _ q) (aD _) ?_,rfl,q _ _ nw⟩;have:=split_len x y;exact⟨by rw[aF];omega,_,0,by rw[<-e];exact zG l,cw _ rfl⟩
 cases h1:(decide (x.length<y.length)||decide (Builtin.Str.strKind x<Builtin.Str.strKind y))
 · cases hf:(Builtin.Str.occurrences x y 0 x.length (x.length+1)).isEmpty
   · have e1:=StrLaws.occ_length_le x y 0 x.length (x.length+1)
     refine call_meets F.slot_str_split (mi _ _ _) F.entry_str_split (F.args_str_split_2 _ _) (meets_str_split_sep x y t u h1 hy hf (by omega) (by rw[length_partsBetween];omega)) ?_;show wants _ _ _ {s with toks:=_,heap:=s.heap.push {cls:=.type "list",data:=.seq (strsFrom s.toks (Builtin.Str.partsBetween x (Builtin.Str.occurrences x y 0 x.length (x.length+1)) y.length)).toArray}};rw[strsFrom_eq];exact key (numbered s.toks _) _ ((numbered_texts _ _).trans ((aC (Bv h1)).trans (aC (Bv hf))).symm)
   ·exact call_meets F.slot_str_split (mi _ _ _) F.entry_str_split (F.args_str_split_2 _ _) (meets_str_split_not_found x y t u h1 hy hf) (key [(x,t)] s.toks ((aC (Bv h1)).trans (aH hf)).symm)
 ·exact call_meets F.slot_str_split (mi _ _ _) F.entry_str_split (F.args_str_split_2 _ _) (meets_str_split_cannot_occur x y t u h1) (key [(x,t)] s.toks (aH h1).symm)
theorem jD(K:M5)(h:X.K=K){o e:Expr}{to:TE}{t:TA}{apos aU:Pos}(ho:PE X o to)(ha:PA X [e] t) (fO:attributeBase o "split" X.env (eval o X.env)=eval o X.env:=by rfl) (fN:((backTo aU (starEach [e] X.env)).all (fun x=>!x.1)&&(backToKw aU (keywordEach [] X.env)).all (fun x=>x.1.isSome) &&decide ([e].length+([]:List Keyword).length+(if([]:List Keyword).isEmpty then 0 else 1)<30))=true:=by rfl) (fL:(apos.endLine==aU.line)=true:=by rfl)(hs:starEach [e] X.env=(false,eval e X.env)::starEach [] X.env:=by rfl)(fJ:(backTo aU (starEach [] X.env)).any (·.1)=false:=by rfl): PE X (.Call (.Attribute o "split" apos) [e] [] aU) (jr K "str" wJ to t):=by subst h;exact kX um PySem.F.slot_str_split PySem.F.type_str_split G9 ho ha fO fN fL hs fJ
inductive AY(x:V)(vs:List V)(H:Hp)(Q:VK):Prop |mk (z y:Str)(h0:x= .str z)(h1:vs=[.str y])(h3:z.length<=sizeLine)(h4:Q (.str (Txt.removeprefix z y)) H):AY x vs H Q
def wK:V->List V->Hp->VK->Prop:=fun x vs H Q=>AY x vs H Q
theorem Ga:m9 X "str.removeprefix" wK:=by intro pins s σ H x0 vs v us Q I rx rv h;obtain⟨x,y,rfl,rfl,hz,q⟩:=h;obtain⟨t,rfl⟩:=rx;obtain⟨u0,rfl,u,rfl⟩:=vals1 rv;exact SC.removeprefix (fun t' k=>⟨.str _,H,I.kept (t':=k) (fun _ _ e=>e),⟨_,rfl⟩,q⟩) (hsz:=hz)
theorem Ep(K:M5)(h:X.K=K){o e:Expr}{to:TE}{t:TA}{apos aU:Pos}(ho:PE X o to)(ha:PA X [e] t) (fO:attributeBase o "removeprefix" X.env (eval o X.env)=eval o X.env:=by rfl) (fN:((backTo aU (starEach [e] X.env)).all (fun x=>!x.1)&&(backToKw aU (keywordEach [] X.env)).all (fun x=>x.1.isSome) &&decide ([e].length+([]:List Keyword).length+(if([]:List Keyword).isEmpty then 0 else 1)<30))=true:=by rfl) (fL:(apos.endLine==aU.line)=true:=by rfl)(hs:starEach [e] X.env=(false,eval e X.env)::starEach [] X.env:=by rfl)(fJ:(backTo aU (starEach [] X.env)).any (·.1)=false:=by rfl): PE X (.Call (.Attribute o "removeprefix" apos) [e] [] aU) (jr K "str" wK to t):=by subst h;exact kX um PySem.F.slot_str_removeprefix PySem.F.type_str_removeprefix Ga ho ha fO fN fL hs fJ
inductive B8(xs:List V)(H:Hp)(Q:VK):Prop |mk (z:Str)(n:Int)(h0:xs=[.str z])(h1:PySem.intText? z=some n)(h2:z.length<=640)(h3:Q (.int n) H):B8 xs H Q
theorem zI:bM X (.type "int") (fun xs H Q=>B8 xs H Q):=by intro pins s σ H xs us Q I r h;obtain⟨z,n,rfl,hn,hl,q⟩:=h;obtain⟨u,rfl,t,rfl⟩:=vals1 r;exact PySem.W.KIN.call_text hn hl ⟨.int _,H,I.tok _,⟨_,rfl⟩,q⟩
end
section
variable {X:Cx}
inductive Bo(K:M5)(t1 t2:TG)(v:V)(σ:St)(H:Hp)(Q:St->Hp->Prop):Prop |mk (a:Addr)(x:V)(xs:List V)(h0:v= .ref a)(h1:aa K H a (x::xs))(h2:xs.length<=16000)(h3:∀p H',Nw H H' p (.lst xs)->t1 x σ H' fun σ1 H1=>t2 (.ref p) σ1 H1 Q):Bo K t1 t2 v σ H Q
def Jp(K:M5)(t1 t2:TG):TG:=fun v σ H Q=>Bo K t1 t2 v σ H Q
theorem Eg(K:M5)(hK:X.K=K){e1 e2:Expr}{k:Nat}{t1 t2:TG}{sp pos:Pos}(hc:X.calm=true)(h1:PG X e1 t1)(h2:PG X e2 t2) (hs:assignEach [e1,.Starred e2 sp] X.env=[(false,assign e1 X.env),(true,assign e2 X.env)]:=by rfl):PG X (.Tuple [e1,.Starred e2 sp] k pos) (Jp K t1 t2):=by subst hK;intro pins s σ H v u Q I r hw;obtain⟨a,x,xs,e,hq,hl,hw⟩:=hw;subst e;cases r;obtain⟨its,rv,ht,hz⟩:=I.list hq;have hh:X.A.handled=none:=I.ok.hd hc;have lN:=ht.isList;cases rv with |cons r1 rr=>
    rename_i ux cR;have hlen:=rr.length;have bf:a≠s.heap.objs.size:=by obtain⟨o,ho,_⟩:=lN;exact bF (aN ho)
    rw[assign_Tuple];refine ag (ke ?_);unfold unpack;rw[hs];refine ag (dN ?_);show wpAny _ _ (unpackItems (.ref a) 2 (some 1)) _ _ _;unfold unpackItems;refine ag ?_;unfold notIterableAtAll;refine ag (wpAny_specialOf lN.typeIs slot_list_iter.lookup ?_);refine aM ?_;simp only[BR,if_false];refine ag (dN (me lN ?_));have sz:(ux::cR).toArray.size=xs.length+1:=by rw[bC,ft,hlen]
    refine ag (dN (PySem.W.kun_draw bf 1 0 _ _ ⟨_,cw _ rfl,rfl,rfl⟩ (lN.push _) (by omega) fun h₁ sE yi=>?_));have yq:h₁.IsList a (ux::cR).toArray:=(lN.push _).extBut yi.extBut bf;rw[Nat.zero_add]at sE;have HX:=sE;obtain⟨oi,cY,_⟩:=HX;have HJ:=yq;obtain⟨ol,gM,_⟩:=HJ;rw[aC (by simp)];refine ag (dN (PySem.W.kun_collect (s:={s with heap:=h₁}) (T:="list_iterator") (.inr (.inr (.inl rfl))) (Walks.list (A:=X.A.in1) hh s.heap.objs.size a bf (ux::cR).toArray) (fun j u st=>st.1.typeIs) (k:=1) (by omega) ⟨sE,yq⟩ (aN cY) (aN gM) (fun h₂ tk hk=>?_) (by rw[p4];omega)));have ea:(ux::cR).toArray.toList.drop 1=cR:=by simp
    rw[ea];show wpAny _ _ (if cR.length<2-1-1 then _ else _) _ _ _;rw[aC (by omega)];show wpAny _ _ (newList (cR.take (cR.length-(2-1-1)))>>=fun d=>pure ((ux::cR).toArray.toList.take 1++[d]++cR.drop (cR.length-(2-1-1)))) _ _ _;have eb:cR.take (cR.length-(2-1-1))=cR:=iE (by omega);have ec:cR.drop (cR.length-(2-1-1))=[]:=List.drop_eq_nil_of_le (by omega);rw[eb,ec];have he:Heap.ExtBut s.heap.objs.size s.heap h₂:=fun b o hb e=>hk b o hb (yi.extBut b o hb (bw _ e));refine ag (wpAny_newList (s:={s with heap:=h₂,toks:=tk}) (aM ?_) ?_)
    · have I2:Inv X pins σ H {s with heap:=h₂,toks:=tk}:=I.kept (t':=tk) fun b o e=>he b o (bF (aN e)) e
      have nw:Nw H (upd H h₂.objs.size (.lst xs)) h₂.objs.size (.lst xs):=.of (I2.hok.fresh (aD _));have I3:Inv X pins σ (upd H h₂.objs.size (.lst xs)) {s with heap:=h₂.push {cls:=.type "list",data:=.seq cR.toArray},toks:=tk}:=I2.laid (t':=tk) (o:=.lst xs) (fun b ob q=>bw _ q) (aD _) ⟨by rw[ft]at hz;omega,cR,0,rr,cw _ rfl⟩;show wpAny _ _ (assignInOrder (assign e1 X.env::[assign e2 X.env]) (ux::[Value.ref h₂.objs.size])) _ _ _;refine assignInOrder_cons (ak (h1 pins _ σ _ _ _ _ I3 r1 (hw _ _ nw)) fun _ s1 ⟨σ1,H1,I1,q1⟩=>?_);refine assignInOrder_cons (ak (h2 pins s1 σ1 H1 (.ref h₂.objs.size) _ _ I1 rfl q1) fun _ s2 ⟨σ2,H2,I2,q2⟩=>?_);exact assignInOrder_nil ⟨σ2,H2,I2,q2⟩
    ·rw[<-hlen,p4];omega
end
end L2
namespace L2
open PySem PySem.Spec PyProof.Rows
def jg(z:Str):It:=⟨fun i _=>i<z.cps.size,fun i H x H'=>H'=H/\∃c,z.cps.toList[i]? =some c/\x= .str ⟨#[c]⟩,fun i _=>z.cps.size<=i⟩
theorem Cf{P:M7}{w:World}{K:M5}{tg:Expr}(it:Addr)(z:Str)(t:Tok)(ty:String)(sk:["enumerate","zip","dict_itemiterator","dict_reverseitemiterator","odict_iterator","itertools.zip_longest","itertools.pairwise"].contains ty=false) (W:∀A':M9,A'.handled=none->Walks P w A' it [it] [it] z.cps.size (SignAt z) (fun i h=>h.IsStrIter it ty z t i)) (self:∀(A:M9)(i:Nat)(s:M6)(Q:Value->M6->Prop)(E:Value->M6->Prop),s.heap.IsStrIter it ty z t i->Q (.ref it) s->wpAny (model P w) A (pyIter (.ref it)) Q E s): Turn P w K tg (jg z) [it] it (fun i h=>h.IsStrIter it ty z t i/\i<=z.cps.size) where
  mem:=by simp
  obj:=fun i h st b hb=>by
   have e:b=it:=by simpa using hb
   subst e;obtain⟨⟨o,e,c,d⟩,_⟩:=st;exact⟨o,e,fun v z=>by rw[d]at z;cases z⟩
  keep:=fun i h h' st k=>⟨let⟨o,e,r⟩:=st.1;⟨o,k it (by simp) o e,r⟩,st.2⟩
  item:=by intro X hP hw hK hc i pins s σ H E I hf st hg;subst hP hw hK;obtain⟨f0,f1,f2,f3,f4,f5⟩:=hf it (by simp);refine(W X.A (I.ok.hd hc)).item i s _ _ hg st.1 fun v h' tk hv dQ kk=>?_;obtain⟨c,u,ec,rfl⟩:=hv;have I1:Inv X pins σ H {s with heap:=h',toks:=tk}:=I.turned (fun b o hb e=>kk b o (by simpa using hb) e) f0 f1 f3 f4 f5;obtain⟨o,e,cl,d⟩:=id dQ;exact⟨_,rfl,ou (s:={s with heap:=h',toks:=tk}) e cl d sk ⟨.str ⟨#[c]⟩,H,I1,⟨u,rfl⟩,⟨rfl,c,by simpa using ec,rfl⟩,⟨dQ,hg⟩,fun b hb=>(hf b hb).1⟩⟩
  done:=by intro X hP hw hK hc i pins s σ H E I hf st hg;subst hP hw hK;obtain⟨f0,f1,f2,f3,f4,f5⟩:=hf it (by simp);obtain⟨st,hle⟩:=st;have ei:i=z.cps.size:=Nat.le_antisymm hle hg;subst ei;exact(W X.A (I.ok.hd hc)).done s _ _ st fun h' tk eb=>⟨rfl,I.turned (fun b o hb e=>eb b o (by simpa using hb) e) f0 f1 f3 f4 f5⟩
  self:=fun A i s Q E st h=>self A i s Q E st.1 h
section
variable {X:Cx} {tg:Expr}
inductive Bj(R:It->Hp->Prop)(x:V)(H1:Hp):Prop |mk (z:_)(h0:x= .str z)(h1:R (jg z) H1):Bj R x H1
def Hi(tl:TE):TI:=fun σ H R=>tl σ H fun x H1=>Bj R x H1
theorem kS{l:Expr}{tl:TE}(hl:PE X l tl):PI X tg l (Hi tl):=by
 intro pins s σ H R I h;refine ak (hl pins s σ H _ I h) fun v s1 ⟨x,H1,I1,r1,q1⟩=>?_;obtain⟨z,e,q⟩:=q1;subst e;obtain⟨t,rfl⟩:=r1;have fin:∀ty,["enumerate","zip","dict_itemiterator","dict_reverseitemiterator","odict_iterator","itertools.zip_longest","itertools.pairwise"].contains ty=false->(∀A':M9,A'.handled=none->Walks X.prog X.w A' s1.heap.objs.size [s1.heap.objs.size] [s1.heap.objs.size] z.cps.size (SignAt z) (fun i h=>h.IsStrIter s1.heap.objs.size ty z t i))->(∀(A:M9)(i:Nat)(s:M6)(Q:Value->M6->Prop)(E:Value->M6->Prop),s.heap.IsStrIter s1.heap.objs.size ty z t i->Q (.ref s1.heap.objs.size) s->wpAny (model X.prog X.w) A (pyIter (.ref s1.heap.objs.size)) Q E s)->u7 X pins σ tg R (.ref s1.heap.objs.size) {s1 with heap:=s1.heap.push {cls:=.type ty,data:=.fields #[.str z t,.int 0 0]}}:=fun ty h1 h2 h3=>by
   refine⟨s1.heap.objs.size,[s1.heap.objs.size],_,_,H1,rfl,I1.kept (t':=s1.toks) fun b o e=>bw _ e,Cf _ z t ty h1 h2 h3,⟨⟨_,cw _ rfl,rfl,rfl⟩,bE _⟩,fun b hb=>?_,q⟩;have e:b=s1.heap.objs.size:=by simpa using hb
   subst e;exact I1.jR (aD _) (I1.hok.fresh (aD _))
 cases ha:z.cps.all (·<128)
 ·exact wpAny_pyIter_wide ha (fin "str_iterator" (by decide) (fun A' hA=>Walks.strWide hA _ z t) (fun _ _ _ _ _ st h=>wpAny_pyIter_striter_wide st h))
 ·exact wpAny_pyIter_ascii ha (fin "str_ascii_iterator" (by decide) (fun A' hA=>Walks.strAscii hA _ z t) (fun _ _ _ _ _ st h=>wpAny_pyIter_striter_ascii st h))
theorem tE{z:Str}{f:Nat->Bool}{te:TE}{Q:VK}{D:Addr}{H H0:Hp}(rest:St)(nw:Nw H H0 D (.lst []))(hz:z.length<=1000) (hs:∀(c:Nat)(H2:Hp)(Q':VK),c∈z.cps.toList->af H H2->(∀H3,af H2 H3->Q' (.bl (f c)) H3)->te (some (.str ⟨#[c]⟩)::rest) H2 Q') (hq:∀H',af H H'->H' D=some (.lst ((z.cps.toList.map f).map V.bl))->Q (.ref D) H'):gb (jg z) (dY 0) gf te Q D (none::rest) H0:=by
  have hl:z.cps.toList.length=z.cps.size:=by simp
  refine zw (xs:=z.cps.toList.map fun c=>V.str ⟨#[c]⟩) (bs:=z.cps.toList.map f) rest nw (by simp) (by simpa[Str.length]using hz) ?_ ?_ ?_ hq
  · intro i x H2 ex s2
    rw[cg]at ex;cases ec:z.cps.toList[i]? with |none=>rw[ec]at ex;cases ex |some c=>rw[ec]at ex;cases ex;refine⟨by have:=(dA.mp ec).1;show i<z.cps.size;omega,fun y H3 ⟨e3,c',zb,e⟩=>⟨e3,?_⟩⟩;rw[ec]at zb;cases zb;exact e
  · intro H2 s2
    show z.cps.size<=(z.cps.toList.map _).length;rw[aF,hl];exact aD _
  · intro i x b H2 Q' ex eb s2 j4
    rw[cg]at ex eb;cases ec:z.cps.toList[i]? with |none=>rw[ec]at ex;cases ex |some c=>rw[ec]at ex eb;cases ex;cases eb;exact hs c H2 Q' (eL ec) s2 j4
theorem xg:aQ X (compareOp .LtE) (fun x y H Q=>∃i j,x= .str i/\y= .str j/\Q (.bl (!(decide (j.cps.toList<i.cps.toList)))) H):=by intro pins s σ H x y v u Q I rx ry h;obtain⟨i,j,rfl,rfl,q⟩:=h;obtain⟨t,rfl⟩:=rx;obtain⟨t',rfl⟩:=ry;exact PySem.P.le_str (bj I q rfl)
theorem xh:aQ X (compareOp .In) (fun x y H Q=>∃c j,x= .str ⟨#[c]⟩/\y= .str j/\Q (.bl (decide (c∈j.cps.toList))) H):=by intro pins s σ H x y v u Q I rx ry h;obtain⟨c,j,rfl,rfl,q⟩:=h;refine EB pins s σ H _ _ v u Q I rx ry ⟨_,_,rfl,rfl,?_⟩;rw[PySem.StrLaws.found_one];exact q
inductive B9(K:M5)(x:V)(y:V)(H:Hp)(Q:VK):Prop |mk (p:_)(xs:_)(d:_)(ds:_)(h0:y= .ref p)(h1:az K H p xs)(h2:RD K H x d)(h3:aj K H xs ds)(h4:SeqAt.shaped d=true)(h5:(∀e∈ds,SeqAt.shaped e=true))(h6:Q (.bl (ds.any fun e=>PyData.eqv e d)) H):B9 K x y H Q
def DS(K:M5):R2:=fun x y H Q=>B9 K x y H Q
theorem Hg(K:M5)(hK:X.K=K)(hu:X.A.units+65<cLine):aQ X (compareOp .In) (DS K):=by
 subst hK;intro pins s σ H x y v u Q I rx ry h;obtain⟨p,xs,d,ds,rfl,hx,hd,ic,sd,pX,q⟩:=h;cases ry;obtain⟨its,r,pl,hz⟩:=I.tuple hx;obtain⟨k1,k2⟩:=t9 I hu rx hd sd r ic pX;refine SeqAt.in_tupleAt (gP s.heap d) (show s.heap.IsTuple p its.toArray from pl) (fun w hw=>k1 w (by simpa using hw)) ⟨.bl _,H,I,rfl,?_⟩;have e:its.toArray.any (gP s.heap d)=ds.any fun e=>PyData.eqv e d:=by rw[<-k2];simp
 rw[e];exact q
theorem E9(lo hi:Option Int)(n:Nat):(Builtin.Str.strSliceIndices lo hi 1 n).length<=n:=by unfold Builtin.Str.strSliceIndices PySem.sliceRange;simp only[show((1:Int)>0)=True from by simp,iC,aF,List.length_range];rcases lo with _|lo<;>rcases hi with _|hi<;>simp only<;>(repeat' split)<;>omega
theorem vM(a c:Nat):(!(decide ([c]<[a])))=decide (a<=c):=by rw[dB];simp[List.cons_lt_cons_iff]
end
end L2
namespace L2
open PySem PySem.Spec PyProof.Rows
section
variable {prog:M7}{w:World}{A:M9}{E:Value->M6->Prop}{s:M6}
end
section
variable {X:Cx}
inductive AQ(x:V)(vs:List V)(H:Hp)(Q:VK):Prop |mk (z y:Str)(h0:x= .str z)(h1:vs=[.str y])(h4:Q (.bl (Txt.startswith z y)) H):AQ x vs H Q
def wI:V->List V->Hp->VK->Prop:=fun x vs H Q=>AQ x vs H Q
theorem G8:m9 X "str.startswith" wI:=by intro pins s σ H x0 vs v us Q I rx rv h;obtain⟨x,y,rfl,rfl,q⟩:=h;obtain⟨t,rfl⟩:=rx;obtain⟨u0,rfl,u,rfl⟩:=vals1 rv;exact SC.startswith ⟨.bl _,H,I,rfl,q⟩
theorem Eo(K:M5)(h:X.K=K){o e:Expr}{to:TE}{t:TA}{apos aU:Pos}(ho:PE X o to)(ha:PA X [e] t) (fO:attributeBase o "startswith" X.env (eval o X.env)=eval o X.env:=by rfl) (fN:((backTo aU (starEach [e] X.env)).all (fun x=>!x.1)&&(backToKw aU (keywordEach [] X.env)).all (fun x=>x.1.isSome) &&decide ([e].length+([]:List Keyword).length+(if([]:List Keyword).isEmpty then 0 else 1)<30))=true:=by rfl) (fL:(apos.endLine==aU.line)=true:=by rfl)(hs:starEach [e] X.env=(false,eval e X.env)::starEach [] X.env:=by rfl)(fJ:(backTo aU (starEach [] X.env)).any (·.1)=false:=by rfl): PE X (.Call (.Attribute o "startswith" apos) [e] [] aU) (jr K "str" wI to t):=by subst h;exact kX um PySem.F.slot_str_startswith PySem.F.type_str_startswith G8 ho ha fO fN fL hs fJ
end
theorem Ju{z:Str}{g:TG}{tb:TS}{D:Ends}{σ:St}{H:Hp}(Pv:Nat->St->Hp->Prop)(h0:Pv 0 σ H) (hs:∀i c σ H,z.cps.toList[i]? =some c->Pv i σ H->g (.str ⟨#[c]⟩) σ H fun σ2 H2=>tb {D with nx:=Pv (i+1),ct:=Pv (i+1),bk:=D.nx} σ2 H2)(hd:∀σ H,Pv z.cps.size σ H->D.nx σ H): ∃W:Nat->Nat->St->Hp->Prop,(∃m,W 0 m σ H)/\∀i m σ H,W i m σ H->((jg z).stop i H/\D.nx σ H)\/((jg z).go i H/\∃N:St->Hp->Prop,(∀σ' H',N σ' H'->∃m',m'<m/\W (i+1) m' σ' H')/\∀x H',(jg z).yld i H x H'->g x σ H' fun σ2 H2=>tb {D with nx:=N,ct:=N,bk:=D.nx} σ2 H2):=by
  refine⟨fun i m σ H=>m=z.cps.size-i/\i<=z.cps.size/\Pv i σ H,⟨z.cps.size,by simp,bE _,h0⟩,?_⟩;rintro i m σ H ⟨rfl,hi,p⟩;by_cases bf:i<z.cps.size
  · refine .inr ⟨bf,Pv (i+1),fun σ' H' q=>⟨z.cps.size-(i+1),by omega,rfl,bf,q⟩,fun x H' hy=>?_⟩
    obtain⟨rfl,c,hc,rfl⟩:=hy;exact hs i c σ _ hc p
  · have e:i=z.cps.size:=by omega
    subst e;exact .inl ⟨aD _,hd σ H p⟩
end L2
namespace Tm
open PySem PySem.Spec PyProof.Rows PySem.NumText
def Free(c:Nat)(z:Str):Prop:=c∉z.cps.toList
def gl(c:Nat):List (List Nat)->List Nat |[]=>[] |[x]=>x |x::y::r=>x++c::gl c (y::r)
theorem sV(c:Nat):∀zs:List Str,(PySem.Str.join ⟨#[c]⟩ zs).cps.toList=gl c (zs.map fun z=>z.cps.toList) |[]=>by simp[PySem.Str.join,PySem.Str.empty,gl] |[x]=>rfl |x::y::r=>by show((x++⟨#[c]⟩)++PySem.Str.join ⟨#[c]⟩ (y::r)).cps.toList=_;rw[kn,kn,mx,mx,sV c (y::r)];show(x.cps.toList++[c])++gl c _=x.cps.toList++c::gl c _;rw[List.append_assoc];rfl
theorem zm{c:Nat}:∀{a b r s:List Nat},c∉a->c∉b->a++c::r=b++c::s->a=b/\r=s |[],[],r,s,_,_,e=>by simpa using e |[],y::b,r,s,_,h,e=>by simp at e;exact(h (by rw[e.1];exact .head _)).elim |x::a,[],r,s,h,_,e=>by simp at e;exact(h (by rw[<-e.1];exact .head _)).elim |x::a,y::b,r,s,h1,h2,e=>by simp only[uI,List.cons.injEq]at e;obtain⟨e1,e2⟩:=zm (fun z=>h1 (.tail _ z)) (fun z=>h2 (.tail _ z)) e.2;exact⟨by rw[e.1,e1],e2⟩
theorem yL{c:Nat}:∀{as bs:List (List Nat)},as≠[]->bs≠[]->(∀a∈as,c∉a)->(∀b∈bs,c∉b)->gl c as=gl c bs->as=bs
  |[],_,h,_,_,_,_=>(h rfl).elim |_,[],_,h,_,_,_=>(h rfl).elim |[a],[b],_,_,_,_,e=>by rw[show a=b from e] |[a],b::b'::r,_,_,ha,_,e=>by
    have:c∈a:=by rw[show a=b++c::gl c (b'::r)from e];simp
    exact(ha a (.head _) this).elim |a::a'::r,[b],_,_,_,hb,e=>by
    have:c∈b:=by rw[<-show a++c::gl c (a'::r)=b from e];simp
    exact(hb b (.head _) this).elim |a::a'::r,b::b'::s,_,_,ha,hb,e=>by obtain⟨e1,e2⟩:=zm (ha a (.head _)) (hb b (.head _)) (show a++c::gl c (a'::r)=b++c::gl c (b'::s)from e);rw[e1,yL (by simp) (by simp) (fun x hx=>ha x (.tail _ hx)) (fun x hx=>hb x (.tail _ hx)) e2]
theorem tD{x y:Str}(h:x.cps.toList=y.cps.toList):x=y:=PySem.Str.ext' (Array.toList_inj.mp h)
theorem map_inj:∀{xs ys:List Str},xs.map (fun z=>z.cps.toList)=ys.map (fun z=>z.cps.toList)->xs=ys |[],[],_=>rfl |[],y::ys,h=>by simp at h |x::xs,[],h=>by simp at h |x::xs,y::ys,h=>by simp only[eh,List.cons.injEq]at h;rw[tD h.1,map_inj h.2]
theorem kL(x y:Str):Txt.split x y≠[]:=by
 unfold Txt.split;split
 ·simp
 · split
   ·simp
   · rw[StrLaws.partsBetween_eq]
     obtain⟨p,r,e⟩:=StrLaws.partsFrom_ne x y.length 0 (Builtin.Str.occurrences x y 0 x.length (x.length+1));rw[e];simp
theorem pN{c:Nat}{zs:List Str}(bJ:zs≠[])(hf:∀z∈zs,Free c z):Txt.split (Txt.join ⟨#[c]⟩ zs) ⟨#[c]⟩=zs:=by
 have e:=StrLaws.join_split (Txt.join ⟨#[c]⟩ zs) ⟨#[c]⟩;have fr:=StrLaws.split_free (Txt.join ⟨#[c]⟩ zs) c;have e2:Txt.join ⟨#[c]⟩ zs=PySem.Str.join ⟨#[c]⟩ zs:=kj _ _;have e3:=f7 (fun z:Str=>z.cps.toList) (e.trans e2);simp only[sV]at e3;refine map_inj (yL (by simpa using kL _ _) (by simpa using bJ) (fun a ha=>?_) (fun b hb=>?_) e3)
 · obtain⟨z,hz,rfl⟩:=bN.mp ha
   exact fr z hz
 · obtain⟨z,hz,rfl⟩:=bN.mp hb
   exact hf z hz
theorem D7{c:Nat}{z:Str}(h:Free c z):Txt.split z ⟨#[c]⟩=[z]:=pN (zs:=[z]) (by simp) (fun y hy=>by rw[eK.mp hy];exact h)
def numS(i:Int):Str:=Str.ofString (toString i)
def isFig(c:Nat):Bool:=decide (48<=c)&&decide (c<=57)
def figs(z:Str):List Nat:=match z.cps.toList with |45::r=>r |l=>l
def numIn? (z:Str):Option Int:=bif (figs z).isEmpty|| !(figs z).all isFig then none else bif decide ((figs z)[0]? =some 48)&& !decide (z="0")then none else intText? z
theorem gs{cs:List Nat}(h:cs.all isFig=true):AllDigits cs:=fun c hc=>by have:=bV.mp h c hc;simpa[isFig]using this
theorem ze{cs:List Nat}(h:AllDigits cs):cs.all isFig=true:=bV.mpr fun c hc=>by have:=h c hc;simpa[isFig]using this
theorem oJ(m:Nat):(numS (m:Int)).cps.toList=(Nat.toDigits 10 m).map Char.toNat:=PySem.W.KIN.signs_num m
theorem oH(m:Nat):(numS (Int.negSucc m)).cps.toList=45::(Nat.toDigits 10 (m+1)).map Char.toNat:=by unfold numS;rw[signs_ofString];show("-"++Nat.repr (m+1)).toList.map Char.toNat=_;rw[String.toList_append,dP,Nat.toList_repr];rfl
theorem gQ(m:Nat):AllDigits ((Nat.toDigits 10 m).map Char.toNat):=fun c hc=>by obtain⟨ch,fk,e⟩:=bN.mp hc;have r:=digit_range (Nat.isDigit_of_mem_toDigits (by decide) (by decide) fk);rw[<-e];exact r
theorem oG(m:Nat):(Nat.toDigits 10 m).map Char.toNat≠[]:=fun e=>by have h:=toDigits_len_ge 10 m;rw[List.map_eq_nil_iff.mp e]at h;exact absurd h (by decide)
theorem K3:∀d:Nat,d<10->d≠0->(Nat.digitChar d).toNat≠48:=by decide
theorem xU(m:Nat)(h0:m≠0):((Nat.toDigits 10 m).map Char.toNat)[0]? ≠some 48:=by induction m using Nat.strongRecOn with |_ m ih=>
   by_cases h:m<10
   · rw[Nat.toDigits_of_lt_base h]
     simpa using K3 m h h0
   · have hm:m%10<10:=Nat.mod_lt m (by decide)
     have t:Nat.toDigits 10 (m/10)++Nat.toDigits 10 (m%10)=Nat.toDigits 10 (10*(m/10)+m%10):=Nat.toDigits_append_toDigits (by decide) (by omega) hm;rw[Nat.div_add_mod]at t;rw[<-t,dP,BM (uD.mpr (oG _))];exact ih (m/10) (by omega) (by omega)
theorem K1(m:Nat):((Nat.toDigits 10 m).map Char.toNat).head? ≠some 45:=fun e=>by have:=gQ m 45 (List.mem_of_mem_head? e);omega
theorem JA{z:Str}{l:List Nat}(h:z.cps.toList=l)(hh:l.head? ≠some 45):figs z=l:=by
 unfold figs;rw[h];split
 ·simp at hh
 ·rfl
theorem JC(m:Nat):figs (numS (m:Int))=(Nat.toDigits 10 m).map Char.toNat:=JA (oJ m) (K1 m)
theorem JB(m:Nat):figs (numS (Int.negSucc m))=(Nat.toDigits 10 (m+1)).map Char.toNat:=by unfold figs;rw[oH];rfl
theorem za(m:Nat):((Nat.toDigits 10 m).map Char.toNat).isEmpty=false:=by have:=oG m;cases h:(Nat.toDigits 10 m).map Char.toNat with |nil=>exact(this h).elim |cons=>rfl
theorem FL{i:Int}(hl:(numS i).length<=4300):numIn? (numS i)=some i:=by unfold numIn?;cases i with
 |ofNat m=>
   have ef:figs (numS (Int.ofNat m))=(Nat.toDigits 10 m).map Char.toNat:=JC m;have ec:(numS (Int.ofNat m)).cps.toList=(Nat.toDigits 10 m).map Char.toNat:=oJ m;have e:=mj (x:=numS (Int.ofNat m)) (by rw[ec];exact gQ m) (by rw[ec];exact oG m) hl;rw[ec,PySem.W.KIN.val_back]at e;rw[ef,ze (gQ m),za,e];have h2:(decide (((Nat.toDigits 10 m).map Char.toNat)[0]? =some 48)&& !decide (numS (Int.ofNat m)="0"))=false:=by
    by_cases h0:m=0
    ·subst h0;decide+kernel
    ·rw[bu (xU m h0)];rfl
   rw[h2];rfl |negSucc m=>have e:=intText_neg (x:=numS (Int.negSucc m)) (oH m) (gQ (m+1)) (oG (m+1)) hl;rw[PySem.W.KIN.val_back]at e;rw[JB,ze (gQ (m+1)),za,bu (xU (m+1) (by omega)),e];exact f7 some (Int.negSucc_eq m).symm
theorem jI{i:Int}{c:Nat}(h:c≠45)(h1:c<48):Free c (numS i):=fun hc=>by cases i with |ofNat m=>rw[show(numS (Int.ofNat m)).cps.toList=_ from oJ m]at hc;have:=gQ m c hc;omega |negSucc m=>
   rw[oH]at hc;rcases aX.mp hc with e|hc
   ·exact h e
   · have:=gQ (m+1) c hc
     omega
theorem Hd{z:Str}(h1:figs z≠[])(h2:(figs z).all isFig=true)(hl:z.length<=4300):∃n,intText? z=some n:=by
 unfold figs at h1 h2;split at h1
 · rename_i r h
   rw[h]at h2;exact⟨_,intText_neg h (gs h2) h1 hl⟩
 · rename_i h
   split at h2
   · rename_i r h'
     exact(h r h').elim
   ·exact⟨_,mj (gs h2) h1 hl⟩
theorem Dx(z:Str):(Txt.removeprefix z "-").cps.toList=figs z:=by
 rw[StrLaws.removeprefix_eq];have e1:(Str.ofString "-").cps.toList=[45]:=by decide+kernel
 have e2:(Str.ofString "-").length=1:=by decide+kernel
 have hn:z.cps.toList.length=z.length:=by simp[Str.length]
 rw[e2,StrLaws.subAt_eq,e1,e2,List.drop_zero];unfold figs;cases hz:z.cps.toList with |nil=>rw[hz]at hn;have h0:z.length=0:=hn.symm;rw[aC (by simp)];exact hz |cons a r=>
   rw[hz]at hn;simp only[ft]at hn;by_cases ha:a=45
   · subst ha
     rw[aH (by simp;omega)];show((List.drop 1 (45::r)).take _).toArray.toList=r;rw[List.drop_one,List.tail_cons,iE (by omega)]
   · rw[aC (by simp;intro _;exact fun e=>ha (by simpa using e))]
     rw[hz];split
     ·rename_i h;simp at h;exact(ha h.1).elim
     ·rfl
end Tm
namespace Nu
open PySem PySem.Spec PyProof.Rows PySem.NumText Tm
theorem JX(cs:List Nat)(c:Nat):digitsVal (cs++[c])=digitsVal cs*10+(c-48):=by unfold digitsVal;rw[List.foldl_append];rfl
theorem zc{cs:List Nat}{i c:Nat}(h:cs[i]? =some c):digitsVal (cs.take (i+1))=digitsVal (cs.take i)*10+(c-48):=by rw[List.take_add_one,h];exact JX _ _
theorem zd{cs:List Nat}(h:AllDigits cs):∀i,digitsVal (cs.take i)<10^i |0=>by simp[digitsVal] |i+1=>by have ih:=zd h i;rw[Nat.pow_succ];cases hc:cs[i]? with |none=>rw[List.take_add_one,hc];simp;omega |some c=>have:=h c (eL hc);rw[zc hc];omega
theorem D3(z:Str):Txt.startswith z "-"=decide (z.cps.toList.head? =some 45):=by
 have e1:(Str.ofString "-").cps.toList=[45]:=by decide+kernel
 have e2:(Str.ofString "-").length=1:=by decide+kernel
 have hn:z.cps.toList.length=z.length:=by simp[Str.length]
 unfold Txt.startswith;rw[e2,StrLaws.subAt_eq,e1,e2,List.drop_zero,<-hn];cases z.cps.toList with |nil=>rfl |cons c r=>simp[BS]
theorem nB{z y:Str}{n:Int}(ef:y.cps.toList=figs z)(h1:figs z≠[])(h2:(figs z).all isFig=true)(hl:z.length<=4300)(hn:intText? z=some n): n=if Txt.startswith z "-"=true then-((digitsVal y.cps.toList:Nat):Int)else((digitsVal y.cps.toList:Nat):Int):=by
  rw[D3,ef];unfold figs at*;split at h1
  · rename_i r h
    rw[h]at h2;have e:=intText_neg h (gs h2) h1 hl;rw[hn]at e;rw[h];simpa using e
  · rename_i h
    split at h2
    · rename_i r h'
      exact(h r h').elim
    · have e:=mj (gs h2) h1 hl
      rw[hn]at e;have hh:z.cps.toList.head? ≠some 45:=fun z'=>by cases hz:z.cps.toList with |nil=>rw[hz]at z';cases z' |cons c r=>rw[hz]at z';cases z';exact h r hz
      rw[bu hh];simpa using e
theorem Cd{c:Nat}(h1:48<=c)(h2:c<=57):intText? ⟨#[c]⟩=some ((c-48:Nat):Int):=by have e:=mj (x:=⟨#[c]⟩) (fun a ha=>by rw[eK.mp ha];exact⟨h1,h2⟩) (by simp) (by show 1<=4300;decide);rw[e];show some (((0*10+(c-48):Nat):Nat):Int)=_;rw[Nat.zero_mul,Nat.zero_add]
end Nu
namespace Cn
open Ln
end Cn
namespace Pn
section
variable (n:Nat)(own:Nat->Rat)(L:Nat->Option Nat)(r f:Int)
end
section
variable {n:Nat}{own g:Nat->Rat}{L:Nat->Option Nat}{r f:Int}
end
open Rt
end Pn
namespace Ow
open Pn Cn Ln Rt
end Ow
namespace Wk
open PySem L2
end Wk
namespace L2
open PySem PySem.Spec PyProof.Rows
section
variable {X:Cx}
theorem Eu:aQ X (compareOp .NotIn) (fun x y H Q=>∃c j,x= .str ⟨#[c]⟩/\y= .str j/\Q (.bl (!(decide (c∈j.cps.toList)))) H):=by intro pins s σ H x y v u Q I rx ry h;obtain⟨c,j,rfl,rfl,q⟩:=h;refine Et pins s σ H _ _ v u Q I rx ry ⟨_,_,rfl,rfl,?_⟩;rw[PySem.StrLaws.found_one];exact q
inductive AV(x:V)(lo hi:Option Int)(H:Hp)(Q:VK):Prop |mk (z:Str)(h0:x= .str z)(h1:z.length<=1000)(h2:Q (.str (StrLaws.sliceText z lo hi)) H):AV x lo hi H Q
def DK:V->Option Int->Option Int->Hp->VK->Prop:=fun x lo hi H Q=>AV x lo hi H Q
theorem gE:m6 X DK:=by
 intro pins s σ H x v vl vu lo hi sl Q I rx hs pl pu h;obtain⟨z,rfl,hz,q⟩:=h;obtain⟨t,rfl⟩:=rx;refine⟨"str",_,slot_str_getitem.lookup,mi s z t,?_⟩;have key:∀(l u:Option (Int×Tok)),vl=partValue l->vu=partValue u->lo=l.map (·.1)->hi=u.map (·.1)->wpAny (model X.prog X.w) X.A (getItem (.str z t) (.ref sl)) (EP X pins σ Q) X.xe s:=fun l u e1 e2 e3 e4=>by
  subst e1 e2;refine wpAny_getItem_str_slice (l:=l) (u:=u) (st:=none) hs rfl ?_;have q0:Q (.str (StrLaws.sliceText z (l.map (·.1)) (u.map (·.1)))) H:=by rw[<-e3,<-e4];exact q
  unfold sliceMade;split
  · rename_i hc
    have q':Q (.str z) H:=by have e:StrLaws.sliceText z (l.map (·.1)) (u.map (·.1))=z:=aH hc;rw[<-e];exact q0
    exact⟨.str z,H,I,⟨t,rfl⟩,q'⟩
  · rename_i hc
    have q':Q (.str ⟨((slicePicked z l u none).filterMap (z.cps[·]?)).toArray⟩) H:=by have e:StrLaws.sliceText z (l.map (·.1)) (u.map (·.1))=⟨((slicePicked z l u none).filterMap (z.cps[·]?)).toArray⟩:=aC hc;rw[<-e];exact q0
    have hl:(((slicePicked z l u none).filterMap (z.cps[·]?))).length<=z.length:=bG (List.length_filterMap_le _ _) (E9 _ _ _);refine⟨?_,⟨.str _,H,I.tok _,⟨_,rfl⟩,q'⟩⟩;show(List.toArray _).size<=_;rw[bC];exact bG (bG hl hz) (by decide)
 cases pl with
 |none=>cases pu with |none=>exact key none none rfl rfl rfl rfl |int b tb=>exact key none (some (b,tb)) rfl rfl rfl rfl
 |int a ta=>cases pu with |none=>exact key (some (a,ta)) none rfl rfl rfl rfl |int b tb=>exact key (some (a,ta)) (some (b,tb)) rfl rfl rfl rfl
theorem pI(z:Str)(i:Nat):(StrLaws.sliceText z (some (i:Int)) none).cps.toList=z.cps.toList.drop i:=by
 have key:∀j:Nat,j<=z.length->(StrLaws.sliceText z (some (j:Int)) none).cps.toList=z.cps.toList.drop j:=fun j h=>by
  have e:StrLaws.sliceText z (some (j:Int)) none=StrLaws.sliceText z (some (j:Int)) (some (z.length:Int)):=by unfold StrLaws.sliceText;rw[StrLaws.sliceIdx_none_hi]
  rw[e,StrLaws.sliceText_nat z h (aD _)];show((z.cps.toList.drop j).take _)=_;rw[iE (by simp[Str.length])]
 by_cases h:i<=z.length
 ·exact key i h
 · have e:StrLaws.sliceText z (some (i:Int)) none=StrLaws.sliceText z (some (z.length:Int)) none:=by unfold StrLaws.sliceText;rw[sliceIdx_lo_beyond _ (by omega)]
   rw[e,key _ (aD _),uH (by simp[Str.length]),uH (by simp[Str.length]at h⊢;omega)]
theorem uV(z:Str)(i:Nat):(StrLaws.sliceText z none (some (i:Int))).cps.toList=z.cps.toList.take i:=by
 have key:∀j:Nat,j<=z.length->(StrLaws.sliceText z none (some (j:Int))).cps.toList=z.cps.toList.take j:=fun j h=>by
  have e:StrLaws.sliceText z none (some (j:Int))=StrLaws.sliceText z (some ((0:Nat):Int)) (some (j:Int)):=by unfold StrLaws.sliceText;rw[StrLaws.sliceIdx_none_lo];rfl
  rw[e,StrLaws.sliceText_nat z (bE _) h];rfl
 by_cases h:i<=z.length
 ·exact key i h
 · have e:StrLaws.sliceText z none (some (i:Int))=StrLaws.sliceText z none (some (z.length:Int)):=by unfold StrLaws.sliceText;rw[sliceIdx_hi_beyond _ (by omega)]
   rw[e,key _ (aD _),iE (by simp[Str.length]),iE (by simp[Str.length]at h⊢;omega)]
theorem K8{z:Str}(f:Nat->Bool){tt:TT}{te:TE}{Q:VK}{D:Addr}{H H0:Hp}(rest:St)(nw:Nw H H0 D (.lst []))(hz:z.length<=1000) (ht:∀(c:Nat)(H2:Hp)(Q':Bool->Hp->Prop),af H H2->(∀H3,af H2 H3->Q' (f c) H3)->tt (some (.str ⟨#[c]⟩)::rest) H2 Q') (he:∀(c:Nat)(H2:Hp)(Q':VK),af H H2->(∀H3,af H2 H3->Q' (.str ⟨#[c]⟩) H3)->te (some (.str ⟨#[c]⟩)::rest) H2 Q') (hq:∀H',af H H'->H' D=some (.lst ((z.cps.toList.filter f).map fun c=>V.str ⟨#[c]⟩))->Q (.ref D) H'):gb (jg z) (dY 0) tt te Q D (none::rest) H0:=by
  have hD:=nw.no;have hl:z.cps.toList.length=z.cps.size:=by simp
  refine lZ z.cps.size (fun i σ H2=>af H H2/\H2 D=some (.lst (((z.cps.toList.take i).filter f).map fun c=>V.str ⟨#[c]⟩))/\∃v,σ=v::rest) ?_ ?_ ?_
  ·exact⟨nw.same,nw.at',none,rfl⟩
  · rintro i σ H2 hi ⟨s2,d2,v,rfl⟩
    refine⟨hi,fun x H3 hy=>?_⟩;obtain⟨rfl,c,ec,rfl⟩:=hy;refine ht c _ _ s2 fun H4 s4=>?_;have d4:=s4 _ _ d2;have er:(z.cps.toList.take (i+1)).filter f=(z.cps.toList.take i).filter f++(if f c=true then[c]else[]):=by rw[pe,ec,List.filter_append];congr 1;cases h:f c<;>simp[h]
    cases h:f c with |true=>
      refine aJ ?_;refine he c _ _ (s2.trans s4) fun H5 s5=>?_;have d5:=s5 _ _ d4;refine⟨_,d5,?_,z.cps.size-(i+1),by omega,rfl,by omega,fun b o e=>?_,?_,_,rfl⟩
      · have:(1000:Nat)<sizeLine:=by decide
        have h1:=List.length_filter_le f (z.cps.toList.take i);rw[gY]at h1;have fH:z.cps.size<=1000:=hz;rw[aF];omega
      ·rw[aL (cn e hD)];exact s5 b o (s4 b o (s2 b o e))
      ·rw[bR,er,h,aH rfl,dP];rfl |false=>refine aB ?_;refine⟨z.cps.size-(i+1),by omega,rfl,by omega,s2.trans s4,?_,_,rfl⟩;rw[er,h];simpa using d4
  · rintro σ H2 ⟨s2,d2,v,rfl⟩
    rw[iE (uy hl)]at d2;exact⟨aD _,hq H2 s2 d2⟩
end
end L2
namespace L2
open PySem PySem.Spec PyProof.Rows
theorem K2(f:Array Value->Array Value)(o:Obj):(o.mapFields f).dict=o.dict:=by obtain⟨c,d,dt,sl⟩:=o;cases dt<;>rfl
def KW(h B:Heap)(ex:Addr)(cls:Value)(dx:Option Addr)(fl:Value):Prop:=∃ob fs tb ot ts,h.get? ex=some ob/\ob.cls=cls/\ob.dict=dx/\ob.data= .fields fs/\fs[1]? =some (.ref tb)/\B.get? tb=none/\tb≠ex/\h.get? tb=some ot/\ot.data= .fields ts/\ts[3]? =some fl/\fs[2]? =some .none
def g7(B:Heap)(l:List Env)(ex:Addr)(cls:Value)(dx:Option Addr)(fl:Value)(h:Heap):Prop:=B.StaysIn h/\B.get? ex=none/\h.FunFrames B l/\KW h B ex cls dx fl
theorem g7.there{B h:Heap}{l:List Env}{ex:Addr}{cls fl:Value}{dx:Option Addr}(x:g7 B l ex cls dx fl h):∃ob,h.get? ex=some ob/\ob.cls=cls/\ob.dict=dx/\∃fs,ob.data= .fields fs/\fs[2]? =some .none:=by obtain⟨_,_,_,ob,fs,_,_,_,e,c,d,z,_,_,_,_,_,_,z2⟩:=x;exact⟨ob,e,c,d,fs,z,z2⟩
section
variable {M:Model}{A:M9}{E:Value->M6->Prop}{s:M6}{B:Heap}{env:Env}{outer:List Env}{L ex:Addr}{ob:Obj}{fs:Array Value}{head:Value}{nx:Bool}{Q:Unit->M6->Prop}{cls fl:Value}{dx:Option Addr}
theorem z8(hA:A.frames=some (env::outer))(ff:s.heap.FunFrames B (env::outer))(hL:env.frame=some L)(ho:s.heap.get? ex=some ob)(st:B.StaysIn s.heap)(hB:B.get? ex=none)(hd:ob.data= .fields fs)(hz:1<fs.size)(cq:fs[2]? =some .none) (q:∀h',g7 B (env::outer) ex ob.cls ob.dict (rawInt L) h'->s.heap.UpToSlots h'->Q () {s with heap:=h'}): wpAny M A (do let a<-frameOf env;let pl<-entryPlaceOf L nx;let b<-EntryCells.newEntry head a .none (rawInt L) .none pl;setField (.ref ex) 1 b) Q E s:=by
  have nF:ex∉(env::outer).filterMap (·.frame):=fun hm=>by obtain⟨_,o,e1,nf⟩:=ff.mem hm;rw[ho]at e1;cases e1;exact nf fs hd
  refine ag (wpAny_frameOf_fun hA ff hL fun g1 k1=>ag (wpAny_entryPlaceOf fun pl hp=>?_));unfold EntryCells.newEntry newFields;refine ag (iB ?_ (hp.sizeOk5 _ _ _ _ _));have o1:g1.get? ex=some ob:=(k1.2.1 ex nF).trans ho;have vn:B.StaysIn g1:=fun b o e=>(k1.2.1 b fun hm=>by rw[(ff.mem hm).1]at e;cases e).trans (st b o e);generalize hT:({cls:=.type "traceback",dict:=none,data:=.fields ([head,.ref L,.none,rawInt L,.none]++(if pl.isEmpty then List.replicate 6 Value.none else pl)).toArray}:Obj)=T;have o2:(g1.push T).get? ex=some ob:=bw T o1;refine oZ o2 hd hz (q _ ?_ ?_);all_goals have ne:g1.objs.size≠ex:=uu (aN o1)
  all_goals have keep:∀b o,b≠ex->g1.get? b=some o->((g1.push T).update ex (Obj.mapFields (·.setIfInBounds 1 (Value.ref g1.objs.size)))).get? b=some o:=fun b o nb e=>by rw[mw _ _ (f9 nb)];exact bw _ e
  all_goals have i8:∀b o,s.heap.get? b=some o->(∀vs,o.data≠ .fields vs)->b≠ex:=fun b o e nf z=>by rw[z,ho]at e;cases e;exact nf fs hd
  · have d3:=p9 hd (·.setIfInBounds 1 (Value.ref g1.objs.size))
    have o3:=pC (Obj.mapFields (·.setIfInBounds 1 (Value.ref g1.objs.size))) o2 (BH d3);refine⟨fun b o e=>keep b o (fun z=>by rw[z,hB]at e;cases e) (vn b o e),hB,ff.of_keeps fun b o e nf=>?_,?_⟩
    · obtain⟨sl,e1⟩:=k1.2.2 b o e
      exact⟨_,keep b _ (i8 b o e nf) e1,rfl⟩
    · refine⟨_,_,g1.objs.size,T,_,o3,Obj.cls_mapFields _ _,K2 _ _,d3,by simp[hz],vn.fresh,ne,?_,by rw[<-hT],?_⟩
      ·rw[mw _ _ (f9 ne)];exact cw g1 (by rw[<-hT];rfl)
      · refine⟨?_,by simpa using cq⟩
        first|(simp;done)|(rcases hp with rfl|⟨_,_,_,_,_,_,_,rfl⟩<;>simp)
  · intro b o e nf
    obtain⟨sl,e1⟩:=k1.2.2 b o e;exact⟨sl,keep b _ (i8 b o e nf) e1⟩
theorem FR(hA:A.frames=some (env::outer))(ff:s.heap.FunFrames B (env::outer))(hL:env.frame=some L)(ho:s.heap.get? ex=some ob)(st:B.StaysIn s.heap)(hB:B.get? ex=none)(hd:ob.data= .fields fs)(h1:fs[1]? =some .none)(cq:fs[2]? =some .none) (q:∀h',g7 B (env::outer) ex ob.cls ob.dict (rawInt L) h'->s.heap.UpToSlots h'->Q () {s with heap:=h'}):wpAny M A (noteFrame (.ref ex) env) Q E s:=by unfold noteFrame;simp only[hL];refine ag (gB ho hd h1 ?_);rw[aC (by decide)];exact z8 hA ff hL ho st hB hd (uO.mp h1).1 cq q
theorem FQ(hA:A.frames=some (env::outer))(hL:env.frame=some L)(x:g7 B (env::outer) ex cls dx .none s.heap) (q:∀h',g7 B (env::outer) ex cls dx (rawInt L) h'->s.heap.UpToSlots h'->Q () {s with heap:=h'}):wpAny M A (noteFrame (.ref ex) env) Q E s:=by
  obtain⟨st,hB,ff,ob,fs,tb,ot,ts,ho,rfl,rfl,hd,h1,oq,nt,ht,gp,h3,cq⟩:=x;unfold noteFrame;simp only[hL];refine ag (gB ho hd h1 ?_);rw[aH (show(Value.ref tb !=Value.none)=true from by simp)];refine ag (gB ht gp h3 ?_);rw[aC (show¬((Value.none==rawInt L)=true)from by simp[rawInt])];refine ag (oZ ht gp (uO.mp h3).1 ?_);have other:∀b,b≠tb->(s.heap.update tb (Obj.mapFields (·.setIfInBounds 3 Value.none))).get? b=s.heap.get? b:=fun b nb=>mw _ _ (f9 nb);have i8:∀b o,s.heap.get? b=some o->(∀vs,o.data≠ .fields vs)->b≠tb:=fun b o e nf z=>by rw[z,ht]at e;cases e;exact nf ts gp
  refine z8 (s:={s with heap:=s.heap.update tb (Obj.mapFields (·.setIfInBounds 3 Value.none))}) hA (ff.of_keeps fun b o e nf=>⟨o,(other b (i8 b o e nf)).trans e,rfl⟩) hL ((other ex (f9 nt)).trans ho) (fun b o e=>(other b fun z=>by rw[z,oq]at e;cases e).trans (st b o e)) hB hd (uO.mp h1).1 cq fun h' y up=>q h' y fun b o e nf=>up b o ((other b (i8 b o e nf)).trans e) nf
theorem t4{l:List Env}(x:g7 B l ex cls dx fl s.heap)(q:∀h',g7 B l ex cls dx .none h'->s.heap.UpToSlots h'->Q () {s with heap:=h'}):wpAny M A (setFlight (.ref ex) none) Q E s:=by
 obtain⟨st,hB,ff,ob,fs,tb,ot,ts,ho,hc,hx,hd,h1,oq,nt,ht,gp,h3,cq⟩:=x;have z3:3<ts.size:=(uO.mp h3).1;have other:∀b,b≠tb->(s.heap.update tb (Obj.mapFields (·.setIfInBounds 3 ((none:Option Addr).elim Value.none fun f=>rawInt f)))).get? b=s.heap.get? b:=fun b nb=>mw _ _ (f9 nb);have i8:∀b o,s.heap.get? b=some o->(∀vs,o.data≠ .fields vs)->b≠tb:=fun b o e nf z=>by rw[z,ht]at e;cases e;exact nf ts gp
 unfold setFlight;refine ag (gB ho hd h1 ?_);rw[aH (show(Value.ref tb !=Value.none)=true from by simp)];refine oZ ht gp z3 (q _ ⟨fun b o e=>(other b fun z=>by rw[z,oq]at e;cases e).trans (st b o e),hB,ff.of_keeps fun b o e nf=>⟨o,(other b (i8 b o e nf)).trans e,rfl⟩,?_⟩ fun b o e nf=>⟨o.slots,(other b (i8 b o e nf)).trans e⟩);exact⟨ob,fs,tb,_,_,(other ex (f9 nt)).trans ho,hc,hx,hd,h1,oq,nt,pC _ ht (BH (p9 gp _)),p9 gp _,by simp[z3],cq⟩
theorem GA(hA:A.frames=some (env::outer))(ff:s.heap.FunFrames B (env::outer))(hL:env.frame=some L)(ho:s.heap.get? ex=some ob)(st:B.StaysIn s.heap)(hB:B.get? ex=none)(hd:ob.data= .fields fs)(h1:fs[1]? =some .none)(cq:fs[2]? =some .none) (q:∀h',g7 B outer ex ob.cls ob.dict .none h'->s.heap.UpToSlots h'->Q () {s with heap:=h'}):wpAny M A (leaving env (.ref ex)) Q E s:=by unfold leaving;refine ag (FR hA ff hL ho st hB hd h1 cq fun h1 x1 u1=>t4 x1 fun h2 x2 u2=>q h2 ?_ (u1.trans u2));obtain⟨a,b,⟨_,_,c⟩,d⟩:=x2;exact⟨a,b,c,d⟩
end
end L2
namespace L2
open PySem PySem.Spec PyProof.Rows
open Builtin Builtin.ObjectAttr
def iG:List Value:=[.type "ValueError",.type "Exception",.type "BaseException",.type "object"]
def gI:List Value->Bool | .ref _::r=>gI r |l=>l==iG
theorem Dz(self:Value){l:List Value}(e:gI l=true):refuseLoop self "__setattr__" l=pure ():=by induction l with |nil=>simp[gI,iG]at e |cons v r ih=>cases v with |ref c=>rw[refuseLoop_ref];exact ih (by simpa[gI]using e) |_=>have e':=cu.mp (show(_==iG)=true from e);rw[e'];exact PySem.F.store_ValueError.passes self
theorem IA{t:String}(ht:(iG.contains (.type t))=true):∀{l:List Value},gI l=true->l.contains (.type t)=true |l,e=>by induction l with |nil=>simp[gI,iG]at e |cons v r ih=>cases v with |ref c=>rw[BO,ih (by simpa[gI]using e),Bool.or_true] |_=>have e':=cu.mp (show(_==iG)=true from e);rw[e'];exact ht
def xb(K:M5)(C:Addr):Bool:=(PySem.W.clsIn K C).any fun cd=>gI cd.mro
section
variable {prog:M7}{w:World}{A:M9}{E:Value->M6->Prop}{s:M6}{K:M5}{x C:Addr}{ox:Obj}{fs:Array Value}{name:Str}{v:Value}{Q:Unit->M6->Prop}
theorem Dm(X:K.In s.heap)(hx:s.heap.get? x=some ox)(hc:ox.cls= .ref C)(hd:ox.dict=none)(hf:ox.data= .fields fs) (hs:PySem.W.findIn K (.ref C) "__setattr__"=some (some (.builtin "object.__setattr__")))(hp:xb K C=true)(ht:PySem.W.takerIn K C name=some none)(hh:PySem.W.hasDictIn K C=true) (h:∀h',h'.get? x=some {ox with dict:=some s.heap.objs.size}->h'.Ns1 s.heap.objs.size (fun y=>if y=name then some v else none)->(∀b o,b≠x->s.heap.get? b=some o->h'.get? b=some o)->Q () {s with heap:=h',toks:=s.toks+2}): wpAny (model prog w) A (setAttr (.ref x) name v) Q E s:=by
  have I:PySem.W.InstAt s.heap x ox C none:=⟨hx,hc,by unfold PySem.W.notCls;rw[hf],by rw[hd];trivial⟩;refine PySem.W.set_plain X I hs ?_;have SF:=PySem.F.store_object;obtain⟨cd,bO,ho⟩:=PySem.W.any_some hp;have ne:cd.mro.isEmpty=false:=by cases q:cd.mro with|nil=>rw[q]at ho;simp[gI,iG]at ho|cons _ _=>rfl
  have sub:PySem.W.Looks (model prog w) s.heap (isInstance (.ref x) (.type "object")) true:=I.type.andThen (PySem.W.looks_mroIn X (by unfold PySem.W.mroIn;rw[bO,Option.bind_some,aC (by rw[ne];decide),IA (by decide) ho]));refine ug SF.slot.plain SF.entry (@PySem.W.check_slot (model prog w) _ _ {s with toks:=s.toks+1} "object.__setattr__" "object" "__setattr__" (.ref x) [.str name s.toks,v] [] _ SF.kind SF.split sub (SF.args (.ref x) (.str name s.toks) v) ?_);obtain⟨attr,ha,hr⟩:=Option.bind_eq_some_iff.mp ht;have hm:PySem.W.Looks (model prog w) s.heap (mroOf (.ref C)) cd.mro:=(PySem.W.looks_clsIn X bO).andThen .now;have L3:PySem.W.Looks (model prog w) s.heap (storeTaker? attr) none:=by cases attr with |none=>exact .now |some a=>obtain⟨b,hb,e⟩:=mq.mp hr;refine(PySem.W.looks_takesIn X hb).andThen ?_;cases b with |false=>exact .now |true=>cases e
  rw[PySem.W.osa_eq,refuse_eq];refine ag (ag (ml (s:={s with toks:=s.toks+1}) I.type (ag (ml (s:={s with toks:=s.toks+1}) hm ?_))));rw[Dz _ ho];refine aM (ag (ml (s:={s with toks:=s.toks+1}) I.type (ag (ml (s:={s with toks:=s.toks+1}) (PySem.W.looks_findIn X ha) (ag (ml (s:={s with toks:=s.toks+1}) L3 ?_))))));obtain⟨LW,cq,hd2⟩:=PySem.W.any_some hh;refine ag (aM (ag (ag (wpAny_loadPart (s:={s with toks:=s.toks+1}) hx ?_))));rw[hc];refine ag (ml (s:={s with toks:=s.toks+1}) (PySem.W.looks_clsIn X cq) ?_);rw[hd2,hd,hf];rw[aC (by decide)];show wpAny _ _ (if(!true|| !typeHasDict (Value.ref C))=true then _ else _) _ _ _;rw[aC (by simp[typeHasDict])];have x1:(s.heap.push {cls:=.type "dict",data:=.dict #[]}).get? x=some ox:=bw _ hx;have nx:x≠s.heap.objs.size:=bF (aN hx);refine ag (wpAny_alloc' (ag (wpAny_update' x1 (aM ?_))));have gd:((s.heap.push {cls:=.type "dict",data:=.dict #[]}).update x fun o=>{cls:=o.cls,dict:=some s.heap.objs.size,data:=o.data,slots:=o.slots}).get? s.heap.objs.size=some {cls:=.type "dict",data:=.dict #[]}:=(Heap.get?_update_ne _ _ _ _ nx.symm).trans (Heap.get?_push_at rfl rfl);have n0:((s.heap.push {cls:=.type "dict",data:=.dict #[]}).update x fun o=>{cls:=o.cls,dict:=some s.heap.objs.size,data:=o.data,slots:=o.slots}).Ns s.heap.objs.size (fun _=>none):=⟨_,#[],_,gd,rfl,(fun e he=>absurd he (by simp)),fun _=>rfl⟩;show wpAny _ _ (storeInDict s.heap.objs.size (.str name s.toks) name v) _ _ _;unfold storeInDict newKeyGuard;refine ag (aM (ag (wpAny_nsSet1 (Heap.Ns1.of_empty n0) fun h2 n2 sb=>?_)));obtain⟨oD,LU,LV,e1,e2,e3⟩:=n2.count (PySem.Within.cons name v PySem.Within.nil);refine ag (wpAny_lookBehind e1 (by rw[e2];exact pastItsLine_dict (bG e3 (by rw[ft,List.length_nil,p4];omega))) ?_);refine aM (h h2 ?_ n2 fun b o nb e=>?_)
  · refine(sb.2 x nx).trans (pC _ x1 ?_)
    obtain⟨oc,od,rp,bX⟩:=ox;cases hf;rfl
  ·exact(sb.2 b (bF (aN e))).trans ((Heap.get?_update_ne _ _ _ _ nb).trans (bw _ e))
end
end L2
namespace L2
open PySem PySem.Spec PyProof.Rows
def iA(ex C:Addr)(h:Heap):Prop:=∃ob fs,h.get? ex=some ob/\ob.cls= .ref C/\ob.dict=none/\ob.data= .fields fs/\fs[1]? =some .none/\fs[2]? =some .none
def gA(ex C dx:Addr)(h:Heap):Prop:=∃ob fs,h.get? ex=some ob/\ob.cls= .ref C/\ob.dict=some dx/\ob.data= .fields fs/\fs[1]? =some .none/\fs[2]? =some .none
structure tX(K:M5)(C:Addr)(f:Str):Prop where
 sa:PySem.W.findIn K (.ref C) "__setattr__"=some (some (.builtin "object.__setattr__"))
 ov:xb K C=true
 tk:PySem.W.takerIn K C f=some none
 hd:PySem.W.hasDictIn K C=true
inductive AN(K:M5)(f:Str)(D:Ends)(σ:St)(y:V)(x:V)(H2:Hp):Prop |mk (ex:_)(C:_)(h0:x= .ref ex)(h1:H2 ex=some (.ext (iA ex C)))(h2:tX K C f)(h3:∀dx,H2 dx=none->dx≠ex->D.nx σ (upd (upd H2 dx (.xd [(f,y)])) ex (.ext (gA ex C dx)))):AN K f D σ y x H2
def Dr(K:M5)(ta tv:TE)(f:Str):TS:=fun D σ H=>tv σ H fun y H1=>ta σ H1 fun x H2=>AN K f D σ y x H2
section
variable {X:Cx}{o e value:Expr}{f:Str}{pos pos' pK:Pos}{ta tv:TE}
theorem E3(K:M5)(hK:X.K=K)(ha:PE X o ta)(hv:PE X value tv)(hs:swapsWith value (some (.Attribute o f pos')) pos.line X.env=pure false:=by rfl):PS X (.Assign [.Attribute o f pos'] value pos) (Dr K ta tv f):=by
 subst hK;intro pins s σ H D I h;refine plainObj_wpAny_Assign_Attribute (ak (hv pins s σ H _ I h) fun u s1 ⟨y,H1,I1,ry,q⟩=>ak (ha pins s1 σ H1 _ I1 q) fun ov s2 ⟨x,H2,I2,rx,ex,C,e1,ee,xc,q2⟩=>?_) hs;subst e1;obtain rfl:ov=Value.ref ex:=rx;obtain⟨⟨ob,fs,g1,g2,g3,g4,g5,g6⟩,_,_⟩:=(show bZ X.prog X.w H2 s2.heap ex (.ext (iA ex C))from I2.hok ex _ ee);refine Dm I2.cM g1 g2 g3 g4 xc.sa xc.ov xc.tk xc.hd fun h' k1 k2 k3=>?_;have ne:s2.heap.objs.size≠ex:=uu (aN g1);have fr:H2 s2.heap.objs.size=none:=I2.hok.fresh (aD _);obtain⟨oD,es,ep,d1,d2⟩:=id k2;have HH:(s2.heap.push oD).get? s2.heap.objs.size=some oD:=cw _ (by obtain⟨oc,od,rp,bX⟩:=oD;have:rp= .dict es ep:=d2.1;subst this;rfl);have Ir:bZ X.prog X.w (upd H2 s2.heap.objs.size (.xd [(f,y)])) (s2.heap.push oD) s2.heap.objs.size (.xd [(f,y)]):=by
  refine⟨_,k2.at fun o e=>?_,fun g=>?_⟩
  ·rw[d1]at e;cases e;exact HH
  · by_cases q:g=f
    · subst q
      simp only[List.lookup,uh,iC];exact ry
    · have:(g==f)=false:=by simpa using q
      simp only[List.lookup,this,aC q];trivial
 have J1:=I2.laid (a:=s2.heap.objs.size) (o:=.xd [(f,y)]) (h':=s2.heap.push oD) (t':=s2.toks+2) (fun b u q=>bw _ q) (aD _) Ir;have J2:=J1.write (x:=ex) (e:=ex) (o:=.ext (gA ex C s2.heap.objs.size)) (h':=h') (t':=s2.toks+2) (by rw[aL ne.symm,ee];trivial) (.inl rfl) (fun b u nb e=>by
  rcases Heap.get?_push_cases e with⟨rfl,rfl⟩|e
  ·exact d1
  ·exact k3 b u nb e) ⟨_,k1⟩ ⟨⟨_,fs,k1,g2,rfl,g4,g5,g6⟩,⟨_,k1⟩,fun h1 h2 ⟨iT,jQ,z1,z2⟩ k=>⟨iT,jQ,k _ z1,z2⟩⟩;exact⟨σ,_,J2,q2 _ fr ne⟩
end
end L2
namespace L2
open PySem PySem.Spec PyProof.Rows
abbrev z4(rest:List Value):Obj:={cls:=.type "tuple",data:=.seq rest.toArray}
abbrev t8(C t:Addr):Obj:={cls:=.ref C,data:=.fields #[.ref t,.none,.none,.none,.bool false,.none]}
abbrev fR(h:Heap)(C:Addr)(rest:List Value):Heap:=(h.push (z4 rest)).push (t8 C h.objs.size)
section
variable {prog:M7}{w:World}{A:M9}{E:Value->M6->Prop}{h:Heap}{g:Array GenState}{d:Drawn}{t:Nat}{os:OsState}
variable {nm q:Str}{C N fI:Addr}{bs bm bP:List Value}{hdct:Bool}{sn:List Str}{sub:List Value}{ab:Bool}{col:Option Bool}{dd:Option Addr}{k0 k1 k2 k3 k5:Option Value}{B newId lF:String}{mN:Str->Option Value}{rest:List Value}{oI:Obj}
theorem z5:(fR h C rest).get? (h.objs.size+1)=some (t8 C h.objs.size):=by have:=cw (h.push (z4 rest)) (o:=t8 C h.objs.size) rfl;rwa [uM]at this
theorem jT{b:Addr}{o:Obj}(e:h.get? b=some o):(fR h C rest).get? b=some o:=bw _ (bw _ e)
theorem Cu(F:ExcBaseFacts B newId lF bP)(T:OwnTail h bP bm){Q:Fin->M6->Prop}(hC:h.get? C=some (excClassObj nm q C N bs bm hdct sn sub ab col dd k0 k1 k2 k3 k5 newId))(hn:h.Ns N mN)(hi:mN "__init__"=some (.ref fI)) (hf:h.get? fI=some oI)(sG:oI.cls= .type "function")(hz:rest.length<=sizeLine) (hq:wpAny (model prog w) A (call (.ref fI) (.ref (h.objs.size+1)::rest)) (fun r s'=>r= .none/\Q (.done (.ret (.ref (h.objs.size+1)))) s') E ⟨fR h C rest,g,d,t,os⟩): wpAny (model prog w) A (Builtin.«type.__call__» ⟨.ref C::rest,[]⟩) Q E ⟨h,g,d,t,os⟩:=by
  repeat (first|with_reducible refine jk hC ?_|with_reducible refine wpAny_madeBy_exc hC ?_|wp_step)
  refine codeAny_call_builtin_code (Code.quiet_builtin _ F.quiet) (wpAny_check_new_subT F T hC (codeAny_exc_new_subT F T hC ?_ hz));show wpAny _ _ _ _ _ _;have c1:=jT (C:=C) (rest:=rest) hC;have f1:=jT (C:=C) (rest:=rest) hf;have n1:(fR h C rest).Ns N mN:=let⟨o,es,ep,e,r⟩:=hn;⟨o,es,ep,jT e,r⟩;have x1:=z5 (h:=h) (C:=C) (rest:=rest);have cc:(Value.ref C::bm).contains (.ref C)=true:=by simp
  have T1:=T.keeps (h':=fR h C rest) fun b o e=>jT e;unfold isInstance
  repeat (first|with_reducible refine jk x1 ?_|(with_reducible refine ue c1 ?_;rw[cc])|wp_step)
  show wpAny _ _ (typeLookup (.ref C) _) _ _ _;refine wpAny_typeLookup_tail c1 n1 T1 F.mroIs F.init.lookup ?_;rw[hi];refine dN (ag ?_);unfold bindSpecial;refine ag (wpAny_typeOf (T:="function") ⟨_,f1,sG⟩ ?_);rw[aH (by decide)];refine aM (ag (dy hq (fun r s' ⟨e,z⟩=>?_) fun _ _ z=>z));subst e
  wp_walk;exact z
theorem Ko(F:ExcBaseFacts B newId lF bP)(T:OwnTail h bP bm){Q:Value->M6->Prop}(hC:h.get? C=some (excClassObj nm q C N bs bm hdct sn sub ab col dd k0 k1 k2 k3 k5 newId))(hn:h.Ns N mN)(hi:mN "__init__"=some (.ref fI)) (hf:h.get? fI=some oI)(sG:oI.cls= .type "function")(hz:rest.length<=sizeLine) (hq:wpAny (model prog w) (A.under (.builtin "type.__call__" ⟨.ref C::rest,[]⟩)) (call (.ref fI) (.ref (h.objs.size+1)::rest)) (fun r s'=>r= .none/\Q (.ref (h.objs.size+1)) s') E ⟨fR h C rest,g,d,t,os⟩): wpAny (model prog w) A (call (.ref C) rest) Q E ⟨h,g,d,t,os⟩:=by
  have f1:=tc_lookup;have f2:=tc_bind (.ref C);have hT:(⟨h,g,d,t,os⟩:M6).TypeIs (.ref C) "type":=⟨_,hC,rfl⟩;refine kg (codeAny_of_tree ?_);show wpAny _ _ (callAny (.ref C) _) _ _ _
  repeat (any_goals (first|assumption|with_reducible refine jk hC ?_|wp_step))
  refine⟨rfl,codeAny_call_builtin_at (Code.quiet_builtin _ (by decide+kernel)) entry_typeCall (wpAny_check_type_call_sub hC (Cu F T hC hn hi hf sG hz ?_))⟩;exact hq
end
section
variable {M:Model}{A:M9}{E:Value->M6->Prop}{env:Env}{nm q:Str}{C N:Addr}{bs bm:List Value}{hdct:Bool}{sn:List Str}{sub:List Value}{ab:Bool}{col:Option Bool}{dd:Option Addr}{k0 k1 k2 k3 k5:Option Value}{newId:String}
theorem DH{s:M6}{x:Sem Value}{Q:Flow->M6->Prop}(hb:bm.contains (.type "BaseException")=true)(hh:A.handled=none) (h:wpAny M A x (fun v s1=>∃e oe fs,v= .ref e/\s1.heap.get? C=some (excClassObj nm q C N bs bm hdct sn sub ab col dd k0 k1 k2 k3 k5 newId)/\s1.heap.get? e=some oe/\oe.cls= .ref C/\oe.data= .fields fs/\fs[1]? =some .none/\E (.ref e) s1) E s): wpAny M A (raiseStmt env (some x) none) Q E s:=by
  have cb:(Value.ref C::bm).contains (.type "BaseException")=true:=by rw[BO,hb,Bool.or_true]
  unfold raiseStmt;refine ag (dy h (fun v s1 ⟨e,oe,fs,ev,hC,he,hc,gp,h1,hE⟩=>?_) fun _ _ z=>z);subst ev;obtain⟨hp,g,d,tk,os⟩:=s1;obtain⟨oc,odd,rp,bX⟩:=oe;cases hc;cases gp
  repeat (first|with_reducible refine jk he ?_|with_reducible refine jk hC ?_|(with_reducible refine ue hC ?_;rw[cb])|rw[h1]|wp_step)
  exact wpAny_raiseNew_none hh hE
end
end L2
namespace L2
open PySem PySem.Spec PyProof.Rows
def ji(P:M7)(w:World):f6:=fun outer H s E e s'=>∃(ex:Addr)(cls:Value)(dx:Option Addr)(H':Hp)(B:Heap),e= .ref ex/\s'.os=s.os/\AllBare s'.gens/\g7 B outer ex cls dx .none s'.heap/\Fl P w outer H s.heap ex H' B s'.heap/\E cls dx H'
theorem tu{H:Hp}{p:Addr}:del H p p=none:=by unfold del;rw[aH rfl]
theorem gu{H:Hp}{p b:Addr}(h:b≠p):del H p b=H b:=by unfold del;rw[aC h]
theorem bq.del{P:M7}{w:World}{H:Hp}{h:Heap}{p:Addr}{φ:Heap->Prop}(ok:bq P w H h)(e:H p=some (.ext φ)):bq P w (del H p) h:=fun b u q=>by
 obtain⟨nb,q⟩:=iq.mp q;refine(ok b u q).fv (fun _ _ _ z=>z) (fun c z=>?_) fun c xs z=>?_
 ·rw[gu (fun y=>by rw[y,e]at z;cases z)];exact z
 ·rw[gu (fun y=>by rw[y,e]at z;cases z)];exact z
section
variable {P:M7}{w:World}{K:M5}{mg:Str->Option Value}{base:Heap}{N:List Str}{qual:Str}{scope:Scope}{f:Addr}{cd:Value}{A:M9}{outer:List Env}{s:M6}{H:Hp}{E:XK}{pins:List (Addr×Obj)}{σ:St}{H1:Hp}{s1:M6}{ex:Addr}{C:Addr}{dx:Addr}
theorem uP(I:Inv (dm (ji P w) P w K mg base N qual scope f cd A outer s H E) pins σ H1 s1)(hx:H1 ex=some (.ext (gA ex C dx)))(hs:s.heap.objs.size<=ex)(q:E (.ref C) (some dx) (del H1 ex)): (dm (ji P w) P w K mg base N qual scope f cd A outer s H E).xe (.ref ex) s1:=by
  have eT:s1.heap.FunFrames base (envOfC qual scope s.heap.objs.size f cd::outer):=I.stack;have Ie:∀env∈(envOfC qual scope s.heap.objs.size f cd::outer),∀b,env.frame=some b->b∈ex::bK (envOfC qual scope s.heap.objs.size f cd::outer):=fun env he b hb=>.tail _ (ku.mpr ⟨env,he,hb⟩);have hB:(PySem.W.hideAll s1.heap (ex::bK (envOfC qual scope s.heap.objs.size f cd::outer))).StaysIn s1.heap:=fun b o e=>PySem.W.of_hideAll _ e;obtain⟨⟨ob,fs,g1,g2,g3,g4,g5,g6⟩,_,_⟩:=(show bZ P w H1 s1.heap ex (.ext (gA ex C dx))from I.hok ex _ hx);have nw:s.heap.get? ex=none:=Heap.get?_none_of_le hs;have nF:∀b o,s.heap.get? b=some o->b∉bK outer->b∉ex::bK (envOfC qual scope s.heap.objs.size f cd::outer):=fun b o e hb hm=>by
   rcases aX.mp hm with rfl|hm
   ·rw[nw]at e;cases e
   obtain⟨env,he,hf⟩:=ku.mp hm;rcases aX.mp he with rfl|he
   · have e1:s.heap.objs.size=b:=cf hf
     have h1:=aN e;rw[<-e1]at h1;exact absurd h1 (kq _)
   ·exact hb (ku.mpr ⟨env,he,hf⟩)
  have rE:∀b u,H1 b=some u->(∀φ,u≠ .ext φ)->del H1 ex b=some u:=fun b u e n=>by rw[gu (fun z=>by rw[z,hx]at e;exact n _ (cf e).symm)];exact e
  have F0:Fl P w outer H s.heap ex (del H1 ex) (PySem.W.hideAll s1.heap (ex::bK (envOfC qual scope s.heap.objs.size f cd::outer))) s1.heap:=by
   refine⟨⟨I.base.keep,I.base.slot,fun b o e n hb=>?_,I.base.there,fun b xs e=>rE b _ (I.base.tups b xs e) (fun _ z=>nomatch z),fun b o u e=>rE b _ (I.base.frzs b o u e) (fun _ z=>nomatch z),fun b ps e=>?_⟩,I.hok.del hx,fun b o e n hb=>ui _ (I.base.keep b o e n hb (cQ)) (nF b o e hb),fun b o e=>?_,fun b o e hb=>?_,fun b hb=>?_,nw,tu⟩
   · by_cases z:b=ex
     ·rw[z];exact tu
     ·rw[gu z];exact I.base.free b o e n hb
   · obtain⟨more,e1⟩:=I.base.tbls b ps e
     exact⟨more,rE b _ e1 (fun _ z=>nomatch z)⟩
   · obtain⟨nb,e⟩:=iq.mp e
     obtain⟨iT,e1⟩:=(I.hok b o e).there;refine⟨iT,ui _ e1 fun hm=>?_⟩;rcases aX.mp hm with z|hm
     ·exact nb z
     · rw[I.mR b hm]at e
       cases e
   · obtain⟨iT,e1⟩:=I.base.there b o e (cQ)
     exact⟨iT,ui _ e1 (nF b o e hb)⟩
   · obtain⟨env,he,hf⟩:=ku.mp hb
     have e1:=I.mR b (ku.mpr ⟨env,.tail _ he,hf⟩);by_cases z:b=ex
     ·rw[z];exact tu
     ·rw[gu z];exact e1
  show wpAny (model P w) (A.deeper (envOfC qual scope s.heap.objs.size f cd)) (leaving (envOfC qual scope s.heap.objs.size f cd) (.ref ex)) _ _ _;refine GA (L:=s.heap.objs.size) I.ok.frames (PySem.W.funFrames_hide eT Ie) rfl g1 hB (PySem.W.hideAll_none _ (.head _)) g4 g5 g6 fun h' x1 x2=>?_;exact⟨ex,.ref C,some dx,del H1 ex,_,rfl,I.os,I.bare,by rw[g2,g3]at x1;exact x1,F0.step hB x1.1 x2 eT.2.2,q⟩
end
def t7(K:M5)(C fI:Addr)(bP:List Value)(newId:String):Bool:=match K.lookup C with |some ⟨.type "type",_,.cls cd,sl⟩=>(match cd.mro,sl.toList with | .ref C'::bm,[_,_,_,_,some (.builtin n),_]=>C'==C&&n==newId&& !cd.hasDel&&PySem.W.tailIn K bP bm&&PySem.W.nsOkIn K cd.ns&&(PySem.W.nsIn K cd.ns "__init__"==some (some (.ref fI))) |_,_=>false) |_=>false
structure jh(K:M5)(mg:Str->Option Value)(x:Str)(C fI:Addr)(bP:List Value)(newId:String):Prop where
 at':mg x=some (.ref C)
 ok:t7 K C fI bP newId=true
theorem FP{K:M5}{h:Heap}{N:Addr}{m:Str->Option Value}{n:Str}{v:Value}(X:K.In h)(G:h.Ns N m)(e:PySem.W.nsIn K N n=some (some v)):m n=some v:=by
 obtain⟨o,es,ep,ho,hd,_,hf⟩:=G;unfold PySem.W.nsIn at e;split at e
 · rename_i c d oz n' sl q
   have z:=X _ _ q;rw[ho]at z;cases z;cases hd;split at e
   · rename_i en he
     cases e;rw[<-hf];unfold nsFind findBy;rw[<-Array.find?_toList,he];rfl
   ·split at e<;>cases e
 ·cases e
theorem jh.own{K:M5}{mg:Str->Option Value}{x:Str}{C fI:Addr}{bP:List Value}{newId:String}{h:Heap}(e:jh K mg x C fI bP newId)(X:K.In h): ∃tl N nm q bs hdct sn sub ab col dd k0 k1 k2 k3 k5 mN,h.get? C=some (excClassObj nm q C N bs tl hdct sn sub ab col dd k0 k1 k2 k3 k5 newId)/\h.Ns N mN/\mN "__init__"=some (.ref fI)/\OwnTail h bP tl:=by
  have q:=e.ok;unfold t7 at q;split at q
  · rename_i dd cd sl ho
    split at q
    · rename_i D2 bl a0 a1 a2 a3 nn a5 hm hs
      simp only[cu,bQ,pD]at q;obtain⟨⟨⟨⟨⟨r1,r2⟩,lQ⟩,ht⟩,hok⟩,lK⟩:=q;subst r1 r2;obtain⟨c1,c2,c3,c4,c5,c6,c7,c8,c9,tI,Kp⟩:=cd;dsimp only at hm lQ hok lK;subst hm lQ;obtain⟨l⟩:=sl;simp only at hs;subst hs;have G:=Heap.Ns.of_isNs (PySem.W.isNs_of_in X hok);exact⟨bl,c4,c1,c5,c2,c6,c7,c8,c9,tI,dd,a0,a1,a2,a3,a5,_,X _ _ ho,G,FP X G lK,PySem.W.tail_of_in X ht⟩
    ·cases q
  ·cases q
def fnAt(K:M5)(f:Addr):Bool:=match K.lookup f with |some o=>o.cls== .type "function" |none=>false
theorem Jy{K:M5}{h:Heap}{f:Addr}(X:K.In h)(e:fnAt K f=true):∃o,h.get? f=some o/\o.cls= .type "function":=by
 unfold fnAt at e;split at e
 · rename_i o ho
   exact⟨o,X _ _ ho,cu.mp e⟩
 ·cases e
def CD(E:XK)(C:Addr)(sp:Sp)(t:TA):TS:=fun _ σ H=>t σ H fun vs H1=>vs.length<=sizeLine/\∀ex,H1 ex=none->sp (.ref ex::vs) (upd H1 ex (.ext (iA ex C))) (fun v H2=>v= .au/\∃dx,H2 ex=some (.ext (gA ex C dx))/\E (.ref C) (some dx) (del H2 ex)) (fun _ _ _=>False)
section
variable {X:Cx}{x:Str}{C fI:Addr}{bP:List Value}{newId lF B:String}{e:Expr}{t:TA}{np aU pos:Pos}{k:Nat}{fd:FuncData}{ps:List Str}{sp:Sp}
theorem wQ{E:XK}(hx:∀pins σ H s ex dx,Inv X pins σ H s->H ex=some (.ext (gA ex C dx))->X.s₀.heap.objs.size<=ex->E (.ref C) (some dx) (del H ex)->X.xe (.ref ex) s) (EC:jh X.K X.mg x C fI bP newId)(FB:ExcBaseFacts B newId lF bP)(hh:X.A.handled=none)(F:dZ X.prog X.w X.K X.mg X.base dw k fI fd ps sp)(hr:bo (k+1) X.A)(hb:Binds X.K fd ps [])(hf:fnAt X.K fI=true)(hg:Gl X x)(ha:PA X [e] t) (he:starEach [e] X.env=[(false,eval e X.env)]:=by rfl)(hd:(x==("__debug__":Str))=false:=by decide): PS X (.Raise (some (.Call (.Name x np) [e] [] aU)) none pos) (CD E C sp t):=by
  intro pins s σ H D I h;obtain⟨tl,Nn,nm,q,bs,hdct,sn,sub,ab,col,dd,k0,k1,k2,k3,k5,mN,hC,hN,hi,T⟩:=EC.own I.ok.mod.kin;have hA:=ha aU pins s σ H _ I h;rw[arm_exec_Raise];refine ag (ke (DH (C:=C) (nm:=nm) (q:=q) (N:=Nn) (bs:=bs) (bm:=tl) (hdct:=hdct) (sn:=sn) (sub:=sub) (ab:=ab) (col:=col) (dd:=dd) (k0:=k0) (k1:=k1) (k2:=k2) (k3:=k3) (k5:=k5) (newId:=newId) (T.hasType FB.hasBase) hh (ag (dy (wpAny_Call_ofName (lh I hg EC.at' ?_ hd)) (fun v s3 h3=>ag (ke (aM h3))) fun _ _ z=>z))));unfold callWith;rw[he]at hA⊢;refine ag (dN (dy (Calls.evalArgs_plain (Q:=fun(a:Args) s2=>a.kw=[]/\AP X pins σ (fun vs H1=>vs.length<=sizeLine/\∀ex,H1 ex=none->sp (.ref ex::vs) (upd H1 ex (.ext (iA ex C))) (fun v H2=>v= .au/\∃dx,H2 ex=some (.ext (gA ex C dx))/\E (.ref C) (some dx) (del H2 ex)) (fun _ _ _=>False)) a.pos s2) (ak hA fun us s2 z=>⟨rfl,z⟩)) (fun a s2 z=>ag (ke ?_)) fun _ _ z=>z));obtain⟨us,KH⟩:=a;obtain⟨HP,vs,H1,I1,r1,z1,w1⟩:=z;obtain rfl:KH=[]:=HP;have C2:=I1.bk _ _ hC;have T2:=T.keeps I1.bk;have N2:=hN.keeps I1.bk;obtain⟨oI,f1,f2⟩:=Jy I1.cM hf;have Gn:us.length<=sizeLine:=by rw[<-r1.length];exact z1
  obtain⟨hp,g,d,tk,os⟩:=s2;rw[show(backTo aU [(false,eval e X.env)]).any (·.1)=false from rfl];refine ag (wpAny_keeperOf_exc C2 ?_);have M4:Inv X pins σ H1 ⟨fR hp C us,g,d,tk,os⟩:=I1.kept (t':=tk) (h':=fR hp C us) fun b u e=>jT e;have xa:=z5 (h:=hp) (C:=C) (rest:=us);have fx:H1 (hp.objs.size+1)=none:=I1.hok.fresh (Nat.le_succ _);have I2:Inv X pins σ (upd H1 (hp.objs.size+1) (.ext (iA (hp.objs.size+1) C))) ⟨fR hp C us,g,d,tk,os⟩:=by refine I1.laid (a:=hp.objs.size+1) (o:=.ext (iA (hp.objs.size+1) C)) (h':=fR hp C us) (t':=tk) (fun b u e=>jT e) (Nat.le_succ _) ?_;exact⟨⟨_,_,xa,rfl,rfl,rfl,rfl,rfl⟩,⟨_,xa⟩,fun h1 h2 ⟨iT,jQ,y1,y2⟩ k=>⟨iT,jQ,k _ y1,y2⟩⟩
  have hq:=w1 (hp.objs.size+1) fx;have r2:Vals (V.ref (hp.objs.size+1)::vs) (Value.ref (hp.objs.size+1)::us):=.cons rfl r1;have hl:(Value.ref (hp.objs.size+1)::us++[]).length=ps.length:=by have e:=r2.length;rw[F.len _ _ _ _ hq]at e;rw[jn];exact e.symm
  have bt:=hb ⟨fR hp C us,g,d,tk,os⟩ (Value.ref (hp.objs.size+1)::us) I2.cM hl;rw[jn]at bt;refine ag (Ko FB T2 C2 N2 hi f1 f2 Gn (kg (p6 (F.run _ X.stack _ _ ⟨Value.ref (hp.objs.size+1)::us,[]⟩ (Value.ref (hp.objs.size+1)::us) _ _ (fun _ _ _=>False) (hr.make C us []) (I2.tj.make C us []) bt r2 hq) fun r s' j4=>?_)));cases r with |error e=>exact False.elim j4 |ok fl=>cases fl with |ret u=>obtain⟨v,H',I3,rv,ev,dx,ed,q3⟩:=I2.after j4;subst ev;refine⟨rv,ag (dN (wpAny_point (aM ?_)))⟩;obtain⟨⟨ob,fs,g1,g2,g3,g4,g5,g6⟩,_,_⟩:=(show bZ X.prog X.w H' s'.heap _ (.ext (gA (hp.objs.size+1) C dx))from I3.hok _ _ ed);exact⟨_,ob,fs,rfl,I3.bk _ _ hC,g1,g2,g4,g5,hx pins σ H' s' _ dx I3 ed (bG I1.sz (Nat.le_succ _)) q3⟩ |next=>exact False.elim j4 |brk=>exact False.elim j4 |cont=>exact False.elim j4
end
end L2
namespace L2
open PySem PySem.Spec PyProof.Rows
def g9(ex:Addr)(cls:Value)(dx:Option Addr)(h:Heap):Prop:=∃o,h.get? ex=some o/\o.cls=cls/\o.dict=dx/\∃fs,o.data= .fields fs/\fs[2]? =some .none
def ClsAt(K:M5)(C:Addr):Prop:=∀h,K.In h->∃nm q N bs tl hdct sn sub ab col dd k0 k1 k2 k3 k5 newId,h.get? C=some (excClassObj nm q C N bs tl hdct sn sub ab col dd k0 k1 k2 k3 k5 newId)
theorem jh.cls{K:M5}{mg:Str->Option Value}{x:Str}{C fI:Addr}{bP:List Value}{newId:String}(e:jh K mg x C fI bP newId):ClsAt K C:=fun h X=>by obtain⟨tl,N,nm,q,bs,hdct,sn,sub,ab,col,dd,k0,k1,k2,k3,k5,mN,hC,_⟩:=e.own X;exact⟨nm,q,N,bs,tl,hdct,sn,sub,ab,col,dd,k0,k1,k2,k3,k5,newId,hC⟩
inductive Aa(i:Nat)(Cs:Addr->Prop)(tb:XK->TS)(th:TS)(D:Ends)(σ:St)(H:Hp):Prop |mk (E:XK)(h0:tb E D σ H)(h1:(∀cls dx H',E cls dx H'->∃C,cls= .ref C/\Cs C))(h2:∀(C ex:Addr)(dx:Option Addr)(σ':St)(H':Hp),σ'.length=σ.length->E (.ref C) dx H'->H' ex=none->th {nx:=fun σ2 H2=>D.nx (σ2.set i none) H2,rt:=D.rt,bk:=fun σ2 H2=>D.bk (σ2.set i none) H2,ct:=fun σ2 H2=>D.ct (σ2.set i none) H2} (σ'.set i (some (.ref ex))) (upd H' ex (.ext (g9 ex (.ref C) dx)))):Aa i Cs tb th D σ H
def Cz(i:Nat)(Cs:Addr->Prop)(tb:XK->TS)(th:TS):TS:=fun D σ H=>Aa i Cs tb th D σ H
section
variable {X:Cx}{i:Nat}{n y:Str}{Dc:Addr}{tL:List Value}{newD:String}{body mO:List Stmt}{b0:Stmt}{np nY pos:Pos}{tb:XK->TS}{th:TS}{Cs:Addr->Prop}
theorem E5(eT:X.stack=X.env::X.outer)(Il:X.env.frame=some X.env.locals)(hN:X.N.Nodup)(hi:X.N[i]? =some n)(hk:X.env.kindOf n=some .local)(hs:X.env.scope.names.lookup n=some .local) (hb:∀(E:XK)(xe:Value->M6->Prop),Passes (ji X.prog X.w) (X.eu xe) E->cF (X.eu xe) body (tb E)) (hg:Gl X y)(hy:Exc X.K X.mg y Dc tL newD)(sI:tL.contains (.type "BaseException")=true)(sP:∀C,Cs C->ClsAt X.K C/\takes X.K C Dc) (hh:∀ex,cF (X.hand ex) (b0::mO) th)(dW:(y==("__debug__":Str))=false:=by decide): A2 X (.Try body [.ExceptHandler (some (.Name y np)) (some n) (b0::mO) nY] [] [] pos) (Cz i Cs tb th):=by
  intro s σ H D I h;obtain⟨E,hq,Iu,sr⟩:=h;refine wpAny_Try_except ?_;have ps:Passes (ji X.prog X.w) (X.eu fun e s₁=>wpAny (model X.prog X.w) X.A (noteFrame e X.env) (fun _ s₂=>wpAny (model X.prog X.w) X.A (setFlight e none) (fun _ s₃=>wpAny (model X.prog X.w) X.A (handleBy e X.env [.ExceptHandler (some (.Name y np)) (some n) (b0::mO) nY]) (SP X [] D) X.xe s₃) X.xe s₂) X.xe s₁) E:=by
   intro qU σ' H1 s1 ev s2 I1 hx;obtain⟨ex,cls,dx,H',B,rfl,ho,yt,sY,F,hE⟩:=hx;obtain⟨C,rfl,hC⟩:=Iu cls dx H' hE;have I0:Inv X [] σ' H1 s1:=I1.gc.Ku;obtain⟨yl,g2,d2,t2,o2⟩:=s2;have Jz:g7 B (X.env::X.outer) ex (.ref C) dx .none yl:=by rw[<-eT];exact sY
   have hA:X.A.frames=some (X.env::X.outer):=by rw[<-eT];exact I0.ok.frames
   refine FQ (s:=⟨yl,g2,d2,t2,o2⟩) hA Il Jz fun h4 oh C8=>?_;refine t4 oh fun h5 lY C7=>?_;have F4:=F.step sY.1 oh.1 C8 sY.2.2.1;have JG:h4.FunFrames B X.stack:=by rw[eT];exact oh.2.2.1
   have F5:=F4.step oh.1 lY.1 C7 JG;have JF:h5.FunFrames B X.stack:=by rw[eT];exact lY.2.2.1
   have I5:Inv X [] σ' H' ⟨h5,g2,d2,t2,o2⟩:=I0.oN (s':=⟨h5,g2,d2,t2,o2⟩) ho F5.un F5.hok yt (fun b hb=>(cQ hb).elim);refine wpAny_handleBy_cons (codeAny_handlers_test (lh (X:=X.hand ex) (I5.hand ex) hg hy.at' ?_ dW)) (by intro q;cases q);obtain⟨eC,tk⟩:=sP C hC;obtain⟨nm,q,Nn,bs,tl,hdct,sn,sub,ab,col,dd,k0,k1,k2,k3,k5,nw,oC⟩:=eC _ I5.cM;obtain⟨Lc,M3,xB,q',zJ,yw,vK,vh,zY,zy,zl,j0,j1,j2,j3,j5,Lo,oD,LQ,LI,KY⟩:=(hy.own I5.cM).obj;obtain⟨ob,HB,HA,_⟩:=lY.there;have yj:(Value.ref C::tl).contains (.ref Dc)=true:=by
    obtain⟨cd,ha,sJ⟩:=Option.bind_eq_some_iff.mp tk;split at sJ
    ·cases sJ
    · have hc:=cf sJ
      unfold PySem.W.clsIn at ha;split at ha
      · rename_i c1 c2 LX c4 hl
        cases ha;have e1:=I5.cM _ _ hl;rw[show(Shared.heap ⟨h5,g2,d2,t2,o2⟩).get? C=some _ from oC]at e1;have e2:=cf e1;unfold excClassObj at e2;injection e2 with _ _ e3 _;injection e3 with e4;rw[<-e4]at hc;exact hc
      ·cases ha
   refine JI oC oD HB HA (KY.hasType sI) yj ?_;refine codeAny_handlers_suite_as ?_;refine t4 (s:=⟨h5,g2,d2,t2,o2⟩) lY fun h6 yX C6=>?_;have F6:=F5.step lY.1 yX.1 C6 JF;have Cb:Un (bK X.stack) [] H1 (upd H' ex (.ext (g9 ex (.ref C) dx))) s1.heap h6:=by
    have nb:∀b u,H' b=some u->b≠ex:=fun b u e z=>by rw[z,F6.ne]at e;cases e
    refine⟨F6.un.keep,F6.un.slot,fun b o e n hx=>?_,F6.un.there,fun b xs e=>?_,fun b o u e=>?_,fun b ps e=>?_⟩
    ·rw[aL (fun z=>by rw[z,F6.nw]at e;cases e)];exact F6.un.free b o e n hx
    ·have:=F6.un.tups b xs e;rw[aL (nb b _ this)];exact this
    ·have:=F6.un.frzs b o u e;rw[aL (nb b _ this)];exact this
    ·obtain⟨more,e1⟩:=F6.un.tbls b ps e;exact⟨more,by rw[aL (nb b _ e1)];exact e1⟩
   have Hx:bq X.prog X.w (upd H' ex (.ext (g9 ex (.ref C) dx))) h6:=fun b u e=>by
    by_cases yz:b=ex
    · subst yz
      rw[bR]at e;cases e;obtain⟨o6,e6,c6⟩:=yX.there;exact⟨⟨o6,e6,c6⟩,⟨o6,e6⟩,fun g1 g3 ⟨o7,e7,c7⟩ k=>⟨o7,k o7 e7,c7⟩⟩
    · rw[aL yz]at e
      refine(F6.hok b u e).fv (fun c v hc q=>q) (fun c q=>?_) fun c xs q=>?_
      ·rw[aL (fun z=>by rw[z,F6.ne]at q;cases q)];exact q
      ·rw[aL (fun z=>by rw[z,F6.ne]at q;cases q)];exact q
   have I6:Inv X [] σ' (upd H' ex (.ext (g9 ex (.ref C) dx))) ⟨h6,g2,d2,t2,o2⟩:=I0.oN (s':=⟨h6,g2,d2,t2,o2⟩) ho Cb Hx yt (fun b hb=>(cQ hb).elim);refine mQ (X:=X.hand ex) (I6.hand ex) hN hi (.inl hs) (v:=.ref ex) rfl (fun s7 I7=>?_) (.inr hs);refine dy (hh ex [] s7 _ _ _ I7 (sr C ex dx σ' H' (I0.len.trans I.len.symm) hE F.ne)) (fun f s8 q=>?_) fun e s8 q=>False.elim q;have un:∀(σ2:St)(H2:Hp)(Q:Unit->M6->Prop),Inv (X.hand ex) [] σ2 H2 s8->(∀s9,Inv X [] (σ2.set i none) H2 s9->Q () s9)->wpAny (model X.prog X.w) X.A (do bindName X.env n .none;unbindBehindTheSuite X.env n nY) Q X.xe s8:=fun σ2 H2 Q I8 hq=>by
    have Bq:=I8.back I0.ok;have bf:i<σ2.length:=by rw[Bq.len];exact(dA.mp hi).1
    unfold bindName;refine ag (ag (dN (wpAny_point (ag (mQ Bq hN hi (.inl hs) (v:=.au) rfl (fun s9 I9=>wpAny_point ?_) (.inr hs))))));refine C9 I9 hN hi hk hs (v:=.au) (uF bf) fun cJ kc=>hq cJ ?_;rw[List.set_set]at kc;exact kc
   cases f with |next=>obtain⟨σ2,H2,I8,dq⟩:=q;exact un σ2 H2 _ I8 fun s9 I9=>⟨_,H2,I9,dq⟩ |brk=>obtain⟨σ2,H2,I8,dq⟩:=q;exact un σ2 H2 _ I8 fun s9 I9=>⟨_,H2,I9,dq⟩ |cont=>obtain⟨σ2,H2,I8,dq⟩:=q;exact un σ2 H2 _ I8 fun s9 I9=>⟨_,H2,I9,dq⟩ |ret u=>obtain⟨v,σ2,H2,I8,r8,dq⟩:=q;exact un σ2 H2 _ I8 fun s9 I9=>⟨v,_,H2,I9,r8,dq⟩
  refine dy (hb E _ ps [] s σ H D (I.eu _) hq) (fun f s1 q=>?_) fun e s1 q=>q;have q':=q.gc;cases f with |next=>exact mh q' |brk=>exact q' |cont=>exact q' |ret u=>exact q'
end
end L2
namespace L2
open PySem PySem.Spec PyProof.Rows PySem.W
section
variable {prog:M7}{w:World}{A:M9}{E:Value->M6->Prop}{h:Heap}{g:Array GenState}{d:Drawn}{t:Nat}{os:OsState}{K:Frag}{x C:Addr}{ox:Obj}{od:Obj}{f:Str}{v:Value}
theorem JK{b:Bool}{Q:Value->M6->Prop}(X:K.In h)(k:g8 K C)(I:InstAt h x ox C (some od))(ha:findIn K (.ref C) f=some none)(hl:lookIn f od=some (some v))(hv:handedIn v=true) (hq:Q v ⟨h,g,d,t+1,os⟩):wpAny (model prog w) A (getAttr (.ref x) f b) Q E ⟨h,g,d,t,os⟩:=by
  have L0:=I.type (M:=model prog w);have L1:=p5 (M:=model prog w) X k.ga;have L2:=p5 (M:=model prog w) X k.gx;have L3:=looks_find (M:=model prog w) X I (findObj_own k.is ha rfl hl);have f3:=uo.ga.bind (.ref x);have si:(Value.builtin "BaseException.__getattribute__"==Value.builtin "object.__getattribute__")=false:=by decide+kernel
  have sj:(b&&onTheHeap (Value.builtin "BaseException.__getattribute__"))=false:=by cases b<;>rfl
  unfold getAttr getAttrBy;refine ag (wpAny_mkText (dN (ag (L0.at (ag (L1.at ?_))))));show wpAny _ _ (if(onTheHeap (Value.ref C)&&Value.builtin "BaseException.__getattribute__"==Value.builtin "object.__getattribute__")=true then _ else _) _ _ _;rw[si,kx,aC (by decide)];unfold getAttrByItsOwn hookBefore;refine ag ?_;show wpAny _ _ (typeLookup (.ref C) "__getattr__") _ _ _;refine L2.at (ag (wpAny_attempt (dN ?_)));unfold callGetattribute;rw[sj,aC (by decide)];unfold boundAndCalled;rw[f3];refine ag (aM (kg ?_));refine ug uo.ga.plain PySem.F.entry_bexc_ga (yM X k L0 ?_);refine ag (aM (ag (aM (ag (L0.at (ag (L3.at ?_)))))));exact aM (handed_on hv hq)
end
inductive A7(K:Frag)(f:Str)(Q:VK)(x:V)(H1:Hp):Prop |mk (ex:_)(C:_)(dx:_)(fs:_)(i:_)(h0:x= .ref ex)(h1:H1 ex=some (.ext (g9 ex (.ref C) (some dx))))(h2:H1 dx=some (.xd fs))(h3:g8 K C)(h4:findIn K (.ref C) f=some none)(h5:fs.lookup f=some (.int i))(h6:Q (.int i) H1):A7 K f Q x H1
def Cv(K:Frag)(ta:TE)(f:Str):TE:=fun σ H Q=>ta σ H fun x H1=>A7 K f Q x H1
section
variable {X:Cx}{e:Expr}{f:Str}{pos:Pos}{ta:TE}
theorem wV(K:Frag)(hK:X.K=K)(he:PE X e ta)(hb:attributeBase e f X.env (eval e X.env)=eval e X.env:=by rfl):PE X (.Attribute e f pos) (Cv K ta f):=by subst hK;intro pins s σ H Q I h;refine Ky hb (ak (he pins s σ H _ I h) fun u s1 ⟨x,H1,I1,rx,ex,C,dx,fs,i,ee,h1,h2,k,ha,hl,q⟩=>?_);subst ee;obtain rfl:u=Value.ref ex:=rx;obtain⟨⟨o,o1,o2,o3,jQ,o4,o5⟩,_,_⟩:=(show bZ X.prog X.w H1 s1.heap ex (.ext (g9 ex (.ref C) (some dx)))from I1.hok ex _ h1);obtain⟨mA,n1,n2⟩:=(show bZ X.prog X.w H1 s1.heap dx (.xd fs)from I1.hok dx _ h2);obtain⟨od,e1,e2⟩:=Gv n1;have r:=n2 f;rw[hl]at r;cases em:mA f with |none=>rw[em]at r;exact r.elim |some v=>rw[em]at r;obtain⟨t,rfl⟩:=(show∃t,v=Value.int i t from r);have J:InstAt s1.heap ex o C (some od):=⟨o1,o2,by unfold notCls;rw[o4],by rw[o3];exact e1⟩;obtain⟨hp,g,d,tk,os⟩:=s1;exact JK I1.cM k J ha (by rw[e2,em]) rfl ⟨.int i,H1,I1.tok _,⟨t,rfl⟩,q⟩
inductive B7(K:Frag)(xs:List V)(H:Hp)(Q:VK):Prop |mk (ex:Addr)(C:Addr)(dx:Option Addr)(c:V)(cv:Value)(b:Bool)(h0:xs=[.ref ex,c])(h1:H ex=some (.ext (g9 ex (.ref C) dx)))(h2:g8 K C)(h3:Ka c=some cv)(h4:kitOne K (.ref C) cv=some b)(h5:Q (.bl b) H):B7 K xs H Q
def DR(K:Frag):List V->Hp->VK->Prop:=fun xs H Q=>B7 K xs H Q
inductive B6(K:Frag)(xs:List V)(H:Hp)(Q:VK):Prop |mk (ex:Addr)(C:Addr)(p:Addr)(dx:Option Addr)(Ds:List Addr)(b:Bool)(h0:xs=[.ref ex,.ref p])(h1:H ex=some (.ext (g9 ex (.ref C) dx)))(h2:g8 K C)(h3:H p=some (.tup (Ds.map V.ref)))(h4:kitAny K (.ref C) (Ds.map Value.ref)=some b)(h5:Q (.bl b) H):B6 K xs H Q
def DQ(K:Frag):List V->Hp->VK->Prop:=fun xs H Q=>B6 K xs H Q
theorem rY(K:Frag)(hK:X.K=K):bM X (.builtin "isinstance") (fun xs H Q=>DR K xs H Q\/DQ K xs H Q):=by
 subst hK;intro pins s σ H xs us Q I r h;rcases h with⟨ex,C,dx,c,cv,b,rfl,he,k,hc,kb,q⟩|⟨ex,C,p,dx,Ds,b,rfl,he,k,hp,kb,q⟩
 · obtain⟨u,v,rfl,rx,rc⟩:=vals2 r
   cases(show u=Value.ref ex from rx);have hv:v=cv:=by cases c with |ref D=>cases(show v=Value.ref D from rc);exact cf hc |ty n=>cases(show v=Value.type n from rc);exact cf hc |_=>cases hc
   subst hv;obtain⟨o,o1,o2,_⟩:=(I.hok ex _ he).1;exact kia_one (xV k) I.cM ⟨o,o1,o2⟩ kb (fun z=>nomatch z) fun tk=>⟨.bl b,H,I.tok _,rfl,q⟩
 · obtain⟨u,v,rfl,rx,rc⟩:=vals2 r
   cases(show u=Value.ref ex from rx);cases(show v=Value.ref p from rc);obtain⟨o,o1,o2,_⟩:=(I.hok ex _ he).1;obtain⟨_,its,rv,⟨cls,dd,dt,sl⟩,h1,h2,n,h3⟩:=(show bZ X.prog X.w H s.heap p (.tup (Ds.map V.ref))from I.hok p _ hp);simp only at h2 h3;subst h2 h3;have e:=uS rv;subst e;exact kia_tup (xV k) I.cM ⟨o,o1,o2⟩ h1 kb (fun z=>nomatch z) fun tk=>⟨.bl b,H,I.tok _,rfl,q⟩
end
end L2
namespace L2
open PySem PySem.Spec PyProof.Rows
def oX(P:M7)(w:World)(K:M5)(mg:Str->Option Value)(base:Heap)(x:Str)(k:Nat)(sp:Sp):Prop:=∃f fd ps,dZ P w K mg base (ji P w) k f fd ps sp/\mg x=some (.ref f)/\PySem.W.keepIn K (.ref f)=true/\Binds K fd ps []
theorem FA.IC{P:M7}{w:World}{K:M5}{mg:Str->Option Value}{base:Heap}{x:Str}{st:Stmt}{N ps:List Str}{k:Nat}{sp:Sp}(F:FA K mg x st)(S:aW N ps (aK st))(len:∀vs H Q E,sp vs H Q E->vs.length=ps.length) (hb:∀(kV doc pm:Value)(an:Option Addr)(ah ct:Value)(us:List Value),us.length=ps.length->bindArgs (PySem.W.fnOf x x (gv st) (d9 st) (aK st) .none kV doc pm an ah ct) ⟨us,[]⟩=pure (ps.zip us)) (dX:∀(f:Addr)(ah:Value)(A:M9)(outer:List Env)(s:M6)(H:Hp)(vs:List V)(Q:VK)(E:XK),bo k (A.deeper (envOfC x (aK st) s.heap.objs.size f ah))->sp vs H Q E->∃t,cF (dm (ji P w) P w K mg base N x (aK st) f ah A outer s H E) (d9 st) t/\t {nx:=fun _ H'=>Q .au H',rt:=Q} (start N vs) H):oX P w K mg base x (k+1) sp:=by obtain⟨f,fd,hm,F⟩:=F.ex;have lT:=F.binds hb;have kp:=F.kp;obtain⟨oc,od,kV,doc,pm,an,ah,ct,bX,rfl,lk,bO⟩:=F.ex;exact⟨f,_,ps,yW lk bO S len fun A outer s H vs Q E hr bD=>dX f ah A outer s H vs Q E hr bD,hm,kp,lT⟩
section
variable {X:Cx}{k:Nat}{x:Str}{p pos:Pos}{e:Expr}{es:List Expr}{t:TA}{sp:Sp}
def CU(sp:Sp)(E:XK)(t:TA):TE:=fun σ H Q=>t σ H fun vs H1=>sp vs H1 Q E
theorem El{E:XK}(F:oX X.prog X.w X.K X.mg X.base x k sp)(hp:Passes (ji X.prog X.w) X E)(hr:bo k X.A)(hg:Gl X x)(ha:PA X (e::es) t)(dW:(x==("__debug__":Str))=false:=by decide) (he:starEach (e::es) X.env=(false,eval e X.env)::starEach es X.env:=by rfl)(cX:(backTo pos (starEach es X.env)).any (·.1)=false:=by rfl): PE X (.Call (.Name x p) (e::es) [] pos) (CU sp E t):=by
  obtain⟨f,fd,ps,F,hm,hk,hb⟩:=F;have h:=wX (pos:=pos) (p:=p) F hr hg hm hk hb .nil hp ha dW he cX;intro pins s σ H Q I hq;refine h pins s σ H Q I ?_;have e1:(fun(vs:List V) H1=>sp (vs++[]) H1 Q E)=fun vs H1=>sp vs H1 Q E:=by funext vs H1;rw[jn]
  show t σ H fun vs H1=>sp (vs++[]) H1 Q E;rw[e1];exact hq
end
theorem Kb{K:M5}{mg:Str->Option Value}{h:Heap}{x:Str}{C fI:Addr}{bP:List Value}{newId:String}(X:K.In h)(G:h.Ns mainGlobals mg)(a:PySem.W.nsIn K mainGlobals x=some (some (.ref C)))(k:t7 K C fI bP newId=true):jh K mg x C fI bP newId:=⟨km X G a,k⟩
structure fX(k:Nat)(A:M9):Prop where
 dp:A.depth+3*k+5<recursionLimit
 un:A.units+16*k+200<cLine
theorem fX.mono{j k:Nat}{A:M9}(r:fX k A)(h:j<=k):fX j A:=⟨by have:=r.dp;omega,by have:=r.un;omega⟩
theorem bo.mark{k:Nat}{A:M9}(r:bo k A)(v:Option Value):fX k (A.mark v):=⟨r.dp,r.un⟩
theorem fX.deeper{k:Nat}{A:M9}(r:fX (k+1) A)(env:Env):fX k (A.deeper env):=⟨by have:=r.dp;show A.depth+1+3*k+5<_;omega,by have:=r.un;show A.units+3+16*k+200<_;omega⟩
abbrev tw(P:M7)(w:World)(K:M5)(mg:Str->Option Value)(base:Heap)(N:List Str)(qual:Str)(scope:Scope)(f:Addr)(cd:Value)(A:M9)(outer:List Env)(s:M6)(H:Hp):Cx:={(dm dw P w K mg base N qual scope f cd A outer s H (fun _ _ _=>False))with calm:=false,xe:=fun _ _=>False}
def Br(P:M7)(w:World)(K:M5)(mg:Str->Option Value)(base:Heap)(k:Nat)(f:Addr)(fd:FuncData)(ps:List Str)(sp:Sp):Prop:=(∀vs H Q E,sp vs H Q E->vs.length=ps.length)/\∀(A:M9)(outer:List Env)(s:M6)(H:Hp)(args:Args)(us:List Value)(vs:List V)(Q:VK),fX k A->gU P w K mg base A outer s H->BindsTo s fd args (ps.zip us)->Vals vs us->sp vs H Q (fun _ _ _=>False)->codeAny (model P w) A (.call (.ref f) args) (fun r s'=>match r with| .ok (.ret u)=>CE outer P w H s Q u s'|_=>False) s
theorem Jw{P:M7}{w:World}{K:M5}{mg:Str->Option Value}{base:Heap}{k:Nat}{f:Addr}{name qual:Str}{params:Arguments}{body:List Stmt}{scope:Scope}{dV kV doc pm ah ct oc:Value}{an od:Option Addr} {bX:Array (Option Value)}{N ps:List Str}{sp:Sp}(lk:K.lookup f=some ⟨oc,od,.func (PySem.W.fnOf name qual params body scope dV kV doc pm an ah ct),bX⟩)(bO:PySem.W.codeIn K ah qual=true)(S:aW N ps scope)(len:∀vs H Q E,sp vs H Q E->vs.length=ps.length) (dX:∀(A:M9)(outer:List Env)(s:M6)(H:Hp)(vs:List V)(Q:VK),fX k (A.deeper (envOfC qual scope s.heap.objs.size f ah))->sp vs H Q (fun _ _ _=>False)->∃t,cF (tw P w K mg base N qual scope f ah A outer s H) body t/\t {nx:=fun _ H'=>Q .au H',rt:=Q} (start N vs) H): Br P w K mg base (k+1) f (PySem.W.fnOf name qual params body scope dV kV doc pm an ah ct) ps sp:=by
  refine⟨len,fun A outer s H args us vs Q hr e0 hb r bD=>?_⟩;have hl:=len _ _ _ _ bD;have KX:K.In s.heap:=e0.mod.kin.keeps fun b o e=>(e0.bs b o e).1;have lim:s.heap.NoLimit:=e0.mod.nolimit.keeps fun b o e=>(e0.bs b o e).1;have hk:∀y∈ps.zip us,scope.names.lookup y.1=some .local\/(scope.names.lookup y.1=some .cell/\((cellsFrom (s.heap.objs.size+1) scope.names []).lookup y.1).isSome=true):=fun⟨n,v⟩ hy=>by
   rcases S.par n (ph hy).1 with q|q
   ·exact .inl q
   ·exact .inr ⟨q,uj _ _ _ (.inl q)⟩
  refine Bx (by have:=hr.dp;omega) (KX _ _ lk) rfl S.co S.gen rfl (BA KX bO) (hb _ _ _ _ ?_);refine Bt S.kind hk fun env he s1 x=>?_;subst he;refine⟨lim.keeps x.toInCall.keep,codeAny_func ?_⟩;obtain⟨t,ht,hq⟩:=dX A outer s H vs Q (hr.deeper _) bD;have e1:gU P w K mg base {A with handled:=none} outer s H:=⟨e0.frames,e0.mod,e0.bs,e0.bsz,e0.dJ,e0.frf,e0.hok,e0.bare⟩;have I:=rZ (CX:=dw) (A:={A with handled:=none}) (E:=fun _ _ _=>False) S rfl e1 hl r x;have J:Inv (tw P w K mg base N qual scope f ah A outer s H) [] (start N vs) H s1:=⟨⟨I.ok.mod,I.ok.kind,I.ok.glob,I.ok.blt,I.ok.above,I.ok.inj,I.ok.has,I.ok.cab,fun h=>(ba h).elim,Around.frames_deeper e0.frames,I.ok.stk,I.ok.exf,I.ok.bs,I.ok.bsz,I.ok.noex,I.ok.exfs,I.ok.dJ,I.ok.frf⟩,I.os,I.bare,I.base,I.loc,I.cell,I.free,I.freeC,I.pin,I.hok,I.len⟩;refine dy (ht [] s1 (start N vs) H _ J hq) (fun fl s' hs=>?_) fun e s' hs=>hs.elim;cases fl with |ret u=>obtain⟨v,σ',H',J',rv,q⟩:=hs;exact⟨v,H',J'.os,J'.bare,J'.base,J'.hok,rv,q⟩ |next=>obtain⟨σ',H',J',q⟩:=hs;exact⟨V.au,H',J'.os,J'.bare,J'.base,J'.hok,rfl,q⟩ |brk=>obtain⟨_,_,_,q⟩:=hs;exact False.elim q |cont=>obtain⟨_,_,_,q⟩:=hs;exact False.elim q
def oW(P:M7)(w:World)(K:M5)(mg:Str->Option Value)(base:Heap)(x:Str)(k:Nat)(sp:Sp):Prop:=∃f fd ps,Br P w K mg base k f fd ps sp/\mg x=some (.ref f)/\PySem.W.keepIn K (.ref f)=true/\Binds K fd ps []
theorem FA.IB{P:M7}{w:World}{K:M5}{mg:Str->Option Value}{base:Heap}{x:Str}{st:Stmt}{N ps:List Str}{k:Nat}{sp:Sp}(F:FA K mg x st)(S:aW N ps (aK st))(len:∀vs H Q E,sp vs H Q E->vs.length=ps.length) (hb:∀(kV doc pm:Value)(an:Option Addr)(ah ct:Value)(us:List Value),us.length=ps.length->bindArgs (PySem.W.fnOf x x (gv st) (d9 st) (aK st) .none kV doc pm an ah ct) ⟨us,[]⟩=pure (ps.zip us)) (dX:∀(f:Addr)(ah:Value)(A:M9)(outer:List Env)(s:M6)(H:Hp)(vs:List V)(Q:VK),fX k (A.deeper (envOfC x (aK st) s.heap.objs.size f ah))->sp vs H Q (fun _ _ _=>False)->∃t,cF (tw P w K mg base N x (aK st) f ah A outer s H) (d9 st) t/\t {nx:=fun _ H'=>Q .au H',rt:=Q} (start N vs) H):oW P w K mg base x (k+1) sp:=by obtain⟨f,fd,hm,F⟩:=F.ex;have lT:=F.binds hb;have kp:=F.kp;obtain⟨oc,od,kV,doc,pm,an,ah,ct,bX,rfl,lk,bO⟩:=F.ex;exact⟨f,_,ps,Jw lk bO S len fun A outer s H vs Q hr bD=>dX f ah A outer s H vs Q hr bD,hm,kp,lT⟩
section
variable {X:Cx}{k:Nat}{x:Str}{p pos:Pos}{e:Expr}{es:List Expr}{t:TA}{sp:Sp}
def CT(sp:Sp)(t:TA):TE:=fun σ H Q=>t σ H fun vs H1=>sp vs H1 Q (fun _ _ _=>False)
theorem Ek(F:oW X.prog X.w X.K X.mg X.base x k sp)(hr:fX k X.A)(hg:Gl X x)(ha:PA X (e::es) t)(dW:(x==("__debug__":Str))=false:=by decide) (he:starEach (e::es) X.env=(false,eval e X.env)::starEach es X.env:=by rfl)(cX:(backTo pos (starEach es X.env)).any (·.1)=false:=by rfl):PE X (.Call (.Name x p) (e::es) [] pos) (CT sp t):=by
  obtain⟨f,fd,ps,F,hm,hk,hb⟩:=F;intro pins s σ H Q I h;refine uf (lh I hg hm ?_ dW);refine PySem.W.callWith_K (h₀:=X.base) I.ok.mod.kin hk (ak (ha pos pins s σ H _ I h) fun us s1 ⟨vs,H1,I1,r,q⟩=>⟨I1.cM,?_⟩) he cX;have hl:(us++[]).length=ps.length:=by rw[jn,<-r.length];exact F.1 _ _ _ _ q
  have bt:=hb s1 us I1.cM hl;rw[jn]at bt;refine kg (p6 (F.2 X.A X.stack s1 H1 ⟨us,[]⟩ us vs Q hr I1.tj bt r q) fun r s' hq=>?_);cases r with |error e=>exact hq.elim |ok fl=>cases fl with |ret u=>exact I1.after hq |next=>exact hq.elim |brk=>exact hq.elim |cont=>exact hq.elim
end
end L2
namespace Lw
open PySem PySem.Spec PyProof.Rows L2
def top(i:Nat):Stmt:=PySem.Challenge.pw_glidequeue_k54_texts_of_no_items.main.body.getD i (.Pass ⟨0,0,0,0⟩)
section
variable {P:M7}{w:World}{K:M5}{mg:Str->Option Value}{base:Heap}
inductive Ap(vs:List V)(H:Hp)(Q:VK):Prop |mk (p:_)(many:_)(h0:vs=[.ref p,.int many])(h1:cI H p)(h2:1<=many)(h3:many<=10^40)(h4:∀d H',0<=d->d<many->aA p H H'->Q (.int d) H'):Ap vs H Q
def fe:Sp:=fun vs H Q _=>Ap vs H Q
abbrev qe:Stmt:=top 37
theorem vU:aW ["_law_bag_here","_law_many","_law_digit","_law_number","_law_room"] ["_law_bag_here","_law_many"] (aK qe):=bz (by decide+kernel)
theorem EW(F:FA K mg "_law_take" qe)(B:bb mg):aq P w K mg base "_law_take" 1 fe:=by
 refine F.has vU (fun vs H Q E h=>?_) (fun _ _ _ _ _ _=>dn fun _ _=>rfl) (fun f ah A outer s H vs Q E hr h=>?_)
 · obtain⟨p,many,rfl,_⟩:=h
   rfl
 · obtain⟨p,many,rfl,⟨c,m,hp,ok⟩,h1,h2,k⟩:=h
   obtain⟨c0,m0,m1⟩:=id ok;have nd:=vU.nd;refine⟨_,(ai (aR (aO EE (px K (pv 0) ae) ae (aP _)) (ai (pS 2 nd (ay jE (px K (pv 0) ae) (pv 1))) (ai (jA (ay xi (px K (pv 0) ae) (pv 1)) (qX (pv 0) ae set_list)) (ao (aE (pv 2))))) aV) (ai (pS 3 nd ae) (ai (pS 4 nd ae) (ai (E4 jm (aO rg (pv 4) (pv 1) (aP _)) (ai (jA (ay jE (ay nh (ay bT (ay eQ (px K (pv 0) ae) ae) ae) ae) ae) (qX (pv 0) ae set_list)) (ai (pS 3 nd (ay bT (ay eQ (pv 3) ae) (ay jE (ay eQ (ay xi (px K (pv 0) ae) ae) ae) ae))) (ao (pS 4 nd (ay eQ (pv 4) ae)))))) (ao (aE (ay jE (pv 3) (pv 1)))))))),?_⟩;refine⟨_,rfl,.inl ⟨p,_,0,.int c,rfl,rfl,aa.of hp,rfl,_,_,rfl,rfl,_,rfl,?_⟩⟩;refine bH (fun hc=>?_) (fun _=>?_)
   · refine⟨_,rfl,.inl ⟨p,_,0,.int c,rfl,rfl,aa.of hp,rfl,_,rfl,_,_,rfl,rfl,h1,?_⟩⟩
     refine⟨_,rfl,.inl ⟨p,_,0,.int c,rfl,rfl,aa.of hp,rfl,_,rfl,_,_,rfl,rfl,⟨h1,uQ (by omega) h2⟩,?_⟩⟩;refine⟨_,rfl,p,_,0,0,rfl,rfl,hp,rfl,?_⟩;refine⟨_,rfl,?_⟩;exact k _ _ (pA _ (by omega)) (pB _ (by omega)) (aA.upd ⟨Int.ediv_nonneg c0 (by omega),m0,m1⟩)
   · refine C4 (fun σ H2=>∃(v:Option V)(n r:Int),σ=[some (.ref p),some (.int many),v,some (.int n),some (.int r)]/\aA p H H2/\1<=r) (fun σ _=>match σ with|[_,_,_,_,some (.int r)]=>(many-r).toNat|_=>0) ?_ ?_ ?_
     ·exact⟨none,0,1,rfl,.refl ⟨c,m,hp,ok⟩,hG _⟩
     · rintro σ H2 ⟨v,n,r,rfl,bx,nW⟩
       obtain⟨c',m',nZ,Kq,Lv,Lu⟩:=id bx.bag;refine⟨_,rfl,_,rfl,_,_,rfl,rfl,_,rfl,?_⟩;refine bH (fun hc=>?_) (fun hc=>?_)
       · have bf:r<many:=jl hc
         refine⟨_,rfl,.inl ⟨p,_,1,.int m',rfl,rfl,aa.of nZ,rfl,_,_,rfl,rfl,.of_right (e9 (by decide) (by decide)),_,_,rfl,rfl,_,_,rfl,rfl,⟨by decide,by decide,?_⟩,_,_,rfl,rfl,(by show(0:Int)<2147483629;decide),?_⟩⟩
         · have sR:(2:Nat)^64=18446744073709551616:=by decide
           rw[sR];omega
         refine⟨_,rfl,p,_,1,1,rfl,rfl,nZ,rfl,?_⟩;have g0:0<=((m'*48271+7919)^(3:Int).toNat)%2147483629:=pA _ (by decide);have g1:((m'*48271+7919)^(3:Int).toNat)%2147483629<2147483629:=pB _ (by decide);have Kr:aA p H (L2.upd H2 p (.lst [.int c',.int (((m'*48271+7919)^(3:Int).toNat)%2147483629)])):=bx.trans (.upd ⟨Kq,g0,Int.lt_trans g1 (by decide)⟩);refine⟨_,rfl,_,_,rfl,rfl,.of_right (e9 (by decide) (by decide)),_,rfl,.inl ⟨p,_,1,.int _,rfl,rfl,aa.of bR,rfl,_,_,rfl,rfl,⟨by decide,uQ (by decide) (by decide)⟩,_,_,rfl,rfl,.of_right (e9 (by decide) (by decide)),_,_,rfl,rfl,(by show(0:Int)<1073741789;decide),_,_,rfl,rfl,?_⟩⟩;refine⟨_,rfl,_,_,rfl,rfl,.of_right (e9 (by decide) (by decide)),?_⟩;refine⟨⟨v,_,_,rfl,Kr,?_⟩,?_⟩
         ·omega
         · show(many-r*1073741789).toNat<(many-r).toNat
           omega
       · refine⟨_,rfl,_,rfl,_,_,rfl,rfl,h1,?_⟩
         exact k _ _ (pA _ (by omega)) (pB _ (by omega)) bx
     · rintro σ H2 Q1 Q2 hq ⟨v1,e1,v2,e2,i,j,e3,e4,kk,e5,q⟩
       exact⟨v1,e1,v2,e2,i,j,e3,e4,kk,e5,hq _ _ q⟩
inductive AM(K:M5)(vs:List V)(H:Hp)(Q:VK):Prop |mk (a:Addr)(ns:List Int)(at':Int)(h0:vs=[.ref a,.int at'])(h1:aa K H a (ns.map V.int))(h2:ns.length<=63)(h3:0<=at')(h4:at'<=100)(h5:∀p H',H p=none->cI H' p->af H H'->Q (.ref p) H'):AM K vs H Q
def pV(K:M5):Sp:=fun vs H Q _=>AM K vs H Q
abbrev qD:Stmt:=top 36
theorem wB:aW ["_law_script","_law_at","_law_cell","_law_mix","_law_k"] ["_law_script","_law_at"] (aK qD):=bz (by decide+kernel)
theorem yc{ns:List Int}{j:Nat}(h:j<ns.length):∃z,cO (ns.map V.int) (j:Int)=some (.int z):=⟨ns[j],KA (by simp[h])⟩
theorem Fq(F:FA K mg "_law_bag" qD)(B:bb mg):aq P w K mg base "_law_bag" 1 (pV K):=by
 refine F.has wB (fun vs H Q E h=>?_) (fun _ _ _ _ _ _=>dn fun _ _=>rfl) (fun f ah A outer s H vs Q E hr h=>?_)
 · obtain⟨a,ns,at',rfl,_⟩:=h
   rfl
 · obtain⟨a,ns,at',rfl,hS,hlen,h0,h1,k⟩:=h
   obtain⟨j,rfl⟩:∃j:Nat,at'=(j:Int):=⟨at'.toNat,by omega⟩;have nd:=wB.nd;refine⟨_,(ai (pS 2 nd ae) (ai (gG (aR (aO rg (pv 1) (dh K B (a7 (pv 0) a8)) (aP _)) (ao (pS 2 nd (cm (x:="abs") Kn rfl (B.at "abs") PyProof.Rows.boot_abs (a7 (px K (pv 0) (pv 1)) a8)))) aV)) (ai (pS 3 nd (ay bT (ay bT (ay eQ (ay eQ ae (pv 1)) (pv 1)) (ay eQ ae (pv 1))) ae)) (ai (hX jm rfl (gH rfl (B.at "range") (a7 (cm (x:="min") (zH rfl) rfl (B.at "min") PyProof.Rows.boot_min (a7 (dh K B (a7 (pv 0) a8)) (a7 ae a8))) a8)) (bA 4 nd) (ao (pS 3 nd (ay jE (ay nh (ay bT (ay bT (ay eQ (pv 3) ae) (ay jE (px K (pv 0) (pv 4)) ae)) (ay eQ (pv 4) (pv 4))) ae) ae)))) (ai (gG (aR (aO rg (pv 2) (ay nh ae ae) (aP _)) (ao (pS 2 nd ae)) aV)) (ao (aE (cV (a7 (pv 2) (a7 (pv 3) a8)))))))))),?_⟩;refine⟨fun σ H'=>H'=H/\∃c:Int,σ=[some (.ref a),some (.int (j:Int)),some (.int c),none,none]/\0<=c,?_,?_⟩
   · refine⟨_,rfl,_,rfl,a,_,rfl,.inl hS,_,_,rfl,rfl,_,rfl,?_⟩
     refine bH (fun hc=>?_) (fun _=>?_)
     · have hj:(j:Int)<((ns.map V.int).length:Int):=jl hc
       rw[aF]at hj;obtain⟨z,hz⟩:=yc (ns:=ns) (j:=j) (by omega);refine⟨_,rfl,_,rfl,.inl ⟨a,_,_,_,rfl,rfl,hS,hz,z,rfl,?_⟩⟩;exact⟨rfl,_,rfl,by split<;>omega⟩
     ·exact⟨rfl,0,rfl,hG _⟩
   rintro σ H' ⟨rfl,c,rfl,c0⟩;refine⟨_,rfl,_,_,rfl,rfl,.of_left (e9 (by decide) (by decide)),_,rfl,_,_,rfl,rfl,.of_right (e9 (by omega) (by omega)),_,rfl,_,_,rfl,rfl,.of_left (e9 (by decide) (by decide)),_,_,rfl,rfl,_,_,rfl,rfl,?_⟩;refine⟨_,rfl,a,_,rfl,.inl hS,_,_,rfl,_,rfl,?_,?_,?_⟩
   ·split<;>omega
   ·split<;>(try rw[aF])<;>omega
   refine jS (Pv:=fun i σ H2=>H2=H'/\∃(m:Int)(v:Option V),σ=[some (.ref a),some (.int (j:Int)),some (.int c),some (.int m),v]/\0<=m/\m<2147483648) ?_ ?_ ?_
   · refine⟨rfl,_,none,rfl,?_,?_⟩
     · have:(0:Int)<=(j:Int)*(j:Int):=Int.mul_nonneg (by omega) (by omega)
       rw[Int.mul_assoc];omega
     · have:(j:Int)*(j:Int)<=100*100:=Int.mul_le_mul (by omega) (by omega) (by omega) (by omega)
       rw[Int.mul_assoc];omega
   · rintro i σ H2 hi ⟨rfl,m,v,rfl,m0,m1⟩
     have Ik:i<ns.length:=by rw[aF]at hi;split at hi<;>omega
     obtain⟨z,hz⟩:=yc (ns:=ns) (j:=i) Ik;rw[<-Int.zero_add (i:Int)]at hz;have fG:0<=z%2147483647:=pA _ (by decide);have Hm:z%2147483647<2147483647:=pB _ (by decide);have Ig:(0:Int)<=(0+(i:Int))*(0+(i:Int)):=Int.mul_nonneg (by omega) (by omega);have Ih:(0+(i:Int))*(0+(i:Int))<=100*100:=Int.mul_le_mul (by omega) (by omega) (by omega) (by omega);refine⟨_,rfl,_,_,rfl,rfl,.of_right (e9 (by decide) (by decide)),_,rfl,_,rfl,.inl ⟨a,_,_,_,rfl,rfl,hS,hz,_,_,rfl,rfl,(by show(0:Int)<2147483647;decide),_,_,rfl,rfl,_,rfl,_,rfl,_,_,rfl,rfl,.of_right (e9 (by omega) (by omega)),_,_,rfl,rfl,_,_,rfl,rfl,⟨by decide,by decide,?_⟩,_,_,rfl,rfl,(by show(0:Int)<2147483629;decide),?_⟩⟩
     · have sR:(2:Nat)^64=18446744073709551616:=by decide
       rw[sR];generalize(0+(i:Int))*(0+(i:Int))=ii at Ig Ih⊢;generalize z%2147483647=zz at fG Hm⊢;omega
     ·exact⟨rfl,_,_,rfl,pA _ (by decide),Int.lt_trans (pB _ (by decide)) (by decide)⟩
   · rintro σ H2 ⟨rfl,m,v,rfl,m0,m1⟩
     refine⟨fun σ H3=>H3=H2/\∃c:Int,σ=[some (.ref a),some (.int (j:Int)),some (.int c),some (.int m),v]/\0<=c,?_,?_⟩
     · refine⟨_,rfl,_,_,rfl,rfl,⟨by decide,by decide,by decide⟩,_,_,rfl,rfl,_,rfl,?_⟩
       refine bH (fun hc=>?_) (fun _=>?_)
       ·exact⟨rfl,0,rfl,hG _⟩
       ·exact⟨rfl,c,rfl,c0⟩
     rintro σ H3 ⟨rfl,c,rfl,c0⟩;refine⟨_,rfl,_,rfl,(by show 2<=sizeLine;decide),fun p H4 nw=>?_⟩;exact k p H4 nw.no ⟨c,m,nw.at',c0,m0,m1⟩ nw.same
def iX(T:String):Bool:=ck T "int"&& !ck T "bool"
inductive AJ(K:M5)(vs:List V)(H:Hp)(Q:VK):Prop |mk (v:_)(T:_)(h0:vs=[v])(h1:jf K H v T)(h2:Q (.bl (iX T)) H):AJ K vs H Q
def kN(K:M5):Sp:=fun vs H Q _=>AJ K vs H Q
open Tm (numS)
abbrev qq:Stmt:=top 38
theorem wj:aW ["_law_thing"] ["_law_thing"] (aK qq):=bz (by decide+kernel)
abbrev qx:Stmt:=top 14
theorem wt:aW ["thing"] ["thing"] (aK qx):=bz (by decide+kernel)
theorem Ff(F:FA K mg "is_whole" qx)(B:bb mg):aq P w K mg base "is_whole" 1 (kN K):=by
 refine F.has wt (fun vs H Q E h=>?_) (fun _ _ _ _ _ _=>gy fun _=>rfl) (fun f ah A outer s H vs Q E hr h=>?_)
 · obtain⟨v,T,rfl,_⟩:=h
   rfl
 · obtain⟨v,T,rfl,ty,k⟩:=h
   have nd:=wt.nd;refine⟨_,(ao (aE (jC (fC K B (a7 (pv 0) (a7 (fi (x:="int") (v:=.ty "int") rfl (B.at "int") p8 rfl) a8))) (kT (wW (fC K B (a7 (pv 0) (a7 (fi (x:="bool") (v:=.ty "bool") rfl (B.at "bool") PyProof.Rows.boot_bool rfl) a8)))))))),?_⟩;refine⟨_,rfl,.inl ⟨_,T,"int",_,rfl,ty,by decide,rfl,_,rfl,?_⟩⟩;unfold iX at k;refine bH (fun hc=>?_) (fun hc=>?_)
   · refine⟨_,rfl,.inl ⟨_,T,"bool",_,rfl,ty,by decide,rfl,_,rfl,?_⟩⟩
     rw[hc,cj]at k;exact k
   · rw[fc.mpr hc,cA]at k
     exact k
open Ln
def ib(ns:List Int)(sp:Int):M8:=.tuple [.str "line",.tuple (ns.map PyData.int),.int sp]
structure A4(ax:Nat)(m:Int)(ns:List Int):Prop where
 len:ns.length=ax
 bd:∀z∈ns,(z.natAbs:Int)<=m
 nz:∃z∈ns,z≠0
open Rt
def nL(rs:List Int)(r f j t:Int):M8:=.tuple [.tuple (rs.map PyData.int),.int r,.int f,.int j,.int t]
theorem Gk(rs:List Int)(r f j t:Int):dH (nL rs r f j t)=true:=by simp[nL,dH,bB,FW]
theorem Gj{H:Hp}{v:V}{rs:List Int}{r f j t:Int}(h:RD K H v (nL rs r f j t)):∃a b,v= .ref a/\az K H a [.ref b,.int r,.int f,.int j,.int t]/\az K H b (rs.map V.int):=by obtain⟨a,xs,rfl,h1,h2⟩:=h.cS;obtain⟨x1,r1,rfl,e1,h2⟩:=h2.cons_inv;obtain⟨x2,r2,rfl,e2,h2⟩:=h2.cons_inv;obtain⟨x3,r3,rfl,e3,h2⟩:=h2.cons_inv;obtain⟨x4,r4,rfl,e4,h2⟩:=h2.cons_inv;obtain⟨x5,r5,rfl,e5,h2⟩:=h2.cons_inv;cases h2.nil_inv;cases e2.int_inv;cases e3.int_inv;cases e4.int_inv;cases e5.int_inv;obtain⟨b,ys,rfl,h3,h4⟩:=e1.cS;rw[h4.nS]at h3;exact⟨a,b,rfl,h1,h3⟩
structure KZ(rs:List Int)(r f j t:Int):Prop where
 len:rs.length=2\/rs.length=3
 rl:∀z∈rs,1<=z/\z<=100
 r1:1<=r/\r<=50
 f1:1<=f/\f<=50
 j1:1<=j/\j<=50
 t1:1<=t/\t<=100
inductive AD(K:M5)(vs:List V)(H:Hp)(Q:VK):Prop |mk (p:_)(h0:vs=[.ref p])(h1:cI H p)(h2:∀v rs r f j t H',RD K H' v (nL rs r f j t)->KZ rs r f j t->aA p H H'->Q v H'):AD K vs H Q
def pP(K:M5):Sp:=fun vs H Q _=>AD K vs H Q
abbrev Itm:=Option (List Int × Int)
def itR(d:M8)(o:Itm):Prop:=(∃ns sp,d=ib ns sp/\o=some (ns,sp))\/∃w x,d= .tuple [.str w,x]/\(w="wait"\/w="tool"\/w="mark")/\dH x=true/\o=none
theorem rX{d:M8}{ns:List Int}{sp:Int}(h:itR d (some (ns,sp))):d=ib ns sp:=by
 rcases h with⟨Lm,Lh,e1,e2⟩|⟨_,_,_,_,_,e2⟩
 ·cases e2;exact e1
 ·cases e2
theorem mP{H:Hp}:∀{xs:List V}{zs:List Str},aj K H xs (zs.map PyData.str)->xs=zs.map V.str |xs,[],h=>h.nil_inv |xs,n::ns,h=>by obtain⟨y,ys,rfl,h1,h2⟩:=h.cons_inv;rw[h1.str_inv,mP h2];rfl
def dM:Str:="abcdefghijklmnopqrstuvwxyz"
theorem KO:dM.cps.toList.length=26:=by decide+kernel
theorem zT{α:Type}{xs:List α}{x:α}(h:xs.getLast? =some x):cO xs (-1)=some x:=by
 unfold cO gm;have hl:xs≠[]:=by intro e;rw[e]at h;cases h
 have h0:0<xs.length:=uD.mpr hl;rw[aC (by decide),aH (by omega)];rw[List.getLast?_eq_getElem?]at h;show xs[((-1:Int)+(xs.length:Int)).toNat]? =some x;have e:((-1:Int)+(xs.length:Int)).toNat=xs.length-1:=by omega
 rw[e];exact h
theorem mD:ck "tuple" "tuple"=true:=by decide
theorem C3(d:M8):(∃i,d= .int i/\iX (df d)=true)\/(iX (df d)=false/\∀i,d≠ .int i):=by cases d with |int i=>exact .inl ⟨i,rfl,by simp[df];decide⟩ |_=>exact .inr ⟨by simp[df];decide,fun _ z=>nomatch z⟩
theorem uY(d:M8):(∃ds,d= .tuple ds)\/(ck (df d) "tuple"=false/\∀ds,d≠ .tuple ds):=by cases d with |tuple ds=>exact .inl ⟨ds,rfl⟩ |_=>exact .inr ⟨by simp[df];decide,fun _ z=>nomatch z⟩
def bI(lo hi:Int):M8->Bool | .int i=>decide (lo<=i)&&decide (i<=hi) |_=>false
theorem He{lo hi:Int}{d:M8}(h:∀i,d≠ .int i):bI lo hi d=false:=by cases d<;>first|rfl|exact absurd rfl (h _)
inductive Ak(K:M5)(vs:List V)(H:Hp)(Q:VK):Prop |mk (v:_)(d:_)(lo:_)(hi:_)(h0:vs=[v,.int lo,.int hi])(h1:RD K H v d)(h2:Q (.bl (bI lo hi d)) H):Ak K vs H Q
def kM(K:M5):Sp:=fun vs H Q _=>Ak K vs H Q
abbrev qa:Stmt:=top 15
theorem vQ:aW ["thing","low","high"] ["thing","low","high"] (aK qa):=bz (by decide+kernel)
theorem ER(F:FA K mg "is_whole_within" qa)(B:bb mg)(HZ:aq P w K mg base "is_whole" 1 (kN K)):aq P w K mg base "is_whole_within" 2 (kM K):=by
 refine F.has vQ (fun vs H Q E h=>?_) (fun _ _ _ _ _ _=>zX fun _ _ _=>rfl) (fun f ah A outer s H vs Q E hr h=>?_)
 · obtain⟨v,d,lo,hi,rfl,_⟩:=h
   rfl
 · obtain⟨v,d,lo,hi,rfl,rd,k⟩:=h
   have nd:=vQ.nd;refine⟨_,(ao (aE (jC (pf HZ hr (a7 (pv 0) a8)) (kT (En gj gj (pv 1) (pv 0) (pv 2)))))),?_⟩;refine⟨_,rfl,_,_,rfl,rd.ty,_,rfl,?_⟩;rcases C3 d with⟨i,rfl,e⟩|⟨e,hn⟩
   · cases rd.int_inv
     rw[e];refine aJ ?_;have k:Q (.bl (decide (lo<=i)&&decide (i<=hi))) H:=k;refine⟨_,rfl,_,rfl,_,_,rfl,rfl,_,rfl,?_⟩;refine bH (fun hc=>?_) (fun hc=>?_)
     · have eU:decide (lo<=i)=true:=hc
       rw[eU,cj]at k;exact⟨_,rfl,_,_,rfl,rfl,k⟩
     · have eU:decide (lo<=i)=false:=fc.mpr hc
       rw[eU,cA]at k;exact k
   · rw[e]
     refine aB ?_;rw[He hn]at k;exact k
open Cn
open Pn
open Wk
theorem Gi{H:Hp}{v:V}{rs:List Int}{es:List M8}(h:RD K H v (.tuple (.tuple (rs.map PyData.int)::es))):∃a b ys,v= .ref a/\az K H a (.ref b::ys)/\az K H b (rs.map V.int):=by obtain⟨a,xs,rfl,h1,h2⟩:=h.cS;obtain⟨x1,r1,rfl,e1,h2⟩:=h2.cons_inv;obtain⟨b,ys,rfl,h3,h4⟩:=e1.cS;rw[h4.nS]at h3;exact⟨a,b,r1,rfl,h1,h3⟩
def bU(z:Str):M8->Bool | .str x=>x==z |_=>false
theorem oB(z:Str)(d:M8):PyData.eqv d (.str z)=bU z d:=by cases d<;>simp[PyData.eqv,bU]
theorem oA(z:Str)(d:M8):PyData.eqv (.str z) d=bU z d:=by cases d<;>simp[PyData.eqv,bU];rw[dB];simp;exact eq_comm
theorem D4(d:M8):(∃z,d= .str z)\/(ck (df d) "str"=false/\∀z,d≠ .str z):=by cases d with |str z=>exact .inl ⟨z,rfl⟩ |_=>exact .inr ⟨by simp[df];decide,fun _ z=>nomatch z⟩
theorem pH:ck "str" "str"=true:=by decide
def lE(d:M8):Bool:=bU "up" d||bU "down" d
def eR(c:Nat):Bool:=decide (97<=c)&&decide (c<=122)
def isNm:M8->Bool | .str x=>(decide (1<=x.length)&&decide (x.length<=8))&&x.cps.toList.all eR |_=>false
def fE(wd v:M8):Bool:=if bU "wait" wd then bI 1 1000 v else if bU "tool" wd then lE v else bU "mark" wd&&isNm v
def i6:M8->Bool | .int i=>i !=0 |_=>true
def gJ(n:Nat):M8->Bool | .tuple ds=>(ds.length==n&&ds.all (bI (-100) 100))&&ds.any i6 |_=>false
def dI(n:Nat):M8->Bool | .tuple [wd,a,b]=>bU "line" wd&&(gJ n a&&bI 1 20 b) | .tuple [wd,v]=>fE wd v |_=>false
def eD:M8->Bool | .str x=>decide (x.length<=900) |_=>true
def mW:M8->Bool | .tuple ds=>ds.all eD |_=>true
inductive An(f:M8->Bool)(K:M5)(vs:List V)(H:Hp)(Q:VK):Prop |mk (v:_)(d:_)(h0:vs=[v])(h1:RD K H v d)(h2:eD d=true)(h3:∀H',af H H'->Q (.bl (f d)) H'):An f K vs H Q
def vx(f:M8->Bool)(K:M5):Sp:=fun vs H Q _=>An f K vs H Q
theorem Di{z:Str}(h:eD (.str z)=true):z.length<=900:=jl h
theorem nK(n:Nat):decide ((1:Int)<=(n:Int))=decide (1<=n):=by rw[dB];simp;omega
theorem xG(n:Nat):decide ((n:Int)<=8)=decide (n<=8):=by rw[dB];simp;omega
theorem zW{l:List Nat}{f:Nat->Bool}:(l.map f).all id=l.all f:=by rw[List.all_map];rfl
theorem KN:∀c<128,decide (c∈dM.cps.toList)=eR c:=by decide+kernel
theorem KQ:∀c∈dM.cps.toList,c<128:=by decide+kernel
theorem KP(c:Nat):decide (c∈dM.cps.toList)=eR c:=by
 by_cases h:c<128
 ·exact KN c h
 ·rw[bu (fun hc=>h (KQ c hc)),eR,bu (show¬c<=122 by omega),kx]
abbrev qA:Stmt:=top 26
theorem wy:aW ["thing"] ["thing"] (aK qA):=bz (by decide+kernel)
theorem Fm(F:FA K mg "is_name" qA)(B:bb mg)(IZ:GV mg "LONGEST_NAME" (.int 8))(J0:GV mg "LETTERS" (.str dM)):aq P w K mg base "is_name" 1 (vx isNm K):=by
 refine F.has wy (fun vs H Q E h=>?_) (fun _ _ _ _ _ _=>gy fun _=>rfl) (fun f ah A outer s H vs Q E hr h=>?_)
 · obtain⟨v,d,rfl,_⟩:=h
   rfl
 · obtain⟨v,d,rfl,rd,sh,k⟩:=h
   have nd:=wy.nd;refine⟨_,(ai (aR (PW.pt (fB (eF (dE (fC K B (a7 (pv 0) (a7 (fi (x:="str") (v:=.ty "str") rfl (B.at "str") mn rfl) a8))))) (gF (eF (kR gj gj ae (cm (x:="len") jY rfl (B.at "len") kl (a7 (pv 0) a8)) (cE (x:="LONGEST_NAME") rfl IZ)))))) (ao (aE i4)) aV) (ao (aE (cm (x:="all") (tV K rfl rfl) rfl (B.at "all") BG (a7 (fh (N:=["letter"]) (js:=[none]) rfl rfl rfl (kS (pv 0)) (fun _ _ _ _ _=>(bA 0 (gK _))) (fun _ _ _ _ _=>eO) (fun _ _ _ _ _=>(i3 xh (pv 0) (cE (x:="LETTERS") rfl J0) (by with_unfolding_all rfl)))) a8))))),?_⟩;rcases D4 d with⟨z,rfl⟩|⟨ht,hn⟩
   · refine⟨_,rfl,.inl ⟨_,_,"str",true,rfl,rd.ty,by decide,pH,_,rfl,aB ?_⟩⟩
     cases rd.str_inv;have hl:=Di sh;have k:∀H',af H H'->Q (.bl ((decide (1<=z.length)&&decide (z.length<=8))&&z.cps.toList.all eR)) H':=k;refine⟨_,rfl,z,rfl,bG hl (by decide),_,_,rfl,rfl,_,rfl,?_⟩;refine bH (fun h1=>?_) (fun h1=>?_)
     · rw[<-nK,show decide ((1:Int)<=(z.length:Int))=true from h1,cj]at k
       refine⟨_,_,rfl,rfl,_,rfl,?_⟩;rw[xG];cases e8:decide (z.length<=8)with |false=>rw[e8,cA]at k;exact aJ (k H (af.refl _)) |true=>
         rw[e8,cj]at k;refine aB ⟨_,rfl,z,rfl,fun D H0 nw=>?_⟩;refine tE (f:=eR) [] nw (by omega) (fun c H2 Q' hc s2 hq=>?_) (fun H2 s2 d2=>?_)
         · refine⟨_,rfl,c,dM,rfl,rfl,?_⟩
           rw[KP];exact hq _ (af.refl _)
         · refine⟨D,_,rfl,aa.of d2,?_⟩
           rw[zW];exact k H2 s2
     · rw[<-nK,show decide ((1:Int)<=(z.length:Int))=false from fc.mpr h1,cA,cA]at k
       exact⟨_,rfl,aJ (k H (af.refl _))⟩
   · have e:isNm d=false:=by cases d<;>first|rfl|exact absurd rfl (hn _)
     rw[e]at k;refine⟨_,rfl,.inl ⟨_,_,"str",false,rfl,rd.ty,by decide,ht,_,rfl,aJ ?_⟩⟩;exact k H (af.refl _)
inductive Au(K:M5)(vs:List V)(H:Hp)(Q:VK):Prop |mk (x:_)(v:_)(wd:_)(d:_)(h0:vs=[x,v])(h1:RD K H x wd)(h2:RD K H v d)(h3:aY 8 wd)(h4:aY 8 d)(h5:eD d=true)(h6:∀H',af H H'->Q (.bl (fE wd d)) H'):Au K vs H Q
def vA(K:M5):Sp:=fun vs H Q _=>Au K vs H Q
theorem hW{d:M8}(h:aY 8 d):SeqAt.shaped d=true:=h.shaped (by decide)
abbrev qy:Stmt:=top 25
theorem wu:aW ["word","value"] ["word","value"] (aK qy):=bz (by decide+kernel)
theorem Fi(F:FA K mg "is_short_item" qy)(B:bb mg)(IY:GV mg "LONGEST_WAIT" (.int 1000))(gS:GT K mg "SIDES" [.str "up",.str "down"])(lO:aq P w K mg base "is_whole_within" 2 (kM K))(Ib:aq P w K mg base "is_name" 1 (vx isNm K)):aq P w K mg base "is_short_item" 3 (vA K):=by
 refine F.has wu (fun vs H Q E h=>?_) (fun _ _ _ _ _ _=>dn fun _ _=>rfl) (fun f ah A outer s H vs Q E hr h=>?_)
 · obtain⟨x,v,wd,d,rfl,_⟩:=h
   rfl
 · obtain⟨x,v,wd,d,rfl,qG,rd,iR,okd,sh,k⟩:=h
   have nd:=wu.nd;obtain⟨aS,IJ,D6⟩:=gS;refine⟨_,(ai (aR (aO (eW K rfl hr.units) (pv 0) aw (aP _)) (ao (aE (pf lO hr (a7 (pv 1) (a7 ae (a7 (cE (x:="LONGEST_WAIT") rfl IY) a8)))))) aV) (ai (aR (aO (eW K rfl hr.units) (pv 0) aw (aP _)) (ao (aE (i3 (Hg K rfl (hr.pF)) (pv 1) (cE (x:="SIDES") rfl IJ) (by with_unfolding_all rfl)))) aV) (ao (aE (jC (i3 (eW K rfl hr.units) (pv 0) aw (aP _)) (kT (pf Ib hr (a7 (pv 1) a8)))))))),?_⟩;have k:∀H',af H H'->Q (.bl (if bU "wait" wd then bI 1 1000 d else if bU "tool" wd then lE d else bU "mark" wd&&isNm d)) H':=k;refine⟨_,rfl,.inr ⟨_,_,qG,bc _,hW iR,by decide+kernel,_,rfl,?_⟩⟩;rw[oB];cases e1:bU "wait" wd with |true=>rw[e1,aH rfl]at k;exact aJ ⟨_,rfl,_,d,1,1000,rfl,rd,k H (af.refl _)⟩ |false=>rw[e1,aC ba]at k;refine aB ⟨_,rfl,.inr ⟨_,_,qG,bc _,hW iR,by decide+kernel,_,rfl,?_⟩⟩;rw[oB];cases e2:bU "tool" wd with
     |true=>
       rw[e2,aH rfl]at k;refine aJ ⟨_,rfl,aS,_,d,[.str "up",.str "down"],rfl,D6 H,rd,bS (bc _) (bS (bc _) cT),hW okd,?_,?_⟩
       · intro e he
         rcases aX.mp he with rfl|he
         ·decide+kernel
         rcases aX.mp he with rfl|he
         ·decide+kernel
         ·exact(cQ he).elim
       · have e:([.str "up",.str "down"]:List M8).any (fun e=>PyData.eqv e d)=lE d:=by rw[gZ,gZ,List.any_nil,oA,oA,Bool.or_false];rfl
         rw[e];exact k H (af.refl _) |false=>rw[e2,aC ba]at k;refine aB ⟨_,rfl,.inr ⟨_,_,qG,bc _,hW iR,by decide+kernel,_,rfl,?_⟩⟩;rw[oB];cases e3:bU "mark" wd with |true=>rw[e3,cj]at k;exact aJ ⟨_,rfl,_,d,rfl,rd,sh,k⟩ |false=>rw[e3,cA]at k;exact aB (k H (af.refl _))
theorem FH(i:Int):(!decide (i=0))=(i !=0):=by rw[dB];simp
theorem Hf{lo hi:Int}{d:M8}(h:bI lo hi d=true):∃i,d= .int i:=by cases d<;>simp[bI]at h;exact⟨_,rfl⟩
theorem any_map'{ds:List M8}{f:M8->Bool}:(ds.map f).any id=ds.any f:=by rw[pw];rfl
inductive Aq(K:M5)(vs:List V)(H:Hp)(Q:VK):Prop |mk (m:V)(v:V)(rs:List Int)(es:List M8)(d:M8)(h0:vs=[m,v])(h1:RD K H m ((.tuple (.tuple (rs.map PyData.int)::es))))(h2:RD K H v d)(h3:rs.length<=3)(h4:∀H',af H H'->Q (.bl (gJ rs.length d)) H'):Aq K vs H Q
def vy(K:M5):Sp:=fun vs H Q _=>Aq K vs H Q
abbrev qE:Stmt:=top 24
theorem wC:aW ["machine","thing","rails"] ["machine","thing"] (aK qE):=bz (by decide+kernel)
theorem Fs(F:FA K mg "are_steps" qE)(B:bb mg)(yA:GV mg "MOST_STEPS" (.int 100))(lO:aq P w K mg base "is_whole_within" 2 (kM K)):aq P w K mg base "are_steps" 3 (vy K):=by
 refine F.has wC (fun vs H Q E h=>?_) (fun _ _ _ _ _ _=>dn fun _ _=>rfl) (fun f ah A outer s H vs Q E hr h=>?_)
 · obtain⟨m,v,rs,es,d,rfl,_⟩:=h
   rfl
 · obtain⟨m,v,rs,es,d,rfl,rm,rd,l3,k⟩:=h
   have nd:=wC.nd;refine⟨_,(ai (pS 2 nd (px K (pv 0) ae)) (ai (aR (PW.pt (fB (eF (dE (fC K B (a7 (pv 1) (a7 (fi (x:="tuple") (v:=.ty "tuple") rfl (B.at "tuple") gC rfl) a8))))) (gF (aO (nH K rfl hr.units) (dh K B (a7 (pv 1) a8)) (dh K B (a7 (pv 2) a8)) (aP _))))) (ao (aE i4)) aV) (ai (aR (eF (dE (cm (x:="all") (tV K rfl rfl) rfl (B.at "all") BG (a7 (fh (N:=["step"]) (js:=[none]) rfl rfl rfl (qV K rfl (pv 1)) (fun _ _ _ _ _=>(bA 0 (gK _))) (fun _ _ _ _ _=>eO) (fun _ _ _ _ _=>(pf lO hr (a7 (pv 0) (a7 (hZ hJ (cE (x:="MOST_STEPS") rfl yA)) (a7 (cE (x:="MOST_STEPS") rfl yA) a8)))))) a8)))) (ao (aE i4)) aV) (ao (aE (cm (x:="any") (zU K rfl rfl) rfl (B.at "any") ur (a7 (fh (N:=["step"]) (js:=[none]) rfl rfl rfl (qV K rfl (pv 1)) (fun _ _ _ _ _=>(bA 0 (gK _))) (fun _ _ _ _ _=>eO) (fun _ _ _ _ _=>(i3 (nH K rfl hr.units) (pv 0) ae (aP _)))) a8))))))),?_⟩;obtain⟨am,ar,ym,rfl,hm,IG⟩:=Gi rm;refine⟨_,rfl,.inr ⟨am,_,0,_,rfl,rfl,hm,da (hG 0) rfl,?_⟩⟩;rcases uY d with⟨ds,rfl⟩|⟨ht,hn⟩
   · refine⟨_,rfl,.inl ⟨_,_,"tuple",true,rfl,rd.ty,by decide,mD,_,rfl,aB ?_⟩⟩
     obtain⟨av,xs,rfl,hx,hd⟩:=rd.cS;have hl:=hd.length;refine⟨_,rfl,av,_,rfl,.inr hx,_,rfl,ar,_,rfl,.inr IG,.inl ⟨_,_,rfl,rfl,_,rfl,?_⟩⟩;have k:∀H',af H H'->Q (.bl ((ds.length==rs.length&&ds.all (bI (-100) 100))&&ds.any i6)) H':=k;have e0:(!decide ((xs.length:Int)=((rs.map V.int).length:Int)))= !(ds.length==rs.length):=by rw[hl,aF];congr 1;rw[dB];simp;omega
     rw[e0];cases e:(ds.length==rs.length)with |false=>rw[e,cA,cA]at k;exact aJ (k H (af.refl _)) |true=>
       rw[e,cj]at k;refine aB ?_;have el:ds.length=rs.length:=cu.mp e;refine⟨_,rfl,av,rfl,⟨_,hx⟩,fun D H0 nw=>?_⟩;refine zv (xs:=xs) (bs:=ds.map (bI (-100) 100)) [] hx nw (by rw[aF,hl]) (by omega) ?_ ?_
       · intro i x b H2 Q' ex eb s2 hq
         obtain⟨d,ed,rfl⟩:=xO eb;obtain⟨x',jU,rx⟩:=hd.get i ed;rw[ex]at jU;cases jU;exact⟨_,rfl,_,rfl,_,d,-100,100,rfl,RD.mono s2 _ rx,hq _ (af.refl _)⟩
       · intro H2 s2 d2
         refine⟨D,_,rfl,aa.of d2,_,rfl,?_⟩;rw[all_map];cases e1:ds.all (bI (-100) 100)with |false=>rw[e1,cA]at k;exact aJ (k H2 s2) |true=>
           rw[e1,cj]at k;refine aB ⟨_,rfl,av,rfl,⟨_,hx.go s2⟩,fun D2 H3 n3=>?_⟩;refine zv (xs:=xs) (bs:=ds.map i6) [] (hx.go s2) n3 (by rw[aF,hl]) (by omega) ?_ ?_
           · intro i x b H4 Q' ex eb s4 hq
             obtain⟨d,ed,rfl⟩:=xO eb;obtain⟨x',jU,rx⟩:=hd.get i ed;rw[ex]at jU;cases jU;obtain⟨z,rfl⟩:=Hf (bV.mp e1 d (eL ed));cases rx.int_inv;refine⟨_,rfl,.inl ⟨_,_,rfl,rfl,?_⟩⟩;show Q' (.bl (!decide (z=0))) H4;rw[FH];exact hq _ (af.refl _)
           · intro H4 s4 d4
             refine⟨D2,_,rfl,aa.of d4,?_⟩;rw[any_map'];exact k H4 (s2.trans s4)
   · have e:gJ rs.length d=false:=by cases d<;>first|rfl|exact absurd rfl (hn _)
     rw[e]at k;refine⟨_,rfl,.inl ⟨_,_,"tuple",false,rfl,rd.ty,by decide,ht,_,rfl,aJ ?_⟩⟩;exact k H (af.refl _)
theorem item_cases(n:Nat)(d:M8):(∃wd a b,d= .tuple [wd,a,b])\/(∃wd v,d= .tuple [wd,v])\/(∃ds,d= .tuple ds/\ds.length≠3/\ds.length≠2/\dI n d=false)\/(ck (df d) "tuple"=false/\dI n d=false):=by
 rcases uY d with⟨ds,rfl⟩|⟨ht,hn⟩
 ·match ds with |[r,a,b]=>exact .inl ⟨r,a,b,rfl⟩ |[r,a]=>exact .inr (.inl ⟨r,a,rfl⟩) |[]=>exact .inr (.inr (.inl ⟨_,rfl,by simp,by simp,by simp[dI]⟩)) |[_]=>exact .inr (.inr (.inl ⟨_,rfl,by simp,by simp,by simp[dI]⟩)) |_::_::_::_::_=>exact .inr (.inr (.inl ⟨_,rfl,by simp,by simp,by simp[dI]⟩))
 ·exact .inr (.inr (.inr ⟨ht,by cases d<;>first|rfl|exact absurd rfl (hn _)⟩))
inductive AH(K:M5)(vs:List V)(H:Hp)(Q:VK):Prop |mk (m:V)(v:V)(rs:List Int)(es:List M8)(d:M8)(h0:vs=[m,v])(h1:RD K H m ((.tuple (.tuple (rs.map PyData.int)::es))))(h2:RD K H v d)(h3:rs.length<=3)(h4:aY 8 d)(h5:mW d=true)(h6:∀H',af H H'->Q (.bl (dI rs.length d)) H'):AH K vs H Q
def pR(K:M5):Sp:=fun vs H Q _=>AH K vs H Q
theorem l2{ds:List M8}(h:aY 8 (.tuple ds)){d:M8}(hd:d∈ds):aY 8 d:=((aY.cS (n:=7) h) d hd).le (by decide)
theorem Dj{ds:List M8}(h:mW (.tuple ds)=true){d:M8}(hd:d∈ds):eD d=true:=bV.mp (show ds.all eD=true from h) d hd
abbrev qB:Stmt:=top 23
theorem wz:aW ["machine","thing","word","steps","speed","value"] ["machine","thing"] (aK qB):=bz (by decide+kernel)
theorem Fo(F:FA K mg "is_item" qB)(B:bb mg)(J3:GV mg "GREATEST_SPEED" (.int 20))(lO:aq P w K mg base "is_whole_within" 2 (kM K))(IE:aq P w K mg base "are_steps" 3 (vy K))(Ia:aq P w K mg base "is_short_item" 3 (vA K)):aq P w K mg base "is_item" 4 (pR K):=by
 refine F.has wz (fun vs H Q E h=>?_) (fun _ _ _ _ _ _=>dn fun _ _=>rfl) (fun f ah A outer s H vs Q E hr h=>?_)
 · obtain⟨m,v,rs,es,d,rfl,_⟩:=h
   rfl
 · obtain⟨m,v,rs,es,d,rfl,rm,rd,l3,okd,sh,k⟩:=h
   have nd:=wz.nd;refine⟨_,(ai (aR (eF (dE (fC K B (a7 (pv 1) (a7 (fi (x:="tuple") (v:=.ty "tuple") rfl (B.at "tuple") gC rfl) a8))))) (ao (aE i4)) aV) (ai (aR (aO (eW K rfl hr.units) (dh K B (a7 (pv 1) a8)) ae (aP _)) (ai (jA (pv 1) (qY K rfl (n:=3) rfl (iO (bA 2 nd) (iO (bA 3 nd) (iO (bA 4 nd) qW))))) (ao (aE (jC (i3 (eW K rfl hr.units) (pv 2) aw (aP _)) (jC (pf IE hr (a7 (pv 0) (a7 (pv 3) a8))) (kT (pf lO hr (a7 (pv 4) (a7 ae (a7 (cE (x:="GREATEST_SPEED") rfl J3) a8)))))))))) aV) (ai (aR (aO (eW K rfl hr.units) (dh K B (a7 (pv 1) a8)) ae (aP _)) (ai (jA (pv 1) (qY K rfl (n:=2) rfl (iO (bA 2 nd) (iO (bA 5 nd) qW)))) (ao (aE (pf Ia hr (a7 (pv 2) (a7 (pv 5) a8)))))) aV) (ao (aE i4))))),?_⟩;rcases item_cases rs.length d with⟨wd,a,b,rfl⟩|⟨wd,a,rfl⟩|⟨ds,rfl,h3,h2,hf⟩|⟨ht,hf⟩
   · refine⟨_,rfl,.inl ⟨_,_,"tuple",true,rfl,rd.ty,by decide,mD,_,rfl,aB ?_⟩⟩
     obtain⟨p,xs,rfl,hx,hd⟩:=rd.cS;obtain⟨u1,ys,rfl,r1,hd⟩:=hd.cons_inv;obtain⟨u2,ys,rfl,r2,hd⟩:=hd.cons_inv;obtain⟨u3,ys,rfl,r3,hd⟩:=hd.cons_inv;cases hd.nil_inv;have k:∀H',af H H'->Q (.bl (bU "line" wd&&(gJ rs.length a&&bI 1 20 b))) H':=k;refine⟨_,rfl,p,_,rfl,.inr hx,.inl ⟨_,_,rfl,rfl,_,rfl,aJ ?_⟩⟩;refine⟨_,rfl,p,_,rfl,hx,rfl,_,_,rfl,_,_,rfl,_,_,rfl,rfl,?_⟩;refine⟨_,rfl,.inr ⟨_,_,r1,bc _,hW (l2 okd (by simp)),by decide+kernel,_,rfl,?_⟩⟩;rw[oB];cases e1:bU "line" wd with |false=>rw[e1,cA]at k;exact aB (k H (af.refl _)) |true=>rw[e1,cj]at k;refine aJ ⟨_,rfl,_,rfl,_,_,rs,es,a,rfl,rm,r2,l3,fun H1 s1=>⟨_,rfl,?_⟩⟩;cases e2:gJ rs.length a with |false=>rw[e2,cA]at k;exact aB (k H1 s1) |true=>rw[e2,cj]at k;exact aJ ⟨_,rfl,_,b,1,20,rfl,RD.mono s1 _ r3,k H1 s1⟩
   · refine⟨_,rfl,.inl ⟨_,_,"tuple",true,rfl,rd.ty,by decide,mD,_,rfl,aB ?_⟩⟩
     obtain⟨p,xs,rfl,hx,hd⟩:=rd.cS;obtain⟨u1,ys,rfl,r1,hd⟩:=hd.cons_inv;obtain⟨u2,ys,rfl,r2,hd⟩:=hd.cons_inv;cases hd.nil_inv;have k:∀H',af H H'->Q (.bl (fE wd a)) H':=k;refine⟨_,rfl,p,_,rfl,.inr hx,.inl ⟨_,_,rfl,rfl,_,rfl,aB ?_⟩⟩;refine⟨_,rfl,p,_,rfl,.inr hx,.inl ⟨_,_,rfl,rfl,_,rfl,aJ ?_⟩⟩;refine⟨_,rfl,p,_,rfl,hx,rfl,_,_,rfl,_,_,rfl,rfl,?_⟩;exact⟨_,rfl,_,rfl,_,_,wd,a,rfl,r1,r2,l2 okd (by simp),l2 okd (by simp),Dj sh (by simp),k⟩
   · rw[hf]at k
     refine⟨_,rfl,.inl ⟨_,_,"tuple",true,rfl,rd.ty,by decide,mD,_,rfl,aB ?_⟩⟩;obtain⟨p,xs,rfl,hx,hd⟩:=rd.cS;have hl:=hd.length;refine⟨_,rfl,p,_,rfl,.inr hx,.inl ⟨_,_,rfl,rfl,_,rfl,?_⟩⟩;rw[show decide ((xs.length:Int)=3)=false from bu (by omega)];refine aB ⟨_,rfl,p,_,rfl,.inr hx,.inl ⟨_,_,rfl,rfl,_,rfl,?_⟩⟩;rw[show decide ((xs.length:Int)=2)=false from bu (by omega)];exact aB (k H (af.refl _))
   · rw[hf]at k
     refine⟨_,rfl,.inl ⟨_,_,"tuple",false,rfl,rd.ty,by decide,ht,_,rfl,aJ ?_⟩⟩;exact k H (af.refl _)
end
end Lw
namespace Lw
open PySem PySem.Spec PyProof.Rows L2 Ln Wk
open Tm (numS numIn? figs isFig Free)
section
variable {P:M7}{w:World}{K:M5}{mg:Str->Option Value}{base:Heap}
def oV:Option Int->V |some i=>.int i |none=>.au
def oD:Option Int->M8 |some i=>.int i |none=>.none
def ja:Str:="0123456789"
theorem JD:∀c<128,decide (c∈ja.cps.toList)=isFig c:=by decide+kernel
theorem JE:∀c∈ja.cps.toList,c<128:=by decide+kernel
theorem yY(c:Nat):decide (c∈ja.cps.toList)=isFig c:=by
 by_cases h:c<128
 ·exact JD c h
 ·rw[bu (fun hc=>h (JE c hc)),isFig,bu (show¬c<=57 by omega),kx]
inductive As(vs:List V)(H:Hp)(Q:VK):Prop |mk (y:Str)(h0:vs=[.str y])(h1:PySem.NumText.AllDigits y.cps.toList)(h2:y.length<=640)(h3:Q (.int ((PySem.NumText.digitsVal y.cps.toList:Nat):Int)) H):As vs H Q
def vz:Sp:=fun vs H Q _=>As vs H Q
abbrev qf:Stmt:=top 34
theorem vV:aW ["figures","size","figure"] ["figures"] (aK qf):=bz (by decide+kernel)
theorem EX(F:FA K mg "size_of" qf)(B:bb mg):aq P w K mg base "size_of" 1 vz:=by
 refine F.has vV (fun vs H Q E h=>?_) (fun _ _ _ _ _ _=>gy fun _=>rfl) (fun f ah A outer s H vs Q E hr h=>?_)
 · obtain⟨y,rfl,_⟩:=h
   rfl
 · obtain⟨y,rfl,hd,hl,k⟩:=h
   have nd:=vV.nd;refine⟨_,(ai (pS 1 nd ae) (ai (hX jm rfl (kS (pv 0)) (bA 2 nd) (ao (pS 1 nd (ay bT (ay eQ ae (pv 1)) (eP (x:="int") zI rfl (B.at "int") p8 (a7 (pv 2) a8)))))) (ao (aE (pv 1))))),?_⟩;have hsz:y.cps.size=y.cps.toList.length:=my.symm;have kE:Wd (10:Int):=by show(10:Nat)<2^5000;decide+kernel
   refine⟨_,rfl,y,rfl,?_⟩;refine Ju (Pv:=fun i σ H'=>H'=H/\∃v2,σ=[some (.str y),some (.int ((PySem.NumText.digitsVal (y.cps.toList.take i):Nat):Int)),v2]) ?_ ?_ ?_
   ·exact⟨rfl,_,rfl⟩
   · rintro i c σ H2 hc ⟨rfl,v2,rfl⟩
     obtain⟨c1,c2⟩:=hd c (eL hc);have hi:i<640:=by have:=(dA.mp hc).1;have e:y.length=y.cps.size:=rfl;omega
     have wv:Wd ((PySem.NumText.digitsVal (y.cps.toList.take i):Nat):Int):=by show Int.natAbs _<2^5000;rw[Int.natAbs_natCast];exact Nat.lt_trans (dz (Nu.zd hd i) (Nat.pow_le_pow_right (by decide) (uw hi))) (by decide+kernel)
     have ei:=Nu.Cd c1 c2;refine⟨_,rfl,_,_,rfl,rfl,IntMulOk.of_bits kE.bits wv.bits,_,rfl,⟨_,_,rfl,ei,by show 1<=640;decide,_,_,rfl,rfl,?_⟩⟩;refine⟨rfl,some (.str ⟨#[c]⟩),?_⟩;rw[Nu.zc hc];show[some (.str y),some (V.int (10*_+_)),_]=_;rw[Int.natCast_add,Int.natCast_mul,Int.mul_comm];rfl
   · rintro σ H2 ⟨rfl,v2,rfl⟩
     refine⟨_,rfl,?_⟩;rw[hsz,BI];exact k
inductive Az(vs:List V)(H:Hp)(Q:VK):Prop |mk (z:Str)(h0:vs=[.str z])(h1:z.length<=640)(h2:∀H',af H H'->Q (oV (numIn? z)) H'):Az vs H Q
def mT:Sp:=fun vs H Q _=>Az vs H Q
abbrev qm:Stmt:=top 33
theorem wc:aW ["word","figures","size"] ["word"] (aK qm):=bz (by decide+kernel)
theorem F7(F:FA K mg "number_in" qm)(B:bb mg)(J5:GV mg "FIGURES" (.str ja))(Hs:aq P w K mg base "size_of" 1 vz):aq P w K mg base "number_in" 2 mT:=by
 refine F.has wc (fun vs H Q E h=>?_) (fun _ _ _ _ _ _=>gy fun _=>rfl) (fun f ah A outer s H vs Q E hr h=>?_)
 · obtain⟨z,rfl,_⟩:=h
   rfl
 · obtain⟨z,rfl,hl,k⟩:=h
   have nd:=wc.nd;have fm:sizeLine=16777216:=by decide
   refine⟨_,(ai (pS 1 nd (Ep K rfl (pv 0) (a7 aw a8))) (ai (aR (PW.pt (fB (aO dj (pv 1) aw (aP _)) (gF (eF (dE (cm (x:="all") (tV K rfl rfl) rfl (B.at "all") BG (a7 (fh (N:=["sign"]) (js:=[none]) rfl rfl rfl (kS (pv 1)) (fun _ _ _ _ _=>(bA 0 (gK _))) (fun _ _ _ _ _=>eO) (fun _ _ _ _ _=>(i3 xh (pv 0) (cE (x:="FIGURES") rfl J5) (by with_unfolding_all rfl)))) a8))))))) (ao (aE cD)) aV) (ai (aR (PW.pt (nc (aO dj (kW nN (pv 1) ae (fun _ _=>rfl)) aw (aP _)) (qT (aO nj (pv 0) aw (aP _))))) (ao (aE cD)) aV) (ai (pS 2 nd (pf Hs hr (a7 (pv 1) a8))) (ao (aE (i2 (dE (Eo K rfl (pv 0) (a7 aw a8))) (hZ hJ (pv 2)) (pv 2)))))))),?_⟩;refine⟨_,rfl,rfl,z,"-",rfl,rfl,by omega,?_⟩;have ef:=Tm.Dx z;generalize hz:Txt.removeprefix z "-"=y at ef;unfold numIn? at k;rw[<-ef]at k;have HK:y.length<=z.length:=by
    have e1:y.cps.toList.length=(figs z).length:=by rw[ef]
    have e2:(figs z).length<=z.cps.toList.length:=by
     unfold figs;split
     ·rename_i h;rw[h];simp
     ·rename_i h _;exact aD _
    simpa[Str.length]using bG (uy e1) e2
   refine⟨_,rfl,rfl,_,rfl,?_⟩;refine bH (fun h0=>?_) (fun h0=>?_)
   · have hy:y="":=by simpa using h0
     rw[hy]at k;exact aJ (k H (af.refl _))
   · have hy:y≠"":=by simpa using h0
     have bJ:y.cps.toList≠[]:=fun e=>hy (Tm.tD (by rw[e];rfl));have he:y.cps.toList.isEmpty=false:=by cases h:y.cps.toList with|nil=>exact(bJ h).elim|cons=>rfl
     rw[he,Bool.false_or]at k;refine⟨_,rfl,y,rfl,fun D H0 nw=>?_⟩;refine tE (f:=isFig) [] nw (by omega) (fun c H2 Q' hc s2 hq=>?_) (fun H2 s2 d2=>?_)
     · refine⟨_,rfl,c,ja,rfl,rfl,?_⟩
       rw[yY];exact hq _ (af.refl _)
     · refine⟨D,_,rfl,aa.of d2,?_⟩
       rw[zW];refine⟨_,rfl,?_⟩;cases hf:y.cps.toList.all isFig with |false=>rw[hf]at k;exact aJ (k H2 s2) |true=>rw[hf]at k;refine aB ?_;obtain⟨n,hn⟩:=Tm.Hd (z:=z) (by rw[<-ef];exact bJ) (by rw[<-ef];exact hf) (by omega);rw[hn]at k;have nv:=Nu.nB ef (by rw[<-ef];exact bJ) (by rw[<-ef];exact hf) (by omega) hn;cases hc:y.cps.toList with |nil=>exact(bJ hc).elim |cons c r=>
           refine⟨_,rfl,y,0,c,rfl,rfl,by omega,da (hG 0) (by rw[hc];rfl),rfl,_,rfl,?_⟩;have e0:decide (y.cps.toList[0]? =some 48)=decide (V.str ⟨#[c]⟩=V.str "0"):=by
            rw[hc,dB];simp only[iD];refine⟨fun h=>?_,fun h=>?_⟩
            · have h:c=48:=by simpa using h
              rw[h];decide+kernel
            · have h:(⟨#[c]⟩:Str)="0":=by simpa using h
              have h2:[c]=[48]:=(f7 (fun z:Str=>z.cps.toList) h).trans (by decide+kernel);simpa using h2
           rw[e0]at k;have e1:(!decide (z="0"))= !decide (V.str z=V.str "0"):=by simp
           rw[e1]at k;cases h1:decide (V.str ⟨#[c]⟩=V.str "0")with
           |true=>rw[h1,cj]at k;refine aJ ⟨_,rfl,rfl,_,rfl,?_⟩;cases h2: !decide (V.str z=V.str "0")with |true=>rw[h2]at k;exact aJ (k H2 s2) |false=>rw[h2]at k;refine aB ⟨_,rfl,y,rfl,Tm.gs hf,by omega,?_⟩;have fin:=k H2 s2;refine⟨_,rfl,rfl,z,"-",rfl,rfl,?_⟩;refine⟨_,rfl,?_⟩;cases hs:Txt.startswith z "-" with |true=>rw[nv,aH hs]at fin;exact aJ ⟨_,rfl,_,rfl,fin⟩ |false=>rw[nv,aC (by rw[hs];decide)]at fin;exact aB ⟨_,rfl,fin⟩
           |false=>rw[h1,cA]at k;refine aB ⟨_,rfl,y,rfl,Tm.gs hf,by omega,?_⟩;have fin:=k H2 s2;refine⟨_,rfl,rfl,z,"-",rfl,rfl,?_⟩;refine⟨_,rfl,?_⟩;cases hs:Txt.startswith z "-" with |true=>rw[nv,aH hs]at fin;exact aJ ⟨_,rfl,_,rfl,fin⟩ |false=>rw[nv,aC (by rw[hs];decide)]at fin;exact aB ⟨_,rfl,fin⟩
inductive Ay(K:M5)(vs:List V)(H:Hp)(Q:VK):Prop |mk (l:Addr)(zs:List Str)(h0:vs=[.ref l])(h1:aa K H l (zs.map V.str))(h2:zs.length<=1000)(h3:(∀z∈zs,z.length<=640))(h4:∀p H',af H H'->H p=none->H' p=some (.lst (zs.map fun z=>oV (numIn? z)))->Q (.ref p) H'):Ay K vs H Q
def vE(K:M5):Sp:=fun vs H Q _=>Ay K vs H Q
theorem jG{H:Hp}(o:Option Int):RD K H (oV o) (oD o):=by cases o with |none=>exact dg |some i=>exact eE _
theorem xq{H:Hp}{v:V}{o:Option Int}(h:RD K H v (oD o)):v=oV o:=by cases o with |none=>exact h.nE |some i=>exact h.int_inv
theorem xp{H:Hp}:∀{xs:List V}{zs:List Str},aj K H xs (zs.map fun z=>oD (numIn? z))->xs=zs.map fun z=>oV (numIn? z) |xs,[],h=>h.nil_inv |xs,n::ns,h=>by obtain⟨y,ys,rfl,h1,h2⟩:=h.cons_inv;rw[xq h1,xp h2];rfl
theorem FE(zs:List Str):bB (zs.map fun z=>oD (numIn? z))=true:=dG.mpr fun d hd=>by obtain⟨z,_,rfl⟩:=bN.mp hd;cases numIn? z<;>rfl
abbrev qj:Stmt:=top 32
theorem vZ:aW ["words"] ["words"] (aK qj):=bz (by decide+kernel)
theorem F2(F:FA K mg "numbers_in" qj)(B:bb mg)(sy:aq P w K mg base "number_in" 2 mT):aq P w K mg base "numbers_in" 3 (vE K):=by
 refine F.has vZ (fun vs H Q E h=>?_) (fun _ _ _ _ _ _=>gy fun _=>rfl) (fun f ah A outer s H vs Q E hr h=>?_)
 · obtain⟨l,zs,rfl,_⟩:=h
   rfl
 · obtain⟨l,zs,rfl,hl,hn,hz,k⟩:=h
   have nd:=vZ.nd;refine⟨_,(ao (aE (fh (N:=["word"]) (js:=[none]) rfl rfl rfl (ng K rfl (pv 0)) (fun _ _ _ _ _=>(bA 0 (gK _))) (fun _ _ _ _ _=>eO) (fun _ _ _ _ _=>(pf sy hr (a7 (pv 0) a8)))))),?_⟩;refine⟨_,rfl,l,rfl,⟨_,hl⟩,fun D H1 n1=>?_⟩;refine zr (K:=K) (ds:=zs.map fun z=>oD (numIn? z)) _ hl n1 (by simp) (by simp;omega) (FE _) ?_ ?_
   · intro i x d H2 Q' ex ed s2 hq
     rw[cg]at ex ed;obtain⟨z,ez,rfl⟩:=mq.mp ex;rw[ez]at ed;cases ed;exact⟨_,rfl,z,rfl,hz z (eL ez),fun H3 s3=>hq _ _ s3 (jG _)⟩
   · intro H2 ys s2 d2 r2
     rw[xp r2]at d2;exact k D H2 s2 n1.no d2
def du(z:Str):Prop:=∀c∈z.cps.toList,c<0x110000
theorem iS{n:Nat}{z:Str}(h:du z):aY n (.str z):=⟨by show PyData.strOk z=true;unfold PyData.strOk;rw[BU];exact fun c hc=>br (h c (by simpa using hc)),bE _⟩
theorem yJ{c x:Nat}:∀{as:List (List Nat)}{a:List Nat},a∈as->x∈a->x∈Tm.gl c as
  |[],a,h,_=>nomatch h |[b],a,h,hx=>by rw[eK.mp h]at hx;exact hx |b::d::r,a,h,hx=>by
    show x∈b++c::Tm.gl c (d::r);rcases aX.mp h with rfl|h
    ·exact pk _ hx
    ·exact eM _ (.tail _ (yJ h hx))
theorem yK{c:Nat}:∀{as:List (List Nat)}{a:List Nat},a∈as->a.length<=(Tm.gl c as).length
  |[],a,h=>nomatch h |[b],a,h=>by rw[eK.mp h];exact aD _ |b::d::r,a,h=>by
    show a.length<=(b++c::Tm.gl c (d::r)).length;rw[de,ft];rcases aX.mp h with rfl|h
    ·omega
    ·have:=yK (c:=c) h;omega
theorem vq(z:Str)(c:Nat):Tm.gl c ((Txt.split z ⟨#[c]⟩).map fun y=>y.cps.toList)=z.cps.toList:=by rw[<-Tm.sV,StrLaws.join_split]
theorem hV{z y:Str}{c:Nat}(h:du z)(hy:y∈Txt.split z ⟨#[c]⟩):du y:=fun x hx=>h x (by rw[<-vq z c];exact yJ (bN.mpr ⟨y,hy,rfl⟩) hx)
theorem split_le{z y:Str}{c:Nat}(hy:y∈Txt.split z ⟨#[c]⟩):y.length<=z.length:=by have:=yK (c:=c) (bN.mpr ⟨y,hy,rfl⟩:y.cps.toList∈(Txt.split z ⟨#[c]⟩).map fun y=>y.cps.toList);rw[vq]at this;simpa[Str.length]using this
theorem dR:(" ":Str)=⟨#[32]⟩:=by decide+kernel
theorem i9:("\n":Str)=⟨#[10]⟩:=by decide+kernel
def nI (z:Str):M8:=oD (numIn? z)
def bW:List Str->M8 |[]=>.none |w::rest=>if w="line" then(match rest with |[]=>.none |r::rs=>.tuple [.str w,.tuple (((r::rs).map nI).take rs.length),((r::rs).map nI).getLastD .none]) else match rest with |[r]=>.tuple [.str w,if w="wait" then nI r else .str r] |_=>.none
def cW(n:Nat)(z:Str):M8:=bif dI n (bW (Txt.split z " "))then bW (Txt.split z " ")else .none
theorem xo{H:Hp}:∀(zs:List Str),aj K H (zs.map fun z=>oV (numIn? z)) (zs.map nI) |[]=>by simp[aj] |z::zs=>by rw[eh,eh,aj];exact⟨_,_,rfl,jG _,xo zs⟩
theorem cK{H:Hp}{x:V}{xs:List V}{d:M8}{ds:List M8}(h:RD K H x d)(r:aj K H xs ds):aj K H (x::xs) (d::ds):=by rw[aj];exact⟨_,_,rfl,h,r⟩
theorem fA{H:Hp}:aj K H [] []:=by simp[aj]
theorem jK{n:Nat}(z:Str):aY n (nI z):=by unfold nI;cases numIn? z with |none=>exact .au |some i=>exact .int i
theorem xJ(z:Str):eD (nI z)=true:=by unfold nI;cases numIn? z<;>rfl
theorem kH:bW ["line"]= .none:=by unfold bW;dsimp only;rw[aH rfl]
theorem mI{r:Str}{rs:List Str}:bW ("line"::r::rs)= .tuple [.str "line",.tuple (((r::rs).map nI).take rs.length),((r::rs).map nI).getLastD .none]:=by unfold bW;dsimp only;rw[aH rfl]
theorem iI{w r:Str}(h:w≠"line"):bW [w,r]= .tuple [.str w,if w="wait" then nI r else .str r]:=by unfold bW;dsimp only;rw[aC h]
theorem hR{w:Str}{ws:List Str}(h:w≠"line")(hl:ws.length≠1):bW (w::ws)= .none:=by
 unfold bW;dsimp only;rw[aC h];split
 ·exact(hl rfl).elim
 ·rfl
theorem Cq{ws:List Str}(h:∀w∈ws,du w/\w.length<=640):aY 8 (bW ws)/\mW (bW ws)=true:=by cases ws with |nil=>exact⟨.au,rfl⟩ |cons w rest=>
   obtain⟨hw,hl⟩:=h w (.head _);have sw:eD (.str w)=true:=br (by omega);by_cases hx:w="line"
   · subst hx
     cases rest with |nil=>rw[kH];exact⟨.au,rfl⟩ |cons r rs=>
       rw[mI];have hm:∀d∈(r::rs).map nI,aY 0 d:=fun d hd=>by obtain⟨z,_,rfl⟩:=bN.mp hd;exact jK z
       have yr:aY 0 (((r::rs).map nI).getLastD .none)/\eD (((r::rs).map nI).getLastD .none)=true:=by rw[uE];cases e:((r::rs).map nI).getLast? with |none=>exact⟨.au,rfl⟩ |some d=>obtain⟨z,_,rfl⟩:=bN.mp (List.mem_of_getLast? e);exact⟨jK z,xJ z⟩
       have hs:cH 2 [.str "line",.tuple (((r::rs).map nI).take rs.length),((r::rs).map nI).getLastD .none]:=fun d hd=>by
        simp only[aX,cQ,gX]at hd;rcases hd with rfl|rfl|rfl
        ·exact iS hw
        ·exact(cH.tup (n:=0) fun d hd=>hm d (kr hd)).le (by decide)
        ·exact yr.1.le (by decide)
       refine⟨hs.tup.le (by decide),?_⟩;show[_,_,_].all eD=true;simp only[jo,uK,uN,sw,yr.2];rfl
   ·match rest,h with
     |[],_=>rw[hR hx (by simp)];exact⟨.au,rfl⟩ |[r],h=>
       rw[iI hx];obtain⟨hr,LJ⟩:=h r (.tail _ (.head _));have hv:aY 0 (if w="wait" then nI r else .str r)/\eD (if w="wait" then nI r else .str r)=true:=by
        split
        ·exact⟨jK r,xJ r⟩
        ·exact⟨iS hr,br (by omega)⟩
       have hs:cH 1 [.str w,if w="wait" then nI r else .str r]:=fun d hd=>by
        simp only[aX,cQ,gX]at hd;rcases hd with rfl|rfl
        ·exact iS hw
        ·exact hv.1.le (by decide)
       refine⟨hs.tup.le (by decide),?_⟩;show[_,_].all eD=true;simp only[jo,uK,uN,sw,hv.2] |_::_::_,_=>rw[hR hx (by simp)];exact⟨.au,rfl⟩
inductive AG(K:M5)(vs:List V)(H:Hp)(Q:VK):Prop |mk (m:V)(rs:List Int)(es:List M8)(z:Str)(h0:vs=[m,.str z])(h1:RD K H m (.tuple (.tuple (rs.map PyData.int)::es)))(h2:bB es=true)(h3:rs.length<=3)(h4:z.length<=600)(h5:du z)(h6:∀v H',af H H'->RD K H' v (cW rs.length z)->Q v H'):AG K vs H Q
def pQ(K:M5):Sp:=fun vs H Q _=>AG K vs H Q
abbrev qw:Stmt:=top 31
theorem wq:aW ["machine","row","word","rest","thing","numbers"] ["machine","row"] (aK qw):=bz (by decide+kernel)
theorem Fg(F:FA K mg "item_in" qw)(B:bb mg)(sy:aq P w K mg base "number_in" 2 mT)(HC:aq P w K mg base "numbers_in" 3 (vE K))(Ic:aq P w K mg base "is_item" 4 (pR K)):aq P w K mg base "item_in" 5 (pQ K):=by
 refine F.has wq (fun vs H Q E h=>?_) (fun _ _ _ _ _ _=>dn fun _ _=>rfl) (fun f ah A outer s H vs Q E hr h=>?_)
 · obtain⟨m,rs,es,z,rfl,_⟩:=h
   rfl
 · obtain⟨m,rs,es,z,rfl,rm,ne,l3,hz,tz,k⟩:=h
   have nd:=wq.nd;have fm:sizeLine=16777216:=by decide
   have fj:∀y∈Txt.split z " ",du y/\y.length<=640:=fun y hy=>by rw[dR]at hy;have:=split_le hy;exact⟨hV tz hy,by omega⟩
   have jN:=split_len z " ";refine⟨_,(ai (jA (jD K rfl (pv 1) (a7 aw a8)) (Eg K rfl rfl (bA 2 nd) (bA 3 nd))) (ai (pS 4 nd cD) (ai (gG (aR (aO dj (pv 2) aw (aP _)) (ai (pS 5 nd (pf HC hr (a7 (pv 3) a8))) (ao (pS 4 nd (i2 (E2 K rfl (pv 5)) (dF (a7 (pv 2) (a7 (eP (x:="tuple") (iH K rfl) rfl (B.at "tuple") gC (a7 (cL (gh K rfl) (pv 5) cU (cC (hZ hJ ae))) a8)) (a7 (px K (pv 5) (hZ hJ ae)) a8)))) cD)))) (ao (aR (aO dj (dh K B (a7 (pv 3) a8)) ae (aP _)) (ao (pS 4 nd (dF (a7 (pv 2) (a7 (i2 (aO dj (pv 2) aw (aP _)) (pf sy hr (a7 (px K (pv 3) ae) a8)) (px K (pv 3) ae)) a8))))) aV)))) (ao (aE (i2 (dE (pf Ic hr (a7 (pv 0) (a7 (pv 4) a8)))) (pv 4) cD)))))),?_⟩;refine⟨_,rfl,rfl,z," ",rfl,rfl,by decide+kernel,by omega,fun l H1 n1=>?_⟩;obtain⟨x,ws,ew⟩:∃x ws,Txt.split z " "=x::ws:=by cases e:Txt.split z " " with |nil=>exact(Tm.kL _ _ e).elim |cons x ws=>exact⟨x,ws,rfl⟩
   unfold cW at k;rw[ew]at n1 fj jN k;rw[ft]at jN;refine⟨l,.str x,ws.map V.str,rfl,aa.of n1.at',by rw[aF];omega,fun p H2 n2=>?_⟩;have s2:=n1.same.trans n2.same;have nT:∀y∈ws,y.length<=640:=fun y hy=>(fj y (.tail _ hy)).2;refine⟨fun σ H3=>∃t w5,σ=[some m,some (.str z),some (.str x),some (.ref p),some t,w5]/\af H H3/\RD K H3 t (bW (x::ws)),?_,?_⟩
   · refine⟨_,rfl,rfl,_,rfl,?_⟩
     refine bH (fun h0=>?_) (fun h0=>?_)
     · have hx:x="line":=by simpa using h0
       subst hx;refine⟨_,rfl,p,ws,rfl,aa.of n2.at',by omega,nT,fun q H3 s3 nq e3=>?_⟩;refine⟨_,rfl,!(ws.map fun z=>oV (numIn? z)).isEmpty,.inl ⟨_,aa.of e3,rfl⟩,?_⟩;cases ws with |nil=>refine aB ⟨.au,_,rfl,s2.trans s3,?_⟩;rw[kH];exact dg |cons r kO=>
         refine aJ ⟨_,rfl,?_⟩;refine⟨_,rfl,1,rfl,_,rfl,q,_,rfl,.inl ⟨aa.of e3,fun q2 H4 n4=>?_⟩⟩;rw[K5]at n4;have G7:=n4.at';refine⟨q2,_,rfl,.inl ⟨aa.of G7,fun q3 H5 n5=>?_⟩⟩;obtain⟨v,ev⟩:∃v,((r::kO).map fun z=>oV (numIn? z)).getLast? =some v:=⟨_,BJ (by simp)⟩;have e5:=n5.same _ _ (n4.same _ _ e3);refine⟨_,rfl,1,rfl,.inl ⟨q,_,-1,v,rfl,rfl,aa.of e5,zT ev,?_⟩⟩;refine⟨by show 3<=sizeLine;omega,fun q6 H6 n6=>?_⟩;have s6:=(((s2.trans s3).trans n4.same).trans n5.same).trans n6.same;refine⟨_,_,rfl,s6,?_⟩;rw[mI];have el:((r::kO).map nI).getLastD .none=oD (numIn? ((r::kO).getLast (by simp))):=by rw[uE,List.getLast?_map,BJ (by simp)];rfl
         have JN:v=oV (numIn? ((r::kO).getLast (by simp))):=by rw[List.getLast?_map,BJ (by simp)]at ev;exact(cf ev).symm
         refine cx (az.of n6.at') (cK (bc _) (cK ?_ (cK ?_ fA)))
         · refine cx (az.of (n6.same _ _ n5.at')) ?_
           rw[aF,ft,Nat.add_sub_cancel];exact(xo (r::kO)).take _
         ·rw[el,JN];exact jG _
     · have hx:x≠"line":=by simpa using h0
       refine⟨_,rfl,p,_,rfl,.inl (aa.of n2.at'),rfl,_,rfl,?_⟩;refine bH (fun h1=>?_) (fun h1=>?_)
       · have sC:ws.length=1:=by have h1:=jl h1;rw[aF]at h1;injection h1 with h1;omega
         match ws,sC,n2,nT,k with
         |[r],_,n2,nT,k=>
           refine⟨_,rfl,_,rfl,rfl,_,rfl,?_⟩;refine bH (fun h2=>?_) (fun h2=>?_)
           · have jM:x="wait":=by simpa using h2
             refine⟨_,rfl,.inl ⟨p,_,0,.str r,rfl,rfl,aa.of n2.at',rfl,?_⟩⟩;refine⟨r,rfl,nT r (.head _),fun H3 s3=>?_⟩;refine⟨by show 2<=sizeLine;omega,fun q6 H6 n6=>?_⟩;refine⟨_,_,rfl,(s2.trans s3).trans n6.same,?_⟩;rw[iI hx,aH jM];exact cx (az.of n6.at') (cK (bc _) (cK (jG _) fA))
           · have jM:x≠"wait":=by simpa using h2
             refine⟨_,rfl,.inl ⟨p,_,0,.str r,rfl,rfl,aa.of n2.at',rfl,?_⟩⟩;refine⟨by show 2<=sizeLine;omega,fun q6 H6 n6=>?_⟩;refine⟨_,_,rfl,s2.trans n6.same,?_⟩;rw[iI hx,aC jM];exact cx (az.of n6.at') (cK (bc _) (cK (bc _) fA))
       · have sC:ws.length≠1:=fun e=>h1 (br (by rw[aF,e];rfl))
         refine⟨.au,_,rfl,s2,?_⟩;rw[hR hx sC];exact dg
   · rintro σ H3 ⟨t,w5,rfl,s3,rt⟩
     have ok:=Cq (ws:=x::ws) fj;refine⟨_,rfl,_,rfl,m,t,rs,es,bW (x::ws),rfl,RD.mono s3 _ rm,rt,l3,ok.1,ok.2,fun H4 s4=>⟨_,rfl,?_⟩⟩;cases hi:dI rs.length (bW (x::ws))with |true=>rw[hi]at k;exact aJ ⟨_,rfl,k _ _ (s3.trans s4) (RD.mono s4 _ rt)⟩ |false=>rw[hi]at k;exact aB (k _ _ (s3.trans s4) dg)
abbrev qi:Stmt:=top 30
theorem vY:aW ["machine","text","told","at","row","item"] ["machine","text"] (aK qi):=bz (by decide+kernel)
end
end Lw
set_option maxHeartbeats 2000000
namespace Lw
open PySem PySem.Spec PyProof.Rows L2 Ln Wk
open Tm (numS numIn? figs isFig Free)
section
variable {P:M7}{w:World}{K:M5}{mg:Str->Option Value}{base:Heap}
def mB:M8->Str | .int i=>numS i | .str z=>z |_=>Str.empty
def i7(ns:List Int):Str:=Txt.join " " (ns.map numS)
def eS:M8->Str | .tuple [.str _,.tuple xs,.int sp]=>"line "++Txt.join " " (xs.map mB)++" "++numS sp | .tuple [.str w,u]=>w++" "++mB u |_=>Str.empty
def Nm (i:Int):Prop:=i.natAbs<10^40
def k9(w:Str):Prop:=w="wait"\/w="tool"\/w="mark"
def tY(w:Str):Prop:=w="tool"\/w="mark"
theorem tY.ok{w:Str}(h:tY w):k9 w:=.inr h
def TI(d:M8):Prop:=(∃ns sp,d=ib ns sp/\ns.length<=3/\(∀n∈ns,Nm n)/\Nm sp)\/(∃w i,d= .tuple [.str w,.int i]/\k9 w/\Nm i)\/∃w z,d= .tuple [.str w,.str z]/\tY w/\z.length<=100
theorem Ge(ns:List Int):(ns.map PyData.int).map mB=ns.map numS:=by rw[pq];rfl
theorem nP(ns:List Int)(sp:Int):eS (ib ns sp)="line "++i7 ns++" "++numS sp:=by show Str.ofString "line "++Txt.join " " ((ns.map PyData.int).map mB)++" "++numS sp=_;rw[Ge];rfl
theorem jH{i:Int}(h:Nm i):(numS i).length<=41:=uW h
theorem xw{ns:List Int}(h:∀n∈ns,Nm n)(hl:ns.length<=3):(i7 ns).length<=126:=by
 have:=rV " " (B:=41) (ns.map numS) (fun z hz=>by obtain⟨n,hn,rfl⟩:=bN.mp hz;exact jH (h n hn));rw[aF]at this;have e:Str.length " "=1:=by decide+kernel
 rw[e]at this;unfold i7;omega
theorem pE{w:Str}(h:k9 w):w.length=4:=by rcases h with rfl|rfl|rfl<;>decide+kernel
theorem y6{d:M8}(h:TI d):(eS d).length<=400:=by
 have e1:Str.length " "=1:=by decide+kernel
 have e2:Str.length "line "=5:=by decide+kernel
 rcases h with⟨ns,sp,rfl,hl,hb,hs⟩|⟨w,i,rfl,hw,hi⟩|⟨w,z,rfl,hw,hz⟩
 · rw[nP]
   have h1:=xw hb hl;have h2:=jH hs;simp only[kh];omega
 · show(w++" "++numS i).length<=400
   have h2:=jH hi;have h3:=pE hw;simp only[kh];omega
 · show(w++" "++z).length<=400
   have h3:=pE hw.ok;simp only[kh];omega
theorem rQ:SeqAt.shaped (.str "line")=true:=by decide+kernel
theorem z6(x y:Str):PyData.eqv (.str x) (.str y)=decide (x=y):=by show(x==y)=decide (x=y);rw[dB];simp
theorem Co{H:Hp}{v:V}{d:M8}(h:RD K H v d)(i:TI d):(∃ns sp a b,d=ib ns sp/\v= .ref a/\az K H a [.str "line",.ref b,.int sp]/\RD K H (.ref b) (.tuple (ns.map PyData.int))/\ns.length<=3/\(∀n∈ns,Nm n)/\Nm sp)\/∃w u a y,d= .tuple [.str w,u]/\k9 w/\v= .ref a/\az K H a [.str w,y]/\RD K H y u/\((∃i,u= .int i/\y= .int i/\Nm i)\/∃z,u= .str z/\y= .str z/\z.length<=100):=by
 rcases i with⟨ns,sp,rfl,hl,hb,hs⟩|⟨w,i,rfl,hw,hi⟩|⟨w,z,rfl,hw,hz⟩
 · obtain⟨a,xs,rfl,h1,h2⟩:=h.cS
   obtain⟨x1,r,rfl,e1,h2⟩:=h2.cons_inv;obtain⟨x2,r,rfl,e2,h2⟩:=h2.cons_inv;obtain⟨x3,r,rfl,e3,h2⟩:=h2.cons_inv;cases h2.nil_inv;cases e1.str_inv;cases e3.int_inv;obtain⟨b,ys,rfl,_,_⟩:=id e2.cS;exact .inl ⟨ns,sp,a,b,rfl,rfl,h1,e2,hl,hb,hs⟩
 · obtain⟨a,xs,rfl,h1,h2⟩:=h.cS
   obtain⟨x1,r,rfl,e1,h2⟩:=h2.cons_inv;obtain⟨x2,r,rfl,e2,h2⟩:=h2.cons_inv;cases h2.nil_inv;cases e1.str_inv;cases e2.int_inv;exact .inr ⟨w,_,a,_,rfl,hw,rfl,h1,e2,.inl ⟨i,rfl,rfl,hi⟩⟩
 · obtain⟨a,xs,rfl,h1,h2⟩:=h.cS
   obtain⟨x1,r,rfl,e1,h2⟩:=h2.cons_inv;obtain⟨x2,r,rfl,e2,h2⟩:=h2.cons_inv;cases h2.nil_inv;cases e1.str_inv;cases e2.str_inv;exact .inr ⟨w,_,a,_,rfl,hw.ok,rfl,h1,e2,.inr ⟨z,rfl,rfl,hz⟩⟩
theorem BZ{w:Str}(h:k9 w):SeqAt.shaped (.str w)=true:=by rcases h with rfl|rfl|rfl<;>decide+kernel
theorem C0{w:Str}(h:k9 w):decide (w="line")=false/\decide (w="step")=false:=by rcases h with rfl|rfl|rfl<;>decide+kernel
theorem FV(zs:List Str):bB (zs.map PyData.str)=true:=dG.mpr fun d hd=>by obtain⟨z,_,rfl⟩:=bN.mp hd;rfl
inductive AF(K:M5)(vs:List V)(H:Hp)(Q:VK):Prop |mk (v:_)(d:_)(h0:vs=[v])(h1:RD K H v d)(h2:TI d)(h3:∀H',af H H'->Q (.str (eS d)) H'):AF K vs H Q
def vI(K:M5):Sp:=fun vs H Q _=>AF K vs H Q
theorem sz:sizeLine=16777216:=by decide
theorem mV:Str.length " "=1:=by decide+kernel
abbrev qs:Stmt:=top 42
theorem wm:aW ["_law_item_here"] ["_law_item_here"] (aK qs):=bz (by decide+kernel)
theorem Fd(F:FA K mg "_law_item_text" qs)(B:bb mg):aq P w K mg base "_law_item_text" 1 (vI K):=by
 refine F.has wm (fun vs H Q E h=>?_) (fun _ _ _ _ _ _=>gy fun _=>rfl) (fun f ah A outer s H vs Q E hr h=>?_)
 · obtain⟨v,d,rfl,_⟩:=h
   rfl
 · obtain⟨v,d,rfl,rv,ti,k⟩:=h
   have nd:=wm.nd;refine⟨_,(ai (aR (aO (eW K rfl hr.units) (px K (pv 0) ae) aw (aP _)) (ao (aE (ay eG (ay eG (ay eG aw (kY K rfl aw (a7 (fh (N:=["_law_step"]) (js:=[none]) rfl rfl rfl (qV K rfl (px K (pv 0) ae)) (fun _ _ _ _ _=>(bA 0 (gK _))) (fun _ _ _ _ _=>eO) (fun _ _ _ _ _=>(eP (x:="str") tH rfl (B.at "str") mn (a7 (pv 0) a8)))) a8))) aw) (eP (x:="str") tH rfl (B.at "str") mn (a7 (px K (pv 0) ae) a8))))) aV) (ao (aE (ay eG (ay eG (px K (pv 0) ae) aw) (eP (x:="str") tH rfl (B.at "str") mn (a7 (px K (pv 0) ae) a8)))))),?_⟩;have hs:=sz;have LS:=mV;have h5:Str.length "line "=5:=by decide+kernel
   rcases Co rv ti with⟨ns,sp,a,b,rfl,rfl,h1,r2,hl,hn,bD⟩|⟨w,u,a,y,rfl,hw,rfl,h1,ry,hv⟩
   · refine⟨_,rfl,.inr ⟨a,_,0,.str "line",rfl,rfl,h1,da (hG 0) rfl,.inr ⟨_,_,bc _,bc _,rQ,rQ,_,rfl,?_⟩⟩⟩
     rw[z6,br rfl];refine aJ ?_;have LR:=xw hn hl;have Jk:=jH bD;obtain⟨b',xs,e',g1,g2⟩:=r2.cS;cases e';rw[g2.nS]at g1;refine⟨rfl,?_⟩;refine⟨_,rfl,.inr ⟨a,_,1,.ref b,rfl,rfl,h1,da (by decide) rfl,b,rfl,⟨_,g1⟩,fun D H1 n1=>?_⟩⟩;refine K7 (K:=K) (ds:=(ns.map numS).map PyData.str) _ g1 n1 (by simp) (by simp;omega) (FV _) ?_ ?_
     · intro i x d H2 Q' ex ed s2 hq
       rw[cg]at ex;obtain⟨n,en,rfl⟩:=mq.mp ex;rw[cg,cg,en]at ed;cases ed;have hn:=hn n (eL en);exact⟨_,rfl,.inl ⟨n,rfl,rO hn,hq _ _ (af.refl _) (bc _)⟩⟩
     · intro H2 zs s2 d2 r2
       rw[mP r2]at d2;refine⟨" ",D,ns.map numS,rfl,rfl,aa.of d2,fun z hz=>?_,by decide+kernel,by rw[aF];omega,?_⟩
       · obtain⟨n,lL,rfl⟩:=bN.mp hz
         have:=jH (hn n lL);omega
       refine⟨_,_,rfl,rfl,by change _+(i7 ns).length<=_;omega,?_⟩;refine⟨_,_,rfl,rfl,by simp only[kh];change _+(i7 ns).length+_<=_;omega,?_⟩;refine⟨_,rfl,.inr ⟨a,_,2,.int sp,rfl,rfl,h1.go s2,da (by decide) rfl,.inl ⟨sp,rfl,rO bD,?_⟩⟩⟩;refine⟨_,_,rfl,rfl,by simp only[kh];change _+(i7 ns).length+_+(numS sp).length<=_;omega,?_⟩;have:=k H2 s2;rw[nP]at this;exact this
   · refine⟨_,rfl,.inr ⟨a,_,0,.str w,rfl,rfl,h1,da (hG 0) rfl,.inr ⟨_,_,bc _,bc _,BZ hw,rQ,_,rfl,?_⟩⟩⟩
     rw[z6,(C0 hw).1];refine aB ?_;have w4:=pE hw;have fin:=k H (af.refl _);refine⟨_,rfl,.inr ⟨a,_,0,.str w,rfl,rfl,h1,da (hG 0) rfl,?_⟩⟩;refine⟨_,_,rfl,rfl,by omega,?_⟩;refine⟨_,rfl,.inr ⟨a,_,1,y,rfl,rfl,h1,da (by decide) rfl,?_⟩⟩;rcases hv with⟨i,rfl,rfl,hi⟩|⟨z,rfl,rfl,hz⟩
     · have Jk:=jH hi
       exact .inl ⟨i,rfl,rO hi,_,_,rfl,rfl,by simp only[kh];change _+(numS i).length<=_;omega,fin⟩
     ·exact .inr ⟨z,rfl,_,_,rfl,rfl,by simp only[kh];omega,fin⟩
end
end Lw
set_option maxHeartbeats 1000000
namespace Lw
open PySem PySem.Spec PyProof.Rows L2 Rt Ln Wk
section
variable {P:M7}{w:World}{K:M5}{mg:Str->Option Value}{base:Heap}
def aG(z:Str):Prop:=∀c∈z.cps.toList,c<0x110000
theorem aG.app{a b:Str}(ha:aG a)(hb:aG b):aG (a++b):=fun c hc=>by rw[kn,mx,eg]at hc;exact hc.elim (ha c) (hb c)
theorem aG.joined{sep:Str}(hs:aG sep):∀l:List Str,(∀a∈l,aG a)->aG (PySem.Str.join sep l) |[],_=>fun c hc=>by simp[PySem.Str.join,PySem.Str.empty]at hc |[x],h=>h x (.head _) |x::y::r,h=>((h x (.head _)).app hs).app (aG.joined hs (y::r) fun a ha=>h a (.tail _ ha))
theorem aG.join{sep:Str}{l:List Str}(hs:aG sep)(h:∀a∈l,aG a):aG (Txt.join sep l):=by show aG (Builtin.Str.glued sep l);rw[kj];exact aG.joined hs l h
theorem EN{n:Nat}{z:Str}(h:aG z):aY n (.str z):=⟨by show PyData.strOk z=true;unfold PyData.strOk;rw[BU];exact fun c hc=>br (h c (by simpa using hc)),bE _⟩
theorem xl{n:Nat}{z:Str}(h:aY n (.str z)):aG z:=fun c hc=>by have q:PyData.strOk z=true:=h.lay;unfold PyData.strOk at q;rw[BU]at q;exact jl (q c (by simpa using hc))
theorem eI{z:Str}(h:z.cps.all (·<0x110000)=true):aG z:=xl (n:=0) ⟨h,bE _⟩
theorem vj:∀(ds:List M8),(∀d∈ds,∃z:Str,d= .str z/\z.length=1/\aG z/\z.cps.toList.all (fun c=>decide (97<=c)&&decide (c<=122))=true)->∃zs:List Str,ds=zs.map PyData.str/\∀z∈zs,z.length=1/\aG z/\z.cps.toList.all (fun c=>decide (97<=c)&&decide (c<=122))=true |[],_=>⟨[],rfl,fun _ h=>nomatch h⟩ |d::ds,h=>by obtain⟨z,rfl,e⟩:=h d (.head _);obtain⟨zs,rfl,q⟩:=vj ds fun x hx=>h x (.tail _ hx);exact⟨z::zs,rfl,fun y hy=>by
     rcases aX.mp hy with rfl|hy
     ·exact e
     ·exact q y hy⟩
theorem KL:aG dM:=eI (by decide+kernel)
def nM(c:Nat):Bool:=decide (97<=c)&&decide (c<=122)
def gk(s:Str):Bool:=(decide (1<=s.length)&&decide (s.length<=8))&&s.cps.toList.all nM
def qZ(w s:Str):Prop:=(w="tool"/\(s="up"\/s="down"))\/(w="mark"/\gk s=true)
def oS(d:M8):Prop:=(∃n,d= .tuple [.str "wait",.int n]/\1<=n/\n<=1000)\/∃w s,d= .tuple [.str w,.str s]/\(w="tool"\/w="mark")/\aY 0 (.str s)/\qZ w s
theorem yI:∀l:List Str,(PySem.Str.join ("":Str) l).cps.toList=(l.map fun z=>z.cps.toList).flatten
  |[]=>by simp[PySem.Str.join,PySem.Str.empty] |[x]=>by simp[PySem.Str.join] |x::y::r=>by
    show((x++("":Str))++PySem.Str.join ("":Str) (y::r)).cps.toList=_;rw[kn,kn,mx,mx,yI (y::r)];have:(("":Str)).cps.toList=[]:=by decide+kernel
    rw[this];simp
theorem G3{l:List Str}(h1:1<=l.length)(h8:l.length<=8)(h:∀z∈l,z.length=1/\z.cps.toList.all nM=true):gk (Txt.join ("":Str) l)=true:=by
 have e:(Txt.join ("":Str) l).cps.toList=(l.map fun z=>z.cps.toList).flatten:=by show(Builtin.Str.glued ("":Str) l).cps.toList=_;rw[kj];exact yI l
 have el:(Txt.join ("":Str) l).length=l.length:=by
  show(Txt.join ("":Str) l).cps.size=_;rw[<-my,e,List.length_flatten,pq];have:∀(l:List Str),(∀z∈l,z.length=1/\z.cps.toList.all nM=true)->(l.map (List.length∘fun z=>z.cps.toList)).sum=l.length:=by intro l;induction l with |nil=>intro _;rfl |cons a r ih=>
     intro h;rw[eh,pg,ih fun z hz=>h z (.tail _ hz),ft];have:=(h a (.head _)).1;have e2:(List.length∘fun z:Str=>z.cps.toList) a=1:=by show a.cps.toList.length=1;rw[my];exact this
     rw[e2,Nat.add_comm]
  exact this l h
 unfold gk;rw[el,e,br h1,br h8,cj,cj,bV];intro c hc;obtain⟨cs,oj,cq⟩:=List.mem_flatten.mp hc;obtain⟨z,hz,rfl⟩:=bN.mp oj;exact bV.mp (h z hz).2 c cq
theorem oS.it{d:M8}(h:oS d):itR d none:=by
 rcases h with⟨n,rfl,_⟩|⟨w,s,rfl,hw|hw,_⟩
 ·exact .inr ⟨_,_,rfl,.inl rfl,rfl,rfl⟩
 ·exact .inr ⟨_,_,rfl,.inr (.inl hw),rfl,rfl⟩
 ·exact .inr ⟨_,_,rfl,.inr (.inr hw),rfl,rfl⟩
structure iz(n:Nat)(d:M8)(o:Itm):Prop where
 it:itR d o
 ln:∀ns sp,o=some (ns,sp)->A4 n 100 ns/\1<=sp/\sp<=20
 ot:o=none->oS d
theorem G2{z:Str}(h:gk z=true):isNm (.str z)=true:=h
theorem KC:∀{ns:List Int},(∃z∈ns,z≠0)->(ns.map PyData.int).any i6=true:=fun{ns} ⟨z,hz,h⟩=>BP.mpr ⟨.int z,bN.mpr ⟨z,hz,rfl⟩,by show(z !=0)=true;simpa using h⟩
theorem KG{ns:List Int}(h:∀z∈ns,(z.natAbs:Int)<=100):(ns.map PyData.int).all (bI (-100) 100)=true:=by rw[bV];intro d hd;obtain⟨z,hz,rfl⟩:=bN.mp hd;have:=h z hz;show(decide (-100<=z)&&decide (z<=100))=true;rw[br (by omega),br (by omega)];rfl
theorem iz.is{n:Nat}{d:M8}{o:Itm}(h:iz n d o):dI n d=true/\aY 8 d/\mW d=true:=by cases o with
 |some q=>
   obtain⟨ns,sp⟩:=q;have ed:=rX h.it;subst ed;obtain⟨fD,s1,s2⟩:=h.ln ns sp rfl;refine⟨?_,?_,rfl⟩
   · show(bU "line" (.str "line")&&(gJ n (.tuple (ns.map PyData.int))&&bI 1 20 (.int sp)))=true
     have e1:bU "line" (.str "line")=true:=by decide+kernel
     have e2:gJ n (.tuple (ns.map PyData.int))=true:=by show(((ns.map PyData.int).length==n&&(ns.map PyData.int).all (bI (-100) 100))&&(ns.map PyData.int).any i6)=true;rw[KG fD.bd,KC fD.nz,aF,fD.len,uh];rfl
     have e3:bI 1 20 (.int sp)=true:=by show(decide (1<=sp)&&decide (sp<=20))=true;rw[br s1,br s2];rfl
     rw[e1,e2,e3];rfl
   · refine(cH.tup (n:=1) (.cons ⟨by decide+kernel,bE _⟩ (.cons (cH.tup (n:=0) fun d hd=>?_) (.cons (.int _) .nil)))).le (by decide)
     obtain⟨a,_,rfl⟩:=bN.mp hd;exact .int _ |none=>
   rcases h.ot rfl with⟨z,rfl,z1,z2⟩|⟨w,s,rfl,hw,jF,on⟩
   · refine⟨?_,(cH.tup (n:=0) (.cons ⟨by decide+kernel,bE _⟩ (.cons (.int _) .nil))).le (by decide),rfl⟩
     show fE (.str "wait") (.int z)=true;unfold fE;rw[aH (by decide+kernel)];show(decide (1<=z)&&decide (z<=1000))=true;rw[br z1,br z2];rfl
   · have GF:eD (.str s)=true:=by
       refine br ?_;rcases on with⟨_,rfl|rfl⟩|⟨_,hn⟩
       ·decide+kernel
       ·decide+kernel
       · unfold gk at hn
         simp only[bQ,iD]at hn;omega
     refine⟨?_,(cH.tup (n:=0) (.cons ?_ (.cons jF .nil))).le (by decide),?_⟩
     · rcases on with⟨rfl,hs⟩|⟨rfl,hn⟩
       · show fE (.str "tool") (.str s)=true
         unfold fE;rw[aC (by decide+kernel),aH (by decide+kernel)];rcases hs with rfl|rfl<;>decide+kernel
       · show fE (.str "mark") (.str s)=true
         unfold fE;rw[aC (by decide+kernel),aC (by decide+kernel)];rw[G2 hn];decide+kernel
     ·rcases hw with rfl|rfl<;>exact⟨by decide+kernel,bE _⟩
     · show([.str w,.str s]:List M8).all eD=true
       rw[jo,jo,uK,GF];rcases hw with rfl|rfl<;>decide+kernel
abbrev qo:Stmt:=top 39
theorem we:aW ["_law_bag_here","_law_axes","_law_far","_law_rails","_law_bounds"] ["_law_bag_here"] (aK qo):=bz (by decide+kernel)
theorem F9(F:FA K mg "_law_machine" qo)(B:bb mg)(aZ:aq P w K mg base "_law_take" 1 fe):aq P w K mg base "_law_machine" 2 (pP K):=by
 refine F.has we (fun vs H Q E h=>?_) (fun _ _ _ _ _ _=>gy fun _=>rfl) (fun f ah A outer s H vs Q E hr h=>?_)
 · obtain⟨p,rfl,_⟩:=h
   rfl
 · obtain⟨p,rfl,bg,k⟩:=h
   have nd:=we.nd;refine⟨_,(ai (pS 1 nd (ay bT ae (pf aZ hr (a7 (pv 0) (a7 ae a8))))) (ai (pS 2 nd (px K (cV (a7 ae (a7 ae a8))) (pf aZ hr (a7 (pv 0) (a7 ae a8))))) (ai (pS 3 nd (eP (x:="tuple") (iH K rfl) rfl (B.at "tuple") gC (a7 (fh (N:=["_law_axis","_law_bag_here","_law_far"]) (js:=[none,some 0,some 2]) rfl rfl rfl (gH rfl (B.at "range") (a7 (pv 1) a8)) (fun _ _ _ _ _=>(bA 0 (show List.Nodup (["_law_axis","_law_bag_here","_law_far"]:List Str) by decide+kernel))) (fun _ _ _ _ _=>eO) (fun _ _ _ _ _=>(ay bT ae (pf aZ hr (a7 (pv 1) (a7 (pv 2) a8)))))) a8))) (ai (pS 4 nd (eP (x:="tuple") (iH K rfl) rfl (B.at "tuple") gC (a7 (fh (N:=["_law_k","_law_bag_here"]) (js:=[none,some 0]) rfl rfl rfl (gH rfl (B.at "range") (a7 ae a8)) (fun _ _ _ _ _=>(bA 0 (jJ (by decide)))) (fun _ _ _ _ _=>eO) (fun _ _ _ _ _=>(ay bT ae (pf aZ hr (a7 (pv 1) (a7 ae a8)))))) a8))) (ao (aE (ay (zE K rfl) (ay (zE K rfl) (dF (a7 (pv 3) a8)) (pv 4)) (dF (a7 (ay bT ae (pf aZ hr (a7 (pv 0) (a7 ae a8)))) a8))))))))),?_⟩;refine⟨_,rfl,p,2,rfl,bg,by decide,by decide,fun t0 H1 Lf Le b1=>?_⟩;refine⟨_,_,rfl,rfl,?_⟩;refine⟨dS rfl,fun l H2 nw=>?_⟩;have b2:aA p H1 H2:=.bh b1.bag nw.same;have Gw:l≠p:=fun e=>b1.bag.ne (e▸nw.no);refine⟨_,rfl,p,2,rfl,b2.bag,by decide,by decide,fun i H3 i0 i1 b3=>?_⟩;obtain⟨oy,mf,ef⟩:=Hc [100,20] i0 i1;have f1:1<=oy/\oy<=100:=by
    rcases aX.mp mf with rfl|mf
    ·exact⟨by decide,by decide⟩
    rcases aX.mp mf with rfl|mf
    ·exact⟨by decide,by decide⟩
    ·exact(cQ mf).elim
   refine .inl ⟨l,_,_,_,rfl,rfl,aa.of (b3.same _ _ Gw nw.at'),ef,?_⟩;refine⟨_,rfl,_,rfl,by omega,by omega,fun D H4 n4=>?_⟩;have hN:(2+t0).toNat<=1000:=by omega
   refine tF (2+t0).toNat [some (.ref p),some (.int oy)] n4 b3.bag hN (fun i=>.int (0+(i:Int))) (fun i H5 hi b5=>⟨hi,fun y H6 ⟨e1,e2⟩=>⟨e1,e2⟩⟩) (fun H5 b5=>aD _) (fun z=>1<=z/\z<=100) ?_ ?_
   · intro i H5 Q' hi b5 hq
     refine⟨_,rfl,_,rfl,p,oy,rfl,b5.bag,f1.1,by omega,fun z H6 z0 z1 b6=>?_⟩;exact⟨_,_,rfl,rfl,hq _ _ ⟨by omega,by omega⟩ b6⟩
   intro H5 rs b5 d5 lr pr;refine⟨D,_,rfl,.inl ⟨aa.of d5,fun q H6 n6=>?_⟩⟩;have b6:aA p H5 H6:=.bh b5.bag n6.same;refine⟨3,rfl,by decide,by decide,fun D2 H7 n7=>?_⟩;refine tF 3 [some (.ref p)] n7 b6.bag (by decide) (fun i=>.int (0+(i:Int))) (fun i H8 hi b8=>⟨hi,fun y H9 ⟨e1,e2⟩=>⟨e1,e2⟩⟩) (fun H8 b8=>aD _) (fun z=>1<=z/\z<=50) ?_ ?_
   · intro i H8 Q' hi b8 hq
     refine⟨_,rfl,p,50,rfl,b8.bag,by decide,by decide,fun z H9 z0 z1 b9=>?_⟩;exact⟨_,_,rfl,rfl,hq _ _ ⟨by omega,by omega⟩ b9⟩
   intro H8 bs b8 d8 lb pb;refine⟨D2,_,rfl,.inl ⟨aa.of d8,fun q2 H9 n9=>?_⟩⟩;have b9:aA p H8 H9:=.bh b8.bag n9.same;refine⟨_,rfl,dS rfl,fun t1 cz cy=>?_⟩;have fU:aA p H9 cz:=.bh b9.bag cy.same
   match bs,lb,pb,n9 with |[x1,x2,x3],_,pb,n9=>have p1:=pb x1 (.head _);have p2:=pb x2 (.tail _ (.head _));have p3:=pb x3 (.tail _ (.tail _ (.head _)));refine⟨_,rfl,t1,q2,_,_,rfl,rfl,az.of cy.at',az.of (cy.same _ _ n9.at'),dS rfl,fun v1 dc fg tW=>?_⟩;have jZ:aA p cz dc:=.bh fU.bag fg;refine⟨_,rfl,p,100,rfl,jZ.bag,by decide,by decide,fun z eY z0 z1 oP=>?_⟩;refine⟨_,_,rfl,rfl,dS rfl,fun t2 kd rK=>?_⟩;have tS:aA p eY kd:=.bh oP.bag rK.same;refine⟨v1,t2,_,_,rfl,rfl,(az.t (aA.t jZ.bag oP) tW).go rK.same,az.of rK.at',dS rfl,fun v2 ud jw KS=>?_⟩;have jd:aA p kd ud:=.bh tS.bag jw;have sq:az K ud q (rs.map V.int):=az.t (aA.t b6.bag (b8.trans (b9.trans (fU.trans (jZ.trans (oP.trans (tS.trans jd))))))) (az.of n6.at');refine k (.ref v2) rs x1 x2 x3 (1+z) ud (cx KS (bS (cx sq (mZ rs)) (bS (eE _) (bS (eE _) (bS (eE _) (bS (eE _) cT)))))) ⟨by omega,pr,p1,p2,p3,by omega⟩ (b1.trans (b2.trans (b3.trans (b5.trans (b6.trans (b8.trans (b9.trans (fU.trans (jZ.trans (oP.trans (tS.trans jd)))))))))))
inductive AA(vs:List V)(H:Hp)(Q:VK):Prop |mk (p:_)(h0:vs=[.ref p])(h1:cI H p)(h2:∀z H',aY 0 (.str z)->gk z=true->aA p H H'->Q (.str z) H'):AA vs H Q
def vF(K:M5):Sp:=fun vs H Q _=>AA vs H Q
abbrev qk:Stmt:=top 40
theorem wa:aW ["_law_bag_here"] ["_law_bag_here"] (aK qk):=bz (by decide+kernel)
theorem F8(F:FA K mg "_law_name" qk)(B:bb mg)(aZ:aq P w K mg base "_law_take" 1 fe):aq P w K mg base "_law_name" 2 (vF K):=by
 refine F.has wa (fun vs H Q E h=>?_) (fun _ _ _ _ _ _=>gy fun _=>rfl) (fun f ah A outer s H vs Q E hr h=>?_)
 · obtain⟨p,rfl,_⟩:=h
   rfl
 · obtain⟨p,rfl,bg,k⟩:=h
   have nd:=wa.nd;refine⟨_,(ao (aE (kY K rfl aw (a7 (fh (N:=["_law_k","_law_bag_here"]) (js:=[none,some 0]) rfl rfl rfl (gH rfl (B.at "range") (a7 (ay bT ae (pf aZ hr (a7 (pv 0) (a7 ae a8)))) a8)) (fun _ _ _ _ _=>(bA 0 (jJ (by decide)))) (fun _ _ _ _ _=>eO) (fun _ _ _ _ _=>(kW nN aw (pf aZ hr (a7 (pv 1) (a7 ae a8))) (fun _ _=>rfl)))) a8)))),?_⟩;refine⟨rfl,?_⟩;refine⟨_,rfl,p,8,rfl,bg,by decide,by decide,fun n H1 n0 n1 b1=>?_⟩;refine⟨_,_,rfl,rfl,_,rfl,by omega,by omega,fun D H2 nD=>?_⟩;refine zt (K:=K) (J:=gT 0 (1+n).toNat) (p:=p) (H:=H1) (1+n).toNat _ nD b1.bag (by omega) (fun i=>.int (0+(i:Int))) (fun i H3 hi _=>⟨hi,fun y H4 ⟨e,q⟩=>⟨e,q⟩⟩) (fun H3 _=>aD _) (fun _ d=>∃z:Str,d= .str z/\z.length=1/\aG z/\z.cps.toList.all (fun c=>decide (97<=c)&&decide (c<=122))=true) ?_ ?_
   · intro i H3 Q' hi b3 hq
     refine⟨_,rfl,p,26,rfl,b3.bag,by decide,by decide,fun d H4 d0 d1 b4=>?_⟩;have hd:d.toNat<dM.cps.toList.length:=by rw[KO];omega
     refine⟨dM,d,dM.cps.toList[d.toNat],rfl,rfl,by decide+kernel,da d0 (fu hd),?_⟩;have Fw:aG ⟨#[dM.cps.toList[d.toNat]]⟩:=fun c hc=>by have eU:c=dM.cps.toList[d.toNat]:=eK.mp hc;rw[eU];exact KL _ (kv hd)
     have Fu:(⟨#[dM.cps.toList[d.toNat]]⟩:Str).cps.toList.all (fun c=>decide (97<=c)&&decide (c<=122))=true:=by have:=bV.mp (show dM.cps.toList.all (fun c=>decide (97<=c)&&decide (c<=122))=true by decide+kernel) _ (kv hd);show([dM.cps.toList[d.toNat]]:List Nat).all _=true;rw[jo,uK,uN];exact this
     exact hq _ _ _ ⟨_,rfl,rfl,Fw,Fu⟩ rfl (bc _) b4
   · intro H3 ys ds b3 d3 r3 l3 nl pd
     obtain⟨zs,rfl,hz⟩:=vj ds fun d hd=>by obtain⟨i,hi⟩:=uB.mp hd;exact pd i d hi
     rw[mP r3]at d3;rw[aF]at l3;refine⟨"",D,zs,rfl,rfl,aa.of d3,fun z fH=>by rw[(hz z fH).1];decide,by decide,by omega,?_⟩;exact k _ _ (EN (aG.join (eI (by decide+kernel)) fun a ha=>(hz a ha).2.1)) (G3 (by omega) (by omega) fun z fH=>⟨(hz z fH).1,(hz z fH).2.2⟩) (b1.trans b3)
inductive AI(K:M5)(vs:List V)(H:Hp)(Q:VK):Prop |mk (p:Addr)(ax:Nat)(h0:vs=[.ref p,.int ax])(h1:cI H p)(h2:1<=ax)(h3:ax<=3)(h4:∀v d o H',RD K H' v d->iz ax d o->aA p H H'->Q v H'):AI K vs H Q
def vJ(K:M5):Sp:=fun vs H Q _=>AI K vs H Q
theorem iz.r0{n:Nat}{d:M8}(h:oS d):iz n d none:=⟨h.it,(fun _ _ z=>nomatch z),fun _=>h⟩
abbrev qv:Stmt:=top 41
theorem wo:aW ["_law_bag_here","_law_axes","_law_sort","_law_speed","_law_most","_law_steps"] ["_law_bag_here","_law_axes"] (aK qv):=bz (by decide+kernel)
theorem Fh(F:FA K mg "_law_item" qv)(B:bb mg)(aZ:aq P w K mg base "_law_take" 1 fe)(Jd:aq P w K mg base "_law_name" 2 (vF K)):aq P w K mg base "_law_item" 3 (vJ K):=by
 refine F.has wo (fun vs H Q E h=>?_) (fun _ _ _ _ _ _=>dn fun _ _=>rfl) (fun f ah A outer s H vs Q E hr h=>?_)
 · obtain⟨p,ax,rfl,_⟩:=h
   rfl
 · obtain⟨p,ax,rfl,bg,LY,zS,k⟩:=h
   have nd:=wo.nd;refine⟨_,(ai (pS 2 nd (pf aZ hr (a7 (pv 0) (a7 ae a8)))) (ai (aR (aO (eW K rfl hr.units) (pv 2) ae (aP _)) (ao (aE (dF (a7 aw (a7 (ay bT ae (pf aZ hr (a7 (pv 0) (a7 ae a8)))) a8))))) aV) (ai (aR (aO (eW K rfl hr.units) (pv 2) ae (aP _)) (ao (aE (dF (a7 aw (a7 (px K (cV (a7 aw (a7 aw a8))) (pf aZ hr (a7 (pv 0) (a7 ae a8)))) a8))))) aV) (ai (aR (aO (eW K rfl hr.units) (pv 2) ae (aP _)) (ao (aE (dF (a7 aw (a7 (pf Jd hr (a7 (pv 0) a8)) a8))))) aV) (ai (pS 3 nd (ay bT ae (pf aZ hr (a7 (pv 0) (a7 ae a8))))) (ai (pS 4 nd (px K (cV (a7 ae (a7 ae (a7 ae a8)))) (pf aZ hr (a7 (pv 0) (a7 ae a8))))) (ai (wO (i0:=5) nd rfl (Or.inl rfl) (N:=["_law_axis","_law_most","_law_bag_here"]) (js:=[none,some 4,some 0]) rfl rfl rfl (gH rfl (B.at "range") (a7 (pv 1) a8)) (fun _ _ _ _ _=>(bA 0 (show List.Nodup (["_law_axis","_law_most","_law_bag_here"]:List Str) by decide+kernel))) (fun _ _ _ _ _=>eO) (fun _ _ _ _ _=>(ay rf (pf aZ hr (a7 (pv 2) (a7 (ay bT (ay eQ ae (pv 1)) ae) a8))) (pv 1)))) (ai (gG (aR (eF (dE (cm (x:="any") (zV K rfl rfl) rfl (B.at "any") ur (a7 (pv 5) a8)))) (ao (jA ae (qX (pv 5) (pf aZ hr (a7 (pv 0) (a7 (pv 1) a8))) set_list))) aV)) (ao (aE (dF (a7 aw (a7 (eP (x:="tuple") (iH K rfl) rfl (B.at "tuple") gC (a7 (pv 5) a8)) (a7 (pv 3) a8)))))))))))))),?_⟩;refine⟨_,rfl,p,6,rfl,bg,by decide,by decide,fun so H1 s0 s1 b1=>?_⟩;refine⟨_,rfl,.inl ⟨_,_,rfl,rfl,_,rfl,?_⟩⟩;refine bH (fun hc=>?_) (fun hc=>?_)
   · refine⟨_,rfl,p,1000,rfl,b1.bag,by decide,by decide,fun n H2 n0 n1 b2=>?_⟩
     refine⟨_,_,rfl,rfl,dS rfl,fun t H3 n3=>?_⟩;exact k (.ref t) _ none H3 (cx (az.of n3.at') (bS (bc _) (bS (eE _) cT))) (.r0 (.inl ⟨_,rfl,by omega,by omega⟩)) (b1.trans (b2.trans (.bh b2.bag n3.same)))
   refine⟨_,rfl,.inl ⟨_,_,rfl,rfl,_,rfl,?_⟩⟩;refine bH (fun hc=>?_) (fun hc=>?_)
   · refine⟨dS rfl,fun c H2 n2=>?_⟩
     have b2:aA p H1 H2:=.bh b1.bag n2.same;have cp:c≠p:=fun z=>b1.bag.ne (z▸n2.no);refine⟨_,rfl,p,2,rfl,b2.bag,by decide,by decide,fun i H3 i0 i1 b3=>?_⟩;have hi:∃z:Str,cO ([.str "up",.str "down"]:List V) i=some (.str z)/\aY 0 (.str z)/\qZ "tool" z:=by
      rcases(show i=0\/i=1 by omega)with rfl|rfl
      ·exact⟨"up",rfl,⟨by decide+kernel,by decide+kernel⟩,.inl ⟨rfl,.inl rfl⟩⟩
      ·exact⟨"down",rfl,⟨by decide+kernel,by decide+kernel⟩,.inl ⟨rfl,.inr rfl⟩⟩
     obtain⟨z,ez,eH,EI⟩:=hi;refine .inl ⟨c,_,_,_,rfl,rfl,aa.of (b3.same _ _ cp n2.at'),ez,dS rfl,fun t H4 n4=>?_⟩;exact k (.ref t) _ none H4 (cx (az.of n4.at') (bS (bc _) (bS (bc _) cT))) (.r0 (.inr ⟨_,_,rfl,.inl rfl,eH,EI⟩)) (b1.trans (b2.trans (b3.trans (.bh b3.bag n4.same))))
   refine⟨_,rfl,.inl ⟨_,_,rfl,rfl,_,rfl,?_⟩⟩;refine bH (fun hc=>?_) (fun hc=>?_)
   · refine⟨_,rfl,p,rfl,b1.bag,fun z H2 eH nz b2=>⟨dS rfl,fun t H3 n3=>?_⟩⟩
     exact k (.ref t) _ none H3 (cx (az.of n3.at') (bS (bc _) (bS (bc _) cT))) (.r0 (.inr ⟨_,_,rfl,.inr rfl,eH,.inr ⟨rfl,nz⟩⟩)) (b1.trans (b2.trans (.bh b2.bag n3.same)))
   refine⟨_,rfl,p,20,rfl,b1.bag,by decide,by decide,fun sp H2 p0 p1 b2=>?_⟩;refine⟨_,_,rfl,rfl,?_⟩;refine⟨dS rfl,fun c H3 n3=>?_⟩;have b3:aA p H2 H3:=.bh b2.bag n3.same;have cp:c≠p:=fun z=>b2.bag.ne (z▸n3.no);refine⟨_,rfl,p,3,rfl,b3.bag,by decide,by decide,fun i H4 i0 i1 b4=>?_⟩;have hm:∃m:Int,cO ([.int 3,.int 20,.int 100]:List V) i=some (.int m)/\1<=m/\m<=100:=by
    rcases(show i=0\/i=1\/i=2 by omega)with rfl|rfl|rfl
    ·exact⟨3,rfl,by decide,by decide⟩
    ·exact⟨20,rfl,by decide,by decide⟩
    ·exact⟨100,rfl,by decide,by decide⟩
   obtain⟨m,em,m1,m2⟩:=hm;refine .inl ⟨c,_,_,_,rfl,rfl,aa.of (b4.same _ _ cp n3.at'),em,?_⟩;have jd:=b1.trans (b2.trans (b3.trans b4));refine⟨_,rfl,_,rfl,by omega,by omega,fun D H5 nD=>?_⟩;refine tF (J:=gT 0 ax) (p:=p) (H:=H4) ax _ nD jd.bag (by omega) (fun i=>.int (0+(i:Int))) (fun i H3 hi _=>⟨hi,fun y H4 ⟨e,q⟩=>⟨e,q⟩⟩) (fun H3 _=>aD _) (fun z=>(z.natAbs:Int)<=m) ?_ ?_
   · intro i H6 Q' hi b6 hq
     refine⟨_,rfl,_,rfl,_,_,rfl,rfl,.of_left (e9 (by decide) (by decide)),_,_,rfl,rfl,p,2*m+1,rfl,b6.bag,by omega,by omega,fun d H7 d0 d1 b7=>?_⟩;exact⟨_,rfl,_,_,rfl,rfl,hq _ _ (by omega) b7⟩
   intro H6 is b6 d6 l6 zP;have tR:=jd.trans b6;have lp:D≠p:=fun z=>jd.bag.ne (z▸nD.no);have nl:H D=none:=by cases e:H D with |none=>rfl |some o=>have:=jd.same _ _ lp e;rw[nD.no]at this;cases this
   refine⟨fun σ H7=>aA p H H7/\∃(is:List Int),H7 D=some (.lst (is.map V.int))/\A4 ax 100 is/\σ=[some (.ref p),some (.int ax),some (.int so),some (.int (1+sp)),some (.int m),some (.ref D)],?_,?_⟩
   · refine⟨_,rfl,D,is,rfl,.inl (aa.of d6),_,rfl,?_⟩
     cases ha:is.any (· !=0)with |false=>
       refine aJ ?_;refine⟨_,rfl,_,rfl,_,rfl,p,(ax:Int),rfl,tR.bag,by omega,by omega,fun ix H7 i0 i1 b7=>?_⟩;have d7:=b7.same _ _ lp d6;refine⟨D,_,ix,ix.toNat,rfl,rfl,d7,?_,?_⟩
       ·unfold gm;rw[aH i0,aH (by rw[aF,l6];exact i1)]
       refine⟨?_,is.set ix.toNat 1,?_,⟨?_,?_,?_⟩,rfl⟩
       · have zR:=tR.trans b7
         refine⟨?_,fun b o n e=>?_⟩
         · obtain⟨c',m',e,ok⟩:=zR.bag
           exact⟨c',m',by rw[aL lp.symm];exact e,ok⟩
         ·rw[aL (cn e nl)];exact zR.same b o n e
       ·rw[bR,List.map_set]
       ·rw[List.length_set];exact l6
       · intro z hz
         rcases List.mem_or_eq_of_mem_set hz with h|h
         ·have:=zP z h;omega
         ·rw[h];decide
       ·exact⟨1,List.mem_iff_getElem.mpr ⟨ix.toNat,by rw[List.length_set];omega,by rw[List.getElem_set_self]⟩,by decide⟩ |true=>refine aB ?_;refine⟨tR,is,d6,⟨l6,fun z hz=>by have:=zP z hz;omega,?_⟩,rfl⟩;obtain⟨z,hz,h0⟩:=BP.mp ha;exact⟨z,hz,by simpa using h0⟩
   rintro σ H7 ⟨b7,is,d7,ok,rfl⟩;refine⟨_,rfl,D,_,rfl,.inl ⟨aa.of d7,fun q H8 n8=>?_⟩⟩;refine⟨_,rfl,dS rfl,fun t H9 n9=>?_⟩;refine k (.ref t) (ib is (1+sp)) (some (is,1+sp)) H9 (cx (az.of n9.at') (bS (bc _) (bS (cx (az.of (n9.same _ _ n8.at')) (mZ is)) (bS (eE _) cT)))) ⟨.inl ⟨is,_,rfl,rfl⟩,fun ns sp e=>by cases e;exact⟨ok,by omega,by omega⟩,fun z=>nomatch z⟩ (b7.trans (.bh b7.bag (n8.same.trans n9.same)))
end
end Lw
set_option maxHeartbeats 2000000
namespace Lw
open PySem PySem.Spec PyProof.Rows L2 Ln Wk
open Tm (numS numIn? figs isFig Free)
section
variable {P:M7}{w:World}{K:M5}{mg:Str->Option Value}{base:Heap}
theorem lu(sep a:Str)(as:List Str)(h:as≠[]):Txt.join sep (a::as)=a++sep++Txt.join sep as:=by show Builtin.Str.glued sep (a::as)=a++sep++Builtin.Str.glued sep as;rw[kj,kj];cases as with |nil=>exact(h rfl).elim |cons b r=>rfl
theorem join_snoc(sep b:Str):∀(as:List Str),as≠[]->Txt.join sep (as++[b])=Txt.join sep as++sep++b |[],h=>(h rfl).elim |[a],_=>rfl |a::c::r,_=>by have e:=join_snoc sep b (c::r) (by simp);rw[uI,lu sep a (c::r++[b]) (by simp),e,lu sep a (c::r) (by simp)];simp only[PySem.Str.append_assoc]
theorem rP(ns:List Int)(sp:Int)(h:ns≠[]):eS (ib ns sp)=Txt.join ⟨#[32]⟩ ("line"::(ns.map numS++[numS sp])):=by
 have hn:ns.map numS≠[]:=by simpa using h
 rw[nP,<-dR,lu _ _ _ (by simp),join_snoc _ _ _ hn];have e:("line ":Str)="line"++" ":=by decide+kernel
 rw[e];unfold i7;simp only[PySem.Str.append_assoc]
theorem ow{c:Nat}{a b:Str}(ha:Free c a)(hb:Free c b):Free c (a++b):=fun h=>by rw[kn,mx,eg]at h;exact h.elim ha hb
theorem yS{c:Nat}{sep:Str}(hs:Free c sep):∀l:List Str,(∀a∈l,Free c a)->Free c (Txt.join sep l) |[],_=>fun h=>by have e:(Txt.join sep []).cps.toList=[]:=rfl;rw[e]at h;cases h |[x],h=>h x (.head _) |x::y::r,h=>by rw[lu _ _ _ (by simp)];exact ow (ow (h x (.head _)) hs) (yS hs (y::r) fun a ha=>h a (.tail _ ha))
theorem rq(i:Int):aG (numS i):=fun c hc=>by cases i with |ofNat m=>rw[show(numS (Int.ofNat m)).cps.toList=_ from Tm.oJ m]at hc;have:=Tm.gQ m c hc;omega |negSucc m=>
   rw[Tm.oH]at hc;rcases aX.mp hc with e|hc
   ·omega
   · have:=Tm.gQ (m+1) c hc
     omega
structure A9(n:Nat)(d:M8):Prop where
 rt:cW n (eS d)=d
 len:(eS d).length<=400
 ok:du (eS d)
 fr:Free 10 (eS d)
 ti:TI d
 okd:aY 8 d
theorem fq{c:Nat}{z:Str}(h:(z.cps.toList.all fun x=>x !=c)=true):Free c z:=fun hc=>by have:=bV.mp h c hc;simp at this
theorem G4{c:Nat}{z:Str}(h:gk z=true)(hc:c<97):Free c z:=fun h'=>by unfold gk at h;rw[bQ]at h;have:=bV.mp h.2 c h';unfold nM at this;simp at this;omega
theorem xf{c:Nat}{w s:Str}(h:qZ w s)(hc:c=10\/c=32):Free c s:=by
 rcases h with⟨_,rfl|rfl⟩|⟨_,hn⟩
 ·rcases hc with rfl|rfl<;>exact fq (by decide+kernel)
 ·rcases hc with rfl|rfl<;>exact fq (by decide+kernel)
 ·exact G4 hn (by omega)
theorem rH{i:Int}(h:i.natAbs<10^40):nI (numS i)= .int i:=by unfold nI;have:(numS i).length<=41:=uW h;rw[Tm.FL (by omega)];rfl
theorem G6{ns:List Int}(h:∀z∈ns,z.natAbs<10^40):(ns.map numS).map nI=ns.map PyData.int:=by rw[pq];exact List.map_congr_left fun z hz=>rH (h z hz)
theorem y8{n:Nat}{d:M8}{ws:List Str}(e:eS d=Txt.join ⟨#[32]⟩ ws)(hn:ws≠[])(hf:∀z∈ws,Free 32 z)(ht:bW ws=d)(hi:dI n d=true):cW n (eS d)=d:=by unfold cW;rw[e,dR,Tm.pN hn hf,ht,hi];rfl
theorem iz.tx{n:Nat}{d:M8}{o:Itm}(h:iz n d o)(n1:1<=n)(n3:n<=3):A9 n d:=by have hi:=h.is.1;have mV:aG (" ":Str):=eI (by decide+kernel);have yP:Free 10 (" ":Str):=fq (by decide+kernel);cases o with
 |some q=>
   obtain⟨ns,sp⟩:=q;have ed:=rX h.it;subst ed;obtain⟨fD,s1,s2⟩:=h.ln ns sp rfl;have hb:∀z∈ns,z.natAbs<10^40:=fun z hz=>by have:=fD.bd z hz;omega
   have hs:sp.natAbs<10^40:=by omega
   have bJ:ns≠[]:=fun e=>by rw[e]at fD;have:=fD.len;simp at this;omega
   have ti:TI (ib ns sp):=.inl ⟨ns,sp,rfl,by rw[fD.len];exact n3,hb,hs⟩;refine⟨y8 (rP ns sp bJ) (by simp) (fun z hz=>?_) ?_ hi,y6 ti,?_,?_,ti,h.is.2.1⟩
   · rcases aX.mp hz with rfl|hz
     ·exact fq (by decide+kernel)
     · rcases eg.mp hz with hz|hz
       · obtain⟨i,_,rfl⟩:=bN.mp hz
         exact Tm.jI (by decide) (by decide)
       ·rw[eK.mp hz];exact Tm.jI (by decide) (by decide)
   · obtain⟨x,xs,rfl⟩:∃x xs,ns=x::xs:=by cases ns with|nil=>exact(bJ rfl).elim|cons x xs=>exact⟨x,xs,rfl⟩
     have e1:(x::xs).map numS++[numS sp]=numS x::(xs.map numS++[numS sp]):=rfl;have e2:(numS x::(xs.map numS++[numS sp])).map nI=(x::xs).map PyData.int++[.int sp]:=by rw[<-e1,dP,G6 hb];show _++[nI (numS sp)]=_;rw[rH hs]
     rw[e1,mI,e2,de,aF,List.length_singleton,List.take_left' (by simp),uE,BK,List.getLast?_singleton];rfl
   · rw[rP ns sp bJ,<-dR]
     refine aG.join mV fun a ha=>?_;rcases aX.mp ha with rfl|ha
     ·exact eI (by decide+kernel)
     · rcases eg.mp ha with ha|ha
       · obtain⟨i,_,rfl⟩:=bN.mp ha
         exact rq i
       ·rw[eK.mp ha];exact rq sp
   · rw[rP ns sp bJ,<-dR]
     refine yS yP _ fun a ha=>?_;rcases aX.mp ha with rfl|ha
     ·exact fq (by decide+kernel)
     · rcases eg.mp ha with ha|ha
       · obtain⟨i,_,rfl⟩:=bN.mp ha
         exact Tm.jI (by decide) (by decide)
       ·rw[eK.mp ha];exact Tm.jI (by decide) (by decide) |none=>
   have key:∀(w y:Str)(u:M8),d= .tuple [.str w,u]->eS d=w++" "++y->w≠"line"->(if w="wait" then nI y else .str y)=u->Free 32 w->Free 32 y->Free 10 w->Free 10 y->aG w->aG y->TI d->A9 n d:=fun w y u e1 e2 hw hu f1 f2 f3 f4 o1 o2 ti=>by
    have ej:eS d=Txt.join ⟨#[32]⟩ [w,y]:=by rw[e2,<-dR];rfl
    refine⟨y8 ej (by simp) (fun z hz=>?_) ?_ hi,y6 ti,?_,?_,ti,h.is.2.1⟩
    · simp only[aX,cQ,gX]at hz
      rcases hz with rfl|rfl
      ·exact f1
      ·exact f2
    ·rw[iI hw,hu,e1]
    ·rw[e2];exact(o1.app mV).app o2
    ·rw[e2];exact ow (ow f3 yP) f4
   rcases h.ot rfl with⟨z,rfl,z1,z2⟩|⟨w,s,rfl,hw,jF,on⟩
   · have hb:z.natAbs<10^40:=by omega
     exact key "wait" (numS z) (.int z) rfl rfl (by decide+kernel) (by rw[aH rfl,rH hb]) (fq (by decide+kernel)) (Tm.jI (by decide) (by decide)) (fq (by decide+kernel)) (Tm.jI (by decide) (by decide)) (eI (by decide+kernel)) (rq z) (.inr (.inl ⟨_,_,rfl,.inl rfl,hb⟩))
   · have hl:s.length<=100:=by
       rcases on with⟨_,rfl|rfl⟩|⟨_,hn⟩
       ·decide+kernel
       ·decide+kernel
       · unfold gk at hn
         simp only[bQ,iD]at hn;omega
     have bJ:w≠"line"/\w≠"wait"/\Free 32 w/\Free 10 w/\aG w:=by
      rcases hw with rfl|rfl
      ·exact⟨by decide+kernel,by decide+kernel,fq (by decide+kernel),fq (by decide+kernel),eI (by decide+kernel)⟩
      ·exact⟨by decide+kernel,by decide+kernel,fq (by decide+kernel),fq (by decide+kernel),eI (by decide+kernel)⟩
     exact key w s (.str s) rfl rfl bJ.1 (by rw[aC bJ.2.1]) bJ.2.2.1 (xf on (.inr rfl)) bJ.2.2.2.1 (xf on (.inl rfl)) bJ.2.2.2.2 (xl jF) (.inr (.inr ⟨_,_,rfl,hw,hl⟩))
end
end Lw
namespace Lw
open PySem PySem.Spec PyProof.Rows L2 Ln Wk PySem.NumText
open Tm (numS numIn? figs isFig Free)
section
variable {P:M7}{w:World}{K:M5}{mg:Str->Option Value}{base:Heap}
def dk(lo hi i:Int):Bool:=decide (lo<=i)&&decide (i<=hi)
theorem yV:∀(cs:List Nat)(a:Nat),a*10^cs.length<=cs.foldl (fun acc c=>acc*10+(c-48)) a |[],a=>by simp |c::cs,a=>by have:=yV cs (a*10+(c-48));rw[List.foldl_cons,ft,Nat.pow_succ];refine bG ?_ this;rw[Nat.mul_comm (10^cs.length) 10,<-Nat.mul_assoc];exact Nat.mul_le_mul_right _ (Nat.le_add_right _ _)
theorem JY{cs:List Nat}(h0:cs[0]? ≠some 48)(hd:AllDigits cs)(hl:5<=cs.length):10000<=digitsVal cs:=by match cs,h0,hd,hl with |[],_,_,hl=>simp at hl |c::r,h0,hd,hl=>have h1:=hd c (.head _);have h2:c≠48:=fun e=>h0 (by rw[e];rfl);have:=yV r (0*10+(c-48));unfold digitsVal;rw[List.foldl_cons];refine bG ?_ this;have h3:10^4<=10^r.length:=Nat.pow_le_pow_right (by decide) (by simpa using hl);calc 10000=1*10^4:=by decide
     _<=_:=Nat.mul_le_mul (by omega) h3
def sg(z:Str):Int:=if z.cps.toList.take 1=[45]then-1 else 1
theorem nB{z:Str}(h1:figs z≠[])(h2:(figs z).all isFig=true)(hl:z.length<=4300):intText? z=some ((digitsVal (figs z):Int)*sg z):=by
 unfold figs at h1 h2⊢;unfold sg;split at h1
 · rename_i r h
   rw[h]at h2⊢;rw[intText_neg h (Tm.gs h2) h1 hl,aH (show List.take 1 (45::r)=[45]from rfl)];simp
 · rename_i h
   split at h2
   · rename_i r h'
     exact(h r h').elim
   · rw[mj (Tm.gs h2) h1 hl]
     have hn:¬z.cps.toList.take 1=[45]:=fun e=>by cases hz:z.cps.toList with |nil=>exact h1 hz |cons a r=>
        rw[hz]at e;have ea:a=45:=by simpa using e
        exact h r (by rw[hz,ea])
     rw[aC hn];simp
theorem wF{z:Str}:(z.cps.toList.take 1=[45]->z.cps.toList.drop 1=figs z)/\(¬z.cps.toList.take 1=[45]->z.cps.toList=figs z):=by unfold figs;cases hz:z.cps.toList with |nil=>exact⟨fun e=>by simp at e,fun _=>rfl⟩ |cons a r=>
   refine⟨fun e=>?_,fun e=>?_⟩
   · have ea:a=45:=by simpa using e
     subst ea;rfl
   · have ea:a≠45:=fun h=>e (by rw[h];rfl)
     split
     ·rename_i h;simp at h;exact(ea h.1).elim
     ·rfl
theorem xM:("-":Str).cps.toList=[45]:=by decide+kernel
theorem td(y:Str)(l:List Nat)(h:y.cps.toList=l):decide (V.str y=V.str "-")=decide (l=[45]):=by
 rw[dB];simp only[iD];refine⟨fun e=>?_,fun e=>?_⟩
 · have:y="-":=by simpa using e
   rw[<-h,this];exact xM
 · have:y="-":=Tm.tD (by rw[h,e];exact xM.symm)
   rw[this]
theorem take1(z:Str):(StrLaws.sliceText z none (some 1)).cps.toList=z.cps.toList.take 1:=uV z 1
theorem G1(n:Nat):decide ((n:Int)<=4)=decide (n<=4):=by rw[dB];simp;omega
inductive AB(vs:List V)(H:Hp)(Q:VK):Prop |mk (z:Str)(lo:Int)(hi:Int)(h0:vs=[.str z,.int lo,.int hi])(h1:z.length<=600)(h2:-9999<=lo)(h3:hi<=9999)(h4:∀H',af H H'->Q (oV ((numIn? z).filter (dk lo hi))) H'):AB vs H Q
def mU:Sp:=fun vs H Q _=>AB vs H Q
abbrev ql:Stmt:=top 45
theorem wb:aW ["_law_word_here","_law_low","_law_high","_law_rest","_law_number"] ["_law_word_here","_law_low","_law_high"] (aK ql):=bz (by decide+kernel)
theorem F3(F:FA K mg "_law_number_read" ql)(B:bb mg):aq P w K mg base "_law_number_read" 1 mU:=by
 refine F.has wb (fun vs H Q E h=>?_) (fun _ _ _ _ _ _=>zX fun _ _ _=>rfl) (fun f ah A outer s H vs Q E hr h=>?_)
 · obtain⟨z,lo,hi,rfl,_⟩:=h
   rfl
 · obtain⟨z,lo,hi,rfl,hl,HL,LN,k⟩:=h
   have nd:=wb.nd;have fm:sizeLine=16777216:=by decide
   refine⟨_,(ai (gG (pS 3 nd (i2 (aO dj (cL gE (pv 0) cU (cC ae)) aw (aP _)) (cL gE (pv 0) (cC ae) cU) (pv 0)))) (ai (aR (PW.pt (fB (eF (kR gj gj ae (cm (x:="len") jY rfl (B.at "len") kl (a7 (pv 3) a8)) ae)) (gF (dE (cm (x:="any") (zU K rfl rfl) rfl (B.at "any") ur (a7 (fh (N:=["_law_sign_here"]) (js:=[none]) rfl rfl rfl (kS (pv 3)) (fun _ _ _ _ _=>(bA 0 (gK _))) (fun _ _ _ _ _=>eO) (fun _ _ _ _ _=>(i3 Eu (pv 0) aw (by with_unfolding_all rfl)))) a8)))))) (ao (aE cD)) aV) (ai (aR (PW.pt (nc (aO dj (kW nN (pv 3) ae (fun _ _=>rfl)) aw (aP _)) (qT (aO nj (pv 0) aw (aP _))))) (ao (aE cD)) aV) (ai (pS 4 nd (ay eQ (eP (x:="int") zI rfl (B.at "int") p8 (a7 (pv 3) a8)) (ay rf ae (ay eQ ae (eP (x:="int") Kk rfl (B.at "int") p8 (a7 (i3 dj (cL gE (pv 0) cU (cC ae)) aw (aP _)) a8)))))) (ao (aE (i2 (kR gj gj (pv 1) (pv 4) (pv 2)) (pv 4) cD))))))),?_⟩;refine⟨fun σ H1=>∃(y:Str)(w5:Option V),σ=[some (.str z),some (.int lo),some (.int hi),some (.str y),w5]/\y.cps.toList=figs z/\af H H1,?_,?_⟩
   · refine⟨_,rfl,_,rfl,z,rfl,by omega,rfl,_,rfl,?_⟩
     rw[td _ _ (take1 z)];refine bH (fun h0=>?_) (fun h0=>?_)
     · have h0:=jl h0
       refine⟨_,rfl,_,rfl,z,rfl,by omega,_,_,rfl,?_,af.refl _⟩;exact(pI z 1).trans (wF.1 h0)
     · have h0:=of_decide_eq_false (fc.mpr h0)
       exact⟨_,rfl,_,_,rfl,wF.2 h0,af.refl _⟩
   rintro σ H1 ⟨y,w5,rfl,ey,s1⟩;have HK:y.length<=z.length:=by
    have e1:y.cps.toList.length=(figs z).length:=by rw[ey]
    have e2:(figs z).length<=z.cps.toList.length:=by
     unfold figs;split
     ·rename_i h;rw[h];simp
     ·rename_i h _;exact aD _
    simpa[Str.length]using bG (uy e1) e2
   have lf:(figs z).length=y.length:=by rw[<-ey];simp[Str.length]
   unfold numIn? at k;rw[<-ey]at k;have ko:∀{o:Option Int},(∀i,o=some i->dk lo hi i=false)->o.filter (dk lo hi)=none:=fun{o} h=>by cases o with |none=>rfl |some i=>simp[Option.filter,h i rfl]
   refine⟨_,rfl,y,rfl,by omega,_,_,rfl,rfl,_,rfl,?_⟩;rw[nK];by_cases h1:1<=y.length
   · rw[br h1]
     refine aJ ⟨_,_,rfl,rfl,_,rfl,?_⟩;rw[G1];by_cases h4:y.length<=4
     · rw[br h4]
       refine aB ⟨_,rfl,y,rfl,fun D H2 n2=>?_⟩;refine tE (f:=fun c=>!isFig c) [] n2 (by omega) (fun c H3 Q' hc s3 hq=>?_) (fun H3 s3 d3=>?_)
       · refine⟨_,rfl,c,ja,rfl,rfl,?_⟩
         rw[yY];exact hq _ (af.refl _)
       refine⟨D,_,rfl,aa.of d3,_,rfl,?_⟩;have eb:((y.cps.toList.map fun c=>!isFig c).any id)= !(y.cps.toList.all isFig):=by rw[pw,List.all_eq_not_any_not,Bool.not_not];rfl
       rw[eb];have bJ:y.cps.toList≠[]:=fun e=>by
        have:y.length=0:=by simp[Str.length];simpa using e
        omega
       have he:y.cps.toList.isEmpty=false:=by cases h:y.cps.toList with|nil=>exact(bJ h).elim|cons=>rfl
       rw[he,Bool.false_or]at k;cases hf:y.cps.toList.all isFig with |false=>rw[hf]at k;exact aJ (k H3 (s1.trans s3)) |true=>rw[hf]at k;refine aB ?_;have hn:=nB (z:=z) (by rw[<-ey];exact bJ) (by rw[<-ey];exact hf) (by omega);have hy:=mj (x:=y) (Tm.gs hf) bJ (by omega);rw[hn,<-ey]at k;generalize hd:digitsVal y.cps.toList=m at hy k;cases hc:y.cps.toList with |nil=>exact(bJ hc).elim |cons c r=>
           refine⟨_,rfl,y,0,c,rfl,rfl,by omega,da (hG 0) (by rw[hc];rfl),rfl,_,rfl,?_⟩;have e0:decide (y.cps.toList[0]? =some 48)=decide (V.str ⟨#[c]⟩=V.str "0"):=by
            rw[hc,dB];simp only[iD];refine⟨fun h=>?_,fun h=>?_⟩
            · have h:c=48:=by simpa using h
              rw[h];decide+kernel
            · have h:(⟨#[c]⟩:Str)="0":=by simpa using h
              have h2:[c]=[48]:=(f7 (fun z:Str=>z.cps.toList) h).trans (by decide+kernel);simpa using h2
           rw[e0]at k;have e1:(!decide (z="0"))= !decide (V.str z=V.str "0"):=by simp
           rw[e1]at k;have fin:∀H4,af H3 H4->(∀H',af H H'->Q (oV (Option.filter (dk lo hi) (some ((m:Int)*sg z)))) H')->True:=fun _ _ _=>trivial;cases h1:decide (V.str ⟨#[c]⟩=V.str "0")with
           |true=>rw[h1,cj]at k;refine aJ ⟨_,rfl,rfl,_,rfl,?_⟩;cases h2: !decide (V.str z=V.str "0")with |true=>rw[h2]at k;exact aJ (k H3 (s1.trans s3)) |false=>
               rw[h2]at k;refine aB ⟨_,rfl,y,_,rfl,hy,by omega,?_⟩;refine⟨_,rfl,_,rfl,z,rfl,by omega,rfl,?_⟩;rw[td _ _ (take1 z)];refine .inr ⟨_,rfl,_,_,rfl,rfl,.of_left (e9 (by decide) (by decide)),_,_,rfl,rfl,_,_,rfl,rfl,?_,?_⟩
               · split
                 ·exact .of_right (e9 (by decide) (by decide))
                 ·exact .of_right (e9 (by decide) (by decide))
               have es:(1-2*(if decide (z.cps.toList.take 1=[45])=true then(1:Int)else 0))=sg z:=by
                unfold sg;by_cases h:z.cps.toList.take 1=[45]
                ·rw[br h,aH rfl,aH h];rfl
                ·rw[bu h,aC ba,aC h];rfl
               rw[es];generalize(m:Int)*sg z=i at k⊢;refine⟨_,rfl,_,rfl,_,_,rfl,rfl,_,rfl,?_⟩;have k:Q (oV (bif dk lo hi i then some i else none)) H3:=by have:=k H3 (s1.trans s3);simp only[Option.filter,cond_eq_if]at this⊢;simpa[cond]using this
               unfold dk at k;refine bH (fun g1=>?_) (fun g1=>?_)
               · rw[show decide (lo<=i)=true from g1,cj]at k
                 refine⟨_,rfl,_,_,rfl,rfl,_,rfl,?_⟩;refine bH (fun g2=>?_) (fun g2=>?_)
                 · rw[show decide (i<=hi)=true from g2]at k
                   exact⟨_,rfl,k⟩
                 · rw[show decide (i<=hi)=false from fc.mpr g2]at k
                   exact k
               · rw[show decide (lo<=i)=false from fc.mpr g1,cA]at k
                 exact⟨_,rfl,aB k⟩
           |false=>
             rw[h1,cA]at k;refine aB ⟨_,rfl,y,_,rfl,hy,by omega,?_⟩;refine⟨_,rfl,_,rfl,z,rfl,by omega,rfl,?_⟩;rw[td _ _ (take1 z)];refine .inr ⟨_,rfl,_,_,rfl,rfl,.of_left (e9 (by decide) (by decide)),_,_,rfl,rfl,_,_,rfl,rfl,?_,?_⟩
             · split
               ·exact .of_right (e9 (by decide) (by decide))
               ·exact .of_right (e9 (by decide) (by decide))
             have es:(1-2*(if decide (z.cps.toList.take 1=[45])=true then(1:Int)else 0))=sg z:=by
              unfold sg;by_cases h:z.cps.toList.take 1=[45]
              ·rw[br h,aH rfl,aH h];rfl
              ·rw[bu h,aC ba,aC h];rfl
             rw[es];generalize(m:Int)*sg z=i at k⊢;refine⟨_,rfl,_,rfl,_,_,rfl,rfl,_,rfl,?_⟩;have k:Q (oV (bif dk lo hi i then some i else none)) H3:=by have:=k H3 (s1.trans s3);simp only[Option.filter,cond_eq_if]at this⊢;simpa[cond]using this
             unfold dk at k;refine bH (fun g1=>?_) (fun g1=>?_)
             · rw[show decide (lo<=i)=true from g1,cj]at k
               refine⟨_,rfl,_,_,rfl,rfl,_,rfl,?_⟩;refine bH (fun g2=>?_) (fun g2=>?_)
               · rw[show decide (i<=hi)=true from g2]at k
                 exact⟨_,rfl,k⟩
               · rw[show decide (i<=hi)=false from fc.mpr g2]at k
                 exact k
             · rw[show decide (lo<=i)=false from fc.mpr g1,cA]at k
               exact⟨_,rfl,aB k⟩
     · rw[bu h4]
       refine aJ ?_;have hk:=k H1 s1
       suffices hs:∀o:Option Int,o=(bif y.cps.toList.isEmpty|| !y.cps.toList.all isFig then none else bif decide (y.cps.toList[0]? =some 48)&& !decide (z="0")then none else intText? z)->o.filter (dk lo hi)=none by rw[hs _ rfl]at hk;exact hk
       intro o eo;refine ko fun i ei=>?_;rw[ei]at eo;cases hc:y.cps.toList.isEmpty|| !y.cps.toList.all isFig with |true=>rw[hc]at eo;cases eo |false=>
         rw[hc]at eo;rw[Bool.or_eq_false_iff,Bool.not_eq_false']at hc;have bJ:figs z≠[]:=fun e=>by rw[ey,e]at hc;exact ba hc.1.symm
         have yu:(figs z).all isFig=true:=by rw[<-ey];exact hc.2
         have zn:z≠"0":=fun e=>by
          have:z.length=1:=by rw[e];decide+kernel
          omega
         by_cases sS:y.cps.toList[0]? =some 48
         ·rw[br sS,bu zn]at eo;cases eo
         · rw[bu sS,cA,nB bJ yu (by omega)]at eo
           have eo:some i=some ((digitsVal (figs z):Int)*sg z):=eo;have e2:=cf eo;have big:=JY (cs:=figs z) (by rw[<-ey];exact sS) (Tm.gs yu) (by omega);unfold dk;unfold sg at e2;split at e2
           ·rw[bu (show¬lo<=i by omega)];rfl
           ·rw[bu (show¬i<=hi by omega),kx]
   · rw[bu h1]
     refine aB ⟨_,rfl,aJ ?_⟩;have e:y.cps.toList=[]:=by
      have:y.cps.toList.length=0:=by have:=lf;simp[Str.length]at h1⊢;exact h1
      exact List.length_eq_zero_iff.mp this
     rw[e]at k;exact k H1 s1
end
end Lw
namespace Lw
open PySem PySem.Spec PyProof.Rows L2 Ln Wk PySem.NumText
open Tm (numS numIn? figs isFig Free)
section
variable {P:M7}{w:World}{K:M5}{mg:Str->Option Value}{base:Heap}
def nR(lo hi:Int)(z:Str):Option Int:=(numIn? z).filter (dk lo hi)
theorem rF{lo hi i:Int}{z:Str}:nR lo hi z=some i->nI z= .int i/\bI lo hi (nI z)=true:=fun h=>by unfold nR at h;unfold nI;cases e:numIn? z with |none=>rw[e]at h;cases h |some j=>
   rw[e]at h;have h2:dk lo hi j=true/\j=i:=by simpa[Option.filter]using h
   refine⟨by rw[h2.2];rfl,h2.1⟩
theorem rG{lo hi:Int}{z:Str}:nR lo hi z=none->bI lo hi (nI z)=false:=fun h=>by unfold nR at h;unfold nI;cases e:numIn? z with |none=>rfl |some j=>
   rw[e]at h;have h2:¬dk lo hi j=true:=by simpa[Option.filter]using h
   exact fc.mpr h2
theorem xI{lo hi:Int}:∀(zs:List Str),(zs.any fun z=>(nR lo hi z).isNone)=false->∃is:List Int,zs.map (nR lo hi)=is.map some/\zs.map nI=is.map PyData.int/\(zs.map nI).all (bI lo hi)=true |[],_=>⟨[],rfl,rfl,rfl⟩ |z::zs,h=>by rw[gZ,Bool.or_eq_false_iff]at h;obtain⟨is,e1,e2,e3⟩:=xI zs h.2;cases e:nR lo hi z with |none=>rw[e]at h;exact absurd h.1 (by simp) |some i=>obtain⟨a,b⟩:=rF e;refine⟨i::is,by rw[eh,eh,e1,e],by rw[eh,eh,e2,a],?_⟩;rw[eh,jo,b,e3];rfl
theorem G5{lo hi:Int}{zs:List Str}(h:(zs.any fun z=>(nR lo hi z).isNone)=true):(zs.map nI).all (bI lo hi)=false:=by obtain⟨z,hz,e⟩:=BP.mp h;refine fc.mpr fun ha=>?_;have h1:=bV.mp ha (nI z) (bN.mpr ⟨z,hz,rfl⟩);rw[rG (Option.isNone_iff_eq_none.mp e)]at h1;exact ba h1
theorem xr{H:Hp}:∀(lo hi:Int)(zs:List Str),aj K H (zs.map fun z=>oV (nR lo hi z)) (zs.map fun z=>oD (nR lo hi z)) |_,_,[]=>fA |lo,hi,z::zs=>cK (jG _) (xr lo hi zs)
theorem xt{H:Hp}{lo hi:Int}:∀{xs:List V}{zs:List Str},aj K H xs (zs.map fun z=>oD (nR lo hi z))->xs=zs.map fun z=>oV (nR lo hi z) |xs,[],h=>h.nil_inv |xs,n::ns,h=>by obtain⟨y,ys,rfl,h1,h2⟩:=h.cons_inv;rw[xq h1,xt h2];rfl
theorem FG(lo hi:Int)(zs:List Str):bB (zs.map fun z=>oD (nR lo hi z))=true:=dG.mpr fun d hd=>by obtain⟨z,_,rfl⟩:=bN.mp hd;cases nR lo hi z<;>rfl
theorem FD(o:Option Int):SeqAt.shaped (oD o)=true:=by cases o<;>rfl
theorem FF(o:Option Int):PyData.eqv (oD o) .none=o.isNone:=by cases o<;>simp[oD,PyData.eqv]
theorem K4(x y:V)(xs:List V):cN (x::(xs++[y])) (some 1) (some (-1))=xs:=by
 unfold cN;have e1:HT.aI (x::(xs++[y])).length 0 (some 1)=1:=by rw[show(some (1:Int))=some ((1:Nat):Int)from rfl,HT.qu];simp
 have e2:HT.aI (x::(xs++[y])).length (x::(xs++[y])).length (some (-1))=xs.length+1:=by have e:=HT.oK (-1) (x::(xs++[y])).length (x::(xs++[y])).length;simp at e⊢;omega
 rw[e1,e2];simp
def kP(n:Nat)(ws:List Str):M8:=bif dI n (bW ws)then bW ws else .none
theorem mH{xs:List Str}{y:Str}:bW ("line"::(xs++[y]))= .tuple [.str "line",.tuple (xs.map nI),nI y]:=by
 obtain⟨r,rs,e⟩:∃r rs,xs++[y]=r::rs:=by cases xs with |nil=>exact⟨_,_,rfl⟩ |cons a b=>exact⟨_,_,rfl⟩
 rw[e,mI,<-e];have l:rs.length=xs.length:=by have:=f7 List.length e;simp at this;omega
 rw[l,dP,List.take_left' (by simp),uE,BK];rfl
theorem DE{n:Nat}{xs:List Str}(h:("line"::xs:List Str).length≠n+2):kP n ("line"::xs)= .none:=by
 unfold kP;rcases uG xs with rfl|⟨ys,y,rfl⟩
 ·rw[kH];rfl
 · rw[uJ]at h⊢
   rw[mH];have:dI n (.tuple [.str "line",.tuple (ys.map nI),nI y])=false:=by
    show(bU "line" (.str "line")&&(gJ n (.tuple (ys.map nI))&&bI 1 20 (nI y)))=false;have:gJ n (.tuple (ys.map nI))=false:=by
     show(((ys.map nI).length==n&&_)&&_)=false;have:((ys.map nI).length==n)=false:=by rw[beq_eq_false_iff_ne,aF];simp at h;exact h
     rw[this];rfl
    rw[this,cA,kx]
   rw[this];rfl
theorem DD{n:Nat}{xs:List Str}{y:Str}(h:xs.length=n):kP n ("line"::(xs++[y]))=bif ((xs.map nI).all (bI (-100) 100)&&(xs.map nI).any i6)&&bI 1 20 (nI y)then .tuple [.str "line",.tuple (xs.map nI),nI y]else .none:=by
 unfold kP;rw[mH];have:dI n (.tuple [.str "line",.tuple (xs.map nI),nI y])=(((xs.map nI).all (bI (-100) 100)&&(xs.map nI).any i6)&&bI 1 20 (nI y)):=by show(bU "line" (.str "line")&&((((xs.map nI).length==n&&_)&&_)&&bI 1 20 (nI y)))=_;rw[show bU "line" (.str "line")=true by decide+kernel,show((xs.map nI).length==n)=true by rw[cu,aF];exact h,cj,cj]
 rw[this]
inductive AE(K:M5)(vs:List V)(H:Hp)(Q:VK):Prop |mk (l:Addr)(xs:List Str)(n:Nat)(h0:vs=[.ref l,.int n])(h1:aa K H l (((("line":Str)::xs):List Str).map V.str))(h2:xs.length<=900)(h3:n<=3)(h4:(∀z∈xs,z.length<=600))(h5:∀v H',af H H'->RD K H' v (kP n ("line"::xs))->Q v H'):AE K vs H Q
def vH(K:M5):Sp:=fun vs H Q _=>AE K vs H Q
abbrev qr:Stmt:=top 46
theorem wk:aW ["_law_words","_law_axes","_law_steps","_law_speed"] ["_law_words","_law_axes"] (aK qr):=bz (by decide+kernel)
theorem Fc(F:FA K mg "_law_line_read" qr)(B:bb mg)(oo:aq P w K mg base "_law_number_read" 1 mU):aq P w K mg base "_law_line_read" 2 (vH K):=by
 refine F.has wk (fun vs H Q E h=>?_) (fun _ _ _ _ _ _=>dn fun _ _=>rfl) (fun f ah A outer s H vs Q E hr h=>?_)
 · obtain⟨l,xs,n,rfl,_⟩:=h
   rfl
 · obtain⟨l,xs,n,rfl,hl,hx,hn,hz,k⟩:=h
   have nd:=wk.nd;have fm:sizeLine=16777216:=by decide
   refine⟨_,(ai (aR (aO nj (dh K B (a7 (pv 0) a8)) (ay bT (pv 1) ae) (aP _)) (ao (aE cD)) aV) (ai (wO (i0:=2) nd rfl (Or.inl rfl) (N:=["_law_word_here"]) (js:=[none]) rfl rfl rfl (ng K rfl (cL (gh K rfl) (pv 0) (cC ae) (cC (hZ hJ ae)))) (fun _ _ _ _ _=>(bA 0 (gK _))) (fun _ _ _ _ _=>eO) (fun _ _ _ _ _=>(pf oo hr (a7 (pv 0) (a7 (hZ hJ ae) (a7 ae a8)))))) (ai (pS 3 nd (pf oo hr (a7 (px K (pv 0) (hZ hJ ae)) (a7 ae (a7 ae a8))))) (ai (aR (PW.pt (fB (aO (inD K rfl (hr.pF)) cD (pv 2) (by with_unfolding_all rfl)) (fB (aO nk (pv 3) cD (aP _)) (gF (eF (dE (cm (x:="any") (zV K rfl rfl) rfl (B.at "any") ur (a7 (pv 2) a8)))))))) (ao (aE cD)) aV) (ao (aE (dF (a7 aw (a7 (eP (x:="tuple") (iH K rfl) rfl (B.at "tuple") gC (a7 (pv 2) a8)) (a7 (pv 3) a8)))))))))),?_⟩;refine⟨_,rfl,l,_,rfl,.inl hl,_,rfl,_,_,rfl,rfl,rfl,_,rfl,?_⟩;rw[aF];by_cases hlen:("line"::xs:List Str).length=n+2
   · have ed:(!decide (V.int (("line"::xs:List Str).length:Int)=V.int ((n:Int)+2)))=false:=by rw[hlen];simp
     rw[ed];refine aB ?_;rcases uG xs with rfl|⟨ys,y,rfl⟩
     ·simp at hlen
     rw[uJ]at*;have ln:ys.length=n:=by simp at hlen;exact hlen
     rw[DD ln]at k;have cZ:aa K H l (V.str "line"::(ys.map V.str++[V.str y])):=by simpa using hl
     refine⟨_,rfl,_,rfl,1,rfl,_,rfl,l,_,rfl,.inl ⟨cZ,fun q H1 n1=>?_⟩⟩;rw[K4]at n1;have Hl:∀z∈ys,z.length<=600:=fun z h=>hz z (pk _ h);refine⟨q,rfl,⟨_,aa.of n1.at'⟩,fun D H2 n2=>?_⟩;refine zr (K:=K) (ds:=ys.map fun z=>oD (nR (-100) 100 z)) _ (aa.of n1.at') n2 (by simp) (by simp;omega) (FG _ _ _) ?_ ?_
     · intro i x d H3 Q' ex ed s3 hq
       rw[cg]at ex ed;obtain⟨z,ez,rfl⟩:=mq.mp ex;rw[ez]at ed;cases ed;exact⟨_,rfl,100,rfl,z,-100,100,rfl,Hl z (eL ez),by decide,by decide,fun H4 s4=>hq _ _ s4 (jG _)⟩
     intro H3 vs s3 d3 r3;have ev:=xt r3;subst ev;have dC:=n1.same.trans s3;refine⟨_,rfl,1,rfl,.inl ⟨l,_,-1,.str y,rfl,rfl,dC.seq cZ,zT (by rw[<-uI,BK];rfl),?_⟩⟩;refine⟨y,1,20,rfl,hz y (by simp),by decide,by decide,fun H4 s4=>?_⟩;have d4:=s4 _ _ d3;have jw:=dC.trans s4;refine⟨_,rfl,D,_,.none,ys.map fun z=>oD (nR (-100) 100 z),rfl,aa.of d4,dg,xr _ _ _,rfl,fun e he=>?_,_,rfl,?_⟩
     · obtain⟨z,_,rfl⟩:=bN.mp he
       exact FD _
     have ea:((ys.map fun z=>oD (nR (-100) 100 z)).any fun e=>PyData.eqv e .none)=ys.any fun z=>(nR (-100) 100 z).isNone:=by rw[pw];congr 1;funext z;exact FF _
     rw[aC ba,ea];cases o8:ys.any fun z=>(nR (-100) 100 z).isNone with |true=>rw[G5 o8]at k;exact aJ (aJ (k _ _ jw dg)) |false=>
       obtain⟨is,e1,e2,e3⟩:=xI ys o8;rw[e3,cj,e2]at k;have eV:(ys.map fun z=>oV (nR (-100) 100 z))=is.map V.int:=by
        have:(ys.map fun z=>oV (nR (-100) 100 z))=(ys.map (nR (-100) 100)).map oV:=by rw[pq];rfl
        rw[this,e1,pq];rfl
       rw[eV]at d4;refine aB ⟨_,rfl,rfl,_,rfl,?_⟩;have ey:(numIn? y).filter (dk 1 20)=nR 1 20 y:=rfl;rw[ey];cases hy:nR 1 20 y with |none=>rw[rG hy,kx]at k;exact aJ (aJ (k _ _ jw dg)) |some sp=>
         obtain⟨a1,a2⟩:=rF hy;rw[a2,uN,a1]at k;refine aB ⟨_,rfl,D,is,rfl,.inl (aa.of d4),_,rfl,?_⟩;have en:(is.map PyData.int).any i6=is.any (· !=0):=by rw[pw];rfl
         rw[en]at k;cases ha:is.any (· !=0)with |false=>rw[ha]at k;exact aJ (k _ _ jw dg) |true=>rw[ha]at k;refine aB ⟨_,rfl,D,_,rfl,.inl ⟨aa.of d4,fun t H5 n5=>?_⟩⟩;refine⟨_,rfl,by show 3<=sizeLine;omega,fun p H6 n6=>?_⟩;exact k _ _ ((jw.trans n5.same).trans n6.same) (cx (az.of n6.at') (cK (bc _) (cK (cx (az.of (n6.same _ _ n5.at')) (mZ is)) (cK (eE _) fA))))
   · have ed:(!decide (V.int (("line"::xs:List Str).length:Int)=V.int ((n:Int)+2)))=true:=by rw[pD,decide_eq_false_iff_not];intro e;injection e with e;exact hlen (by omega)
     rw[ed,DE hlen]at*;exact aJ (k _ _ (af.refl _) dg)
end
end Lw
namespace Lw
open PySem PySem.Spec PyProof.Rows L2 Ln Wk PySem.NumText
open Tm (numS numIn? figs isFig Free)
section
variable {P:M7}{w:World}{K:M5}{mg:Str->Option Value}{base:Heap}
theorem rJ(z:Str):dH (nI z)=true:=by unfold nI;cases numIn? z<;>rfl
theorem Cr(ws:List Str):dH (bW ws)=true:=by match ws with
 |[]=>rfl |x::rest=>
   by_cases hx:x="line"
   · subst hx
     rcases uG rest with rfl|⟨ys,y,rfl⟩
     ·rw[kH];rfl
     · rw[uJ,mH]
       have h1:bB (ys.map nI)=true:=dG.mpr fun d hd=>by obtain⟨z,_,rfl⟩:=bN.mp hd;exact rJ z
       simp[dH,bB,h1,rJ]
   ·match rest with
     |[]=>rw[hR hx (by simp)];rfl |[r]=>
       rw[iI hx];split
       ·simp[dH,bB,rJ]
       ·simp[dH,bB] |_::_::_=>rw[hR hx (by simp)];rfl
theorem rW(n:Nat)(z:Str):dH (cW n z)=true:=by unfold cW;cases dI n (bW (Txt.split z " "))with |true=>exact Cr _ |false=>rfl
theorem KR:("a":Str).cps.toList=[97]:=by decide+kernel
theorem BV:("z":Str).cps.toList=[122]:=by decide+kernel
theorem jt{a b:Str}:decide (V.str a=V.str b)=decide (a=b):=by rw[dB];simp
theorem GZ(z x:Str):bU z (.str x)=decide (x=z):=by show(x==z)=_;rw[dB];simp
inductive AK(K:M5)(vs:List V)(H:Hp)(Q:VK):Prop |mk (z:Str)(n:Nat)(h0:vs=[.str z,.int n])(h1:z.length<=600)(h2:du z)(h3:n<=3)(h4:∀v H',af H H'->RD K H' v (cW n z)->Q v H'):AK K vs H Q
def pT(K:M5):Sp:=fun vs H Q _=>AK K vs H Q
abbrev qz:Stmt:=top 47
theorem wx:aW ["_law_text_here","_law_axes","_law_words","_law_number","_law_letters"] ["_law_text_here","_law_axes"] (aK qz):=bz (by decide+kernel)
theorem Fj(F:FA K mg "_law_item_read" qz)(B:bb mg)(oo:aq P w K mg base "_law_number_read" 1 mU)(Je:aq P w K mg base "_law_line_read" 2 (vH K)):aq P w K mg base "_law_item_read" 3 (pT K):=by
 refine F.has wx (fun vs H Q E h=>?_) (fun _ _ _ _ _ _=>dn fun _ _=>rfl) (fun f ah A outer s H vs Q E hr h=>?_)
 · obtain⟨z,n,rfl,_⟩:=h
   rfl
 · obtain⟨z,n,rfl,hz,tz,hn,k⟩:=h
   have nd:=wx.nd;have fm:sizeLine=16777216:=by decide
   have fj:∀y∈Txt.split z " ",y.length<=600:=fun y hy=>by rw[dR]at hy;have:=split_le hy;omega
   have jM:∀y∈Txt.split z " ",du y:=fun y hy=>by rw[dR]at hy;exact hV tz hy
   have jN:=split_len z " ";refine⟨_,(ai (pS 2 nd (jD K rfl (pv 0) (a7 aw a8))) (ai (aR (aO dj (px K (pv 2) ae) aw (aP _)) (ao (aE (pf Je hr (a7 (pv 2) (a7 (pv 1) a8))))) aV) (ai (aR (aO nj (dh K B (a7 (pv 2) a8)) ae (aP _)) (ao (aE cD)) aV) (ai (aR (aO dj (px K (pv 2) ae) aw (aP _)) (ai (pS 3 nd (pf oo hr (a7 (px K (pv 2) ae) (a7 ae (a7 ae a8))))) (ao (aE (i2 (aO nk (pv 3) cD (aP _)) cD (dF (a7 aw (a7 (pv 3) a8))))))) aV) (ai (aR (aO dj (px K (pv 2) ae) aw (aP _)) (ao (aE (i2 (aO (inD K rfl (hr.pF)) (px K (pv 2) ae) (cV (a7 aw (a7 aw a8))) (by with_unfolding_all rfl)) (dF (a7 aw (a7 (px K (pv 2) ae) a8))) cD))) aV) (ai (pS 4 nd (dh K B (a7 (fh (N:=["_law_sign_here"]) (js:=[none]) rfl rfl rfl (kS (px K (pv 2) ae)) (fun _ _ _ _ _=>(bA 0 (gK _))) (fun _ _ _ _ _=>(DZ (kR xg xg aw (pv 0) aw))) (fun _ _ _ _ _=>(pv 0))) a8))) (ai (aR (PW.pt (nc (aO dj (px K (pv 2) ae) aw (aP _)) (nc (kR gj gj ae (cm (x:="len") jY rfl (B.at "len") kl (a7 (px K (pv 2) ae) a8)) ae) (qT (aO dj (pv 4) (cm (x:="len") jY rfl (B.at "len") kl (a7 (px K (pv 2) ae) a8)) (aP _)))))) (ao (aE (dF (a7 aw (a7 (px K (pv 2) ae) a8))))) aV) (ao (aE cD))))))))),?_⟩;refine⟨_,rfl,rfl,z," ",rfl,rfl,by decide+kernel,by omega,fun l H1 n1=>?_⟩;obtain⟨x,ws,ew⟩:∃x ws,Txt.split z " "=x::ws:=by cases e:Txt.split z " " with |nil=>exact(Tm.kL _ _ e).elim |cons x ws=>exact⟨x,ws,rfl⟩
   unfold cW at k;rw[ew]at n1 fj jM jN k;rw[ft]at jN;have a1:=n1.at';rw[eh]at a1;have s1:=n1.same;have w0:cO (V.str x::ws.map V.str) 0=some (V.str x):=da (hG 0) rfl;refine⟨_,rfl,.inl ⟨l,_,0,.str x,rfl,rfl,aa.of a1,w0,rfl,_,rfl,?_⟩⟩;rw[jt];by_cases hx:x="line"
   · subst hx
     rw[br rfl];refine aJ ⟨_,rfl,_,rfl,l,ws,n,rfl,aa.of n1.at',by omega,hn,fun y hy=>fj y (.tail _ hy),fun v H2 s2 r2=>?_⟩;exact k _ _ (s1.trans s2) r2
   rw[bu hx];refine aB ⟨_,rfl,l,_,rfl,.inl (aa.of a1),rfl,_,rfl,?_⟩;by_cases h1:ws.length=1
   ·match ws,h1 with
     |[r],_=>
       have nW:r.length<=600:=fj r (by simp);refine aB ?_;rw[iI hx]at k;have ki:dI n (.tuple [.str x,if x="wait" then nI r else .str r])=fE (.str x) (if x="wait" then nI r else .str r):=rfl;rw[ki]at k;unfold fE at k;simp only[GZ]at k;have LZ:cO ([.str x,.str r]:List V) 1=some (V.str r):=rfl;refine⟨_,rfl,.inl ⟨l,_,0,.str x,rfl,rfl,aa.of a1,rfl,rfl,_,rfl,?_⟩⟩;rw[jt];by_cases hw:x="wait"
       · rw[br hw]
         simp only[aH hw,br hw,iC]at k;refine aJ ⟨_,rfl,.inl ⟨l,_,1,.str r,rfl,rfl,aa.of a1,rfl,?_⟩⟩;refine⟨r,1,1000,rfl,nW,by decide,by decide,fun H2 s2=>?_⟩;have ey:(numIn? r).filter (dk 1 1000)=nR 1 1000 r:=rfl;rw[ey];refine⟨_,rfl,rfl,_,rfl,?_⟩;cases hy:nR 1 1000 r with |none=>rw[rG hy]at k;exact aJ (k _ _ (s1.trans s2) dg) |some sp=>obtain⟨b1,b2⟩:=rF hy;rw[b2,b1]at k;refine aB ⟨_,rfl,by show 2<=sizeLine;omega,fun p H6 n6=>?_⟩;subst hw;exact k _ _ ((s1.trans s2).trans n6.same) (cx (az.of n6.at') (cK (bc _) (cK (eE _) fA)))
       · rw[bu hw]
         simp only[aC hw,bu hw,BR,if_false]at k;refine aB ⟨_,rfl,.inl ⟨l,_,0,.str x,rfl,rfl,aa.of a1,rfl,rfl,_,rfl,?_⟩⟩;rw[jt];by_cases ht:x="tool"
         · rw[br ht]
           simp only[br ht,iC]at k;refine aJ ⟨_,rfl,.inl ⟨l,_,1,.str r,rfl,rfl,aa.of a1,rfl,?_⟩⟩;refine⟨by show 2<=sizeLine;omega,fun q H2 n2=>?_⟩;refine⟨q,_,.str r,[.str "up",.str "down"],rfl,aa.of n2.at',bc _,cK (bc _) (cK (bc _) fA),hW (iS (jM r (by simp))),fun e he=>?_,_,rfl,?_⟩
           · rcases aX.mp he with rfl|he
             ·decide+kernel
             rcases aX.mp he with rfl|he
             ·decide+kernel
             ·exact(cQ he).elim
           rw[aC ba];have ea:([.str "up",.str "down"]:List M8).any (fun e=>PyData.eqv e (.str r))=lE (.str r):=by rw[gZ,gZ,List.any_nil,oA,oA,Bool.or_false];rfl
           rw[ea];cases hs:lE (.str r)with |false=>rw[hs]at k;exact aB (k _ _ (s1.trans n2.same) dg) |true=>rw[hs]at k;refine aJ ⟨_,rfl,.inl ⟨l,_,1,.str r,rfl,rfl,aa.of (n2.same _ _ a1),rfl,?_⟩⟩;refine⟨by show 2<=sizeLine;omega,fun p H6 n6=>?_⟩;subst ht;exact k _ _ ((s1.trans n2.same).trans n6.same) (cx (az.of n6.at') (cK (bc _) (cK (bc _) fA)))
         · rw[bu ht]
           simp only[bu ht,BR,if_false]at k;refine aB ⟨_,rfl,.inl ⟨l,_,1,.str r,rfl,rfl,aa.of a1,rfl,?_⟩⟩;refine⟨r,rfl,fun D H2 n2=>?_⟩;refine K8 eR [] n2 (by omega) (fun c H3 Q' s3 hq=>?_) (fun c H3 Q' s3 hq=>⟨_,rfl,hq _ (af.refl _)⟩) (fun H3 s3 d3=>?_)
           · have hq:=hq H3 (af.refl _)
             unfold eR at hq;refine⟨_,rfl,_,_,rfl,rfl,_,rfl,?_⟩;rw[KR,vM];refine bH (fun g1=>?_) (fun g1=>?_)
             · rw[show decide (97<=c)=true from g1,cj]at hq
               refine⟨_,_,rfl,rfl,_,rfl,?_⟩;rw[BV,vM];exact hq
             · rw[show decide (97<=c)=false from fc.mpr g1,cA]at hq
               exact⟨_,rfl,hq⟩
           refine⟨D,_,rfl,.inl (aa.of d3),?_⟩;have a3:=s3 _ _ a1;have dC:=s1.trans s3;refine⟨_,rfl,.inl ⟨l,_,0,.str x,rfl,rfl,aa.of a3,rfl,rfl,_,rfl,?_⟩⟩;rw[jt];cases hm:decide (x="mark")with |false=>rw[hm]at k;exact aB (aB (k _ _ dC dg)) |true=>have HI:=jl hm;rw[hm,cj]at k;have k:∀v H',af H H'->RD K H' v (bif (decide (1<=r.length)&&decide (r.length<=8))&&r.cps.toList.all eR then .tuple [.str x,.str r]else .none)->Q v H':=k;refine aJ ⟨_,rfl,.inl ⟨l,_,1,.str r,rfl,rfl,aa.of a3,rfl,r,rfl,by omega,?_⟩⟩;refine⟨_,_,rfl,rfl,_,rfl,?_⟩;rw[nK];cases g1:decide (1<=r.length)with |false=>rw[g1,cA]at k;exact aB ⟨_,rfl,aB (aB (k _ _ dC dg))⟩ |true=>rw[g1,cj]at k;refine aJ ⟨_,_,rfl,rfl,_,rfl,?_⟩;rw[xG];cases g2:decide (r.length<=8)with |false=>rw[g2,cA]at k;exact aB (aB (k _ _ dC dg)) |true=>
                 rw[g2,cj]at k;refine aJ ⟨_,rfl,_,rfl,.inl ⟨l,_,1,.str r,rfl,rfl,aa.of a3,rfl,r,rfl,by omega,rfl,_,rfl,?_⟩⟩;have ef:decide (V.int ((((r.cps.toList.filter eR).map fun c=>V.str ⟨#[c]⟩).length:Nat):Int)=V.int (r.length:Int))=r.cps.toList.all eR:=by
                  rw[aF,dB,iD];have hl:r.length=r.cps.toList.length:=by simp[Str.length]
                  refine⟨fun e=>?_,fun e=>?_⟩
                  · injection e with e
                    have e:(r.cps.toList.filter eR).length=r.cps.toList.length:=by omega
                    exact bV.mpr (La.mp e)
                  · have e:=La.mpr (bV.mp e)
                    rw[e,hl]
                 rw[ef];cases g3:r.cps.toList.all eR with |false=>rw[g3]at k;exact aB (k _ _ dC dg) |true=>rw[g3]at k;refine aJ ⟨_,rfl,.inl ⟨l,_,1,.str r,rfl,rfl,aa.of a3,rfl,?_⟩⟩;refine⟨by show 2<=sizeLine;omega,fun p H6 n6=>?_⟩;subst HI;exact k _ _ (dC.trans n6.same) (cx (az.of n6.at') (cK (bc _) (cK (bc _) fA)))
   · have ed:(!decide (V.int ((V.str x::ws.map V.str).length:Int)=V.int 2))=true:=by rw[pD,decide_eq_false_iff_not];intro e;injection e with e;simp at e;omega
     rw[ed];rw[hR hx h1]at k;exact aJ (k _ _ s1 dg)
end
end Lw
namespace Lw
open PySem PySem.Spec PyProof.Rows L2 Ln Wk
open Tm (numS numIn? figs isFig Free)
section
variable {P:M7}{w:World}{K:M5}{mg:Str->Option Value}{base:Heap}
theorem xx{i:Int}(h:i.natAbs<10^3):(numS i).length<=4:=by show(Str.ofString (toString i)).length<=4;rw[Bz];exact Bw (k:=3) (by decide) h
theorem FN{i:Int}(h:i.natAbs<10^4):(numS i).length<=5:=by show(Str.ofString (toString i)).length<=5;rw[Bz];exact Bw (k:=4) (by decide) h
theorem cP(a b:Str):(a++b).length=a.length+b.length:=by show(a++b).cps.size=a.cps.size+b.cps.size;rw[kn,Array.size_append]
theorem GS{n:Nat}{d:M8}{o:Itm}(h:iz n d o)(n3:n<=3):(eS d).length<=25:=by
 have e1:Str.length " "=1:=by decide+kernel
 cases o with |some q=>obtain⟨ns,sp⟩:=q;have ed:=rX h.it;subst ed;obtain⟨fD,s1,s2⟩:=h.ln ns sp rfl;rw[nP,cP,cP,cP,e1,show Str.length "line "=5 by decide+kernel];have h1:=xx (i:=sp) (by omega);have h2:=rV " " (B:=4) (ns.map numS) (fun z hz=>by obtain⟨i,hi,rfl⟩:=bN.mp hz;have:=fD.bd i hi;exact xx (by omega));rw[aF,e1,fD.len]at h2;have h3:(i7 ns).length<=n*(4+1):=h2;omega |none=>
   rcases h.ot rfl with⟨m,rfl,m1,m2⟩|⟨w,s,rfl,hw,_,hs⟩
   · show(Str.ofString "wait"++" "++numS m).length<=25
     rw[cP,cP,e1,show Str.length "wait"=4 by decide+kernel];have:=FN (i:=m) (by omega);omega
   · show(w++" "++s).length<=25
     have lw:w.length<=4:=by rcases hw with rfl|rfl<;>decide+kernel
     have ls:s.length<=8:=by
      rcases hs with⟨_,rfl|rfl⟩|⟨_,hn⟩
      ·decide+kernel
      ·decide+kernel
      · unfold gk at hn
        simp only[bQ,iD]at hn;exact hn.1.2
     rw[cP,cP,e1];omega
theorem EJ(c:Nat):(⟨#[c]⟩:Str).length=1:=rfl
theorem iW(c:Nat):∀(l:List Str),l≠[]->(Txt.join ⟨#[c]⟩ l).length+1=(l.map fun z=>z.length+1).sum |[],h=>(h rfl).elim |[x],_=>by show x.length+1=_;simp |x::y::r,_=>by rw[lu _ _ _ (by simp),cP,cP,EJ,eh,pg,<-iW c (y::r) (by simp)];omega
theorem join_nil(c:Nat):(Txt.join ⟨#[c]⟩ []).length=0:=rfl
theorem y0(c:Nat){a b:List Str}{y x:Str}{N:Nat}(h:x.length<=y.length+N):(Txt.join ⟨#[c]⟩ (a++[x]++b)).length<=(Txt.join ⟨#[c]⟩ (a++y::b)).length+N:=by have e1:=iW c (a++[x]++b) (by simp);have e2:=iW c (a++y::b) (by simp);simp only[dP,List.sum_append,eh,pg,List.map_nil,List.sum_nil]at e1 e2;omega
theorem GN(c:Nat){a b:List Str}{y x:Str}:(Txt.join ⟨#[c]⟩ (a++[x]++y::b)).length<=(Txt.join ⟨#[c]⟩ (a++y::b)).length+x.length+1:=by have e1:=iW c (a++[x]++y::b) (by simp);have e2:=iW c (a++y::b) (by simp);simp only[dP,List.sum_append,eh,pg,List.map_nil,List.sum_nil]at e1 e2;omega
theorem GO(c:Nat){a b:List Str}{y:Str}:(Txt.join ⟨#[c]⟩ (a++b)).length<=(Txt.join ⟨#[c]⟩ (a++y::b)).length:=by
 have e2:=iW c (a++y::b) (by simp);by_cases h:a++b=[]
 ·rw[h,join_nil];exact bE _
 · have e1:=iW c (a++b) h
   simp only[dP,List.sum_append,eh,pg]at e1 e2;omega
theorem vp(z:Str)(c:Nat):Txt.join ⟨#[c]⟩ (Txt.split z ⟨#[c]⟩)=z:=(kj _ _).trans (StrLaws.join_split z ⟨#[c]⟩)
def iL:Str:=" !\"#$&'()*+,-./0123456789:;<=>?@ABCDEFGHIJKLMNOPQRSTUVWXYZ[\\]^_`abcdefghijklmnopqrstuvwxyz{|}~"
theorem Dk:iL.length=94:=by decide+kernel
theorem Dl:(iL++("\n":Str)).cps.toList.all (fun c=>decide (c<0x110000))=true:=by decide+kernel
inductive Av(vs:List V)(H:Hp)(Q:VK):Prop |mk (p:_)(h0:vs=[.ref p])(h1:cI H p)(h2:∀c H',c<0x110000->aA p H H'->Q (.str ⟨#[c]⟩) H'):Av vs H Q
def vB:Sp:=fun vs H Q _=>Av vs H Q
abbrev qg:Stmt:=top 44
theorem vW:aW ["_law_bag_here","_law_signs"] ["_law_bag_here"] (aK qg):=bz (by decide+kernel)
theorem EZ(F:FA K mg "_law_sign" qg)(B:bb mg)(aZ:aq P w K mg base "_law_take" 1 fe):aq P w K mg base "_law_sign" 2 vB:=by
 refine F.has vW (fun vs H Q E h=>?_) (fun _ _ _ _ _ _=>gy fun _=>rfl) (fun f ah A outer s H vs Q E hr h=>?_)
 · obtain⟨p,rfl,_⟩:=h
   rfl
 · obtain⟨p,rfl,bg,k⟩:=h
   have nd:=vW.nd;have fm:sizeLine=16777216:=by decide
   refine⟨_,(ai (pS 1 nd aw) (ao (aE (kW nN (ay eG (pv 1) aw) (pf aZ hr (a7 (pv 0) (a7 (ay bT (cm (x:="len") jY rfl (B.at "len") kl (a7 (pv 1) a8)) ae) a8))) (fun _ _=>rfl))))),?_⟩;refine⟨_,rfl,_,_,rfl,rfl,by decide+kernel,?_⟩;refine⟨_,rfl,_,rfl,_,rfl,by decide+kernel,_,_,rfl,rfl,?_⟩;have hl:(iL++("\n":Str)).cps.toList.length=95:=by
    have:(iL++("\n":Str)).length=95:=by decide+kernel
    simpa[Str.length]using this
   refine⟨p,95,by show[V.ref p,V.int ((iL.length:Int)+1)]=_;rw[Dk];rfl,bg,by decide,by decide,fun d H1 d0 d1 b1=>?_⟩;have hd:d.toNat<(iL++("\n":Str)).cps.toList.length:=by rw[hl];omega
   refine⟨iL++"\n",d,_,rfl,rfl,by decide+kernel,da d0 (fu hd),k _ _ ?_ b1⟩;exact jl (bV.mp Dl _ (kv hd))
inductive Aj(vs:List V)(H:Hp)(Q:VK):Prop |mk (p:Addr)(z:Str)(h0:vs=[.ref p,.str z])(h1:cI H p)(h2:z.length<=600)(h3:aG z)(h4:∀z' H',z'.length<=z.length+9->aG z'->aA p H H'->Q (.str z') H'):Aj vs H Q
def vv(K:M5):Sp:=fun vs H Q _=>Aj vs H Q
def ky(z:Str):List Str:=(["0","-0","0"++z,"-"++z,z++"0","1001","21","101","-101","line","wait","tool"]:List Str)++(["mark","up","down","","+1","1_0","left","abcdefghi","Up","x","1.0","a1"]:List Str)
theorem BX(z:Str):(ky z).length=24:=rfl
theorem BW{z:Str}(h:aG z):∀y∈ky z,y.length<=z.length+9/\aG y:=by
 have lit:∀y:Str,y.length<=9->aG y->y.length<=z.length+9/\aG y:=fun y h1 h2=>⟨by omega,h2⟩;intro y hy;unfold ky at hy;simp only[uI,List.nil_append,aX,cQ,gX]at hy;rcases hy with rfl|rfl|rfl|rfl|rfl|rfl|rfl|rfl|rfl|rfl|rfl|rfl|rfl|rfl|rfl|rfl|rfl|rfl|rfl|rfl|rfl|rfl|rfl|rfl
 case inr.inr.inl=>exact⟨by rw[cP,show Str.length "0"=1 by decide+kernel];omega,(eI (by decide+kernel)).app h⟩
 case inr.inr.inr.inl=>exact⟨by rw[cP,show Str.length "-"=1 by decide+kernel];omega,(eI (by decide+kernel)).app h⟩
 case inr.inr.inr.inr.inl=>exact⟨by rw[cP,show Str.length "0"=1 by decide+kernel];omega,h.app (eI (by decide+kernel))⟩
 all_goals exact lit _ (by decide+kernel) (eI (by decide+kernel))
abbrev pZ:Stmt:=top 49
theorem vP:aW ["_law_bag_here","_law_word_here","_law_some"] ["_law_bag_here","_law_word_here"] (aK pZ):=bz (by decide+kernel)
theorem ET(F:FA K mg "_law_word" pZ)(B:bb mg)(aZ:aq P w K mg base "_law_take" 1 fe):aq P w K mg base "_law_word" 2 (vv K):=by
 refine F.has vP (fun vs H Q E h=>?_) (fun _ _ _ _ _ _=>dn fun _ _=>rfl) (fun f ah A outer s H vs Q E hr h=>?_)
 · obtain⟨p,z,rfl,_⟩:=h
   rfl
 · obtain⟨p,z,rfl,bg,hz,eH,k⟩:=h
   have nd:=vP.nd;have fm:sizeLine=16777216:=by decide
   have l0:Str.length "0"=1:=by decide+kernel
   have l1:Str.length "-"=1:=by decide+kernel
   refine⟨_,(ai (pS 2 nd (cV (a7 aw (a7 aw (a7 (ay eG aw (pv 1)) (a7 (ay eG aw (pv 1)) (a7 (ay eG (pv 1) aw) (a7 aw (a7 aw (a7 aw (a7 aw (a7 aw (a7 aw (a7 aw a8)))))))))))))) (ai (pS 2 nd (ay (iu K rfl) (pv 2) (cV (a7 aw (a7 aw (a7 aw (a7 aw (a7 aw (a7 aw (a7 aw (a7 aw (a7 aw (a7 aw (a7 aw (a7 aw a8))))))))))))))) (ao (aE (px K (pv 2) (pf aZ hr (a7 (pv 0) (a7 (dh K B (a7 (pv 2) a8)) a8)))))))),?_⟩;refine⟨_,rfl,_,_,rfl,rfl,by omega,?_⟩;refine⟨_,rfl,_,_,rfl,rfl,by omega,?_⟩;refine⟨_,rfl,_,_,rfl,rfl,by omega,?_⟩;refine⟨by show 12<=sizeLine;omega,fun q H1 n1=>?_⟩;have b1:aA p H H1:=.bh bg n1.same;refine⟨_,rfl,by show 12<=sizeLine;omega,fun q2 H2 n2=>?_⟩;have b2:aA p H1 H2:=.bh b1.bag n2.same;refine⟨q,q2,_,_,rfl,rfl,aa.of (n2.same _ _ n1.at'),aa.of n2.at',by show 12+12<=sizeLine;omega,fun q3 H3 n3=>?_⟩;have b3:aA p H2 H3:=.bh b2.bag n3.same;have a3:H3 q3=some (.lst ((ky z).map V.str)):=n3.at';refine⟨_,rfl,_,rfl,_,rfl,q3,_,rfl,.inl (aa.of a3),p,24,rfl,b3.bag,by decide,by decide,fun d H4 d0 d1 b4=>?_⟩;have DY:q3≠p:=fun e=>b2.bag.ne (e▸n3.no);have hd:d.toNat<(ky z).length:=by rw[BX];omega
   refine .inl ⟨q3,_,d,_,rfl,rfl,aa.of (b4.same _ _ DY a3),da d0 (by rw[cg,fu hd];rfl),?_⟩;obtain⟨e1,e2⟩:=BW eH _ (kv hd);exact k _ _ e1 e2 (b1.trans (b2.trans (b3.trans b4)))
end
end Lw
namespace Lw
open PySem PySem.Spec PyProof.Rows L2 Ln Wk
open Tm (numS numIn? figs isFig Free)
section
variable {P:M7}{w:World}{K:M5}{mg:Str->Option Value}{base:Heap}
theorem K6(xs:List Str)(i:Nat)(h:i<=xs.length):cN (xs.map V.str) none (some (i:Int))=(xs.take i).map V.str:=by unfold cN;rw[HT.qt,HT.qu,List.drop_zero,aF,Nat.min_eq_left h,Nat.sub_zero,List.map_take]
theorem zq(xs:List Str)(i:Nat):cN (xs.map V.str) (some (i:Int)) none=(xs.drop i).map V.str:=by
 unfold cN;rw[HT.qt,HT.qu,aF];by_cases h:i<=xs.length
 ·rw[Nat.min_eq_left h,iE (by simp),List.map_drop]
 ·rw[Nat.min_eq_right (by omega),uH (by simp),uH (by omega)];simp
theorem xN{xs:List Str}{i:Nat}{y:Str}(h:xs[i]? =some y):xs=xs.take i++y::xs.drop (i+1):=by obtain⟨hi,e⟩:=dA.mp h;rw[<-e,<-List.drop_eq_getElem_cons hi,List.take_append_drop]
theorem drop_eq{xs:List Str}{i:Nat}{y:Str}(h:xs[i]? =some y):xs.drop i=y::xs.drop (i+1):=by obtain⟨hi,e⟩:=dA.mp h;rw[<-e,<-List.drop_eq_getElem_cons hi]
theorem zp{xs:List Str}{j:Int}(j0:0<=j)(h:j.toNat<=xs.length):cN (xs.map V.str) none (some j)=(xs.take j.toNat).map V.str/\cN (xs.map V.str) (some j) none=(xs.drop j.toNat).map V.str/\cN (xs.map V.str) (some (j+1)) none=(xs.drop (j.toNat+1)).map V.str:=by
 have e:(j.toNat:Int)=j:=uL j0;refine⟨?_,?_,?_⟩
 ·have:=K6 xs j.toNat h;rw[e]at this;exact this
 ·have:=zq xs j.toNat;rw[e]at this;exact this
 ·have:=zq xs (j.toNat+1);rw[Int.natCast_add,e]at this;exact this
inductive Al(vs:List V)(H:Hp)(Q:VK):Prop |mk (p:Addr)(z:Str)(h0:vs=[.ref p,.str z])(h1:cI H p)(h2:z.length<=550)(h3:aG z)(h4:(∀y∈Txt.split z "\n",y.length<=25))(h5:∀z' H',z'.length<=z.length+35->aG z'->aA p H H'->Q (.str z') H'):Al vs H Q
def vw(K:M5):Sp:=fun vs H Q _=>Al vs H Q
abbrev qb:Stmt:=top 50
theorem vR:aW ["_law_bag_here","_law_text_here","_law_how","_law_rows","_law_k","_law_words","_law_j"] ["_law_bag_here","_law_text_here"] (aK qb):=bz (by decide+kernel)
theorem ES(F:FA K mg "_law_words_put" qb)(B:bb mg)(aZ:aq P w K mg base "_law_take" 1 fe)(yB:aq P w K mg base "_law_word" 2 (vv K)):aq P w K mg base "_law_words_put" 3 (vw K):=by
 refine F.has vR (fun vs H Q E h=>?_) (fun _ _ _ _ _ _=>dn fun _ _=>rfl) (fun f ah A outer s H vs Q E hr h=>?_)
 · obtain⟨p,z,rfl,_⟩:=h
   rfl
 · obtain⟨p,z,rfl,bg,hz,eH,sU,k⟩:=h
   have nd:=vR.nd;have fm:sizeLine=16777216:=by decide
   refine⟨_,(ai (pS 2 nd (pf aZ hr (a7 (pv 0) (a7 ae a8)))) (ai (pS 3 nd (jD K rfl (pv 1) (a7 aw a8))) (ai (pS 4 nd (pf aZ hr (a7 (pv 0) (a7 (dh K B (a7 (pv 3) a8)) a8)))) (ai (pS 5 nd (jD K rfl (px K (pv 3) (pv 4)) (a7 aw a8))) (ai (pS 6 nd (pf aZ hr (a7 (pv 0) (a7 (dh K B (a7 (pv 5) a8)) a8)))) (ai (gG (aR (aO (eW K rfl hr.units) (pv 2) ae (aP _)) (ao (pS 5 nd (ay (iu K rfl) (cL (gh K rfl) (pv 5) cU (cC (pv 6))) (cL (gh K rfl) (pv 5) (cC (ay bT (pv 6) ae)) cU)))) (ao (aR (aO (eW K rfl hr.units) (pv 2) ae (aP _)) (ao (pS 5 nd (ay (iu K rfl) (ay (iu K rfl) (cL (gh K rfl) (pv 5) cU (cC (pv 6))) (cV (a7 (pf yB hr (a7 (pv 0) (a7 (px K (pv 5) (pv 6)) a8))) a8))) (cL (gh K rfl) (pv 5) (cC (pv 6)) cU)))) (ao (pS 5 nd (ay (iu K rfl) (ay (iu K rfl) (cL (gh K rfl) (pv 5) cU (cC (pv 6))) (cV (a7 (pf yB hr (a7 (pv 0) (a7 (px K (pv 5) (pv 6)) a8))) a8))) (cL (gh K rfl) (pv 5) (cC (ay bT (pv 6) ae)) cU)))))))) (ao (aE (kY K rfl aw (a7 (ay (iu K rfl) (ay (iu K rfl) (cL (gh K rfl) (pv 3) cU (cC (pv 4))) (cV (a7 (kY K rfl aw (a7 (pv 5) a8)) a8))) (cL (gh K rfl) (pv 3) (cC (ay bT (pv 4) ae)) cU)) a8)))))))))),?_⟩;refine⟨_,rfl,p,6,rfl,bg,by decide,by decide,fun how H1 h0 h1 b1=>?_⟩;refine⟨_,rfl,rfl,z,"\n",rfl,rfl,by decide+kernel,by omega,fun q H2 n2=>?_⟩;have jN:=split_len z "\n";have bJ:=Tm.kL z "\n";have JU:Txt.join "\n" (Txt.split z "\n")=z:=by rw[i9];exact vp z 10
   have rj:∀y∈Txt.split z "\n",aG y:=fun y hy=>by rw[i9]at hy;exact hV eH hy
   generalize er:Txt.split z "\n"=rows at*;have b2:aA p H1 H2:=.bh b1.bag n2.same;have LG:1<=rows.length:=uD.mpr bJ;refine⟨_,rfl,_,rfl,q,_,rfl,.inl (aa.of n2.at'),p,_,rfl,b2.bag,by rw[aF];omega,by rw[aF];omega,fun kk H3 k0 k1 b3=>?_⟩;rw[aF]at k1;have qp:q≠p:=fun e=>b1.bag.ne (e▸n2.no);have a3:=b3.same _ _ qp n2.at';have HQ:kk.toNat<rows.length:=by omega
   have ey:rows[kk.toNat]? =some rows[kk.toNat]:=fu HQ;generalize rows[kk.toNat]=y at ey;have LC:=sU y (eL ey);have iQ:=rj y (eL ey);refine⟨_,rfl,_,rfl,.inl ⟨q,_,kk,.str y,rfl,rfl,aa.of a3,da k0 (by rw[cg,ey];rfl),?_⟩⟩;refine⟨rfl,y," ",rfl,rfl,by decide+kernel,by omega,fun q2 H4 n4=>?_⟩;have LF:=split_len y " ";have HD:=Tm.kL y " ";have JV:Txt.join " " (Txt.split y " ")=y:=by rw[dR];exact vp y 32
   have iR:∀x∈Txt.split y " ",aG x/\x.length<=25:=fun x hx=>by rw[dR]at hx;have:=split_le hx;exact⟨hV iQ hx,by omega⟩
   generalize ew:Txt.split y " "=words at*;have b4:aA p H3 H4:=.bh b3.bag n4.same;have fj:1<=words.length:=uD.mpr HD;refine⟨_,rfl,_,rfl,q2,_,rfl,.inl (aa.of n4.at'),p,_,rfl,b4.bag,by rw[aF];omega,by rw[aF];omega,fun j H5 j0 j1 b5=>?_⟩;rw[aF]at j1;have qS:q2≠p:=fun e=>b3.bag.ne (e▸n4.no);have a5:=b5.same _ _ qS n4.at';have hj:j.toNat<words.length:=by omega
   have ex:words[j.toNat]? =some words[j.toNat]:=fu hj;generalize words[j.toNat]=x at ex;obtain⟨xk,LD⟩:=iR x (eL ex);have fT:=b1.trans (b2.trans (b3.trans (b4.trans b5)));have r5:=b5.same _ _ qp (n4.same _ _ a3);have ej:(j.toNat:Int)=j:=uL j0;have ek:(kk.toNat:Int)=kk:=uL k0;refine⟨fun σ H6=>∃(q6:Addr)(xs:List Str),aA p H H6/\H6 q=some (.lst (rows.map V.str))/\H6 q6=some (.lst (xs.map V.str))/\(Txt.join " " xs).length<=y.length+35/\(∀a∈xs,aG a/\a.length<=4000)/\xs.length<=1000/\σ=[some (.ref p),some (.str z),some (.int how),some (.ref q),some (.int kk),some (.ref q6),some (.int j)],?_,?_⟩
   · have tk:∀a∈words.take j.toNat,aG a/\a.length<=4000:=fun a ha=>by have:=iR a (kr ha);exact⟨this.1,by omega⟩
     have dr:∀i,∀a∈words.drop i,aG a/\a.length<=4000:=fun i a ha=>by have:=iR a (uA ha);exact⟨this.1,by omega⟩
     have lt:(words.take j.toNat).length<=words.length:=List.length_take_le' _ _;have ld:∀i,(words.drop i).length<=words.length:=fun i=>by rw[mr];omega
     have JL:=xN ex;have jy:(Txt.join ⟨#[32]⟩ (words.take j.toNat++x::words.drop (j.toNat+1))).length=y.length:=by rw[<-JL,<-dR,JV]
     obtain⟨c1,c2,c3⟩:=zp (xs:=words) j0 (by omega);refine⟨_,rfl,.inl ⟨_,_,rfl,rfl,_,rfl,?_⟩⟩;refine bH (fun _=>?_) (fun _=>?_)
     · refine⟨_,rfl,_,rfl,_,rfl,q2,_,rfl,.inl ⟨aa.of a5,fun q6 H6 n6=>?_⟩⟩
       rw[c1]at n6;refine⟨_,rfl,_,rfl,_,_,rfl,rfl,_,rfl,q2,_,rfl,.inl ⟨aa.of (n6.same _ _ a5),fun q7 H7 n7=>?_⟩⟩;rw[c3]at n7;refine⟨q6,q7,_,_,rfl,rfl,aa.of (n7.same _ _ n6.at'),aa.of n7.at',?_,fun q8 H8 n8=>?_⟩
       ·rw[aF,aF];have:=ld (j.toNat+1);omega
       have sm:=n6.same.trans (n7.same.trans n8.same);refine⟨q8,words.take j.toNat++words.drop (j.toNat+1),fT.trans (.bh fT.bag sm),sm _ _ r5,?_,?_,?_,?_,rfl⟩
       ·rw[dP];exact n8.at'
       ·rw[dR];have:=GO 32 (a:=words.take j.toNat) (b:=words.drop (j.toNat+1)) (y:=x);omega
       ·exact fun a ha=>(eg.mp ha).elim (tk a) (dr _ a)
       ·rw[de];have:=ld (j.toNat+1);omega
     refine⟨_,rfl,.inl ⟨_,_,rfl,rfl,_,rfl,?_⟩⟩;refine bH (fun _=>?_) (fun _=>?_)
     · refine⟨_,rfl,_,rfl,_,rfl,q2,_,rfl,.inl ⟨aa.of a5,fun q6 H6 n6=>?_⟩⟩
       rw[c1]at n6;have b6:aA p H5 H6:=.bh fT.bag n6.same;have a6:=n6.same _ _ a5;refine⟨_,rfl,_,rfl,_,rfl,.inl ⟨q2,_,j,.str x,rfl,rfl,aa.of a6,da j0 (by rw[cg,ex];rfl),?_⟩⟩;refine⟨p,x,rfl,b6.bag,by omega,xk,fun x' H7 lx rh b7=>?_⟩;refine⟨by show 1<=sizeLine;omega,fun q7 H8 n8=>?_⟩;have b8:aA p H7 H8:=.bh b7.bag n8.same;have qR:q6≠p:=fun e=>fT.bag.ne (e▸n6.no);have d6:=n8.same _ _ (b7.same _ _ qR n6.at');refine⟨q6,q7,_,_,rfl,rfl,aa.of d6,aa.of n8.at',?_,fun q8 H9 n9=>?_⟩
       ·rw[aF];show _+1<=_;omega
       have a9:=n9.same _ _ (n8.same _ _ (b7.same _ _ qS a6));refine⟨_,rfl,_,rfl,_,rfl,q2,_,rfl,.inl ⟨aa.of a9,fun q9 cz cy=>?_⟩⟩;rw[c2]at cy;refine⟨q8,q9,_,_,rfl,rfl,aa.of (cy.same _ _ n9.at'),aa.of cy.at',?_,fun kQ dc ia=>?_⟩
       ·rw[de,aF,aF];have:=ld j.toNat;show _+1+_<=_;omega
       have sm:=n8.same.trans (n9.same.trans (cy.same.trans ia.same));have m4:=fT.trans (b6.trans b7);refine⟨kQ,words.take j.toNat++[x']++words.drop j.toNat,m4.trans (.bh m4.bag sm),sm _ _ (b7.same _ _ qp (n6.same _ _ r5)),?_,?_,?_,?_,rfl⟩
       ·rw[dP,dP];exact ia.at'
       ·rw[dR,drop_eq ex];have:=GN 32 (a:=words.take j.toNat) (b:=words.drop (j.toNat+1)) (y:=x) (x:=x');omega
       · intro a ha
         rcases eg.mp ha with ha|ha
         · rcases eg.mp ha with ha|ha
           ·exact tk a ha
           ·rw[eK.mp ha];exact⟨rh,by omega⟩
         ·exact dr _ a ha
       ·rw[de,de];have:=ld j.toNat;show _+1+_<=_;omega
     · refine⟨_,rfl,_,rfl,_,rfl,q2,_,rfl,.inl ⟨aa.of a5,fun q6 H6 n6=>?_⟩⟩
       rw[c1]at n6;have b6:aA p H5 H6:=.bh fT.bag n6.same;have a6:=n6.same _ _ a5;refine⟨_,rfl,_,rfl,_,rfl,.inl ⟨q2,_,j,.str x,rfl,rfl,aa.of a6,da j0 (by rw[cg,ex];rfl),?_⟩⟩;refine⟨p,x,rfl,b6.bag,by omega,xk,fun x' H7 lx rh b7=>?_⟩;refine⟨by show 1<=sizeLine;omega,fun q7 H8 n8=>?_⟩;have b8:aA p H7 H8:=.bh b7.bag n8.same;have qR:q6≠p:=fun e=>fT.bag.ne (e▸n6.no);have d6:=n8.same _ _ (b7.same _ _ qR n6.at');refine⟨q6,q7,_,_,rfl,rfl,aa.of d6,aa.of n8.at',?_,fun q8 H9 n9=>?_⟩
       ·rw[aF];show _+1<=_;omega
       have a9:=n9.same _ _ (n8.same _ _ (b7.same _ _ qS a6));refine⟨_,rfl,_,rfl,_,_,rfl,rfl,_,rfl,q2,_,rfl,.inl ⟨aa.of a9,fun q9 cz cy=>?_⟩⟩;rw[c3]at cy;refine⟨q8,q9,_,_,rfl,rfl,aa.of (cy.same _ _ n9.at'),aa.of cy.at',?_,fun kQ dc ia=>?_⟩
       ·rw[de,aF,aF];have:=ld (j.toNat+1);show _+1+_<=_;omega
       have sm:=n8.same.trans (n9.same.trans (cy.same.trans ia.same));have m4:=fT.trans (b6.trans b7);refine⟨kQ,words.take j.toNat++[x']++words.drop (j.toNat+1),m4.trans (.bh m4.bag sm),sm _ _ (b7.same _ _ qp (n6.same _ _ r5)),?_,?_,?_,?_,rfl⟩
       ·rw[dP,dP];exact ia.at'
       ·rw[dR];have:=y0 32 (a:=words.take j.toNat) (b:=words.drop (j.toNat+1)) (y:=x) (x:=x') (N:=9) lx;omega
       · intro a ha
         rcases eg.mp ha with ha|ha
         · rcases eg.mp ha with ha|ha
           ·exact tk a ha
           ·rw[eK.mp ha];exact⟨rh,by omega⟩
         ·exact dr _ a ha
       ·rw[de,de];have:=ld (j.toNat+1);show _+1+_<=_;omega
   · rintro σ H6 ⟨q6,xs,b6,r6,a6,lj,jF,lx,rfl⟩
     obtain⟨d1,_,d3⟩:=zp (xs:=rows) k0 (by omega);refine⟨rfl,?_⟩;refine⟨_,rfl,_,rfl,_,rfl,q,_,rfl,.inl ⟨aa.of r6,fun q7 H7 n7=>?_⟩⟩;rw[d1]at n7;refine⟨rfl,_,rfl," ",q6,xs,rfl,rfl,aa.of (n7.same _ _ a6),fun a ha=>(jF a ha).2,by decide+kernel,lx,?_⟩;generalize JW:Txt.join " " xs=yy at lj;have EK:aG yy:=by rw[<-JW];exact aG.join (eI (by decide+kernel)) fun a ha=>(jF a ha).1
     refine⟨by show 1<=sizeLine;omega,fun q8 H8 n8=>?_⟩;have Lx:(rows.take kk.toNat).length<=rows.length:=List.length_take_le' _ _;have Ly:(rows.drop (kk.toNat+1)).length<=rows.length:=by rw[mr];omega
     refine⟨q7,q8,_,_,rfl,rfl,aa.of (n8.same _ _ n7.at'),aa.of n8.at',?_,fun q9 H9 n9=>?_⟩
     ·rw[aF];show _+1<=_;omega
     have r9:=n9.same _ _ (n8.same _ _ (n7.same _ _ r6));refine⟨_,rfl,_,rfl,_,_,rfl,rfl,_,rfl,q,_,rfl,.inl ⟨aa.of r9,fun kQ cz cy=>?_⟩⟩;rw[d3]at cy;refine⟨q9,kQ,_,_,rfl,rfl,aa.of (cy.same _ _ n9.at'),aa.of cy.at',?_,fun jx dc ia=>?_⟩
     ·rw[de,aF,aF];show _+1+_<=_;omega
     have sm:=n7.same.trans (n8.same.trans (n9.same.trans (cy.same.trans ia.same)));have tW:dc jx=some (.lst ((rows.take kk.toNat++[yy]++rows.drop (kk.toNat+1)).map V.str)):=by rw[dP,dP];exact ia.at'
     have mem:∀a∈rows.take kk.toNat++[yy]++rows.drop (kk.toNat+1),aG a/\a.length<=4000:=fun a ha=>by
      rcases eg.mp ha with ha|ha
      · rcases eg.mp ha with ha|ha
        · have h1:=kr ha
          exact⟨rj a h1,by have:=sU a h1;omega⟩
        ·rw[eK.mp ha];exact⟨EK,by omega⟩
      · have h1:=uA ha
        exact⟨rj a h1,by have:=sU a h1;omega⟩
     refine⟨"\n",jx,_,rfl,rfl,aa.of tW,fun a ha=>(mem a ha).2,by decide+kernel,?_,?_⟩
     ·rw[de,de,gY,mr];show _+1+_<=_;omega
     refine k _ _ ?_ (aG.join (eI (by decide+kernel)) fun a ha=>(mem a ha).1) (b6.trans (.bh b6.bag sm));have h1:=y0 10 (a:=rows.take kk.toNat) (b:=rows.drop (kk.toNat+1)) (y:=y) (x:=yy) lj;rw[<-xN ey,<-i9,JU]at h1;exact h1
inductive Aw(vs:List V)(H:Hp)(Q:VK):Prop |mk (p:Addr)(z:Str)(h0:vs=[.ref p,.str z])(h1:cI H p)(h2:z.length<=590)(h3:aG z)(h4:∀z' H',z'.length<=z.length+3->aG z'->aA p H H'->Q (.str z') H'):Aw vs H Q
def vC(K:M5):Sp:=fun vs H Q _=>Aw vs H Q
theorem pL{z:Str}(h:aG z){lo hi:Option Int}{l:List Nat}(e:(StrLaws.sliceText z lo hi).cps.toList=l)(hl:∀c∈l,c∈z.cps.toList):aG (StrLaws.sliceText z lo hi):=fun c hc=>h c (hl c (by rw[<-e];exact hc))
theorem rR{z:Str}{l:List Nat}(h:z.cps.toList=l):z.length=l.length:=by rw[<-h];simp[Str.length]
abbrev qh:Stmt:=top 51
theorem vX:aW ["_law_bag_here","_law_text_here","_law_k","_law_how","_law_sign_here","_law_at"] ["_law_bag_here","_law_text_here"] (aK qh):=bz (by decide+kernel)
theorem EY(F:FA K mg "_law_signs_put" qh)(B:bb mg)(aZ:aq P w K mg base "_law_take" 1 fe)(Jc:aq P w K mg base "_law_sign" 2 vB):aq P w K mg base "_law_signs_put" 3 (vC K):=by
 refine F.has vX (fun vs H Q E h=>?_) (fun _ _ _ _ _ _=>dn fun _ _=>rfl) (fun f ah A outer s H vs Q E hr h=>?_)
 · obtain⟨p,z,rfl,_⟩:=h
   rfl
 · obtain⟨p,z,rfl,bg,hz,eH,k⟩:=h
   have nd:=vX.nd;have fm:sizeLine=16777216:=by decide
   refine⟨_,(ai (hX jm rfl (gH rfl (B.at "range") (a7 (ay bT ae (pf aZ hr (a7 (pv 0) (a7 ae a8)))) a8)) (bA 2 nd) (ai (pS 3 nd (pf aZ hr (a7 (pv 0) (a7 ae a8)))) (ai (pS 4 nd (pf Jc hr (a7 (pv 0) a8))) (ai (pS 5 nd (pf aZ hr (a7 (pv 0) (a7 (ay bT (cm (x:="len") jY rfl (B.at "len") kl (a7 (pv 1) a8)) ae) a8)))) (ao (pS 1 nd (px K (cV (a7 (ay eG (cL gE (pv 1) cU (cC (pv 5))) (cL gE (pv 1) (cC (ay bT (pv 5) ae)) cU)) (a7 (ay eG (ay eG (cL gE (pv 1) cU (cC (pv 5))) (pv 4)) (cL gE (pv 1) (cC (pv 5)) cU)) (a7 (ay eG (ay eG (cL gE (pv 1) cU (cC (pv 5))) (pv 4)) (cL gE (pv 1) (cC (ay bT (pv 5) ae)) cU)) a8)))) (pv 3)))))))) (ao (aE (pv 1)))),?_⟩;refine⟨_,rfl,p,3,rfl,bg,by decide,by decide,fun t0 H1 t1 t2 b1=>?_⟩;refine⟨_,_,rfl,rfl,_,rfl,by omega,by omega,?_⟩;refine jS (Pv:=fun i σ H2=>aA p H H2/\∃y v2 v3 v4 v5,y.length<=z.length+i/\aG y/\σ=[some (.ref p),some (.str y),v2,v3,v4,v5]) ?_ ?_ ?_
   ·exact⟨b1,z,none,none,none,none,by omega,eH,rfl⟩
   · rintro i σ H2 hi ⟨b2,y,v2,v3,v4,v5,ly,iQ,rfl⟩
     have LM:i<3:=by omega
     refine⟨_,rfl,p,3,rfl,b2.bag,by decide,by decide,fun how H3 h0 h1 b3=>?_⟩;refine⟨_,rfl,p,rfl,b3.bag,fun c H4 hc b4=>?_⟩;refine⟨_,rfl,_,rfl,y,rfl,by omega,_,_,rfl,rfl,p,_,rfl,b4.bag,by omega,by omega,fun at_ H5 a0 a1 b5=>?_⟩;have ea:(at_.toNat:Int)=at_:=uL a0;have tA:=uV y at_.toNat;have tB:=pI y at_.toNat;have tC:=pI y (at_.toNat+1);rw[ea]at tA tB;rw[Int.natCast_add,ea]at tC;have tC:(StrLaws.sliceText y (some (at_+1)) none).cps.toList=y.cps.toList.drop (at_.toNat+1):=tC;have kA:=pL iQ tA fun c hc=>kr hc;have kB:=pL iQ tB fun c hc=>uA hc;have kC:=pL iQ tC fun c hc=>uA hc;have lA:=rR tA;have lB:=rR tB;have lC:=rR tC;have xQ:y.cps.toList.length=y.length:=by simp[Str.length]
     rw[gY,xQ]at lA;rw[mr,xQ]at lB lC;have xm:aG ⟨#[c]⟩:=fun x hx=>by
      have:x=c:=by simpa using hx
      rw[this];exact hc
     have lc:(⟨#[c]⟩:Str).length=1:=rfl;generalize eA:StrLaws.sliceText y none (some at_)=A' at kA lA;generalize eB:StrLaws.sliceText y (some at_) none=B' at kB lB;generalize eC:StrLaws.sliceText y (some (at_+1)) none=C' at kC lC;refine⟨_,rfl,_,rfl,_,rfl,y,rfl,by omega,?_⟩;rw[eA];refine⟨_,rfl,_,rfl,_,_,rfl,rfl,_,rfl,y,rfl,by omega,?_⟩;rw[eC];refine⟨_,_,rfl,rfl,by omega,?_⟩;refine⟨_,rfl,_,rfl,_,rfl,y,rfl,by omega,?_⟩;rw[eA];refine⟨_,rfl,_,_,rfl,rfl,by omega,?_⟩;refine⟨_,rfl,_,rfl,_,rfl,y,rfl,by omega,?_⟩;rw[eB];refine⟨_,_,rfl,rfl,by rw[cP];omega,?_⟩;refine⟨_,rfl,_,rfl,_,rfl,y,rfl,by omega,?_⟩;rw[eA];refine⟨_,rfl,_,_,rfl,rfl,by omega,?_⟩;refine⟨_,rfl,_,rfl,_,_,rfl,rfl,_,rfl,y,rfl,by omega,?_⟩;rw[eC];refine⟨_,_,rfl,rfl,by rw[cP];omega,?_⟩;refine⟨by show 3<=sizeLine;omega,fun q6 H6 n6=>?_⟩;have Kw:=b2.trans (b3.trans (b4.trans (b5.trans (.bh b5.bag n6.same))));have hw:∃w':Str,cO [V.str (A'++C'),V.str (A'++⟨#[c]⟩++B'),V.str (A'++⟨#[c]⟩++C')] how=some (V.str w')/\w'.length<=z.length+(i+1)/\aG w':=by
      rcases(show how=0\/how=1\/how=2 by omega)with rfl|rfl|rfl
      ·exact⟨_,rfl,by rw[cP];omega,kA.app kC⟩
      ·exact⟨_,rfl,by rw[cP,cP];omega,(kA.app xm).app kB⟩
      ·exact⟨_,rfl,by rw[cP,cP];omega,(kA.app xm).app kC⟩
     obtain⟨w',JM,Gm,EL⟩:=hw;refine⟨_,rfl,.inl ⟨q6,_,how,_,rfl,rfl,aa.of n6.at',JM,?_⟩⟩;exact⟨Kw,w',_,_,_,_,Gm,EL,rfl⟩
   · rintro σ H2 ⟨b2,y,v2,v3,v4,v5,ly,iQ,rfl⟩
     refine⟨_,rfl,k _ _ ?_ iQ b2⟩;omega
end
end Lw
namespace Lw
open PySem PySem.Spec PyProof.Rows L2 Ln Wk
open Tm (numS numIn? figs isFig Free)
section
variable {P:M7}{w:World}{K:M5}{mg:Str->Option Value}{base:Heap}
theorem vi{R:Str->Prop}:∀(ds:List M8),(∀d∈ds,∃z:Str,d= .str z/\R z)->∃zs:List Str,ds=zs.map PyData.str/\∀z∈zs,R z |[],_=>⟨[],rfl,fun _ h=>nomatch h⟩ |d::ds,h=>by obtain⟨z,rfl,hz⟩:=h d (.head _);obtain⟨zs,rfl,hs⟩:=vi ds fun d hd=>h d (.tail _ hd);exact⟨z::zs,rfl,fun y hy=>by
     rcases aX.mp hy with rfl|hy
     ·exact hz
     ·exact hs y hy⟩
inductive Am(vs:List V)(H:Hp)(Q:VK):Prop |mk (p:Addr)(ax:Nat)(h0:vs=[.ref p,.int ax])(h1:cI H p)(h2:2<=ax)(h3:ax<=3)(h4:∀z H',z.length<=600->aG z->aA p H H'->Q (.str z) H'):Am vs H Q
def mS(K:M5):Sp:=fun vs H Q _=>Am vs H Q
abbrev qc:Stmt:=top 52
theorem vS:aW ["_law_bag_here","_law_axes","_law_spoil","_law_many","_law_text_here"] ["_law_bag_here","_law_axes"] (aK qc):=bz (by decide+kernel)
theorem EU(F:FA K mg "_law_text" qc)(B:bb mg)(aZ:aq P w K mg base "_law_take" 1 fe)(Jh:aq P w K mg base "_law_item" 3 (vJ K))(Jf:aq P w K mg base "_law_item_text" 1 (vI K))(Ja:aq P w K mg base "_law_words_put" 3 (vw K))(Jb:aq P w K mg base "_law_signs_put" 3 (vC K)):aq P w K mg base "_law_text" 4 (mS K):=by
 refine F.has vS (fun vs H Q E h=>?_) (fun _ _ _ _ _ _=>dn fun _ _=>rfl) (fun f ah A outer s H vs Q E hr h=>?_)
 · obtain⟨p,ax,rfl,_⟩:=h
   rfl
 · obtain⟨p,ax,rfl,bg,zS,Kx,k⟩:=h
   have nd:=vS.nd;have fm:sizeLine=16777216:=by decide
   refine⟨_,(ai (pS 2 nd (pf aZ hr (a7 (pv 0) (a7 ae a8)))) (ai (pS 3 nd (px K (cV (a7 (pf aZ hr (a7 (pv 0) (a7 ae a8))) (a7 ae (a7 ae (a7 (pf aZ hr (a7 (pv 0) (a7 ae a8))) a8))))) (pf aZ hr (a7 (pv 0) (a7 ae a8))))) (ai (gG (aR (aO (eW K rfl hr.units) (pv 2) ae (aP _)) (ao (pS 1 nd (ay rf ae (pv 1)))) aV)) (ai (pS 4 nd (kY K rfl aw (a7 (fh (N:=["_law_k","_law_bag_here","_law_axes"]) (js:=[none,some 0,some 1]) rfl rfl rfl (gH rfl (B.at "range") (a7 (pv 3) a8)) (fun _ _ _ _ _=>(bA 0 (show List.Nodup (["_law_k","_law_bag_here","_law_axes"]:List Str) by decide+kernel))) (fun _ _ _ _ _=>eO) (fun _ _ _ _ _=>(pf Jf hr (a7 (pf Jh hr (a7 (pv 1) (a7 (pv 2) a8))) a8)))) a8))) (ai (gG (aR (aO (ye K rfl) (pv 2) (cV (a7 ae (a7 ae (a7 ae a8)))) (by with_unfolding_all rfl)) (ao (pS 4 nd (pf Ja hr (a7 (pv 0) (a7 (pv 4) a8))))) aV)) (ai (gG (aR (aO (ye K rfl) (pv 2) (cV (a7 ae (a7 ae (a7 ae a8)))) (by with_unfolding_all rfl)) (ao (pS 4 nd (pf Jb hr (a7 (pv 0) (a7 (pv 4) a8))))) aV)) (ao (aE (pv 4))))))))),?_⟩;refine⟨_,rfl,p,8,rfl,bg,by decide,by decide,fun sp H1 s0 s1 b1=>?_⟩;refine⟨_,rfl,p,20,rfl,b1.bag,by decide,by decide,fun m1 H2 Ls Lr b2=>?_⟩;refine⟨_,rfl,p,4,rfl,b2.bag,by decide,by decide,fun m2 H3 Lq Lp b3=>?_⟩;refine⟨by show 4<=sizeLine;omega,fun c H4 n4=>?_⟩;have b4:aA p H3 H4:=.bh b3.bag n4.same;have cp:c≠p:=fun e=>b3.bag.ne (e▸n4.no);refine⟨_,rfl,p,4,rfl,b4.bag,by decide,by decide,fun i H5 i0 i1 b5=>?_⟩;have hm:∃m:Int,cO [V.int m1,V.int 20,V.int 21,V.int m2] i=some (V.int m)/\0<=m/\m<=21:=by
    rcases(show i=0\/i=1\/i=2\/i=3 by omega)with rfl|rfl|rfl|rfl
    ·exact⟨m1,rfl,by omega,by omega⟩
    ·exact⟨20,rfl,by omega,by omega⟩
    ·exact⟨21,rfl,by omega,by omega⟩
    ·exact⟨m2,rfl,by omega,by omega⟩
   obtain⟨m,em,m0,mm⟩:=hm;refine .inl ⟨c,_,i,_,rfl,rfl,aa.of (b5.same _ _ cp n4.at'),em,?_⟩;have fT:=b1.trans (b2.trans (b3.trans (b4.trans b5)));refine⟨fun σ H6=>H6=H5/\∃je:Nat,2<=je/\je<=3/\σ=[some (.ref p),some (.int je),some (.int sp),some (.int m),none],?_,?_⟩
   · refine⟨_,rfl,.inl ⟨_,_,rfl,rfl,_,rfl,?_⟩⟩
     refine bH (fun _=>?_) (fun _=>⟨rfl,ax,zS,Kx,rfl⟩);refine⟨_,rfl,_,_,rfl,rfl,rfl,5-ax,by omega,by omega,?_⟩;rw[Int.natCast_sub (by omega)];rfl
   rintro σ H6 ⟨rfl,je,a2,a3,rfl⟩;refine⟨rfl,?_⟩;refine⟨_,rfl,_,rfl,by omega,by omega,fun D H7 nD=>?_⟩;refine zt (K:=K) (J:=gT 0 m.toNat) (p:=p) (H:=H6) m.toNat _ nD fT.bag (by omega) (fun i=>.int (0+(i:Int))) (fun i H3 hi _=>⟨hi,fun y H4 ⟨e,q⟩=>⟨e,q⟩⟩) (fun H3 _=>aD _) (fun _ d=>∃z:Str,d= .str z/\(z.length<=25/\aG z/\Free 10 z)) ?_ ?_
   · intro i H8 Q' hi b8 hq
     refine⟨_,rfl,_,rfl,p,je,rfl,b8.bag,by omega,by omega,fun v d o H9 rv it b9=>?_⟩;have tx:=it.tx (by omega) (by omega);exact⟨v,d,rfl,rv,tx.ti,fun cz cJ=>hq _ _ _ ⟨_,rfl,GS it (by omega),tx.ok,tx.fr⟩ rfl (bc _) (b9.trans (.bh b9.bag cJ))⟩
   intro H8 ys ds b8 d8 r8 l8 nl pd;obtain⟨zs,rfl,hz⟩:=vi ds fun d hd=>by obtain⟨i,hi⟩:=uB.mp hd;exact pd i d hi
   rw[mP r8]at d8;rw[aF]at l8;have lz:zs.length<=21:=by omega
   refine⟨"\n",D,zs,rfl,rfl,aa.of d8,fun z fH=>by have:=(hz z fH).1;omega,by decide+kernel,by omega,?_⟩;have rk:aG (Txt.join "\n" zs):=aG.join (eI (by decide+kernel)) fun a ha=>(hz a ha).2.1;have lj:=rV "\n" (B:=25) zs fun z fH=>(hz z fH).1;rw[show Str.length "\n"=1 by decide+kernel]at lj;have lj:(Txt.join "\n" zs).length<=546:=bG lj (bG (Nat.mul_le_mul lz (aD _)) (by decide));have bD:∀y∈Txt.split (Txt.join "\n" zs) "\n",y.length<=25:=fun y hy=>by cases zs with
    |nil=>
      have e0:Txt.split (Txt.join "\n" []) "\n"=[("":Str)]:=by rw[i9];exact Tm.D7 (fq (by decide+kernel))
      rw[e0]at hy;rw[eK.mp hy];decide+kernel |cons a r=>rw[i9,Tm.pN (by simp) fun z fH=>(hz z fH).2.2]at hy;exact(hz y hy).1
   generalize Txt.join "\n" zs=y at rk lj bD;have tQ:=fT.trans b8;refine⟨fun σ H9=>aA p H H9/\∃y:Str,y.length<=590/\aG y/\σ=[some (.ref p),some (.int je),some (.int sp),some (.int m),some (.str y)],?_,?_⟩
   · refine⟨_,rfl,by show 3<=sizeLine;omega,fun q H9 n9=>?_⟩
     have b9:aA p H8 H9:=.bh tQ.bag n9.same;refine⟨q,_,rfl,.inl (aa.of n9.at'),rfl,rfl,_,rfl,?_⟩;refine bH (fun _=>?_) (fun _=>⟨tQ.trans b9,y,by omega,rk,rfl⟩);exact⟨_,rfl,_,rfl,p,y,rfl,b9.bag,by omega,rk,bD,fun z' cz l' rn fU=>⟨tQ.trans (b9.trans fU),z',by omega,rn,rfl⟩⟩
   rintro σ H9 ⟨b9,y9,l9,xn,rfl⟩;refine⟨fun σ cz=>aA p H cz/\∃y:Str,y.length<=600/\aG y/\σ=[some (.ref p),some (.int je),some (.int sp),some (.int m),some (.str y)],?_,?_⟩
   · refine⟨_,rfl,by show 3<=sizeLine;omega,fun q cz cy=>?_⟩
     have fU:aA p H9 cz:=.bh b9.bag cy.same;refine⟨q,_,rfl,.inl (aa.of cy.at'),rfl,rfl,_,rfl,?_⟩;refine bH (fun _=>?_) (fun _=>⟨b9.trans fU,y9,by omega,xn,rfl⟩);exact⟨_,rfl,_,rfl,p,y9,rfl,fU.bag,by omega,xn,fun z' dc l' rn jZ=>⟨b9.trans (fU.trans jZ),z',by omega,rn,rfl⟩⟩
   rintro σ cz ⟨fU,Lb,GG,Fv,rfl⟩;exact⟨_,rfl,k _ _ GG Fv fU⟩
end
end Lw
namespace Lw
open PySem PySem.Spec PyProof.Rows L2 Ln Wk PySem.NumText
open Tm (numS numIn? figs isFig Free)
section
variable {P:M7}{w:World}{K:M5}{mg:Str->Option Value}{base:Heap}
def cB(n:Nat)(z:Str):List M8:=if z="" then[]else(Txt.split z "\n").map (cW n)
structure FB(ds:List M8)(i:Nat):Prop where
 lt:i<ds.length
 le:i<=20
 pre:∀j d,j<i->ds[j]? =some d->d≠ .none
 bad:ds[i]? =some .none\/i=20
def oY(ds:List M8):Prop:=ds.length<=20/\∀d∈ds,d≠ .none
theorem FB.xA{ds:List M8}{i:Nat}(h:FB ds i)(a:oY ds):False:=by
 rcases h.bad with e|e
 ·exact a.2 _ (eL e) rfl
 ·have:=h.lt;have:=a.1;omega
theorem FB.half{ds:List M8}{i j:Nat}(h:FB ds i)(g:FB ds j):¬i<j:=fun hl=>by
 rcases h.bad with e|e
 ·exact g.pre i _ hl e rfl
 ·have:=g.le;omega
theorem FB.uniq{ds:List M8}{i j:Nat}(h:FB ds i)(g:FB ds j):i=j:=by have:=h.half g;have:=g.half h;omega
theorem wH(n:Nat)(z:Str):bB (cB n z)=true:=by
 unfold cB;split
 ·rfl
 ·exact dG.mpr fun d hd=>by obtain⟨y,_,rfl⟩:=bN.mp hd;exact rW n y
theorem nQ{H:Hp}{v:V}{d:M8}(h:RD K H v d):decide (v=V.au)=true↔d= .none:=by
 rw[iD];refine⟨fun e=>?_,fun e=>?_⟩
 · rw[e]at h
   cases d with |none=>rfl |bool b=>have:=h.tN;cases this |int b=>have:=h.int_inv;cases this |str b=>have:=h.str_inv;cases this |list b=>obtain⟨_,_,h,_⟩:=h.lst_inv;cases h |tuple b=>obtain⟨_,_,h,_⟩:=h.cS;cases h |_=>rw[RD]at h;exact h.elim
 ·rw[e]at h;exact h.nE
inductive AL(K:M5)(vs:List V)(H:Hp)(Q:VK):Prop |mk (v:V)(n:Nat)(h0:vs=[v,.int n])(h1:n<=3)(h2:((∃z:Str,v= .str z/\z.length<=600/\du z/\(∀(i:Nat) H',FB (cB n z) i->af H H'->Q (.int i) H')/\(oY (cB n z)->∀v' H',af H H'->RD K H' v' (.tuple (cB n z))->Q v' H'))\/ ∃d,RD K H v d/\ck (df d) "str"=false/\∀H',af H H'->Q (.int ((0:Nat):Int)) H')):AL K vs H Q
def pU(K:M5):Sp:=fun vs H Q _=>AL K vs H Q
abbrev qC:Stmt:=top 48
theorem wA:aW ["_law_text_here","_law_axes","_law_found","_law_row","_law_item_here"] ["_law_text_here","_law_axes"] (aK qC):=bz (by decide+kernel)
theorem Fp(F:FA K mg "_law_due" qC)(B:bb mg)(Jg:aq P w K mg base "_law_item_read" 3 (pT K)):aq P w K mg base "_law_due" 4 (pU K):=by
 refine F.has wA (fun vs H Q E h=>?_) (fun _ _ _ _ _ _=>dn fun _ _=>rfl) (fun f ah A outer s H vs Q E hr h=>?_)
 · obtain⟨v,n,rfl,_⟩:=h
   rfl
 · obtain⟨v,n,rfl,hn,hc⟩:=h
   have nd:=wA.nd;have fm:sizeLine=16777216:=by decide
   refine⟨_,(ai (aR (eF (dE (fC K B (a7 (pv 0) (a7 (fi (x:="str") (v:=.ty "str") rfl (B.at "str") mn rfl) a8))))) (ao (aE ae)) aV) (ai (pS 2 nd (cV a8)) (ai (aR (aO dj (pv 0) aw (aP _)) (ao (aE (dF a8))) aV) (ai (hX jm rfl (ng K rfl (jD K rfl (pv 0) (a7 aw a8))) (bA 3 nd) (ai (pS 4 nd (pf Jg hr (a7 (pv 3) (a7 (pv 1) a8)))) (ai (aR (PW.pt (fB (aO nk (pv 4) cD (aP _)) (gF (aO dj (dh K B (a7 (pv 2) a8)) ae (aP _))))) (ao (aE (dh K B (a7 (pv 2) a8)))) aV) (ao (wR (wY K rfl (pv 2) (a7 (pv 4) a8))))))) (ao (aE (eP (x:="tuple") (iH K rfl) rfl (B.at "tuple") gC (a7 (pv 2) a8)))))))),?_⟩;rcases hc with⟨z,rfl,hz,tz,k1,k2⟩|⟨d,rd,ht,k⟩
   · refine⟨_,rfl,.inl ⟨_,_,"str",true,rfl,(bc (K:=K) (H:=H) z).ty,by decide,pH,_,rfl,aB ?_⟩⟩
     refine⟨bE _,fun D H1 n1=>?_⟩;refine⟨_,rfl,rfl,_,rfl,?_⟩;rw[jt];by_cases fG:z=""
     · rw[br fG]
       refine aJ ⟨bE _,fun p H2 n2=>?_⟩;have e:cB n z=[]:=aH fG;rw[e]at k2;exact k2 ⟨bE _,fun _ h=>nomatch h⟩ _ _ (n1.same.trans n2.same) (cx (az.of n2.at') fA)
     rw[bu fG];refine aB ⟨_,rfl,rfl,z,"\n",rfl,rfl,by decide+kernel,by omega,fun q H2 n2=>?_⟩;have no:=wH n z;have jc:cB n z=(Txt.split z "\n").map (cW n):=aC fG;generalize cB n z=ds at k1 k2 no jc;have lr:(Txt.split z "\n").length=ds.length:=by rw[jc,aF]
     have Dq:D≠q:=cn n1.at' n2.no;have s2:=n1.same.trans n2.same;refine⟨q,rfl,⟨_,aa.of n2.at'⟩,yU (K:=K) (a:=q) (xs:=(Txt.split z "\n").map V.str) (fun i σ H3=>af H H3/\∃ys v1 v2,H3 D=some (.lst ys)/\H3 q=some (.lst ((Txt.split z "\n").map V.str))/\aj K H3 ys (ds.take i)/\(∀j d,j<i->ds[j]? =some d->d≠ .none)/\i<=20/\σ=[some (.str z),some (.int n),some (.ref D),v1,v2]) ?_ ?_ ?_ ?_⟩
     ·exact⟨s2,[],none,none,n2.same _ _ n1.at',n2.at',cT,fun _ _ h=>absurd h (Nat.not_lt_zero _),bE _,rfl⟩
     · rintro i σ H3 _ ⟨_,ys,v1,v2,_,eq,_⟩
       exact aa.of eq
     · rintro i y σ H3 lG ⟨s3,ys,v1,v2,dD,dq,ry,pre,fF,rfl⟩
       rw[cg]at lG;obtain⟨r,er,rfl⟩:=mq.mp lG;have hm:=eL er;rw[i9]at hm;have nW:=split_le hm;have su:=hV tz hm;have ed:ds[i]? =some (cW n r):=by rw[jc,cg,er];rfl
       have hi:i<ds.length:=(dA.mp ed).1;refine⟨_,rfl,_,rfl,r,n,rfl,by omega,su,hn,fun v H5 s5 rv=>?_⟩;have gw:=s5 _ _ dD;have tq:=s5 _ _ dq;have ly:=ry.length;rw[gY]at ly;have ly:ys.length=i:=by omega
       have mX:=s3.trans s5;refine⟨_,rfl,rfl,_,rfl,?_⟩;cases hv:decide (v=V.au)with |true=>have e:=(nQ rv).mp hv;refine aJ (aJ ⟨_,rfl,D,_,rfl,.inl (aa.of gw),?_⟩);rw[ly];exact k1 i _ ⟨hi,fF,pre,.inl (by rw[ed,e])⟩ mX |false=>
         have e:cW n r≠ .none:=fun e=>by rw[(nQ rv).mpr e]at hv;cases hv
         refine aB ⟨_,rfl,D,_,rfl,.inl (aa.of gw),rfl,_,rfl,?_⟩;rw[ly];by_cases lW:i=20
         · rw[br (show V.int (i:Int)=V.int 20 by rw[lW];rfl)]
           refine aJ ⟨_,rfl,D,_,rfl,.inl (aa.of gw),?_⟩;rw[ly];exact k1 i _ ⟨hi,fF,pre,.inr lW⟩ mX
         · rw[bu (show¬V.int (i:Int)=V.int 20 from fun e=>by injection e with e;omega)]
           refine aB ⟨_,rfl,.inl ⟨rfl,_,aa.of gw⟩,_,rfl,D,ys,_,rfl,rfl,gw,by omega,?_⟩;have sT:eJ H5 (L2.upd H5 D (.lst (ys++[v]))):=.mC gw;refine⟨fun b o e=>?_,ys++[v],_,_,bR,?_,?_,fun j d hj ej=>?_,by omega,rfl⟩
           ·rw[aL (cn e n1.no)];exact s5 _ _ (s3 _ _ e)
           ·rw[aL Dq.symm];exact tq
           · rw[pe,ed]
             have rB:bB (ds.take i)=true:=dG.mpr fun d lR=>dG.mp no d (kr lR);exact(aj.t sT _ rB (aj.mono s5 _ ry)).append (bS (RD.t sT _ (rW n r) rv) cT)
           · by_cases sD:j<i
             ·exact pre j d sD ej
             · have:j=i:=by omega
               subst this;rw[ed]at ej;cases ej;exact e
     · rintro σ H3 ⟨s3,ys,v1,v2,dD,dq,ry,pre,fF,rfl⟩
       rw[aF,lr]at ry pre fF;rw[iE (aD _)]at ry;refine⟨_,rfl,D,_,rfl,.inl ⟨aa.of dD,fun p H4 n4=>?_⟩⟩;refine k2 ⟨fF,fun d hd=>?_⟩ _ _ (s3.trans n4.same) (cx (az.of n4.at') (aj.mono n4.same _ ry));obtain⟨j,hj⟩:=uB.mp hd;exact pre j d (dA.mp hj).1 hj
   · refine⟨_,rfl,.inl ⟨_,_,"str",false,rfl,rd.ty,by decide,ht,_,rfl,aJ ?_⟩⟩
     exact k H (af.refl _)
end
end Lw
namespace Lw
open PySem PySem.Spec PyProof.Rows L2 Ln Wk PySem.NumText
open Tm (numS numIn? figs isFig Free)
section
variable {P:M7}{w:World}{K:M5}{mg:Str->Option Value}{base:Heap}
def Kc(s:Stmt):List Stmt:=match s with | .ClassDef _ _ _ b _ _ _ _ _ _ _=>b |_=>[]
abbrev pY:Stmt:=(Kc (top 9)).getD 0 (.Pass ⟨0,0,0,0⟩)
theorem vO:aW ["self","at"] ["self","at"] (aK pY):=bz (by decide+kernel)
inductive Ai(K:M5)(vs:List V)(H:Hp)(Q:VK):Prop |mk (ex:_)(C:_)(y:_)(h0:vs=[.ref ex,y])(h1:H ex=some (.ext (iA ex C)))(h2:tX K C "at")(h3:∀dx,H dx=none->dx≠ex->Q .au (L2.upd (L2.upd H dx (.xd [("at",y)])) ex (.ext (gA ex C dx)))):Ai K vs H Q
def vt(K:M5):Sp:=fun vs H Q _=>Ai K vs H Q
theorem EO{f:Addr}{fd:FuncData}(F:fZ K "__init__" "NoText.__init__" pY f fd):dZ P w K mg base dw 1 f fd ["self","at"] (vt K):=by
 refine F.ok vO (fun vs H Q E h=>?_) (fun ah A outer s H vs Q E hr h=>?_)
 · obtain⟨ex,C,y,rfl,_⟩:=h
   rfl
 · obtain⟨ex,C,y,rfl,e1,xc,k⟩:=h
   have nd:=vO.nd;refine⟨_,(ao (E3 K rfl (pv 0) (pv 1))),?_⟩;exact⟨_,rfl,_,rfl,ex,C,rfl,e1,xc,k⟩
structure A6(K:M5)(mg:Str->Option Value)(C fI:Addr):Prop where
 e:jh K mg "NoText" C fI tK xu
 i:PySem.W.findIn K (.ref C) "__init__"=some (some (.ref fI))
 x:tX K C "at"
 f:fnAt K fI=true
 fn:∃fd,fZ K "__init__" "NoText.__init__" pY fI fd
inductive Ax(K:M5)(C:Addr)(vs:List V)(H:Hp)(Q:VK)(E:XK):Prop |mk (m:V)(v:V)(rs:List Int)(es:List M8)(h0:vs=[m,v])(h1:RD K H m (.tuple (.tuple (rs.map PyData.int)::es)))(h2:bB es=true)(h3:rs.length<=3)(h4:((∃z:Str,v= .str z/\z.length<=600/\du z/\(∀(i:Nat) H' dx,FB (cB rs.length z) i->af H H'->H' dx=some (.xd [("at",.int i)])->E (.ref C) (some dx) H')/\(oY (cB rs.length z)->∀v' H',af H H'->RD K H' v' (.tuple (cB rs.length z))->Q v' H'))\/ ∃d,RD K H v d/\ck (df d) "str"=false/\∀H' dx,af H H'->H' dx=some (.xd [("at",.int ((0:Nat):Int))])->E (.ref C) (some dx) H')):Ax K C vs H Q E
def vD(K:M5)(C:Addr):Sp:=fun vs H Q E=>Ax K C vs H Q E
theorem F1{C fI:Addr}(F:FA K mg "read_items" qi)(B:bb mg)(OC:A6 K mg C fI)(IX:GV mg "MOST_ITEMS" (.int 20))(HY:aq P w K mg base "item_in" 5 (pQ K)):oX P w K mg base "read_items" 6 (vD K C):=by
 obtain⟨fd,FI⟩:=OC.fn;have yF:=OC.e;have yD:dZ P w K mg base dw 1 fI fd ["self","at"] (vt K):=EO FI;have yG:Binds K fd ["self","at"] []:=FI.binds (fun _ _ _ _ _ _=>dn fun _ _=>rfl);have yE:=OC.f;refine F.IC vY (fun vs H Q E h=>?_) (fun _ _ _ _ _ _=>dn fun _ _=>rfl) (fun f ah A outer s H vs Q E hr h=>?_)
 · obtain⟨m,v,rs,es,rfl,_⟩:=h
   rfl
 · obtain⟨m,v,rs,es,rfl,rm,ne,l3,hc⟩:=h
   have nd:=vY.nd;have fm:sizeLine=16777216:=by decide
   refine⟨_,(ai (aR (eF (dE (fC K B (a7 (pv 1) (a7 (fi (x:="str") (v:=.ty "str") rfl (B.at "str") mn rfl) a8))))) (ao (wQ (fun _ _ _ _ _ _ I a b q=>uP I a b q) yF PySem.F.excBase_ValueError hr.hd yD (hr.mono (by decide)) yG yE rfl (a7 ae a8))) aV) (ai (aR (aO dj (pv 1) aw (aP _)) (ao (aE (dF a8))) aV) (ai (pS 2 nd (cV a8)) (ai (hX PassesOwn.leaving rfl (Ed K rfl true rfl (B.at "enumerate") (a7 (jD K rfl (pv 1) (a7 aw a8)) a8)) (qY K rfl (n:=2) rfl (iO (bA 3 nd) (iO (bA 4 nd) qW))) (ai (pS 5 nd (pf HY hr (a7 (pv 0) (a7 (pv 4) a8)))) (ai (aR (PW.pt (fB (aO nk (pv 5) cD (aP _)) (gF (aO dj (pv 3) (cE (x:="MOST_ITEMS") rfl IX) (aP _))))) (ao (wQ (fun _ _ _ _ _ _ I a b q=>uP I a b q) yF PySem.F.excBase_ValueError hr.hd yD (hr.mono (by decide)) yG yE rfl (a7 (pv 3) a8))) aV) (ao (wR (wY K rfl (pv 2) (a7 (pv 5) a8))))))) (ao (aE (eP (x:="tuple") (iH K rfl) rfl (B.at "tuple") gC (a7 (pv 2) a8)))))))),?_⟩;rcases hc with⟨z,rfl,hz,tz,k1,k2⟩|⟨d,rd,ht,k⟩
   · refine⟨_,rfl,.inl ⟨_,_,"str",true,rfl,(bc (K:=K) (H:=H) z).ty,by decide,pH,_,rfl,aB ?_⟩⟩
     refine⟨_,rfl,rfl,_,rfl,?_⟩;rw[jt];by_cases fG:z=""
     · rw[br fG]
       refine aJ ⟨bE _,fun p H2 n2=>?_⟩;have e:cB rs.length z=[]:=aH fG;rw[e]at k2;exact k2 ⟨bE _,fun _ h=>nomatch h⟩ _ _ n2.same (cx (az.of n2.at') fA)
     rw[bu fG];refine aB ⟨bE _,fun D H1 n1=>?_⟩;refine⟨_,rfl,rfl,z,"\n",rfl,rfl,by decide+kernel,by omega,fun q H2 n2=>?_⟩;have no:=wH rs.length z;have jc:cB rs.length z=(Txt.split z "\n").map (cW rs.length):=aC fG;generalize cB rs.length z=ds at k1 k2 no jc;have lr:(Txt.split z "\n").length=ds.length:=by rw[jc,aF]
     have Dq:D≠q:=cn n1.at' n2.no;have s2:=n1.same.trans n2.same;refine⟨q,rfl,⟨_,aa.of n2.at'⟩,Jv (K:=K) (b:=true) (a:=q) (xs:=(Txt.split z "\n").map V.str) (fun i σ H3=>af H H3/\∃ys v1 v2 v3,H3 D=some (.lst ys)/\H3 q=some (.lst ((Txt.split z "\n").map V.str))/\aj K H3 ys (ds.take i)/\(∀j d,j<i->ds[j]? =some d->d≠ .none)/\i<=20/\σ=[some m,some (.str z),some (.ref D),v1,v2,v3]) ?_ ?_ ?_ ?_⟩
     ·exact⟨s2,[],none,none,none,n2.same _ _ n1.at',n2.at',cT,fun _ _ h=>absurd h (Nat.not_lt_zero _),bE _,rfl⟩
     · rintro i σ H3 _ ⟨_,ys,v1,v2,v3,_,eq,_⟩
       exact aa.of eq
     · rintro i y σ H3 lG ⟨s3,ys,v1,v2,v3,dD,dq,ry,pre,fF,rfl⟩ T H4 n4
       rw[cg]at lG;obtain⟨r,er,rfl⟩:=mq.mp lG;have hm:=eL er;rw[i9]at hm;have nW:=split_le hm;have su:=hV tz hm;have ed:ds[i]? =some (cW rs.length r):=by rw[jc,cg,er];rfl
       have hi:i<ds.length:=(dA.mp ed).1;have s4:=s3.trans n4.same;refine⟨T,_,rfl,az.of n4.at',rfl,_,_,rfl,_,_,rfl,rfl,?_⟩;refine⟨_,rfl,_,rfl,m,rs,es,r,rfl,RD.mono s4 _ rm,ne,l3,by omega,su,fun v H5 s5 rv=>?_⟩;have t5:=n4.same.trans s5;have gw:=t5 _ _ dD;have tq:=t5 _ _ dq;have mX:=s3.trans t5;have ly:=ry.length;rw[gY]at ly;have raise:FB ds i->True:=fun _=>trivial;refine⟨_,rfl,rfl,_,rfl,?_⟩;have hx:∀(ex dx:Addr),H5 ex=none->H5 dx=none->dx≠ex->af H (L2.del (L2.upd (L2.upd (L2.upd H5 ex (.ext (iA ex C))) dx (.xd [("at",.int (i:Int))])) ex (.ext (gA ex C dx))) ex):=fun ex dx fx jb n=>fun b o e=>by have e5:=mX b o e;have nb:b≠ex:=cn e5 fx;have jJ:b≠dx:=cn e5 jb;rw[gu nb,aL nb,aL jJ,aL nb];exact e5
       cases hv:decide (v=V.au)with |true=>
         have e:=(nQ rv).mp hv;refine aJ (aJ ?_);refine⟨_,rfl,dS rfl,fun ex fx=>?_⟩;refine⟨ex,C,_,rfl,bR,OC.x,fun dx ik ne=>⟨rfl,dx,bR,?_⟩⟩;have jb:H5 dx=none:=by rw[aL ne]at ik;exact ik
         refine k1 i _ dx ⟨hi,fF,pre,.inl (by rw[ed,e])⟩ (hx ex dx fx jb ne) ?_;rw[gu ne,aL ne,bR] |false=>
         have e:cW rs.length r≠ .none:=fun e=>by rw[(nQ rv).mpr e]at hv;cases hv
         refine aB ⟨_,rfl,rfl,_,rfl,?_⟩;by_cases lW:i=20
         · rw[br (show V.int (i:Int)=V.int 20 by rw[lW];rfl)]
           refine aJ ?_;refine⟨_,rfl,dS rfl,fun ex fx=>?_⟩;refine⟨ex,C,_,rfl,bR,OC.x,fun dx ik ne=>⟨rfl,dx,bR,?_⟩⟩;have jb:H5 dx=none:=by rw[aL ne]at ik;exact ik
           refine k1 i _ dx ⟨hi,fF,pre,.inr lW⟩ (hx ex dx fx jb ne) ?_;rw[gu ne,aL ne,bR]
         · rw[bu (show¬V.int (i:Int)=V.int 20 from fun e=>by injection e with e;omega)]
           refine aB ⟨_,rfl,.inl ⟨rfl,_,aa.of gw⟩,_,rfl,D,ys,_,rfl,rfl,gw,by omega,?_⟩;have sT:eJ H5 (L2.upd H5 D (.lst (ys++[v]))):=.mC gw;refine⟨fun b o e=>?_,ys++[v],_,_,_,bR,?_,?_,fun j d hj ej=>?_,by omega,rfl⟩
           ·rw[aL (cn e n1.no)];exact t5 _ _ (s3 _ _ e)
           ·rw[aL Dq.symm];exact tq
           · rw[pe,ed]
             have rB:bB (ds.take i)=true:=dG.mpr fun d lR=>dG.mp no d (kr lR);exact(aj.t sT _ rB (aj.mono t5 _ ry)).append (bS (RD.t sT _ (rW rs.length r) rv) cT)
           · by_cases sD:j<i
             ·exact pre j d sD ej
             · have:j=i:=by omega
               subst this;rw[ed]at ej;cases ej;exact e
     · rintro σ H3 ⟨s3,ys,v1,v2,v3,dD,dq,ry,pre,fF,rfl⟩
       rw[aF,lr]at ry pre fF;rw[iE (aD _)]at ry;refine⟨_,rfl,D,_,rfl,.inl ⟨aa.of dD,fun p H4 n4=>?_⟩⟩;refine k2 ⟨fF,fun d hd=>?_⟩ _ _ (s3.trans n4.same) (cx (az.of n4.at') (aj.mono n4.same _ ry));obtain⟨j,hj⟩:=uB.mp hd;exact pre j d (dA.mp hj).1 hj
   · refine⟨_,rfl,.inl ⟨_,_,"str",false,rfl,rd.ty,by decide,ht,_,rfl,aJ ?_⟩⟩
     refine⟨dS rfl,fun ex fx=>?_⟩;refine⟨ex,C,_,rfl,bR,OC.x,fun dx ik ne=>⟨rfl,dx,bR,?_⟩⟩;have jb:H dx=none:=by rw[aL ne]at ik;exact ik
     refine k _ dx (fun b o e=>?_) ?_
     · have nb:b≠ex:=cn e fx
       have jJ:b≠dx:=cn e jb;rw[gu nb,aL nb,aL jJ,aL nb];exact e
     ·rw[gu ne,aL ne,bR];rfl
theorem ty_str{H:Hp}{z:Str}{d:M8}(h:RD K H (.str z) d):df d="str":=by cases d with |str b=>rfl |none=>have:=h.nE;cases this |bool b=>have:=h.tN;cases this |int b=>have:=h.int_inv;cases this |list b=>obtain⟨_,_,h,_⟩:=h.lst_inv;cases h |tuple b=>obtain⟨_,_,h,_⟩:=h.cS;cases h |_=>rw[RD]at h;exact h.elim
inductive Ao(K:M5)(vs:List V)(H:Hp)(Q:VK):Prop |mk (m:V)(v:V)(rs:List Int)(es:List M8)(h0:vs=[m,v])(h1:RD K H m (.tuple (.tuple (rs.map PyData.int)::es)))(h2:bB es=true)(h3:rs.length<=3)(h4:((∃z:Str,v= .str z/\z.length<=600/\du z/\(∀(i:Nat) H',FB (cB rs.length z) i->af H H'->Q (.int i) H')/\(oY (cB rs.length z)->∀v' H',af H H'->RD K H' v' (.tuple (cB rs.length z))->Q v' H'))\/ ∃d,RD K H v d/\ck (df d) "str"=false/\∀H',af H H'->Q (.int ((0:Nat):Int)) H')):Ao K vs H Q
def pO(K:M5):Sp:=fun vs H Q _=>Ao K vs H Q
structure Bs(K:M5)(mg:Str->Option Value)(C fI cG c0 c1 c2 c3 c4 c5 c6 c7 c8 c9:Addr):Prop where
 oc:A6 K mg C fI
 g:Exc K mg "GlideError" cG tK xu
 t:takes K C cG
 k:g8 K C
 h0:GV mg "Full" (.ref c0)
 h1:GV mg "Moving" (.ref c1)
 h2:GV mg "NoFraction" (.ref c2)
 h3:GV mg "NoItem" (.ref c3)
 h4:GV mg "NoLine" (.ref c4)
 h5:GV mg "NoMachine" (.ref c5)
 h6:GV mg "NoPlace" (.ref c6)
 h7:GV mg "NoRate" (.ref c7)
 h8:GV mg "NoTape" (.ref c8)
 h9:GV mg "OffRails" (.ref c9)
 any:PySem.W.kitAny K (.ref C) [.ref c0,.ref c1,.ref c2,.ref c3,.ref c4,.ref c5,.ref c6,.ref c7,.ref c8,.ref c9]=some false
 own:PySem.W.kitOne K (.ref C) (.ref C)=some true
 ve:PySem.W.kitOne K (.ref C) (.type "ValueError")=some true
 v:mg "ValueError"=none
 fat:PySem.W.findIn K (.ref C) "at"=some none
theorem Fb(F:FA K mg "_law_is_whole" qq)(B:bb mg):oW P w K mg base "_law_is_whole" 1 (kN K):=by
 refine F.IB wj (fun vs H Q E h=>?_) (fun _ _ _ _ _ _=>gy fun _=>rfl) (fun f ah A outer s H vs Q hr h=>?_)
 · obtain⟨v,T,rfl,_⟩:=h
   rfl
 · obtain⟨v,T,rfl,ty,k⟩:=h
   have nd:=wj.nd;refine⟨_,(ao (aE (jC (fC K B (a7 (pv 0) (a7 (fi (x:="int") (v:=.ty "int") rfl (B.at "int") p8 rfl) a8))) (kT (wW (fC K B (a7 (pv 0) (a7 (fi (x:="bool") (v:=.ty "bool") rfl (B.at "bool") PyProof.Rows.boot_bool rfl) a8)))))))),?_⟩;refine⟨_,rfl,.inl ⟨_,T,"int",_,rfl,ty,by decide,rfl,_,rfl,?_⟩⟩;unfold iX at k;refine bH (fun hc=>?_) (fun hc=>?_)
   · refine⟨_,rfl,.inl ⟨_,T,"bool",_,rfl,ty,by decide,rfl,_,rfl,?_⟩⟩
     rw[hc,cj]at k;exact k
   · rw[fc.mpr hc,cA]at k
     exact k
abbrev qd:Stmt:=top 53
theorem vT:aW ["_law_machine_here","_law_thing","e"] ["_law_machine_here","_law_thing"] (aK qd):=bz (by decide+kernel)
theorem EV{C fI cG c0 c1 c2 c3 c4 c5 c6 c7 c8 c9:Addr}(F:FA K mg "_law_told" qd)(B:bb mg)(EA:Bs K mg C fI cG c0 c1 c2 c3 c4 c5 c6 c7 c8 c9)(Hw:oX P w K mg base "read_items" 6 (vD K C))(Ji:oW P w K mg base "_law_is_whole" 1 (kN K)):aq P w K mg base "_law_told" 7 (pO K):=by
 refine F.ID vT (fun vs H Q E h=>?_) (fun _ _ _ _ _ _=>dn fun _ _=>rfl) (fun f ah A outer s H vs Q E hr h=>?_)
 · obtain⟨m,v,rs,es,rfl,_⟩:=h
   rfl
 · obtain⟨m,v,rs,es,rfl,rm,ne,l3,hc⟩:=h
   have nd:=vT.nd;have hy:=EA.g;have sI:(tK).contains (.type "BaseException")=true:=by decide
   have sP:∀C',C'=C->ClsAt K C'/\takes K C' cG:=fun C' e=>by subst e;exact⟨EA.oc.e.cls,EA.t⟩
   have J4:=EA.h0;have IW:=EA.h1;have IV:=EA.h2;have IU:=EA.h3;have IT:=EA.h4;have IS:=EA.h5;have IQ:=EA.h6;have IP:=EA.h7;have IM:=EA.h8;have IK:=EA.h9;have II:=EA.v;have IL:GV mg "NoText" (.ref C):=⟨_,EA.oc.e.at',rfl⟩;refine⟨_,(m7.one (E5 (i:=2) rfl rfl nd rfl rfl rfl (fun E xe hp=>(ao (aE (El Hw hp (hr.mono (by decide)) rfl (a7 (pv 0) (a7 (pv 1) a8)))))) rfl hy sI sP (fun ex=>(ai (aR (dE (cm (x:="isinstance") (rY K rfl) rfl (B.at "isinstance") uq (a7 (pv 2) (a7 (dF (a7 (cE (x:="Full") rfl J4) (a7 (cE (x:="Moving") rfl IW) (a7 (cE (x:="NoFraction") rfl IV) (a7 (cE (x:="NoItem") rfl IU) (a7 (cE (x:="NoLine") rfl IT) (a7 (cE (x:="NoMachine") rfl IS) (a7 (cE (x:="NoPlace") rfl IQ) (a7 (cE (x:="NoRate") rfl IP) (a7 (cE (x:="NoTape") rfl IM) (a7 (cE (x:="OffRails") rfl IK) a8))))))))))) a8)))) (ao (aE aw)) aV) (ai (aR (PW.pt (fB (eF (dE (cm (x:="isinstance") (rY K rfl) rfl (B.at "isinstance") uq (a7 (pv 2) (a7 (cE (x:="NoText") rfl IL) a8))))) (fB (eF (dE (cm (x:="isinstance") (rY K rfl) rfl (B.at "isinstance") uq (a7 (pv 2) (a7 (fi (x:="ValueError") (v:=.ty "ValueError") rfl II Ks rfl) a8))))) (gF (eF (dE (Ek Ji ((hr.mark _).mono (by decide)) rfl (a7 (wV K rfl (pv 2)) a8)))))))) (ao (aE aw)) aV) (ao (aE (wV K rfl (pv 2))))))))),?_⟩;refine⟨fun cls dx H'=>cls= .ref C/\∃(d:Addr)(n:Nat),dx=some d/\((∃z:Str,v= .str z/\z.length<=600/\du z/\FB (cB rs.length z) n)\/∃d,RD K H v d/\ck (df d) "str"=false/\n=0)/\af H H'/\H' d=some (.xd [("at",.int n)]),?_,fun cls dx H' h=>⟨C,h.1,rfl⟩,?_⟩
   · refine⟨_,rfl,_,rfl,m,v,rs,es,rfl,rm,ne,l3,?_⟩
     rcases hc with⟨z,rfl,hz,tz,k1,k2⟩|⟨d,rd,ht,k⟩
     ·exact .inl ⟨z,rfl,hz,tz,fun n H' dx fo sm hd=>⟨rfl,dx,n,rfl,.inl ⟨z,rfl,hz,tz,fo⟩,sm,hd⟩,k2⟩
     ·exact .inr ⟨d,rd,ht,fun H' dx sm hd=>⟨rfl,dx,0,rfl,.inr ⟨d,rd,ht,rfl⟩,sm,hd⟩⟩
   · rintro C' ex dx σ' H' hl ⟨eC,d,n,rfl,fo,sm,hd⟩ hex
     cases eC;have fin:∀H2,af H H2->Q (.int (n:Int)) H2:=fun H2 s2=>by
      rcases fo with⟨z,e,hz,tz,fb⟩|⟨d',rd,ht,e⟩
      · subst e
        rcases hc with⟨z',e,_,_,k1,_⟩|⟨d',rd,ht,_⟩
        ·cases e;exact k1 n H2 fb s2
        ·exact absurd ht (by rw[ty_str rd];decide)
      · rcases hc with⟨z',e2,_,_,k1,_⟩|⟨d',rd,ht,k⟩
        ·subst e2;exact absurd ht (by rw[ty_str rd];decide)
        ·rw[e];exact k H2 s2
     have HN:σ'.length=3:=hl
     match σ',HN with
     |[u1,u2,u3],_=>
       have e1:(L2.upd H' ex (.ext (g9 ex (.ref C) (some d)))) ex=some (.ext (g9 ex (.ref C) (some d))):=bR;have K0:d≠ex:=cn hd hex;have e3:(L2.upd H' ex (.ext (g9 ex (.ref C) (some d)))) d=some (.xd [("at",.int n)]):=by rw[aL K0];exact hd
       refine⟨_,rfl,dS rfl,fun t H2 nw=>?_⟩;have e2:=nw.same _ _ e1;have e4:=nw.same _ _ e3;refine .inr ⟨ex,C,t,some d,[c0,c1,c2,c3,c4,c5,c6,c7,c8,c9],false,rfl,e2,EA.k,nw.at',EA.any,_,rfl,aB ?_⟩;refine⟨_,rfl,.inl ⟨ex,C,some d,.ref C,.ref C,true,rfl,e2,EA.k,rfl,EA.own,_,rfl,aB ?_⟩⟩;refine⟨_,rfl,.inl ⟨ex,C,some d,.ty "ValueError",.type "ValueError",true,rfl,e2,EA.k,rfl,EA.ve,_,rfl,aB ?_⟩⟩;refine⟨_,rfl,ex,C,d,_,(n:Int),rfl,e2,e4,EA.k,EA.fat,rfl,_,_,rfl,(eE (K:=K) (H:=H2) (n:Int)).ty,_,rfl,?_⟩;rw[show iX (df (.int (n:Int)))=true from(by decide:iX "int"=true)];refine aB ?_;exact⟨_,rfl,ex,C,d,_,(n:Int),rfl,e2,e4,EA.k,EA.fat,rfl,fin H2 (sm.trans ((af.new hex).trans nw.same))⟩
end
end Lw
namespace Lw
open PySem PySem.Spec PyProof.Rows L2 Ln Wk
open Tm (numS numIn? figs isFig Free)
section
variable {P:M7}{w:World}{K:M5}{mg:Str->Option Value}{base:Heap}
theorem Cp{ws:List Str}(h:∀w∈ws,du w):aY 7 (bW ws):=by match ws with
 |[]=>exact .au |w::rest=>
   have hw:=h w (.head _);by_cases hx:w="line"
   · subst hx
     rcases uG rest with rfl|⟨ys,y,rfl⟩
     ·rw[kH];exact .au
     · rw[uJ,mH]
       have hs:cH 2 [.str "line",.tuple (ys.map nI),nI y]:=fun d hd=>by
        simp only[aX,cQ,gX]at hd;rcases hd with rfl|rfl|rfl
        ·exact iS hw
        ·exact(cH.tup (n:=0) fun d hd=>by obtain⟨z,_,rfl⟩:=bN.mp hd;exact jK z).le (by decide)
        ·exact jK y
       exact hs.tup.le (by decide)
   ·match rest,h with
     |[],_=>rw[hR hx (by simp)];exact .au |[r],h=>
       rw[iI hx];have hv:aY 0 (if w="wait" then nI r else .str r):=by
        split
        ·exact jK r
        ·exact iS (h r (.tail _ (.head _)))
       have hs:cH 1 [.str w,if w="wait" then nI r else .str r]:=fun d hd=>by
        simp only[aX,cQ,gX]at hd;rcases hd with rfl|rfl
        ·exact iS hw
        ·exact hv.le (by decide)
       exact hs.tup.le (by decide) |_::_::_,_=>rw[hR hx (by simp)];exact .au
theorem GX{n:Nat}{z:Str}(h:du z):aY 7 (cW n z):=by unfold cW;cases dI n (bW (Txt.split z " "))with |true=>exact Cp fun y hy=>by rw[dR]at hy;exact hV h hy |false=>exact .au
theorem DB{n:Nat}{z:Str}(h:du z):aY 8 (.tuple (cB n z)):=cH.tup (n:=7) fun d hd=>by
 unfold cB at hd;split at hd
 ·exact(cQ hd).elim
 · obtain⟨y,hy,rfl⟩:=bN.mp hd
   rw[i9]at hy;exact GX (hV h hy)
theorem uZ:ck "tuple" "tuple"=true:=by decide
theorem mG:ck "int" "tuple"=false:=by decide
def vG(K:M5):Sp:=fun vs H Q _=>∃(a:Addr)(ns:List Int),vs=[.ref a]/\aa K H a (ns.map V.int)/\ns.length<=63/\∀H',Q (.bl true) H'
abbrev fz:Stmt:=top 54
theorem wg:aW ["_law_script","_law_at","_law_bag_here","_law_odd","_law_machine_here","_law_axes","_law_thing","_law_due_here","_law_again","_law_told_here"] ["_law_script"] (aK fz):=bz (by decide+kernel)
def nA:Expr:=match(d9 fz)with| .For _ _ (_:: .Assign _ (.Subscript e _ _) _::_) _ _::_=>e|_=>.Constant .none 0 ⟨0,0,0,0⟩
def i5:List M8:=[.none,.int 0,.bool true,.list [],.list [.str "wait 5"],.tuple [.str "wait 5"],.tuple [],.int (10^(39:Int).toNat),.tuple [.str "wait",.int 5],.bool false]
theorem FC:lit 4 nA=some (.list i5):=by kernel_rfl
def xK(e:Expr):List Stmt:=match d9 fz with| .For t it (b0:: .Assign ts (.Subscript _ ix p2) p1::r) o p::q=>.For t it (b0:: .Assign ts (.Subscript e ix p2) p1::r) o p::q|r=>r
theorem Gd:xK nA=d9 fz:=by kernel_rfl
theorem Fz:∀d∈i5,ck (df d) "str"=false:=by intro d hd;unfold i5 at hd;simp only[aX,cQ,gX]at hd;rcases hd with rfl|rfl|rfl|rfl|rfl|rfl|rfl|rfl|rfl|rfl<;>(show ck _ "str"=false;decide)
theorem GD{f:Addr}{ah:Value}{A:M9}{outer:List Env}{s:M6}{H:Hp}{Q:VK}{E:XK}{a:Addr}{ns:List Int}(e:Expr)(hr:bo 7 (A.deeper (envOfC "law" (aK fz) s.heap.objs.size f ah))) (he:A3 (dm dw P w K mg base ["_law_script","_law_at","_law_bag_here","_law_odd","_law_machine_here","_law_axes","_law_thing","_law_due_here","_law_again","_law_told_here"] "law" (aK fz) f ah A outer s H E).iU e (mJ K (.list i5))) (B:bb mg)(sO:aq P w K mg base "_law_bag" 1 (pV K))(aZ:aq P w K mg base "_law_take" 1 fe)(sM:aq P w K mg base "_law_machine" 2 (pP K))(om:aq P w K mg base "_law_text" 4 (mS K))(sN:aq P w K mg base "_law_due" 4 (pU K))(sL:aq P w K mg base "_law_told" 7 (pO K)) (hS:aa K H a (ns.map V.int))(hlen:ns.length<=63)(k:∀H',Q (.bl true) H'): ∃t,cF (dm dw P w K mg base ["_law_script","_law_at","_law_bag_here","_law_odd","_law_machine_here","_law_axes","_law_thing","_law_due_here","_law_again","_law_told_here"] "law" (aK fz) f ah A outer s H E).iU (xK e) t/\t {nx:=fun _ H'=>Q .au H',rt:=Q} (start ["_law_script","_law_at","_law_bag_here","_law_odd","_law_machine_here","_law_axes","_law_thing","_law_due_here","_law_again","_law_told_here"] [.ref a]) H:=by
    have nd:=wg.nd;have fm:sizeLine=16777216:=by decide
    refine⟨_,(ai (hX jm rfl (gH rfl (B.at "range") (a7 (cm (x:="max") (Kg rfl) rfl (B.at "max") PyProof.Rows.boot_max (a7 ae (a7 (cm (x:="min") (zH rfl) rfl (B.at "min") PyProof.Rows.boot_min (a7 ae (a7 (dh K B (a7 (pv 0) a8)) a8))) a8))) a8)) (bA 1 nd) (ai (pS 2 nd (pf sO hr (a7 (pv 0) (a7 (pv 1) a8)))) (ai (pS 3 nd (px K he.out (pf aZ hr (a7 (pv 2) (a7 ae a8))))) (ai (pS 4 nd (pf sM hr (a7 (pv 2) a8))) (ai (pS 5 nd (dh K B (a7 (px K (pv 4) ae) a8))) (ao (hX jm rfl (ng K rfl (cV (a7 (pf om hr (a7 (pv 2) (a7 (pv 5) a8))) (a7 (pf om hr (a7 (pv 2) (a7 (pv 5) a8))) (a7 (pv 3) a8))))) (bA 6 nd) (ai (pS 7 nd (pf sN hr (a7 (pv 6) (a7 (pv 5) a8)))) (ao (hX jm rfl (gH rfl (B.at "range") (a7 ae a8)) (bA 8 nd) (ai (pS 9 nd (pf sL hr (a7 (pv 4) (a7 (pv 6) a8)))) (ao (aR (PW.pt (fB (aO (nH K rfl hr.units) (fC K B (a7 (pv 9) (a7 (fi (x:="tuple") (v:=.ty "tuple") rfl (B.at "tuple") gC rfl) a8))) (fC K B (a7 (pv 7) (a7 (fi (x:="tuple") (v:=.ty "tuple") rfl (B.at "tuple") gC rfl) a8))) (aP _)) (gF (aO (nH K rfl hr.units) (pv 9) (pv 7) (aP _))))) (ao (aE i4)) aV))))))))))))) (ao (aE i4))),?_⟩;refine⟨_,rfl,a,_,rfl,.inl hS,_,_,rfl,_,_,rfl,_,rfl,?_,?_,?_⟩
    ·split<;>(try split)<;>omega
    ·split<;>(try split)<;>(try rw[aF])<;>omega
    have hN:(if(if((ns.map V.int).length:Int)<10 then((ns.map V.int).length:Int)else 10)>1 then(if((ns.map V.int).length:Int)<10 then((ns.map V.int).length:Int)else 10)else 1).toNat<=12:=by split<;>(try split)<;>omega
    refine jS (Pv:=fun i σ H2=>af H H2/\∃v1 v2 v3 v4 v5 v6 v7 v8 v9,σ=[some (.ref a),v1,v2,v3,v4,v5,v6,v7,v8,v9]) ?_ ?_ ?_
    ·exact⟨af.refl _,none,none,none,none,none,none,none,none,none,rfl⟩
    · rintro i σ H2 hi ⟨s2,v1,v2,v3,v4,v5,v6,v7,v8,v9,rfl⟩
      have LL:i<12:=dz hi hN;refine⟨_,rfl,_,rfl,a,ns,_,rfl,s2.seq hS,hlen,by omega,by omega,fun p H3 np zO s3=>?_⟩;intro l H4 s4 r4;have b4:aA p H3 H4:=.bh zO s4;have r5:RD K (del H4 p) l (.list i5):=RD.mono (Jt zO.ne) _ r4;refine⟨_,rfl,p,10,rfl,b4.bag,by decide,by decide,fun oi H5 i0 i1 b5=>?_⟩;have r6:RD K (del H5 p) l (.list i5):=RD.mono b5.sd _ r5;obtain⟨oa,xs,rfl,hx,hd⟩:=r6.lst_inv;have cY:oi.toNat<i5.length:=by show oi.toNat<10;omega
      obtain⟨ov,ey,ry⟩:=hd.get oi.toNat (fu cY);have pG:=Fz _ (kv cY);generalize i5[oi.toNat]=od at ry pG;refine .inl ⟨oa,xs,oi,ov,rfl,rfl,hx.go zf,da i0 ey,?_⟩;refine⟨_,rfl,p,rfl,b5.bag,fun mv rs r fl jj t0 H6 rm EM b6=>?_⟩;have lr:=EM.len;have Dv:RD K (del H6 p) ov od:=RD.mono b6.sd _ ry;obtain⟨ma,mb,rfl,HG,HF⟩:=Gj rm;refine⟨_,rfl,.inr ⟨ma,_,0,.ref mb,rfl,rfl,HG,rfl,mb,_,rfl,.inr HF,?_⟩⟩;rw[aF];refine⟨_,rfl,_,rfl,p,rs.length,rfl,b6.bag,by omega,by omega,fun z1 H7 l7 Ft b7=>?_⟩;refine⟨_,rfl,_,rfl,p,rs.length,rfl,b7.bag,by omega,by omega,fun z2 H8 l8 l2 b8=>?_⟩;have tP:=b7.trans b8;have Du:RD K (del H8 p) ov od:=RD.mono tP.sd _ Dv;have Dy:=RD.t (aA.t b6.bag tP) _ (Gk _ _ _ _ _) rm;refine⟨_,rfl,by show 3<=sizeLine;omega,fun q H9 n9=>?_⟩;have wD:RD K H9 ov od:=RD.mono n9.same _ (RD.mono zf _ Du);have qJ:=RD.mono n9.same _ Dy;have Kv:=b4.trans (b5.trans (b6.trans tP));have s9:af H H9:=af.trans (Kv.Dp (s2.trans s3) (by cases e:H p with |none=>rfl |some o=>have:=s2 _ _ e;rw[np]at this;cases this)) n9.same;have rD:bB [PyData.int r,.int fl,.int jj,.int t0]=true:=rfl;refine⟨q,rfl,⟨_,aa.of n9.at'⟩,yU (K:=K) (a:=q) (xs:=[.str z1,.str z2,ov]) (fun c σ cz=>af H9 cz/\∃w6 w7 w8 w9,σ=[some (.ref a),some (.int (0+(i:Int))),some (.ref p),some ov,some (.ref ma),some (.int rs.length),w6,w7,w8,w9]) ⟨af.refl _,_,_,_,_,rfl⟩ ?_ ?_ ?_⟩
      · rintro c σ cz _ ⟨cJ,_⟩
        exact aa.of (cJ _ _ n9.at')
      · rintro c x σ cz iY ⟨cJ,w6,w7,w8,w9,rfl⟩
        have sr:(∃z:Str,x= .str z/\z.length<=600/\du z)\/(x=ov):=by match c,iY with |0,iY=>cases iY;exact .inl ⟨z1,rfl,l7,Ft⟩ |1,iY=>cases iY;exact .inl ⟨z2,rfl,l8,l2⟩ |2,iY=>cases iY;exact .inr rfl
        rcases sr with⟨z,rfl,lz,eH⟩|rfl
        · refine⟨_,rfl,_,rfl,.str z,rs.length,rfl,by omega,.inl ⟨z,rfl,lz,eH,fun n dc fb fg=>?_,fun al dv dc fg DA=>?_⟩⟩
          · refine⟨2,rfl,by decide,by decide,?_⟩
            refine jS (Pv:=fun _ σ eY=>af dc eY/\∃w8 w9,σ=[some (.ref a),some (.int (0+(i:Int))),some (.ref p),some ov,some (.ref ma),some (.int rs.length),some (.str z),some (.int ((n:Nat):Int)),w8,w9]) ⟨af.refl _,_,_,rfl⟩ ?_ ?_
            · rintro j σ eY hj ⟨dU,kD,kz,rfl⟩
              have jv:=(cJ.trans fg).trans dU;refine⟨_,rfl,_,rfl,.ref ma,(.str z),rs,[PyData.int r,.int fl,.int jj,.int t0],rfl,RD.mono jv _ qJ,rD,by omega,.inl ⟨z,rfl,lz,eH,fun n2 kd t6 dC=>?_,fun al=>(fb.xA al).elim⟩⟩;cases fb.uniq t6;refine⟨_,rfl,.inl ⟨_,"int","tuple",false,rfl,rfl,by decide,mG,?_⟩⟩;refine⟨_,rfl,.inl ⟨_,"int","tuple",false,rfl,rfl,by decide,mG,?_⟩⟩;refine .inr ⟨_,_,iM _,iM _,rfl,rfl,_,rfl,?_⟩;rw[eqv_refl _ rfl];refine aB ⟨_,rfl,_,rfl,.inl ⟨_,_,rfl,rfl,_,rfl,?_⟩⟩;rw[br rfl];exact aB ⟨dU.trans dC,_,_,rfl⟩
            · rintro σ eY ⟨dU,kD,kz,rfl⟩
              exact⟨(cJ.trans fg).trans dU,_,_,_,_,rfl⟩
          · refine⟨2,rfl,by decide,by decide,?_⟩
            refine jS (Pv:=fun _ σ eY=>af dc eY/\∃w8 w9,σ=[some (.ref a),some (.int (0+(i:Int))),some (.ref p),some ov,some (.ref ma),some (.int rs.length),some (.str z),some dv,w8,w9]) ⟨af.refl _,_,_,rfl⟩ ?_ ?_
            · rintro j σ eY hj ⟨dU,kD,kz,rfl⟩
              have jv:=(cJ.trans fg).trans dU;refine⟨_,rfl,_,rfl,.ref ma,.str z,rs,[PyData.int r,.int fl,.int jj,.int t0],rfl,RD.mono jv _ qJ,rD,by omega,.inl ⟨z,rfl,lz,eH,fun n2 kd t6 _=>(t6.xA al).elim,fun _ tv kd dC R1=>?_⟩⟩;have R2:=RD.mono (dU.trans dC) _ DA;refine⟨_,rfl,.inl ⟨_,"tuple","tuple",true,rfl,R1.ty,by decide,uZ,?_⟩⟩;refine⟨_,rfl,.inl ⟨_,"tuple","tuple",true,rfl,R2.ty,by decide,uZ,?_⟩⟩;refine .inr ⟨_,_,iM _,iM _,rfl,rfl,_,rfl,?_⟩;rw[eqv_refl _ rfl];have ok:=DB (n:=rs.length) eH;refine aB ⟨_,rfl,_,rfl,.inr ⟨_,_,R1,R2,hW ok,hW ok,_,rfl,?_⟩⟩;rw[eqv_refl _ ok.lay];exact aB ⟨dU.trans dC,_,_,rfl⟩
            · rintro σ eY ⟨dU,kD,kz,rfl⟩
              exact⟨(cJ.trans fg).trans dU,_,_,_,_,rfl⟩
        · refine⟨_,rfl,_,rfl,x,rs.length,rfl,by omega,.inr ⟨od,RD.mono cJ _ wD,pG,fun dc fg=>?_⟩⟩
          refine⟨2,rfl,by decide,by decide,?_⟩;refine jS (Pv:=fun _ σ eY=>af dc eY/\∃w8 w9,σ=[some (.ref a),some (.int (0+(i:Int))),some (.ref p),some x,some (.ref ma),some (.int rs.length),some x,some (.int ((0:Nat):Int)),w8,w9]) ⟨af.refl _,_,_,rfl⟩ ?_ ?_
          · rintro j σ eY hj ⟨dU,kD,kz,rfl⟩
            have jv:=(cJ.trans fg).trans dU;refine⟨_,rfl,_,rfl,.ref ma,x,rs,[PyData.int r,.int fl,.int jj,.int t0],rfl,RD.mono jv _ qJ,rD,by omega,.inr ⟨od,RD.mono jv _ wD,pG,fun kd dC=>?_⟩⟩;have _:=dC;refine⟨_,rfl,.inl ⟨_,"int","tuple",false,rfl,rfl,by decide,mG,?_⟩⟩;refine⟨_,rfl,.inl ⟨_,"int","tuple",false,rfl,rfl,by decide,mG,?_⟩⟩;refine .inr ⟨_,_,iM _,iM _,rfl,rfl,_,rfl,?_⟩;rw[eqv_refl _ rfl];refine aB ⟨_,rfl,_,rfl,.inl ⟨_,_,rfl,rfl,_,rfl,?_⟩⟩;rw[br rfl];exact aB ⟨dU.trans dC,_,_,rfl⟩
          · rintro σ eY ⟨dU,kD,kz,rfl⟩
            exact⟨(cJ.trans fg).trans dU,_,_,_,_,rfl⟩
      · rintro σ cz ⟨cJ,w6,w7,w8,w9,rfl⟩
        exact⟨s9.trans cJ,_,_,_,_,_,_,_,_,_,rfl⟩
    · rintro σ H2 ⟨s2,v1,v2,v3,v4,v5,v6,v7,v8,v9,rfl⟩
      exact k _
theorem Fe{f:Addr}{fd:FuncData}(F:fZ K "law" "law" fz f fd)(B:bb mg)(sO:aq P w K mg base "_law_bag" 1 (pV K))(aZ:aq P w K mg base "_law_take" 1 fe)(sM:aq P w K mg base "_law_machine" 2 (pP K))(om:aq P w K mg base "_law_text" 4 (mS K))(sN:aq P w K mg base "_law_due" 4 (pU K))(sL:aq P w K mg base "_law_told" 7 (pO K)):dZ P w K mg base dw 8 f fd ["_law_script"] (vG K):=by
 refine F.ok wg (fun vs H Q E h=>?_) (fun ah A outer s H vs Q E hr h=>?_)
 · obtain⟨a,ns,rfl,_⟩:=h
   rfl
 · obtain⟨a,ns,rfl,hS,hlen,k⟩:=h
   rw[<-Gd];exact GD nA hr (Ei K rfl 4 nA _ FC) B sO aZ sM om sN sL hS hlen k
end
end Lw
set_option maxHeartbeats 1000000
namespace Lw
open PySem PySem.Spec PyProof.Rows L2
structure All(K:M5)(mg:Str->Option Value):Prop where
 B:bb mg
 g_SIDES:GT K mg "SIDES" [.str "up",.str "down"]
 g_FIGURES:GV mg "FIGURES" (.str ja)
 g_MOST_STEPS:GV mg "MOST_STEPS" (.int 100)
 g_GREATEST_SPEED:GV mg "GREATEST_SPEED" (.int 20)
 g_LONGEST_WAIT:GV mg "LONGEST_WAIT" (.int 1000)
 g_LONGEST_NAME:GV mg "LONGEST_NAME" (.int 8)
 g_LETTERS:GV mg "LETTERS" (.str dM)
 g_MOST_ITEMS:GV mg "MOST_ITEMS" (.int 20)
 ex:∃C fI cG c0 c1 c2 c3 c4 c5 c6 c7 c8 c9,Bs K mg C fI cG c0 c1 c2 c3 c4 c5 c6 c7 c8 c9
 f_is_whole:FA K mg "is_whole" qx
 f_is_whole_within:FA K mg "is_whole_within" qa
 f_is_item:FA K mg "is_item" qB
 f_are_steps:FA K mg "are_steps" qE
 f_is_short_item:FA K mg "is_short_item" qy
 f_is_name:FA K mg "is_name" qA
 f_read_items:FA K mg "read_items" qi
 f_item_in:FA K mg "item_in" qw
 f_numbers_in:FA K mg "numbers_in" qj
 f_size_of:FA K mg "size_of" qf
 f_number_in:FA K mg "number_in" qm
 f__law_bag:FA K mg "_law_bag" qD
 f__law_take:FA K mg "_law_take" qe
 f__law_is_whole:FA K mg "_law_is_whole" qq
 f__law_machine:FA K mg "_law_machine" qo
 f__law_name:FA K mg "_law_name" qk
 f__law_item:FA K mg "_law_item" qv
 f__law_item_text:FA K mg "_law_item_text" qs
 f__law_sign:FA K mg "_law_sign" qg
 f__law_number_read:FA K mg "_law_number_read" ql
 f__law_line_read:FA K mg "_law_line_read" qr
 f__law_item_read:FA K mg "_law_item_read" qz
 f__law_due:FA K mg "_law_due" qC
 f__law_word:FA K mg "_law_word" pZ
 f__law_words_put:FA K mg "_law_words_put" qb
 f__law_signs_put:FA K mg "_law_signs_put" qh
 f__law_text:FA K mg "_law_text" qc
 f__law_told:FA K mg "_law_told" qd
 law:FA K mg "law" fz
theorem KD{P:M7}{w:World}{K:M5}{mg:Str->Option Value}{base:Heap}{f:Addr}{fd:FuncData}(A:All K mg)(F:fZ K "law" "law" fz f fd):dZ P w K mg base dw 8 f fd ["_law_script"] (vG K):=by obtain⟨C,fI,cG,c0,c1,c2,c3,c4,c5,c6,c7,c8,c9,EA⟩:=A.ex;have tk:aq P w K mg base "_law_take" 1 fe:=EW A.f__law_take A.B;have iw:aq P w K mg base "is_whole" 1 (kN K):=Ff A.f_is_whole A.B;have ww:aq P w K mg base "is_whole_within" 2 (kM K):=ER A.f_is_whole_within A.B iw;have GU:aq P w K mg base "is_item" 4 (pR K):=Fo A.f_is_item A.B A.g_GREATEST_SPEED ww (Fs A.f_are_steps A.B A.g_MOST_STEPS ww) (Fi A.f_is_short_item A.B A.g_LONGEST_WAIT A.g_SIDES ww (Fm A.f_is_name A.B A.g_LONGEST_NAME A.g_LETTERS));have xC:aq P w K mg base "number_in" 2 mT:=F7 A.f_number_in A.B A.g_FIGURES (EX A.f_size_of A.B);have GW:aq P w K mg base "item_in" 5 (pQ K):=Fg A.f_item_in A.B xC (F2 A.f_numbers_in A.B xC) GU;have nr:aq P w K mg base "_law_number_read" 1 mU:=F3 A.f__law_number_read A.B;have ir:aq P w K mg base "_law_item_read" 3 (pT K):=Fj A.f__law_item_read A.B nr (Fc A.f__law_line_read A.B nr);have tx:aq P w K mg base "_law_text" 4 (mS K):=EU A.f__law_text A.B tk (Fh A.f__law_item A.B tk (F8 A.f__law_name A.B tk)) (Fd A.f__law_item_text A.B) (ES A.f__law_words_put A.B tk (ET A.f__law_word A.B tk)) (EY A.f__law_signs_put A.B tk (EZ A.f__law_sign A.B tk));exact Fe F A.B (Fq A.f__law_bag A.B) tk (F9 A.f__law_machine A.B tk) tx (Fp A.f__law_due A.B ir) (EV A.f__law_told A.B EA (F1 A.f_read_items A.B EA.oc A.g_MOST_ITEMS GW) (Fb A.f__law_is_whole A.B))
theorem gq{K:M5}{mg:Str->Option Value}{h:Heap}{x:Str}{c:Addr}(X:K.In h)(G:h.Ns mainGlobals mg)(a:PySem.W.nsIn K mainGlobals x=some (some (.ref c))):GV mg x (.ref c):=⟨_,km X G a,rfl⟩
theorem JJ{K:M5}{mg:Str->Option Value}{h:Heap}{x:Str}{c:Addr}{bm:List Value}{nw:String}(X:K.In h)(G:h.Ns mainGlobals mg)(a:PySem.W.nsIn K mainGlobals x=some (some (.ref c)))(q:PySem.W.excIn K c bm nw=true):Exc K mg x c bm nw:=⟨km X G a,q⟩
theorem Cm{K:M5}{C:Addr}{f:Str}(h:PySem.W.findIn K (.ref C) f=some none):PySem.W.takerIn K C f=some none:=by unfold PySem.W.takerIn;rw[h];rfl
end Lw
def PySem.W.Fast.tw9838321183316269220:PySem.Program:=PySem.Challenge.pw_glidequeue_k54_texts_of_no_items
theorem PySem.W.Fast.te9838321183316269220:PySem.Challenge.pw_glidequeue_k54_texts_of_no_items=PySem.W.Fast.tw9838321183316269220:=rfl
def PySem.W.Fast.tw14635259590423754416:Nat:=0
def PySem.W.Fast.tw7042070996981122949:Nat:=0
def PySem.W.Fast.tw18076774913976442383:Nat:=0
def PySem.W.Fast.tw9870853281213395200:Nat:=0
def PySem.W.Fast.tw9814037282766275930:Nat:=0
def PySem.W.Fast.tw8852199578952518845:Nat:=0
def PySem.W.Fast.tw13986064038723086563:Nat:=0
def PySem.W.Fast.tw17964474371734202503:Nat:=0
def PySem.W.Fast.tw14013519135407180681:Nat:=0
def PySem.W.Fast.tw9181884262879997540:Nat:=0
def PySem.W.Fast.tw16481505785404420343:Nat:=0
def PySem.W.Fast.tw9211481253905115176:Nat:=0
def PySem.W.Fast.tw1198419620279170032:Nat:=0
def PySem.W.Fast.tw5310020906434810544:Nat:=0
def PySem.W.Fast.tw18145582505919125426:Nat:=0
def PySem.W.Fast.tw2664436314480943860:Nat:=0
def PySem.W.Fast.tw11011727806368925336:Nat:=0
def PySem.W.Fast.tw3223918714319561008:Nat:=0
def PySem.W.Fast.tw5952906086307273967:Nat:=0
def PySem.W.Fast.tw14007138127214042741:Nat:=0
def PySem.W.Fast.tw17778626834894352112:Nat:=0
def PySem.W.Fast.tw615443369546458021:Nat:=0
def PySem.W.Fast.tw11707193493941383820:Nat:=0
def PySem.W.Fast.tw9006302285302142107:Nat:=0
def PySem.W.Fast.tw10212641544970380927:Nat:=0
def PySem.W.Fast.tw30548574420759070:Nat:=0
def PySem.W.Fast.tw9955205479450874049:Nat:=0
def PySem.W.Fast.tw4550012638335033277:Nat:=0
def PySem.W.Fast.tw13140372908471328746:Nat:=0
def PySem.W.Fast.tw10252827538635955749:Nat:=0
def PySem.W.Fast.tw8948042154078504343:Nat:=0
def PySem.W.Fast.tw4295824043053285448:Nat:=0
def PySem.W.Fast.tw6440972591458381230:Nat:=0
def PySem.W.Fast.tw8292049878410980189:Nat:=0
def PySem.W.Fast.tw3459763778991267707:Nat:=0
def PySem.W.Fast.tw7607878398235263786:Nat:=0
def PySem.W.Fast.tw9598408493763983456:Nat:=0
def PySem.W.Fast.tw13842497742597822759:Nat:=0
def PySem.W.Fast.tw1197741728521669869:Nat:=0
def PySem.W.Fast.tw1636375745196061067:Nat:=0
def PySem.W.Fast.tw6572692695696707332:Nat:=0
def PySem.W.Fast.tw11255532182270335130:Nat:=0
def PySem.W.Fast.tw6736231716123285349:Nat:=0
def PySem.W.Fast.tw8863281918592107098:Nat:=0
def PySem.W.Fast.tw3800258740784587861:Nat:=0
def PySem.W.Fast.tw15504975512240637313:Nat:=0
def PySem.W.Fast.tw11513655716548121285:Nat:=0
def PySem.W.Fast.tw1048600581584676464:Nat:=0
def PySem.W.Fast.tw6082563026914747889:Nat:=0
def PySem.W.Fast.tw274306365241252026:Nat:=0
def PySem.W.Fast.tw291530701192385646:Nat:=0
def PySem.W.Fast.tw7872271413613330064:Nat:=0
def PySem.W.Fast.tw16541330891361116670:Nat:=0
def PySem.W.Fast.tw13097405788350421346:Nat:=0
def PySem.W.Fast.tw10243688452908008428:Nat:=0
def PySem.W.Fast.tw7515516675218659496:Nat:=0
def PySem.W.Fast.tw9867537432593704289:Nat:=0
def PySem.W.Fast.tw1253940682360247814:Nat:=0
def PySem.W.Fast.tw3036966296400268308:Nat:=0
def PySem.W.Fast.tw12344673362631094962:Nat:=0
def PySem.W.Fast.tw13049917710633656995:Nat:=0
def PySem.W.Fast.tw4183357436494638633:Nat:=0
def PySem.W.Fast.tw12878007202064783956:Nat:=0
def PySem.W.Fast.tw3493516532555775565:Nat:=0
def PySem.W.Fast.tw647971740689484609:Nat:=0
def PySem.W.Fast.tw1272245858065346180:Nat:=0
def PySem.W.Fast.tw10302170977823061651:Nat:=0
def PySem.W.Fast.tw5522085746129923469:Nat:=0
def PySem.W.Fast.tw4945266408763635718:Nat:=0
def PySem.W.Fast.tw16732501922710345406:Nat:=0
def PySem.W.Fast.tw3046149633891360450:Nat:=0
def PySem.W.Fast.tw2483964645478703970:Nat:=0
def PySem.W.Fast.tw5638652806088987097:Nat:=0
def PySem.W.Fast.tw2757411587831458297:Nat:=0
def PySem.W.Fast.tw7606865470123721586:Nat:=0
def PySem.W.Fast.tw628218284890212415:Nat:=0
def PySem.W.Fast.tw4620534455419319691:Nat:=0
def PySem.W.Fast.tw1936525376177576222:Nat:=0
def PySem.W.Fast.tw12136230040585780100:Nat:=0
def PySem.W.Fast.tw18275232403893876248:Nat:=0
def PySem.W.Fast.tw11329538867599069534:Nat:=0
def PySem.W.Fast.tw484917344399521956:Nat:=0
def PySem.W.Fast.tw8459064519096773342:Nat:=0
def PySem.W.Fast.tw13807374710062438409:Nat:=0
def PySem.W.Fast.tw8429346175908794705:Nat:=0
def PySem.W.Fast.tw64335623703644818:Nat:=0
def PySem.W.Fast.tw1960135546889691225:Nat:=0
def PySem.W.Fast.tw17844645253093235952:Nat:=0
def PySem.W.Fast.tw17540232669856882575:Nat:=0
def PySem.W.Fast.tw5961681569993293118:Nat:=0
def PySem.W.Fast.tw13671105808962597909:Nat:=0
def PySem.W.Fast.tw5721013199055642924:Nat:=0
def PySem.W.Fast.tw6858547903519995240:Nat:=0
def PySem.W.Fast.tw4286994943710598929:Nat:=0
def PySem.W.Fast.tw5992212990411672848:Nat:=0
def PySem.W.Fast.tw15624621608785182609:Nat:=0
def PySem.W.Fast.tw3772428468007103952:Nat:=0
def PySem.W.Fast.tw16148500708096958682:Nat:=0
def PySem.W.Fast.tw18261051574075478944:Nat:=0
def PySem.W.Fast.tw1064774466814224269:Nat:=0
def PySem.W.Fast.tw12892181340237883325:Nat:=0
def PySem.W.Fast.tw5575332371879558605:Nat:=0
def PySem.W.Fast.tw8929844719333124577:Nat:=0
def PySem.W.Fast.tw7864793184771819968:Nat:=0
def PySem.W.Fast.tw17880912647025980393:Nat:=0
def PySem.W.Fast.tw171763844107247166:Nat:=0
def PySem.W.Fast.tw12379960152050389336:Nat:=0
def PySem.W.Fast.tw432535374191995192:Nat:=0
def PySem.W.Fast.tw2636796321525567112:Nat:=0
def PySem.W.Fast.tw15541861532818720978:Nat:=0
def PySem.W.Fast.tw1398476906992910169:Nat:=0
def PySem.W.Fast.tw2359947016469246619:Nat:=0
def PySem.W.Fast.tw14934371763034344776:Nat:=0
def PySem.W.Fast.tw3034957263214641368:Nat:=0
def PySem.W.Fast.tw14939512711131562660:Nat:=0
def PySem.W.Fast.tw1034937986102533775:Nat:=0
def PySem.W.Fast.tw6022098503812487271:Nat:=0
def PySem.W.Fast.tw2638680533490258157:Nat:=0
def PySem.W.Fast.tw13659549424535268821:Nat:=0
open PySem PySem.W PyProof.Rows
set_option maxRecDepth 100000 in
set_option maxHeartbeats 0 in
theorem PySem.Challenge.cw_glidequeue_k54_texts_of_no_items_holds : PySem.Challenge.rw_glidequeue_k54_texts_of_no_items.Holds := by
 w_on; o_law; k_head; (case hw=>w_witness2)
 k_fill
 refine L2.GB (l:=PySem.Challenge.rw_glidequeue_k54_texts_of_no_items) (k:=8) (x:="_law_script") (st:=Lw.fz) rfl rfl ⟨rfl,by decide,by decide⟩ (fun w h Y=>PySem.W.kIn_of Y) Lw.All ?F (fun _ _ A=>A.law) (fun _ _ _ _ _ _ _=>rfl) (fun _ _ _ _ _ _ _ A F=>Lw.KD A F)
 case F=>
  intro w mg h KX G
  refine⟨L2.Kt KX G ?b,?x1,?x2,?x3,?x4,?x5,?x6,?x7,?x8,?x9,?x10,?x11,?x12,?x13,?x14,?x15,?x16,?x17,?x18,?x19,?x20,?x21,?x22,?x23,?x24,?x25,?x26,?x27,?x28,?x29,?x30,?x31,?x32,?x33,?x34,?x35,?x36,?x37,?x38⟩
  case b=>(unfold L2.oO; repeat (refine L2.iy.cons ?z ?_; (case z=>k_is))); exact L2.iy.nil
  case x1=>refine' L2.Jl KX G ?a ?l ?z ?r; (case a=>k_is); (case l=>k_is); (case z=>decide); (case r=>exact .cons ⟨_,rfl⟩ (.cons ⟨_,rfl⟩ .nil))
  case x2=>(refine' L2.yH KX G ?z; (case z=>k_is))
  case x3=>(refine' L2.lX KX G ?z; (case z=>k_is))
  case x4=>(refine' L2.lX KX G ?z; (case z=>k_is))
  case x5=>(refine' L2.lX KX G ?z; (case z=>k_is))
  case x6=>(refine' L2.lX KX G ?z; (case z=>k_is))
  case x7=>(refine' L2.yH KX G ?z; (case z=>k_is))
  case x8=>(refine' L2.lX KX G ?z; (case z=>k_is))
  case x9=>
   refine' ⟨_,_,_,_,_,_,_,_,_,_,_,_,_,⟨L2.Kb KX G ?a1 ?q1,?i1,⟨?x1,?x2,Lw.Cm ?x3,?x4⟩,?f,_,L2.yO ?l ?c ?kk⟩,Lw.JJ KX G ?a2 ?q2,?t,⟨?k1,?k2,?k3,?k4,?k5,?k6,?k7,?k8⟩,Lw.gq KX G ?h0,Lw.gq KX G ?h1,Lw.gq KX G ?h2,Lw.gq KX G ?h3,Lw.gq KX G ?h4,Lw.gq KX G ?h5,Lw.gq KX G ?h6,Lw.gq KX G ?h7,Lw.gq KX G ?h8,Lw.gq KX G ?h9,?any,?own,?ve,PySem.W.mg_none_of KX G ?v,?fat⟩
   case a1=>k_is
   case a2=>k_is
   case i1=>k_is
   case h0=>k_is
   case h1=>k_is
   case h2=>k_is
   case h3=>k_is
   case h4=>k_is
   case h5=>k_is
   case h6=>k_is
   case h7=>k_is
   case h8=>k_is
   case h9=>k_is
   case x1=>k_is
   case x3=>k_is
   case x4=>k_is
   case l=>k_is
   case c=>k_is
   case kk=>k_is
   case k1=>k_is
   case k2=>k_is
   case k3=>k_is
   case k4=>k_is
   case k5=>k_is
   case k6=>k_is
   case k7=>k_is
   case k8=>k_is
   case v=>k_is
   case fat=>k_is
   case q1=>kernel_rfl
   case x2=>kernel_rfl
   case f=>kernel_rfl
   case q2=>k_exc
   case t=>(show PySem.W.mroIn _ _ _=_; k_is)
   case any=>kit_is
   case own=>kit_is
   case ve=>kit_is
  all_goals (refine' L2.JH KX G ?a ?l ?c ?k; (case a=>k_is); (case l=>k_is); (case c=>k_is); (case k=>k_is))
#print axioms PySem.Challenge.cw_glidequeue_k54_texts_of_no_items_holds
