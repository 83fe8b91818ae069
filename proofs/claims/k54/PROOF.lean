import PyProof.Rows.All
import Wide.All
import OpenK.AllK
import Wide.FinOn
import Lean
import PyProof.EqAt
import PyProof.EqKinds
import PyProof.TupleCall
import PySem.Challenge.RW_glidequeue_k54_texts_of_no_items
set_option Elab.async false
set_option linter.all false
set_option maxRecDepth 100000
abbrev ag:=@PySem.wpAny_bind
abbrev aC:=@if_neg
abbrev aD:=@Nat.le_refl
abbrev aE:=@List.length_map
abbrev aI:=@if_pos
abbrev aM:=@PySem.wpAny_pure
abbrev aN:=@PySem.Heap.lt_size
abbrev aW:=@List.mem_cons
abbrev aZ:=@Bool.false_ne_true
abbrev br:=@decide_eq_true
abbrev bu:=@decide_eq_false
abbrev bw:=@PySem.Heap.get?_push_of_some
abbrev bC:=@List.size_toArray
abbrev bE:=@Nat.ne_of_lt
abbrev bK:=@Nat.zero_le
abbrev bL:=@Nat.le_trans
abbrev bM:=@List.mem_map
abbrev bQ:=@Bool.and_eq_true
abbrev bU:=@List.all_eq_true
abbrev cf:=@Option.some.inj
abbrev cg:=@List.getElem?_map
abbrev cj:=@Bool.true_and
abbrev cq:=@beq_iff_eq
abbrev cu:=@PySem.Heap.get?_push_size
abbrev cz:=@Bool.false_and
abbrev cP:=@List.not_mem_nil
abbrev dc:=@List.length_append
abbrev dw:=@PySem.wpAny_mono
abbrev dy:=@Bool.eq_iff_iff
abbrev dH:=@PySem.wpAny_holding
abbrev dI:=@Nat.lt_of_lt_of_le
abbrev dJ:=@List.map_append
abbrev dM:=@List.getElem?_eq_some_iff
abbrev dZ:=@PySem.intBits_le_64
abbrev e9:=@List.mem_append
abbrev eg:=@List.map_cons
abbrev eh:=@List.lookup_cons
abbrev eJ:=@List.mem_append_right
abbrev eX:=@congrArg
abbrev eY:=@Ne.symm
abbrev eZ:=@List.mem_singleton
abbrev f6:=@Bool.eq_false_iff
abbrev fq:=@List.mem_of_getElem?
abbrev ft:=@List.length_cons
abbrev fu:=@List.getElem?_eq_getElem
abbrev gs:=@PySem.wpAny_field
abbrev gu:=@PyProof.Rows.boot_tuple
abbrev gT:=@PySem.wpAny_truthy_bool
abbrev gU:=@or_false
abbrev gW:=@List.length_take
abbrev gX:=@List.any_cons
abbrev gY:=@Int.le_refl
abbrev ip:=@PySem.wpAny_newObj_type
abbrev iq:=@if_true
abbrev iu:=@decide_eq_true_eq
abbrev iy:=@List.take_of_length_le
abbrev jg:=@PySem.wpAny_loadPart_at
abbrev jh:=@of_decide_eq_true
abbrev ji:=@List.append_nil
abbrev jk:=@List.all_cons
abbrev k9:=@PySem.wpAny_standAt
abbrev ka:=@PySem.wpAny_passesOwn
abbrev kc:=@PySem.wpAny_call
abbrev kd:=@PySem.strLen_append
abbrev ke:=@PySem.StrLaws.glued_eq_join
abbrev kf:=@PySem.boot_len
abbrev kg:=@PySem.W.mg_of
abbrev kh:=@PySem.Str.cps_append
abbrev kj:=@PySem.PassesOwn.never
abbrev kl:=@Nat.lt_irrefl
abbrev km:=@List.mem_of_mem_take
abbrev kn:=@List.mem_filterMap
abbrev kq:=@List.getElem_mem
abbrev kr:=@Bool.and_false
abbrev m5:=@PySem.wpAny_pyIter_list
abbrev m6:=@PySem.wpAny_execs_nil
abbrev m7:=@PySem.typeIs_str
abbrev m8:=@PySem.W.Looks.here
abbrev m9:=@PyProof.Rows.boot_str
abbrev md:=@Option.map_eq_some_iff
abbrev me:=@List.length_drop
abbrev mh:=@PySem.Heap.get?_update_other
abbrev mi:=@Array.toList_append
abbrev oQ:=@PySem.wpAny_setField
abbrev oS:=@PySem.sizeLine_eq
abbrev oT:=@PySem.W.looks_findIn
abbrev oU:=@PySem.codeAny_mono
abbrev oW:=@PySem.mem_of_lookup
abbrev oX:=@PyProof.Rows.boot_int
abbrev oY:=@PySem.Obj.data_mapFields
abbrev oZ:=@List.take_succ
abbrev p4:=@List.sum_cons
abbrev p5:=@List.of_mem_zip
abbrev p6:=@List.mem_cons_of_mem
abbrev p7:=@List.mem_append_left
abbrev p8:=@List.map_map
abbrev p9:=@List.any_map
abbrev pe:=@Int.emod_nonneg
abbrev pg:=@Int.emod_lt_of_pos
abbrev ph:=@PySem.Heap.get?_update_self
abbrev pj:=@Bool.not_eq_true'
abbrev pk:=@Array.length_toList
abbrev u6:=@PySem.wpAny_isSubtype_exc
abbrev u7:=@PySem.wpAny_Call_Name_kw
abbrev u9:=@PySem.intText_digits
abbrev ua:=@PySem.codeAny_call_builtin
abbrev ub:=@beq_self_eq_true
abbrev uc:=@PySem.W.hideAll_get
abbrev ud:=@PySem.W.cellsFrom_some
abbrev ue:=@PySem.F.slot_tuple_iterator_next
abbrev uf:=@PySem.F.excAttr_ValueError
abbrev ug:=@PyProof.Rows.boot_isinstance
abbrev uh:=@PyProof.Rows.boot_any
abbrev ui:=@Nat.ne_of_gt
abbrev uj:=@Nat.lt_succ_of_lt
abbrev uk:=@Nat.le_of_eq
abbrev um:=@List.nodup_cons
abbrev uo:=@List.mem_of_mem_drop
abbrev uq:=@List.mem_iff_getElem?
abbrev ur:=@List.mem_cons_self
abbrev uu:=@List.length_pos_iff
abbrev uv:=@List.getLastD_eq_getLast?
abbrev uw:=@List.getElem?_set_self
abbrev uy:=@List.eq_nil_or_concat
abbrev uz:=@List.drop_of_length_le
abbrev uA:=@List.cons_append
abbrev uB:=@List.concat_eq_append
abbrev uC:=@List.all_nil
abbrev uD:=@Int.toNat_of_nonneg
abbrev uE:=@PySem.Heap.size_push
abbrev uF:=@Bool.and_true
abbrev uG:=@Array.getElem?_eq_some_iff
abbrev Bf:=@PySem.wpAny_newFunctionEnv_cells
abbrev Bg:=@PySem.wpAny_callSpecial?_slot
abbrev Bh:=@ne_true_of_eq_false
abbrev Bi:=@PySem.int_text_length_le10
abbrev Bj:=@PySem.codeAny_call_function
abbrev Bk:=@PySem.ofString_length
abbrev Bl:=@PySem.W.codeRec_of
abbrev Bm:=@PySem.F.slot_tuple_add
abbrev Bn:=@PySem.F.plainAttrs_str
abbrev Bo:=@PySem.F.entry_tuple_add
abbrev Bp:=@PySem.F.args_tuple_add_2
abbrev Bq:=@PyProof.Rows.slot_tuple_getitem
abbrev Br:=@PyProof.Rows.callWith_type1
abbrev Bs:=@PyProof.Rows.boot_all
abbrev Bt:=@PySem.Obj.isFreed_of_fields
abbrev Bu:=@List.getLast?_eq_some_getLast
abbrev Bv:=@List.getLast?_append
abbrev Bw:=@List.getElem?_set_ne
abbrev Bx:=@List.getElem?_append_left
abbrev Bz:=@List.filterMap_cons
abbrev BA:=@List.contains_cons
abbrev BB:=@List.any_eq_true
abbrev BC:=@Int.toNat_natCast
abbrev BD:=@Bool.false_eq_true
abbrev BE:=@Array.all_eq_true_iff_forall_mem
abbrev Ky:=@PySem.F.entry_tuple_iterator_next
abbrev Kz:=@PySem.F.args_tuple_iterator_next_1
abbrev KA:=@List.length_filter_eq_length_iff
abbrev LG:=PySem.W.Frag
abbrev LH:=PySem.Shared
abbrev LI:=PySem.Program
abbrev LJ:=PySem.PyData
abbrev LK:=PySem.Around
namespace L2
open PySem PySem.Spec PyProof.Rows
abbrev Key:=Sum Int Str
def xP:Key->Value->Bool | .inl k,v=>Value.isInt k v | .inr x,v=>Value.isStrOf x v
def Gp(w:World):Key->Int | .inl k=>hashInt k | .inr x=>hashStr w x
theorem gE:∀{k:Key}{v:Value},xP k v=true->(∃i t,k=Sum.inl i/\v=Value.int i t)\/(∃x t,k=Sum.inr x/\v=Value.str x t) | .inl i,v,h=>by obtain⟨t,e⟩:=Value.isInt_shape (k:=i) (v:=v) h;exact .inl ⟨i,t,rfl,e⟩ | .inr x,v,h=>by obtain⟨t,e⟩:=Value.isStrOf_shape (x:=x) (v:=v) h;exact .inr ⟨x,t,rfl,e⟩
theorem Gn(a b:Int):decide ((Sum.inl a:Key)=Sum.inl b)=(a==b):=by
 by_cases e:a=b
 ·subst e;simp
 · have h:¬(Sum.inl a:Key)=Sum.inl b:=fun q=>e (Sum.inl.inj q)
   rw[bu h];exact(beq_eq_false_iff_ne.mpr e).symm
theorem Gj(a b:Str):decide ((Sum.inr a:Key)=Sum.inr b)=decide (a=b):=by
 by_cases e:a=b
 ·subst e;simp
 · have h:¬(Sum.inr a:Key)=Sum.inr b:=fun q=>e (Sum.inr.inj q)
   rw[bu h,bu e]
theorem Gm(a:Int)(b:Str):decide ((Sum.inl a:Key)=Sum.inr b)=false:=bu (fun q=>nomatch q)
theorem Gk(a:Str)(b:Int):decide ((Sum.inr a:Key)=Sum.inl b)=false:=bu (fun q=>nomatch q)
def rF(prog:LI)(w:World):PySem.KeyKind prog w Key where
 is:=xP
 hash:=Gp w
 inj:=fun v a b ha hb=>by
  rcases gE ha with⟨i,t,rfl,rfl⟩|⟨x,t,rfl,rfl⟩
  · rcases gE hb with⟨j,u,rfl,e⟩|⟨y,u,rfl,e⟩
    ·injection e with e1 _;rw[e1]
    ·exact nomatch e
  · rcases gE hb with⟨j,u,rfl,e⟩|⟨y,u,rfl,e⟩
    ·exact nomatch e
    ·injection e with e1 _;rw[e1]
 byValue:=fun k v h=>by rcases gE h with⟨i,t,rfl,rfl⟩|⟨x,t,rfl,rfl⟩<;>rfl
 pyHash:=fun hv h=>by
  rcases gE hv with⟨i,t,rfl,rfl⟩|⟨x,t,rfl,rfl⟩
  ·exact wpAny_pyHash_int h
  ·exact wpAny_pyHash_str h
 eqBool:=fun hu hv h=>by
  rcases gE hu with⟨i,t,rfl,rfl⟩|⟨x,t,rfl,rfl⟩
  · rcases gE hv with⟨j,u,rfl,rfl⟩|⟨y,u,rfl,rfl⟩
    ·rw[Gn]at h;exact wpAny_eqBool_int h
    ·rw[Gm]at h;exact SeqAt.EqAt.int_str i t y u _ _ _ _ h
  · rcases gE hv with⟨j,u,rfl,rfl⟩|⟨y,u,rfl,rfl⟩
    ·rw[Gk]at h;exact SeqAt.EqAt.str_int x t j u _ _ _ _ h
    ·rw[Gj]at h;exact wpAny_eqBool_str h
 «strs»:=fun k x t v h=>by
  rcases gE h with⟨i,u,rfl,e⟩|⟨y,u,rfl,e⟩
  ·exact nomatch e
  · injection e with e1 _
    subst e1;cases v<;>rfl
inductive V where |aq|bl (b:Bool)|int (i:Int)|str (x:Str)|eS (b:Array UInt8)|sS (b:UInt64)|ref (a:Addr)|ty (n:String) deriving DecidableEq
def RelV:V->Value->Prop | .aq,u=>u=Value.none | .bl b,u=>u=Value.bool b | .int i,u=>∃t,u=Value.int i t | .str x,u=>∃t,u=Value.str x t | .eS b,u=>∃t,u=Value.bytes b t | .sS b,u=>∃t,u=Value.float b t | .ref a,u=>u=Value.ref a | .ty n,u=>u=Value.type n
abbrev Vals:List V->List Value->Prop:=Paired RelV
theorem Vals.length{xs:List V}{us:List Value}(r:Vals xs us):xs.length=us.length:=Paired.length r
theorem Vals.get:∀{xs:List V}{us:List Value}{i:Nat}{x:V},Vals xs us->xs[i]? =some x->∃u,us[i]? =some u/\RelV x u |_,_,_,_,.nil,e=>by simp at e |_,_,0,_,.cons r _,e=>by simp at e;subst e;exact⟨_,rfl,r⟩ |_,_,i+1,x,.cons _ t,e=>by obtain⟨u,h1,h2⟩:=Vals.get (i:=i) (x:=x) t (by simpa using e);exact⟨u,by simpa using h1,h2⟩
theorem Vals.set{x:V}{u:Value}(r:RelV x u):∀{xs:List V}{us:List Value}(i:Nat),Vals xs us->Vals (xs.set i x) (us.set i u) |_,_,_,.nil=>.nil |_,_,0,.cons _ t=>.cons r t |_,_,i+1,.cons q t=>.cons q (Vals.set r i t)
theorem Vals.append:∀{xs ys:List V}{us ws:List Value},Vals xs us->Vals ys ws->Vals (xs++ys) (us++ws) |_,_,_,_,.nil,s=>s |_,_,_,_,.cons r t,s=>.cons r (Vals.append t s)
theorem Vals.take:∀{xs:List V}{us:List Value}(n:Nat),Vals xs us->Vals (xs.take n) (us.take n) |_,_,0,_=>.nil |_,_,_+1,.nil=>.nil |_,_,n+1,.cons r t=>.cons r (Vals.take n t)
theorem Vals.drop:∀{xs:List V}{us:List Value}(n:Nat),Vals xs us->Vals (xs.drop n) (us.drop n) |_,_,0,r=>r |_,_,_+1,.nil=>.nil |_,_,n+1,.cons _ t=>Vals.drop n t
def zN:Option V->Option Value->Prop |some v,some u=>RelV v u |none,none=>True |_,_=>False
def KV{κ:Type}:List (κ×V)->List (κ×Value)->Prop:=Paired fun(p:κ×V)(q:κ×Value)=>p.1=q.1/\RelV p.2 q.2
def kV:Key->V | .inl i=>.int i | .inr x=>.str x
inductive HO where /--a list -/ |lst (xs:List V) /--a tuple (never changes) -/ |tup (xs:List V) /--a dict BK keys are ints and texts; one BK keys are tuples of ints and texts (jl empty one is both) -/ |dK (bo:List (Key×V))|dT (bo:List (List Key×V)) /--a set of ints: its members,its size -/ |set (S:Int->Bool)(n:Nat) /--an instance of jl class at C,its dict at dx,its attributes -/ |ins (C dx:Addr)(fs:List (Str×V)) /--jl dict of jl instance at x -/ |own (x:Addr) /--jl dict of an exception -/ |xd (fs:List (Str×V)) /--a bound method,f of x -/ |met (f x:Addr) /--a range object lo,lo+1,.. below hi -/ |mQ (lo hi:Int) /--a C9 KG is known to jl object (jl KN; a dict while a loop walks it): read,never written while it is so -/ |fM (o:Obj)(u:HO) /--a code KQ table -/ |hG (ps:Array Value) /--any other C9,by what is true of its one object (a def of KP own: LC a S n:=HO.ext fun h=>..) -/ |ext (φ:Heap->Prop)
abbrev Hp:=Addr->Option HO
def upd(H:Hp)(a:Addr)(o:HO):Hp:=fun b=>if b=a then some o else H b
theorem bR{H:Hp}{a:Addr}{o:HO}:upd H a o a=some o:=by unfold upd;rw[aI rfl]
theorem aL{H:Hp}{a b:Addr}{o:HO}(h:b≠a):upd H a o b=H b:=by unfold upd;rw[aC h]
theorem xq{H:Hp}{a b:Addr}{o u:HO}(h:H a=some o)(h':H b=some u)(d:o≠u):a≠b:=by intro e;subst e;rw[h]at h';exact d (cf h')
theorem cn{H:Hp}{a b:Addr}{o:HO}(h:H a=some o)(h':H b=none):a≠b:=by intro e;subst e;rw[h]at h';cases h'
section
variable (P:LI) (w:World)
def bZ(H:Hp)(h:Heap)(a:Addr):HO->Prop | .lst xs=>xs.length<=sizeLine/\∃(its:List Value)(n:Nat),Vals xs its/\h.get? a=some {cls:=.type "list",data:=.seq its.toArray n} | .tup xs=>xs.length<=sizeLine/\∃its:List Value,Vals xs its/\IsTup h a its.toArray | .dK bo=>bo.length<=sizeLine/\(a==sysModules)=false/\∃vs,KV bo vs/\h.DictOf (rF P w) a vs | .dT bo=>bo.length<=sizeLine/\(a==sysModules)=false/\∃xs:List (List Key×Addr×Value),Paired (fun(p:List Key×V)(q:List Key×Addr×Value)=>p.1=q.1/\H q.2.1=some (.tup (p.1.map kV))/\RelV p.2 q.2.2) bo xs/\∃o es ep,h.get? a=some o/\o.ExactDict/\o.data= .dict es ep/\es.toList=xs.map (entryOfKey (tupleKind (rF P w)))/\(xs.map (·.1)).Nodup | .set S n=>h.SetOf (intKind P w) a S n | .ins C dx fs=>H dx=some (.own a)/\fs.length<=1000/\dx≠a/\h.get? a=some (PySem.W.instObj C dx)/\∃mA,h.Ns1 dx mA/\(∀f,zN (fs.lookup f) (mA f))/\PySem.Within mA (fs.map (·.1)) | .own _=>∃o,h.get? a=some o | .xd fs=>∃mA,h.Ns1 a mA/\∀f,zN (fs.lookup f) (mA f) | .mQ lo hi=>∃t u v,h.get? a=some {cls:=.type "range",data:=.fields #[.int lo t,.int hi u,.int 1 v]} | .fM o u=>h.get? a=some o/\bZ H h a u | .hG ps=>h.get? a=some {cls:=.none,data:=.fields ps} | .met f x=>h.get? a=some (PySem.W.methodObj (.ref f) (.ref x)) | .ext φ=>φ h/\(∃o,h.get? a=some o)/\∀h1 h2:Heap,φ h1->(∀o,h1.get? a=some o->h2.get? a=some o)->φ h2
def bq(H:Hp)(h:Heap):Prop:=∀a o,H a=some o->bZ P w H h a o
end
section
variable {P:LI}{w:World}{H H':Hp}{h h':Heap}{a:Addr}{o:HO}
theorem bZ.lt(x:bZ P w H h a o):a<h.objs.size:=by cases o with |lst xs=>obtain⟨_,_,_,_,e⟩:=x;exact aN e |tup xs=>obtain⟨_,_,_,p⟩:=x;exact p.lt |dK bo=>obtain⟨_,_,_,_,o,_,_,e,_⟩:=x;exact aN e |dT bo=>obtain⟨_,_,_,_,o,_,_,e,_⟩:=x;exact aN e |set S n=>obtain⟨o,_,_,_,e,_⟩:=x;exact aN e |ins C dx fs=>obtain⟨_,_,_,e,_⟩:=x;exact aN e |own y=>obtain⟨_,e⟩:=x;exact aN e |xd fs=>obtain⟨_,⟨_,_,_,e,_⟩,_⟩:=x;exact aN e |mQ lo hi=>obtain⟨_,_,_,e⟩:=x;exact aN e |fM ob u=>obtain⟨e,_⟩:=x;exact aN e |hG ps=>exact aN (show h.get? a=some _ from x) |met f y=>exact aN (show h.get? a=some _ from x) |ext φ=>obtain⟨_,⟨_,e⟩,_⟩:=x;exact aN e
theorem Paired.xE{α β:Type}{F G:α->β->Prop}:∀{l₁:List α}{l₂:List β},Paired F l₁ l₂->(∀a b,F a b->G a b)->Paired G l₁ l₂ |_,_,.nil,_=>.nil |_,_,.cons r t,f=>.cons (f _ _ r) (Paired.xE t f)
theorem bZ.fv(x:bZ P w H h a o)(k:∀b u,(b=a\/H b=some (.own a))->h.get? b=some u->h'.get? b=some u) (ho:∀b,H b=some (.own a)->H' b=some (.own a))(ht:∀b xs,H b=some (.tup xs)->H' b=some (.tup xs)):bZ P w H' h' a o:=by induction o with |lst xs=>obtain⟨z,its,n,r,e⟩:=x;exact⟨z,its,n,r,k _ _ (.inl rfl) e⟩ |tup xs=>obtain⟨z,its,r,ob,e,c⟩:=x;exact⟨z,its,r,ob,k _ _ (.inl rfl) e,c⟩ |dK bo=>obtain⟨z,y,vs,r,ob,es,ep,e,c⟩:=x;exact⟨z,y,vs,r,ob,es,ep,k _ _ (.inl rfl) e,c⟩ |dT bo=>obtain⟨z,y,xs,r,ob,es,ep,e,c⟩:=x;exact⟨z,y,xs,Paired.xE r fun p q z=>⟨z.1,ht _ _ z.2.1,z.2.2⟩,ob,es,ep,k _ _ (.inl rfl) e,c⟩ |set S n=>obtain⟨ob,es,ep,t,e,c⟩:=x;exact⟨ob,es,ep,t,k _ _ (.inl rfl) e,c⟩ |ins C dx fs=>obtain⟨d,z,ne,e,mA,⟨od,es,ep,e2,c⟩,r⟩:=x;exact⟨ho _ d,z,ne,k _ _ (.inl rfl) e,mA,⟨od,es,ep,k _ _ (.inr d) e2,c⟩,r⟩ |own y=>obtain⟨ob,e⟩:=x;exact⟨ob,k _ _ (.inl rfl) e⟩ |xd fs=>obtain⟨mA,⟨od,es,ep,e,c⟩,r⟩:=x;exact⟨mA,⟨od,es,ep,k _ _ (.inl rfl) e,c⟩,r⟩ |mQ lo hi=>obtain⟨t,u,v,e⟩:=x;exact⟨t,u,v,k _ _ (.inl rfl) e⟩ |fM ob u ih=>obtain⟨e,q⟩:=x;exact⟨k _ _ (.inl rfl) e,ih q⟩ |hG ps=>have e:h.get? a=some {cls:=.none,data:=.fields ps}:=x;show h'.get? a=some {cls:=.none,data:=.fields ps};exact k a _ (.inl rfl) e |met f y=>have e:h.get? a=some (PySem.W.methodObj (.ref f) (.ref y)):=x;show h'.get? a=some (PySem.W.methodObj (.ref f) (.ref y));exact k a _ (.inl rfl) e |ext φ=>obtain⟨p,⟨o,e⟩,st⟩:=x;exact⟨st _ _ p fun o q=>k _ _ (.inl rfl) q,⟨o,k _ _ (.inl rfl) e⟩,st⟩
theorem bq.lt(x:bq P w H h)(e:H a=some o):a<h.objs.size:=(x a o e).lt
theorem bq.fresh(x:bq P w H h)(e:h.objs.size<=a):H a=none:=by cases q:H a with |none=>rfl |some u=>exact absurd (dI (x.lt q) e) (kl _)
theorem bq.kept(x:bq P w H h)(k:∀b u,h.get? b=some u->h'.get? b=some u):bq P w H h':=fun a o e=>(x a o e).fv (fun b u _ q=>k b u q) (fun _ q=>q) fun _ _ q=>q
theorem bq.laid(x:bq P w H h)(k:∀b u,h.get? b=some u->h'.get? b=some u)(hp:h.objs.size<=a)(new:bZ P w (upd H a o) h' a o):bq P w (upd H a o) h':=fun b u e=>by
 have hn:=x.fresh hp;by_cases hb:b=a
 ·subst hb;rw[bR]at e;cases e;exact new
 · rw[aL hb]at e
   exact(x b u e).fv (fun c v _ q=>k c v q) (fun c q=>by rw[aL (cn q hn)];exact q) fun c xs q=>by rw[aL (cn q hn)];exact q
end
def Rd(H:Hp)(a:Addr)(u:HO):Prop:=H a=some u\/∃o,H a=some (.fM o u)
theorem Rd.ok{P:LI}{w:World}{H:Hp}{h:Heap}{a:Addr}{u:HO}(r:Rd H a u)(x:bq P w H h):bZ P w H h a u:=by
 rcases r with r|⟨o,r⟩
 ·exact x a u r
 · obtain⟨_,q⟩:=x a _ r
   exact q
def oH:Option HO->Prop |some (.lst _)=>True |some (.dK _)=>True |some (.dT _)=>True |some (.set _ _)=>True |some (.ins _ _ _)=>True |some (.ext _)=>True |_=>False
section
variable {P:LI}{w:World}{H:Hp}{h h':Heap}{x e:Addr}{o':HO}
theorem bq.write(ok:bq P w H h)(mu:oH (H x))(he:e=x\/H e=some (.own x))(k:∀b u,b≠e->h.get? b=some u->h'.get? b=some u)(jK:∃u,h'.get? e=some u) (new:bZ P w (upd H x o') h' x o'):bq P w (upd H x o') h':=fun b u q=>by
  have xm:∀c y,H c=some (.own y)->c≠x:=fun c y r z=>by subst z;rw[r]at mu;exact mu
  have Fq:∀c xs,H c=some (.tup xs)->c≠x:=fun c xs r z=>by subst z;rw[r]at mu;exact mu
  by_cases hb:b=x
  ·subst hb;rw[bR]at q;cases q;exact new
  · rw[aL hb]at q
    by_cases iZ:b=e
    · have q':H b=some (.own x):=by
        rcases he with z|z
        ·exact absurd (iZ.trans z) hb
        ·rw[iZ];exact z
      rw[q]at q';cases q';obtain⟨v,hv⟩:=jK;exact⟨v,by rw[iZ];exact hv⟩
    · refine(ok b u q).fv (fun c v hc r=>k c v ?_ r) (fun c r=>by rw[aL (xm c b r)];exact r) fun c xs r=>by rw[aL (Fq c xs r)];exact r
      rcases hc with rfl|hc
      ·exact iZ
      · rintro rfl
        rcases he with z|z
        ·exact xm c b hc z
        ·rw[hc]at z;cases z;exact hb rfl
end
structure Un(fs ex:List Addr)(H H':Hp)(h h':Heap):Prop where
 keep:∀b o,h.get? b=some o->H b=none->b∉fs->b∉ex->h'.get? b=some o
 slot:∀b o,h.get? b=some o->H b=none->b∈fs->b∉ex->∃sl,h'.get? b=some {o with slots:=sl}
 free:∀b o,h.get? b=some o->H b=none->b∉ex->H' b=none
 there:∀b o,h.get? b=some o->b∉ex->∃o',h'.get? b=some o'
 tups:∀b xs,H b=some (.tup xs)->H' b=some (.tup xs)
 frzs:∀b o u,H b=some (.fM o u)->H' b=some (.fM o u)
 tbls:∀b ps,H b=some (.hG ps)->∃more,H' b=some (.hG (ps++more))
section
variable {fs jL ex jQ:List Addr}{H H1 H2:Hp}{h h1 h2 h':Heap}{a x e:Addr}{o:HO}
theorem Un.any(u:Un fs ex H H1 h h1){b:Addr}{ob:Obj}(q:h.get? b=some ob)(n:H b=none)(hx:b∉ex):∃sl,h1.get? b=some {ob with slots:=sl}:=by
 by_cases hb:b∈fs
 ·exact u.slot b ob q n hb hx
 ·exact⟨ob.slots,u.keep b ob q n hb hx⟩
theorem Un.kept(k:∀b u,h.get? b=some u->h'.get? b=some u):Un fs ex H H h h':=⟨fun b ob q _ _ _=>k b ob q,fun b ob q _ _ _=>⟨ob.slots,k b ob q⟩,fun _ _ _ n _=>n,fun b ob q _=>⟨ob,k b ob q⟩,fun _ _ q=>q,fun _ _ _ q=>q,fun _ ps q=>⟨#[],by rw[q];simp⟩⟩
theorem Un.refl:Un fs ex H H h h:=Un.kept fun _ _ q=>q
theorem Un.laid(k:∀b u,h.get? b=some u->h'.get? b=some u)(hp:h.objs.size<=a)(hn:H a=none):Un fs ex H (upd H a o) h h' where
 keep:=fun b u q _ _ _=>k b u q
 slot:=fun b u q _ _ _=>⟨u.slots,k b u q⟩
 free:=fun b u q n _=>by rw[aL (bE (dI (aN q) hp))];exact n
 there:=fun b u q _=>⟨u,k b u q⟩
 tups:=fun b xs q=>by rw[aL (cn q hn)];exact q
 frzs:=fun b u xs q=>by rw[aL (cn q hn)];exact q
 tbls:=fun b ps q=>⟨#[],by rw[aL (cn q hn),q];simp⟩
theorem Un.write(mu:oH (H x))(he:e=x\/H e=some (.own x))(k:∀b u,b≠e->h.get? b=some u->h'.get? b=some u)(jK:∃u,h'.get? e=some u):Un fs ex H (upd H x o) h h':=by
 have hx:∀b,H b=none->b≠x:=fun b n z=>by subst z;rw[n]at mu;exact mu
 have hb:∀b,H b=none->b≠e:=fun b n z=>by
  subst z;rcases he with r|r
  ·exact hx b n r
  ·rw[n]at r;cases r
 have hm:∀b u,H b=some u->¬oH (some u)->b≠x:=fun b u q nm z=>by subst z;rw[q]at mu;exact nm mu
 refine⟨fun b u q n _ _=>k b u (hb b n) q,fun b u q n _ _=>⟨u.slots,k b u (hb b n) q⟩,fun b u q n _=>by rw[aL (hx b n)];exact n,fun b u q _=>?_,fun b xs q=>by rw[aL (hm b _ q fun z=>z)];exact q,fun b u xs q=>by rw[aL (hm b _ q fun z=>z)];exact q,fun b ps q=>⟨#[],by rw[aL (hm b _ q fun z=>z),q];simp⟩⟩;by_cases iZ:b=e
 ·subst iZ;exact jK
 ·exact⟨u,k b u iZ q⟩
end
def mw(h:Heap)(H:Hp):List Addr:=(List.range h.objs.size).filter fun a=>(H a).isSome
def gI(h:Heap)(H:Hp):Heap:=PySem.W.hideAll h (mw h H)
theorem HJ(h:Heap)(H:Hp):(gI h H).objs.size=h.objs.size:=PySem.W.hideAll_size _ _
theorem HK{h:Heap}{H:Hp}{b:Addr}{o:Obj}(e:h.get? b=some o)(n:H b=none):(gI h H).get? b=some o:=uc _ e fun hm=>by have q:(H b).isSome=true:=(List.mem_filter.mp hm).2;rw[n]at q;simp at q
theorem Fb{h:Heap}{H:Hp}{b:Addr}{o:Obj}(e:(gI h H).get? b=some o):h.get? b=some o/\H b=none:=by have e':h.get? b=some o:=PySem.W.of_hideAll (mw h H) e;refine⟨e',?_⟩;cases q:H b with |none=>rfl |some x=>have hm:b∈mw h H:=List.mem_filter.mpr ⟨List.mem_range.mpr (aN e'),by simp[q]⟩;have z:(gI h H).get? b=none:=PySem.W.hideAll_none (mw h H) hm;rw[z]at e;cases e
structure Mod(K:LG)(mg:Str->Option Value)(base:Heap):Prop where
 kin:K.In base
 glob:base.Ns mainGlobals mg
 blt:∃mb,base.Ns builtinsNs mb/\∀x:Str,x≠"__name__"->mb x=bootBuiltins x
 nolimit:base.NoLimit
structure Cx where
 prog:LI
 w:World
 K:LG
 mg:Str->Option Value
 base:Heap
 A:LK
 N:List Str
 s₀:LH
 H₀:Hp
 env:Env
 outer:List Env
 stack:List Env
 ex:List Addr
 fn:Str->Bool
 calm:Bool
 pn:List (Addr×Obj)
 xe:Value->LH->Prop
def bH(l:List Env):List Addr:=l.filterMap (·.frame)
abbrev Cx.fs(X:Cx):List Addr:=bH X.outer
def tS(sc:Scope)(x:Str):Prop:=sc.names.lookup x=some .local\/sc.names.lookup x=some .cell\/sc.names.lookup x=some .free
def Loc(sc:Scope)(x:Str):Prop:=sc.names.lookup x=some .local\/sc.names.lookup x=some .cell
def Look(env:Env)(h:Heap)(m:Str->Option Value)(x:Str)(u:Value):Prop:=(env.kindOf x=some .local/\m x=some u)\/((env.kindOf x=some .cell\/env.kindOf x=some .free)/\∃c,env.cells.lookup x=some c/\h.IsCell c (some u))
structure Cx.Ok(X:Cx):Prop where
 mod:Mod X.K X.mg X.base
 kind:X.env.scope.kind= .function
 glob:X.env.globals=mainGlobals
 blt:X.env.builtins=builtinsNs
 above:X.s₀.heap.objs.size<=X.env.locals
 inj:∀x y c,X.env.cells.lookup x=some c->X.env.cells.lookup y=some c->x=y
 has:∀x,(X.env.kindOf x=some .cell\/X.env.kindOf x=some .free)->∃c,X.env.cells.lookup x=some c
 cab:∀x c,X.fn x=true->X.env.cells.lookup x=some c->X.s₀.heap.objs.size<=c
 hd:X.calm=true->X.A.handled=none
 frames:X.A.frames=some X.stack
 stk:X.stack=X.outer\/(X.stack=X.env::X.outer/\X.env.frame=some X.env.locals)
 exf:∀b∈X.ex,b≠X.env.locals/\∀x c,X.env.cells.lookup x=some c->c≠b
 bs:∀b o,X.base.get? b=some o->X.s₀.heap.get? b=some o/\X.H₀ b=none
 bsz:X.base.objs.size<=X.s₀.heap.objs.size
 noex:∀b o,X.base.get? b=some o->b∉X.ex
 exfs:∀b∈X.ex,b∉X.fs
 dF:X.s₀.heap.FunFrames X.base X.outer
 frf:∀b∈X.fs,X.H₀ b=none
structure Inv(X:Cx)(pins:List (Addr×Obj))(σ:List (Option V))(H:Hp)(s:LH):Prop where
 ok:X.Ok
 os:s.os=X.s₀.os
 bare:AllBare s.gens
 base:Un X.fs X.ex X.H₀ H X.s₀.heap s.heap
 loc:∃m,s.heap.Ns X.env.locals m/\∀(i:Nat)(x:Str)(v:V),X.N[i]? =some x->σ[i]? =some (some v)->tS X.env.scope x->∃u,RelV v u/\Look X.env s.heap m x u
 cell:∀x c,X.env.cells.lookup x=some c->∃v,s.heap.IsCell c v
 free:H X.env.locals=none
 freeC:∀x c,X.env.cells.lookup x=some c->H c=none
 pin:∀p∈X.pn++pins,s.heap.get? p.1=some p.2/\H p.1=none/\p.1≠X.env.locals/\p.1∉X.fs/\∀v,p.2.data≠ .cell v
 hok:bq X.prog X.w H s.heap
 len:σ.length=X.N.length
section
variable {X:Cx}{pins:List (Addr×Obj)}{σ:List (Option V)}{H H':Hp}{s:LH}{h':Heap}
theorem Cx.Ok.Fw(ok:X.Ok){b:Addr}{o:Obj}(e:X.base.get? b=some o):b∉X.fs:=fun hb=>by have:=(ok.dF.mem hb).1;rw[e]at this;cases this
theorem Inv.bs(I:Inv X pins σ H s):∀b o,X.base.get? b=some o->s.heap.get? b=some o/\H b=none:=fun b o e=>⟨I.base.keep b o (I.ok.bs b o e).1 (I.ok.bs b o e).2 (I.ok.Fw e) (I.ok.noex b o e),I.base.free b o (I.ok.bs b o e).1 (I.ok.bs b o e).2 (I.ok.noex b o e)⟩
theorem Inv.bk(I:Inv X pins σ H s):∀b o,X.base.get? b=some o->s.heap.get? b=some o:=fun b o e=>(I.bs b o e).1
theorem Inv.mod(I:Inv X pins σ H s):Mod X.K X.mg X.base:=I.ok.mod
theorem Inv.cL(I:Inv X pins σ H s):X.K.In s.heap:=I.ok.mod.kin.keeps I.bk
theorem Inv.lt(I:Inv X pins σ H s):X.env.locals<s.heap.objs.size:=let⟨_,hn,_⟩:=I.loc;hn.lt
theorem Inv.sz(I:Inv X pins σ H s):X.s₀.heap.objs.size<=s.heap.objs.size:=bL I.ok.above (Nat.le_of_lt I.lt)
theorem Inv.Fv(I:Inv X pins σ H s){a:Addr}(h:s.heap.objs.size<=a):a∉X.fs:=fun hb=>by obtain⟨_,o,ho,_⟩:=I.ok.dF.mem hb;exact absurd (dI (aN ho) (bL I.sz h)) (kl _)
theorem Inv.fO(I:Inv X pins σ H s):∀x c,X.env.cells.lookup x=some c->c≠X.env.locals:=fun x c e z=>by obtain⟨v,o,ho,hd⟩:=I.cell x c e;obtain⟨m,⟨o',es,ep,fJ,lM,_⟩,_⟩:=I.loc;rw[z,fJ]at ho;cases ho;rw[lM]at hd;cases hd
theorem Inv.dF(I:Inv X pins σ H s):s.heap.FunFrames X.base X.outer:=by
 have all:∀(l:List Env),(∀b∈bH l,b∈X.fs)->X.s₀.heap.FunFrames X.base l->s.heap.FunFrames X.base l:=by intro l;induction l with |nil=>intro _ _;trivial |cons env r ih=>intro hs hl;obtain⟨hk,⟨L,o,hf,hn,ho,hd⟩,hr⟩:=hl;have hL:L∈X.fs:=hs L (by unfold bH;rw[Bz,hf];exact ur);obtain⟨sl,e⟩:=I.base.slot L o ho (I.ok.frf L hL) hL fun z=>I.ok.exfs L z hL;exact⟨hk,⟨L,_,hf,hn,e,hd⟩,ih (fun b hb=>hs b (by unfold bH;rw[Bz,hf];exact p6 _ hb)) hr⟩
 exact all X.outer (fun _ hb=>hb) I.ok.dF
theorem Inv.stack(I:Inv X pins σ H s):s.heap.FunFrames X.base X.stack:=by
 rcases I.ok.stk with e|⟨e,hf⟩
 ·rw[e];exact I.dF
 · rw[e]
   obtain⟨m,hn,_⟩:=I.loc;refine .cons (by rw[I.ok.kind];decide) hf hn ?_ I.dF;exact Heap.get?_none_of_le (bL I.ok.bsz I.ok.above)
theorem Inv.pH(I:Inv X pins σ H s):∀b∈bH X.stack,b∈X.env.locals::X.fs:=fun b hb=>by
 rcases I.ok.stk with e|⟨e,hf⟩
 ·rw[e]at hb;exact p6 _ hb
 · rw[e]at hb
   unfold bH at hb;rw[Bz,hf]at hb;exact hb
theorem Inv.mI(I:Inv X pins σ H s):∀b∈bH X.stack,H b=none:=fun b hb=>by
 rcases aW.mp (I.pH b hb)with e|hb
 ·rw[e];exact I.free
 · obtain⟨_,o,ho,_⟩:=I.ok.dF.mem hb
   exact I.base.free b o ho (I.ok.frf b hb) fun z=>I.ok.exfs b z hb
theorem Inv.step{g':Array GenState}{t':Nat}{d':Drawn}{ch:List Addr}(I:Inv X pins σ H s) (fi:∀b∈ch,(b∈X.ex\/X.s₀.heap.objs.size<=b)/\b≠X.env.locals/\(∀x c,X.env.cells.lookup x=some c->c≠b)/\∀p∈X.pn++pins,p.1≠b) (keep:∀b o,b≠X.env.locals->b∉X.fs->b∉ch->s.heap.get? b=some o->H b=none->h'.get? b=some o) (slot:∀b o,b≠X.env.locals->b∈X.fs->b∉ch->s.heap.get? b=some o->H b=none->∃sl,h'.get? b=some {o with slots:=sl})(free:∀b o,b∉ch->s.heap.get? b=some o->H b=none->H' b=none) (there:∀b o,b∉ch->s.heap.get? b=some o->∃o',h'.get? b=some o') (tups:∀b xs,H b=some (.tup xs)->H' b=some (.tup xs))(frzs:∀b o u,H b=some (.fM o u)->H' b=some (.fM o u))(tbls:∀b ps,H b=some (.hG ps)->∃more,H' b=some (.hG (ps++more))) (ns:∀m,s.heap.Ns X.env.locals m->h'.Ns X.env.locals m)(hok:bq X.prog X.w H' h')(hg:AllBare g'): Inv X pins σ H' {s with heap:=h',gens:=g',drawn:=d',toks:=t'}:=by
  have xr:∀b o,X.s₀.heap.get? b=some o->b≠X.env.locals:=fun b o e=>bE (dI (aN e) I.ok.above);have ny:∀b o,X.s₀.heap.get? b=some o->b∉X.ex->b∉ch:=fun b o e hx hb=>by
   rcases(fi b hb).1 with z|z
   ·exact hx z
   ·exact absurd (dI (aN e) z) (kl _)
  have cellK:∀x c,X.env.cells.lookup x=some c->∀v,s.heap.IsCell c v->h'.IsCell c v:=fun x c e v ⟨o,ho,hd⟩=>by
   have kY:c∉ch:=fun z=>(fi c z).2.2.1 x c e rfl;by_cases hc:c∈X.fs
   · obtain⟨sl,q⟩:=slot c o (I.fO x c e) hc kY ho (I.freeC x c e)
     exact⟨_,q,hd⟩
   ·exact⟨o,keep c o (I.fO x c e) hc kY ho (I.freeC x c e),hd⟩
  refine⟨I.ok,I.os,hg,⟨fun b o e n hb hx=>?_,fun b o e n hb hx=>?_,fun b o e n hx=>?_,fun b o e hx=>?_,fun b xs e=>tups b xs (I.base.tups b xs e),fun b o xs e=>frzs b o xs (I.base.frzs b o xs e),fun b ps e=>?_⟩,?_,fun x c e=>?_,?_,fun x c e=>?_,fun p hp=>?_,hok,I.len⟩
  ·exact keep b o (xr b o e) hb (ny b o e hx) (I.base.keep b o e n hb hx) (I.base.free b o e n hx)
  · obtain⟨sl,e1⟩:=I.base.slot b o e n hb hx
    obtain⟨pQ,e2⟩:=slot b _ (xr b o e) hb (ny b o e hx) e1 (I.base.free b o e n hx);exact⟨pQ,e2⟩
  · obtain⟨o',e1⟩:=I.base.there b o e hx
    exact free b o' (ny b o e hx) e1 (I.base.free b o e n hx)
  · obtain⟨o',e1⟩:=I.base.there b o e hx
    exact there b o' (ny b o e hx) e1
  · obtain⟨m1,e1⟩:=I.base.tbls b ps e
    obtain⟨m2,e2⟩:=tbls b _ e1;exact⟨m1++m2,by rw[e2,Array.append_assoc]⟩
  · obtain⟨m,hn,hl⟩:=I.loc
    refine⟨m,ns m hn,fun i x v e1 e2 e3=>?_⟩;obtain⟨u,r,l⟩:=hl i x v e1 e2 e3;refine⟨u,r,?_⟩;rcases l with l|⟨k,c,e,z⟩
    ·exact .inl l
    ·exact .inr ⟨k,c,e,cellK x c e _ z⟩
  · obtain⟨v,z⟩:=I.cell x c e
    exact⟨v,cellK x c e v z⟩
  · obtain⟨m,⟨o,_,_,ho,_⟩,_⟩:=I.loc
    exact free _ o (fun z=>(fi _ z).2.1 rfl) ho I.free
  · obtain⟨v,o,ho,hd⟩:=I.cell x c e
    exact free c o (fun z=>(fi c z).2.2.1 x c e rfl) ho (I.freeC x c e)
  · obtain⟨e,n,ne,nf,d⟩:=I.pin p hp
    have kY:p.1∉ch:=fun z=>(fi p.1 z).2.2.2 p hp rfl;exact⟨keep p.1 p.2 ne nf kY e n,free p.1 p.2 kY e n,ne,nf,d⟩
theorem Inv.un{t':Nat}(I:Inv X pins σ H s)(u:Un X.fs [] H H' s.heap h')(hok:bq X.prog X.w H' h'):Inv X pins σ H' {s with heap:=h',toks:=t'}:=by obtain⟨m,⟨o,es,ep,ho,r⟩,_⟩:=id I.loc;obtain⟨sl,hL⟩:=u.any ho I.free (by simp);exact I.step (g':=s.gens) (d':=s.drawn) (ch:=[]) (fun _ z=>nomatch z) (fun b o _ hb _ e n=>u.keep b o e n hb (by simp)) (fun b o _ hb _ e n=>u.slot b o e n hb (by simp)) (fun b o _ e n=>u.free b o e n (by simp)) (fun b o _ e=>u.there b o e (by simp)) u.tups u.frzs u.tbls (fun m' hm=>by obtain⟨o',og,t4,fJ,r'⟩:=hm;rw[ho]at fJ;cases fJ;exact⟨_,og,t4,hL,r'⟩) hok I.bare
theorem Inv.call{g':Array GenState}{t':Nat}{d':Drawn}{ch:List Addr}(I:Inv X pins σ H s)(u:Un (bH X.stack) ch H H' s.heap h')(hok:bq X.prog X.w H' h')(hg:AllBare g') (fi:∀b∈ch,(b∈X.ex\/X.s₀.heap.objs.size<=b)/\b≠X.env.locals/\(∀x c,X.env.cells.lookup x=some c->c≠b)/\∀p∈X.pn++pins,p.1≠b): Inv X pins σ H' {s with heap:=h',gens:=g',drawn:=d',toks:=t'}:=by obtain⟨m,⟨o,es,ep,ho,r⟩,_⟩:=id I.loc;obtain⟨sl,hL⟩:=u.any ho I.free fun z=>(fi _ z).2.1 rfl;exact I.step (ch:=ch) fi (fun b o hL hb hc e n=>u.keep b o e n (fun z=>(aW.mp (I.pH b z)).elim hL hb) hc) (fun b o _ _ hc e n=>u.any e n hc) (fun b o hc e n=>u.free b o e n hc) (fun b o hc e=>u.there b o e hc) u.tups u.frzs u.tbls (fun m' hm=>by obtain⟨o',og,t4,fJ,r'⟩:=hm;rw[ho]at fJ;cases fJ;exact⟨_,og,t4,hL,r'⟩) hok hg
theorem Inv.turned{t':Nat}{it:Addr}(I:Inv X pins σ H s)(k:∀b o,b≠it->s.heap.get? b=some o->h'.get? b=some o)(hn:H it=none)(hL:it≠X.env.locals) (h1:it∈X.ex\/X.s₀.heap.objs.size<=it)(h2:∀x c,X.env.cells.lookup x=some c->c≠it)(h3:∀p∈X.pn++pins,p.1≠it):Inv X pins σ H {s with heap:=h',toks:=t'}:=by
  have kX:∀b u,H b=some u->b≠it:=fun b u e z=>by rw[z,hn]at e;cases e
  refine I.step (g':=s.gens) (d':=s.drawn) (ch:=[it]) (fun b hb=>?_) (fun b o _ _ hc e _=>k b o (fun z=>hc (by simp[z])) e) (fun b o _ _ hc e _=>⟨o.slots,k b o (fun z=>hc (by simp[z])) e⟩) (fun _ _ _ _ n=>n) (fun b o hc e=>⟨o,k b o (fun z=>hc (by simp[z])) e⟩) (fun _ _ e=>e) (fun _ _ _ e=>e) (fun b ps e=>⟨#[],by rw[e];simp⟩) (fun m hm=>?_) (fun b u e=>?_) I.bare
  · have e:b=it:=by simpa using hb
    subst e;exact⟨h1,hL,h2,h3⟩
  · obtain⟨o,es,ep,ho,r⟩:=hm
    exact⟨o,es,ep,k _ o (eY hL) ho,r⟩
  · refine(I.hok b u e).fv (fun c v hc q=>k c v ?_ q) (fun _ q=>q) fun _ _ q=>q
    rcases hc with z|z
    ·rw[z];exact kX b u e
    ·exact kX c _ z
theorem Inv.tok(I:Inv X pins σ H s)(t:Nat):Inv X pins σ H {s with toks:=t}:=I.un (h':=s.heap) (t':=t) Un.refl I.hok
theorem Inv.kept{t':Nat}(I:Inv X pins σ H s)(k:∀b u,s.heap.get? b=some u->h'.get? b=some u):Inv X pins σ H {s with heap:=h',toks:=t'}:=I.un (Un.kept k) (I.hok.kept k)
theorem Inv.laid{a:Addr}{o:HO}{t':Nat}(I:Inv X pins σ H s)(k:∀b u,s.heap.get? b=some u->h'.get? b=some u)(hp:s.heap.objs.size<=a)(new:bZ X.prog X.w (upd H a o) h' a o): Inv X pins σ (upd H a o) {s with heap:=h',toks:=t'}:=I.un (Un.laid k hp (I.hok.fresh hp)) (I.hok.laid k hp new)
theorem Inv.write{x e:Addr}{o:HO}{t':Nat}(I:Inv X pins σ H s)(mu:oH (H x))(he:e=x\/H e=some (.own x))(k:∀b u,b≠e->s.heap.get? b=some u->h'.get? b=some u)(jK:∃u,h'.get? e=some u) (new:bZ X.prog X.w (upd H x o) h' x o):Inv X pins σ (upd H x o) {s with heap:=h',toks:=t'}:=I.un (Un.write mu he k jK) (I.hok.write mu he k jK new)
theorem Inv.wG{qO:List (Addr×Obj)}(I:Inv X pins σ H s)(h:∀p∈qO,s.heap.get? p.1=some p.2/\H p.1=none/\p.1≠X.env.locals/\p.1∉X.fs/\∀v,p.2.data≠ .cell v):Inv X qO σ H s:=⟨I.ok,I.os,I.bare,I.base,I.loc,I.cell,I.free,I.freeC,fun p hp=>(e9.mp hp).elim (fun z=>I.pin p (p7 _ z)) (h p),I.hok,I.len⟩
theorem rh{N:List Str}(hN:N.Nodup){i j:Nat}{x:Str}(a:N[i]? =some x)(b:N[j]? =some x):i=j:=by obtain⟨h1,e1⟩:=dM.mp a;obtain⟨h2,e2⟩:=dM.mp b;exact(List.getElem_inj hN).mp (e1.trans e2.symm)
theorem vb{M:Model}{A:LK}{E:Value->LH->Prop}{i:Nat}{x:Str}{v:V}{u:Value}{Q:Unit->LH->Prop}(I:Inv X pins σ H s)(hN:X.N.Nodup)(hi:X.N[i]? =some x)(hx:Loc X.env.scope x)(r:RelV v u) (h:∀s',Inv X pins (σ.set i (some v)) H s'->(∃a,Heap.SameBut a s.heap s'.heap/\(a=X.env.locals\/X.env.cells.lookup x=some a))->Q () s')(hf:X.fn x=true\/X.env.scope.names.lookup x=some .local:=by first|exact .inl rfl|exact .inr rfl|assumption):wpAny M A (storeName X.env x u) Q E s:=by
  obtain⟨m,hn,hl⟩:=id I.loc;have lN:(X.env.scope.kind== .class||(X.env.scope.kind== .module&&X.env.locals !=X.env.globals))=false:=by rw[I.ok.kind];rfl
  have nT:i<σ.length:=by rw[I.len];exact(dM.mp hi).1
  have fO:=I.fO;have tracked:∀{a:Addr}{h':Heap},(∃o,s.heap.get? a=some o/\H a=none)->Heap.SameBut a s.heap h'->bq X.prog X.w H h':=fun{a h'} ha hs b ob e=>by
   obtain⟨_,_,jJ⟩:=ha;refine(I.hok b ob e).fv (fun c w' hc q=>(hs.2 c ?_).trans q) (fun _ q=>q) fun _ _ q=>q;rintro rfl;rcases hc with rfl|hc
   ·rw[jJ]at e;cases e
   ·rw[jJ]at hc;cases hc
  rcases hx with hk|hk
  · refine wpAny_storeName_local hk hn (fun h' lG hs=>?_) lN
    obtain⟨oL,_,_,yd,_⟩:=id hn;refine h _ ⟨I.ok,I.os,I.bare,⟨fun b o e n hb hx=>?_,fun b o e n hb hx=>?_,I.base.free,fun b o e hx=>?_,I.base.tups,I.base.frzs,I.base.tbls⟩,⟨_,lG,fun j y v' e1 e2 e3=>?_⟩,fun y c e=>?_,I.free,I.freeC,fun p hp=>?_,tracked ⟨oL,yd,I.free⟩ hs,by simpa using I.len⟩ ⟨_,hs,.inl rfl⟩
    ·exact(hs.2 b (bE (dI (aN e) I.ok.above))).trans (I.base.keep b o e n hb hx)
    · obtain⟨sl,e1⟩:=I.base.slot b o e n hb hx
      exact⟨sl,(hs.2 b (bE (dI (aN e) I.ok.above))).trans e1⟩
    · obtain⟨o',e1⟩:=I.base.there b o e hx
      exact⟨o',(hs.2 b (bE (dI (aN e) I.ok.above))).trans e1⟩
    · by_cases hj:j=i
      · subst hj
        rw[hi]at e1;cases e1;rw[uw nT]at e2;cases e2;exact⟨u,r,.inl ⟨hk,by simp⟩⟩
      · rw[Bw (eY hj)]at e2
        obtain⟨u',r',q⟩:=hl j y v' e1 e2 e3;refine⟨u',r',?_⟩;rcases q with⟨k,e⟩|⟨k,c,e,z⟩
        · refine .inl ⟨k,?_⟩
          have:y≠x:=fun e=>hj (rh hN e1 (e▸hi));simp[this,e]
        ·exact .inr ⟨k,c,e,z.sameBut hs (fO y c e)⟩
    · obtain⟨w',z⟩:=I.cell y c e
      exact⟨w',z.sameBut hs (fO y c e)⟩
    · obtain⟨e,n,ne,nf,d⟩:=I.pin p hp
      exact⟨(hs.2 p.1 ne).trans e,n,ne,nf,d⟩
  · have sx:X.fn x=true:=by
      rcases hf with z|z
      ·exact z
      ·rw[z]at hk;cases hk
    obtain⟨c,hc⟩:=I.ok.has x (.inl hk);obtain⟨w',z⟩:=I.cell x c hc;refine wpAny_storeName_cell I.ok.kind hk hc z (fun h' eQ hs=>?_);obtain⟨oc,yc,Hd⟩:=id z;refine h {s with heap:=h'} ⟨I.ok,I.os,I.bare,⟨fun b o e n hb hx=>?_,fun b o e n hb hx=>?_,I.base.free,fun b o e hx=>?_,I.base.tups,I.base.frzs,I.base.tbls⟩,⟨m,hn.sameBut hs (eY (fO x c hc)),fun j y v' e1 e2 e3=>?_⟩,fun y c' e=>?_,I.free,I.freeC,fun p hp=>?_,tracked ⟨oc,yc,I.freeC x c hc⟩ hs,by simpa using I.len⟩ ⟨c,hs,.inr hc⟩
    ·exact(hs.2 b (bE (dI (aN e) (I.ok.cab x c sx hc)))).trans (I.base.keep b o e n hb hx)
    · obtain⟨sl,e1⟩:=I.base.slot b o e n hb hx
      exact⟨sl,(hs.2 b (bE (dI (aN e) (I.ok.cab x c sx hc)))).trans e1⟩
    · obtain⟨o',e1⟩:=I.base.there b o e hx
      exact⟨o',(hs.2 b (bE (dI (aN e) (I.ok.cab x c sx hc)))).trans e1⟩
    · by_cases hj:j=i
      · subst hj
        rw[hi]at e1;cases e1;rw[uw nT]at e2;cases e2;exact⟨u,r,.inr ⟨.inl hk,c,hc,eQ⟩⟩
      · rw[Bw (eY hj)]at e2
        obtain⟨u',r',q⟩:=hl j y v' e1 e2 e3;refine⟨u',r',?_⟩;rcases q with q|⟨k,c',e,z'⟩
        ·exact .inl q
        · refine .inr ⟨k,c',e,z'.sameBut hs ?_⟩
          rintro rfl;exact hj (rh hN e1 (I.ok.inj _ _ _ e hc▸hi))
    · by_cases yk:c'=c
      ·subst yk;exact⟨_,eQ⟩
      · obtain⟨w2,z2⟩:=I.cell y c' e
        exact⟨w2,z2.sameBut hs yk⟩
    · obtain⟨e,n,ne,nf,d⟩:=I.pin p hp
      refine⟨(hs.2 p.1 ?_).trans e,n,ne,nf,d⟩;intro q;rw[q,yc]at e;have q':oc=p.2:=cf e;exact d w' (by rw[<-q'];exact Hd)
theorem mH{M:Model}{A:LK}{E:Value->LH->Prop}{i:Nat}{x:Str}{v:V}{u:Value}{Q:Unit->LH->Prop}(I:Inv X pins σ H s)(hN:X.N.Nodup)(hi:X.N[i]? =some x)(hx:Loc X.env.scope x)(r:RelV v u) (h:∀s',Inv X pins (σ.set i (some v)) H s'->Q () s')(hf:X.fn x=true\/X.env.scope.names.lookup x=some .local:=by first|exact .inl rfl|exact .inr rfl|assumption):wpAny M A (storeName X.env x u) Q E s:=vb I hN hi hx r (fun s' I' _=>h s' I') hf
theorem Inv.oA{s':LH}{ch:List Addr}(I:Inv X pins σ H s)(ho:s'.os=s.os)(u:Un (bH X.stack) ch H H' s.heap s'.heap)(hok:bq X.prog X.w H' s'.heap)(hg:AllBare s'.gens) (fi:∀b∈ch,(b∈X.ex\/X.s₀.heap.objs.size<=b)/\b≠X.env.locals/\(∀x c,X.env.cells.lookup x=some c->c≠b)/\∀p∈X.pn++pins,p.1≠b):Inv X pins σ H' s':=by obtain⟨h',g',d',t',o'⟩:=s';have e:o'=s.os:=ho;subst e;exact I.call (g':=g') (t':=t') (d':=d') u hok hg fi
end
abbrev XK:=Value->Option Addr->Hp->Prop
abbrev St:=List (Option V)
abbrev VK:=V->Hp->Prop
abbrev TE:=St->Hp->VK->Prop
abbrev TT:=St->Hp->(Bool->Hp->Prop)->Prop
abbrev TA:=St->Hp->(List V->Hp->Prop)->Prop
structure Ends where
 nx:St->Hp->Prop
 rt:VK
 bk:St->Hp->Prop:=fun _ _=>False
 ct:St->Hp->Prop:=fun _ _=>False
abbrev TS:=Ends->St->Hp->Prop
def EP(X:Cx)(pins:List (Addr×Obj))(σ:St)(Q:VK)(u:Value)(s':LH):Prop:=∃v H',Inv X pins σ H' s'/\RelV v u/\Q v H'
def TP(X:Cx)(pins:List (Addr×Obj))(σ:St)(Q:Bool->Hp->Prop)(b:Bool)(s':LH):Prop:=∃H',Inv X pins σ H' s'/\Q b H'
def AP(X:Cx)(pins:List (Addr×Obj))(σ:St)(Q:List V->Hp->Prop)(us:List Value)(s':LH):Prop:=∃vs H',Inv X pins σ H' s'/\Vals vs us/\Q vs H'
def SP(X:Cx)(pins:List (Addr×Obj))(D:Ends)(f:Flow)(s':LH):Prop:=match f with | .next=>∃σ' H',Inv X pins σ' H' s'/\D.nx σ' H' | .brk=>∃σ' H',Inv X pins σ' H' s'/\D.bk σ' H' | .cont=>∃σ' H',Inv X pins σ' H' s'/\D.ct σ' H' | .ret u=>∃v σ' H',Inv X pins σ' H' s'/\RelV v u/\D.rt v H'
def PE(X:Cx)(e:Expr)(t:TE):Prop:=∀(pins:List (Addr×Obj))(s:LH)(σ:St)(H:Hp)(Q:VK),Inv X pins σ H s->t σ H Q->wpAny (model X.prog X.w) X.A (eval e X.env) (EP X pins σ Q) X.xe s
def PT(X:Cx)(e:Expr)(t:TT):Prop:=∀(pins:List (Addr×Obj))(s:LH)(σ:St)(H:Hp)(Q:Bool->Hp->Prop),Inv X pins σ H s->t σ H Q->wpAny (model X.prog X.w) X.A (isTrue e X.env (eval e X.env)) (TP X pins σ Q) X.xe s
def PW(X:Cx)(e:Expr)(t:TT):Prop:=∀(whole:Sem Value)(pins:List (Addr×Obj))(s:LH)(σ:St)(H:Hp)(Q:Bool->Hp->Prop),Inv X pins σ H s->t σ H Q->wpAny (model X.prog X.w) X.A (isTrue e X.env whole) (TP X pins σ Q) X.xe s
theorem PW.pt{X:Cx}{e:Expr}{t:TT}(h:PW X e t):PT X e t:=h _
def PA(X:Cx)(es:List Expr)(t:TA):Prop:=∀(pos:Pos)(pins:List (Addr×Obj))(s:LH)(σ:St)(H:Hp)(Q:List V->Hp->Prop),Inv X pins σ H s->t σ H Q->wpAny (model X.prog X.w) X.A (spliced (backTo pos (starEach es X.env))) (AP X pins σ Q) X.xe s
def PS(X:Cx)(st:Stmt)(t:TS):Prop:=∀(pins:List (Addr×Obj))(s:LH)(σ:St)(H:Hp)(D:Ends),Inv X pins σ H s->t D σ H->wpAny (model X.prog X.w) X.A (exec st X.env) (SP X pins D) X.xe s
def cE(X:Cx)(st:List Stmt)(t:TS):Prop:=∀(pins:List (Addr×Obj))(s:LH)(σ:St)(H:Hp)(D:Ends),Inv X pins σ H s->t D σ H->wpAny (model X.prog X.w) X.A (execs st X.env) (SP X pins D) X.xe s
theorem ak{α:Type}{t:Sem α}{Q Q':α->LH->Prop}{M:Model}{A:LK}{E:Value->LH->Prop}{s:LH}(h:wpAny M A t Q E s)(hQ:∀a s,Q a s->Q' a s):wpAny M A t Q' E s:=dw h hQ fun _ _ x=>x
section
variable {X:Cx}
inductive zW(i:Nat)(σ:St)(H:Hp)(Q:VK):Prop |mk (v:_)(h0:σ[i]? =some (some v))(h1:Q v H):zW i σ H Q
def uT(i:Nat):TE:=fun σ H Q=>zW i σ H Q
def tC (v:V):TE:=fun _ H Q=>Q v H
theorem DZ{i:Nat}{x:Str}{pos:Pos}(hN:X.N[i]? =some x)(hv:tS X.env.scope x)(hd:(x==("__debug__":Str))=false:=by decide)(bO:(x==("__classdict__":Str))=false:=by decide):PE X (.Name x pos) (uT i):=by
 intro pins s σ H Q I h;obtain⟨v,e,h⟩:=h;obtain⟨m,hn,hl⟩:=I.loc;obtain⟨u,r,l⟩:=hl i x v hN e hv;have fin:EP X pins σ Q u s:=⟨v,H,I,r,h⟩;rcases l with⟨hk,hm⟩|⟨hk,c,hc,i7⟩
 ·exact wpAny_Name (wpAny_loadName_local I.ok.kind hk hn hm fin) hd
 · rcases hk with hk|hk
   ·exact wpAny_Name (wpAny_loadName_cell I.ok.kind hk hc i7 fin) hd
   ·exact wpAny_Name (wpAny_loadName_free I.ok.kind hk hc i7 fin bO) hd
theorem ae{i j pos}:PE X (.Constant (.int i) j pos) (tC (.int i)):=fun _ _ _ H _ I h=>wpAny_Constant_int ⟨.int i,H,I.tok _,⟨_,rfl⟩,h⟩
theorem hV{b j pos}:PE X (.Constant (.bool b) j pos) (tC (.bl b)):=fun _ _ _ H _ I h=>Constant_bool ⟨.bl b,H,I,rfl,h⟩
theorem cC{j pos}:PE X (.Constant .none j pos) (tC .aq):=fun _ _ _ H _ I h=>Constant_none ⟨.aq,H,I,rfl,h⟩
theorem aw{x j pos}:PE X (.Constant (.str x) j pos) (tC (.str x)):=fun _ _ _ H _ I h=>Calls.Constant_str ⟨.str x,H,I.tok _,⟨_,rfl⟩,h⟩
def Gl(X:Cx)(x:Str):Prop:=X.env.kindOf x=some .globalImplicit
theorem l2{E:Value->LH->Prop}{pins:List (Addr×Obj)}{s:LH}{σ:St}{H:Hp}{x:Str}{u:Value}{pos:Pos}{Q:Value->LH->Prop}(I:Inv X pins σ H s)(hg:Gl X x)(hm:X.mg x=some u)(h:Q u s) (hd:(x==("__debug__":Str))=false:=by decide):wpAny (model X.prog X.w) X.A (eval (.Name x pos) X.env) Q E s:=Calls.Name_function_global I.ok.kind hg (Calls.loadGlobal_global (by rw[I.ok.glob];exact I.mod.glob.keeps I.bk) hm h) hd
theorem l4{E:Value->LH->Prop}{pins:List (Addr×Obj)}{s:LH}{σ:St}{H:Hp}{x:Str}{u:Value}{pos:Pos}{Q:Value->LH->Prop}(I:Inv X pins σ H s)(hg:Gl X x)(hm:X.mg x=none)(hv:bootBuiltins x=some u)(h:Q u s) (hn:x≠"__name__":=by decide)(hd:(x==("__debug__":Str))=false:=by decide):wpAny (model X.prog X.w) X.A (eval (.Name x pos) X.env) Q E s:=by obtain⟨mb,h1,h2⟩:=I.mod.blt;exact Calls.Name_function_global I.ok.kind hg (Calls.loadGlobal_builtin (by rw[I.ok.glob];exact I.mod.glob.keeps I.bk) hm (by rw[I.ok.blt];exact h1.keeps I.bk) ((h2 x hn).trans hv) h) hd
theorem E2{x:Str}{v:V}{u:Value}{pos:Pos}(hg:Gl X x)(hm:X.mg x=some u)(r:RelV v u)(hd:(x==("__debug__":Str))=false:=by decide):PE X (.Name x pos) (tC v):=fun _ _ _ H _ I h=>l2 I hg hm ⟨v,H,I,r,h⟩ hd
theorem fe{x:Str}{v:V}{u:Value}{pos:Pos}(hg:Gl X x)(hm:X.mg x=none)(hv:bootBuiltins x=some u)(r:RelV v u)(hn:x≠"__name__":=by decide)(hd:(x==("__debug__":Str))=false:=by decide):PE X (.Name x pos) (tC v):=fun _ _ _ H _ I h=>l4 I hg hm hv ⟨v,H,I,r,h⟩ hn hd
variable {a b:Expr}{ta tb:TE}{pos:Pos}
inductive A4(Q:Bool->Hp->Prop)(x:V)(H1:Hp):Prop |mk (c:_)(h0:x= .bl c)(h1:Q c H1):A4 Q x H1
def tB(t:TE):TT:=fun σ H Q=>t σ H fun x H1=>A4 Q x H1
theorem dS{e:Expr}{t:TE}(h:PE X e t)(he:∀whole,isTrue e X.env whole=(do let v<-whole;standAt e.pos;holding [v] (truthy v)):=by intro _;rfl):PT X e (tB t):=by intro pins s σ H Q I hw;refine isTrue_plain (ak (h pins s σ H _ I hw) fun v s1 ⟨x,H1,I1,r1,q1⟩=>?_) (he _);obtain⟨d,rfl,q⟩:=q1;cases r1;exact gT ⟨H1,I1,q⟩
variable {tA mD:TT} {rest:List Expr}
def CI(t u:TT):TT:=fun σ H Q=>t σ H fun c H1=>if c=true then u σ H1 Q else Q false H1
def Cm(t u:TT):TT:=fun σ H Q=>t σ H fun c H1=>if c=true then Q true H1 else u σ H1 Q
def Cp(t:TT):TT:=fun σ H Q=>t σ H fun c H1=>Q (!c) H1
theorem qN(ha:PT X a tA):PW X (.BoolOp .And [a] pos) tA:=by intro wh pins s σ H Q I h;refine isTrue_and (ak (ha pins s σ H Q I h) fun c s1 e=>?_);cases c with |true=>exact isTrue_and_nil e |false=>exact e
theorem gy(ha:PT X a tA):PW X (.BoolOp .Or [a] pos) tA:=by intro wh pins s σ H Q I h;refine isTrue_or (ak (ha pins s σ H Q I h) fun c s1 e=>?_);cases c with |false=>exact isTrue_or_nil e |true=>exact e
theorem mS(ha:PT X a tA)(hb:PW X (.BoolOp .And (b::rest) pos) mD):PW X (.BoolOp .And (a::b::rest) pos) (CI tA mD):=by intro wh pins s σ H Q I h;refine isTrue_and (ak (ha pins s σ H _ I h) fun c s1 ⟨H1,I1,q1⟩=>?_);cases c with |true=>exact hb wh pins s1 σ H1 Q I1 q1 |false=>exact⟨H1,I1,q1⟩
theorem fB(ha:PT X a tA)(hb:PW X (.BoolOp .Or (b::rest) pos) mD):PW X (.BoolOp .Or (a::b::rest) pos) (Cm tA mD):=by intro wh pins s σ H Q I h;refine isTrue_or (ak (ha pins s σ H _ I h) fun c s1 ⟨H1,I1,q1⟩=>?_);cases c with |true=>exact⟨H1,I1,q1⟩ |false=>exact hb wh pins s1 σ H1 Q I1 q1
theorem eE(ha:PT X a tA):PT X (.UnaryOp .Not a pos) (Cp tA):=by intro pins s σ H Q I h;exact isTrue_not (ha pins s σ H (fun c H1=>Q (!c) H1) I h)
inductive A5(tb:TE)(σ:St)(Q:VK)(x:V)(H1:Hp):Prop |mk (c:_)(h0:x= .bl c)(h1:if c=true then tb σ H1 Q else Q (.bl false) H1):A5 tb σ Q x H1
def CH(ta tb:TE):TE:=fun σ H Q=>ta σ H fun x H1=>A5 tb σ Q x H1
inductive A1(Q:VK)(x:V)(H1:Hp):Prop |mk (c:_)(h0:x= .bl c)(h1:Q (.bl (!c)) H1):A1 Q x H1
def Co(ta:TE):TE:=fun σ H Q=>ta σ H fun x H1=>A1 Q x H1
theorem kP{op}{t:TE}(h:PE X a t):PE X (.BoolOp op [a] pos) t:=fun pins s σ H Q I hw=>BoolOp_one (h pins s σ H Q I hw)
theorem jw(ha:PE X a ta)(hb:PE X (.BoolOp .And (b::rest) pos) tb):PE X (.BoolOp .And (a::b::rest) pos) (CH ta tb):=by intro pins s σ H Q I h;refine BoolOp_and (ak (ha pins s σ H _ I h) fun v s1 ⟨x,H1,I1,r1,q1⟩=>?_);obtain⟨c,rfl,q1⟩:=q1;cases r1;refine gT ?_;cases c with |true=>exact hb pins s1 σ H1 Q I1 q1 |false=>exact⟨.bl false,H1,I1,rfl,q1⟩
theorem wI(ha:PE X a ta):PE X (.UnaryOp .Not a pos) (Co ta):=by intro pins s σ H Q I h;refine UnaryOp_ (ak (ha pins s σ H _ I h) fun v s1 ⟨x,H1,I1,r1,q1⟩=>?_);obtain⟨c,rfl,q1⟩:=q1;cases r1;exact not_of (gT ⟨.bl (!c),H1,I1,rfl,q1⟩)
def Cz(t:TT)(ta tb:TE):TE:=fun σ H Q=>t σ H fun c H1=>if c=true then ta σ H1 Q else tb σ H1 Q
theorem iL{c:Expr}(hc:PT X c tA)(ha:PE X a ta)(hb:PE X b tb):PE X (.IfExp c a b pos) (Cz tA ta tb):=by intro pins s σ H Q I h;refine wpAny_IfExp (ak (hc pins s σ H _ I h) fun d s1 ⟨H1,I1,q1⟩=>?_);cases d with |true=>exact ha pins s1 σ H1 Q I1 q1 |false=>exact hb pins s1 σ H1 Q I1 q1
end
end L2
namespace L2
open PySem PySem.Spec PyProof.Rows
def aa(K:LG)(H:Hp)(a:Addr)(xs:List V):Prop:=Rd H a (.lst xs)\/ ∃(o:Obj)(its:Array Value)(n:Nat),K.lookup a=some o/\o.cls= .type "list"/\o.dict=none/\o.data= .seq its n/\its.size<=sizeLine/\Vals xs its.toList
def ay(K:LG)(H:Hp)(a:Addr)(xs:List V):Prop:=Rd H a (.tup xs)\/ ∃(o:Obj)(its:Array Value)(n:Nat),K.lookup a=some o/\o.cls= .type "tuple"/\o.data= .seq its n/\its.size<=sizeLine/\Vals xs its.toList
def Kj:Value->Option V | .none=>some .aq | .bool b=>some (.bl b) | .int i _=>some (.int i) | .str x _=>some (.str x) | .bytes b _=>some (.eS b) | .float b _=>some (.sS b) | .ref a=>some (.ref a) | .type n=>some (.ty n) |_=>none
theorem RelV.abs{x:V}{u:Value}(r:RelV x u):Kj u=some x:=by cases x with |aq=>cases r;rfl |bl _=>cases r;rfl |int _=>obtain⟨t,rfl⟩:=r;rfl |str _=>obtain⟨t,rfl⟩:=r;rfl |eS _=>obtain⟨t,rfl⟩:=r;rfl |sS _=>obtain⟨t,rfl⟩:=r;rfl |ref _=>cases r;rfl |ty _=>cases r;rfl
theorem RelV.inj{x y:V}{u:Value}(r:RelV x u)(q:RelV y u):x=y:=cf (r.abs.symm.trans q.abs)
theorem Vals.inj:∀{xs ys:List V}{us:List Value},Vals xs us->Vals ys us->xs=ys |_,_,_,.nil,.nil=>rfl |_,_,_,.cons r t,.cons r' t'=>by rw[r.inj r',Vals.inj t t']
section
variable {X:Cx}{pins:List (Addr×Obj)}{σ:St}{H:Hp}{s:LH}{a:Addr}{xs ys:List V}
theorem aa.of{K:LG}(h:H a=some (.lst xs)):aa K H a xs:=.inl (.inl h)
theorem ay.of{K:LG}(h:H a=some (.tup xs)):ay K H a xs:=.inl (.inl h)
theorem Inv.list(I:Inv X pins σ H s)(h:aa X.K H a xs):∃its:List Value,Vals xs its/\PlainL s.heap a its.toArray/\xs.length<=sizeLine:=by
 rcases h with h|⟨o,its,n,hk,hc,hd,hs,hz,r⟩
 · obtain⟨z,its,n,r,e⟩:=h.ok I.hok
   exact⟨its,r,⟨_,n,e,rfl,rfl,rfl⟩,z⟩
 · refine⟨its.toList,r,⟨o,n,I.cL a o hk,hc,hd,by simpa using hs⟩,?_⟩
   have e:=r.length;simp only[pk]at e;omega
theorem Inv.tuple(I:Inv X pins σ H s)(h:ay X.K H a xs):∃its:List Value,Vals xs its/\IsTup s.heap a its.toArray/\xs.length<=sizeLine:=by
 rcases h with h|⟨o,its,n,hk,hc,hs,hz,r⟩
 · obtain⟨z,its,r,p⟩:=h.ok I.hok
   exact⟨its,r,p,z⟩
 · refine⟨its.toList,r,⟨o,I.cL a o hk,hc,n,by simpa using hs⟩,?_⟩
   have e:=r.length;simp only[pk]at e;omega
theorem Inv.xI(I:Inv X pins σ H s)(h:aa X.K H a xs)(h':aa X.K H a ys):xs=ys:=by
 obtain⟨its,r,⟨o,n,e,_,_,d⟩,_⟩:=I.list h;obtain⟨its',r',⟨o',n',e',_,_,d'⟩,_⟩:=I.list h';rw[e]at e';cases e';rw[d]at d';injection d' with d1 _;have:its=its':=by simpa using eX Array.toList d1
 subst this;exact r.inj r'
theorem Inv.uP(I:Inv X pins σ H s)(h:ay X.K H a xs)(h':ay X.K H a ys):xs=ys:=by
 obtain⟨its,r,⟨o,e,_,n,d⟩,_⟩:=I.tuple h;obtain⟨its',r',⟨o',e',_,n',d'⟩,_⟩:=I.tuple h';rw[e]at e';cases e';rw[d]at d';injection d' with d1 _;have:its=its':=by simpa using eX Array.toList d1
 subst this;exact r.inj r'
end
abbrev Cx.et(X:Cx)(E:Value->LH->Prop):Cx:={X with xe:=E}
abbrev Cx.iS(X:Cx):Cx:=X.et fun _ _=>False
theorem Cx.Ok.et{X:Cx}(ok:X.Ok)(E:Value->LH->Prop):(X.et E).Ok:=⟨ok.mod,ok.kind,ok.glob,ok.blt,ok.above,ok.inj,ok.has,ok.cab,ok.hd,ok.frames,ok.stk,ok.exf,ok.bs,ok.bsz,ok.noex,ok.exfs,ok.dF,ok.frf⟩
theorem Cx.Ok.g6{X:Cx}{E:Value->LH->Prop}(ok:(X.et E).Ok):X.Ok:=⟨ok.mod,ok.kind,ok.glob,ok.blt,ok.above,ok.inj,ok.has,ok.cab,ok.hd,ok.frames,ok.stk,ok.exf,ok.bs,ok.bsz,ok.noex,ok.exfs,ok.dF,ok.frf⟩
section
variable {X:Cx}{pins:List (Addr×Obj)}{σ:St}{H:Hp}{s:LH}{E:Value->LH->Prop}
theorem Inv.et(I:Inv X pins σ H s)(E:Value->LH->Prop):Inv (X.et E) pins σ H s:=⟨I.ok.et E,I.os,I.bare,I.base,I.loc,I.cell,I.free,I.freeC,I.pin,I.hok,I.len⟩
theorem Inv.g6(I:Inv (X.et E) pins σ H s):Inv X pins σ H s:=⟨I.ok.g6,I.os,I.bare,I.base,I.loc,I.cell,I.free,I.freeC,I.pin,I.hok,I.len⟩
theorem SP.g6{D:Ends}{f:Flow}{s':LH}(h:SP (X.et E) pins D f s'):SP X pins D f s':=by cases f with |next=>obtain⟨σ',H',I,q⟩:=h;exact⟨σ',H',I.g6,q⟩ |brk=>obtain⟨σ',H',I,q⟩:=h;exact⟨σ',H',I.g6,q⟩ |cont=>obtain⟨σ',H',I,q⟩:=h;exact⟨σ',H',I.g6,q⟩ |ret u=>obtain⟨v,σ',H',I,r,q⟩:=h;exact⟨v,σ',H',I.g6,r,q⟩
theorem cE.iS{st:List Stmt}{t:TS}(h:cE X.iS st t):cE X st t:=fun pins s σ H D I hw=>dw (h pins s σ H D (I.et _) hw) (fun _ _ q=>q.g6) fun _ _ z=>False.elim z
end
section
variable {X:Cx}{st:Stmt}{rest:List Stmt}{t u:TS}{e:Expr}{te:TE}{pos:Pos}
def Ct:TS:=fun D σ H=>D.nx σ H
def Cg(t u:TS):TS:=fun D σ H=>t {D with nx:=u D} σ H
theorem aU:cE X [] Ct:=fun _ _ σ H _ I h=>m6 ⟨σ,H,I,h⟩
theorem ai(h1:PS X st t)(h2:cE X rest u):cE X (st::rest) (Cg t u):=by intro pins s σ H D I h;refine wpAny_execs_cons (ak (h1 pins s σ H {D with nx:=u D} I h) fun f s1 q=>?_);cases f with |next=>obtain⟨σ',H',I',q⟩:=q;exact h2 pins s1 σ' H' D I' q |ret v=>exact q |brk=>exact q |cont=>exact q
theorem ao(h1:PS X st t):cE X [st] t:=by intro pins s σ H D I h;refine wpAny_execs_cons (ak (h1 pins s σ H D I h) fun f s1 q=>?_);cases f with |next=>exact m6 q |ret v=>exact q |brk=>exact q |cont=>exact q
theorem Inv.quiet{pins:List (Addr×Obj)}{σ:St}{H:Hp}{s:LH}(I:Inv X pins σ H s):interactive X.env=false:=by simp[interactive,I.ok.kind]
def CD(te:TE):TS:=fun D σ H=>te σ H fun _ H1=>D.nx σ H1
theorem wF(he:PE X e te)(hs:swapsWith e none pos.line X.env=pure false:=by rfl):PS X (.Expr e pos) (CD te):=by intro pins s σ H D I h;exact wpAny_Expr_any (ak (he pins s σ H _ I h) fun v s1 ⟨x,H1,I1,r1,q1⟩=>⟨σ,H1,I1,q1⟩) I.quiet hs
def Ci(te:TE):TS:=fun D σ H=>te σ H D.rt
theorem aF(he:PE X e te):PS X (.Return (some e) pos) (Ci te):=by intro pins s σ H D I h;exact wpAny_Return_some (ak (he pins s σ H _ I h) fun v s1 ⟨x,H1,I1,r1,q1⟩=>⟨x,σ,H1,I1,r1,q1⟩)
def Cy(c:TT)(t u:TS):TS:=fun D σ H=>c σ H fun b H1=>if b=true then t D σ H1 else u D σ H1
theorem aR{c:Expr}{a b:List Stmt}{tc:TT}(hc:PT X c tc)(ha:cE X a t)(hb:cE X b u):PS X (.If c a b pos) (Cy tc t u):=by intro pins s σ H D I h;refine wpAny_If (ak (hc pins s σ H _ I h) fun d s1 ⟨H1,I1,q1⟩=>?_);cases d with |true=>exact ha pins s1 σ H1 D I1 q1 |false=>exact hb pins s1 σ H1 D I1 q1
end
abbrev TG:=V->St->Hp->(St->Hp->Prop)->Prop
abbrev gq:=List V->St->Hp->(St->Hp->Prop)->Prop
def PG(X:Cx)(target:Expr)(t:TG):Prop:=∀(pins:List (Addr×Obj))(s:LH)(σ:St)(H:Hp)(v:V)(u:Value)(Q:St->Hp->Prop),Inv X pins σ H s->RelV v u->t v σ H Q->wpAny (model X.prog X.w) X.A (assign target X.env u) (fun _ s'=>∃σ' H',Inv X pins σ' H' s'/\Q σ' H') X.xe s
def m3(X:Cx)(ts:List Expr)(t:gq):Prop:=∀(pins:List (Addr×Obj))(s:LH)(σ:St)(H:Hp)(vs:List V)(us:List Value)(Q:St->Hp->Prop),Inv X pins σ H s->Vals vs us->t vs σ H Q->wpAny (model X.prog X.w) X.A (assignInOrder ((assignEach ts X.env).map (·.2)) us) (fun _ s'=>∃σ' H',Inv X pins σ' H' s'/\Q σ' H') X.xe s
abbrev tV:=V->V->V->Hp->(Hp->Prop)->Prop
def zP(X:Cx)(t:tV):Prop:=∀(pins:List (Addr×Obj))(s:LH)(σ:St)(H:Hp)(o i v:V)(ov iv u:Value)(Q:Hp->Prop),Inv X pins σ H s->RelV o ov->RelV i iv->RelV v u->t o i v H Q->wpAny (model X.prog X.w) X.A (setItem ov iv u) (fun _ s'=>∃H',Inv X pins σ H' s'/\Q H') X.xe s
section
variable {X:Cx} {pos:Pos}
def dX(i:Nat):TG:=fun v σ H Q=>Q (σ.set i (some v)) H
theorem DX{i:Nat}{x:Str}(hN:X.N.Nodup)(hi:X.N[i]? =some x)(hx:Loc X.env.scope x)(hf:X.fn x=true\/X.env.scope.names.lookup x=some .local:=by first|exact .inl rfl|exact .inr rfl|assumption):PG X (.Name x pos) (dX i):=by intro pins s σ H v u Q I r h;exact wpAny_assign_Name (mH I hN hi hx r (fun s' I'=>⟨_,H,I',h⟩) hf)
def J4:gq:=fun vs σ H Q=>vs=[]/\Q σ H
inductive Bb(t:TG)(u:gq)(vs:List V)(σ:St)(H:Hp)(Q:St->Hp->Prop):Prop |mk (v:_)(r:_)(h0:vs=v::r)(h1:t v σ H fun σ' H'=>u r σ' H' Q):Bb t u vs σ H Q
def J5(t:TG)(u:gq):gq:=fun vs σ H Q=>Bb t u vs σ H Q
theorem qQ:m3 X [] J4:=by intro pins s σ H vs us Q I r h;obtain⟨e,h⟩:=h;subst e;cases r;exact assignInOrder_nil ⟨σ,H,I,h⟩
theorem iJ{e:Expr}{es:List Expr}{t:TG}{u:gq}(h1:PG X e t)(h2:m3 X es u) (hs:(assignEach (e::es) X.env).map (·.2)=assign e X.env::(assignEach es X.env).map (·.2):=by rfl):m3 X (e::es) (J5 t u):=by intro pins s σ H vs us Q I r h;obtain⟨v,vr,e1,h⟩:=h;subst e1;cases r with |cons r rr=>rw[hs];refine assignInOrder_cons (ak (h1 pins s σ H _ _ _ I r h) fun _ s1 ⟨σ1,H1,I1,q1⟩=>?_);exact h2 pins s1 σ1 H1 _ _ Q I1 rr q1
inductive B9(K:LG)(n:Nat)(t:gq)(v:V)(σ:St)(H:Hp)(Q:St->Hp->Prop):Prop |mk (a:_)(xs:_)(h0:v= .ref a)(h1:ay K H a xs)(h2:xs.length=n)(h3:t xs σ H Q):B9 K n t v σ H Q
def yD(K:LG)(n:Nat)(t:gq):TG:=fun v σ H Q=>B9 K n t v σ H Q
theorem DW{es:List Expr}{k:Nat}{t:gq}{n:Nat}(hc:X.calm=true)(h:m3 X es t) (hn:(assignEach es X.env).length=n:=by rfl)(eP:(assignEach es X.env).findIdx? (·.1)=none:=by rfl):PG X (.Tuple es k pos) (yD X.K n t):=by intro pins s σ H v u Q I r hw;obtain⟨a,xs,e1,hq,hl,hw⟩:=hw;subst e1;cases r;obtain⟨its,rv,ht,hz⟩:=I.tuple hq;refine assign_Tuple_tuple (I.ok.hd hc) ht (by simp[hn,<-hl,rv.length]) eP fun h' hx=>?_;have I1:Inv X pins σ H {s with heap:=h'}:=I.kept (t':=s.toks) fun b o e=>hx b o (bE (aN e)) e;exact h pins _ σ H xs _ Q I1 (by simpa using rv) hw
def J0(to ti:TE)(t:tV):TG:=fun v σ H Q=>to σ H fun o H1=>ti σ H1 fun i H2=>t o i v H2 fun H3=>Q σ H3
theorem qR{o i:Expr}{to ti:TE}{t:tV}(ho:PE X o to)(hi:PE X i ti)(hs:zP X t) (ha:∀v,assign (.Subscript o i pos) X.env v=(do
     let ov<-holding [v] (eval o X.env)
     let iv<-holding [v,ov] (eval i X.env)
     standAt pos
     holding [v,ov,iv] (setItem ov iv v)
     release [v,ov,iv] []):=by intro _;rfl):PG X (.Subscript o i pos) (J0 to ti t):=by
  intro pins s σ H v u Q I r h;rw[ha];refine ag (dH (ak (ho pins s σ H _ I h) fun ov s1 ⟨x,H1,I1,r1,q1⟩=>?_));refine ag (dH (ak (hi pins s1 σ H1 _ I1 q1) fun iv s2 ⟨y,H2,I2,r2,q2⟩=>?_));refine ag (k9 (ag (dH (ak (hs pins s2 σ H2 x y v ov iv u _ I2 r1 r2 r q2) fun _ s3 ⟨H3,I3,q3⟩=>?_))));exact wpAny_release ⟨σ,H3,I3,q3⟩
def mE(te:TE)(g:TG):TS:=fun D σ H=>te σ H fun x H1=>g x σ H1 D.nx
theorem ju{tg e:Expr}{te:TE}{g:TG}(he:PE X e te)(hg:PG X tg g)(hs:swapsWithSole [tg] e pos.line X.env=pure false:=by rfl)(hw:swappedStores [tg] e X.env=pure none:=by rfl) (h1:(assignEach [tg] X.env).map (·.2)=[assign tg X.env]:=by rfl):PS X (.Assign [tg] e pos) (mE te g):=by intro pins s σ H D I h;refine wpAny_Assign_stores (ak (he pins s σ H _ I h) fun v s1 ⟨x,H1,I1,r1,q1⟩=>?_) hs hw;rw[h1];exact ak (hg pins s1 σ H1 x v _ I1 r1 q1) fun _ s2 q=>q
theorem DN{i:Nat}{x:Str}{e:Expr}{te:TE}{pos':Pos}(hN:X.N.Nodup)(hi:X.N[i]? =some x)(hx:Loc X.env.scope x)(he:PE X e te)(hs:swapsWith e (some (.Name x pos')) pos.line X.env=pure false:=by rfl)(hf:X.fn x=true\/X.env.scope.names.lookup x=some .local:=by first|exact .inl rfl|exact .inr rfl|assumption): PS X (.Assign [.Name x pos'] e pos) (mE te (dX i)):=by intro pins s σ H D I h;refine wpAny_Assign_Name (ak (he pins s σ H _ I h) fun v s1 ⟨y,H1,I1,r1,q1⟩=>?_) hs;exact mH I1 hN hi hx r1 (fun s2 I2=>⟨_,H1,I2,q1⟩) hf
end
section
variable {X:Cx} {pos:Pos}
def uS(c:TT)(tb:TS):TS:=fun D σ H=>∃W:Nat->St->Hp->Prop,(∃m,W m σ H)/\∀m σ H,W m σ H->c σ H fun b H1=>if b=true then∃N:St->Hp->Prop,(∀σ' H',N σ' H'->∃m',m'<m/\W m' σ' H')/\tb {D with nx:=N,ct:=N,bk:=D.nx} σ H1 else D.nx σ H1
theorem DL{c:Expr}{body:List Stmt}{tc:TT}{tb:TS}(hp:PassesOwn (model X.prog X.w) X.A X.env X.xe)(hc:PT X c tc)(hb:cE X body tb):PS X (.While c body [] pos) (uS tc tb):=by intro pins s σ H D I h;obtain⟨W,⟨m0,w0⟩,turn⟩:=h;refine wpAny_While (codeAny_whileLoop (fun n s'=>∃σ' H',Inv X pins σ' H' s'/\W n σ' H') ?_ m0 ⟨σ,H,I,w0⟩);rintro n s1 ⟨σ1,H1,I1,w1⟩;refine ka hp (ak (hc pins s1 σ1 H1 _ I1 (turn n σ1 H1 w1)) fun b s2 ⟨H2,I2,q2⟩=>?_);cases b with
 |true=>obtain⟨N,hN,q2⟩:=q2;rw[aI rfl];refine ka hp (ak (hb pins s2 σ1 H2 _ I2 q2) fun f s3 q3=>?_);cases f with |next=>obtain⟨σ3,H3,I3,n3⟩:=q3;obtain⟨m',hm,w3⟩:=hN σ3 H3 n3;exact⟨m',hm,σ3,H3,I3,w3⟩ |cont=>obtain⟨σ3,H3,I3,n3⟩:=q3;obtain⟨m',hm,w3⟩:=hN σ3 H3 n3;exact⟨m',hm,σ3,H3,I3,w3⟩ |brk=>exact q3 |ret v=>exact q3
 |false=>rw[aC aZ];exact m6 ⟨σ1,H2,I2,q2⟩
end
structure It where
 go:Nat->Hp->Prop
 yld:Nat->Hp->V->Hp->Prop
 stop:Nat->Hp->Prop
def eU(X:Cx)(pins:List (Addr×Obj))(H:Hp)(b:Addr):Prop:=H b=none/\b≠X.env.locals/\b∉X.fs/\(b∈X.ex\/X.s₀.heap.objs.size<=b)/\(∀x c,X.env.cells.lookup x=some c->c≠b)/\∀p∈X.pn++pins,p.1≠b
theorem Inv.jM{X:Cx}{pins:List (Addr×Obj)}{σ:St}{H H':Hp}{s:LH}{b:Addr}(I:Inv X pins σ H s)(hb:s.heap.objs.size<=b)(hn:H' b=none):eU X pins H' b:=by
 refine⟨hn,ui (dI I.lt hb),I.Fv hb,.inr (bL I.sz hb),fun x c e z=>?_,fun p hp z=>?_⟩
 · obtain⟨v,q⟩:=I.cell x c e
   exact absurd (dI q.lt (by rw[z];exact hb)) (kl _)
 ·exact absurd (dI (aN (I.pin p hp).1) (by rw[z];exact hb)) (kl _)
structure Turn(P:LI)(w:World)(K:LG)(tg:Expr)(J:It)(fp:List Addr)(it:Addr)(tn:Nat->Heap->Prop):Prop where
 mem:it∈fp
 obj:∀i h,tn i h->∀b∈fp,∃o,h.get? b=some o/\∀v,o.data≠ .cell v
 keep:∀i h h',tn i h->(∀b∈fp,∀o,h.get? b=some o->h'.get? b=some o)->tn i h'
 item:∀(X:Cx),X.prog=P->X.w=w->X.K=K->X.calm=true->∀(i:Nat)(pins:List (Addr×Obj))(s:LH)(σ:St)(H:Hp)(E:Value->LH->Prop),Inv X pins σ H s->(∀b∈fp,eU X pins H b)->tn i s.heap->J.go i H->wpAny (model P w) X.A (pyNext (.ref it)) (fun r s1=>∃u,r=some u/\wpAny (model P w) X.A (letOwnedTupleGo tg (.ref it) u) (fun _ s2=>∃x H',Inv X pins σ H' s2/\RelV x u/\J.yld i H x H'/\tn (i+1) s2.heap/\∀b∈fp,H' b=none) E s1) E s
 done:∀(X:Cx),X.prog=P->X.w=w->X.K=K->X.calm=true->∀(i:Nat)(pins:List (Addr×Obj))(s:LH)(σ:St)(H:Hp)(E:Value->LH->Prop),Inv X pins σ H s->(∀b∈fp,eU X pins H b)->tn i s.heap->J.stop i H->wpAny (model P w) X.A (pyNext (.ref it)) (fun r s1=>r=none/\Inv X pins σ H s1) E s
 self:∀(A:LK)(i:Nat)(s:LH)(Q:Value->LH->Prop)(E:Value->LH->Prop),tn i s.heap->Q (.ref it) s->wpAny (model P w) A (pyIter (.ref it)) Q E s
abbrev TI:=St->Hp->(It->Hp->Prop)->Prop
def tW(X:Cx)(pins:List (Addr×Obj))(σ:St)(tg:Expr)(R:It->Hp->Prop)(nF:Value)(s2:LH):Prop:=∃(it:Addr)(fp:List Addr)(tn:Nat->Heap->Prop)(J:It)(H':Hp),nF= .ref it/\Inv X pins σ H' s2/\Turn X.prog X.w X.K tg J fp it tn/\tn 0 s2.heap/\(∀b∈fp,eU X pins H' b)/\R J H'
def PI(X:Cx)(tg iter:Expr)(wi:TI):Prop:=∀(pins:List (Addr×Obj))(s:LH)(σ:St)(H:Hp)(R:It->Hp->Prop),Inv X pins σ H s->wi σ H R->wpAny (model X.prog X.w) X.A (eval iter X.env) (fun v s1=>wpAny (model X.prog X.w) X.A (pyIter v) (tW X pins σ tg R) X.xe s1) X.xe s
theorem o5{M:Model}{A:LK}{E:Value->LH->Prop}{s:LH}{tg:Expr}{it:Addr}{u:Value}{o:Obj}{n:String}{vs:Array Value}{Q:Unit->LH->Prop}(ho:s.heap.get? it=some o)(hc:o.cls= .type n)(hd:o.data= .fields vs) (hn:["enumerate","zip","dict_itemiterator","dict_reverseitemiterator","odict_iterator","itertools.zip_longest","itertools.pairwise"].contains n=false)(hQ:Q () s):wpAny M A (letOwnedTupleGo tg (.ref it) u) Q E s:=by unfold letOwnedTupleGo;cases tg<;>first |exact aM hQ |(cases u<;>first
        |exact aM hQ
        | (refine ag (wpAny_load ho ?_)
           rw[hc,hd];show wpAny M A (if(["enumerate","zip","dict_itemiterator","dict_reverseitemiterator","odict_iterator","itertools.zip_longest","itertools.pairwise"].contains n&&vs[0]? ==some (rawInt _))=true then _ else _) Q E s;rw[aC (by intro h;rw[hn,cz]at h;cases h)];exact aM hQ))
def jX(K:LG)(a:Addr):It:=⟨fun i H=>∃xs x,aa K H a xs/\xs[i]? =some x,fun i H x H'=>H'=H/\∀xs,aa K H a xs->xs[i]? =some x,fun i H=>∃xs,aa K H a xs/\xs.length<=i⟩
def oK(K:LG)(a:Addr):It:=⟨fun i H=>∃xs x,ay K H a xs/\xs[i]? =some x,fun i H x H'=>H'=H/\∀xs,ay K H a xs->xs[i]? =some x,fun i H=>∃xs,ay K H a xs/\xs.length<=i⟩
def gQ(lo:Int)(n:Nat):It:=⟨fun i _=>i<n,fun i H x H'=>H'=H/\x= .int (lo+i),fun i _=>n<=i⟩
theorem C0{P:LI}{w:World}{K:LG}{tg:Expr}(a it:Addr):Turn P w K tg (jX K a) [it] it (fun i h=>h.IsListIter it a i) where
 mem:=by simp
 obj:=fun i h st b hb=>by
  have e:b=it:=by simpa using hb
  subst e;obtain⟨o,e,c,d⟩:=st;exact⟨o,e,fun v z=>by rw[d]at z;cases z⟩
 keep:=fun i h h' st k=>st.at fun o e=>k it (by simp) o e
 item:=by intro X hP hw hK hc i pins s σ H E I hf st hg;subst hP hw hK;obtain⟨xs,x,hq,hx⟩:=hg;obtain⟨its,rv,p,hz⟩:=I.list hq;obtain⟨u,hu,ru⟩:=rv.get hx;obtain⟨f0,f1,f2,f3,f4,f5⟩:=hf it (by simp);refine wpAny_pyNext_list_item st p.isList (x:=u) (by simpa using hu) fun h' dN sb=>?_;have I1:Inv X pins σ H {s with heap:=h'}:=I.turned (t':=s.toks) (fun b o hb e=>(sb.2 b hb).trans e) f0 f1 f3 f4 f5;obtain⟨o,e,c,d⟩:=id dN;exact⟨u,rfl,o5 (s:={s with heap:=h'}) e c d (by decide) ⟨x,H,I1,ru,⟨rfl,fun ys hy=>by rw[I.xI hy hq];exact hx⟩,dN,fun b hb=>(hf b hb).1⟩⟩
 done:=by intro X hP hw hK hc i pins s σ H E I hf st hg;subst hP hw hK;obtain⟨xs,hq,hx⟩:=hg;obtain⟨its,rv,p,hz⟩:=I.list hq;obtain⟨f0,f1,f2,f3,f4,f5⟩:=hf it (by simp);have hl:=rv.length;exact wpAny_pyNext_list_end (I.ok.hd hc) st p.isList (by simp;omega) fun h' eb=>⟨rfl,I.turned (t':=s.toks) (fun b o hb e=>eb b o hb e) f0 f1 f3 f4 f5⟩
 self:=fun _ _ _ _ _ st h=>wpAny_pyIter_listiter st h
theorem BW{P:LI}{w:World}{K:LG}{tg:Expr}(a it:Addr):Turn P w K tg (oK K a) [it] it (fun i h=>h.IsTupleIter it a i) where
 mem:=by simp
 obj:=fun i h st b hb=>by
  have e:b=it:=by simpa using hb
  subst e;obtain⟨o,e,c,d⟩:=st;exact⟨o,e,fun v z=>by rw[d]at z;cases z⟩
 keep:=fun i h h' st k=>st.at fun o e=>k it (by simp) o e
 item:=by intro X hP hw hK hc i pins s σ H E I hf st hg;subst hP hw hK;obtain⟨xs,x,hq,hx⟩:=hg;obtain⟨its,rv,p,hz⟩:=I.tuple hq;obtain⟨u,hu,ru⟩:=rv.get hx;obtain⟨f0,f1,f2,f3,f4,f5⟩:=hf it (by simp);refine wpAny_pyNext_tuple_item st (show s.heap.IsTuple a its.toArray from p) (x:=u) (by simpa using hu) fun h' dN sb=>?_;have I1:Inv X pins σ H {s with heap:=h'}:=I.turned (t':=s.toks) (fun b o hb e=>(sb.2 b hb).trans e) f0 f1 f3 f4 f5;obtain⟨o,e,c,d⟩:=id dN;exact⟨u,rfl,o5 (s:={s with heap:=h'}) e c d (by decide) ⟨x,H,I1,ru,⟨rfl,fun ys hy=>by rw[I.uP hy hq];exact hx⟩,dN,fun b hb=>(hf b hb).1⟩⟩
 done:=by intro X hP hw hK hc i pins s σ H E I hf st hg;subst hP hw hK;obtain⟨xs,hq,hx⟩:=hg;obtain⟨its,rv,p,hz⟩:=I.tuple hq;obtain⟨f0,f1,f2,f3,f4,f5⟩:=hf it (by simp);have hl:=rv.length;exact wpAny_pyNext_tuple_end (I.ok.hd hc) st (show s.heap.IsTuple a its.toArray from p) (by simp;omega) fun h' eb=>⟨rfl,I.turned (t':=s.toks) (fun b o hb e=>eb b o hb e) f0 f1 f3 f4 f5⟩
 self:=fun _ _ _ _ _ st h=>wpAny_pyIter_tupleiter st h
theorem BZ{P:LI}{w:World}{K:LG}{tg:Expr}(it:Addr)(lo:Int)(n:Nat):Turn P w K tg (gQ lo n) [it] it (fun i h=>IsRangeIter h it (lo+(i:Nat)*1) ((n:Int)-(i:Nat)) 1) where
 mem:=by simp
 obj:=fun i h st b hb=>by
  have e:b=it:=by simpa using hb
  subst e;exact⟨_,st,fun v z=>by have z':Data.fields _=Data.cell v:=z;cases z'⟩
 keep:=fun i h h' st k=>k it (by simp) _ st
 item:=by intro X hP hw hK hc i pins s σ H E I hf st hg;subst hP hw hK;obtain⟨f0,f1,f2,f3,f4,f5⟩:=hf it (by simp);have W:=Walks.range (prog:=X.prog) (w:=X.w) (I.ok.hd hc) it lo 1 n;refine W.item i s _ _ hg st fun v h' tk hv dN kk=>?_;obtain⟨t,rfl⟩:=hv;have I1:Inv X pins σ H {s with heap:=h',toks:=tk}:=I.turned (fun b o hb e=>kk b o (by simpa using hb) e) f0 f1 f3 f4 f5;refine⟨_,rfl,o5 (s:={s with heap:=h',toks:=tk}) (n:="range_iterator") dN rfl rfl (by decide) ⟨.int (lo+i),H,I1,⟨t,?_⟩,⟨rfl,rfl⟩,dN,fun b hb=>(hf b hb).1⟩⟩;rw[Int.mul_one]
 done:=by intro X hP hw hK hc i pins s σ H E I hf st hg;subst hP hw hK;obtain⟨f0,f1,f2,f3,f4,f5⟩:=hf it (by simp);exact wpAny_pyNext_range_end (I.ok.hd hc) st (by have:n<=i:=hg;omega) fun h' eb=>⟨rfl,I.turned (t':=s.toks) (fun b o hb e=>eb b o hb e) f0 f1 f3 f4 f5⟩
 self:=fun _ _ _ _ _ st h=>wpAny_pyIter_rangeiter st h
section
variable {X:Cx} {tg:Expr}
inductive B7(K:LG)(R:It->Hp->Prop)(x:V)(H1:Hp):Prop |mk (a:_)(h0:x= .ref a)(h1:(∃xs,aa K H1 a xs))(h2:R (jX K a) H1):B7 K R x H1
def y4(K:LG)(tl:TE):TI:=fun σ H R=>tl σ H fun x H1=>B7 K R x H1
inductive B4(K:LG)(R:It->Hp->Prop)(x:V)(H1:Hp):Prop |mk (a:_)(h0:x= .ref a)(h1:(∃xs,ay K H1 a xs))(h2:R (oK K a) H1):B4 K R x H1
def y0(K:LG)(tl:TE):TI:=fun σ H R=>tl σ H fun x H1=>B4 K R x H1
theorem DU{l:Expr}{tl:TE}(hl:PE X l tl):PI X tg l (y4 X.K tl):=by
 intro pins s σ H R I h;refine ak (hl pins s σ H _ I h) fun v s1 ⟨x,H1,I1,r1,q1⟩=>?_;obtain⟨a,e,⟨xs,hq⟩,q⟩:=q1;subst e;cases r1;obtain⟨its,rv,p,hz⟩:=I1.list hq;refine m5 p.isList ?_;refine⟨s1.heap.objs.size,[s1.heap.objs.size],_,_,H1,rfl,I1.kept (t':=s1.toks) fun b o e=>bw _ e,C0 a _,⟨_,cu _ rfl,rfl,rfl⟩,fun b hb=>?_,q⟩;have e:b=s1.heap.objs.size:=by simpa using hb
 subst e;exact I1.jM (aD _) (I1.hok.fresh (aD _))
theorem DT{l:Expr}{tl:TE}(hl:PE X l tl):PI X tg l (y0 X.K tl):=by
 intro pins s σ H R I h;refine ak (hl pins s σ H _ I h) fun v s1 ⟨x,H1,I1,r1,q1⟩=>?_;obtain⟨a,e,⟨xs,hq⟩,q⟩:=q1;subst e;cases r1;obtain⟨its,rv,p,hz⟩:=I1.tuple hq;refine wpAny_pyIter_tuple (show s1.heap.IsTuple a its.toArray from p) ?_;refine⟨s1.heap.objs.size,[s1.heap.objs.size],_,_,H1,rfl,I1.kept (t':=s1.toks) fun b o e=>bw _ e,BW a _,⟨_,cu _ rfl,rfl,rfl⟩,fun b hb=>?_,q⟩;have e:b=s1.heap.objs.size:=by simpa using hb
 subst e;exact I1.jM (aD _) (I1.hok.fresh (aD _))
theorem Dl{pins:List (Addr×Obj)}{σ:St}{H:Hp}{s:LH}{R:It->Hp->Prop}{E:Value->LH->Prop}{lo hi:Int}{t u v:Tok}{tk:Nat}(I:Inv X pins σ H s)(h1:-(2^62)<=lo)(h2:lo<2^62)(h3:-(2^62)<=hi)(h4:hi<2^62) (q:R (gQ lo (hi-lo).toNat) H):wpAny (model X.prog X.w) X.A (pyIter (.ref s.heap.objs.size)) (tW X pins σ tg R) E {s with heap:=s.heap.push {cls:=.type "range",data:=.fields #[.int lo t,.int hi u,.int 1 v]},toks:=tk}:=by
  refine wpAny_pyIter_range (IsRange.new ..) (small_one h1 h2 h3 h4) ?_;have I1:Inv X pins σ H {s with heap:=s.heap.push {cls:=.type "range",data:=.fields #[.int lo t,.int hi u,.int 1 v]},toks:=tk}:=I.kept fun b o e=>bw _ e;refine⟨(s.heap.push {cls:=.type "range",data:=.fields #[.int lo t,.int hi u,.int 1 v]}).objs.size,[(s.heap.push {cls:=.type "range",data:=.fields #[.int lo t,.int hi u,.int 1 v]}).objs.size],_,_,H,rfl,I1.kept (t':=tk) fun b o e=>bw _ e,BZ _ lo (hi-lo).toNat,?_,fun b hb=>?_,q⟩
  · have e1:lo+((0:Nat):Int)*1=lo:=by simp
    have e2:(((hi-lo).toNat:Nat):Int)-((0:Nat):Int)=Builtin.Range.rangeSize lo hi 1:=by rw[rangeSize_one];split<;>omega
    show IsRangeIter _ _ (lo+((0:Nat):Int)*1) ((((hi-lo).toNat:Nat):Int)-((0:Nat):Int)) 1;rw[e1,e2];exact cu _ rfl
  · have e:b=(s.heap.push {cls:=.type "range",data:=.fields #[.int lo t,.int hi u,.int 1 v]}).objs.size:=by simpa using hb
    subst e;exact I1.jM (aD _) (I1.hok.fresh (aD _))
inductive B6(R:It->Hp->Prop)(vs:List V)(H1:Hp):Prop |mk (j:Int)(h0:vs=[.int j])(h1:-(2^62)<=j)(h2:j<2^62)(h3:R (gQ 0 j.toNat) H1):B6 R vs H1
def GN(ta:TA):TI:=fun σ H R=>ta σ H fun vs H1=>B6 R vs H1
theorem gA{a:Expr}{ta:TA}{p pos:Pos}(hg:Gl X "range")(hm:X.mg "range"=none)(ha:PA X [a] ta)(hs:starEach [a] X.env=[(false,eval a X.env)]:=by rfl):PI X tg (.Call (.Name "range" p) [a] [] pos) (GN ta):=by intro pins s σ H R I h;refine Call_ (l4 I hg hm boot_range (Br (ak (ha pos pins s σ H _ I h) fun us s1 ⟨vs,H1,I1,r1,q1⟩=>?_) hs rfl));obtain⟨j,e,q1,q2,q⟩:=q1;subst e;cases r1 with |cons r rr=>cases rr;obtain⟨t,rfl⟩:=r;exact call_range_1 (Dl I1 (by omega) (by omega) q1 q2 (by simpa using q))
def CA(wi:TI)(g:TG)(tb:TS):TS:=fun D σ H=>wi σ H fun J H1=>∃W:Nat->Nat->St->Hp->Prop,(∃m,W 0 m σ H1)/\∀i m σ H,W i m σ H->(J.stop i H/\D.nx σ H)\/(J.go i H/\∃N:St->Hp->Prop,(∀σ' H',N σ' H'->∃m',m'<m/\W (i+1) m' σ' H')/\∀x H',J.yld i H x H'->g x σ H' fun σ2 H2=>tb {D with nx:=N,ct:=N,bk:=D.nx} σ2 H2)
def jv(fp:List Addr)(h:Heap):List (Addr×Obj):=fp.filterMap fun b=>(h.get? b).map fun o=>(b,o)
theorem jG{fp:List Addr}{h:Heap}{b:Addr}{o:Obj}(hb:b∈fp)(e:h.get? b=some o):(b,o)∈jv fp h:=kn.mpr ⟨b,hb,by rw[e];rfl⟩
theorem F9{fp:List Addr}{h:Heap}{p:Addr×Obj}(hp:p∈jv fp h):p.1∈fp/\h.get? p.1=some p.2:=by obtain⟨b,hb,e⟩:=kn.mp hp;cases q:h.get? b with |none=>rw[q]at e;cases e |some o=>rw[q]at e;have e':(b,o)=p:=cf e;subst e';exact⟨hb,q⟩
theorem Inv.pinned{pins:List (Addr×Obj)}{σ:St}{H:Hp}{s:LH}{fp:List Addr}(I:Inv X pins σ H s)(hf:∀b∈fp,eU X pins H b)(ho:∀b∈fp,∃o,s.heap.get? b=some o/\∀v,o.data≠ .cell v):Inv X (pins++jv fp s.heap) σ H s:=I.wG fun p hp=>(e9.mp hp).elim (fun z=>I.pin p (eJ _ z)) fun z=>by obtain⟨hb,e⟩:=F9 z;obtain⟨f0,f1,f2,_⟩:=hf p.1 hb;obtain⟨o,e',d⟩:=ho p.1 hb;rw[e]at e';cases e';exact⟨e,f0,f1,f2,d⟩
theorem Inv.ky{pins pl:List (Addr×Obj)}{σ:St}{H:Hp}{s:LH}(I:Inv X (pins++pl) σ H s):Inv X pins σ H s:=I.wG fun p hp=>I.pin p (eJ _ (p7 _ hp))
theorem iI{iter:Expr}{body:List Stmt}{wi:TI}{g:TG}{tb:TS}{pos:Pos}(hp:PassesOwn (model X.prog X.w) X.A X.env X.xe)(hc:X.calm=true)(hi:PI X tg iter wi)(hg:PG X tg g)(hb:cE X body tb) (hs:∀x,foldedSetIterable iter X.env x=pure x:=by intro _;rfl):PS X (.For tg iter body [] pos) (CA wi g tb):=by
  intro pins s σ H D I h;refine wpAny_For (ak (hi pins s σ H _ I h) fun v s1 h1=>ak h1 fun nF s2 h2=>?_) hs;obtain⟨it,fp,tn,J,H2,e,I2,T,iE,f2,W,⟨m0,w0⟩,turn⟩:=h2;subst e;have fw:∀{H':Hp},(∀b∈fp,H' b=none)->∀b∈fp,eU X pins H' b:=fun hn b hb=>⟨hn b hb,(f2 b hb).2⟩;refine codeAny_forLoop_any (fun n s'=>∃i σ' H',Inv X pins σ' H' s'/\tn i s'.heap/\(∀b∈fp,H' b=none)/\W i n σ' H') ?_ m0 ⟨0,σ,H2,I2,iE,fun b hb=>(f2 b hb).1,w0⟩;rintro n s3 ⟨i,σ3,H3,I3,vc,yJ,w3⟩;rcases turn i n σ3 H3 w3 with⟨stop,qn⟩|⟨go,N,hN,step⟩
  · refine ka hp (ak (T.done X rfl rfl rfl hc i pins s3 σ3 H3 X.xe I3 (fw yJ) vc stop) fun r s4 ⟨hr,I4⟩=>?_)
    subst hr;exact m6 ⟨σ3,H3,I4,qn⟩
  · refine ka hp (ak (T.item X rfl rfl rfl hc i pins s3 σ3 H3 X.xe I3 (fw yJ) vc go) fun r s4 ⟨u,hr,h4⟩=>?_)
    subst hr;refine ka hp (ak h4 fun _ s5 ⟨x,H5,I5,r5,y5,gv,j6⟩=>?_);have Kw:=I5.pinned (fw j6) (T.obj _ _ gv);refine ka hp (ak (hg _ s5 σ3 H5 x u _ Kw r5 (step x H5 y5)) fun _ s6 ⟨σ6,H6,I6,q6⟩=>?_);refine ka hp (ak (hb _ s6 σ6 H6 _ I6 q6) fun f s7 q7=>?_);have again:∀{σ7:St}{H7:Hp},Inv X (pins++jv fp s5.heap) σ7 H7 s7->N σ7 H7->∃m,m<n/\∃i σ' H',Inv X pins σ' H' s7/\tn i s7.heap/\(∀b∈fp,H' b=none)/\W i m σ' H':=fun{σ7 H7} I7 n7=>by obtain⟨m',hm,w7⟩:=hN σ7 H7 n7;refine⟨m',hm,i+1,σ7,H7,I7.ky,T.keep _ _ _ gv fun b hb o e=>(I7.pin (b,o) (eJ _ (eJ _ (jG hb e)))).1,fun b hb=>?_,w7⟩;obtain⟨o,e,d⟩:=T.obj _ _ gv b hb;exact(I7.pin (b,o) (eJ _ (eJ _ (jG hb e)))).2.1
    cases f with |next=>obtain⟨σ7,H7,I7,n7⟩:=q7;exact again I7 n7 |cont=>obtain⟨σ7,H7,I7,n7⟩:=q7;exact again I7 n7 |brk=>obtain⟨σ7,H7,I7,q7⟩:=q7;exact⟨σ7,H7,I7.ky,q7⟩ |ret v=>obtain⟨x7,σ7,H7,I7,r7,q7⟩:=q7;exact⟨x7,σ7,H7,I7.ky,r7,q7⟩
end
theorem yK{K:LG}{a:Addr}{xs:List V}{g:TG}{tb:TS}{D:Ends}{σ:St}{H:Hp}(Pv:Nat->St->Hp->Prop)(h0:Pv 0 σ H)(hl:∀i σ H,i<=xs.length->Pv i σ H->aa K H a xs) (hs:∀i x σ H,xs[i]? =some x->Pv i σ H->g x σ H fun σ2 H2=>tb {D with nx:=Pv (i+1),ct:=Pv (i+1),bk:=D.nx} σ2 H2)(hd:∀σ H,Pv xs.length σ H->D.nx σ H): ∃W:Nat->Nat->St->Hp->Prop,(∃m,W 0 m σ H)/\∀i m σ H,W i m σ H->((jX K a).stop i H/\D.nx σ H)\/((jX K a).go i H/\∃N:St->Hp->Prop,(∀σ' H',N σ' H'->∃m',m'<m/\W (i+1) m' σ' H')/\∀x H',(jX K a).yld i H x H'->g x σ H' fun σ2 H2=>tb {D with nx:=N,ct:=N,bk:=D.nx} σ2 H2):=by
  refine⟨fun i m σ H=>m=xs.length-i/\i<=xs.length/\Pv i σ H,⟨xs.length,by simp,bK _,h0⟩,?_⟩;rintro i m σ H ⟨rfl,hi,p⟩;have q:=hl i σ H hi p;by_cases bp:i<xs.length
  · refine .inr ⟨⟨xs,xs[i],q,by simp[bp]⟩,Pv (i+1),fun σ' H' p'=>⟨xs.length-(i+1),by omega,rfl,bp,p'⟩,fun x H' y=>?_⟩
    obtain⟨e,y⟩:=y;subst e;exact hs i x σ _ (y xs q) p
  · have e:i=xs.length:=by omega
    subst e;exact .inl ⟨⟨xs,q,aD _⟩,hd σ H p⟩
theorem jN{lo:Int}{n:Nat}{g:TG}{tb:TS}{D:Ends}{σ:St}{H:Hp}(Pv:Nat->St->Hp->Prop)(h0:Pv 0 σ H) (hs:∀i σ H,i<n->Pv i σ H->g (.int (lo+i)) σ H fun σ2 H2=>tb {D with nx:=Pv (i+1),ct:=Pv (i+1),bk:=D.nx} σ2 H2)(hd:∀σ H,Pv n σ H->D.nx σ H): ∃W:Nat->Nat->St->Hp->Prop,(∃m,W 0 m σ H)/\∀i m σ H,W i m σ H->((gQ lo n).stop i H/\D.nx σ H)\/((gQ lo n).go i H/\∃N:St->Hp->Prop,(∀σ' H',N σ' H'->∃m',m'<m/\W (i+1) m' σ' H')/\∀x H',(gQ lo n).yld i H x H'->g x σ H' fun σ2 H2=>tb {D with nx:=N,ct:=N,bk:=D.nx} σ2 H2):=by
  refine⟨fun i m σ H=>m=n-i/\i<=n/\Pv i σ H,⟨n,by simp,bK _,h0⟩,?_⟩;rintro i m σ H ⟨rfl,hi,p⟩;by_cases bp:i<n
  · refine .inr ⟨bp,Pv (i+1),fun σ' H' p'=>⟨n-(i+1),by omega,rfl,bp,p'⟩,fun x H' y=>?_⟩
    obtain⟨e,y⟩:=y;subst e y;exact hs i σ _ bp p
  · have e:i=n:=by omega
    subst e;exact .inl ⟨aD _,hd σ H p⟩
theorem BM{c:TT}{tb:TS}{D:Ends}{σ:St}{H:Hp}(Pv:St->Hp->Prop)(μ:St->Hp->Nat)(h0:Pv σ H) (hs:∀σ H,Pv σ H->c σ H fun b H1=>if b=true then tb {D with nx:=fun σ' H'=>Pv σ' H'/\μ σ' H'<μ σ H,ct:=fun σ' H'=>Pv σ' H'/\μ σ' H'<μ σ H,bk:=D.nx} σ H1 else D.nx σ H1) (mono:∀σ H Q Q',(∀b H1,Q b H1->Q' b H1)->c σ H Q->c σ H Q'):uS c tb D σ H:=by refine⟨fun m σ H=>m=μ σ H/\Pv σ H,⟨_,rfl,h0⟩,?_⟩;rintro m σ H ⟨rfl,p⟩;refine mono σ H _ _ (fun b H1 q=>?_) (hs σ H p);cases b with |true=>exact⟨_,fun σ' H' ⟨p',l⟩=>⟨_,l,rfl,p'⟩,q⟩ |false=>exact q
abbrev R2:=V->V->Hp->VK->Prop
def aQ(X:Cx)(f:Value->Value->Sem Value)(r:R2):Prop:=∀(pins:List (Addr×Obj))(s:LH)(σ:St)(H:Hp)(x y:V)(v u:Value)(Q:VK),Inv X pins σ H s->RelV x v->RelV y u->r x y H Q->wpAny (model X.prog X.w) X.A (f v u) (EP X pins σ Q) X.xe s
def tT(X:Cx)(f:Value->Sem Value)(r:V->Hp->VK->Prop):Prop:=∀(pins:List (Addr×Obj))(s:LH)(σ:St)(H:Hp)(x:V)(v:Value)(Q:VK),Inv X pins σ H s->RelV x v->r x H Q->wpAny (model X.prog X.w) X.A (f v) (EP X pins σ Q) X.xe s
def bJ(X:Cx)(f:Value)(r:List V->Hp->VK->Prop):Prop:=∀(pins:List (Addr×Obj))(s:LH)(σ:St)(H:Hp)(xs:List V)(us:List Value)(Q:VK),Inv X pins σ H s->Vals xs us->r xs H Q->wpAny (model X.prog X.w) X.A (call f us) (EP X pins σ Q) X.xe s
def Kr(X:Cx)(r:V->Hp->(Bool->Hp->Prop)->Prop):Prop:=∀(pins:List (Addr×Obj))(s:LH)(σ:St)(H:Hp)(x:V)(v:Value)(Q:Bool->Hp->Prop),Inv X pins σ H s->RelV x v->r x H Q->wpAny (model X.prog X.w) X.A (truthy v) (TP X pins σ Q) X.xe s
def kE(r:R2)(ta tb:TE):TE:=fun σ H Q=>ta σ H fun x H1=>tb σ H1 fun y H2=>r x y H2 Q
def Cc(r:V->Hp->VK->Prop)(ta:TE):TE:=fun σ H Q=>ta σ H fun x H1=>r x H1 Q
inductive AZ(C:Int->Int->Prop)(g:Int->Int->V)(x:V)(y:V)(H:Hp)(Q:VK):Prop |mk (i:_)(j:_)(h0:x= .int i)(h1:y= .int j)(h2:C i j)(h3:Q (g i j) H):AZ C g x y H Q
def rI(C:Int->Int->Prop)(g:Int->Int->V):R2:=fun x y H Q=>AZ C g x y H Q
inductive AY(g:Int->Int->V)(x:V)(y:V)(H:Hp)(Q:VK):Prop |mk (i:_)(j:_)(h0:x= .int i)(h1:y= .int j)(h2:Q (g i j) H):AY g x y H Q
def eK(g:Int->Int->V):R2:=fun x y H Q=>AY g x y H Q
inductive AA(g:Int->V)(x:V)(H:Hp)(Q:VK):Prop |mk (i:_)(h0:x= .int i)(h1:Q (g i) H):AA g x H Q
def rU(g:Int->V):V->Hp->VK->Prop:=fun x H Q=>AA g x H Q
section
variable {X:Cx}{a b c:Expr}{ta tb tc:TE}{pos:Pos}
theorem tI(ha:PE X a ta)(hb:PE X b tb){pins:List (Addr×Obj)}{s:LH}{σ:St}{H:Hp}{R:V->V->Hp->Prop}(I:Inv X pins σ H s) (h:ta σ H fun x H1=>tb σ H1 fun y H2=>R x y H2){Q:Value->LH->Prop}{f:Value->Value->Sem Value} (hf:∀v u s2 x y H2,Inv X pins σ H2 s2->RelV x v->RelV y u->R x y H2->wpAny (model X.prog X.w) X.A (f v u) Q X.xe s2): wpAny (model X.prog X.w) X.A (eval a X.env) (fun v s₁=>wpAny (model X.prog X.w) X.A (eval b X.env) (fun u s₂=>wpAny (model X.prog X.w) X.A (f v u) Q X.xe s₂) X.xe s₁) X.xe s:=by refine ak (ha pins s σ H _ I h) fun v s1 ⟨x,H1,I1,r1,q1⟩=>?_;refine ak (hb pins s1 σ H1 _ I1 q1) fun u s2 ⟨y,H2,I2,r2,q2⟩=>?_;exact hf v u s2 x y H2 I2 r1 r2 q2
theorem az{op:Operator}{r:R2}(ho:aQ X (binaryOp op) r)(ha:PE X a ta)(hb:PE X b tb):PE X (.BinOp a op b pos) (kE r ta tb):=by intro pins s σ H Q I h;exact wpAny_BinOp (tI ha hb I h fun v u s2 x y H2 I2 rx ry q=>ho pins s2 σ H2 x y v u Q I2 rx ry q)
theorem iK{op:UnaryOp}{r:V->Hp->VK->Prop}(ho:tT X (unaryOp op) r)(ha:PE X a ta):PE X (.UnaryOp op a pos) (Cc r ta):=by intro pins s σ H Q I h;exact UnaryOp_ (ak (ha pins s σ H _ I h) fun v s1 ⟨x,H1,I1,r1,q1⟩=>ho pins s1 σ H1 x v Q I1 r1 q1)
theorem mZ{f:Value->Value->Sem Value}{C:Int->Int->Prop}{g:Int->Int->Int} (rule:∀(i j:Int)(t u:Tok)(s:LH)(Q:Value->LH->Prop)(E:Value->LH->Prop),C i j->Q (.int (g i j) s.toks) {s with toks:=s.toks+1}->wpAny (model X.prog X.w) X.A (f (.int i t) (.int j u)) Q E s): aQ X f (rI C fun i j=>.int (g i j)):=by intro pins s σ H x y v u Q I rx ry h;obtain⟨i,j,rfl,rfl,hc,q⟩:=h;obtain⟨t,rfl⟩:=rx;obtain⟨t',rfl⟩:=ry;exact rule i j t t' s _ _ hc ⟨.int (g i j),H,I.tok _,⟨_,rfl⟩,q⟩
theorem wU{f:Value->Value->Sem Value}{g:Int->Int->Int} (rule:∀(i j:Int)(t u:Tok)(s:LH)(Q:Value->LH->Prop)(E:Value->LH->Prop),Q (.int (g i j) s.toks) {s with toks:=s.toks+1}->wpAny (model X.prog X.w) X.A (f (.int i t) (.int j u)) Q E s): aQ X f (eK fun i j=>.int (g i j)):=by intro pins s σ H x y v u Q I rx ry h;obtain⟨i,j,rfl,rfl,q⟩:=h;obtain⟨t,rfl⟩:=rx;obtain⟨t',rfl⟩:=ry;exact rule i j t t' s _ _ ⟨.int (g i j),H,I.tok _,⟨_,rfl⟩,q⟩
theorem kT{f:Value->Value->Sem Value}{g:Int->Int->Bool} (rule:∀(i j:Int)(t u:Tok)(s:LH)(Q:Value->LH->Prop)(E:Value->LH->Prop),Q (.bool (g i j)) s->wpAny (model X.prog X.w) X.A (f (.int i t) (.int j u)) Q E s): aQ X f (eK fun i j=>.bl (g i j)):=by intro pins s σ H x y v u Q I rx ry h;obtain⟨i,j,rfl,rfl,q⟩:=h;obtain⟨t,rfl⟩:=rx;obtain⟨t',rfl⟩:=ry;exact rule i j t t' s _ _ ⟨.bl (g i j),H,I,rfl,q⟩
def Kx(i j:Int):Prop:=0<=j/\j<=1000000/\i.natAbs<2^64
theorem bX:aQ X (binaryOp .Add) (eK fun i j=>.int (i+j)):=wU fun _ _ _ _ _ _ _ q=>add_int q
theorem qV:aQ X (binaryOp .Sub) (eK fun i j=>.int (i-j)):=wU fun _ _ _ _ _ _ _ q=>sub_int q
theorem jz:aQ X (binaryOp .Mod) (rI (fun _ j=>0<j) fun i j=>.int (i%j)):=mZ fun i j _ _ _ _ _ hc q=>by have h1:(0:Int)<j:=hc;exact mod_int' (by omega) (by rw[Int.fmod_eq_emod_of_nonneg i (by omega)];exact q)
theorem mW:aQ X (binaryOp .Pow) (rI Kx fun i j=>.int (i^j.toNat)):=mZ fun _ _ _ _ _ _ _ hc q=>pow_int_small hc.1 hc.2.1 hc.2.2 q
theorem BS{f:Value->Sem Value}{g:Int->Int} (rule:∀(i:Int)(t:Tok)(s:LH)(Q:Value->LH->Prop)(E:Value->LH->Prop),Q (.int (g i) s.toks) {s with toks:=s.toks+1}->wpAny (model X.prog X.w) X.A (f (.int i t)) Q E s): tT X f (rU fun i=>.int (g i)):=by intro pins s σ H x v Q I rx h;obtain⟨i,rfl,q⟩:=h;obtain⟨t,rfl⟩:=rx;exact rule i t s _ _ ⟨.int (g i),H,I.tok _,⟨_,rfl⟩,q⟩
theorem iA:tT X (unaryOp .USub) (rU fun i=>.int (-i)):=BS fun _ _ _ _ _ q=>neg_int q
end
def vE:V->V->Bool | .aq,.aq=>true| .aq,.int _=>true| .int _,.aq=>true| .aq,.bl _=>true| .bl _,.aq=>true| .aq,.str _=>true| .str _,.aq=>true | .int _,.int _=>true| .bl _,.bl _=>true| .str _,.str _=>true| .eS _,.eS _=>true | .int _,.str _=>true| .str _,.int _=>true| .bl _,.str _=>true| .str _,.bl _=>true |_,_=>false
def DC:R2:=fun x y H Q=>vE x y=true/\Q (.bl (decide (x=y))) H
def Dw:R2:=fun x y H Q=>vE x y=true/\Q (.bl (!decide (x=y))) H
theorem z5{i j:Int}:decide (V.int i=V.int j)=(i==j):=by rw[dy];simp
theorem z7{i j:Bool}:decide (V.bl i=V.bl j)=(i==j):=by rw[dy];simp
theorem z4{i j:Str}:decide (V.str i=V.str j)=(i==j):=by rw[dy];simp
theorem z6{i j:Array UInt8}:decide (V.eS i=V.eS j)=(i.toList==j.toList):=by rw[dy];cases i;cases j;simp
section
variable {X:Cx}{a b c:Expr}{ta tb tc:TE}{pos:Pos}
theorem bh{pins:List (Addr×Obj)}{σ:St}{H:Hp}{s:LH}{Q:VK}{k k':Bool}(I:Inv X pins σ H s)(q:Q (.bl k) H)(e:k=k'):EP X pins σ Q (.bool k') s:=by subst e;exact⟨.bl k,H,I,rfl,q⟩
theorem dh:aQ X (compareOp .Eq) DC:=by intro pins s σ H x y v u Q I rx ry h;obtain⟨hs,q⟩:=h;cases x with
 |aq=>cases rx;cases y with |aq=>cases ry;exact PySem.EqNone.eq_none_none (bh I q (by simp)) |bl j=>cases ry;exact PySem.EqNone.eq_none_bool (bh I q (by simp)) |int j=>obtain⟨t',rfl⟩:=ry;exact PySem.EqNone.eq_none_int (bh I q (by simp)) |str j=>obtain⟨t',rfl⟩:=ry;exact PySem.EqNone.eq_none_str (bh I q (by simp)) |_=>exact absurd (show false=true from hs) aZ
 |bl i=>cases rx;cases y with |aq=>cases ry;exact PySem.EqNone.eq_bool_none (bh I q (by simp)) |bl j=>cases ry;exact eq_bool (bh I q z7) |str j=>obtain⟨t',rfl⟩:=ry;exact PySem.EqMixed.eq_bool_str (bh I q (by simp)) |_=>exact absurd (show false=true from hs) aZ
 |int i=>obtain⟨t,rfl⟩:=rx;cases y with |aq=>cases ry;exact PySem.EqNone.eq_int_none (bh I q (by simp)) |int j=>obtain⟨t',rfl⟩:=ry;exact eq_int (bh I q z5) |str j=>obtain⟨t',rfl⟩:=ry;exact PySem.EqMixed.eq_int_str (bh I q (by simp)) |_=>exact absurd (show false=true from hs) aZ
 |str i=>obtain⟨t,rfl⟩:=rx;cases y with |aq=>cases ry;exact PySem.EqNone.eq_str_none (bh I q (by simp)) |bl j=>cases ry;exact PySem.EqMixed.eq_str_bool (bh I q (by simp)) |int j=>obtain⟨t',rfl⟩:=ry;exact PySem.EqMixed.eq_str_int (bh I q (by simp)) |str j=>obtain⟨t',rfl⟩:=ry;exact eq_str (bh I q z4) |_=>exact absurd (show false=true from hs) aZ
 |eS i=>obtain⟨t,rfl⟩:=rx;cases y with |eS j=>obtain⟨t',rfl⟩:=ry;exact PySem.W.eq_bytes (bh I q z6) |_=>exact absurd (show false=true from hs) aZ
 |_=>cases y<;>exact absurd (show false=true from hs) aZ
theorem mX:aQ X (compareOp .NotEq) Dw:=by intro pins s σ H x y v u Q I rx ry h;obtain⟨hs,q⟩:=h;cases x with
 |aq=>cases rx;cases y with |aq=>cases ry;exact PySem.EqNone.ne_none_none (bh I q (by simp)) |bl j=>cases ry;exact PySem.EqNone.ne_none_bool (bh I q (by simp)) |int j=>obtain⟨t',rfl⟩:=ry;exact PySem.EqNone.ne_none_int (bh I q (by simp)) |str j=>obtain⟨t',rfl⟩:=ry;exact PySem.EqNone.ne_none_str (bh I q (by simp)) |_=>exact absurd (show false=true from hs) aZ
 |bl i=>cases rx;cases y with |aq=>cases ry;exact PySem.EqNone.ne_bool_none (bh I q (by simp)) |bl j=>cases ry;exact ne_bool (bh I q (eX not z7)) |str j=>obtain⟨t',rfl⟩:=ry;exact PySem.EqMixed.ne_bool_str (bh I q (by simp)) |_=>exact absurd (show false=true from hs) aZ
 |int i=>obtain⟨t,rfl⟩:=rx;cases y with |aq=>cases ry;exact PySem.EqNone.ne_int_none (bh I q (by simp)) |int j=>obtain⟨t',rfl⟩:=ry;exact ne_int (bh I q (eX not z5)) |str j=>obtain⟨t',rfl⟩:=ry;exact PySem.EqMixed.ne_int_str (bh I q (by simp)) |_=>exact absurd (show false=true from hs) aZ
 |str i=>obtain⟨t,rfl⟩:=rx;cases y with |aq=>cases ry;exact PySem.EqNone.ne_str_none (bh I q (by simp)) |bl j=>cases ry;exact PySem.EqMixed.ne_str_bool (bh I q (by simp)) |int j=>obtain⟨t',rfl⟩:=ry;exact PySem.EqMixed.ne_str_int (bh I q (by simp)) |str j=>obtain⟨t',rfl⟩:=ry;exact ne_str (bh I q (eX not z4)) |_=>exact absurd (show false=true from hs) aZ
 |eS i=>obtain⟨t,rfl⟩:=rx;cases y with |eS j=>obtain⟨t',rfl⟩:=ry;exact PySem.W.ne_bytes (bh I q (eX not z6)) |_=>exact absurd (show false=true from hs) aZ
 |_=>cases y<;>exact absurd (show false=true from hs) aZ
theorem qW:aQ X (compareOp .Lt) (eK fun i j=>.bl (decide (i<j))):=kT fun _ _ _ _ _ _ _ q=>lt_int q
theorem g9:aQ X (compareOp .LtE) (eK fun i j=>.bl (decide (i<=j))):=kT fun _ _ _ _ _ _ _ q=>le_int q
theorem Eh:aQ X (compareOp .Gt) (eK fun i j=>.bl (decide (j<i))):=kT fun _ _ _ _ _ _ _ q=>gt_int q
theorem Ef:aQ X (compareOp .In) (fun x y H Q=>∃i j,x= .str i/\y= .str j/\Q (.bl (!(Builtin.Str.occurrences j i 0 j.length 1).isEmpty)) H):=by intro pins s σ H x y v u Q I rx ry h;obtain⟨i,j,rfl,rfl,q⟩:=h;obtain⟨t,rfl⟩:=rx;obtain⟨t',rfl⟩:=ry;exact in_str (bh I q rfl)
theorem mY:aQ X (compareOp .Is) (fun x y H Q=>y= .aq/\Q (.bl (decide (x= .aq))) H):=by intro pins s σ H x y v u Q I rx ry h;obtain⟨rfl,q⟩:=h;cases ry;refine is_none_gen (bh I q ?_);cases x<;>first |(cases rx;rfl) |(obtain⟨t,rfl⟩:=rx;rfl)
theorem Ea:aQ X (compareOp .NotIn) (fun x y H Q=>∃i j,x= .str i/\y= .str j/\Q (.bl (!(!(Builtin.Str.occurrences j i 0 j.length 1).isEmpty))) H):=by intro pins s σ H x y v u Q I rx ry h;obtain⟨i,j,rfl,rfl,q⟩:=h;obtain⟨t,rfl⟩:=rx;obtain⟨t',rfl⟩:=ry;exact notIn_str (bh I q rfl)
theorem aQ.or{f:Value->Value->Sem Value}{r r':R2}(h:aQ X f r)(h':aQ X f r'):aQ X f (fun x y H Q=>r x y H Q\/r' x y H Q):=by
 intro pins s σ H x y v u Q I rx ry q;rcases q with q|q
 ·exact h pins s σ H x y v u Q I rx ry q
 ·exact h' pins s σ H x y v u Q I rx ry q
theorem aP(b:Expr){op:CmpOp}(h:op≠ .In:=by decide)(h2:op≠ .NotIn:=by decide):behindInMarks op b=false:=by
 have e1:(op==CmpOp.In)=false:=by cases op<;>first|rfl|exact absurd rfl h
 have e2:(op==CmpOp.NotIn)=false:=by cases op<;>first|rfl|exact absurd rfl h2
 cases b<;>simp[behindInMarks,e1,e2]
theorem hU{op:CmpOp}{r:R2}(ho:aQ X (compareOp op) r)(ha:PE X a ta)(hb:PE X b tb)(hm:behindInMarks op b=false):PE X (.Compare a [op] [b] pos) (kE r ta tb):=by intro pins s σ H Q I h;exact wpAny_Compare1 (tI ha hb I h fun v u s2 x y H2 I2 rx ry q=>ho pins s2 σ H2 x y v u Q I2 rx ry q) hm
inductive zZ(Q:Bool->Hp->Prop)(x:V)(H':Hp):Prop |mk (k:_)(h0:x= .bl k)(h1:Q k H'):zZ Q x H'
def uU(t:TE):TT:=fun σ H Q=>t σ H fun x H'=>zZ Q x H'
theorem aO{op:CmpOp}{r:R2}(ho:aQ X (compareOp op) r)(ha:PE X a ta)(hb:PE X b tb)(hm:behindInMarks op b=false):PT X (.Compare a [op] [b] pos) (uU (kE r ta tb)):=by intro pins s σ H Q I h;refine wpAny_isTrue_Compare1 (ak (ha pins s σ H _ I h) fun v s1 ⟨x,H1,I1,r1,q1⟩=>ak (hb pins s1 σ H1 _ I1 q1) fun u s2 ⟨y,H2,I2,r2,q2⟩=>ak (ho pins s2 σ H2 x y v u _ I2 r1 r2 q2) fun c s3 ⟨z,H3,I3,r3,k,e,q3⟩=>?_) hm;subst e;cases r3;exact gT ⟨H3,I3,q3⟩
inductive A3(r':R2)(tc:TE)(σ:St)(Q:VK)(y:V)(z:V)(H3:Hp):Prop |mk (k:_)(h0:z= .bl k)(h1:(if k=true then tc σ H3 fun w' H4=>r' y w' H4 Q else Q (.bl false) H3)):A3 r' tc σ Q y z H3
def uX(r r':R2)(ta tb tc:TE):TE:=fun σ H Q=>ta σ H fun x H1=>tb σ H1 fun y H2=>r x y H2 fun z H3=>A3 r' tc σ Q y z H3
theorem E6{op iM:CmpOp}{r r':R2}(ho:aQ X (compareOp op) r)(fJ:aQ X (compareOp iM) r')(ha:PE X a ta)(hb:PE X b tb)(hc:PE X c tc) (hm:lastMarks [op,iM] [b,c]=false:=by with_unfolding_all rfl):PE X (.Compare a [op,iM] [b,c] pos) (uX r r' ta tb tc):=by intro pins s σ H Q I h;refine Compare_chain (ak (ha pins s σ H _ I h) fun v s1 ⟨x,H1,I1,r1,q1⟩=>chain_link (ak (hb pins s1 σ H1 _ I1 q1) fun u s2 ⟨y,H2,I2,r2,q2⟩=>ak (ho pins s2 σ H2 x y v u _ I2 r1 r2 q2) fun d s3 ⟨z,H3,I3,r3,k,e,q3⟩=>?_)) hm;subst e;cases r3;refine gT ?_;cases k with |false=>exact ite_ff ⟨.bl false,H3,I3,rfl,q3⟩ |true=>exact ite_tt (chain_last (ak (hc pins s3 σ H3 _ I3 q3) fun w' s4 ⟨z',H4,I4,r4,q4⟩=>fJ pins s4 σ H4 y z' u w' Q I4 r2 r4 q4))
theorem kO{op iM:CmpOp}{r r':R2}(ho:aQ X (compareOp op) r)(fJ:aQ X (compareOp iM) r')(ha:PE X a ta)(hb:PE X b tb)(hc:PE X c tc) (hm:lastMarks [op,iM] [b,c]=false:=by with_unfolding_all rfl):PT X (.Compare a [op,iM] [b,c] pos) (uU (uX r r' ta tb tc)):=by intro pins s σ H Q I h;refine isTrue_chain (ak (ha pins s σ H _ I h) fun v s1 ⟨x,H1,I1,r1,q1⟩=>test_link (ak (hb pins s1 σ H1 _ I1 q1) fun u s2 ⟨y,H2,I2,r2,q2⟩=>ak (ho pins s2 σ H2 x y v u _ I2 r1 r2 q2) fun d s3 ⟨z,H3,I3,r3,k,e,q3⟩=>?_)) hm;subst e;cases r3;refine gT ?_;cases k with |false=>obtain⟨k',e',q'⟩:=q3;cases e';exact ite_ff ⟨H3,I3,q'⟩ |true=>refine ite_tt (test_last (ak (hc pins s3 σ H3 _ I3 q3) fun w' s4 ⟨z',H4,I4,r4,q4⟩=>ak (fJ pins s4 σ H4 y z' u w' _ I4 r2 r4 q4) fun d' s5 ⟨z2,H5,I5,r5,k2,e2,q5⟩=>?_));subst e2;cases r5;exact gT ⟨H5,I5,q5⟩
def tU(K:LG)(x:V)(H:Hp)(k:Bool):Prop:=match x with | .aq=>k=false | .bl b=>k=b | .int i=>k=(i !=0) | .str y=>y.length<=sizeLine/\k=((y.length:Int) !=0) | .eS y=>y.size<=sizeLine/\k=((y.size:Int) !=0) | .ref p=>(∃xs,aa K H p xs/\k= !xs.isEmpty)\/(∃xs,ay K H p xs/\k= !xs.isEmpty)\/∃bo,H p=some (.dK bo)/\k= !bo.isEmpty |_=>False
theorem GC{κ:Type}{bo:List (κ×V)}{vs:List (κ×Value)}(r:KV bo vs):(!vs.isEmpty)= !bo.isEmpty:=by cases r<;>rfl
theorem xU{xs:List V}{its:List Value}(r:Vals xs its):(!its.toArray.isEmpty)= !xs.isEmpty:=by cases r<;>simp
theorem iT:(sizeLine:Nat)<2^63:=by rw[oS];decide
theorem C3:Kr X (fun x H Q=>∃k,tU X.K x H k/\Q k H):=by intro pins s σ H x v Q I rx h;obtain⟨k,e,q⟩:=h;have hl:=iT;have hs:sizeLine=16777216:=oS;cases x with |aq=>cases rx;have e':k=false:=e;subst e';exact truthy_none ⟨H,I,q⟩ |bl b=>cases rx;have e':k=b:=e;subst e';exact gT ⟨H,I,q⟩ |int i=>obtain⟨t,rfl⟩:=rx;have e':k=(i !=0):=e;subst e';exact PySem.P.truthy_int ⟨H,I,q⟩ |str y=>obtain⟨t,rfl⟩:=rx;obtain⟨hy,e'⟩:y.length<=sizeLine/\k=((y.length:Int) !=0):=e;subst e';exact PySem.P.truthy_str (by omega) ⟨H,I.tok _,q⟩ |eS y=>obtain⟨t,rfl⟩:=rx;obtain⟨hy,e'⟩:y.size<=sizeLine/\k=((y.size:Int) !=0):=e;subst e';exact PySem.W.truthy_bytes (by omega) ⟨H,I.tok _,q⟩ |ref p=>
   cases rx;have e':(∃xs,aa X.K H p xs/\k= !xs.isEmpty)\/(∃xs,ay X.K H p xs/\k= !xs.isEmpty)\/∃bo,H p=some (.dK bo)/\k= !bo.isEmpty:=e;rcases e' with⟨xs,hx,e'⟩|⟨xs,hx,e'⟩|⟨bo,hx,e'⟩
   · subst e'
     obtain⟨its,r,pl,hz⟩:=I.list hx;have hlen:=r.length;exact wpAny_truthy_list pl.isList (by simp only[bC];omega) ⟨H,I.tok _,by rw[xU r];exact q⟩
   · subst e'
     obtain⟨its,r,pl,hz⟩:=I.tuple hx;have hlen:=r.length;exact truthy_tuple pl (by simp only[bC];omega) ⟨H,I.tok _,by rw[xU r];exact q⟩
   · subst e'
     obtain⟨hz,hS,vs,r,m⟩:bo.length<=sizeLine/\(p==sysModules)=false/\∃vs,KV bo vs/\s.heap.DictOf (rF X.prog X.w) p vs:=I.hok p _ hx;have hlen:bo.length=vs.length:=Paired.length r;exact wpAny_truthy_dict hS m (by omega) ⟨H,I.tok _,by rw[GC r];exact q⟩ |_=>exact(show False from e).elim
theorem DI(ha:PE X a ta)(he:∀whole,isTrue a X.env whole=(do let v<-whole;standAt a.pos;holding [v] (truthy v))): PT X a (fun σ H Q=>ta σ H fun x H'=>∃k,tU X.K x H' k/\Q k H'):=by intro pins s σ H Q I h;exact isTrue_plain (ak (ha pins s σ H _ I h) fun v s1 ⟨x,H1,I1,r1,q1⟩=>C3 pins s1 σ H1 x v Q I1 r1 q1) (he _)
theorem eF:aQ X (binaryOp .Add) (fun x y H Q=>∃i j,x= .str i/\y= .str j/\i.length+j.length<=sizeLine/\Q (.str (i++j)) H):=by intro pins s σ H x y v u Q I rx ry h;obtain⟨i,j,rfl,rfl,hz,q⟩:=h;obtain⟨t,rfl⟩:=rx;obtain⟨t',rfl⟩:=ry;exact add_str (fun t' tk=>⟨.str (i++j),H,I.tok _,⟨_,rfl⟩,q⟩) hz
theorem vals1{x:V}{us:List Value}(r:Vals [x] us):∃u,us=[u]/\RelV x u:=by cases r with |cons r1 r2=>cases r2;exact⟨_,rfl,r1⟩
theorem vals2{x y:V}{us:List Value}(r:Vals [x,y] us):∃u w',us=[u,w']/\RelV x u/\RelV y w':=by cases r with |cons r1 r2=>cases r2 with |cons r3 r4=>cases r4;exact⟨_,_,rfl,r1,r3⟩
theorem K0:bJ X (.builtin "abs") (fun xs H Q=>∃i,xs=[.int i]/\Q (.int (if i<0 then-i else i)) H):=by intro pins s σ H xs us Q I r h;obtain⟨i,rfl,q⟩:=h;obtain⟨u,rfl,t,rfl⟩:=vals1 r;exact call_abs_int fun u tk=>⟨.int (if i<0 then-i else i),H,I.tok _,⟨_,rfl⟩,q⟩
theorem JT(hc:X.calm=true):bJ X (.builtin "max") (fun xs H Q=>∃i j,xs=[.int i,.int j]/\Q (.int (if j>i then j else i)) H):=by
 intro pins s σ H xs us Q I r h;obtain⟨i,j,rfl,q⟩:=h;obtain⟨u,w',rfl,⟨t,rfl⟩,⟨t',rfl⟩⟩:=vals2 r;refine max_two_ints (I.ok.hd hc) fun h' tk k=>⟨_,H,I.kept k,?_,q⟩;by_cases hj:j>i
 ·rw[aI hj,aI hj];exact⟨_,rfl⟩
 ·rw[aC hj,aC hj];exact⟨_,rfl⟩
theorem zu(hc:X.calm=true):bJ X (.builtin "min") (fun xs H Q=>∃i j,xs=[.int i,.int j]/\Q (.int (if j<i then j else i)) H):=by
 intro pins s σ H xs us Q I r h;obtain⟨i,j,rfl,q⟩:=h;obtain⟨u,w',rfl,⟨t,rfl⟩,⟨t',rfl⟩⟩:=vals2 r;refine min_two_ints (I.ok.hd hc) fun h' tk k=>⟨_,H,I.kept k,?_,q⟩;by_cases hj:j<i
 ·rw[aI hj,aI hj];exact⟨_,rfl⟩
 ·rw[aC hj,aC hj];exact⟨_,rfl⟩
theorem JX:bJ X (.type "int") (fun xs H Q=>(∃i,xs=[.int i]/\Q (.int i) H)\/∃k,xs=[.bl k]/\Q (.int (if k then 1 else 0)) H):=by
 intro pins s σ H xs us Q I r h;rcases h with⟨i,rfl,q⟩|⟨k,rfl,q⟩
 · obtain⟨u,rfl,t,rfl⟩:=vals1 r
   exact call_int_int ⟨.int i,H,I,⟨_,rfl⟩,q⟩
 · obtain⟨u,rfl,r1⟩:=vals1 r
   cases r1;exact call_int_bool ⟨.int (if k then 1 else 0),H,I.tok _,⟨_,rfl⟩,q⟩
end
end L2
namespace L2
open PySem PySem.Spec PyProof.Rows
theorem G7{h:Heap}{dx:Addr}{mA:Str->Option Value}(n:h.Ns1 dx mA):∃od,h.get? dx=some od/\∀name,PySem.W.lookIn name od=some (mA name):=by
 obtain⟨o,es,ep,ho,hd,hk,_,hm⟩:=n;refine⟨o,ho,fun name=>?_⟩;have e:=hm name;unfold nsFind findBy at e;rw[<-Array.find?_toList]at e;unfold PySem.W.lookIn;rw[hd];dsimp only;split
 · rename_i y q
   rw[q]at e;exact eX some e
 · rename_i q
   rw[q]at e;have a:es.toList.any (·.refKey)=false:=by rw[List.any_eq_false];intro y hy;obtain⟨z,t,Hw⟩:=hk y (Array.mem_toList_iff.mp hy);simp[DictEntry.refKey,Hw]
   have a':¬es.toList.any (·.refKey)=true:=by rw[a];exact aZ
   rw[aC a'];exact eX some e
section
variable {prog:LI}{w:World}{A:LK}{E:Value->LH->Prop}{s:LH}{K:LG}{x dx C f:Addr}{mA:Str->Option Value}{name:Str}{v:Value}
end
section
variable {P:LI}{w:World}{H H':Hp}{h h':Heap}{a C dx:Addr}{fs jL:List (Str×V)}
end
section
variable {X:Cx}{pins:List (Addr×Obj)}{σ:St}{H:Hp}{s:LH}{a C dx:Addr}{fs:List (Str×V)}{f:Str}{v:V}{A:LK}{E:Value->LH->Prop}
theorem Kb{prog:LI}{w:World}{env:Env}{e:Expr}{f:Str}{pos:Pos}{s:LH}{Q:Value->LH->Prop}(hb:attributeBase e f env (eval e env)=eval e env) (h:wpAny (model prog w) A (eval e env) (fun o s₁=>wpAny (model prog w) A (getAttr o f true) Q E s₁) E s):wpAny (model prog w) A (eval (.Attribute e f pos) env) Q E s:=Attribute_any_ h (by rw[arm_eval_Attribute,hb])
end
section
variable {X:Cx}{o e value:Expr}{f:Str}{pos pos' pF:Pos}{ta tv:TE}
end
section
variable {X:Cx}{pins:List (Addr×Obj)}{σ:St}{H:Hp}{s:LH}{A:LK}{E:Value->LH->Prop}{Q:Value->LH->Prop}{c:Value}{b:Bool}
end
end L2
namespace L2
open PySem PySem.Spec PyProof.Rows
structure bj(k:Nat)(A:LK):Prop where
 hd:A.handled=none
 dp:A.depth+3*k+5<recursionLimit
 un:A.units+16*k+200<cLine
theorem bj.mono{j k:Nat}{A:LK}(r:bj k A)(h:j<=k):bj j A:=⟨r.hd,by have:=r.dp;omega,by have:=r.un;omega⟩
theorem bj.deeper{k:Nat}{A:LK}(r:bj (k+1) A)(env:Env):bj k (A.deeper env):=⟨r.hd,by have:=r.dp;show A.depth+1+3*k+5<_;omega,by have:=r.un;show A.units+3+16*k+200<_;omega⟩
theorem FW{A:LK}{C:Addr}{us:List Value}{kw:List (Str×Value)}:(A.under (.builtin "type.__call__" ⟨.ref C::us,kw⟩)).depth=A.depth+1:=by first|rfl|simp[Around.under,Code.weight,Code.isCreation,Code.isGuard,Code.isCaller,Code.frames,Code.isFrame,guardIds]
theorem FV{A:LK}{C:Addr}{us:List Value}{kw:List (Str×Value)}:(A.under (.builtin "type.__call__" ⟨.ref C::us,kw⟩)).units=A.units+1:=by first|rfl|simp[Around.under,Code.cUnits,Code.frames,Code.isFrame]
theorem bj.make{k:Nat}{A:LK}(r:bj (k+1) A)(C:Addr)(us:List Value)(kw:List (Str×Value)):bj k (A.under (.builtin "type.__call__" ⟨.ref C::us,kw⟩)):=⟨r.hd,by have:=r.dp;rw[FW];omega,by have:=r.un;rw[FV];omega⟩
theorem bj.depth{k:Nat}{A:LK}(r:bj k A):A.depth<recursionLimit:=by have:=r.dp;omega
theorem bj.units{k:Nat}{A:LK}(r:bj k A):A.units+64<cLine:=by have:=r.un;omega
def Cr:TA:=fun _ H Q=>Q [] H
def CF(ta:TE)(tr:TA):TA:=fun σ H Q=>ta σ H fun x H1=>tr σ H1 fun xs H2=>Q (x::xs) H2
section
variable {X:Cx}{e:Expr}{es:List Expr}{te:TE}{t:TA}{pos:Pos}
theorem a8:PA X [] Cr:=fun _ _ _ _ H Q I h=>Calls.spliced_nil ⟨[],H,I,.nil,h⟩
theorem a7(ha:PE X e te)(hr:PA X es t)(hs:starEach (e::es) X.env=(false,eval e X.env)::starEach es X.env:=by rfl):PA X (e::es) (CF te t):=by intro pos pins s σ H Q I h;rw[hs];show wpAny _ _ (spliced ((false,eval e X.env)::backTo pos (starEach es X.env))) _ _ s;refine Calls.spliced_cons (ak (ha pins s σ H _ I h) fun u s1 ⟨x,H1,I1,r1,q1⟩=>?_);exact ak (hr pos pins s1 σ H1 _ I1 q1) fun us s2 ⟨xs,H2,I2,r2,q2⟩=>⟨x::xs,H2,I2,.cons r1 r2,q2⟩
end
abbrev Sp:=List V->Hp->VK->XK->Prop
abbrev eW:=List Env->Hp->LH->XK->Value->LH->Prop
structure gR(P:LI)(w:World)(K:LG)(mg:Str->Option Value)(base:Heap)(A:LK)(outer:List Env)(s:LH)(H:Hp):Prop where
 frames:A.frames=some outer
 mod:Mod K mg base
 bs:∀b o,base.get? b=some o->s.heap.get? b=some o/\H b=none
 bsz:base.objs.size<=s.heap.objs.size
 dF:s.heap.FunFrames base outer
 frf:∀b∈bH outer,H b=none
 hok:bq P w H s.heap
 bare:AllBare s.gens
def CE(outer:List Env)(P:LI)(w:World)(H:Hp)(s:LH)(Q:VK)(u:Value)(s':LH):Prop:=∃v H',s'.os=s.os/\AllBare s'.gens/\Un (bH outer) [] H H' s.heap s'.heap/\bq P w H' s'.heap/\RelV v u/\Q v H'
def CR(CX:eW)(outer:List Env)(P:LI)(w:World)(H:Hp)(s:LH)(Q:VK)(E:XK)(r:Result)(s':LH):Prop:=match r with | .ok (.ret u)=>CE outer P w H s Q u s' | .ok _=>False | .error e=>CX outer H s E e s'
structure dY(P:LI)(w:World)(K:LG)(mg:Str->Option Value)(base:Heap)(CX:eW)(k:Nat)(f:Addr)(fd:FuncData)(ps:List Str)(sp:Sp):Prop where
 len:∀vs H Q E,sp vs H Q E->vs.length=ps.length
 run:∀(A:LK)(outer:List Env)(s:LH)(H:Hp)(args:Args)(us:List Value)(vs:List V)(Q:VK)(E:XK),bj k A->gR P w K mg base A outer s H->BindsTo s fd args (ps.zip us)->Vals vs us->sp vs H Q E->codeAny (model P w) A (.call (.ref f) args) (CR CX outer P w H s Q E) s
theorem gR.make{P:LI}{w:World}{K:LG}{mg:Str->Option Value}{base:Heap}{A:LK}{outer:List Env}{s:LH}{H:Hp}(e:gR P w K mg base A outer s H)(C:Addr)(us:List Value)(kw:List (Str×Value)): gR P w K mg base (A.under (.builtin "type.__call__" ⟨.ref C::us,kw⟩)) outer s H:=⟨by first|exact e.frames|(simpa[Around.under,Code.envs,Code.isFrame,pushEnvs]using e.frames),e.mod,e.bs,e.bsz,e.dF,e.frf,e.hok,e.bare⟩
section
variable {X:Cx}{pins:List (Addr×Obj)}{σ:St}{H:Hp}{s s':LH}
theorem Inv.t6(I:Inv X pins σ H s):gR X.prog X.w X.K X.mg X.base X.A X.stack s H:=⟨I.ok.frames,I.ok.mod,I.bs,bL I.ok.bsz I.sz,I.stack,I.mI,I.hok,I.bare⟩
theorem Inv.after{Q:VK}{u:Value}(I:Inv X pins σ H s)(h:CE X.stack X.prog X.w H s Q u s'):EP X pins σ Q u s':=by obtain⟨v,H',os,bare,un,hok,r,q⟩:=h;obtain⟨hh,g,d,t,E9⟩:=s';obtain rfl:E9=s.os:=os;exact⟨v,H',I.call (h':=hh) (g':=g) (d':=d) (t':=t) (ch:=[]) un hok bare (fun b z=>absurd z (by simp)),r,q⟩
end
def CG(sp:Sp)(ib:List V)(E:XK)(t:TA):TE:=fun σ H Q=>t σ H fun vs H1=>sp (vs++ib) H1 Q E
def Binds(K:LG)(fd:FuncData)(ps:List Str)(ds:List Value):Prop:=∀(s:LH)(us:List Value),K.In s.heap->(us++ds).length=ps.length->BindsTo s fd ⟨us,[]⟩ (ps.zip (us++ds))
theorem Binds.all{K:LG}{fd:FuncData}{ps:List Str}(h:∀us:List Value,us.length=ps.length->bindArgs fd ⟨us,[]⟩=pure (ps.zip us)):Binds K fd ps []:=fun s us _ hl=>by rw[ji]at hl⊢;exact .of_eq (h us hl)
def Passes(CX:eW)(X:Cx)(E:XK):Prop:=∀(pins:List (Addr×Obj))(σ:St)(H:Hp)(s:LH)(e:Value)(s':LH),Inv X pins σ H s->CX X.stack H s E e s'->X.xe e s'
section
variable {X:Cx}{CX:eW}{k:Nat}{f C:Addr}{fd:FuncData}{ps:List Str}{sp:Sp}{ib:List V}{ds:List Value}{E:XK}{x m:Str}{p pos apos:Pos}{e o:Expr}{es:List Expr}{ta:TE}{t:TA}
theorem D9{pins:List (Addr×Obj)}{σ:St}{H:Hp}{s:LH}{Q:VK}{us:List Value}{vs:List V}(F:dY X.prog X.w X.K X.mg X.base CX k f fd ps sp)(hr:bj k X.A)(hb:Binds X.K fd ps ds)(hd:Vals ib ds)(hx:Passes CX X E) (I:Inv X pins σ H s)(r:Vals vs us)(h:sp (vs++ib) H Q E):wpAny (model X.prog X.w) X.A (call (.ref f) us) (EP X pins σ Q) X.xe s:=by
  have r2:Vals (vs++ib) (us++ds):=r.append hd;have hl:(us++ds).length=ps.length:=by rw[<-r2.length];exact F.len _ _ _ _ h
  refine kc (oU (F.run X.A X.stack s H ⟨us,[]⟩ (us++ds) (vs++ib) Q E hr I.t6 (hb s us I.cL hl) r2 h) fun r s' hq=>?_);cases r with |error e=>exact hx pins σ H s e s' I hq |ok fl=>cases fl with |ret u=>exact I.after hq |next=>exact False.elim hq |brk=>exact False.elim hq |cont=>exact False.elim hq
theorem wJ(F:dY X.prog X.w X.K X.mg X.base CX k f fd ps sp)(hr:bj k X.A)(hg:Gl X x)(hm:X.mg x=some (.ref f))(hk:PySem.W.keepIn X.K (.ref f)=true)(hb:Binds X.K fd ps ds)(hd:Vals ib ds)(hx:Passes CX X E) (ha:PA X (e::es) t)(dU:(x==("__debug__":Str))=false:=by decide)(he:starEach (e::es) X.env=(false,eval e X.env)::starEach es X.env:=by rfl)(cW:(backTo pos (starEach es X.env)).any (·.1)=false:=by rfl): PE X (.Call (.Name x p) (e::es) [] pos) (CG sp ib E t):=by intro pins s σ H Q I h;refine u7 (l2 I hg hm ?_ dU);refine PySem.W.callWith_K (h₀:=X.base) I.ok.mod.kin hk (ak (ha pos pins s σ H _ I h) fun us s1 ⟨vs,H1,I1,r,q⟩=>⟨I1.cL,?_⟩) he cW;exact D9 F hr hb hd hx I1 r q
end
section
variable {X:Cx}{CX:eW}{k:Nat}{f C:Addr}{fd:FuncData}{ps ks:List Str}{sp:Sp}{E:XK}{x m:Str}{p pos apos La:Pos}{e o:Expr}{es:List Expr}{L9:List Keyword}{te ta:TE}{t tk:TA}{nm:Option Str}
variable {g:List Value->List Value->List Value}{gV:List V->List V->List V}
end
structure aV(N P:List Str)(sc:Scope):Prop where
 kind:sc.kind= .function
 co:sc.isCoroutine=false
 gen:sc.isGenerator=false
 nd:N.Nodup
 pre:N.take P.length=P
 par:∀x∈P,sc.names.lookup x=some .local\/sc.names.lookup x=some .cell
 nofree:∀y∈sc.names,y.2≠ .free
theorem zx{kindOf:Str->Option NameKind}{x:Str}:∀{binds:List (Str×Value)}{m:Str->Option Value},(∀v,(x,v)∉binds)->bindL kindOf binds m x=m x
  |[],_,_=>rfl |(n,v)::r,m,h=>by
    unfold bindL;rw[zx fun w hw=>h w (p6 _ hw)];split
    · have:x≠n:=by rintro rfl;exact h v ur
      simp[this]
    ·rfl
theorem zA{kindOf:Str->Option NameKind}{x:Str}:∀{binds:List (Str×Value)}{m:Str->Option Value},(∀v,(x,v)∉binds)->bindC kindOf binds m x=m x
  |[],_,_=>rfl |(n,v)::r,m,h=>by
    unfold bindC;rw[zA fun w hw=>h w (p6 _ hw)];split
    ·rfl
    · have:x≠n:=by rintro rfl;exact h v ur
      simp[this]
theorem zy{kindOf:Str->Option NameKind}{x:Str}{v:Value}:∀{P:List Str}{vs:List Value}{i:Nat}{m:Str->Option Value},P.Nodup->P[i]? =some x->vs[i]? =some v->kindOf x=some .local->bindL kindOf (P.zip vs) m x=some v |[],_,_,_,_,h,_,_=>by simp at h |_::_,[],_,_,_,_,h,_=>by simp at h |p::P,w::vs,0,m,nd,h1,h2,hk=>by simp at h1 h2;subst h1;subst h2;show bindL kindOf ((p,w)::P.zip vs) m p=_;unfold bindL;rw[zx fun v hv=>(um.mp nd).1 (p5 hv).1,aI hk];simp |p::P,w::vs,i+1,m,nd,h1,h2,hk=>by show bindL kindOf ((p,w)::P.zip vs) m x=_;unfold bindL;exact zy (i:=i) (um.mp nd).2 (by simpa using h1) (by simpa using h2) hk
theorem zB{kindOf:Str->Option NameKind}{x:Str}{v:Value}:∀{P:List Str}{vs:List Value}{i:Nat}{m:Str->Option Value},P.Nodup->P[i]? =some x->vs[i]? =some v->kindOf x≠some .local->bindC kindOf (P.zip vs) m x=some v |[],_,_,_,_,h,_,_=>by simp at h |_::_,[],_,_,_,_,h,_=>by simp at h |p::P,w::vs,0,m,nd,h1,h2,hk=>by simp at h1 h2;subst h1;subst h2;show bindC kindOf ((p,w)::P.zip vs) m p=_;unfold bindC;rw[zA fun v hv=>(um.mp nd).1 (p5 hv).1,aC hk];simp |p::P,w::vs,i+1,m,nd,h1,h2,hk=>by show bindC kindOf ((p,w)::P.zip vs) m x=_;unfold bindC;exact zB (i:=i) (um.mp nd).2 (by simpa using h1) (by simpa using h2) hk
def start(N:List Str)(vs:List V):St:=vs.map some++List.replicate (N.length-vs.length) none
def dk(CX:eW)(P:LI)(w:World)(K:LG)(mg:Str->Option Value)(base:Heap)(N:List Str)(qual:Str)(scope:Scope)(f:Addr)(cd:Value)(A:LK)(outer:List Env)(s:LH)(H:Hp)(E:XK):Cx where
 prog:=P
 w:=w
 K:=K
 mg:=mg
 base:=base
 A:=A.deeper (envOfC qual scope s.heap.objs.size f cd)
 N:=N
 s₀:=s
 H₀:=H
 env:=envOfC qual scope s.heap.objs.size f cd
 outer:=outer
 stack:=envOfC qual scope s.heap.objs.size f cd::outer
 ex:=[]
 calm:=true
 fn:=fun _=>true
 pn:=[]
 xe:=fun e s'=>wpAny (model P w) (A.deeper (envOfC qual scope s.heap.objs.size f cd)) (leaving (envOfC qual scope s.heap.objs.size f cd) e) (fun _ qz=>CX outer H s E e qz) (fun e' qz=>CX outer H s E e' qz) s'
theorem zp{sc:Scope}{n:Nat}{x:Str}(h:sc.names.lookup x=some .cell):∃c,(cellsFrom n sc.names []).lookup x=some c:=by have q:=ud sc.names n [] (.inl h);exact Option.isSome_iff_exists.mp q
theorem rS{CX:eW}{P:LI}{w:World}{K:LG}{mg:Str->Option Value}{base:Heap}{N ps:List Str}{qual:Str}{scope:Scope}{f:Addr}{cd:Value}{A:LK}{outer:List Env}{s s1:LH}{H:Hp}{E:XK}{us:List Value}{vs:List V} (S:aV N ps scope)(hd:A.handled=none)(e0:gR P w K mg base A outer s H)(hl:vs.length=ps.length)(r:Vals vs us) (x:InCallC s s.heap.objs.size (bindL (envOfC qual scope s.heap.objs.size f cd).kindOf (ps.zip us) fun _=>none) (cellsFrom (s.heap.objs.size+1) scope.names []) (bindC (envOfC qual scope s.heap.objs.size f cd).kindOf (ps.zip us) fun _=>none) s1): Inv (dk CX P w K mg base N qual scope f cd A outer s H E) [] (start N vs) H s1:=by
  have cW:ps.length<=N.length:=by have:=eX List.length S.pre;rw[gW]at this;omega
  obtain⟨h1,tk,rfl,hk⟩:=x.done;have kW:∀b:Addr,b∉(dk CX P w K mg base N qual scope f cd A outer s H E).ex:=fun b z=>absurd (show b∈([]:List Addr)from z) (by simp);refine⟨⟨e0.mod,S.kind,rfl,rfl,aD _,fun y z c h1 h2=>?_,fun y hy=>?_,fun y c _ h=>?_,fun _=>hd,Around.frames_deeper e0.frames,.inr ⟨rfl,rfl⟩,fun b z=>absurd z (kW b),e0.bs,e0.bsz,fun b _ _=>kW b,fun b z=>absurd z (kW b),e0.dF,e0.frf⟩,rfl,e0.bare,Un.kept hk,⟨_,x.toInCall.ns,fun i y v h1 h2 h3=>?_⟩,fun y c h=>⟨_,x.cell y c h⟩,e0.hok.fresh (aD _),fun y c h=>?_,fun p hp=>absurd (show p∈([]:List (Addr×Obj))from hp) (by simp),e0.hok.kept hk,?_⟩
  ·exact name_of_addr x.apart (oW h1) (oW h2)
  · have hy:scope.names.lookup y=some .cell\/scope.names.lookup y=some .free:=hy
    rcases hy with hy|hy
    ·exact zp hy
    ·exact absurd rfl (S.nofree _ (oW hy))
  ·exact Nat.le_of_lt (x.above y c (oW h))
  · have hi:i<vs.length:=by
      unfold start at h2;by_cases hi:i<vs.length
      ·exact hi
      · rw[List.getElem?_append_right (by simpa using hi)]at h2
        rw[List.getElem?_replicate]at h2;split at h2<;>cases h2
    have ha:vs[i]? =some v:=by unfold start at h2;rw[Bx (by simpa using hi),cg]at h2;cases e:vs[i]? with |none=>rw[e]at h2;cases h2 |some a=>rw[e]at h2;cases h2;rfl
    obtain⟨u,hu,rv⟩:=r.get ha;have hp:ps[i]? =some y:=by rw[<-S.pre,List.getElem?_take_of_lt (by omega)];exact h1
    have xt:ps.Nodup:=by rw[<-S.pre];exact S.nd.sublist (List.take_sublist _ _)
    refine⟨u,rv,?_⟩;rcases S.par y (fq hp)with k|k
    ·exact .inl ⟨k,zy xt hp hu k⟩
    · obtain⟨c,e⟩:=zp (n:=s.heap.objs.size+1) k
      refine .inr ⟨.inl k,c,e,?_⟩;have q:=x.cell y c e;rw[zB xt hp hu (by show scope.names.lookup y≠_;rw[k];decide)]at q;exact q
  ·exact e0.hok.fresh (Nat.le_of_lt (x.above y c (oW h)))
  · unfold start
    show _=N.length;rw[dc,aE,List.length_replicate];omega
theorem yM{CX:eW}{P:LI}{w:World}{K:LG}{mg:Str->Option Value}{base:Heap}{k:Nat}{f:Addr}{name qual:Str}{params:Arguments}{body:List Stmt}{scope:Scope}{dV kV doc pm ah ct oc:Value}{an od:Option Addr} {bW:Array (Option Value)}{N ps:List Str}{sp:Sp}(lk:K.lookup f=some ⟨oc,od,.func (PySem.W.fnOf name qual params body scope dV kV doc pm an ah ct),bW⟩)(bO:PySem.W.codeIn K ah qual=true)(S:aV N ps scope) (len:∀vs H Q E,sp vs H Q E->vs.length=ps.length) (dW:∀(A:LK)(outer:List Env)(s:LH)(H:Hp)(vs:List V)(Q:VK)(E:XK),bj k (A.deeper (envOfC qual scope s.heap.objs.size f ah))->sp vs H Q E->∃t,cE (dk CX P w K mg base N qual scope f ah A outer s H E) body t/\t {nx:=fun _ H'=>Q .aq H',rt:=Q} (start N vs) H): dY P w K mg base CX (k+1) f (PySem.W.fnOf name qual params body scope dV kV doc pm an ah ct) ps sp:=by
  refine⟨len,fun A outer s H args us vs Q E hr e0 hb r bD=>?_⟩;have hl:=len _ _ _ _ bD;have KX:K.In s.heap:=e0.mod.kin.keeps fun b o e=>(e0.bs b o e).1;have lim:s.heap.NoLimit:=e0.mod.nolimit.keeps fun b o e=>(e0.bs b o e).1;have fK:∀y∈ps.zip us,scope.names.lookup y.1=some .local\/(scope.names.lookup y.1=some .cell/\((cellsFrom (s.heap.objs.size+1) scope.names []).lookup y.1).isSome=true):=fun⟨n,v⟩ hy=>by
   rcases S.par n (p5 hy).1 with q|q
   ·exact .inl q
   ·exact .inr ⟨q,ud _ _ _ (.inl q)⟩
  refine Bj hr.depth (KX _ _ lk) rfl S.co S.gen rfl (Bl KX bO) (hb _ _ _ _ ?_);refine Bf S.kind fK fun env he s1 x=>?_;subst he;refine⟨lim.keeps x.toInCall.keep,codeAny_func ?_⟩;obtain⟨t,ht,hq⟩:=dW A outer s H vs Q E (hr.deeper _) bD;have I:Inv (dk CX P w K mg base N qual scope f ah A outer s H E) [] (start N vs) H s1:=rS S hr.hd e0 hl r x;refine dw (ht [] s1 (start N vs) H _ I hq) (fun fl s' hs=>?_) fun e s' hs=>hs;have fin:∀{σ':St}{H':Hp}{v:V}{u:Value},Inv (dk CX P w K mg base N qual scope f ah A outer s H E) [] σ' H' s'->RelV v u->Q v H'->CE outer P w H s Q u s':=fun{σ' H' v u} J rv q=>⟨v,H',J.os,J.bare,J.base,J.hok,rv,q⟩;cases fl with |ret u=>obtain⟨v,σ',H',J,rv,q⟩:=hs;exact fin J rv q |next=>obtain⟨σ',H',J,q⟩:=hs;exact fin (v:=V.aq) (u:=Value.none) J rfl q |brk=>obtain⟨_,_,_,q⟩:=hs;exact False.elim q |cont=>obtain⟨_,_,_,q⟩:=hs;exact False.elim q
section
variable {X:Cx}{x:Str}{p pos:Pos}{e:Expr}{es:List Expr}{t:TA}{id T:String}{r:List V->Hp->VK->Prop}
def mC(r:List V->Hp->VK->Prop)(t:TA):TE:=fun σ H Q=>t σ H fun vs H1=>r vs H1 Q
theorem cm(hc:bJ X (.builtin id) r)(hg:Gl X x)(hm:X.mg x=none)(hv:bootBuiltins x=some (.builtin id))(ha:PA X (e::es) t)(hn:x≠"__name__":=by decide)(dU:(x==("__debug__":Str))=false:=by decide) (he:starEach (e::es) X.env=(false,eval e X.env)::starEach es X.env:=by rfl)(cW:(backTo pos (starEach es X.env)).any (·.1)=false:=by rfl):PE X (.Call (.Name x p) (e::es) [] pos) (mC r t):=by intro pins s σ H Q I h;refine u7 (l4 I hg hm hv ?_ hn dU);exact PyProof.Rows.callWith_builtin1 (ak (ha pos pins s σ H _ I h) fun us s1 ⟨vs,H1,I1,r1,q1⟩=>hc pins s1 σ H1 vs us Q I1 r1 q1) he cW
theorem eM(hc:bJ X (.type T) r)(hg:Gl X x)(hm:X.mg x=none)(hv:bootBuiltins x=some (.type T))(ha:PA X (e::es) t)(hn:x≠"__name__":=by decide)(dU:(x==("__debug__":Str))=false:=by decide) (he:starEach (e::es) X.env=(false,eval e X.env)::starEach es X.env:=by rfl)(cW:(backTo pos (starEach es X.env)).any (·.1)=false:=by rfl):PE X (.Call (.Name x p) (e::es) [] pos) (mC r t):=by intro pins s σ H Q I h;refine u7 (l4 I hg hm hv ?_ hn dU);exact Br (ak (ha pos pins s σ H _ I h) fun us s1 ⟨vs,H1,I1,r1,q1⟩=>hc pins s1 σ H1 vs us Q I1 r1 q1) he cW
end
end L2
namespace HT
open PySem PyProof.Rows
section
open PySem.SeqAt
open PySem.AutoSeq1 (wpAny_loadPart')
open PySem.MeetsSeq PySem.MeetsSeq2 PySem.MeetsSeq3
end
section
variable {prog:LI}{w:World}{A:LK}{E:Value->LH->Prop}{s:LH}
theorem JR{t b:Addr}{vs ws:List Value}{Q:Value->LH->Prop}(ht:IsTup s.heap t vs.toArray)(hb:IsTup s.heap b ws.toArray)(hv:vs≠[]) (h1:ws=[]->Q (.ref t) s)(h2:ws≠[]->Q (.ref s.heap.objs.size) {s with heap:=s.heap.push {cls:=.type "tuple",data:=.seq (vs++ws).toArray}}) (hsz:vs.length+ws.length<=sizeLine):wpAny (model prog w) A (binaryOp .Add (.ref t) (.ref b)) Q E s:=by
  obtain⟨⟨cls,dd,data,sl⟩,ho,hc,n,hd⟩:=id ht;obtain⟨⟨zl,jS,data2,jn⟩,gf,fj,n2,hd2⟩:=id hb;simp only at hc hd fj hd2;subst hc hd fj hd2;have e:vs.toArray++ws.toArray=(vs++ws).toArray:=by simp
  by_cases hw:ws=[]
  ·exact concat_meets ⟨_,ho,rfl⟩ ⟨_,gf,rfl⟩ noFill_tuple_add seq_tuple_add Bm Bo (Bp _ _) (tuple_addW1 t b vs.toArray ws.toArray n n2 dd jS sl jn (by simpa using hv) (by simp[hw])) ⟨ho,gf,h1 hw⟩
  · refine concat_meets ⟨_,ho,rfl⟩ ⟨_,gf,rfl⟩ noFill_tuple_add seq_tuple_add Bm Bo (Bp _ _) (tuple_addW2 t b vs.toArray ws.toArray n n2 dd jS sl jn (by simpa using hv) (by simpa using hw) (by rw[bC,bC];exact hsz)) ⟨ho,gf,?_⟩;rw[e];exact h2 hw
def aH(n d:Nat):Option Int->Nat |none=>d |some v=>if v<0 then(v+(n:Int)).toNat else min v.toNat n
theorem ql (n d:Nat):aH n d none=d:=rfl
theorem qm(n d k:Nat):aH n d (some (k:Int))=min k n:=by show(if(k:Int)<0 then((k:Int)+(n:Int)).toNat else min (k:Int).toNat n)=min k n;rw[aC (by omega),BC]
theorem D6(n d:Nat)(hd:d<=n)(o:Option Int):aH n d o<=n:=by cases o with |none=>exact hd |some v=>
   show(if v<0 then(v+(n:Int)).toNat else min v.toNat n)<=n;by_cases hv:v<0
   ·rw[aI hv];omega
   ·rw[aC hv];exact Nat.min_le_right _ _
theorem oy(v:Int)(n d:Nat):(if v<0 then max (v+(n:Int)) 0 else min v (n:Int))=((aH n d (some v):Nat):Int):=by
 show(if v<0 then max (v+(n:Int)) 0 else min v (n:Int))=(((if v<0 then(v+(n:Int)).toNat else min v.toNat n):Nat):Int);by_cases hv:v<0
 ·simp only[aI hv];omega
 ·simp only[aC hv];omega
theorem Ki(lo hi:Option Int)(n:Nat):Builtin.Slice.sliceAdjust lo hi 1 (n:Int)=(((aH n 0 lo:Nat):Int),((aH n n hi:Nat):Int)):=by
 have h1:¬((1:Int)<0):=by omega
 unfold Builtin.Slice.sliceAdjust;simp only[h1,if_false];refine Prod.ext ?_ ?_
 ·cases lo with |none=>rfl |some v=>exact oy v n 0
 ·cases hi with |none=>rfl |some v=>exact oy v n n
theorem DQ(i j:Nat):Builtin.Slice.slicePlaces (i:Int) (j:Int) 1=j-i:=by
 unfold Builtin.Slice.slicePlaces;have h1:(1:Int)>0:=by omega
 simp only[h1,iq,Int.ediv_one];split<;>omega
theorem vC{v:Value}{o:Option Int}{Q:Option Int->LH->Prop}(p:IsPart v o)(h:Q o s):wpAny (model prog w) A (Builtin.Slice.slicePartIndex v) Q E s:=by cases p with |none=>exact slicePart_none h |int i t=>exact slicePart_int h
theorem CQ{sl:Addr}{vl vu:Value}{lo hi:Option Int}{n:Nat}{Q:Int×Int×Nat->LH->Prop}(hs:s.heap.IsSliceOf sl vl vu .none)(pl:IsPart vl lo)(pu:IsPart vu hi) (h:Q (((aH n 0 lo:Nat):Int),1,aH n n hi-aH n 0 lo) s):wpAny (model prog w) A (Builtin.Slice.sliceApplied (.ref sl) (pure (n:Int))) Q E s:=by obtain⟨os,lD,nW,i6⟩:=id hs;unfold Builtin.Slice.sliceApplied Builtin.Slice.sliceFields;refine ag (ag (gs lD i6 (x:=vl) rfl (ag (gs lD i6 (x:=vu) rfl (ag (gs lD i6 (x:=.none) rfl (aM ?_)))))));refine ag (slicePart_none ?_);show wpAny _ _ (if((1:Int)==0)=true then _ else _) _ _ s;rw[aC (by decide)];refine ag (vC pl (ag (vC pu (ag (aM ?_)))));show wpAny _ _ (match Builtin.Slice.sliceAdjust lo hi 1 (n:Int)with|(lo,hi)=>pure (lo,(1:Int),Builtin.Slice.slicePlaces lo hi 1)) _ _ s;rw[Ki lo hi n];show wpAny _ _ (pure (((aH n 0 lo:Nat):Int),(1:Int),Builtin.Slice.slicePlaces ((aH n 0 lo:Nat):Int) ((aH n n hi:Nat):Int) 1)) _ _ s;rw[DQ];exact aM h
theorem DS(xs:Array Value)(i k:Nat):((List.range k).filterMap fun(m:Nat)=>xs[((i:Int)+(m:Int)*1).toNat]?).toArray=((xs.toList.drop i).take k).toArray:=by
 have e:(fun(m:Nat)=>xs[((i:Int)+(m:Int)*1).toNat]?)=fun m=>xs[i+m]?:=by
  funext m;have:((i:Int)+(m:Int)*1).toNat=i+m:=by omega
  rw[this]
 rw[e];have:=pick_run xs i k;rw[List.filterMap_map]at this;have e2:((fun x=>xs[x]?)∘fun x=>i+x)=fun m=>xs[i+m]?:=rfl;rw[e2]at this;rw[this]
theorem IY{t sl:Addr}{items:Array Value}{vl vu:Value}{lo hi:Option Int}{Q:Value->LH->Prop}(ht:IsTup s.heap t items)(hs:s.heap.IsSliceOf sl vl vu .none)(pl:IsPart vl lo)(pu:IsPart vu hi) (hw:¬(aH items.size 0 lo=0/\aH items.size items.size hi=items.size)) (h:Q (.ref s.heap.objs.size) {s with heap:=s.heap.push {cls:=.type "tuple",data:=.seq ((items.toList.drop (aH items.size 0 lo)).take (aH items.size items.size hi-aH items.size 0 lo)).toArray}}) (hsz:items.size<=sizeLine):wpAny (model prog w) A (getItem (.ref t) (.ref sl)) Q E s:=by
  have nL:sizeOk (.seq ((items.toList.drop (aH items.size 0 lo)).take (aH items.size items.size hi-aH items.size 0 lo)).toArray):=by show((items.toList.drop (aH items.size 0 lo)).take (aH items.size items.size hi-aH items.size 0 lo)).toArray.size<=sizeLine;rw[bC,gW,me,pk];omega
  have hj:aH items.size items.size hi<=items.size:=D6 _ _ (aD _) hi;obtain⟨os,lD,nW,i6⟩:=id hs;have IG:s.TypeIs (.ref sl) "slice":=⟨os,lD,nW⟩;unfold getItem
  try with_reducible refine dH ?_
  first|refine ag (aM ?_)|skip
  refine ag (wpAny_sequenceKey ht.typeIs (by decide) ?_);refine ag (Bg (name:=Str.ofString "__getitem__") ht.typeIs Bq (wpAny_call_entry Bq ht.typeIs entry_tuple_getitem ?_ (args_tuple_getitem _ _)));show wpAny _ _ (Builtin.Tuple.tupleItemsOf (.ref t)>>=_) _ _ s;refine ag (tupleItemsOf_ ht ?_);refine ag (wpAny_typeOf IG ?_);rw[aI (by decide)];refine ag (CQ hs pl pu ?_);have nS:¬((((aH items.size 0 lo:Nat):Int)==0&&(1:Int)==1&&(aH items.size items.size hi-aH items.size 0 lo)==items.size)=true):=by intro q;rw[bQ,bQ]at q;have q1:((aH items.size 0 lo:Nat):Int)=0:=eq_of_beq q.1.1;have q2:aH items.size items.size hi-aH items.size 0 lo=items.size:=eq_of_beq q.2;exact hw ⟨by omega,by omega⟩
  show wpAny _ _ (if(((aH items.size 0 lo:Nat):Int)==0&&(1:Int)==1&&(aH items.size items.size hi-aH items.size 0 lo)==items.size)=true then _ else _) _ _ s;rw[aC nS,DS]
  first |exact ag (m:=Builtin.Tuple.tupleExact _) (ip (aM ⟨_,rfl,aM h⟩) nL) |exact ag (m:=Builtin.Tuple.tupleExact _) (ip (ag (aM (aM ⟨_,rfl,aM h⟩))) nL) |exact ag (ag (m:=Builtin.Tuple.tupleExact _) (ip (aM (aM ⟨_,rfl,aM h⟩)) nL)) |exact ag (ag (m:=Builtin.Tuple.tupleExact _) (ip (aM ⟨_,rfl,aM h⟩) nL))
end
end HT
namespace L2
open PySem PySem.Spec PyProof.Rows
abbrev TO:=St->Hp->(Option Int->Hp->Prop)->Prop
def PO(X:Cx)(e:Option Expr)(t:TO):Prop:=∀(pins:List (Addr×Obj))(s:LH)(σ:St)(H:Hp)(Q:Option Int->Hp->Prop),Inv X pins σ H s->t σ H Q->wpAny (model X.prog X.w) X.A (evalPart e X.env) (fun u s'=>∃o H',Inv X pins σ H' s'/\IsPart u o/\Q o H') X.xe s
def Cq:TO:=fun _ H Q=>Q none H
inductive A0(Q:Option Int->Hp->Prop)(x:V)(H1:Hp):Prop |mk (i:_)(h0:x= .int i)(h1:Q (some i) H1):A0 Q x H1
def Ck(t:TE):TO:=fun σ H Q=>t σ H fun x H1=>A0 Q x H1
section
variable {X:Cx}{e:Expr}{te:TE}{lo hi:Option Expr}{tl th:TO}{pos p2:Pos}
theorem cT:PO X none Cq:=by intro pins s σ H Q I h;rw[evalPart_none];exact aM ⟨none,H,I,.none,h⟩
theorem cB(h:PE X e te):PO X (some e) (Ck te):=by intro pins s σ H Q I hw;rw[evalPart_some];refine ak (h pins s σ H _ I hw) fun u s1 ⟨x,H1,I1,r1,q1⟩=>?_;obtain⟨i,rfl,q⟩:=q1;obtain⟨t,rfl⟩:=r1;exact⟨some i,H1,I1,.int i t,q⟩
def lY(X:Cx)(r:V->Option Int->Option Int->Hp->VK->Prop):Prop:=∀(pins:List (Addr×Obj))(s:LH)(σ:St)(H:Hp)(x:V)(v vl vu:Value)(lo hi:Option Int)(sl:Addr)(Q:VK),Inv X pins σ H s->RelV x v->s.heap.IsSliceOf sl vl vu .none->IsPart vl lo->IsPart vu hi->r x lo hi H Q->∃T id,typeLookup (.type T) "__getitem__"=pure (some (.builtin id))/\s.TypeIs v T/\wpAny (model X.prog X.w) X.A (getItem v (.ref sl)) (EP X pins σ Q) X.xe s
def Cf(r:V->Option Int->Option Int->Hp->VK->Prop)(te:TE)(tl th:TO):TE:=fun σ H Q=>te σ H fun x H1=>tl σ H1 fun l H2=>th σ H2 fun u H3=>r x l u H3 Q
theorem cK{r:V->Option Int->Option Int->Hp->VK->Prop}(hr:lY X r)(he:PE X e te)(hl:PO X lo tl)(hu:PO X hi th):PE X (.Subscript e (.Slice lo hi none p2) pos) (Cf r te tl th):=by intro pins s σ H Q I h;refine Subscript_ (ak (he pins s σ H _ I h) fun v s1 ⟨x,H1,I1,r1,q1⟩=>?_);refine wpAny_Slice (ak (hl pins s1 σ H1 _ I1 q1) fun vl s2 ⟨l,H2,I2,pl,q2⟩=>ak (hu pins s2 σ H2 _ I2 q2) fun vu s3 ⟨u,H3,I3,pu,q3⟩=>?_);rw[evalPart_none];refine aM ?_;have I4:Inv X pins σ H3 {s3 with heap:=s3.heap.push {cls:=.type "slice",data:=.fields #[vl,vu,.none]}}:=I3.kept (t':=s3.toks) fun b ob q=>bw _ q;obtain⟨T,id,hT,ht,hg⟩:=hr pins {s3 with heap:=s3.heap.push {cls:=.type "slice",data:=.fields #[vl,vu,.none]}} σ H3 x v vl vu l u s3.heap.objs.size Q I4 r1 (Heap.IsSliceOf.new ..) pl pu q3;show wpAny (model X.prog X.w) X.A (subscriptTail e (.Slice lo hi none p2) v (.ref s3.heap.objs.size)) (EP X pins σ Q) X.xe {s3 with heap:=s3.heap.push {cls:=.type "slice",data:=.fields #[vl,vu,.none]}};exact tail_any (ops:=[.ref s3.heap.objs.size,v]) ht hT hg (by with_unfolding_all rfl)
def cM(xs:List V)(lo hi:Option Int):List V:=(xs.drop (HT.aH xs.length 0 lo)).take (HT.aH xs.length xs.length hi-HT.aH xs.length 0 lo)
theorem za(xs:List V)(lo hi:Option Int):(cM xs lo hi).length<=xs.length:=by unfold cM;rw[gW,me];omega
inductive AD(K:LG)(x:V)(lo:Option Int)(hi:Option Int)(H:Hp)(Q:VK):Prop |mk (a:_)(xs:_)(h0:x= .ref a)(h1:ay K H a xs)(h2:¬(HT.aH xs.length 0 lo=0/\HT.aH xs.length xs.length hi=xs.length))(h3:∀p,H p=none->Q (.ref p) (upd H p (.tup (cM xs lo hi)))):AD K x lo hi H Q
def Dp(K:LG):V->Option Int->Option Int->Hp->VK->Prop:=fun x lo hi H Q=>AD K x lo hi H Q
theorem CS:lY X (Dp X.K):=by
 intro pins s σ H x v vl vu lo hi sl Q I rx hs pl pu h;obtain⟨a,xs,rfl,hx,hw,q⟩:=h;cases rx;obtain⟨its,r,ht,hz⟩:=I.tuple hx;have hlen:its.toArray.size=xs.length:=by rw[bC];exact r.length.symm
 refine⟨"tuple",_,Bq.lookup,ht.typeIs,?_⟩;refine HT.IY ht hs pl pu (by rw[hlen];exact hw) ?_ (by rw[hlen];exact hz);rw[hlen];refine⟨.ref s.heap.objs.size,_,I.laid (t':=s.toks) (o:=.tup (cM xs lo hi)) (fun b ob q=>bw _ q) (aD _) ?_,rfl,q _ (I.hok.fresh (aD _))⟩;exact⟨bL (za xs lo hi) hz,_,(r.drop (HT.aH xs.length 0 lo)).take (HT.aH xs.length xs.length hi-HT.aH xs.length 0 lo),IsTup.new _ _⟩
theorem Vals.rk{xs:List V}{us:List Value}(r:Vals xs us):us=[]↔xs=[]:=by cases r with |nil=>simp |cons _ _=>simp
end
end L2
namespace L2
open PySem PySem.Spec PyProof.Rows
def gc(n:Nat)(i:Int):Option Nat:=if 0<=i then(if i<n then some i.toNat else none)else if-(n:Int)<=i then some (i+n).toNat else none
def cN{α:Type}(xs:List α)(i:Int):Option α:=(gc xs.length i).bind fun j=>xs[j]?
theorem xR{n:Nat}{i:Int}{j:Nat}(h:gc n i=some j):seqIndex? i n=some j/\j<n/\-(n:Int)<=i/\i<n:=by
 unfold gc at h;by_cases h0:0<=i
 · rw[aI h0]at h
   by_cases h1:i<n
   · rw[aI h1]at h
     have e:i.toNat=j:=cf h;exact⟨by rw[seqIndex_of h0 h1,e],by omega,by omega,h1⟩
   ·rw[aC h1]at h;cases h
 · rw[aC h0]at h
   by_cases h1:-(n:Int)<=i
   · rw[aI h1]at h
     have e:(i+n).toNat=j:=cf h;exact⟨by rw[seqIndex_neg (by omega) h1,e],by omega,h1,by omega⟩
   ·rw[aC h1]at h;cases h
theorem tN{α:Type}{xs:List α}{i:Int}{v:α}(h:cN xs i=some v):∃j,seqIndex? i xs.length=some j/\xs[j]? =some v/\j<xs.length/\-(xs.length:Int)<=i/\i<xs.length:=by unfold cN at h;cases e:gc xs.length i with |none=>rw[e]at h;cases h |some j=>rw[e]at h;obtain⟨h1,h2,h3,h4⟩:=xR e;exact⟨j,h1,h,h2,h3,h4⟩
theorem Kd{α:Type}{xs:List α}{j:Nat}{v:α}(h:xs[j]? =some v):cN xs (j:Int)=some v:=by
 have hj:j<xs.length:=(dM.mp h).1;have e:gc xs.length (j:Int)=some j:=by unfold gc;rw[aI (by omega),aI (by omega)];simp
 unfold cN;rw[e];exact h
def zO(b:Expr):Prop:=∀o i,subscripted b false o i=operate [o,i] (getItem o i)
def gP(X:Cx)(r:R2):Prop:=∀(value slice:Expr)(pins:List (Addr×Obj))(s:LH)(σ:St)(H:Hp)(x y:V)(v u:Value)(Q:VK),Inv X pins σ H s->RelV x v->RelV y u->r x y H Q->subscripted slice false v u=operate [v,u] (getItem v u)->wpAny (model X.prog X.w) X.A (subscriptTail value slice v u) (EP X pins σ Q) X.xe s
def oJ(X:Cx)(id:String)(r:V->List V->Hp->VK->Prop):Prop:=∀(pins:List (Addr×Obj))(s:LH)(σ:St)(H:Hp)(x:V)(xs:List V)(v:Value)(us:List Value)(Q:VK),Inv X pins σ H s->RelV x v->Vals xs us->r x xs H Q->wpAny (model X.prog X.w) X.A (call (.builtin id) (v::us)) (EP X pins σ Q) X.xe s
section
variable {X:Cx}{a b:Expr}{ta tb:TE}{pos:Pos}
theorem gP.or{r r':R2}(h:gP X r)(h':gP X r'):gP X (fun x y H Q=>r x y H Q\/r' x y H Q):=by
 intro value slice pins s σ H x y v u Q I rx ry q hs;rcases q with q|q
 ·exact h value slice pins s σ H x y v u Q I rx ry q hs
 ·exact h' value slice pins s σ H x y v u Q I rx ry q hs
theorem kR{r:R2}(hr:gP X r)(ha:PE X a ta)(hb:PE X b tb)(hs:zO b):PE X (.Subscript a b pos) (kE r ta tb):=by intro pins s σ H Q I h;exact Subscript_ (tI ha hb I h fun v u s2 x y H2 I2 rx ry q=>hr a b pins s2 σ H2 x y v u Q I2 rx ry q (hs _ _))
inductive AN(K:LG)(x:V)(y:V)(H:Hp)(Q:VK):Prop |mk (p:_)(xs:_)(i:_)(v:_)(h0:x= .ref p)(h1:y= .int i)(h2:aa K H p xs)(h3:cN xs i=some v)(h4:Q v H):AN K x y H Q
def qG(K:LG):R2:=fun x y H Q=>AN K x y H Q
inductive AL(K:LG)(x:V)(y:V)(H:Hp)(Q:VK):Prop |mk (p:_)(xs:_)(i:_)(v:_)(h0:x= .ref p)(h1:y= .int i)(h2:ay K H p xs)(h3:cN xs i=some v)(h4:Q v H):AL K x y H Q
def qF(K:LG):R2:=fun x y H Q=>AL K x y H Q
inductive AM(x:V)(y:V)(H:Hp)(Q:VK):Prop |mk (z:_)(i:_)(c:_)(h0:x= .str z)(h1:y= .int i)(h2:z.length<=sizeLine)(h3:cN z.cps.toList i=some c)(h4:Q (.str ⟨#[c]⟩) H):AM x y H Q
def Dx:R2:=fun x y H Q=>AM x y H Q
theorem Gu:gP X (qG X.K):=by
 intro value slice pins s σ H x y v u Q I rx ry h hs;obtain⟨p,xs,i,z,rfl,rfl,hq,he,q⟩:=h;cases rx;obtain⟨t,rfl⟩:=ry;obtain⟨its,r,pl,hz⟩:=I.list hq;obtain⟨j,h1,h2,h3,h4,h5⟩:=tN he;obtain⟨w,ew,qB⟩:=r.get h2;have hl:=r.length;have hn:=iT;have fin:EP X pins σ Q w s:=⟨z,H,I,qB,q⟩;by_cases h0:0<=i
 · have hj:i.toNat=j:=by rw[seqIndex_of h0 h5]at h1;exact cf h1
   exact item_listR pl.isList h0 (by omega) (by rw[hj];simpa using ew) fin hs
 · have hj:(i+(its.toArray.size:Int)).toNat=j:=by rw[seqIndex_neg (by omega) h4]at h1;rw[bC,<-hl];exact cf h1
   exact subscriptTail_builtinR (x:=w) pl.isList.typeIs slot_list_getitem.lookup (wpAny_getItem_list_neg (Q:=fun r s'=>r=w/\EP X pins σ Q r s') pl.isList (by omega) (by rw[bC]<;>omega) (by omega) (by rw[hj];simpa using ew) ⟨rfl,fin⟩) hs
theorem Gs:gP X (qF X.K):=by intro value slice pins s σ H x y v u Q I rx ry h hs;obtain⟨p,xs,i,z,rfl,rfl,hq,he,q⟩:=h;cases rx;obtain⟨t,rfl⟩:=ry;obtain⟨its,r,pl,hz⟩:=I.tuple hq;obtain⟨j,h1,h2,h3,h4,h5⟩:=tN he;obtain⟨w,ew,qB⟩:=r.get h2;have hl:=r.length;have hn:=iT;have fin:EP X pins σ Q w s:=⟨z,H,I,qB,q⟩;exact subscriptTail_builtinR (x:=w) pl.typeIs slot_tuple_getitem.lookup (getItem_tuple (j:=j) (Q:=fun r s'=>r=w/\EP X pins σ Q r s') pl (by omega) (by omega) (by rw[bC,<-hl];exact h1) (by simpa using ew) ⟨rfl,fin⟩) hs
theorem nE:gP X Dx:=by
 intro value slice pins s σ H x y v u Q I rx ry h hs;obtain⟨z,i,c,rfl,rfl,hz,he,q⟩:=h;obtain⟨t,rfl⟩:=rx;obtain⟨t',rfl⟩:=ry;obtain⟨j,h1,h2,h3,h4,h5⟩:=tN he;have hl:z.cps.toList.length=z.length:=by simp[Str.length]
 rw[hl]at h1 h4 h5;have hn:=iT;exact tail_any (m7 s z t) slot_str_getitem.lookup (getItem_str (c:=c) (by have e1:decide (i< -(2^63:Int))=false:=bu (by omega);have e2:decide (i>=2^63)=false:=bu (by omega);rw[e1,e2,Bool.or_false]) (by rw[h1];simpa using h2) ⟨.str ⟨#[c]⟩,H,I.tok _,⟨_,rfl⟩,q⟩) hs
theorem FU(its:List Value)(n j:Nat)(u:Value):Obj.mapSeq (·.setIfInBounds j u) {cls:=.type "list",data:=.seq its.toArray n}={cls:=.type "list",data:=.seq (its.set j u).toArray n}:=by simp[Obj.mapSeq]
theorem Inv.lst{pins:List (Addr×Obj)}{σ:St}{H:Hp}{s:LH}{p:Addr}{xs:List V}(I:Inv X pins σ H s)(h:H p=some (.lst xs)): ∃(its:List Value)(n:Nat),Vals xs its/\s.heap.get? p=some {cls:=.type "list",data:=.seq its.toArray n}/\xs.length<=sizeLine:=by obtain⟨z,its,n,r,e⟩:=I.hok p _ h;exact⟨its,n,r,e,z⟩
theorem Inv.G3{pins:List (Addr×Obj)}{σ:St}{H:Hp}{s:LH}{p:Addr}{xs ys:List V}{its its':List Value}{n n':Nat}{f:Obj->Obj}(I:Inv X pins σ H s)(h:H p=some (.lst xs)) (ho:s.heap.get? p=some {cls:=.type "list",data:=.seq its.toArray n})(hf:f {cls:=.type "list",data:=.seq its.toArray n}={cls:=.type "list",data:=.seq its'.toArray n'})(r:Vals ys its')(hz:ys.length<=sizeLine)(t:Nat): Inv X pins σ (upd H p (.lst ys)) {s with heap:=s.heap.update p f,toks:=t}:=by
  have e:(s.heap.update p f).get? p=some {cls:=.type "list",data:=.seq its'.toArray n'}:=by rw[ph f ho (by rw[hf]<;>rfl),hf]
  refine I.write (x:=p) (e:=p) (by rw[h];trivial) (.inl rfl) (fun b u hb q=>(mh _ _ (eY hb)).trans q) ⟨_,e⟩ ?_;exact⟨hz,its',n',r,e⟩
inductive AH(o:V)(i:V)(v:V)(H:Hp)(Q:Hp->Prop):Prop |mk (p:_)(xs:_)(k:_)(j:_)(h0:o= .ref p)(h1:i= .int k)(h2:H p=some (.lst xs))(h3:gc xs.length k=some j)(h4:Q (upd H p (.lst (xs.set j v)))):AH o i v H Q
def Dv:V->V->V->Hp->(Hp->Prop)->Prop:=fun o i v H Q=>AH o i v H Q
theorem set_list:zP X Dv:=by
 intro pins s σ H o i v ov iv u Q I ro ri rv h;obtain⟨p,xs,k,j,rfl,rfl,hp,hj,q⟩:=h;cases ro;obtain⟨t,rfl⟩:=ri;obtain⟨its,n,r,ho,hz⟩:=I.lst hp;obtain⟨h1,h2,h3,h4⟩:=xR hj;have hl:=r.length;have hn:=iT;have I':Inv X pins σ (upd H p (.lst (xs.set j v))) {s with heap:=s.heap.update p (Obj.mapSeq (·.setIfInBounds j u))}:=I.G3 hp ho (FU its n j u) (r.set rv j) (by rw[List.length_set];exact hz) s.toks;by_cases h0:0<=k
 · have hk:k.toNat=j:=by rw[seqIndex_of h0 h4]at h1;exact cf h1
   exact PySem.W.ki_setAt ho h0 (by omega) (by rw[bC,<-hl];exact h4) (by rw[hk];exact⟨_,I',q⟩)
 · have hk:(k+(its.toArray.size:Int)).toNat=j:=by rw[seqIndex_neg (by omega) h3]at h1;rw[bC,<-hl];exact cf h1
   exact PySem.W.ki_setBack ho (by omega) (by rw[bC,<-hl];exact h3) (by omega) (by rw[hk];exact⟨_,I',q⟩)
theorem CO(lo hi:Option Int)(n:Nat):(sliceBounds lo hi none n).1=((HT.aH n 0 lo:Nat):Int)/\(sliceBounds lo hi none n).2.1=((HT.aH n n hi:Nat):Int)/\(sliceBounds lo hi none n).2.2=1:=by
 refine⟨?_,?_,rfl⟩
 ·cases lo with |none=>simp[sliceBounds,HT.aH] |some i=>
     simp only[sliceBounds,HT.aH,Option.getD_none,show(1:Int)>0 by decide,iq];by_cases h:i<0
     ·simp only[h,iq]<;>omega
     ·simp only[h,if_false]<;>omega
 ·cases hi with |none=>simp[sliceBounds,HT.aH] |some i=>
     simp only[sliceBounds,HT.aH,Option.getD_none,show(1:Int)>0 by decide,iq];by_cases h:i<0
     ·simp only[h,iq]<;>omega
     ·simp only[h,if_false]<;>omega
theorem CP(its:List Value)(lo hi:Option Int):slicePick its.toArray lo hi none=((its.drop (HT.aH its.length 0 lo)).take (HT.aH its.length its.length hi-HT.aH its.length 0 lo)).toArray:=by obtain⟨h1,h2,h3⟩:=CO lo hi its.toArray.size;unfold slicePick;rw[h1,h2,h3];simp only[sliceRange_one,pick_run,bC]<;>rfl
inductive AE(K:LG)(x:V)(lo:Option Int)(hi:Option Int)(H:Hp)(Q:VK):Prop |mk (a:_)(xs:_)(h0:x= .ref a)(h1:aa K H a xs)(h2:∀p,H p=none->Q (.ref p) (upd H p (.lst (cM xs lo hi)))):AE K x lo hi H Q
def Dr(K:LG):V->Option Int->Option Int->Hp->VK->Prop:=fun x lo hi H Q=>AE K x lo hi H Q
theorem CT:lY X (Dr X.K):=by intro pins s σ H x v vl vu lo hi sl Q I rx hs pl pu h;obtain⟨a,xs,rfl,hx,q⟩:=h;cases rx;obtain⟨its,r,ht,hz⟩:=I.list hx;have hlen:=r.length;refine⟨"list",_,slot_list_getitem.lookup,ht.isList.typeIs,?_⟩;refine wpAny_getItem_list_slice ht.isList hs pl pu .none (by simp) ?_ (by rw[bC]<;>omega);rw[CP,<-hlen];refine⟨.ref s.heap.objs.size,_,I.laid (t':=s.toks) (o:=.lst (cM xs lo hi)) (fun b ob q=>bw _ q) (aD _) ?_,rfl,q _ (I.hok.fresh (aD _))⟩;exact⟨bL (za xs lo hi) hz,_,0,(r.drop (HT.aH xs.length 0 lo)).take (HT.aH xs.length xs.length hi-HT.aH xs.length 0 lo),cu _ rfl⟩
def i8:V->Bool | .aq=>true | .bl _=>true | .int _=>true | .str _=>true |_=>false
def ia:V->V->Bool | .aq,.aq=>true | .bl a,.bl b=>a==b | .bl a,.int b=>(if a then 1 else 0)==b | .int a,.bl b=>a==(if b then 1 else 0) | .int a,.int b=>a==b | .str a,.str b=>a==b |_,_=>false
theorem Jt{A:LK}{s:LH}{y x:V}{u v:Value}(ry:RelV y u)(rx:RelV x v)(fy:i8 y=true)(fx:i8 x=true):SeqAt.EqAt A s u v (ia y x):=by cases y with
 |aq=>cases ry;cases x with |aq=>cases rx;exact SeqAt.EqAt.same _ |bl b=>cases rx;exact SeqAt.EqAt.none_bool b |int b=>obtain⟨t,rfl⟩:=rx;exact SeqAt.EqAt.none_int b t |str b=>obtain⟨t,rfl⟩:=rx;exact SeqAt.EqAt.none_str b t |_=>exact absurd (show false=true from fx) aZ
 |bl a=>cases ry;cases x with |aq=>cases rx;exact SeqAt.EqAt.bool_none a |bl b=>cases rx;exact SeqAt.EqAt.bool_bool a b |int b=>obtain⟨t,rfl⟩:=rx;exact SeqAt.EqAt.bool_int a b t |str b=>obtain⟨t,rfl⟩:=rx;exact SeqAt.EqAt.bool_str a b t |_=>exact absurd (show false=true from fx) aZ
 |int a=>obtain⟨t',rfl⟩:=ry;cases x with |aq=>cases rx;exact SeqAt.EqAt.int_none a t' |bl b=>cases rx;exact SeqAt.EqAt.int_bool a t' b |int b=>obtain⟨t,rfl⟩:=rx;exact SeqAt.EqAt.int_int a t' b t |str b=>obtain⟨t,rfl⟩:=rx;exact SeqAt.EqAt.int_str a t' b t |_=>exact absurd (show false=true from fx) aZ
 |str a=>obtain⟨t',rfl⟩:=ry;cases x with |aq=>cases rx;exact SeqAt.EqAt.str_none a t' |bl b=>cases rx;exact SeqAt.EqAt.str_bool a t' b |int b=>obtain⟨t,rfl⟩:=rx;exact SeqAt.EqAt.str_int a t' b t |str b=>obtain⟨t,rfl⟩:=rx;exact SeqAt.EqAt.str_str a t' b t |_=>exact absurd (show false=true from fx) aZ
 |_=>exact absurd (show false=true from fy) aZ
def gL(x:V)(u:Value):Bool:=match u with | .none=>ia .aq x | .bool b=>ia (.bl b) x | .int i _=>ia (.int i) x | .str z _=>ia (.str z) x |_=>false
theorem yT{x y:V}{u:Value}(r:RelV y u)(f:i8 y=true):gL x u=ia y x:=by cases y with |aq=>cases r;rfl |bl b=>cases r;rfl |int i=>obtain⟨t,rfl⟩:=r;rfl |str z=>obtain⟨t,rfl⟩:=r;rfl |_=>exact absurd (show false=true from f) aZ
theorem tO{x:V}:∀{xs:List V}{us:List Value},Vals xs us->xs.all i8=true->us.any (gL x)=xs.any fun y=>ia y x |_,_,.nil,_=>rfl |y::xs,u::us,.cons r t,f=>by rw[jk,bQ]at f;rw[gX,gX,yT r f.1,tO t f.2]
theorem rG{A:LK}{s:LH}{x:V}{v:Value}(rx:RelV x v)(fx:i8 x=true):∀{xs:List V}{us:List Value},Vals xs us->xs.all i8=true->∀u∈us,SeqAt.EqAt A s u v (gL x u)
  |_,_,.nil,_=>fun u hu=>by cases hu |y::xs,u::us,.cons r t,f=>fun u' hu=>by
    rw[jk,bQ]at f;rcases aW.mp hu with rfl|hu
    ·rw[yT r f.1];exact Jt r rx f.1 fx
    ·exact rG rx fx t f.2 u' hu
def xX(x:V)(xs:List V):Bool:=xs.any fun y=>ia y x
inductive AX(K:LG)(neg:Bool)(x:V)(y:V)(H:Hp)(Q:VK):Prop |mk (p:_)(xs:_)(h0:y= .ref p)(h1:(aa K H p xs\/ay K H p xs))(h2:i8 x=true)(h3:xs.all i8=true)(h4:Q (.bl (if neg then !xX x xs else xX x xs)) H):AX K neg x y H Q
def wA(K:LG)(neg:Bool):R2:=fun x y H Q=>AX K neg x y H Q
theorem Eg:aQ X (compareOp .In) (wA X.K false):=by
 intro pins s σ H x y v u Q I rx ry h;obtain⟨p,xs,rfl,hq,fx,fs,q⟩:=h;cases ry;rcases hq with hq|hq
 · obtain⟨its,r,pl,hz⟩:=I.list hq
   refine SeqAt.in_listAt (gL x) pl.isList (fun w hw=>rG rx fx r fs w (by simpa using hw)) ⟨.bl _,H,I,rfl,?_⟩;rw[show its.toArray.any (gL x)=its.any (gL x) by simp,tO r fs];exact q
 · obtain⟨its,r,pl,hz⟩:=I.tuple hq
   refine SeqAt.in_tupleAt (gL x) pl (fun w hw=>rG rx fx r fs w (by simpa using hw)) ⟨.bl _,H,I,rfl,?_⟩;rw[show its.toArray.any (gL x)=its.any (gL x) by simp,tO r fs];exact q
theorem JU:bJ X (.builtin "len") (fun xs H Q=>∃p ys,xs=[.ref p]/\(aa X.K H p ys\/ay X.K H p ys)/\Q (.int ys.length) H):=by
 intro pins s σ H xs us Q I r h;obtain⟨p,ys,rfl,hq,q⟩:=h;obtain⟨u,rfl,rx⟩:=vals1 r;cases rx;have hn:=iT;rcases hq with hq|hq
 · obtain⟨its,r',pl,hz⟩:=I.list hq
   have hlen:=r'.length;exact Calls.call_len_list pl.isList (by simp only[bC]<;>omega) ⟨.int ys.length,H,I.tok _,⟨s.toks+1,by rw[bC,hlen]⟩,q⟩
 · obtain⟨its,r',pl,hz⟩:=I.tuple hq
   have hlen:=r'.length;exact len_tuple pl (by simp only[bC]<;>omega) ⟨.int ys.length,H,I.tok _,⟨s.toks+1,by rw[bC,hlen]⟩,q⟩
theorem jU:bJ X (.builtin "len") (fun xs H Q=>∃z,xs=[.str z]/\z.length<=sizeLine/\Q (.int z.length) H):=by intro pins s σ H xs us Q I r h;obtain⟨z,rfl,hz,q⟩:=h;obtain⟨u,rfl,t,rfl⟩:=vals1 r;have hn:=iT;exact len_str (by omega) ⟨.int z.length,H,I.tok _,⟨_,rfl⟩,q⟩
theorem bJ.or{f:Value}{r r':List V->Hp->VK->Prop}(h:bJ X f r)(h':bJ X f r'):bJ X f (fun xs H Q=>r xs H Q\/r' xs H Q):=by
 intro pins s σ H xs us Q I rs q;rcases q with q|q
 ·exact h pins s σ H xs us Q I rs q
 ·exact h' pins s σ H xs us Q I rs q
theorem JS:bJ X (.type "tuple") (fun xs H Q=>∃p ys,xs=[.ref p]/\((aa X.K H p ys/\∀l,H l=none->Q (.ref l) (upd H l (.tup ys)))\/(ay X.K H p ys/\Q (.ref p) H))):=by
 intro pins s σ H xs us Q I r h;obtain⟨p,ys,rfl,h⟩:=h;obtain⟨u,rfl,rx⟩:=vals1 r;cases rx;rcases h with⟨hq,q⟩|⟨hq,q⟩
 · obtain⟨its,r',pl,hz⟩:=I.list hq
   have hlen:=r'.length;refine call_tuple_list pl.isList (fun h' kp=>?_) (by simp only[bC]<;>omega);have I1:Inv X pins σ H {s with heap:=h'}:=I.kept (t':=s.toks) kp;have I2:Inv X pins σ (upd H h'.objs.size (.tup ys)) {s with heap:=h'.push {cls:=.type "tuple",data:=.seq its.toArray}}:=I1.laid (t':=s.toks) (fun b o e=>bw _ e) (aD _) (show bZ X.prog X.w _ _ _ (.tup ys)from⟨hz,its,r',IsTup.new _ _⟩);exact⟨.ref h'.objs.size,_,I2,rfl,q _ (I1.hok.fresh (aD _))⟩
 · obtain⟨its,r',pl,hz⟩:=I.tuple hq
   exact call_tuple_same pl ⟨.ref p,H,I,rfl,q⟩
def uM(K:LG)(T:String)(x:V)(H:Hp):Prop:=match x with | .str _=>T="str" | .int _=>T="int" | .ref p=>(T="list"/\∃xs,aa K H p xs)\/(T="tuple"/\∃o,K.lookup p=some o/\o.cls= .type "tuple"/\o.dict=none)\/ (T="dict"/\((∃bo,H p=some (.dK bo))\/∃bo,H p=some (.dT bo)))\/(T="set"/\∃S n,H p=some (.set S n)) |_=>False
theorem BV{pins:List (Addr×Obj)}{σ:St}{H:Hp}{s:LH}{T:String}{x:V}{v:Value}(I:Inv X pins σ H s)(r:RelV x v)(ty:uM X.K T x H): s.TypeIs v T/\∀a,v= .ref a->∃ob,s.heap.get? a=some ob/\ob.dict=none:=by cases x with
  |str z=>obtain⟨t,rfl⟩:=r;cases(show T="str" from ty);exact⟨m7 s z t,fun _ e=>nomatch e⟩ |int i=>obtain⟨t,rfl⟩:=r;cases(show T="int" from ty);exact⟨typeIs_int s i t,fun _ e=>nomatch e⟩ |ref p=>
    cases r;rcases ty with⟨rfl,xs,hq⟩|⟨rfl,o,hk,hc,hd⟩|⟨rfl,hk⟩|⟨rfl,S,n,hk⟩
    · obtain⟨its,_,pl,_⟩:=I.list hq
      refine⟨pl.isList.typeIs,fun a e=>?_⟩;cases e;obtain⟨o,n,e,c,hd,_⟩:=pl;exact⟨o,e,hd⟩
    · refine⟨⟨o,I.cL p o hk,hc⟩,fun a e=>?_⟩
      cases e;exact⟨o,I.cL _ o hk,hd⟩
    · have z:∃o,s.heap.get? p=some o/\o.ExactDict:=by
        rcases hk with⟨bo,hk⟩|⟨bo,hk⟩
        · obtain⟨_,_,_,_,o,_,_,e,ex,_⟩:=I.hok p _ hk
          exact⟨o,e,ex⟩
        · obtain⟨_,_,_,_,o,_,_,e,ex,_⟩:=I.hok p _ hk
          exact⟨o,e,ex⟩
      obtain⟨o,e,ex⟩:=z;refine⟨⟨o,e,ex.1⟩,fun a e2=>?_⟩;cases e2;exact⟨o,e,ex.2.1⟩
    · obtain⟨o,_,_,_,e,ex,_⟩:=I.hok p _ hk
      refine⟨⟨o,e,ex.1⟩,fun a e2=>?_⟩;cases e2;exact⟨o,e,ex.2.1⟩ |_=>exact False.elim ty
def kF(K:LG)(T:String)(r:V->List V->Hp->VK->Prop)(to:TE)(t:TA):TE:=fun σ H Q=>to σ H fun x H1=>uM K T x H1/\t σ H1 fun xs H2=>r x xs H2 Q
variable {o e:Expr}{es:List Expr}{to:TE}{t:TA}{name:Str}{apos ba:Pos}{T id:String}{r:V->List V->Hp->VK->Prop}
theorem mV(pa:PlainAttrs T)(slot:Slot T name id)(rX:typeOf (.builtin id)=pure (.type "method_descriptor"))(hm:oJ X id r)(ho:PE X o to)(ha:PA X (e::es) t) (gK:attributeBase o name X.env (eval o X.env)=eval o X.env:=by rfl) (gJ:((backTo ba (starEach (e::es) X.env)).all (fun x=>!x.1)&&(backToKw ba (keywordEach [] X.env)).all (fun x=>x.1.isSome) &&decide ((e::es).length+([]:List Keyword).length+(if([]:List Keyword).isEmpty then 0 else 1)<30))=true:=by rfl) (gH:(apos.endLine==ba.line)=true:=by rfl)(hs:starEach (e::es) X.env=(false,eval e X.env)::starEach es X.env:=by rfl)(gF:(backTo ba (starEach es X.env)).any (·.1)=false:=by rfl): PE X (.Call (.Attribute o name apos) (e::es) [] ba) (kF X.K T r to t):=by intro pins s σ H Q I h;refine wpAny_Call_method_late gK gJ gH rfl (ak (ho pins s σ H _ I h) fun v s1 ⟨x,H1,I1,r1,ty,q1⟩=>?_);obtain⟨h1,h2⟩:=BV I1 r1 ty;refine⟨T,id,pa,slot,rX,h1,h2,?_⟩;have hA:=ha ba pins s1 σ H1 _ I1 q1;rw[hs]at hA⊢;refine Calls.callWith_builtin (by show(false||(backTo ba (starEach es X.env)).any (·.1))=false;rw[gF]<;>rfl) (Calls.evalArgs_plain ?_);exact ak hA fun us s2 ⟨vs,H2,I2,r2,q2⟩=>hm pins s2 σ H2 x vs v us Q I2 r1 r2 q2
end
end L2
namespace L2
open PySem PySem.Spec PyProof.Rows
def Kv(X:Cx)(id:String)(r:V->List V->Hp->VK->Prop):Prop:=∀(pins:List (Addr×Obj))(s:LH)(σ:St)(H:Hp)(x:V)(xs:List V)(v:Value)(us:List Value)(Q:VK),Inv X pins σ H s->RelV x v->Vals xs us->r x xs H Q->wpAny (model X.prog X.w) X.A (call (.builtin id) (v::us)) (EP X pins σ Q) X.xe s
theorem Vals.one:∀{x:V}{us:List Value},Vals [x] us->∃u,us=[u]/\RelV x u |_,_,.cons r .nil=>⟨_,rfl,r⟩
section
variable {X:Cx}{pins:List (Addr×Obj)}{σ:St}{H:Hp}{s:LH}{l b:Addr}{xs ys zs:List V}
theorem Inv.G5{its its':List Value}{n:Nat}{f:Array Value->Array Value}{t':Nat}(I:Inv X pins σ H s)(hH:H l=some (.lst xs)) (e:s.heap.get? l=some {cls:=.type "list",data:=.seq its.toArray n})(hf:f its.toArray=its'.toArray)(hv:Vals ys its')(hz:ys.length<=sizeLine): Inv X pins σ (upd H l (.lst ys)) {s with heap:=s.heap.update l (Obj.mapSeq f),toks:=t'}:=by have q:=PySem.IsL.update e f;rw[hf]at q;refine I.write (x:=l) (e:=l) (by rw[hH];exact trivial) (.inl rfl) (fun b' u hb hu=>(mh s.heap (Obj.mapSeq f) (eY hb)).trans hu) ⟨_,q⟩ ?_;exact⟨hz,its',_,hv,q⟩
theorem Inv.xH{its:List Value}{t':Nat}(I:Inv X pins σ H s)(hv:Vals ys its)(hz:ys.length<=sizeLine): Inv X pins σ (upd H s.heap.objs.size (.lst ys)) {s with heap:=s.heap.push {cls:=.type "list",data:=.seq its.toArray},toks:=t'}:=I.laid (fun _ _ q=>bw _ q) (aD _) ⟨hz,its,0,hv,cu _ rfl⟩
theorem Inv.G4(I:Inv X pins σ H s)(hH:H l=some (.lst xs)):xs.length<=sizeLine/\∃(its:List Value)(n:Nat),Vals xs its/\xs.length=its.length/\s.heap.get? l=some {cls:=.type "list",data:=.seq its.toArray n}:=by obtain⟨z,its,n,r,e⟩:=I.hok l _ hH;exact⟨z,its,n,r,r.length,e⟩
end
section
variable {X:Cx}
inductive B3(x:V)(vs:List V)(H:Hp)(Q:VK):Prop |mk (l:_)(xs:_)(y:_)(h0:x= .ref l)(h1:vs=[y])(h2:H l=some (.lst xs))(h3:xs.length<sizeLine)(h4:Q .aq (upd H l (.lst (xs++[y])))):B3 x vs H Q
def wB:V->List V->Hp->VK->Prop:=fun x vs H Q=>B3 x vs H Q
theorem rE:Kv X "list.append" wB:=by intro pins s σ H x vs v us Q I rx rv h;obtain⟨l,xs,y,rfl,rfl,hH,hz,q⟩:=h;cases rx;obtain⟨u,rfl,ru⟩:=rv.one;obtain⟨z,its,n,r,hl,e⟩:=I.G4 hH;refine call_meets F.slot_list_append ⟨_,e,rfl⟩ F.entry_list_append (F.args_list_append_2 _ _) (PySem.list_append l its.toArray n u (by rw[bC];omega)) ⟨e,?_⟩;refine⟨.aq,_,I.G5 (its':=its++[u]) hH e (by simp) (r.append (.cons ru .nil)) ?_,rfl,q⟩;rw[dc,List.length_singleton];omega
end
section
variable {prog:LI}{w:World}{A:LK}{E:Value->LH->Prop}{s:LH}
end
section
variable {X:Cx}
end
end L2
namespace Att
open PySem PySem.W PySem.Calls PyProof.Rows
theorem GD{P:Params}{h:Heap}:∀(ns:List Int)(vs:List Value),WellAll P h vs (ns.map WData.int)->IntsAre vs ns:=by intro ns;induction ns with |nil=>intro vs w;rw[List.map_nil]at w;cases w;exact .nil |cons n ns ih=>intro vs w;rw[eg]at w;cases w with |cons a b=>cases a;exact .cons _ _ (ih _ b)
theorem D3{l:OpenLaw}{n:Nat}(hn:l.most=some n){P:Params}{h:Heap}{args:List WData}{vals:List Value} (nO:l.row.toRowW.claim.pre args=true)(fh:WellAll P h vals args): ∃a vs ns,vals=[Value.ref a]/\args=[WData.list (ns.map WData.int)]/\h.get? a=some {cls:=.type "list",data:=.seq vs.toArray}/\IntsAre vs ns/\ns.length<=n:=by
  have GX:WShape.hasAll [] args [.list .int]=true:=(pre_splitW nO).1;have hc:l.pre.holds [] {args:=args}=true:=(pre_splitW nO).2;obtain⟨d,r,rfl,h1,h2⟩:=hasAllW_cons GX;obtain rfl:=hasAllW_nil h2;obtain⟨xs,rfl,h3⟩:=hasW_list h1;obtain⟨ns,rfl⟩:=items_int h3;have hlen:ns.length<=n:=by
   unfold OpenLaw.pre at hc;have h4:(WTm.not (.lt (.lit (.int (n:Int))) (.len (.arg 0)))).holds [] {args:=[.list (ns.map .int)]}=true:=by have h4:=(holds_andW hc).1;rw[hn]at h4;exact h4
   have h5:=condW_of h4 (w_not (w_lt w_lit (w_len_list (w_arg rfl))));rw[aE]at h5;refine Nat.le_of_not_lt fun q=>?_;have q':(n:Int)<((ns.length:Nat):Int):=by omega
   first |(rw[br q']at h5;exact absurd h5 (by decide)) |(simp at h5;omega)
  cases fh with |cons w1 w2=>cases w2;cases w1 with |list ho Ih=>exact⟨_,_,ns,rfl,rfl,ho,GD ns _ Ih,hlen⟩
theorem DP(l:OpenLaw)(args:List WData):l.row.toRowW.claim.post args (.bool true) args=true:=postW_of (r:=l.row.toRowW) (X:=(true==true)) (show WShape.has [] (.bool true) .bool=true by first|rfl|decide|simp[WShape.has,WShape.arms,WShape.armsAll]) (show(WTm.eq .res (.lit (.bool true))).value [] {args:=args,res:=some (.bool true),after:=args}=some (.bool (true==true))from w_eq_bool (w_res rfl) w_lit) rfl
theorem Kc{l:OpenLaw}{n:Nat}{q:LI}{loose:List Str}{XP:(Str->Option Value)->Heap->Prop}{YP:World->Heap->Prop}{d:DefRec} (hn:l.most=some n)(lK:d.params.defaults=[]) (call:∀(w:World)(s₀ s₁:LH)(mg mb:Str->Option Value)(fa:Addr)(o:Obj)(pm cd doc:Value)(a:Addr)(vs:List Value)(ns:List Int),Ground q loose [] XP w s₀ mg mb s₁.heap->YP w s₁.heap->s₁.heap.get? fa=some o->o.data= .func (docDef d.name d.params d.body d.scope pm cd doc)->s₁.heap.CodeRec cd d.name->mg d.name=some (.ref fa)->s₁.heap.get? a=some {cls:=.type "list",data:=.seq vs.toArray}->IntsAre vs ns->ns.length<=n->s₁.gens=#[]->codeAny (model l.prog w) callerA (.call (.ref fa) ⟨[.ref a],[]⟩) (fun r s'=>r= .ok (.ret (.bool true))/\OldK s₁.heap s'.heap/\s'.os=s₁.os/\AllBare s'.gens) s₁): WalkO q loose XP YP l.row.toRowW d [] (fun f vs=>PySem.call f vs):=by intro w s₀ s₁ mg mb G Y fa o pm cd doc dV kV ho hd bO hD lH hg args vals as nO Lj Lg fh Hq;obtain rfl:dV= .none:=Dflts.none hD lK;obtain rfl:kV= .none:=Dflts.noKw hD;obtain⟨a,vs,ns,rfl,rfl,si,hints,hlen⟩:=D3 hn nO fh;refine enter_call (oU (call w s₀ s₁ mg mb fa o pm cd doc a vs ns G Y ho (fd_plain hd) bO lH si hints hlen hg) fun r s' hq=>?_);obtain⟨rfl,h2,h3,h4⟩:=hq;exact⟨.inl ⟨.bool true,.bool true,[],rfl,fun _=>rfl,.bool true,DP l _,fun _=>⟨List.Pairwise.nil,fun _ hm=>(nomatch hm)⟩⟩,h2,h3,h4⟩
section
variable {prog:LI}{w:World}{A:LK}{E:Value->LH->Prop}{s:LH}{K:Frag}
end
end Att
namespace L2
open PySem PySem.Spec PyProof.Rows
theorem uL:∀{vs:List Value}{ns:List Int},IntsAre vs ns->Vals (ns.map V.int) vs |_,_,.nil=>.nil |_,_,.cons n t h=>.cons ⟨t,rfl⟩ (uL h)
def tX(H:Hp):Prop:=∀b,H b=none\/∃o xs,H b=some (.fM o (.lst xs))
theorem Gf{P:LI}{w:World}{K:LG}{mg mb:Str->Option Value}{CX:eW}{k:Nat}{fa a:Addr}{fd:FuncData}{x:Str}{sp:Sp}{s₁:LH}{vs:List Value}{ns:List Int} (KX:K.In s₁.heap)(ye:s₁.heap.Ns mainGlobals mg)(hb:s₁.heap.Ns builtinsNs mb)(HX:∀x:Str,x≠"__name__"->mb x=bootBuiltins x)(Hr:s₁.heap.NoLimit)(hg:s₁.gens=#[]) (ha:s₁.heap.get? a=some {cls:=.type "list",data:=.seq vs.toArray})(hi:IntsAre vs ns)(hl:ns.length<=sizeLine)(hr:bj k callerA) (F:∀base:Heap,K.In base->base.Ns mainGlobals mg->dY P w K mg base CX k fa fd [x] sp)(HW:∀(s:LH)(u:Value),BindsTo s fd ⟨[u],[]⟩ [(x,u)]) (bD:∀H:Hp,tX H->aa K H a (ns.map V.int)->sp [.ref a] H (fun v _=>v= .bl true) fun _ _ _=>False) (sJ:∀H e s',CX [] H s₁ (fun _ _ _=>False) e s'->False): codeAny (model P w) callerA (.call (.ref fa) ⟨[.ref a],[]⟩) (fun r s'=>r= .ok (.ret (.bool true))/\OldK s₁.heap s'.heap/\s'.os=s₁.os/\AllBare s'.gens) s₁:=by
  have rv:=uL hi;have Ga:=hi.length;have core:∀H:Hp,tX H->aa K H a (ns.map V.int)->bq P w H s₁.heap->(∀b,H b≠none->b=a)->(H a≠none->K.lookup a=none)->codeAny (model P w) callerA (.call (.ref fa) ⟨[.ref a],[]⟩) (fun r s'=>r= .ok (.ret (.bool true))/\OldK s₁.heap s'.heap/\s'.os=s₁.os/\AllBare s'.gens) s₁:=by
    intro H hO hS hok hA hK;have zE:∀{b:Addr}{o:Obj},s₁.heap.get? b=some o->H b=none->(gI s₁.heap H).get? b=some o:=fun e n=>HK e n;have kW:∀{b:Addr}{o:Obj}{es:Array DictEntry}{ep:Nat},s₁.heap.get? b=some o->o.data= .dict es ep->H b=none:=fun{b o es ep} e d=>by cases q:H b with |none=>rfl |some u=>have e':b=a:=hA b (by rw[q];simp);subst e';rw[ha]at e;cases e;have d':Data.seq vs.toArray _=Data.dict es ep:=d;cases d'
    have nh:∀{b:Addr}{m:Str->Option Value},s₁.heap.Ns b m->(gI s₁.heap H).Ns b m:=fun{b m} ⟨o,es,ep,e,d,r⟩=>⟨o,es,ep,zE e (kW e d),d,r⟩;have yp:K.In (gI s₁.heap H):=fun b o e=>zE (KX b o e) (by cases q:H b with |none=>rfl |some u=>have e':b=a:=hA b (by rw[q];simp);subst e';rw[hK (by rw[q];simp)]at e;cases e);have hM:Mod K mg (gI s₁.heap H):=⟨yp,nh ye,⟨mb,nh hb,HX⟩,let⟨mc,h1,h2⟩:=Hr;⟨mc,nh h1,h2⟩⟩;have e0:gR P w K mg (gI s₁.heap H) callerA [] s₁ H:=⟨rfl,hM,fun b o e=>Fb e,uk (HJ _ _),trivial,fun b hb=>absurd (show b∈([]:List Addr)from hb) (by simp),hok,.of_eq hg⟩;refine oU ((F _ yp (nh ye)).run callerA [] s₁ H ⟨[.ref a],[]⟩ [.ref a] [.ref a] _ _ hr e0 (HW s₁ (.ref a)) (.cons rfl .nil) (bD H hO hS)) fun r s' h=>?_;cases r with |error e=>exact(sJ H e s' h).elim |ok fl=>cases fl with |next=>exact False.elim h |brk=>exact False.elim h |cont=>exact False.elim h |ret u=>obtain⟨v,H',os,bare,un,Hc,r',q⟩:=h;have q':v= .bl true:=q;subst q';obtain rfl:u=Value.bool true:=r';refine⟨rfl,OldK.of_keep fun b o e=>?_,os,bare⟩;cases q:H b with |none=>exact un.keep b o e q (by intro z;exact absurd (show b∈([]:List Addr)from z) (by simp)) (by simp) |some u=>
          rcases hO b with z|⟨ob,xs,z⟩
          ·rw[q]at z;cases z
          · have z2:=un.frzs b ob _ z
            obtain⟨e1,_⟩:=hok b _ z;obtain⟨e2,_⟩:=Hc b _ z2;rw[e]at e1;cases e1;exact e2
  cases hk:K.lookup a with |some o=>have e:=KX a o hk;rw[ha]at e;cases e;refine core (fun _=>none) (fun _=>.inl rfl) (.inr ⟨_,vs.toArray,_,hk,rfl,rfl,rfl,by rw[bC,Ga];exact hl,by simpa using rv⟩) (fun b u z=>by have z':(none:Option HO)=some u:=z;cases z') (fun b z=>absurd rfl z) fun z=>absurd rfl z |none=>
    refine core (fun b=>if b=a then some (.fM {cls:=.type "list",data:=.seq vs.toArray} (.lst (ns.map V.int)))else none) (fun b=>?_) (.inl (.inr ⟨{cls:=.type "list",data:=.seq vs.toArray},aI rfl⟩)) (fun b u z=>?_) (fun b z=>?_) fun _=>hk
    · by_cases hb:b=a
      ·exact .inr ⟨_,_,aI hb⟩
      ·exact .inl (aC hb)
    · by_cases hb:b=a
      · have z':=(aI hb).symm.trans z
        cases z';subst hb;exact⟨ha,by rw[aE];exact hl,vs,_,rv,ha⟩
      · have z':=(aC hb).symm.trans z
        cases z'
    · by_cases hb:b=a
      ·exact hb
      ·exact absurd (aC hb) z
theorem BN{l:PySem.W.OpenLaw}{n k:Nat}{q:LI}{loose:List Str}{XP:(Str->Option Value)->Heap->Prop}{YP:World->Heap->Prop}{d:DefRec}{K:Params->LG}{CX:World->eW}{sp:World->Sp}{x:Str} (hn:l.most=some n)(Hi:n<=sizeLine)(lK:d.params.defaults=[])(hr:bj k callerA) (hY:∀(w:World)(h:Heap),YP w h->(K w.params).In h) (F:∀(w:World)(mg:Str->Option Value)(fa:Addr)(h:Heap),(K w.params).In h->h.Ns mainGlobals mg->mg d.name=some (.ref fa)->∃fd:FuncData,(∀(s:LH)(u:Value),BindsTo s fd ⟨[u],[]⟩ [(x,u)])/\∀base:Heap,(K w.params).In base->base.Ns mainGlobals mg->dY l.prog w (K w.params) mg base (CX w) k fa fd [x] (sp w)) (bD:∀(w:World)(H:Hp)(a:Addr)(ns:List Int),ns.length<=n->tX H->aa (K w.params) H a (ns.map V.int)->sp w [.ref a] H (fun v _=>v= .bl true) fun _ _ _=>False) (sJ:∀(w:World)(H:Hp)(s:LH)(e:Value)(s':LH),CX w [] H s (fun _ _ _=>False) e s'->False): PySem.W.WalkO q loose XP YP l.row.toRowW d [] (fun f vs=>PySem.call f vs):=by refine Att.Kc hn lK fun w s₀ s₁ mg mb fa o pm cd doc a vs ns G Y ho hd bO lH si hints hlen hg=>?_;have KX:=hY w _ Y;obtain⟨fd,hb,hF⟩:=F w mg fa _ KX G.T.g lH;exact Gf KX G.T.g G.T.b G.T.builtins G.T.nolimit hg si hints (bL hlen Hi) hr hF hb (fun H hO hS=>bD w H a ns hlen hO hS) fun H e s'=>sJ w H s₁ e s'
def gn(s:Stmt):Arguments:=match s with | .FunctionDef _ a _ _ _ _ _ _ _ _=>a |_=>{posonlyargs:=[],args:=[],vararg:=none,kwonlyargs:=[],kw_defaults:=[],kwarg:=none,defaults:=[]}
def cZ(s:Stmt):List Stmt:=match s with | .FunctionDef _ _ b _ _ _ _ _ _ _=>b |_=>[]
def aJ(s:Stmt):Scope:=match s with | .FunctionDef _ _ _ _ _ _ sc _ _ _=>sc |_=>{kind:=.function,names:=[],isGenerator:=false,isCoroutine:=false}
abbrev du:eW:=fun _ _ _ _ _ _=>False
abbrev E0:XK:=fun _ _ _=>False
theorem E8{X:Cx}:Passes du X E0:=fun _ _ _ _ _ _ _ h=>h.elim
structure fV(K:LG)(x qual:Str)(st:Stmt)(f:Addr)(fd:FuncData):Prop where
 ex:∃(oc:Value)(od:Option Addr)(kV doc pm:Value)(an:Option Addr)(ah ct:Value)(bW:Array (Option Value)),fd=PySem.W.fnOf x qual (gn st) (cZ st) (aJ st) .none kV doc pm an ah ct/\K.lookup f=some ⟨oc,od,.func fd,bW⟩/\PySem.W.codeIn K ah qual=true
 kp:PySem.W.keepIn K (.ref f)=true
section
variable {P:LI}{w:World}{K:LG}{mg:Str->Option Value}{base:Heap}
theorem fV.ok{x qual:Str}{st:Stmt}{f:Addr}{fd:FuncData}{N ps:List Str}{k:Nat}{sp:Sp}(F:fV K x qual st f fd)(S:aV N ps (aJ st))(len:∀vs H Q E,sp vs H Q E->vs.length=ps.length) (dW:∀(ah:Value)(A:LK)(outer:List Env)(s:LH)(H:Hp)(vs:List V)(Q:VK)(E:XK),bj k (A.deeper (envOfC qual (aJ st) s.heap.objs.size f ah))->sp vs H Q E->∃t,cE (dk du P w K mg base N qual (aJ st) f ah A outer s H E).iS (cZ st) t/\t {nx:=fun _ H'=>Q .aq H',rt:=Q} (start N vs) H):dY P w K mg base du (k+1) f fd ps sp:=by obtain⟨oc,od,kV,doc,pm,an,ah,ct,bW,rfl,lk,bO⟩:=F.ex;refine yM lk bO S len fun A outer s H vs Q E hr bD=>?_;obtain⟨t,h,q⟩:=dW ah A outer s H vs Q E hr bD;exact⟨t,h.iS,q⟩
theorem fV.binds{x qual:Str}{st:Stmt}{f:Addr}{fd:FuncData}{ps:List Str}(F:fV K x qual st f fd) (h:∀(kV doc pm:Value)(an:Option Addr)(ah ct:Value)(us:List Value),us.length=ps.length->bindArgs (PySem.W.fnOf x qual (gn st) (cZ st) (aJ st) .none kV doc pm an ah ct) ⟨us,[]⟩=pure (ps.zip us)):Binds K fd ps []:=by obtain⟨oc,od,kV,doc,pm,an,ah,ct,bW,rfl,lk,bO⟩:=F.ex;exact .all (h kV doc pm an ah ct)
theorem yE{x qual:Str}{st:Stmt}{f:Addr}{oc:Value}{od an:Option Addr}{bW:Array (Option Value)}{kV doc pm ah ct:Value}(l:K.lookup f=some ⟨oc,od,.func (PySem.W.fnOf x qual (gn st) (cZ st) (aJ st) .none kV doc pm an ah ct),bW⟩) (c:PySem.W.codeIn K ah qual=true)(k:PySem.W.keepIn K (.ref f)=true):fV K x qual st f (PySem.W.fnOf x qual (gn st) (cZ st) (aJ st) .none kV doc pm an ah ct):=⟨⟨oc,od,kV,doc,pm,an,ah,ct,bW,rfl,l,c⟩,k⟩
end
section
variable {X:Cx}
theorem pv(i:Nat){x:Str}{pos:Pos}(hN:X.N[i]? =some x:=by rfl)(hv:tS X.env.scope x:=by first|exact Or.inl rfl|exact Or.inr (Or.inl rfl)|exact Or.inr (Or.inr rfl))(hd:(x==("__debug__":Str))=false:=by decide) (bO:(x==("__classdict__":Str))=false:=by decide):PE X (.Name x pos) (uT i):=DZ hN hv hd bO
end
theorem aB{A B:Prop}(h:B):if false=true then A else B:=by rw[aC aZ];exact h
theorem aK{A B:Prop}(h:A):if true=true then A else B:=by rw[aI rfl];exact h
theorem bF{c A B:Prop}[Decidable c](h1:c->A)(h2:¬c->B):if c then A else B:=by
 by_cases h:c
 · rw[aI h]
   exact h1 h
 · rw[aC h]
   exact h2 h
def af(H H':Hp):Prop:=∀b o,H b=some o->H' b=some o
theorem af.refl(H:Hp):af H H:=fun _ _ h=>h
theorem af.trans{H H1 H2:Hp}(a:af H H1)(b:af H1 H2):af H H2:=fun c o h=>b c o (a c o h)
theorem af.free{H H':Hp}(e:af H H'){l:Addr}(h:H' l=Option.none):H l=Option.none:=by cases q:H l with |none=>rfl |some o=>rw[e l o q]at h;cases h
theorem af.seq{K:LG}{H H':Hp}{a:Addr}{xs:List V}(e:af H H')(h:aa K H a xs):aa K H' a xs:=by
 rcases h with(h|⟨o,h⟩)|h
 ·exact .inl (.inl (e _ _ h))
 ·exact .inl (.inr ⟨o,e _ _ h⟩)
 ·exact .inr h
def Wd (i:Int):Prop:=i.natAbs<2^5000
theorem Wd.log{i:Int}(h:Wd i):i.natAbs.log2<9000:=by
 by_cases e:i.natAbs=0
 ·rw[e];decide
 · have h1:i.natAbs.log2<5000:=(Nat.log2_lt e).mpr h
   omega
section
variable {X:Cx}
theorem wR:aQ X (binaryOp .FloorDiv) (rI (fun _ j=>0<j/\Wd j) fun i j=>.int (i/j)):=mZ fun i j _ _ _ _ _ hc q=>by have h1:(0:Int)<j:=hc.1;exact floordiv_int (by omega) (by rw[Int.fdiv_eq_ediv_of_nonneg i (by omega)];exact q) (.inl (PyProof.noPylong_of_log2 hc.2.log))
end
def jd(K:LG)(H:Hp)(x:V)(T:String):Prop:=match x with | .aq=>T="NoneType" | .bl _=>T="bool" | .int _=>T="int" | .str _=>T="str" | .ref a=>(T="list"/\∃xs,aa K H a xs)\/(T="tuple"/\∃xs,ay K H a xs) |_=>False
def ck(T n:String):Bool:=T==n||(T=="bool"&&n=="int")
def mr:List String:=["NoneType","bool","int","str","list","tuple"]
def kz:List String:=["bool","int","str","list","tuple"]
theorem xN{K:LG}{T n:String}(h1:T∈mr)(h2:n∈kz):PySem.W.kitOne K (.type T) (.type n)=some (ck T n):=by
 have all:mr.all (fun T=>kz.all fun n=>PySem.W.kitOne [] (.type T) (.type n)==some (ck T n))=true:=by decide+kernel
 have a1:=bU.mp all T h1;have a2:=bU.mp a1 n h2;have e:PySem.W.kitOne K (.type T) (.type n)=PySem.W.kitOne [] (.type T) (.type n):=by unfold PySem.W.kitOne PySem.W.kitCls PySem.W.subIn;rfl
 rw[e];exact cq.mp a2
section
variable {X:Cx}
theorem jd.mem{K:LG}{H:Hp}{x:V}{T:String}(h:jd K H x T):T∈mr:=by cases x with |aq=>cases(show T="NoneType" from h);decide |bl b=>cases(show T="bool" from h);decide |int b=>cases(show T="int" from h);decide |str b=>cases(show T="str" from h);decide |ref a=>rcases(show(T="list"/\∃xs,aa K H a xs)\/(T="tuple"/\∃xs,ay K H a xs)from h)with⟨e,_⟩|⟨e,_⟩<;>cases e<;>decide |_=>exact(show False from h).elim
theorem xO{pins:List (Addr×Obj)}{s:LH}{σ:St}{H:Hp}{x:V}{u:Value}{T:String}(I:Inv X pins σ H s)(rx:RelV x u)(ty:jd X.K H x T): ∃P:Heap->Prop,PySem.W.KitX X.K u (.type T) P/\P s.heap/\u≠ .builtin "__main__.__loader__#opaque":=by cases x with
  |aq=>cases(show T="NoneType" from ty);cases(show u=Value.none from rx);exact⟨_,PySem.W.kitx_none,True.intro,fun z=>nomatch z⟩ |bl b=>cases(show T="bool" from ty);cases(show u=Value.bool b from rx);exact⟨_,PySem.W.kitx_bool,True.intro,fun z=>nomatch z⟩ |int b=>cases(show T="int" from ty);obtain⟨t,q⟩:=(show∃t,u=Value.int b t from rx);cases q;exact⟨_,PySem.W.kitx_int,True.intro,fun z=>nomatch z⟩ |str b=>cases(show T="str" from ty);obtain⟨t,q⟩:=(show∃t,u=Value.str b t from rx);cases q;exact⟨_,PySem.W.kitx_str,True.intro,fun z=>nomatch z⟩ |ref a=>
    cases(show u=Value.ref a from rx);rcases(show(T="list"/\∃xs,aa X.K H a xs)\/(T="tuple"/\∃xs,ay X.K H a xs)from ty)with⟨e,xs,hx⟩|⟨e,xs,hx⟩
    · cases e
      obtain⟨its,r,⟨o,n,h1,h2,_⟩,_⟩:=I.list hx;exact⟨_,PySem.W.kitx_list,⟨o,h1,h2⟩,fun z=>nomatch z⟩
    · cases e
      obtain⟨its,r,⟨o,h1,h2,_⟩,_⟩:=I.tuple hx;exact⟨_,PySem.W.kitx_tuple,⟨o,h1,h2⟩,fun z=>nomatch z⟩ |_=>exact(show False from ty).elim
inductive AQ(K:LG)(xs:List V)(H:Hp)(Q:VK):Prop |mk (x:_)(T:_)(n:_)(b:_)(h0:xs=[x,.ty n])(h1:jd K H x T)(h2:n∈kz)(h3:ck T n=b)(h4:Q (.bl b) H):AQ K xs H Q
def qI(K:LG):List V->Hp->VK->Prop:=fun xs H Q=>AQ K xs H Q
theorem JW:bJ X (.builtin "isinstance") (qI X.K):=by intro pins s σ H xs us Q I r h;obtain⟨x,T,n,b,rfl,ty,hn,rfl,q⟩:=h;obtain⟨u,c,rfl,rx,rc⟩:=vals2 r;cases(show c=Value.type n from rc);obtain⟨P,Z,p,hx⟩:=xO I rx ty;exact PySem.W.kia_one Z I.cL p (xN ty.mem hn) hx fun tk=>⟨.bl (ck T n),H,I.tok _,rfl,q⟩
inductive AO(K:LG)(xs:List V)(H:Hp)(Q:VK):Prop |mk (x:V)(T:String)(p:Addr)(ns:List String)(b:Bool)(h0:xs=[x,.ref p])(h1:H p=some (.tup (ns.map V.ty)))(h2:jd K H x T)(h3:(∀n∈ns,n∈kz))(h4:ns.any (ck T)=b)(h5:Q (.bl b) H):AO K xs H Q
def qH(K:LG):List V->Hp->VK->Prop:=fun xs H Q=>AO K xs H Q
theorem xM{K:LG}{T:String}(h1:T∈mr):∀{ns:List String},(∀n∈ns,n∈kz)->PySem.W.kitAny K (.type T) (ns.map Value.type)=some (ns.any (ck T)) |[],_=>rfl |n::r,h=>by have e:=xN (K:=K) h1 (h n (ur ..));have ih:=xM (K:=K) h1 (ns:=r) fun m hm=>h m (p6 _ hm);rw[eg,PySem.W.kitAny,e,gX];cases ck T n with |true=>rfl |false=>simpa using ih
theorem uJ:∀{ns:List String}{us:List Value},Vals (ns.map V.ty) us->us=ns.map Value.type |[],_,.nil=>rfl |n::r,_,.cons q t=>by cases(show _=Value.type n from q);rw[uJ t];rfl
theorem JV:bJ X (.builtin "isinstance") (qH X.K):=by intro pins s σ H xs us Q I r h;obtain⟨x,T,p,ns,b,rfl,hp,ty,hn,rfl,q⟩:=h;obtain⟨u,c,rfl,rx,rc⟩:=vals2 r;cases(show c=Value.ref p from rc);obtain⟨P,Z,pp,hx⟩:=xO I rx ty;obtain⟨_,its,rv,⟨cls,dd,dt,sl⟩,h1,h2,n,h3⟩:=(show bZ X.prog X.w H s.heap p (.tup (ns.map V.ty))from I.hok p _ hp);simp only at h2 h3;subst h2 h3;have e:=uJ rv;subst e;exact PySem.W.kia_tup Z I.cL pp h1 (xM ty.mem hn) hx fun tk=>⟨.bl _,H,I.tok _,rfl,q⟩
end
mutual
def RD(K:LG)(H:Hp):V->LJ->Prop |x,.none=>x= .aq |x,.bool b=>x= .bl b |x,.int i=>x= .int i |x,.str y=>x= .str y |x,.list ds=>∃a xs,x= .ref a/\aa K H a xs/\aj K H xs ds |x,.tuple ds=>∃a xs,x= .ref a/\ay K H a xs/\aj K H xs ds |_,.dict _=>False
def aj (K:LG)(H:Hp):List V->List LJ->Prop |xs,[]=>xs=[] |xs,d::ds=>∃y ys,xs=y::ys/\RD K H y d/\aj K H ys ds
end
section
variable {X:Cx}
mutual
theorem RD.reads{pins:List (Addr×Obj)}{s:LH}{σ:St}{H:Hp}(I:Inv X pins σ H s):∀{x:V}{u:Value}(d:LJ),RelV x u->RD X.K H x d->∃as,Reads s.heap u d as |x,u,.none,r,h=>by cases(show x= .aq from by simpa[RD]using h);cases(show u=Value.none from r);exact⟨_,.none⟩ |x,u,.bool b,r,h=>by cases(show x= .bl b from by simpa[RD]using h);cases(show u=Value.bool b from r);exact⟨_,.bool b⟩ |x,u,.int i,r,h=>by cases(show x= .int i from by simpa[RD]using h);obtain⟨t,q⟩:=(show∃t,u=Value.int i t from r);cases q;exact⟨_,.int i t⟩ |x,u,.str y,r,h=>by cases(show x= .str y from by simpa[RD]using h);obtain⟨t,q⟩:=(show∃t,u=Value.str y t from r);cases q;exact⟨_,.str y t⟩ |x,u,.list ds,r,h=>by rw[RD]at h;obtain⟨a,xs,rfl,hx,hd⟩:=h;cases(show u=Value.ref a from r);obtain⟨its,rv,⟨o,n,h1,h2,h3,h4⟩,_⟩:=I.list hx;obtain⟨as,q⟩:=aj.reads I ds rv hd;exact⟨_,.list h1 h2 h4 (by simpa using q)⟩ |x,u,.tuple ds,r,h=>by rw[RD]at h;obtain⟨a,xs,rfl,hx,hd⟩:=h;cases(show u=Value.ref a from r);obtain⟨its,rv,⟨o,h1,h2,n,h4⟩,_⟩:=I.tuple hx;obtain⟨as,q⟩:=aj.reads I ds rv hd;exact⟨_,.tuple h1 h2 h4 (by simpa using q)⟩ |x,u,.dict _,r,h=>by simp[RD]at h
theorem aj.reads {pins:List (Addr×Obj)}{s:LH}{σ:St}{H:Hp}(I:Inv X pins σ H s):∀{xs:List V}{us:List Value}(ds:List LJ),Vals xs us->aj X.K H xs ds->∃as,ReadsAll s.heap us ds as |xs,us,[],r,h=>by cases(show xs=[]from by simpa[aj]using h);cases r;exact⟨_,.nil⟩ |xs,us,d::ds,r,h=>by rw[aj]at h;obtain⟨y,ys,rfl,h1,h2⟩:=h;cases r with |cons ra rb=>obtain⟨as,q⟩:=RD.reads I d ra h1;obtain⟨bs,q'⟩:=aj.reads I ds rb h2;exact⟨_,.cons q q'⟩
end
inductive B0(K:LG)(x:V)(y:V)(H:Hp)(Q:VK):Prop |mk (d:_)(e:_)(h0:RD K H x d)(h1:RD K H y e)(h2:SeqAt.shaped d=true)(h3:SeqAt.shaped e=true)(h4:Q (.bl (PyData.eqv d e)) H):B0 K x y H Q
def qJ(K:LG):R2:=fun x y H Q=>B0 K x y H Q
inductive AJ(K:LG)(x:V)(y:V)(H:Hp)(Q:VK):Prop |mk (d:_)(e:_)(h0:RD K H x d)(h1:RD K H y e)(h2:SeqAt.shaped d=true)(h3:SeqAt.shaped e=true)(h4:Q (.bl (!PyData.eqv d e)) H):AJ K x y H Q
def qE(K:LG):R2:=fun x y H Q=>AJ K x y H Q
theorem Ej(hu:X.A.units+64<cLine):aQ X (compareOp .Eq) (qJ X.K):=by intro pins s σ H x y v u Q I rx ry h;obtain⟨d,e,hd,he,sd,se,q⟩:=h;obtain⟨as,ra⟩:=RD.reads I d rx hd;obtain⟨bs,rb⟩:=RD.reads I e ry he;exact eq_dataH ra rb sd se hu ⟨.bl _,H,I,rfl,q⟩
theorem Ed(hu:X.A.units+64<cLine):aQ X (compareOp .NotEq) (qE X.K):=by intro pins s σ H x y v u Q I rx ry h;obtain⟨d,e,hd,he,sd,se,q⟩:=h;obtain⟨as,ra⟩:=RD.reads I d rx hd;obtain⟨bs,rb⟩:=RD.reads I e ry he;exact ne_dataH ra rb sd se hu ⟨.bl _,H,I,rfl,q⟩
end
end L2
namespace L2
open PySem PySem.Spec PyProof.Rows
theorem af.new{H:Hp}{t:Addr}{o:HO}(ht:H t=none):af H (upd H t o):=fun b o' e=>by rw[aL (cn e ht)];exact e
structure Nw(H H':Hp)(p:Addr)(o:HO):Prop where
 no:H p=none
 at':H' p=some o
 same:af H H'
 eq:H'=upd H p o
theorem Nw.of{H:Hp}{p:Addr}{o:HO}(h:H p=none):Nw H (upd H p o) p o:=⟨h,bR,.new h,rfl⟩
def oB:List Str:=["len","abs","min","max","range","isinstance","int","bool","str","tuple","list","any","all","sum","zip","enumerate","sorted","reversed","ord","chr","divmod","repr","dict","set"]
def bc(mg:Str->Option Value):Prop:=∀x∈oB,mg x=none
theorem bc.at{mg:Str->Option Value}(B:bc mg)(x:Str)(h:x∈oB:=by decide):mg x=none:=B x h
theorem gO{α:Type}{C:List α->Prop}(h:∀a,C [a]):∀us:List α,us.length=1->C us |[_],_=>h _
theorem dm{α:Type}{C:List α->Prop}(h:∀a b,C [a,b]):∀us:List α,us.length=2->C us |[_,_],_=>h _ _
theorem zL{α:Type}{C:List α->Prop}(h:∀a b c,C [a,b,c]):∀us:List α,us.length=3->C us |[_,_,_],_=>h _ _ _
def yH(N P:List Str)(sc:Scope):Bool:=decide (sc.kind= .function)&& !sc.isCoroutine&& !sc.isGenerator&&decide N.Nodup&&decide (N.take P.length=P)&&P.all (fun x=>decide (sc.names.lookup x=some .local\/sc.names.lookup x=some .cell))&&sc.names.all fun y=>decide (y.2≠ .free)
theorem bz{N P:List Str}{sc:Scope}(h:yH N P sc=true):aV N P sc:=by unfold yH at h;simp only[bQ,iu,pj,bU]at h;obtain⟨⟨⟨⟨⟨⟨h1,h2⟩,h3⟩,h4⟩,h5⟩,h6⟩,h7⟩:=h;exact⟨h1,h2,h3,h4,h5,h6,h7⟩
structure FA(K:LG)(mg:Str->Option Value)(x:Str)(st:Stmt):Prop where ex:∃f fd,mg x=some (.ref f)/\fV K x x st f fd
def au(P:LI)(w:World)(K:LG)(mg:Str->Option Value)(base:Heap)(x:Str)(k:Nat)(sp:Sp):Prop:=∃f fd ps,dY P w K mg base du k f fd ps sp/\mg x=some (.ref f)/\PySem.W.keepIn K (.ref f)=true/\Binds K fd ps []
section
variable {P:LI}{w:World}{K:LG}{mg:Str->Option Value}{base:Heap}
theorem Jl{h:Heap}{x:Str}{st:Stmt}{f:Addr}{oc:Value}{od an:Option Addr}{bW:Array (Option Value)}{kV doc pm ah ct:Value}(X:K.In h)(G:h.Ns mainGlobals mg) (a:PySem.W.nsIn K mainGlobals x=some (some (.ref f))) (l:K.lookup f=some ⟨oc,od,.func (PySem.W.fnOf x x (gn st) (cZ st) (aJ st) .none kV doc pm an ah ct),bW⟩) (c:PySem.W.codeIn K ah x=true)(k:PySem.W.keepIn K (.ref f)=true):FA K mg x st:=⟨f,_,kg X G a,yE l c k⟩
theorem FA.has{x:Str}{st:Stmt}{N ps:List Str}{k:Nat}{sp:Sp}(F:FA K mg x st)(S:aV N ps (aJ st))(len:∀vs H Q E,sp vs H Q E->vs.length=ps.length) (hb:∀(kV doc pm:Value)(an:Option Addr)(ah ct:Value)(us:List Value),us.length=ps.length->bindArgs (PySem.W.fnOf x x (gn st) (cZ st) (aJ st) .none kV doc pm an ah ct) ⟨us,[]⟩=pure (ps.zip us)) (dW:∀(f:Addr)(ah:Value)(A:LK)(outer:List Env)(s:LH)(H:Hp)(vs:List V)(Q:VK)(E:XK),bj k (A.deeper (envOfC x (aJ st) s.heap.objs.size f ah))->sp vs H Q E->∃t,cE (dk du P w K mg base N x (aJ st) f ah A outer s H E).iS (cZ st) t/\t {nx:=fun _ H'=>Q .aq H',rt:=Q} (start N vs) H):au P w K mg base x (k+1) sp:=by obtain⟨f,fd,hm,F⟩:=F.ex;exact⟨f,fd,ps,F.ok S len fun ah A outer s H vs Q E=>dW f ah A outer s H vs Q E,hm,F.kp,F.binds hb⟩
end
section
variable {X:Cx}{k:Nat}{x:Str}{p pos:Pos}{e:Expr}{es:List Expr}{t:TA}{sp:Sp}
def uV(sp:Sp)(t:TA):TE:=fun σ H Q=>t σ H fun vs H1=>sp vs H1 Q E0
theorem E5(F:au X.prog X.w X.K X.mg X.base x k sp)(hr:bj k X.A)(hg:Gl X x)(ha:PA X (e::es) t)(dU:(x==("__debug__":Str))=false:=by decide) (he:starEach (e::es) X.env=(false,eval e X.env)::starEach es X.env:=by rfl)(cW:(backTo pos (starEach es X.env)).any (·.1)=false:=by rfl): PE X (.Call (.Name x p) (e::es) [] pos) (uV sp t):=by
  obtain⟨f,fd,ps,F,hm,hk,hb⟩:=F;have h:=wJ (pos:=pos) (p:=p) F hr hg hm hk hb .nil E8 ha dU he cW;intro pins s σ H Q I hq;refine h pins s σ H Q I ?_;have e1:(fun(vs:List V) H1=>sp (vs++[]) H1 Q E0)=fun vs H1=>sp vs H1 Q E0:=by funext vs H1;rw[ji]
  show t σ H fun vs H1=>sp (vs++[]) H1 Q E0;rw[e1];exact hq
theorem pf{j:Nat}(F:au X.prog X.w X.K X.mg X.base x j sp)(hr:bj k X.A)(ha:PA X (e::es) t)(Hx:j<=k:=by decide)(hg:Gl X x:=by rfl)(dU:(x==("__debug__":Str))=false:=by decide)(he:starEach (e::es) X.env=(false,eval e X.env)::starEach es X.env:=by rfl)(cW:(backTo pos (starEach es X.env)).any (·.1)=false:=by rfl):PE X (.Call (.Name x p) (e::es) [] pos) (uV sp t):=E5 F (hr.mono Hx) hg ha dU he cW
theorem fg:aQ X (binaryOp .Mult) (rI (fun i j=>IntMulOk i j) fun i j=>.int (i*j)):=mZ fun _ _ _ _ _ _ _ hc q=>mul_int q hc
theorem Ei:aQ X (compareOp .Eq) (eK fun i j=>.bl (decide (i=j))):=kT fun _ _ _ _ _ _ _ q=>eq_int (by rw[Bool.beq_eq_decide_eq];exact q)
theorem Ec:aQ X (compareOp .NotEq) (eK fun i j=>.bl (!decide (i=j))):=kT fun _ _ _ _ _ _ _ q=>ne_int (by rw[bne,Bool.beq_eq_decide_eq];exact q)
theorem Ek(hu:X.A.units+64<cLine):aQ X (compareOp .Eq) (fun x y H Q=>eK (fun i j=>.bl (decide (i=j))) x y H Q\/qJ X.K x y H Q):=Ei.or (Ej hu)
theorem Ee(hu:X.A.units+64<cLine):aQ X (compareOp .NotEq) (fun x y H Q=>eK (fun i j=>.bl (!decide (i=j))) x y H Q\/qE X.K x y H Q):=Ec.or (Ed hu)
mutual
theorem eqv_refl:∀d:LJ,d.canLay0=true->PyData.eqv d d=true | .none,_=>by simp[PyData.eqv] | .bool b,_=>by simp[PyData.eqv] | .int i,_=>by simp[PyData.eqv] | .str x,_=>by simp[PyData.eqv] | .list ds,h=>by simp only[PyData.eqv];exact eqvAll_refl ds (by simpa[PyData.canLay0]using h) | .tuple ds,h=>by simp only[PyData.eqv];exact eqvAll_refl ds (by simpa[PyData.canLay0]using h) | .dict _,h=>by simp[PyData.canLay0]at h
theorem eqvAll_refl:∀ds:List LJ,PyData.canLayAll0 ds=true->PyData.eqvAll ds ds=true |[],_=>by simp[PyData.eqvAll] |d::ds,h=>by simp only[PyData.canLayAll0,bQ]at h;simp only[PyData.eqvAll,bQ];exact⟨eqv_refl d h.1,eqvAll_refl ds h.2⟩
end
theorem iH{K:LG}{H:Hp}(b:Bool):RD K H (.bl b) (.bool b):=by simp[RD]
theorem eD{K:LG}{H:Hp}(i:Int):RD K H (.int i) (.int i):=by simp[RD]
theorem bb{K:LG}{H:Hp}(x:Str):RD K H (.str x) (.str x):=by simp[RD]
theorem df{K:LG}{H:Hp}:RD K H .aq .none:=by simp[RD]
theorem cw{K:LG}{H:Hp}{p:Addr}{xs:List V}{ds:List LJ}(h:ay K H p xs)(r:aj K H xs ds):RD K H (.ref p) (.tuple ds):=by rw[RD];exact⟨p,xs,rfl,h,r⟩
theorem Di{K:LG}{H:Hp}{p:Addr}{xs:List V}{ds:List LJ}(h:aa K H p xs)(r:aj K H xs ds):RD K H (.ref p) (.list ds):=by rw[RD];exact⟨p,xs,rfl,h,r⟩
theorem cS{K:LG}{H:Hp}:aj K H [] []:=by simp[aj]
theorem bS{K:LG}{H:Hp}{x:V}{xs:List V}{d:LJ}{ds:List LJ}(h:RD K H x d)(r:aj K H xs ds):aj K H (x::xs) (d::ds):=by rw[aj];exact⟨x,xs,rfl,h,r⟩
inductive A2(t:TS)(D:Ends)(σ:St)(H:Hp):Prop |mk (tY:St->Hp->Prop)(h0:t {D with nx:=tY} σ H)(h1:∀σ' H',tY σ' H'->D.nx σ' H'):A2 t D σ H
def Cu (t:TS):TS:=fun D σ H=>A2 t D σ H
theorem gz{st:Stmt}{t:TS}(h:PS X st t):PS X st (Cu t):=by intro pins s σ H D I hq;obtain⟨tY,q,m⟩:=hq;refine ak (h pins s σ H _ I q) fun f s1 q1=>?_;cases f with |next=>obtain⟨σ',H',I',q'⟩:=q1;exact⟨σ',H',I',m _ _ q'⟩ |brk=>exact q1 |cont=>exact q1 |ret u=>exact q1
end
end L2
namespace L2
open PySem PySem.Spec PyProof.Rows
def ij(K:LG)(xs:List Str):Prop:=∀x∈xs,PySem.W.nsIn K mainGlobals x=some none
theorem ij.nil{K:LG}:ij K []:=fun _ h=>nomatch h
theorem ij.cons{K:LG}{x:Str}{xs:List Str}(a:PySem.W.nsIn K mainGlobals x=some none)(r:ij K xs):ij K (x::xs):=fun y hy=>by
 rcases aW.mp hy with e|e
 ·rw[e];exact a
 ·exact r y e
theorem K6{K:LG}{mg:Str->Option Value}{h:Heap}(X:K.In h)(G:h.Ns mainGlobals mg)(a:ij K oB):bc mg:=fun x hx=>PySem.W.mg_none_of X G (a x hx)
theorem Ge{l:PySem.W.OpenLaw}{q:LI}{loose:List Str}{XP:(Str->Option Value)->Heap->Prop}{YP:World->Heap->Prop}{d:DefRec}{K:Params->LG}{k:Nat}{x:Str}{st:Stmt}(hn:l.most=some 63)(lK:d.params.defaults=[]) (hr:bj k callerA)(hY:∀(w:World)(h:Heap),YP w h->(K w.params).In h)(All:LG->(Str->Option Value)->Prop) (F:∀(w:World)(mg:Str->Option Value)(h:Heap),(K w.params).In h->h.Ns mainGlobals mg->All (K w.params) mg) (L:∀(K:LG)(mg:Str->Option Value),All K mg->FA K mg d.name st) (hb:∀(kV doc pm:Value)(an:Option Addr)(ah ct u:Value),bindArgs (PySem.W.fnOf d.name d.name (gn st) (cZ st) (aJ st) .none kV doc pm an ah ct) ⟨[u],[]⟩=pure [(x,u)]) (ok:∀(P:LI)(w:World)(K:LG)(mg:Str->Option Value)(base:Heap)(f:Addr)(fd:FuncData),All K mg->fV K d.name d.name st f fd->dY P w K mg base du k f fd [x] (fun vs H Q _=>∃(a:Addr)(ns:List Int),vs=[.ref a]/\aa K H a (ns.map V.int)/\ns.length<=63/\∀H',Q (.bl true) H')): PySem.W.WalkO q loose XP YP l.row.toRowW d [] (fun f vs=>PySem.call f vs):=L2.BN (n:=63) (k:=k) (x:=x) (CX:=fun _=>du) (sp:=fun w=>fun vs H Q _=>∃(a:Addr)(ns:List Int),vs=[.ref a]/\aa (K w.params) H a (ns.map V.int)/\ns.length<=63/\∀H',Q (.bl true) H') hn (by decide) lK hr hY (fun w mg fa h KX G lH=>by
     have A:=F w mg h KX G;obtain⟨f,fd,hm,Fn⟩:=(L _ _ A).ex;have e:fa=f:=by rw[lH]at hm;injection (cf hm)
     subst e;refine⟨fd,fun s u=>?_,fun base _ _=>ok l.prog w _ mg base fa fd A Fn⟩;obtain⟨oc,od,kV,doc,pm,an,ah,ct,bW,rfl,lk,bO⟩:=Fn.ex;exact .of_eq (hb kV doc pm an ah ct u)) (fun _ _ a ns hl _ hS=>⟨a,ns,rfl,hS,hl,fun _=>rfl⟩) fun _ _ _ _ _ z=>z
theorem tq{env:Env}:∀(ns:List (Str×NameKind))(cs:List (Str×Addr)),(∀x∈ns,x.2= .free->∃c,env.cells.lookup x.1=some c)->(∀x c,cs.lookup x=some c->env.cells.lookup x=some c)->∃cl,(forIn ns cs (fun x r=>if(x.2==NameKind.free)=true then do let a<-cellOf env x.1;pure (ForInStep.yield ((x.1,a)::r))else pure (ForInStep.yield r)):Sem (List (Str×Addr)))=pure cl/\(∀x c,cl.lookup x=some c->env.cells.lookup x=some c)/\(∀x c,cs.lookup x=some c->∃c',cl.lookup x=some c')/\∀x∈ns,x.2= .free->∃c,cl.lookup x.1=some c
  |[],cs,_,h2=>⟨cs,rfl,h2,fun x c e=>⟨c,e⟩,fun _ h=>nomatch h⟩ |(n,k)::r,cs,h1,h2=>by
    by_cases hk:k= .free
    · subst hk
      obtain⟨c,hc⟩:=h1 (n,.free) (.head _) rfl;have e1:cellOf env n=pure c:=by unfold cellOf;rw[show env.cells.lookup n=some c from hc]
      obtain⟨cl,a1,a2,a3,a4⟩:=tq r ((n,c)::cs) (fun x hx=>h1 x (.tail _ hx)) (fun x d e=>by rw[eh]at e;cases z:x==n with |true=>rw[z]at e;cases e;rw[cq.mp z];exact hc |false=>rw[z]at e;exact h2 x d e);refine⟨cl,?_,a2,fun x d e=>?_,fun x hx hf=>?_⟩
      · rw[List.forIn_cons]
        show(do let r'<-(if(NameKind.free==NameKind.free)=true then do let a<-cellOf env n;pure (ForInStep.yield ((n,a)::cs))else pure (ForInStep.yield cs));_)=_;rw[aI (by rfl),e1];exact a1
      · by_cases z:x==n
        ·exact a3 x c (by rw[eh,z])
        ·exact a3 x d (by rw[eh,f6.mpr z];exact e)
      · rcases aW.mp hx with rfl|hx
        ·exact a3 n c (by rw[eh,ub])
        ·exact a4 x hx hf
    · obtain⟨cl,a1,a2,a3,a4⟩:=tq r cs (fun x hx=>h1 x (.tail _ hx)) h2
      refine⟨cl,?_,a2,a3,fun x hx hf=>?_⟩
      · rw[List.forIn_cons]
        show(do let r'<-(if(k==NameKind.free)=true then do let a<-cellOf env n;pure (ForInStep.yield ((n,a)::cs))else pure (ForInStep.yield cs));_)=_;rw[aC (by simpa using hk)];exact a1
      · rcases aW.mp hx with rfl|hx
        ·exact absurd hf hk
        ·exact a4 x hx hf
theorem zm{env:Env}{scope:Scope}(h1:∀x∈scope.names,x.2= .free->∃c,env.cells.lookup x.1=some c): ∃cl,closureFor scope env=pure cl/\(∀x c,cl.lookup x=some c->env.cells.lookup x=some c)/\∀x∈scope.names,x.2= .free->∃c,cl.lookup x.1=some c:=by
  obtain⟨cl,a1,a2,_,a4⟩:=tq (env:=env) scope.names [] h1 (fun x c e=>nomatch e);refine⟨cl,?_,a2,a4⟩;unfold closureFor;show(forIn scope.names ([]:List (Str×Addr)) (fun(x:Str×NameKind) r=>match x with|(name,kind)=>if(kind==NameKind.free)=true then do let a<-cellOf env name;pure (ForInStep.yield ((name,a)::r))else pure (ForInStep.yield r))>>=fun r=>(pure r:Sem (List (Str×Addr))))=pure cl;have ef:(fun(x:Str×NameKind)(r:List (Str×Addr))=>match x with|(name,kind)=>(if(kind==NameKind.free)=true then do let a<-cellOf env name;pure (ForInStep.yield ((name,a)::r))else pure (ForInStep.yield r):Sem (ForInStep (List (Str×Addr))))) =fun x r=>if(x.2==NameKind.free)=true then do let a<-cellOf env x.1;pure (ForInStep.yield ((x.1,a)::r))else pure (ForInStep.yield r):=by funext x r;obtain⟨n,k⟩:=x;rfl
  rw[ef,a1];rfl
theorem xG{env:Env}(hk:env.scope.kind= .function){x:Str}(hx:env.kindOf x=some .cell):∀{names:List (Str×NameKind)},names.lookup x=some .free->(names.map fun(n,k)=>if(k==NameKind.free&&env.scope.kind== .function&&env.kindOf n==some .cell)then(n,NameKind.cell)else(n,k)).lookup x=some .cell |[],h=>nomatch h |(n,k)::r,h=>by have ih:=@xG env hk x hx r;show List.lookup x ((if(k==NameKind.free&&env.scope.kind== .function&&env.kindOf n==some .cell)=true then(n,NameKind.cell)else(n,k))::_)=_;cases z:x==n with |true=>simp only[eh,z]at h;cases h;have e:=cq.mp z;subst e;rw[aI (by rw[hk,hx];rfl),eh,z] |false=>simp only[eh,z]at h;split<;>(simp only[eh,z];exact ih h)
def bI(X:Cx)(N:List Str)(scope:Scope)(cl:List (Str×Addr))(s:LH)(H:Hp)(fp:List Addr)(pins:List (Addr×Obj)):Cx:={prog:=X.prog,w:=X.w,K:=X.K,mg:=X.mg,base:=X.base,A:=X.A,N:=N,s₀:=s,H₀:=H,env:=compEnvC scope cl s.heap.objs.size X.env,outer:=X.stack,stack:=X.stack,ex:=fp,fn:=fun _=>false,calm:=X.calm,pn:=X.pn++pins,xe:=fun _ _=>False}
def stC(js:List (Option Nat))(σ:St):St:=js.map fun|none=>none|some j=>(σ[j]?).join
def oz(X:Cx)(N:List Str)(js:List (Option Nat))(scope:Scope):Bool:=N.length==js.length&&(N.zip js).all fun p=>match p.2 with|none=>true|some j=>X.N[j]? ==some p.1&&scope.names.lookup p.1==some NameKind.free&&X.env.kindOf p.1==some NameKind.cell
def jT(X:Cx)(scope:Scope):Bool:=scope.kind== .function&&X.env.scope.kind== .function&&scope.names.all fun x=>match x.2 with | .free=>X.env.kindOf x.1==some NameKind.cell | .cell=>false | .local=>scope.names.lookup x.1==some NameKind.local |_=>true
section
variable {X:Cx}{pins:List (Addr×Obj)}{σ:St}{H:Hp}{s:LH}
theorem lookup_mem{α β:Type}[BEq α][LawfulBEq α]:∀{l:List (α×β)}{x:α}{b:β},l.lookup x=some b->(x,b)∈l |[],_,_,h=>nomatch h |(n,k)::r,x,b,h=>by rw[eh]at h;cases z:x==n with |true=>rw[z]at h;cases h;rw[cq.mp z];exact .head _ |false=>rw[z]at h;exact .tail _ (lookup_mem h)
theorem wt{env:Env}{x:Str}{k:NameKind}:∀{names:List (Str×NameKind)},(names.map fun(n,k)=>if(k==NameKind.free&&env.scope.kind== .function&&env.kindOf n==some .cell)then(n,NameKind.cell)else(n,k)).lookup x=some k->names.lookup x=some k\/(k= .cell/\names.lookup x=some .free) |[],h=>nomatch h |(n,k')::r,h=>by have ih:=@wt env x k r;have h':List.lookup x ((if(k'==NameKind.free&&env.scope.kind== .function&&env.kindOf n==some .cell)=true then(n,NameKind.cell)else(n,k'))::(r.map fun(n,k)=>if(k==NameKind.free&&env.scope.kind== .function&&env.kindOf n==some .cell)then(n,NameKind.cell)else(n,k)))=some k:=h;cases z:x==n with
    |true=>
      split at h'
      · rename_i hc
        simp only[eh,z]at h';cases h';rw[bQ,bQ]at hc;have e:k'= .free:=cq.mp hc.1.1;subst e;exact .inr ⟨rfl,by rw[eh,z]⟩
      · simp only[eh,z]at h'
        cases h';exact .inl (by rw[eh,z]) |false=>
      rw[eh,z];refine ih ?_;split at h'
      ·simpa only[eh,z]using h'
      ·simpa only[eh,z]using h'
theorem Inv.comp{N:List Str}{js:List (Option Nat)}{scope:Scope}{cl:List (Str×Addr)}{fp:List Addr}{h':Heap}{tk:Nat}(I:Inv X pins σ H s)(hN:oz X N js scope=true)(hS:jT X scope=true) (c1:∀x c,cl.lookup x=some c->X.env.cells.lookup x=some c)(c2:∀x∈scope.names,x.2= .free->∃c,cl.lookup x.1=some c)(hf:∀b∈fp,eU X pins H b)(HN:∀b∈fp,b<s.heap.objs.size) (hn:h'.Ns s.heap.objs.size fun _=>none)(hk:∀b o,s.heap.get? b=some o->h'.get? b=some o):Inv (bI X N scope cl s H fp pins) [] (stC js σ) H {s with heap:=h',toks:=tk}:=by
  unfold jT at hS;rw[bQ,bQ]at hS;obtain⟨⟨s1,s2⟩,s3⟩:=hS;have fK:scope.kind= .function:=cq.mp s1;have Hv:X.env.scope.kind= .function:=cq.mp s2;unfold oz at hN;rw[bQ]at hN;obtain⟨n1,n2⟩:=hN;have hlen:N.length=js.length:=cq.mp n1;have xZ:∀x k,(relabel scope X.env).names.lookup x=some k->scope.names.lookup x=some k\/(k= .cell/\scope.names.lookup x=some .free):=fun x k e=>wt e;have Fz:∀x,scope.names.lookup x≠some .cell:=fun x e=>by have:=bU.mp s3 _ (lookup_mem e);exact aZ this
  have yG:∀b∈(bI X N scope cl s H fp pins).fs,b∈X.env.locals::X.fs:=I.pH;have ok:(bI X N scope cl s H fp pins).Ok:={
    mod:=I.ok.mod
    kind:=fK
    glob:=I.ok.glob
    blt:=I.ok.blt
    above:=aD _
    inj:=fun x y c e1 e2=>I.ok.inj x y c (c1 x c e1) (c1 y c e2)
    has:=fun x hx=>by
     have fr:scope.names.lookup x=some .free->∃c,cl.lookup x=some c:=fun e=>c2 (x,.free) (lookup_mem e) rfl;rcases hx with e|e
     · rcases xZ x _ e with e|⟨_,e⟩
       ·exact absurd e (Fz x)
       ·exact fr e
     · rcases xZ x _ e with e|⟨z,_⟩
       ·exact fr e
       ·cases z
    cab:=fun x c e=>nomatch e
    hd:=I.ok.hd
    frames:=I.ok.frames
    stk:=.inl rfl
    exf:=fun b hb=>⟨bE (HN b hb),fun x c e=>(hf b hb).2.2.2.2.1 x c (c1 x c e)⟩
    bs:=I.bs
    bsz:=bL I.ok.bsz I.sz
    noex:=fun b o e hb=>by
     rcases(hf b hb).2.2.2.1 with z|z
     ·exact I.ok.noex b o e z
     ·exact absurd (dI (aN e) (bL I.ok.bsz z)) (kl _)
    exfs:=fun b hb z=>by
     obtain⟨_,q1,q2,_⟩:=hf b hb;rcases aW.mp (yG b z)with e|e
     ·exact q1 e
     ·exact q2 e
    dF:=I.stack
    frf:=I.mI};refine⟨ok,rfl,I.bare,Un.kept hk,⟨_,hn,fun i x v e1 e2 e3=>?_⟩,fun x c e=>?_,I.hok.fresh (aD _),fun x c e=>I.freeC x c (c1 x c e),fun p hp=>?_,I.hok.kept hk,?_⟩
  · have jR:(js.map fun|none=>none|some j=>(σ[j]?).join)[i]? =some (some v):=e2
    rw[cg]at jR;cases hj:js[i]? with |none=>rw[hj]at jR;cases jR |some o=>rw[hj]at jR;cases o with |none=>cases jR |some j=>
        have hz:(N.zip js)[i]? =some (x,some j):=by rw[List.getElem?_zip_eq_some];exact⟨e1,hj⟩
        have zo:=bU.mp n2 _ (fq hz);simp only[bQ,cq]at zo;obtain⟨⟨h1,h2⟩,h3⟩:=zo;have oo:(σ[j]?).join=some v:=by simpa using jR
        have hσ:σ[j]? =some (some v):=by cases q:σ[j]? with |none=>rw[q]at oo;cases oo |some o=>
           rw[q]at oo;have:o=some v:=by simpa using oo
           rw[this]
        obtain⟨m,hm,hl⟩:=I.loc;obtain⟨u,r,l⟩:=hl j x v h1 hσ (.inr (.inl h3));refine⟨u,r,?_⟩;rcases l with⟨k,_⟩|⟨_,c,hc,i7⟩
        ·rw[h3]at k;cases k
        · obtain⟨c',eQ⟩:=c2 (x,.free) (lookup_mem h2) rfl
          have:=c1 x c' eQ;rw[hc]at this;cases this;refine .inr ⟨.inl (xG Hv h3 h2),c,eQ,?_⟩;obtain⟨ob,ho,hd⟩:=i7;exact⟨ob,hk _ _ ho,hd⟩
  · obtain⟨v,ob,ho,hd⟩:=I.cell x c (c1 x c e)
    exact⟨v,ob,hk _ _ ho,hd⟩
  · have nQ:p∈X.pn++pins:=by simpa[bI]using hp
    obtain⟨a1,a2,a3,a4,a5⟩:=I.pin p nQ;refine⟨hk _ _ a1,a2,bE (aN a1),fun z=>?_,a5⟩;rcases aW.mp (yG p.1 z)with e|e
    ·exact a3 e
    ·exact a4 e
  · show(js.map _).length=N.length
    rw[aE,hlen]
end
theorem zj{prog:LI}{w:World}{A:LK}{R:Result->LH->Prop}{s:LH}{elt target iter:Expr}{ifs:List Expr}{scope:Scope}{pos:Pos}{it acc:Value}{env:Env}(I:Nat->LH->Prop) (turn:∀n s,I n s->wpAny (model prog w) A (pyNext it) (fun r s₁=>match r with |none=>R (.ok .next) s₁ |some v=>wpAny (model prog w) A (letOwnedTupleGo target it v) (fun _ s₁=>wpAny (model prog w) A (assign target env v) (fun _ s₂=>wpAny (model prog w) A (forIn ifs true fun c r=>if r=true then do let ok<-isTrue c env (eval c env);pure (ForInStep.yield ok)else pure (ForInStep.yield r)) (fun ok s₃=>if ok=true then wpAny (model prog w) A (eval elt env) (fun x s₄=>wpAny (model prog w) A (call (.builtin "list.append") [acc,x]) (fun _ s₅=>∃m,m<n/\I m s₅) (fun _ _=>False) s₄) (fun _ _=>False) s₃ else∃m,m<n/\I m s₃) (fun _ _=>False) s₂) (fun _ _=>False) s₁) (fun _ _=>False) s₁) (fun _ _=>False) s) (n:Nat)(h:I n s):codeAny (model prog w) A (.compLoop (.ListComp elt [⟨target,iter,ifs,0⟩] scope pos) 0 it acc env) R s:=by refine codeAny_loop rfl I (fun n s hI=>?_) n h;show wpAny _ A ((compTurn (.ListComp elt [⟨target,iter,ifs,0⟩] scope pos) 0 it acc env).onRaise (fun x=>do noteFrame x env;theTreesLotGoes x)) _ _ s;refine wpAny_noted ?_;rw[compTurn_list];refine ag (k9 (ag (dw (turn n s hI) (fun r s₁ h₁=>?_) fun _ _ h'=>h'.elim)));cases r with |none=>exact aM h₁ |some v=>refine ag (dw h₁ (fun _ KJ h₁=>?_) fun _ _ h'=>h'.elim);refine ag (dw h₁ (fun _ s₂ h₂=>ag (dw h₂ (fun ok s₃ h₃=>?_) fun _ _ h'=>h'.elim)) fun _ _ h'=>h'.elim);cases ok with |false=>exact aM ⟨rfl,h₃⟩ |true=>exact ag (ag (dw h₃ (fun x s₄ h₄=>ag (dw h₄ (fun _ s₅ h₅=>aM (aM ⟨rfl,h₅⟩)) fun _ _ h'=>h'.elim)) fun _ _ h'=>h'.elim))
def oF(X:Cx)(ifs:List Expr)(t:TT):Prop:=∀(pins:List (Addr×Obj))(s:LH)(σ:St)(H:Hp)(Q:Bool->Hp->Prop),Inv X pins σ H s->t σ H Q->wpAny (model X.prog X.w) X.A (forIn ifs true fun c r=>if r=true then do let ok<-isTrue c X.env (eval c X.env);pure (ForInStep.yield ok)else pure (ForInStep.yield r)) (TP X pins σ Q) X.xe s
def g7:TT:=fun _ H Q=>Q true H
theorem eL{X:Cx}:oF X [] g7:=fun _ _ _ H _ I h=>wpAny_tests_nil ⟨H,I,h⟩
theorem DH{X:Cx}{c:Expr}{t:TT}(h:PT X c t):oF X [c] t:=fun pins s σ H Q I hq=>wpAny_tests_one (h pins s σ H Q I hq)
def fZ(J:It)(g:TG)(tt:TT)(te:TE)(Q:VK)(D:Addr)(σ:St)(H:Hp):Prop:=∃W:Nat->Nat->St->Hp->Prop,(∃m,W 0 m σ H)/\∀i m σ' H',W i m σ' H'->(J.stop i H'/\Q (.ref D) H')\/(J.go i H'/\∀x H2,J.yld i H' x H2->g x σ' H2 fun σ3 H3=>tt σ3 H3 fun ok H4=>if ok=true then te σ3 H4 fun y H5=>∃ys,H5 D=some (.lst ys)/\ys.length<sizeLine/\∃m',m'<m/\W (i+1) m' σ3 (upd H5 D (.lst (ys++[y]))) else∃m',m'<m/\W (i+1) m' σ3 H4)
def uW(js:List (Option Nat))(wi:TI)(g:TG)(tt:TT)(te:TE):TE:=fun σ H Q=>wi σ H fun J H1=>∀D H2,Nw H1 H2 D (.lst [])->fZ J g tt te Q D (stC js σ) H2
theorem bq.but{P:LI}{w:World}{H:Hp}{h h':Heap}{C:Addr}(ok:bq P w H h)(hn:H C=none)(hs:Heap.SameBut C h h'):bq P w H h':=fun b ob e=>by
 refine(ok b ob e).fv (fun c w' hc q=>(hs.2 c ?_).trans q) (fun _ q=>q) fun _ _ q=>q;rintro rfl;rcases hc with rfl|hc
 ·rw[hn]at e;cases e
 ·rw[hn]at hc;cases hc
set_option maxHeartbeats 1000000 in
theorem fc{X:Cx}{N:List Str}{js:List (Option Nat)}{elt tg iter:Expr}{ifs:List Expr}{scope:Scope}{pos:Pos}{wi:TI}{g:TG}{tt:TT}{te:TE}(hc:X.calm=true)(hN:oz X N js scope=true)(hS:jT X scope=true) (hi:PI X tg iter wi)(hg:∀cl s H fp pins,PG (bI X N scope cl s H fp pins) tg g)(ht:∀cl s H fp pins,oF (bI X N scope cl s H fp pins) ifs tt)(he:∀cl s H fp pins,PE (bI X N scope cl s H fp pins) elt te) (hs:∀x,foldedSetIterable iter X.env x=pure x:=by intro _;rfl):PE X (.ListComp elt [⟨tg,iter,ifs,0⟩] scope pos) (uW js wi g tt te):=by
  intro pins s σ H Q I h;have j4:=hS;unfold jT at j4;rw[bQ,bQ]at j4;obtain⟨⟨k1,k2⟩,k3⟩:=j4;have fK:scope.kind= .function:=cq.mp k1;have jJ:∀x∈scope.names,x.2= .free->∃c,X.env.cells.lookup x.1=some c:=fun x hx e=>by have:=bU.mp k3 x hx;rw[e]at this;exact I.ok.has x.1 (.inl (cq.mp this))
  have i7:∀x∈scope.names,x.2≠ .cell:=fun x hx e=>by have:=bU.mp k3 x hx;rw[e]at this;exact aZ this
  have sk:∀x∈scope.names,x.2= .local->scope.names.lookup x.1=some .local:=fun x hx e=>by have:=bU.mp k3 x hx;rw[e]at this;exact cq.mp this
  obtain⟨cl,sA,c1,c2⟩:=zm jJ;rw[eval_ListComp];refine wpAny_comprehension_free (use:=none) rfl hs sA fK sk (ak (hi pins s σ H _ I h) fun v s1 h1=>ak h1 fun nF s2 h2=>?_);obtain⟨it,fp,tn,J,H2,e,I2,T,iE,f2,h2⟩:=h2;subst e;have hD:H2 s2.heap.objs.size=none:=I2.hok.fresh (aD _);obtain⟨W,⟨m0,w0⟩,turn⟩:=h2 _ _ (Nw.of hD);refine ip (wpAny_newFunctionEnv i7 (by intro y hy;simp at hy) (fun h₁ lE lu=>?_) fK);have j7:∀b∈fp,b<s2.heap.objs.size:=fun b hb=>by obtain⟨o,e,_⟩:=T.obj _ _ iE b hb;exact aN e
  have I3:Inv X pins σ (upd H2 s2.heap.objs.size (.lst [])) {s2 with heap:=s2.heap.push {cls:=.type "list",dict:=none,data:=.seq ([]:List Value).toArray}}:=I2.xH (its:=[]) (t':=s2.toks) .nil (bK _);generalize lP:s2.heap.push {cls:=.type "list",dict:=none,data:=.seq ([]:List Value).toArray}=h3 at I3 lE lu;have kG:h3.objs.size=s2.heap.objs.size+1:=by rw[<-lP,uE]
  have rN:∀b o,s2.heap.get? b=some o->h3.get? b=some o:=fun b o e=>by rw[<-lP];exact bw _ e
  have f3:∀b∈fp,eU X pins (upd H2 s2.heap.objs.size (.lst [])) b:=fun b hb=>⟨by rw[aL (bE (j7 b hb))];exact(f2 b hb).1,(f2 b hb).2⟩;have l5:∀b o,h3.get? b=some o->h₁.get? b=some o:=fun b o e=>(lu.2 b (bE (aN e))).trans (bw _ e);have I4:Inv (bI X N scope cl {s2 with heap:=h3} (upd H2 s2.heap.objs.size (.lst [])) fp pins) [] (stC js σ) (upd H2 s2.heap.objs.size (.lst [])) {s2 with heap:=h₁,toks:=s2.toks+([]:List (Str×Value)).length}:=I3.comp (s:={s2 with heap:=h3}) hN hS c1 c2 f3 (fun b hb=>by show b<h3.objs.size;rw[kG];exact uj (j7 b hb)) (by simpa using lE) l5;have kH:tn 0 h₁:=T.keep _ _ _ iE fun b _ o e=>l5 b o (rN b o e);have loop:codeAny (model X.prog X.w) X.A (.compLoop (.ListComp elt [⟨tg,iter,ifs,0⟩] scope pos) 0 (.ref it) (.ref s2.heap.objs.size) (compEnvC scope cl h3.objs.size X.env)) (compPost (model X.prog X.w) X.A X.xe none (EP X pins σ Q) (.ref s2.heap.objs.size) h3.objs.size) {s2 with heap:=h₁,toks:=s2.toks+([]:List (Str×Value)).length}:=by
    refine zj (fun n s'=>∃i σ' H',Inv (bI X N scope cl {s2 with heap:=h3} (upd H2 s2.heap.objs.size (.lst [])) fp pins) [] σ' H' s'/\tn i s'.heap/\(∀b∈fp,H' b=none)/\W i n σ' H') ?_ m0 ⟨0,_,_,I4,kH,fun b hb=>(f3 b hb).1,w0⟩;rintro n s5 ⟨i,σ5,H5,I5,gv,j6,w5⟩;have fw:∀{H':Hp},(∀b∈fp,H' b=none)->∀b∈fp,eU (bI X N scope cl {s2 with heap:=h3} (upd H2 s2.heap.objs.size (.lst [])) fp pins) [] H' b:=fun{H'} hn b hb=>by
     obtain⟨_,q1,q2,q3,q4,q5⟩:=f3 b hb;refine⟨hn b hb,fun z=>?_,I4.ok.exfs b hb,.inl hb,fun x c e=>q4 x c (c1 x c e),fun p hp=>q5 p (by simpa[bI]using hp)⟩;have bp:b<h3.objs.size:=by rw[kG];exact uj (j7 b hb)
     exact bE bp z
    rcases turn i n σ5 H5 w5 with⟨stop,qn⟩|⟨go,step⟩
    · refine ak (T.done (bI X N scope cl {s2 with heap:=h3} (upd H2 s2.heap.objs.size (.lst [])) fp pins) rfl rfl rfl hc i [] s5 σ5 H5 _ I5 (fw j6) gv stop) fun r s6 ⟨hr,I6⟩=>?_
      subst hr;obtain⟨m,hm,_⟩:=I6.loc;refine⟨m,hm,fun h7 nM=>?_⟩;have u0:Un (bH X.stack) fp (upd H2 s2.heap.objs.size (.lst [])) H5 h3 s6.heap:=I6.base;have ne:∀b o,h3.get? b=some o->b≠h3.objs.size:=fun b o e=>bE (aN e);have u:Un (bH X.stack) fp (upd H2 s2.heap.objs.size (.lst [])) H5 h3 h7:=⟨fun b o e n hb hx=>(nM.2 b (ne b o e)).trans (u0.keep b o e n hb hx),fun b o e n hb hx=>let⟨sl,q⟩:=u0.slot b o e n hb hx;⟨sl,(nM.2 b (ne b o e)).trans q⟩,u0.free,fun b o e hx=>let⟨o',q⟩:=u0.there b o e hx;⟨o',(nM.2 b (ne b o e)).trans q⟩,u0.tups,u0.frzs,u0.tbls⟩;have I7:Inv X pins σ H5 {s6 with heap:=h7}:=I3.oA (s':={s6 with heap:=h7}) (ch:=fp) I6.os u (I6.hok.but I6.free nM) I6.bare fun b hb=>⟨(f3 b hb).2.2.2.1,(f3 b hb).2.1,(f3 b hb).2.2.2.2.1,(f3 b hb).2.2.2.2.2⟩;exact⟨.ref s2.heap.objs.size,H5,I7,rfl,qn⟩
    · refine ak (T.item (bI X N scope cl {s2 with heap:=h3} (upd H2 s2.heap.objs.size (.lst [])) fp pins) rfl rfl rfl hc i [] s5 σ5 H5 _ I5 (fw j6) gv go) fun r s6 ⟨u,hr,h6⟩=>?_
      subst hr;refine ak h6 fun _ s7 ⟨x,H7,I7,r7,y7,iD,sQ⟩=>?_;have tZ:=I7.pinned (fw sQ) (T.obj _ _ iD);refine ak (hg _ _ _ _ _ _ s7 σ5 H7 x u _ tZ r7 (step x H7 y7)) fun _ s8 ⟨σ8,H8,I8,q8⟩=>?_;refine ak (ht _ _ _ _ _ _ s8 σ8 H8 _ I8 q8) fun ok s9 ⟨H9,I9,q9⟩=>?_;have again:∀{s':LH}{σ7:St}{H7:Hp},Inv (bI X N scope cl {s2 with heap:=h3} (upd H2 s2.heap.objs.size (.lst [])) fp pins) ([]++jv fp s7.heap) σ7 H7 s'->(∃m',m'<n/\W (i+1) m' σ7 H7)->∃m,m<n/\∃i σ' H',Inv (bI X N scope cl {s2 with heap:=h3} (upd H2 s2.heap.objs.size (.lst [])) fp pins) [] σ' H' s'/\tn i s'.heap/\(∀b∈fp,H' b=none)/\W i m σ' H':=fun{s' σ7 H7} J7 n7=>by obtain⟨m',hm,w7⟩:=n7;refine⟨m',hm,i+1,σ7,H7,J7.ky,T.keep _ _ _ iD fun b hb o e=>(J7.pin (b,o) (eJ _ (eJ _ (jG hb e)))).1,fun b hb=>?_,w7⟩;obtain⟨o,e,d⟩:=T.obj _ _ iD b hb;exact(J7.pin (b,o) (eJ _ (eJ _ (jG hb e)))).2.1
      cases ok with |false=>rw[aC aZ]at q9⊢;exact again I9 q9 |true=>rw[aI rfl]at q9⊢;refine ak (he _ _ _ _ _ _ s9 σ8 H9 _ I9 q9) fun yv cI ⟨y,cy,jY,qK,ys,rT,hz,pw⟩=>?_;refine ak (rE _ cI σ8 cy (.ref s2.heap.objs.size) [y] (.ref s2.heap.objs.size) [yv] (fun _ da=>∃m',m'<n/\W (i+1) m' σ8 da) jY rfl (.cons qK .nil) ⟨_,ys,y,rfl,rfl,rT,hz,pw⟩) fun _ f9 ⟨v11,da,u4,DF,jr⟩=>?_;exact again u4 jr
  exact codeAny_compStart_list loop (T.self _ 0 _ _ _ kH loop)
theorem tD:∀{bs:List Bool}{us:List Value},Vals (bs.map V.bl) us->us=bs.map Value.bool |[],_,.nil=>rfl |b::r,_,.cons q t=>by cases(show _=Value.bool b from q);rw[tD t];rfl
section
variable {X:Cx}
theorem JZ(hc:X.calm=true):bJ X (.builtin "all") (fun xs H Q=>∃(l:Addr)(bs:List Bool),xs=[.ref l]/\aa X.K H l (bs.map V.bl)/\Q (.bl (bs.all id)) H):=by
 intro pins s σ H xs us Q I r h;obtain⟨l,bs,rfl,hl,q⟩:=h;obtain⟨u,rfl,ru⟩:=vals1 r;cases(show u=Value.ref l from ru);obtain⟨its,rv,pl,hz⟩:=I.list hl;have e:=tD rv;subst e;have cY:=pl.isList;have bp:l<s.heap.objs.size:=by obtain⟨_,e,_⟩:=cY;exact aN e
 have hh:=I.ok.hd hc;refine call_all_walk (m5 cY ?_);refine⟨s.heap.objs.size,[s.heap.objs.size,l],[s.heap.objs.size],(bs.map Value.bool).toArray.size,_,_,fun i=>(bs[i]?).getD true,rfl,Walks.list (A:=X.A.in1) hh _ l (bE bp) (bs.map Value.bool).toArray,⟨⟨_,cu _ rfl,rfl,rfl⟩,cY.push _⟩,fun i v s' Q' E' hP hQ=>?_,fun h' tk hk=>?_⟩
 · have fL:(bs.map Value.bool)[i]? =some v:=by simpa using hP
   rw[cg]at fL;cases e:bs[i]? with |none=>rw[e]at fL;cases fL |some b=>rw[e]at fL;cases fL;simp only[e,Option.getD_some]at hQ;exact gT hQ
 · have e:((List.range (bs.map Value.bool).toArray.size).all fun i=>(bs[i]?).getD true)=bs.all id:=by rw[bC,aE];exact LSm.range_all bs
   rw[e];exact⟨.bl _,H,I.kept (LSm.kept_iter hk),rfl,q⟩
theorem JY(hc:X.calm=true):bJ X (.builtin "any") (fun xs H Q=>∃(l:Addr)(bs:List Bool),xs=[.ref l]/\aa X.K H l (bs.map V.bl)/\Q (.bl (bs.any id)) H):=by
 intro pins s σ H xs us Q I r h;obtain⟨l,bs,rfl,hl,q⟩:=h;obtain⟨u,rfl,ru⟩:=vals1 r;cases(show u=Value.ref l from ru);obtain⟨its,rv,pl,hz⟩:=I.list hl;have e:=tD rv;subst e;have cY:=pl.isList;have bp:l<s.heap.objs.size:=by obtain⟨_,e,_⟩:=cY;exact aN e
 have hh:=I.ok.hd hc;refine call_any_walk (m5 cY ?_);refine⟨s.heap.objs.size,[s.heap.objs.size,l],[s.heap.objs.size],(bs.map Value.bool).toArray.size,_,_,fun i=>(bs[i]?).getD false,rfl,Walks.list (A:=X.A.in1) hh _ l (bE bp) (bs.map Value.bool).toArray,⟨⟨_,cu _ rfl,rfl,rfl⟩,cY.push _⟩,fun i v s' Q' E' hP hQ=>?_,fun h' tk hk=>?_⟩
 · have fL:(bs.map Value.bool)[i]? =some v:=by simpa using hP
   rw[cg]at fL;cases e:bs[i]? with |none=>rw[e]at fL;cases fL |some b=>rw[e]at fL;cases fL;simp only[e,Option.getD_some]at hQ;exact gT hQ
 · have e:((List.range (bs.map Value.bool).toArray.size).any fun i=>(bs[i]?).getD false)=bs.any id:=by rw[bC,aE];exact LSm.range_any bs
   rw[e];exact⟨.bl _,H,I.kept (LSm.kept_iter hk),rfl,q⟩
end
theorem lU{J:It}{g:TG}{tt:TT}{te:TE}{Q:VK}{D:Addr}{σ:St}{H:Hp}(n:Nat)(Pv:Nat->St->Hp->Prop)(h0:Pv 0 σ H) (hs:∀i σ H,i<n->Pv i σ H->J.go i H/\∀x H2,J.yld i H x H2->g x σ H2 fun σ3 H3=>tt σ3 H3 fun ok H4=>if ok=true then te σ3 H4 fun y H5=>∃ys,H5 D=some (.lst ys)/\ys.length<sizeLine/\∃m',m'<n-i/\m'=n-(i+1)/\i+1<=n/\Pv (i+1) σ3 (upd H5 D (.lst (ys++[y]))) else∃m',m'<n-i/\m'=n-(i+1)/\i+1<=n/\Pv (i+1) σ3 H4) (hd:∀σ H,Pv n σ H->J.stop n H/\Q (.ref D) H): fZ J g tt te Q D σ H:=by
  refine⟨fun i m σ H=>m=n-i/\i<=n/\Pv i σ H,⟨n,by simp,bK _,h0⟩,?_⟩;rintro i m σ H ⟨rfl,hi,p⟩;by_cases bp:i<n
  ·exact .inr (hs i σ H bp p)
  · have e:i=n:=by omega
    subst e;exact .inl (hd σ H p)
section
variable {X:Cx} {tg:Expr}
theorem Gv(K:LG)(h:X.K=K):gP X (fun x y H Q=>qG K x y H Q\/qF K x y H Q):=by subst h;exact Gu.or Gs
inductive AG(K:LG)(x:V)(lo:Option Int)(hi:Option Int)(H:Hp)(Q:VK):Prop |mk (a:_)(xs:_)(h0:x= .ref a)(h1:((aa K H a xs/\∀p H',Nw H H' p (.lst (cM xs lo hi))->Q (.ref p) H')\/ (ay K H a xs/\¬(HT.aH xs.length 0 lo=0/\HT.aH xs.length xs.length hi=xs.length)/\∀p H',Nw H H' p (.tup (cM xs lo hi))->Q (.ref p) H'))):AG K x lo hi H Q
def Du(K:LG):V->Option Int->Option Int->Hp->VK->Prop:=fun x lo hi H Q=>AG K x lo hi H Q
theorem g8(K:LG)(h:X.K=K):lY X (Du K):=by
 subst h;intro pins s σ H x v vl vu lo hi sl Q I rx hs pl pu hq;obtain⟨a,xs,e,hq⟩:=hq;rcases hq with⟨h1,k⟩|⟨h1,h2,k⟩
 ·exact CT pins s σ H x v vl vu lo hi sl Q I rx hs pl pu ⟨a,xs,e,h1,fun p hp=>k p _ (.of hp)⟩
 ·exact CS pins s σ H x v vl vu lo hi sl Q I rx hs pl pu ⟨a,xs,e,h1,h2,fun p hp=>k p _ (.of hp)⟩
theorem Gb(K:LG)(h:X.K=K):bJ X (.builtin "len") (fun xs H Q=>∃p ys,xs=[.ref p]/\(aa K H p ys\/ay K H p ys)/\Q (.int ys.length) H):=by subst h;exact JU
theorem GA(K:LG)(h:X.K=K):bJ X (.builtin "isinstance") (fun xs H Q=>qI K xs H Q\/qH K xs H Q):=by subst h;exact JW.or JV
theorem eR(K:LG)(h:X.K=K)(hu:X.A.units+64<cLine):aQ X (compareOp .Eq) (fun x y H Q=>eK (fun i j=>.bl (decide (i=j))) x y H Q\/qJ K x y H Q):=by subst h;exact Ek hu
theorem nv(K:LG)(h:X.K=K)(hu:X.A.units+64<cLine):aQ X (compareOp .NotEq) (fun x y H Q=>eK (fun i j=>.bl (!decide (i=j))) x y H Q\/qE K x y H Q):=by subst h;exact Ee hu
theorem tP(K:LG)(h:X.K=K)(hc:X.calm=true):bJ X (.builtin "all") (fun xs H Q=>∃(l:Addr)(bs:List Bool),xs=[.ref l]/\aa K H l (bs.map V.bl)/\Q (.bl (bs.all id)) H):=by subst h;exact JZ hc
theorem zI(K:LG)(h:X.K=K)(hc:X.calm=true):bJ X (.builtin "any") (fun xs H Q=>∃(l:Addr)(bs:List Bool),xs=[.ref l]/\aa K H l (bs.map V.bl)/\Q (.bl (bs.any id)) H):=by subst h;exact JY hc
theorem iB(K:LG)(h:X.K=K):bJ X (.type "tuple") (fun xs H Q=>∃p ys,xs=[.ref p]/\((aa K H p ys/\∀l H',Nw H H' l (.tup ys)->Q (.ref l) H')\/(ay K H p ys/\Q (.ref p) H))):=by subst h;intro pins s σ H xs us Q I r hq;obtain⟨p,ys,e,h1⟩:=hq;exact JS pins s σ H xs us Q I r ⟨p,ys,e,h1.imp (fun⟨a,k⟩=>⟨a,fun l hl=>k l _ (.of hl)⟩) id⟩
def Cd(t:TA):TE:=fun σ H Q=>t σ H fun xs H1=>xs.length<=sizeLine/\∀p H',Nw H1 H' p (.tup xs)->Q (.ref p) H'
def Cv(t:TA):TE:=fun σ H Q=>t σ H fun xs H1=>xs.length<=sizeLine/\∀p H',Nw H1 H' p (.lst xs)->Q (.ref p) H'
theorem dA{es:List Expr}{t:TA}{pos:Pos} {x1}(h:PA X es t):PE X (.Tuple es x1 pos) (Cd t):=by intro pins s σ H Q I hq;refine wpAny_Tuple_spliced (ak (h pos pins s σ H _ I hq) fun us s1 ⟨xs,H1,I1,r,z,q⟩=>⟨by rw[<-r.length];exact z,?_⟩);have hf:H1 s1.heap.objs.size=none:=I1.hok.fresh (aD _);refine⟨.ref s1.heap.objs.size,upd H1 s1.heap.objs.size (.tup xs),I1.laid (t':=s1.toks) (fun b u e=>bw _ e) (aD _) ?_,rfl,q _ _ (.of hf)⟩;exact⟨z,us,r,⟨_,cu _ rfl,rfl,_,rfl⟩⟩
theorem cU{es:List Expr}{t:TA}{pos:Pos}(h:PA X es t):PE X (.List es pos) (Cv t):=by intro pins s σ H Q I hq;refine wpAny_List_spliced (ak (h pos pins s σ H _ I hq) fun us s1 ⟨xs,H1,I1,r,z,q⟩=>⟨by rw[<-r.length];exact z,?_⟩);have hf:H1 s1.heap.objs.size=none:=I1.hok.fresh (aD _);refine⟨.ref s1.heap.objs.size,upd H1 s1.heap.objs.size (.lst xs),I1.laid (t':=s1.toks) (fun b u e=>bw _ e) (aD _) ?_,rfl,q _ _ (.of hf)⟩;exact⟨z,us,0,r,cu _ rfl⟩
theorem mU(K:LG)(h:X.K=K){l:Expr}{tl:TE}(hl:PE X l tl):PI X tg l (y4 K tl):=by subst h;exact DU hl
theorem qP(K:LG)(h:X.K=K){l:Expr}{tl:TE}(hl:PE X l tl):PI X tg l (y0 K tl):=by subst h;exact DT hl
theorem qS(K:LG)(h:X.K=K){es:List Expr}{k:Nat}{t:gq}{n:Nat}{pos:Pos}(hc:X.calm=true)(hg:m3 X es t)(hn:(assignEach es X.env).length=n:=by rfl)(eP:(assignEach es X.env).findIdx? (·.1)=none:=by rfl): PG X (.Tuple es k pos) (yD K n t):=by subst h;exact DW hc hg hn eP
theorem wK(K:LG)(h:X.K=K){o e:Expr}{to:TE}{t:TA}{apos ba:Pos}(ho:PE X o to)(ha:PA X [e] t) (gK:attributeBase o "append" X.env (eval o X.env)=eval o X.env:=by rfl) (gJ:((backTo ba (starEach [e] X.env)).all (fun x=>!x.1)&&(backToKw ba (keywordEach [] X.env)).all (fun x=>x.1.isSome) &&decide ([e].length+([]:List Keyword).length+(if([]:List Keyword).isEmpty then 0 else 1)<30))=true:=by rfl) (gH:(apos.endLine==ba.line)=true:=by rfl)(hs:starEach [e] X.env=(false,eval e X.env)::starEach [] X.env:=by rfl)(gF:(backTo ba (starEach [] X.env)).any (·.1)=false:=by rfl): PE X (.Call (.Attribute o "append" apos) [e] [] ba) (kF K "list" wB to t):=by subst h;exact mV PySem.F.plainAttrs_list PySem.F.slot_list_append PySem.F.type_list_append rE ho ha gK gJ gH hs gF
theorem mj{j:Nat}{x:V}{σ:St}{H:Hp}{A B:St->Hp->Prop}(h:A (σ.set j (some x)) H):dX j x σ H fun σ3 H3=>g7 σ3 H3 fun ok H4=>if ok=true then A σ3 H4 else B σ3 H4:=by show if true=true then A (σ.set j (some x)) H else B (σ.set j (some x)) H;rw[aI rfl];exact h
end
end L2
namespace L2
open PySem PySem.Spec PyProof.Rows
theorem aa.go{K:LG}{H H':Hp}{a:Addr}{xs:List V}(s:af H H')(h:aa K H a xs):aa K H' a xs:=h.imp (fun r=>r.imp (s _ _) fun⟨o,e⟩=>⟨o,s _ _ e⟩) id
theorem ay.go{K:LG}{H H':Hp}{a:Addr}{xs:List V}(s:af H H')(h:ay K H a xs):ay K H' a xs:=h.imp (fun r=>r.imp (s _ _) fun⟨o,e⟩=>⟨o,s _ _ e⟩) id
mutual
theorem RD.mono{K:LG}{H H':Hp}(s:af H H'):∀{x:V}(d:LJ),RD K H x d->RD K H' x d |x,.none,h=>by simpa[RD]using h |x,.bool b,h=>by simpa[RD]using h |x,.int i,h=>by simpa[RD]using h |x,.str y,h=>by simpa[RD]using h |x,.list ds,h=>by rw[RD]at h⊢;obtain⟨a,xs,e,h1,h2⟩:=h;exact⟨a,xs,e,h1.go s,aj.mono s ds h2⟩ |x,.tuple ds,h=>by rw[RD]at h⊢;obtain⟨a,xs,e,h1,h2⟩:=h;exact⟨a,xs,e,h1.go s,aj.mono s ds h2⟩ |x,.dict _,h=>by simp[RD]at h
theorem aj.mono {K:LG}{H H':Hp}(s:af H H'):∀{xs:List V}(ds:List LJ),aj K H xs ds->aj K H' xs ds |xs,[],h=>by simpa[aj]using h |xs,d::ds,h=>by rw[aj]at h⊢;obtain⟨y,ys,e,h1,h2⟩:=h;exact⟨y,ys,e,RD.mono s d h1,aj.mono s ds h2⟩
end
section
variable {K:LG} {H H':Hp}
theorem aj.nil_inv{xs:List V}(h:aj K H xs []):xs=[]:=by simpa[aj]using h
theorem aj.cons_inv{xs:List V}{d:LJ}{ds:List LJ}(h:aj K H xs (d::ds)):∃y ys,xs=y::ys/\RD K H y d/\aj K H ys ds:=by rw[aj]at h;exact h
theorem RD.cR{x:V}{ds:List LJ}(h:RD K H x (.tuple ds)):∃a xs,x= .ref a/\ay K H a xs/\aj K H xs ds:=by rw[RD]at h;exact h
theorem RD.lst_inv{x:V}{ds:List LJ}(h:RD K H x (.list ds)):∃a xs,x= .ref a/\aa K H a xs/\aj K H xs ds:=by rw[RD]at h;exact h
theorem RD.int_inv{x:V}{i:Int}(h:RD K H x (.int i)):x= .int i:=by rw[RD]at h;exact h
theorem RD.tH{x:V}{i:Bool}(h:RD K H x (.bool i)):x= .bl i:=by rw[RD]at h;exact h
theorem RD.str_inv{x:V}{i:Str}(h:RD K H x (.str i)):x= .str i:=by rw[RD]at h;exact h
theorem RD.nj{x:V}(h:RD K H x .none):x= .aq:=by rw[RD]at h;exact h
theorem aj.length:∀{xs:List V}{ds:List LJ},aj K H xs ds->xs.length=ds.length |xs,[],h=>by rw[h.nil_inv];rfl |xs,d::ds,h=>by obtain⟨y,ys,rfl,_,h2⟩:=h.cons_inv;rw[ft,ft,aj.length h2]
theorem aj.append:∀{xs ys:List V}{ds es:List LJ},aj K H xs ds->aj K H ys es->aj K H (xs++ys) (ds++es) |xs,ys,[],es,h,g=>by rw[h.nil_inv];exact g |xs,ys,d::ds,es,h,g=>by obtain⟨y,zs,rfl,h1,h2⟩:=h.cons_inv;exact bS h1 (aj.append h2 g)
theorem aj.take:∀(n:Nat){xs:List V}{ds:List LJ},aj K H xs ds->aj K H (xs.take n) (ds.take n) |0,xs,ds,h=>by rw[List.take_zero,List.take_zero];exact cS |n+1,xs,[],h=>by rw[h.nil_inv];exact cS |n+1,xs,d::ds,h=>by obtain⟨y,zs,rfl,h1,h2⟩:=h.cons_inv;exact bS h1 (aj.take n h2)
theorem aj.get:∀(n:Nat){xs:List V}{ds:List LJ}{d:LJ},aj K H xs ds->ds[n]? =some d->∃x,xs[n]? =some x/\RD K H x d
  |n,xs,[],d,h,e=>by simp at e |0,xs,d'::ds,d,h,e=>by
    obtain⟨y,zs,rfl,h1,h2⟩:=h.cons_inv;have e':d'=d:=by simpa using e
    subst e';exact⟨y,rfl,h1⟩ |n+1,xs,d'::ds,d,h,e=>by obtain⟨y,zs,rfl,h1,h2⟩:=h.cons_inv;exact aj.get n h2 (by simpa using e)
def de:LJ->String | .none=>"NoneType" | .bool _=>"bool" | .int _=>"int" | .str _=>"str" | .list _=>"list" | .tuple _=>"tuple" | .dict _=>"dict"
theorem RD.ty{x:V}:∀{d:LJ},RD K H x d->jd K H x (de d) | .none,h=>by rw[h.nj];rfl | .bool b,h=>by rw[h.tH];rfl | .int b,h=>by rw[h.int_inv];rfl | .str b,h=>by rw[h.str_inv];rfl | .list ds,h=>by obtain⟨a,xs,rfl,h1,_⟩:=h.lst_inv;exact .inl ⟨rfl,xs,h1⟩ | .tuple ds,h=>by obtain⟨a,xs,rfl,h1,_⟩:=h.cR;exact .inr ⟨rfl,xs,h1⟩ | .dict _,h=>by simp[RD]at h
structure aX(n:Nat)(d:LJ):Prop where
 lay:d.canLay0=true
 dep:d.depth<=n
def cF(n:Nat)(ds:List LJ):Prop:=∀d∈ds,aX n d
theorem aX.le{n m:Nat}{d:LJ}(h:aX n d)(l:n<=m):aX m d:=⟨h.lay,bL h.dep l⟩
theorem nc{n:Nat}:∀{ds:List LJ},cF n ds↔(PyData.canLayAll0 ds=true/\PyData.depthAll ds<=n)
  |[]=>⟨fun _=>⟨rfl,bK _⟩,fun _ _ h=>nomatch h⟩ |d::ds=>by
    have ih:=nc (n:=n) (ds:=ds);simp only[PyData.canLayAll0,PyData.depthAll,bQ];constructor
    · intro h
      have h1:=h d (.head _);have h2:=ih.mp fun x hx=>h x (.tail _ hx);exact⟨⟨h1.lay,h2.1⟩,Nat.max_le.mpr ⟨h1.dep,h2.2⟩⟩
    · rintro⟨⟨a,b⟩,c⟩ x hx
      have c':=Nat.max_le.mp c;rcases aW.mp hx with rfl|hx
      ·exact⟨a,c'.1⟩
      ·exact ih.mpr ⟨b,c'.2⟩ x hx
theorem cF.tup{n:Nat}{ds:List LJ}(h:cF n ds):aX (n+1) (.tuple ds):=⟨by simpa[PyData.canLay0]using(nc.mp h).1,by simpa[PyData.depth]using(nc.mp h).2⟩
theorem aX.cR{n:Nat}{ds:List LJ}(h:aX (n+1) (.tuple ds)):cF n ds:=nc.mpr ⟨by simpa[PyData.canLay0]using h.lay,by simpa[PyData.depth]using h.dep⟩
theorem aX.int{n:Nat}(i:Int):aX n (.int i):=⟨rfl,bK _⟩
theorem aX.aq{n:Nat}:aX n .none:=⟨rfl,bK _⟩
theorem cF.nil{n:Nat}:cF n []:=fun _ h=>nomatch h
theorem cF.cons{n:Nat}{d:LJ}{ds:List LJ}(h:aX n d)(g:cF n ds):cF n (d::ds):=fun x hx=>by
 rcases aW.mp hx with rfl|hx
 ·exact h
 ·exact g x hx
theorem aX.shaped{n:Nat}{d:LJ}(h:aX n d)(l:n<=64):SeqAt.shaped d=true:=by unfold SeqAt.shaped;rw[h.lay,cj];exact br (bL h.dep l)
def del(H:Hp)(p:Addr):Hp:=fun b=>if b=p then none else H b
theorem ic{H:Hp}{p b:Addr}{o:HO}:del H p b=some o↔b≠p/\H b=some o:=by
 unfold del;by_cases e:b=p
 ·rw[aI e];simp[e]
 ·rw[aC e];simp[e]
theorem yZ{H:Hp}{p:Addr}:af (del H p) H:=fun b o e=>(ic.mp e).2
def SD(p:Addr)(H H':Hp):Prop:=af (del H p) (del H' p)
variable {p:Addr}{n m:Nat}{v:V}{vs:List V}{d:LJ}{ds es:List LJ}
end
section
variable {X:Cx}
end
end L2
namespace HT
open PySem PySem.Spec PyProof.Rows
section
variable {prog:LI}{w:World}{A:LK}{E:Value->LH->Prop}{s:LH}
end
end HT
namespace L2
open PySem PySem.Spec PyProof.Rows
section
variable {X:Cx}
end
def fr(H H':Hp):Hp:=fun b=>match H b with|none=>H' b|some _=>none
theorem gk{H H':Hp}{b:Addr}{o:HO}:fr H H' b=some o↔H b=none/\H' b=some o:=by unfold fr;cases H b<;>simp
theorem J8{H H':Hp}{p:Addr}(hp:H p≠none):af (fr H H') (del H' p):=fun b o e=>ic.mpr ⟨fun z=>hp (z▸(gk.mp e).1),(gk.mp e).2⟩
theorem sP{H H1 H2:Hp}(s:af H1 H2):af (fr H H1) (fr H H2):=fun b o e=>gk.mpr ⟨(gk.mp e).1,s _ _ (gk.mp e).2⟩
theorem J6{H H1 H2:Hp}(s:af H H1):af (fr H1 H2) (fr H H2):=fun b o e=>gk.mpr ⟨s.free (gk.mp e).1,(gk.mp e).2⟩
def mB(K:LG)(d:LJ):TE:=fun _ H Q=>∀v H',af H H'->RD K (fr H H') v d->Q v H'
def Cw(K:LG)(ds:List LJ):TA:=fun _ H Q=>∀vs H',af H H'->aj K (fr H H') vs ds->Q vs H'
def kZ(f:Expr->Option LJ):List Expr->Option (List LJ) |[]=>some [] |e::es=>match f e,kZ f es with |some d,some ds=>some (d::ds) |_,_=>none
def lit:Nat->Expr->Option LJ
  |0,_=>none |_+1,.Constant .none _ _=>some .none |_+1,.Constant (.bool b) _ _=>some (.bool b) |_+1,.Constant (.int i) _ _=>some (.int i) |_+1,.Constant (.str x) _ _=>some (.str x) |n+1,.Tuple es _ _=>match kZ (lit n) es with |some ds=>if ds.length<=1000 then some (.tuple ds)else none |none=>none
  |n+1,.List es _=>match kZ (lit n) es with |some ds=>if ds.length<=1000 then some (.list ds)else none |none=>none
  |n+1,.UnaryOp .USub a _=>match lit n a with |some (.int i)=>some (.int (-i)) |_=>none
  |n+1,.BinOp a .Pow b _=>match lit n a,lit n b with |some (.int i),some (.int j)=>if 0<=j/\j<=1000000/\i.natAbs<2^64 then some (.int (i^j.toNat))else none |_,_=>none
  |_,_=>none
section
variable {X:Cx}
theorem CK{e:Expr}{es:List Expr}{env:Env}(h:∀a b,e≠ .Starred a b):starEach (e::es) env=(false,eval e env)::starEach es env:=by cases e<;>first|rfl|exact absurd rfl (h _ _)
theorem G9{n:Nat}{e:Expr}{d:LJ}(h:lit n e=some d):∀a b,e≠ .Starred a b:=by intro a b z;subst z;cases n<;>simp[lit]at h
theorem wL(K:LG)(f:Expr->Option LJ)(hp:∀e d,f e=some d->∀a b,e≠ .Starred a b)(hf:∀e d,f e=some d->PE X e (mB K d)):∀(es:List Expr)(ds:List LJ),kZ f es=some ds->PA X es (Cw K ds)
  |[],ds,h=>by cases h;intro pos pins s σ H Q I hq;exact a8 pos pins s σ H Q I (hq [] H (af.refl H) cS) |e::es,ds,h=>by
    rw[kZ]at h;split at h
    · rename_i d JC e1 e2
      cases h;intro pos pins s σ H Q I hq;refine a7 (hf e d e1) (wL K f hp hf es JC e2) (CK (hp e d e1)) pos pins s σ H Q I ?_;intro v H1 s1 r1 vs H2 s2 r2;exact hq (v::vs) H2 (s1.trans s2) (bS (RD.mono (sP s2) _ r1) (aj.mono (J6 s1) _ r2))
    ·cases h
theorem kQ(K:LG)(hK:X.K=K):∀(n:Nat)(e:Expr)(d:LJ),lit n e=some d->PE X e (mB K d)
  |0,e,d,h=>by simp[lit]at h |n+1,e,d,h=>by
    have hA:=wL (X:=X) K (lit n) (fun e d h=>G9 h) (fun e d h=>kQ K hK n e d h);unfold lit at h;split at h
    case h_1=>cases‹Nat.succ n=0›
    case h_2=>cases h;intro pins s σ H Q I hq;exact cC pins s σ H Q I (hq .aq H (af.refl H) df)
    case h_3=>cases h;intro pins s σ H Q I hq;exact hV pins s σ H Q I (hq (.bl _) H (af.refl H) (iH _))
    case h_4=>cases h;intro pins s σ H Q I hq;exact ae pins s σ H Q I (hq (.int _) H (af.refl H) (eD _))
    case h_5=>cases h;intro pins s σ H Q I hq;exact aw pins s σ H Q I (hq (.str _) H (af.refl H) (bb _))
    case h_6=>
     rename_i m es _ _ hm;cases hm;split at h
     · rename_i ds e1
       by_cases hl:ds.length<=1000
       · rw[aI hl]at h
         cases h;intro pins s σ H Q I hq;refine dA (hA es ds e1) pins s σ H Q I ?_;intro vs H1 s1 r1;refine⟨by rw[r1.length];exact bL hl (by decide),fun p H' nw=>?_⟩;refine hq _ _ (s1.trans nw.same) (cw (ay.of (gk.mpr ⟨s1.free nw.no,nw.at'⟩)) (aj.mono (sP nw.same) _ r1))
       ·rw[aC hl]at h;cases h
     ·cases h
    case h_7=>
     rename_i m es _ hm;cases hm;split at h
     · rename_i ds e1
       by_cases hl:ds.length<=1000
       · rw[aI hl]at h
         cases h;intro pins s σ H Q I hq;refine cU (hA es ds e1) pins s σ H Q I ?_;intro vs H1 s1 r1;refine⟨by rw[r1.length];exact bL hl (by decide),fun p H' nw=>?_⟩;refine hq _ _ (s1.trans nw.same) (Di (aa.of (gk.mpr ⟨s1.free nw.no,nw.at'⟩)) (aj.mono (sP nw.same) _ r1))
       ·rw[aC hl]at h;cases h
     ·cases h
    case h_8=>
     rename_i m a _ hm;cases hm;split at h
     · rename_i i e1
       cases h;intro pins s σ H Q I hq;refine iK iA (kQ K hK n a _ e1) pins s σ H Q I ?_;intro v H1 s1 r1;exact⟨i,r1.int_inv,hq _ _ s1 (eD _)⟩
     ·cases h
    case h_9=>
     rename_i m a b _ hm;cases hm;split at h
     · rename_i i j e1 e2
       by_cases hc:0<=j/\j<=1000000/\i.natAbs<2^64
       · rw[aI hc]at h
         cases h;intro pins s σ H Q I hq;refine az mW (kQ K hK n a _ e1) (kQ K hK n b _ e2) pins s σ H Q I ?_;intro v H1 s1 r1 v2 H2 s2 r2;exact⟨i,j,r1.int_inv,r2.int_inv,hc,hq _ _ (s1.trans s2) (eD _)⟩
       ·rw[aC hc]at h;cases h
     ·cases h
    case h_10=>cases h
end
end L2
namespace L2
theorem d9{α:Type}{xs:List α}{i:Int}{v:α}(h0:0<=i)(h:xs[i.toNat]? =some v):cN xs i=some v:=by have hl:i.toNat<xs.length:=(dM.mp h).1;unfold cN gc;rw[aI h0,aI (by omega)];exact h
end L2
namespace L2
open PySem PySem.Spec PyProof.Rows
theorem CN(n:Nat)(h:n<=1000):n<=sizeLine:=bL h (by decide)
structure zR(X:Cx)(e:Expr)(t:TE):Prop where out:PE X e t
theorem E1{X:Cx}(K:LG)(hK:X.K=K)(n:Nat)(e:Expr)(d:LJ)(h:lit n e=some d):zR X e (mB K d):=⟨kQ K hK n e d h⟩
section
variable {X:Cx}{p pos pos':Pos}{a b e:Expr}{es:List Expr}{ta tb te:TE}{t:TA}{x:Str}
theorem px(K:LG)(ha:PE X a ta)(hb:PE X b tb)(hK:X.K=K:=by rfl)(hp:zO b:=by exact fun _ _=>rfl):PE X (.Subscript a b pos) (kE (fun x y H Q=>qG K x y H Q\/qF K x y H Q) ta tb):=kR (Gv K hK) ha hb hp
theorem fC(K:LG)(B:bc X.mg)(ha:PA X (e::es) t)(hK:X.K=K:=by rfl)(hg:Gl X "isinstance":=by rfl)(he:starEach (e::es) X.env=(false,eval e X.env)::starEach es X.env:=by rfl)(cW:(backTo pos (starEach es X.env)).any (·.1)=false:=by rfl):PE X (.Call (.Name "isinstance" p) (e::es) [] pos) (mC (fun xs H Q=>qI K xs H Q\/qH K xs H Q) t):=cm (GA K hK) hg (B.at "isinstance") ug ha (by decide) (by decide) he cW
theorem dg(K:LG)(B:bc X.mg)(ha:PA X (e::es) t)(hK:X.K=K:=by rfl)(hg:Gl X "len":=by rfl)(he:starEach (e::es) X.env=(false,eval e X.env)::starEach es X.env:=by rfl)(cW:(backTo pos (starEach es X.env)).any (·.1)=false:=by rfl):PE X (.Call (.Name "len" p) (e::es) [] pos) (mC (fun xs H Q=>∃p ys,xs=[.ref p]/\(aa K H p ys\/ay K H p ys)/\Q (.int ys.length) H) t):=cm (Gb K hK) hg (B.at "len") kf ha (by decide) (by decide) he cW
theorem pS(i:Nat)(hN:X.N.Nodup)(he:PE X e te)(hi:X.N[i]? =some x:=by rfl)(hx:Loc X.env.scope x:=by first|exact Or.inl rfl|exact Or.inr rfl)(hs:swapsWith e (some (.Name x pos')) pos.line X.env=pure false:=by rfl)(hf:X.fn x=true\/X.env.scope.names.lookup x=some .local:=by first|exact .inl rfl|exact .inr rfl|assumption):PS X (.Assign [.Name x pos'] e pos) (mE te (dX i)):=DN hN hi hx he hs hf
theorem bA(i:Nat)(hN:X.N.Nodup)(hi:X.N[i]? =some x:=by rfl)(hx:Loc X.env.scope x:=by first|exact Or.inl rfl|exact Or.inr rfl)(hf:X.fn x=true\/X.env.scope.names.lookup x=some .local:=by first|exact .inl rfl|exact .inr rfl|assumption):PG X (.Name x pos) (dX i):=DX hN hi hx hf
theorem gD (a:Str):[a].Nodup:=by simp
theorem jE{a b:Str}(h:(a==b)=false):[a,b].Nodup:=by
 have:a≠b:=fun z=>by rw[z,ub]at h;cases h
 simp[this]
theorem dQ{n:Nat}(h:Nat.ble n 1000=true):n<=sizeLine:=CN n (Nat.le_of_ble_eq_true h)
end
end L2
namespace L2
open PySem PySem.Spec PyProof.Rows
def GV(mg:Str->Option Value)(x:Str)(v:V):Prop:=∃u,mg x=some u/\RelV v u
def GT(K:LG)(mg:Str->Option Value)(x:Str)(vs:List V):Prop:=∃a,GV mg x (.ref a)/\∀H,ay K H a vs
theorem cD{X:Cx}{x:Str}{v:V}{pos:Pos}(hg:Gl X x)(h:GV X.mg x v)(hd:(x==("__debug__":Str))=false:=by decide):PE X (.Name x pos) (tC v):=by obtain⟨u,hm,r⟩:=h;exact E2 hg hm r hd
section
variable {K:LG}{mg:Str->Option Value}{h:Heap}
theorem lS{x:Str}{i:Int}{t:Tok}(X:K.In h)(G:h.Ns mainGlobals mg)(a:PySem.W.nsIn K mainGlobals x=some (some (.int i t))):GV mg x (.int i):=⟨_,kg X G a,t,rfl⟩
theorem IX{x:Str}{vs:List V}{b:Addr}{its:Array Value}{n:Nat}{od:Option Addr}{bW:Array (Option Value)}(X:K.In h)(G:h.Ns mainGlobals mg)(a:PySem.W.nsIn K mainGlobals x=some (some (.ref b))) (l:K.lookup b=some ⟨.type "tuple",od,.seq its n,bW⟩)(hz:its.size<=sizeLine)(r:Vals vs its.toList):GT K mg x vs:=⟨b,⟨_,kg X G a,rfl⟩,fun H=>.inr ⟨_,its,n,l,rfl,rfl,hz,r⟩⟩
end
section
variable {X:Cx}
theorem xY(K:LG)(h:X.K=K):aQ X (compareOp .In) (wA K false):=by subst h;exact Eg
end
theorem zi{J:It}{xs:List V}{bs:List Bool}{te:TE}{Q:VK}{D:Addr}{H H0:Hp}(rest:St)(nw:Nw H H0 D (.lst []))(hl:xs.length=bs.length)(hz:xs.length<=1000) (go:∀i x H2,xs[i]? =some x->af H H2->J.go i H2/\∀y H3,J.yld i H2 y H3->H3=H2/\y=x)(stop:∀H2,af H H2->J.stop xs.length H2) (hs:∀(i:Nat)(x:V)(b:Bool)(H2:Hp)(Q':VK),xs[i]? =some x->bs[i]? =some b->af H H2->(∀H3,af H2 H3->Q' (.bl b) H3)->te (some x::rest) H2 Q') (hq:∀H',af H H'->H' D=some (.lst (bs.map V.bl))->Q (.ref D) H'):fZ J (dX 0) g7 te Q D (none::rest) H0:=by
  have hD:=nw.no;refine lU xs.length (fun i σ H2=>af H H2/\H2 D=some (.lst ((bs.take i).map V.bl))/\∃v,σ=v::rest) ?_ ?_ ?_
  ·exact⟨nw.same,nw.at',none,rfl⟩
  · rintro i σ H2 hi ⟨s2,d2,v,rfl⟩
    have nU:i<bs.length:=by rw[<-hl];exact hi
    have ex:=fu hi;have eb:=fu nU;obtain⟨g1,g2⟩:=go i _ H2 ex s2;refine⟨g1,fun y H3 hy=>?_⟩;obtain⟨rfl,rfl⟩:=g2 y H3 hy;refine mj ?_;refine hs i _ _ _ _ ex eb s2 fun H4 s4=>?_;refine⟨_,s4 _ _ d2,?_,xs.length-(i+1),by omega,rfl,by omega,fun b o e=>?_,?_,_,rfl⟩
    · rw[aE,gW]
      have:(1000:Nat)<sizeLine:=by decide
      omega
    ·rw[aL (cn e hD)];exact s4 b o (s2 b o e)
    ·rw[bR,oZ,eb,dJ];rfl
  · rintro σ H2 ⟨s2,d2,v,rfl⟩
    refine⟨stop H2 s2,hq H2 s2 ?_⟩;rw[d2,hl,List.take_length]
theorem zh{K:LG}{a:Addr}{xs:List V}{bs:List Bool}{te:TE}{Q:VK}{D:Addr}{H H0:Hp}(rest:St)(hx:ay K H a xs)(nw:Nw H H0 D (.lst []))(hl:xs.length=bs.length)(hz:xs.length<=1000) (hs:∀(i:Nat)(x:V)(b:Bool)(H2:Hp)(Q':VK),xs[i]? =some x->bs[i]? =some b->af H H2->(∀H3,af H2 H3->Q' (.bl b) H3)->te (some x::rest) H2 Q') (hq:∀H',af H H'->H' D=some (.lst (bs.map V.bl))->Q (.ref D) H'):fZ (oK K a) (dX 0) g7 te Q D (none::rest) H0:=zi rest nw hl hz (fun i x H2 e s=>⟨⟨xs,x,hx.go s,e⟩,fun y H3 ⟨e3,y3⟩=>⟨e3,by have:=y3 _ (hx.go s);rw[e]at this;exact(cf this).symm⟩⟩) (fun H2 s=>⟨xs,hx.go s,aD _⟩) hs hq
theorem xD{ds:List LJ}{f:LJ->Bool}{i:Nat}{b:Bool}(h:(ds.map f)[i]? =some b):∃d,ds[i]? =some d/\f d=b:=by rw[cg]at h;cases e:ds[i]? with |none=>rw[e]at h;cases h |some d=>rw[e]at h;exact⟨d,rfl,cf h⟩
theorem all_map{ds:List LJ}{f:LJ->Bool}:(ds.map f).all id=ds.all f:=by rw[List.all_map];rfl
section
variable {X:Cx}
inductive B2(K:LG)(x:V)(y:V)(H:Hp)(Q:VK):Prop |mk (a:_)(b:_)(xs:_)(ys:_)(h0:x= .ref a)(h1:y= .ref b)(h2:aa K H a xs)(h3:aa K H b ys)(h4:xs.length+ys.length<=sizeLine)(h5:∀p H',Nw H H' p (.lst (xs++ys))->Q (.ref p) H'):B2 K x y H Q
def DE(K:LG):R2:=fun x y H Q=>B2 K x y H Q
theorem ie(K:LG)(hK:X.K=K):aQ X (binaryOp .Add) (DE K):=by
 subst hK;intro pins s σ H x y v u Q I rx ry h;obtain⟨a,b,xs,ys,rfl,rfl,ha,hb,hz,q⟩:=h;cases rx;cases ry;obtain⟨its,r1,p1,_⟩:=I.list ha;obtain⟨lg,r2,p2,_⟩:=I.list hb;obtain⟨⟨cls,dd,data,sl⟩,n,ho,hc,Lp,hd⟩:=id p1;obtain⟨⟨zl,jS,data2,jn⟩,n2,gf,fj,Lo,hd2⟩:=id p2;simp only at hc hd fj hd2;subst hc hd fj hd2;have e:its.toArray++lg.toArray=(its++lg).toArray:=by simp
 refine concat_meets ⟨_,ho,rfl⟩ ⟨_,gf,rfl⟩ noFill_list_add seq_list_add PySem.F.slot_list_add PySem.F.entry_list_add (PySem.F.args_list_add_2 _ _) (list_addW a b its.toArray lg.toArray n n2 dd jS sl jn (by rw[bC,bC,<-r1.length,<-r2.length];exact hz)) ⟨ho,gf,?_⟩;rw[e];have nw:Nw H (upd H s.heap.objs.size (.lst (xs++ys))) s.heap.objs.size (.lst (xs++ys)):=.of (I.hok.fresh (aD _));refine⟨.ref s.heap.objs.size,_,I.laid (t':=s.toks) (o:=.lst (xs++ys)) (fun b ob q=>bw _ q) (aD _) ?_,rfl,q _ _ nw⟩;exact⟨by rw[dc];exact hz,_,0,r1.append r2,cu _ rfl⟩
inductive AW(K:LG)(neg:Bool)(x:V)(y:V)(H:Hp)(Q:VK):Prop |mk (p:_)(xs:_)(d:_)(ds:_)(h0:y= .ref p)(h1:aa K H p xs)(h2:RD K H x d)(h3:aj K H xs ds)(h4:SeqAt.shaped d=true)(h5:(∀e∈ds,SeqAt.shaped e=true))(h6:Q (.bl (if neg then !(ds.any fun e=>PyData.eqv e d)else ds.any fun e=>PyData.eqv e d)) H):AW K neg x y H Q
def DB(K:LG)(neg:Bool):R2:=fun x y H Q=>AW K neg x y H Q
open Classical in
noncomputable def gM(h:Heap)(d:LJ)(w:Value):Bool:=if q:∃e as,Reads h w e as then PyData.eqv q.choose d else false
theorem Js{h:Heap}{d e:LJ}{w:Value}{as:List Addr}(r:Reads h w e as):gM h d w=PyData.eqv e d:=by have q:∃e as,Reads h w e as:=⟨e,as,r⟩;unfold gM;rw[dif_pos q];obtain⟨LB,r'⟩:=q.choose_spec;rw[(Reads.unique r' e as r).1]
theorem sY{pins:List (Addr×Obj)}{s:LH}{σ:St}{H:Hp}(I:Inv X pins σ H s)(hu:X.A.units+65<cLine){x:V}{u:Value}{d:LJ}(rx:RelV x u)(hd:RD X.K H x d)(sd:SeqAt.shaped d=true): ∀{xs:List V}{us:List Value}{ds:List LJ},Vals xs us->aj X.K H xs ds->(∀e∈ds,SeqAt.shaped e=true)->(∀w∈us,SeqAt.EqAt X.A.in1 s w u (gM s.heap d w))/\us.any (gM s.heap d)=ds.any fun e=>PyData.eqv e d |xs,us,[],rv,h,_=>by cases h.nil_inv;cases rv;exact⟨fun _ h=>(cP h).elim,rfl⟩ |xs,us,e::ds,rv,h,se=>by obtain⟨y,ys,rfl,h1,h2⟩:=h.cons_inv;cases rv with |cons ra rb=>
      rename_i w ws;obtain⟨as,q1⟩:=RD.reads I e ra h1;obtain⟨bs,q2⟩:=RD.reads I d rx hd;have key:SeqAt.EqAt X.A.in1 s w u (PyData.eqv e d):=SeqAt.eqAt_reads e d X.A.in1 s w u as bs q1 q2 (SeqAt.canLay_of_shaped (se e (.head _))) (SeqAt.canLay_of_shaped sd) (SeqAt.room_of_shaped (se e (.head _)) (by show X.A.units+1+64<cLine;omega));obtain⟨k1,k2⟩:=sY I hu rx hd sd rb h2 (fun e' he=>se e' (.tail _ he));have ew:gM s.heap d w=PyData.eqv e d:=Js q1;refine⟨fun z hz=>?_,?_⟩
      · rcases aW.mp hz with rfl|hz
        ·rw[ew];exact key
        ·exact k1 z hz
      ·rw[gX,gX,ew,k2]
theorem inD(K:LG)(hK:X.K=K)(hu:X.A.units+65<cLine):aQ X (compareOp .In) (DB K false):=by
 subst hK;intro pins s σ H x y v u Q I rx ry h;obtain⟨p,xs,d,ds,rfl,hx,hd,i6,sd,pR,q⟩:=h;cases ry;obtain⟨its,r,pl,hz⟩:=I.list hx;obtain⟨k1,k2⟩:=sY I hu rx hd sd r i6 pR;refine SeqAt.in_listAt (gM s.heap d) pl.isList (fun w hw=>k1 w (by simpa using hw)) ⟨.bl _,H,I,rfl,?_⟩;have e:its.toArray.any (gM s.heap d)=ds.any fun e=>PyData.eqv e d:=by rw[<-k2];simp
 rw[e];exact q
end
end L2
namespace L2
theorem bj.pA{k:Nat}{A:PySem.Around}(r:bj k A):A.units+65<PySem.cLine:=by have:=r.un;omega
end L2
namespace L2
open PySem PySem.Spec PyProof.Rows
def fU(b:Bool)(h:Heap)(it l:Addr)(k:Nat):Prop:=match b with|true=>h.IsListIter it l k|false=>h.IsTupleIter it l k
def fS(b:Bool)(h:Heap)(l:Addr)(xs:Array Value):Prop:=match b with|true=>h.IsList l xs|false=>h.IsTuple l xs
def lV(b:Bool):String:=match b with|true=>"list_iterator"|false=>"tuple_iterator"
theorem fU.to{b:Bool}{h g:Heap}{it l:Addr}{k:Nat}(x:fU b h it l k)(e:∀o,h.get? it=some o->g.get? it=some o):fU b g it l k:=by cases b<;>(obtain⟨o,ho,r⟩:=x;exact⟨o,e o ho,r⟩)
theorem fS.to{b:Bool}{h g:Heap}{l:Addr}{xs:Array Value}(x:fS b h l xs)(e:∀o,h.get? l=some o->g.get? l=some o):fS b g l xs:=by cases b<;>(obtain⟨o,ho,r⟩:=x;exact⟨o,e o ho,r⟩)
theorem fU.ob{b:Bool}{h:Heap}{it l:Addr}{k:Nat}(x:fU b h it l k):∃o,h.get? it=some o/\o.cls= .type (lV b)/\∀v,o.data≠ .cell v:=by cases b<;>(obtain⟨o,ho,c,d⟩:=x;exact⟨o,ho,c,fun v z=>by rw[d]at z;cases z⟩)
section
variable {prog:LI}{w:World}{A:LK}{E:Value->LH->Prop}{s:LH}
theorem nu{b:Bool}{l:Addr}{xs:Array Value}{Q:Value->LH->Prop}(x:fS b s.heap l xs) (q:Q (.ref s.heap.objs.size) {s with heap:=s.heap.push {cls:=.type (lV b),data:=.fields #[.ref l,.int 0 0]}}):wpAny (model prog w) A (pyIter (.ref l)) Q E s:=by
  cases b
  ·exact wpAny_pyIter_tuple x q
  ·exact m5 x q
theorem Fj{it t:Addr}{k:Nat}{ts:Array Value}{x:Value}{Q:Value->LH->Prop}(hi:s.heap.IsTupleIter it t k)(ht:s.heap.IsTuple t ts)(hx:ts[k]? =some x) (q:∀g,g.IsTupleIter it t (k+1)->Heap.SameBut it s.heap g->Q x {s with heap:=g}):wpAny (model prog w) A (Builtin.SmallTypes.nextOf (.ref it)) Q E s:=by obtain⟨oi,cX,ci,di⟩:=id hi;obtain⟨ot,sf,_,nt,dt⟩:=ht;unfold Builtin.SmallTypes.nextOf;refine ag (Bg (name:=Str.ofString "__next__") hi.typeIs ue (wpAny_call_entry ue hi.typeIs Ky ?_ (Kz _)));show wpAny _ _ (field (.ref it) 0>>=_) _ _ s;refine ag (gs cX di (x:=.ref t) rfl ?_);show wpAny _ _ (if(Value.ref t==Value.none)=true then _ else _) _ _ s;rw[aC (show¬((Value.ref t==Value.none)=true)from aZ)];show wpAny _ _ (field (.ref it) 1>>=_) _ _ s;refine ag (gs cX di (x:=.int k 0) rfl ?_);show wpAny _ _ (seqItems? (.ref t)>>=_) _ _ s;refine ag (wpAny_seqItems sf dt ?_);simp only[BC,hx];refine ag (oQ cX di (by simp) (aM ⟨x,rfl,aM (q _ ?_ (Heap.SameBut.update ..))⟩));exact⟨_,ph _ cX (Bt (oY di _)),(Obj.cls_mapFields ..).trans ci,by rw[oY di];simp[rawInt]⟩
theorem Ju{it t:Addr}{k:Nat}{ts:Array Value}{Q:Value->LH->Prop}(hh:A.handled=none)(hi:s.heap.IsTupleIter it t k)(ht:s.heap.IsTuple t ts)(hx:ts[k]? =none) (q:∀g e,Heap.ExtBut it s.heap g->(∃o,g.get? e=some o/\o.cls= .type "StopIteration")->E (.ref e) {s with heap:=g}):wpAny (model prog w) A (Builtin.SmallTypes.nextOf (.ref it)) Q E s:=by
  obtain⟨oi,cX,ci,di⟩:=id hi;obtain⟨ot,sf,_,nt,dt⟩:=ht;unfold Builtin.SmallTypes.nextOf;refine ag (Bg (name:=Str.ofString "__next__") hi.typeIs ue (wpAny_call_entry ue hi.typeIs Ky ?_ (Kz _)));show wpAny _ _ (field (.ref it) 0>>=_) _ _ s;refine ag (gs cX di (x:=.ref t) rfl ?_);show wpAny _ _ (if(Value.ref t==Value.none)=true then _ else _) _ _ s;rw[aC (show¬((Value.ref t==Value.none)=true)from aZ)];show wpAny _ _ (field (.ref it) 1>>=_) _ _ s;refine ag (gs cX di (x:=.int k 0) rfl ?_);show wpAny _ _ (seqItems? (.ref t)>>=_) _ _ s;refine ag (wpAny_seqItems sf dt ?_);simp only[BC,hx];refine ag (wpAny_rule (ag (oQ cX di (by simp) ?_)));show wpAny _ _ (newExc (.type "StopIteration") []>>=_) _ _ _;refine ag ?_;simp only[newExc,newTuple];refine ag (ip ?_ (by size_fits));refine ag (m:=firstArgMember _ _) (wpAny_of_eq (a:=Value.none) (by first|rfl|(simp only[firstArgMember];rfl)) ?_);refine ip ?_ (by size_fits);simp only[raiseNew];refine ag (wpAny_handled ?_)
  first|rw[show A.in1.handled=none from hh]|rw[hh]
  exact ag (aM (wpAny_throw (q _ _ (((Heap.SameBut.update ..).extBut.push _).push _) ⟨_,cu _ rfl,rfl⟩)))
theorem Fm{b:Bool}{it l:Addr}{k:Nat}{xs:Array Value}{x:Value}{Q:Value->LH->Prop}(hi:fU b s.heap it l k)(hl:fS b s.heap l xs)(hx:xs[k]? =some x) (q:∀g,fU b g it l (k+1)->Heap.SameBut it s.heap g->Q x {s with heap:=g}):wpAny (model prog w) A (Builtin.SmallTypes.nextOf (.ref it)) Q E s:=by
  cases b
  ·exact Fj hi hl hx q
  ·exact wpAny_nextOf_list_item hi hl hx q
theorem Jv{b:Bool}{it l:Addr}{k:Nat}{xs:Array Value}{Q:Value->LH->Prop}(hh:A.handled=none)(hi:fU b s.heap it l k)(hl:fS b s.heap l xs)(hx:xs[k]? =none) (q:∀g e,Heap.ExtBut it s.heap g->(∃o,g.get? e=some o/\o.cls= .type "StopIteration")->E (.ref e) {s with heap:=g}):wpAny (model prog w) A (Builtin.SmallTypes.nextOf (.ref it)) Q E s:=by
  cases b
  ·exact Ju hh hi hl hx q
  ·exact wpAny_nextOf_list_end hh hi hl hx q
end
section
variable {X:Cx}{pins:List (Addr×Obj)}{σ:St}{H:Hp}{s:LH}{h':Heap}
theorem Inv.pE{t':Nat}{fp:List Addr}(I:Inv X pins σ H s)(k:∀b o,b∉fp->s.heap.get? b=some o->h'.get? b=some o)(hf:∀b∈fp,eU X pins H b):Inv X pins σ H {s with heap:=h',toks:=t'}:=by
 have kX:∀b u,H b=some u->b∉fp:=fun b u e z=>by rw[(hf b z).1]at e;cases e
 have hL:X.env.locals∉fp:=fun z=>(hf _ z).2.1 rfl;refine I.step (g':=s.gens) (d':=s.drawn) (ch:=fp) (fun b hb=>?_) (fun b o _ _ hc e _=>k b o hc e) (fun b o _ _ hc e _=>⟨o.slots,k b o hc e⟩) (fun _ _ _ _ n=>n) (fun b o hc e=>⟨o,k b o hc e⟩) (fun _ _ e=>e) (fun _ _ _ e=>e) (fun b ps e=>⟨#[],by rw[e];simp⟩) (fun m hm=>?_) (fun b u e=>?_) I.bare
 · obtain⟨f0,f1,f2,f3,f4,f5⟩:=hf b hb
   exact⟨f3,f1,f4,f5⟩
 · obtain⟨o,es,ep,ho,r⟩:=hm
   exact⟨o,es,ep,k _ o hL ho,r⟩
 · refine(I.hok b u e).fv (fun c v hc q=>k c v ?_ q) (fun _ q=>q) fun _ _ q=>q
   rcases hc with z|z
   ·rw[z];exact kX b u e
   ·exact kX c _ z
end
def fR(b:Bool)(K:LG)(H:Hp)(a:Addr)(xs:List V):Prop:=match b with|true=>aa K H a xs|false=>ay K H a xs
theorem fR.get{X:Cx}{pins:List (Addr×Obj)}{σ:St}{H:Hp}{s:LH}{b:Bool}{a:Addr}{xs:List V}(I:Inv X pins σ H s)(h:fR b X.K H a xs):∃its:List Value,Vals xs its/\fS b s.heap a its.toArray:=by
 cases b
 ·obtain⟨its,r,p,_⟩:=I.tuple h;exact⟨its,r,p⟩
 ·obtain⟨its,r,p,_⟩:=I.list h;exact⟨its,r,p.isList⟩
theorem fR.inj{X:Cx}{pins:List (Addr×Obj)}{σ:St}{H:Hp}{s:LH}{b:Bool}{a:Addr}{xs ys:List V}(I:Inv X pins σ H s)(h:fR b X.K H a xs)(g:fR b X.K H a ys):xs=ys:=by
 cases b
 ·exact I.uP h g
 ·exact I.xI h g
theorem bZ.there{P:LI}{w:World}{H:Hp}{h:Heap}{a:Addr}{o:HO}(x:bZ P w H h a o):∃ob,h.get? a=some ob:=by induction o with |lst xs=>obtain⟨_,_,_,_,e⟩:=x;exact⟨_,e⟩ |tup xs=>obtain⟨_,_,_,ob,e,_⟩:=x;exact⟨ob,e⟩ |dK bo=>obtain⟨_,_,_,_,ob,_,_,e,_⟩:=x;exact⟨ob,e⟩ |dT bo=>obtain⟨_,_,_,_,ob,_,_,e,_⟩:=x;exact⟨ob,e⟩ |set S n=>obtain⟨ob,_,_,_,e,_⟩:=x;exact⟨ob,e⟩ |ins C dx fs=>obtain⟨_,_,_,e,_⟩:=x;exact⟨_,e⟩ |own y=>exact x |xd fs=>obtain⟨_,⟨ob,_,_,e,_⟩,_⟩:=x;exact⟨ob,e⟩ |mQ lo hi=>obtain⟨_,_,_,e⟩:=x;exact⟨_,e⟩ |fM ob u=>exact⟨_,x.1⟩ |hG ps=>exact⟨_,x⟩ |met f y=>exact⟨_,x⟩ |ext φ=>exact x.2.1
structure Fl(P:LI)(w:World)(outer:List Env)(H:Hp)(h₁:Heap)(ex:Addr)(H':Hp)(B h:Heap):Prop where
 un:Un (bH outer) [] H H' h₁ h
 hok:bq P w H' h
 k1:∀b o,h₁.get? b=some o->H b=none->b∉bH outer->B.get? b=some o
 k2:∀b o,H' b=some o->∃ob,B.get? b=some ob
 k3:∀b o,h₁.get? b=some o->b∉bH outer->∃ob,B.get? b=some ob
 fr:∀b∈bH outer,H' b=none
 nw:h₁.get? ex=none
 ne:H' ex=none
theorem Fl.step{P:LI}{w:World}{outer:List Env}{H H':Hp}{h₁ B h h':Heap}{ex:Addr}{base:Heap}(F:Fl P w outer H h₁ ex H' B h)(st:B.StaysIn h)(dN:B.StaysIn h')(up:h.UpToSlots h')(ff:h.FunFrames base outer):Fl P w outer H h₁ ex H' B h':=by
 have slot:∀b o,h₁.get? b=some o->H b=none->b∈bH outer->∃sl,h'.get? b=some {o with slots:=sl}:=fun b o e n hb=>by obtain⟨sl,e1⟩:=F.un.slot b o e n hb (by simp);obtain⟨_,o2,e2,hd⟩:=ff.mem hb;rw[e1]at e2;cases e2;obtain⟨pQ,e3⟩:=up b _ e1 (fun vs=>hd vs);exact⟨pQ,e3⟩
 refine⟨⟨fun b o e n hb _=>dN b o (F.k1 b o e n hb),fun b o e n hb _=>slot b o e n hb,F.un.free,fun b o e hx=>?_,F.un.tups,F.un.frzs,F.un.tbls⟩,fun b u e=>?_,F.k1,F.k2,F.k3,F.fr,F.nw,F.ne⟩
 · by_cases hb:b∈bH outer
   · obtain⟨_,o2,e2,hd⟩:=ff.mem hb
     obtain⟨sl,e3⟩:=up b o2 e2 hd;exact⟨_,e3⟩
   · obtain⟨ob,e1⟩:=F.k3 b o e hb
     exact⟨ob,dN b ob e1⟩
 · refine(F.hok b u e).fv (fun c v hc q=>?_) (fun _ q=>q) fun _ _ q=>q
   have dj:∃ob,B.get? c=some ob:=by
    rcases hc with z|z
    ·rw[z];exact F.k2 b u e
    ·exact F.k2 c _ z
   obtain⟨ob,e1⟩:=dj;have e2:=st c ob e1;rw[q]at e2;cases e2;exact dN c _ e1
section
variable {P:LI}{w:World}{K:LG}{mg:Str->Option Value}{base:Heap}{N:List Str}{qual:Str}{scope:Scope}{f:Addr}{cd:Value}{A:LK}{outer:List Env}{s:LH}{H:Hp}{E:XK}{pins:List (Addr×Obj)}{σ:St}{H1:Hp}{s1:LH}{h2:Heap}{ex:Addr}{cls:Value}{vs:List Value}
end
structure Exc(K:LG)(mg:Str->Option Value)(x:Str)(C:Addr)(bP:List Value)(newId:String):Prop where
 at':mg x=some (.ref C)
 ok:PySem.W.excIn K C bP newId=true
theorem Exc.own{K:LG}{mg:Str->Option Value}{x:Str}{C:Addr}{bP:List Value}{newId:String}{h:Heap}(e:Exc K mg x C bP newId)(X:K.In h):OwnCls x C bP newId mg h:=by
 refine⟨e.at',?_⟩;have q:=e.ok;unfold PySem.W.excIn at q;split at q
 · rename_i dd cd sl ho
   split at q
   · rename_i D2 bl a0 a1 a2 a3 nn a5 hm hs
     simp only[cq,bQ,pj]at q;obtain⟨⟨⟨⟨⟨r1,r2⟩,lL⟩,ht⟩,hok⟩,lF⟩:=q;subst r1 r2;obtain⟨c1,c2,c3,c4,c5,c6,c7,c8,c9,tw,K2⟩:=cd;dsimp only at hm lL hok lF;subst hm lL;obtain⟨l⟩:=sl;simp only at hs;subst hs;exact⟨bl,c4,c1,c5,c2,c6,c7,c8,c9,tw,dd,a0,a1,a2,a3,a5,_,X _ _ ho,.of_isNs (PySem.W.isNs_of_in X hok),PySem.W.nsMap_none_of_in X hok lF,PySem.W.tail_of_in X ht⟩
   ·cases q
 ·cases q
section
variable {X:Cx}{x:Str}{C:Addr}{bP:List Value}{newId ll B:String}{e:Expr}{t:TA}{np ba pos:Pos}
end
end L2
namespace L2
open PySem PySem.Spec PyProof.Rows
section
variable {M:Model}{A:LK}{Ex:Value->LH->Prop}
theorem Jm{h:Heap}{g:Array GenState}{d:Drawn}{tk:Nat}{os:OsState}{e:Addr}{oe:Obj}{Q:Bool->LH->Prop}{C D N N':Addr}{nm xo q q':Str}{bs zw bm tG:List Value}{hdct yj:Bool}{sn vB:List Str}{sub uY:List Value}{ab zM:Bool}{col zk:Option Bool}{dd z8:Option Addr}{k0 k1 k2 k3 k5 j0 j1 j2 j3 j5:Option Value}{newId FC:String} (hC:h.get? C=some (excClassObj nm q C N bs bm hdct sn sub ab col dd k0 k1 k2 k3 k5 newId))(hD:h.get? D=some (excClassObj xo q' D N' zw tG yj vB uY zM zk z8 j0 j1 j2 j3 j5 FC)) (he:h.get? e=some oe)(lN:oe.cls= .ref C)(hb:tG.contains (.type "BaseException")=true)(hs:(Value.ref C::bm).contains (.ref D)=true) (hq:Q true ⟨h,g,d,tk,os⟩):wpAny M A (excMatches (.ref e) (.ref D)) Q Ex ⟨h,g,d,tk,os⟩:=by
  have HV:(Value.ref D::tG).contains (.type "BaseException")=true:=by rw[BA,hb,Bool.or_true]
  have f:=tc_notTuple;unfold excMatches
  repeat (first|(with_reducible refine jg he ?_;rw[lN])|with_reducible refine jg hD ?_|(with_reducible refine u6 hD ?_;rw[HV])|(with_reducible refine u6 hC ?_;rw[hs])|with_reducible refine jg hC ?_|wp_step)
  exact hq
end
section
variable {X:Cx}{k:Nat}{x:Str}{p pos:Pos}{e:Expr}{es:List Expr}{t:TA}{sp:Sp}
end
abbrev Cx.hand(X:Cx)(ex:Addr):Cx:={X with A:=X.A.mark (some (.ref ex)),calm:=false,xe:=fun _ _=>False}
section
variable {X:Cx}{pins:List (Addr×Obj)}{σ:St}{H:Hp}{s:LH}
theorem Inv.hand(I:Inv X pins σ H s)(ex:Addr):Inv (X.hand ex) pins σ H s:=⟨⟨I.ok.mod,I.ok.kind,I.ok.glob,I.ok.blt,I.ok.above,I.ok.inj,I.ok.has,I.ok.cab,fun h=>(aZ h).elim,I.ok.frames,I.ok.stk,I.ok.exf,I.ok.bs,I.ok.bsz,I.ok.noex,I.ok.exfs,I.ok.dF,I.ok.frf⟩,I.os,I.bare,I.base,I.loc,I.cell,I.free,I.freeC,I.pin,I.hok,I.len⟩
theorem Inv.back{ex:Addr}(ok:X.Ok)(I:Inv (X.hand ex) pins σ H s):Inv X pins σ H s:=⟨ok,I.os,I.bare,I.base,I.loc,I.cell,I.free,I.freeC,I.pin,I.hok,I.len⟩
theorem BR{M:Model}{A:LK}{E:Value->LH->Prop}{i:Nat}{x:Str}{v:V}{pos:Pos}{Q:Unit->LH->Prop}(I:Inv X pins σ H s)(hN:X.N.Nodup)(hi:X.N[i]? =some x)(hk:X.env.kindOf x=some .local)(hs:X.env.scope.names.lookup x=some .local) (hv:σ[i]? =some (some v))(h:∀s',Inv X pins (σ.set i none) H s'->Q () s'):wpAny M A (unbindBehindTheSuite X.env x pos) Q E s:=by
  obtain⟨m,hn,hl⟩:=id I.loc;have lN:(X.env.scope.kind== .class||(X.env.scope.kind== .module&&X.env.locals !=X.env.globals))=false:=by rw[I.ok.kind];rfl
  have nT:i<σ.length:=by rw[I.len];exact(dM.mp hi).1
  have fO:=I.fO;obtain⟨u,r,look⟩:=hl i x v hi hv (.inl hs);have hm:m x=some u:=by
   rcases look with⟨_,e⟩|⟨k,_⟩
   ·exact e
   ·rcases k with k|k<;>(rw[hk]at k;cases k)
  unfold unbindBehindTheSuite;refine wpAny_onRaise (wpAny_unbindName_local hk hn hm lN fun h' u' lG iX=>?_);obtain⟨oL,_,_,yd,_⟩:=id hn;have tr:bq X.prog X.w H h':=fun b ob e=>by
   refine(I.hok b ob e).fv (fun c w' hc q=>(iX.2 c ?_).trans q) (fun _ q=>q) fun _ _ q=>q;rintro rfl;rcases hc with rfl|hc
   ·rw[I.free]at e;cases e
   ·rw[I.free]at hc;cases hc
  have lt:∀b o,X.s₀.heap.get? b=some o->b≠X.env.locals:=fun b o e=>bE (dI (aN e) I.ok.above);refine h _ ⟨I.ok,I.os,I.bare,⟨fun b o e n hb hx=>(iX.2 b (lt b o e)).trans (I.base.keep b o e n hb hx),fun b o e n hb hx=>?_,I.base.free,fun b o e hx=>?_,I.base.tups,I.base.frzs,I.base.tbls⟩,⟨_,lG,fun j y v' e1 e2 e3=>?_⟩,fun y c e=>?_,I.free,I.freeC,fun p hp=>?_,tr,by simpa using I.len⟩
  · obtain⟨sl,e1⟩:=I.base.slot b o e n hb hx
    exact⟨sl,(iX.2 b (lt b o e)).trans e1⟩
  · obtain⟨o',e1⟩:=I.base.there b o e hx
    exact⟨o',(iX.2 b (lt b o e)).trans e1⟩
  · by_cases hj:j=i
    · subst hj
      rw[uw nT]at e2;cases e2
    · rw[Bw (eY hj)]at e2
      obtain⟨u2,r2,q⟩:=hl j y v' e1 e2 e3;refine⟨u2,r2,?_⟩;rcases q with⟨k,e⟩|⟨k,c,e,z⟩
      · have:y≠x:=fun e=>hj (rh hN e1 (e▸hi))
        exact .inl ⟨k,by simp[this,e]⟩
      ·exact .inr ⟨k,c,e,z.sameBut iX (fO y c e)⟩
  · obtain⟨w',z⟩:=I.cell y c e
    exact⟨w',z.sameBut iX (fO y c e)⟩
  · obtain⟨e,n,ne,nf,d⟩:=I.pin p hp
    exact⟨(iX.2 p.1 ne).trans e,n,ne,nf,d⟩
end
def lZ(X:Cx)(st:List Stmt)(t:TS):Prop:=∀(s:LH)(σ:St)(H:Hp)(D:Ends),Inv X [] σ H s->t D σ H->wpAny (model X.prog X.w) X.A (execs st X.env) (SP X [] D) X.xe s
def zQ(X:Cx)(st:Stmt)(t:TS):Prop:=∀(s:LH)(σ:St)(H:Hp)(D:Ends),Inv X [] σ H s->t D σ H->wpAny (model X.prog X.w) X.A (exec st X.env) (SP X [] D) X.xe s
theorem lZ.one{X:Cx}{st:Stmt}{t:TS}(h:zQ X st t):lZ X [st] t:=by intro s σ H D I q;refine wpAny_execs_cons (ak (h s σ H D I q) fun f s1 q=>?_);cases f with |next=>exact m6 q |ret v=>exact q |brk=>exact q |cont=>exact q
theorem Inv.K7{X:Cx}{pins:List (Addr×Obj)}{σ:St}{H:Hp}{s:LH}(I:Inv X pins σ H s):Inv X [] σ H s:=⟨I.ok,I.os,I.bare,I.base,I.loc,I.cell,I.free,I.freeC,fun p hp=>I.pin p (p7 _ (by simpa using hp)),I.hok,I.len⟩
theorem Jb{CX:eW}{P:LI}{w:World}{K:LG}{mg:Str->Option Value}{base:Heap}{k:Nat}{f:Addr}{name qual:Str}{params:Arguments}{body:List Stmt}{scope:Scope}{dV kV doc pm ah ct oc:Value}{an od:Option Addr} {bW:Array (Option Value)}{N ps:List Str}{sp:Sp}(lk:K.lookup f=some ⟨oc,od,.func (PySem.W.fnOf name qual params body scope dV kV doc pm an ah ct),bW⟩)(bO:PySem.W.codeIn K ah qual=true)(S:aV N ps scope) (len:∀vs H Q E,sp vs H Q E->vs.length=ps.length) (dW:∀(A:LK)(outer:List Env)(s:LH)(H:Hp)(vs:List V)(Q:VK)(E:XK),bj k (A.deeper (envOfC qual scope s.heap.objs.size f ah))->sp vs H Q E->∃t,lZ (dk CX P w K mg base N qual scope f ah A outer s H E) body t/\t {nx:=fun _ H'=>Q .aq H',rt:=Q} (start N vs) H): dY P w K mg base CX (k+1) f (PySem.W.fnOf name qual params body scope dV kV doc pm an ah ct) ps sp:=by
  refine⟨len,fun A outer s H args us vs Q E hr e0 hb r bD=>?_⟩;have hl:=len _ _ _ _ bD;have KX:K.In s.heap:=e0.mod.kin.keeps fun b o e=>(e0.bs b o e).1;have lim:s.heap.NoLimit:=e0.mod.nolimit.keeps fun b o e=>(e0.bs b o e).1;have fK:∀y∈ps.zip us,scope.names.lookup y.1=some .local\/(scope.names.lookup y.1=some .cell/\((cellsFrom (s.heap.objs.size+1) scope.names []).lookup y.1).isSome=true):=fun⟨n,v⟩ hy=>by
   rcases S.par n (p5 hy).1 with q|q
   ·exact .inl q
   ·exact .inr ⟨q,ud _ _ _ (.inl q)⟩
  refine Bj hr.depth (KX _ _ lk) rfl S.co S.gen rfl (Bl KX bO) (hb _ _ _ _ ?_);refine Bf S.kind fK fun env he s1 x=>?_;subst he;refine⟨lim.keeps x.toInCall.keep,codeAny_func ?_⟩;obtain⟨t,ht,hq⟩:=dW A outer s H vs Q E (hr.deeper _) bD;have I:Inv (dk CX P w K mg base N qual scope f ah A outer s H E) [] (start N vs) H s1:=rS S hr.hd e0 hl r x;refine dw (ht s1 (start N vs) H _ I hq) (fun fl s' hs=>?_) fun e s' hs=>hs;have fin:∀{σ':St}{H':Hp}{v:V}{u:Value},Inv (dk CX P w K mg base N qual scope f ah A outer s H E) [] σ' H' s'->RelV v u->Q v H'->CE outer P w H s Q u s':=fun{σ' H' v u} J rv q=>⟨v,H',J.os,J.bare,J.base,J.hok,rv,q⟩;cases fl with |ret u=>obtain⟨v,σ',H',J,rv,q⟩:=hs;exact fin J rv q |next=>obtain⟨σ',H',J,q⟩:=hs;exact fin (v:=V.aq) (u:=Value.none) J rfl q |brk=>obtain⟨_,_,_,q⟩:=hs;exact False.elim q |cont=>obtain⟨_,_,_,q⟩:=hs;exact False.elim q
def ExcAt(ex:Addr)(cls:Value)(h:Heap):Prop:=∃o,h.get? ex=some o/\o.cls=cls
def takes(K:LG)(C D:Addr):Prop:=PySem.W.mroIn K C (.ref D)=some true
section
variable {X:Cx}{i:Nat}{n y:Str}{Dc:Addr}{tF:List Value}{newD:String}{body mF:List Stmt}{b0:Stmt}{np nP pos:Pos}{tb:XK->TS}{th:TS}{Cs:Addr->Prop}
end
end L2
namespace L2
open PySem PySem.Spec PyProof.Rows PySem.W Builtin.Getset_descriptor
section
variable {prog:LI}{w:World}{A:LK}{E:Value->LH->Prop}{h:Heap}{g:Array GenState}{d:Drawn}{t:Nat}{os:OsState}{K:Frag}{x C:Addr}{o:Obj}
theorem yP{M:Model}(h1:h.get? x=some o)(h2:o.cls= .ref C):Looks M h (typeOf (.ref x)) (.ref C):=h2▸(Looks.ld h1).andThen .now
structure fX(K:Frag)(C:Addr):Prop where
 ga:findIn K (.ref C) "__getattribute__"=some (some (.builtin "BaseException.__getattribute__"))
 gx:findIn K (.ref C) "__getattr__"=some none
 cl:findIn K (.ref C) "__class__"=some (some (.builtin "object.__class__"))
 gt:specialIn K (.builtin "object.__class__") "__get__"=some (some (.builtin "getset_descriptor.__get__"))
 tk:takesIn K (.builtin "object.__class__")=some true
 ob:mroIn K C (.type "object")=some true
 be:mroIn K C (.type "BaseException")=some true
 is:hasDictIn K C=true
theorem G6{M:Model}(X:K.In h)(k:fX K C):Looks M h (Builtin.ObjectAttr.find (.ref x) (.ref C) "__class__") (.bind (.builtin "getset_descriptor.__get__") (.builtin "object.__class__")):=by have L1:=oT (M:=M) X k.cl;have L2:Looks M h (Builtin.ObjectAttr.getOf (some (.builtin "object.__class__"))) (some (.builtin "getset_descriptor.__get__")):=looks_specialIn X k.gt;have L3:=looks_takesIn (M:=M) X k.tk;unfold Builtin.ObjectAttr.find;refine L1.andThen (L2.andThen ?_);have L4:Looks M h (Builtin.ObjectAttr.dataDescriptor? (some (.builtin "object.__class__")) (some (.builtin "getset_descriptor.__get__"))) (some (.builtin "getset_descriptor.__get__",.builtin "object.__class__")):=L3.andThen .now;exact L4.andThen (Looks.tag .now)
theorem yC{M:Model}{xw:Value}{Q:Unit->LH->Prop}(X:K.In h)(k:fX K C)(L0:Looks M h (typeOf (.ref x)) (.ref C))(hq:Q () ⟨h,g,d,t,os⟩): wpAny M A (checkBuiltinCall "BaseException.__getattribute__" ⟨[.ref x,xw],[]⟩) Q E ⟨h,g,d,t,os⟩:=by
  have hk:builtinKind "BaseException.__getattribute__"=some .slot:=by decide+kernel
  have bD:splitId "BaseException.__getattribute__"=some ("BaseException","__getattribute__"):=by decide+kernel
  have ha:=PySem.F.args_bexc_ga (.ref x) xw;have L1:=looks_mroIn (M:=M) X k.be;simp only[checkBuiltinCall,hk,bD];refine ag ?_;unfold isInstance;refine ag (L0.at (L1.at ?_))
  repeat (first|assumption|wp_step)
theorem get_cls{R:Result->LH->Prop}{tp:Value}(X:K.In h)(k:fX K C)(L0:Looks (model prog w) h (typeOf (.ref x)) (.ref C))(hq:R (.ok (.ret (.ref C))) ⟨h,g,d,t,os⟩): codeAny (model prog w) A (.call (.builtin "getset_descriptor.__get__") ⟨[.builtin "object.__class__",.ref x,tp],[]⟩) R ⟨h,g,d,t,os⟩:=by
  have L1:=looks_mroIn (M:=model prog w) X k.ob;refine ua KF.slot_gs.plain KF.entry_gs (KF.slot_gs.check _ _ _ _ _ _ _ _ KF.type_class (KF.args_gs _ _ _) ?_);unfold Builtin.«getset_descriptor.__get__»descrGet;rw[dga_obj];refine ag (aM ?_);unfold descrGetter descrCheckInstance descrNameAndClass isInstance;simp only[KF.owner_class];repeat lk
  refine⟨Code.quiet_builtin _ (by decide+kernel),codeAny_builtin KF.entry_class ?_⟩;unfold Builtin.«object.__class__»shownTypeOf;repeat lk
  exact hq
theorem IZ{tk:Tok}{Q:Fin->LH->Prop}(X:K.In h)(k:fX K C)(L0:Looks (model prog w) h (typeOf (.ref x)) (.ref C)) (hq:Q (.done (.ret (.ref C))) ⟨h,g,d,t,os⟩):wpAny (model prog w) A (Builtin.«object.__getattribute__» ⟨[.ref x,.str "__class__" tk],[]⟩) Q E ⟨h,g,d,t,os⟩:=by have L1:=G6 (M:=model prog w) (x:=x) X k;refine ag (aM (ag (aM (ag (L0.at (ag (L1.at ?_)))))));show wpAny _ _ (Builtin.ObjectAttr.bindTo _ _ (.ref x) (.ref C)) _ _ _;unfold Builtin.ObjectAttr.bindTo;show wpAny _ _ (holding [_] (call (.builtin "getset_descriptor.__get__") [.builtin "object.__class__",.ref x,.ref C])>>=_) _ _ _;exact ag (dH (kc (get_cls X k L0 (aM hq))))
theorem JM{Q:Option Value->LH->Prop}(X:K.In h)(k:fX K C)(L0:Looks (model prog w) h (typeOf (.ref x)) (.ref C)) (hq:Q (some (.ref C)) ⟨h,g,d,t+1,os⟩):wpAny (model prog w) A (getAttr? (.ref x) "__class__") Q E ⟨h,g,d,t,os⟩:=by
  have L1:=oT (M:=model prog w) X k.ga;have L2:=oT (M:=model prog w) X k.gx;have f3:=uf.ga.bind (.ref x);have rV:(Value.builtin "BaseException.__getattribute__"==Value.builtin "object.__getattribute__")=false:=by decide+kernel
  unfold getAttr? getAttrBy? getAttrBy;refine ag (wpAny_mkText (ag (wpAny_attempt (dH (ag (L0.at (ag (L1.at ?_))))))));show wpAny _ _ (if(onTheHeap (Value.ref C)&&Value.builtin "BaseException.__getattribute__"==Value.builtin "object.__getattribute__")=true then _ else _) _ _ _;rw[rV,kr,aC (by decide)];unfold getAttrByItsOwn hookBefore;refine ag ?_;show wpAny _ _ (typeLookup (.ref C) "__getattr__") _ _ _;refine L2.at (ag (wpAny_attempt (dH ?_)));unfold callGetattribute;show wpAny _ _ (boundAndCalled _ _ _) _ _ _;unfold boundAndCalled;rw[f3];refine ag (aM (kc ?_));refine ua uf.ga.plain PySem.F.entry_bexc_ga (yC X k L0 (IZ X k L0 ?_));exact handed_on rfl (aM hq)
theorem xK(k:fX K C):KitX K (.ref x) (.ref C) (ExcAt x (.ref C)) where
 ty:=fun M h _ p=>by obtain⟨o,h1,h2⟩:=p;exact yP h1 h2
 it:=fun _ _ X _=>by
  obtain⟨cd,hc,_⟩:=any_some k.is;unfold clsIn at hc;split at hc
  · rename_i c1 d1 JQ CU ho
    intro A' Q' E' s' kk q;unfold isType loadHead;exact ag (wpAny_loadPart (kk _ _ (X _ _ ho)) (aM q))
  ·cases hc
 ne:=fun h tp dd its n sl X GS=>by
  obtain⟨cd,hc,_⟩:=any_some k.is;refine f6.mpr fun q=>?_;have e:C=tp:=Value.ref.inj (cq.mp q);subst e;unfold clsIn at hc;split at hc
  · rename_i c1 d1 JQ CU ho
    cases(X _ _ ho).symm.trans GS
  ·cases hc
 ca:=fun{prog w A E Q s} X p q=>by obtain⟨o,h1,h2⟩:=p;obtain⟨h0,g0,d0,t0,KO⟩:=s;exact JM X k (yP h1 h2) q
end
end L2
namespace L2
open PySem PySem.Spec PyProof.Rows
def JN:V->Option Value | .ref D=>some (.ref D) | .ty n=>some (.type n) |_=>none
theorem uK:∀{Ds:List Addr}{us:List Value},Vals (Ds.map V.ref) us->us=Ds.map Value.ref |[],_,.nil=>rfl |n::r,_,.cons q t=>by cases(show _=Value.ref n from q);rw[uK t];rfl
section
variable {X:Cx}
end
end L2
namespace L2
open PySem PySem.Spec PyProof.Rows
theorem K5:bootBuiltins "ValueError"=some (.type "ValueError"):=by kernel_rfl
abbrev tE:List Value:=[.type "ValueError",.type "Exception",.type "BaseException",.type "object"]
abbrev xi:String:="ValueError.__new__"
theorem FA.Ic{P:LI}{w:World}{K:LG}{mg:Str->Option Value}{base:Heap}{x:Str}{st:Stmt}{N ps:List Str}{k:Nat}{sp:Sp}(F:FA K mg x st)(S:aV N ps (aJ st))(len:∀vs H Q E,sp vs H Q E->vs.length=ps.length) (hb:∀(kV doc pm:Value)(an:Option Addr)(ah ct:Value)(us:List Value),us.length=ps.length->bindArgs (PySem.W.fnOf x x (gn st) (cZ st) (aJ st) .none kV doc pm an ah ct) ⟨us,[]⟩=pure (ps.zip us)) (dW:∀(f:Addr)(ah:Value)(A:LK)(outer:List Env)(s:LH)(H:Hp)(vs:List V)(Q:VK)(E:XK),bj k (A.deeper (envOfC x (aJ st) s.heap.objs.size f ah))->sp vs H Q E->∃t,lZ (dk du P w K mg base N x (aJ st) f ah A outer s H E) (cZ st) t/\t {nx:=fun _ H'=>Q .aq H',rt:=Q} (start N vs) H):au P w K mg base x (k+1) sp:=by obtain⟨f,fd,hm,F⟩:=F.ex;have lO:=F.binds hb;have kp:=F.kp;obtain⟨oc,od,kV,doc,pm,an,ah,ct,bW,rfl,lk,bO⟩:=F.ex;exact⟨f,_,ps,Jb lk bO S len fun A outer s H vs Q E hr bD=>dW f ah A outer s H vs Q E hr bD,hm,kp,lO⟩
end L2
namespace Ar
end Ar
namespace Rt
open Rat
section
variable {n m:Nat} {r s:Rat}
end
end Rt
namespace L2
open PySem PySem.Spec PyProof.Rows
def eI(H H':Hp):Prop:=∀b o,(∀xs,o≠ .lst xs)->H b=some o->H' b=some o
section
variable {K:LG} {H H' H2:Hp}
theorem eI.trans(a:eI H H')(b:eI H' H2):eI H H2:=fun c o n e=>b c o n (a c o n e)
theorem eI.mn{D:Addr}{xs ys:List V}(h:H D=some (.lst xs)):eI H (upd H D (.lst ys)):=fun b o n e=>by rw[aL (xq e h (n xs))];exact e
theorem ay.t{a:Addr}{xs:List V}(s:eI H H')(h:ay K H a xs):ay K H' a xs:=h.imp (fun r=>r.imp (s _ _ fun _ z=>nomatch z) fun⟨o,e⟩=>⟨o,s _ _ (fun _ z=>nomatch z) e⟩) id
mutual
def dC:LJ->Bool | .list _=>false | .dict _=>false | .tuple ds=>bB ds | .none=>true | .bool _=>true | .int _=>true | .str _=>true
def bB:List LJ->Bool |[]=>true |d::ds=>dC d&&bB ds
end
theorem dB:∀{ds:List LJ},bB ds=true↔∀d∈ds,dC d=true
  |[]=>⟨fun _ _ h=>(nomatch h),fun _=>by simp[bB]⟩ |d::ds=>by
    rw[bB,bQ,dB (ds:=ds)];constructor
    · rintro⟨a,b⟩ x hx
      rcases aW.mp hx with rfl|hx
      ·exact a
      ·exact b x hx
    · intro h
      exact⟨h d (.head _),fun x hx=>h x (.tail _ hx)⟩
theorem Fy(ns:List Int):bB (ns.map PyData.int)=true:=dB.mpr fun d hd=>by obtain⟨i,_,rfl⟩:=bM.mp hd;simp[dC]
mutual
theorem RD.t(s:eI H H'):∀{x:V}(d:LJ),dC d=true->RD K H x d->RD K H' x d |x,.none,_,h=>by simpa[RD]using h |x,.bool b,_,h=>by simpa[RD]using h |x,.int i,_,h=>by simpa[RD]using h |x,.str y,_,h=>by simpa[RD]using h |x,.list ds,n,h=>by simp[dC]at n |x,.tuple ds,n,h=>by rw[RD]at h⊢;obtain⟨a,xs,e,h1,h2⟩:=h;exact⟨a,xs,e,h1.t s,aj.t s ds (by simpa[dC]using n) h2⟩ |x,.dict _,_,h=>by simp[RD]at h
theorem aj.t (s:eI H H'):∀{xs:List V}(ds:List LJ),bB ds=true->aj K H xs ds->aj K H' xs ds |xs,[],_,h=>by simpa[aj]using h |xs,d::ds,n,h=>by rw[aj]at h⊢;rw[bB,bQ]at n;obtain⟨y,ys,e,h1,h2⟩:=h;exact⟨y,ys,e,RD.t s d n.1 h1,aj.t s ds n.2 h2⟩
end
theorem aj.nJ:∀{xs:List V}{ns:List Int},aj K H xs (ns.map PyData.int)->xs=ns.map V.int |xs,[],h=>h.nil_inv |xs,n::ns,h=>by obtain⟨y,ys,rfl,h1,h2⟩:=h.cons_inv;rw[h1.int_inv,aj.nJ h2];rfl
theorem mR:∀(ns:List Int),aj K H (ns.map V.int) (ns.map PyData.int) |[]=>cS |n::ns=>bS (eD n) (mR ns)
theorem zf{J:It}{xs:List V}{ds:List LJ}{te:TE}{Q:VK}{D:Addr}{H0:Hp}(rest:St)(nw:Nw H H0 D (.lst []))(hl:xs.length=ds.length)(hz:xs.length<=1000)(hn:bB ds=true) (go:∀i x H2,xs[i]? =some x->af H H2->J.go i H2/\∀y H3,J.yld i H2 y H3->H3=H2/\y=x)(stop:∀H2,af H H2->J.stop xs.length H2) (hs:∀(i:Nat)(x:V)(d:LJ)(H2:Hp)(Q':VK),xs[i]? =some x->ds[i]? =some d->af H H2->(∀y H3,af H2 H3->RD K H3 y d->Q' y H3)->te (some x::rest) H2 Q') (hq:∀H' ys,af H H'->H' D=some (.lst ys)->aj K H' ys ds->Q (.ref D) H'):fZ J (dX 0) g7 te Q D (none::rest) H0:=by
  have hD:=nw.no;refine lU xs.length (fun i σ H2=>af H H2/\(∃ys,H2 D=some (.lst ys)/\aj K H2 ys (ds.take i))/\∃v,σ=v::rest) ?_ ?_ ?_
  ·exact⟨nw.same,⟨[],nw.at',cS⟩,none,rfl⟩
  · rintro i σ H2 hi ⟨s2,⟨ys,d2,r2⟩,v,rfl⟩
    have nU:i<ds.length:=by rw[<-hl];exact hi
    have ex:=fu hi;have eb:=fu nU;obtain⟨g1,g2⟩:=go i _ H2 ex s2;refine⟨g1,fun y H3 hy=>?_⟩;obtain⟨rfl,rfl⟩:=g2 y H3 hy;refine mj ?_;refine hs i _ _ _ _ ex eb s2 fun z H4 s4 r4=>?_;have d4:=s4 _ _ d2;have len:=r2.length;rw[gW]at len;refine⟨ys,d4,?_,xs.length-(i+1),by omega,rfl,by omega,fun b o e=>?_,⟨ys++[z],bR,?_⟩,_,rfl⟩
    · have:(1000:Nat)<sizeLine:=by decide
      omega
    ·rw[aL (cn e hD)];exact s4 b o (s2 b o e)
    · have t:eI H4 (upd H4 D (.lst (ys++[z]))):=.mn d4
      rw[oZ,eb];have n1:bB (ds.take i)=true:=dB.mpr fun d hd=>dB.mp hn d (km hd);exact(aj.t t _ n1 (aj.mono s4 _ r2)).append (bS (RD.t t _ (dB.mp hn _ (kq nU)) r4) cS)
  · rintro σ H2 ⟨s2,⟨ys,d2,r2⟩,v,rfl⟩
    refine⟨stop H2 s2,hq H2 ys s2 d2 ?_⟩;rw[hl,List.take_length]at r2;exact r2
theorem JK{a:Addr}{xs:List V}{ds:List LJ}{te:TE}{Q:VK}{D:Addr}{H0:Hp}(rest:St)(hx:ay K H a xs)(nw:Nw H H0 D (.lst []))(hl:xs.length=ds.length)(hz:xs.length<=1000)(hn:bB ds=true) (hs:∀(i:Nat)(x:V)(d:LJ)(H2:Hp)(Q':VK),xs[i]? =some x->ds[i]? =some d->af H H2->(∀y H3,af H2 H3->RD K H3 y d->Q' y H3)->te (some x::rest) H2 Q') (hq:∀H' ys,af H H'->H' D=some (.lst ys)->aj K H' ys ds->Q (.ref D) H'):fZ (oK K a) (dX 0) g7 te Q D (none::rest) H0:=zf rest nw hl hz hn (fun i x H2 e s=>⟨⟨xs,x,hx.go s,e⟩,fun y H3 ⟨e3,y3⟩=>⟨e3,by have:=y3 _ (hx.go s);rw[e]at this;exact(cf this).symm⟩⟩) (fun H2 s=>⟨xs,hx.go s,aD _⟩) hs hq
theorem zd{a:Addr}{xs:List V}{ds:List LJ}{te:TE}{Q:VK}{D:Addr}{H0:Hp}(rest:St)(hx:aa K H a xs)(nw:Nw H H0 D (.lst []))(hl:xs.length=ds.length)(hz:xs.length<=1000)(hn:bB ds=true) (hs:∀(i:Nat)(x:V)(d:LJ)(H2:Hp)(Q':VK),xs[i]? =some x->ds[i]? =some d->af H H2->(∀y H3,af H2 H3->RD K H3 y d->Q' y H3)->te (some x::rest) H2 Q') (hq:∀H' ys,af H H'->H' D=some (.lst ys)->aj K H' ys ds->Q (.ref D) H'):fZ (jX K a) (dX 0) g7 te Q D (none::rest) H0:=zf rest nw hl hz hn (fun i x H2 e s=>⟨⟨xs,x,hx.go s,e⟩,fun y H3 ⟨e3,y3⟩=>⟨e3,by have:=y3 _ (hx.go s);rw[e]at this;exact(cf this).symm⟩⟩) (fun H2 s=>⟨xs,hx.go s,aD _⟩) hs hq
end
section
variable {X:Cx}
theorem xV{ns:List Int}{us:List Value}(r:Vals (ns.map V.int) us){i:Nat}{v:Value}(h:us[i]? =some v):∃n t,ns[i]? =some n/\v=Value.int n t:=by
 have hl:=r.length;rw[aE]at hl;have hi:i<ns.length:=by rw[hl];exact(dM.mp h).1
 obtain⟨u,e,ru⟩:=r.get (i:=i) (x:=.int ns[i]) (by rw[cg,fu hi];rfl);rw[h]at e;cases e;obtain⟨t,rfl⟩:=(show∃t,v=Value.int ns[i] t from ru);exact⟨_,t,fu hi,rfl⟩
theorem Dm(ns:List Int):((List.range ns.length).any fun i=>((ns.map (· !=0))[i]?).getD false)=ns.any (· !=0):=by have:=LSm.range_any (ns.map (· !=0));rw[aE]at this;rw[this,p9];rfl
theorem zJ(K:LG)(hK:X.K=K)(hc:X.calm=true):bJ X (.builtin "any") (fun xs H Q=>∃(l:Addr)(ns:List Int),xs=[.ref l]/\(aa K H l (ns.map V.int)\/ay K H l (ns.map V.int))/\Q (.bl (ns.any (· !=0))) H):=by
 subst hK;intro pins s σ H xs us Q I r h;obtain⟨l,ns,rfl,hl,q⟩:=h;obtain⟨u,rfl,ru⟩:=vals1 r;cases(show u=Value.ref l from ru);have hh:=I.ok.hd hc;have fin:∀(its:List Value),Vals (ns.map V.int) its->((List.range its.toArray.size).any fun i=>((ns.map (· !=0))[i]?).getD false)=ns.any (· !=0):=fun its rv=>by rw[bC,<-rv.length,aE];exact Dm ns
 rcases hl with hl|hl
 · obtain⟨its,rv,pl,hz⟩:=I.list hl
   have cY:=pl.isList;have bp:l<s.heap.objs.size:=by obtain⟨_,e,_⟩:=cY;exact aN e
   refine call_any_walk (m5 cY ?_);refine⟨s.heap.objs.size,[s.heap.objs.size,l],[s.heap.objs.size],its.toArray.size,_,_,fun i=>((ns.map (· !=0))[i]?).getD false,rfl,Walks.list (A:=X.A.in1) hh _ l (bE bp) its.toArray,⟨⟨_,cu _ rfl,rfl,rfl⟩,cY.push _⟩,fun i v s' Q' E' hP hQ=>?_,fun h' tk hk=>?_⟩
   · obtain⟨n,t,e,rfl⟩:=xV rv (i:=i) (v:=v) (by simpa using hP)
     simp only[cg,e]at hQ;exact truthy_int hQ
   · rw[fin its rv]
     exact⟨.bl _,H,I.kept (LSm.kept_iter hk),rfl,q⟩
 · obtain⟨its,rv,pl,hz⟩:=I.tuple hl
   have cY:s.heap.IsTuple l its.toArray:=by obtain⟨⟨cls,dd,data,sl⟩,ho,eQ,n,hd⟩:=pl;exact⟨_,ho,eQ,by simpa using⟨n,hd⟩⟩
   have bp:l<s.heap.objs.size:=by obtain⟨_,e,_⟩:=cY;exact aN e
   refine call_any_walk (wpAny_pyIter_tuple cY ?_);refine⟨s.heap.objs.size,[s.heap.objs.size,l],[s.heap.objs.size],its.toArray.size,_,_,fun i=>((ns.map (· !=0))[i]?).getD false,rfl,Walks.tuple (A:=X.A.in1) hh _ l (bE bp) its.toArray,⟨⟨_,cu _ rfl,rfl,rfl⟩,cY.push _⟩,fun i v s' Q' E' hP hQ=>?_,fun h' tk hk=>?_⟩
   · obtain⟨n,t,e,rfl⟩:=xV rv (i:=i) (v:=v) (by simpa using hP)
     simp only[cg,e]at hQ;exact truthy_int hQ
   · rw[fin its rv]
     exact⟨.bl _,H,I.kept (LSm.kept_iter hk),rfl,q⟩
end
end L2
set_option maxHeartbeats 1000000
namespace Lw
open PySem PySem.Spec PyProof.Rows L2
def zT(c m:Int):Prop:=0<=c/\0<=m/\m<2147483648
def cH(H:Hp)(p:Addr):Prop:=∃c m,H p=some (.lst [.int c,.int m])/\zT c m
structure aA(p:Addr)(H H':Hp):Prop where
 bag:cH H' p
 same:∀b o,b≠p->H b=some o->H' b=some o
theorem aA.refl{p:Addr}{H:Hp}(h:cH H p):aA p H H:=⟨h,fun _ _ _ e=>e⟩
theorem aA.trans{p:Addr}{H H1 H2:Hp}(a:aA p H H1)(b:aA p H1 H2):aA p H H2:=⟨b.bag,fun c o n e=>b.same c o n (a.same c o n e)⟩
theorem aA.upd{p:Addr}{H:Hp}{c m:Int}(h:zT c m):aA p H (L2.upd H p (.lst [.int c,.int m])):=⟨⟨c,m,bR,h⟩,fun b o n e=>by rw[aL n];exact e⟩
theorem aA.bf{p:Addr}{H H':Hp}(h:cH H p)(s:af H H'):aA p H H':=by obtain⟨c,m,e,ok⟩:=h;exact⟨⟨c,m,s _ _ e,ok⟩,fun b o _ e=>s b o e⟩
theorem uI{j:Int}(h0:0<=j)(h:j<=10^40):Wd j:=by
 have:j.natAbs<=10^40:=by omega
 exact Nat.lt_of_le_of_lt this (by decide+kernel)
theorem cH.ne{H:Hp}{p:Addr}(h:cH H p):H p≠none:=by obtain⟨c,m,e,_⟩:=h;rw[e];exact fun z=>nomatch z
theorem aA.sd{p:Addr}{H H':Hp}(b:aA p H H'):SD p H H':=fun c o e=>ic.mpr ⟨(ic.mp e).1,b.same _ _ (ic.mp e).1 (ic.mp e).2⟩
theorem cH.FE{H:Hp}{p:Addr}{q:Addr}{o:HO}(h:cH H p)(e:H q=some o)(n:∀xs,o≠ .lst xs):q≠p:=by obtain⟨c,m,e',_⟩:=h;exact xq e e' (n _)
theorem aA.t{p:Addr}{H H':Hp}(bg:cH H p)(b:aA p H H'):eI H H':=fun c o n e=>b.same c o (bg.FE e n) e
theorem aA.D4{p:Addr}{H0 H H':Hp}(s:af H0 H)(hp:H0 p=none)(b:aA p H H'):af H0 H':=fun c o e=>b.same c o (cn e hp) (s c o e)
section
variable {K:LG}
theorem tm{J:It}{te:TE}{Q:VK}{D p:Addr}{H H0:Hp}(n:Nat)(rest:L2.St)(nw:Nw H H0 D (.lst []))(bg:cH H p)(hn:n<=1000)(xv:Nat->V) (go:∀i H2,i<n->aA p H H2->J.go i H2/\∀y H3,J.yld i H2 y H3->H3=H2/\y=xv i)(stop:∀H2,aA p H H2->J.stop n H2)(Pz:Int->Prop) (hs:∀i H2 (Q':VK),i<n->aA p H H2->(∀z H3,Pz z->aA p H2 H3->Q' (.int z) H3)->te (some (xv i)::rest) H2 Q') (hq:∀H' (is:List Int),aA p H H'->H' D=some (.lst (is.map V.int))->is.length=n->(∀z∈is,Pz z)->Q (.ref D) H'):fZ J (dX 0) g7 te Q D (none::rest) H0:=by
  have lQ:D≠p:=fun e=>bg.ne (e▸nw.no);refine lU n (fun i σ H3=>aA p H H3/\(∃is:List Int,H3 D=some (.lst (is.map V.int))/\is.length=i/\∀z∈is,Pz z)/\∃v,σ=v::rest) ?_ ?_ ?_
  ·exact⟨.bf bg nw.same,⟨[],nw.at',rfl,fun _ h=>(cP h).elim⟩,none,rfl⟩
  · rintro i σ H3 hi ⟨b3,⟨is,d3,li,pi⟩,v,rfl⟩
    obtain⟨g1,g2⟩:=go i H3 hi b3;refine⟨g1,fun y H4 hy=>?_⟩;obtain⟨rfl,rfl⟩:=g2 y H4 hy;refine mj ?_;refine hs i _ _ hi b3 fun z H5 pz b5=>?_;refine⟨_,b5.same _ _ lQ d3,?_,n-(i+1),by omega,rfl,by omega,?_,⟨is++[z],?_,?_,?_⟩,_,rfl⟩
    · rw[aE,li]
      have:(1000:Nat)<sizeLine:=by decide
      omega
    · have lX:=b3.trans b5
      refine⟨?_,fun b o n e=>?_⟩
      · obtain⟨c,m,e,ok⟩:=lX.bag
        exact⟨c,m,by rw[aL lQ.symm];exact e,ok⟩
      ·rw[aL (cn e nw.no)];exact lX.same b o n e
    ·rw[bR,dJ];rfl
    ·rw[dc,li];rfl
    · intro y hy
      rcases e9.mp hy with h|h
      ·exact pi y h
      ·rw[eZ.mp h];exact pz
  · rintro σ H3 ⟨b3,⟨is,d3,li,pi⟩,v,rfl⟩
    exact⟨stop H3 b3,hq H3 is b3 d3 li pi⟩
theorem GF(ns:List Int){i:Int}(h0:0<=i)(h:i<ns.length):∃z,z∈ns/\cN (ns.map V.int) i=some (.int z):=by
 have hl:i.toNat<ns.length:=by omega
 exact⟨ns[i.toNat],kq hl,d9 h0 (by rw[cg,fu hl];rfl)⟩
theorem ze{J:It}{te:TE}{Q:VK}{D p:Addr}{H H0:Hp}(n:Nat)(rest:L2.St)(nw:Nw H H0 D (.lst []))(bg:cH H p)(hn:n<=1000)(xv:Nat->V) (go:∀i H2,i<n->aA p H H2->J.go i H2/\∀y H3,J.yld i H2 y H3->H3=H2/\y=xv i)(stop:∀H2,aA p H H2->J.stop n H2)(Pd:Nat->LJ->Prop) (hs:∀i H2 (Q':VK),i<n->aA p H H2->(∀y d H3,Pd i d->dC d=true->RD K H3 y d->aA p H2 H3->Q' y H3)->te (some (xv i)::rest) H2 Q') (hq:∀H' ys ds,aA p H H'->H' D=some (.lst ys)->aj K H' ys ds->ds.length=n->bB ds=true->(∀i d,ds[i]? =some d->Pd i d)->Q (.ref D) H'):fZ J (dX 0) g7 te Q D (none::rest) H0:=by
  have lQ:D≠p:=fun e=>bg.ne (e▸nw.no);refine lU n (fun i σ H3=>aA p H H3/\(∃ys ds,H3 D=some (.lst ys)/\aj K H3 ys ds/\ds.length=i/\bB ds=true/\∀j d,ds[j]? =some d->Pd j d)/\∃v,σ=v::rest) ?_ ?_ ?_
  ·exact⟨.bf bg nw.same,⟨[],[],nw.at',cS,rfl,rfl,fun j d e=>by simp at e⟩,none,rfl⟩
  · rintro i σ H3 hi ⟨b3,⟨ys,ds,d3,r3,li,ni,pi⟩,v,rfl⟩
    obtain⟨g1,g2⟩:=go i H3 hi b3;refine⟨g1,fun y H4 hy=>?_⟩;obtain⟨rfl,rfl⟩:=g2 y H4 hy;refine mj ?_;refine hs i _ _ hi b3 fun z d H5 pz nz rz b5=>?_;have d5:=b5.same _ _ lQ d3;have t:eI H5 (L2.upd H5 D (.lst (ys++[z]))):=.mn d5;refine⟨ys,d5,?_,n-(i+1),by omega,rfl,by omega,?_,⟨ys++[z],ds++[d],bR,?_,?_,?_,?_⟩,_,rfl⟩
    · rw[r3.length,li]
      have:(1000:Nat)<sizeLine:=by decide
      omega
    · have lX:=b3.trans b5
      refine⟨?_,fun b o n e=>?_⟩
      · obtain⟨c,m,e,ok⟩:=lX.bag
        exact⟨c,m,by rw[aL lQ.symm];exact e,ok⟩
      ·rw[aL (cn e nw.no)];exact lX.same b o n e
    ·exact(aj.t ((aA.t b3.bag b5).trans t) _ ni r3).append (bS (RD.t t _ nz rz) cS)
    ·rw[dc,li];rfl
    ·exact dB.mpr fun x hx=>by
        rcases e9.mp hx with h|h
        ·exact dB.mp ni x h
        ·rw[eZ.mp h];exact nz
    · intro j e he
      by_cases hj:j<ds.length
      · rw[Bx hj]at he
        exact pi j e he
      · have Hy:j=ds.length:=by have:=(dM.mp he).1;rw[dc]at this;have:j<ds.length+1:=this;omega
        subst Hy;rw[List.getElem?_append_right (aD _),Nat.sub_self]at he;cases he;rw[li];exact pz
  · rintro σ H3 ⟨b3,⟨ys,ds,d3,r3,li,ni,pi⟩,v,rfl⟩
    exact⟨stop H3 b3,hq H3 ys ds b3 d3 r3 li ni pi⟩
end
end Lw
namespace Ln
open PySem L2
end Ln
namespace L2
open PySem PySem.Spec PyProof.Rows
abbrev om(b:Bool)(h:Heap)(l:Addr):Heap:=h.push {cls:=.type (lV b),data:=.fields #[.ref l,.int 0 0]}
abbrev t7(b:Bool)(h:Heap)(l:Addr):Heap:=(om b h l).push {cls:=.type "enumerate",data:=.fields #[.none,.bool false,.ref h.objs.size,rawInt 0,.none,.none]}
theorem Jw(b:Bool)(l:Addr)(xs:Array Value):Meets (Builtin.«enumerate.__new__» ⟨[.type "enumerate",.ref l],[]⟩) (fun _ R s=>fS b s.heap l xs/\R (.ok (.ret (.ref (om b s.heap l).objs.size))) {s with heap:=t7 b s.heap l}):=.of_wp fun prog w A R s h=>by
   obtain⟨hp,gg,d,tk,os⟩:=s;obtain⟨hl,h⟩:=h;have y8:=sub_enumerate;have hL:fS b (Shared.heap ⟨hp,gg,d,tk,os⟩) l xs:=hl
   wp_walk using nu hL;refine wpAny_stack_any fun st=>aM ?_;split
   · rename_i c _ _ _ _ _
     cases(c==Value.type "enumerate")
     · wp_walk using nu hL
       exact⟨_,rfl,h⟩
     · wp_walk using nu hL
       exact⟨_,rfl,h⟩
   · wp_walk using nu hL
     exact⟨_,rfl,h⟩
section
variable {prog:LI}{w:World}{A:LK}{E:Value->LH->Prop}{s:LH}
theorem Jx{b:Bool}{l:Addr}{xs:Array Value}{Q:Value->LH->Prop}(hl:fS b s.heap l xs) (q:∀g,IsEnum g (s.heap.objs.size+1) s.heap.objs.size 0 .none->fU b g s.heap.objs.size l 0->(∀c o,s.heap.get? c=some o->g.get? c=some o)->Q (.ref (s.heap.objs.size+1)) {s with heap:=g}): wpAny (model prog w) A (call (.type "enumerate") [.ref l]) Q E s:=by refine callType_new PySem.F.called_enumerate (by decide) (PySem.F.typeCall_enumerate_1 _) (PySem.F.newCall_enumerate_1 _) (fun obj=>PySem.F.args_object_init_2 obj _) PySem.F.entry_enumerate_new (Jw b l xs) ⟨hl,?_⟩;have z1:(om b s.heap l).objs.size=s.heap.objs.size+1:=uE ..;have g2:(t7 b s.heap l).get? (om b s.heap l).objs.size=some _:=cu _ rfl;have g1:(t7 b s.heap l).get? s.heap.objs.size=some _:=bw _ (cu _ rfl);show _/\_;rw[z1]at g2⊢;refine⟨⟨_,g2,rfl⟩,q _ g2 ?_ fun c o e=>bw _ (bw _ e)⟩;cases b<;>exact⟨_,g1,rfl,rfl⟩
theorem yV{b:Bool}{it l:Addr}{xs:Array Value}(hh:A.handled=none)(ne:l≠it):Draws prog w A it [it,l] xs.size (fun i x=>xs[i]? =some x) (fun i h=>fU b h it l i/\fS b h l xs) where
 live:=fun i h st=>by obtain⟨o,e,_⟩:=st.1.ob;exact⟨o,e⟩
 frame:=fun i h h' st k=>⟨st.1.to fun o e=>k it (by simp) o e,st.2.to fun o e=>k l (by simp) o e⟩
 item:=fun i s Q E hi st hQ=>Fm st.1 st.2 (x:=xs[i]) (by simp[hi]) fun g gi sb=>hQ _ g s.toks (by simp[hi]) ⟨gi,st.2.to fun o e=>sb.extBut _ _ ne e⟩ sb
 done:=fun s Q E st hE=>Jv hh st.1 st.2 (by simp) fun g e a b=>hE g e a b
end
def m4(K:LG)(b:Bool)(l:Addr):It:=⟨fun i H=>∃xs x,fR b K H l xs/\xs[i]? =some x,fun i H v H'=>∃T x,v= .ref T/\(∀xs,fR b K H l xs->xs[i]? =some x)/\Nw H H' T (.tup [.int i,x]),fun i H=>∃xs,fR b K H l xs/\xs.length=i⟩
theorem C1{P:LI}{w:World}{K:LG}{elts:List Expr}{kt:Nat}{pos:Pos}{b:Bool}{e it l:Addr}(D:e≠it): Turn P w K (.Tuple elts kt pos) (m4 K b l) [e,it] e (fun i h=>(∃old,IsEnum h e it i old)/\fU b h it l i) where
  mem:=by simp
  obj:=fun i h st c hc=>by
   obtain⟨⟨old,he⟩,h1⟩:=st;simp only[aW,cP,gU]at hc;rcases hc with rfl|rfl
   ·exact⟨_,he,fun v e=>by cases e⟩
   ·obtain⟨o,e,_,n⟩:=h1.ob;exact⟨o,e,n⟩
  keep:=fun i h h' st k=>by obtain⟨⟨old,he⟩,h1⟩:=st;exact⟨⟨old,k e (by simp) _ he⟩,h1.to fun o q=>k it (by simp) o q⟩
  item:=by
   intro X hP hw hK hc i pins s σ H E I hf st hg;subst hP hw hK;obtain⟨xs,x,q1,e1⟩:=hg;obtain⟨its,r1,p1⟩:=q1.get I;obtain⟨u1,GR,qC⟩:=r1.get e1;obtain⟨⟨old,he⟩,h1⟩:=st;obtain⟨oi,cX,ci,_⟩:=h1.ob;have rM:∃o,s.heap.get? l=some o/\(o.cls= .type "list"\/o.cls= .type "tuple"):=by cases b<;>(obtain⟨o,ho,cc,_⟩:=p1;first|exact⟨o,ho,.inl cc⟩|exact⟨o,ho,.inr cc⟩)
   obtain⟨ol,gG,cl⟩:=rM;have FD:e≠l:=fun z=>by subst z;rw[he]at gG;cases gG;rcases cl with h|h<;>simp at h
   have nil:l≠it:=fun z=>by subst z;rw[cX]at gG;cases gG;rw[ci]at cl;cases b<;>(rcases cl with h|h<;>simp[lV]at h)
   have bp:i<its.toArray.size:=by rw[bC,<-r1.length];exact(dM.mp e1).1
   refine wpAny_pyNext_enum_itemD (yV (I.ok.hd hc) nil) he ⟨h1,p1⟩ bp D (by simp[D,FD]) fun y h' tk IH ho eP hT hsz kp=>⟨_,rfl,?_⟩;have ey:y=u1:=by
    have a1:its.toArray[i]? =some y:=IH;have a2:its.toArray[i]? =some u1:=by simpa using GR
    rw[a1]at a2;exact cf a2
   subst ey;refine wpAny_letOwnedTupleGo_enum ho fun g' HR sb=>?_;have hs:=sb.extBut;have elt:e<s.heap.objs.size:=aN he;have GK:it<s.heap.objs.size:=aN cX;have nw:Nw H (upd H s.heap.objs.size (.tup [.int i,x])) s.heap.objs.size (.tup [.int i,x]):=.of (I.hok.fresh (aD _));have I1:Inv X pins σ (upd H s.heap.objs.size (.tup [.int i,x])) {s with heap:=s.heap.push {cls:=.type "tuple",data:=.seq #[.int i tk,y]},toks:=tk+1}:=I.laid (t':=tk+1) (fun b ob q=>bw _ q) (aD _) ⟨by show 2<=sizeLine;decide,[.int i tk,y],.cons ⟨tk,rfl⟩ (.cons qC .nil),⟨_,cu _ rfl,rfl,_,rfl⟩⟩;have G2:∀c∈[e,it],c<s.heap.objs.size:=fun c hc=>by
    simp only[aW,cP,gU]at hc;rcases hc with rfl|rfl
    ·exact elt
    ·exact GK
   have hn:∀c∈[e,it],upd H s.heap.objs.size (.tup [.int i,x]) c=none:=fun c hc=>by rw[aL (bE (G2 c hc))];exact(hf c hc).1
   have I2:Inv X pins σ (upd H s.heap.objs.size (.tup [.int i,x])) {s with heap:=g',toks:=tk+1}:=Inv.pE (s:={s with heap:=s.heap.push {cls:=.type "tuple",data:=.seq #[.int i tk,y]},toks:=tk+1}) (t':=tk+1) (fp:=[e,it]) I1 (fun c o hc q=>by
    have q:(s.heap.push {cls:=.type "tuple",data:=.seq #[.int i tk,y]}).get? c=some o:=q;have nz:c≠e:=fun z=>hc (by simp[z]);rcases Heap.get?_push_cases q with⟨HY,rfl⟩|q'
    · subst HY
      exact hs _ _ nz hT
    ·exact hs _ _ nz (kp c o nz (fun z=>hc (by simp[z])) q')) (fun c hc=>by obtain⟨f0,f1,f2,f3,f4,f5⟩:=hf c hc;exact⟨hn c hc,f1,f2,f3,f4,f5⟩);refine⟨.ref s.heap.objs.size,_,I2,rfl,⟨s.heap.objs.size,x,rfl,fun zs hz=>?_,nw⟩,⟨⟨_,by simpa using HR⟩,eP.1.to fun o q=>hs _ o (eY D) q⟩,hn⟩;rw[fR.inj I hz q1];exact e1
  done:=by
   intro X hP hw hK hc i pins s σ H E I hf st hg;subst hP hw hK;obtain⟨xs,q1,HQ⟩:=hg;obtain⟨its,r1,p1⟩:=q1.get I;obtain⟨⟨old,he⟩,h1⟩:=st;obtain⟨oi,cX,ci,_⟩:=h1.ob;have rM:∃o,s.heap.get? l=some o/\(o.cls= .type "list"\/o.cls= .type "tuple"):=by cases b<;>(obtain⟨o,ho,cc,_⟩:=p1;first|exact⟨o,ho,.inl cc⟩|exact⟨o,ho,.inr cc⟩)
   obtain⟨ol,gG,cl⟩:=rM;have nil:l≠it:=fun z=>by subst z;rw[cX]at gG;cases gG;rw[ci]at cl;cases b<;>(rcases cl with h|h<;>simp[lV]at h)
   have hi:i=its.toArray.size:=by rw[bC,<-r1.length];exact HQ.symm
   subst hi;refine wpAny_pyNext_enum_endD (yV (I.ok.hd hc) nil) he ⟨h1,p1⟩ fun h' kp=>⟨rfl,?_⟩;exact I.pE (t':=s.toks) (fp:=[e,it]) (fun c o hc q=>kp c o (fun z=>hc (by simp[z])) q) hf
  self:=fun _ _ _ _ _ st h=>by obtain⟨⟨old,he⟩,_⟩:=st;exact wpAny_pyIter_enum he h
inductive B8(K:LG)(b:Bool)(R:It->Hp->Prop)(vs:List V)(H1:Hp):Prop |mk (l:_)(h0:vs=[.ref l])(h1:(∃xs,fR b K H1 l xs))(h2:R (m4 K b l) H1):B8 K b R vs H1
def GO(K:LG)(b:Bool)(ta:TA):TI:=fun σ H R=>ta σ H fun vs H1=>B8 K b R vs H1
theorem DV(K:LG){X:Cx}(hK:X.K=K)(b:Bool){elts:List Expr}{kt:Nat}{pF:Pos}{a:Expr}{ta:TA}{p pos:Pos}(hg:Gl X "enumerate")(hm:X.mg "enumerate"=none)(ha:PA X [a] ta)(hs:starEach [a] X.env=[(false,eval a X.env)]:=by rfl)(ya:starEach [] X.env=[]:=by rfl): PI X (.Tuple elts kt pF) (.Call (.Name "enumerate" p) [a] [] pos) (GO K b ta):=by
  subst hK;intro pins s σ H R I h;refine Call_ (l4 I hg hm PyProof.Rows.boot_enumerate (Br (ak (ha pos pins s σ H _ I h) fun us s1 ⟨vs,H1,I1,r1,q1⟩=>?_) (by rw[hs,ya]) (by rw[ya];rfl)));obtain⟨l,e,⟨xs,h1⟩,q⟩:=q1;subst e;obtain⟨u1,rfl,qC⟩:=vals1 r1;cases(show u1=Value.ref l from qC);obtain⟨Lb,v1,p1⟩:=h1.get I1;refine Jx p1 fun g zg ig kp=>wpAny_pyIter_enum zg ?_;refine⟨_,_,_,_,H1,rfl,I1.kept (t':=s1.toks) kp,C1 (ui (Nat.lt_succ_self _)),⟨⟨_,zg⟩,ig⟩,fun c hc=>?_,q⟩;have hle:s1.heap.objs.size<=c:=by simp only[aW,cP,gU]at hc;rcases hc with rfl|rfl<;>first|exact aD _|exact Nat.le_add_right _ _
  exact I1.jM hle (I1.hok.fresh hle)
theorem J9{K:LG}{b:Bool}{a:Addr}{xs:List V}{g:TG}{tb:TS}{D:Ends}{σ:St}{H:Hp}(Pv:Nat->St->Hp->Prop)(h0:Pv 0 σ H)(hl:∀i σ H,i<=xs.length->Pv i σ H->fR b K H a xs) (hs:∀i x σ H,xs[i]? =some x->Pv i σ H->∀T H',Nw H H' T (.tup [.int i,x])->g (.ref T) σ H' fun σ2 H2=>tb {D with nx:=Pv (i+1),ct:=Pv (i+1),bk:=D.nx} σ2 H2)(hd:∀σ H,Pv xs.length σ H->D.nx σ H): ∃W:Nat->Nat->St->Hp->Prop,(∃m,W 0 m σ H)/\∀i m σ H,W i m σ H->((m4 K b a).stop i H/\D.nx σ H)\/((m4 K b a).go i H/\∃N:St->Hp->Prop,(∀σ' H',N σ' H'->∃m',m'<m/\W (i+1) m' σ' H')/\∀x H',(m4 K b a).yld i H x H'->g x σ H' fun σ2 H2=>tb {D with nx:=N,ct:=N,bk:=D.nx} σ2 H2):=by
  refine⟨fun i m σ H=>m=xs.length-i/\i<=xs.length/\Pv i σ H,⟨xs.length,by simp,bK _,h0⟩,?_⟩;rintro i m σ H ⟨rfl,hi,p⟩;have q:=hl i σ H hi p;by_cases bp:i<xs.length
  · refine .inr ⟨⟨xs,xs[i],q,by simp[bp]⟩,Pv (i+1),fun σ' H' p'=>⟨xs.length-(i+1),by omega,rfl,bp,p'⟩,fun x H' y=>?_⟩
    obtain⟨T,z,rfl,ez,nw⟩:=y;exact hs i z σ H (ez xs q) p T H' nw
  · have e:i=xs.length:=by omega
    subst e;exact .inl ⟨⟨xs,q,rfl⟩,hd σ H p⟩
section
variable {X:Cx}
end
end L2
namespace L2
open PySem PySem.Spec PyProof.Rows
set_option maxHeartbeats 1000000 in
theorem wC{X:Cx}{N:List Str}{js:List (Option Nat)}{elt tg iter:Expr}{ifs:List Expr}{scope:Scope}{pos:Pos}{wi:TI}{g:TG}{tt:TT}{te:TE}{i0:Nat}{x0:Str}{jt vf:Pos}(II:X.N.Nodup)(Hz:X.N[i0]? =some x0)(rW:Loc X.env.scope x0)(hc:X.calm=true)(hN:oz X N js scope=true)(hS:jT X scope=true) (hi:PI X tg iter wi)(hg:∀cl s H fp pins,PG (bI X N scope cl s H fp pins) tg g)(ht:∀cl s H fp pins,oF (bI X N scope cl s H fp pins) ifs tt)(he:∀cl s H fp pins,PE (bI X N scope cl s H fp pins) elt te) (GU:swapsWith (.ListComp elt [⟨tg,iter,ifs,0⟩] scope pos) (some (.Name x0 jt)) vf.line X.env=pure true:=by rfl)(HP:X.fn x0=true\/X.env.scope.names.lookup x0=some .local:=by first|exact .inl rfl|exact .inr rfl) (hs:∀x,foldedSetIterable iter X.env x=pure x:=by intro _;rfl):PS X (.Assign [.Name x0 jt] (.ListComp elt [⟨tg,iter,ifs,0⟩] scope pos) vf) (mE (uW js wi g tt te) (dX i0)):=by
  intro pins s σ H D0 I h;have j4:=hS;unfold jT at j4;rw[bQ,bQ]at j4;obtain⟨⟨k1,k2⟩,k3⟩:=j4;have fK:scope.kind= .function:=cq.mp k1;have jJ:∀x∈scope.names,x.2= .free->∃c,X.env.cells.lookup x.1=some c:=fun x hx e=>by have:=bU.mp k3 x hx;rw[e]at this;exact I.ok.has x.1 (.inl (cq.mp this))
  have i7:∀x∈scope.names,x.2≠ .cell:=fun x hx e=>by have:=bU.mp k3 x hx;rw[e]at this;exact aZ this
  have sk:∀x∈scope.names,x.2= .local->scope.names.lookup x.1=some .local:=fun x hx e=>by have:=bU.mp k3 x hx;rw[e]at this;exact cq.mp this
  obtain⟨cl,sA,c1,c2⟩:=zm jJ;rw[exec_Assign_Name_used _ _ _ _ GU];refine ag (k9 (ag ?_));show wpAny _ X.A (do let _<-comprehension (.ListComp elt [⟨tg,iter,ifs,0⟩] scope pos) scope X.env _ (newList []) false (eval iter X.env) (some (assign (.Name x0 jt) X.env))) _ _ s;refine ag (dw (wpAny_comprehension_free (use:=some (assign (.Name x0 jt) X.env)) (Q:=fun _ s'=>SP X pins D0 .next s') rfl hs sA fK sk (ak (hi pins s σ H _ I h) fun v s1 h1=>ak h1 fun nF s2 h2=>?_)) (fun _ s' hq=>aM (aM hq)) fun _ _ e=>e);obtain⟨it,fp,tn,J,H2,e,I2,T,iE,f2,h2⟩:=h2;subst e;have hD:H2 s2.heap.objs.size=none:=I2.hok.fresh (aD _);obtain⟨W,⟨m0,w0⟩,turn⟩:=h2 _ _ (Nw.of hD);refine ip (wpAny_newFunctionEnv i7 (by intro y hy;simp at hy) (fun h₁ lE lu=>?_) fK);have j7:∀b∈fp,b<s2.heap.objs.size:=fun b hb=>by obtain⟨o,e,_⟩:=T.obj _ _ iE b hb;exact aN e
  have I3:Inv X pins σ (upd H2 s2.heap.objs.size (.lst [])) {s2 with heap:=s2.heap.push {cls:=.type "list",dict:=none,data:=.seq ([]:List Value).toArray}}:=I2.xH (its:=[]) (t':=s2.toks) .nil (bK _);generalize lP:s2.heap.push {cls:=.type "list",dict:=none,data:=.seq ([]:List Value).toArray}=h3 at I3 lE lu;have kG:h3.objs.size=s2.heap.objs.size+1:=by rw[<-lP,uE]
  have rN:∀b o,s2.heap.get? b=some o->h3.get? b=some o:=fun b o e=>by rw[<-lP];exact bw _ e
  have f3:∀b∈fp,eU X pins (upd H2 s2.heap.objs.size (.lst [])) b:=fun b hb=>⟨by rw[aL (bE (j7 b hb))];exact(f2 b hb).1,(f2 b hb).2⟩;have l5:∀b o,h3.get? b=some o->h₁.get? b=some o:=fun b o e=>(lu.2 b (bE (aN e))).trans (bw _ e);have I4:Inv (bI X N scope cl {s2 with heap:=h3} (upd H2 s2.heap.objs.size (.lst [])) fp pins) [] (stC js σ) (upd H2 s2.heap.objs.size (.lst [])) {s2 with heap:=h₁,toks:=s2.toks+([]:List (Str×Value)).length}:=I3.comp (s:={s2 with heap:=h3}) hN hS c1 c2 f3 (fun b hb=>by show b<h3.objs.size;rw[kG];exact uj (j7 b hb)) (by simpa using lE) l5;have kH:tn 0 h₁:=T.keep _ _ _ iE fun b _ o e=>l5 b o (rN b o e);have loop:codeAny (model X.prog X.w) X.A (.compLoop (.ListComp elt [⟨tg,iter,ifs,0⟩] scope pos) 0 (.ref it) (.ref s2.heap.objs.size) (compEnvC scope cl h3.objs.size X.env)) (compPost (model X.prog X.w) X.A X.xe (some (assign (.Name x0 jt) X.env)) (fun _ s'=>SP X pins D0 .next s') (.ref s2.heap.objs.size) h3.objs.size) {s2 with heap:=h₁,toks:=s2.toks+([]:List (Str×Value)).length}:=by
    refine zj (fun n s'=>∃i σ' H',Inv (bI X N scope cl {s2 with heap:=h3} (upd H2 s2.heap.objs.size (.lst [])) fp pins) [] σ' H' s'/\tn i s'.heap/\(∀b∈fp,H' b=none)/\W i n σ' H') ?_ m0 ⟨0,_,_,I4,kH,fun b hb=>(f3 b hb).1,w0⟩;rintro n s5 ⟨i,σ5,H5,I5,gv,j6,w5⟩;have fw:∀{H':Hp},(∀b∈fp,H' b=none)->∀b∈fp,eU (bI X N scope cl {s2 with heap:=h3} (upd H2 s2.heap.objs.size (.lst [])) fp pins) [] H' b:=fun{H'} hn b hb=>by
     obtain⟨_,q1,q2,q3,q4,q5⟩:=f3 b hb;refine⟨hn b hb,fun z=>?_,I4.ok.exfs b hb,.inl hb,fun x c e=>q4 x c (c1 x c e),fun p hp=>q5 p (by simpa[bI]using hp)⟩;have bp:b<h3.objs.size:=by rw[kG];exact uj (j7 b hb)
     exact bE bp z
    rcases turn i n σ5 H5 w5 with⟨stop,qn⟩|⟨go,step⟩
    · refine ak (T.done (bI X N scope cl {s2 with heap:=h3} (upd H2 s2.heap.objs.size (.lst [])) fp pins) rfl rfl rfl hc i [] s5 σ5 H5 _ I5 (fw j6) gv stop) fun r s6 ⟨hr,I6⟩=>?_
      subst hr;obtain⟨m,hm,_⟩:=I6.loc;have u0:Un (bH X.stack) fp (upd H2 s2.heap.objs.size (.lst [])) H5 h3 s6.heap:=I6.base;have I7:Inv X pins σ H5 s6:=I3.oA (s':=s6) (ch:=fp) I6.os u0 I6.hok I6.bare fun b hb=>⟨(f3 b hb).2.2.2.1,(f3 b hb).2.1,(f3 b hb).2.2.2.2.1,(f3 b hb).2.2.2.2.2⟩;have hC:eU X pins H5 h3.objs.size:=I3.jM (aD _) I6.free;show wpAny _ X.A (assign (.Name x0 jt) X.env (.ref s2.heap.objs.size)) _ _ s6;refine wpAny_assign_Name (vb I7 II Hz rW (show RelV (.ref s2.heap.objs.size) (.ref s2.heap.objs.size)from rfl) (fun s8 I8 GY=>?_) HP);obtain⟨a,sb,ha⟩:=GY;have IV:h3.objs.size≠a:=by
       rcases ha with rfl|ha
       ·exact hC.2.1
       ·exact fun z=>hC.2.2.2.2.1 x0 a ha z.symm
      refine⟨m,hm.sameBut sb IV,fun h9 GZ=>⟨_,H5,?_,qn⟩⟩;exact I8.pE (t':=s8.toks) (fp:=[h3.objs.size]) (fun b o hb e=>GZ.extBut b o (fun z=>hb (by simp[z])) e) fun b hb=>by rw[eZ.mp hb];exact hC
    · refine ak (T.item (bI X N scope cl {s2 with heap:=h3} (upd H2 s2.heap.objs.size (.lst [])) fp pins) rfl rfl rfl hc i [] s5 σ5 H5 _ I5 (fw j6) gv go) fun r s6 ⟨u,hr,h6⟩=>?_
      subst hr;refine ak h6 fun _ s7 ⟨x,H7,I7,r7,y7,iD,sQ⟩=>?_;have tZ:=I7.pinned (fw sQ) (T.obj _ _ iD);refine ak (hg _ _ _ _ _ _ s7 σ5 H7 x u _ tZ r7 (step x H7 y7)) fun _ s8 ⟨σ8,H8,I8,q8⟩=>?_;refine ak (ht _ _ _ _ _ _ s8 σ8 H8 _ I8 q8) fun ok s9 ⟨H9,I9,q9⟩=>?_;have again:∀{s':LH}{σ7:St}{H7:Hp},Inv (bI X N scope cl {s2 with heap:=h3} (upd H2 s2.heap.objs.size (.lst [])) fp pins) ([]++jv fp s7.heap) σ7 H7 s'->(∃m',m'<n/\W (i+1) m' σ7 H7)->∃m,m<n/\∃i σ' H',Inv (bI X N scope cl {s2 with heap:=h3} (upd H2 s2.heap.objs.size (.lst [])) fp pins) [] σ' H' s'/\tn i s'.heap/\(∀b∈fp,H' b=none)/\W i m σ' H':=fun{s' σ7 H7} J7 n7=>by obtain⟨m',hm,w7⟩:=n7;refine⟨m',hm,i+1,σ7,H7,J7.ky,T.keep _ _ _ iD fun b hb o e=>(J7.pin (b,o) (eJ _ (eJ _ (jG hb e)))).1,fun b hb=>?_,w7⟩;obtain⟨o,e,d⟩:=T.obj _ _ iD b hb;exact(J7.pin (b,o) (eJ _ (eJ _ (jG hb e)))).2.1
      cases ok with |false=>rw[aC aZ]at q9⊢;exact again I9 q9 |true=>rw[aI rfl]at q9⊢;refine ak (he _ _ _ _ _ _ s9 σ8 H9 _ I9 q9) fun yv cI ⟨y,cy,jY,qK,ys,rT,hz,pw⟩=>?_;refine ak (rE _ cI σ8 cy (.ref s2.heap.objs.size) [y] (.ref s2.heap.objs.size) [yv] (fun _ da=>∃m',m'<n/\W (i+1) m' σ8 da) jY rfl (.cons qK .nil) ⟨_,ys,y,rfl,rfl,rT,hz,pw⟩) fun _ f9 ⟨v11,da,u4,DF,jr⟩=>?_;exact again u4 jr
  exact codeAny_compStart_list loop (T.self _ 0 _ _ _ kH loop)
theorem zr:∀{zs:List Str}{us:List Value},Vals (zs.map V.str) us->CarriedAll us (zs.map PyData.str) |[],_,.nil=>.nil |z::zs,_,.cons q r=>by obtain⟨t,rfl⟩:=(show∃t,_=Value.str z t from q);exact .cons (.str z t) (zr r)
section
variable {X:Cx}
end
end L2
namespace L2
open PySem PySem.Spec PyProof.Rows
section
variable {X:Cx}{pins:List (Addr×Obj)}{σ:St}{H:Hp}{s:LH}
end
end L2
namespace L2
open PySem PySem.Spec PyProof.Rows
section
variable {X:Cx}
end
end L2
namespace L2
open PySem PySem.Spec PyProof.Rows
section
variable {prog:LI}{w:World}{A:LK}{E:Value->LH->Prop}{s:LH}
end
end L2
namespace L2
open PySem PySem.Spec PyProof.Rows
theorem DJ(K:LG){X:Cx}(hK:X.K=K){a:Expr}{ta:TE}(ha:PE X a ta)(he:∀whole,isTrue a X.env whole=(do let v<-whole;standAt a.pos;holding [v] (truthy v)):=by intro _;rfl): PT X a (fun σ H Q=>ta σ H fun x H'=>∃k,tU K x H' k/\Q k H'):=by subst hK;exact DI ha he
end L2
namespace Cn
open Ln
end Cn
namespace Pn
section
variable (n:Nat)(own:Nat->Rat)(L:Nat->Option Nat)(r f:Int)
end
section
variable {n:Nat}{own g:Nat->Rat}{L:Nat->Option Nat}{r f:Int}
end
open Rt
end Pn
namespace Ow
open Pn Cn Ln Rt
end Ow
namespace Wk
open PySem L2
end Wk
namespace L2
open PySem PySem.Spec PyProof.Rows
def oM(z:Str):It:=⟨fun i _=>i<z.cps.size,fun i H x H'=>H'=H/\∃c,z.cps.toList[i]? =some c/\x= .str ⟨#[c]⟩,fun i _=>z.cps.size<=i⟩
theorem BX{P:LI}{w:World}{K:LG}{tg:Expr}(it:Addr)(z:Str)(t:Tok)(ty:String)(rX:["enumerate","zip","dict_itemiterator","dict_reverseitemiterator","odict_iterator","itertools.zip_longest","itertools.pairwise"].contains ty=false) (W:∀A':LK,A'.handled=none->Walks P w A' it [it] [it] z.cps.size (SignAt z) (fun i h=>h.IsStrIter it ty z t i)) (self:∀(A:LK)(i:Nat)(s:LH)(Q:Value->LH->Prop)(E:Value->LH->Prop),s.heap.IsStrIter it ty z t i->Q (.ref it) s->wpAny (model P w) A (pyIter (.ref it)) Q E s): Turn P w K tg (oM z) [it] it (fun i h=>h.IsStrIter it ty z t i/\i<=z.cps.size) where
  mem:=by simp
  obj:=fun i h st b hb=>by
   have e:b=it:=by simpa using hb
   subst e;obtain⟨⟨o,e,c,d⟩,_⟩:=st;exact⟨o,e,fun v z=>by rw[d]at z;cases z⟩
  keep:=fun i h h' st k=>⟨let⟨o,e,r⟩:=st.1;⟨o,k it (by simp) o e,r⟩,st.2⟩
  item:=by intro X hP hw hK hc i pins s σ H E I hf st hg;subst hP hw hK;obtain⟨f0,f1,f2,f3,f4,f5⟩:=hf it (by simp);refine(W X.A (I.ok.hd hc)).item i s _ _ hg st.1 fun v h' tk hv dN kk=>?_;obtain⟨c,u,ec,rfl⟩:=hv;have I1:Inv X pins σ H {s with heap:=h',toks:=tk}:=I.turned (fun b o hb e=>kk b o (by simpa using hb) e) f0 f1 f3 f4 f5;obtain⟨o,e,cl,d⟩:=id dN;exact⟨_,rfl,o5 (s:={s with heap:=h',toks:=tk}) e cl d rX ⟨.str ⟨#[c]⟩,H,I1,⟨u,rfl⟩,⟨rfl,c,by simpa using ec,rfl⟩,⟨dN,hg⟩,fun b hb=>(hf b hb).1⟩⟩
  done:=by intro X hP hw hK hc i pins s σ H E I hf st hg;subst hP hw hK;obtain⟨f0,f1,f2,f3,f4,f5⟩:=hf it (by simp);obtain⟨st,hle⟩:=st;have ei:i=z.cps.size:=Nat.le_antisymm hle hg;subst ei;exact(W X.A (I.ok.hd hc)).done s _ _ st fun h' tk eb=>⟨rfl,I.turned (fun b o hb e=>eb b o (by simpa using hb) e) f0 f1 f3 f4 f5⟩
  self:=fun A i s Q E st h=>self A i s Q E st.1 h
section
variable {X:Cx} {tg:Expr}
inductive B5(R:It->Hp->Prop)(x:V)(H1:Hp):Prop |mk (z:_)(h0:x= .str z)(h1:R (oM z) H1):B5 R x H1
def GL(tl:TE):TI:=fun σ H R=>tl σ H fun x H1=>B5 R x H1
theorem mT{l:Expr}{tl:TE}(hl:PE X l tl):PI X tg l (GL tl):=by
 intro pins s σ H R I h;refine ak (hl pins s σ H _ I h) fun v s1 ⟨x,H1,I1,r1,q1⟩=>?_;obtain⟨z,e,q⟩:=q1;subst e;obtain⟨t,rfl⟩:=r1;have fin:∀ty,["enumerate","zip","dict_itemiterator","dict_reverseitemiterator","odict_iterator","itertools.zip_longest","itertools.pairwise"].contains ty=false->(∀A':LK,A'.handled=none->Walks X.prog X.w A' s1.heap.objs.size [s1.heap.objs.size] [s1.heap.objs.size] z.cps.size (SignAt z) (fun i h=>h.IsStrIter s1.heap.objs.size ty z t i))->(∀(A:LK)(i:Nat)(s:LH)(Q:Value->LH->Prop)(E:Value->LH->Prop),s.heap.IsStrIter s1.heap.objs.size ty z t i->Q (.ref s1.heap.objs.size) s->wpAny (model X.prog X.w) A (pyIter (.ref s1.heap.objs.size)) Q E s)->tW X pins σ tg R (.ref s1.heap.objs.size) {s1 with heap:=s1.heap.push {cls:=.type ty,data:=.fields #[.str z t,.int 0 0]}}:=fun ty h1 h2 h3=>by
   refine⟨s1.heap.objs.size,[s1.heap.objs.size],_,_,H1,rfl,I1.kept (t':=s1.toks) fun b o e=>bw _ e,BX _ z t ty h1 h2 h3,⟨⟨_,cu _ rfl,rfl,rfl⟩,bK _⟩,fun b hb=>?_,q⟩;have e:b=s1.heap.objs.size:=by simpa using hb
   subst e;exact I1.jM (aD _) (I1.hok.fresh (aD _))
 cases ha:z.cps.all (·<128)
 ·exact wpAny_pyIter_wide ha (fin "str_iterator" (by decide) (fun A' hA=>Walks.strWide hA _ z t) (fun _ _ _ _ _ st h=>wpAny_pyIter_striter_wide st h))
 ·exact wpAny_pyIter_ascii ha (fin "str_ascii_iterator" (by decide) (fun A' hA=>Walks.strAscii hA _ z t) (fun _ _ _ _ _ st h=>wpAny_pyIter_striter_ascii st h))
theorem tj{z:Str}{f:Nat->Bool}{te:TE}{Q:VK}{D:Addr}{H H0:Hp}(rest:St)(nw:Nw H H0 D (.lst []))(hz:z.length<=1000) (hs:∀(c:Nat)(H2:Hp)(Q':VK),c∈z.cps.toList->af H H2->(∀H3,af H2 H3->Q' (.bl (f c)) H3)->te (some (.str ⟨#[c]⟩)::rest) H2 Q') (hq:∀H',af H H'->H' D=some (.lst ((z.cps.toList.map f).map V.bl))->Q (.ref D) H'):fZ (oM z) (dX 0) g7 te Q D (none::rest) H0:=by
  have hl:z.cps.toList.length=z.cps.size:=by simp
  refine zi (xs:=z.cps.toList.map fun c=>V.str ⟨#[c]⟩) (bs:=z.cps.toList.map f) rest nw (by simp) (by simpa[Str.length]using hz) ?_ ?_ ?_ hq
  · intro i x H2 ex s2
    rw[cg]at ex;cases ec:z.cps.toList[i]? with |none=>rw[ec]at ex;cases ex |some c=>rw[ec]at ex;cases ex;refine⟨by have:=(dM.mp ec).1;show i<z.cps.size;omega,fun y H3 ⟨e3,c',yX,e⟩=>⟨e3,?_⟩⟩;rw[ec]at yX;cases yX;exact e
  · intro H2 s2
    show z.cps.size<=(z.cps.toList.map _).length;rw[aE,hl];exact aD _
  · intro i x b H2 Q' ex eb s2 iY
    rw[cg]at ex eb;cases ec:z.cps.toList[i]? with |none=>rw[ec]at ex;cases ex |some c=>rw[ec]at ex eb;cases ex;cases eb;exact hs c H2 Q' (fq ec) s2 iY
theorem wO:aQ X (compareOp .LtE) (fun x y H Q=>∃i j,x= .str i/\y= .str j/\Q (.bl (!(decide (j.cps.toList<i.cps.toList)))) H):=by intro pins s σ H x y v u Q I rx ry h;obtain⟨i,j,rfl,rfl,q⟩:=h;obtain⟨t,rfl⟩:=rx;obtain⟨t',rfl⟩:=ry;exact PySem.P.le_str (bh I q rfl)
theorem wQ:aQ X (compareOp .In) (fun x y H Q=>∃c j,x= .str ⟨#[c]⟩/\y= .str j/\Q (.bl (decide (c∈j.cps.toList))) H):=by intro pins s σ H x y v u Q I rx ry h;obtain⟨c,j,rfl,rfl,q⟩:=h;refine Ef pins s σ H _ _ v u Q I rx ry ⟨_,_,rfl,rfl,?_⟩;rw[PySem.StrLaws.found_one];exact q
inductive AV(K:LG)(x:V)(y:V)(H:Hp)(Q:VK):Prop |mk (p:_)(xs:_)(d:_)(ds:_)(h0:y= .ref p)(h1:ay K H p xs)(h2:RD K H x d)(h3:aj K H xs ds)(h4:SeqAt.shaped d=true)(h5:(∀e∈ds,SeqAt.shaped e=true))(h6:Q (.bl (ds.any fun e=>PyData.eqv e d)) H):AV K x y H Q
def DA(K:LG):R2:=fun x y H Q=>AV K x y H Q
theorem GJ(K:LG)(hK:X.K=K)(hu:X.A.units+65<cLine):aQ X (compareOp .In) (DA K):=by
 subst hK;intro pins s σ H x y v u Q I rx ry h;obtain⟨p,xs,d,ds,rfl,hx,hd,i6,sd,pR,q⟩:=h;cases ry;obtain⟨its,r,pl,hz⟩:=I.tuple hx;obtain⟨k1,k2⟩:=sY I hu rx hd sd r i6 pR;refine SeqAt.in_tupleAt (gM s.heap d) (show s.heap.IsTuple p its.toArray from pl) (fun w hw=>k1 w (by simpa using hw)) ⟨.bl _,H,I,rfl,?_⟩;have e:its.toArray.any (gM s.heap d)=ds.any fun e=>PyData.eqv e d:=by rw[<-k2];simp
 rw[e];exact q
theorem DR(lo hi:Option Int)(n:Nat):(Builtin.Str.strSliceIndices lo hi 1 n).length<=n:=by unfold Builtin.Str.strSliceIndices PySem.sliceRange;simp only[show((1:Int)>0)=True from by simp,iq,aE,List.length_range];rcases lo with _|lo<;>rcases hi with _|hi<;>simp only<;>(repeat' split)<;>omega
theorem vD(a c:Nat):(!(decide ([c]<[a])))=decide (a<=c):=by rw[dy];simp[List.cons_lt_cons_iff]
end
end L2
namespace L2
open PySem PySem.Spec PyProof.Rows
inductive B1(K:LG)(x:V)(y:V)(H:Hp)(Q:VK):Prop |mk (a:_)(b:_)(xs:_)(ys:_)(h0:x= .ref a)(h1:y= .ref b)(h2:ay K H a xs)(h3:ay K H b ys)(h4:xs.length+ys.length<=sizeLine)(h5:∀c H',af H H'->ay K H' c (xs++ys)->Q (.ref c) H'):B1 K x y H Q
def DD(K:LG):R2:=fun x y H Q=>B1 K x y H Q
section
variable {X:Cx}
theorem zq(K:LG)(hK:X.K=K):aQ X (binaryOp .Add) (DD K):=by
 subst hK;intro pins s σ H x y v u Q I rx ry h;obtain⟨a,b,xs,ys,rfl,rfl,ha,hb,hz,q⟩:=h;cases rx;cases ry;obtain⟨its,r1,p1,_⟩:=I.tuple ha;obtain⟨lg,r2,p2,_⟩:=I.tuple hb;by_cases e0:xs=[]
 · subst e0
   have i0:its=[]:=r1.rk.mpr rfl;subst i0;obtain⟨⟨cls,dd,data,sl⟩,ho,hc,n,hd⟩:=id p1;obtain⟨⟨zl,jS,data2,jn⟩,gf,fj,n2,hd2⟩:=id p2;simp only at hc hd fj hd2;subst hc hd fj hd2;exact concat_meets ⟨_,ho,rfl⟩ ⟨_,gf,rfl⟩ noFill_tuple_add seq_tuple_add Bm Bo (Bp _ _) (tuple_addW0 a b _ lg.toArray n n2 dd jS sl jn (by simp)) ⟨ho,gf,⟨.ref b,H,I,rfl,q _ _ (af.refl H) hb⟩⟩
 · refine HT.JR p1 p2 (fun z=>e0 (r1.rk.mp z)) (fun z=>⟨.ref a,H,I,rfl,?_⟩) (fun z=>?_) (by rw[<-r1.length,<-r2.length];exact hz)
   · have e1:ys=[]:=r2.rk.mp z
     subst e1;exact q _ _ (af.refl H) (by rw[ji];exact ha)
   · have hf:H s.heap.objs.size=none:=I.hok.fresh (aD _)
     have nw:Nw H (upd H s.heap.objs.size (.tup (xs++ys))) s.heap.objs.size (.tup (xs++ys)):=.of hf;refine⟨.ref s.heap.objs.size,_,I.laid (t':=s.toks) (o:=.tup (xs++ys)) (fun b ob q=>bw _ q) (aD _) ?_,rfl,q _ _ nw.same (ay.of nw.at')⟩;exact⟨by rw[dc];exact hz,_,r1.append r2,IsTup.new _ _⟩
end
theorem JI(xs:List V):cM xs none (some (-1))=xs.take (xs.length-1):=by
 unfold cM;have e:=HT.oy (-1) xs.length xs.length;rw[HT.ql];have e2:HT.aH xs.length xs.length (some (-1))=xs.length-1:=by simp at e;omega
 rw[e2];simp
section
variable {X:Cx}
open PyProof
end
end L2
namespace L2
open PySem PySem.Spec PyProof.Rows
section
variable {K:LG} {H H' H2:Hp}
end
end L2
namespace L2
open PySem PySem.Spec PyProof.Rows
section
variable {X:Cx} {tg:Expr}
end
end L2
namespace L2
open PySem PySem.Spec PyProof.Rows
section
variable {P:LI}{w:World}{K:LG}{mg:Str->Option Value}{base:Heap}
end
section
variable {X:Cx}{k:Nat}{x m:Str}{C:Addr}{p pos apos:Pos}{o e:Expr}{es:List Expr}{t:TA}{ta:TE}{sp:Sp}
end
section
variable {K:LG} {H H' H2:Hp}
end
end L2
namespace L2
open PySem PySem.Spec PyProof.Rows
section
variable {X:Cx}
end
theorem yw{K:LG}{mg:Str->Option Value}{x z:Str}{t:Tok}{h:Heap}(X:K.In h)(G:h.Ns mainGlobals mg)(a:PySem.W.nsIn K mainGlobals x=some (some (.str z t))):GV mg x (.str z):=⟨_,kg X G a,t,rfl⟩
end L2
set_option exponentiation.threshold 6000
namespace L2
open PySem PySem.Spec PyProof.Rows
section
variable {X:Cx}
theorem tu:bJ X (.type "str") (fun xs H Q=>(∃i,xs=[.int i]/\i.natAbs.log2<1920/\Q (.str (toString i)) H)\/∃z,xs=[.str z]/\Q (.str z) H):=by
 intro pins s σ H xs us Q I r h;rcases h with⟨i,rfl,hz,q⟩|⟨z,rfl,q⟩
 · obtain⟨u,rfl,t,rfl⟩:=vals1 r
   exact PySem.P.str_of_int hz ⟨.str _,H,I.tok _,⟨_,rfl⟩,q⟩
 · obtain⟨u,rfl,t,rfl⟩:=vals1 r
   exact PySem.P.str_of_str ⟨.str _,H,I,⟨_,rfl⟩,q⟩
theorem rO(sep:Str){B:Nat}:∀(zs:List Str),(∀z∈zs,z.length<=B)->(Txt.join sep zs).length<=zs.length*(B+sep.length)
  |[],_=>bK _ |a::r,h=>by
    show(Builtin.Str.glued sep (a::r)).length<=_;rw[ke,len_join_cons];have:=sumLen_le_of_bound id B (a::r) h;rw[List.map_id]at this;rw[ft]at this⊢;have e1:(r.length+1)*(B+sep.length)=B*(r.length+1)+(r.length*sep.length+sep.length):=by rw[Nat.mul_add,Nat.mul_comm (r.length+1) B,Nat.add_mul r.length 1 sep.length,Nat.one_mul]
    omega
inductive AK(K:LG)(x:V)(vs:List V)(H:Hp)(Q:VK):Prop |mk (sep:Str)(l:Addr)(zs:List Str)(h0:x= .str sep)(h1:vs=[.ref l])(h2:aa K H l (zs.map V.str))(h3:(∀z∈zs,z.length<=4000))(h4:sep.length<=8)(h5:zs.length<=1000)(h6:Q (.str (Txt.join sep zs)) H):AK K x vs H Q
def wz(K:LG):V->List V->Hp->VK->Prop:=fun x vs H Q=>AK K x vs H Q
theorem FQ(K:LG)(hK:X.K=K):oJ X "str.join" (wz K):=by subst hK;intro pins s σ H x vs v us Q I rx rv h;obtain⟨sep,l,zs,rfl,rfl,hl,hz,hs,hn,q⟩:=h;obtain⟨t,rfl⟩:=rx;obtain⟨u,rfl,ru⟩:=vals1 rv;cases(show u=Value.ref l from ru);obtain⟨its,r,pl,_⟩:=I.list hl;have GW:=sumLen_le_of_bound id 4000 zs hz;rw[List.map_id]at GW;have h1:zs.length*sep.length<=1000*8:=Nat.mul_le_mul hn hs;refine join_list (ys:=zs) pl.isList (StrsAre.of_carried (zr r)) (by omega) fun t' k=>?_;exact⟨.str _,H,I.tok _,⟨_,rfl⟩,q⟩
theorem kS(K:LG)(h:X.K=K){o e:Expr}{to:TE}{t:TA}{apos ba:Pos}(ho:PE X o to)(ha:PA X [e] t) (gK:attributeBase o "join" X.env (eval o X.env)=eval o X.env:=by rfl) (gJ:((backTo ba (starEach [e] X.env)).all (fun x=>!x.1)&&(backToKw ba (keywordEach [] X.env)).all (fun x=>x.1.isSome) &&decide ([e].length+([]:List Keyword).length+(if([]:List Keyword).isEmpty then 0 else 1)<30))=true:=by rfl) (gH:(apos.endLine==ba.line)=true:=by rfl)(hs:starEach [e] X.env=(false,eval e X.env)::starEach [] X.env:=by rfl)(gF:(backTo ba (starEach [] X.env)).any (·.1)=false:=by rfl): PE X (.Call (.Attribute o "join" apos) [e] [] ba) (kF K "str" (wz K) to t):=by subst h;exact mV Bn PySem.F.slot_str_join PySem.F.type_str_join (FQ X.K rfl) ho ha gK gJ gH hs gF
theorem uO{i:Int}(h:i.natAbs<10^40):(Str.ofString (toString i)).length<=41:=by rw[Bk];exact Bi (k:=40) (by decide) h
theorem rH{i:Int}(h:i.natAbs<10^40):i.natAbs.log2<1920:=by
 by_cases h0:i.natAbs=0
 ·rw[h0];decide
 ·exact(Nat.log2_lt h0).mpr (Nat.lt_trans h (by decide))
theorem zt:∀(l:List (Str×Tok)),Vals ((l.map (·.1)).map V.str) (strValues l) |[]=>.nil |(z,t)::l=>.cons ⟨t,rfl⟩ (zt l)
theorem split_len(x y:Str):(Txt.split x y).length<=x.length+2:=by
 unfold Txt.split;split
 ·simp
 · split
   ·simp
   · have e1:=StrLaws.occ_length_le x y 0 x.length (x.length+1)
     rw[length_partsBetween];omega
inductive AB(x:V)(vs:List V)(H:Hp)(Q:VK):Prop |mk (z y:Str)(h0:x= .str z)(h1:vs=[.str y])(h2:(y.length==0)=false)(h3:z.length+2<=sizeLine)(h4:∀p H',Nw H H' p (.lst ((Txt.split z y).map V.str))->Q (.ref p) H'):AB x vs H Q
def wx:V->List V->Hp->VK->Prop:=fun x vs H Q=>AB x vs H Q
theorem FO:oJ X "str.split" wx:=by
 intro pins s σ H x0 vs v us Q I rx rv h;obtain⟨x,y,rfl,rfl,hy,hz,q⟩:=h;obtain⟨t,rfl⟩:=rx;obtain⟨u0,rfl,u,rfl⟩:=vals1 rv;have key:∀(l:List (Str×Tok))(k:Nat),l.map (·.1)=Txt.split x y->EP X pins σ Q (.ref s.heap.objs.size) {s with toks:=k,heap:=s.heap.push {cls:=.type "list",data:=.seq (strValues l).toArray}}:=fun l k e=>by have nw:Nw H (upd H s.heap.objs.size (.lst ((Txt.split x y).map V.str))) s.heap.objs.size (.lst ((Txt.split x y).map V.str)):=.of (I.hok.fresh (aD _));refine⟨.ref s.heap.objs.size,_,I.laid (t':=k) (o:=.lst ((Txt.split x y).map V.str)) (fun b ob q=>bw _ q) (aD _) ?_,rfl,q _ _ nw⟩;have:=split_len x y;exact⟨by rw[aE];omega,_,0,by rw[<-e];exact zt l,cu _ rfl⟩
 cases h1:(decide (x.length<y.length)||decide (Builtin.Str.strKind x<Builtin.Str.strKind y))
 · cases hf:(Builtin.Str.occurrences x y 0 x.length (x.length+1)).isEmpty
   · have e1:=StrLaws.occ_length_le x y 0 x.length (x.length+1)
     refine call_meets F.slot_str_split (m7 _ _ _) F.entry_str_split (F.args_str_split_2 _ _) (meets_str_split_sep x y t u h1 hy hf (by omega) (by rw[length_partsBetween];omega)) ?_;show wants _ _ _ {s with toks:=_,heap:=s.heap.push {cls:=.type "list",data:=.seq (strsFrom s.toks (Builtin.Str.partsBetween x (Builtin.Str.occurrences x y 0 x.length (x.length+1)) y.length)).toArray}};rw[strsFrom_eq];exact key (numbered s.toks _) _ ((numbered_texts _ _).trans ((aC (Bh h1)).trans (aC (Bh hf))).symm)
   ·exact call_meets F.slot_str_split (m7 _ _ _) F.entry_str_split (F.args_str_split_2 _ _) (meets_str_split_not_found x y t u h1 hy hf) (key [(x,t)] s.toks ((aC (Bh h1)).trans (aI hf)).symm)
 ·exact call_meets F.slot_str_split (m7 _ _ _) F.entry_str_split (F.args_str_split_2 _ _) (meets_str_split_cannot_occur x y t u h1) (key [(x,t)] s.toks (aI h1).symm)
theorem jx(K:LG)(h:X.K=K){o e:Expr}{to:TE}{t:TA}{apos ba:Pos}(ho:PE X o to)(ha:PA X [e] t) (gK:attributeBase o "split" X.env (eval o X.env)=eval o X.env:=by rfl) (gJ:((backTo ba (starEach [e] X.env)).all (fun x=>!x.1)&&(backToKw ba (keywordEach [] X.env)).all (fun x=>x.1.isSome) &&decide ([e].length+([]:List Keyword).length+(if([]:List Keyword).isEmpty then 0 else 1)<30))=true:=by rfl) (gH:(apos.endLine==ba.line)=true:=by rfl)(hs:starEach [e] X.env=(false,eval e X.env)::starEach [] X.env:=by rfl)(gF:(backTo ba (starEach [] X.env)).any (·.1)=false:=by rfl): PE X (.Call (.Attribute o "split" apos) [e] [] ba) (kF K "str" wx to t):=by subst h;exact mV Bn PySem.F.slot_str_split PySem.F.type_str_split FO ho ha gK gJ gH hs gF
inductive AI(x:V)(vs:List V)(H:Hp)(Q:VK):Prop |mk (z y:Str)(h0:x= .str z)(h1:vs=[.str y])(h3:z.length<=sizeLine)(h4:Q (.str (Txt.removeprefix z y)) H):AI x vs H Q
def wy:V->List V->Hp->VK->Prop:=fun x vs H Q=>AI x vs H Q
theorem FP:oJ X "str.removeprefix" wy:=by intro pins s σ H x0 vs v us Q I rx rv h;obtain⟨x,y,rfl,rfl,hz,q⟩:=h;obtain⟨t,rfl⟩:=rx;obtain⟨u0,rfl,u,rfl⟩:=vals1 rv;exact SC.removeprefix (fun t' k=>⟨.str _,H,I.kept (t':=k) (fun _ _ e=>e),⟨_,rfl⟩,q⟩) (hsz:=hz)
theorem E7(K:LG)(h:X.K=K){o e:Expr}{to:TE}{t:TA}{apos ba:Pos}(ho:PE X o to)(ha:PA X [e] t) (gK:attributeBase o "removeprefix" X.env (eval o X.env)=eval o X.env:=by rfl) (gJ:((backTo ba (starEach [e] X.env)).all (fun x=>!x.1)&&(backToKw ba (keywordEach [] X.env)).all (fun x=>x.1.isSome) &&decide ([e].length+([]:List Keyword).length+(if([]:List Keyword).isEmpty then 0 else 1)<30))=true:=by rfl) (gH:(apos.endLine==ba.line)=true:=by rfl)(hs:starEach [e] X.env=(false,eval e X.env)::starEach [] X.env:=by rfl)(gF:(backTo ba (starEach [] X.env)).any (·.1)=false:=by rfl): PE X (.Call (.Attribute o "removeprefix" apos) [e] [] ba) (kF K "str" wy to t):=by subst h;exact mV Bn PySem.F.slot_str_removeprefix PySem.F.type_str_removeprefix FP ho ha gK gJ gH hs gF
inductive AU(xs:List V)(H:Hp)(Q:VK):Prop |mk (z:Str)(n:Int)(h0:xs=[.str z])(h1:PySem.intText? z=some n)(h2:z.length<=640)(h3:Q (.int n) H):AU xs H Q
theorem zv:bJ X (.type "int") (fun xs H Q=>AU xs H Q):=by intro pins s σ H xs us Q I r h;obtain⟨z,n,rfl,hn,hl,q⟩:=h;obtain⟨u,rfl,t,rfl⟩:=vals1 r;exact PySem.W.KIN.call_text hn hl ⟨.int _,H,I.tok _,⟨_,rfl⟩,q⟩
end
section
variable {X:Cx}
inductive Ba(K:LG)(t1 t2:TG)(v:V)(σ:St)(H:Hp)(Q:St->Hp->Prop):Prop |mk (a:Addr)(x:V)(xs:List V)(h0:v= .ref a)(h1:aa K H a (x::xs))(h2:xs.length<=16000)(h3:∀p H',Nw H H' p (.lst xs)->t1 x σ H' fun σ1 H1=>t2 (.ref p) σ1 H1 Q):Ba K t1 t2 v σ H Q
def J3(K:LG)(t1 t2:TG):TG:=fun v σ H Q=>Ba K t1 t2 v σ H Q
theorem DY(K:LG)(hK:X.K=K){e1 e2:Expr}{k:Nat}{t1 t2:TG}{sp pos:Pos}(hc:X.calm=true)(h1:PG X e1 t1)(h2:PG X e2 t2) (hs:assignEach [e1,.Starred e2 sp] X.env=[(false,assign e1 X.env),(true,assign e2 X.env)]:=by rfl):PG X (.Tuple [e1,.Starred e2 sp] k pos) (J3 K t1 t2):=by subst hK;intro pins s σ H v u Q I r hw;obtain⟨a,x,xs,e,hq,hl,hw⟩:=hw;subst e;cases r;obtain⟨its,rv,ht,hz⟩:=I.list hq;have hh:X.A.handled=none:=I.ok.hd hc;have lI:=ht.isList;cases rv with |cons r1 rr=>
    rename_i ux cQ;have hlen:=rr.length;have bp:a≠s.heap.objs.size:=by obtain⟨o,ho,_⟩:=lI;exact bE (aN ho)
    rw[assign_Tuple];refine ag (k9 ?_);unfold unpack;rw[hs];refine ag (dH ?_);show wpAny _ _ (unpackItems (.ref a) 2 (some 1)) _ _ _;unfold unpackItems;refine ag ?_;unfold notIterableAtAll;refine ag (wpAny_specialOf lI.typeIs slot_list_iter.lookup ?_);refine aM ?_;simp only[BD,if_false];refine ag (dH (m5 lI ?_));have sz:(ux::cQ).toArray.size=xs.length+1:=by rw[bC,ft,hlen]
    refine ag (dH (PySem.W.kun_draw bp 1 0 _ _ ⟨_,cu _ rfl,rfl,rfl⟩ (lI.push _) (by omega) fun h₁ sv y6=>?_));have yf:h₁.IsList a (ux::cQ).toArray:=(lI.push _).extBut y6.extBut bp;rw[Nat.zero_add]at sv;have HA:=sv;obtain⟨oi,cX,_⟩:=HA;have Hn:=yf;obtain⟨ol,gG,_⟩:=Hn;rw[aC (by simp)];refine ag (dH (PySem.W.kun_collect (s:={s with heap:=h₁}) (T:="list_iterator") (.inr (.inr (.inl rfl))) (Walks.list (A:=X.A.in1) hh s.heap.objs.size a bp (ux::cQ).toArray) (fun j u st=>st.1.typeIs) (k:=1) (by omega) ⟨sv,yf⟩ (aN cX) (aN gG) (fun h₂ tk hk=>?_) (by rw[oS];omega)));have ea:(ux::cQ).toArray.toList.drop 1=cQ:=by simp
    rw[ea];show wpAny _ _ (if cQ.length<2-1-1 then _ else _) _ _ _;rw[aC (by omega)];show wpAny _ _ (newList (cQ.take (cQ.length-(2-1-1)))>>=fun d=>pure ((ux::cQ).toArray.toList.take 1++[d]++cQ.drop (cQ.length-(2-1-1)))) _ _ _;have eb:cQ.take (cQ.length-(2-1-1))=cQ:=iy (by omega);have ec:cQ.drop (cQ.length-(2-1-1))=[]:=List.drop_eq_nil_of_le (by omega);rw[eb,ec];have he:Heap.ExtBut s.heap.objs.size s.heap h₂:=fun b o hb e=>hk b o hb (y6.extBut b o hb (bw _ e));refine ag (wpAny_newList (s:={s with heap:=h₂,toks:=tk}) (aM ?_) ?_)
    · have I2:Inv X pins σ H {s with heap:=h₂,toks:=tk}:=I.kept (t':=tk) fun b o e=>he b o (bE (aN e)) e
      have nw:Nw H (upd H h₂.objs.size (.lst xs)) h₂.objs.size (.lst xs):=.of (I2.hok.fresh (aD _));have I3:Inv X pins σ (upd H h₂.objs.size (.lst xs)) {s with heap:=h₂.push {cls:=.type "list",data:=.seq cQ.toArray},toks:=tk}:=I2.laid (t':=tk) (o:=.lst xs) (fun b ob q=>bw _ q) (aD _) ⟨by rw[ft]at hz;omega,cQ,0,rr,cu _ rfl⟩;show wpAny _ _ (assignInOrder (assign e1 X.env::[assign e2 X.env]) (ux::[Value.ref h₂.objs.size])) _ _ _;refine assignInOrder_cons (ak (h1 pins _ σ _ _ _ _ I3 r1 (hw _ _ nw)) fun _ s1 ⟨σ1,H1,I1,q1⟩=>?_);refine assignInOrder_cons (ak (h2 pins s1 σ1 H1 (.ref h₂.objs.size) _ _ I1 rfl q1) fun _ s2 ⟨σ2,H2,I2,q2⟩=>?_);exact assignInOrder_nil ⟨σ2,H2,I2,q2⟩
    ·rw[<-hlen,oS];omega
end
end L2
namespace Tm
open PySem PySem.Spec PyProof.Rows PySem.NumText
def Free(c:Nat)(z:Str):Prop:=c∉z.cps.toList
def gl(c:Nat):List (List Nat)->List Nat |[]=>[] |[x]=>x |x::y::r=>x++c::gl c (y::r)
theorem sO(c:Nat):∀zs:List Str,(PySem.Str.join ⟨#[c]⟩ zs).cps.toList=gl c (zs.map fun z=>z.cps.toList) |[]=>by simp[PySem.Str.join,PySem.Str.empty,gl] |[x]=>rfl |x::y::r=>by show((x++⟨#[c]⟩)++PySem.Str.join ⟨#[c]⟩ (y::r)).cps.toList=_;rw[kh,kh,mi,mi,sO c (y::r)];show(x.cps.toList++[c])++gl c _=x.cps.toList++c::gl c _;rw[List.append_assoc];rfl
theorem z9{c:Nat}:∀{a b r s:List Nat},c∉a->c∉b->a++c::r=b++c::s->a=b/\r=s |[],[],r,s,_,_,e=>by simpa using e |[],y::b,r,s,_,h,e=>by simp at e;exact(h (by rw[e.1];exact .head _)).elim |x::a,[],r,s,h,_,e=>by simp at e;exact(h (by rw[<-e.1];exact .head _)).elim |x::a,y::b,r,s,h1,h2,e=>by simp only[uA,List.cons.injEq]at e;obtain⟨e1,e2⟩:=z9 (fun z=>h1 (.tail _ z)) (fun z=>h2 (.tail _ z)) e.2;exact⟨by rw[e.1,e1],e2⟩
theorem yB{c:Nat}:∀{as bs:List (List Nat)},as≠[]->bs≠[]->(∀a∈as,c∉a)->(∀b∈bs,c∉b)->gl c as=gl c bs->as=bs
  |[],_,h,_,_,_,_=>(h rfl).elim |_,[],_,h,_,_,_=>(h rfl).elim |[a],[b],_,_,_,_,e=>by rw[show a=b from e] |[a],b::b'::r,_,_,ha,_,e=>by
    have:c∈a:=by rw[show a=b++c::gl c (b'::r)from e];simp
    exact(ha a (.head _) this).elim |a::a'::r,[b],_,_,_,hb,e=>by
    have:c∈b:=by rw[<-show a++c::gl c (a'::r)=b from e];simp
    exact(hb b (.head _) this).elim |a::a'::r,b::b'::s,_,_,ha,hb,e=>by obtain⟨e1,e2⟩:=z9 (ha a (.head _)) (hb b (.head _)) (show a++c::gl c (a'::r)=b++c::gl c (b'::s)from e);rw[e1,yB (by simp) (by simp) (fun x hx=>ha x (.tail _ hx)) (fun x hx=>hb x (.tail _ hx)) e2]
theorem tf{x y:Str}(h:x.cps.toList=y.cps.toList):x=y:=PySem.Str.ext' (Array.toList_inj.mp h)
theorem map_inj:∀{xs ys:List Str},xs.map (fun z=>z.cps.toList)=ys.map (fun z=>z.cps.toList)->xs=ys |[],[],_=>rfl |[],y::ys,h=>by simp at h |x::xs,[],h=>by simp at h |x::xs,y::ys,h=>by simp only[eg,List.cons.injEq]at h;rw[tf h.1,map_inj h.2]
theorem kI(x y:Str):Txt.split x y≠[]:=by
 unfold Txt.split;split
 ·simp
 · split
   ·simp
   · rw[StrLaws.partsBetween_eq]
     obtain⟨p,r,e⟩:=StrLaws.partsFrom_ne x y.length 0 (Builtin.Str.occurrences x y 0 x.length (x.length+1));rw[e];simp
theorem pI{c:Nat}{zs:List Str}(bN:zs≠[])(hf:∀z∈zs,Free c z):Txt.split (Txt.join ⟨#[c]⟩ zs) ⟨#[c]⟩=zs:=by
 have e:=StrLaws.join_split (Txt.join ⟨#[c]⟩ zs) ⟨#[c]⟩;have fr:=StrLaws.split_free (Txt.join ⟨#[c]⟩ zs) c;have e2:Txt.join ⟨#[c]⟩ zs=PySem.Str.join ⟨#[c]⟩ zs:=ke _ _;have e3:=eX (fun z:Str=>z.cps.toList) (e.trans e2);simp only[sO]at e3;refine map_inj (yB (by simpa using kI _ _) (by simpa using bN) (fun a ha=>?_) (fun b hb=>?_) e3)
 · obtain⟨z,hz,rfl⟩:=bM.mp ha
   exact fr z hz
 · obtain⟨z,hz,rfl⟩:=bM.mp hb
   exact hf z hz
theorem CM{c:Nat}{z:Str}(h:Free c z):Txt.split z ⟨#[c]⟩=[z]:=pI (zs:=[z]) (by simp) (fun y hy=>by rw[eZ.mp hy];exact h)
def numS(i:Int):Str:=Str.ofString (toString i)
def isFig(c:Nat):Bool:=decide (48<=c)&&decide (c<=57)
def figs(z:Str):List Nat:=match z.cps.toList with |45::r=>r |l=>l
def numIn? (z:Str):Option Int:=bif (figs z).isEmpty|| !(figs z).all isFig then none else bif decide ((figs z)[0]? =some 48)&& !decide (z="0")then none else intText? z
theorem jO{cs:List Nat}(h:cs.all isFig=true):AllDigits cs:=fun c hc=>by have:=bU.mp h c hc;simpa[isFig]using this
theorem yY{cs:List Nat}(h:AllDigits cs):cs.all isFig=true:=bU.mpr fun c hc=>by have:=h c hc;simpa[isFig]using this
theorem ow(m:Nat):(numS (m:Int)).cps.toList=(Nat.toDigits 10 m).map Char.toNat:=PySem.W.KIN.signs_num m
theorem ou(m:Nat):(numS (Int.negSucc m)).cps.toList=45::(Nat.toDigits 10 (m+1)).map Char.toNat:=by unfold numS;rw[signs_ofString];show("-"++Nat.repr (m+1)).toList.map Char.toNat=_;rw[String.toList_append,dJ,Nat.toList_repr];rfl
theorem gN(m:Nat):AllDigits ((Nat.toDigits 10 m).map Char.toNat):=fun c hc=>by obtain⟨ch,fi,e⟩:=bM.mp hc;have r:=digit_range (Nat.isDigit_of_mem_toDigits (by decide) (by decide) fi);rw[<-e];exact r
theorem oq(m:Nat):(Nat.toDigits 10 m).map Char.toNat≠[]:=fun e=>by have h:=toDigits_len_ge 10 m;rw[List.map_eq_nil_iff.mp e]at h;exact absurd h (by decide)
theorem JG:∀d:Nat,d<10->d≠0->(Nat.digitChar d).toNat≠48:=by decide
theorem xJ(m:Nat)(h0:m≠0):((Nat.toDigits 10 m).map Char.toNat)[0]? ≠some 48:=by induction m using Nat.strongRecOn with |_ m ih=>
   by_cases h:m<10
   · rw[Nat.toDigits_of_lt_base h]
     simpa using JG m h h0
   · have hm:m%10<10:=Nat.mod_lt m (by decide)
     have t:Nat.toDigits 10 (m/10)++Nat.toDigits 10 (m%10)=Nat.toDigits 10 (10*(m/10)+m%10):=Nat.toDigits_append_toDigits (by decide) (by omega) hm;rw[Nat.div_add_mod]at t;rw[<-t,dJ,Bx (uu.mpr (oq _))];exact ih (m/10) (by omega) (by omega)
theorem JE(m:Nat):((Nat.toDigits 10 m).map Char.toNat).head? ≠some 45:=fun e=>by have:=gN m 45 (List.mem_of_mem_head? e);omega
theorem Je{z:Str}{l:List Nat}(h:z.cps.toList=l)(hh:l.head? ≠some 45):figs z=l:=by
 unfold figs;rw[h];split
 ·simp at hh
 ·rfl
theorem Jg(m:Nat):figs (numS (m:Int))=(Nat.toDigits 10 m).map Char.toNat:=Je (ow m) (JE m)
theorem Jf(m:Nat):figs (numS (Int.negSucc m))=(Nat.toDigits 10 (m+1)).map Char.toNat:=by unfold figs;rw[ou];rfl
theorem yW(m:Nat):((Nat.toDigits 10 m).map Char.toNat).isEmpty=false:=by have:=oq m;cases h:(Nat.toDigits 10 m).map Char.toNat with |nil=>exact(this h).elim |cons=>rfl
theorem Fo{i:Int}(hl:(numS i).length<=4300):numIn? (numS i)=some i:=by unfold numIn?;cases i with
 |ofNat m=>
   have ef:figs (numS (Int.ofNat m))=(Nat.toDigits 10 m).map Char.toNat:=Jg m;have ec:(numS (Int.ofNat m)).cps.toList=(Nat.toDigits 10 m).map Char.toNat:=ow m;have e:=u9 (x:=numS (Int.ofNat m)) (by rw[ec];exact gN m) (by rw[ec];exact oq m) hl;rw[ec,PySem.W.KIN.val_back]at e;rw[ef,yY (gN m),yW,e];have h2:(decide (((Nat.toDigits 10 m).map Char.toNat)[0]? =some 48)&& !decide (numS (Int.ofNat m)="0"))=false:=by
    by_cases h0:m=0
    ·subst h0;decide+kernel
    ·rw[bu (xJ m h0)];rfl
   rw[h2];rfl |negSucc m=>have e:=intText_neg (x:=numS (Int.negSucc m)) (ou m) (gN (m+1)) (oq (m+1)) hl;rw[PySem.W.KIN.val_back]at e;rw[Jf,yY (gN (m+1)),yW,bu (xJ (m+1) (by omega)),e];exact eX some (Int.negSucc_eq m).symm
theorem jD{i:Int}{c:Nat}(h:c≠45)(h1:c<48):Free c (numS i):=fun hc=>by cases i with |ofNat m=>rw[show(numS (Int.ofNat m)).cps.toList=_ from ow m]at hc;have:=gN m c hc;omega |negSucc m=>
   rw[ou]at hc;rcases aW.mp hc with e|hc
   ·exact h e
   · have:=gN (m+1) c hc
     omega
theorem GG{z:Str}(h1:figs z≠[])(h2:(figs z).all isFig=true)(hl:z.length<=4300):∃n,intText? z=some n:=by
 unfold figs at h1 h2;split at h1
 · rename_i r h
   rw[h]at h2;exact⟨_,intText_neg h (jO h2) h1 hl⟩
 · rename_i h
   split at h2
   · rename_i r h'
     exact(h r h').elim
   ·exact⟨_,u9 (jO h2) h1 hl⟩
theorem Dd(z:Str):(Txt.removeprefix z "-").cps.toList=figs z:=by
 rw[StrLaws.removeprefix_eq];have e1:(Str.ofString "-").cps.toList=[45]:=by decide+kernel
 have e2:(Str.ofString "-").length=1:=by decide+kernel
 have hn:z.cps.toList.length=z.length:=by simp[Str.length]
 rw[e2,StrLaws.subAt_eq,e1,e2,List.drop_zero];unfold figs;cases hz:z.cps.toList with |nil=>rw[hz]at hn;have h0:z.length=0:=hn.symm;rw[aC (by simp)];exact hz |cons a r=>
   rw[hz]at hn;simp only[ft]at hn;by_cases ha:a=45
   · subst ha
     rw[aI (by simp;omega)];show((List.drop 1 (45::r)).take _).toArray.toList=r;rw[List.drop_one,List.tail_cons,iy (by omega)]
   · rw[aC (by simp;intro _;exact fun e=>ha (by simpa using e))]
     rw[hz];split
     ·rename_i h;simp at h;exact(ha h.1).elim
     ·rfl
end Tm
namespace L2
open PySem PySem.Spec PyProof.Rows
section
variable {X:Cx}
theorem Eb:aQ X (compareOp .NotIn) (fun x y H Q=>∃c j,x= .str ⟨#[c]⟩/\y= .str j/\Q (.bl (!(decide (c∈j.cps.toList)))) H):=by intro pins s σ H x y v u Q I rx ry h;obtain⟨c,j,rfl,rfl,q⟩:=h;refine Ea pins s σ H _ _ v u Q I rx ry ⟨_,_,rfl,rfl,?_⟩;rw[PySem.StrLaws.found_one];exact q
inductive AF(x:V)(lo hi:Option Int)(H:Hp)(Q:VK):Prop |mk (z:Str)(h0:x= .str z)(h1:z.length<=1000)(h2:Q (.str (StrLaws.sliceText z lo hi)) H):AF x lo hi H Q
def Dt:V->Option Int->Option Int->Hp->VK->Prop:=fun x lo hi H Q=>AF x lo hi H Q
theorem gw:lY X Dt:=by
 intro pins s σ H x v vl vu lo hi sl Q I rx hs pl pu h;obtain⟨z,rfl,hz,q⟩:=h;obtain⟨t,rfl⟩:=rx;refine⟨"str",_,slot_str_getitem.lookup,m7 s z t,?_⟩;have key:∀(l u:Option (Int×Tok)),vl=partValue l->vu=partValue u->lo=l.map (·.1)->hi=u.map (·.1)->wpAny (model X.prog X.w) X.A (getItem (.str z t) (.ref sl)) (EP X pins σ Q) X.xe s:=fun l u e1 e2 e3 e4=>by
  subst e1 e2;refine wpAny_getItem_str_slice (l:=l) (u:=u) (st:=none) hs rfl ?_;have q0:Q (.str (StrLaws.sliceText z (l.map (·.1)) (u.map (·.1)))) H:=by rw[<-e3,<-e4];exact q
  unfold sliceMade;split
  · rename_i hc
    have q':Q (.str z) H:=by have e:StrLaws.sliceText z (l.map (·.1)) (u.map (·.1))=z:=aI hc;rw[<-e];exact q0
    exact⟨.str z,H,I,⟨t,rfl⟩,q'⟩
  · rename_i hc
    have q':Q (.str ⟨((slicePicked z l u none).filterMap (z.cps[·]?)).toArray⟩) H:=by have e:StrLaws.sliceText z (l.map (·.1)) (u.map (·.1))=⟨((slicePicked z l u none).filterMap (z.cps[·]?)).toArray⟩:=aC hc;rw[<-e];exact q0
    have hl:(((slicePicked z l u none).filterMap (z.cps[·]?))).length<=z.length:=bL (List.length_filterMap_le _ _) (DR _ _ _);refine⟨?_,⟨.str _,H,I.tok _,⟨_,rfl⟩,q'⟩⟩;show(List.toArray _).size<=_;rw[bC];exact bL (bL hl hz) (by decide)
 cases pl with
 |none=>cases pu with |none=>exact key none none rfl rfl rfl rfl |int b tb=>exact key none (some (b,tb)) rfl rfl rfl rfl
 |int a ta=>cases pu with |none=>exact key (some (a,ta)) none rfl rfl rfl rfl |int b tb=>exact key (some (a,ta)) (some (b,tb)) rfl rfl rfl rfl
theorem pD(z:Str)(i:Nat):(StrLaws.sliceText z (some (i:Int)) none).cps.toList=z.cps.toList.drop i:=by
 have key:∀j:Nat,j<=z.length->(StrLaws.sliceText z (some (j:Int)) none).cps.toList=z.cps.toList.drop j:=fun j h=>by
  have e:StrLaws.sliceText z (some (j:Int)) none=StrLaws.sliceText z (some (j:Int)) (some (z.length:Int)):=by unfold StrLaws.sliceText;rw[StrLaws.sliceIdx_none_hi]
  rw[e,StrLaws.sliceText_nat z h (aD _)];show((z.cps.toList.drop j).take _)=_;rw[iy (by simp[Str.length])]
 by_cases h:i<=z.length
 ·exact key i h
 · have e:StrLaws.sliceText z (some (i:Int)) none=StrLaws.sliceText z (some (z.length:Int)) none:=by unfold StrLaws.sliceText;rw[sliceIdx_lo_beyond _ (by omega)]
   rw[e,key _ (aD _),uz (by simp[Str.length]),uz (by simp[Str.length]at h⊢;omega)]
theorem uN(z:Str)(i:Nat):(StrLaws.sliceText z none (some (i:Int))).cps.toList=z.cps.toList.take i:=by
 have key:∀j:Nat,j<=z.length->(StrLaws.sliceText z none (some (j:Int))).cps.toList=z.cps.toList.take j:=fun j h=>by
  have e:StrLaws.sliceText z none (some (j:Int))=StrLaws.sliceText z (some ((0:Nat):Int)) (some (j:Int)):=by unfold StrLaws.sliceText;rw[StrLaws.sliceIdx_none_lo];rfl
  rw[e,StrLaws.sliceText_nat z (bK _) h];rfl
 by_cases h:i<=z.length
 ·exact key i h
 · have e:StrLaws.sliceText z none (some (i:Int))=StrLaws.sliceText z none (some (z.length:Int)):=by unfold StrLaws.sliceText;rw[sliceIdx_hi_beyond _ (by omega)]
   rw[e,key _ (aD _),iy (by simp[Str.length]),iy (by simp[Str.length]at h⊢;omega)]
theorem JL{z:Str}(f:Nat->Bool){tt:TT}{te:TE}{Q:VK}{D:Addr}{H H0:Hp}(rest:St)(nw:Nw H H0 D (.lst []))(hz:z.length<=1000) (ht:∀(c:Nat)(H2:Hp)(Q':Bool->Hp->Prop),af H H2->(∀H3,af H2 H3->Q' (f c) H3)->tt (some (.str ⟨#[c]⟩)::rest) H2 Q') (he:∀(c:Nat)(H2:Hp)(Q':VK),af H H2->(∀H3,af H2 H3->Q' (.str ⟨#[c]⟩) H3)->te (some (.str ⟨#[c]⟩)::rest) H2 Q') (hq:∀H',af H H'->H' D=some (.lst ((z.cps.toList.filter f).map fun c=>V.str ⟨#[c]⟩))->Q (.ref D) H'):fZ (oM z) (dX 0) tt te Q D (none::rest) H0:=by
  have hD:=nw.no;have hl:z.cps.toList.length=z.cps.size:=by simp
  refine lU z.cps.size (fun i σ H2=>af H H2/\H2 D=some (.lst (((z.cps.toList.take i).filter f).map fun c=>V.str ⟨#[c]⟩))/\∃v,σ=v::rest) ?_ ?_ ?_
  ·exact⟨nw.same,nw.at',none,rfl⟩
  · rintro i σ H2 hi ⟨s2,d2,v,rfl⟩
    refine⟨hi,fun x H3 hy=>?_⟩;obtain⟨rfl,c,ec,rfl⟩:=hy;refine ht c _ _ s2 fun H4 s4=>?_;have d4:=s4 _ _ d2;have er:(z.cps.toList.take (i+1)).filter f=(z.cps.toList.take i).filter f++(if f c=true then[c]else[]):=by rw[oZ,ec,List.filter_append];congr 1;cases h:f c<;>simp[h]
    cases h:f c with |true=>
      refine aK ?_;refine he c _ _ (s2.trans s4) fun H5 s5=>?_;have d5:=s5 _ _ d4;refine⟨_,d5,?_,z.cps.size-(i+1),by omega,rfl,by omega,fun b o e=>?_,?_,_,rfl⟩
      · have:(1000:Nat)<sizeLine:=by decide
        have h1:=List.length_filter_le f (z.cps.toList.take i);rw[gW]at h1;have fH:z.cps.size<=1000:=hz;rw[aE];omega
      ·rw[aL (cn e hD)];exact s5 b o (s4 b o (s2 b o e))
      ·rw[bR,er,h,aI rfl,dJ];rfl |false=>refine aB ?_;refine⟨z.cps.size-(i+1),by omega,rfl,by omega,s2.trans s4,?_,_,rfl⟩;rw[er,h];simpa using d4
  · rintro σ H2 ⟨s2,d2,v,rfl⟩
    rw[iy (uk hl)]at d2;exact⟨aD _,hq H2 s2 d2⟩
end
end L2
namespace L2
open PySem PySem.Spec PyProof.Rows
theorem JF(f:Array Value->Array Value)(o:Obj):(o.mapFields f).dict=o.dict:=by obtain⟨c,d,dt,sl⟩:=o;cases dt<;>rfl
def Ks(h B:Heap)(ex:Addr)(cls:Value)(dx:Option Addr)(fl:Value):Prop:=∃ob fs tb ot ts,h.get? ex=some ob/\ob.cls=cls/\ob.dict=dx/\ob.data= .fields fs/\fs[1]? =some (.ref tb)/\B.get? tb=none/\tb≠ex/\h.get? tb=some ot/\ot.data= .fields ts/\ts[3]? =some fl
def fW(B:Heap)(l:List Env)(ex:Addr)(cls:Value)(dx:Option Addr)(fl:Value)(h:Heap):Prop:=B.StaysIn h/\B.get? ex=none/\h.FunFrames B l/\Ks h B ex cls dx fl
theorem fW.there{B h:Heap}{l:List Env}{ex:Addr}{cls fl:Value}{dx:Option Addr}(x:fW B l ex cls dx fl h):∃ob,h.get? ex=some ob/\ob.cls=cls/\ob.dict=dx/\∃fs,ob.data= .fields fs:=by obtain⟨_,_,_,ob,fs,_,_,_,e,c,d,z,_⟩:=x;exact⟨ob,e,c,d,fs,z⟩
section
variable {M:Model}{A:LK}{E:Value->LH->Prop}{s:LH}{B:Heap}{env:Env}{outer:List Env}{L ex:Addr}{ob:Obj}{fs:Array Value}{head:Value}{nx:Bool}{Q:Unit->LH->Prop}{cls fl:Value}{dx:Option Addr}
theorem yU(hA:A.frames=some (env::outer))(ff:s.heap.FunFrames B (env::outer))(hL:env.frame=some L)(ho:s.heap.get? ex=some ob)(st:B.StaysIn s.heap)(hB:B.get? ex=none)(hd:ob.data= .fields fs)(hz:1<fs.size) (q:∀h',fW B (env::outer) ex ob.cls ob.dict (rawInt L) h'->s.heap.UpToSlots h'->Q () {s with heap:=h'}): wpAny M A (do let a<-frameOf env;let pl<-entryPlaceOf L nx;let b<-EntryCells.newEntry head a .none (rawInt L) .none pl;setField (.ref ex) 1 b) Q E s:=by
  have nk:ex∉(env::outer).filterMap (·.frame):=fun hm=>by obtain⟨_,o,e1,nf⟩:=ff.mem hm;rw[ho]at e1;cases e1;exact nf fs hd
  refine ag (wpAny_frameOf_fun hA ff hL fun g1 k1=>ag (wpAny_entryPlaceOf fun pl hp=>?_));unfold EntryCells.newEntry newFields;refine ag (ip ?_ (hp.sizeOk5 _ _ _ _ _));have o1:g1.get? ex=some ob:=(k1.2.1 ex nk).trans ho;have vd:B.StaysIn g1:=fun b o e=>(k1.2.1 b fun hm=>by rw[(ff.mem hm).1]at e;cases e).trans (st b o e);generalize hT:({cls:=.type "traceback",dict:=none,data:=.fields ([head,.ref L,.none,rawInt L,.none]++(if pl.isEmpty then List.replicate 6 Value.none else pl)).toArray}:Obj)=T;have o2:(g1.push T).get? ex=some ob:=bw T o1;refine oQ o2 hd hz (q _ ?_ ?_);all_goals have ne:g1.objs.size≠ex:=ui (aN o1)
  all_goals have keep:∀b o,b≠ex->g1.get? b=some o->((g1.push T).update ex (Obj.mapFields (·.setIfInBounds 1 (Value.ref g1.objs.size)))).get? b=some o:=fun b o nb e=>by rw[mh _ _ (eY nb)];exact bw _ e
  all_goals have i2:∀b o,s.heap.get? b=some o->(∀vs,o.data≠ .fields vs)->b≠ex:=fun b o e nf z=>by rw[z,ho]at e;cases e;exact nf fs hd
  · have d3:=oY hd (·.setIfInBounds 1 (Value.ref g1.objs.size))
    have o3:=ph (Obj.mapFields (·.setIfInBounds 1 (Value.ref g1.objs.size))) o2 (Bt d3);refine⟨fun b o e=>keep b o (fun z=>by rw[z,hB]at e;cases e) (vd b o e),hB,ff.of_keeps fun b o e nf=>?_,?_⟩
    · obtain⟨sl,e1⟩:=k1.2.2 b o e
      exact⟨_,keep b _ (i2 b o e nf) e1,rfl⟩
    · refine⟨_,_,g1.objs.size,T,_,o3,Obj.cls_mapFields _ _,JF _ _,d3,by simp[hz],vd.fresh,ne,?_,by rw[<-hT],?_⟩
      ·rw[mh _ _ (eY ne)];exact cu g1 (by rw[<-hT];rfl)
      ·first|(simp;done)|(rcases hp with rfl|⟨_,_,_,_,_,_,_,rfl⟩<;>simp)
  · intro b o e nf
    obtain⟨sl,e1⟩:=k1.2.2 b o e;exact⟨sl,keep b _ (i2 b o e nf) e1⟩
theorem Fu(hA:A.frames=some (env::outer))(ff:s.heap.FunFrames B (env::outer))(hL:env.frame=some L)(ho:s.heap.get? ex=some ob)(st:B.StaysIn s.heap)(hB:B.get? ex=none)(hd:ob.data= .fields fs)(h1:fs[1]? =some .none) (q:∀h',fW B (env::outer) ex ob.cls ob.dict (rawInt L) h'->s.heap.UpToSlots h'->Q () {s with heap:=h'}):wpAny M A (noteFrame (.ref ex) env) Q E s:=by unfold noteFrame;simp only[hL];refine ag (gs ho hd h1 ?_);rw[aC (by decide)];exact yU hA ff hL ho st hB hd (uG.mp h1).1 q
theorem Ft(hA:A.frames=some (env::outer))(hL:env.frame=some L)(x:fW B (env::outer) ex cls dx .none s.heap) (q:∀h',fW B (env::outer) ex cls dx (rawInt L) h'->s.heap.UpToSlots h'->Q () {s with heap:=h'}):wpAny M A (noteFrame (.ref ex) env) Q E s:=by
  obtain⟨st,hB,ff,ob,fs,tb,ot,ts,ho,rfl,rfl,hd,h1,nZ,nt,ht,gh,h3⟩:=x;unfold noteFrame;simp only[hL];refine ag (gs ho hd h1 ?_);rw[aI (show(Value.ref tb !=Value.none)=true from by simp)];refine ag (gs ht gh h3 ?_);rw[aC (show¬((Value.none==rawInt L)=true)from by simp[rawInt])];refine ag (oQ ht gh (uG.mp h3).1 ?_);have other:∀b,b≠tb->(s.heap.update tb (Obj.mapFields (·.setIfInBounds 3 Value.none))).get? b=s.heap.get? b:=fun b nb=>mh _ _ (eY nb);have i2:∀b o,s.heap.get? b=some o->(∀vs,o.data≠ .fields vs)->b≠tb:=fun b o e nf z=>by rw[z,ht]at e;cases e;exact nf ts gh
  refine yU (s:={s with heap:=s.heap.update tb (Obj.mapFields (·.setIfInBounds 3 Value.none))}) hA (ff.of_keeps fun b o e nf=>⟨o,(other b (i2 b o e nf)).trans e,rfl⟩) hL ((other ex (eY nt)).trans ho) (fun b o e=>(other b fun z=>by rw[z,nZ]at e;cases e).trans (st b o e)) hB hd (uG.mp h1).1 fun h' y up=>q h' y fun b o e nf=>up b o ((other b (i2 b o e nf)).trans e) nf
theorem sU{l:List Env}(x:fW B l ex cls dx fl s.heap)(q:∀h',fW B l ex cls dx .none h'->s.heap.UpToSlots h'->Q () {s with heap:=h'}):wpAny M A (setFlight (.ref ex) none) Q E s:=by
 obtain⟨st,hB,ff,ob,fs,tb,ot,ts,ho,hc,hx,hd,h1,nZ,nt,ht,gh,h3⟩:=x;have z3:3<ts.size:=(uG.mp h3).1;have other:∀b,b≠tb->(s.heap.update tb (Obj.mapFields (·.setIfInBounds 3 ((none:Option Addr).elim Value.none fun f=>rawInt f)))).get? b=s.heap.get? b:=fun b nb=>mh _ _ (eY nb);have i2:∀b o,s.heap.get? b=some o->(∀vs,o.data≠ .fields vs)->b≠tb:=fun b o e nf z=>by rw[z,ht]at e;cases e;exact nf ts gh
 unfold setFlight;refine ag (gs ho hd h1 ?_);rw[aI (show(Value.ref tb !=Value.none)=true from by simp)];refine oQ ht gh z3 (q _ ⟨fun b o e=>(other b fun z=>by rw[z,nZ]at e;cases e).trans (st b o e),hB,ff.of_keeps fun b o e nf=>⟨o,(other b (i2 b o e nf)).trans e,rfl⟩,?_⟩ fun b o e nf=>⟨o.slots,(other b (i2 b o e nf)).trans e⟩);exact⟨ob,fs,tb,_,_,(other ex (eY nt)).trans ho,hc,hx,hd,h1,nZ,nt,ph _ ht (Bt (oY gh _)),oY gh _,by simp[z3]⟩
theorem Gd(hA:A.frames=some (env::outer))(ff:s.heap.FunFrames B (env::outer))(hL:env.frame=some L)(ho:s.heap.get? ex=some ob)(st:B.StaysIn s.heap)(hB:B.get? ex=none)(hd:ob.data= .fields fs)(h1:fs[1]? =some .none) (q:∀h',fW B outer ex ob.cls ob.dict .none h'->s.heap.UpToSlots h'->Q () {s with heap:=h'}):wpAny M A (leaving env (.ref ex)) Q E s:=by unfold leaving;refine ag (Fu hA ff hL ho st hB hd h1 fun h1 x1 u1=>sU x1 fun h2 x2 u2=>q h2 ?_ (u1.trans u2));obtain⟨a,b,⟨_,_,c⟩,d⟩:=x2;exact⟨a,b,c,d⟩
end
end L2
namespace L2
open PySem PySem.Spec PyProof.Rows
open Builtin Builtin.ObjectAttr
def iz:List Value:=[.type "ValueError",.type "Exception",.type "BaseException",.type "object"]
def gB:List Value->Bool | .ref _::r=>gB r |l=>l==iz
theorem Df(self:Value){l:List Value}(e:gB l=true):refuseLoop self "__setattr__" l=pure ():=by induction l with |nil=>simp[gB,iz]at e |cons v r ih=>cases v with |ref c=>rw[refuseLoop_ref];exact ih (by simpa[gB]using e) |_=>have e':=cq.mp (show(_==iz)=true from e);rw[e'];exact PySem.F.store_ValueError.passes self
theorem HZ{t:String}(ht:(iz.contains (.type t))=true):∀{l:List Value},gB l=true->l.contains (.type t)=true |l,e=>by induction l with |nil=>simp[gB,iz]at e |cons v r ih=>cases v with |ref c=>rw[BA,ih (by simpa[gB]using e),Bool.or_true] |_=>have e':=cq.mp (show(_==iz)=true from e);rw[e'];exact ht
def wM(K:LG)(C:Addr):Bool:=(PySem.W.clsIn K C).any fun cd=>gB cd.mro
section
variable {prog:LI}{w:World}{A:LK}{E:Value->LH->Prop}{s:LH}{K:LG}{x C:Addr}{ox:Obj}{fs:Array Value}{name:Str}{v:Value}{Q:Unit->LH->Prop}
theorem D1(X:K.In s.heap)(hx:s.heap.get? x=some ox)(hc:ox.cls= .ref C)(hd:ox.dict=none)(hf:ox.data= .fields fs) (hs:PySem.W.findIn K (.ref C) "__setattr__"=some (some (.builtin "object.__setattr__")))(hp:wM K C=true)(ht:PySem.W.takerIn K C name=some none)(hh:PySem.W.hasDictIn K C=true) (h:∀h',h'.get? x=some {ox with dict:=some s.heap.objs.size}->h'.Ns1 s.heap.objs.size (fun y=>if y=name then some v else none)->(∀b o,b≠x->s.heap.get? b=some o->h'.get? b=some o)->Q () {s with heap:=h',toks:=s.toks+2}): wpAny (model prog w) A (setAttr (.ref x) name v) Q E s:=by
  have I:PySem.W.InstAt s.heap x ox C none:=⟨hx,hc,by unfold PySem.W.notCls;rw[hf],by rw[hd];trivial⟩;refine PySem.W.set_plain X I hs ?_;have SF:=PySem.F.store_object;obtain⟨cd,bO,ho⟩:=PySem.W.any_some hp;have ne:cd.mro.isEmpty=false:=by cases q:cd.mro with|nil=>rw[q]at ho;simp[gB,iz]at ho|cons _ _=>rfl
  have sub:PySem.W.Looks (model prog w) s.heap (isInstance (.ref x) (.type "object")) true:=I.type.andThen (PySem.W.looks_mroIn X (by unfold PySem.W.mroIn;rw[bO,Option.bind_some,aC (by rw[ne];decide),HZ (by decide) ho]));refine ua SF.slot.plain SF.entry (@PySem.W.check_slot (model prog w) _ _ {s with toks:=s.toks+1} "object.__setattr__" "object" "__setattr__" (.ref x) [.str name s.toks,v] [] _ SF.kind SF.split sub (SF.args (.ref x) (.str name s.toks) v) ?_);obtain⟨attr,ha,hr⟩:=Option.bind_eq_some_iff.mp ht;have hm:PySem.W.Looks (model prog w) s.heap (mroOf (.ref C)) cd.mro:=(PySem.W.looks_clsIn X bO).andThen .now;have L3:PySem.W.Looks (model prog w) s.heap (storeTaker? attr) none:=by cases attr with |none=>exact .now |some a=>obtain⟨b,hb,e⟩:=md.mp hr;refine(PySem.W.looks_takesIn X hb).andThen ?_;cases b with |false=>exact .now |true=>cases e
  rw[PySem.W.osa_eq,refuse_eq];refine ag (ag (m8 (s:={s with toks:=s.toks+1}) I.type (ag (m8 (s:={s with toks:=s.toks+1}) hm ?_))));rw[Df _ ho];refine aM (ag (m8 (s:={s with toks:=s.toks+1}) I.type (ag (m8 (s:={s with toks:=s.toks+1}) (PySem.W.looks_findIn X ha) (ag (m8 (s:={s with toks:=s.toks+1}) L3 ?_))))));obtain⟨Lx,fj,hd2⟩:=PySem.W.any_some hh;refine ag (aM (ag (ag (wpAny_loadPart (s:={s with toks:=s.toks+1}) hx ?_))));rw[hc];refine ag (m8 (s:={s with toks:=s.toks+1}) (PySem.W.looks_clsIn X fj) ?_);rw[hd2,hd,hf];rw[aC (by decide)];show wpAny _ _ (if(!true|| !typeHasDict (Value.ref C))=true then _ else _) _ _ _;rw[aC (by simp[typeHasDict])];have x1:(s.heap.push {cls:=.type "dict",data:=.dict #[]}).get? x=some ox:=bw _ hx;have nx:x≠s.heap.objs.size:=bE (aN hx);refine ag (wpAny_alloc' (ag (wpAny_update' x1 (aM ?_))));have gd:((s.heap.push {cls:=.type "dict",data:=.dict #[]}).update x fun o=>{cls:=o.cls,dict:=some s.heap.objs.size,data:=o.data,slots:=o.slots}).get? s.heap.objs.size=some {cls:=.type "dict",data:=.dict #[]}:=(Heap.get?_update_ne _ _ _ _ nx.symm).trans (Heap.get?_push_at rfl rfl);have n0:((s.heap.push {cls:=.type "dict",data:=.dict #[]}).update x fun o=>{cls:=o.cls,dict:=some s.heap.objs.size,data:=o.data,slots:=o.slots}).Ns s.heap.objs.size (fun _=>none):=⟨_,#[],_,gd,rfl,(fun e he=>absurd he (by simp)),fun _=>rfl⟩;show wpAny _ _ (storeInDict s.heap.objs.size (.str name s.toks) name v) _ _ _;unfold storeInDict newKeyGuard;refine ag (aM (ag (wpAny_nsSet1 (Heap.Ns1.of_empty n0) fun h2 n2 sb=>?_)));obtain⟨oD,Lu,Lv,e1,e2,e3⟩:=n2.count (PySem.Within.cons name v PySem.Within.nil);refine ag (wpAny_lookBehind e1 (by rw[e2];exact pastItsLine_dict (bL e3 (by rw[ft,List.length_nil,oS];omega))) ?_);refine aM (h h2 ?_ n2 fun b o nb e=>?_)
  · refine(sb.2 x nx).trans (ph _ x1 ?_)
    obtain⟨oc,od,rf,bW⟩:=ox;cases hf;rfl
  ·exact(sb.2 b (bE (aN e))).trans ((Heap.get?_update_ne _ _ _ _ nb).trans (bw _ e))
end
end L2
namespace L2
open PySem PySem.Spec PyProof.Rows
def il(ex C:Addr)(h:Heap):Prop:=∃ob fs,h.get? ex=some ob/\ob.cls= .ref C/\ob.dict=none/\ob.data= .fields fs/\fs[1]? =some .none
def gr(ex C dx:Addr)(h:Heap):Prop:=∃ob fs,h.get? ex=some ob/\ob.cls= .ref C/\ob.dict=some dx/\ob.data= .fields fs/\fs[1]? =some .none
structure tR(K:LG)(C:Addr)(f:Str):Prop where
 sa:PySem.W.findIn K (.ref C) "__setattr__"=some (some (.builtin "object.__setattr__"))
 ov:wM K C=true
 tk:PySem.W.takerIn K C f=some none
 hd:PySem.W.hasDictIn K C=true
inductive Az(K:LG)(f:Str)(D:Ends)(σ:St)(y:V)(x:V)(H2:Hp):Prop |mk (ex:_)(C:_)(h0:x= .ref ex)(h1:H2 ex=some (.ext (il ex C)))(h2:tR K C f)(h3:∀dx,H2 dx=none->dx≠ex->D.nx σ (upd (upd H2 dx (.xd [(f,y)])) ex (.ext (gr ex C dx)))):Az K f D σ y x H2
def D5(K:LG)(ta tv:TE)(f:Str):TS:=fun D σ H=>tv σ H fun y H1=>ta σ H1 fun x H2=>Az K f D σ y x H2
section
variable {X:Cx}{o e value:Expr}{f:Str}{pos pos' pF:Pos}{ta tv:TE}
theorem DK(K:LG)(hK:X.K=K)(ha:PE X o ta)(hv:PE X value tv)(hs:swapsWith value (some (.Attribute o f pos')) pos.line X.env=pure false:=by rfl):PS X (.Assign [.Attribute o f pos'] value pos) (D5 K ta tv f):=by
 subst hK;intro pins s σ H D I h;refine plainObj_wpAny_Assign_Attribute (ak (hv pins s σ H _ I h) fun u s1 ⟨y,H1,I1,ry,q⟩=>ak (ha pins s1 σ H1 _ I1 q) fun ov s2 ⟨x,H2,I2,rx,ex,C,e1,ee,xc,q2⟩=>?_) hs;subst e1;obtain rfl:ov=Value.ref ex:=rx;obtain⟨⟨ob,fs,g1,g2,g3,g4,g5⟩,_,_⟩:=(show bZ X.prog X.w H2 s2.heap ex (.ext (il ex C))from I2.hok ex _ ee);refine D1 I2.cL g1 g2 g3 g4 xc.sa xc.ov xc.tk xc.hd fun h' k1 k2 k3=>?_;have ne:s2.heap.objs.size≠ex:=ui (aN g1);have fr:H2 s2.heap.objs.size=none:=I2.hok.fresh (aD _);obtain⟨oD,es,ep,d1,d2⟩:=id k2;have Hl:(s2.heap.push oD).get? s2.heap.objs.size=some oD:=cu _ (by obtain⟨oc,od,rf,bW⟩:=oD;have:rf= .dict es ep:=d2.1;subst this;rfl);have HS:bZ X.prog X.w (upd H2 s2.heap.objs.size (.xd [(f,y)])) (s2.heap.push oD) s2.heap.objs.size (.xd [(f,y)]):=by
  refine⟨_,k2.at fun o e=>?_,fun g=>?_⟩
  ·rw[d1]at e;cases e;exact Hl
  · by_cases q:g=f
    · subst q
      simp only[List.lookup,ub,iq];exact ry
    · have:(g==f)=false:=by simpa using q
      simp only[List.lookup,this,aC q];trivial
 have J1:=I2.laid (a:=s2.heap.objs.size) (o:=.xd [(f,y)]) (h':=s2.heap.push oD) (t':=s2.toks+2) (fun b u q=>bw _ q) (aD _) HS;have J2:=J1.write (x:=ex) (e:=ex) (o:=.ext (gr ex C s2.heap.objs.size)) (h':=h') (t':=s2.toks+2) (by rw[aL ne.symm,ee];trivial) (.inl rfl) (fun b u nb e=>by
  rcases Heap.get?_push_cases e with⟨rfl,rfl⟩|e
  ·exact d1
  ·exact k3 b u nb e) ⟨_,k1⟩ ⟨⟨_,fs,k1,g2,rfl,g4,g5⟩,⟨_,k1⟩,fun h1 h2 ⟨iR,jL,z1,z2⟩ k=>⟨iR,jL,k _ z1,z2⟩⟩;exact⟨σ,_,J2,q2 _ fr ne⟩
end
end L2
namespace L2
open PySem PySem.Spec PyProof.Rows
abbrev yQ(rest:List Value):Obj:={cls:=.type "tuple",data:=.seq rest.toArray}
abbrev sX(C t:Addr):Obj:={cls:=.ref C,data:=.fields #[.ref t,.none,.none,.none,.bool false,.none]}
abbrev fN(h:Heap)(C:Addr)(rest:List Value):Heap:=(h.push (yQ rest)).push (sX C h.objs.size)
section
variable {prog:LI}{w:World}{A:LK}{E:Value->LH->Prop}{h:Heap}{g:Array GenState}{d:Drawn}{t:Nat}{os:OsState}
variable {nm q:Str}{C N fI:Addr}{bs bm bP:List Value}{hdct:Bool}{sn:List Str}{sub:List Value}{ab:Bool}{col:Option Bool}{dd:Option Addr}{k0 k1 k2 k3 k5:Option Value}{B newId ll:String}{mN:Str->Option Value}{rest:List Value}{oI:Obj}
theorem yR:(fN h C rest).get? (h.objs.size+1)=some (sX C h.objs.size):=by have:=cu (h.push (yQ rest)) (o:=sX C h.objs.size) rfl;rwa [uE]at this
theorem jP{b:Addr}{o:Obj}(e:h.get? b=some o):(fN h C rest).get? b=some o:=bw _ (bw _ e)
theorem Ca(F:ExcBaseFacts B newId ll bP)(T:OwnTail h bP bm){Q:Fin->LH->Prop}(hC:h.get? C=some (excClassObj nm q C N bs bm hdct sn sub ab col dd k0 k1 k2 k3 k5 newId))(hn:h.Ns N mN)(hi:mN "__init__"=some (.ref fI)) (hf:h.get? fI=some oI)(sy:oI.cls= .type "function")(hz:rest.length<=sizeLine) (hq:wpAny (model prog w) A (call (.ref fI) (.ref (h.objs.size+1)::rest)) (fun r s'=>r= .none/\Q (.done (.ret (.ref (h.objs.size+1)))) s') E ⟨fN h C rest,g,d,t,os⟩): wpAny (model prog w) A (Builtin.«type.__call__» ⟨.ref C::rest,[]⟩) Q E ⟨h,g,d,t,os⟩:=by
  repeat (first|with_reducible refine jg hC ?_|with_reducible refine wpAny_madeBy_exc hC ?_|wp_step)
  refine codeAny_call_builtin_code (Code.quiet_builtin _ F.quiet) (wpAny_check_new_subT F T hC (codeAny_exc_new_subT F T hC ?_ hz));show wpAny _ _ _ _ _ _;have c1:=jP (C:=C) (rest:=rest) hC;have f1:=jP (C:=C) (rest:=rest) hf;have n1:(fN h C rest).Ns N mN:=let⟨o,es,ep,e,r⟩:=hn;⟨o,es,ep,jP e,r⟩;have x1:=yR (h:=h) (C:=C) (rest:=rest);have cc:(Value.ref C::bm).contains (.ref C)=true:=by simp
  have T1:=T.keeps (h':=fN h C rest) fun b o e=>jP e;unfold isInstance
  repeat (first|with_reducible refine jg x1 ?_|(with_reducible refine u6 c1 ?_;rw[cc])|wp_step)
  show wpAny _ _ (typeLookup (.ref C) _) _ _ _;refine wpAny_typeLookup_tail c1 n1 T1 F.mroIs F.init.lookup ?_;rw[hi];refine dH (ag ?_);unfold bindSpecial;refine ag (wpAny_typeOf (T:="function") ⟨_,f1,sy⟩ ?_);rw[aI (by decide)];refine aM (ag (dw hq (fun r s' ⟨e,z⟩=>?_) fun _ _ z=>z));subst e
  wp_walk;exact z
theorem K1(F:ExcBaseFacts B newId ll bP)(T:OwnTail h bP bm){Q:Value->LH->Prop}(hC:h.get? C=some (excClassObj nm q C N bs bm hdct sn sub ab col dd k0 k1 k2 k3 k5 newId))(hn:h.Ns N mN)(hi:mN "__init__"=some (.ref fI)) (hf:h.get? fI=some oI)(sy:oI.cls= .type "function")(hz:rest.length<=sizeLine) (hq:wpAny (model prog w) (A.under (.builtin "type.__call__" ⟨.ref C::rest,[]⟩)) (call (.ref fI) (.ref (h.objs.size+1)::rest)) (fun r s'=>r= .none/\Q (.ref (h.objs.size+1)) s') E ⟨fN h C rest,g,d,t,os⟩): wpAny (model prog w) A (call (.ref C) rest) Q E ⟨h,g,d,t,os⟩:=by
  have f1:=tc_lookup;have f2:=tc_bind (.ref C);have hT:(⟨h,g,d,t,os⟩:LH).TypeIs (.ref C) "type":=⟨_,hC,rfl⟩;refine kc (codeAny_of_tree ?_);show wpAny _ _ (callAny (.ref C) _) _ _ _
  repeat (any_goals (first|assumption|with_reducible refine jg hC ?_|wp_step))
  refine⟨rfl,codeAny_call_builtin_at (Code.quiet_builtin _ (by decide+kernel)) entry_typeCall (wpAny_check_type_call_sub hC (Ca F T hC hn hi hf sy hz ?_))⟩;exact hq
end
section
variable {M:Model}{A:LK}{E:Value->LH->Prop}{env:Env}{nm q:Str}{C N:Addr}{bs bm:List Value}{hdct:Bool}{sn:List Str}{sub:List Value}{ab:Bool}{col:Option Bool}{dd:Option Addr}{k0 k1 k2 k3 k5:Option Value}{newId:String}
theorem Dn{s:LH}{x:Sem Value}{Q:Flow->LH->Prop}(hb:bm.contains (.type "BaseException")=true)(hh:A.handled=none) (h:wpAny M A x (fun v s1=>∃e oe fs,v= .ref e/\s1.heap.get? C=some (excClassObj nm q C N bs bm hdct sn sub ab col dd k0 k1 k2 k3 k5 newId)/\s1.heap.get? e=some oe/\oe.cls= .ref C/\oe.data= .fields fs/\fs[1]? =some .none/\E (.ref e) s1) E s): wpAny M A (raiseStmt env (some x) none) Q E s:=by
  have cb:(Value.ref C::bm).contains (.type "BaseException")=true:=by rw[BA,hb,Bool.or_true]
  unfold raiseStmt;refine ag (dw h (fun v s1 ⟨e,oe,fs,ev,hC,he,hc,gh,h1,hE⟩=>?_) fun _ _ z=>z);subst ev;obtain⟨hp,g,d,tk,os⟩:=s1;obtain⟨oc,odd,rf,bW⟩:=oe;cases hc;cases gh
  repeat (first|with_reducible refine jg he ?_|with_reducible refine jg hC ?_|(with_reducible refine u6 hC ?_;rw[cb])|rw[h1]|wp_step)
  exact wpAny_raiseNew_none hh hE
end
end L2
namespace L2
open PySem PySem.Spec PyProof.Rows
def jf(P:LI)(w:World):eW:=fun outer H s E e s'=>∃(ex:Addr)(cls:Value)(dx:Option Addr)(H':Hp)(B:Heap),e= .ref ex/\s'.os=s.os/\AllBare s'.gens/\fW B outer ex cls dx .none s'.heap/\Fl P w outer H s.heap ex H' B s'.heap/\E cls dx H'
theorem t9{H:Hp}{p:Addr}:del H p p=none:=by unfold del;rw[aI rfl]
theorem gm{H:Hp}{p b:Addr}(h:b≠p):del H p b=H b:=by unfold del;rw[aC h]
theorem bq.del{P:LI}{w:World}{H:Hp}{h:Heap}{p:Addr}{φ:Heap->Prop}(ok:bq P w H h)(e:H p=some (.ext φ)):bq P w (del H p) h:=fun b u q=>by
 obtain⟨nb,q⟩:=ic.mp q;refine(ok b u q).fv (fun _ _ _ z=>z) (fun c z=>?_) fun c xs z=>?_
 ·rw[gm (fun y=>by rw[y,e]at z;cases z)];exact z
 ·rw[gm (fun y=>by rw[y,e]at z;cases z)];exact z
section
variable {P:LI}{w:World}{K:LG}{mg:Str->Option Value}{base:Heap}{N:List Str}{qual:Str}{scope:Scope}{f:Addr}{cd:Value}{A:LK}{outer:List Env}{s:LH}{H:Hp}{E:XK}{pins:List (Addr×Obj)}{σ:St}{H1:Hp}{s1:LH}{ex:Addr}{C:Addr}{dx:Addr}
theorem uH(I:Inv (dk (jf P w) P w K mg base N qual scope f cd A outer s H E) pins σ H1 s1)(hx:H1 ex=some (.ext (gr ex C dx)))(hs:s.heap.objs.size<=ex)(q:E (.ref C) (some dx) (del H1 ex)): (dk (jf P w) P w K mg base N qual scope f cd A outer s H E).xe (.ref ex) s1:=by
  have eP:s1.heap.FunFrames base (envOfC qual scope s.heap.objs.size f cd::outer):=I.stack;have HG:∀env∈(envOfC qual scope s.heap.objs.size f cd::outer),∀b,env.frame=some b->b∈ex::bH (envOfC qual scope s.heap.objs.size f cd::outer):=fun env he b hb=>.tail _ (kn.mpr ⟨env,he,hb⟩);have hB:(PySem.W.hideAll s1.heap (ex::bH (envOfC qual scope s.heap.objs.size f cd::outer))).StaysIn s1.heap:=fun b o e=>PySem.W.of_hideAll _ e;obtain⟨⟨ob,fs,g1,g2,g3,g4,g5⟩,_,_⟩:=(show bZ P w H1 s1.heap ex (.ext (gr ex C dx))from I.hok ex _ hx);have nw:s.heap.get? ex=none:=Heap.get?_none_of_le hs;have nk:∀b o,s.heap.get? b=some o->b∉bH outer->b∉ex::bH (envOfC qual scope s.heap.objs.size f cd::outer):=fun b o e hb hm=>by
   rcases aW.mp hm with rfl|hm
   ·rw[nw]at e;cases e
   obtain⟨env,he,hf⟩:=kn.mp hm;rcases aW.mp he with rfl|he
   · have e1:s.heap.objs.size=b:=cf hf
     have h1:=aN e;rw[<-e1]at h1;exact absurd h1 (kl _)
   ·exact hb (kn.mpr ⟨env,he,hf⟩)
  have rp:∀b u,H1 b=some u->(∀φ,u≠ .ext φ)->del H1 ex b=some u:=fun b u e n=>by rw[gm (fun z=>by rw[z,hx]at e;exact n _ (cf e).symm)];exact e
  have F0:Fl P w outer H s.heap ex (del H1 ex) (PySem.W.hideAll s1.heap (ex::bH (envOfC qual scope s.heap.objs.size f cd::outer))) s1.heap:=by
   refine⟨⟨I.base.keep,I.base.slot,fun b o e n hb=>?_,I.base.there,fun b xs e=>rp b _ (I.base.tups b xs e) (fun _ z=>nomatch z),fun b o u e=>rp b _ (I.base.frzs b o u e) (fun _ z=>nomatch z),fun b ps e=>?_⟩,I.hok.del hx,fun b o e n hb=>uc _ (I.base.keep b o e n hb (cP)) (nk b o e hb),fun b o e=>?_,fun b o e hb=>?_,fun b hb=>?_,nw,t9⟩
   · by_cases z:b=ex
     ·rw[z];exact t9
     ·rw[gm z];exact I.base.free b o e n hb
   · obtain⟨more,e1⟩:=I.base.tbls b ps e
     exact⟨more,rp b _ e1 (fun _ z=>nomatch z)⟩
   · obtain⟨nb,e⟩:=ic.mp e
     obtain⟨iR,e1⟩:=(I.hok b o e).there;refine⟨iR,uc _ e1 fun hm=>?_⟩;rcases aW.mp hm with z|hm
     ·exact nb z
     · rw[I.mI b hm]at e
       cases e
   · obtain⟨iR,e1⟩:=I.base.there b o e (cP)
     exact⟨iR,uc _ e1 (nk b o e hb)⟩
   · obtain⟨env,he,hf⟩:=kn.mp hb
     have e1:=I.mI b (kn.mpr ⟨env,.tail _ he,hf⟩);by_cases z:b=ex
     ·rw[z];exact t9
     ·rw[gm z];exact e1
  show wpAny (model P w) (A.deeper (envOfC qual scope s.heap.objs.size f cd)) (leaving (envOfC qual scope s.heap.objs.size f cd) (.ref ex)) _ _ _;refine Gd (L:=s.heap.objs.size) I.ok.frames (PySem.W.funFrames_hide eP HG) rfl g1 hB (PySem.W.hideAll_none _ (.head _)) g4 g5 fun h' x1 x2=>?_;exact⟨ex,.ref C,some dx,del H1 ex,_,rfl,I.os,I.bare,by rw[g2,g3]at x1;exact x1,F0.step hB x1.1 x2 eP.2.2,q⟩
end
def sW(K:LG)(C fI:Addr)(bP:List Value)(newId:String):Bool:=match K.lookup C with |some ⟨.type "type",_,.cls cd,sl⟩=>(match cd.mro,sl.toList with | .ref C'::bm,[_,_,_,_,some (.builtin n),_]=>C'==C&&n==newId&& !cd.hasDel&&PySem.W.tailIn K bP bm&&PySem.W.nsOkIn K cd.ns&&(PySem.W.nsIn K cd.ns "__init__"==some (some (.ref fI))) |_,_=>false) |_=>false
structure je(K:LG)(mg:Str->Option Value)(x:Str)(C fI:Addr)(bP:List Value)(newId:String):Prop where
 at':mg x=some (.ref C)
 ok:sW K C fI bP newId=true
theorem Fs{K:LG}{h:Heap}{N:Addr}{m:Str->Option Value}{n:Str}{v:Value}(X:K.In h)(G:h.Ns N m)(e:PySem.W.nsIn K N n=some (some v)):m n=some v:=by
 obtain⟨o,es,ep,ho,hd,_,hf⟩:=G;unfold PySem.W.nsIn at e;split at e
 · rename_i c d og n' sl q
   have z:=X _ _ q;rw[ho]at z;cases z;cases hd;split at e
   · rename_i en he
     cases e;rw[<-hf];unfold nsFind findBy;rw[<-Array.find?_toList,he];rfl
   ·split at e<;>cases e
 ·cases e
theorem je.own{K:LG}{mg:Str->Option Value}{x:Str}{C fI:Addr}{bP:List Value}{newId:String}{h:Heap}(e:je K mg x C fI bP newId)(X:K.In h): ∃tl N nm q bs hdct sn sub ab col dd k0 k1 k2 k3 k5 mN,h.get? C=some (excClassObj nm q C N bs tl hdct sn sub ab col dd k0 k1 k2 k3 k5 newId)/\h.Ns N mN/\mN "__init__"=some (.ref fI)/\OwnTail h bP tl:=by
  have q:=e.ok;unfold sW at q;split at q
  · rename_i dd cd sl ho
    split at q
    · rename_i D2 bl a0 a1 a2 a3 nn a5 hm hs
      simp only[cq,bQ,pj]at q;obtain⟨⟨⟨⟨⟨r1,r2⟩,lL⟩,ht⟩,hok⟩,lF⟩:=q;subst r1 r2;obtain⟨c1,c2,c3,c4,c5,c6,c7,c8,c9,tw,K2⟩:=cd;dsimp only at hm lL hok lF;subst hm lL;obtain⟨l⟩:=sl;simp only at hs;subst hs;have G:=Heap.Ns.of_isNs (PySem.W.isNs_of_in X hok);exact⟨bl,c4,c1,c5,c2,c6,c7,c8,c9,tw,dd,a0,a1,a2,a3,a5,_,X _ _ ho,G,Fs X G lF,PySem.W.tail_of_in X ht⟩
    ·cases q
  ·cases q
def fnAt(K:LG)(f:Addr):Bool:=match K.lookup f with |some o=>o.cls== .type "function" |none=>false
theorem Jc{K:LG}{h:Heap}{f:Addr}(X:K.In h)(e:fnAt K f=true):∃o,h.get? f=some o/\o.cls= .type "function":=by
 unfold fnAt at e;split at e
 · rename_i o ho
   exact⟨o,X _ _ ho,cq.mp e⟩
 ·cases e
def Cj(E:XK)(C:Addr)(sp:Sp)(t:TA):TS:=fun _ σ H=>t σ H fun vs H1=>vs.length<=sizeLine/\∀ex,H1 ex=none->sp (.ref ex::vs) (upd H1 ex (.ext (il ex C))) (fun v H2=>v= .aq/\∃dx,H2 ex=some (.ext (gr ex C dx))/\E (.ref C) (some dx) (del H2 ex)) (fun _ _ _=>False)
section
variable {X:Cx}{x:Str}{C fI:Addr}{bP:List Value}{newId ll B:String}{e:Expr}{t:TA}{np ba pos:Pos}{k:Nat}{fd:FuncData}{ps:List Str}{sp:Sp}
theorem wD{E:XK}(hx:∀pins σ H s ex dx,Inv X pins σ H s->H ex=some (.ext (gr ex C dx))->X.s₀.heap.objs.size<=ex->E (.ref C) (some dx) (del H ex)->X.xe (.ref ex) s) (EC:je X.K X.mg x C fI bP newId)(FB:ExcBaseFacts B newId ll bP)(hh:X.A.handled=none)(F:dY X.prog X.w X.K X.mg X.base du k fI fd ps sp)(hr:bj (k+1) X.A)(hb:Binds X.K fd ps [])(hf:fnAt X.K fI=true)(hg:Gl X x)(ha:PA X [e] t) (he:starEach [e] X.env=[(false,eval e X.env)]:=by rfl)(hd:(x==("__debug__":Str))=false:=by decide): PS X (.Raise (some (.Call (.Name x np) [e] [] ba)) none pos) (Cj E C sp t):=by
  intro pins s σ H D I h;obtain⟨tl,Nn,nm,q,bs,hdct,sn,sub,ab,col,dd,k0,k1,k2,k3,k5,mN,hC,hN,hi,T⟩:=EC.own I.ok.mod.kin;have hA:=ha ba pins s σ H _ I h;rw[arm_exec_Raise];refine ag (k9 (Dn (C:=C) (nm:=nm) (q:=q) (N:=Nn) (bs:=bs) (bm:=tl) (hdct:=hdct) (sn:=sn) (sub:=sub) (ab:=ab) (col:=col) (dd:=dd) (k0:=k0) (k1:=k1) (k2:=k2) (k3:=k3) (k5:=k5) (newId:=newId) (T.hasType FB.hasBase) hh (ag (dw (wpAny_Call_ofName (l2 I hg EC.at' ?_ hd)) (fun v s3 h3=>ag (k9 (aM h3))) fun _ _ z=>z))));unfold callWith;rw[he]at hA⊢;refine ag (dH (dw (Calls.evalArgs_plain (Q:=fun(a:Args) s2=>a.kw=[]/\AP X pins σ (fun vs H1=>vs.length<=sizeLine/\∀ex,H1 ex=none->sp (.ref ex::vs) (upd H1 ex (.ext (il ex C))) (fun v H2=>v= .aq/\∃dx,H2 ex=some (.ext (gr ex C dx))/\E (.ref C) (some dx) (del H2 ex)) (fun _ _ _=>False)) a.pos s2) (ak hA fun us s2 z=>⟨rfl,z⟩)) (fun a s2 z=>ag (k9 ?_)) fun _ _ z=>z));obtain⟨us,Kh⟩:=a;obtain⟨Ht,vs,H1,I1,r1,z1,w1⟩:=z;obtain rfl:Kh=[]:=Ht;have C2:=I1.bk _ _ hC;have T2:=T.keeps I1.bk;have N2:=hN.keeps I1.bk;obtain⟨oI,f1,f2⟩:=Jc I1.cL hf;have G1:us.length<=sizeLine:=by rw[<-r1.length];exact z1
  obtain⟨hp,g,d,tk,os⟩:=s2;rw[show(backTo ba [(false,eval e X.env)]).any (·.1)=false from rfl];refine ag (wpAny_keeperOf_exc C2 ?_);have LF:Inv X pins σ H1 ⟨fN hp C us,g,d,tk,os⟩:=I1.kept (t':=tk) (h':=fN hp C us) fun b u e=>jP e;have xa:=yR (h:=hp) (C:=C) (rest:=us);have fx:H1 (hp.objs.size+1)=none:=I1.hok.fresh (Nat.le_succ _);have I2:Inv X pins σ (upd H1 (hp.objs.size+1) (.ext (il (hp.objs.size+1) C))) ⟨fN hp C us,g,d,tk,os⟩:=by refine I1.laid (a:=hp.objs.size+1) (o:=.ext (il (hp.objs.size+1) C)) (h':=fN hp C us) (t':=tk) (fun b u e=>jP e) (Nat.le_succ _) ?_;exact⟨⟨_,_,xa,rfl,rfl,rfl,rfl⟩,⟨_,xa⟩,fun h1 h2 ⟨iR,jL,y1,y2⟩ k=>⟨iR,jL,k _ y1,y2⟩⟩
  have hq:=w1 (hp.objs.size+1) fx;have r2:Vals (V.ref (hp.objs.size+1)::vs) (Value.ref (hp.objs.size+1)::us):=.cons rfl r1;have hl:(Value.ref (hp.objs.size+1)::us++[]).length=ps.length:=by have e:=r2.length;rw[F.len _ _ _ _ hq]at e;rw[ji];exact e.symm
  have bt:=hb ⟨fN hp C us,g,d,tk,os⟩ (Value.ref (hp.objs.size+1)::us) I2.cL hl;rw[ji]at bt;refine ag (K1 FB T2 C2 N2 hi f1 f2 G1 (kc (oU (F.run _ X.stack _ _ ⟨Value.ref (hp.objs.size+1)::us,[]⟩ (Value.ref (hp.objs.size+1)::us) _ _ (fun _ _ _=>False) (hr.make C us []) (I2.t6.make C us []) bt r2 hq) fun r s' iY=>?_)));cases r with |error e=>exact False.elim iY |ok fl=>cases fl with |ret u=>obtain⟨v,H',I3,rv,ev,dx,ed,q3⟩:=I2.after iY;subst ev;refine⟨rv,ag (dH (wpAny_point (aM ?_)))⟩;obtain⟨⟨ob,fs,g1,g2,g3,g4,g5⟩,_,_⟩:=(show bZ X.prog X.w H' s'.heap _ (.ext (gr (hp.objs.size+1) C dx))from I3.hok _ _ ed);exact⟨_,ob,fs,rfl,I3.bk _ _ hC,g1,g2,g4,g5,hx pins σ H' s' _ dx I3 ed (bL I1.sz (Nat.le_succ _)) q3⟩ |next=>exact False.elim iY |brk=>exact False.elim iY |cont=>exact False.elim iY
end
end L2
namespace L2
open PySem PySem.Spec PyProof.Rows
def fY(ex:Addr)(cls:Value)(dx:Option Addr)(h:Heap):Prop:=∃o,h.get? ex=some o/\o.cls=cls/\o.dict=dx/\∃fs,o.data= .fields fs
def ClsAt(K:LG)(C:Addr):Prop:=∀h,K.In h->∃nm q N bs tl hdct sn sub ab col dd k0 k1 k2 k3 k5 newId,h.get? C=some (excClassObj nm q C N bs tl hdct sn sub ab col dd k0 k1 k2 k3 k5 newId)
theorem je.cls{K:LG}{mg:Str->Option Value}{x:Str}{C fI:Addr}{bP:List Value}{newId:String}(e:je K mg x C fI bP newId):ClsAt K C:=fun h X=>by obtain⟨tl,N,nm,q,bs,hdct,sn,sub,ab,col,dd,k0,k1,k2,k3,k5,mN,hC,_⟩:=e.own X;exact⟨nm,q,N,bs,tl,hdct,sn,sub,ab,col,dd,k0,k1,k2,k3,k5,newId,hC⟩
inductive zY(i:Nat)(Cs:Addr->Prop)(tb:XK->TS)(th:TS)(D:Ends)(σ:St)(H:Hp):Prop |mk (E:XK)(h0:tb E D σ H)(h1:(∀cls dx H',E cls dx H'->∃C,cls= .ref C/\Cs C))(h2:∀(C ex:Addr)(dx:Option Addr)(σ':St)(H':Hp),σ'.length=σ.length->E (.ref C) dx H'->H' ex=none->th {nx:=fun σ2 H2=>D.nx (σ2.set i none) H2,rt:=D.rt,bk:=fun σ2 H2=>D.bk (σ2.set i none) H2,ct:=fun σ2 H2=>D.ct (σ2.set i none) H2} (σ'.set i (some (.ref ex))) (upd H' ex (.ext (fY ex (.ref C) dx)))):zY i Cs tb th D σ H
def Ce(i:Nat)(Cs:Addr->Prop)(tb:XK->TS)(th:TS):TS:=fun D σ H=>zY i Cs tb th D σ H
section
variable {X:Cx}{i:Nat}{n y:Str}{Dc:Addr}{tF:List Value}{newD:String}{body mF:List Stmt}{b0:Stmt}{np nP pos:Pos}{tb:XK->TS}{th:TS}{Cs:Addr->Prop}
theorem DM(eP:X.stack=X.env::X.outer)(HM:X.env.frame=some X.env.locals)(hN:X.N.Nodup)(hi:X.N[i]? =some n)(hk:X.env.kindOf n=some .local)(hs:X.env.scope.names.lookup n=some .local) (hb:∀(E:XK)(xe:Value->LH->Prop),Passes (jf X.prog X.w) (X.et xe) E->cE (X.et xe) body (tb E)) (hg:Gl X y)(hy:Exc X.K X.mg y Dc tF newD)(sC:tF.contains (.type "BaseException")=true)(sI:∀C,Cs C->ClsAt X.K C/\takes X.K C Dc) (hh:∀ex,cE (X.hand ex) (b0::mF) th)(dU:(y==("__debug__":Str))=false:=by decide): zQ X (.Try body [.ExceptHandler (some (.Name y np)) (some n) (b0::mF) nP] [] [] pos) (Ce i Cs tb th):=by
  intro s σ H D I h;obtain⟨E,hq,HU,rY⟩:=h;refine wpAny_Try_except ?_;have ps:Passes (jf X.prog X.w) (X.et fun e s₁=>wpAny (model X.prog X.w) X.A (noteFrame e X.env) (fun _ s₂=>wpAny (model X.prog X.w) X.A (setFlight e none) (fun _ s₃=>wpAny (model X.prog X.w) X.A (handleBy e X.env [.ExceptHandler (some (.Name y np)) (some n) (b0::mF) nP]) (SP X [] D) X.xe s₃) X.xe s₂) X.xe s₁) E:=by
   intro qO σ' H1 s1 ev s2 I1 hx;obtain⟨ex,cls,dx,H',B,rfl,ho,yh,sR,F,hE⟩:=hx;obtain⟨C,rfl,hC⟩:=HU cls dx H' hE;have I0:Inv X [] σ' H1 s1:=I1.g6.K7;obtain⟨yb,g2,d2,t2,o2⟩:=s2;have Jd:fW B (X.env::X.outer) ex (.ref C) dx .none yb:=by rw[<-eP];exact sR
   have hA:X.A.frames=some (X.env::X.outer):=by rw[<-eP];exact I0.ok.frames
   refine Ft (s:=⟨yb,g2,d2,t2,o2⟩) hA HM Jd fun h4 nV BQ=>?_;refine sU nV fun h5 lT BP=>?_;have F4:=F.step sR.1 nV.1 BQ sR.2.2.1;have Jk:h4.FunFrames B X.stack:=by rw[eP];exact nV.2.2.1
   have F5:=F4.step nV.1 lT.1 BP Jk;have Jj:h5.FunFrames B X.stack:=by rw[eP];exact lT.2.2.1
   have I5:Inv X [] σ' H' ⟨h5,g2,d2,t2,o2⟩:=I0.oA (s':=⟨h5,g2,d2,t2,o2⟩) ho F5.un F5.hok yh (fun b hb=>(cP hb).elim);refine wpAny_handleBy_cons (codeAny_handlers_test (l2 (X:=X.hand ex) (I5.hand ex) hg hy.at' ?_ dU)) (by intro q;cases q);obtain⟨eC,tk⟩:=sI C hC;obtain⟨nm,q,Nn,bs,tl,hdct,sn,sub,ab,col,dd,k0,k1,k2,k3,k5,nw,oC⟩:=eC _ I5.cL;obtain⟨KD,LD,xo,q',zw,yj,vB,uY,zM,zk,z8,j0,j1,j2,j3,j5,KS,oD,Lq,Lh,Kt⟩:=(hy.own I5.cL).obj;obtain⟨ob,Hf,He,_⟩:=lT.there;have y8:(Value.ref C::tl).contains (.ref Dc)=true:=by
    obtain⟨cd,ha,sD⟩:=Option.bind_eq_some_iff.mp tk;split at sD
    ·cases sD
    · have hc:=cf sD
      unfold PySem.W.clsIn at ha;split at ha
      · rename_i c1 c2 Ly c4 hl
        cases ha;have e1:=I5.cL _ _ hl;rw[show(Shared.heap ⟨h5,g2,d2,t2,o2⟩).get? C=some _ from oC]at e1;have e2:=cf e1;unfold excClassObj at e2;injection e2 with _ _ e3 _;injection e3 with e4;rw[<-e4]at hc;exact hc
      ·cases ha
   refine Jm oC oD Hf He (Kt.hasType sC) y8 ?_;refine codeAny_handlers_suite_as ?_;refine sU (s:=⟨h5,g2,d2,t2,o2⟩) lT fun h6 yN BO=>?_;have F6:=F5.step lT.1 yN.1 BO Jj;have BU:Un (bH X.stack) [] H1 (upd H' ex (.ext (fY ex (.ref C) dx))) s1.heap h6:=by
    have nb:∀b u,H' b=some u->b≠ex:=fun b u e z=>by rw[z,F6.ne]at e;cases e
    refine⟨F6.un.keep,F6.un.slot,fun b o e n hx=>?_,F6.un.there,fun b xs e=>?_,fun b o u e=>?_,fun b ps e=>?_⟩
    ·rw[aL (fun z=>by rw[z,F6.nw]at e;cases e)];exact F6.un.free b o e n hx
    ·have:=F6.un.tups b xs e;rw[aL (nb b _ this)];exact this
    ·have:=F6.un.frzs b o u e;rw[aL (nb b _ this)];exact this
    ·obtain⟨more,e1⟩:=F6.un.tbls b ps e;exact⟨more,by rw[aL (nb b _ e1)];exact e1⟩
   have Hb:bq X.prog X.w (upd H' ex (.ext (fY ex (.ref C) dx))) h6:=fun b u e=>by
    by_cases yl:b=ex
    · subst yl
      rw[bR]at e;cases e;obtain⟨o6,e6,c6⟩:=yN.there;exact⟨⟨o6,e6,c6⟩,⟨o6,e6⟩,fun g1 g3 ⟨o7,e7,c7⟩ k=>⟨o7,k o7 e7,c7⟩⟩
    · rw[aL yl]at e
      refine(F6.hok b u e).fv (fun c v hc q=>q) (fun c q=>?_) fun c xs q=>?_
      ·rw[aL (fun z=>by rw[z,F6.ne]at q;cases q)];exact q
      ·rw[aL (fun z=>by rw[z,F6.ne]at q;cases q)];exact q
   have I6:Inv X [] σ' (upd H' ex (.ext (fY ex (.ref C) dx))) ⟨h6,g2,d2,t2,o2⟩:=I0.oA (s':=⟨h6,g2,d2,t2,o2⟩) ho BU Hb yh (fun b hb=>(cP hb).elim);refine mH (X:=X.hand ex) (I6.hand ex) hN hi (.inl hs) (v:=.ref ex) rfl (fun s7 I7=>?_) (.inr hs);refine dw (hh ex [] s7 _ _ _ I7 (rY C ex dx σ' H' (I0.len.trans I.len.symm) hE F.ne)) (fun f s8 q=>?_) fun e s8 q=>False.elim q;have un:∀(σ2:St)(H2:Hp)(Q:Unit->LH->Prop),Inv (X.hand ex) [] σ2 H2 s8->(∀s9,Inv X [] (σ2.set i none) H2 s9->Q () s9)->wpAny (model X.prog X.w) X.A (do bindName X.env n .none;unbindBehindTheSuite X.env n nP) Q X.xe s8:=fun σ2 H2 Q I8 hq=>by
    have Bc:=I8.back I0.ok;have bp:i<σ2.length:=by rw[Bc.len];exact(dM.mp hi).1
    unfold bindName;refine ag (ag (dH (wpAny_point (ag (mH Bc hN hi (.inl hs) (v:=.aq) rfl (fun s9 I9=>wpAny_point ?_) (.inr hs))))));refine BR I9 hN hi hk hs (v:=.aq) (uw bp) fun cI jY=>hq cI ?_;rw[List.set_set]at jY;exact jY
   cases f with |next=>obtain⟨σ2,H2,I8,dq⟩:=q;exact un σ2 H2 _ I8 fun s9 I9=>⟨_,H2,I9,dq⟩ |brk=>obtain⟨σ2,H2,I8,dq⟩:=q;exact un σ2 H2 _ I8 fun s9 I9=>⟨_,H2,I9,dq⟩ |cont=>obtain⟨σ2,H2,I8,dq⟩:=q;exact un σ2 H2 _ I8 fun s9 I9=>⟨_,H2,I9,dq⟩ |ret u=>obtain⟨v,σ2,H2,I8,r8,dq⟩:=q;exact un σ2 H2 _ I8 fun s9 I9=>⟨v,_,H2,I9,r8,dq⟩
  refine dw (hb E _ ps [] s σ H D (I.et _) hq) (fun f s1 q=>?_) fun e s1 q=>q;have q':=q.g6;cases f with |next=>exact m6 q' |brk=>exact q' |cont=>exact q' |ret u=>exact q'
end
end L2
namespace L2
open PySem PySem.Spec PyProof.Rows PySem.W
section
variable {prog:LI}{w:World}{A:LK}{E:Value->LH->Prop}{h:Heap}{g:Array GenState}{d:Drawn}{t:Nat}{os:OsState}{K:Frag}{x C:Addr}{ox:Obj}{od:Obj}{f:Str}{v:Value}
theorem Jo{b:Bool}{Q:Value->LH->Prop}(X:K.In h)(k:fX K C)(I:InstAt h x ox C (some od))(ha:findIn K (.ref C) f=some none)(hl:lookIn f od=some (some v))(hv:handedIn v=true) (hq:Q v ⟨h,g,d,t+1,os⟩):wpAny (model prog w) A (getAttr (.ref x) f b) Q E ⟨h,g,d,t,os⟩:=by
  have L0:=I.type (M:=model prog w);have L1:=oT (M:=model prog w) X k.ga;have L2:=oT (M:=model prog w) X k.gx;have L3:=looks_find (M:=model prog w) X I (findObj_own k.is ha rfl hl);have f3:=uf.ga.bind (.ref x);have rV:(Value.builtin "BaseException.__getattribute__"==Value.builtin "object.__getattribute__")=false:=by decide+kernel
  have rW:(b&&onTheHeap (Value.builtin "BaseException.__getattribute__"))=false:=by cases b<;>rfl
  unfold getAttr getAttrBy;refine ag (wpAny_mkText (dH (ag (L0.at (ag (L1.at ?_))))));show wpAny _ _ (if(onTheHeap (Value.ref C)&&Value.builtin "BaseException.__getattribute__"==Value.builtin "object.__getattribute__")=true then _ else _) _ _ _;rw[rV,kr,aC (by decide)];unfold getAttrByItsOwn hookBefore;refine ag ?_;show wpAny _ _ (typeLookup (.ref C) "__getattr__") _ _ _;refine L2.at (ag (wpAny_attempt (dH ?_)));unfold callGetattribute;rw[rW,aC (by decide)];unfold boundAndCalled;rw[f3];refine ag (aM (kc ?_));refine ua uf.ga.plain PySem.F.entry_bexc_ga (yC X k L0 ?_);refine ag (aM (ag (aM (ag (L0.at (ag (L3.at ?_)))))));exact aM (handed_on hv hq)
end
inductive zV(K:Frag)(f:Str)(Q:VK)(x:V)(H1:Hp):Prop |mk (ex:_)(C:_)(dx:_)(fs:_)(i:_)(h0:x= .ref ex)(h1:H1 ex=some (.ext (fY ex (.ref C) (some dx))))(h2:H1 dx=some (.xd fs))(h3:fX K C)(h4:findIn K (.ref C) f=some none)(h5:fs.lookup f=some (.int i))(h6:Q (.int i) H1):zV K f Q x H1
def Cb(K:Frag)(ta:TE)(f:Str):TE:=fun σ H Q=>ta σ H fun x H1=>zV K f Q x H1
section
variable {X:Cx}{e:Expr}{f:Str}{pos:Pos}{ta:TE}
theorem wH(K:Frag)(hK:X.K=K)(he:PE X e ta)(hb:attributeBase e f X.env (eval e X.env)=eval e X.env:=by rfl):PE X (.Attribute e f pos) (Cb K ta f):=by subst hK;intro pins s σ H Q I h;refine Kb hb (ak (he pins s σ H _ I h) fun u s1 ⟨x,H1,I1,rx,ex,C,dx,fs,i,ee,h1,h2,k,ha,hl,q⟩=>?_);subst ee;obtain rfl:u=Value.ref ex:=rx;obtain⟨⟨o,o1,o2,o3,jL,o4⟩,_,_⟩:=(show bZ X.prog X.w H1 s1.heap ex (.ext (fY ex (.ref C) (some dx)))from I1.hok ex _ h1);obtain⟨mA,n1,n2⟩:=(show bZ X.prog X.w H1 s1.heap dx (.xd fs)from I1.hok dx _ h2);obtain⟨od,e1,e2⟩:=G7 n1;have r:=n2 f;rw[hl]at r;cases em:mA f with |none=>rw[em]at r;exact r.elim |some v=>rw[em]at r;obtain⟨t,rfl⟩:=(show∃t,v=Value.int i t from r);have J:InstAt s1.heap ex o C (some od):=⟨o1,o2,by unfold notCls;rw[o4],by rw[o3];exact e1⟩;obtain⟨hp,g,d,tk,os⟩:=s1;exact Jo I1.cL k J ha (by rw[e2,em]) rfl ⟨.int i,H1,I1.tok _,⟨t,rfl⟩,q⟩
inductive AS(K:Frag)(xs:List V)(H:Hp)(Q:VK):Prop |mk (ex:Addr)(C:Addr)(dx:Option Addr)(c:V)(cv:Value)(b:Bool)(h0:xs=[.ref ex,c])(h1:H ex=some (.ext (fY ex (.ref C) dx)))(h2:fX K C)(h3:JN c=some cv)(h4:kitOne K (.ref C) cv=some b)(h5:Q (.bl b) H):AS K xs H Q
def Dz(K:Frag):List V->Hp->VK->Prop:=fun xs H Q=>AS K xs H Q
inductive AR(K:Frag)(xs:List V)(H:Hp)(Q:VK):Prop |mk (ex:Addr)(C:Addr)(p:Addr)(dx:Option Addr)(Ds:List Addr)(b:Bool)(h0:xs=[.ref ex,.ref p])(h1:H ex=some (.ext (fY ex (.ref C) dx)))(h2:fX K C)(h3:H p=some (.tup (Ds.map V.ref)))(h4:kitAny K (.ref C) (Ds.map Value.ref)=some b)(h5:Q (.bl b) H):AR K xs H Q
def Dy(K:Frag):List V->Hp->VK->Prop:=fun xs H Q=>AR K xs H Q
theorem rR(K:Frag)(hK:X.K=K):bJ X (.builtin "isinstance") (fun xs H Q=>Dz K xs H Q\/Dy K xs H Q):=by
 subst hK;intro pins s σ H xs us Q I r h;rcases h with⟨ex,C,dx,c,cv,b,rfl,he,k,hc,kb,q⟩|⟨ex,C,p,dx,Ds,b,rfl,he,k,hp,kb,q⟩
 · obtain⟨u,v,rfl,rx,rc⟩:=vals2 r
   cases(show u=Value.ref ex from rx);have hv:v=cv:=by cases c with |ref D=>cases(show v=Value.ref D from rc);exact cf hc |ty n=>cases(show v=Value.type n from rc);exact cf hc |_=>cases hc
   subst hv;obtain⟨o,o1,o2,_⟩:=(I.hok ex _ he).1;exact kia_one (xK k) I.cL ⟨o,o1,o2⟩ kb (fun z=>nomatch z) fun tk=>⟨.bl b,H,I.tok _,rfl,q⟩
 · obtain⟨u,v,rfl,rx,rc⟩:=vals2 r
   cases(show u=Value.ref ex from rx);cases(show v=Value.ref p from rc);obtain⟨o,o1,o2,_⟩:=(I.hok ex _ he).1;obtain⟨_,its,rv,⟨cls,dd,dt,sl⟩,h1,h2,n,h3⟩:=(show bZ X.prog X.w H s.heap p (.tup (Ds.map V.ref))from I.hok p _ hp);simp only at h2 h3;subst h2 h3;have e:=uK rv;subst e;exact kia_tup (xK k) I.cL ⟨o,o1,o2⟩ h1 kb (fun z=>nomatch z) fun tk=>⟨.bl b,H,I.tok _,rfl,q⟩
end
end L2
namespace L2
open PySem PySem.Spec PyProof.Rows
def oO(P:LI)(w:World)(K:LG)(mg:Str->Option Value)(base:Heap)(x:Str)(k:Nat)(sp:Sp):Prop:=∃f fd ps,dY P w K mg base (jf P w) k f fd ps sp/\mg x=some (.ref f)/\PySem.W.keepIn K (.ref f)=true/\Binds K fd ps []
theorem FA.Ib{P:LI}{w:World}{K:LG}{mg:Str->Option Value}{base:Heap}{x:Str}{st:Stmt}{N ps:List Str}{k:Nat}{sp:Sp}(F:FA K mg x st)(S:aV N ps (aJ st))(len:∀vs H Q E,sp vs H Q E->vs.length=ps.length) (hb:∀(kV doc pm:Value)(an:Option Addr)(ah ct:Value)(us:List Value),us.length=ps.length->bindArgs (PySem.W.fnOf x x (gn st) (cZ st) (aJ st) .none kV doc pm an ah ct) ⟨us,[]⟩=pure (ps.zip us)) (dW:∀(f:Addr)(ah:Value)(A:LK)(outer:List Env)(s:LH)(H:Hp)(vs:List V)(Q:VK)(E:XK),bj k (A.deeper (envOfC x (aJ st) s.heap.objs.size f ah))->sp vs H Q E->∃t,cE (dk (jf P w) P w K mg base N x (aJ st) f ah A outer s H E) (cZ st) t/\t {nx:=fun _ H'=>Q .aq H',rt:=Q} (start N vs) H):oO P w K mg base x (k+1) sp:=by obtain⟨f,fd,hm,F⟩:=F.ex;have lO:=F.binds hb;have kp:=F.kp;obtain⟨oc,od,kV,doc,pm,an,ah,ct,bW,rfl,lk,bO⟩:=F.ex;exact⟨f,_,ps,yM lk bO S len fun A outer s H vs Q E hr bD=>dW f ah A outer s H vs Q E hr bD,hm,kp,lO⟩
section
variable {X:Cx}{k:Nat}{x:Str}{p pos:Pos}{e:Expr}{es:List Expr}{t:TA}{sp:Sp}
def CC(sp:Sp)(E:XK)(t:TA):TE:=fun σ H Q=>t σ H fun vs H1=>sp vs H1 Q E
theorem E4{E:XK}(F:oO X.prog X.w X.K X.mg X.base x k sp)(hp:Passes (jf X.prog X.w) X E)(hr:bj k X.A)(hg:Gl X x)(ha:PA X (e::es) t)(dU:(x==("__debug__":Str))=false:=by decide) (he:starEach (e::es) X.env=(false,eval e X.env)::starEach es X.env:=by rfl)(cW:(backTo pos (starEach es X.env)).any (·.1)=false:=by rfl): PE X (.Call (.Name x p) (e::es) [] pos) (CC sp E t):=by
  obtain⟨f,fd,ps,F,hm,hk,hb⟩:=F;have h:=wJ (pos:=pos) (p:=p) F hr hg hm hk hb .nil hp ha dU he cW;intro pins s σ H Q I hq;refine h pins s σ H Q I ?_;have e1:(fun(vs:List V) H1=>sp (vs++[]) H1 Q E)=fun vs H1=>sp vs H1 Q E:=by funext vs H1;rw[ji]
  show t σ H fun vs H1=>sp (vs++[]) H1 Q E;rw[e1];exact hq
end
theorem JO{K:LG}{mg:Str->Option Value}{h:Heap}{x:Str}{C fI:Addr}{bP:List Value}{newId:String}(X:K.In h)(G:h.Ns mainGlobals mg)(a:PySem.W.nsIn K mainGlobals x=some (some (.ref C)))(k:sW K C fI bP newId=true):je K mg x C fI bP newId:=⟨kg X G a,k⟩
structure fT(k:Nat)(A:LK):Prop where
 dp:A.depth+3*k+5<recursionLimit
 un:A.units+16*k+200<cLine
theorem fT.mono{j k:Nat}{A:LK}(r:fT k A)(h:j<=k):fT j A:=⟨by have:=r.dp;omega,by have:=r.un;omega⟩
theorem bj.mark{k:Nat}{A:LK}(r:bj k A)(v:Option Value):fT k (A.mark v):=⟨r.dp,r.un⟩
theorem fT.deeper{k:Nat}{A:LK}(r:fT (k+1) A)(env:Env):fT k (A.deeper env):=⟨by have:=r.dp;show A.depth+1+3*k+5<_;omega,by have:=r.un;show A.units+3+16*k+200<_;omega⟩
abbrev td(P:LI)(w:World)(K:LG)(mg:Str->Option Value)(base:Heap)(N:List Str)(qual:Str)(scope:Scope)(f:Addr)(cd:Value)(A:LK)(outer:List Env)(s:LH)(H:Hp):Cx:={(dk du P w K mg base N qual scope f cd A outer s H (fun _ _ _=>False))with calm:=false,xe:=fun _ _=>False}
def Bd(P:LI)(w:World)(K:LG)(mg:Str->Option Value)(base:Heap)(k:Nat)(f:Addr)(fd:FuncData)(ps:List Str)(sp:Sp):Prop:=(∀vs H Q E,sp vs H Q E->vs.length=ps.length)/\∀(A:LK)(outer:List Env)(s:LH)(H:Hp)(args:Args)(us:List Value)(vs:List V)(Q:VK),fT k A->gR P w K mg base A outer s H->BindsTo s fd args (ps.zip us)->Vals vs us->sp vs H Q (fun _ _ _=>False)->codeAny (model P w) A (.call (.ref f) args) (fun r s'=>match r with| .ok (.ret u)=>CE outer P w H s Q u s'|_=>False) s
theorem Ja{P:LI}{w:World}{K:LG}{mg:Str->Option Value}{base:Heap}{k:Nat}{f:Addr}{name qual:Str}{params:Arguments}{body:List Stmt}{scope:Scope}{dV kV doc pm ah ct oc:Value}{an od:Option Addr} {bW:Array (Option Value)}{N ps:List Str}{sp:Sp}(lk:K.lookup f=some ⟨oc,od,.func (PySem.W.fnOf name qual params body scope dV kV doc pm an ah ct),bW⟩)(bO:PySem.W.codeIn K ah qual=true)(S:aV N ps scope)(len:∀vs H Q E,sp vs H Q E->vs.length=ps.length) (dW:∀(A:LK)(outer:List Env)(s:LH)(H:Hp)(vs:List V)(Q:VK),fT k (A.deeper (envOfC qual scope s.heap.objs.size f ah))->sp vs H Q (fun _ _ _=>False)->∃t,cE (td P w K mg base N qual scope f ah A outer s H) body t/\t {nx:=fun _ H'=>Q .aq H',rt:=Q} (start N vs) H): Bd P w K mg base (k+1) f (PySem.W.fnOf name qual params body scope dV kV doc pm an ah ct) ps sp:=by
  refine⟨len,fun A outer s H args us vs Q hr e0 hb r bD=>?_⟩;have hl:=len _ _ _ _ bD;have KX:K.In s.heap:=e0.mod.kin.keeps fun b o e=>(e0.bs b o e).1;have lim:s.heap.NoLimit:=e0.mod.nolimit.keeps fun b o e=>(e0.bs b o e).1;have hk:∀y∈ps.zip us,scope.names.lookup y.1=some .local\/(scope.names.lookup y.1=some .cell/\((cellsFrom (s.heap.objs.size+1) scope.names []).lookup y.1).isSome=true):=fun⟨n,v⟩ hy=>by
   rcases S.par n (p5 hy).1 with q|q
   ·exact .inl q
   ·exact .inr ⟨q,ud _ _ _ (.inl q)⟩
  refine Bj (by have:=hr.dp;omega) (KX _ _ lk) rfl S.co S.gen rfl (Bl KX bO) (hb _ _ _ _ ?_);refine Bf S.kind hk fun env he s1 x=>?_;subst he;refine⟨lim.keeps x.toInCall.keep,codeAny_func ?_⟩;obtain⟨t,ht,hq⟩:=dW A outer s H vs Q (hr.deeper _) bD;have e1:gR P w K mg base {A with handled:=none} outer s H:=⟨e0.frames,e0.mod,e0.bs,e0.bsz,e0.dF,e0.frf,e0.hok,e0.bare⟩;have I:=rS (CX:=du) (A:={A with handled:=none}) (E:=fun _ _ _=>False) S rfl e1 hl r x;have J:Inv (td P w K mg base N qual scope f ah A outer s H) [] (start N vs) H s1:=⟨⟨I.ok.mod,I.ok.kind,I.ok.glob,I.ok.blt,I.ok.above,I.ok.inj,I.ok.has,I.ok.cab,fun h=>(aZ h).elim,Around.frames_deeper e0.frames,I.ok.stk,I.ok.exf,I.ok.bs,I.ok.bsz,I.ok.noex,I.ok.exfs,I.ok.dF,I.ok.frf⟩,I.os,I.bare,I.base,I.loc,I.cell,I.free,I.freeC,I.pin,I.hok,I.len⟩;refine dw (ht [] s1 (start N vs) H _ J hq) (fun fl s' hs=>?_) fun e s' hs=>hs.elim;cases fl with |ret u=>obtain⟨v,σ',H',J',rv,q⟩:=hs;exact⟨v,H',J'.os,J'.bare,J'.base,J'.hok,rv,q⟩ |next=>obtain⟨σ',H',J',q⟩:=hs;exact⟨V.aq,H',J'.os,J'.bare,J'.base,J'.hok,rfl,q⟩ |brk=>obtain⟨_,_,_,q⟩:=hs;exact False.elim q |cont=>obtain⟨_,_,_,q⟩:=hs;exact False.elim q
def oN(P:LI)(w:World)(K:LG)(mg:Str->Option Value)(base:Heap)(x:Str)(k:Nat)(sp:Sp):Prop:=∃f fd ps,Bd P w K mg base k f fd ps sp/\mg x=some (.ref f)/\PySem.W.keepIn K (.ref f)=true/\Binds K fd ps []
theorem FA.Ia{P:LI}{w:World}{K:LG}{mg:Str->Option Value}{base:Heap}{x:Str}{st:Stmt}{N ps:List Str}{k:Nat}{sp:Sp}(F:FA K mg x st)(S:aV N ps (aJ st))(len:∀vs H Q E,sp vs H Q E->vs.length=ps.length) (hb:∀(kV doc pm:Value)(an:Option Addr)(ah ct:Value)(us:List Value),us.length=ps.length->bindArgs (PySem.W.fnOf x x (gn st) (cZ st) (aJ st) .none kV doc pm an ah ct) ⟨us,[]⟩=pure (ps.zip us)) (dW:∀(f:Addr)(ah:Value)(A:LK)(outer:List Env)(s:LH)(H:Hp)(vs:List V)(Q:VK),fT k (A.deeper (envOfC x (aJ st) s.heap.objs.size f ah))->sp vs H Q (fun _ _ _=>False)->∃t,cE (td P w K mg base N x (aJ st) f ah A outer s H) (cZ st) t/\t {nx:=fun _ H'=>Q .aq H',rt:=Q} (start N vs) H):oN P w K mg base x (k+1) sp:=by obtain⟨f,fd,hm,F⟩:=F.ex;have lO:=F.binds hb;have kp:=F.kp;obtain⟨oc,od,kV,doc,pm,an,ah,ct,bW,rfl,lk,bO⟩:=F.ex;exact⟨f,_,ps,Ja lk bO S len fun A outer s H vs Q hr bD=>dW f ah A outer s H vs Q hr bD,hm,kp,lO⟩
section
variable {X:Cx}{k:Nat}{x:Str}{p pos:Pos}{e:Expr}{es:List Expr}{t:TA}{sp:Sp}
def CB(sp:Sp)(t:TA):TE:=fun σ H Q=>t σ H fun vs H1=>sp vs H1 Q (fun _ _ _=>False)
theorem E3(F:oN X.prog X.w X.K X.mg X.base x k sp)(hr:fT k X.A)(hg:Gl X x)(ha:PA X (e::es) t)(dU:(x==("__debug__":Str))=false:=by decide) (he:starEach (e::es) X.env=(false,eval e X.env)::starEach es X.env:=by rfl)(cW:(backTo pos (starEach es X.env)).any (·.1)=false:=by rfl):PE X (.Call (.Name x p) (e::es) [] pos) (CB sp t):=by
  obtain⟨f,fd,ps,F,hm,hk,hb⟩:=F;intro pins s σ H Q I h;refine u7 (l2 I hg hm ?_ dU);refine PySem.W.callWith_K (h₀:=X.base) I.ok.mod.kin hk (ak (ha pos pins s σ H _ I h) fun us s1 ⟨vs,H1,I1,r,q⟩=>⟨I1.cL,?_⟩) he cW;have hl:(us++[]).length=ps.length:=by rw[ji,<-r.length];exact F.1 _ _ _ _ q
  have bt:=hb s1 us I1.cL hl;rw[ji]at bt;refine kc (oU (F.2 X.A X.stack s1 H1 ⟨us,[]⟩ us vs Q hr I1.t6 bt r q) fun r s' hq=>?_);cases r with |error e=>exact hq.elim |ok fl=>cases fl with |ret u=>exact I1.after hq |next=>exact hq.elim |brk=>exact hq.elim |cont=>exact hq.elim
end
end L2
namespace Lw
open PySem PySem.Spec PyProof.Rows L2
def top(i:Nat):Stmt:=PySem.Challenge.pw_glidequeue_k54_texts_of_no_items.main.body.getD i (.Pass ⟨0,0,0,0⟩)
section
variable {P:LI}{w:World}{K:LG}{mg:Str->Option Value}{base:Heap}
inductive Ad(vs:List V)(H:Hp)(Q:VK):Prop |mk (p:_)(many:_)(h0:vs=[.ref p,.int many])(h1:cH H p)(h2:1<=many)(h3:many<=10^40)(h4:∀d H',0<=d->d<many->aA p H H'->Q (.int d) H'):Ad vs H Q
def f7:Sp:=fun vs H Q _=>Ad vs H Q
abbrev pZ:Stmt:=top 36
theorem vL:aV ["_law_bag_here","_law_many","_law_digit","_law_number","_law_room"] ["_law_bag_here","_law_many"] (aJ pZ):=bz (by decide+kernel)
theorem EB(F:FA K mg "_law_take" pZ)(B:bc mg):au P w K mg base "_law_take" 1 f7:=by
 refine F.has vL (fun vs H Q E h=>?_) (fun _ _ _ _ _ _=>dm fun _ _=>rfl) (fun f ah A outer s H vs Q E hr h=>?_)
 · obtain⟨p,many,rfl,_⟩:=h
   rfl
 · obtain⟨p,many,rfl,⟨c,m,hp,ok⟩,h1,h2,k⟩:=h
   obtain⟨c0,m0,m1⟩:=id ok;have nd:=vL.nd;refine⟨_,(ai (aR (aO Eh (px K (pv 0) ae) ae (aP _)) (ai (pS 2 nd (az jz (px K (pv 0) ae) (pv 1))) (ai (ju (az wR (px K (pv 0) ae) (pv 1)) (qR (pv 0) ae set_list)) (ao (aF (pv 2))))) aU) (ai (pS 3 nd ae) (ai (pS 4 nd ae) (ai (DL kj (aO qW (pv 4) (pv 1) (aP _)) (ai (ju (az jz (az mW (az bX (az fg (px K (pv 0) ae) ae) ae) ae) ae) (qR (pv 0) ae set_list)) (ai (pS 3 nd (az bX (az fg (pv 3) ae) (az jz (az fg (az wR (px K (pv 0) ae) ae) ae) ae))) (ao (pS 4 nd (az fg (pv 4) ae)))))) (ao (aF (az jz (pv 3) (pv 1)))))))),?_⟩;refine⟨_,rfl,.inl ⟨p,_,0,.int c,rfl,rfl,aa.of hp,rfl,_,_,rfl,rfl,_,rfl,?_⟩⟩;refine bF (fun hc=>?_) (fun _=>?_)
   · refine⟨_,rfl,.inl ⟨p,_,0,.int c,rfl,rfl,aa.of hp,rfl,_,rfl,_,_,rfl,rfl,h1,?_⟩⟩
     refine⟨_,rfl,.inl ⟨p,_,0,.int c,rfl,rfl,aa.of hp,rfl,_,rfl,_,_,rfl,rfl,⟨h1,uI (by omega) h2⟩,?_⟩⟩;refine⟨_,rfl,p,_,0,0,rfl,rfl,hp,rfl,?_⟩;refine⟨_,rfl,?_⟩;exact k _ _ (pe _ (by omega)) (pg _ (by omega)) (aA.upd ⟨Int.ediv_nonneg c0 (by omega),m0,m1⟩)
   · refine BM (fun σ H2=>∃(v:Option V)(n r:Int),σ=[some (.ref p),some (.int many),v,some (.int n),some (.int r)]/\aA p H H2/\1<=r) (fun σ _=>match σ with|[_,_,_,_,some (.int r)]=>(many-r).toNat|_=>0) ?_ ?_ ?_
     ·exact⟨none,0,1,rfl,.refl ⟨c,m,hp,ok⟩,gY _⟩
     · rintro σ H2 ⟨v,n,r,rfl,bx,nN⟩
       obtain⟨c',m',nQ,K3,L6,L5⟩:=id bx.bag;refine⟨_,rfl,_,rfl,_,_,rfl,rfl,_,rfl,?_⟩;refine bF (fun hc=>?_) (fun hc=>?_)
       · have bp:r<many:=jh hc
         refine⟨_,rfl,.inl ⟨p,_,1,.int m',rfl,rfl,aa.of nQ,rfl,_,_,rfl,rfl,.of_right (dZ (by decide) (by decide)),_,_,rfl,rfl,_,_,rfl,rfl,⟨by decide,by decide,?_⟩,_,_,rfl,rfl,(by show(0:Int)<2147483629;decide),?_⟩⟩
         · have sL:(2:Nat)^64=18446744073709551616:=by decide
           rw[sL];omega
         refine⟨_,rfl,p,_,1,1,rfl,rfl,nQ,rfl,?_⟩;have g0:0<=((m'*48271+7919)^(3:Int).toNat)%2147483629:=pe _ (by decide);have g1:((m'*48271+7919)^(3:Int).toNat)%2147483629<2147483629:=pg _ (by decide);have K4:aA p H (L2.upd H2 p (.lst [.int c',.int (((m'*48271+7919)^(3:Int).toNat)%2147483629)])):=bx.trans (.upd ⟨K3,g0,Int.lt_trans g1 (by decide)⟩);refine⟨_,rfl,_,_,rfl,rfl,.of_right (dZ (by decide) (by decide)),_,rfl,.inl ⟨p,_,1,.int _,rfl,rfl,aa.of bR,rfl,_,_,rfl,rfl,⟨by decide,uI (by decide) (by decide)⟩,_,_,rfl,rfl,.of_right (dZ (by decide) (by decide)),_,_,rfl,rfl,(by show(0:Int)<1073741789;decide),_,_,rfl,rfl,?_⟩⟩;refine⟨_,rfl,_,_,rfl,rfl,.of_right (dZ (by decide) (by decide)),?_⟩;refine⟨⟨v,_,_,rfl,K4,?_⟩,?_⟩
         ·omega
         · show(many-r*1073741789).toNat<(many-r).toNat
           omega
       · refine⟨_,rfl,_,rfl,_,_,rfl,rfl,h1,?_⟩
         exact k _ _ (pe _ (by omega)) (pg _ (by omega)) bx
     · rintro σ H2 Q1 Q2 hq ⟨v1,e1,v2,e2,i,j,e3,e4,kk,e5,q⟩
       exact⟨v1,e1,v2,e2,i,j,e3,e4,kk,e5,hq _ _ q⟩
inductive Ay(K:LG)(vs:List V)(H:Hp)(Q:VK):Prop |mk (a:Addr)(ns:List Int)(at':Int)(h0:vs=[.ref a,.int at'])(h1:aa K H a (ns.map V.int))(h2:ns.length<=63)(h3:0<=at')(h4:at'<=100)(h5:∀p H',H p=none->cH H' p->af H H'->Q (.ref p) H'):Ay K vs H Q
def pP(K:LG):Sp:=fun vs H Q _=>Ay K vs H Q
abbrev qx:Stmt:=top 35
theorem wk:aV ["_law_script","_law_at","_law_cell","_law_mix","_law_k"] ["_law_script","_law_at"] (aJ qx):=bz (by decide+kernel)
theorem xW{ns:List Int}{j:Nat}(h:j<ns.length):∃z,cN (ns.map V.int) (j:Int)=some (.int z):=⟨ns[j],Kd (by simp[h])⟩
theorem EZ(F:FA K mg "_law_bag" qx)(B:bc mg):au P w K mg base "_law_bag" 1 (pP K):=by
 refine F.has wk (fun vs H Q E h=>?_) (fun _ _ _ _ _ _=>dm fun _ _=>rfl) (fun f ah A outer s H vs Q E hr h=>?_)
 · obtain⟨a,ns,at',rfl,_⟩:=h
   rfl
 · obtain⟨a,ns,at',rfl,hS,hlen,h0,h1,k⟩:=h
   obtain⟨j,rfl⟩:∃j:Nat,at'=(j:Int):=⟨at'.toNat,by omega⟩;have nd:=wk.nd;refine⟨_,(ai (pS 2 nd ae) (ai (gz (aR (aO qW (pv 1) (dg K B (a7 (pv 0) a8)) (aP _)) (ao (pS 2 nd (cm (x:="abs") K0 rfl (B.at "abs") PyProof.Rows.boot_abs (a7 (px K (pv 0) (pv 1)) a8)))) aU)) (ai (pS 3 nd (az bX (az bX (az fg (az fg ae (pv 1)) (pv 1)) (az fg ae (pv 1))) ae)) (ai (iI kj rfl (gA rfl (B.at "range") (a7 (cm (x:="min") (zu rfl) rfl (B.at "min") PyProof.Rows.boot_min (a7 (dg K B (a7 (pv 0) a8)) (a7 ae a8))) a8)) (bA 4 nd) (ao (pS 3 nd (az jz (az mW (az bX (az bX (az fg (pv 3) ae) (az jz (px K (pv 0) (pv 4)) ae)) (az fg (pv 4) (pv 4))) ae) ae)))) (ai (gz (aR (aO qW (pv 2) (az mW ae ae) (aP _)) (ao (pS 2 nd ae)) aU)) (ao (aF (cU (a7 (pv 2) (a7 (pv 3) a8)))))))))),?_⟩;refine⟨fun σ H'=>H'=H/\∃c:Int,σ=[some (.ref a),some (.int (j:Int)),some (.int c),none,none]/\0<=c,?_,?_⟩
   · refine⟨_,rfl,_,rfl,a,_,rfl,.inl hS,_,_,rfl,rfl,_,rfl,?_⟩
     refine bF (fun hc=>?_) (fun _=>?_)
     · have hj:(j:Int)<((ns.map V.int).length:Int):=jh hc
       rw[aE]at hj;obtain⟨z,hz⟩:=xW (ns:=ns) (j:=j) (by omega);refine⟨_,rfl,_,rfl,.inl ⟨a,_,_,_,rfl,rfl,hS,hz,z,rfl,?_⟩⟩;exact⟨rfl,_,rfl,by split<;>omega⟩
     ·exact⟨rfl,0,rfl,gY _⟩
   rintro σ H' ⟨rfl,c,rfl,c0⟩;refine⟨_,rfl,_,_,rfl,rfl,.of_left (dZ (by decide) (by decide)),_,rfl,_,_,rfl,rfl,.of_right (dZ (by omega) (by omega)),_,rfl,_,_,rfl,rfl,.of_left (dZ (by decide) (by decide)),_,_,rfl,rfl,_,_,rfl,rfl,?_⟩;refine⟨_,rfl,a,_,rfl,.inl hS,_,_,rfl,_,rfl,?_,?_,?_⟩
   ·split<;>omega
   ·split<;>(try rw[aE])<;>omega
   refine jN (Pv:=fun i σ H2=>H2=H'/\∃(m:Int)(v:Option V),σ=[some (.ref a),some (.int (j:Int)),some (.int c),some (.int m),v]/\0<=m/\m<2147483648) ?_ ?_ ?_
   · refine⟨rfl,_,none,rfl,?_,?_⟩
     · have:(0:Int)<=(j:Int)*(j:Int):=Int.mul_nonneg (by omega) (by omega)
       rw[Int.mul_assoc];omega
     · have:(j:Int)*(j:Int)<=100*100:=Int.mul_le_mul (by omega) (by omega) (by omega) (by omega)
       rw[Int.mul_assoc];omega
   · rintro i σ H2 hi ⟨rfl,m,v,rfl,m0,m1⟩
     have HL:i<ns.length:=by rw[aE]at hi;split at hi<;>omega
     obtain⟨z,hz⟩:=xW (ns:=ns) (j:=i) HL;rw[<-Int.zero_add (i:Int)]at hz;have fG:0<=z%2147483647:=pe _ (by decide);have GQ:z%2147483647<2147483647:=pg _ (by decide);have HH:(0:Int)<=(0+(i:Int))*(0+(i:Int)):=Int.mul_nonneg (by omega) (by omega);have HI:(0+(i:Int))*(0+(i:Int))<=100*100:=Int.mul_le_mul (by omega) (by omega) (by omega) (by omega);refine⟨_,rfl,_,_,rfl,rfl,.of_right (dZ (by decide) (by decide)),_,rfl,_,rfl,.inl ⟨a,_,_,_,rfl,rfl,hS,hz,_,_,rfl,rfl,(by show(0:Int)<2147483647;decide),_,_,rfl,rfl,_,rfl,_,rfl,_,_,rfl,rfl,.of_right (dZ (by omega) (by omega)),_,_,rfl,rfl,_,_,rfl,rfl,⟨by decide,by decide,?_⟩,_,_,rfl,rfl,(by show(0:Int)<2147483629;decide),?_⟩⟩
     · have sL:(2:Nat)^64=18446744073709551616:=by decide
       rw[sL];generalize(0+(i:Int))*(0+(i:Int))=ii at HH HI⊢;generalize z%2147483647=zz at fG GQ⊢;omega
     ·exact⟨rfl,_,_,rfl,pe _ (by decide),Int.lt_trans (pg _ (by decide)) (by decide)⟩
   · rintro σ H2 ⟨rfl,m,v,rfl,m0,m1⟩
     refine⟨fun σ H3=>H3=H2/\∃c:Int,σ=[some (.ref a),some (.int (j:Int)),some (.int c),some (.int m),v]/\0<=c,?_,?_⟩
     · refine⟨_,rfl,_,_,rfl,rfl,⟨by decide,by decide,by decide⟩,_,_,rfl,rfl,_,rfl,?_⟩
       refine bF (fun hc=>?_) (fun _=>?_)
       ·exact⟨rfl,0,rfl,gY _⟩
       ·exact⟨rfl,c,rfl,c0⟩
     rintro σ H3 ⟨rfl,c,rfl,c0⟩;refine⟨_,rfl,_,rfl,(by show 2<=sizeLine;decide),fun p H4 nw=>?_⟩;exact k p H4 nw.no ⟨c,m,nw.at',c0,m0,m1⟩ nw.same
def iV(T:String):Bool:=ck T "int"&& !ck T "bool"
inductive Av(K:LG)(vs:List V)(H:Hp)(Q:VK):Prop |mk (v:_)(T:_)(h0:vs=[v])(h1:jd K H v T)(h2:Q (.bl (iV T)) H):Av K vs H Q
def kK(K:LG):Sp:=fun vs H Q _=>Av K vs H Q
abbrev qi:Stmt:=top 37
theorem vV:aV ["_law_thing"] ["_law_thing"] (aJ qi):=bz (by decide+kernel)
abbrev qr:Stmt:=top 14
theorem wa:aV ["thing"] ["thing"] (aJ qr):=bz (by decide+kernel)
theorem ER(F:FA K mg "is_whole" qr)(B:bc mg):au P w K mg base "is_whole" 1 (kK K):=by
 refine F.has wa (fun vs H Q E h=>?_) (fun _ _ _ _ _ _=>gO fun _=>rfl) (fun f ah A outer s H vs Q E hr h=>?_)
 · obtain⟨v,T,rfl,_⟩:=h
   rfl
 · obtain⟨v,T,rfl,ty,k⟩:=h
   have nd:=wa.nd;refine⟨_,(ao (aF (jw (fC K B (a7 (pv 0) (a7 (fe (x:="int") (v:=.ty "int") rfl (B.at "int") oX rfl) a8))) (kP (wI (fC K B (a7 (pv 0) (a7 (fe (x:="bool") (v:=.ty "bool") rfl (B.at "bool") PyProof.Rows.boot_bool rfl) a8)))))))),?_⟩;refine⟨_,rfl,.inl ⟨_,T,"int",_,rfl,ty,by decide,rfl,_,rfl,?_⟩⟩;unfold iV at k;refine bF (fun hc=>?_) (fun hc=>?_)
   · refine⟨_,rfl,.inl ⟨_,T,"bool",_,rfl,ty,by decide,rfl,_,rfl,?_⟩⟩
     rw[hc,cj]at k;exact k
   · rw[f6.mpr hc,cz]at k
     exact k
open Ln
def i5(ns:List Int)(sp:Int):LJ:=.tuple [.str "line",.tuple (ns.map PyData.int),.int sp]
structure zS(ax:Nat)(m:Int)(ns:List Int):Prop where
 len:ns.length=ax
 bd:∀z∈ns,(z.natAbs:Int)<=m
 nz:∃z∈ns,z≠0
open Rt
def nB(rs:List Int)(r f j t:Int):LJ:=.tuple [.tuple (rs.map PyData.int),.int r,.int f,.int j,.int t]
theorem FZ(rs:List Int)(r f j t:Int):dC (nB rs r f j t)=true:=by simp[nB,dC,bB,Fy]
theorem FY{H:Hp}{v:V}{rs:List Int}{r f j t:Int}(h:RD K H v (nB rs r f j t)):∃a b,v= .ref a/\ay K H a [.ref b,.int r,.int f,.int j,.int t]/\ay K H b (rs.map V.int):=by obtain⟨a,xs,rfl,h1,h2⟩:=h.cR;obtain⟨x1,r1,rfl,e1,h2⟩:=h2.cons_inv;obtain⟨x2,r2,rfl,e2,h2⟩:=h2.cons_inv;obtain⟨x3,r3,rfl,e3,h2⟩:=h2.cons_inv;obtain⟨x4,r4,rfl,e4,h2⟩:=h2.cons_inv;obtain⟨x5,r5,rfl,e5,h2⟩:=h2.cons_inv;cases h2.nil_inv;cases e2.int_inv;cases e3.int_inv;cases e4.int_inv;cases e5.int_inv;obtain⟨b,ys,rfl,h3,h4⟩:=e1.cR;rw[h4.nJ]at h3;exact⟨a,b,rfl,h1,h3⟩
structure Ku(rs:List Int)(r f j t:Int):Prop where
 len:rs.length=2\/rs.length=3
 rl:∀z∈rs,1<=z/\z<=100
 r1:1<=r/\r<=50
 f1:1<=f/\f<=50
 j1:1<=j/\j<=50
 t1:1<=t/\t<=100
inductive An(K:LG)(vs:List V)(H:Hp)(Q:VK):Prop |mk (p:_)(h0:vs=[.ref p])(h1:cH H p)(h2:∀v rs r f j t H',RD K H' v (nB rs r f j t)->Ku rs r f j t->aA p H H'->Q v H'):An K vs H Q
def pK(K:LG):Sp:=fun vs H Q _=>An K vs H Q
abbrev Itm:=Option (List Int × Int)
def itR(d:LJ)(o:Itm):Prop:=(∃ns sp,d=i5 ns sp/\o=some (ns,sp))\/∃w x,d= .tuple [.str w,x]/\(w="wait"\/w="tool"\/w="mark")/\dC x=true/\o=none
theorem rQ{d:LJ}{ns:List Int}{sp:Int}(h:itR d (some (ns,sp))):d=i5 ns sp:=by
 rcases h with⟨KR,KL,e1,e2⟩|⟨_,_,_,_,_,e2⟩
 ·cases e2;exact e1
 ·cases e2
theorem mG{H:Hp}:∀{xs:List V}{zs:List Str},aj K H xs (zs.map PyData.str)->xs=zs.map V.str |xs,[],h=>h.nil_inv |xs,n::ns,h=>by obtain⟨y,ys,rfl,h1,h2⟩:=h.cons_inv;rw[h1.str_inv,mG h2];rfl
def dG:Str:="abcdefghijklmnopqrstuvwxyz"
theorem Km:dG.cps.toList.length=26:=by decide+kernel
theorem zH{α:Type}{xs:List α}{x:α}(h:xs.getLast? =some x):cN xs (-1)=some x:=by
 unfold cN gc;have hl:xs≠[]:=by intro e;rw[e]at h;cases h
 have h0:0<xs.length:=uu.mpr hl;rw[aC (by decide),aI (by omega)];rw[List.getLast?_eq_getElem?]at h;show xs[((-1:Int)+(xs.length:Int)).toNat]? =some x;have e:((-1:Int)+(xs.length:Int)).toNat=xs.length-1:=by omega
 rw[e];exact h
theorem mq:ck "tuple" "tuple"=true:=by decide
theorem BL(d:LJ):(∃i,d= .int i/\iV (de d)=true)\/(iV (de d)=false/\∀i,d≠ .int i):=by cases d with |int i=>exact .inl ⟨i,rfl,by simp[de];decide⟩ |_=>exact .inr ⟨by simp[de];decide,fun _ z=>nomatch z⟩
theorem uQ(d:LJ):(∃ds,d= .tuple ds)\/(ck (de d) "tuple"=false/\∀ds,d≠ .tuple ds):=by cases d with |tuple ds=>exact .inl ⟨ds,rfl⟩ |_=>exact .inr ⟨by simp[de];decide,fun _ z=>nomatch z⟩
def bG(lo hi:Int):LJ->Bool | .int i=>decide (lo<=i)&&decide (i<=hi) |_=>false
theorem GH{lo hi:Int}{d:LJ}(h:∀i,d≠ .int i):bG lo hi d=false:=by cases d<;>first|rfl|exact absurd rfl (h _)
inductive A8(K:LG)(vs:List V)(H:Hp)(Q:VK):Prop |mk (v:_)(d:_)(lo:_)(hi:_)(h0:vs=[v,.int lo,.int hi])(h1:RD K H v d)(h2:Q (.bl (bG lo hi d)) H):A8 K vs H Q
def kJ(K:LG):Sp:=fun vs H Q _=>A8 K vs H Q
abbrev pV:Stmt:=top 15
theorem vH:aV ["thing","low","high"] ["thing","low","high"] (aJ pV):=bz (by decide+kernel)
theorem Et(F:FA K mg "is_whole_within" pV)(B:bc mg)(HC:au P w K mg base "is_whole" 1 (kK K)):au P w K mg base "is_whole_within" 2 (kJ K):=by
 refine F.has vH (fun vs H Q E h=>?_) (fun _ _ _ _ _ _=>zL fun _ _ _=>rfl) (fun f ah A outer s H vs Q E hr h=>?_)
 · obtain⟨v,d,lo,hi,rfl,_⟩:=h
   rfl
 · obtain⟨v,d,lo,hi,rfl,rd,k⟩:=h
   have nd:=vH.nd;refine⟨_,(ao (aF (jw (pf HC hr (a7 (pv 0) a8)) (kP (E6 g9 g9 (pv 1) (pv 0) (pv 2)))))),?_⟩;refine⟨_,rfl,_,_,rfl,rd.ty,_,rfl,?_⟩;rcases BL d with⟨i,rfl,e⟩|⟨e,hn⟩
   · cases rd.int_inv
     rw[e];refine aK ?_;have k:Q (.bl (decide (lo<=i)&&decide (i<=hi))) H:=k;refine⟨_,rfl,_,rfl,_,_,rfl,rfl,_,rfl,?_⟩;refine bF (fun hc=>?_) (fun hc=>?_)
     · have eQ:decide (lo<=i)=true:=hc
       rw[eQ,cj]at k;exact⟨_,rfl,_,_,rfl,rfl,k⟩
     · have eQ:decide (lo<=i)=false:=f6.mpr hc
       rw[eQ,cz]at k;exact k
   · rw[e]
     refine aB ?_;rw[GH hn]at k;exact k
open Cn
open Pn
open Wk
theorem FX{H:Hp}{v:V}{rs:List Int}{es:List LJ}(h:RD K H v (.tuple (.tuple (rs.map PyData.int)::es))):∃a b ys,v= .ref a/\ay K H a (.ref b::ys)/\ay K H b (rs.map V.int):=by obtain⟨a,xs,rfl,h1,h2⟩:=h.cR;obtain⟨x1,r1,rfl,e1,h2⟩:=h2.cons_inv;obtain⟨b,ys,rfl,h3,h4⟩:=e1.cR;rw[h4.nJ]at h3;exact⟨a,b,r1,rfl,h1,h3⟩
def bT(z:Str):LJ->Bool | .str x=>x==z |_=>false
theorem oj(z:Str)(d:LJ):PyData.eqv d (.str z)=bT z d:=by cases d<;>simp[PyData.eqv,bT]
theorem oh(z:Str)(d:LJ):PyData.eqv (.str z) d=bT z d:=by cases d<;>simp[PyData.eqv,bT];rw[dy];simp;exact eq_comm
theorem CJ(d:LJ):(∃z,d= .str z)\/(ck (de d) "str"=false/\∀z,d≠ .str z):=by cases d with |str z=>exact .inl ⟨z,rfl⟩ |_=>exact .inr ⟨by simp[de];decide,fun _ z=>nomatch z⟩
theorem pC:ck "str" "str"=true:=by decide
def lh(d:LJ):Bool:=bT "up" d||bT "down" d
def eN(c:Nat):Bool:=decide (97<=c)&&decide (c<=122)
def isNm:LJ->Bool | .str x=>(decide (1<=x.length)&&decide (x.length<=8))&&x.cps.toList.all eN |_=>false
def fE(wd v:LJ):Bool:=if bT "wait" wd then bG 1 1000 v else if bT "tool" wd then lh v else bT "mark" wd&&isNm v
def hX:LJ->Bool | .int i=>i !=0 |_=>true
def gC(n:Nat):LJ->Bool | .tuple ds=>(ds.length==n&&ds.all (bG (-100) 100))&&ds.any hX |_=>false
def dE(n:Nat):LJ->Bool | .tuple [wd,a,b]=>bT "line" wd&&(gC n a&&bG 1 20 b) | .tuple [wd,v]=>fE wd v |_=>false
def eu:LJ->Bool | .str x=>decide (x.length<=900) |_=>true
def mO:LJ->Bool | .tuple ds=>ds.all eu |_=>true
inductive Ab(f:LJ->Bool)(K:LG)(vs:List V)(H:Hp)(Q:VK):Prop |mk (v:_)(d:_)(h0:vs=[v])(h1:RD K H v d)(h2:eu d=true)(h3:∀H',af H H'->Q (.bl (f d)) H'):Ab f K vs H Q
def vm(f:LJ->Bool)(K:LG):Sp:=fun vs H Q _=>Ab f K vs H Q
theorem CV{z:Str}(h:eu (.str z)=true):z.length<=900:=jh h
theorem nA(n:Nat):decide ((1:Int)<=(n:Int))=decide (1<=n):=by rw[dy];simp;omega
theorem xu(n:Nat):decide ((n:Int)<=8)=decide (n<=8):=by rw[dy];simp;omega
theorem zK{l:List Nat}{f:Nat->Bool}:(l.map f).all id=l.all f:=by rw[List.all_map];rfl
theorem Kl:∀c<128,decide (c∈dG.cps.toList)=eN c:=by decide+kernel
theorem Ko:∀c∈dG.cps.toList,c<128:=by decide+kernel
theorem Kn(c:Nat):decide (c∈dG.cps.toList)=eN c:=by
 by_cases h:c<128
 ·exact Kl c h
 ·rw[bu (fun hc=>h (Ko c hc)),eN,bu (show¬c<=122 by omega),kr]
abbrev qu:Stmt:=top 26
theorem we:aV ["thing"] ["thing"] (aJ qu):=bz (by decide+kernel)
theorem EW(F:FA K mg "is_name" qu)(B:bc mg)(IA:GV mg "LONGEST_NAME" (.int 8))(IB:GV mg "LETTERS" (.str dG)):au P w K mg base "is_name" 1 (vm isNm K):=by
 refine F.has we (fun vs H Q E h=>?_) (fun _ _ _ _ _ _=>gO fun _=>rfl) (fun f ah A outer s H vs Q E hr h=>?_)
 · obtain⟨v,d,rfl,_⟩:=h
   rfl
 · obtain⟨v,d,rfl,rd,sh,k⟩:=h
   have nd:=we.nd;refine⟨_,(ai (aR (PW.pt (fB (eE (dS (fC K B (a7 (pv 0) (a7 (fe (x:="str") (v:=.ty "str") rfl (B.at "str") m9 rfl) a8))))) (gy (eE (kO g9 g9 ae (cm (x:="len") jU rfl (B.at "len") kf (a7 (pv 0) a8)) (cD (x:="LONGEST_NAME") rfl IA)))))) (ao (aF hV)) aU) (ao (aF (cm (x:="all") (tP K rfl rfl) rfl (B.at "all") Bs (a7 (fc (N:=["letter"]) (js:=[none]) rfl rfl rfl (mT (pv 0)) (fun _ _ _ _ _=>(bA 0 (gD _))) (fun _ _ _ _ _=>eL) (fun _ _ _ _ _=>(hU wQ (pv 0) (cD (x:="LETTERS") rfl IB) (by with_unfolding_all rfl)))) a8))))),?_⟩;rcases CJ d with⟨z,rfl⟩|⟨ht,hn⟩
   · refine⟨_,rfl,.inl ⟨_,_,"str",true,rfl,rd.ty,by decide,pC,_,rfl,aB ?_⟩⟩
     cases rd.str_inv;have hl:=CV sh;have k:∀H',af H H'->Q (.bl ((decide (1<=z.length)&&decide (z.length<=8))&&z.cps.toList.all eN)) H':=k;refine⟨_,rfl,z,rfl,bL hl (by decide),_,_,rfl,rfl,_,rfl,?_⟩;refine bF (fun h1=>?_) (fun h1=>?_)
     · rw[<-nA,show decide ((1:Int)<=(z.length:Int))=true from h1,cj]at k
       refine⟨_,_,rfl,rfl,_,rfl,?_⟩;rw[xu];cases e8:decide (z.length<=8)with |false=>rw[e8,cz]at k;exact aK (k H (af.refl _)) |true=>
         rw[e8,cj]at k;refine aB ⟨_,rfl,z,rfl,fun D H0 nw=>?_⟩;refine tj (f:=eN) [] nw (by omega) (fun c H2 Q' hc s2 hq=>?_) (fun H2 s2 d2=>?_)
         · refine⟨_,rfl,c,dG,rfl,rfl,?_⟩
           rw[Kn];exact hq _ (af.refl _)
         · refine⟨D,_,rfl,aa.of d2,?_⟩
           rw[zK];exact k H2 s2
     · rw[<-nA,show decide ((1:Int)<=(z.length:Int))=false from f6.mpr h1,cz,cz]at k
       exact⟨_,rfl,aK (k H (af.refl _))⟩
   · have e:isNm d=false:=by cases d<;>first|rfl|exact absurd rfl (hn _)
     rw[e]at k;refine⟨_,rfl,.inl ⟨_,_,"str",false,rfl,rd.ty,by decide,ht,_,rfl,aK ?_⟩⟩;exact k H (af.refl _)
inductive Af(K:LG)(vs:List V)(H:Hp)(Q:VK):Prop |mk (x:_)(v:_)(wd:_)(d:_)(h0:vs=[x,v])(h1:RD K H x wd)(h2:RD K H v d)(h3:aX 8 wd)(h4:aX 8 d)(h5:eu d=true)(h6:∀H',af H H'->Q (.bl (fE wd d)) H'):Af K vs H Q
def vo(K:LG):Sp:=fun vs H Q _=>Af K vs H Q
theorem hR{d:LJ}(h:aX 8 d):SeqAt.shaped d=true:=h.shaped (by decide)
abbrev qs:Stmt:=top 25
theorem wb:aV ["word","value"] ["word","value"] (aJ qs):=bz (by decide+kernel)
theorem EU(F:FA K mg "is_short_item" qs)(B:bc mg)(Iz:GV mg "LONGEST_WAIT" (.int 1000))(gS:GT K mg "SIDES" [.str "up",.str "down"])(lJ:au P w K mg base "is_whole_within" 2 (kJ K))(HE:au P w K mg base "is_name" 1 (vm isNm K)):au P w K mg base "is_short_item" 3 (vo K):=by
 refine F.has wb (fun vs H Q E h=>?_) (fun _ _ _ _ _ _=>dm fun _ _=>rfl) (fun f ah A outer s H vs Q E hr h=>?_)
 · obtain⟨x,v,wd,d,rfl,_⟩:=h
   rfl
 · obtain⟨x,v,wd,d,rfl,qA,rd,iP,okd,sh,k⟩:=h
   have nd:=wb.nd;obtain⟨aS,Ij,CL⟩:=gS;refine⟨_,(ai (aR (aO (eR K rfl hr.units) (pv 0) aw (aP _)) (ao (aF (pf lJ hr (a7 (pv 1) (a7 ae (a7 (cD (x:="LONGEST_WAIT") rfl Iz) a8)))))) aU) (ai (aR (aO (eR K rfl hr.units) (pv 0) aw (aP _)) (ao (aF (hU (GJ K rfl (hr.pA)) (pv 1) (cD (x:="SIDES") rfl Ij) (by with_unfolding_all rfl)))) aU) (ao (aF (jw (hU (eR K rfl hr.units) (pv 0) aw (aP _)) (kP (pf HE hr (a7 (pv 1) a8)))))))),?_⟩;have k:∀H',af H H'->Q (.bl (if bT "wait" wd then bG 1 1000 d else if bT "tool" wd then lh d else bT "mark" wd&&isNm d)) H':=k;refine⟨_,rfl,.inr ⟨_,_,qA,bb _,hR iP,by decide+kernel,_,rfl,?_⟩⟩;rw[oj];cases e1:bT "wait" wd with |true=>rw[e1,aI rfl]at k;exact aK ⟨_,rfl,_,d,1,1000,rfl,rd,k H (af.refl _)⟩ |false=>rw[e1,aC aZ]at k;refine aB ⟨_,rfl,.inr ⟨_,_,qA,bb _,hR iP,by decide+kernel,_,rfl,?_⟩⟩;rw[oj];cases e2:bT "tool" wd with
     |true=>
       rw[e2,aI rfl]at k;refine aK ⟨_,rfl,aS,_,d,[.str "up",.str "down"],rfl,CL H,rd,bS (bb _) (bS (bb _) cS),hR okd,?_,?_⟩
       · intro e he
         rcases aW.mp he with rfl|he
         ·decide+kernel
         rcases aW.mp he with rfl|he
         ·decide+kernel
         ·exact(cP he).elim
       · have e:([.str "up",.str "down"]:List LJ).any (fun e=>PyData.eqv e d)=lh d:=by rw[gX,gX,List.any_nil,oh,oh,Bool.or_false];rfl
         rw[e];exact k H (af.refl _) |false=>rw[e2,aC aZ]at k;refine aB ⟨_,rfl,.inr ⟨_,_,qA,bb _,hR iP,by decide+kernel,_,rfl,?_⟩⟩;rw[oj];cases e3:bT "mark" wd with |true=>rw[e3,cj]at k;exact aK ⟨_,rfl,_,d,rfl,rd,sh,k⟩ |false=>rw[e3,cz]at k;exact aB (k H (af.refl _))
theorem Fi(i:Int):(!decide (i=0))=(i !=0):=by rw[dy];simp
theorem GI{lo hi:Int}{d:LJ}(h:bG lo hi d=true):∃i,d= .int i:=by cases d<;>simp[bG]at h;exact⟨_,rfl⟩
theorem any_map'{ds:List LJ}{f:LJ->Bool}:(ds.map f).any id=ds.any f:=by rw[p9];rfl
inductive Ae(K:LG)(vs:List V)(H:Hp)(Q:VK):Prop |mk (m:V)(v:V)(rs:List Int)(es:List LJ)(d:LJ)(h0:vs=[m,v])(h1:RD K H m ((.tuple (.tuple (rs.map PyData.int)::es))))(h2:RD K H v d)(h3:rs.length<=3)(h4:∀H',af H H'->Q (.bl (gC rs.length d)) H'):Ae K vs H Q
def vn(K:LG):Sp:=fun vs H Q _=>Ae K vs H Q
abbrev qy:Stmt:=top 24
theorem wm:aV ["machine","thing","rails"] ["machine","thing"] (aJ qy):=bz (by decide+kernel)
theorem F1(F:FA K mg "are_steps" qy)(B:bc mg)(yn:GV mg "MOST_STEPS" (.int 100))(lJ:au P w K mg base "is_whole_within" 2 (kJ K)):au P w K mg base "are_steps" 3 (vn K):=by
 refine F.has wm (fun vs H Q E h=>?_) (fun _ _ _ _ _ _=>dm fun _ _=>rfl) (fun f ah A outer s H vs Q E hr h=>?_)
 · obtain⟨m,v,rs,es,d,rfl,_⟩:=h
   rfl
 · obtain⟨m,v,rs,es,d,rfl,rm,rd,l3,k⟩:=h
   have nd:=wm.nd;refine⟨_,(ai (pS 2 nd (px K (pv 0) ae)) (ai (aR (PW.pt (fB (eE (dS (fC K B (a7 (pv 1) (a7 (fe (x:="tuple") (v:=.ty "tuple") rfl (B.at "tuple") gu rfl) a8))))) (gy (aO (nv K rfl hr.units) (dg K B (a7 (pv 1) a8)) (dg K B (a7 (pv 2) a8)) (aP _))))) (ao (aF hV)) aU) (ai (aR (eE (dS (cm (x:="all") (tP K rfl rfl) rfl (B.at "all") Bs (a7 (fc (N:=["step"]) (js:=[none]) rfl rfl rfl (qP K rfl (pv 1)) (fun _ _ _ _ _=>(bA 0 (gD _))) (fun _ _ _ _ _=>eL) (fun _ _ _ _ _=>(pf lJ hr (a7 (pv 0) (a7 (iK iA (cD (x:="MOST_STEPS") rfl yn)) (a7 (cD (x:="MOST_STEPS") rfl yn) a8)))))) a8)))) (ao (aF hV)) aU) (ao (aF (cm (x:="any") (zI K rfl rfl) rfl (B.at "any") uh (a7 (fc (N:=["step"]) (js:=[none]) rfl rfl rfl (qP K rfl (pv 1)) (fun _ _ _ _ _=>(bA 0 (gD _))) (fun _ _ _ _ _=>eL) (fun _ _ _ _ _=>(hU (nv K rfl hr.units) (pv 0) ae (aP _)))) a8))))))),?_⟩;obtain⟨am,ar,ym,rfl,hm,Ig⟩:=FX rm;refine⟨_,rfl,.inr ⟨am,_,0,_,rfl,rfl,hm,d9 (gY 0) rfl,?_⟩⟩;rcases uQ d with⟨ds,rfl⟩|⟨ht,hn⟩
   · refine⟨_,rfl,.inl ⟨_,_,"tuple",true,rfl,rd.ty,by decide,mq,_,rfl,aB ?_⟩⟩
     obtain⟨av,xs,rfl,hx,hd⟩:=rd.cR;have hl:=hd.length;refine⟨_,rfl,av,_,rfl,.inr hx,_,rfl,ar,_,rfl,.inr Ig,.inl ⟨_,_,rfl,rfl,_,rfl,?_⟩⟩;have k:∀H',af H H'->Q (.bl ((ds.length==rs.length&&ds.all (bG (-100) 100))&&ds.any hX)) H':=k;have e0:(!decide ((xs.length:Int)=((rs.map V.int).length:Int)))= !(ds.length==rs.length):=by rw[hl,aE];congr 1;rw[dy];simp;omega
     rw[e0];cases e:(ds.length==rs.length)with |false=>rw[e,cz,cz]at k;exact aK (k H (af.refl _)) |true=>
       rw[e,cj]at k;refine aB ?_;have el:ds.length=rs.length:=cq.mp e;refine⟨_,rfl,av,rfl,⟨_,hx⟩,fun D H0 nw=>?_⟩;refine zh (xs:=xs) (bs:=ds.map (bG (-100) 100)) [] hx nw (by rw[aE,hl]) (by omega) ?_ ?_
       · intro i x b H2 Q' ex eb s2 hq
         obtain⟨d,ed,rfl⟩:=xD eb;obtain⟨x',jQ,rx⟩:=hd.get i ed;rw[ex]at jQ;cases jQ;exact⟨_,rfl,_,rfl,_,d,-100,100,rfl,RD.mono s2 _ rx,hq _ (af.refl _)⟩
       · intro H2 s2 d2
         refine⟨D,_,rfl,aa.of d2,_,rfl,?_⟩;rw[all_map];cases e1:ds.all (bG (-100) 100)with |false=>rw[e1,cz]at k;exact aK (k H2 s2) |true=>
           rw[e1,cj]at k;refine aB ⟨_,rfl,av,rfl,⟨_,hx.go s2⟩,fun D2 H3 n3=>?_⟩;refine zh (xs:=xs) (bs:=ds.map hX) [] (hx.go s2) n3 (by rw[aE,hl]) (by omega) ?_ ?_
           · intro i x b H4 Q' ex eb s4 hq
             obtain⟨d,ed,rfl⟩:=xD eb;obtain⟨x',jQ,rx⟩:=hd.get i ed;rw[ex]at jQ;cases jQ;obtain⟨z,rfl⟩:=GI (bU.mp e1 d (fq ed));cases rx.int_inv;refine⟨_,rfl,.inl ⟨_,_,rfl,rfl,?_⟩⟩;show Q' (.bl (!decide (z=0))) H4;rw[Fi];exact hq _ (af.refl _)
           · intro H4 s4 d4
             refine⟨D2,_,rfl,aa.of d4,?_⟩;rw[any_map'];exact k H4 (s2.trans s4)
   · have e:gC rs.length d=false:=by cases d<;>first|rfl|exact absurd rfl (hn _)
     rw[e]at k;refine⟨_,rfl,.inl ⟨_,_,"tuple",false,rfl,rd.ty,by decide,ht,_,rfl,aK ?_⟩⟩;exact k H (af.refl _)
theorem item_cases(n:Nat)(d:LJ):(∃wd a b,d= .tuple [wd,a,b])\/(∃wd v,d= .tuple [wd,v])\/(∃ds,d= .tuple ds/\ds.length≠3/\ds.length≠2/\dE n d=false)\/(ck (de d) "tuple"=false/\dE n d=false):=by
 rcases uQ d with⟨ds,rfl⟩|⟨ht,hn⟩
 ·match ds with |[r,a,b]=>exact .inl ⟨r,a,b,rfl⟩ |[r,a]=>exact .inr (.inl ⟨r,a,rfl⟩) |[]=>exact .inr (.inr (.inl ⟨_,rfl,by simp,by simp,by simp[dE]⟩)) |[_]=>exact .inr (.inr (.inl ⟨_,rfl,by simp,by simp,by simp[dE]⟩)) |_::_::_::_::_=>exact .inr (.inr (.inl ⟨_,rfl,by simp,by simp,by simp[dE]⟩))
 ·exact .inr (.inr (.inr ⟨ht,by cases d<;>first|rfl|exact absurd rfl (hn _)⟩))
inductive As(K:LG)(vs:List V)(H:Hp)(Q:VK):Prop |mk (m:V)(v:V)(rs:List Int)(es:List LJ)(d:LJ)(h0:vs=[m,v])(h1:RD K H m ((.tuple (.tuple (rs.map PyData.int)::es))))(h2:RD K H v d)(h3:rs.length<=3)(h4:aX 8 d)(h5:mO d=true)(h6:∀H',af H H'->Q (.bl (dE rs.length d)) H'):As K vs H Q
def pM(K:LG):Sp:=fun vs H Q _=>As K vs H Q
theorem kU{ds:List LJ}(h:aX 8 (.tuple ds)){d:LJ}(hd:d∈ds):aX 8 d:=((aX.cR (n:=7) h) d hd).le (by decide)
theorem CW{ds:List LJ}(h:mO (.tuple ds)=true){d:LJ}(hd:d∈ds):eu d=true:=bU.mp (show ds.all eu=true from h) d hd
abbrev qv:Stmt:=top 23
theorem wg:aV ["machine","thing","word","steps","speed","value"] ["machine","thing"] (aJ qv):=bz (by decide+kernel)
theorem EX(F:FA K mg "is_item" qv)(B:bc mg)(IC:GV mg "GREATEST_SPEED" (.int 20))(lJ:au P w K mg base "is_whole_within" 2 (kJ K))(Ie:au P w K mg base "are_steps" 3 (vn K))(HD:au P w K mg base "is_short_item" 3 (vo K)):au P w K mg base "is_item" 4 (pM K):=by
 refine F.has wg (fun vs H Q E h=>?_) (fun _ _ _ _ _ _=>dm fun _ _=>rfl) (fun f ah A outer s H vs Q E hr h=>?_)
 · obtain⟨m,v,rs,es,d,rfl,_⟩:=h
   rfl
 · obtain⟨m,v,rs,es,d,rfl,rm,rd,l3,okd,sh,k⟩:=h
   have nd:=wg.nd;refine⟨_,(ai (aR (eE (dS (fC K B (a7 (pv 1) (a7 (fe (x:="tuple") (v:=.ty "tuple") rfl (B.at "tuple") gu rfl) a8))))) (ao (aF hV)) aU) (ai (aR (aO (eR K rfl hr.units) (dg K B (a7 (pv 1) a8)) ae (aP _)) (ai (ju (pv 1) (qS K rfl (n:=3) rfl (iJ (bA 2 nd) (iJ (bA 3 nd) (iJ (bA 4 nd) qQ))))) (ao (aF (jw (hU (eR K rfl hr.units) (pv 2) aw (aP _)) (jw (pf Ie hr (a7 (pv 0) (a7 (pv 3) a8))) (kP (pf lJ hr (a7 (pv 4) (a7 ae (a7 (cD (x:="GREATEST_SPEED") rfl IC) a8)))))))))) aU) (ai (aR (aO (eR K rfl hr.units) (dg K B (a7 (pv 1) a8)) ae (aP _)) (ai (ju (pv 1) (qS K rfl (n:=2) rfl (iJ (bA 2 nd) (iJ (bA 5 nd) qQ)))) (ao (aF (pf HD hr (a7 (pv 2) (a7 (pv 5) a8)))))) aU) (ao (aF hV))))),?_⟩;rcases item_cases rs.length d with⟨wd,a,b,rfl⟩|⟨wd,a,rfl⟩|⟨ds,rfl,h3,h2,hf⟩|⟨ht,hf⟩
   · refine⟨_,rfl,.inl ⟨_,_,"tuple",true,rfl,rd.ty,by decide,mq,_,rfl,aB ?_⟩⟩
     obtain⟨p,xs,rfl,hx,hd⟩:=rd.cR;obtain⟨u1,ys,rfl,r1,hd⟩:=hd.cons_inv;obtain⟨u2,ys,rfl,r2,hd⟩:=hd.cons_inv;obtain⟨u3,ys,rfl,r3,hd⟩:=hd.cons_inv;cases hd.nil_inv;have k:∀H',af H H'->Q (.bl (bT "line" wd&&(gC rs.length a&&bG 1 20 b))) H':=k;refine⟨_,rfl,p,_,rfl,.inr hx,.inl ⟨_,_,rfl,rfl,_,rfl,aK ?_⟩⟩;refine⟨_,rfl,p,_,rfl,hx,rfl,_,_,rfl,_,_,rfl,_,_,rfl,rfl,?_⟩;refine⟨_,rfl,.inr ⟨_,_,r1,bb _,hR (kU okd (by simp)),by decide+kernel,_,rfl,?_⟩⟩;rw[oj];cases e1:bT "line" wd with |false=>rw[e1,cz]at k;exact aB (k H (af.refl _)) |true=>rw[e1,cj]at k;refine aK ⟨_,rfl,_,rfl,_,_,rs,es,a,rfl,rm,r2,l3,fun H1 s1=>⟨_,rfl,?_⟩⟩;cases e2:gC rs.length a with |false=>rw[e2,cz]at k;exact aB (k H1 s1) |true=>rw[e2,cj]at k;exact aK ⟨_,rfl,_,b,1,20,rfl,RD.mono s1 _ r3,k H1 s1⟩
   · refine⟨_,rfl,.inl ⟨_,_,"tuple",true,rfl,rd.ty,by decide,mq,_,rfl,aB ?_⟩⟩
     obtain⟨p,xs,rfl,hx,hd⟩:=rd.cR;obtain⟨u1,ys,rfl,r1,hd⟩:=hd.cons_inv;obtain⟨u2,ys,rfl,r2,hd⟩:=hd.cons_inv;cases hd.nil_inv;have k:∀H',af H H'->Q (.bl (fE wd a)) H':=k;refine⟨_,rfl,p,_,rfl,.inr hx,.inl ⟨_,_,rfl,rfl,_,rfl,aB ?_⟩⟩;refine⟨_,rfl,p,_,rfl,.inr hx,.inl ⟨_,_,rfl,rfl,_,rfl,aK ?_⟩⟩;refine⟨_,rfl,p,_,rfl,hx,rfl,_,_,rfl,_,_,rfl,rfl,?_⟩;exact⟨_,rfl,_,rfl,_,_,wd,a,rfl,r1,r2,kU okd (by simp),kU okd (by simp),CW sh (by simp),k⟩
   · rw[hf]at k
     refine⟨_,rfl,.inl ⟨_,_,"tuple",true,rfl,rd.ty,by decide,mq,_,rfl,aB ?_⟩⟩;obtain⟨p,xs,rfl,hx,hd⟩:=rd.cR;have hl:=hd.length;refine⟨_,rfl,p,_,rfl,.inr hx,.inl ⟨_,_,rfl,rfl,_,rfl,?_⟩⟩;rw[show decide ((xs.length:Int)=3)=false from bu (by omega)];refine aB ⟨_,rfl,p,_,rfl,.inr hx,.inl ⟨_,_,rfl,rfl,_,rfl,?_⟩⟩;rw[show decide ((xs.length:Int)=2)=false from bu (by omega)];exact aB (k H (af.refl _))
   · rw[hf]at k
     refine⟨_,rfl,.inl ⟨_,_,"tuple",false,rfl,rd.ty,by decide,ht,_,rfl,aK ?_⟩⟩;exact k H (af.refl _)
end
end Lw
namespace Lw
open PySem PySem.Spec PyProof.Rows L2 Ln Wk
open Tm (numS numIn? figs isFig Free)
section
variable {P:LI}{w:World}{K:LG}{mg:Str->Option Value}{base:Heap}
def oV:Option Int->V |some i=>.int i |none=>.aq
def oD:Option Int->LJ |some i=>.int i |none=>.none
def j8:Str:="0123456789"
theorem Jh:∀c<128,decide (c∈j8.cps.toList)=isFig c:=by decide+kernel
theorem Ji:∀c∈j8.cps.toList,c<128:=by decide+kernel
theorem yO(c:Nat):decide (c∈j8.cps.toList)=isFig c:=by
 by_cases h:c<128
 ·exact Jh c h
 ·rw[bu (fun hc=>h (Ji c hc)),isFig,bu (show¬c<=57 by omega),kr]
inductive Ak(vs:List V)(H:Hp)(Q:VK):Prop |mk (z:Str)(h0:vs=[.str z])(h1:z.length<=640)(h2:∀H',af H H'->Q (oV (numIn? z)) H'):Ak vs H Q
def mK:Sp:=fun vs H Q _=>Ak vs H Q
abbrev qg:Stmt:=top 33
theorem vS:aV ["word","figures"] ["word"] (aJ qg):=bz (by decide+kernel)
theorem EI(F:FA K mg "number_in" qg)(B:bc mg)(IE:GV mg "FIGURES" (.str j8)):au P w K mg base "number_in" 1 mK:=by
 refine F.has vS (fun vs H Q E h=>?_) (fun _ _ _ _ _ _=>gO fun _=>rfl) (fun f ah A outer s H vs Q E hr h=>?_)
 · obtain⟨z,rfl,_⟩:=h
   rfl
 · obtain⟨z,rfl,hl,k⟩:=h
   have nd:=vS.nd;have fk:sizeLine=16777216:=by decide
   refine⟨_,(ai (pS 1 nd (E7 K rfl (pv 0) (a7 aw a8))) (ai (aR (PW.pt (fB (aO dh (pv 1) aw (aP _)) (gy (eE (dS (cm (x:="all") (tP K rfl rfl) rfl (B.at "all") Bs (a7 (fc (N:=["sign"]) (js:=[none]) rfl rfl rfl (mT (pv 1)) (fun _ _ _ _ _=>(bA 0 (gD _))) (fun _ _ _ _ _=>eL) (fun _ _ _ _ _=>(hU wQ (pv 0) (cD (x:="FIGURES") rfl IE) (by with_unfolding_all rfl)))) a8))))))) (ao (aF cC)) aU) (ai (aR (PW.pt (mS (aO dh (kR nE (pv 1) ae (fun _ _=>rfl)) aw (aP _)) (qN (aO mX (pv 0) aw (aP _))))) (ao (aF cC)) aU) (ao (aF (eM (x:="int") zv rfl (B.at "int") oX (a7 (pv 0) a8))))))),?_⟩;refine⟨_,rfl,rfl,z,"-",rfl,rfl,by omega,?_⟩;have ef:=Tm.Dd z;generalize hz:Txt.removeprefix z "-"=y at ef;unfold numIn? at k;rw[<-ef]at k;have Ho:y.length<=z.length:=by
    have e1:y.cps.toList.length=(figs z).length:=by rw[ef]
    have e2:(figs z).length<=z.cps.toList.length:=by
     unfold figs;split
     ·rename_i h;rw[h];simp
     ·rename_i h _;exact aD _
    simpa[Str.length]using bL (uk e1) e2
   refine⟨_,rfl,rfl,_,rfl,?_⟩;refine bF (fun h0=>?_) (fun h0=>?_)
   · have hy:y="":=by simpa using h0
     rw[hy]at k;exact aK (k H (af.refl _))
   · have hy:y≠"":=by simpa using h0
     have bN:y.cps.toList≠[]:=fun e=>hy (Tm.tf (by rw[e];rfl));have he:y.cps.toList.isEmpty=false:=by cases h:y.cps.toList with|nil=>exact(bN h).elim|cons=>rfl
     rw[he,Bool.false_or]at k;refine⟨_,rfl,y,rfl,fun D H0 nw=>?_⟩;refine tj (f:=isFig) [] nw (by omega) (fun c H2 Q' hc s2 hq=>?_) (fun H2 s2 d2=>?_)
     · refine⟨_,rfl,c,j8,rfl,rfl,?_⟩
       rw[yO];exact hq _ (af.refl _)
     · refine⟨D,_,rfl,aa.of d2,?_⟩
       rw[zK];refine⟨_,rfl,?_⟩;cases hf:y.cps.toList.all isFig with |false=>rw[hf]at k;exact aK (k H2 s2) |true=>rw[hf]at k;refine aB ?_;obtain⟨n,hn⟩:=Tm.GG (z:=z) (by rw[<-ef];exact bN) (by rw[<-ef];exact hf) (by omega);rw[hn]at k;cases hc:y.cps.toList with |nil=>exact(bN hc).elim |cons c r=>
           refine⟨_,rfl,y,0,c,rfl,rfl,by omega,d9 (gY 0) (by rw[hc];rfl),rfl,_,rfl,?_⟩;have e0:decide (y.cps.toList[0]? =some 48)=decide (V.str ⟨#[c]⟩=V.str "0"):=by
            rw[hc,dy];simp only[iu];refine⟨fun h=>?_,fun h=>?_⟩
            · have h:c=48:=by simpa using h
              rw[h];decide+kernel
            · have h:(⟨#[c]⟩:Str)="0":=by simpa using h
              have h2:[c]=[48]:=(eX (fun z:Str=>z.cps.toList) h).trans (by decide+kernel);simpa using h2
           rw[e0]at k;have e1:(!decide (z="0"))= !decide (V.str z=V.str "0"):=by simp
           rw[e1]at k;cases h1:decide (V.str ⟨#[c]⟩=V.str "0")with
           |true=>rw[h1,cj]at k;refine aK ⟨_,rfl,rfl,_,rfl,?_⟩;cases h2: !decide (V.str z=V.str "0")with |true=>rw[h2]at k;exact aK (k H2 s2) |false=>rw[h2]at k;exact aB ⟨_,rfl,z,n,rfl,hn,hl,k H2 s2⟩
           |false=>rw[h1,cz]at k;exact aB ⟨_,rfl,z,n,rfl,hn,hl,k H2 s2⟩
inductive Aj(K:LG)(vs:List V)(H:Hp)(Q:VK):Prop |mk (l:Addr)(zs:List Str)(h0:vs=[.ref l])(h1:aa K H l (zs.map V.str))(h2:zs.length<=1000)(h3:(∀z∈zs,z.length<=640))(h4:∀p H',af H H'->H p=none->H' p=some (.lst (zs.map fun z=>oV (numIn? z)))->Q (.ref p) H'):Aj K vs H Q
def vv(K:LG):Sp:=fun vs H Q _=>Aj K vs H Q
theorem jB{H:Hp}(o:Option Int):RD K H (oV o) (oD o):=by cases o with |none=>exact df |some i=>exact eD _
theorem xf{H:Hp}{v:V}{o:Option Int}(h:RD K H v (oD o)):v=oV o:=by cases o with |none=>exact h.nj |some i=>exact h.int_inv
theorem xb{H:Hp}:∀{xs:List V}{zs:List Str},aj K H xs (zs.map fun z=>oD (numIn? z))->xs=zs.map fun z=>oV (numIn? z) |xs,[],h=>h.nil_inv |xs,n::ns,h=>by obtain⟨y,ys,rfl,h1,h2⟩:=h.cons_inv;rw[xf h1,xb h2];rfl
theorem Ff(zs:List Str):bB (zs.map fun z=>oD (numIn? z))=true:=dB.mpr fun d hd=>by obtain⟨z,_,rfl⟩:=bM.mp hd;cases numIn? z<;>rfl
abbrev qd:Stmt:=top 32
theorem vP:aV ["words"] ["words"] (aJ qd):=bz (by decide+kernel)
theorem EG(F:FA K mg "numbers_in" qd)(B:bc mg)(sj:au P w K mg base "number_in" 1 mK):au P w K mg base "numbers_in" 2 (vv K):=by
 refine F.has vP (fun vs H Q E h=>?_) (fun _ _ _ _ _ _=>gO fun _=>rfl) (fun f ah A outer s H vs Q E hr h=>?_)
 · obtain⟨l,zs,rfl,_⟩:=h
   rfl
 · obtain⟨l,zs,rfl,hl,hn,hz,k⟩:=h
   have nd:=vP.nd;refine⟨_,(ao (aF (fc (N:=["word"]) (js:=[none]) rfl rfl rfl (mU K rfl (pv 0)) (fun _ _ _ _ _=>(bA 0 (gD _))) (fun _ _ _ _ _=>eL) (fun _ _ _ _ _=>(pf sj hr (a7 (pv 0) a8)))))),?_⟩;refine⟨_,rfl,l,rfl,⟨_,hl⟩,fun D H1 n1=>?_⟩;refine zd (K:=K) (ds:=zs.map fun z=>oD (numIn? z)) _ hl n1 (by simp) (by simp;omega) (Ff _) ?_ ?_
   · intro i x d H2 Q' ex ed s2 hq
     rw[cg]at ex ed;obtain⟨z,ez,rfl⟩:=md.mp ex;rw[ez]at ed;cases ed;exact⟨_,rfl,z,rfl,hz z (fq ez),fun H3 s3=>hq _ _ s3 (jB _)⟩
   · intro H2 ys s2 d2 r2
     rw[xb r2]at d2;exact k D H2 s2 n1.no d2
def dn(z:Str):Prop:=∀c∈z.cps.toList,c<0x110000
theorem iQ{n:Nat}{z:Str}(h:dn z):aX n (.str z):=⟨by show PyData.strOk z=true;unfold PyData.strOk;rw[BE];exact fun c hc=>br (h c (by simpa using hc)),bK _⟩
theorem yz{c x:Nat}:∀{as:List (List Nat)}{a:List Nat},a∈as->x∈a->x∈Tm.gl c as
  |[],a,h,_=>nomatch h |[b],a,h,hx=>by rw[eZ.mp h]at hx;exact hx |b::d::r,a,h,hx=>by
    show x∈b++c::Tm.gl c (d::r);rcases aW.mp h with rfl|h
    ·exact p7 _ hx
    ·exact eJ _ (.tail _ (yz h hx))
theorem yA{c:Nat}:∀{as:List (List Nat)}{a:List Nat},a∈as->a.length<=(Tm.gl c as).length
  |[],a,h=>nomatch h |[b],a,h=>by rw[eZ.mp h];exact aD _ |b::d::r,a,h=>by
    show a.length<=(b++c::Tm.gl c (d::r)).length;rw[dc,ft];rcases aW.mp h with rfl|h
    ·omega
    ·have:=yA (c:=c) h;omega
theorem vh(z:Str)(c:Nat):Tm.gl c ((Txt.split z ⟨#[c]⟩).map fun y=>y.cps.toList)=z.cps.toList:=by rw[<-Tm.sO,StrLaws.join_split]
theorem hJ{z y:Str}{c:Nat}(h:dn z)(hy:y∈Txt.split z ⟨#[c]⟩):dn y:=fun x hx=>h x (by rw[<-vh z c];exact yz (bM.mpr ⟨y,hy,rfl⟩) hx)
theorem split_le{z y:Str}{c:Nat}(hy:y∈Txt.split z ⟨#[c]⟩):y.length<=z.length:=by have:=yA (c:=c) (bM.mpr ⟨y,hy,rfl⟩:y.cps.toList∈(Txt.split z ⟨#[c]⟩).map fun y=>y.cps.toList);rw[vh]at this;simpa[Str.length]using this
theorem dP:(" ":Str)=⟨#[32]⟩:=by decide+kernel
theorem i3:("\n":Str)=⟨#[10]⟩:=by decide+kernel
def nI (z:Str):LJ:=oD (numIn? z)
def bV:List Str->LJ |[]=>.none |w::rest=>if w="line" then(match rest with |[]=>.none |r::rs=>.tuple [.str w,.tuple (((r::rs).map nI).take rs.length),((r::rs).map nI).getLastD .none]) else match rest with |[r]=>.tuple [.str w,if w="wait" then nI r else .str r] |_=>.none
def cV(n:Nat)(z:Str):LJ:=bif dE n (bV (Txt.split z " "))then bV (Txt.split z " ")else .none
theorem wZ{H:Hp}:∀(zs:List Str),aj K H (zs.map fun z=>oV (numIn? z)) (zs.map nI) |[]=>by simp[aj] |z::zs=>by rw[eg,eg,aj];exact⟨_,_,rfl,jB _,wZ zs⟩
theorem cJ{H:Hp}{x:V}{xs:List V}{d:LJ}{ds:List LJ}(h:RD K H x d)(r:aj K H xs ds):aj K H (x::xs) (d::ds):=by rw[aj];exact⟨_,_,rfl,h,r⟩
theorem fA{H:Hp}:aj K H [] []:=by simp[aj]
theorem jF{n:Nat}(z:Str):aX n (nI z):=by unfold nI;cases numIn? z with |none=>exact .aq |some i=>exact .int i
theorem xy(z:Str):eu (nI z)=true:=by unfold nI;cases numIn? z<;>rfl
theorem kD:bV ["line"]= .none:=by unfold bV;dsimp only;rw[aI rfl]
theorem mz{r:Str}{rs:List Str}:bV ("line"::r::rs)= .tuple [.str "line",.tuple (((r::rs).map nI).take rs.length),((r::rs).map nI).getLastD .none]:=by unfold bV;dsimp only;rw[aI rfl]
theorem iC{w r:Str}(h:w≠"line"):bV [w,r]= .tuple [.str w,if w="wait" then nI r else .str r]:=by unfold bV;dsimp only;rw[aC h]
theorem gZ{w:Str}{ws:List Str}(h:w≠"line")(hl:ws.length≠1):bV (w::ws)= .none:=by
 unfold bV;dsimp only;rw[aC h];split
 ·exact(hl rfl).elim
 ·rfl
theorem C7{ws:List Str}(h:∀w∈ws,dn w/\w.length<=640):aX 8 (bV ws)/\mO (bV ws)=true:=by cases ws with |nil=>exact⟨.aq,rfl⟩ |cons w rest=>
   obtain⟨hw,hl⟩:=h w (.head _);have sw:eu (.str w)=true:=br (by omega);by_cases hx:w="line"
   · subst hx
     cases rest with |nil=>rw[kD];exact⟨.aq,rfl⟩ |cons r rs=>
       rw[mz];have hm:∀d∈(r::rs).map nI,aX 0 d:=fun d hd=>by obtain⟨z,_,rfl⟩:=bM.mp hd;exact jF z
       have yg:aX 0 (((r::rs).map nI).getLastD .none)/\eu (((r::rs).map nI).getLastD .none)=true:=by rw[uv];cases e:((r::rs).map nI).getLast? with |none=>exact⟨.aq,rfl⟩ |some d=>obtain⟨z,_,rfl⟩:=bM.mp (List.mem_of_getLast? e);exact⟨jF z,xy z⟩
       have hs:cF 2 [.str "line",.tuple (((r::rs).map nI).take rs.length),((r::rs).map nI).getLastD .none]:=fun d hd=>by
        simp only[aW,cP,gU]at hd;rcases hd with rfl|rfl|rfl
        ·exact iQ hw
        ·exact(cF.tup (n:=0) fun d hd=>hm d (km hd)).le (by decide)
        ·exact yg.1.le (by decide)
       refine⟨hs.tup.le (by decide),?_⟩;show[_,_,_].all eu=true;simp only[jk,uC,uF,sw,yg.2];rfl
   ·match rest,h with
     |[],_=>rw[gZ hx (by simp)];exact⟨.aq,rfl⟩ |[r],h=>
       rw[iC hx];obtain⟨hr,Li⟩:=h r (.tail _ (.head _));have hv:aX 0 (if w="wait" then nI r else .str r)/\eu (if w="wait" then nI r else .str r)=true:=by
        split
        ·exact⟨jF r,xy r⟩
        ·exact⟨iQ hr,br (by omega)⟩
       have hs:cF 1 [.str w,if w="wait" then nI r else .str r]:=fun d hd=>by
        simp only[aW,cP,gU]at hd;rcases hd with rfl|rfl
        ·exact iQ hw
        ·exact hv.1.le (by decide)
       refine⟨hs.tup.le (by decide),?_⟩;show[_,_].all eu=true;simp only[jk,uC,uF,sw,hv.2] |_::_::_,_=>rw[gZ hx (by simp)];exact⟨.aq,rfl⟩
inductive Aq(K:LG)(vs:List V)(H:Hp)(Q:VK):Prop |mk (m:V)(rs:List Int)(es:List LJ)(z:Str)(h0:vs=[m,.str z])(h1:RD K H m (.tuple (.tuple (rs.map PyData.int)::es)))(h2:bB es=true)(h3:rs.length<=3)(h4:z.length<=600)(h5:dn z)(h6:∀v H',af H H'->RD K H' v (cV rs.length z)->Q v H'):Aq K vs H Q
def pL(K:LG):Sp:=fun vs H Q _=>Aq K vs H Q
abbrev qq:Stmt:=top 31
theorem vZ:aV ["machine","row","word","rest","thing","numbers"] ["machine","row"] (aJ qq):=bz (by decide+kernel)
theorem ES(F:FA K mg "item_in" qq)(B:bc mg)(sj:au P w K mg base "number_in" 1 mK)(Hg:au P w K mg base "numbers_in" 2 (vv K))(HF:au P w K mg base "is_item" 4 (pM K)):au P w K mg base "item_in" 5 (pL K):=by
 refine F.has vZ (fun vs H Q E h=>?_) (fun _ _ _ _ _ _=>dm fun _ _=>rfl) (fun f ah A outer s H vs Q E hr h=>?_)
 · obtain⟨m,rs,es,z,rfl,_⟩:=h
   rfl
 · obtain⟨m,rs,es,z,rfl,rm,ne,l3,hz,tz,k⟩:=h
   have nd:=vZ.nd;have fk:sizeLine=16777216:=by decide
   have fh:∀y∈Txt.split z " ",dn y/\y.length<=640:=fun y hy=>by rw[dP]at hy;have:=split_le hy;exact⟨hJ tz hy,by omega⟩
   have jI:=split_len z " ";refine⟨_,(ai (ju (jx K rfl (pv 1) (a7 aw a8)) (DY K rfl rfl (bA 2 nd) (bA 3 nd))) (ai (pS 4 nd cC) (ai (gz (aR (aO dh (pv 2) aw (aP _)) (ai (pS 5 nd (pf Hg hr (a7 (pv 3) a8))) (ao (pS 4 nd (iL (DJ K rfl (pv 5)) (dA (a7 (pv 2) (a7 (eM (x:="tuple") (iB K rfl) rfl (B.at "tuple") gu (a7 (cK (g8 K rfl) (pv 5) cT (cB (iK iA ae))) a8)) (a7 (px K (pv 5) (iK iA ae)) a8)))) cC)))) (ao (aR (aO dh (dg K B (a7 (pv 3) a8)) ae (aP _)) (ao (pS 4 nd (dA (a7 (pv 2) (a7 (iL (aO dh (pv 2) aw (aP _)) (pf sj hr (a7 (px K (pv 3) ae) a8)) (px K (pv 3) ae)) a8))))) aU)))) (ao (aF (iL (dS (pf HF hr (a7 (pv 0) (a7 (pv 4) a8)))) (pv 4) cC)))))),?_⟩;refine⟨_,rfl,rfl,z," ",rfl,rfl,by decide+kernel,by omega,fun l H1 n1=>?_⟩;obtain⟨x,ws,ew⟩:∃x ws,Txt.split z " "=x::ws:=by cases e:Txt.split z " " with |nil=>exact(Tm.kI _ _ e).elim |cons x ws=>exact⟨x,ws,rfl⟩
   unfold cV at k;rw[ew]at n1 fh jI k;rw[ft]at jI;refine⟨l,.str x,ws.map V.str,rfl,aa.of n1.at',by rw[aE];omega,fun p H2 n2=>?_⟩;have s2:=n1.same.trans n2.same;have nK:∀y∈ws,y.length<=640:=fun y hy=>(fh y (.tail _ hy)).2;refine⟨fun σ H3=>∃t w5,σ=[some m,some (.str z),some (.str x),some (.ref p),some t,w5]/\af H H3/\RD K H3 t (bV (x::ws)),?_,?_⟩
   · refine⟨_,rfl,rfl,_,rfl,?_⟩
     refine bF (fun h0=>?_) (fun h0=>?_)
     · have hx:x="line":=by simpa using h0
       subst hx;refine⟨_,rfl,p,ws,rfl,aa.of n2.at',by omega,nK,fun q H3 s3 nq e3=>?_⟩;refine⟨_,rfl,!(ws.map fun z=>oV (numIn? z)).isEmpty,.inl ⟨_,aa.of e3,rfl⟩,?_⟩;cases ws with |nil=>refine aB ⟨.aq,_,rfl,s2.trans s3,?_⟩;rw[kD];exact df |cons r kL=>
         refine aK ⟨_,rfl,?_⟩;refine⟨_,rfl,1,rfl,_,rfl,q,_,rfl,.inl ⟨aa.of e3,fun q2 H4 n4=>?_⟩⟩;rw[JI]at n4;have FN:=n4.at';refine⟨q2,_,rfl,.inl ⟨aa.of FN,fun q3 H5 n5=>?_⟩⟩;obtain⟨v,ev⟩:∃v,((r::kL).map fun z=>oV (numIn? z)).getLast? =some v:=⟨_,Bu (by simp)⟩;have e5:=n5.same _ _ (n4.same _ _ e3);refine⟨_,rfl,1,rfl,.inl ⟨q,_,-1,v,rfl,rfl,aa.of e5,zH ev,?_⟩⟩;refine⟨by show 3<=sizeLine;omega,fun q6 H6 n6=>?_⟩;have s6:=(((s2.trans s3).trans n4.same).trans n5.same).trans n6.same;refine⟨_,_,rfl,s6,?_⟩;rw[mz];have el:((r::kL).map nI).getLastD .none=oD (numIn? ((r::kL).getLast (by simp))):=by rw[uv,List.getLast?_map,Bu (by simp)];rfl
         have Jr:v=oV (numIn? ((r::kL).getLast (by simp))):=by rw[List.getLast?_map,Bu (by simp)]at ev;exact(cf ev).symm
         refine cw (ay.of n6.at') (cJ (bb _) (cJ ?_ (cJ ?_ fA)))
         · refine cw (ay.of (n6.same _ _ n5.at')) ?_
           rw[aE,ft,Nat.add_sub_cancel];exact(wZ (r::kL)).take _
         ·rw[el,Jr];exact jB _
     · have hx:x≠"line":=by simpa using h0
       refine⟨_,rfl,p,_,rfl,.inl (aa.of n2.at'),rfl,_,rfl,?_⟩;refine bF (fun h1=>?_) (fun h1=>?_)
       · have sr:ws.length=1:=by have h1:=jh h1;rw[aE]at h1;injection h1 with h1;omega
         match ws,sr,n2,nK,k with
         |[r],_,n2,nK,k=>
           refine⟨_,rfl,_,rfl,rfl,_,rfl,?_⟩;refine bF (fun h2=>?_) (fun h2=>?_)
           · have jH:x="wait":=by simpa using h2
             refine⟨_,rfl,.inl ⟨p,_,0,.str r,rfl,rfl,aa.of n2.at',rfl,?_⟩⟩;refine⟨r,rfl,nK r (.head _),fun H3 s3=>?_⟩;refine⟨by show 2<=sizeLine;omega,fun q6 H6 n6=>?_⟩;refine⟨_,_,rfl,(s2.trans s3).trans n6.same,?_⟩;rw[iC hx,aI jH];exact cw (ay.of n6.at') (cJ (bb _) (cJ (jB _) fA))
           · have jH:x≠"wait":=by simpa using h2
             refine⟨_,rfl,.inl ⟨p,_,0,.str r,rfl,rfl,aa.of n2.at',rfl,?_⟩⟩;refine⟨by show 2<=sizeLine;omega,fun q6 H6 n6=>?_⟩;refine⟨_,_,rfl,s2.trans n6.same,?_⟩;rw[iC hx,aC jH];exact cw (ay.of n6.at') (cJ (bb _) (cJ (bb _) fA))
       · have sr:ws.length≠1:=fun e=>h1 (br (by rw[aE,e];rfl))
         refine⟨.aq,_,rfl,s2,?_⟩;rw[gZ hx sr];exact df
   · rintro σ H3 ⟨t,w5,rfl,s3,rt⟩
     have ok:=C7 (ws:=x::ws) fh;refine⟨_,rfl,_,rfl,m,t,rs,es,bV (x::ws),rfl,RD.mono s3 _ rm,rt,l3,ok.1,ok.2,fun H4 s4=>⟨_,rfl,?_⟩⟩;cases hi:dE rs.length (bV (x::ws))with |true=>rw[hi]at k;exact aK ⟨_,rfl,k _ _ (s3.trans s4) (RD.mono s4 _ rt)⟩ |false=>rw[hi]at k;exact aB (k _ _ (s3.trans s4) df)
abbrev qc:Stmt:=top 30
theorem vO:aV ["machine","text","told","at","row","item"] ["machine","text"] (aJ qc):=bz (by decide+kernel)
end
end Lw
set_option maxHeartbeats 2000000
namespace Lw
open PySem PySem.Spec PyProof.Rows L2 Ln Wk
open Tm (numS numIn? figs isFig Free)
section
variable {P:LI}{w:World}{K:LG}{mg:Str->Option Value}{base:Heap}
def ml:LJ->Str | .int i=>numS i | .str z=>z |_=>Str.empty
def hZ(ns:List Int):Str:=Txt.join " " (ns.map numS)
def eO:LJ->Str | .tuple [.str _,.tuple xs,.int sp]=>"line "++Txt.join " " (xs.map ml)++" "++numS sp | .tuple [.str w,u]=>w++" "++ml u |_=>Str.empty
def Nm (i:Int):Prop:=i.natAbs<10^40
def jW(w:Str):Prop:=w="wait"\/w="tool"\/w="mark"
def TI(d:LJ):Prop:=(∃ns sp,d=i5 ns sp/\ns.length<=3/\(∀n∈ns,Nm n)/\Nm sp)\/(∃w i,d= .tuple [.str w,.int i]/\jW w/\Nm i)\/∃w z,d= .tuple [.str w,.str z]/\jW w/\z.length<=100
theorem FT(ns:List Int):(ns.map PyData.int).map ml=ns.map numS:=by rw[p8];rfl
theorem nG(ns:List Int)(sp:Int):eO (i5 ns sp)="line "++hZ ns++" "++numS sp:=by show Str.ofString "line "++Txt.join " " ((ns.map PyData.int).map ml)++" "++numS sp=_;rw[FT];rfl
theorem jC{i:Int}(h:Nm i):(numS i).length<=41:=uO h
theorem xj{ns:List Int}(h:∀n∈ns,Nm n)(hl:ns.length<=3):(hZ ns).length<=126:=by
 have:=rO " " (B:=41) (ns.map numS) (fun z hz=>by obtain⟨n,hn,rfl⟩:=bM.mp hz;exact jC (h n hn));rw[aE]at this;have e:Str.length " "=1:=by decide+kernel
 rw[e]at this;unfold hZ;omega
theorem pq{w:Str}(h:jW w):w.length=4:=by rcases h with rfl|rfl|rfl<;>decide+kernel
theorem xS{d:LJ}(h:TI d):(eO d).length<=400:=by
 have e1:Str.length " "=1:=by decide+kernel
 have e2:Str.length "line "=5:=by decide+kernel
 rcases h with⟨ns,sp,rfl,hl,hb,hs⟩|⟨w,i,rfl,hw,hi⟩|⟨w,z,rfl,hw,hz⟩
 · rw[nG]
   have h1:=xj hb hl;have h2:=jC hs;simp only[kd];omega
 · show(w++" "++numS i).length<=400
   have h2:=jC hi;have h3:=pq hw;simp only[kd];omega
 · show(w++" "++z).length<=400
   have h3:=pq hw;simp only[kd];omega
theorem rK:SeqAt.shaped (.str "line")=true:=by decide+kernel
theorem yS(x y:Str):PyData.eqv (.str x) (.str y)=decide (x=y):=by show(x==y)=decide (x=y);rw[dy];simp
theorem C5{H:Hp}{v:V}{d:LJ}(h:RD K H v d)(i:TI d):(∃ns sp a b,d=i5 ns sp/\v= .ref a/\ay K H a [.str "line",.ref b,.int sp]/\RD K H (.ref b) (.tuple (ns.map PyData.int))/\ns.length<=3/\(∀n∈ns,Nm n)/\Nm sp)\/∃w u a y,d= .tuple [.str w,u]/\jW w/\v= .ref a/\ay K H a [.str w,y]/\RD K H y u/\((∃i,u= .int i/\y= .int i/\Nm i)\/∃z,u= .str z/\y= .str z/\z.length<=100):=by
 rcases i with⟨ns,sp,rfl,hl,hb,hs⟩|⟨w,i,rfl,hw,hi⟩|⟨w,z,rfl,hw,hz⟩
 · obtain⟨a,xs,rfl,h1,h2⟩:=h.cR
   obtain⟨x1,r,rfl,e1,h2⟩:=h2.cons_inv;obtain⟨x2,r,rfl,e2,h2⟩:=h2.cons_inv;obtain⟨x3,r,rfl,e3,h2⟩:=h2.cons_inv;cases h2.nil_inv;cases e1.str_inv;cases e3.int_inv;obtain⟨b,ys,rfl,_,_⟩:=id e2.cR;exact .inl ⟨ns,sp,a,b,rfl,rfl,h1,e2,hl,hb,hs⟩
 · obtain⟨a,xs,rfl,h1,h2⟩:=h.cR
   obtain⟨x1,r,rfl,e1,h2⟩:=h2.cons_inv;obtain⟨x2,r,rfl,e2,h2⟩:=h2.cons_inv;cases h2.nil_inv;cases e1.str_inv;cases e2.int_inv;exact .inr ⟨w,_,a,_,rfl,hw,rfl,h1,e2,.inl ⟨i,rfl,rfl,hi⟩⟩
 · obtain⟨a,xs,rfl,h1,h2⟩:=h.cR
   obtain⟨x1,r,rfl,e1,h2⟩:=h2.cons_inv;obtain⟨x2,r,rfl,e2,h2⟩:=h2.cons_inv;cases h2.nil_inv;cases e1.str_inv;cases e2.str_inv;exact .inr ⟨w,_,a,_,rfl,hw,rfl,h1,e2,.inr ⟨z,rfl,rfl,hz⟩⟩
theorem BI{w:Str}(h:jW w):SeqAt.shaped (.str w)=true:=by rcases h with rfl|rfl|rfl<;>decide+kernel
theorem BJ{w:Str}(h:jW w):decide (w="line")=false/\decide (w="step")=false:=by rcases h with rfl|rfl|rfl<;>decide+kernel
theorem Fx(zs:List Str):bB (zs.map PyData.str)=true:=dB.mpr fun d hd=>by obtain⟨z,_,rfl⟩:=bM.mp hd;rfl
inductive Ap(K:LG)(vs:List V)(H:Hp)(Q:VK):Prop |mk (v:_)(d:_)(h0:vs=[v])(h1:RD K H v d)(h2:TI d)(h3:∀H',af H H'->Q (.str (eO d)) H'):Ap K vs H Q
def vz(K:LG):Sp:=fun vs H Q _=>Ap K vs H Q
theorem sz:sizeLine=16777216:=by decide
theorem mM:Str.length " "=1:=by decide+kernel
abbrev qk:Stmt:=top 41
theorem vX:aV ["_law_item_here"] ["_law_item_here"] (aJ qk):=bz (by decide+kernel)
theorem EN(F:FA K mg "_law_item_text" qk)(B:bc mg):au P w K mg base "_law_item_text" 1 (vz K):=by
 refine F.has vX (fun vs H Q E h=>?_) (fun _ _ _ _ _ _=>gO fun _=>rfl) (fun f ah A outer s H vs Q E hr h=>?_)
 · obtain⟨v,d,rfl,_⟩:=h
   rfl
 · obtain⟨v,d,rfl,rv,ti,k⟩:=h
   have nd:=vX.nd;refine⟨_,(ai (aR (aO (eR K rfl hr.units) (px K (pv 0) ae) aw (aP _)) (ao (aF (az eF (az eF (az eF aw (kS K rfl aw (a7 (fc (N:=["_law_step"]) (js:=[none]) rfl rfl rfl (qP K rfl (px K (pv 0) ae)) (fun _ _ _ _ _=>(bA 0 (gD _))) (fun _ _ _ _ _=>eL) (fun _ _ _ _ _=>(eM (x:="str") tu rfl (B.at "str") m9 (a7 (pv 0) a8)))) a8))) aw) (eM (x:="str") tu rfl (B.at "str") m9 (a7 (px K (pv 0) ae) a8))))) aU) (ao (aF (az eF (az eF (px K (pv 0) ae) aw) (eM (x:="str") tu rfl (B.at "str") m9 (a7 (px K (pv 0) ae) a8)))))),?_⟩;have hs:=sz;have Ls:=mM;have h5:Str.length "line "=5:=by decide+kernel
   rcases C5 rv ti with⟨ns,sp,a,b,rfl,rfl,h1,r2,hl,hn,bD⟩|⟨w,u,a,y,rfl,hw,rfl,h1,ry,hv⟩
   · refine⟨_,rfl,.inr ⟨a,_,0,.str "line",rfl,rfl,h1,d9 (gY 0) rfl,.inr ⟨_,_,bb _,bb _,rK,rK,_,rfl,?_⟩⟩⟩
     rw[yS,br rfl];refine aK ?_;have Lr:=xj hn hl;have IW:=jC bD;obtain⟨b',xs,e',g1,g2⟩:=r2.cR;cases e';rw[g2.nJ]at g1;refine⟨rfl,?_⟩;refine⟨_,rfl,.inr ⟨a,_,1,.ref b,rfl,rfl,h1,d9 (by decide) rfl,b,rfl,⟨_,g1⟩,fun D H1 n1=>?_⟩⟩;refine JK (K:=K) (ds:=(ns.map numS).map PyData.str) _ g1 n1 (by simp) (by simp;omega) (Fx _) ?_ ?_
     · intro i x d H2 Q' ex ed s2 hq
       rw[cg]at ex;obtain⟨n,en,rfl⟩:=md.mp ex;rw[cg,cg,en]at ed;cases ed;have hn:=hn n (fq en);exact⟨_,rfl,.inl ⟨n,rfl,rH hn,hq _ _ (af.refl _) (bb _)⟩⟩
     · intro H2 zs s2 d2 r2
       rw[mG r2]at d2;refine⟨" ",D,ns.map numS,rfl,rfl,aa.of d2,fun z hz=>?_,by decide+kernel,by rw[aE];omega,?_⟩
       · obtain⟨n,lG,rfl⟩:=bM.mp hz
         have:=jC (hn n lG);omega
       refine⟨_,_,rfl,rfl,by change _+(hZ ns).length<=_;omega,?_⟩;refine⟨_,_,rfl,rfl,by simp only[kd];change _+(hZ ns).length+_<=_;omega,?_⟩;refine⟨_,rfl,.inr ⟨a,_,2,.int sp,rfl,rfl,h1.go s2,d9 (by decide) rfl,.inl ⟨sp,rfl,rH bD,?_⟩⟩⟩;refine⟨_,_,rfl,rfl,by simp only[kd];change _+(hZ ns).length+_+(numS sp).length<=_;omega,?_⟩;have:=k H2 s2;rw[nG]at this;exact this
   · refine⟨_,rfl,.inr ⟨a,_,0,.str w,rfl,rfl,h1,d9 (gY 0) rfl,.inr ⟨_,_,bb _,bb _,BI hw,rK,_,rfl,?_⟩⟩⟩
     rw[yS,(BJ hw).1];refine aB ?_;have w4:=pq hw;have fin:=k H (af.refl _);refine⟨_,rfl,.inr ⟨a,_,0,.str w,rfl,rfl,h1,d9 (gY 0) rfl,?_⟩⟩;refine⟨_,_,rfl,rfl,by omega,?_⟩;refine⟨_,rfl,.inr ⟨a,_,1,y,rfl,rfl,h1,d9 (by decide) rfl,?_⟩⟩;rcases hv with⟨i,rfl,rfl,hi⟩|⟨z,rfl,rfl,hz⟩
     · have IW:=jC hi
       exact .inl ⟨i,rfl,rH hi,_,_,rfl,rfl,by simp only[kd];change _+(numS i).length<=_;omega,fin⟩
     ·exact .inr ⟨z,rfl,_,_,rfl,rfl,by simp only[kd];omega,fin⟩
end
end Lw
set_option maxHeartbeats 1000000
namespace Lw
open PySem PySem.Spec PyProof.Rows L2 Rt Ln Wk
section
variable {P:LI}{w:World}{K:LG}{mg:Str->Option Value}{base:Heap}
def aG(z:Str):Prop:=∀c∈z.cps.toList,c<0x110000
theorem aG.app{a b:Str}(ha:aG a)(hb:aG b):aG (a++b):=fun c hc=>by rw[kh,mi,e9]at hc;exact hc.elim (ha c) (hb c)
theorem aG.joined{sep:Str}(hs:aG sep):∀l:List Str,(∀a∈l,aG a)->aG (PySem.Str.join sep l) |[],_=>fun c hc=>by simp[PySem.Str.join,PySem.Str.empty]at hc |[x],h=>h x (.head _) |x::y::r,h=>((h x (.head _)).app hs).app (aG.joined hs (y::r) fun a ha=>h a (.tail _ ha))
theorem aG.join{sep:Str}{l:List Str}(hs:aG sep)(h:∀a∈l,aG a):aG (Txt.join sep l):=by show aG (Builtin.Str.glued sep l);rw[ke];exact aG.joined hs l h
theorem Er{n:Nat}{z:Str}(h:aG z):aX n (.str z):=⟨by show PyData.strOk z=true;unfold PyData.strOk;rw[BE];exact fun c hc=>br (h c (by simpa using hc)),bK _⟩
theorem wW{n:Nat}{z:Str}(h:aX n (.str z)):aG z:=fun c hc=>by have q:PyData.strOk z=true:=h.lay;unfold PyData.strOk at q;rw[BE]at q;exact jh (q c (by simpa using hc))
theorem eH{z:Str}(h:z.cps.all (·<0x110000)=true):aG z:=wW (n:=0) ⟨h,bK _⟩
theorem va:∀(ds:List LJ),(∀d∈ds,∃z:Str,d= .str z/\z.length=1/\aG z/\z.cps.toList.all (fun c=>decide (97<=c)&&decide (c<=122))=true)->∃zs:List Str,ds=zs.map PyData.str/\∀z∈zs,z.length=1/\aG z/\z.cps.toList.all (fun c=>decide (97<=c)&&decide (c<=122))=true |[],_=>⟨[],rfl,fun _ h=>nomatch h⟩ |d::ds,h=>by obtain⟨z,rfl,e⟩:=h d (.head _);obtain⟨zs,rfl,q⟩:=va ds fun x hx=>h x (.tail _ hx);exact⟨z::zs,rfl,fun y hy=>by
     rcases aW.mp hy with rfl|hy
     ·exact e
     ·exact q y hy⟩
theorem Kk:aG dG:=eH (by decide+kernel)
def nC(c:Nat):Bool:=decide (97<=c)&&decide (c<=122)
def gb(s:Str):Bool:=(decide (1<=s.length)&&decide (s.length<=8))&&s.cps.toList.all nC
def qT(w s:Str):Prop:=(w="tool"/\(s="up"\/s="down"))\/(w="mark"/\gb s=true)
def oG(d:LJ):Prop:=(∃n,d= .tuple [.str "wait",.int n]/\1<=n/\n<=1000)\/∃w s,d= .tuple [.str w,.str s]/\(w="tool"\/w="mark")/\aX 0 (.str s)/\qT w s
theorem yx:∀l:List Str,(PySem.Str.join ("":Str) l).cps.toList=(l.map fun z=>z.cps.toList).flatten
  |[]=>by simp[PySem.Str.join,PySem.Str.empty] |[x]=>by simp[PySem.Str.join] |x::y::r=>by
    show((x++("":Str))++PySem.Str.join ("":Str) (y::r)).cps.toList=_;rw[kh,kh,mi,mi,yx (y::r)];have:(("":Str)).cps.toList=[]:=by decide+kernel
    rw[this];simp
theorem FH{l:List Str}(h1:1<=l.length)(h8:l.length<=8)(h:∀z∈l,z.length=1/\z.cps.toList.all nC=true):gb (Txt.join ("":Str) l)=true:=by
 have e:(Txt.join ("":Str) l).cps.toList=(l.map fun z=>z.cps.toList).flatten:=by show(Builtin.Str.glued ("":Str) l).cps.toList=_;rw[ke];exact yx l
 have el:(Txt.join ("":Str) l).length=l.length:=by
  show(Txt.join ("":Str) l).cps.size=_;rw[<-pk,e,List.length_flatten,p8];have:∀(l:List Str),(∀z∈l,z.length=1/\z.cps.toList.all nC=true)->(l.map (List.length∘fun z=>z.cps.toList)).sum=l.length:=by intro l;induction l with |nil=>intro _;rfl |cons a r ih=>
     intro h;rw[eg,p4,ih fun z hz=>h z (.tail _ hz),ft];have:=(h a (.head _)).1;have e2:(List.length∘fun z:Str=>z.cps.toList) a=1:=by show a.cps.toList.length=1;rw[pk];exact this
     rw[e2,Nat.add_comm]
  exact this l h
 unfold gb;rw[el,e,br h1,br h8,cj,cj,bU];intro c hc;obtain⟨cs,nW,fj⟩:=List.mem_flatten.mp hc;obtain⟨z,hz,rfl⟩:=bM.mp nW;exact bU.mp (h z hz).2 c fj
theorem oG.it{d:LJ}(h:oG d):itR d none:=by
 rcases h with⟨n,rfl,_⟩|⟨w,s,rfl,hw|hw,_⟩
 ·exact .inr ⟨_,_,rfl,.inl rfl,rfl,rfl⟩
 ·exact .inr ⟨_,_,rfl,.inr (.inl hw),rfl,rfl⟩
 ·exact .inr ⟨_,_,rfl,.inr (.inr hw),rfl,rfl⟩
structure ik(n:Nat)(d:LJ)(o:Itm):Prop where
 it:itR d o
 ln:∀ns sp,o=some (ns,sp)->zS n 100 ns/\1<=sp/\sp<=20
 ot:o=none->oG d
theorem FG{z:Str}(h:gb z=true):isNm (.str z)=true:=h
theorem Ke:∀{ns:List Int},(∃z∈ns,z≠0)->(ns.map PyData.int).any hX=true:=fun{ns} ⟨z,hz,h⟩=>BB.mpr ⟨.int z,bM.mpr ⟨z,hz,rfl⟩,by show(z !=0)=true;simpa using h⟩
theorem Kg{ns:List Int}(h:∀z∈ns,(z.natAbs:Int)<=100):(ns.map PyData.int).all (bG (-100) 100)=true:=by rw[bU];intro d hd;obtain⟨z,hz,rfl⟩:=bM.mp hd;have:=h z hz;show(decide (-100<=z)&&decide (z<=100))=true;rw[br (by omega),br (by omega)];rfl
theorem ik.is{n:Nat}{d:LJ}{o:Itm}(h:ik n d o):dE n d=true/\aX 8 d/\mO d=true:=by cases o with
 |some q=>
   obtain⟨ns,sp⟩:=q;have ed:=rQ h.it;subst ed;obtain⟨fD,s1,s2⟩:=h.ln ns sp rfl;refine⟨?_,?_,rfl⟩
   · show(bT "line" (.str "line")&&(gC n (.tuple (ns.map PyData.int))&&bG 1 20 (.int sp)))=true
     have e1:bT "line" (.str "line")=true:=by decide+kernel
     have e2:gC n (.tuple (ns.map PyData.int))=true:=by show(((ns.map PyData.int).length==n&&(ns.map PyData.int).all (bG (-100) 100))&&(ns.map PyData.int).any hX)=true;rw[Kg fD.bd,Ke fD.nz,aE,fD.len,ub];rfl
     have e3:bG 1 20 (.int sp)=true:=by show(decide (1<=sp)&&decide (sp<=20))=true;rw[br s1,br s2];rfl
     rw[e1,e2,e3];rfl
   · refine(cF.tup (n:=1) (.cons ⟨by decide+kernel,bK _⟩ (.cons (cF.tup (n:=0) fun d hd=>?_) (.cons (.int _) .nil)))).le (by decide)
     obtain⟨a,_,rfl⟩:=bM.mp hd;exact .int _ |none=>
   rcases h.ot rfl with⟨z,rfl,z1,z2⟩|⟨w,s,rfl,hw,jA,on⟩
   · refine⟨?_,(cF.tup (n:=0) (.cons ⟨by decide+kernel,bK _⟩ (.cons (.int _) .nil))).le (by decide),rfl⟩
     show fE (.str "wait") (.int z)=true;unfold fE;rw[aI (by decide+kernel)];show(decide (1<=z)&&decide (z<=1000))=true;rw[br z1,br z2];rfl
   · have Gh:eu (.str s)=true:=by
       refine br ?_;rcases on with⟨_,rfl|rfl⟩|⟨_,hn⟩
       ·decide+kernel
       ·decide+kernel
       · unfold gb at hn
         simp only[bQ,iu]at hn;omega
     refine⟨?_,(cF.tup (n:=0) (.cons ?_ (.cons jA .nil))).le (by decide),?_⟩
     · rcases on with⟨rfl,hs⟩|⟨rfl,hn⟩
       · show fE (.str "tool") (.str s)=true
         unfold fE;rw[aC (by decide+kernel),aI (by decide+kernel)];rcases hs with rfl|rfl<;>decide+kernel
       · show fE (.str "mark") (.str s)=true
         unfold fE;rw[aC (by decide+kernel),aC (by decide+kernel)];rw[FG hn];decide+kernel
     ·rcases hw with rfl|rfl<;>exact⟨by decide+kernel,bK _⟩
     · show([.str w,.str s]:List LJ).all eu=true
       rw[jk,jk,uC,Gh];rcases hw with rfl|rfl<;>decide+kernel
abbrev qh:Stmt:=top 38
theorem vT:aV ["_law_bag_here","_law_axes","_law_far","_law_rails","_law_bounds"] ["_law_bag_here"] (aJ qh):=bz (by decide+kernel)
theorem EK(F:FA K mg "_law_machine" qh)(B:bc mg)(aY:au P w K mg base "_law_take" 1 f7):au P w K mg base "_law_machine" 2 (pK K):=by
 refine F.has vT (fun vs H Q E h=>?_) (fun _ _ _ _ _ _=>gO fun _=>rfl) (fun f ah A outer s H vs Q E hr h=>?_)
 · obtain⟨p,rfl,_⟩:=h
   rfl
 · obtain⟨p,rfl,bg,k⟩:=h
   have nd:=vT.nd;refine⟨_,(ai (pS 1 nd (az bX ae (pf aY hr (a7 (pv 0) (a7 ae a8))))) (ai (pS 2 nd (px K (cU (a7 ae (a7 ae a8))) (pf aY hr (a7 (pv 0) (a7 ae a8))))) (ai (pS 3 nd (eM (x:="tuple") (iB K rfl) rfl (B.at "tuple") gu (a7 (fc (N:=["_law_axis","_law_bag_here","_law_far"]) (js:=[none,some 0,some 2]) rfl rfl rfl (gA rfl (B.at "range") (a7 (pv 1) a8)) (fun _ _ _ _ _=>(bA 0 (show List.Nodup (["_law_axis","_law_bag_here","_law_far"]:List Str) by decide+kernel))) (fun _ _ _ _ _=>eL) (fun _ _ _ _ _=>(az bX ae (pf aY hr (a7 (pv 1) (a7 (pv 2) a8)))))) a8))) (ai (pS 4 nd (eM (x:="tuple") (iB K rfl) rfl (B.at "tuple") gu (a7 (fc (N:=["_law_k","_law_bag_here"]) (js:=[none,some 0]) rfl rfl rfl (gA rfl (B.at "range") (a7 ae a8)) (fun _ _ _ _ _=>(bA 0 (jE (by decide)))) (fun _ _ _ _ _=>eL) (fun _ _ _ _ _=>(az bX ae (pf aY hr (a7 (pv 1) (a7 ae a8)))))) a8))) (ao (aF (az (zq K rfl) (az (zq K rfl) (dA (a7 (pv 3) a8)) (pv 4)) (dA (a7 (az bX ae (pf aY hr (a7 (pv 0) (a7 ae a8)))) a8))))))))),?_⟩;refine⟨_,rfl,p,2,rfl,bg,by decide,by decide,fun t0 H1 KI KH b1=>?_⟩;refine⟨_,_,rfl,rfl,?_⟩;refine⟨dQ rfl,fun l H2 nw=>?_⟩;have b2:aA p H1 H2:=.bf b1.bag nw.same;have G8:l≠p:=fun e=>b1.bag.ne (e▸nw.no);refine⟨_,rfl,p,2,rfl,b2.bag,by decide,by decide,fun i H3 i0 i1 b3=>?_⟩;obtain⟨o9,mf,ef⟩:=GF [100,20] i0 i1;have f1:1<=o9/\o9<=100:=by
    rcases aW.mp mf with rfl|mf
    ·exact⟨by decide,by decide⟩
    rcases aW.mp mf with rfl|mf
    ·exact⟨by decide,by decide⟩
    ·exact(cP mf).elim
   refine .inl ⟨l,_,_,_,rfl,rfl,aa.of (b3.same _ _ G8 nw.at'),ef,?_⟩;refine⟨_,rfl,_,rfl,by omega,by omega,fun D H4 n4=>?_⟩;have hN:(2+t0).toNat<=1000:=by omega
   refine tm (2+t0).toNat [some (.ref p),some (.int o9)] n4 b3.bag hN (fun i=>.int (0+(i:Int))) (fun i H5 hi b5=>⟨hi,fun y H6 ⟨e1,e2⟩=>⟨e1,e2⟩⟩) (fun H5 b5=>aD _) (fun z=>1<=z/\z<=100) ?_ ?_
   · intro i H5 Q' hi b5 hq
     refine⟨_,rfl,_,rfl,p,o9,rfl,b5.bag,f1.1,by omega,fun z H6 z0 z1 b6=>?_⟩;exact⟨_,_,rfl,rfl,hq _ _ ⟨by omega,by omega⟩ b6⟩
   intro H5 rs b5 d5 lr pr;refine⟨D,_,rfl,.inl ⟨aa.of d5,fun q H6 n6=>?_⟩⟩;have b6:aA p H5 H6:=.bf b5.bag n6.same;refine⟨3,rfl,by decide,by decide,fun D2 H7 n7=>?_⟩;refine tm 3 [some (.ref p)] n7 b6.bag (by decide) (fun i=>.int (0+(i:Int))) (fun i H8 hi b8=>⟨hi,fun y H9 ⟨e1,e2⟩=>⟨e1,e2⟩⟩) (fun H8 b8=>aD _) (fun z=>1<=z/\z<=50) ?_ ?_
   · intro i H8 Q' hi b8 hq
     refine⟨_,rfl,p,50,rfl,b8.bag,by decide,by decide,fun z H9 z0 z1 b9=>?_⟩;exact⟨_,_,rfl,rfl,hq _ _ ⟨by omega,by omega⟩ b9⟩
   intro H8 bs b8 d8 lb pb;refine⟨D2,_,rfl,.inl ⟨aa.of d8,fun q2 H9 n9=>?_⟩⟩;have b9:aA p H8 H9:=.bf b8.bag n9.same;refine⟨_,rfl,dQ rfl,fun t1 cy cx=>?_⟩;have fQ:aA p H9 cy:=.bf b9.bag cx.same
   match bs,lb,pb,n9 with |[x1,x2,x3],_,pb,n9=>have p1:=pb x1 (.head _);have p2:=pb x2 (.tail _ (.head _));have p3:=pb x3 (.tail _ (.tail _ (.head _)));refine⟨_,rfl,t1,q2,_,_,rfl,rfl,ay.of cx.at',ay.of (cx.same _ _ n9.at'),dQ rfl,fun v1 da f9 tQ=>?_⟩;have jV:aA p cy da:=.bf fQ.bag f9;refine⟨_,rfl,p,100,rfl,jV.bag,by decide,by decide,fun z eT z0 z1 oE=>?_⟩;refine⟨_,_,rfl,rfl,dQ rfl,fun t2 jZ rD=>?_⟩;have tM:aA p eT jZ:=.bf oE.bag rD.same;refine⟨v1,t2,_,_,rfl,rfl,(ay.t (aA.t jV.bag oE) tQ).go rD.same,ay.of rD.at',dQ rfl,fun v2 u5 jq Kq=>?_⟩;have jb:aA p jZ u5:=.bf tM.bag jq;have sq:ay K u5 q (rs.map V.int):=ay.t (aA.t b6.bag (b8.trans (b9.trans (fQ.trans (jV.trans (oE.trans (tM.trans jb))))))) (ay.of n6.at');refine k (.ref v2) rs x1 x2 x3 (1+z) u5 (cw Kq (bS (cw sq (mR rs)) (bS (eD _) (bS (eD _) (bS (eD _) (bS (eD _) cS)))))) ⟨by omega,pr,p1,p2,p3,by omega⟩ (b1.trans (b2.trans (b3.trans (b5.trans (b6.trans (b8.trans (b9.trans (fQ.trans (jV.trans (oE.trans (tM.trans jb)))))))))))
inductive Al(vs:List V)(H:Hp)(Q:VK):Prop |mk (p:_)(h0:vs=[.ref p])(h1:cH H p)(h2:∀z H',aX 0 (.str z)->gb z=true->aA p H H'->Q (.str z) H'):Al vs H Q
def vw(K:LG):Sp:=fun vs H Q _=>Al vs H Q
abbrev qe:Stmt:=top 39
theorem vQ:aV ["_law_bag_here"] ["_law_bag_here"] (aJ qe):=bz (by decide+kernel)
theorem EJ(F:FA K mg "_law_name" qe)(B:bc mg)(aY:au P w K mg base "_law_take" 1 f7):au P w K mg base "_law_name" 2 (vw K):=by
 refine F.has vQ (fun vs H Q E h=>?_) (fun _ _ _ _ _ _=>gO fun _=>rfl) (fun f ah A outer s H vs Q E hr h=>?_)
 · obtain⟨p,rfl,_⟩:=h
   rfl
 · obtain⟨p,rfl,bg,k⟩:=h
   have nd:=vQ.nd;refine⟨_,(ao (aF (kS K rfl aw (a7 (fc (N:=["_law_k","_law_bag_here"]) (js:=[none,some 0]) rfl rfl rfl (gA rfl (B.at "range") (a7 (az bX ae (pf aY hr (a7 (pv 0) (a7 ae a8)))) a8)) (fun _ _ _ _ _=>(bA 0 (jE (by decide)))) (fun _ _ _ _ _=>eL) (fun _ _ _ _ _=>(kR nE aw (pf aY hr (a7 (pv 1) (a7 ae a8))) (fun _ _=>rfl)))) a8)))),?_⟩;refine⟨rfl,?_⟩;refine⟨_,rfl,p,8,rfl,bg,by decide,by decide,fun n H1 n0 n1 b1=>?_⟩;refine⟨_,_,rfl,rfl,_,rfl,by omega,by omega,fun D H2 nD=>?_⟩;refine ze (K:=K) (J:=gQ 0 (1+n).toNat) (p:=p) (H:=H1) (1+n).toNat _ nD b1.bag (by omega) (fun i=>.int (0+(i:Int))) (fun i H3 hi _=>⟨hi,fun y H4 ⟨e,q⟩=>⟨e,q⟩⟩) (fun H3 _=>aD _) (fun _ d=>∃z:Str,d= .str z/\z.length=1/\aG z/\z.cps.toList.all (fun c=>decide (97<=c)&&decide (c<=122))=true) ?_ ?_
   · intro i H3 Q' hi b3 hq
     refine⟨_,rfl,p,26,rfl,b3.bag,by decide,by decide,fun d H4 d0 d1 b4=>?_⟩;have hd:d.toNat<dG.cps.toList.length:=by rw[Km];omega
     refine⟨dG,d,dG.cps.toList[d.toNat],rfl,rfl,by decide+kernel,d9 d0 (fu hd),?_⟩;have F8:aG ⟨#[dG.cps.toList[d.toNat]]⟩:=fun c hc=>by have eQ:c=dG.cps.toList[d.toNat]:=eZ.mp hc;rw[eQ];exact Kk _ (kq hd)
     have F3:(⟨#[dG.cps.toList[d.toNat]]⟩:Str).cps.toList.all (fun c=>decide (97<=c)&&decide (c<=122))=true:=by have:=bU.mp (show dG.cps.toList.all (fun c=>decide (97<=c)&&decide (c<=122))=true by decide+kernel) _ (kq hd);show([dG.cps.toList[d.toNat]]:List Nat).all _=true;rw[jk,uC,uF];exact this
     exact hq _ _ _ ⟨_,rfl,rfl,F8,F3⟩ rfl (bb _) b4
   · intro H3 ys ds b3 d3 r3 l3 nl pd
     obtain⟨zs,rfl,hz⟩:=va ds fun d hd=>by obtain⟨i,hi⟩:=uq.mp hd;exact pd i d hi
     rw[mG r3]at d3;rw[aE]at l3;refine⟨"",D,zs,rfl,rfl,aa.of d3,fun z fH=>by rw[(hz z fH).1];decide,by decide,by omega,?_⟩;exact k _ _ (Er (aG.join (eH (by decide+kernel)) fun a ha=>(hz a ha).2.1)) (FH (by omega) (by omega) fun z fH=>⟨(hz z fH).1,(hz z fH).2.2⟩) (b1.trans b3)
inductive Au(K:LG)(vs:List V)(H:Hp)(Q:VK):Prop |mk (p:Addr)(ax:Nat)(h0:vs=[.ref p,.int ax])(h1:cH H p)(h2:1<=ax)(h3:ax<=3)(h4:∀v d o H',RD K H' v d->ik ax d o->aA p H H'->Q v H'):Au K vs H Q
def vA(K:LG):Sp:=fun vs H Q _=>Au K vs H Q
theorem ik.qU{n:Nat}{d:LJ}(h:oG d):ik n d none:=⟨h.it,(fun _ _ z=>nomatch z),fun _=>h⟩
abbrev qo:Stmt:=top 40
theorem vY:aV ["_law_bag_here","_law_axes","_law_sort","_law_speed","_law_most","_law_steps"] ["_law_bag_here","_law_axes"] (aJ qo):=bz (by decide+kernel)
theorem ET(F:FA K mg "_law_item" qo)(B:bc mg)(aY:au P w K mg base "_law_take" 1 f7)(IM:au P w K mg base "_law_name" 2 (vw K)):au P w K mg base "_law_item" 3 (vA K):=by
 refine F.has vY (fun vs H Q E h=>?_) (fun _ _ _ _ _ _=>dm fun _ _=>rfl) (fun f ah A outer s H vs Q E hr h=>?_)
 · obtain⟨p,ax,rfl,_⟩:=h
   rfl
 · obtain⟨p,ax,rfl,bg,Lz,zG,k⟩:=h
   have nd:=vY.nd;refine⟨_,(ai (pS 2 nd (pf aY hr (a7 (pv 0) (a7 ae a8)))) (ai (aR (aO (eR K rfl hr.units) (pv 2) ae (aP _)) (ao (aF (dA (a7 aw (a7 (az bX ae (pf aY hr (a7 (pv 0) (a7 ae a8)))) a8))))) aU) (ai (aR (aO (eR K rfl hr.units) (pv 2) ae (aP _)) (ao (aF (dA (a7 aw (a7 (px K (cU (a7 aw (a7 aw a8))) (pf aY hr (a7 (pv 0) (a7 ae a8)))) a8))))) aU) (ai (aR (aO (eR K rfl hr.units) (pv 2) ae (aP _)) (ao (aF (dA (a7 aw (a7 (pf IM hr (a7 (pv 0) a8)) a8))))) aU) (ai (pS 3 nd (az bX ae (pf aY hr (a7 (pv 0) (a7 ae a8))))) (ai (pS 4 nd (px K (cU (a7 ae (a7 ae (a7 ae a8)))) (pf aY hr (a7 (pv 0) (a7 ae a8))))) (ai (wC (i0:=5) nd rfl (Or.inl rfl) (N:=["_law_axis","_law_most","_law_bag_here"]) (js:=[none,some 4,some 0]) rfl rfl rfl (gA rfl (B.at "range") (a7 (pv 1) a8)) (fun _ _ _ _ _=>(bA 0 (show List.Nodup (["_law_axis","_law_most","_law_bag_here"]:List Str) by decide+kernel))) (fun _ _ _ _ _=>eL) (fun _ _ _ _ _=>(az qV (pf aY hr (a7 (pv 2) (a7 (az bX (az fg ae (pv 1)) ae) a8))) (pv 1)))) (ai (gz (aR (eE (dS (cm (x:="any") (zJ K rfl rfl) rfl (B.at "any") uh (a7 (pv 5) a8)))) (ao (ju ae (qR (pv 5) (pf aY hr (a7 (pv 0) (a7 (pv 1) a8))) set_list))) aU)) (ao (aF (dA (a7 aw (a7 (eM (x:="tuple") (iB K rfl) rfl (B.at "tuple") gu (a7 (pv 5) a8)) (a7 (pv 3) a8)))))))))))))),?_⟩;refine⟨_,rfl,p,6,rfl,bg,by decide,by decide,fun so H1 s0 s1 b1=>?_⟩;refine⟨_,rfl,.inl ⟨_,_,rfl,rfl,_,rfl,?_⟩⟩;refine bF (fun hc=>?_) (fun hc=>?_)
   · refine⟨_,rfl,p,1000,rfl,b1.bag,by decide,by decide,fun n H2 n0 n1 b2=>?_⟩
     refine⟨_,_,rfl,rfl,dQ rfl,fun t H3 n3=>?_⟩;exact k (.ref t) _ none H3 (cw (ay.of n3.at') (bS (bb _) (bS (eD _) cS))) (.qU (.inl ⟨_,rfl,by omega,by omega⟩)) (b1.trans (b2.trans (.bf b2.bag n3.same)))
   refine⟨_,rfl,.inl ⟨_,_,rfl,rfl,_,rfl,?_⟩⟩;refine bF (fun hc=>?_) (fun hc=>?_)
   · refine⟨dQ rfl,fun c H2 n2=>?_⟩
     have b2:aA p H1 H2:=.bf b1.bag n2.same;have cp:c≠p:=fun z=>b1.bag.ne (z▸n2.no);refine⟨_,rfl,p,2,rfl,b2.bag,by decide,by decide,fun i H3 i0 i1 b3=>?_⟩;have hi:∃z:Str,cN ([.str "up",.str "down"]:List V) i=some (.str z)/\aX 0 (.str z)/\qT "tool" z:=by
      rcases(show i=0\/i=1 by omega)with rfl|rfl
      ·exact⟨"up",rfl,⟨by decide+kernel,by decide+kernel⟩,.inl ⟨rfl,.inl rfl⟩⟩
      ·exact⟨"down",rfl,⟨by decide+kernel,by decide+kernel⟩,.inl ⟨rfl,.inr rfl⟩⟩
     obtain⟨z,ez,eG,El⟩:=hi;refine .inl ⟨c,_,_,_,rfl,rfl,aa.of (b3.same _ _ cp n2.at'),ez,dQ rfl,fun t H4 n4=>?_⟩;exact k (.ref t) _ none H4 (cw (ay.of n4.at') (bS (bb _) (bS (bb _) cS))) (.qU (.inr ⟨_,_,rfl,.inl rfl,eG,El⟩)) (b1.trans (b2.trans (b3.trans (.bf b3.bag n4.same))))
   refine⟨_,rfl,.inl ⟨_,_,rfl,rfl,_,rfl,?_⟩⟩;refine bF (fun hc=>?_) (fun hc=>?_)
   · refine⟨_,rfl,p,rfl,b1.bag,fun z H2 eG nz b2=>⟨dQ rfl,fun t H3 n3=>?_⟩⟩
     exact k (.ref t) _ none H3 (cw (ay.of n3.at') (bS (bb _) (bS (bb _) cS))) (.qU (.inr ⟨_,_,rfl,.inr rfl,eG,.inr ⟨rfl,nz⟩⟩)) (b1.trans (b2.trans (.bf b2.bag n3.same)))
   refine⟨_,rfl,p,20,rfl,b1.bag,by decide,by decide,fun sp H2 p0 p1 b2=>?_⟩;refine⟨_,_,rfl,rfl,?_⟩;refine⟨dQ rfl,fun c H3 n3=>?_⟩;have b3:aA p H2 H3:=.bf b2.bag n3.same;have cp:c≠p:=fun z=>b2.bag.ne (z▸n3.no);refine⟨_,rfl,p,3,rfl,b3.bag,by decide,by decide,fun i H4 i0 i1 b4=>?_⟩;have hm:∃m:Int,cN ([.int 3,.int 20,.int 100]:List V) i=some (.int m)/\1<=m/\m<=100:=by
    rcases(show i=0\/i=1\/i=2 by omega)with rfl|rfl|rfl
    ·exact⟨3,rfl,by decide,by decide⟩
    ·exact⟨20,rfl,by decide,by decide⟩
    ·exact⟨100,rfl,by decide,by decide⟩
   obtain⟨m,em,m1,m2⟩:=hm;refine .inl ⟨c,_,_,_,rfl,rfl,aa.of (b4.same _ _ cp n3.at'),em,?_⟩;have jb:=b1.trans (b2.trans (b3.trans b4));refine⟨_,rfl,_,rfl,by omega,by omega,fun D H5 nD=>?_⟩;refine tm (J:=gQ 0 ax) (p:=p) (H:=H4) ax _ nD jb.bag (by omega) (fun i=>.int (0+(i:Int))) (fun i H3 hi _=>⟨hi,fun y H4 ⟨e,q⟩=>⟨e,q⟩⟩) (fun H3 _=>aD _) (fun z=>(z.natAbs:Int)<=m) ?_ ?_
   · intro i H6 Q' hi b6 hq
     refine⟨_,rfl,_,rfl,_,_,rfl,rfl,.of_left (dZ (by decide) (by decide)),_,_,rfl,rfl,p,2*m+1,rfl,b6.bag,by omega,by omega,fun d H7 d0 d1 b7=>?_⟩;exact⟨_,rfl,_,_,rfl,rfl,hq _ _ (by omega) b7⟩
   intro H6 is b6 d6 l6 zD;have tL:=jb.trans b6;have lp:D≠p:=fun z=>jb.bag.ne (z▸nD.no);have nl:H D=none:=by cases e:H D with |none=>rfl |some o=>have:=jb.same _ _ lp e;rw[nD.no]at this;cases this
   refine⟨fun σ H7=>aA p H H7/\∃(is:List Int),H7 D=some (.lst (is.map V.int))/\zS ax 100 is/\σ=[some (.ref p),some (.int ax),some (.int so),some (.int (1+sp)),some (.int m),some (.ref D)],?_,?_⟩
   · refine⟨_,rfl,D,is,rfl,.inl (aa.of d6),_,rfl,?_⟩
     cases ha:is.any (· !=0)with |false=>
       refine aK ?_;refine⟨_,rfl,_,rfl,_,rfl,p,(ax:Int),rfl,tL.bag,by omega,by omega,fun ix H7 i0 i1 b7=>?_⟩;have d7:=b7.same _ _ lp d6;refine⟨D,_,ix,ix.toNat,rfl,rfl,d7,?_,?_⟩
       ·unfold gc;rw[aI i0,aI (by rw[aE,l6];exact i1)]
       refine⟨?_,is.set ix.toNat 1,?_,⟨?_,?_,?_⟩,rfl⟩
       · have zF:=tL.trans b7
         refine⟨?_,fun b o n e=>?_⟩
         · obtain⟨c',m',e,ok⟩:=zF.bag
           exact⟨c',m',by rw[aL lp.symm];exact e,ok⟩
         ·rw[aL (cn e nl)];exact zF.same b o n e
       ·rw[bR,List.map_set]
       ·rw[List.length_set];exact l6
       · intro z hz
         rcases List.mem_or_eq_of_mem_set hz with h|h
         ·have:=zD z h;omega
         ·rw[h];decide
       ·exact⟨1,List.mem_iff_getElem.mpr ⟨ix.toNat,by rw[List.length_set];omega,by rw[List.getElem_set_self]⟩,by decide⟩ |true=>refine aB ?_;refine⟨tL,is,d6,⟨l6,fun z hz=>by have:=zD z hz;omega,?_⟩,rfl⟩;obtain⟨z,hz,h0⟩:=BB.mp ha;exact⟨z,hz,by simpa using h0⟩
   rintro σ H7 ⟨b7,is,d7,ok,rfl⟩;refine⟨_,rfl,D,_,rfl,.inl ⟨aa.of d7,fun q H8 n8=>?_⟩⟩;refine⟨_,rfl,dQ rfl,fun t H9 n9=>?_⟩;refine k (.ref t) (i5 is (1+sp)) (some (is,1+sp)) H9 (cw (ay.of n9.at') (bS (bb _) (bS (cw (ay.of (n9.same _ _ n8.at')) (mR is)) (bS (eD _) cS)))) ⟨.inl ⟨is,_,rfl,rfl⟩,fun ns sp e=>by cases e;exact⟨ok,by omega,by omega⟩,fun z=>nomatch z⟩ (b7.trans (.bf b7.bag (n8.same.trans n9.same)))
end
end Lw
set_option maxHeartbeats 2000000
namespace Lw
open PySem PySem.Spec PyProof.Rows L2 Ln Wk
open Tm (numS numIn? figs isFig Free)
section
variable {P:LI}{w:World}{K:LG}{mg:Str->Option Value}{base:Heap}
theorem la(sep a:Str)(as:List Str)(h:as≠[]):Txt.join sep (a::as)=a++sep++Txt.join sep as:=by show Builtin.Str.glued sep (a::as)=a++sep++Builtin.Str.glued sep as;rw[ke,ke];cases as with |nil=>exact(h rfl).elim |cons b r=>rfl
theorem join_snoc(sep b:Str):∀(as:List Str),as≠[]->Txt.join sep (as++[b])=Txt.join sep as++sep++b |[],h=>(h rfl).elim |[a],_=>rfl |a::c::r,_=>by have e:=join_snoc sep b (c::r) (by simp);rw[uA,la sep a (c::r++[b]) (by simp),e,la sep a (c::r) (by simp)];simp only[PySem.Str.append_assoc]
theorem rJ(ns:List Int)(sp:Int)(h:ns≠[]):eO (i5 ns sp)=Txt.join ⟨#[32]⟩ ("line"::(ns.map numS++[numS sp])):=by
 have hn:ns.map numS≠[]:=by simpa using h
 rw[nG,<-dP,la _ _ _ (by simp),join_snoc _ _ _ hn];have e:("line ":Str)="line"++" ":=by decide+kernel
 rw[e];unfold hZ;simp only[PySem.Str.append_assoc]
theorem o8{c:Nat}{a b:Str}(ha:Free c a)(hb:Free c b):Free c (a++b):=fun h=>by rw[kh,mi,e9]at h;exact h.elim ha hb
theorem yI{c:Nat}{sep:Str}(hs:Free c sep):∀l:List Str,(∀a∈l,Free c a)->Free c (Txt.join sep l) |[],_=>fun h=>by have e:(Txt.join sep []).cps.toList=[]:=rfl;rw[e]at h;cases h |[x],h=>h x (.head _) |x::y::r,h=>by rw[la _ _ _ (by simp)];exact o8 (o8 (h x (.head _)) hs) (yI hs (y::r) fun a ha=>h a (.tail _ ha))
theorem rg(i:Int):aG (numS i):=fun c hc=>by cases i with |ofNat m=>rw[show(numS (Int.ofNat m)).cps.toList=_ from Tm.ow m]at hc;have:=Tm.gN m c hc;omega |negSucc m=>
   rw[Tm.ou]at hc;rcases aW.mp hc with e|hc
   ·omega
   · have:=Tm.gN (m+1) c hc
     omega
structure zX(n:Nat)(d:LJ):Prop where
 rt:cV n (eO d)=d
 len:(eO d).length<=400
 ok:dn (eO d)
 fr:Free 10 (eO d)
 ti:TI d
 okd:aX 8 d
theorem fm{c:Nat}{z:Str}(h:(z.cps.toList.all fun x=>x !=c)=true):Free c z:=fun hc=>by have:=bU.mp h c hc;simp at this
theorem FJ{c:Nat}{z:Str}(h:gb z=true)(hc:c<97):Free c z:=fun h'=>by unfold gb at h;rw[bQ]at h;have:=bU.mp h.2 c h';unfold nC at this;simp at this;omega
theorem wN{c:Nat}{w s:Str}(h:qT w s)(hc:c=10\/c=32):Free c s:=by
 rcases h with⟨_,rfl|rfl⟩|⟨_,hn⟩
 ·rcases hc with rfl|rfl<;>exact fm (by decide+kernel)
 ·rcases hc with rfl|rfl<;>exact fm (by decide+kernel)
 ·exact FJ hn (by omega)
theorem rB{i:Int}(h:i.natAbs<10^40):nI (numS i)= .int i:=by unfold nI;have:(numS i).length<=41:=uO h;rw[Tm.Fo (by omega)];rfl
theorem FL{ns:List Int}(h:∀z∈ns,z.natAbs<10^40):(ns.map numS).map nI=ns.map PyData.int:=by rw[p8];exact List.map_congr_left fun z hz=>rB (h z hz)
theorem xT{n:Nat}{d:LJ}{ws:List Str}(e:eO d=Txt.join ⟨#[32]⟩ ws)(hn:ws≠[])(hf:∀z∈ws,Free 32 z)(ht:bV ws=d)(hi:dE n d=true):cV n (eO d)=d:=by unfold cV;rw[e,dP,Tm.pI hn hf,ht,hi];rfl
theorem ik.tx{n:Nat}{d:LJ}{o:Itm}(h:ik n d o)(n1:1<=n)(n3:n<=3):zX n d:=by have hi:=h.is.1;have mM:aG (" ":Str):=eH (by decide+kernel);have yF:Free 10 (" ":Str):=fm (by decide+kernel);cases o with
 |some q=>
   obtain⟨ns,sp⟩:=q;have ed:=rQ h.it;subst ed;obtain⟨fD,s1,s2⟩:=h.ln ns sp rfl;have hb:∀z∈ns,z.natAbs<10^40:=fun z hz=>by have:=fD.bd z hz;omega
   have hs:sp.natAbs<10^40:=by omega
   have bN:ns≠[]:=fun e=>by rw[e]at fD;have:=fD.len;simp at this;omega
   have ti:TI (i5 ns sp):=.inl ⟨ns,sp,rfl,by rw[fD.len];exact n3,hb,hs⟩;refine⟨xT (rJ ns sp bN) (by simp) (fun z hz=>?_) ?_ hi,xS ti,?_,?_,ti,h.is.2.1⟩
   · rcases aW.mp hz with rfl|hz
     ·exact fm (by decide+kernel)
     · rcases e9.mp hz with hz|hz
       · obtain⟨i,_,rfl⟩:=bM.mp hz
         exact Tm.jD (by decide) (by decide)
       ·rw[eZ.mp hz];exact Tm.jD (by decide) (by decide)
   · obtain⟨x,xs,rfl⟩:∃x xs,ns=x::xs:=by cases ns with|nil=>exact(bN rfl).elim|cons x xs=>exact⟨x,xs,rfl⟩
     have e1:(x::xs).map numS++[numS sp]=numS x::(xs.map numS++[numS sp]):=rfl;have e2:(numS x::(xs.map numS++[numS sp])).map nI=(x::xs).map PyData.int++[.int sp]:=by rw[<-e1,dJ,FL hb];show _++[nI (numS sp)]=_;rw[rB hs]
     rw[e1,mz,e2,dc,aE,List.length_singleton,List.take_left' (by simp),uv,Bv,List.getLast?_singleton];rfl
   · rw[rJ ns sp bN,<-dP]
     refine aG.join mM fun a ha=>?_;rcases aW.mp ha with rfl|ha
     ·exact eH (by decide+kernel)
     · rcases e9.mp ha with ha|ha
       · obtain⟨i,_,rfl⟩:=bM.mp ha
         exact rg i
       ·rw[eZ.mp ha];exact rg sp
   · rw[rJ ns sp bN,<-dP]
     refine yI yF _ fun a ha=>?_;rcases aW.mp ha with rfl|ha
     ·exact fm (by decide+kernel)
     · rcases e9.mp ha with ha|ha
       · obtain⟨i,_,rfl⟩:=bM.mp ha
         exact Tm.jD (by decide) (by decide)
       ·rw[eZ.mp ha];exact Tm.jD (by decide) (by decide) |none=>
   have key:∀(w y:Str)(u:LJ),d= .tuple [.str w,u]->eO d=w++" "++y->w≠"line"->(if w="wait" then nI y else .str y)=u->Free 32 w->Free 32 y->Free 10 w->Free 10 y->aG w->aG y->TI d->zX n d:=fun w y u e1 e2 hw hu f1 f2 f3 f4 o1 o2 ti=>by
    have ej:eO d=Txt.join ⟨#[32]⟩ [w,y]:=by rw[e2,<-dP];rfl
    refine⟨xT ej (by simp) (fun z hz=>?_) ?_ hi,xS ti,?_,?_,ti,h.is.2.1⟩
    · simp only[aW,cP,gU]at hz
      rcases hz with rfl|rfl
      ·exact f1
      ·exact f2
    ·rw[iC hw,hu,e1]
    ·rw[e2];exact(o1.app mM).app o2
    ·rw[e2];exact o8 (o8 f3 yF) f4
   rcases h.ot rfl with⟨z,rfl,z1,z2⟩|⟨w,s,rfl,hw,jA,on⟩
   · have hb:z.natAbs<10^40:=by omega
     exact key "wait" (numS z) (.int z) rfl rfl (by decide+kernel) (by rw[aI rfl,rB hb]) (fm (by decide+kernel)) (Tm.jD (by decide) (by decide)) (fm (by decide+kernel)) (Tm.jD (by decide) (by decide)) (eH (by decide+kernel)) (rg z) (.inr (.inl ⟨_,_,rfl,.inl rfl,hb⟩))
   · have hl:s.length<=100:=by
       rcases on with⟨_,rfl|rfl⟩|⟨_,hn⟩
       ·decide+kernel
       ·decide+kernel
       · unfold gb at hn
         simp only[bQ,iu]at hn;omega
     have bN:w≠"line"/\w≠"wait"/\Free 32 w/\Free 10 w/\aG w:=by
      rcases hw with rfl|rfl
      ·exact⟨by decide+kernel,by decide+kernel,fm (by decide+kernel),fm (by decide+kernel),eH (by decide+kernel)⟩
      ·exact⟨by decide+kernel,by decide+kernel,fm (by decide+kernel),fm (by decide+kernel),eH (by decide+kernel)⟩
     exact key w s (.str s) rfl rfl bN.1 (by rw[aC bN.2.1]) bN.2.2.1 (wN on (.inr rfl)) bN.2.2.2.1 (wN on (.inl rfl)) bN.2.2.2.2 (wW jA) (.inr (.inr ⟨_,_,rfl,.inr hw,hl⟩))
end
end Lw
namespace Lw
open PySem PySem.Spec PyProof.Rows L2 Ln Wk PySem.NumText
open Tm (numS numIn? figs isFig Free)
section
variable {P:LI}{w:World}{K:LG}{mg:Str->Option Value}{base:Heap}
def dj(lo hi i:Int):Bool:=decide (lo<=i)&&decide (i<=hi)
theorem yL:∀(cs:List Nat)(a:Nat),a*10^cs.length<=cs.foldl (fun acc c=>acc*10+(c-48)) a |[],a=>by simp |c::cs,a=>by have:=yL cs (a*10+(c-48));rw[List.foldl_cons,ft,Nat.pow_succ];refine bL ?_ this;rw[Nat.mul_comm (10^cs.length) 10,<-Nat.mul_assoc];exact Nat.mul_le_mul_right _ (Nat.le_add_right _ _)
theorem JB{cs:List Nat}(h0:cs[0]? ≠some 48)(hd:AllDigits cs)(hl:5<=cs.length):10000<=digitsVal cs:=by match cs,h0,hd,hl with |[],_,_,hl=>simp at hl |c::r,h0,hd,hl=>have h1:=hd c (.head _);have h2:c≠48:=fun e=>h0 (by rw[e];rfl);have:=yL r (0*10+(c-48));unfold digitsVal;rw[List.foldl_cons];refine bL ?_ this;have h3:10^4<=10^r.length:=Nat.pow_le_pow_right (by decide) (by simpa using hl);calc 10000=1*10^4:=by decide
     _<=_:=Nat.mul_le_mul (by omega) h3
def sg(z:Str):Int:=if z.cps.toList.take 1=[45]then-1 else 1
theorem xk{z:Str}(h1:figs z≠[])(h2:(figs z).all isFig=true)(hl:z.length<=4300):intText? z=some ((digitsVal (figs z):Int)*sg z):=by
 unfold figs at h1 h2⊢;unfold sg;split at h1
 · rename_i r h
   rw[h]at h2⊢;rw[intText_neg h (Tm.jO h2) h1 hl,aI (show List.take 1 (45::r)=[45]from rfl)];simp
 · rename_i h
   split at h2
   · rename_i r h'
     exact(h r h').elim
   · rw[u9 (Tm.jO h2) h1 hl]
     have hn:¬z.cps.toList.take 1=[45]:=fun e=>by cases hz:z.cps.toList with |nil=>exact h1 hz |cons a r=>
        rw[hz]at e;have ea:a=45:=by simpa using e
        exact h r (by rw[hz,ea])
     rw[aC hn];simp
theorem wq{z:Str}:(z.cps.toList.take 1=[45]->z.cps.toList.drop 1=figs z)/\(¬z.cps.toList.take 1=[45]->z.cps.toList=figs z):=by unfold figs;cases hz:z.cps.toList with |nil=>exact⟨fun e=>by simp at e,fun _=>rfl⟩ |cons a r=>
   refine⟨fun e=>?_,fun e=>?_⟩
   · have ea:a=45:=by simpa using e
     subst ea;rfl
   · have ea:a≠45:=fun h=>e (by rw[h];rfl)
     split
     ·rename_i h;simp at h;exact(ea h.1).elim
     ·rfl
theorem xB:("-":Str).cps.toList=[45]:=by decide+kernel
theorem sZ(y:Str)(l:List Nat)(h:y.cps.toList=l):decide (V.str y=V.str "-")=decide (l=[45]):=by
 rw[dy];simp only[iu];refine⟨fun e=>?_,fun e=>?_⟩
 · have:y="-":=by simpa using e
   rw[<-h,this];exact xB
 · have:y="-":=Tm.tf (by rw[h,e];exact xB.symm)
   rw[this]
theorem take1(z:Str):(StrLaws.sliceText z none (some 1)).cps.toList=z.cps.toList.take 1:=uN z 1
theorem FF(n:Nat):decide ((n:Int)<=4)=decide (n<=4):=by rw[dy];simp;omega
inductive Am(vs:List V)(H:Hp)(Q:VK):Prop |mk (z:Str)(lo:Int)(hi:Int)(h0:vs=[.str z,.int lo,.int hi])(h1:z.length<=600)(h2:-9999<=lo)(h3:hi<=9999)(h4:∀H',af H H'->Q (oV ((numIn? z).filter (dj lo hi))) H'):Am vs H Q
def mL:Sp:=fun vs H Q _=>Am vs H Q
abbrev qf:Stmt:=top 44
theorem vR:aV ["_law_word_here","_law_low","_law_high","_law_rest","_law_number"] ["_law_word_here","_law_low","_law_high"] (aJ qf):=bz (by decide+kernel)
theorem EH(F:FA K mg "_law_number_read" qf)(B:bc mg):au P w K mg base "_law_number_read" 1 mL:=by
 refine F.has vR (fun vs H Q E h=>?_) (fun _ _ _ _ _ _=>zL fun _ _ _=>rfl) (fun f ah A outer s H vs Q E hr h=>?_)
 · obtain⟨z,lo,hi,rfl,_⟩:=h
   rfl
 · obtain⟨z,lo,hi,rfl,hl,Hq,Lm,k⟩:=h
   have nd:=vR.nd;have fk:sizeLine=16777216:=by decide
   refine⟨_,(ai (gz (pS 3 nd (iL (aO dh (cK gw (pv 0) cT (cB ae)) aw (aP _)) (cK gw (pv 0) (cB ae) cT) (pv 0)))) (ai (aR (PW.pt (fB (eE (kO g9 g9 ae (cm (x:="len") jU rfl (B.at "len") kf (a7 (pv 3) a8)) ae)) (gy (dS (cm (x:="any") (zI K rfl rfl) rfl (B.at "any") uh (a7 (fc (N:=["_law_sign_here"]) (js:=[none]) rfl rfl rfl (mT (pv 3)) (fun _ _ _ _ _=>(bA 0 (gD _))) (fun _ _ _ _ _=>eL) (fun _ _ _ _ _=>(hU Eb (pv 0) aw (by with_unfolding_all rfl)))) a8)))))) (ao (aF cC)) aU) (ai (aR (PW.pt (mS (aO dh (kR nE (pv 3) ae (fun _ _=>rfl)) aw (aP _)) (qN (aO mX (pv 0) aw (aP _))))) (ao (aF cC)) aU) (ai (pS 4 nd (az fg (eM (x:="int") zv rfl (B.at "int") oX (a7 (pv 3) a8)) (az qV ae (az fg ae (eM (x:="int") JX rfl (B.at "int") oX (a7 (hU dh (cK gw (pv 0) cT (cB ae)) aw (aP _)) a8)))))) (ao (aF (iL (kO g9 g9 (pv 1) (pv 4) (pv 2)) (pv 4) cC))))))),?_⟩;refine⟨fun σ H1=>∃(y:Str)(w5:Option V),σ=[some (.str z),some (.int lo),some (.int hi),some (.str y),w5]/\y.cps.toList=figs z/\af H H1,?_,?_⟩
   · refine⟨_,rfl,_,rfl,z,rfl,by omega,rfl,_,rfl,?_⟩
     rw[sZ _ _ (take1 z)];refine bF (fun h0=>?_) (fun h0=>?_)
     · have h0:=jh h0
       refine⟨_,rfl,_,rfl,z,rfl,by omega,_,_,rfl,?_,af.refl _⟩;exact(pD z 1).trans (wq.1 h0)
     · have h0:=of_decide_eq_false (f6.mpr h0)
       exact⟨_,rfl,_,_,rfl,wq.2 h0,af.refl _⟩
   rintro σ H1 ⟨y,w5,rfl,ey,s1⟩;have Ho:y.length<=z.length:=by
    have e1:y.cps.toList.length=(figs z).length:=by rw[ey]
    have e2:(figs z).length<=z.cps.toList.length:=by
     unfold figs;split
     ·rename_i h;rw[h];simp
     ·rename_i h _;exact aD _
    simpa[Str.length]using bL (uk e1) e2
   have lf:(figs z).length=y.length:=by rw[<-ey];simp[Str.length]
   unfold numIn? at k;rw[<-ey]at k;have ko:∀{o:Option Int},(∀i,o=some i->dj lo hi i=false)->o.filter (dj lo hi)=none:=fun{o} h=>by cases o with |none=>rfl |some i=>simp[Option.filter,h i rfl]
   refine⟨_,rfl,y,rfl,by omega,_,_,rfl,rfl,_,rfl,?_⟩;rw[nA];by_cases h1:1<=y.length
   · rw[br h1]
     refine aK ⟨_,_,rfl,rfl,_,rfl,?_⟩;rw[FF];by_cases h4:y.length<=4
     · rw[br h4]
       refine aB ⟨_,rfl,y,rfl,fun D H2 n2=>?_⟩;refine tj (f:=fun c=>!isFig c) [] n2 (by omega) (fun c H3 Q' hc s3 hq=>?_) (fun H3 s3 d3=>?_)
       · refine⟨_,rfl,c,j8,rfl,rfl,?_⟩
         rw[yO];exact hq _ (af.refl _)
       refine⟨D,_,rfl,aa.of d3,_,rfl,?_⟩;have eb:((y.cps.toList.map fun c=>!isFig c).any id)= !(y.cps.toList.all isFig):=by rw[p9,List.all_eq_not_any_not,Bool.not_not];rfl
       rw[eb];have bN:y.cps.toList≠[]:=fun e=>by
        have:y.length=0:=by simp[Str.length];simpa using e
        omega
       have he:y.cps.toList.isEmpty=false:=by cases h:y.cps.toList with|nil=>exact(bN h).elim|cons=>rfl
       rw[he,Bool.false_or]at k;cases hf:y.cps.toList.all isFig with |false=>rw[hf]at k;exact aK (k H3 (s1.trans s3)) |true=>rw[hf]at k;refine aB ?_;have hn:=xk (z:=z) (by rw[<-ey];exact bN) (by rw[<-ey];exact hf) (by omega);have hy:=u9 (x:=y) (Tm.jO hf) bN (by omega);rw[hn,<-ey]at k;generalize hd:digitsVal y.cps.toList=m at hy k;cases hc:y.cps.toList with |nil=>exact(bN hc).elim |cons c r=>
           refine⟨_,rfl,y,0,c,rfl,rfl,by omega,d9 (gY 0) (by rw[hc];rfl),rfl,_,rfl,?_⟩;have e0:decide (y.cps.toList[0]? =some 48)=decide (V.str ⟨#[c]⟩=V.str "0"):=by
            rw[hc,dy];simp only[iu];refine⟨fun h=>?_,fun h=>?_⟩
            · have h:c=48:=by simpa using h
              rw[h];decide+kernel
            · have h:(⟨#[c]⟩:Str)="0":=by simpa using h
              have h2:[c]=[48]:=(eX (fun z:Str=>z.cps.toList) h).trans (by decide+kernel);simpa using h2
           rw[e0]at k;have e1:(!decide (z="0"))= !decide (V.str z=V.str "0"):=by simp
           rw[e1]at k;have fin:∀H4,af H3 H4->(∀H',af H H'->Q (oV (Option.filter (dj lo hi) (some ((m:Int)*sg z)))) H')->True:=fun _ _ _=>trivial;cases h1:decide (V.str ⟨#[c]⟩=V.str "0")with
           |true=>rw[h1,cj]at k;refine aK ⟨_,rfl,rfl,_,rfl,?_⟩;cases h2: !decide (V.str z=V.str "0")with |true=>rw[h2]at k;exact aK (k H3 (s1.trans s3)) |false=>
               rw[h2]at k;refine aB ⟨_,rfl,y,_,rfl,hy,by omega,?_⟩;refine⟨_,rfl,_,rfl,z,rfl,by omega,rfl,?_⟩;rw[sZ _ _ (take1 z)];refine .inr ⟨_,rfl,_,_,rfl,rfl,.of_left (dZ (by decide) (by decide)),_,_,rfl,rfl,_,_,rfl,rfl,?_,?_⟩
               · split
                 ·exact .of_right (dZ (by decide) (by decide))
                 ·exact .of_right (dZ (by decide) (by decide))
               have es:(1-2*(if decide (z.cps.toList.take 1=[45])=true then(1:Int)else 0))=sg z:=by
                unfold sg;by_cases h:z.cps.toList.take 1=[45]
                ·rw[br h,aI rfl,aI h];rfl
                ·rw[bu h,aC aZ,aC h];rfl
               rw[es];generalize(m:Int)*sg z=i at k⊢;refine⟨_,rfl,_,rfl,_,_,rfl,rfl,_,rfl,?_⟩;have k:Q (oV (bif dj lo hi i then some i else none)) H3:=by have:=k H3 (s1.trans s3);simp only[Option.filter,cond_eq_if]at this⊢;simpa[cond]using this
               unfold dj at k;refine bF (fun g1=>?_) (fun g1=>?_)
               · rw[show decide (lo<=i)=true from g1,cj]at k
                 refine⟨_,rfl,_,_,rfl,rfl,_,rfl,?_⟩;refine bF (fun g2=>?_) (fun g2=>?_)
                 · rw[show decide (i<=hi)=true from g2]at k
                   exact⟨_,rfl,k⟩
                 · rw[show decide (i<=hi)=false from f6.mpr g2]at k
                   exact k
               · rw[show decide (lo<=i)=false from f6.mpr g1,cz]at k
                 exact⟨_,rfl,aB k⟩
           |false=>
             rw[h1,cz]at k;refine aB ⟨_,rfl,y,_,rfl,hy,by omega,?_⟩;refine⟨_,rfl,_,rfl,z,rfl,by omega,rfl,?_⟩;rw[sZ _ _ (take1 z)];refine .inr ⟨_,rfl,_,_,rfl,rfl,.of_left (dZ (by decide) (by decide)),_,_,rfl,rfl,_,_,rfl,rfl,?_,?_⟩
             · split
               ·exact .of_right (dZ (by decide) (by decide))
               ·exact .of_right (dZ (by decide) (by decide))
             have es:(1-2*(if decide (z.cps.toList.take 1=[45])=true then(1:Int)else 0))=sg z:=by
              unfold sg;by_cases h:z.cps.toList.take 1=[45]
              ·rw[br h,aI rfl,aI h];rfl
              ·rw[bu h,aC aZ,aC h];rfl
             rw[es];generalize(m:Int)*sg z=i at k⊢;refine⟨_,rfl,_,rfl,_,_,rfl,rfl,_,rfl,?_⟩;have k:Q (oV (bif dj lo hi i then some i else none)) H3:=by have:=k H3 (s1.trans s3);simp only[Option.filter,cond_eq_if]at this⊢;simpa[cond]using this
             unfold dj at k;refine bF (fun g1=>?_) (fun g1=>?_)
             · rw[show decide (lo<=i)=true from g1,cj]at k
               refine⟨_,rfl,_,_,rfl,rfl,_,rfl,?_⟩;refine bF (fun g2=>?_) (fun g2=>?_)
               · rw[show decide (i<=hi)=true from g2]at k
                 exact⟨_,rfl,k⟩
               · rw[show decide (i<=hi)=false from f6.mpr g2]at k
                 exact k
             · rw[show decide (lo<=i)=false from f6.mpr g1,cz]at k
               exact⟨_,rfl,aB k⟩
     · rw[bu h4]
       refine aK ?_;have hk:=k H1 s1
       suffices hs:∀o:Option Int,o=(bif y.cps.toList.isEmpty|| !y.cps.toList.all isFig then none else bif decide (y.cps.toList[0]? =some 48)&& !decide (z="0")then none else intText? z)->o.filter (dj lo hi)=none by rw[hs _ rfl]at hk;exact hk
       intro o eo;refine ko fun i ei=>?_;rw[ei]at eo;cases hc:y.cps.toList.isEmpty|| !y.cps.toList.all isFig with |true=>rw[hc]at eo;cases eo |false=>
         rw[hc]at eo;rw[Bool.or_eq_false_iff,Bool.not_eq_false']at hc;have bN:figs z≠[]:=fun e=>by rw[ey,e]at hc;exact aZ hc.1.symm
         have yi:(figs z).all isFig=true:=by rw[<-ey];exact hc.2
         have zn:z≠"0":=fun e=>by
          have:z.length=1:=by rw[e];decide+kernel
          omega
         by_cases sM:y.cps.toList[0]? =some 48
         ·rw[br sM,bu zn]at eo;cases eo
         · rw[bu sM,cz,xk bN yi (by omega)]at eo
           have eo:some i=some ((digitsVal (figs z):Int)*sg z):=eo;have e2:=cf eo;have big:=JB (cs:=figs z) (by rw[<-ey];exact sM) (Tm.jO yi) (by omega);unfold dj;unfold sg at e2;split at e2
           ·rw[bu (show¬lo<=i by omega)];rfl
           ·rw[bu (show¬i<=hi by omega),kr]
   · rw[bu h1]
     refine aB ⟨_,rfl,aK ?_⟩;have e:y.cps.toList=[]:=by
      have:y.cps.toList.length=0:=by have:=lf;simp[Str.length]at h1⊢;exact h1
      exact List.length_eq_zero_iff.mp this
     rw[e]at k;exact k H1 s1
end
end Lw
namespace Lw
open PySem PySem.Spec PyProof.Rows L2 Ln Wk PySem.NumText
open Tm (numS numIn? figs isFig Free)
section
variable {P:LI}{w:World}{K:LG}{mg:Str->Option Value}{base:Heap}
def nR(lo hi:Int)(z:Str):Option Int:=(numIn? z).filter (dj lo hi)
theorem rq{lo hi i:Int}{z:Str}:nR lo hi z=some i->nI z= .int i/\bG lo hi (nI z)=true:=fun h=>by unfold nR at h;unfold nI;cases e:numIn? z with |none=>rw[e]at h;cases h |some j=>
   rw[e]at h;have h2:dj lo hi j=true/\j=i:=by simpa[Option.filter]using h
   refine⟨by rw[h2.2];rfl,h2.1⟩
theorem rA{lo hi:Int}{z:Str}:nR lo hi z=none->bG lo hi (nI z)=false:=fun h=>by unfold nR at h;unfold nI;cases e:numIn? z with |none=>rfl |some j=>
   rw[e]at h;have h2:¬dj lo hi j=true:=by simpa[Option.filter]using h
   exact f6.mpr h2
theorem xx{lo hi:Int}:∀(zs:List Str),(zs.any fun z=>(nR lo hi z).isNone)=false->∃is:List Int,zs.map (nR lo hi)=is.map some/\zs.map nI=is.map PyData.int/\(zs.map nI).all (bG lo hi)=true |[],_=>⟨[],rfl,rfl,rfl⟩ |z::zs,h=>by rw[gX,Bool.or_eq_false_iff]at h;obtain⟨is,e1,e2,e3⟩:=xx zs h.2;cases e:nR lo hi z with |none=>rw[e]at h;exact absurd h.1 (by simp) |some i=>obtain⟨a,b⟩:=rq e;refine⟨i::is,by rw[eg,eg,e1,e],by rw[eg,eg,e2,a],?_⟩;rw[eg,jk,b,e3];rfl
theorem FK{lo hi:Int}{zs:List Str}(h:(zs.any fun z=>(nR lo hi z).isNone)=true):(zs.map nI).all (bG lo hi)=false:=by obtain⟨z,hz,e⟩:=BB.mp h;refine f6.mpr fun ha=>?_;have h1:=bU.mp ha (nI z) (bM.mpr ⟨z,hz,rfl⟩);rw[rA (Option.isNone_iff_eq_none.mp e)]at h1;exact aZ h1
theorem xg{H:Hp}:∀(lo hi:Int)(zs:List Str),aj K H (zs.map fun z=>oV (nR lo hi z)) (zs.map fun z=>oD (nR lo hi z)) |_,_,[]=>fA |lo,hi,z::zs=>cJ (jB _) (xg lo hi zs)
theorem xh{H:Hp}{lo hi:Int}:∀{xs:List V}{zs:List Str},aj K H xs (zs.map fun z=>oD (nR lo hi z))->xs=zs.map fun z=>oV (nR lo hi z) |xs,[],h=>h.nil_inv |xs,n::ns,h=>by obtain⟨y,ys,rfl,h1,h2⟩:=h.cons_inv;rw[xf h1,xh h2];rfl
theorem Fh(lo hi:Int)(zs:List Str):bB (zs.map fun z=>oD (nR lo hi z))=true:=dB.mpr fun d hd=>by obtain⟨z,_,rfl⟩:=bM.mp hd;cases nR lo hi z<;>rfl
theorem Fe(o:Option Int):SeqAt.shaped (oD o)=true:=by cases o<;>rfl
theorem Fg(o:Option Int):PyData.eqv (oD o) .none=o.isNone:=by cases o<;>simp[oD,PyData.eqv]
theorem JH(x y:V)(xs:List V):cM (x::(xs++[y])) (some 1) (some (-1))=xs:=by
 unfold cM;have e1:HT.aH (x::(xs++[y])).length 0 (some 1)=1:=by rw[show(some (1:Int))=some ((1:Nat):Int)from rfl,HT.qm];simp
 have e2:HT.aH (x::(xs++[y])).length (x::(xs++[y])).length (some (-1))=xs.length+1:=by have e:=HT.oy (-1) (x::(xs++[y])).length (x::(xs++[y])).length;simp at e⊢;omega
 rw[e1,e2];simp
def kM(n:Nat)(ws:List Str):LJ:=bif dE n (bV ws)then bV ws else .none
theorem my{xs:List Str}{y:Str}:bV ("line"::(xs++[y]))= .tuple [.str "line",.tuple (xs.map nI),nI y]:=by
 obtain⟨r,rs,e⟩:∃r rs,xs++[y]=r::rs:=by cases xs with |nil=>exact⟨_,_,rfl⟩ |cons a b=>exact⟨_,_,rfl⟩
 rw[e,mz,<-e];have l:rs.length=xs.length:=by have:=eX List.length e;simp at this;omega
 rw[l,dJ,List.take_left' (by simp),uv,Bv];rfl
theorem Dk{n:Nat}{xs:List Str}(h:("line"::xs:List Str).length≠n+2):kM n ("line"::xs)= .none:=by
 unfold kM;rcases uy xs with rfl|⟨ys,y,rfl⟩
 ·rw[kD];rfl
 · rw[uB]at h⊢
   rw[my];have:dE n (.tuple [.str "line",.tuple (ys.map nI),nI y])=false:=by
    show(bT "line" (.str "line")&&(gC n (.tuple (ys.map nI))&&bG 1 20 (nI y)))=false;have:gC n (.tuple (ys.map nI))=false:=by
     show(((ys.map nI).length==n&&_)&&_)=false;have:((ys.map nI).length==n)=false:=by rw[beq_eq_false_iff_ne,aE];simp at h;exact h
     rw[this];rfl
    rw[this,cz,kr]
   rw[this];rfl
theorem Dj{n:Nat}{xs:List Str}{y:Str}(h:xs.length=n):kM n ("line"::(xs++[y]))=bif ((xs.map nI).all (bG (-100) 100)&&(xs.map nI).any hX)&&bG 1 20 (nI y)then .tuple [.str "line",.tuple (xs.map nI),nI y]else .none:=by
 unfold kM;rw[my];have:dE n (.tuple [.str "line",.tuple (xs.map nI),nI y])=(((xs.map nI).all (bG (-100) 100)&&(xs.map nI).any hX)&&bG 1 20 (nI y)):=by show(bT "line" (.str "line")&&((((xs.map nI).length==n&&_)&&_)&&bG 1 20 (nI y)))=_;rw[show bT "line" (.str "line")=true by decide+kernel,show((xs.map nI).length==n)=true by rw[cq,aE];exact h,cj,cj]
 rw[this]
inductive Ao(K:LG)(vs:List V)(H:Hp)(Q:VK):Prop |mk (l:Addr)(xs:List Str)(n:Nat)(h0:vs=[.ref l,.int n])(h1:aa K H l (((("line":Str)::xs):List Str).map V.str))(h2:xs.length<=900)(h3:n<=3)(h4:(∀z∈xs,z.length<=600))(h5:∀v H',af H H'->RD K H' v (kM n ("line"::xs))->Q v H'):Ao K vs H Q
def vy(K:LG):Sp:=fun vs H Q _=>Ao K vs H Q
abbrev qj:Stmt:=top 45
theorem vW:aV ["_law_words","_law_axes","_law_steps","_law_speed"] ["_law_words","_law_axes"] (aJ qj):=bz (by decide+kernel)
theorem EM(F:FA K mg "_law_line_read" qj)(B:bc mg)(nY:au P w K mg base "_law_number_read" 1 mL):au P w K mg base "_law_line_read" 2 (vy K):=by
 refine F.has vW (fun vs H Q E h=>?_) (fun _ _ _ _ _ _=>dm fun _ _=>rfl) (fun f ah A outer s H vs Q E hr h=>?_)
 · obtain⟨l,xs,n,rfl,_⟩:=h
   rfl
 · obtain⟨l,xs,n,rfl,hl,hx,hn,hz,k⟩:=h
   have nd:=vW.nd;have fk:sizeLine=16777216:=by decide
   refine⟨_,(ai (aR (aO mX (dg K B (a7 (pv 0) a8)) (az bX (pv 1) ae) (aP _)) (ao (aF cC)) aU) (ai (wC (i0:=2) nd rfl (Or.inl rfl) (N:=["_law_word_here"]) (js:=[none]) rfl rfl rfl (mU K rfl (cK (g8 K rfl) (pv 0) (cB ae) (cB (iK iA ae)))) (fun _ _ _ _ _=>(bA 0 (gD _))) (fun _ _ _ _ _=>eL) (fun _ _ _ _ _=>(pf nY hr (a7 (pv 0) (a7 (iK iA ae) (a7 ae a8)))))) (ai (pS 3 nd (pf nY hr (a7 (px K (pv 0) (iK iA ae)) (a7 ae (a7 ae a8))))) (ai (aR (PW.pt (fB (aO (inD K rfl (hr.pA)) cC (pv 2) (by with_unfolding_all rfl)) (fB (aO mY (pv 3) cC (aP _)) (gy (eE (dS (cm (x:="any") (zJ K rfl rfl) rfl (B.at "any") uh (a7 (pv 2) a8)))))))) (ao (aF cC)) aU) (ao (aF (dA (a7 aw (a7 (eM (x:="tuple") (iB K rfl) rfl (B.at "tuple") gu (a7 (pv 2) a8)) (a7 (pv 3) a8)))))))))),?_⟩;refine⟨_,rfl,l,_,rfl,.inl hl,_,rfl,_,_,rfl,rfl,rfl,_,rfl,?_⟩;rw[aE];by_cases hlen:("line"::xs:List Str).length=n+2
   · have ed:(!decide (V.int (("line"::xs:List Str).length:Int)=V.int ((n:Int)+2)))=false:=by rw[hlen];simp
     rw[ed];refine aB ?_;rcases uy xs with rfl|⟨ys,y,rfl⟩
     ·simp at hlen
     rw[uB]at*;have ln:ys.length=n:=by simp at hlen;exact hlen
     rw[Dj ln]at k;have cY:aa K H l (V.str "line"::(ys.map V.str++[V.str y])):=by simpa using hl
     refine⟨_,rfl,_,rfl,1,rfl,_,rfl,l,_,rfl,.inl ⟨cY,fun q H1 n1=>?_⟩⟩;rw[JH]at n1;have GP:∀z∈ys,z.length<=600:=fun z h=>hz z (p7 _ h);refine⟨q,rfl,⟨_,aa.of n1.at'⟩,fun D H2 n2=>?_⟩;refine zd (K:=K) (ds:=ys.map fun z=>oD (nR (-100) 100 z)) _ (aa.of n1.at') n2 (by simp) (by simp;omega) (Fh _ _ _) ?_ ?_
     · intro i x d H3 Q' ex ed s3 hq
       rw[cg]at ex ed;obtain⟨z,ez,rfl⟩:=md.mp ex;rw[ez]at ed;cases ed;exact⟨_,rfl,100,rfl,z,-100,100,rfl,GP z (fq ez),by decide,by decide,fun H4 s4=>hq _ _ s4 (jB _)⟩
     intro H3 vs s3 d3 r3;have ev:=xh r3;subst ev;have dz:=n1.same.trans s3;refine⟨_,rfl,1,rfl,.inl ⟨l,_,-1,.str y,rfl,rfl,dz.seq cY,zH (by rw[<-uA,Bv];rfl),?_⟩⟩;refine⟨y,1,20,rfl,hz y (by simp),by decide,by decide,fun H4 s4=>?_⟩;have d4:=s4 _ _ d3;have jq:=dz.trans s4;refine⟨_,rfl,D,_,.none,ys.map fun z=>oD (nR (-100) 100 z),rfl,aa.of d4,df,xg _ _ _,rfl,fun e he=>?_,_,rfl,?_⟩
     · obtain⟨z,_,rfl⟩:=bM.mp he
       exact Fe _
     have ea:((ys.map fun z=>oD (nR (-100) 100 z)).any fun e=>PyData.eqv e .none)=ys.any fun z=>(nR (-100) 100 z).isNone:=by rw[p9];congr 1;funext z;exact Fg _
     rw[aC aZ,ea];cases nS:ys.any fun z=>(nR (-100) 100 z).isNone with |true=>rw[FK nS]at k;exact aK (aK (k _ _ jq df)) |false=>
       obtain⟨is,e1,e2,e3⟩:=xx ys nS;rw[e3,cj,e2]at k;have eV:(ys.map fun z=>oV (nR (-100) 100 z))=is.map V.int:=by
        have:(ys.map fun z=>oV (nR (-100) 100 z))=(ys.map (nR (-100) 100)).map oV:=by rw[p8];rfl
        rw[this,e1,p8];rfl
       rw[eV]at d4;refine aB ⟨_,rfl,rfl,_,rfl,?_⟩;have ey:(numIn? y).filter (dj 1 20)=nR 1 20 y:=rfl;rw[ey];cases hy:nR 1 20 y with |none=>rw[rA hy,kr]at k;exact aK (aK (k _ _ jq df)) |some sp=>
         obtain⟨a1,a2⟩:=rq hy;rw[a2,uF,a1]at k;refine aB ⟨_,rfl,D,is,rfl,.inl (aa.of d4),_,rfl,?_⟩;have en:(is.map PyData.int).any hX=is.any (· !=0):=by rw[p9];rfl
         rw[en]at k;cases ha:is.any (· !=0)with |false=>rw[ha]at k;exact aK (k _ _ jq df) |true=>rw[ha]at k;refine aB ⟨_,rfl,D,_,rfl,.inl ⟨aa.of d4,fun t H5 n5=>?_⟩⟩;refine⟨_,rfl,by show 3<=sizeLine;omega,fun p H6 n6=>?_⟩;exact k _ _ ((jq.trans n5.same).trans n6.same) (cw (ay.of n6.at') (cJ (bb _) (cJ (cw (ay.of (n6.same _ _ n5.at')) (mR is)) (cJ (eD _) fA))))
   · have ed:(!decide (V.int (("line"::xs:List Str).length:Int)=V.int ((n:Int)+2)))=true:=by rw[pj,decide_eq_false_iff_not];intro e;injection e with e;exact hlen (by omega)
     rw[ed,Dk hlen]at*;exact aK (k _ _ (af.refl _) df)
end
end Lw
namespace Lw
open PySem PySem.Spec PyProof.Rows L2 Ln Wk PySem.NumText
open Tm (numS numIn? figs isFig Free)
section
variable {P:LI}{w:World}{K:LG}{mg:Str->Option Value}{base:Heap}
theorem rC(z:Str):dC (nI z)=true:=by unfold nI;cases numIn? z<;>rfl
theorem C8(ws:List Str):dC (bV ws)=true:=by match ws with
 |[]=>rfl |x::rest=>
   by_cases hx:x="line"
   · subst hx
     rcases uy rest with rfl|⟨ys,y,rfl⟩
     ·rw[kD];rfl
     · rw[uB,my]
       have h1:bB (ys.map nI)=true:=dB.mpr fun d hd=>by obtain⟨z,_,rfl⟩:=bM.mp hd;exact rC z
       simp[dC,bB,h1,rC]
   ·match rest with
     |[]=>rw[gZ hx (by simp)];rfl |[r]=>
       rw[iC hx];split
       ·simp[dC,bB,rC]
       ·simp[dC,bB] |_::_::_=>rw[gZ hx (by simp)];rfl
theorem rP(n:Nat)(z:Str):dC (cV n z)=true:=by unfold cV;cases dE n (bV (Txt.split z " "))with |true=>exact C8 _ |false=>rfl
theorem Kp:("a":Str).cps.toList=[97]:=by decide+kernel
theorem BF:("z":Str).cps.toList=[122]:=by decide+kernel
theorem jm{a b:Str}:decide (V.str a=V.str b)=decide (a=b):=by rw[dy];simp
theorem GB(z x:Str):bT z (.str x)=decide (x=z):=by show(x==z)=_;rw[dy];simp
inductive Aw(K:LG)(vs:List V)(H:Hp)(Q:VK):Prop |mk (z:Str)(n:Nat)(h0:vs=[.str z,.int n])(h1:z.length<=600)(h2:dn z)(h3:n<=3)(h4:∀v H',af H H'->RD K H' v (cV n z)->Q v H'):Aw K vs H Q
def pN(K:LG):Sp:=fun vs H Q _=>Aw K vs H Q
abbrev qt:Stmt:=top 46
theorem wc:aV ["_law_text_here","_law_axes","_law_words","_law_number","_law_letters"] ["_law_text_here","_law_axes"] (aJ qt):=bz (by decide+kernel)
theorem EV(F:FA K mg "_law_item_read" qt)(B:bc mg)(nY:au P w K mg base "_law_number_read" 1 mL)(IP:au P w K mg base "_law_line_read" 2 (vy K)):au P w K mg base "_law_item_read" 3 (pN K):=by
 refine F.has wc (fun vs H Q E h=>?_) (fun _ _ _ _ _ _=>dm fun _ _=>rfl) (fun f ah A outer s H vs Q E hr h=>?_)
 · obtain⟨z,n,rfl,_⟩:=h
   rfl
 · obtain⟨z,n,rfl,hz,tz,hn,k⟩:=h
   have nd:=wc.nd;have fk:sizeLine=16777216:=by decide
   have fh:∀y∈Txt.split z " ",y.length<=600:=fun y hy=>by rw[dP]at hy;have:=split_le hy;omega
   have jH:∀y∈Txt.split z " ",dn y:=fun y hy=>by rw[dP]at hy;exact hJ tz hy
   have jI:=split_len z " ";refine⟨_,(ai (pS 2 nd (jx K rfl (pv 0) (a7 aw a8))) (ai (aR (aO dh (px K (pv 2) ae) aw (aP _)) (ao (aF (pf IP hr (a7 (pv 2) (a7 (pv 1) a8))))) aU) (ai (aR (aO mX (dg K B (a7 (pv 2) a8)) ae (aP _)) (ao (aF cC)) aU) (ai (aR (aO dh (px K (pv 2) ae) aw (aP _)) (ai (pS 3 nd (pf nY hr (a7 (px K (pv 2) ae) (a7 ae (a7 ae a8))))) (ao (aF (iL (aO mY (pv 3) cC (aP _)) cC (dA (a7 aw (a7 (pv 3) a8))))))) aU) (ai (aR (aO dh (px K (pv 2) ae) aw (aP _)) (ao (aF (iL (aO (inD K rfl (hr.pA)) (px K (pv 2) ae) (cU (a7 aw (a7 aw a8))) (by with_unfolding_all rfl)) (dA (a7 aw (a7 (px K (pv 2) ae) a8))) cC))) aU) (ai (pS 4 nd (dg K B (a7 (fc (N:=["_law_sign_here"]) (js:=[none]) rfl rfl rfl (mT (px K (pv 2) ae)) (fun _ _ _ _ _=>(bA 0 (gD _))) (fun _ _ _ _ _=>(DH (kO wO wO aw (pv 0) aw))) (fun _ _ _ _ _=>(pv 0))) a8))) (ai (aR (PW.pt (mS (aO dh (px K (pv 2) ae) aw (aP _)) (mS (kO g9 g9 ae (cm (x:="len") jU rfl (B.at "len") kf (a7 (px K (pv 2) ae) a8)) ae) (qN (aO dh (pv 4) (cm (x:="len") jU rfl (B.at "len") kf (a7 (px K (pv 2) ae) a8)) (aP _)))))) (ao (aF (dA (a7 aw (a7 (px K (pv 2) ae) a8))))) aU) (ao (aF cC))))))))),?_⟩;refine⟨_,rfl,rfl,z," ",rfl,rfl,by decide+kernel,by omega,fun l H1 n1=>?_⟩;obtain⟨x,ws,ew⟩:∃x ws,Txt.split z " "=x::ws:=by cases e:Txt.split z " " with |nil=>exact(Tm.kI _ _ e).elim |cons x ws=>exact⟨x,ws,rfl⟩
   unfold cV at k;rw[ew]at n1 fh jH jI k;rw[ft]at jI;have a1:=n1.at';rw[eg]at a1;have s1:=n1.same;have w0:cN (V.str x::ws.map V.str) 0=some (V.str x):=d9 (gY 0) rfl;refine⟨_,rfl,.inl ⟨l,_,0,.str x,rfl,rfl,aa.of a1,w0,rfl,_,rfl,?_⟩⟩;rw[jm];by_cases hx:x="line"
   · subst hx
     rw[br rfl];refine aK ⟨_,rfl,_,rfl,l,ws,n,rfl,aa.of n1.at',by omega,hn,fun y hy=>fh y (.tail _ hy),fun v H2 s2 r2=>?_⟩;exact k _ _ (s1.trans s2) r2
   rw[bu hx];refine aB ⟨_,rfl,l,_,rfl,.inl (aa.of a1),rfl,_,rfl,?_⟩;by_cases h1:ws.length=1
   ·match ws,h1 with
     |[r],_=>
       have nN:r.length<=600:=fh r (by simp);refine aB ?_;rw[iC hx]at k;have ki:dE n (.tuple [.str x,if x="wait" then nI r else .str r])=fE (.str x) (if x="wait" then nI r else .str r):=rfl;rw[ki]at k;unfold fE at k;simp only[GB]at k;have LA:cN ([.str x,.str r]:List V) 1=some (V.str r):=rfl;refine⟨_,rfl,.inl ⟨l,_,0,.str x,rfl,rfl,aa.of a1,rfl,rfl,_,rfl,?_⟩⟩;rw[jm];by_cases hw:x="wait"
       · rw[br hw]
         simp only[aI hw,br hw,iq]at k;refine aK ⟨_,rfl,.inl ⟨l,_,1,.str r,rfl,rfl,aa.of a1,rfl,?_⟩⟩;refine⟨r,1,1000,rfl,nN,by decide,by decide,fun H2 s2=>?_⟩;have ey:(numIn? r).filter (dj 1 1000)=nR 1 1000 r:=rfl;rw[ey];refine⟨_,rfl,rfl,_,rfl,?_⟩;cases hy:nR 1 1000 r with |none=>rw[rA hy]at k;exact aK (k _ _ (s1.trans s2) df) |some sp=>obtain⟨b1,b2⟩:=rq hy;rw[b2,b1]at k;refine aB ⟨_,rfl,by show 2<=sizeLine;omega,fun p H6 n6=>?_⟩;subst hw;exact k _ _ ((s1.trans s2).trans n6.same) (cw (ay.of n6.at') (cJ (bb _) (cJ (eD _) fA)))
       · rw[bu hw]
         simp only[aC hw,bu hw,BD,if_false]at k;refine aB ⟨_,rfl,.inl ⟨l,_,0,.str x,rfl,rfl,aa.of a1,rfl,rfl,_,rfl,?_⟩⟩;rw[jm];by_cases ht:x="tool"
         · rw[br ht]
           simp only[br ht,iq]at k;refine aK ⟨_,rfl,.inl ⟨l,_,1,.str r,rfl,rfl,aa.of a1,rfl,?_⟩⟩;refine⟨by show 2<=sizeLine;omega,fun q H2 n2=>?_⟩;refine⟨q,_,.str r,[.str "up",.str "down"],rfl,aa.of n2.at',bb _,cJ (bb _) (cJ (bb _) fA),hR (iQ (jH r (by simp))),fun e he=>?_,_,rfl,?_⟩
           · rcases aW.mp he with rfl|he
             ·decide+kernel
             rcases aW.mp he with rfl|he
             ·decide+kernel
             ·exact(cP he).elim
           rw[aC aZ];have ea:([.str "up",.str "down"]:List LJ).any (fun e=>PyData.eqv e (.str r))=lh (.str r):=by rw[gX,gX,List.any_nil,oh,oh,Bool.or_false];rfl
           rw[ea];cases hs:lh (.str r)with |false=>rw[hs]at k;exact aB (k _ _ (s1.trans n2.same) df) |true=>rw[hs]at k;refine aK ⟨_,rfl,.inl ⟨l,_,1,.str r,rfl,rfl,aa.of (n2.same _ _ a1),rfl,?_⟩⟩;refine⟨by show 2<=sizeLine;omega,fun p H6 n6=>?_⟩;subst ht;exact k _ _ ((s1.trans n2.same).trans n6.same) (cw (ay.of n6.at') (cJ (bb _) (cJ (bb _) fA)))
         · rw[bu ht]
           simp only[bu ht,BD,if_false]at k;refine aB ⟨_,rfl,.inl ⟨l,_,1,.str r,rfl,rfl,aa.of a1,rfl,?_⟩⟩;refine⟨r,rfl,fun D H2 n2=>?_⟩;refine JL eN [] n2 (by omega) (fun c H3 Q' s3 hq=>?_) (fun c H3 Q' s3 hq=>⟨_,rfl,hq _ (af.refl _)⟩) (fun H3 s3 d3=>?_)
           · have hq:=hq H3 (af.refl _)
             unfold eN at hq;refine⟨_,rfl,_,_,rfl,rfl,_,rfl,?_⟩;rw[Kp,vD];refine bF (fun g1=>?_) (fun g1=>?_)
             · rw[show decide (97<=c)=true from g1,cj]at hq
               refine⟨_,_,rfl,rfl,_,rfl,?_⟩;rw[BF,vD];exact hq
             · rw[show decide (97<=c)=false from f6.mpr g1,cz]at hq
               exact⟨_,rfl,hq⟩
           refine⟨D,_,rfl,.inl (aa.of d3),?_⟩;have a3:=s3 _ _ a1;have dz:=s1.trans s3;refine⟨_,rfl,.inl ⟨l,_,0,.str x,rfl,rfl,aa.of a3,rfl,rfl,_,rfl,?_⟩⟩;rw[jm];cases hm:decide (x="mark")with |false=>rw[hm]at k;exact aB (aB (k _ _ dz df)) |true=>have Hm:=jh hm;rw[hm,cj]at k;have k:∀v H',af H H'->RD K H' v (bif (decide (1<=r.length)&&decide (r.length<=8))&&r.cps.toList.all eN then .tuple [.str x,.str r]else .none)->Q v H':=k;refine aK ⟨_,rfl,.inl ⟨l,_,1,.str r,rfl,rfl,aa.of a3,rfl,r,rfl,by omega,?_⟩⟩;refine⟨_,_,rfl,rfl,_,rfl,?_⟩;rw[nA];cases g1:decide (1<=r.length)with |false=>rw[g1,cz]at k;exact aB ⟨_,rfl,aB (aB (k _ _ dz df))⟩ |true=>rw[g1,cj]at k;refine aK ⟨_,_,rfl,rfl,_,rfl,?_⟩;rw[xu];cases g2:decide (r.length<=8)with |false=>rw[g2,cz]at k;exact aB (aB (k _ _ dz df)) |true=>
                 rw[g2,cj]at k;refine aK ⟨_,rfl,_,rfl,.inl ⟨l,_,1,.str r,rfl,rfl,aa.of a3,rfl,r,rfl,by omega,rfl,_,rfl,?_⟩⟩;have ef:decide (V.int ((((r.cps.toList.filter eN).map fun c=>V.str ⟨#[c]⟩).length:Nat):Int)=V.int (r.length:Int))=r.cps.toList.all eN:=by
                  rw[aE,dy,iu];have hl:r.length=r.cps.toList.length:=by simp[Str.length]
                  refine⟨fun e=>?_,fun e=>?_⟩
                  · injection e with e
                    have e:(r.cps.toList.filter eN).length=r.cps.toList.length:=by omega
                    exact bU.mpr (KA.mp e)
                  · have e:=KA.mpr (bU.mp e)
                    rw[e,hl]
                 rw[ef];cases g3:r.cps.toList.all eN with |false=>rw[g3]at k;exact aB (k _ _ dz df) |true=>rw[g3]at k;refine aK ⟨_,rfl,.inl ⟨l,_,1,.str r,rfl,rfl,aa.of a3,rfl,?_⟩⟩;refine⟨by show 2<=sizeLine;omega,fun p H6 n6=>?_⟩;subst Hm;exact k _ _ (dz.trans n6.same) (cw (ay.of n6.at') (cJ (bb _) (cJ (bb _) fA)))
   · have ed:(!decide (V.int ((V.str x::ws.map V.str).length:Int)=V.int 2))=true:=by rw[pj,decide_eq_false_iff_not];intro e;injection e with e;simp at e;omega
     rw[ed];rw[gZ hx h1]at k;exact aK (k _ _ s1 df)
end
end Lw
namespace Lw
open PySem PySem.Spec PyProof.Rows L2 Ln Wk
open Tm (numS numIn? figs isFig Free)
section
variable {P:LI}{w:World}{K:LG}{mg:Str->Option Value}{base:Heap}
theorem xl{i:Int}(h:i.natAbs<10^3):(numS i).length<=4:=by show(Str.ofString (toString i)).length<=4;rw[Bk];exact Bi (k:=3) (by decide) h
theorem Fp{i:Int}(h:i.natAbs<10^4):(numS i).length<=5:=by show(Str.ofString (toString i)).length<=5;rw[Bk];exact Bi (k:=4) (by decide) h
theorem cO(a b:Str):(a++b).length=a.length+b.length:=by show(a++b).cps.size=a.cps.size+b.cps.size;rw[kh,Array.size_append]
theorem Gw{n:Nat}{d:LJ}{o:Itm}(h:ik n d o)(n3:n<=3):(eO d).length<=25:=by
 have e1:Str.length " "=1:=by decide+kernel
 cases o with |some q=>obtain⟨ns,sp⟩:=q;have ed:=rQ h.it;subst ed;obtain⟨fD,s1,s2⟩:=h.ln ns sp rfl;rw[nG,cO,cO,cO,e1,show Str.length "line "=5 by decide+kernel];have h1:=xl (i:=sp) (by omega);have h2:=rO " " (B:=4) (ns.map numS) (fun z hz=>by obtain⟨i,hi,rfl⟩:=bM.mp hz;have:=fD.bd i hi;exact xl (by omega));rw[aE,e1,fD.len]at h2;have h3:(hZ ns).length<=n*(4+1):=h2;omega |none=>
   rcases h.ot rfl with⟨m,rfl,m1,m2⟩|⟨w,s,rfl,hw,_,hs⟩
   · show(Str.ofString "wait"++" "++numS m).length<=25
     rw[cO,cO,e1,show Str.length "wait"=4 by decide+kernel];have:=Fp (i:=m) (by omega);omega
   · show(w++" "++s).length<=25
     have lw:w.length<=4:=by rcases hw with rfl|rfl<;>decide+kernel
     have ls:s.length<=8:=by
      rcases hs with⟨_,rfl|rfl⟩|⟨_,hn⟩
      ·decide+kernel
      ·decide+kernel
      · unfold gb at hn
        simp only[bQ,iu]at hn;exact hn.1.2
     rw[cO,cO,e1];omega
theorem Em(c:Nat):(⟨#[c]⟩:Str).length=1:=rfl
theorem iU(c:Nat):∀(l:List Str),l≠[]->(Txt.join ⟨#[c]⟩ l).length+1=(l.map fun z=>z.length+1).sum |[],h=>(h rfl).elim |[x],_=>by show x.length+1=_;simp |x::y::r,_=>by rw[la _ _ _ (by simp),cO,cO,Em,eg,p4,<-iU c (y::r) (by simp)];omega
theorem join_nil(c:Nat):(Txt.join ⟨#[c]⟩ []).length=0:=rfl
theorem xQ(c:Nat){a b:List Str}{y x:Str}{N:Nat}(h:x.length<=y.length+N):(Txt.join ⟨#[c]⟩ (a++[x]++b)).length<=(Txt.join ⟨#[c]⟩ (a++y::b)).length+N:=by have e1:=iU c (a++[x]++b) (by simp);have e2:=iU c (a++y::b) (by simp);simp only[dJ,List.sum_append,eg,p4,List.map_nil,List.sum_nil]at e1 e2;omega
theorem Gq(c:Nat){a b:List Str}{y x:Str}:(Txt.join ⟨#[c]⟩ (a++[x]++y::b)).length<=(Txt.join ⟨#[c]⟩ (a++y::b)).length+x.length+1:=by have e1:=iU c (a++[x]++y::b) (by simp);have e2:=iU c (a++y::b) (by simp);simp only[dJ,List.sum_append,eg,p4,List.map_nil,List.sum_nil]at e1 e2;omega
theorem Gr(c:Nat){a b:List Str}{y:Str}:(Txt.join ⟨#[c]⟩ (a++b)).length<=(Txt.join ⟨#[c]⟩ (a++y::b)).length:=by
 have e2:=iU c (a++y::b) (by simp);by_cases h:a++b=[]
 ·rw[h,join_nil];exact bK _
 · have e1:=iU c (a++b) h
   simp only[dJ,List.sum_append,eg,p4]at e1 e2;omega
theorem vg(z:Str)(c:Nat):Txt.join ⟨#[c]⟩ (Txt.split z ⟨#[c]⟩)=z:=(ke _ _).trans (StrLaws.join_split z ⟨#[c]⟩)
def iG:Str:=" !\"#$&'()*+,-./0123456789:;<=>?@ABCDEFGHIJKLMNOPQRSTUVWXYZ[\\]^_`abcdefghijklmnopqrstuvwxyz{|}~"
theorem CY:iG.length=94:=by decide+kernel
theorem CZ:(iG++("\n":Str)).cps.toList.all (fun c=>decide (c<0x110000))=true:=by decide+kernel
inductive Ag(vs:List V)(H:Hp)(Q:VK):Prop |mk (p:_)(h0:vs=[.ref p])(h1:cH H p)(h2:∀c H',c<0x110000->aA p H H'->Q (.str ⟨#[c]⟩) H'):Ag vs H Q
def vp:Sp:=fun vs H Q _=>Ag vs H Q
abbrev qa:Stmt:=top 43
theorem vM:aV ["_law_bag_here","_law_signs"] ["_law_bag_here"] (aJ qa):=bz (by decide+kernel)
theorem EE(F:FA K mg "_law_sign" qa)(B:bc mg)(aY:au P w K mg base "_law_take" 1 f7):au P w K mg base "_law_sign" 2 vp:=by
 refine F.has vM (fun vs H Q E h=>?_) (fun _ _ _ _ _ _=>gO fun _=>rfl) (fun f ah A outer s H vs Q E hr h=>?_)
 · obtain⟨p,rfl,_⟩:=h
   rfl
 · obtain⟨p,rfl,bg,k⟩:=h
   have nd:=vM.nd;have fk:sizeLine=16777216:=by decide
   refine⟨_,(ai (pS 1 nd aw) (ao (aF (kR nE (az eF (pv 1) aw) (pf aY hr (a7 (pv 0) (a7 (az bX (cm (x:="len") jU rfl (B.at "len") kf (a7 (pv 1) a8)) ae) a8))) (fun _ _=>rfl))))),?_⟩;refine⟨_,rfl,_,_,rfl,rfl,by decide+kernel,?_⟩;refine⟨_,rfl,_,rfl,_,rfl,by decide+kernel,_,_,rfl,rfl,?_⟩;have hl:(iG++("\n":Str)).cps.toList.length=95:=by
    have:(iG++("\n":Str)).length=95:=by decide+kernel
    simpa[Str.length]using this
   refine⟨p,95,by show[V.ref p,V.int ((iG.length:Int)+1)]=_;rw[CY];rfl,bg,by decide,by decide,fun d H1 d0 d1 b1=>?_⟩;have hd:d.toNat<(iG++("\n":Str)).cps.toList.length:=by rw[hl];omega
   refine⟨iG++"\n",d,_,rfl,rfl,by decide+kernel,d9 d0 (fu hd),k _ _ ?_ b1⟩;exact jh (bU.mp CZ _ (kq hd))
inductive A7(vs:List V)(H:Hp)(Q:VK):Prop |mk (p:Addr)(z:Str)(h0:vs=[.ref p,.str z])(h1:cH H p)(h2:z.length<=600)(h3:aG z)(h4:∀z' H',z'.length<=z.length+9->aG z'->aA p H H'->Q (.str z') H'):A7 vs H Q
def vj(K:LG):Sp:=fun vs H Q _=>A7 vs H Q
def ku(z:Str):List Str:=(["0","-0","0"++z,"-"++z,z++"0","1001","21","101","-101","line","wait","tool"]:List Str)++(["mark","up","down","","+1","1_0","left","abcdefghi","Up","x","1.0","a1"]:List Str)
theorem BH(z:Str):(ku z).length=24:=rfl
theorem BG{z:Str}(h:aG z):∀y∈ku z,y.length<=z.length+9/\aG y:=by
 have lit:∀y:Str,y.length<=9->aG y->y.length<=z.length+9/\aG y:=fun y h1 h2=>⟨by omega,h2⟩;intro y hy;unfold ku at hy;simp only[uA,List.nil_append,aW,cP,gU]at hy;rcases hy with rfl|rfl|rfl|rfl|rfl|rfl|rfl|rfl|rfl|rfl|rfl|rfl|rfl|rfl|rfl|rfl|rfl|rfl|rfl|rfl|rfl|rfl|rfl|rfl
 case inr.inr.inl=>exact⟨by rw[cO,show Str.length "0"=1 by decide+kernel];omega,(eH (by decide+kernel)).app h⟩
 case inr.inr.inr.inl=>exact⟨by rw[cO,show Str.length "-"=1 by decide+kernel];omega,(eH (by decide+kernel)).app h⟩
 case inr.inr.inr.inr.inl=>exact⟨by rw[cO,show Str.length "0"=1 by decide+kernel];omega,h.app (eH (by decide+kernel))⟩
 all_goals exact lit _ (by decide+kernel) (eH (by decide+kernel))
abbrev pU:Stmt:=top 48
theorem vG:aV ["_law_bag_here","_law_word_here","_law_some"] ["_law_bag_here","_law_word_here"] (aJ pU):=bz (by decide+kernel)
theorem Ew(F:FA K mg "_law_word" pU)(B:bc mg)(aY:au P w K mg base "_law_take" 1 f7):au P w K mg base "_law_word" 2 (vj K):=by
 refine F.has vG (fun vs H Q E h=>?_) (fun _ _ _ _ _ _=>dm fun _ _=>rfl) (fun f ah A outer s H vs Q E hr h=>?_)
 · obtain⟨p,z,rfl,_⟩:=h
   rfl
 · obtain⟨p,z,rfl,bg,hz,eG,k⟩:=h
   have nd:=vG.nd;have fk:sizeLine=16777216:=by decide
   have l0:Str.length "0"=1:=by decide+kernel
   have l1:Str.length "-"=1:=by decide+kernel
   refine⟨_,(ai (pS 2 nd (cU (a7 aw (a7 aw (a7 (az eF aw (pv 1)) (a7 (az eF aw (pv 1)) (a7 (az eF (pv 1) aw) (a7 aw (a7 aw (a7 aw (a7 aw (a7 aw (a7 aw (a7 aw a8)))))))))))))) (ai (pS 2 nd (az (ie K rfl) (pv 2) (cU (a7 aw (a7 aw (a7 aw (a7 aw (a7 aw (a7 aw (a7 aw (a7 aw (a7 aw (a7 aw (a7 aw (a7 aw a8))))))))))))))) (ao (aF (px K (pv 2) (pf aY hr (a7 (pv 0) (a7 (dg K B (a7 (pv 2) a8)) a8)))))))),?_⟩;refine⟨_,rfl,_,_,rfl,rfl,by omega,?_⟩;refine⟨_,rfl,_,_,rfl,rfl,by omega,?_⟩;refine⟨_,rfl,_,_,rfl,rfl,by omega,?_⟩;refine⟨by show 12<=sizeLine;omega,fun q H1 n1=>?_⟩;have b1:aA p H H1:=.bf bg n1.same;refine⟨_,rfl,by show 12<=sizeLine;omega,fun q2 H2 n2=>?_⟩;have b2:aA p H1 H2:=.bf b1.bag n2.same;refine⟨q,q2,_,_,rfl,rfl,aa.of (n2.same _ _ n1.at'),aa.of n2.at',by show 12+12<=sizeLine;omega,fun q3 H3 n3=>?_⟩;have b3:aA p H2 H3:=.bf b2.bag n3.same;have a3:H3 q3=some (.lst ((ku z).map V.str)):=n3.at';refine⟨_,rfl,_,rfl,_,rfl,q3,_,rfl,.inl (aa.of a3),p,24,rfl,b3.bag,by decide,by decide,fun d H4 d0 d1 b4=>?_⟩;have DG:q3≠p:=fun e=>b2.bag.ne (e▸n3.no);have hd:d.toNat<(ku z).length:=by rw[BH];omega
   refine .inl ⟨q3,_,d,_,rfl,rfl,aa.of (b4.same _ _ DG a3),d9 d0 (by rw[cg,fu hd];rfl),?_⟩;obtain⟨e1,e2⟩:=BG eG _ (kq hd);exact k _ _ e1 e2 (b1.trans (b2.trans (b3.trans b4)))
end
end Lw
namespace Lw
open PySem PySem.Spec PyProof.Rows L2 Ln Wk
open Tm (numS numIn? figs isFig Free)
section
variable {P:LI}{w:World}{K:LG}{mg:Str->Option Value}{base:Heap}
theorem JJ(xs:List Str)(i:Nat)(h:i<=xs.length):cM (xs.map V.str) none (some (i:Int))=(xs.take i).map V.str:=by unfold cM;rw[HT.ql,HT.qm,List.drop_zero,aE,Nat.min_eq_left h,Nat.sub_zero,List.map_take]
theorem zc(xs:List Str)(i:Nat):cM (xs.map V.str) (some (i:Int)) none=(xs.drop i).map V.str:=by
 unfold cM;rw[HT.ql,HT.qm,aE];by_cases h:i<=xs.length
 ·rw[Nat.min_eq_left h,iy (by simp),List.map_drop]
 ·rw[Nat.min_eq_right (by omega),uz (by simp),uz (by omega)];simp
theorem xC{xs:List Str}{i:Nat}{y:Str}(h:xs[i]? =some y):xs=xs.take i++y::xs.drop (i+1):=by obtain⟨hi,e⟩:=dM.mp h;rw[<-e,<-List.drop_eq_getElem_cons hi,List.take_append_drop]
theorem drop_eq{xs:List Str}{i:Nat}{y:Str}(h:xs[i]? =some y):xs.drop i=y::xs.drop (i+1):=by obtain⟨hi,e⟩:=dM.mp h;rw[<-e,<-List.drop_eq_getElem_cons hi]
theorem zb{xs:List Str}{j:Int}(j0:0<=j)(h:j.toNat<=xs.length):cM (xs.map V.str) none (some j)=(xs.take j.toNat).map V.str/\cM (xs.map V.str) (some j) none=(xs.drop j.toNat).map V.str/\cM (xs.map V.str) (some (j+1)) none=(xs.drop (j.toNat+1)).map V.str:=by
 have e:(j.toNat:Int)=j:=uD j0;refine⟨?_,?_,?_⟩
 ·have:=JJ xs j.toNat h;rw[e]at this;exact this
 ·have:=zc xs j.toNat;rw[e]at this;exact this
 ·have:=zc xs (j.toNat+1);rw[Int.natCast_add,e]at this;exact this
inductive A9(vs:List V)(H:Hp)(Q:VK):Prop |mk (p:Addr)(z:Str)(h0:vs=[.ref p,.str z])(h1:cH H p)(h2:z.length<=550)(h3:aG z)(h4:(∀y∈Txt.split z "\n",y.length<=25))(h5:∀z' H',z'.length<=z.length+35->aG z'->aA p H H'->Q (.str z') H'):A9 vs H Q
def vk(K:LG):Sp:=fun vs H Q _=>A9 vs H Q
abbrev pW:Stmt:=top 49
theorem vI:aV ["_law_bag_here","_law_text_here","_law_how","_law_rows","_law_k","_law_words","_law_j"] ["_law_bag_here","_law_text_here"] (aJ pW):=bz (by decide+kernel)
theorem Eu(F:FA K mg "_law_words_put" pW)(B:bc mg)(aY:au P w K mg base "_law_take" 1 f7)(yo:au P w K mg base "_law_word" 2 (vj K)):au P w K mg base "_law_words_put" 3 (vk K):=by
 refine F.has vI (fun vs H Q E h=>?_) (fun _ _ _ _ _ _=>dm fun _ _=>rfl) (fun f ah A outer s H vs Q E hr h=>?_)
 · obtain⟨p,z,rfl,_⟩:=h
   rfl
 · obtain⟨p,z,rfl,bg,hz,eG,sN,k⟩:=h
   have nd:=vI.nd;have fk:sizeLine=16777216:=by decide
   refine⟨_,(ai (pS 2 nd (pf aY hr (a7 (pv 0) (a7 ae a8)))) (ai (pS 3 nd (jx K rfl (pv 1) (a7 aw a8))) (ai (pS 4 nd (pf aY hr (a7 (pv 0) (a7 (dg K B (a7 (pv 3) a8)) a8)))) (ai (pS 5 nd (jx K rfl (px K (pv 3) (pv 4)) (a7 aw a8))) (ai (pS 6 nd (pf aY hr (a7 (pv 0) (a7 (dg K B (a7 (pv 5) a8)) a8)))) (ai (gz (aR (aO (eR K rfl hr.units) (pv 2) ae (aP _)) (ao (pS 5 nd (az (ie K rfl) (cK (g8 K rfl) (pv 5) cT (cB (pv 6))) (cK (g8 K rfl) (pv 5) (cB (az bX (pv 6) ae)) cT)))) (ao (aR (aO (eR K rfl hr.units) (pv 2) ae (aP _)) (ao (pS 5 nd (az (ie K rfl) (az (ie K rfl) (cK (g8 K rfl) (pv 5) cT (cB (pv 6))) (cU (a7 (pf yo hr (a7 (pv 0) (a7 (px K (pv 5) (pv 6)) a8))) a8))) (cK (g8 K rfl) (pv 5) (cB (pv 6)) cT)))) (ao (pS 5 nd (az (ie K rfl) (az (ie K rfl) (cK (g8 K rfl) (pv 5) cT (cB (pv 6))) (cU (a7 (pf yo hr (a7 (pv 0) (a7 (px K (pv 5) (pv 6)) a8))) a8))) (cK (g8 K rfl) (pv 5) (cB (az bX (pv 6) ae)) cT)))))))) (ao (aF (kS K rfl aw (a7 (az (ie K rfl) (az (ie K rfl) (cK (g8 K rfl) (pv 3) cT (cB (pv 4))) (cU (a7 (kS K rfl aw (a7 (pv 5) a8)) a8))) (cK (g8 K rfl) (pv 3) (cB (az bX (pv 4) ae)) cT)) a8)))))))))),?_⟩;refine⟨_,rfl,p,6,rfl,bg,by decide,by decide,fun how H1 h0 h1 b1=>?_⟩;refine⟨_,rfl,rfl,z,"\n",rfl,rfl,by decide+kernel,by omega,fun q H2 n2=>?_⟩;have jI:=split_len z "\n";have bN:=Tm.kI z "\n";have Jy:Txt.join "\n" (Txt.split z "\n")=z:=by rw[i3];exact vg z 10
   have qY:∀y∈Txt.split z "\n",aG y:=fun y hy=>by rw[i3]at hy;exact hJ eG hy
   generalize er:Txt.split z "\n"=rows at*;have b2:aA p H1 H2:=.bf b1.bag n2.same;have Lf:1<=rows.length:=uu.mpr bN;refine⟨_,rfl,_,rfl,q,_,rfl,.inl (aa.of n2.at'),p,_,rfl,b2.bag,by rw[aE];omega,by rw[aE];omega,fun kk H3 k0 k1 b3=>?_⟩;rw[aE]at k1;have qp:q≠p:=fun e=>b1.bag.ne (e▸n2.no);have a3:=b3.same _ _ qp n2.at';have Hu:kk.toNat<rows.length:=by omega
   have ey:rows[kk.toNat]? =some rows[kk.toNat]:=fu Hu;generalize rows[kk.toNat]=y at ey;have Lc:=sN y (fq ey);have iO:=qY y (fq ey);refine⟨_,rfl,_,rfl,.inl ⟨q,_,kk,.str y,rfl,rfl,aa.of a3,d9 k0 (by rw[cg,ey];rfl),?_⟩⟩;refine⟨rfl,y," ",rfl,rfl,by decide+kernel,by omega,fun q2 H4 n4=>?_⟩;have Le:=split_len y " ";have Hh:=Tm.kI y " ";have Jz:Txt.join " " (Txt.split y " ")=y:=by rw[dP];exact vg y 32
   have iP:∀x∈Txt.split y " ",aG x/\x.length<=25:=fun x hx=>by rw[dP]at hx;have:=split_le hx;exact⟨hJ iO hx,by omega⟩
   generalize ew:Txt.split y " "=words at*;have b4:aA p H3 H4:=.bf b3.bag n4.same;have fh:1<=words.length:=uu.mpr Hh;refine⟨_,rfl,_,rfl,q2,_,rfl,.inl (aa.of n4.at'),p,_,rfl,b4.bag,by rw[aE];omega,by rw[aE];omega,fun j H5 j0 j1 b5=>?_⟩;rw[aE]at j1;have qM:q2≠p:=fun e=>b3.bag.ne (e▸n4.no);have a5:=b5.same _ _ qM n4.at';have hj:j.toNat<words.length:=by omega
   have ex:words[j.toNat]? =some words[j.toNat]:=fu hj;generalize words[j.toNat]=x at ex;obtain⟨wV,Ld⟩:=iP x (fq ex);have fP:=b1.trans (b2.trans (b3.trans (b4.trans b5)));have r5:=b5.same _ _ qp (n4.same _ _ a3);have ej:(j.toNat:Int)=j:=uD j0;have ek:(kk.toNat:Int)=kk:=uD k0;refine⟨fun σ H6=>∃(q6:Addr)(xs:List Str),aA p H H6/\H6 q=some (.lst (rows.map V.str))/\H6 q6=some (.lst (xs.map V.str))/\(Txt.join " " xs).length<=y.length+35/\(∀a∈xs,aG a/\a.length<=4000)/\xs.length<=1000/\σ=[some (.ref p),some (.str z),some (.int how),some (.ref q),some (.int kk),some (.ref q6),some (.int j)],?_,?_⟩
   · have tk:∀a∈words.take j.toNat,aG a/\a.length<=4000:=fun a ha=>by have:=iP a (km ha);exact⟨this.1,by omega⟩
     have dr:∀i,∀a∈words.drop i,aG a/\a.length<=4000:=fun i a ha=>by have:=iP a (uo ha);exact⟨this.1,by omega⟩
     have lt:(words.take j.toNat).length<=words.length:=List.length_take_le' _ _;have ld:∀i,(words.drop i).length<=words.length:=fun i=>by rw[me];omega
     have Jp:=xC ex;have jy:(Txt.join ⟨#[32]⟩ (words.take j.toNat++x::words.drop (j.toNat+1))).length=y.length:=by rw[<-Jp,<-dP,Jz]
     obtain⟨c1,c2,c3⟩:=zb (xs:=words) j0 (by omega);refine⟨_,rfl,.inl ⟨_,_,rfl,rfl,_,rfl,?_⟩⟩;refine bF (fun _=>?_) (fun _=>?_)
     · refine⟨_,rfl,_,rfl,_,rfl,q2,_,rfl,.inl ⟨aa.of a5,fun q6 H6 n6=>?_⟩⟩
       rw[c1]at n6;refine⟨_,rfl,_,rfl,_,_,rfl,rfl,_,rfl,q2,_,rfl,.inl ⟨aa.of (n6.same _ _ a5),fun q7 H7 n7=>?_⟩⟩;rw[c3]at n7;refine⟨q6,q7,_,_,rfl,rfl,aa.of (n7.same _ _ n6.at'),aa.of n7.at',?_,fun q8 H8 n8=>?_⟩
       ·rw[aE,aE];have:=ld (j.toNat+1);omega
       have sm:=n6.same.trans (n7.same.trans n8.same);refine⟨q8,words.take j.toNat++words.drop (j.toNat+1),fP.trans (.bf fP.bag sm),sm _ _ r5,?_,?_,?_,?_,rfl⟩
       ·rw[dJ];exact n8.at'
       ·rw[dP];have:=Gr 32 (a:=words.take j.toNat) (b:=words.drop (j.toNat+1)) (y:=x);omega
       ·exact fun a ha=>(e9.mp ha).elim (tk a) (dr _ a)
       ·rw[dc];have:=ld (j.toNat+1);omega
     refine⟨_,rfl,.inl ⟨_,_,rfl,rfl,_,rfl,?_⟩⟩;refine bF (fun _=>?_) (fun _=>?_)
     · refine⟨_,rfl,_,rfl,_,rfl,q2,_,rfl,.inl ⟨aa.of a5,fun q6 H6 n6=>?_⟩⟩
       rw[c1]at n6;have b6:aA p H5 H6:=.bf fP.bag n6.same;have a6:=n6.same _ _ a5;refine⟨_,rfl,_,rfl,_,rfl,.inl ⟨q2,_,j,.str x,rfl,rfl,aa.of a6,d9 j0 (by rw[cg,ex];rfl),?_⟩⟩;refine⟨p,x,rfl,b6.bag,by omega,wV,fun x' H7 lx qX b7=>?_⟩;refine⟨by show 1<=sizeLine;omega,fun q7 H8 n8=>?_⟩;have b8:aA p H7 H8:=.bf b7.bag n8.same;have qL:q6≠p:=fun e=>fP.bag.ne (e▸n6.no);have d6:=n8.same _ _ (b7.same _ _ qL n6.at');refine⟨q6,q7,_,_,rfl,rfl,aa.of d6,aa.of n8.at',?_,fun q8 H9 n9=>?_⟩
       ·rw[aE];show _+1<=_;omega
       have a9:=n9.same _ _ (n8.same _ _ (b7.same _ _ qM a6));refine⟨_,rfl,_,rfl,_,rfl,q2,_,rfl,.inl ⟨aa.of a9,fun q9 cy cx=>?_⟩⟩;rw[c2]at cx;refine⟨q8,q9,_,_,rfl,rfl,aa.of (cx.same _ _ n9.at'),aa.of cx.at',?_,fun kN da i4=>?_⟩
       ·rw[dc,aE,aE];have:=ld j.toNat;show _+1+_<=_;omega
       have sm:=n8.same.trans (n9.same.trans (cx.same.trans i4.same));have lW:=fP.trans (b6.trans b7);refine⟨kN,words.take j.toNat++[x']++words.drop j.toNat,lW.trans (.bf lW.bag sm),sm _ _ (b7.same _ _ qp (n6.same _ _ r5)),?_,?_,?_,?_,rfl⟩
       ·rw[dJ,dJ];exact i4.at'
       ·rw[dP,drop_eq ex];have:=Gq 32 (a:=words.take j.toNat) (b:=words.drop (j.toNat+1)) (y:=x) (x:=x');omega
       · intro a ha
         rcases e9.mp ha with ha|ha
         · rcases e9.mp ha with ha|ha
           ·exact tk a ha
           ·rw[eZ.mp ha];exact⟨qX,by omega⟩
         ·exact dr _ a ha
       ·rw[dc,dc];have:=ld j.toNat;show _+1+_<=_;omega
     · refine⟨_,rfl,_,rfl,_,rfl,q2,_,rfl,.inl ⟨aa.of a5,fun q6 H6 n6=>?_⟩⟩
       rw[c1]at n6;have b6:aA p H5 H6:=.bf fP.bag n6.same;have a6:=n6.same _ _ a5;refine⟨_,rfl,_,rfl,_,rfl,.inl ⟨q2,_,j,.str x,rfl,rfl,aa.of a6,d9 j0 (by rw[cg,ex];rfl),?_⟩⟩;refine⟨p,x,rfl,b6.bag,by omega,wV,fun x' H7 lx qX b7=>?_⟩;refine⟨by show 1<=sizeLine;omega,fun q7 H8 n8=>?_⟩;have b8:aA p H7 H8:=.bf b7.bag n8.same;have qL:q6≠p:=fun e=>fP.bag.ne (e▸n6.no);have d6:=n8.same _ _ (b7.same _ _ qL n6.at');refine⟨q6,q7,_,_,rfl,rfl,aa.of d6,aa.of n8.at',?_,fun q8 H9 n9=>?_⟩
       ·rw[aE];show _+1<=_;omega
       have a9:=n9.same _ _ (n8.same _ _ (b7.same _ _ qM a6));refine⟨_,rfl,_,rfl,_,_,rfl,rfl,_,rfl,q2,_,rfl,.inl ⟨aa.of a9,fun q9 cy cx=>?_⟩⟩;rw[c3]at cx;refine⟨q8,q9,_,_,rfl,rfl,aa.of (cx.same _ _ n9.at'),aa.of cx.at',?_,fun kN da i4=>?_⟩
       ·rw[dc,aE,aE];have:=ld (j.toNat+1);show _+1+_<=_;omega
       have sm:=n8.same.trans (n9.same.trans (cx.same.trans i4.same));have lW:=fP.trans (b6.trans b7);refine⟨kN,words.take j.toNat++[x']++words.drop (j.toNat+1),lW.trans (.bf lW.bag sm),sm _ _ (b7.same _ _ qp (n6.same _ _ r5)),?_,?_,?_,?_,rfl⟩
       ·rw[dJ,dJ];exact i4.at'
       ·rw[dP];have:=xQ 32 (a:=words.take j.toNat) (b:=words.drop (j.toNat+1)) (y:=x) (x:=x') (N:=9) lx;omega
       · intro a ha
         rcases e9.mp ha with ha|ha
         · rcases e9.mp ha with ha|ha
           ·exact tk a ha
           ·rw[eZ.mp ha];exact⟨qX,by omega⟩
         ·exact dr _ a ha
       ·rw[dc,dc];have:=ld (j.toNat+1);show _+1+_<=_;omega
   · rintro σ H6 ⟨q6,xs,b6,r6,a6,lj,jA,lx,rfl⟩
     obtain⟨d1,_,d3⟩:=zb (xs:=rows) k0 (by omega);refine⟨rfl,?_⟩;refine⟨_,rfl,_,rfl,_,rfl,q,_,rfl,.inl ⟨aa.of r6,fun q7 H7 n7=>?_⟩⟩;rw[d1]at n7;refine⟨rfl,_,rfl," ",q6,xs,rfl,rfl,aa.of (n7.same _ _ a6),fun a ha=>(jA a ha).2,by decide+kernel,lx,?_⟩;generalize JA:Txt.join " " xs=yy at lj;have En:aG yy:=by rw[<-JA];exact aG.join (eH (by decide+kernel)) fun a ha=>(jA a ha).1
     refine⟨by show 1<=sizeLine;omega,fun q8 H8 n8=>?_⟩;have L7:(rows.take kk.toNat).length<=rows.length:=List.length_take_le' _ _;have L8:(rows.drop (kk.toNat+1)).length<=rows.length:=by rw[me];omega
     refine⟨q7,q8,_,_,rfl,rfl,aa.of (n8.same _ _ n7.at'),aa.of n8.at',?_,fun q9 H9 n9=>?_⟩
     ·rw[aE];show _+1<=_;omega
     have r9:=n9.same _ _ (n8.same _ _ (n7.same _ _ r6));refine⟨_,rfl,_,rfl,_,_,rfl,rfl,_,rfl,q,_,rfl,.inl ⟨aa.of r9,fun kN cy cx=>?_⟩⟩;rw[d3]at cx;refine⟨q9,kN,_,_,rfl,rfl,aa.of (cx.same _ _ n9.at'),aa.of cx.at',?_,fun jr da i4=>?_⟩
     ·rw[dc,aE,aE];show _+1+_<=_;omega
     have sm:=n7.same.trans (n8.same.trans (n9.same.trans (cx.same.trans i4.same)));have tQ:da jr=some (.lst ((rows.take kk.toNat++[yy]++rows.drop (kk.toNat+1)).map V.str)):=by rw[dJ,dJ];exact i4.at'
     have mem:∀a∈rows.take kk.toNat++[yy]++rows.drop (kk.toNat+1),aG a/\a.length<=4000:=fun a ha=>by
      rcases e9.mp ha with ha|ha
      · rcases e9.mp ha with ha|ha
        · have h1:=km ha
          exact⟨qY a h1,by have:=sN a h1;omega⟩
        ·rw[eZ.mp ha];exact⟨En,by omega⟩
      · have h1:=uo ha
        exact⟨qY a h1,by have:=sN a h1;omega⟩
     refine⟨"\n",jr,_,rfl,rfl,aa.of tQ,fun a ha=>(mem a ha).2,by decide+kernel,?_,?_⟩
     ·rw[dc,dc,gW,me];show _+1+_<=_;omega
     refine k _ _ ?_ (aG.join (eH (by decide+kernel)) fun a ha=>(mem a ha).1) (b6.trans (.bf b6.bag sm));have h1:=xQ 10 (a:=rows.take kk.toNat) (b:=rows.drop (kk.toNat+1)) (y:=y) (x:=yy) lj;rw[<-xC ey,<-i3,Jy]at h1;exact h1
inductive Ah(vs:List V)(H:Hp)(Q:VK):Prop |mk (p:Addr)(z:Str)(h0:vs=[.ref p,.str z])(h1:cH H p)(h2:z.length<=590)(h3:aG z)(h4:∀z' H',z'.length<=z.length+3->aG z'->aA p H H'->Q (.str z') H'):Ah vs H Q
def vq(K:LG):Sp:=fun vs H Q _=>Ah vs H Q
theorem pG{z:Str}(h:aG z){lo hi:Option Int}{l:List Nat}(e:(StrLaws.sliceText z lo hi).cps.toList=l)(hl:∀c∈l,c∈z.cps.toList):aG (StrLaws.sliceText z lo hi):=fun c hc=>h c (hl c (by rw[<-e];exact hc))
theorem rL{z:Str}{l:List Nat}(h:z.cps.toList=l):z.length=l.length:=by rw[<-h];simp[Str.length]
abbrev qb:Stmt:=top 50
theorem vN:aV ["_law_bag_here","_law_text_here","_law_k","_law_how","_law_sign_here","_law_at"] ["_law_bag_here","_law_text_here"] (aJ qb):=bz (by decide+kernel)
theorem ED(F:FA K mg "_law_signs_put" qb)(B:bc mg)(aY:au P w K mg base "_law_take" 1 f7)(IL:au P w K mg base "_law_sign" 2 vp):au P w K mg base "_law_signs_put" 3 (vq K):=by
 refine F.has vN (fun vs H Q E h=>?_) (fun _ _ _ _ _ _=>dm fun _ _=>rfl) (fun f ah A outer s H vs Q E hr h=>?_)
 · obtain⟨p,z,rfl,_⟩:=h
   rfl
 · obtain⟨p,z,rfl,bg,hz,eG,k⟩:=h
   have nd:=vN.nd;have fk:sizeLine=16777216:=by decide
   refine⟨_,(ai (iI kj rfl (gA rfl (B.at "range") (a7 (az bX ae (pf aY hr (a7 (pv 0) (a7 ae a8)))) a8)) (bA 2 nd) (ai (pS 3 nd (pf aY hr (a7 (pv 0) (a7 ae a8)))) (ai (pS 4 nd (pf IL hr (a7 (pv 0) a8))) (ai (pS 5 nd (pf aY hr (a7 (pv 0) (a7 (az bX (cm (x:="len") jU rfl (B.at "len") kf (a7 (pv 1) a8)) ae) a8)))) (ao (pS 1 nd (px K (cU (a7 (az eF (cK gw (pv 1) cT (cB (pv 5))) (cK gw (pv 1) (cB (az bX (pv 5) ae)) cT)) (a7 (az eF (az eF (cK gw (pv 1) cT (cB (pv 5))) (pv 4)) (cK gw (pv 1) (cB (pv 5)) cT)) (a7 (az eF (az eF (cK gw (pv 1) cT (cB (pv 5))) (pv 4)) (cK gw (pv 1) (cB (az bX (pv 5) ae)) cT)) a8)))) (pv 3)))))))) (ao (aF (pv 1)))),?_⟩;refine⟨_,rfl,p,3,rfl,bg,by decide,by decide,fun t0 H1 t1 t2 b1=>?_⟩;refine⟨_,_,rfl,rfl,_,rfl,by omega,by omega,?_⟩;refine jN (Pv:=fun i σ H2=>aA p H H2/\∃y v2 v3 v4 v5,y.length<=z.length+i/\aG y/\σ=[some (.ref p),some (.str y),v2,v3,v4,v5]) ?_ ?_ ?_
   ·exact⟨b1,z,none,none,none,none,by omega,eG,rfl⟩
   · rintro i σ H2 hi ⟨b2,y,v2,v3,v4,v5,ly,iO,rfl⟩
     have Ll:i<3:=by omega
     refine⟨_,rfl,p,3,rfl,b2.bag,by decide,by decide,fun how H3 h0 h1 b3=>?_⟩;refine⟨_,rfl,p,rfl,b3.bag,fun c H4 hc b4=>?_⟩;refine⟨_,rfl,_,rfl,y,rfl,by omega,_,_,rfl,rfl,p,_,rfl,b4.bag,by omega,by omega,fun at_ H5 a0 a1 b5=>?_⟩;have ea:(at_.toNat:Int)=at_:=uD a0;have tA:=uN y at_.toNat;have tB:=pD y at_.toNat;have tC:=pD y (at_.toNat+1);rw[ea]at tA tB;rw[Int.natCast_add,ea]at tC;have tC:(StrLaws.sliceText y (some (at_+1)) none).cps.toList=y.cps.toList.drop (at_.toNat+1):=tC;have kA:=pG iO tA fun c hc=>km hc;have kB:=pG iO tB fun c hc=>uo hc;have kC:=pG iO tC fun c hc=>uo hc;have lA:=rL tA;have lB:=rL tB;have lC:=rL tC;have xF:y.cps.toList.length=y.length:=by simp[Str.length]
     rw[gW,xF]at lA;rw[me,xF]at lB lC;have wX:aG ⟨#[c]⟩:=fun x hx=>by
      have:x=c:=by simpa using hx
      rw[this];exact hc
     have lc:(⟨#[c]⟩:Str).length=1:=rfl;generalize eA:StrLaws.sliceText y none (some at_)=A' at kA lA;generalize eB:StrLaws.sliceText y (some at_) none=B' at kB lB;generalize eC:StrLaws.sliceText y (some (at_+1)) none=C' at kC lC;refine⟨_,rfl,_,rfl,_,rfl,y,rfl,by omega,?_⟩;rw[eA];refine⟨_,rfl,_,rfl,_,_,rfl,rfl,_,rfl,y,rfl,by omega,?_⟩;rw[eC];refine⟨_,_,rfl,rfl,by omega,?_⟩;refine⟨_,rfl,_,rfl,_,rfl,y,rfl,by omega,?_⟩;rw[eA];refine⟨_,rfl,_,_,rfl,rfl,by omega,?_⟩;refine⟨_,rfl,_,rfl,_,rfl,y,rfl,by omega,?_⟩;rw[eB];refine⟨_,_,rfl,rfl,by rw[cO];omega,?_⟩;refine⟨_,rfl,_,rfl,_,rfl,y,rfl,by omega,?_⟩;rw[eA];refine⟨_,rfl,_,_,rfl,rfl,by omega,?_⟩;refine⟨_,rfl,_,rfl,_,_,rfl,rfl,_,rfl,y,rfl,by omega,?_⟩;rw[eC];refine⟨_,_,rfl,rfl,by rw[cO];omega,?_⟩;refine⟨by show 3<=sizeLine;omega,fun q6 H6 n6=>?_⟩;have K9:=b2.trans (b3.trans (b4.trans (b5.trans (.bf b5.bag n6.same))));have hw:∃w':Str,cN [V.str (A'++C'),V.str (A'++⟨#[c]⟩++B'),V.str (A'++⟨#[c]⟩++C')] how=some (V.str w')/\w'.length<=z.length+(i+1)/\aG w':=by
      rcases(show how=0\/how=1\/how=2 by omega)with rfl|rfl|rfl
      ·exact⟨_,rfl,by rw[cO];omega,kA.app kC⟩
      ·exact⟨_,rfl,by rw[cO,cO];omega,(kA.app wX).app kB⟩
      ·exact⟨_,rfl,by rw[cO,cO];omega,(kA.app wX).app kC⟩
     obtain⟨w',Jq,G0,Eo⟩:=hw;refine⟨_,rfl,.inl ⟨q6,_,how,_,rfl,rfl,aa.of n6.at',Jq,?_⟩⟩;exact⟨K9,w',_,_,_,_,G0,Eo,rfl⟩
   · rintro σ H2 ⟨b2,y,v2,v3,v4,v5,ly,iO,rfl⟩
     refine⟨_,rfl,k _ _ ?_ iO b2⟩;omega
end
end Lw
namespace Lw
open PySem PySem.Spec PyProof.Rows L2 Ln Wk
open Tm (numS numIn? figs isFig Free)
section
variable {P:LI}{w:World}{K:LG}{mg:Str->Option Value}{base:Heap}
theorem uZ{R:Str->Prop}:∀(ds:List LJ),(∀d∈ds,∃z:Str,d= .str z/\R z)->∃zs:List Str,ds=zs.map PyData.str/\∀z∈zs,R z |[],_=>⟨[],rfl,fun _ h=>nomatch h⟩ |d::ds,h=>by obtain⟨z,rfl,hz⟩:=h d (.head _);obtain⟨zs,rfl,hs⟩:=uZ ds fun d hd=>h d (.tail _ hd);exact⟨z::zs,rfl,fun y hy=>by
     rcases aW.mp hy with rfl|hy
     ·exact hz
     ·exact hs y hy⟩
inductive Aa(vs:List V)(H:Hp)(Q:VK):Prop |mk (p:Addr)(ax:Nat)(h0:vs=[.ref p,.int ax])(h1:cH H p)(h2:2<=ax)(h3:ax<=3)(h4:∀z H',z.length<=600->aG z->aA p H H'->Q (.str z) H'):Aa vs H Q
def mJ(K:LG):Sp:=fun vs H Q _=>Aa vs H Q
abbrev pX:Stmt:=top 51
theorem vJ:aV ["_law_bag_here","_law_axes","_law_spoil","_law_many","_law_text_here"] ["_law_bag_here","_law_axes"] (aJ pX):=bz (by decide+kernel)
theorem Ey(F:FA K mg "_law_text" pX)(B:bc mg)(aY:au P w K mg base "_law_take" 1 f7)(IT:au P w K mg base "_law_item" 3 (vA K))(IQ:au P w K mg base "_law_item_text" 1 (vz K))(IJ:au P w K mg base "_law_words_put" 3 (vk K))(IK:au P w K mg base "_law_signs_put" 3 (vq K)):au P w K mg base "_law_text" 4 (mJ K):=by
 refine F.has vJ (fun vs H Q E h=>?_) (fun _ _ _ _ _ _=>dm fun _ _=>rfl) (fun f ah A outer s H vs Q E hr h=>?_)
 · obtain⟨p,ax,rfl,_⟩:=h
   rfl
 · obtain⟨p,ax,rfl,bg,zG,Ka,k⟩:=h
   have nd:=vJ.nd;have fk:sizeLine=16777216:=by decide
   refine⟨_,(ai (pS 2 nd (pf aY hr (a7 (pv 0) (a7 ae a8)))) (ai (pS 3 nd (px K (cU (a7 (pf aY hr (a7 (pv 0) (a7 ae a8))) (a7 ae (a7 ae (a7 (pf aY hr (a7 (pv 0) (a7 ae a8))) a8))))) (pf aY hr (a7 (pv 0) (a7 ae a8))))) (ai (gz (aR (aO (eR K rfl hr.units) (pv 2) ae (aP _)) (ao (pS 1 nd (az qV ae (pv 1)))) aU)) (ai (pS 4 nd (kS K rfl aw (a7 (fc (N:=["_law_k","_law_bag_here","_law_axes"]) (js:=[none,some 0,some 1]) rfl rfl rfl (gA rfl (B.at "range") (a7 (pv 3) a8)) (fun _ _ _ _ _=>(bA 0 (show List.Nodup (["_law_k","_law_bag_here","_law_axes"]:List Str) by decide+kernel))) (fun _ _ _ _ _=>eL) (fun _ _ _ _ _=>(pf IQ hr (a7 (pf IT hr (a7 (pv 1) (a7 (pv 2) a8))) a8)))) a8))) (ai (gz (aR (aO (xY K rfl) (pv 2) (cU (a7 ae (a7 ae (a7 ae a8)))) (by with_unfolding_all rfl)) (ao (pS 4 nd (pf IJ hr (a7 (pv 0) (a7 (pv 4) a8))))) aU)) (ai (gz (aR (aO (xY K rfl) (pv 2) (cU (a7 ae (a7 ae (a7 ae a8)))) (by with_unfolding_all rfl)) (ao (pS 4 nd (pf IK hr (a7 (pv 0) (a7 (pv 4) a8))))) aU)) (ao (aF (pv 4))))))))),?_⟩;refine⟨_,rfl,p,8,rfl,bg,by decide,by decide,fun sp H1 s0 s1 b1=>?_⟩;refine⟨_,rfl,p,20,rfl,b1.bag,by decide,by decide,fun m1 H2 KZ KY b2=>?_⟩;refine⟨_,rfl,p,4,rfl,b2.bag,by decide,by decide,fun m2 H3 KW KU b3=>?_⟩;refine⟨by show 4<=sizeLine;omega,fun c H4 n4=>?_⟩;have b4:aA p H3 H4:=.bf b3.bag n4.same;have cp:c≠p:=fun e=>b3.bag.ne (e▸n4.no);refine⟨_,rfl,p,4,rfl,b4.bag,by decide,by decide,fun i H5 i0 i1 b5=>?_⟩;have hm:∃m:Int,cN [V.int m1,V.int 20,V.int 21,V.int m2] i=some (V.int m)/\0<=m/\m<=21:=by
    rcases(show i=0\/i=1\/i=2\/i=3 by omega)with rfl|rfl|rfl|rfl
    ·exact⟨m1,rfl,by omega,by omega⟩
    ·exact⟨20,rfl,by omega,by omega⟩
    ·exact⟨21,rfl,by omega,by omega⟩
    ·exact⟨m2,rfl,by omega,by omega⟩
   obtain⟨m,em,m0,mm⟩:=hm;refine .inl ⟨c,_,i,_,rfl,rfl,aa.of (b5.same _ _ cp n4.at'),em,?_⟩;have fP:=b1.trans (b2.trans (b3.trans (b4.trans b5)));refine⟨fun σ H6=>H6=H5/\∃jc:Nat,2<=jc/\jc<=3/\σ=[some (.ref p),some (.int jc),some (.int sp),some (.int m),none],?_,?_⟩
   · refine⟨_,rfl,.inl ⟨_,_,rfl,rfl,_,rfl,?_⟩⟩
     refine bF (fun _=>?_) (fun _=>⟨rfl,ax,zG,Ka,rfl⟩);refine⟨_,rfl,_,_,rfl,rfl,rfl,5-ax,by omega,by omega,?_⟩;rw[Int.natCast_sub (by omega)];rfl
   rintro σ H6 ⟨rfl,jc,a2,a3,rfl⟩;refine⟨rfl,?_⟩;refine⟨_,rfl,_,rfl,by omega,by omega,fun D H7 nD=>?_⟩;refine ze (K:=K) (J:=gQ 0 m.toNat) (p:=p) (H:=H6) m.toNat _ nD fP.bag (by omega) (fun i=>.int (0+(i:Int))) (fun i H3 hi _=>⟨hi,fun y H4 ⟨e,q⟩=>⟨e,q⟩⟩) (fun H3 _=>aD _) (fun _ d=>∃z:Str,d= .str z/\(z.length<=25/\aG z/\Free 10 z)) ?_ ?_
   · intro i H8 Q' hi b8 hq
     refine⟨_,rfl,_,rfl,p,jc,rfl,b8.bag,by omega,by omega,fun v d o H9 rv it b9=>?_⟩;have tx:=it.tx (by omega) (by omega);exact⟨v,d,rfl,rv,tx.ti,fun cy cI=>hq _ _ _ ⟨_,rfl,Gw it (by omega),tx.ok,tx.fr⟩ rfl (bb _) (b9.trans (.bf b9.bag cI))⟩
   intro H8 ys ds b8 d8 r8 l8 nl pd;obtain⟨zs,rfl,hz⟩:=uZ ds fun d hd=>by obtain⟨i,hi⟩:=uq.mp hd;exact pd i d hi
   rw[mG r8]at d8;rw[aE]at l8;have lz:zs.length<=21:=by omega
   refine⟨"\n",D,zs,rfl,rfl,aa.of d8,fun z fH=>by have:=(hz z fH).1;omega,by decide+kernel,by omega,?_⟩;have qZ:aG (Txt.join "\n" zs):=aG.join (eH (by decide+kernel)) fun a ha=>(hz a ha).2.1;have lj:=rO "\n" (B:=25) zs fun z fH=>(hz z fH).1;rw[show Str.length "\n"=1 by decide+kernel]at lj;have lj:(Txt.join "\n" zs).length<=546:=bL lj (bL (Nat.mul_le_mul lz (aD _)) (by decide));have bD:∀y∈Txt.split (Txt.join "\n" zs) "\n",y.length<=25:=fun y hy=>by cases zs with
    |nil=>
      have e0:Txt.split (Txt.join "\n" []) "\n"=[("":Str)]:=by rw[i3];exact Tm.CM (fm (by decide+kernel))
      rw[e0]at hy;rw[eZ.mp hy];decide+kernel |cons a r=>rw[i3,Tm.pI (by simp) fun z fH=>(hz z fH).2.2]at hy;exact(hz y hy).1
   generalize Txt.join "\n" zs=y at qZ lj bD;have tK:=fP.trans b8;refine⟨fun σ H9=>aA p H H9/\∃y:Str,y.length<=590/\aG y/\σ=[some (.ref p),some (.int jc),some (.int sp),some (.int m),some (.str y)],?_,?_⟩
   · refine⟨_,rfl,by show 3<=sizeLine;omega,fun q H9 n9=>?_⟩
     have b9:aA p H8 H9:=.bf tK.bag n9.same;refine⟨q,_,rfl,.inl (aa.of n9.at'),rfl,rfl,_,rfl,?_⟩;refine bF (fun _=>?_) (fun _=>⟨tK.trans b9,y,by omega,qZ,rfl⟩);exact⟨_,rfl,_,rfl,p,y,rfl,b9.bag,by omega,qZ,bD,fun z' cy l' r0 fQ=>⟨tK.trans (b9.trans fQ),z',by omega,r0,rfl⟩⟩
   rintro σ H9 ⟨b9,y9,l9,wY,rfl⟩;refine⟨fun σ cy=>aA p H cy/\∃y:Str,y.length<=600/\aG y/\σ=[some (.ref p),some (.int jc),some (.int sp),some (.int m),some (.str y)],?_,?_⟩
   · refine⟨_,rfl,by show 3<=sizeLine;omega,fun q cy cx=>?_⟩
     have fQ:aA p H9 cy:=.bf b9.bag cx.same;refine⟨q,_,rfl,.inl (aa.of cx.at'),rfl,rfl,_,rfl,?_⟩;refine bF (fun _=>?_) (fun _=>⟨b9.trans fQ,y9,by omega,wY,rfl⟩);exact⟨_,rfl,_,rfl,p,y9,rfl,fQ.bag,by omega,wY,fun z' da l' r0 jV=>⟨b9.trans (fQ.trans jV),z',by omega,r0,rfl⟩⟩
   rintro σ cy ⟨fQ,KC,Gi,F7,rfl⟩;exact⟨_,rfl,k _ _ Gi F7 fQ⟩
end
end Lw
namespace Lw
open PySem PySem.Spec PyProof.Rows L2 Ln Wk PySem.NumText
open Tm (numS numIn? figs isFig Free)
section
variable {P:LI}{w:World}{K:LG}{mg:Str->Option Value}{base:Heap}
def cA(n:Nat)(z:Str):List LJ:=if z="" then[]else(Txt.split z "\n").map (cV n)
structure FB(ds:List LJ)(i:Nat):Prop where
 lt:i<ds.length
 le:i<=20
 pre:∀j d,j<i->ds[j]? =some d->d≠ .none
 bad:ds[i]? =some .none\/i=20
def oP(ds:List LJ):Prop:=ds.length<=20/\∀d∈ds,d≠ .none
theorem FB.xn{ds:List LJ}{i:Nat}(h:FB ds i)(a:oP ds):False:=by
 rcases h.bad with e|e
 ·exact a.2 _ (fq e) rfl
 ·have:=h.lt;have:=a.1;omega
theorem FB.half{ds:List LJ}{i j:Nat}(h:FB ds i)(g:FB ds j):¬i<j:=fun hl=>by
 rcases h.bad with e|e
 ·exact g.pre i _ hl e rfl
 ·have:=g.le;omega
theorem FB.uniq{ds:List LJ}{i j:Nat}(h:FB ds i)(g:FB ds j):i=j:=by have:=h.half g;have:=g.half h;omega
theorem wu(n:Nat)(z:Str):bB (cA n z)=true:=by
 unfold cA;split
 ·rfl
 ·exact dB.mpr fun d hd=>by obtain⟨y,_,rfl⟩:=bM.mp hd;exact rP n y
theorem nH{H:Hp}{v:V}{d:LJ}(h:RD K H v d):decide (v=V.aq)=true↔d= .none:=by
 rw[iu];refine⟨fun e=>?_,fun e=>?_⟩
 · rw[e]at h
   cases d with |none=>rfl |bool b=>have:=h.tH;cases this |int b=>have:=h.int_inv;cases this |str b=>have:=h.str_inv;cases this |list b=>obtain⟨_,_,h,_⟩:=h.lst_inv;cases h |tuple b=>obtain⟨_,_,h,_⟩:=h.cR;cases h |_=>rw[RD]at h;exact h.elim
 ·rw[e]at h;exact h.nj
inductive Ax(K:LG)(vs:List V)(H:Hp)(Q:VK):Prop |mk (v:V)(n:Nat)(h0:vs=[v,.int n])(h1:n<=3)(h2:((∃z:Str,v= .str z/\z.length<=600/\dn z/\(∀(i:Nat) H',FB (cA n z) i->af H H'->Q (.int i) H')/\(oP (cA n z)->∀v' H',af H H'->RD K H' v' (.tuple (cA n z))->Q v' H'))\/ ∃d,RD K H v d/\ck (de d) "str"=false/\∀H',af H H'->Q (.int ((0:Nat):Int)) H')):Ax K vs H Q
def pO(K:LG):Sp:=fun vs H Q _=>Ax K vs H Q
abbrev qw:Stmt:=top 47
theorem wj:aV ["_law_text_here","_law_axes","_law_found","_law_row","_law_item_here"] ["_law_text_here","_law_axes"] (aJ qw):=bz (by decide+kernel)
theorem EY(F:FA K mg "_law_due" qw)(B:bc mg)(IS:au P w K mg base "_law_item_read" 3 (pN K)):au P w K mg base "_law_due" 4 (pO K):=by
 refine F.has wj (fun vs H Q E h=>?_) (fun _ _ _ _ _ _=>dm fun _ _=>rfl) (fun f ah A outer s H vs Q E hr h=>?_)
 · obtain⟨v,n,rfl,_⟩:=h
   rfl
 · obtain⟨v,n,rfl,hn,hc⟩:=h
   have nd:=wj.nd;have fk:sizeLine=16777216:=by decide
   refine⟨_,(ai (aR (eE (dS (fC K B (a7 (pv 0) (a7 (fe (x:="str") (v:=.ty "str") rfl (B.at "str") m9 rfl) a8))))) (ao (aF ae)) aU) (ai (pS 2 nd (cU a8)) (ai (aR (aO dh (pv 0) aw (aP _)) (ao (aF (dA a8))) aU) (ai (iI kj rfl (mU K rfl (jx K rfl (pv 0) (a7 aw a8))) (bA 3 nd) (ai (pS 4 nd (pf IS hr (a7 (pv 3) (a7 (pv 1) a8)))) (ai (aR (PW.pt (fB (aO mY (pv 4) cC (aP _)) (gy (aO dh (dg K B (a7 (pv 2) a8)) ae (aP _))))) (ao (aF (dg K B (a7 (pv 2) a8)))) aU) (ao (wF (wK K rfl (pv 2) (a7 (pv 4) a8))))))) (ao (aF (eM (x:="tuple") (iB K rfl) rfl (B.at "tuple") gu (a7 (pv 2) a8)))))))),?_⟩;rcases hc with⟨z,rfl,hz,tz,k1,k2⟩|⟨d,rd,ht,k⟩
   · refine⟨_,rfl,.inl ⟨_,_,"str",true,rfl,(bb (K:=K) (H:=H) z).ty,by decide,pC,_,rfl,aB ?_⟩⟩
     refine⟨bK _,fun D H1 n1=>?_⟩;refine⟨_,rfl,rfl,_,rfl,?_⟩;rw[jm];by_cases fG:z=""
     · rw[br fG]
       refine aK ⟨bK _,fun p H2 n2=>?_⟩;have e:cA n z=[]:=aI fG;rw[e]at k2;exact k2 ⟨bK _,fun _ h=>nomatch h⟩ _ _ (n1.same.trans n2.same) (cw (ay.of n2.at') fA)
     rw[bu fG];refine aB ⟨_,rfl,rfl,z,"\n",rfl,rfl,by decide+kernel,by omega,fun q H2 n2=>?_⟩;have no:=wu n z;have ja:cA n z=(Txt.split z "\n").map (cV n):=aC fG;generalize cA n z=ds at k1 k2 no ja;have lr:(Txt.split z "\n").length=ds.length:=by rw[ja,aE]
     have Dq:D≠q:=cn n1.at' n2.no;have s2:=n1.same.trans n2.same;refine⟨q,rfl,⟨_,aa.of n2.at'⟩,yK (K:=K) (a:=q) (xs:=(Txt.split z "\n").map V.str) (fun i σ H3=>af H H3/\∃ys v1 v2,H3 D=some (.lst ys)/\H3 q=some (.lst ((Txt.split z "\n").map V.str))/\aj K H3 ys (ds.take i)/\(∀j d,j<i->ds[j]? =some d->d≠ .none)/\i<=20/\σ=[some (.str z),some (.int n),some (.ref D),v1,v2]) ?_ ?_ ?_ ?_⟩
     ·exact⟨s2,[],none,none,n2.same _ _ n1.at',n2.at',cS,fun _ _ h=>absurd h (Nat.not_lt_zero _),bK _,rfl⟩
     · rintro i σ H3 _ ⟨_,ys,v1,v2,_,eq,_⟩
       exact aa.of eq
     · rintro i y σ H3 lq ⟨s3,ys,v1,v2,dD,dq,ry,pre,fF,rfl⟩
       rw[cg]at lq;obtain⟨r,er,rfl⟩:=md.mp lq;have hm:=fq er;rw[i3]at hm;have nN:=split_le hm;have rZ:=hJ tz hm;have ed:ds[i]? =some (cV n r):=by rw[ja,cg,er];rfl
       have hi:i<ds.length:=(dM.mp ed).1;refine⟨_,rfl,_,rfl,r,n,rfl,by omega,rZ,hn,fun v H5 s5 rv=>?_⟩;have gp:=s5 _ _ dD;have t8:=s5 _ _ dq;have ly:=ry.length;rw[gW]at ly;have ly:ys.length=i:=by omega
       have mP:=s3.trans s5;refine⟨_,rfl,rfl,_,rfl,?_⟩;cases hv:decide (v=V.aq)with |true=>have e:=(nH rv).mp hv;refine aK (aK ⟨_,rfl,D,_,rfl,.inl (aa.of gp),?_⟩);rw[ly];exact k1 i _ ⟨hi,fF,pre,.inl (by rw[ed,e])⟩ mP |false=>
         have e:cV n r≠ .none:=fun e=>by rw[(nH rv).mpr e]at hv;cases hv
         refine aB ⟨_,rfl,D,_,rfl,.inl (aa.of gp),rfl,_,rfl,?_⟩;rw[ly];by_cases lR:i=20
         · rw[br (show V.int (i:Int)=V.int 20 by rw[lR];rfl)]
           refine aK ⟨_,rfl,D,_,rfl,.inl (aa.of gp),?_⟩;rw[ly];exact k1 i _ ⟨hi,fF,pre,.inr lR⟩ mP
         · rw[bu (show¬V.int (i:Int)=V.int 20 from fun e=>by injection e with e;omega)]
           refine aB ⟨_,rfl,.inl ⟨rfl,_,aa.of gp⟩,_,rfl,D,ys,_,rfl,rfl,gp,by omega,?_⟩;have sT:eI H5 (L2.upd H5 D (.lst (ys++[v]))):=.mn gp;refine⟨fun b o e=>?_,ys++[v],_,_,bR,?_,?_,fun j d hj ej=>?_,by omega,rfl⟩
           ·rw[aL (cn e n1.no)];exact s5 _ _ (s3 _ _ e)
           ·rw[aL Dq.symm];exact t8
           · rw[oZ,ed]
             have rj:bB (ds.take i)=true:=dB.mpr fun d lM=>dB.mp no d (km lM);exact(aj.t sT _ rj (aj.mono s5 _ ry)).append (bS (RD.t sT _ (rP n r) rv) cS)
           · by_cases su:j<i
             ·exact pre j d su ej
             · have:j=i:=by omega
               subst this;rw[ed]at ej;cases ej;exact e
     · rintro σ H3 ⟨s3,ys,v1,v2,dD,dq,ry,pre,fF,rfl⟩
       rw[aE,lr]at ry pre fF;rw[iy (aD _)]at ry;refine⟨_,rfl,D,_,rfl,.inl ⟨aa.of dD,fun p H4 n4=>?_⟩⟩;refine k2 ⟨fF,fun d hd=>?_⟩ _ _ (s3.trans n4.same) (cw (ay.of n4.at') (aj.mono n4.same _ ry));obtain⟨j,hj⟩:=uq.mp hd;exact pre j d (dM.mp hj).1 hj
   · refine⟨_,rfl,.inl ⟨_,_,"str",false,rfl,rd.ty,by decide,ht,_,rfl,aK ?_⟩⟩
     exact k H (af.refl _)
end
end Lw
namespace Lw
open PySem PySem.Spec PyProof.Rows L2 Ln Wk PySem.NumText
open Tm (numS numIn? figs isFig Free)
section
variable {P:LI}{w:World}{K:LG}{mg:Str->Option Value}{base:Heap}
def JP(s:Stmt):List Stmt:=match s with | .ClassDef _ _ _ b _ _ _ _ _ _ _=>b |_=>[]
abbrev pT:Stmt:=(JP (top 9)).getD 0 (.Pass ⟨0,0,0,0⟩)
theorem vF:aV ["self","at"] ["self","at"] (aJ pT):=bz (by decide+kernel)
inductive A6(K:LG)(vs:List V)(H:Hp)(Q:VK):Prop |mk (ex:_)(C:_)(y:_)(h0:vs=[.ref ex,y])(h1:H ex=some (.ext (il ex C)))(h2:tR K C "at")(h3:∀dx,H dx=none->dx≠ex->Q .aq (L2.upd (L2.upd H dx (.xd [("at",y)])) ex (.ext (gr ex C dx)))):A6 K vs H Q
def vi(K:LG):Sp:=fun vs H Q _=>A6 K vs H Q
theorem Es{f:Addr}{fd:FuncData}(F:fV K "__init__" "NoText.__init__" pT f fd):dY P w K mg base du 1 f fd ["self","at"] (vi K):=by
 refine F.ok vF (fun vs H Q E h=>?_) (fun ah A outer s H vs Q E hr h=>?_)
 · obtain⟨ex,C,y,rfl,_⟩:=h
   rfl
 · obtain⟨ex,C,y,rfl,e1,xc,k⟩:=h
   have nd:=vF.nd;refine⟨_,(ao (DK K rfl (pv 0) (pv 1))),?_⟩;exact⟨_,rfl,_,rfl,ex,C,rfl,e1,xc,k⟩
structure zU(K:LG)(mg:Str->Option Value)(C fI:Addr):Prop where
 e:je K mg "NoText" C fI tE xi
 i:PySem.W.findIn K (.ref C) "__init__"=some (some (.ref fI))
 x:tR K C "at"
 f:fnAt K fI=true
 fn:∃fd,fV K "__init__" "NoText.__init__" pT fI fd
inductive Ai(K:LG)(C:Addr)(vs:List V)(H:Hp)(Q:VK)(E:XK):Prop |mk (m:V)(v:V)(rs:List Int)(es:List LJ)(h0:vs=[m,v])(h1:RD K H m (.tuple (.tuple (rs.map PyData.int)::es)))(h2:bB es=true)(h3:rs.length<=3)(h4:((∃z:Str,v= .str z/\z.length<=600/\dn z/\(∀(i:Nat) H' dx,FB (cA rs.length z) i->af H H'->H' dx=some (.xd [("at",.int i)])->E (.ref C) (some dx) H')/\(oP (cA rs.length z)->∀v' H',af H H'->RD K H' v' (.tuple (cA rs.length z))->Q v' H'))\/ ∃d,RD K H v d/\ck (de d) "str"=false/\∀H' dx,af H H'->H' dx=some (.xd [("at",.int ((0:Nat):Int))])->E (.ref C) (some dx) H')):Ai K C vs H Q E
def vt(K:LG)(C:Addr):Sp:=fun vs H Q E=>Ai K C vs H Q E
theorem EF{C fI:Addr}(F:FA K mg "read_items" qc)(B:bc mg)(OC:zU K mg C fI)(Iy:GV mg "MOST_ITEMS" (.int 20))(HB:au P w K mg base "item_in" 5 (pL K)):oO P w K mg base "read_items" 6 (vt K C):=by
 obtain⟨fd,FI⟩:=OC.fn;have yt:=OC.e;have yq:dY P w K mg base du 1 fI fd ["self","at"] (vi K):=Es FI;have yu:Binds K fd ["self","at"] []:=FI.binds (fun _ _ _ _ _ _=>dm fun _ _=>rfl);have yr:=OC.f;refine F.Ib vO (fun vs H Q E h=>?_) (fun _ _ _ _ _ _=>dm fun _ _=>rfl) (fun f ah A outer s H vs Q E hr h=>?_)
 · obtain⟨m,v,rs,es,rfl,_⟩:=h
   rfl
 · obtain⟨m,v,rs,es,rfl,rm,ne,l3,hc⟩:=h
   have nd:=vO.nd;have fk:sizeLine=16777216:=by decide
   refine⟨_,(ai (aR (eE (dS (fC K B (a7 (pv 1) (a7 (fe (x:="str") (v:=.ty "str") rfl (B.at "str") m9 rfl) a8))))) (ao (wD (fun _ _ _ _ _ _ I a b q=>uH I a b q) yt PySem.F.excBase_ValueError hr.hd yq (hr.mono (by decide)) yu yr rfl (a7 ae a8))) aU) (ai (aR (aO dh (pv 1) aw (aP _)) (ao (aF (dA a8))) aU) (ai (pS 2 nd (cU a8)) (ai (iI PassesOwn.leaving rfl (DV K rfl true rfl (B.at "enumerate") (a7 (jx K rfl (pv 1) (a7 aw a8)) a8)) (qS K rfl (n:=2) rfl (iJ (bA 3 nd) (iJ (bA 4 nd) qQ))) (ai (pS 5 nd (pf HB hr (a7 (pv 0) (a7 (pv 4) a8)))) (ai (aR (PW.pt (fB (aO mY (pv 5) cC (aP _)) (gy (aO dh (pv 3) (cD (x:="MOST_ITEMS") rfl Iy) (aP _))))) (ao (wD (fun _ _ _ _ _ _ I a b q=>uH I a b q) yt PySem.F.excBase_ValueError hr.hd yq (hr.mono (by decide)) yu yr rfl (a7 (pv 3) a8))) aU) (ao (wF (wK K rfl (pv 2) (a7 (pv 5) a8))))))) (ao (aF (eM (x:="tuple") (iB K rfl) rfl (B.at "tuple") gu (a7 (pv 2) a8)))))))),?_⟩;rcases hc with⟨z,rfl,hz,tz,k1,k2⟩|⟨d,rd,ht,k⟩
   · refine⟨_,rfl,.inl ⟨_,_,"str",true,rfl,(bb (K:=K) (H:=H) z).ty,by decide,pC,_,rfl,aB ?_⟩⟩
     refine⟨_,rfl,rfl,_,rfl,?_⟩;rw[jm];by_cases fG:z=""
     · rw[br fG]
       refine aK ⟨bK _,fun p H2 n2=>?_⟩;have e:cA rs.length z=[]:=aI fG;rw[e]at k2;exact k2 ⟨bK _,fun _ h=>nomatch h⟩ _ _ n2.same (cw (ay.of n2.at') fA)
     rw[bu fG];refine aB ⟨bK _,fun D H1 n1=>?_⟩;refine⟨_,rfl,rfl,z,"\n",rfl,rfl,by decide+kernel,by omega,fun q H2 n2=>?_⟩;have no:=wu rs.length z;have ja:cA rs.length z=(Txt.split z "\n").map (cV rs.length):=aC fG;generalize cA rs.length z=ds at k1 k2 no ja;have lr:(Txt.split z "\n").length=ds.length:=by rw[ja,aE]
     have Dq:D≠q:=cn n1.at' n2.no;have s2:=n1.same.trans n2.same;refine⟨q,rfl,⟨_,aa.of n2.at'⟩,J9 (K:=K) (b:=true) (a:=q) (xs:=(Txt.split z "\n").map V.str) (fun i σ H3=>af H H3/\∃ys v1 v2 v3,H3 D=some (.lst ys)/\H3 q=some (.lst ((Txt.split z "\n").map V.str))/\aj K H3 ys (ds.take i)/\(∀j d,j<i->ds[j]? =some d->d≠ .none)/\i<=20/\σ=[some m,some (.str z),some (.ref D),v1,v2,v3]) ?_ ?_ ?_ ?_⟩
     ·exact⟨s2,[],none,none,none,n2.same _ _ n1.at',n2.at',cS,fun _ _ h=>absurd h (Nat.not_lt_zero _),bK _,rfl⟩
     · rintro i σ H3 _ ⟨_,ys,v1,v2,v3,_,eq,_⟩
       exact aa.of eq
     · rintro i y σ H3 lq ⟨s3,ys,v1,v2,v3,dD,dq,ry,pre,fF,rfl⟩ T H4 n4
       rw[cg]at lq;obtain⟨r,er,rfl⟩:=md.mp lq;have hm:=fq er;rw[i3]at hm;have nN:=split_le hm;have rZ:=hJ tz hm;have ed:ds[i]? =some (cV rs.length r):=by rw[ja,cg,er];rfl
       have hi:i<ds.length:=(dM.mp ed).1;have s4:=s3.trans n4.same;refine⟨T,_,rfl,ay.of n4.at',rfl,_,_,rfl,_,_,rfl,rfl,?_⟩;refine⟨_,rfl,_,rfl,m,rs,es,r,rfl,RD.mono s4 _ rm,ne,l3,by omega,rZ,fun v H5 s5 rv=>?_⟩;have t5:=n4.same.trans s5;have gp:=t5 _ _ dD;have t8:=t5 _ _ dq;have mP:=s3.trans t5;have ly:=ry.length;rw[gW]at ly;have raise:FB ds i->True:=fun _=>trivial;refine⟨_,rfl,rfl,_,rfl,?_⟩;have hx:∀(ex dx:Addr),H5 ex=none->H5 dx=none->dx≠ex->af H (L2.del (L2.upd (L2.upd (L2.upd H5 ex (.ext (il ex C))) dx (.xd [("at",.int (i:Int))])) ex (.ext (gr ex C dx))) ex):=fun ex dx fx j9 n=>fun b o e=>by have e5:=mP b o e;have nb:b≠ex:=cn e5 fx;have jE:b≠dx:=cn e5 j9;rw[gm nb,aL nb,aL jE,aL nb];exact e5
       cases hv:decide (v=V.aq)with |true=>
         have e:=(nH rv).mp hv;refine aK (aK ?_);refine⟨_,rfl,dQ rfl,fun ex fx=>?_⟩;refine⟨ex,C,_,rfl,bR,OC.x,fun dx i9 ne=>⟨rfl,dx,bR,?_⟩⟩;have j9:H5 dx=none:=by rw[aL ne]at i9;exact i9
         refine k1 i _ dx ⟨hi,fF,pre,.inl (by rw[ed,e])⟩ (hx ex dx fx j9 ne) ?_;rw[gm ne,aL ne,bR] |false=>
         have e:cV rs.length r≠ .none:=fun e=>by rw[(nH rv).mpr e]at hv;cases hv
         refine aB ⟨_,rfl,rfl,_,rfl,?_⟩;by_cases lR:i=20
         · rw[br (show V.int (i:Int)=V.int 20 by rw[lR];rfl)]
           refine aK ?_;refine⟨_,rfl,dQ rfl,fun ex fx=>?_⟩;refine⟨ex,C,_,rfl,bR,OC.x,fun dx i9 ne=>⟨rfl,dx,bR,?_⟩⟩;have j9:H5 dx=none:=by rw[aL ne]at i9;exact i9
           refine k1 i _ dx ⟨hi,fF,pre,.inr lR⟩ (hx ex dx fx j9 ne) ?_;rw[gm ne,aL ne,bR]
         · rw[bu (show¬V.int (i:Int)=V.int 20 from fun e=>by injection e with e;omega)]
           refine aB ⟨_,rfl,.inl ⟨rfl,_,aa.of gp⟩,_,rfl,D,ys,_,rfl,rfl,gp,by omega,?_⟩;have sT:eI H5 (L2.upd H5 D (.lst (ys++[v]))):=.mn gp;refine⟨fun b o e=>?_,ys++[v],_,_,_,bR,?_,?_,fun j d hj ej=>?_,by omega,rfl⟩
           ·rw[aL (cn e n1.no)];exact t5 _ _ (s3 _ _ e)
           ·rw[aL Dq.symm];exact t8
           · rw[oZ,ed]
             have rj:bB (ds.take i)=true:=dB.mpr fun d lM=>dB.mp no d (km lM);exact(aj.t sT _ rj (aj.mono t5 _ ry)).append (bS (RD.t sT _ (rP rs.length r) rv) cS)
           · by_cases su:j<i
             ·exact pre j d su ej
             · have:j=i:=by omega
               subst this;rw[ed]at ej;cases ej;exact e
     · rintro σ H3 ⟨s3,ys,v1,v2,v3,dD,dq,ry,pre,fF,rfl⟩
       rw[aE,lr]at ry pre fF;rw[iy (aD _)]at ry;refine⟨_,rfl,D,_,rfl,.inl ⟨aa.of dD,fun p H4 n4=>?_⟩⟩;refine k2 ⟨fF,fun d hd=>?_⟩ _ _ (s3.trans n4.same) (cw (ay.of n4.at') (aj.mono n4.same _ ry));obtain⟨j,hj⟩:=uq.mp hd;exact pre j d (dM.mp hj).1 hj
   · refine⟨_,rfl,.inl ⟨_,_,"str",false,rfl,rd.ty,by decide,ht,_,rfl,aK ?_⟩⟩
     refine⟨dQ rfl,fun ex fx=>?_⟩;refine⟨ex,C,_,rfl,bR,OC.x,fun dx i9 ne=>⟨rfl,dx,bR,?_⟩⟩;have j9:H dx=none:=by rw[aL ne]at i9;exact i9
     refine k _ dx (fun b o e=>?_) ?_
     · have nb:b≠ex:=cn e fx
       have jE:b≠dx:=cn e j9;rw[gm nb,aL nb,aL jE,aL nb];exact e
     ·rw[gm ne,aL ne,bR];rfl
theorem ty_str{H:Hp}{z:Str}{d:LJ}(h:RD K H (.str z) d):de d="str":=by cases d with |str b=>rfl |none=>have:=h.nj;cases this |bool b=>have:=h.tH;cases this |int b=>have:=h.int_inv;cases this |list b=>obtain⟨_,_,h,_⟩:=h.lst_inv;cases h |tuple b=>obtain⟨_,_,h,_⟩:=h.cR;cases h |_=>rw[RD]at h;exact h.elim
inductive Ac(K:LG)(vs:List V)(H:Hp)(Q:VK):Prop |mk (m:V)(v:V)(rs:List Int)(es:List LJ)(h0:vs=[m,v])(h1:RD K H m (.tuple (.tuple (rs.map PyData.int)::es)))(h2:bB es=true)(h3:rs.length<=3)(h4:((∃z:Str,v= .str z/\z.length<=600/\dn z/\(∀(i:Nat) H',FB (cA rs.length z) i->af H H'->Q (.int i) H')/\(oP (cA rs.length z)->∀v' H',af H H'->RD K H' v' (.tuple (cA rs.length z))->Q v' H'))\/ ∃d,RD K H v d/\ck (de d) "str"=false/\∀H',af H H'->Q (.int ((0:Nat):Int)) H')):Ac K vs H Q
def pJ(K:LG):Sp:=fun vs H Q _=>Ac K vs H Q
structure Be(K:LG)(mg:Str->Option Value)(C fI cG c0 c1 c2 c3 c4 c5 c6 c7 c8 c9:Addr):Prop where
 oc:zU K mg C fI
 g:Exc K mg "GlideError" cG tE xi
 t:takes K C cG
 k:fX K C
 h0:GV mg "Full" (.ref c0)
 h1:GV mg "Moving" (.ref c1)
 h2:GV mg "NoFraction" (.ref c2)
 h3:GV mg "NoItem" (.ref c3)
 h4:GV mg "NoLine" (.ref c4)
 h5:GV mg "NoMachine" (.ref c5)
 h6:GV mg "NoPlace" (.ref c6)
 h7:GV mg "NoRate" (.ref c7)
 h8:GV mg "NoTape" (.ref c8)
 h9:GV mg "OffRails" (.ref c9)
 any:PySem.W.kitAny K (.ref C) [.ref c0,.ref c1,.ref c2,.ref c3,.ref c4,.ref c5,.ref c6,.ref c7,.ref c8,.ref c9]=some false
 own:PySem.W.kitOne K (.ref C) (.ref C)=some true
 ve:PySem.W.kitOne K (.ref C) (.type "ValueError")=some true
 v:mg "ValueError"=none
 fat:PySem.W.findIn K (.ref C) "at"=some none
theorem EL(F:FA K mg "_law_is_whole" qi)(B:bc mg):oN P w K mg base "_law_is_whole" 1 (kK K):=by
 refine F.Ia vV (fun vs H Q E h=>?_) (fun _ _ _ _ _ _=>gO fun _=>rfl) (fun f ah A outer s H vs Q hr h=>?_)
 · obtain⟨v,T,rfl,_⟩:=h
   rfl
 · obtain⟨v,T,rfl,ty,k⟩:=h
   have nd:=vV.nd;refine⟨_,(ao (aF (jw (fC K B (a7 (pv 0) (a7 (fe (x:="int") (v:=.ty "int") rfl (B.at "int") oX rfl) a8))) (kP (wI (fC K B (a7 (pv 0) (a7 (fe (x:="bool") (v:=.ty "bool") rfl (B.at "bool") PyProof.Rows.boot_bool rfl) a8)))))))),?_⟩;refine⟨_,rfl,.inl ⟨_,T,"int",_,rfl,ty,by decide,rfl,_,rfl,?_⟩⟩;unfold iV at k;refine bF (fun hc=>?_) (fun hc=>?_)
   · refine⟨_,rfl,.inl ⟨_,T,"bool",_,rfl,ty,by decide,rfl,_,rfl,?_⟩⟩
     rw[hc,cj]at k;exact k
   · rw[f6.mpr hc,cz]at k
     exact k
abbrev pY:Stmt:=top 52
theorem vK:aV ["_law_machine_here","_law_thing","e"] ["_law_machine_here","_law_thing"] (aJ pY):=bz (by decide+kernel)
theorem Ez{C fI cG c0 c1 c2 c3 c4 c5 c6 c7 c8 c9:Addr}(F:FA K mg "_law_told" pY)(B:bc mg)(EA:Be K mg C fI cG c0 c1 c2 c3 c4 c5 c6 c7 c8 c9)(Ha:oO P w K mg base "read_items" 6 (vt K C))(IU:oN P w K mg base "_law_is_whole" 1 (kK K)):au P w K mg base "_law_told" 7 (pJ K):=by
 refine F.Ic vK (fun vs H Q E h=>?_) (fun _ _ _ _ _ _=>dm fun _ _=>rfl) (fun f ah A outer s H vs Q E hr h=>?_)
 · obtain⟨m,v,rs,es,rfl,_⟩:=h
   rfl
 · obtain⟨m,v,rs,es,rfl,rm,ne,l3,hc⟩:=h
   have nd:=vK.nd;have hy:=EA.g;have sC:(tE).contains (.type "BaseException")=true:=by decide
   have sI:∀C',C'=C->ClsAt K C'/\takes K C' cG:=fun C' e=>by subst e;exact⟨EA.oc.e.cls,EA.t⟩
   have ID:=EA.h0;have Iw:=EA.h1;have Iv:=EA.h2;have Iu:=EA.h3;have Ir:=EA.h4;have Iq:=EA.h5;have Ip:=EA.h6;have Io:=EA.h7;have Im:=EA.h8;have Ik:=EA.h9;have Ii:=EA.v;have Il:GV mg "NoText" (.ref C):=⟨_,EA.oc.e.at',rfl⟩;refine⟨_,(lZ.one (DM (i:=2) rfl rfl nd rfl rfl rfl (fun E xe hp=>(ao (aF (E4 Ha hp (hr.mono (by decide)) rfl (a7 (pv 0) (a7 (pv 1) a8)))))) rfl hy sC sI (fun ex=>(ai (aR (dS (cm (x:="isinstance") (rR K rfl) rfl (B.at "isinstance") ug (a7 (pv 2) (a7 (dA (a7 (cD (x:="Full") rfl ID) (a7 (cD (x:="Moving") rfl Iw) (a7 (cD (x:="NoFraction") rfl Iv) (a7 (cD (x:="NoItem") rfl Iu) (a7 (cD (x:="NoLine") rfl Ir) (a7 (cD (x:="NoMachine") rfl Iq) (a7 (cD (x:="NoPlace") rfl Ip) (a7 (cD (x:="NoRate") rfl Io) (a7 (cD (x:="NoTape") rfl Im) (a7 (cD (x:="OffRails") rfl Ik) a8))))))))))) a8)))) (ao (aF aw)) aU) (ai (aR (PW.pt (fB (eE (dS (cm (x:="isinstance") (rR K rfl) rfl (B.at "isinstance") ug (a7 (pv 2) (a7 (cD (x:="NoText") rfl Il) a8))))) (fB (eE (dS (cm (x:="isinstance") (rR K rfl) rfl (B.at "isinstance") ug (a7 (pv 2) (a7 (fe (x:="ValueError") (v:=.ty "ValueError") rfl Ii K5 rfl) a8))))) (gy (eE (dS (E3 IU ((hr.mark _).mono (by decide)) rfl (a7 (wH K rfl (pv 2)) a8)))))))) (ao (aF aw)) aU) (ao (aF (wH K rfl (pv 2))))))))),?_⟩;refine⟨fun cls dx H'=>cls= .ref C/\∃(d:Addr)(n:Nat),dx=some d/\((∃z:Str,v= .str z/\z.length<=600/\dn z/\FB (cA rs.length z) n)\/∃d,RD K H v d/\ck (de d) "str"=false/\n=0)/\af H H'/\H' d=some (.xd [("at",.int n)]),?_,fun cls dx H' h=>⟨C,h.1,rfl⟩,?_⟩
   · refine⟨_,rfl,_,rfl,m,v,rs,es,rfl,rm,ne,l3,?_⟩
     rcases hc with⟨z,rfl,hz,tz,k1,k2⟩|⟨d,rd,ht,k⟩
     ·exact .inl ⟨z,rfl,hz,tz,fun n H' dx fo sm hd=>⟨rfl,dx,n,rfl,.inl ⟨z,rfl,hz,tz,fo⟩,sm,hd⟩,k2⟩
     ·exact .inr ⟨d,rd,ht,fun H' dx sm hd=>⟨rfl,dx,0,rfl,.inr ⟨d,rd,ht,rfl⟩,sm,hd⟩⟩
   · rintro C' ex dx σ' H' hl ⟨eC,d,n,rfl,fo,sm,hd⟩ hex
     cases eC;have fin:∀H2,af H H2->Q (.int (n:Int)) H2:=fun H2 s2=>by
      rcases fo with⟨z,e,hz,tz,fb⟩|⟨d',rd,ht,e⟩
      · subst e
        rcases hc with⟨z',e,_,_,k1,_⟩|⟨d',rd,ht,_⟩
        ·cases e;exact k1 n H2 fb s2
        ·exact absurd ht (by rw[ty_str rd];decide)
      · rcases hc with⟨z',e2,_,_,k1,_⟩|⟨d',rd,ht,k⟩
        ·subst e2;exact absurd ht (by rw[ty_str rd];decide)
        ·rw[e];exact k H2 s2
     have Hs:σ'.length=3:=hl
     match σ',Hs with
     |[u1,u2,u3],_=>
       have e1:(L2.upd H' ex (.ext (fY ex (.ref C) (some d)))) ex=some (.ext (fY ex (.ref C) (some d))):=bR;have JD:d≠ex:=cn hd hex;have e3:(L2.upd H' ex (.ext (fY ex (.ref C) (some d)))) d=some (.xd [("at",.int n)]):=by rw[aL JD];exact hd
       refine⟨_,rfl,dQ rfl,fun t H2 nw=>?_⟩;have e2:=nw.same _ _ e1;have e4:=nw.same _ _ e3;refine .inr ⟨ex,C,t,some d,[c0,c1,c2,c3,c4,c5,c6,c7,c8,c9],false,rfl,e2,EA.k,nw.at',EA.any,_,rfl,aB ?_⟩;refine⟨_,rfl,.inl ⟨ex,C,some d,.ref C,.ref C,true,rfl,e2,EA.k,rfl,EA.own,_,rfl,aB ?_⟩⟩;refine⟨_,rfl,.inl ⟨ex,C,some d,.ty "ValueError",.type "ValueError",true,rfl,e2,EA.k,rfl,EA.ve,_,rfl,aB ?_⟩⟩;refine⟨_,rfl,ex,C,d,_,(n:Int),rfl,e2,e4,EA.k,EA.fat,rfl,_,_,rfl,(eD (K:=K) (H:=H2) (n:Int)).ty,_,rfl,?_⟩;rw[show iV (de (.int (n:Int)))=true from(by decide:iV "int"=true)];refine aB ?_;exact⟨_,rfl,ex,C,d,_,(n:Int),rfl,e2,e4,EA.k,EA.fat,rfl,fin H2 (sm.trans ((af.new hex).trans nw.same))⟩
end
end Lw
namespace Lw
open PySem PySem.Spec PyProof.Rows L2 Ln Wk
open Tm (numS numIn? figs isFig Free)
section
variable {P:LI}{w:World}{K:LG}{mg:Str->Option Value}{base:Heap}
theorem C6{ws:List Str}(h:∀w∈ws,dn w):aX 7 (bV ws):=by match ws with
 |[]=>exact .aq |w::rest=>
   have hw:=h w (.head _);by_cases hx:w="line"
   · subst hx
     rcases uy rest with rfl|⟨ys,y,rfl⟩
     ·rw[kD];exact .aq
     · rw[uB,my]
       have hs:cF 2 [.str "line",.tuple (ys.map nI),nI y]:=fun d hd=>by
        simp only[aW,cP,gU]at hd;rcases hd with rfl|rfl|rfl
        ·exact iQ hw
        ·exact(cF.tup (n:=0) fun d hd=>by obtain⟨z,_,rfl⟩:=bM.mp hd;exact jF z).le (by decide)
        ·exact jF y
       exact hs.tup.le (by decide)
   ·match rest,h with
     |[],_=>rw[gZ hx (by simp)];exact .aq |[r],h=>
       rw[iC hx];have hv:aX 0 (if w="wait" then nI r else .str r):=by
        split
        ·exact jF r
        ·exact iQ (h r (.tail _ (.head _)))
       have hs:cF 1 [.str w,if w="wait" then nI r else .str r]:=fun d hd=>by
        simp only[aW,cP,gU]at hd;rcases hd with rfl|rfl
        ·exact iQ hw
        ·exact hv.le (by decide)
       exact hs.tup.le (by decide) |_::_::_,_=>rw[gZ hx (by simp)];exact .aq
theorem Gz{n:Nat}{z:Str}(h:dn z):aX 7 (cV n z):=by unfold cV;cases dE n (bV (Txt.split z " "))with |true=>exact C6 fun y hy=>by rw[dP]at hy;exact hJ h hy |false=>exact .aq
theorem Dh{n:Nat}{z:Str}(h:dn z):aX 8 (.tuple (cA n z)):=cF.tup (n:=7) fun d hd=>by
 unfold cA at hd;split at hd
 ·exact(cP hd).elim
 · obtain⟨y,hy,rfl⟩:=bM.mp hd
   rw[i3]at hy;exact Gz (hJ h hy)
theorem uR:ck "tuple" "tuple"=true:=by decide
theorem mx:ck "int" "tuple"=false:=by decide
def vx(K:LG):Sp:=fun vs H Q _=>∃(a:Addr)(ns:List Int),vs=[.ref a]/\aa K H a (ns.map V.int)/\ns.length<=63/\∀H',Q (.bl true) H'
abbrev fz:Stmt:=top 53
theorem vU:aV ["_law_script","_law_at","_law_bag_here","_law_odd","_law_machine_here","_law_axes","_law_thing","_law_due_here","_law_again","_law_told_here"] ["_law_script"] (aJ fz):=bz (by decide+kernel)
def ng:Expr:=match(cZ fz)with| .For _ _ (_:: .Assign _ (.Subscript e _ _) _::_) _ _::_=>e|_=>.Constant .none 0 ⟨0,0,0,0⟩
def hW:List LJ:=[.none,.int 0,.bool true,.list [],.list [.str "wait 5"],.tuple [.str "wait 5"],.tuple [],.int (10^(39:Int).toNat),.tuple [.str "wait",.int 5],.bool false]
theorem Fd:lit 4 ng=some (.list hW):=by kernel_rfl
def xA(e:Expr):List Stmt:=match cZ fz with| .For t it (b0:: .Assign ts (.Subscript _ ix p2) p1::r) o p::q=>.For t it (b0:: .Assign ts (.Subscript e ix p2) p1::r) o p::q|r=>r
theorem FR:xA ng=cZ fz:=by kernel_rfl
theorem Fc:∀d∈hW,ck (de d) "str"=false:=by intro d hd;unfold hW at hd;simp only[aW,cP,gU]at hd;rcases hd with rfl|rfl|rfl|rfl|rfl|rfl|rfl|rfl|rfl|rfl<;>(show ck _ "str"=false;decide)
theorem Gg{f:Addr}{ah:Value}{A:LK}{outer:List Env}{s:LH}{H:Hp}{Q:VK}{E:XK}{a:Addr}{ns:List Int}(e:Expr)(hr:bj 7 (A.deeper (envOfC "law" (aJ fz) s.heap.objs.size f ah))) (he:zR (dk du P w K mg base ["_law_script","_law_at","_law_bag_here","_law_odd","_law_machine_here","_law_axes","_law_thing","_law_due_here","_law_again","_law_told_here"] "law" (aJ fz) f ah A outer s H E).iS e (mB K (.list hW))) (B:bc mg)(sH:au P w K mg base "_law_bag" 1 (pP K))(aY:au P w K mg base "_law_take" 1 f7)(sF:au P w K mg base "_law_machine" 2 (pK K))(nX:au P w K mg base "_law_text" 4 (mJ K))(sG:au P w K mg base "_law_due" 4 (pO K))(sE:au P w K mg base "_law_told" 7 (pJ K)) (hS:aa K H a (ns.map V.int))(hlen:ns.length<=63)(k:∀H',Q (.bl true) H'): ∃t,cE (dk du P w K mg base ["_law_script","_law_at","_law_bag_here","_law_odd","_law_machine_here","_law_axes","_law_thing","_law_due_here","_law_again","_law_told_here"] "law" (aJ fz) f ah A outer s H E).iS (xA e) t/\t {nx:=fun _ H'=>Q .aq H',rt:=Q} (start ["_law_script","_law_at","_law_bag_here","_law_odd","_law_machine_here","_law_axes","_law_thing","_law_due_here","_law_again","_law_told_here"] [.ref a]) H:=by
    have nd:=vU.nd;have fk:sizeLine=16777216:=by decide
    refine⟨_,(ai (iI kj rfl (gA rfl (B.at "range") (a7 (cm (x:="max") (JT rfl) rfl (B.at "max") PyProof.Rows.boot_max (a7 ae (a7 (cm (x:="min") (zu rfl) rfl (B.at "min") PyProof.Rows.boot_min (a7 ae (a7 (dg K B (a7 (pv 0) a8)) a8))) a8))) a8)) (bA 1 nd) (ai (pS 2 nd (pf sH hr (a7 (pv 0) (a7 (pv 1) a8)))) (ai (pS 3 nd (px K he.out (pf aY hr (a7 (pv 2) (a7 ae a8))))) (ai (pS 4 nd (pf sF hr (a7 (pv 2) a8))) (ai (pS 5 nd (dg K B (a7 (px K (pv 4) ae) a8))) (ao (iI kj rfl (mU K rfl (cU (a7 (pf nX hr (a7 (pv 2) (a7 (pv 5) a8))) (a7 (pf nX hr (a7 (pv 2) (a7 (pv 5) a8))) (a7 (pv 3) a8))))) (bA 6 nd) (ai (pS 7 nd (pf sG hr (a7 (pv 6) (a7 (pv 5) a8)))) (ao (iI kj rfl (gA rfl (B.at "range") (a7 ae a8)) (bA 8 nd) (ai (pS 9 nd (pf sE hr (a7 (pv 4) (a7 (pv 6) a8)))) (ao (aR (PW.pt (fB (aO (nv K rfl hr.units) (fC K B (a7 (pv 9) (a7 (fe (x:="tuple") (v:=.ty "tuple") rfl (B.at "tuple") gu rfl) a8))) (fC K B (a7 (pv 7) (a7 (fe (x:="tuple") (v:=.ty "tuple") rfl (B.at "tuple") gu rfl) a8))) (aP _)) (gy (aO (nv K rfl hr.units) (pv 9) (pv 7) (aP _))))) (ao (aF hV)) aU))))))))))))) (ao (aF hV))),?_⟩;refine⟨_,rfl,a,_,rfl,.inl hS,_,_,rfl,_,_,rfl,_,rfl,?_,?_,?_⟩
    ·split<;>(try split)<;>omega
    ·split<;>(try split)<;>(try rw[aE])<;>omega
    have hN:(if(if((ns.map V.int).length:Int)<10 then((ns.map V.int).length:Int)else 10)>1 then(if((ns.map V.int).length:Int)<10 then((ns.map V.int).length:Int)else 10)else 1).toNat<=12:=by split<;>(try split)<;>omega
    refine jN (Pv:=fun i σ H2=>af H H2/\∃v1 v2 v3 v4 v5 v6 v7 v8 v9,σ=[some (.ref a),v1,v2,v3,v4,v5,v6,v7,v8,v9]) ?_ ?_ ?_
    ·exact⟨af.refl _,none,none,none,none,none,none,none,none,none,rfl⟩
    · rintro i σ H2 hi ⟨s2,v1,v2,v3,v4,v5,v6,v7,v8,v9,rfl⟩
      have Lk:i<12:=dI hi hN;refine⟨_,rfl,_,rfl,a,ns,_,rfl,s2.seq hS,hlen,by omega,by omega,fun p H3 np zC s3=>?_⟩;intro l H4 s4 r4;have b4:aA p H3 H4:=.bf zC s4;have r5:RD K (del H4 p) l (.list hW):=RD.mono (J8 zC.ne) _ r4;refine⟨_,rfl,p,10,rfl,b4.bag,by decide,by decide,fun oi H5 i0 i1 b5=>?_⟩;have r6:RD K (del H5 p) l (.list hW):=RD.mono b5.sd _ r5;obtain⟨oa,xs,rfl,hx,hd⟩:=r6.lst_inv;have cX:oi.toNat<hW.length:=by show oi.toNat<10;omega
      obtain⟨ov,ey,ry⟩:=hd.get oi.toNat (fu cX);have pB:=Fc _ (kq cX);generalize hW[oi.toNat]=od at ry pB;refine .inl ⟨oa,xs,oi,ov,rfl,rfl,hx.go yZ,d9 i0 ey,?_⟩;refine⟨_,rfl,p,rfl,b5.bag,fun mv rs r fl jj t0 H6 rm Ep b6=>?_⟩;have lr:=Ep.len;have D8:RD K (del H6 p) ov od:=RD.mono b6.sd _ ry;obtain⟨ma,mb,rfl,Hk,Hj⟩:=FY rm;refine⟨_,rfl,.inr ⟨ma,_,0,.ref mb,rfl,rfl,Hk,rfl,mb,_,rfl,.inr Hj,?_⟩⟩;rw[aE];refine⟨_,rfl,_,rfl,p,rs.length,rfl,b6.bag,by omega,by omega,fun z1 H7 l7 F2 b7=>?_⟩;refine⟨_,rfl,_,rfl,p,rs.length,rfl,b7.bag,by omega,by omega,fun z2 H8 l8 kU b8=>?_⟩;have tJ:=b7.trans b8;have D7:RD K (del H8 p) ov od:=RD.mono tJ.sd _ D8;have De:=RD.t (aA.t b6.bag tJ) _ (FZ _ _ _ _ _) rm;refine⟨_,rfl,by show 3<=sizeLine;omega,fun q H9 n9=>?_⟩;have wo:RD K H9 ov od:=RD.mono n9.same _ (RD.mono yZ _ D7);have qD:=RD.mono n9.same _ De;have K8:=b4.trans (b5.trans (b6.trans tJ));have s9:af H H9:=af.trans (K8.D4 (s2.trans s3) (by cases e:H p with |none=>rfl |some o=>have:=s2 _ _ e;rw[np]at this;cases this)) n9.same;have rn:bB [PyData.int r,.int fl,.int jj,.int t0]=true:=rfl;refine⟨q,rfl,⟨_,aa.of n9.at'⟩,yK (K:=K) (a:=q) (xs:=[.str z1,.str z2,ov]) (fun c σ cy=>af H9 cy/\∃w6 w7 w8 w9,σ=[some (.ref a),some (.int (0+(i:Int))),some (.ref p),some ov,some (.ref ma),some (.int rs.length),w6,w7,w8,w9]) ⟨af.refl _,_,_,_,_,rfl⟩ ?_ ?_ ?_⟩
      · rintro c σ cy _ ⟨cI,_⟩
        exact aa.of (cI _ _ n9.at')
      · rintro c x σ cy iW ⟨cI,w6,w7,w8,w9,rfl⟩
        have rY:(∃z:Str,x= .str z/\z.length<=600/\dn z)\/(x=ov):=by match c,iW with |0,iW=>cases iW;exact .inl ⟨z1,rfl,l7,F2⟩ |1,iW=>cases iW;exact .inl ⟨z2,rfl,l8,kU⟩ |2,iW=>cases iW;exact .inr rfl
        rcases rY with⟨z,rfl,lz,eG⟩|rfl
        · refine⟨_,rfl,_,rfl,.str z,rs.length,rfl,by omega,.inl ⟨z,rfl,lz,eG,fun n da fb f9=>?_,fun al dv da f9 Dg=>?_⟩⟩
          · refine⟨2,rfl,by decide,by decide,?_⟩
            refine jN (Pv:=fun _ σ eT=>af da eT/\∃w8 w9,σ=[some (.ref a),some (.int (0+(i:Int))),some (.ref p),some ov,some (.ref ma),some (.int rs.length),some (.str z),some (.int ((n:Nat):Int)),w8,w9]) ⟨af.refl _,_,_,rfl⟩ ?_ ?_
            · rintro j σ eT hj ⟨dR,kx,kv,rfl⟩
              have jo:=(cI.trans f9).trans dR;refine⟨_,rfl,_,rfl,.ref ma,(.str z),rs,[PyData.int r,.int fl,.int jj,.int t0],rfl,RD.mono jo _ qD,rn,by omega,.inl ⟨z,rfl,lz,eG,fun n2 jZ sV dz=>?_,fun al=>(fb.xn al).elim⟩⟩;cases fb.uniq sV;refine⟨_,rfl,.inl ⟨_,"int","tuple",false,rfl,rfl,by decide,mx,?_⟩⟩;refine⟨_,rfl,.inl ⟨_,"int","tuple",false,rfl,rfl,by decide,mx,?_⟩⟩;refine .inr ⟨_,_,iH _,iH _,rfl,rfl,_,rfl,?_⟩;rw[eqv_refl _ rfl];refine aB ⟨_,rfl,_,rfl,.inl ⟨_,_,rfl,rfl,_,rfl,?_⟩⟩;rw[br rfl];exact aB ⟨dR.trans dz,_,_,rfl⟩
            · rintro σ eT ⟨dR,kx,kv,rfl⟩
              exact⟨(cI.trans f9).trans dR,_,_,_,_,rfl⟩
          · refine⟨2,rfl,by decide,by decide,?_⟩
            refine jN (Pv:=fun _ σ eT=>af da eT/\∃w8 w9,σ=[some (.ref a),some (.int (0+(i:Int))),some (.ref p),some ov,some (.ref ma),some (.int rs.length),some (.str z),some dv,w8,w9]) ⟨af.refl _,_,_,rfl⟩ ?_ ?_
            · rintro j σ eT hj ⟨dR,kx,kv,rfl⟩
              have jo:=(cI.trans f9).trans dR;refine⟨_,rfl,_,rfl,.ref ma,.str z,rs,[PyData.int r,.int fl,.int jj,.int t0],rfl,RD.mono jo _ qD,rn,by omega,.inl ⟨z,rfl,lz,eG,fun n2 jZ sV _=>(sV.xn al).elim,fun _ tv jZ dz R1=>?_⟩⟩;have R2:=RD.mono (dR.trans dz) _ Dg;refine⟨_,rfl,.inl ⟨_,"tuple","tuple",true,rfl,R1.ty,by decide,uR,?_⟩⟩;refine⟨_,rfl,.inl ⟨_,"tuple","tuple",true,rfl,R2.ty,by decide,uR,?_⟩⟩;refine .inr ⟨_,_,iH _,iH _,rfl,rfl,_,rfl,?_⟩;rw[eqv_refl _ rfl];have ok:=Dh (n:=rs.length) eG;refine aB ⟨_,rfl,_,rfl,.inr ⟨_,_,R1,R2,hR ok,hR ok,_,rfl,?_⟩⟩;rw[eqv_refl _ ok.lay];exact aB ⟨dR.trans dz,_,_,rfl⟩
            · rintro σ eT ⟨dR,kx,kv,rfl⟩
              exact⟨(cI.trans f9).trans dR,_,_,_,_,rfl⟩
        · refine⟨_,rfl,_,rfl,x,rs.length,rfl,by omega,.inr ⟨od,RD.mono cI _ wo,pB,fun da f9=>?_⟩⟩
          refine⟨2,rfl,by decide,by decide,?_⟩;refine jN (Pv:=fun _ σ eT=>af da eT/\∃w8 w9,σ=[some (.ref a),some (.int (0+(i:Int))),some (.ref p),some x,some (.ref ma),some (.int rs.length),some x,some (.int ((0:Nat):Int)),w8,w9]) ⟨af.refl _,_,_,rfl⟩ ?_ ?_
          · rintro j σ eT hj ⟨dR,kx,kv,rfl⟩
            have jo:=(cI.trans f9).trans dR;refine⟨_,rfl,_,rfl,.ref ma,x,rs,[PyData.int r,.int fl,.int jj,.int t0],rfl,RD.mono jo _ qD,rn,by omega,.inr ⟨od,RD.mono jo _ wo,pB,fun jZ dz=>?_⟩⟩;have _:=dz;refine⟨_,rfl,.inl ⟨_,"int","tuple",false,rfl,rfl,by decide,mx,?_⟩⟩;refine⟨_,rfl,.inl ⟨_,"int","tuple",false,rfl,rfl,by decide,mx,?_⟩⟩;refine .inr ⟨_,_,iH _,iH _,rfl,rfl,_,rfl,?_⟩;rw[eqv_refl _ rfl];refine aB ⟨_,rfl,_,rfl,.inl ⟨_,_,rfl,rfl,_,rfl,?_⟩⟩;rw[br rfl];exact aB ⟨dR.trans dz,_,_,rfl⟩
          · rintro σ eT ⟨dR,kx,kv,rfl⟩
            exact⟨(cI.trans f9).trans dR,_,_,_,_,rfl⟩
      · rintro σ cy ⟨cI,w6,w7,w8,w9,rfl⟩
        exact⟨s9.trans cI,_,_,_,_,_,_,_,_,_,rfl⟩
    · rintro σ H2 ⟨s2,v1,v2,v3,v4,v5,v6,v7,v8,v9,rfl⟩
      exact k _
theorem EO{f:Addr}{fd:FuncData}(F:fV K "law" "law" fz f fd)(B:bc mg)(sH:au P w K mg base "_law_bag" 1 (pP K))(aY:au P w K mg base "_law_take" 1 f7)(sF:au P w K mg base "_law_machine" 2 (pK K))(nX:au P w K mg base "_law_text" 4 (mJ K))(sG:au P w K mg base "_law_due" 4 (pO K))(sE:au P w K mg base "_law_told" 7 (pJ K)):dY P w K mg base du 8 f fd ["_law_script"] (vx K):=by
 refine F.ok vU (fun vs H Q E h=>?_) (fun ah A outer s H vs Q E hr h=>?_)
 · obtain⟨a,ns,rfl,_⟩:=h
   rfl
 · obtain⟨a,ns,rfl,hS,hlen,k⟩:=h
   rw[<-FR];exact Gg ng hr (E1 K rfl 4 ng _ Fd) B sH aY sF nX sG sE hS hlen k
end
end Lw
set_option maxHeartbeats 1000000
namespace Lw
open PySem PySem.Spec PyProof.Rows L2
structure All(K:LG)(mg:Str->Option Value):Prop where
 B:bc mg
 g_SIDES:GT K mg "SIDES" [.str "up",.str "down"]
 g_FIGURES:GV mg "FIGURES" (.str j8)
 g_MOST_STEPS:GV mg "MOST_STEPS" (.int 100)
 g_GREATEST_SPEED:GV mg "GREATEST_SPEED" (.int 20)
 g_LONGEST_WAIT:GV mg "LONGEST_WAIT" (.int 1000)
 g_LONGEST_NAME:GV mg "LONGEST_NAME" (.int 8)
 g_LETTERS:GV mg "LETTERS" (.str dG)
 g_MOST_ITEMS:GV mg "MOST_ITEMS" (.int 20)
 ex:∃C fI cG c0 c1 c2 c3 c4 c5 c6 c7 c8 c9,Be K mg C fI cG c0 c1 c2 c3 c4 c5 c6 c7 c8 c9
 f_is_whole:FA K mg "is_whole" qr
 f_is_whole_within:FA K mg "is_whole_within" pV
 f_is_item:FA K mg "is_item" qv
 f_are_steps:FA K mg "are_steps" qy
 f_is_short_item:FA K mg "is_short_item" qs
 f_is_name:FA K mg "is_name" qu
 f_read_items:FA K mg "read_items" qc
 f_item_in:FA K mg "item_in" qq
 f_numbers_in:FA K mg "numbers_in" qd
 f_number_in:FA K mg "number_in" qg
 f__law_bag:FA K mg "_law_bag" qx
 f__law_take:FA K mg "_law_take" pZ
 f__law_is_whole:FA K mg "_law_is_whole" qi
 f__law_machine:FA K mg "_law_machine" qh
 f__law_name:FA K mg "_law_name" qe
 f__law_item:FA K mg "_law_item" qo
 f__law_item_text:FA K mg "_law_item_text" qk
 f__law_sign:FA K mg "_law_sign" qa
 f__law_number_read:FA K mg "_law_number_read" qf
 f__law_line_read:FA K mg "_law_line_read" qj
 f__law_item_read:FA K mg "_law_item_read" qt
 f__law_due:FA K mg "_law_due" qw
 f__law_word:FA K mg "_law_word" pU
 f__law_words_put:FA K mg "_law_words_put" pW
 f__law_signs_put:FA K mg "_law_signs_put" qb
 f__law_text:FA K mg "_law_text" pX
 f__law_told:FA K mg "_law_told" pY
 law:FA K mg "law" fz
theorem Kf{P:LI}{w:World}{K:LG}{mg:Str->Option Value}{base:Heap}{f:Addr}{fd:FuncData}(A:All K mg)(F:fV K "law" "law" fz f fd):dY P w K mg base du 8 f fd ["_law_script"] (vx K):=by obtain⟨C,fI,cG,c0,c1,c2,c3,c4,c5,c6,c7,c8,c9,EA⟩:=A.ex;have tk:au P w K mg base "_law_take" 1 f7:=EB A.f__law_take A.B;have iw:au P w K mg base "is_whole" 1 (kK K):=ER A.f_is_whole A.B;have ww:au P w K mg base "is_whole_within" 2 (kJ K):=Et A.f_is_whole_within A.B iw;have Gx:au P w K mg base "is_item" 4 (pM K):=EX A.f_is_item A.B A.g_GREATEST_SPEED ww (F1 A.f_are_steps A.B A.g_MOST_STEPS ww) (EU A.f_is_short_item A.B A.g_LONGEST_WAIT A.g_SIDES ww (EW A.f_is_name A.B A.g_LONGEST_NAME A.g_LETTERS));have xp:au P w K mg base "number_in" 1 mK:=EI A.f_number_in A.B A.g_FIGURES;have Gy:au P w K mg base "item_in" 5 (pL K):=ES A.f_item_in A.B xp (EG A.f_numbers_in A.B xp) Gx;have nr:au P w K mg base "_law_number_read" 1 mL:=EH A.f__law_number_read A.B;have ir:au P w K mg base "_law_item_read" 3 (pN K):=EV A.f__law_item_read A.B nr (EM A.f__law_line_read A.B nr);have tx:au P w K mg base "_law_text" 4 (mJ K):=Ey A.f__law_text A.B tk (ET A.f__law_item A.B tk (EJ A.f__law_name A.B tk)) (EN A.f__law_item_text A.B) (Eu A.f__law_words_put A.B tk (Ew A.f__law_word A.B tk)) (ED A.f__law_signs_put A.B tk (EE A.f__law_sign A.B tk));exact EO F A.B (EZ A.f__law_bag A.B) tk (EK A.f__law_machine A.B tk) tx (EY A.f__law_due A.B ir) (Ez A.f__law_told A.B EA (EF A.f_read_items A.B EA.oc A.g_MOST_ITEMS Gy) (EL A.f__law_is_whole A.B))
theorem gj{K:LG}{mg:Str->Option Value}{h:Heap}{x:Str}{c:Addr}(X:K.In h)(G:h.Ns mainGlobals mg)(a:PySem.W.nsIn K mainGlobals x=some (some (.ref c))):GV mg x (.ref c):=⟨_,kg X G a,rfl⟩
theorem Jn{K:LG}{mg:Str->Option Value}{h:Heap}{x:Str}{c:Addr}{bm:List Value}{nw:String}(X:K.In h)(G:h.Ns mainGlobals mg)(a:PySem.W.nsIn K mainGlobals x=some (some (.ref c)))(q:PySem.W.excIn K c bm nw=true):Exc K mg x c bm nw:=⟨kg X G a,q⟩
theorem C4{K:LG}{C:Addr}{f:Str}(h:PySem.W.findIn K (.ref C) f=some none):PySem.W.takerIn K C f=some none:=by unfold PySem.W.takerIn;rw[h];rfl
end Lw
def PySem.W.Fast.tw9838321183316269220:PySem.Program:=PySem.Challenge.pw_glidequeue_k54_texts_of_no_items
theorem PySem.W.Fast.te9838321183316269220:PySem.Challenge.pw_glidequeue_k54_texts_of_no_items=PySem.W.Fast.tw9838321183316269220:=rfl
def PySem.W.Fast.tw6552538413312397102:Nat:=0
def PySem.W.Fast.tw7042070996981122949:Nat:=0
def PySem.W.Fast.tw7861579946343600650:Nat:=0
def PySem.W.Fast.tw9814037282766275930:Nat:=0
def PySem.W.Fast.tw9870853281213395200:Nat:=0
def PySem.W.Fast.tw1406986418997909103:Nat:=0
def PySem.W.Fast.tw5006527159928999176:Nat:=0
def PySem.W.Fast.tw13986064038723086563:Nat:=0
def PySem.W.Fast.tw14013519135407180681:Nat:=0
def PySem.W.Fast.tw9181884262879997540:Nat:=0
def PySem.W.Fast.tw16481505785404420343:Nat:=0
def PySem.W.Fast.tw9211481253905115176:Nat:=0
def PySem.W.Fast.tw1198419620279170032:Nat:=0
def PySem.W.Fast.tw5310020906434810544:Nat:=0
def PySem.W.Fast.tw13103154633837381065:Nat:=0
def PySem.W.Fast.tw2664436314480943860:Nat:=0
def PySem.W.Fast.tw3223918714319561008:Nat:=0
def PySem.W.Fast.tw5952906086307273967:Nat:=0
def PySem.W.Fast.tw14007138127214042741:Nat:=0
def PySem.W.Fast.tw17778626834894352112:Nat:=0
def PySem.W.Fast.tw30548574420759070:Nat:=0
def PySem.W.Fast.tw8948042154078504343:Nat:=0
def PySem.W.Fast.tw11011727806368925336:Nat:=0
def PySem.W.Fast.tw4620534455419319691:Nat:=0
def PySem.W.Fast.tw3036966296400268308:Nat:=0
def PySem.W.Fast.tw3459763778991267707:Nat:=0
def PySem.W.Fast.tw4380282708352104713:Nat:=0
def PySem.W.Fast.tw9935714878772676989:Nat:=0
def PySem.W.Fast.tw13140372908471328746:Nat:=0
def PySem.W.Fast.tw11513655716548121285:Nat:=0
def PySem.W.Fast.tw9598408493763983456:Nat:=0
def PySem.W.Fast.tw10252827538635955749:Nat:=0
def PySem.W.Fast.tw10243688452908008428:Nat:=0
def PySem.W.Fast.tw8292049878410980189:Nat:=0
def PySem.W.Fast.tw9867537432593704289:Nat:=0
def PySem.W.Fast.tw6440972591458381230:Nat:=0
def PySem.W.Fast.tw15602578595595267784:Nat:=0
def PySem.W.Fast.tw13842497742597822759:Nat:=0
def PySem.W.Fast.tw484917344399521956:Nat:=0
def PySem.W.Fast.tw1636375745196061067:Nat:=0
def PySem.W.Fast.tw18261051574075478944:Nat:=0
def PySem.W.Fast.tw11255532182270335130:Nat:=0
def PySem.W.Fast.tw6736231716123285349:Nat:=0
def PySem.W.Fast.tw13459827074194340953:Nat:=0
def PySem.W.Fast.tw3800258740784587861:Nat:=0
def PySem.W.Fast.tw17266886224076566469:Nat:=0
def PySem.W.Fast.tw10212641544970380927:Nat:=0
def PySem.W.Fast.tw6082563026914747889:Nat:=0
def PySem.W.Fast.tw4295824043053285448:Nat:=0
def PySem.W.Fast.tw274306365241252026:Nat:=0
def PySem.W.Fast.tw8863281918592107098:Nat:=0
def PySem.W.Fast.tw16541330891361116670:Nat:=0
def PySem.W.Fast.tw13097405788350421346:Nat:=0
def PySem.W.Fast.tw4550012638335033277:Nat:=0
def PySem.W.Fast.tw1960135546889691225:Nat:=0
def PySem.W.Fast.tw7607878398235263786:Nat:=0
def PySem.W.Fast.tw563250283006367153:Nat:=0
def PySem.W.Fast.tw12344673362631094962:Nat:=0
def PySem.W.Fast.tw13049917710633656995:Nat:=0
def PySem.W.Fast.tw7872271413613330064:Nat:=0
def PySem.W.Fast.tw15624621608785182609:Nat:=0
def PySem.W.Fast.tw12878007202064783956:Nat:=0
def PySem.W.Fast.tw9955205479450874049:Nat:=0
def PySem.W.Fast.tw1253940682360247814:Nat:=0
def PySem.W.Fast.tw647971740689484609:Nat:=0
def PySem.W.Fast.tw10302170977823061651:Nat:=0
def PySem.W.Fast.tw7515516675218659496:Nat:=0
def PySem.W.Fast.tw5522085746129923469:Nat:=0
def PySem.W.Fast.tw6935494978076096408:Nat:=0
def PySem.W.Fast.tw16732501922710345406:Nat:=0
def PySem.W.Fast.tw15504975512240637313:Nat:=0
def PySem.W.Fast.tw2483964645478703970:Nat:=0
def PySem.W.Fast.tw5638652806088987097:Nat:=0
def PySem.W.Fast.tw7606865470123721586:Nat:=0
def PySem.W.Fast.tw4183357436494638633:Nat:=0
def PySem.W.Fast.tw8429346175908794705:Nat:=0
def PySem.W.Fast.tw13188022374828249075:Nat:=0
def PySem.W.Fast.tw1936525376177576222:Nat:=0
def PySem.W.Fast.tw12136230040585780100:Nat:=0
def PySem.W.Fast.tw18275232403893876248:Nat:=0
def PySem.W.Fast.tw11329538867599069534:Nat:=0
def PySem.W.Fast.tw6858547903519995240:Nat:=0
def PySem.W.Fast.tw8459064519096773342:Nat:=0
def PySem.W.Fast.tw13807374710062438409:Nat:=0
def PySem.W.Fast.tw3493516532555775565:Nat:=0
def PySem.W.Fast.tw1272245858065346180:Nat:=0
def PySem.W.Fast.tw17844645253093235952:Nat:=0
def PySem.W.Fast.tw17540232669856882575:Nat:=0
def PySem.W.Fast.tw5961681569993293118:Nat:=0
def PySem.W.Fast.tw13671105808962597909:Nat:=0
def PySem.W.Fast.tw9409704378529382045:Nat:=0
def PySem.W.Fast.tw4945266408763635718:Nat:=0
def PySem.W.Fast.tw4286994943710598929:Nat:=0
def PySem.W.Fast.tw5992212990411672848:Nat:=0
def PySem.W.Fast.tw3772428468007103952:Nat:=0
def PySem.W.Fast.tw16148500708096958682:Nat:=0
def PySem.W.Fast.tw2757411587831458297:Nat:=0
def PySem.W.Fast.tw1064774466814224269:Nat:=0
def PySem.W.Fast.tw12892181340237883325:Nat:=0
def PySem.W.Fast.tw5575332371879558605:Nat:=0
def PySem.W.Fast.tw8929844719333124577:Nat:=0
def PySem.W.Fast.tw7864793184771819968:Nat:=0
def PySem.W.Fast.tw17880912647025980393:Nat:=0
def PySem.W.Fast.tw171763844107247166:Nat:=0
def PySem.W.Fast.tw12379960152050389336:Nat:=0
def PySem.W.Fast.tw2636796321525567112:Nat:=0
def PySem.W.Fast.tw432535374191995192:Nat:=0
def PySem.W.Fast.tw1398476906992910169:Nat:=0
def PySem.W.Fast.tw15541861532818720978:Nat:=0
def PySem.W.Fast.tw2359947016469246619:Nat:=0
def PySem.W.Fast.tw14934371763034344776:Nat:=0
def PySem.W.Fast.tw3034957263214641368:Nat:=0
def PySem.W.Fast.tw14939512711131562660:Nat:=0
def PySem.W.Fast.tw1034937986102533775:Nat:=0
def PySem.W.Fast.tw6022098503812487271:Nat:=0
def PySem.W.Fast.tw13659549424535268821:Nat:=0
def PySem.W.Fast.tw2638680533490258157:Nat:=0
def PySem.W.Fast.tw12102143404920810752:Nat:=0
def PySem.W.Fast.tw5049060032107078544:Nat:=0
open PySem PySem.W PyProof.Rows
set_option maxRecDepth 100000 in
set_option maxHeartbeats 0 in
theorem PySem.Challenge.cw_glidequeue_k54_texts_of_no_items_holds : PySem.Challenge.rw_glidequeue_k54_texts_of_no_items.Holds := by
 w_on; o_law; k_head; (case hw=>w_witness2)
 k_fill
 refine L2.Ge (l:=PySem.Challenge.rw_glidequeue_k54_texts_of_no_items) (k:=8) (x:="_law_script") (st:=Lw.fz) rfl rfl ⟨rfl,by decide,by decide⟩ (fun w h Y=>PySem.W.kIn_of Y) Lw.All ?F (fun _ _ A=>A.law) (fun _ _ _ _ _ _ _=>rfl) (fun _ _ _ _ _ _ _ A F=>Lw.Kf A F)
 case F=>
  intro w mg h KX G
  refine⟨L2.K6 KX G ?b,?x1,?x2,?x3,?x4,?x5,?x6,?x7,?x8,?x9,?x10,?x11,?x12,?x13,?x14,?x15,?x16,?x17,?x18,?x19,?x20,?x21,?x22,?x23,?x24,?x25,?x26,?x27,?x28,?x29,?x30,?x31,?x32,?x33,?x34,?x35,?x36,?x37⟩
  case b=>(unfold L2.oB; repeat (refine L2.ij.cons ?z ?_; (case z=>k_is))); exact L2.ij.nil
  case x1=>refine' L2.IX KX G ?a ?l ?z ?r; (case a=>k_is); (case l=>k_is); (case z=>decide); (case r=>exact .cons ⟨_,rfl⟩ (.cons ⟨_,rfl⟩ .nil))
  case x2=>(refine' L2.yw KX G ?z; (case z=>k_is))
  case x3=>(refine' L2.lS KX G ?z; (case z=>k_is))
  case x4=>(refine' L2.lS KX G ?z; (case z=>k_is))
  case x5=>(refine' L2.lS KX G ?z; (case z=>k_is))
  case x6=>(refine' L2.lS KX G ?z; (case z=>k_is))
  case x7=>(refine' L2.yw KX G ?z; (case z=>k_is))
  case x8=>(refine' L2.lS KX G ?z; (case z=>k_is))
  case x9=>
   refine' ⟨_,_,_,_,_,_,_,_,_,_,_,_,_,⟨L2.JO KX G ?a1 ?q1,?i1,⟨?x1,?x2,Lw.C4 ?x3,?x4⟩,?f,_,L2.yE ?l ?c ?kk⟩,Lw.Jn KX G ?a2 ?q2,?t,⟨?k1,?k2,?k3,?k4,?k5,?k6,?k7,?k8⟩,Lw.gj KX G ?h0,Lw.gj KX G ?h1,Lw.gj KX G ?h2,Lw.gj KX G ?h3,Lw.gj KX G ?h4,Lw.gj KX G ?h5,Lw.gj KX G ?h6,Lw.gj KX G ?h7,Lw.gj KX G ?h8,Lw.gj KX G ?h9,?any,?own,?ve,PySem.W.mg_none_of KX G ?v,?fat⟩
   case a1=>k_is
   case a2=>k_is
   case i1=>k_is
   case h0=>k_is
   case h1=>k_is
   case h2=>k_is
   case h3=>k_is
   case h4=>k_is
   case h5=>k_is
   case h6=>k_is
   case h7=>k_is
   case h8=>k_is
   case h9=>k_is
   case x1=>k_is
   case x3=>k_is
   case x4=>k_is
   case l=>k_is
   case c=>k_is
   case kk=>k_is
   case k1=>k_is
   case k2=>k_is
   case k3=>k_is
   case k4=>k_is
   case k5=>k_is
   case k6=>k_is
   case k7=>k_is
   case k8=>k_is
   case v=>k_is
   case fat=>k_is
   case q1=>kernel_rfl
   case x2=>kernel_rfl
   case f=>kernel_rfl
   case q2=>k_exc
   case t=>(show PySem.W.mroIn _ _ _=_; k_is)
   case any=>kit_is
   case own=>kit_is
   case ve=>kit_is
  all_goals (refine' L2.Jl KX G ?a ?l ?c ?k; (case a=>k_is); (case l=>k_is); (case c=>k_is); (case k=>k_is))
#print axioms PySem.Challenge.cw_glidequeue_k54_texts_of_no_items_holds
