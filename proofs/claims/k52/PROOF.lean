import PyProof.Rows.All
import Wide.All
import OpenK.AllK
import Wide.FinOn
import Lean
import PyProof.EqAt
import PyProof.EqKinds
import PyProof.TupleCall
import PySem.Challenge.RW_glidequeue_k52_items_written
set_option Elab.async false
set_option linter.all false
set_option maxRecDepth 100000
abbrev aq:=@PySem.strLen_append
abbrev av:=@PySem.Heap.lt_size
abbrev aw:=@Nat.le_refl
abbrev aB:=@PySem.wpAny_bind
abbrev aD:=@if_pos
abbrev aK:=@if_neg
abbrev aO:=@List.length_map
abbrev aW:=@Nat.ne_of_lt
abbrev bo:=@List.getElem?_map
abbrev br:=@PySem.wpAny_pure
abbrev bt:=@Nat.lt_of_lt_of_le
abbrev bu:=@List.lookup_cons
abbrev bw:=@PySem.Heap.get?_push_of_some
abbrev bI:=@beq_iff_eq
abbrev bJ:=@List.size_toArray
abbrev bU:=@List.mem_append_right
abbrev bV:=@Int.le_refl
abbrev cc:=@decide_eq_true
abbrev cf:=@Bool.false_ne_true
abbrev cg:=@Bool.and_eq_true
abbrev cA:=@PySem.intBits_le_64
abbrev cB:=@Option.some.inj
abbrev cL:=@PyProof.Rows.boot_str
abbrev cM:=@List.all_eq_true
abbrev dg:=@PySem.wpAny_mono
abbrev dh:=@decide_eq_false
abbrev di:=@List.mem_cons
abbrev dj:=@List.length_append
abbrev dk:=@PySem.Heap.get?_push_size
abbrev dD:=@Nat.le_trans
abbrev dE:=@List.mem_singleton
abbrev dF:=@List.mem_map
abbrev eh:=@List.mem_of_getElem?
abbrev ei:=@List.getElem?_eq_some_iff
abbrev ej:=@Array.length_toList
abbrev eV:=@PySem.wpAny_passesOwn
abbrev eW:=@Nat.zero_le
abbrev eX:=@Nat.lt_irrefl
abbrev eY:=@List.getElem?_eq_getElem
abbrev eZ:=@Int.emod_nonneg
abbrev fY:=@of_decide_eq_true
abbrev fZ:=@PySem.PassesOwn.never
abbrev g5:=@List.mem_append
abbrev g6:=@List.map_append
abbrev g7:=@Int.emod_lt_of_pos
abbrev gP:=@PySem.Str.empty_append
abbrev gQ:=@PySem.mem_of_lookup
abbrev gR:=@Nat.pow_succ
abbrev gS:=@Nat.lt_trans
abbrev gT:=@List.mem_cons_of_mem
abbrev gU:=@Bool.not_eq_true'
abbrev gW:=@Bool.eq_iff_iff
abbrev jM:=@PySem.wpAny_newObj_type
abbrev jN:=@PySem.wpAny_execs_nil
abbrev jO:=@PySem.StrLaws.glued_eq_join
abbrev jP:=@PyProof.Rows.boot_abs
abbrev jQ:=@Nat.lt_succ_of_lt
abbrev jR:=@Nat.lt_of_le_of_lt
abbrev jS:=@Nat.le_of_lt
abbrev jT:=@List.nodup_cons
abbrev jU:=@List.mem_cons_self
abbrev jV:=@List.length_singleton
abbrev jW:=@Array.toList_append
abbrev jX:=@Array.getElem?_eq_getElem
abbrev oI:=@PySem.F.plainAttrs_str
abbrev oJ:=@PyProof.noPylong_of_log2
abbrev oK:=@PyProof.Rows.callWith_type1
abbrev oM:=@PyProof.Rows.boot_tuple
abbrev oN:=@Option.map_eq_some_iff
abbrev oO:=@List.map_reverse
abbrev oP:=@List.length_cons
abbrev oQ:=@List.filterMap_cons
abbrev oS:=@Array.getElem?_toList
abbrev vG:=PySem.W.Frag
abbrev vH:=PySem.Shared
abbrev vI:=PySem.Program
abbrev vJ:=PySem.PyData
abbrev vK:=PySem.Around
namespace L2
open PySem PySem.Spec PyProof.Rows
abbrev Key:=Sum Int Str
def md:Key->Value->Bool | .inl k,v=>Value.isInt k v | .inr x,v=>Value.isStrOf x v
def sE(w:World):Key->Int | .inl k=>hashInt k | .inr x=>hashStr w x
theorem cR:∀{k:Key}{v:Value},md k v=true->(∃i t,k=Sum.inl i/\v=Value.int i t)\/(∃x t,k=Sum.inr x/\v=Value.str x t) | .inl i,v,h=>by obtain⟨t,e⟩:=Value.isInt_shape (k:=i) (v:=v) h;exact .inl ⟨i,t,rfl,e⟩ | .inr x,v,h=>by obtain⟨t,e⟩:=Value.isStrOf_shape (x:=x) (v:=v) h;exact .inr ⟨x,t,rfl,e⟩
theorem sD(a b:Int):decide ((Sum.inl a:Key)=Sum.inl b)=(a==b):=by
 by_cases e:a=b
 ·subst e;simp
 · have h:¬(Sum.inl a:Key)=Sum.inl b:=fun q=>e (Sum.inl.inj q)
   rw[dh h];exact(beq_eq_false_iff_ne.mpr e).symm
theorem sy(a b:Str):decide ((Sum.inr a:Key)=Sum.inr b)=decide (a=b):=by
 by_cases e:a=b
 ·subst e;simp
 · have h:¬(Sum.inr a:Key)=Sum.inr b:=fun q=>e (Sum.inr.inj q)
   rw[dh h,dh e]
theorem sC(a:Int)(b:Str):decide ((Sum.inl a:Key)=Sum.inr b)=false:=dh (fun q=>nomatch q)
theorem sA(a:Str)(b:Int):decide ((Sum.inr a:Key)=Sum.inl b)=false:=dh (fun q=>nomatch q)
def lU(prog:vI)(w:World):PySem.KeyKind prog w Key where
 is:=md
 hash:=sE w
 inj:=fun v a b ha hb=>by
  rcases cR ha with⟨i,t,rfl,rfl⟩|⟨x,t,rfl,rfl⟩
  · rcases cR hb with⟨j,u,rfl,e⟩|⟨y,u,rfl,e⟩
    ·injection e with e1 _;rw[e1]
    ·exact nomatch e
  · rcases cR hb with⟨j,u,rfl,e⟩|⟨y,u,rfl,e⟩
    ·exact nomatch e
    ·injection e with e1 _;rw[e1]
 byValue:=fun k v h=>by rcases cR h with⟨i,t,rfl,rfl⟩|⟨x,t,rfl,rfl⟩<;>rfl
 pyHash:=fun hv h=>by
  rcases cR hv with⟨i,t,rfl,rfl⟩|⟨x,t,rfl,rfl⟩
  ·exact wpAny_pyHash_int h
  ·exact wpAny_pyHash_str h
 eqBool:=fun hu hv h=>by
  rcases cR hu with⟨i,t,rfl,rfl⟩|⟨x,t,rfl,rfl⟩
  · rcases cR hv with⟨j,u,rfl,rfl⟩|⟨y,u,rfl,rfl⟩
    ·rw[sD]at h;exact wpAny_eqBool_int h
    ·rw[sC]at h;exact SeqAt.EqAt.int_str i t y u _ _ _ _ h
  · rcases cR hv with⟨j,u,rfl,rfl⟩|⟨y,u,rfl,rfl⟩
    ·rw[sA]at h;exact SeqAt.EqAt.str_int x t j u _ _ _ _ h
    ·rw[sy]at h;exact wpAny_eqBool_str h
 «strs»:=fun k x t v h=>by
  rcases cR h with⟨i,u,rfl,e⟩|⟨y,u,rfl,e⟩
  ·exact nomatch e
  · injection e with e1 _
    subst e1;cases v<;>rfl
inductive V where |aE|bl (b:Bool)|int (i:Int)|str (x:Str)|da (b:Array UInt8)|jm (b:UInt64)|ref (a:Addr)|ty (n:String) deriving DecidableEq
def RelV:V->Value->Prop | .aE,u=>u=Value.none | .bl b,u=>u=Value.bool b | .int i,u=>∃t,u=Value.int i t | .str x,u=>∃t,u=Value.str x t | .da b,u=>∃t,u=Value.bytes b t | .jm b,u=>∃t,u=Value.float b t | .ref a,u=>u=Value.ref a | .ty n,u=>u=Value.type n
abbrev Vals:List V->List Value->Prop:=Paired RelV
theorem Vals.length{xs:List V}{us:List Value}(r:Vals xs us):xs.length=us.length:=Paired.length r
theorem Vals.get:∀{xs:List V}{us:List Value}{i:Nat}{x:V},Vals xs us->xs[i]? =some x->∃u,us[i]? =some u/\RelV x u |_,_,_,_,.nil,e=>by simp at e |_,_,0,_,.cons r _,e=>by simp at e;subst e;exact⟨_,rfl,r⟩ |_,_,i+1,x,.cons _ t,e=>by obtain⟨u,h1,h2⟩:=Vals.get (i:=i) (x:=x) t (by simpa using e);exact⟨u,by simpa using h1,h2⟩
theorem Vals.set{x:V}{u:Value}(r:RelV x u):∀{xs:List V}{us:List Value}(i:Nat),Vals xs us->Vals (xs.set i x) (us.set i u) |_,_,_,.nil=>.nil |_,_,0,.cons _ t=>.cons r t |_,_,i+1,.cons q t=>.cons q (Vals.set r i t)
theorem Vals.append:∀{xs ys:List V}{us ws:List Value},Vals xs us->Vals ys ws->Vals (xs++ys) (us++ws) |_,_,_,_,.nil,s=>s |_,_,_,_,.cons r t,s=>.cons r (Vals.append t s)
def nG:Option V->Option Value->Prop |some v,some u=>RelV v u |none,none=>True |_,_=>False
def KV{κ:Type}:List (κ×V)->List (κ×Value)->Prop:=Paired fun(p:κ×V)(q:κ×Value)=>p.1=q.1/\RelV p.2 q.2
def kV:Key->V | .inl i=>.int i | .inr x=>.str x
inductive HO where /--a list -/ |lst (xs:List V) /--a tuple (never changes) -/ |tup (xs:List V) /--a dict oU keys are ints and texts; one oU keys are tuples of ints and texts (eu empty one is both) -/ |dK (bf:List (Key×V))|dT (bf:List (List Key×V)) /--a set of ints: its members,its size -/ |set (S:Int->Bool)(n:Nat) /--an instance of eu class at C,its dict at dx,its attributes -/ |ins (C dx:Addr)(fs:List (Str×V)) /--eu dict of eu instance at x -/ |own (x:Addr) /--eu dict of an exception -/ |xd (fs:List (Str×V)) /--a bound method,f of x -/ |met (f x:Addr) /--a range object lo,lo+1,.. below hi -/ |iy (lo hi:Int) /--a pb vd is known to eu object (eu vg; a dict while a loop walks it): read,never written while it is so -/ |cF (o:Obj)(u:HO) /--a code vi table -/ |dH (ps:Array Value) /--any other pb,by what is true of its one object (a def of vh own: vB a S n:=HO.ext fun h=>..) -/ |ext (φ:Heap->Prop)
abbrev Hp:=Addr->Option HO
def upd(H:Hp)(a:Addr)(o:HO):Hp:=fun b=>if b=a then some o else H b
theorem cj{H:Hp}{a:Addr}{o:HO}:upd H a o a=some o:=by unfold upd;rw[aD rfl]
theorem aF{H:Hp}{a b:Addr}{o:HO}(h:b≠a):upd H a o b=H b:=by unfold upd;rw[aK h]
theorem lP{H:Hp}{a b:Addr}{o u:HO}(h:H a=some o)(h':H b=some u)(d:o≠u):a≠b:=by intro e;subst e;rw[h]at h';exact d (cB h')
theorem cu{H:Hp}{a b:Addr}{o:HO}(h:H a=some o)(h':H b=none):a≠b:=by intro e;subst e;rw[h]at h';cases h'
section
variable (P:vI) (w:World)
def bH(H:Hp)(h:Heap)(a:Addr):HO->Prop | .lst xs=>xs.length<=sizeLine/\∃(its:List Value)(n:Nat),Vals xs its/\h.get? a=some {cls:=.type "list",data:=.seq its.toArray n} | .tup xs=>xs.length<=sizeLine/\∃its:List Value,Vals xs its/\IsTup h a its.toArray | .dK bf=>bf.length<=sizeLine/\(a==sysModules)=false/\∃vs,KV bf vs/\h.DictOf (lU P w) a vs | .dT bf=>bf.length<=sizeLine/\(a==sysModules)=false/\∃xs:List (List Key×Addr×Value),Paired (fun(p:List Key×V)(q:List Key×Addr×Value)=>p.1=q.1/\H q.2.1=some (.tup (p.1.map kV))/\RelV p.2 q.2.2) bf xs/\∃o es ep,h.get? a=some o/\o.ExactDict/\o.data= .dict es ep/\es.toList=xs.map (entryOfKey (tupleKind (lU P w)))/\(xs.map (·.1)).Nodup | .set S n=>h.SetOf (intKind P w) a S n | .ins C dx fs=>H dx=some (.own a)/\fs.length<=1000/\dx≠a/\h.get? a=some (PySem.W.instObj C dx)/\∃mA,h.Ns1 dx mA/\(∀f,nG (fs.lookup f) (mA f))/\PySem.Within mA (fs.map (·.1)) | .own _=>∃o,h.get? a=some o | .xd fs=>∃mA,h.Ns1 a mA/\∀f,nG (fs.lookup f) (mA f) | .iy lo hi=>∃t u v,h.get? a=some {cls:=.type "range",data:=.fields #[.int lo t,.int hi u,.int 1 v]} | .cF o u=>h.get? a=some o/\bH H h a u | .dH ps=>h.get? a=some {cls:=.none,data:=.fields ps} | .met f x=>h.get? a=some (PySem.W.methodObj (.ref f) (.ref x)) | .ext φ=>φ h/\(∃o,h.get? a=some o)/\∀h1 h2:Heap,φ h1->(∀o,h1.get? a=some o->h2.get? a=some o)->φ h2
def aI(H:Hp)(h:Heap):Prop:=∀a o,H a=some o->bH P w H h a o
end
section
variable {P:vI}{w:World}{H H':Hp}{h h':Heap}{a:Addr}{o:HO}
theorem bH.lt(x:bH P w H h a o):a<h.objs.size:=by cases o with |lst xs=>obtain⟨_,_,_,_,e⟩:=x;exact av e |tup xs=>obtain⟨_,_,_,p⟩:=x;exact p.lt |dK bf=>obtain⟨_,_,_,_,o,_,_,e,_⟩:=x;exact av e |dT bf=>obtain⟨_,_,_,_,o,_,_,e,_⟩:=x;exact av e |set S n=>obtain⟨o,_,_,_,e,_⟩:=x;exact av e |ins C dx fs=>obtain⟨_,_,_,e,_⟩:=x;exact av e |own y=>obtain⟨_,e⟩:=x;exact av e |xd fs=>obtain⟨_,⟨_,_,_,e,_⟩,_⟩:=x;exact av e |iy lo hi=>obtain⟨_,_,_,e⟩:=x;exact av e |cF ob u=>obtain⟨e,_⟩:=x;exact av e |dH ps=>exact av (show h.get? a=some _ from x) |met f y=>exact av (show h.get? a=some _ from x) |ext φ=>obtain⟨_,⟨_,e⟩,_⟩:=x;exact av e
theorem Paired.lW{α β:Type}{F G:α->β->Prop}:∀{l₁:List α}{l₂:List β},Paired F l₁ l₂->(∀a b,F a b->G a b)->Paired G l₁ l₂ |_,_,.nil,_=>.nil |_,_,.cons r t,f=>.cons (f _ _ r) (Paired.lW t f)
theorem bH.dJ(x:bH P w H h a o)(k:∀b u,(b=a\/H b=some (.own a))->h.get? b=some u->h'.get? b=some u) (ho:∀b,H b=some (.own a)->H' b=some (.own a))(ht:∀b xs,H b=some (.tup xs)->H' b=some (.tup xs)):bH P w H' h' a o:=by induction o with |lst xs=>obtain⟨z,its,n,r,e⟩:=x;exact⟨z,its,n,r,k _ _ (.inl rfl) e⟩ |tup xs=>obtain⟨z,its,r,ob,e,c⟩:=x;exact⟨z,its,r,ob,k _ _ (.inl rfl) e,c⟩ |dK bf=>obtain⟨z,y,vs,r,ob,es,ep,e,c⟩:=x;exact⟨z,y,vs,r,ob,es,ep,k _ _ (.inl rfl) e,c⟩ |dT bf=>obtain⟨z,y,xs,r,ob,es,ep,e,c⟩:=x;exact⟨z,y,xs,Paired.lW r fun p q z=>⟨z.1,ht _ _ z.2.1,z.2.2⟩,ob,es,ep,k _ _ (.inl rfl) e,c⟩ |set S n=>obtain⟨ob,es,ep,t,e,c⟩:=x;exact⟨ob,es,ep,t,k _ _ (.inl rfl) e,c⟩ |ins C dx fs=>obtain⟨d,z,ne,e,mA,⟨od,es,ep,e2,c⟩,r⟩:=x;exact⟨ho _ d,z,ne,k _ _ (.inl rfl) e,mA,⟨od,es,ep,k _ _ (.inr d) e2,c⟩,r⟩ |own y=>obtain⟨ob,e⟩:=x;exact⟨ob,k _ _ (.inl rfl) e⟩ |xd fs=>obtain⟨mA,⟨od,es,ep,e,c⟩,r⟩:=x;exact⟨mA,⟨od,es,ep,k _ _ (.inl rfl) e,c⟩,r⟩ |iy lo hi=>obtain⟨t,u,v,e⟩:=x;exact⟨t,u,v,k _ _ (.inl rfl) e⟩ |cF ob u ih=>obtain⟨e,q⟩:=x;exact⟨k _ _ (.inl rfl) e,ih q⟩ |dH ps=>have e:h.get? a=some {cls:=.none,data:=.fields ps}:=x;show h'.get? a=some {cls:=.none,data:=.fields ps};exact k a _ (.inl rfl) e |met f y=>have e:h.get? a=some (PySem.W.methodObj (.ref f) (.ref y)):=x;show h'.get? a=some (PySem.W.methodObj (.ref f) (.ref y));exact k a _ (.inl rfl) e |ext φ=>obtain⟨p,⟨o,e⟩,st⟩:=x;exact⟨st _ _ p fun o q=>k _ _ (.inl rfl) q,⟨o,k _ _ (.inl rfl) e⟩,st⟩
theorem aI.lt(x:aI P w H h)(e:H a=some o):a<h.objs.size:=(x a o e).lt
theorem aI.fresh(x:aI P w H h)(e:h.objs.size<=a):H a=none:=by cases q:H a with |none=>rfl |some u=>exact absurd (bt (x.lt q) e) (eX _)
theorem aI.kept(x:aI P w H h)(k:∀b u,h.get? b=some u->h'.get? b=some u):aI P w H h':=fun a o e=>(x a o e).dJ (fun b u _ q=>k b u q) (fun _ q=>q) fun _ _ q=>q
theorem aI.laid(x:aI P w H h)(k:∀b u,h.get? b=some u->h'.get? b=some u)(hp:h.objs.size<=a)(new:bH P w (upd H a o) h' a o):aI P w (upd H a o) h':=fun b u e=>by
 have hn:=x.fresh hp;by_cases hb:b=a
 ·subst hb;rw[cj]at e;cases e;exact new
 · rw[aF hb]at e
   exact(x b u e).dJ (fun c v _ q=>k c v q) (fun c q=>by rw[aF (cu q hn)];exact q) fun c xs q=>by rw[aF (cu q hn)];exact q
end
def Rd(H:Hp)(a:Addr)(u:HO):Prop:=H a=some u\/∃o,H a=some (.cF o u)
theorem Rd.ok{P:vI}{w:World}{H:Hp}{h:Heap}{a:Addr}{u:HO}(r:Rd H a u)(x:aI P w H h):bH P w H h a u:=by
 rcases r with r|⟨o,r⟩
 ·exact x a u r
 · obtain⟨_,q⟩:=x a _ r
   exact q
def gM:Option HO->Prop |some (.lst _)=>True |some (.dK _)=>True |some (.dT _)=>True |some (.set _ _)=>True |some (.ins _ _ _)=>True |some (.ext _)=>True |_=>False
section
variable {P:vI}{w:World}{H:Hp}{h h':Heap}{x e:Addr}{o':HO}
theorem aI.write(ok:aI P w H h)(mu:gM (H x))(he:e=x\/H e=some (.own x))(k:∀b u,b≠e->h.get? b=some u->h'.get? b=some u)(eN:∃u,h'.get? e=some u) (new:bH P w (upd H x o') h' x o'):aI P w (upd H x o') h':=fun b u q=>by
  have lM:∀c y,H c=some (.own y)->c≠x:=fun c y r z=>by subst z;rw[r]at mu;exact mu
  have rN:∀c xs,H c=some (.tup xs)->c≠x:=fun c xs r z=>by subst z;rw[r]at mu;exact mu
  by_cases hb:b=x
  ·subst hb;rw[cj]at q;cases q;exact new
  · rw[aF hb]at q
    by_cases dY:b=e
    · have q':H b=some (.own x):=by
        rcases he with z|z
        ·exact absurd (dY.trans z) hb
        ·rw[dY];exact z
      rw[q]at q';cases q';obtain⟨v,hv⟩:=eN;exact⟨v,by rw[dY];exact hv⟩
    · refine(ok b u q).dJ (fun c v hc r=>k c v ?_ r) (fun c r=>by rw[aF (lM c b r)];exact r) fun c xs r=>by rw[aF (rN c xs r)];exact r
      rcases hc with rfl|hc
      ·exact dY
      · rintro rfl
        rcases he with z|z
        ·exact lM c b hc z
        ·rw[hc]at z;cases z;exact hb rfl
end
structure Un(fs ex:List Addr)(H H':Hp)(h h':Heap):Prop where
 keep:∀b o,h.get? b=some o->H b=none->b∉fs->b∉ex->h'.get? b=some o
 slot:∀b o,h.get? b=some o->H b=none->b∈fs->b∉ex->∃sl,h'.get? b=some {o with slots:=sl}
 free:∀b o,h.get? b=some o->H b=none->b∉ex->H' b=none
 there:∀b o,h.get? b=some o->b∉ex->∃o',h'.get? b=some o'
 tups:∀b xs,H b=some (.tup xs)->H' b=some (.tup xs)
 frzs:∀b o u,H b=some (.cF o u)->H' b=some (.cF o u)
 tbls:∀b ps,H b=some (.dH ps)->∃more,H' b=some (.dH (ps++more))
section
variable {fs uk ex vy:List Addr}{H H1 H2:Hp}{h h1 h2 h':Heap}{a x e:Addr}{o:HO}
theorem Un.any(u:Un fs ex H H1 h h1){b:Addr}{ob:Obj}(q:h.get? b=some ob)(n:H b=none)(hx:b∉ex):∃sl,h1.get? b=some {ob with slots:=sl}:=by
 by_cases hb:b∈fs
 ·exact u.slot b ob q n hb hx
 ·exact⟨ob.slots,u.keep b ob q n hb hx⟩
theorem Un.kept(k:∀b u,h.get? b=some u->h'.get? b=some u):Un fs ex H H h h':=⟨fun b ob q _ _ _=>k b ob q,fun b ob q _ _ _=>⟨ob.slots,k b ob q⟩,fun _ _ _ n _=>n,fun b ob q _=>⟨ob,k b ob q⟩,fun _ _ q=>q,fun _ _ _ q=>q,fun _ ps q=>⟨#[],by rw[q];simp⟩⟩
theorem Un.refl:Un fs ex H H h h:=Un.kept fun _ _ q=>q
theorem Un.laid(k:∀b u,h.get? b=some u->h'.get? b=some u)(hp:h.objs.size<=a)(hn:H a=none):Un fs ex H (upd H a o) h h' where
 keep:=fun b u q _ _ _=>k b u q
 slot:=fun b u q _ _ _=>⟨u.slots,k b u q⟩
 free:=fun b u q n _=>by rw[aF (aW (bt (av q) hp))];exact n
 there:=fun b u q _=>⟨u,k b u q⟩
 tups:=fun b xs q=>by rw[aF (cu q hn)];exact q
 frzs:=fun b u xs q=>by rw[aF (cu q hn)];exact q
 tbls:=fun b ps q=>⟨#[],by rw[aF (cu q hn),q];simp⟩
theorem Un.write(mu:gM (H x))(he:e=x\/H e=some (.own x))(k:∀b u,b≠e->h.get? b=some u->h'.get? b=some u)(eN:∃u,h'.get? e=some u):Un fs ex H (upd H x o) h h':=by
 have hx:∀b,H b=none->b≠x:=fun b n z=>by subst z;rw[n]at mu;exact mu
 have hb:∀b,H b=none->b≠e:=fun b n z=>by
  subst z;rcases he with r|r
  ·exact hx b n r
  ·rw[n]at r;cases r
 have hm:∀b u,H b=some u->¬gM (some u)->b≠x:=fun b u q nm z=>by subst z;rw[q]at mu;exact nm mu
 refine⟨fun b u q n _ _=>k b u (hb b n) q,fun b u q n _ _=>⟨u.slots,k b u (hb b n) q⟩,fun b u q n _=>by rw[aF (hx b n)];exact n,fun b u q _=>?_,fun b xs q=>by rw[aF (hm b _ q fun z=>z)];exact q,fun b u xs q=>by rw[aF (hm b _ q fun z=>z)];exact q,fun b ps q=>⟨#[],by rw[aF (hm b _ q fun z=>z),q];simp⟩⟩;by_cases dY:b=e
 ·subst dY;exact eN
 ·exact⟨u,k b u dY q⟩
end
def gb(h:Heap)(H:Hp):List Addr:=(List.range h.objs.size).filter fun a=>(H a).isSome
def cW(h:Heap)(H:Hp):Heap:=PySem.W.hideAll h (gb h H)
theorem tK(h:Heap)(H:Hp):(cW h H).objs.size=h.objs.size:=PySem.W.hideAll_size _ _
theorem tL{h:Heap}{H:Hp}{b:Addr}{o:Obj}(e:h.get? b=some o)(n:H b=none):(cW h H).get? b=some o:=PySem.W.hideAll_get _ e fun hm=>by have q:(H b).isSome=true:=(List.mem_filter.mp hm).2;rw[n]at q;simp at q
theorem rK{h:Heap}{H:Hp}{b:Addr}{o:Obj}(e:(cW h H).get? b=some o):h.get? b=some o/\H b=none:=by have e':h.get? b=some o:=PySem.W.of_hideAll (gb h H) e;refine⟨e',?_⟩;cases q:H b with |none=>rfl |some x=>have hm:b∈gb h H:=List.mem_filter.mpr ⟨List.mem_range.mpr (av e'),by simp[q]⟩;have z:(cW h H).get? b=none:=PySem.W.hideAll_none (gb h H) hm;rw[z]at e;cases e
structure Mod(K:vG)(mg:Str->Option Value)(base:Heap):Prop where
 kin:K.In base
 glob:base.Ns mainGlobals mg
 blt:∃mb,base.Ns builtinsNs mb/\∀x:Str,x≠"__name__"->mb x=bootBuiltins x
 nolimit:base.NoLimit
structure Cx where
 prog:vI
 w:World
 K:vG
 mg:Str->Option Value
 base:Heap
 A:vK
 N:List Str
 s₀:vH
 H₀:Hp
 env:Env
 outer:List Env
 stack:List Env
 ex:List Addr
 fn:Str->Bool
 calm:Bool
 pn:List (Addr×Obj)
 xe:Value->vH->Prop
def bF(l:List Env):List Addr:=l.filterMap (·.frame)
abbrev Cx.fs(X:Cx):List Addr:=bF X.outer
def jA(sc:Scope)(x:Str):Prop:=sc.names.lookup x=some .local\/sc.names.lookup x=some .cell\/sc.names.lookup x=some .free
def Loc(sc:Scope)(x:Str):Prop:=sc.names.lookup x=some .local\/sc.names.lookup x=some .cell
def Look(env:Env)(h:Heap)(m:Str->Option Value)(x:Str)(u:Value):Prop:=(env.kindOf x=some .local/\m x=some u)\/((env.kindOf x=some .cell\/env.kindOf x=some .free)/\∃c,env.cells.lookup x=some c/\h.IsCell c (some u))
structure Cx.Ok(X:Cx):Prop where
 mod:Mod X.K X.mg X.base
 kind:X.env.scope.kind= .function
 glob:X.env.globals=mainGlobals
 blt:X.env.builtins=builtinsNs
 above:X.s₀.heap.objs.size<=X.env.locals
 inj:∀x y c,X.env.cells.lookup x=some c->X.env.cells.lookup y=some c->x=y
 has:∀x,(X.env.kindOf x=some .cell\/X.env.kindOf x=some .free)->∃c,X.env.cells.lookup x=some c
 cab:∀x c,X.fn x=true->X.env.cells.lookup x=some c->X.s₀.heap.objs.size<=c
 hd:X.calm=true->X.A.handled=none
 frames:X.A.frames=some X.stack
 stk:X.stack=X.outer\/(X.stack=X.env::X.outer/\X.env.frame=some X.env.locals)
 exf:∀b∈X.ex,b≠X.env.locals/\∀x c,X.env.cells.lookup x=some c->c≠b
 bs:∀b o,X.base.get? b=some o->X.s₀.heap.get? b=some o/\X.H₀ b=none
 bsz:X.base.objs.size<=X.s₀.heap.objs.size
 noex:∀b o,X.base.get? b=some o->b∉X.ex
 exfs:∀b∈X.ex,b∉X.fs
 c8:X.s₀.heap.FunFrames X.base X.outer
 frf:∀b∈X.fs,X.H₀ b=none
structure Inv(X:Cx)(pins:List (Addr×Obj))(σ:List (Option V))(H:Hp)(s:vH):Prop where
 ok:X.Ok
 os:s.os=X.s₀.os
 bare:AllBare s.gens
 base:Un X.fs X.ex X.H₀ H X.s₀.heap s.heap
 loc:∃m,s.heap.Ns X.env.locals m/\∀(i:Nat)(x:Str)(v:V),X.N[i]? =some x->σ[i]? =some (some v)->jA X.env.scope x->∃u,RelV v u/\Look X.env s.heap m x u
 cell:∀x c,X.env.cells.lookup x=some c->∃v,s.heap.IsCell c v
 free:H X.env.locals=none
 freeC:∀x c,X.env.cells.lookup x=some c->H c=none
 pin:∀p∈X.pn++pins,s.heap.get? p.1=some p.2/\H p.1=none/\p.1≠X.env.locals/\p.1∉X.fs/\∀v,p.2.data≠ .cell v
 hok:aI X.prog X.w H s.heap
 len:σ.length=X.N.length
section
variable {X:Cx}{pins:List (Addr×Obj)}{σ:List (Option V)}{H H':Hp}{s:vH}{h':Heap}
theorem Cx.Ok.rQ(ok:X.Ok){b:Addr}{o:Obj}(e:X.base.get? b=some o):b∉X.fs:=fun hb=>by have:=(ok.c8.mem hb).1;rw[e]at this;cases this
theorem Inv.bs(I:Inv X pins σ H s):∀b o,X.base.get? b=some o->s.heap.get? b=some o/\H b=none:=fun b o e=>⟨I.base.keep b o (I.ok.bs b o e).1 (I.ok.bs b o e).2 (I.ok.rQ e) (I.ok.noex b o e),I.base.free b o (I.ok.bs b o e).1 (I.ok.bs b o e).2 (I.ok.noex b o e)⟩
theorem Inv.bk(I:Inv X pins σ H s):∀b o,X.base.get? b=some o->s.heap.get? b=some o:=fun b o e=>(I.bs b o e).1
theorem Inv.mod(I:Inv X pins σ H s):Mod X.K X.mg X.base:=I.ok.mod
theorem Inv.dz(I:Inv X pins σ H s):X.K.In s.heap:=I.ok.mod.kin.keeps I.bk
theorem Inv.lt(I:Inv X pins σ H s):X.env.locals<s.heap.objs.size:=let⟨_,hn,_⟩:=I.loc;hn.lt
theorem Inv.sz(I:Inv X pins σ H s):X.s₀.heap.objs.size<=s.heap.objs.size:=dD I.ok.above (jS I.lt)
theorem Inv.rP(I:Inv X pins σ H s){a:Addr}(h:s.heap.objs.size<=a):a∉X.fs:=fun hb=>by obtain⟨_,o,ho,_⟩:=I.ok.c8.mem hb;exact absurd (bt (av ho) (dD I.sz h)) (eX _)
theorem Inv.e9(I:Inv X pins σ H s):∀x c,X.env.cells.lookup x=some c->c≠X.env.locals:=fun x c e z=>by obtain⟨v,o,ho,hd⟩:=I.cell x c e;obtain⟨m,⟨o',es,ep,dU,tQ,_⟩,_⟩:=I.loc;rw[z,dU]at ho;cases ho;rw[tQ]at hd;cases hd
theorem Inv.c8(I:Inv X pins σ H s):s.heap.FunFrames X.base X.outer:=by
 have all:∀(l:List Env),(∀b∈bF l,b∈X.fs)->X.s₀.heap.FunFrames X.base l->s.heap.FunFrames X.base l:=by intro l;induction l with |nil=>intro _ _;trivial |cons env r ih=>intro hs hl;obtain⟨hk,⟨L,o,hf,hn,ho,hd⟩,hr⟩:=hl;have hL:L∈X.fs:=hs L (by unfold bF;rw[oQ,hf];exact jU);obtain⟨sl,e⟩:=I.base.slot L o ho (I.ok.frf L hL) hL fun z=>I.ok.exfs L z hL;exact⟨hk,⟨L,_,hf,hn,e,hd⟩,ih (fun b hb=>hs b (by unfold bF;rw[oQ,hf];exact gT _ hb)) hr⟩
 exact all X.outer (fun _ hb=>hb) I.ok.c8
theorem Inv.stack(I:Inv X pins σ H s):s.heap.FunFrames X.base X.stack:=by
 rcases I.ok.stk with e|⟨e,hf⟩
 ·rw[e];exact I.c8
 · rw[e]
   obtain⟨m,hn,_⟩:=I.loc;refine .cons (by rw[I.ok.kind];decide) hf hn ?_ I.c8;exact Heap.get?_none_of_le (dD I.ok.bsz I.ok.above)
theorem Inv.hU(I:Inv X pins σ H s):∀b∈bF X.stack,b∈X.env.locals::X.fs:=fun b hb=>by
 rcases I.ok.stk with e|⟨e,hf⟩
 ·rw[e]at hb;exact gT _ hb
 · rw[e]at hb
   unfold bF at hb;rw[oQ,hf]at hb;exact hb
theorem Inv.kc(I:Inv X pins σ H s):∀b∈bF X.stack,H b=none:=fun b hb=>by
 rcases di.mp (I.hU b hb)with e|hb
 ·rw[e];exact I.free
 · obtain⟨_,o,ho,_⟩:=I.ok.c8.mem hb
   exact I.base.free b o ho (I.ok.frf b hb) fun z=>I.ok.exfs b z hb
theorem Inv.step{g':Array GenState}{t':Nat}{d':Drawn}{ch:List Addr}(I:Inv X pins σ H s) (c6:∀b∈ch,(b∈X.ex\/X.s₀.heap.objs.size<=b)/\b≠X.env.locals/\(∀x c,X.env.cells.lookup x=some c->c≠b)/\∀p∈X.pn++pins,p.1≠b) (keep:∀b o,b≠X.env.locals->b∉X.fs->b∉ch->s.heap.get? b=some o->H b=none->h'.get? b=some o) (slot:∀b o,b≠X.env.locals->b∈X.fs->b∉ch->s.heap.get? b=some o->H b=none->∃sl,h'.get? b=some {o with slots:=sl})(free:∀b o,b∉ch->s.heap.get? b=some o->H b=none->H' b=none) (there:∀b o,b∉ch->s.heap.get? b=some o->∃o',h'.get? b=some o') (tups:∀b xs,H b=some (.tup xs)->H' b=some (.tup xs))(frzs:∀b o u,H b=some (.cF o u)->H' b=some (.cF o u))(tbls:∀b ps,H b=some (.dH ps)->∃more,H' b=some (.dH (ps++more))) (ns:∀m,s.heap.Ns X.env.locals m->h'.Ns X.env.locals m)(hok:aI X.prog X.w H' h')(hg:AllBare g'): Inv X pins σ H' {s with heap:=h',gens:=g',drawn:=d',toks:=t'}:=by
  have lQ:∀b o,X.s₀.heap.get? b=some o->b≠X.env.locals:=fun b o e=>aW (bt (av e) I.ok.above);have gx:∀b o,X.s₀.heap.get? b=some o->b∉X.ex->b∉ch:=fun b o e hx hb=>by
   rcases(c6 b hb).1 with z|z
   ·exact hx z
   ·exact absurd (bt (av e) z) (eX _)
  have cellK:∀x c,X.env.cells.lookup x=some c->∀v,s.heap.IsCell c v->h'.IsCell c v:=fun x c e v ⟨o,ho,hd⟩=>by
   have fF:c∉ch:=fun z=>(c6 c z).2.2.1 x c e rfl;by_cases hc:c∈X.fs
   · obtain⟨sl,q⟩:=slot c o (I.e9 x c e) hc fF ho (I.freeC x c e)
     exact⟨_,q,hd⟩
   ·exact⟨o,keep c o (I.e9 x c e) hc fF ho (I.freeC x c e),hd⟩
  refine⟨I.ok,I.os,hg,⟨fun b o e n hb hx=>?_,fun b o e n hb hx=>?_,fun b o e n hx=>?_,fun b o e hx=>?_,fun b xs e=>tups b xs (I.base.tups b xs e),fun b o xs e=>frzs b o xs (I.base.frzs b o xs e),fun b ps e=>?_⟩,?_,fun x c e=>?_,?_,fun x c e=>?_,fun p hp=>?_,hok,I.len⟩
  ·exact keep b o (lQ b o e) hb (gx b o e hx) (I.base.keep b o e n hb hx) (I.base.free b o e n hx)
  · obtain⟨sl,e1⟩:=I.base.slot b o e n hb hx
    obtain⟨pQ,e2⟩:=slot b _ (lQ b o e) hb (gx b o e hx) e1 (I.base.free b o e n hx);exact⟨pQ,e2⟩
  · obtain⟨o',e1⟩:=I.base.there b o e hx
    exact free b o' (gx b o e hx) e1 (I.base.free b o e n hx)
  · obtain⟨o',e1⟩:=I.base.there b o e hx
    exact there b o' (gx b o e hx) e1
  · obtain⟨m1,e1⟩:=I.base.tbls b ps e
    obtain⟨m2,e2⟩:=tbls b _ e1;exact⟨m1++m2,by rw[e2,Array.append_assoc]⟩
  · obtain⟨m,hn,hl⟩:=I.loc
    refine⟨m,ns m hn,fun i x v e1 e2 e3=>?_⟩;obtain⟨u,r,l⟩:=hl i x v e1 e2 e3;refine⟨u,r,?_⟩;rcases l with l|⟨k,c,e,z⟩
    ·exact .inl l
    ·exact .inr ⟨k,c,e,cellK x c e _ z⟩
  · obtain⟨v,z⟩:=I.cell x c e
    exact⟨v,cellK x c e v z⟩
  · obtain⟨m,⟨o,_,_,ho,_⟩,_⟩:=I.loc
    exact free _ o (fun z=>(c6 _ z).2.1 rfl) ho I.free
  · obtain⟨v,o,ho,hd⟩:=I.cell x c e
    exact free c o (fun z=>(c6 c z).2.2.1 x c e rfl) ho (I.freeC x c e)
  · obtain⟨e,n,ne,nf,d⟩:=I.pin p hp
    have fF:p.1∉ch:=fun z=>(c6 p.1 z).2.2.2 p hp rfl;exact⟨keep p.1 p.2 ne nf fF e n,free p.1 p.2 fF e n,ne,nf,d⟩
theorem Inv.un{t':Nat}(I:Inv X pins σ H s)(u:Un X.fs [] H H' s.heap h')(hok:aI X.prog X.w H' h'):Inv X pins σ H' {s with heap:=h',toks:=t'}:=by obtain⟨m,⟨o,es,ep,ho,r⟩,_⟩:=id I.loc;obtain⟨sl,hL⟩:=u.any ho I.free (by simp);exact I.step (g':=s.gens) (d':=s.drawn) (ch:=[]) (fun _ z=>nomatch z) (fun b o _ hb _ e n=>u.keep b o e n hb (by simp)) (fun b o _ hb _ e n=>u.slot b o e n hb (by simp)) (fun b o _ e n=>u.free b o e n (by simp)) (fun b o _ e=>u.there b o e (by simp)) u.tups u.frzs u.tbls (fun m' hm=>by obtain⟨o',jn,jo,dU,r'⟩:=hm;rw[ho]at dU;cases dU;exact⟨_,jn,jo,hL,r'⟩) hok I.bare
theorem Inv.call{g':Array GenState}{t':Nat}{d':Drawn}{ch:List Addr}(I:Inv X pins σ H s)(u:Un (bF X.stack) ch H H' s.heap h')(hok:aI X.prog X.w H' h')(hg:AllBare g') (c6:∀b∈ch,(b∈X.ex\/X.s₀.heap.objs.size<=b)/\b≠X.env.locals/\(∀x c,X.env.cells.lookup x=some c->c≠b)/\∀p∈X.pn++pins,p.1≠b): Inv X pins σ H' {s with heap:=h',gens:=g',drawn:=d',toks:=t'}:=by obtain⟨m,⟨o,es,ep,ho,r⟩,_⟩:=id I.loc;obtain⟨sl,hL⟩:=u.any ho I.free fun z=>(c6 _ z).2.1 rfl;exact I.step (ch:=ch) c6 (fun b o hL hb hc e n=>u.keep b o e n (fun z=>(di.mp (I.hU b z)).elim hL hb) hc) (fun b o _ _ hc e n=>u.any e n hc) (fun b o hc e n=>u.free b o e n hc) (fun b o hc e=>u.there b o e hc) u.tups u.frzs u.tbls (fun m' hm=>by obtain⟨o',jn,jo,dU,r'⟩:=hm;rw[ho]at dU;cases dU;exact⟨_,jn,jo,hL,r'⟩) hok hg
theorem Inv.turned{t':Nat}{it:Addr}(I:Inv X pins σ H s)(k:∀b o,b≠it->s.heap.get? b=some o->h'.get? b=some o)(hn:H it=none)(hL:it≠X.env.locals) (h1:it∈X.ex\/X.s₀.heap.objs.size<=it)(h2:∀x c,X.env.cells.lookup x=some c->c≠it)(h3:∀p∈X.pn++pins,p.1≠it):Inv X pins σ H {s with heap:=h',toks:=t'}:=by
  have fC:∀b u,H b=some u->b≠it:=fun b u e z=>by rw[z,hn]at e;cases e
  refine I.step (g':=s.gens) (d':=s.drawn) (ch:=[it]) (fun b hb=>?_) (fun b o _ _ hc e _=>k b o (fun z=>hc (by simp[z])) e) (fun b o _ _ hc e _=>⟨o.slots,k b o (fun z=>hc (by simp[z])) e⟩) (fun _ _ _ _ n=>n) (fun b o hc e=>⟨o,k b o (fun z=>hc (by simp[z])) e⟩) (fun _ _ e=>e) (fun _ _ _ e=>e) (fun b ps e=>⟨#[],by rw[e];simp⟩) (fun m hm=>?_) (fun b u e=>?_) I.bare
  · have e:b=it:=by simpa using hb
    subst e;exact⟨h1,hL,h2,h3⟩
  · obtain⟨o,es,ep,ho,r⟩:=hm
    exact⟨o,es,ep,k _ o (Ne.symm hL) ho,r⟩
  · refine(I.hok b u e).dJ (fun c v hc q=>k c v ?_ q) (fun _ q=>q) fun _ _ q=>q
    rcases hc with z|z
    ·rw[z];exact fC b u e
    ·exact fC c _ z
theorem Inv.tok(I:Inv X pins σ H s)(t:Nat):Inv X pins σ H {s with toks:=t}:=I.un (h':=s.heap) (t':=t) Un.refl I.hok
theorem Inv.kept{t':Nat}(I:Inv X pins σ H s)(k:∀b u,s.heap.get? b=some u->h'.get? b=some u):Inv X pins σ H {s with heap:=h',toks:=t'}:=I.un (Un.kept k) (I.hok.kept k)
theorem Inv.laid{a:Addr}{o:HO}{t':Nat}(I:Inv X pins σ H s)(k:∀b u,s.heap.get? b=some u->h'.get? b=some u)(hp:s.heap.objs.size<=a)(new:bH X.prog X.w (upd H a o) h' a o): Inv X pins σ (upd H a o) {s with heap:=h',toks:=t'}:=I.un (Un.laid k hp (I.hok.fresh hp)) (I.hok.laid k hp new)
theorem Inv.write{x e:Addr}{o:HO}{t':Nat}(I:Inv X pins σ H s)(mu:gM (H x))(he:e=x\/H e=some (.own x))(k:∀b u,b≠e->s.heap.get? b=some u->h'.get? b=some u)(eN:∃u,h'.get? e=some u) (new:bH X.prog X.w (upd H x o) h' x o):Inv X pins σ (upd H x o) {s with heap:=h',toks:=t'}:=I.un (Un.write mu he k eN) (I.hok.write mu he k eN new)
theorem Inv.lC{lD:List (Addr×Obj)}(I:Inv X pins σ H s)(h:∀p∈lD,s.heap.get? p.1=some p.2/\H p.1=none/\p.1≠X.env.locals/\p.1∉X.fs/\∀v,p.2.data≠ .cell v):Inv X lD σ H s:=⟨I.ok,I.os,I.bare,I.base,I.loc,I.cell,I.free,I.freeC,fun p hp=>(g5.mp hp).elim (fun z=>I.pin p (List.mem_append_left _ z)) (h p),I.hok,I.len⟩
theorem lN{N:List Str}(hN:N.Nodup){i j:Nat}{x:Str}(a:N[i]? =some x)(b:N[j]? =some x):i=j:=by obtain⟨h1,e1⟩:=ei.mp a;obtain⟨h2,e2⟩:=ei.mp b;exact(List.getElem_inj hN).mp (e1.trans e2.symm)
theorem kb{M:Model}{A:vK}{E:Value->vH->Prop}{i:Nat}{x:Str}{v:V}{u:Value}{Q:Unit->vH->Prop}(I:Inv X pins σ H s)(hN:X.N.Nodup)(hi:X.N[i]? =some x)(hx:Loc X.env.scope x)(r:RelV v u) (h:∀s',Inv X pins (σ.set i (some v)) H s'->(∃a,Heap.SameBut a s.heap s'.heap/\(a=X.env.locals\/X.env.cells.lookup x=some a))->Q () s')(hf:X.fn x=true\/X.env.scope.names.lookup x=some .local:=by first|exact .inl rfl|exact .inr rfl|assumption):wpAny M A (storeName X.env x u) Q E s:=by
  obtain⟨m,hn,hl⟩:=id I.loc;have tR:(X.env.scope.kind== .class||(X.env.scope.kind== .module&&X.env.locals !=X.env.globals))=false:=by rw[I.ok.kind];rfl
  have mx:i<σ.length:=by rw[I.len];exact(ei.mp hi).1
  have e9:=I.e9;have tracked:∀{a:Addr}{h':Heap},(∃o,s.heap.get? a=some o/\H a=none)->Heap.SameBut a s.heap h'->aI X.prog X.w H h':=fun{a h'} ha hs b ob e=>by
   obtain⟨_,_,eM⟩:=ha;refine(I.hok b ob e).dJ (fun c w' hc q=>(hs.2 c ?_).trans q) (fun _ q=>q) fun _ _ q=>q;rintro rfl;rcases hc with rfl|hc
   ·rw[eM]at e;cases e
   ·rw[eM]at hc;cases hc
  rcases hx with hk|hk
  · refine wpAny_storeName_local hk hn (fun h' fL hs=>?_) tR
    obtain⟨oL,_,_,tf,_⟩:=id hn;refine h _ ⟨I.ok,I.os,I.bare,⟨fun b o e n hb hx=>?_,fun b o e n hb hx=>?_,I.base.free,fun b o e hx=>?_,I.base.tups,I.base.frzs,I.base.tbls⟩,⟨_,fL,fun j y v' e1 e2 e3=>?_⟩,fun y c e=>?_,I.free,I.freeC,fun p hp=>?_,tracked ⟨oL,tf,I.free⟩ hs,by simpa using I.len⟩ ⟨_,hs,.inl rfl⟩
    ·exact(hs.2 b (aW (bt (av e) I.ok.above))).trans (I.base.keep b o e n hb hx)
    · obtain⟨sl,e1⟩:=I.base.slot b o e n hb hx
      exact⟨sl,(hs.2 b (aW (bt (av e) I.ok.above))).trans e1⟩
    · obtain⟨o',e1⟩:=I.base.there b o e hx
      exact⟨o',(hs.2 b (aW (bt (av e) I.ok.above))).trans e1⟩
    · by_cases hj:j=i
      · subst hj
        rw[hi]at e1;cases e1;rw[List.getElem?_set_self mx]at e2;cases e2;exact⟨u,r,.inl ⟨hk,by simp⟩⟩
      · rw[List.getElem?_set_ne (Ne.symm hj)]at e2
        obtain⟨u',r',q⟩:=hl j y v' e1 e2 e3;refine⟨u',r',?_⟩;rcases q with⟨k,e⟩|⟨k,c,e,z⟩
        · refine .inl ⟨k,?_⟩
          have:y≠x:=fun e=>hj (lN hN e1 (e▸hi));simp[this,e]
        ·exact .inr ⟨k,c,e,z.sameBut hs (e9 y c e)⟩
    · obtain⟨w',z⟩:=I.cell y c e
      exact⟨w',z.sameBut hs (e9 y c e)⟩
    · obtain⟨e,n,ne,nf,d⟩:=I.pin p hp
      exact⟨(hs.2 p.1 ne).trans e,n,ne,nf,d⟩
  · have j9:X.fn x=true:=by
      rcases hf with z|z
      ·exact z
      ·rw[z]at hk;cases hk
    obtain⟨c,hc⟩:=I.ok.has x (.inl hk);obtain⟨w',z⟩:=I.cell x c hc;refine wpAny_storeName_cell I.ok.kind hk hc z (fun h' dX hs=>?_);obtain⟨oc,mr,td⟩:=id z;refine h {s with heap:=h'} ⟨I.ok,I.os,I.bare,⟨fun b o e n hb hx=>?_,fun b o e n hb hx=>?_,I.base.free,fun b o e hx=>?_,I.base.tups,I.base.frzs,I.base.tbls⟩,⟨m,hn.sameBut hs (Ne.symm (e9 x c hc)),fun j y v' e1 e2 e3=>?_⟩,fun y c' e=>?_,I.free,I.freeC,fun p hp=>?_,tracked ⟨oc,mr,I.freeC x c hc⟩ hs,by simpa using I.len⟩ ⟨c,hs,.inr hc⟩
    ·exact(hs.2 b (aW (bt (av e) (I.ok.cab x c j9 hc)))).trans (I.base.keep b o e n hb hx)
    · obtain⟨sl,e1⟩:=I.base.slot b o e n hb hx
      exact⟨sl,(hs.2 b (aW (bt (av e) (I.ok.cab x c j9 hc)))).trans e1⟩
    · obtain⟨o',e1⟩:=I.base.there b o e hx
      exact⟨o',(hs.2 b (aW (bt (av e) (I.ok.cab x c j9 hc)))).trans e1⟩
    · by_cases hj:j=i
      · subst hj
        rw[hi]at e1;cases e1;rw[List.getElem?_set_self mx]at e2;cases e2;exact⟨u,r,.inr ⟨.inl hk,c,hc,dX⟩⟩
      · rw[List.getElem?_set_ne (Ne.symm hj)]at e2
        obtain⟨u',r',q⟩:=hl j y v' e1 e2 e3;refine⟨u',r',?_⟩;rcases q with q|⟨k,c',e,z'⟩
        ·exact .inl q
        · refine .inr ⟨k,c',e,z'.sameBut hs ?_⟩
          rintro rfl;exact hj (lN hN e1 (I.ok.inj _ _ _ e hc▸hi))
    · by_cases mB:c'=c
      ·subst mB;exact⟨_,dX⟩
      · obtain⟨w2,z2⟩:=I.cell y c' e
        exact⟨w2,z2.sameBut hs mB⟩
    · obtain⟨e,n,ne,nf,d⟩:=I.pin p hp
      refine⟨(hs.2 p.1 ?_).trans e,n,ne,nf,d⟩;intro q;rw[q,mr]at e;have q':oc=p.2:=cB e;exact d w' (by rw[<-q'];exact td)
theorem gh{M:Model}{A:vK}{E:Value->vH->Prop}{i:Nat}{x:Str}{v:V}{u:Value}{Q:Unit->vH->Prop}(I:Inv X pins σ H s)(hN:X.N.Nodup)(hi:X.N[i]? =some x)(hx:Loc X.env.scope x)(r:RelV v u) (h:∀s',Inv X pins (σ.set i (some v)) H s'->Q () s')(hf:X.fn x=true\/X.env.scope.names.lookup x=some .local:=by first|exact .inl rfl|exact .inr rfl|assumption):wpAny M A (storeName X.env x u) Q E s:=kb I hN hi hx r (fun s' I' _=>h s' I') hf
theorem Inv.nj{s':vH}{ch:List Addr}(I:Inv X pins σ H s)(ho:s'.os=s.os)(u:Un (bF X.stack) ch H H' s.heap s'.heap)(hok:aI X.prog X.w H' s'.heap)(hg:AllBare s'.gens) (c6:∀b∈ch,(b∈X.ex\/X.s₀.heap.objs.size<=b)/\b≠X.env.locals/\(∀x c,X.env.cells.lookup x=some c->c≠b)/\∀p∈X.pn++pins,p.1≠b):Inv X pins σ H' s':=by obtain⟨h',g',d',t',o'⟩:=s';have e:o'=s.os:=ho;subst e;exact I.call (g':=g') (t':=t') (d':=d') u hok hg c6
end
abbrev XK:=Value->Option Addr->Hp->Prop
abbrev St:=List (Option V)
abbrev VK:=V->Hp->Prop
abbrev TE:=St->Hp->VK->Prop
abbrev TT:=St->Hp->(Bool->Hp->Prop)->Prop
abbrev TA:=St->Hp->(List V->Hp->Prop)->Prop
structure Ends where
 nx:St->Hp->Prop
 rt:VK
 bk:St->Hp->Prop:=fun _ _=>False
 ct:St->Hp->Prop:=fun _ _=>False
abbrev TS:=Ends->St->Hp->Prop
def EP(X:Cx)(pins:List (Addr×Obj))(σ:St)(Q:VK)(u:Value)(s':vH):Prop:=∃v H',Inv X pins σ H' s'/\RelV v u/\Q v H'
def TP(X:Cx)(pins:List (Addr×Obj))(σ:St)(Q:Bool->Hp->Prop)(b:Bool)(s':vH):Prop:=∃H',Inv X pins σ H' s'/\Q b H'
def AP(X:Cx)(pins:List (Addr×Obj))(σ:St)(Q:List V->Hp->Prop)(us:List Value)(s':vH):Prop:=∃vs H',Inv X pins σ H' s'/\Vals vs us/\Q vs H'
def SP(X:Cx)(pins:List (Addr×Obj))(D:Ends)(f:Flow)(s':vH):Prop:=match f with | .next=>∃σ' H',Inv X pins σ' H' s'/\D.nx σ' H' | .brk=>∃σ' H',Inv X pins σ' H' s'/\D.bk σ' H' | .cont=>∃σ' H',Inv X pins σ' H' s'/\D.ct σ' H' | .ret u=>∃v σ' H',Inv X pins σ' H' s'/\RelV v u/\D.rt v H'
def PE(X:Cx)(e:Expr)(t:TE):Prop:=∀(pins:List (Addr×Obj))(s:vH)(σ:St)(H:Hp)(Q:VK),Inv X pins σ H s->t σ H Q->wpAny (model X.prog X.w) X.A (eval e X.env) (EP X pins σ Q) X.xe s
def PT(X:Cx)(e:Expr)(t:TT):Prop:=∀(pins:List (Addr×Obj))(s:vH)(σ:St)(H:Hp)(Q:Bool->Hp->Prop),Inv X pins σ H s->t σ H Q->wpAny (model X.prog X.w) X.A (isTrue e X.env (eval e X.env)) (TP X pins σ Q) X.xe s
def PW(X:Cx)(e:Expr)(t:TT):Prop:=∀(whole:Sem Value)(pins:List (Addr×Obj))(s:vH)(σ:St)(H:Hp)(Q:Bool->Hp->Prop),Inv X pins σ H s->t σ H Q->wpAny (model X.prog X.w) X.A (isTrue e X.env whole) (TP X pins σ Q) X.xe s
theorem PW.pt{X:Cx}{e:Expr}{t:TT}(h:PW X e t):PT X e t:=h _
def PA(X:Cx)(es:List Expr)(t:TA):Prop:=∀(pos:Pos)(pins:List (Addr×Obj))(s:vH)(σ:St)(H:Hp)(Q:List V->Hp->Prop),Inv X pins σ H s->t σ H Q->wpAny (model X.prog X.w) X.A (spliced (backTo pos (starEach es X.env))) (AP X pins σ Q) X.xe s
def PS(X:Cx)(st:Stmt)(t:TS):Prop:=∀(pins:List (Addr×Obj))(s:vH)(σ:St)(H:Hp)(D:Ends),Inv X pins σ H s->t D σ H->wpAny (model X.prog X.w) X.A (exec st X.env) (SP X pins D) X.xe s
def bG(X:Cx)(st:List Stmt)(t:TS):Prop:=∀(pins:List (Addr×Obj))(s:vH)(σ:St)(H:Hp)(D:Ends),Inv X pins σ H s->t D σ H->wpAny (model X.prog X.w) X.A (execs st X.env) (SP X pins D) X.xe s
theorem a9{α:Type}{t:Sem α}{Q Q':α->vH->Prop}{M:Model}{A:vK}{E:Value->vH->Prop}{s:vH}(h:wpAny M A t Q E s)(hQ:∀a s,Q a s->Q' a s):wpAny M A t Q' E s:=dg h hQ fun _ _ x=>x
section
variable {X:Cx}
inductive nL(i:Nat)(σ:St)(H:Hp)(Q:VK):Prop |mk (v:_)(h0:σ[i]? =some (some v))(h1:Q v H):nL i σ H Q
def k7(i:Nat):TE:=fun σ H Q=>nL i σ H Q
def tC (v:V):TE:=fun _ H Q=>Q v H
theorem qD{i:Nat}{x:Str}{pos:Pos}(hN:X.N[i]? =some x)(hv:jA X.env.scope x)(hd:(x==("__debug__":Str))=false:=by decide)(c7:(x==("__classdict__":Str))=false:=by decide):PE X (.Name x pos) (k7 i):=by
 intro pins s σ H Q I h;obtain⟨v,e,h⟩:=h;obtain⟨m,hn,hl⟩:=I.loc;obtain⟨u,r,l⟩:=hl i x v hN e hv;have fin:EP X pins σ Q u s:=⟨v,H,I,r,h⟩;rcases l with⟨hk,hm⟩|⟨hk,c,hc,dA⟩
 ·exact wpAny_Name (wpAny_loadName_local I.ok.kind hk hn hm fin) hd
 · rcases hk with hk|hk
   ·exact wpAny_Name (wpAny_loadName_cell I.ok.kind hk hc dA fin) hd
   ·exact wpAny_Name (wpAny_loadName_free I.ok.kind hk hc dA fin c7) hd
theorem a8{i j pos}:PE X (.Constant (.int i) j pos) (tC (.int i)):=fun _ _ _ H _ I h=>wpAny_Constant_int ⟨.int i,H,I.tok _,⟨_,rfl⟩,h⟩
theorem iQ{b j pos}:PE X (.Constant (.bool b) j pos) (tC (.bl b)):=fun _ _ _ H _ I h=>Constant_bool ⟨.bl b,H,I,rfl,h⟩
theorem ar{x j pos}:PE X (.Constant (.str x) j pos) (tC (.str x)):=fun _ _ _ H _ I h=>Calls.Constant_str ⟨.str x,H,I.tok _,⟨_,rfl⟩,h⟩
def Gl(X:Cx)(x:Str):Prop:=X.env.kindOf x=some .globalImplicit
theorem m7{E:Value->vH->Prop}{pins:List (Addr×Obj)}{s:vH}{σ:St}{H:Hp}{x:Str}{u:Value}{pos:Pos}{Q:Value->vH->Prop}(I:Inv X pins σ H s)(hg:Gl X x)(hm:X.mg x=some u)(h:Q u s) (hd:(x==("__debug__":Str))=false:=by decide):wpAny (model X.prog X.w) X.A (eval (.Name x pos) X.env) Q E s:=Calls.Name_function_global I.ok.kind hg (Calls.loadGlobal_global (by rw[I.ok.glob];exact I.mod.glob.keeps I.bk) hm h) hd
theorem fH{E:Value->vH->Prop}{pins:List (Addr×Obj)}{s:vH}{σ:St}{H:Hp}{x:Str}{u:Value}{pos:Pos}{Q:Value->vH->Prop}(I:Inv X pins σ H s)(hg:Gl X x)(hm:X.mg x=none)(hv:bootBuiltins x=some u)(h:Q u s) (hn:x≠"__name__":=by decide)(hd:(x==("__debug__":Str))=false:=by decide):wpAny (model X.prog X.w) X.A (eval (.Name x pos) X.env) Q E s:=by obtain⟨mb,h1,h2⟩:=I.mod.blt;exact Calls.Name_function_global I.ok.kind hg (Calls.loadGlobal_builtin (by rw[I.ok.glob];exact I.mod.glob.keeps I.bk) hm (by rw[I.ok.blt];exact h1.keeps I.bk) ((h2 x hn).trans hv) h) hd
theorem qG{x:Str}{v:V}{u:Value}{pos:Pos}(hg:Gl X x)(hm:X.mg x=some u)(r:RelV v u)(hd:(x==("__debug__":Str))=false:=by decide):PE X (.Name x pos) (tC v):=fun _ _ _ H _ I h=>m7 I hg hm ⟨v,H,I,r,h⟩ hd
theorem qJ{x:Str}{v:V}{u:Value}{pos:Pos}(hg:Gl X x)(hm:X.mg x=none)(hv:bootBuiltins x=some u)(r:RelV v u)(hn:x≠"__name__":=by decide)(hd:(x==("__debug__":Str))=false:=by decide):PE X (.Name x pos) (tC v):=fun _ _ _ H _ I h=>fH I hg hm hv ⟨v,H,I,r,h⟩ hn hd
variable {a b:Expr}{ta tb:TE}{pos:Pos}
inductive nP(Q:Bool->Hp->Prop)(x:V)(H1:Hp):Prop |mk (c:_)(h0:x= .bl c)(h1:Q c H1):nP Q x H1
def tB(t:TE):TT:=fun σ H Q=>t σ H fun x H1=>nP Q x H1
theorem fj{e:Expr}{t:TE}(h:PE X e t)(he:∀whole,isTrue e X.env whole=(do let v<-whole;standAt e.pos;holding [v] (truthy v)):=by intro _;rfl):PT X e (tB t):=by intro pins s σ H Q I hw;refine isTrue_plain (a9 (h pins s σ H _ I hw) fun v s1 ⟨x,H1,I1,r1,q1⟩=>?_) (he _);obtain⟨d,rfl,q⟩:=q1;cases r1;exact wpAny_truthy_bool ⟨H1,I1,q⟩
variable {tA gf:TT} {rest:List Expr}
def pO(t u:TT):TT:=fun σ H Q=>t σ H fun c H1=>if c=true then u σ H1 Q else Q false H1
def pA(t u:TT):TT:=fun σ H Q=>t σ H fun c H1=>if c=true then Q true H1 else u σ H1 Q
def pB(t:TT):TT:=fun σ H Q=>t σ H fun c H1=>Q (!c) H1
theorem qu(ha:PT X a tA):PW X (.BoolOp .And [a] pos) tA:=by intro wh pins s σ H Q I h;refine isTrue_and (a9 (ha pins s σ H Q I h) fun c s1 e=>?_);cases c with |true=>exact isTrue_and_nil e |false=>exact e
theorem qs(ha:PT X a tA):PW X (.BoolOp .Or [a] pos) tA:=by intro wh pins s σ H Q I h;refine isTrue_or (a9 (ha pins s σ H Q I h) fun c s1 e=>?_);cases c with |false=>exact isTrue_or_nil e |true=>exact e
theorem qv(ha:PT X a tA)(hb:PW X (.BoolOp .And (b::rest) pos) gf):PW X (.BoolOp .And (a::b::rest) pos) (pO tA gf):=by intro wh pins s σ H Q I h;refine isTrue_and (a9 (ha pins s σ H _ I h) fun c s1 ⟨H1,I1,q1⟩=>?_);cases c with |true=>exact hb wh pins s1 σ H1 Q I1 q1 |false=>exact⟨H1,I1,q1⟩
theorem qt(ha:PT X a tA)(hb:PW X (.BoolOp .Or (b::rest) pos) gf):PW X (.BoolOp .Or (a::b::rest) pos) (pA tA gf):=by intro wh pins s σ H Q I h;refine isTrue_or (a9 (ha pins s σ H _ I h) fun c s1 ⟨H1,I1,q1⟩=>?_);cases c with |true=>exact⟨H1,I1,q1⟩ |false=>exact hb wh pins s1 σ H1 Q I1 q1
theorem gu(ha:PT X a tA):PT X (.UnaryOp .Not a pos) (pB tA):=by intro pins s σ H Q I h;exact isTrue_not (ha pins s σ H (fun c H1=>Q (!c) H1) I h)
inductive nQ(tb:TE)(σ:St)(Q:VK)(x:V)(H1:Hp):Prop |mk (c:_)(h0:x= .bl c)(h1:if c=true then tb σ H1 Q else Q (.bl false) H1):nQ tb σ Q x H1
def pN(ta tb:TE):TE:=fun σ H Q=>ta σ H fun x H1=>nQ tb σ Q x H1
theorem qF{op}{t:TE}(h:PE X a t):PE X (.BoolOp op [a] pos) t:=fun pins s σ H Q I hw=>BoolOp_one (h pins s σ H Q I hw)
theorem qK(ha:PE X a ta)(hb:PE X (.BoolOp .And (b::rest) pos) tb):PE X (.BoolOp .And (a::b::rest) pos) (pN ta tb):=by intro pins s σ H Q I h;refine BoolOp_and (a9 (ha pins s σ H _ I h) fun v s1 ⟨x,H1,I1,r1,q1⟩=>?_);obtain⟨c,rfl,q1⟩:=q1;cases r1;refine wpAny_truthy_bool ?_;cases c with |true=>exact hb pins s1 σ H1 Q I1 q1 |false=>exact⟨.bl false,H1,I1,rfl,q1⟩
def pI(t:TT)(ta tb:TE):TE:=fun σ H Q=>t σ H fun c H1=>if c=true then ta σ H1 Q else tb σ H1 Q
theorem ft{c:Expr}(hc:PT X c tA)(ha:PE X a ta)(hb:PE X b tb):PE X (.IfExp c a b pos) (pI tA ta tb):=by intro pins s σ H Q I h;refine wpAny_IfExp (a9 (hc pins s σ H _ I h) fun d s1 ⟨H1,I1,q1⟩=>?_);cases d with |true=>exact ha pins s1 σ H1 Q I1 q1 |false=>exact hb pins s1 σ H1 Q I1 q1
end
end L2
namespace L2
open PySem PySem.Spec PyProof.Rows
def ah(K:vG)(H:Hp)(a:Addr)(xs:List V):Prop:=Rd H a (.lst xs)\/ ∃(o:Obj)(its:Array Value)(n:Nat),K.lookup a=some o/\o.cls= .type "list"/\o.dict=none/\o.data= .seq its n/\its.size<=sizeLine/\Vals xs its.toList
def aj(K:vG)(H:Hp)(a:Addr)(xs:List V):Prop:=Rd H a (.tup xs)\/ ∃(o:Obj)(its:Array Value)(n:Nat),K.lookup a=some o/\o.cls= .type "tuple"/\o.data= .seq its n/\its.size<=sizeLine/\Vals xs its.toList
def uV:Value->Option V | .none=>some .aE | .bool b=>some (.bl b) | .int i _=>some (.int i) | .str x _=>some (.str x) | .bytes b _=>some (.da b) | .float b _=>some (.jm b) | .ref a=>some (.ref a) | .type n=>some (.ty n) |_=>none
theorem RelV.abs{x:V}{u:Value}(r:RelV x u):uV u=some x:=by cases x with |aE=>cases r;rfl |bl _=>cases r;rfl |int _=>obtain⟨t,rfl⟩:=r;rfl |str _=>obtain⟨t,rfl⟩:=r;rfl |da _=>obtain⟨t,rfl⟩:=r;rfl |jm _=>obtain⟨t,rfl⟩:=r;rfl |ref _=>cases r;rfl |ty _=>cases r;rfl
theorem RelV.inj{x y:V}{u:Value}(r:RelV x u)(q:RelV y u):x=y:=cB (r.abs.symm.trans q.abs)
theorem Vals.inj:∀{xs ys:List V}{us:List Value},Vals xs us->Vals ys us->xs=ys |_,_,_,.nil,.nil=>rfl |_,_,_,.cons r t,.cons r' t'=>by rw[r.inj r',Vals.inj t t']
section
variable {X:Cx}{pins:List (Addr×Obj)}{σ:St}{H:Hp}{s:vH}{a:Addr}{xs ys:List V}
theorem ah.of{K:vG}(h:H a=some (.lst xs)):ah K H a xs:=.inl (.inl h)
theorem aj.of{K:vG}(h:H a=some (.tup xs)):aj K H a xs:=.inl (.inl h)
theorem Inv.list(I:Inv X pins σ H s)(h:ah X.K H a xs):∃its:List Value,Vals xs its/\PlainL s.heap a its.toArray/\xs.length<=sizeLine:=by
 rcases h with h|⟨o,its,n,hk,hc,hd,hs,hz,r⟩
 · obtain⟨z,its,n,r,e⟩:=h.ok I.hok
   exact⟨its,r,⟨_,n,e,rfl,rfl,rfl⟩,z⟩
 · refine⟨its.toList,r,⟨o,n,I.dz a o hk,hc,hd,by simpa using hs⟩,?_⟩
   have e:=r.length;simp only[ej]at e;omega
theorem Inv.tuple(I:Inv X pins σ H s)(h:aj X.K H a xs):∃its:List Value,Vals xs its/\IsTup s.heap a its.toArray/\xs.length<=sizeLine:=by
 rcases h with h|⟨o,its,n,hk,hc,hs,hz,r⟩
 · obtain⟨z,its,r,p⟩:=h.ok I.hok
   exact⟨its,r,p,z⟩
 · refine⟨its.toList,r,⟨o,I.dz a o hk,hc,n,by simpa using hs⟩,?_⟩
   have e:=r.length;simp only[ej]at e;omega
theorem Inv.p8(I:Inv X pins σ H s)(h:aj X.K H a xs)(h':aj X.K H a ys):xs=ys:=by
 obtain⟨its,r,⟨o,e,_,n,d⟩,_⟩:=I.tuple h;obtain⟨its',r',⟨o',e',_,n',d'⟩,_⟩:=I.tuple h';rw[e]at e';cases e';rw[d]at d';injection d' with d1 _;have:its=its':=by simpa using congrArg Array.toList d1
 subst this;exact r.inj r'
end
abbrev Cx.cC(X:Cx)(E:Value->vH->Prop):Cx:={X with xe:=E}
abbrev Cx.fz(X:Cx):Cx:=X.cC fun _ _=>False
theorem Cx.Ok.cC{X:Cx}(ok:X.Ok)(E:Value->vH->Prop):(X.cC E).Ok:=⟨ok.mod,ok.kind,ok.glob,ok.blt,ok.above,ok.inj,ok.has,ok.cab,ok.hd,ok.frames,ok.stk,ok.exf,ok.bs,ok.bsz,ok.noex,ok.exfs,ok.c8,ok.frf⟩
theorem Cx.Ok.dm{X:Cx}{E:Value->vH->Prop}(ok:(X.cC E).Ok):X.Ok:=⟨ok.mod,ok.kind,ok.glob,ok.blt,ok.above,ok.inj,ok.has,ok.cab,ok.hd,ok.frames,ok.stk,ok.exf,ok.bs,ok.bsz,ok.noex,ok.exfs,ok.c8,ok.frf⟩
section
variable {X:Cx}{pins:List (Addr×Obj)}{σ:St}{H:Hp}{s:vH}{E:Value->vH->Prop}
theorem Inv.cC(I:Inv X pins σ H s)(E:Value->vH->Prop):Inv (X.cC E) pins σ H s:=⟨I.ok.cC E,I.os,I.bare,I.base,I.loc,I.cell,I.free,I.freeC,I.pin,I.hok,I.len⟩
theorem Inv.dm(I:Inv (X.cC E) pins σ H s):Inv X pins σ H s:=⟨I.ok.dm,I.os,I.bare,I.base,I.loc,I.cell,I.free,I.freeC,I.pin,I.hok,I.len⟩
theorem SP.dm{D:Ends}{f:Flow}{s':vH}(h:SP (X.cC E) pins D f s'):SP X pins D f s':=by cases f with |next=>obtain⟨σ',H',I,q⟩:=h;exact⟨σ',H',I.dm,q⟩ |brk=>obtain⟨σ',H',I,q⟩:=h;exact⟨σ',H',I.dm,q⟩ |cont=>obtain⟨σ',H',I,q⟩:=h;exact⟨σ',H',I.dm,q⟩ |ret u=>obtain⟨v,σ',H',I,r,q⟩:=h;exact⟨v,σ',H',I.dm,r,q⟩
theorem bG.fz{st:List Stmt}{t:TS}(h:bG X.fz st t):bG X st t:=fun pins s σ H D I hw=>dg (h pins s σ H D (I.cC _) hw) (fun _ _ q=>q.dm) fun _ _ z=>False.elim z
end
section
variable {X:Cx}{st:Stmt}{rest:List Stmt}{t u:TS}{e:Expr}{te:TE}{pos:Pos}
def pD:TS:=fun D σ H=>D.nx σ H
def pk(t u:TS):TS:=fun D σ H=>t {D with nx:=u D} σ H
theorem ba:bG X [] pD:=fun _ _ σ H _ I h=>jN ⟨σ,H,I,h⟩
theorem ag(h1:PS X st t)(h2:bG X rest u):bG X (st::rest) (pk t u):=by intro pins s σ H D I h;refine wpAny_execs_cons (a9 (h1 pins s σ H {D with nx:=u D} I h) fun f s1 q=>?_);cases f with |next=>obtain⟨σ',H',I',q⟩:=q;exact h2 pins s1 σ' H' D I' q |ret v=>exact q |brk=>exact q |cont=>exact q
theorem ak(h1:PS X st t):bG X [st] t:=by intro pins s σ H D I h;refine wpAny_execs_cons (a9 (h1 pins s σ H D I h) fun f s1 q=>?_);cases f with |next=>exact jN q |ret v=>exact q |brk=>exact q |cont=>exact q
theorem Inv.quiet{pins:List (Addr×Obj)}{σ:St}{H:Hp}{s:vH}(I:Inv X pins σ H s):interactive X.env=false:=by simp[interactive,I.ok.kind]
def pK(te:TE):TS:=fun D σ H=>te σ H fun _ H1=>D.nx σ H1
theorem lB(he:PE X e te)(hs:swapsWith e none pos.line X.env=pure false:=by rfl):PS X (.Expr e pos) (pK te):=by intro pins s σ H D I h;exact wpAny_Expr_any (a9 (he pins s σ H _ I h) fun v s1 ⟨x,H1,I1,r1,q1⟩=>⟨σ,H1,I1,q1⟩) I.quiet hs
def pq(te:TE):TS:=fun D σ H=>te σ H D.rt
theorem ay(he:PE X e te):PS X (.Return (some e) pos) (pq te):=by intro pins s σ H D I h;exact wpAny_Return_some (a9 (he pins s σ H _ I h) fun v s1 ⟨x,H1,I1,r1,q1⟩=>⟨x,σ,H1,I1,r1,q1⟩)
def pH(c:TT)(t u:TS):TS:=fun D σ H=>c σ H fun b H1=>if b=true then t D σ H1 else u D σ H1
theorem bb{c:Expr}{a b:List Stmt}{tc:TT}(hc:PT X c tc)(ha:bG X a t)(hb:bG X b u):PS X (.If c a b pos) (pH tc t u):=by intro pins s σ H D I h;refine wpAny_If (a9 (hc pins s σ H _ I h) fun d s1 ⟨H1,I1,q1⟩=>?_);cases d with |true=>exact ha pins s1 σ H1 D I1 q1 |false=>exact hb pins s1 σ H1 D I1 q1
end
abbrev TG:=V->St->Hp->(St->Hp->Prop)->Prop
abbrev cI:=List V->St->Hp->(St->Hp->Prop)->Prop
def PG(X:Cx)(target:Expr)(t:TG):Prop:=∀(pins:List (Addr×Obj))(s:vH)(σ:St)(H:Hp)(v:V)(u:Value)(Q:St->Hp->Prop),Inv X pins σ H s->RelV v u->t v σ H Q->wpAny (model X.prog X.w) X.A (assign target X.env u) (fun _ s'=>∃σ' H',Inv X pins σ' H' s'/\Q σ' H') X.xe s
def fX(X:Cx)(ts:List Expr)(t:cI):Prop:=∀(pins:List (Addr×Obj))(s:vH)(σ:St)(H:Hp)(vs:List V)(us:List Value)(Q:St->Hp->Prop),Inv X pins σ H s->Vals vs us->t vs σ H Q->wpAny (model X.prog X.w) X.A (assignInOrder ((assignEach ts X.env).map (·.2)) us) (fun _ s'=>∃σ' H',Inv X pins σ' H' s'/\Q σ' H') X.xe s
abbrev jC:=V->V->V->Hp->(Hp->Prop)->Prop
def nI(X:Cx)(t:jC):Prop:=∀(pins:List (Addr×Obj))(s:vH)(σ:St)(H:Hp)(o i v:V)(ov iv u:Value)(Q:Hp->Prop),Inv X pins σ H s->RelV o ov->RelV i iv->RelV v u->t o i v H Q->wpAny (model X.prog X.w) X.A (setItem ov iv u) (fun _ s'=>∃H',Inv X pins σ H' s'/\Q H') X.xe s
section
variable {X:Cx} {pos:Pos}
def cx(i:Nat):TG:=fun v σ H Q=>Q (σ.set i (some v)) H
theorem qC{i:Nat}{x:Str}(hN:X.N.Nodup)(hi:X.N[i]? =some x)(hx:Loc X.env.scope x)(hf:X.fn x=true\/X.env.scope.names.lookup x=some .local:=by first|exact .inl rfl|exact .inr rfl|assumption):PG X (.Name x pos) (cx i):=by intro pins s σ H v u Q I r h;exact wpAny_assign_Name (gh I hN hi hx r (fun s' I'=>⟨_,H,I',h⟩) hf)
def uh:cI:=fun vs σ H Q=>vs=[]/\Q σ H
inductive oF(t:TG)(u:cI)(vs:List V)(σ:St)(H:Hp)(Q:St->Hp->Prop):Prop |mk (v:_)(r:_)(h0:vs=v::r)(h1:t v σ H fun σ' H'=>u r σ' H' Q):oF t u vs σ H Q
def ui(t:TG)(u:cI):cI:=fun vs σ H Q=>oF t u vs σ H Q
theorem fm:fX X [] uh:=by intro pins s σ H vs us Q I r h;obtain⟨e,h⟩:=h;subst e;cases r;exact assignInOrder_nil ⟨σ,H,I,h⟩
theorem bL{e:Expr}{es:List Expr}{t:TG}{u:cI}(h1:PG X e t)(h2:fX X es u) (hs:(assignEach (e::es) X.env).map (·.2)=assign e X.env::(assignEach es X.env).map (·.2):=by rfl):fX X (e::es) (ui t u):=by intro pins s σ H vs us Q I r h;obtain⟨v,vr,e1,h⟩:=h;subst e1;cases r with |cons r rr=>rw[hs];refine assignInOrder_cons (a9 (h1 pins s σ H _ _ _ I r h) fun _ s1 ⟨σ1,H1,I1,q1⟩=>?_);exact h2 pins s1 σ1 H1 _ _ Q I1 rr q1
inductive oE(K:vG)(n:Nat)(t:cI)(v:V)(σ:St)(H:Hp)(Q:St->Hp->Prop):Prop |mk (a:_)(xs:_)(h0:v= .ref a)(h1:aj K H a xs)(h2:xs.length=n)(h3:t xs σ H Q):oE K n t v σ H Q
def mK(K:vG)(n:Nat)(t:cI):TG:=fun v σ H Q=>oE K n t v σ H Q
theorem qB{es:List Expr}{k:Nat}{t:cI}{n:Nat}(hc:X.calm=true)(h:fX X es t) (hn:(assignEach es X.env).length=n:=by rfl)(j2:(assignEach es X.env).findIdx? (·.1)=none:=by rfl):PG X (.Tuple es k pos) (mK X.K n t):=by intro pins s σ H v u Q I r hw;obtain⟨a,xs,e1,hq,hl,hw⟩:=hw;subst e1;cases r;obtain⟨its,rv,ht,hz⟩:=I.tuple hq;refine assign_Tuple_tuple (I.ok.hd hc) ht (by simp[hn,<-hl,rv.length]) j2 fun h' hx=>?_;have I1:Inv X pins σ H {s with heap:=h'}:=I.kept (t':=s.toks) fun b o e=>hx b o (aW (av e)) e;exact h pins _ σ H xs _ Q I1 (by simpa using rv) hw
def ug(to ti:TE)(t:jC):TG:=fun v σ H Q=>to σ H fun o H1=>ti σ H1 fun i H2=>t o i v H2 fun H3=>Q σ H3
theorem iM{o i:Expr}{to ti:TE}{t:jC}(ho:PE X o to)(hi:PE X i ti)(hs:nI X t) (ha:∀v,assign (.Subscript o i pos) X.env v=(do
     let ov<-holding [v] (eval o X.env)
     let iv<-holding [v,ov] (eval i X.env)
     standAt pos
     holding [v,ov,iv] (setItem ov iv v)
     release [v,ov,iv] []):=by intro _;rfl):PG X (.Subscript o i pos) (ug to ti t):=by
  intro pins s σ H v u Q I r h;rw[ha];refine aB (wpAny_holding (a9 (ho pins s σ H _ I h) fun ov s1 ⟨x,H1,I1,r1,q1⟩=>?_));refine aB (wpAny_holding (a9 (hi pins s1 σ H1 _ I1 q1) fun iv s2 ⟨y,H2,I2,r2,q2⟩=>?_));refine aB (wpAny_standAt (aB (wpAny_holding (a9 (hs pins s2 σ H2 x y v ov iv u _ I2 r1 r2 r q2) fun _ s3 ⟨H3,I3,q3⟩=>?_))));exact wpAny_release ⟨σ,H3,I3,q3⟩
def gg(te:TE)(g:TG):TS:=fun D σ H=>te σ H fun x H1=>g x σ H1 D.nx
theorem dv{tg e:Expr}{te:TE}{g:TG}(he:PE X e te)(hg:PG X tg g)(hs:swapsWithSole [tg] e pos.line X.env=pure false:=by rfl)(hw:swappedStores [tg] e X.env=pure none:=by rfl) (h1:(assignEach [tg] X.env).map (·.2)=[assign tg X.env]:=by rfl):PS X (.Assign [tg] e pos) (gg te g):=by intro pins s σ H D I h;refine wpAny_Assign_stores (a9 (he pins s σ H _ I h) fun v s1 ⟨x,H1,I1,r1,q1⟩=>?_) hs hw;rw[h1];exact a9 (hg pins s1 σ H1 x v _ I1 r1 q1) fun _ s2 q=>q
theorem qx{i:Nat}{x:Str}{e:Expr}{te:TE}{pos':Pos}(hN:X.N.Nodup)(hi:X.N[i]? =some x)(hx:Loc X.env.scope x)(he:PE X e te)(hs:swapsWith e (some (.Name x pos')) pos.line X.env=pure false:=by rfl)(hf:X.fn x=true\/X.env.scope.names.lookup x=some .local:=by first|exact .inl rfl|exact .inr rfl|assumption): PS X (.Assign [.Name x pos'] e pos) (gg te (cx i)):=by intro pins s σ H D I h;refine wpAny_Assign_Name (a9 (he pins s σ H _ I h) fun v s1 ⟨y,H1,I1,r1,q1⟩=>?_) hs;exact gh I1 hN hi hx r1 (fun s2 I2=>⟨_,H1,I2,q1⟩) hf
inductive nN(i:Nat)(j:Nat)(D:Ends)(σ:St)(vs:List V)(H1:Hp):Prop |mk (v:_)(w:_)(h0:vs=[v,w])(h1:D.nx ((σ.set i (some v)).set j (some w)) H1):nN i j D σ vs H1
def pw(i j:Nat)(ta:TA):TS:=fun D σ H=>ta σ H fun vs H1=>nN i j D σ vs H1
theorem qy{i j:Nat}{x y:Str}{a b:Expr}{ta:TA}{px py pt:Pos} {kt k2 iJ}(hc:X.calm=true)(hN:X.N.Nodup)(hi:X.N[i]? =some x)(hj:X.N[j]? =some y)(tH:i≠j) (hx:X.env.scope.names.lookup x=some .local)(hy:X.env.scope.names.lookup y=some .local)(ha:PA X [a,b] ta) (hw:swappedStores [.Tuple [.Name x px,.Name y py] kt pt] (.Tuple [a,b] k2 iJ) X.env=pure (some [x,y])) (hs:swapsWithSole [.Tuple [.Name x px,.Name y py] kt pt] (.Tuple [a,b] k2 iJ) pos.line X.env=pure false:=by rfl): PS X (.Assign [.Tuple [.Name x px,.Name y py] kt pt] (.Tuple [a,b] k2 iJ) pos) (pw i j ta):=by
  intro pins s σ H D I h;rw[exec_Assign_arm];refine aB (wpAny_standAt ?_);rw[hs];refine aB (br ?_);rw[aK (by decide)];refine aB (Tuple_ (a9 (ha _ pins s σ H _ I h) fun us s1 ⟨vs,H1,I1,r1,q1⟩=>?_));obtain⟨v,w,e1,q1⟩:=q1;subst e1;obtain⟨u1,u2,rfl,rv,fi⟩:∃u1 u2,us=[u1,u2]/\RelV v u1/\RelV w u2:=by cases r1 with |cons p q=>cases q with |cons p' q'=>cases q';exact⟨_,_,rfl,p,p'⟩
  refine jM ?_ (by show 2<=sizeLine;decide);have I2:Inv X pins σ H1 {s1 with heap:=s1.heap.push {cls:=.type "tuple",data:=.seq [u1,u2].toArray}}:=I1.kept (t':=s1.toks) fun b o e=>bw _ e;rw[hw];refine aB (br ?_);show wpAny (model X.prog X.w) X.A (do rule "assign.swapped-stores";let items<-unpackItems (.ref s1.heap.objs.size) 2 none;assignInOrder [fun v=>bindName X.env y v,fun v=>bindName X.env x v] items.reverse;pure Flow.next) _ _ _;refine aB (wpAny_rule (aB (unpackItems_tuple (items:=#[u1,u2]) (I.ok.hd hc) (IsTup.new s1.heap _) fun h' sR=>?_)));have I3:=I2.kept (h':=h') (t':=s1.toks) fun b o e=>sR b o (aW (av e)) e;show wpAny _ _ (assignInOrder [fun v=>bindName X.env y v,fun v=>bindName X.env x v] [u2,u1]>>=fun _=>pure Flow.next) _ _ _;refine aB (assignInOrder_cons (wpAny_bindName (gh I3 hN hj (.inl hy) fi (fun s2 I4=>?_) (.inr hy))));refine assignInOrder_cons (wpAny_bindName (gh I4 hN hi (.inl hx) rv (fun s3 I5=>assignInOrder_nil (br ?_)) (.inr hx)));rw[List.set_comm _ _ (Ne.symm tH)]at I5;exact⟨_,H1,I5,q1⟩
end
section
variable {X:Cx} {pos:Pos}
def k6(c:TT)(tb:TS):TS:=fun D σ H=>∃W:Nat->St->Hp->Prop,(∃m,W m σ H)/\∀m σ H,W m σ H->c σ H fun b H1=>if b=true then∃N:St->Hp->Prop,(∀σ' H',N σ' H'->∃m',m'<m/\W m' σ' H')/\tb {D with nx:=N,ct:=N,bk:=D.nx} σ H1 else D.nx σ H1
theorem iK{c:Expr}{body:List Stmt}{tc:TT}{tb:TS}(hp:PassesOwn (model X.prog X.w) X.A X.env X.xe)(hc:PT X c tc)(hb:bG X body tb):PS X (.While c body [] pos) (k6 tc tb):=by intro pins s σ H D I h;obtain⟨W,⟨m0,w0⟩,turn⟩:=h;refine wpAny_While (codeAny_whileLoop (fun n s'=>∃σ' H',Inv X pins σ' H' s'/\W n σ' H') ?_ m0 ⟨σ,H,I,w0⟩);rintro n s1 ⟨σ1,H1,I1,w1⟩;refine eV hp (a9 (hc pins s1 σ1 H1 _ I1 (turn n σ1 H1 w1)) fun b s2 ⟨H2,I2,q2⟩=>?_);cases b with
 |true=>obtain⟨N,hN,q2⟩:=q2;rw[aD rfl];refine eV hp (a9 (hb pins s2 σ1 H2 _ I2 q2) fun f s3 q3=>?_);cases f with |next=>obtain⟨σ3,H3,I3,n3⟩:=q3;obtain⟨m',hm,w3⟩:=hN σ3 H3 n3;exact⟨m',hm,σ3,H3,I3,w3⟩ |cont=>obtain⟨σ3,H3,I3,n3⟩:=q3;obtain⟨m',hm,w3⟩:=hN σ3 H3 n3;exact⟨m',hm,σ3,H3,I3,w3⟩ |brk=>exact q3 |ret v=>exact q3
 |false=>rw[aK cf];exact jN ⟨σ1,H2,I2,q2⟩
end
structure It where
 go:Nat->Hp->Prop
 yld:Nat->Hp->V->Hp->Prop
 stop:Nat->Hp->Prop
def bT(X:Cx)(pins:List (Addr×Obj))(H:Hp)(b:Addr):Prop:=H b=none/\b≠X.env.locals/\b∉X.fs/\(b∈X.ex\/X.s₀.heap.objs.size<=b)/\(∀x c,X.env.cells.lookup x=some c->c≠b)/\∀p∈X.pn++pins,p.1≠b
theorem Inv.gD{X:Cx}{pins:List (Addr×Obj)}{σ:St}{H H':Hp}{s:vH}{b:Addr}(I:Inv X pins σ H s)(hb:s.heap.objs.size<=b)(hn:H' b=none):bT X pins H' b:=by
 refine⟨hn,Nat.ne_of_gt (bt I.lt hb),I.rP hb,.inr (dD I.sz hb),fun x c e z=>?_,fun p hp z=>?_⟩
 · obtain⟨v,q⟩:=I.cell x c e
   exact absurd (bt q.lt (by rw[z];exact hb)) (eX _)
 ·exact absurd (bt (av (I.pin p hp).1) (by rw[z];exact hb)) (eX _)
structure Turn(P:vI)(w:World)(K:vG)(tg:Expr)(J:It)(fp:List Addr)(it:Addr)(tn:Nat->Heap->Prop):Prop where
 mem:it∈fp
 obj:∀i h,tn i h->∀b∈fp,∃o,h.get? b=some o/\∀v,o.data≠ .cell v
 keep:∀i h h',tn i h->(∀b∈fp,∀o,h.get? b=some o->h'.get? b=some o)->tn i h'
 item:∀(X:Cx),X.prog=P->X.w=w->X.K=K->X.calm=true->∀(i:Nat)(pins:List (Addr×Obj))(s:vH)(σ:St)(H:Hp)(E:Value->vH->Prop),Inv X pins σ H s->(∀b∈fp,bT X pins H b)->tn i s.heap->J.go i H->wpAny (model P w) X.A (pyNext (.ref it)) (fun r s1=>∃u,r=some u/\wpAny (model P w) X.A (letOwnedTupleGo tg (.ref it) u) (fun _ s2=>∃x H',Inv X pins σ H' s2/\RelV x u/\J.yld i H x H'/\tn (i+1) s2.heap/\∀b∈fp,H' b=none) E s1) E s
 done:∀(X:Cx),X.prog=P->X.w=w->X.K=K->X.calm=true->∀(i:Nat)(pins:List (Addr×Obj))(s:vH)(σ:St)(H:Hp)(E:Value->vH->Prop),Inv X pins σ H s->(∀b∈fp,bT X pins H b)->tn i s.heap->J.stop i H->wpAny (model P w) X.A (pyNext (.ref it)) (fun r s1=>r=none/\Inv X pins σ H s1) E s
 self:∀(A:vK)(i:Nat)(s:vH)(Q:Value->vH->Prop)(E:Value->vH->Prop),tn i s.heap->Q (.ref it) s->wpAny (model P w) A (pyIter (.ref it)) Q E s
abbrev TI:=St->Hp->(It->Hp->Prop)->Prop
def nJ(X:Cx)(pins:List (Addr×Obj))(σ:St)(tg:Expr)(R:It->Hp->Prop)(gy:Value)(s2:vH):Prop:=∃(it:Addr)(fp:List Addr)(tn:Nat->Heap->Prop)(J:It)(H':Hp),gy= .ref it/\Inv X pins σ H' s2/\Turn X.prog X.w X.K tg J fp it tn/\tn 0 s2.heap/\(∀b∈fp,bT X pins H' b)/\R J H'
def PI(X:Cx)(tg iter:Expr)(wi:TI):Prop:=∀(pins:List (Addr×Obj))(s:vH)(σ:St)(H:Hp)(R:It->Hp->Prop),Inv X pins σ H s->wi σ H R->wpAny (model X.prog X.w) X.A (eval iter X.env) (fun v s1=>wpAny (model X.prog X.w) X.A (pyIter v) (nJ X pins σ tg R) X.xe s1) X.xe s
theorem mJ{M:Model}{A:vK}{E:Value->vH->Prop}{s:vH}{tg:Expr}{it:Addr}{u:Value}{o:Obj}{n:String}{vs:Array Value}{Q:Unit->vH->Prop}(ho:s.heap.get? it=some o)(hc:o.cls= .type n)(hd:o.data= .fields vs) (hn:["enumerate","zip","dict_itemiterator","dict_reverseitemiterator","odict_iterator","itertools.zip_longest","itertools.pairwise"].contains n=false)(hQ:Q () s):wpAny M A (letOwnedTupleGo tg (.ref it) u) Q E s:=by unfold letOwnedTupleGo;cases tg<;>first |exact br hQ |(cases u<;>first
        |exact br hQ
        | (refine aB (wpAny_load ho ?_)
           rw[hc,hd];show wpAny M A (if(["enumerate","zip","dict_itemiterator","dict_reverseitemiterator","odict_iterator","itertools.zip_longest","itertools.pairwise"].contains n&&vs[0]? ==some (rawInt _))=true then _ else _) Q E s;rw[aK (by intro h;rw[hn,Bool.false_and]at h;cases h)];exact br hQ))
def jI(K:vG)(a:Addr):It:=⟨fun i H=>∃xs x,aj K H a xs/\xs[i]? =some x,fun i H x H'=>H'=H/\∀xs,aj K H a xs->xs[i]? =some x,fun i H=>∃xs,aj K H a xs/\xs.length<=i⟩
def cJ(lo:Int)(n:Nat):It:=⟨fun i _=>i<n,fun i H x H'=>H'=H/\x= .int (lo+i),fun i _=>n<=i⟩
theorem p6{P:vI}{w:World}{K:vG}{tg:Expr}(a it:Addr):Turn P w K tg (jI K a) [it] it (fun i h=>h.IsTupleIter it a i) where
 mem:=by simp
 obj:=fun i h st b hb=>by
  have e:b=it:=by simpa using hb
  subst e;obtain⟨o,e,c,d⟩:=st;exact⟨o,e,fun v z=>by rw[d]at z;cases z⟩
 keep:=fun i h h' st k=>st.at fun o e=>k it (by simp) o e
 item:=by intro X hP hw hK hc i pins s σ H E I hf st hg;subst hP hw hK;obtain⟨xs,x,hq,hx⟩:=hg;obtain⟨its,rv,p,hz⟩:=I.tuple hq;obtain⟨u,hu,ru⟩:=rv.get hx;obtain⟨f0,f1,f2,f3,f4,f5⟩:=hf it (by simp);refine wpAny_pyNext_tuple_item st (show s.heap.IsTuple a its.toArray from p) (x:=u) (by simpa using hu) fun h' fg sb=>?_;have I1:Inv X pins σ H {s with heap:=h'}:=I.turned (t':=s.toks) (fun b o hb e=>(sb.2 b hb).trans e) f0 f1 f3 f4 f5;obtain⟨o,e,c,d⟩:=id fg;exact⟨u,rfl,mJ (s:={s with heap:=h'}) e c d (by decide) ⟨x,H,I1,ru,⟨rfl,fun ys hy=>by rw[I.p8 hy hq];exact hx⟩,fg,fun b hb=>(hf b hb).1⟩⟩
 done:=by intro X hP hw hK hc i pins s σ H E I hf st hg;subst hP hw hK;obtain⟨xs,hq,hx⟩:=hg;obtain⟨its,rv,p,hz⟩:=I.tuple hq;obtain⟨f0,f1,f2,f3,f4,f5⟩:=hf it (by simp);have hl:=rv.length;exact wpAny_pyNext_tuple_end (I.ok.hd hc) st (show s.heap.IsTuple a its.toArray from p) (by simp;omega) fun h' eb=>⟨rfl,I.turned (t':=s.toks) (fun b o hb e=>eb b o hb e) f0 f1 f3 f4 f5⟩
 self:=fun _ _ _ _ _ st h=>wpAny_pyIter_tupleiter st h
theorem p7{P:vI}{w:World}{K:vG}{tg:Expr}(it:Addr)(lo:Int)(n:Nat):Turn P w K tg (cJ lo n) [it] it (fun i h=>IsRangeIter h it (lo+(i:Nat)*1) ((n:Int)-(i:Nat)) 1) where
 mem:=by simp
 obj:=fun i h st b hb=>by
  have e:b=it:=by simpa using hb
  subst e;exact⟨_,st,fun v z=>by have z':Data.fields _=Data.cell v:=z;cases z'⟩
 keep:=fun i h h' st k=>k it (by simp) _ st
 item:=by intro X hP hw hK hc i pins s σ H E I hf st hg;subst hP hw hK;obtain⟨f0,f1,f2,f3,f4,f5⟩:=hf it (by simp);have W:=Walks.range (prog:=X.prog) (w:=X.w) (I.ok.hd hc) it lo 1 n;refine W.item i s _ _ hg st fun v h' tk hv fg kk=>?_;obtain⟨t,rfl⟩:=hv;have I1:Inv X pins σ H {s with heap:=h',toks:=tk}:=I.turned (fun b o hb e=>kk b o (by simpa using hb) e) f0 f1 f3 f4 f5;refine⟨_,rfl,mJ (s:={s with heap:=h',toks:=tk}) (n:="range_iterator") fg rfl rfl (by decide) ⟨.int (lo+i),H,I1,⟨t,?_⟩,⟨rfl,rfl⟩,fg,fun b hb=>(hf b hb).1⟩⟩;rw[Int.mul_one]
 done:=by intro X hP hw hK hc i pins s σ H E I hf st hg;subst hP hw hK;obtain⟨f0,f1,f2,f3,f4,f5⟩:=hf it (by simp);exact wpAny_pyNext_range_end (I.ok.hd hc) st (by have:n<=i:=hg;omega) fun h' eb=>⟨rfl,I.turned (t':=s.toks) (fun b o hb e=>eb b o hb e) f0 f1 f3 f4 f5⟩
 self:=fun _ _ _ _ _ st h=>wpAny_pyIter_rangeiter st h
section
variable {X:Cx} {tg:Expr}
inductive oC(K:vG)(R:It->Hp->Prop)(x:V)(H1:Hp):Prop |mk (a:_)(h0:x= .ref a)(h1:(∃xs,aj K H1 a xs))(h2:R (jI K a) H1):oC K R x H1
def mm(K:vG)(tl:TE):TI:=fun σ H R=>tl σ H fun x H1=>oC K R x H1
theorem qA{l:Expr}{tl:TE}(hl:PE X l tl):PI X tg l (mm X.K tl):=by
 intro pins s σ H R I h;refine a9 (hl pins s σ H _ I h) fun v s1 ⟨x,H1,I1,r1,q1⟩=>?_;obtain⟨a,e,⟨xs,hq⟩,q⟩:=q1;subst e;cases r1;obtain⟨its,rv,p,hz⟩:=I1.tuple hq;refine wpAny_pyIter_tuple (show s1.heap.IsTuple a its.toArray from p) ?_;refine⟨s1.heap.objs.size,[s1.heap.objs.size],_,_,H1,rfl,I1.kept (t':=s1.toks) fun b o e=>bw _ e,p6 a _,⟨_,dk _ rfl,rfl,rfl⟩,fun b hb=>?_,q⟩;have e:b=s1.heap.objs.size:=by simpa using hb
 subst e;exact I1.gD (aw _) (I1.hok.fresh (aw _))
theorem qi{pins:List (Addr×Obj)}{σ:St}{H:Hp}{s:vH}{R:It->Hp->Prop}{E:Value->vH->Prop}{lo hi:Int}{t u v:Tok}{tk:Nat}(I:Inv X pins σ H s)(h1:-(2^62)<=lo)(h2:lo<2^62)(h3:-(2^62)<=hi)(h4:hi<2^62) (q:R (cJ lo (hi-lo).toNat) H):wpAny (model X.prog X.w) X.A (pyIter (.ref s.heap.objs.size)) (nJ X pins σ tg R) E {s with heap:=s.heap.push {cls:=.type "range",data:=.fields #[.int lo t,.int hi u,.int 1 v]},toks:=tk}:=by
  refine wpAny_pyIter_range (IsRange.new ..) (small_one h1 h2 h3 h4) ?_;have I1:Inv X pins σ H {s with heap:=s.heap.push {cls:=.type "range",data:=.fields #[.int lo t,.int hi u,.int 1 v]},toks:=tk}:=I.kept fun b o e=>bw _ e;refine⟨(s.heap.push {cls:=.type "range",data:=.fields #[.int lo t,.int hi u,.int 1 v]}).objs.size,[(s.heap.push {cls:=.type "range",data:=.fields #[.int lo t,.int hi u,.int 1 v]}).objs.size],_,_,H,rfl,I1.kept (t':=tk) fun b o e=>bw _ e,p7 _ lo (hi-lo).toNat,?_,fun b hb=>?_,q⟩
  · have e1:lo+((0:Nat):Int)*1=lo:=by simp
    have e2:(((hi-lo).toNat:Nat):Int)-((0:Nat):Int)=Builtin.Range.rangeSize lo hi 1:=by rw[rangeSize_one];split<;>omega
    show IsRangeIter _ _ (lo+((0:Nat):Int)*1) ((((hi-lo).toNat:Nat):Int)-((0:Nat):Int)) 1;rw[e1,e2];exact dk _ rfl
  · have e:b=(s.heap.push {cls:=.type "range",data:=.fields #[.int lo t,.int hi u,.int 1 v]}).objs.size:=by simpa using hb
    subst e;exact I1.gD (aw _) (I1.hok.fresh (aw _))
inductive oD(R:It->Hp->Prop)(vs:List V)(H1:Hp):Prop |mk (j:Int)(h0:vs=[.int j])(h1:-(2^62)<=j)(h2:j<2^62)(h3:R (cJ 0 j.toNat) H1):oD R vs H1
def sN(ta:TA):TI:=fun σ H R=>ta σ H fun vs H1=>oD R vs H1
theorem dP{a:Expr}{ta:TA}{p pos:Pos}(hg:Gl X "range")(hm:X.mg "range"=none)(ha:PA X [a] ta)(hs:starEach [a] X.env=[(false,eval a X.env)]:=by rfl):PI X tg (.Call (.Name "range" p) [a] [] pos) (sN ta):=by intro pins s σ H R I h;refine Call_ (fH I hg hm boot_range (oK (a9 (ha pos pins s σ H _ I h) fun us s1 ⟨vs,H1,I1,r1,q1⟩=>?_) hs rfl));obtain⟨j,e,q1,q2,q⟩:=q1;subst e;cases r1 with |cons r rr=>cases rr;obtain⟨t,rfl⟩:=r;exact call_range_1 (qi I1 (by omega) (by omega) q1 q2 (by simpa using q))
def pJ(wi:TI)(g:TG)(tb:TS):TS:=fun D σ H=>wi σ H fun J H1=>∃W:Nat->Nat->St->Hp->Prop,(∃m,W 0 m σ H1)/\∀i m σ H,W i m σ H->(J.stop i H/\D.nx σ H)\/(J.go i H/\∃N:St->Hp->Prop,(∀σ' H',N σ' H'->∃m',m'<m/\W (i+1) m' σ' H')/\∀x H',J.yld i H x H'->g x σ H' fun σ2 H2=>tb {D with nx:=N,ct:=N,bk:=D.nx} σ2 H2)
def eH(fp:List Addr)(h:Heap):List (Addr×Obj):=fp.filterMap fun b=>(h.get? b).map fun o=>(b,o)
theorem eL{fp:List Addr}{h:Heap}{b:Addr}{o:Obj}(hb:b∈fp)(e:h.get? b=some o):(b,o)∈eH fp h:=List.mem_filterMap.mpr ⟨b,hb,by rw[e];rfl⟩
theorem rJ{fp:List Addr}{h:Heap}{p:Addr×Obj}(hp:p∈eH fp h):p.1∈fp/\h.get? p.1=some p.2:=by obtain⟨b,hb,e⟩:=List.mem_filterMap.mp hp;cases q:h.get? b with |none=>rw[q]at e;cases e |some o=>rw[q]at e;have e':(b,o)=p:=cB e;subst e';exact⟨hb,q⟩
theorem Inv.pinned{pins:List (Addr×Obj)}{σ:St}{H:Hp}{s:vH}{fp:List Addr}(I:Inv X pins σ H s)(hf:∀b∈fp,bT X pins H b)(ho:∀b∈fp,∃o,s.heap.get? b=some o/\∀v,o.data≠ .cell v):Inv X (pins++eH fp s.heap) σ H s:=I.lC fun p hp=>(g5.mp hp).elim (fun z=>I.pin p (bU _ z)) fun z=>by obtain⟨hb,e⟩:=rJ z;obtain⟨f0,f1,f2,_⟩:=hf p.1 hb;obtain⟨o,e',d⟩:=ho p.1 hb;rw[e]at e';cases e';exact⟨e,f0,f1,f2,d⟩
theorem Inv.f7{pins pl:List (Addr×Obj)}{σ:St}{H:Hp}{s:vH}(I:Inv X (pins++pl) σ H s):Inv X pins σ H s:=I.lC fun p hp=>I.pin p (bU _ (List.mem_append_left _ hp))
theorem iL{iter:Expr}{body:List Stmt}{wi:TI}{g:TG}{tb:TS}{pos:Pos}(hp:PassesOwn (model X.prog X.w) X.A X.env X.xe)(hc:X.calm=true)(hi:PI X tg iter wi)(hg:PG X tg g)(hb:bG X body tb) (hs:∀x,foldedSetIterable iter X.env x=pure x:=by intro _;rfl):PS X (.For tg iter body [] pos) (pJ wi g tb):=by
  intro pins s σ H D I h;refine wpAny_For (a9 (hi pins s σ H _ I h) fun v s1 h1=>a9 h1 fun gy s2 h2=>?_) hs;obtain⟨it,fp,tn,J,H2,e,I2,T,dN,f2,W,⟨m0,w0⟩,turn⟩:=h2;subst e;have ck:∀{H':Hp},(∀b∈fp,H' b=none)->∀b∈fp,bT X pins H' b:=fun hn b hb=>⟨hn b hb,(f2 b hb).2⟩;refine codeAny_forLoop_any (fun n s'=>∃i σ' H',Inv X pins σ' H' s'/\tn i s'.heap/\(∀b∈fp,H' b=none)/\W i n σ' H') ?_ m0 ⟨0,σ,H2,I2,dN,fun b hb=>(f2 b hb).1,w0⟩;rintro n s3 ⟨i,σ3,H3,I3,ke,mO,w3⟩;rcases turn i n σ3 H3 w3 with⟨stop,qn⟩|⟨go,N,hN,step⟩
  · refine eV hp (a9 (T.done X rfl rfl rfl hc i pins s3 σ3 H3 X.xe I3 (ck mO) ke stop) fun r s4 ⟨hr,I4⟩=>?_)
    subst hr;exact jN ⟨σ3,H3,I4,qn⟩
  · refine eV hp (a9 (T.item X rfl rfl rfl hc i pins s3 σ3 H3 X.xe I3 (ck mO) ke go) fun r s4 ⟨u,hr,h4⟩=>?_)
    subst hr;refine eV hp (a9 h4 fun _ s5 ⟨x,H5,I5,r5,y5,cN,dZ⟩=>?_);have uZ:=I5.pinned (ck dZ) (T.obj _ _ cN);refine eV hp (a9 (hg _ s5 σ3 H5 x u _ uZ r5 (step x H5 y5)) fun _ s6 ⟨σ6,H6,I6,q6⟩=>?_);refine eV hp (a9 (hb _ s6 σ6 H6 _ I6 q6) fun f s7 q7=>?_);have again:∀{σ7:St}{H7:Hp},Inv X (pins++eH fp s5.heap) σ7 H7 s7->N σ7 H7->∃m,m<n/\∃i σ' H',Inv X pins σ' H' s7/\tn i s7.heap/\(∀b∈fp,H' b=none)/\W i m σ' H':=fun{σ7 H7} I7 n7=>by obtain⟨m',hm,w7⟩:=hN σ7 H7 n7;refine⟨m',hm,i+1,σ7,H7,I7.f7,T.keep _ _ _ cN fun b hb o e=>(I7.pin (b,o) (bU _ (bU _ (eL hb e)))).1,fun b hb=>?_,w7⟩;obtain⟨o,e,d⟩:=T.obj _ _ cN b hb;exact(I7.pin (b,o) (bU _ (bU _ (eL hb e)))).2.1
    cases f with |next=>obtain⟨σ7,H7,I7,n7⟩:=q7;exact again I7 n7 |cont=>obtain⟨σ7,H7,I7,n7⟩:=q7;exact again I7 n7 |brk=>obtain⟨σ7,H7,I7,q7⟩:=q7;exact⟨σ7,H7,I7.f7,q7⟩ |ret v=>obtain⟨x7,σ7,H7,I7,r7,q7⟩:=q7;exact⟨x7,σ7,H7,I7.f7,r7,q7⟩
end
theorem jl{lo:Int}{n:Nat}{g:TG}{tb:TS}{D:Ends}{σ:St}{H:Hp}(Pv:Nat->St->Hp->Prop)(h0:Pv 0 σ H) (hs:∀i σ H,i<n->Pv i σ H->g (.int (lo+i)) σ H fun σ2 H2=>tb {D with nx:=Pv (i+1),ct:=Pv (i+1),bk:=D.nx} σ2 H2)(hd:∀σ H,Pv n σ H->D.nx σ H): ∃W:Nat->Nat->St->Hp->Prop,(∃m,W 0 m σ H)/\∀i m σ H,W i m σ H->((cJ lo n).stop i H/\D.nx σ H)\/((cJ lo n).go i H/\∃N:St->Hp->Prop,(∀σ' H',N σ' H'->∃m',m'<m/\W (i+1) m' σ' H')/\∀x H',(cJ lo n).yld i H x H'->g x σ H' fun σ2 H2=>tb {D with nx:=N,ct:=N,bk:=D.nx} σ2 H2):=by
  refine⟨fun i m σ H=>m=n-i/\i<=n/\Pv i σ H,⟨n,by simp,eW _,h0⟩,?_⟩;rintro i m σ H ⟨rfl,hi,p⟩;by_cases bh:i<n
  · refine .inr ⟨bh,Pv (i+1),fun σ' H' p'=>⟨n-(i+1),by omega,rfl,bh,p'⟩,fun x H' y=>?_⟩
    obtain⟨e,y⟩:=y;subst e y;exact hs i σ _ bh p
  · have e:i=n:=by omega
    subst e;exact .inl ⟨aw _,hd σ H p⟩
theorem gY{c:TT}{tb:TS}{D:Ends}{σ:St}{H:Hp}(Pv:St->Hp->Prop)(μ:St->Hp->Nat)(h0:Pv σ H) (hs:∀σ H,Pv σ H->c σ H fun b H1=>if b=true then tb {D with nx:=fun σ' H'=>Pv σ' H'/\μ σ' H'<μ σ H,ct:=fun σ' H'=>Pv σ' H'/\μ σ' H'<μ σ H,bk:=D.nx} σ H1 else D.nx σ H1) (mono:∀σ H Q Q',(∀b H1,Q b H1->Q' b H1)->c σ H Q->c σ H Q'):k6 c tb D σ H:=by refine⟨fun m σ H=>m=μ σ H/\Pv σ H,⟨_,rfl,h0⟩,?_⟩;rintro m σ H ⟨rfl,p⟩;refine mono σ H _ _ (fun b H1 q=>?_) (hs σ H p);cases b with |true=>exact⟨_,fun σ' H' ⟨p',l⟩=>⟨_,l,rfl,p'⟩,q⟩ |false=>exact q
abbrev R2:=V->V->Hp->VK->Prop
def aC(X:Cx)(f:Value->Value->Sem Value)(r:R2):Prop:=∀(pins:List (Addr×Obj))(s:vH)(σ:St)(H:Hp)(x y:V)(v u:Value)(Q:VK),Inv X pins σ H s->RelV x v->RelV y u->r x y H Q->wpAny (model X.prog X.w) X.A (f v u) (EP X pins σ Q) X.xe s
def jB(X:Cx)(f:Value->Sem Value)(r:V->Hp->VK->Prop):Prop:=∀(pins:List (Addr×Obj))(s:vH)(σ:St)(H:Hp)(x:V)(v:Value)(Q:VK),Inv X pins σ H s->RelV x v->r x H Q->wpAny (model X.prog X.w) X.A (f v) (EP X pins σ Q) X.xe s
def aX(X:Cx)(f:Value)(r:List V->Hp->VK->Prop):Prop:=∀(pins:List (Addr×Obj))(s:vH)(σ:St)(H:Hp)(xs:List V)(us:List Value)(Q:VK),Inv X pins σ H s->Vals xs us->r xs H Q->wpAny (model X.prog X.w) X.A (call f us) (EP X pins σ Q) X.xe s
def fc(r:R2)(ta tb:TE):TE:=fun σ H Q=>ta σ H fun x H1=>tb σ H1 fun y H2=>r x y H2 Q
def pg(r:V->Hp->VK->Prop)(ta:TE):TE:=fun σ H Q=>ta σ H fun x H1=>r x H1 Q
inductive oy(C:Int->Int->Prop)(g:Int->Int->V)(x:V)(y:V)(H:Hp)(Q:VK):Prop |mk (i:_)(j:_)(h0:x= .int i)(h1:y= .int j)(h2:C i j)(h3:Q (g i j) H):oy C g x y H Q
def rI(C:Int->Int->Prop)(g:Int->Int->V):R2:=fun x y H Q=>oy C g x y H Q
inductive ox(g:Int->Int->V)(x:V)(y:V)(H:Hp)(Q:VK):Prop |mk (i:_)(j:_)(h0:x= .int i)(h1:y= .int j)(h2:Q (g i j) H):ox g x y H Q
def bK(g:Int->Int->V):R2:=fun x y H Q=>ox g x y H Q
inductive og(g:Int->V)(x:V)(H:Hp)(Q:VK):Prop |mk (i:_)(h0:x= .int i)(h1:Q (g i) H):og g x H Q
def rU(g:Int->V):V->Hp->VK->Prop:=fun x H Q=>og g x H Q
section
variable {X:Cx}{a b c:Expr}{ta tb tc:TE}{pos:Pos}
theorem jv(ha:PE X a ta)(hb:PE X b tb){pins:List (Addr×Obj)}{s:vH}{σ:St}{H:Hp}{R:V->V->Hp->Prop}(I:Inv X pins σ H s) (h:ta σ H fun x H1=>tb σ H1 fun y H2=>R x y H2){Q:Value->vH->Prop}{f:Value->Value->Sem Value} (hf:∀v u s2 x y H2,Inv X pins σ H2 s2->RelV x v->RelV y u->R x y H2->wpAny (model X.prog X.w) X.A (f v u) Q X.xe s2): wpAny (model X.prog X.w) X.A (eval a X.env) (fun v s₁=>wpAny (model X.prog X.w) X.A (eval b X.env) (fun u s₂=>wpAny (model X.prog X.w) X.A (f v u) Q X.xe s₂) X.xe s₁) X.xe s:=by refine a9 (ha pins s σ H _ I h) fun v s1 ⟨x,H1,I1,r1,q1⟩=>?_;refine a9 (hb pins s1 σ H1 _ I1 q1) fun u s2 ⟨y,H2,I2,r2,q2⟩=>?_;exact hf v u s2 x y H2 I2 r1 r2 q2
theorem ae{op:Operator}{r:R2}(ho:aC X (binaryOp op) r)(ha:PE X a ta)(hb:PE X b tb):PE X (.BinOp a op b pos) (fc r ta tb):=by intro pins s σ H Q I h;exact wpAny_BinOp (jv ha hb I h fun v u s2 x y H2 I2 rx ry q=>ho pins s2 σ H2 x y v u Q I2 rx ry q)
theorem qE{op:UnaryOp}{r:V->Hp->VK->Prop}(ho:jB X (unaryOp op) r)(ha:PE X a ta):PE X (.UnaryOp op a pos) (pg r ta):=by intro pins s σ H Q I h;exact UnaryOp_ (a9 (ha pins s σ H _ I h) fun v s1 ⟨x,H1,I1,r1,q1⟩=>ho pins s1 σ H1 x v Q I1 r1 q1)
theorem dS{f:Value->Value->Sem Value}{C:Int->Int->Prop}{g:Int->Int->Int} (rule:∀(i j:Int)(t u:Tok)(s:vH)(Q:Value->vH->Prop)(E:Value->vH->Prop),C i j->Q (.int (g i j) s.toks) {s with toks:=s.toks+1}->wpAny (model X.prog X.w) X.A (f (.int i t) (.int j u)) Q E s): aC X f (rI C fun i j=>.int (g i j)):=by intro pins s σ H x y v u Q I rx ry h;obtain⟨i,j,rfl,rfl,hc,q⟩:=h;obtain⟨t,rfl⟩:=rx;obtain⟨t',rfl⟩:=ry;exact rule i j t t' s _ _ hc ⟨.int (g i j),H,I.tok _,⟨_,rfl⟩,q⟩
theorem lL{f:Value->Value->Sem Value}{g:Int->Int->Int} (rule:∀(i j:Int)(t u:Tok)(s:vH)(Q:Value->vH->Prop)(E:Value->vH->Prop),Q (.int (g i j) s.toks) {s with toks:=s.toks+1}->wpAny (model X.prog X.w) X.A (f (.int i t) (.int j u)) Q E s): aC X f (bK fun i j=>.int (g i j)):=by intro pins s σ H x y v u Q I rx ry h;obtain⟨i,j,rfl,rfl,q⟩:=h;obtain⟨t,rfl⟩:=rx;obtain⟨t',rfl⟩:=ry;exact rule i j t t' s _ _ ⟨.int (g i j),H,I.tok _,⟨_,rfl⟩,q⟩
theorem fx{f:Value->Value->Sem Value}{g:Int->Int->Bool} (rule:∀(i j:Int)(t u:Tok)(s:vH)(Q:Value->vH->Prop)(E:Value->vH->Prop),Q (.bool (g i j)) s->wpAny (model X.prog X.w) X.A (f (.int i t) (.int j u)) Q E s): aC X f (bK fun i j=>.bl (g i j)):=by intro pins s σ H x y v u Q I rx ry h;obtain⟨i,j,rfl,rfl,q⟩:=h;obtain⟨t,rfl⟩:=rx;obtain⟨t',rfl⟩:=ry;exact rule i j t t' s _ _ ⟨.bl (g i j),H,I,rfl,q⟩
def oH(i j:Int):Prop:=0<=j/\j<=1000000/\i.natAbs<2^64
theorem bA:aC X (binaryOp .Add) (bK fun i j=>.int (i+j)):=lL fun _ _ _ _ _ _ _ q=>add_int q
theorem fu:aC X (binaryOp .Sub) (bK fun i j=>.int (i-j)):=lL fun _ _ _ _ _ _ _ q=>sub_int q
theorem dR:aC X (binaryOp .Mod) (rI (fun _ j=>0<j) fun i j=>.int (i%j)):=dS fun i j _ _ _ _ _ hc q=>by have h1:(0:Int)<j:=hc;exact mod_int' (by omega) (by rw[Int.fmod_eq_emod_of_nonneg i (by omega)];exact q)
theorem qU:aC X (binaryOp .Mod) (rI (fun _ j=>j≠0) fun i j=>.int (i.fmod j)):=dS fun _ _ _ _ _ _ _ hc q=>mod_int' hc q
theorem fw:aC X (binaryOp .Pow) (rI oH fun i j=>.int (i^j.toNat)):=dS fun _ _ _ _ _ _ _ hc q=>pow_int_small hc.1 hc.2.1 hc.2.2 q
theorem qQ:aC X (binaryOp .LShift) (rI oH fun i j=>.int (i*2^j.toNat)):=dS fun _ _ _ _ _ _ _ hc q=>lshift_int_small hc.1 hc.2.1 hc.2.2 q
theorem oY{f:Value->Sem Value}{g:Int->Int} (rule:∀(i:Int)(t:Tok)(s:vH)(Q:Value->vH->Prop)(E:Value->vH->Prop),Q (.int (g i) s.toks) {s with toks:=s.toks+1}->wpAny (model X.prog X.w) X.A (f (.int i t)) Q E s): jB X f (rU fun i=>.int (g i)):=by intro pins s σ H x v Q I rx h;obtain⟨i,rfl,q⟩:=h;obtain⟨t,rfl⟩:=rx;exact rule i t s _ _ ⟨.int (g i),H,I.tok _,⟨_,rfl⟩,q⟩
theorem oX:jB X (unaryOp .USub) (rU fun i=>.int (-i)):=oY fun _ _ _ _ _ q=>neg_int q
end
def pU:V->V->Bool | .aE,.aE=>true| .aE,.int _=>true| .int _,.aE=>true| .aE,.bl _=>true| .bl _,.aE=>true| .aE,.str _=>true| .str _,.aE=>true | .int _,.int _=>true| .bl _,.bl _=>true| .str _,.str _=>true| .da _,.da _=>true | .int _,.str _=>true| .str _,.int _=>true| .bl _,.str _=>true| .str _,.bl _=>true |_,_=>false
def qo:R2:=fun x y H Q=>pU x y=true/\Q (.bl (decide (x=y))) H
theorem uw{i j:Int}:decide (V.int i=V.int j)=(i==j):=by rw[gW];simp
theorem uy{i j:Bool}:decide (V.bl i=V.bl j)=(i==j):=by rw[gW];simp
theorem uv{i j:Str}:decide (V.str i=V.str j)=(i==j):=by rw[gW];simp
theorem ux{i j:Array UInt8}:decide (V.da i=V.da j)=(i.toList==j.toList):=by rw[gW];cases i;cases j;simp
section
variable {X:Cx}{a b c:Expr}{ta tb tc:TE}{pos:Pos}
theorem bq{pins:List (Addr×Obj)}{σ:St}{H:Hp}{s:vH}{Q:VK}{k k':Bool}(I:Inv X pins σ H s)(q:Q (.bl k) H)(e:k=k'):EP X pins σ Q (.bool k') s:=by subst e;exact⟨.bl k,H,I,rfl,q⟩
theorem r0:aC X (compareOp .Eq) qo:=by intro pins s σ H x y v u Q I rx ry h;obtain⟨hs,q⟩:=h;cases x with
 |aE=>cases rx;cases y with |aE=>cases ry;exact PySem.EqNone.eq_none_none (bq I q (by simp)) |bl j=>cases ry;exact PySem.EqNone.eq_none_bool (bq I q (by simp)) |int j=>obtain⟨t',rfl⟩:=ry;exact PySem.EqNone.eq_none_int (bq I q (by simp)) |str j=>obtain⟨t',rfl⟩:=ry;exact PySem.EqNone.eq_none_str (bq I q (by simp)) |_=>exact absurd (show false=true from hs) cf
 |bl i=>cases rx;cases y with |aE=>cases ry;exact PySem.EqNone.eq_bool_none (bq I q (by simp)) |bl j=>cases ry;exact eq_bool (bq I q uy) |str j=>obtain⟨t',rfl⟩:=ry;exact PySem.EqMixed.eq_bool_str (bq I q (by simp)) |_=>exact absurd (show false=true from hs) cf
 |int i=>obtain⟨t,rfl⟩:=rx;cases y with |aE=>cases ry;exact PySem.EqNone.eq_int_none (bq I q (by simp)) |int j=>obtain⟨t',rfl⟩:=ry;exact eq_int (bq I q uw) |str j=>obtain⟨t',rfl⟩:=ry;exact PySem.EqMixed.eq_int_str (bq I q (by simp)) |_=>exact absurd (show false=true from hs) cf
 |str i=>obtain⟨t,rfl⟩:=rx;cases y with |aE=>cases ry;exact PySem.EqNone.eq_str_none (bq I q (by simp)) |bl j=>cases ry;exact PySem.EqMixed.eq_str_bool (bq I q (by simp)) |int j=>obtain⟨t',rfl⟩:=ry;exact PySem.EqMixed.eq_str_int (bq I q (by simp)) |str j=>obtain⟨t',rfl⟩:=ry;exact eq_str (bq I q uv) |_=>exact absurd (show false=true from hs) cf
 |da i=>obtain⟨t,rfl⟩:=rx;cases y with |da j=>obtain⟨t',rfl⟩:=ry;exact PySem.W.eq_bytes (bq I q ux) |_=>exact absurd (show false=true from hs) cf
 |_=>cases y<;>exact absurd (show false=true from hs) cf
theorem eK:aC X (compareOp .Lt) (bK fun i j=>.bl (decide (i<j))):=fx fun _ _ _ _ _ _ _ q=>lt_int q
theorem qV:aC X (compareOp .Gt) (bK fun i j=>.bl (decide (j<i))):=fx fun _ _ _ _ _ _ _ q=>gt_int q
theorem qW:aC X (compareOp .GtE) (bK fun i j=>.bl (decide (j<=i))):=fx fun _ _ _ _ _ _ _ q=>ge_int q
theorem aC.or{f:Value->Value->Sem Value}{r r':R2}(h:aC X f r)(h':aC X f r'):aC X f (fun x y H Q=>r x y H Q\/r' x y H Q):=by
 intro pins s σ H x y v u Q I rx ry q;rcases q with q|q
 ·exact h pins s σ H x y v u Q I rx ry q
 ·exact h' pins s σ H x y v u Q I rx ry q
theorem aN(b:Expr){op:CmpOp}(h:op≠ .In:=by decide)(h2:op≠ .NotIn:=by decide):behindInMarks op b=false:=by
 have e1:(op==CmpOp.In)=false:=by cases op<;>first|rfl|exact absurd rfl h
 have e2:(op==CmpOp.NotIn)=false:=by cases op<;>first|rfl|exact absurd rfl h2
 cases b<;>simp[behindInMarks,e1,e2]
theorem lF{op:CmpOp}{r:R2}(ho:aC X (compareOp op) r)(ha:PE X a ta)(hb:PE X b tb)(hm:behindInMarks op b=false):PE X (.Compare a [op] [b] pos) (fc r ta tb):=by intro pins s σ H Q I h;exact wpAny_Compare1 (jv ha hb I h fun v u s2 x y H2 I2 rx ry q=>ho pins s2 σ H2 x y v u Q I2 rx ry q) hm
inductive nM(Q:Bool->Hp->Prop)(x:V)(H':Hp):Prop |mk (k:_)(h0:x= .bl k)(h1:Q k H'):nM Q x H'
def pj(t:TE):TT:=fun σ H Q=>t σ H fun x H'=>nM Q x H'
theorem aQ{op:CmpOp}{r:R2}(ho:aC X (compareOp op) r)(ha:PE X a ta)(hb:PE X b tb)(hm:behindInMarks op b=false):PT X (.Compare a [op] [b] pos) (pj (fc r ta tb)):=by intro pins s σ H Q I h;refine wpAny_isTrue_Compare1 (a9 (ha pins s σ H _ I h) fun v s1 ⟨x,H1,I1,r1,q1⟩=>a9 (hb pins s1 σ H1 _ I1 q1) fun u s2 ⟨y,H2,I2,r2,q2⟩=>a9 (ho pins s2 σ H2 x y v u _ I2 r1 r2 q2) fun c s3 ⟨z,H3,I3,r3,k,e,q3⟩=>?_) hm;subst e;cases r3;exact wpAny_truthy_bool ⟨H3,I3,q3⟩
theorem fG:(sizeLine:Nat)<2^63:=by rw[sizeLine_eq];decide
theorem c4:aC X (binaryOp .Add) (fun x y H Q=>∃i j,x= .str i/\y= .str j/\i.length+j.length<=sizeLine/\Q (.str (i++j)) H):=by intro pins s σ H x y v u Q I rx ry h;obtain⟨i,j,rfl,rfl,hz,q⟩:=h;obtain⟨t,rfl⟩:=rx;obtain⟨t',rfl⟩:=ry;exact add_str (fun t' tk=>⟨.str (i++j),H,I.tok _,⟨_,rfl⟩,q⟩) hz
theorem vals1{x:V}{us:List Value}(r:Vals [x] us):∃u,us=[u]/\RelV x u:=by cases r with |cons r1 r2=>cases r2;exact⟨_,rfl,r1⟩
theorem vals2{x y:V}{us:List Value}(r:Vals [x,y] us):∃u w',us=[u,w']/\RelV x u/\RelV y w':=by cases r with |cons r1 r2=>cases r2 with |cons r3 r4=>cases r4;exact⟨_,_,rfl,r1,r3⟩
theorem gG:aX X (.builtin "abs") (fun xs H Q=>∃i,xs=[.int i]/\Q (.int (if i<0 then-i else i)) H):=by intro pins s σ H xs us Q I r h;obtain⟨i,rfl,q⟩:=h;obtain⟨u,rfl,t,rfl⟩:=vals1 r;exact call_abs_int fun u tk=>⟨.int (if i<0 then-i else i),H,I.tok _,⟨_,rfl⟩,q⟩
theorem nh(hc:X.calm=true):aX X (.builtin "max") (fun xs H Q=>∃i j,xs=[.int i,.int j]/\Q (.int (if j>i then j else i)) H):=by
 intro pins s σ H xs us Q I r h;obtain⟨i,j,rfl,q⟩:=h;obtain⟨u,w',rfl,⟨t,rfl⟩,⟨t',rfl⟩⟩:=vals2 r;refine max_two_ints (I.ok.hd hc) fun h' tk k=>⟨_,H,I.kept k,?_,q⟩;by_cases hj:j>i
 ·rw[aD hj,aD hj];exact⟨_,rfl⟩
 ·rw[aK hj,aK hj];exact⟨_,rfl⟩
theorem ng(hc:X.calm=true):aX X (.builtin "min") (fun xs H Q=>∃i j,xs=[.int i,.int j]/\Q (.int (if j<i then j else i)) H):=by
 intro pins s σ H xs us Q I r h;obtain⟨i,j,rfl,q⟩:=h;obtain⟨u,w',rfl,⟨t,rfl⟩,⟨t',rfl⟩⟩:=vals2 r;refine min_two_ints (I.ok.hd hc) fun h' tk k=>⟨_,H,I.kept k,?_,q⟩;by_cases hj:j<i
 ·rw[aD hj,aD hj];exact⟨_,rfl⟩
 ·rw[aK hj,aK hj];exact⟨_,rfl⟩
end
end L2
namespace L2
open PySem PySem.Spec PyProof.Rows
section
variable {prog:vI}{w:World}{A:vK}{E:Value->vH->Prop}{s:vH}{K:vG}{x dx C f:Addr}{mA:Str->Option Value}{name:Str}{v:Value}
end
section
variable {P:vI}{w:World}{H H':Hp}{h h':Heap}{a C dx:Addr}{fs uk:List (Str×V)}
end
section
variable {X:Cx}{pins:List (Addr×Obj)}{σ:St}{H:Hp}{s:vH}{a C dx:Addr}{fs:List (Str×V)}{f:Str}{v:V}{A:vK}{E:Value->vH->Prop}
end
section
variable {X:Cx}{o e value:Expr}{f:Str}{pos pos' vc:Pos}{ta tv:TE}
end
section
variable {X:Cx}{pins:List (Addr×Obj)}{σ:St}{H:Hp}{s:vH}{A:vK}{E:Value->vH->Prop}{Q:Value->vH->Prop}{c:Value}{b:Bool}
end
end L2
namespace L2
open PySem PySem.Spec PyProof.Rows
structure aV(k:Nat)(A:vK):Prop where
 hd:A.handled=none
 dp:A.depth+3*k+5<recursionLimit
 un:A.units+16*k+200<cLine
theorem aV.mono{j k:Nat}{A:vK}(r:aV k A)(h:j<=k):aV j A:=⟨r.hd,by have:=r.dp;omega,by have:=r.un;omega⟩
theorem aV.deeper{k:Nat}{A:vK}(r:aV (k+1) A)(env:Env):aV k (A.deeper env):=⟨r.hd,by have:=r.dp;show A.depth+1+3*k+5<_;omega,by have:=r.un;show A.units+3+16*k+200<_;omega⟩
theorem aV.depth{k:Nat}{A:vK}(r:aV k A):A.depth<recursionLimit:=by have:=r.dp;omega
theorem aV.units{k:Nat}{A:vK}(r:aV k A):A.units+64<cLine:=by have:=r.un;omega
def pC:TA:=fun _ H Q=>Q [] H
def pL(ta:TE)(tr:TA):TA:=fun σ H Q=>ta σ H fun x H1=>tr σ H1 fun xs H2=>Q (x::xs) H2
section
variable {X:Cx}{e:Expr}{es:List Expr}{te:TE}{t:TA}{pos:Pos}
theorem a7:PA X [] pC:=fun _ _ _ _ H Q I h=>Calls.spliced_nil ⟨[],H,I,.nil,h⟩
theorem a6(ha:PE X e te)(hr:PA X es t)(hs:starEach (e::es) X.env=(false,eval e X.env)::starEach es X.env:=by rfl):PA X (e::es) (pL te t):=by intro pos pins s σ H Q I h;rw[hs];show wpAny _ _ (spliced ((false,eval e X.env)::backTo pos (starEach es X.env))) _ _ s;refine Calls.spliced_cons (a9 (ha pins s σ H _ I h) fun u s1 ⟨x,H1,I1,r1,q1⟩=>?_);exact a9 (hr pos pins s1 σ H1 _ I1 q1) fun us s2 ⟨xs,H2,I2,r2,q2⟩=>⟨x::xs,H2,I2,.cons r1 r2,q2⟩
end
abbrev Sp:=List V->Hp->VK->XK->Prop
abbrev cz:=List Env->Hp->vH->XK->Value->vH->Prop
structure gO(P:vI)(w:World)(K:vG)(mg:Str->Option Value)(base:Heap)(A:vK)(outer:List Env)(s:vH)(H:Hp):Prop where
 frames:A.frames=some outer
 mod:Mod K mg base
 bs:∀b o,base.get? b=some o->s.heap.get? b=some o/\H b=none
 bsz:base.objs.size<=s.heap.objs.size
 c8:s.heap.FunFrames base outer
 frf:∀b∈bF outer,H b=none
 hok:aI P w H s.heap
 bare:AllBare s.gens
def CE(outer:List Env)(P:vI)(w:World)(H:Hp)(s:vH)(Q:VK)(u:Value)(s':vH):Prop:=∃v H',s'.os=s.os/\AllBare s'.gens/\Un (bF outer) [] H H' s.heap s'.heap/\aI P w H' s'.heap/\RelV v u/\Q v H'
def CR(CX:cz)(outer:List Env)(P:vI)(w:World)(H:Hp)(s:vH)(Q:VK)(E:XK)(r:Result)(s':vH):Prop:=match r with | .ok (.ret u)=>CE outer P w H s Q u s' | .ok _=>False | .error e=>CX outer H s E e s'
structure cK(P:vI)(w:World)(K:vG)(mg:Str->Option Value)(base:Heap)(CX:cz)(k:Nat)(f:Addr)(fd:FuncData)(ps:List Str)(sp:Sp):Prop where
 len:∀vs H Q E,sp vs H Q E->vs.length=ps.length
 run:∀(A:vK)(outer:List Env)(s:vH)(H:Hp)(args:Args)(us:List Value)(vs:List V)(Q:VK)(E:XK),aV k A->gO P w K mg base A outer s H->BindsTo s fd args (ps.zip us)->Vals vs us->sp vs H Q E->codeAny (model P w) A (.call (.ref f) args) (CR CX outer P w H s Q E) s
section
variable {X:Cx}{pins:List (Addr×Obj)}{σ:St}{H:Hp}{s s':vH}
theorem Inv.ur(I:Inv X pins σ H s):gO X.prog X.w X.K X.mg X.base X.A X.stack s H:=⟨I.ok.frames,I.ok.mod,I.bs,dD I.ok.bsz I.sz,I.stack,I.kc,I.hok,I.bare⟩
theorem Inv.after{Q:VK}{u:Value}(I:Inv X pins σ H s)(h:CE X.stack X.prog X.w H s Q u s'):EP X pins σ Q u s':=by obtain⟨v,H',os,bare,un,hok,r,q⟩:=h;obtain⟨hh,g,d,t,qP⟩:=s';obtain rfl:qP=s.os:=os;exact⟨v,H',I.call (h':=hh) (g':=g) (d':=d) (t':=t) (ch:=[]) un hok bare (fun b z=>absurd z (by simp)),r,q⟩
end
def pM(sp:Sp)(dB:List V)(E:XK)(t:TA):TE:=fun σ H Q=>t σ H fun vs H1=>sp (vs++dB) H1 Q E
def Binds(K:vG)(fd:FuncData)(ps:List Str)(ds:List Value):Prop:=∀(s:vH)(us:List Value),K.In s.heap->(us++ds).length=ps.length->BindsTo s fd ⟨us,[]⟩ (ps.zip (us++ds))
theorem Binds.all{K:vG}{fd:FuncData}{ps:List Str}(h:∀us:List Value,us.length=ps.length->bindArgs fd ⟨us,[]⟩=pure (ps.zip us)):Binds K fd ps []:=fun s us _ hl=>by rw[List.append_nil]at hl⊢;exact .of_eq (h us hl)
def Passes(CX:cz)(X:Cx)(E:XK):Prop:=∀(pins:List (Addr×Obj))(σ:St)(H:Hp)(s:vH)(e:Value)(s':vH),Inv X pins σ H s->CX X.stack H s E e s'->X.xe e s'
section
variable {X:Cx}{CX:cz}{k:Nat}{f C:Addr}{fd:FuncData}{ps:List Str}{sp:Sp}{dB:List V}{ds:List Value}{E:XK}{x m:Str}{p pos apos:Pos}{e o:Expr}{es:List Expr}{ta:TE}{t:TA}
theorem qf{pins:List (Addr×Obj)}{σ:St}{H:Hp}{s:vH}{Q:VK}{us:List Value}{vs:List V}(F:cK X.prog X.w X.K X.mg X.base CX k f fd ps sp)(hr:aV k X.A)(hb:Binds X.K fd ps ds)(hd:Vals dB ds)(hx:Passes CX X E) (I:Inv X pins σ H s)(r:Vals vs us)(h:sp (vs++dB) H Q E):wpAny (model X.prog X.w) X.A (call (.ref f) us) (EP X pins σ Q) X.xe s:=by
  have r2:Vals (vs++dB) (us++ds):=r.append hd;have hl:(us++ds).length=ps.length:=by rw[<-r2.length];exact F.len _ _ _ _ h
  refine wpAny_call (codeAny_mono (F.run X.A X.stack s H ⟨us,[]⟩ (us++ds) (vs++dB) Q E hr I.ur (hb s us I.dz hl) r2 h) fun r s' hq=>?_);cases r with |error e=>exact hx pins σ H s e s' I hq |ok fl=>cases fl with |ret u=>exact I.after hq |next=>exact False.elim hq |brk=>exact False.elim hq |cont=>exact False.elim hq
theorem qI(F:cK X.prog X.w X.K X.mg X.base CX k f fd ps sp)(hr:aV k X.A)(hg:Gl X x)(hm:X.mg x=some (.ref f))(hk:PySem.W.keepIn X.K (.ref f)=true)(hb:Binds X.K fd ps ds)(hd:Vals dB ds)(hx:Passes CX X E) (ha:PA X (e::es) t)(cY:(x==("__debug__":Str))=false:=by decide)(he:starEach (e::es) X.env=(false,eval e X.env)::starEach es X.env:=by rfl)(bD:(backTo pos (starEach es X.env)).any (·.1)=false:=by rfl): PE X (.Call (.Name x p) (e::es) [] pos) (pM sp dB E t):=by intro pins s σ H Q I h;refine wpAny_Call_Name_kw (m7 I hg hm ?_ cY);refine PySem.W.callWith_K (h₀:=X.base) I.ok.mod.kin hk (a9 (ha pos pins s σ H _ I h) fun us s1 ⟨vs,H1,I1,r,q⟩=>⟨I1.dz,?_⟩) he bD;exact qf F hr hb hd hx I1 r q
end
section
variable {X:Cx}{CX:cz}{k:Nat}{f C:Addr}{fd:FuncData}{ps ks:List Str}{sp:Sp}{E:XK}{x m:Str}{p pos apos vm:Pos}{e o:Expr}{es:List Expr}{vl:List Keyword}{te ta:TE}{t tk:TA}{nm:Option Str}
variable {g:List Value->List Value->List Value}{gV:List V->List V->List V}
end
structure aJ(N P:List Str)(sc:Scope):Prop where
 kind:sc.kind= .function
 co:sc.isCoroutine=false
 gen:sc.isGenerator=false
 nd:N.Nodup
 pre:N.take P.length=P
 par:∀x∈P,sc.names.lookup x=some .local\/sc.names.lookup x=some .cell
 nofree:∀y∈sc.names,y.2≠ .free
theorem nk{kindOf:Str->Option NameKind}{x:Str}:∀{binds:List (Str×Value)}{m:Str->Option Value},(∀v,(x,v)∉binds)->bindL kindOf binds m x=m x
  |[],_,_=>rfl |(n,v)::r,m,h=>by
    unfold bindL;rw[nk fun w hw=>h w (gT _ hw)];split
    · have:x≠n:=by rintro rfl;exact h v jU
      simp[this]
    ·rfl
theorem nr{kindOf:Str->Option NameKind}{x:Str}:∀{binds:List (Str×Value)}{m:Str->Option Value},(∀v,(x,v)∉binds)->bindC kindOf binds m x=m x
  |[],_,_=>rfl |(n,v)::r,m,h=>by
    unfold bindC;rw[nr fun w hw=>h w (gT _ hw)];split
    ·rfl
    · have:x≠n:=by rintro rfl;exact h v jU
      simp[this]
theorem nq{kindOf:Str->Option NameKind}{x:Str}{v:Value}:∀{P:List Str}{vs:List Value}{i:Nat}{m:Str->Option Value},P.Nodup->P[i]? =some x->vs[i]? =some v->kindOf x=some .local->bindL kindOf (P.zip vs) m x=some v |[],_,_,_,_,h,_,_=>by simp at h |_::_,[],_,_,_,_,h,_=>by simp at h |p::P,w::vs,0,m,nd,h1,h2,hk=>by simp at h1 h2;subst h1;subst h2;show bindL kindOf ((p,w)::P.zip vs) m p=_;unfold bindL;rw[nk fun v hv=>(jT.mp nd).1 (List.of_mem_zip hv).1,aD hk];simp |p::P,w::vs,i+1,m,nd,h1,h2,hk=>by show bindL kindOf ((p,w)::P.zip vs) m x=_;unfold bindL;exact nq (i:=i) (jT.mp nd).2 (by simpa using h1) (by simpa using h2) hk
theorem nt{kindOf:Str->Option NameKind}{x:Str}{v:Value}:∀{P:List Str}{vs:List Value}{i:Nat}{m:Str->Option Value},P.Nodup->P[i]? =some x->vs[i]? =some v->kindOf x≠some .local->bindC kindOf (P.zip vs) m x=some v |[],_,_,_,_,h,_,_=>by simp at h |_::_,[],_,_,_,_,h,_=>by simp at h |p::P,w::vs,0,m,nd,h1,h2,hk=>by simp at h1 h2;subst h1;subst h2;show bindC kindOf ((p,w)::P.zip vs) m p=_;unfold bindC;rw[nr fun v hv=>(jT.mp nd).1 (List.of_mem_zip hv).1,aK hk];simp |p::P,w::vs,i+1,m,nd,h1,h2,hk=>by show bindC kindOf ((p,w)::P.zip vs) m x=_;unfold bindC;exact nt (i:=i) (jT.mp nd).2 (by simpa using h1) (by simpa using h2) hk
def start(N:List Str)(vs:List V):St:=vs.map some++List.replicate (N.length-vs.length) none
def e8(CX:cz)(P:vI)(w:World)(K:vG)(mg:Str->Option Value)(base:Heap)(N:List Str)(qual:Str)(scope:Scope)(f:Addr)(cd:Value)(A:vK)(outer:List Env)(s:vH)(H:Hp)(E:XK):Cx where
 prog:=P
 w:=w
 K:=K
 mg:=mg
 base:=base
 A:=A.deeper (envOfC qual scope s.heap.objs.size f cd)
 N:=N
 s₀:=s
 H₀:=H
 env:=envOfC qual scope s.heap.objs.size f cd
 outer:=outer
 stack:=envOfC qual scope s.heap.objs.size f cd::outer
 ex:=[]
 calm:=true
 fn:=fun _=>true
 pn:=[]
 xe:=fun e s'=>wpAny (model P w) (A.deeper (envOfC qual scope s.heap.objs.size f cd)) (leaving (envOfC qual scope s.heap.objs.size f cd) e) (fun _ iw=>CX outer H s E e iw) (fun e' iw=>CX outer H s E e' iw) s'
theorem n6{sc:Scope}{n:Nat}{x:Str}(h:sc.names.lookup x=some .cell):∃c,(cellsFrom n sc.names []).lookup x=some c:=by have q:=PySem.W.cellsFrom_some sc.names n [] (.inl h);exact Option.isSome_iff_exists.mp q
theorem sL{CX:cz}{P:vI}{w:World}{K:vG}{mg:Str->Option Value}{base:Heap}{N ps:List Str}{qual:Str}{scope:Scope}{f:Addr}{cd:Value}{A:vK}{outer:List Env}{s s1:vH}{H:Hp}{E:XK}{us:List Value}{vs:List V} (S:aJ N ps scope)(hd:A.handled=none)(e0:gO P w K mg base A outer s H)(hl:vs.length=ps.length)(r:Vals vs us) (x:InCallC s s.heap.objs.size (bindL (envOfC qual scope s.heap.objs.size f cd).kindOf (ps.zip us) fun _=>none) (cellsFrom (s.heap.objs.size+1) scope.names []) (bindC (envOfC qual scope s.heap.objs.size f cd).kindOf (ps.zip us) fun _=>none) s1): Inv (e8 CX P w K mg base N qual scope f cd A outer s H E) [] (start N vs) H s1:=by
  have bD:ps.length<=N.length:=by have:=congrArg List.length S.pre;rw[List.length_take]at this;omega
  obtain⟨h1,tk,rfl,hk⟩:=x.done;have fB:∀b:Addr,b∉(e8 CX P w K mg base N qual scope f cd A outer s H E).ex:=fun b z=>absurd (show b∈([]:List Addr)from z) (by simp);refine⟨⟨e0.mod,S.kind,rfl,rfl,aw _,fun y z c h1 h2=>?_,fun y hy=>?_,fun y c _ h=>?_,fun _=>hd,Around.frames_deeper e0.frames,.inr ⟨rfl,rfl⟩,fun b z=>absurd z (fB b),e0.bs,e0.bsz,fun b _ _=>fB b,fun b z=>absurd z (fB b),e0.c8,e0.frf⟩,rfl,e0.bare,Un.kept hk,⟨_,x.toInCall.ns,fun i y v h1 h2 h3=>?_⟩,fun y c h=>⟨_,x.cell y c h⟩,e0.hok.fresh (aw _),fun y c h=>?_,fun p hp=>absurd (show p∈([]:List (Addr×Obj))from hp) (by simp),e0.hok.kept hk,?_⟩
  ·exact name_of_addr x.apart (gQ h1) (gQ h2)
  · have hy:scope.names.lookup y=some .cell\/scope.names.lookup y=some .free:=hy
    rcases hy with hy|hy
    ·exact n6 hy
    ·exact absurd rfl (S.nofree _ (gQ hy))
  ·exact jS (x.above y c (gQ h))
  · have hi:i<vs.length:=by
      unfold start at h2;by_cases hi:i<vs.length
      ·exact hi
      · rw[List.getElem?_append_right (by simpa using hi)]at h2
        rw[List.getElem?_replicate]at h2;split at h2<;>cases h2
    have ha:vs[i]? =some v:=by unfold start at h2;rw[List.getElem?_append_left (by simpa using hi),bo]at h2;cases e:vs[i]? with |none=>rw[e]at h2;cases h2 |some a=>rw[e]at h2;cases h2;rfl
    obtain⟨u,hu,rv⟩:=r.get ha;have hp:ps[i]? =some y:=by rw[<-S.pre,List.getElem?_take_of_lt (by omega)];exact h1
    have lR:ps.Nodup:=by rw[<-S.pre];exact S.nd.sublist (List.take_sublist _ _)
    refine⟨u,rv,?_⟩;rcases S.par y (eh hp)with k|k
    ·exact .inl ⟨k,nq lR hp hu k⟩
    · obtain⟨c,e⟩:=n6 (n:=s.heap.objs.size+1) k
      refine .inr ⟨.inl k,c,e,?_⟩;have q:=x.cell y c e;rw[nt lR hp hu (by show scope.names.lookup y≠_;rw[k];decide)]at q;exact q
  ·exact e0.hok.fresh (jS (x.above y c (gQ h)))
  · unfold start
    show _=N.length;rw[dj,aO,List.length_replicate];omega
theorem um{CX:cz}{P:vI}{w:World}{K:vG}{mg:Str->Option Value}{base:Heap}{k:Nat}{f:Addr}{name qual:Str}{params:Arguments}{body:List Stmt}{scope:Scope}{dV kV doc pm af ct oc:Value}{an od:Option Addr} {cq:Array (Option Value)}{N ps:List Str}{sp:Sp}(lk:K.lookup f=some ⟨oc,od,.func (PySem.W.fnOf name qual params body scope dV kV doc pm an af ct),cq⟩)(c7:PySem.W.codeIn K af qual=true)(S:aJ N ps scope) (len:∀vs H Q E,sp vs H Q E->vs.length=ps.length) (fO:∀(A:vK)(outer:List Env)(s:vH)(H:Hp)(vs:List V)(Q:VK)(E:XK),aV k (A.deeper (envOfC qual scope s.heap.objs.size f af))->sp vs H Q E->∃t,bG (e8 CX P w K mg base N qual scope f af A outer s H E) body t/\t {nx:=fun _ H'=>Q .aE H',rt:=Q} (start N vs) H): cK P w K mg base CX (k+1) f (PySem.W.fnOf name qual params body scope dV kV doc pm an af ct) ps sp:=by
  refine⟨len,fun A outer s H args us vs Q E hr e0 hb r cw=>?_⟩;have hl:=len _ _ _ _ cw;have KX:K.In s.heap:=e0.mod.kin.keeps fun b o e=>(e0.bs b o e).1;have lim:s.heap.NoLimit:=e0.mod.nolimit.keeps fun b o e=>(e0.bs b o e).1;have cV:∀y∈ps.zip us,scope.names.lookup y.1=some .local\/(scope.names.lookup y.1=some .cell/\((cellsFrom (s.heap.objs.size+1) scope.names []).lookup y.1).isSome=true):=fun⟨n,v⟩ hy=>by
   rcases S.par n (List.of_mem_zip hy).1 with q|q
   ·exact .inl q
   ·exact .inr ⟨q,PySem.W.cellsFrom_some _ _ _ (.inl q)⟩
  refine codeAny_call_function hr.depth (KX _ _ lk) rfl S.co S.gen rfl (PySem.W.codeRec_of KX c7) (hb _ _ _ _ ?_);refine wpAny_newFunctionEnv_cells S.kind cV fun env he s1 x=>?_;subst he;refine⟨lim.keeps x.toInCall.keep,codeAny_func ?_⟩;obtain⟨t,ht,hq⟩:=fO A outer s H vs Q E (hr.deeper _) cw;have I:Inv (e8 CX P w K mg base N qual scope f af A outer s H E) [] (start N vs) H s1:=sL S hr.hd e0 hl r x;refine dg (ht [] s1 (start N vs) H _ I hq) (fun fl s' hs=>?_) fun e s' hs=>hs;have fin:∀{σ':St}{H':Hp}{v:V}{u:Value},Inv (e8 CX P w K mg base N qual scope f af A outer s H E) [] σ' H' s'->RelV v u->Q v H'->CE outer P w H s Q u s':=fun{σ' H' v u} J rv q=>⟨v,H',J.os,J.bare,J.base,J.hok,rv,q⟩;cases fl with |ret u=>obtain⟨v,σ',H',J,rv,q⟩:=hs;exact fin J rv q |next=>obtain⟨σ',H',J,q⟩:=hs;exact fin (v:=V.aE) (u:=Value.none) J rfl q |brk=>obtain⟨_,_,_,q⟩:=hs;exact False.elim q |cont=>obtain⟨_,_,_,q⟩:=hs;exact False.elim q
section
variable {X:Cx}{x:Str}{p pos:Pos}{e:Expr}{es:List Expr}{t:TA}{id T:String}{r:List V->Hp->VK->Prop}
def gc(r:List V->Hp->VK->Prop)(t:TA):TE:=fun σ H Q=>t σ H fun vs H1=>r vs H1 Q
theorem bZ(hc:aX X (.builtin id) r)(hg:Gl X x)(hm:X.mg x=none)(hv:bootBuiltins x=some (.builtin id))(ha:PA X (e::es) t)(hn:x≠"__name__":=by decide)(cY:(x==("__debug__":Str))=false:=by decide) (he:starEach (e::es) X.env=(false,eval e X.env)::starEach es X.env:=by rfl)(bD:(backTo pos (starEach es X.env)).any (·.1)=false:=by rfl):PE X (.Call (.Name x p) (e::es) [] pos) (gc r t):=by intro pins s σ H Q I h;refine wpAny_Call_Name_kw (fH I hg hm hv ?_ hn cY);exact PyProof.Rows.callWith_builtin1 (a9 (ha pos pins s σ H _ I h) fun us s1 ⟨vs,H1,I1,r1,q1⟩=>hc pins s1 σ H1 vs us Q I1 r1 q1) he bD
theorem bM(hc:aX X (.type T) r)(hg:Gl X x)(hm:X.mg x=none)(hv:bootBuiltins x=some (.type T))(ha:PA X (e::es) t)(hn:x≠"__name__":=by decide)(cY:(x==("__debug__":Str))=false:=by decide) (he:starEach (e::es) X.env=(false,eval e X.env)::starEach es X.env:=by rfl)(bD:(backTo pos (starEach es X.env)).any (·.1)=false:=by rfl):PE X (.Call (.Name x p) (e::es) [] pos) (gc r t):=by intro pins s σ H Q I h;refine wpAny_Call_Name_kw (fH I hg hm hv ?_ hn cY);exact oK (a9 (ha pos pins s σ H _ I h) fun us s1 ⟨vs,H1,I1,r1,q1⟩=>hc pins s1 σ H1 vs us Q I1 r1 q1) he bD
end
end L2
namespace HT
open PySem PyProof.Rows
section
open PySem.SeqAt
open PySem.AutoSeq1 (wpAny_loadPart')
open PySem.MeetsSeq PySem.MeetsSeq2 PySem.MeetsSeq3
end
section
variable {prog:vI}{w:World}{A:vK}{E:Value->vH->Prop}{s:vH}
end
end HT
namespace L2
open PySem PySem.Spec PyProof.Rows
section
variable {X:Cx}{e:Expr}{te:TE}{lo hi:Option Expr}{tl th:TO}{pos p2:Pos}
end
end L2
namespace L2
open PySem PySem.Spec PyProof.Rows
def cS(n:Nat)(i:Int):Option Nat:=if 0<=i then(if i<n then some i.toNat else none)else if-(n:Int)<=i then some (i+n).toNat else none
def c9{α:Type}(xs:List α)(i:Int):Option α:=(cS xs.length i).bind fun j=>xs[j]?
theorem mf{n:Nat}{i:Int}{j:Nat}(h:cS n i=some j):seqIndex? i n=some j/\j<n/\-(n:Int)<=i/\i<n:=by
 unfold cS at h;by_cases h0:0<=i
 · rw[aD h0]at h
   by_cases h1:i<n
   · rw[aD h1]at h
     have e:i.toNat=j:=cB h;exact⟨by rw[seqIndex_of h0 h1,e],by omega,by omega,h1⟩
   ·rw[aK h1]at h;cases h
 · rw[aK h0]at h
   by_cases h1:-(n:Int)<=i
   · rw[aD h1]at h
     have e:(i+n).toNat=j:=cB h;exact⟨by rw[seqIndex_neg (by omega) h1,e],by omega,h1,by omega⟩
   ·rw[aK h1]at h;cases h
theorem jy{α:Type}{xs:List α}{i:Int}{v:α}(h:c9 xs i=some v):∃j,seqIndex? i xs.length=some j/\xs[j]? =some v/\j<xs.length/\-(xs.length:Int)<=i/\i<xs.length:=by unfold c9 at h;cases e:cS xs.length i with |none=>rw[e]at h;cases h |some j=>rw[e]at h;obtain⟨h1,h2,h3,h4⟩:=mf e;exact⟨j,h1,h,h2,h3,h4⟩
theorem uP{α:Type}{xs:List α}{j:Nat}{v:α}(h:xs[j]? =some v):c9 xs (j:Int)=some v:=by
 have hj:j<xs.length:=(ei.mp h).1;have e:cS xs.length (j:Int)=some j:=by unfold cS;rw[aD (by omega),aD (by omega)];simp
 unfold c9;rw[e];exact h
def nH(b:Expr):Prop:=∀o i,subscripted b false o i=operate [o,i] (getItem o i)
def dc(X:Cx)(r:R2):Prop:=∀(value slice:Expr)(pins:List (Addr×Obj))(s:vH)(σ:St)(H:Hp)(x y:V)(v u:Value)(Q:VK),Inv X pins σ H s->RelV x v->RelV y u->r x y H Q->subscripted slice false v u=operate [v,u] (getItem v u)->wpAny (model X.prog X.w) X.A (subscriptTail value slice v u) (EP X pins σ Q) X.xe s
def jG(X:Cx)(id:String)(r:V->List V->Hp->VK->Prop):Prop:=∀(pins:List (Addr×Obj))(s:vH)(σ:St)(H:Hp)(x:V)(xs:List V)(v:Value)(us:List Value)(Q:VK),Inv X pins σ H s->RelV x v->Vals xs us->r x xs H Q->wpAny (model X.prog X.w) X.A (call (.builtin id) (v::us)) (EP X pins σ Q) X.xe s
section
variable {X:Cx}{a b:Expr}{ta tb:TE}{pos:Pos}
theorem dc.or{r r':R2}(h:dc X r)(h':dc X r'):dc X (fun x y H Q=>r x y H Q\/r' x y H Q):=by
 intro value slice pins s σ H x y v u Q I rx ry q hs;rcases q with q|q
 ·exact h value slice pins s σ H x y v u Q I rx ry q hs
 ·exact h' value slice pins s σ H x y v u Q I rx ry q hs
theorem lE{r:R2}(hr:dc X r)(ha:PE X a ta)(hb:PE X b tb)(hs:nH b):PE X (.Subscript a b pos) (fc r ta tb):=by intro pins s σ H Q I h;exact Subscript_ (jv ha hb I h fun v u s2 x y H2 I2 rx ry q=>hr a b pins s2 σ H2 x y v u Q I2 rx ry q (hs _ _))
inductive ot(K:vG)(x:V)(y:V)(H:Hp)(Q:VK):Prop |mk (p:_)(xs:_)(i:_)(v:_)(h0:x= .ref p)(h1:y= .int i)(h2:ah K H p xs)(h3:c9 xs i=some v)(h4:Q v H):ot K x y H Q
def iC(K:vG):R2:=fun x y H Q=>ot K x y H Q
inductive oo(K:vG)(x:V)(y:V)(H:Hp)(Q:VK):Prop |mk (p:_)(xs:_)(i:_)(v:_)(h0:x= .ref p)(h1:y= .int i)(h2:aj K H p xs)(h3:c9 xs i=some v)(h4:Q v H):oo K x y H Q
def iB(K:vG):R2:=fun x y H Q=>oo K x y H Q
inductive oq(x:V)(y:V)(H:Hp)(Q:VK):Prop |mk (z:_)(i:_)(c:_)(h0:x= .str z)(h1:y= .int i)(h2:z.length<=sizeLine)(h3:c9 z.cps.toList i=some c)(h4:Q (.str ⟨#[c]⟩) H):oq x y H Q
def ql:R2:=fun x y H Q=>oq x y H Q
theorem sH:dc X (iC X.K):=by
 intro value slice pins s σ H x y v u Q I rx ry h hs;obtain⟨p,xs,i,z,rfl,rfl,hq,he,q⟩:=h;cases rx;obtain⟨t,rfl⟩:=ry;obtain⟨its,r,pl,hz⟩:=I.list hq;obtain⟨j,h1,h2,h3,h4,h5⟩:=jy he;obtain⟨w,ew,fi⟩:=r.get h2;have hl:=r.length;have hn:=fG;have fin:EP X pins σ Q w s:=⟨z,H,I,fi,q⟩;by_cases h0:0<=i
 · have hj:i.toNat=j:=by rw[seqIndex_of h0 h5]at h1;exact cB h1
   exact item_listR pl.isList h0 (by omega) (by rw[hj];simpa using ew) fin hs
 · have hj:(i+(its.toArray.size:Int)).toNat=j:=by rw[seqIndex_neg (by omega) h4]at h1;rw[bJ,<-hl];exact cB h1
   exact subscriptTail_builtinR (x:=w) pl.isList.typeIs slot_list_getitem.lookup (wpAny_getItem_list_neg (Q:=fun r s'=>r=w/\EP X pins σ Q r s') pl.isList (by omega) (by rw[bJ]<;>omega) (by omega) (by rw[hj];simpa using ew) ⟨rfl,fin⟩) hs
theorem sF:dc X (iB X.K):=by intro value slice pins s σ H x y v u Q I rx ry h hs;obtain⟨p,xs,i,z,rfl,rfl,hq,he,q⟩:=h;cases rx;obtain⟨t,rfl⟩:=ry;obtain⟨its,r,pl,hz⟩:=I.tuple hq;obtain⟨j,h1,h2,h3,h4,h5⟩:=jy he;obtain⟨w,ew,fi⟩:=r.get h2;have hl:=r.length;have hn:=fG;have fin:EP X pins σ Q w s:=⟨z,H,I,fi,q⟩;exact subscriptTail_builtinR (x:=w) pl.typeIs slot_tuple_getitem.lookup (getItem_tuple (j:=j) (Q:=fun r s'=>r=w/\EP X pins σ Q r s') pl (by omega) (by omega) (by rw[bJ,<-hl];exact h1) (by simpa using ew) ⟨rfl,fin⟩) hs
theorem sG:dc X ql:=by
 intro value slice pins s σ H x y v u Q I rx ry h hs;obtain⟨z,i,c,rfl,rfl,hz,he,q⟩:=h;obtain⟨t,rfl⟩:=rx;obtain⟨t',rfl⟩:=ry;obtain⟨j,h1,h2,h3,h4,h5⟩:=jy he;have hl:z.cps.toList.length=z.length:=by simp[Str.length]
 rw[hl]at h1 h4 h5;have hn:=fG;exact tail_any (typeIs_str s z t) slot_str_getitem.lookup (getItem_str (c:=c) (by have e1:decide (i< -(2^63:Int))=false:=dh (by omega);have e2:decide (i>=2^63)=false:=dh (by omega);rw[e1,e2,Bool.or_false]) (by rw[h1];simpa using h2) ⟨.str ⟨#[c]⟩,H,I.tok _,⟨_,rfl⟩,q⟩) hs
theorem rY(its:List Value)(n j:Nat)(u:Value):Obj.mapSeq (·.setIfInBounds j u) {cls:=.type "list",data:=.seq its.toArray n}={cls:=.type "list",data:=.seq (its.set j u).toArray n}:=by simp[Obj.mapSeq]
theorem Inv.lst{pins:List (Addr×Obj)}{σ:St}{H:Hp}{s:vH}{p:Addr}{xs:List V}(I:Inv X pins σ H s)(h:H p=some (.lst xs)): ∃(its:List Value)(n:Nat),Vals xs its/\s.heap.get? p=some {cls:=.type "list",data:=.seq its.toArray n}/\xs.length<=sizeLine:=by obtain⟨z,its,n,r,e⟩:=I.hok p _ h;exact⟨its,n,r,e,z⟩
theorem Inv.rZ{pins:List (Addr×Obj)}{σ:St}{H:Hp}{s:vH}{p:Addr}{xs ys:List V}{its its':List Value}{n n':Nat}{f:Obj->Obj}(I:Inv X pins σ H s)(h:H p=some (.lst xs)) (ho:s.heap.get? p=some {cls:=.type "list",data:=.seq its.toArray n})(hf:f {cls:=.type "list",data:=.seq its.toArray n}={cls:=.type "list",data:=.seq its'.toArray n'})(r:Vals ys its')(hz:ys.length<=sizeLine)(t:Nat): Inv X pins σ (upd H p (.lst ys)) {s with heap:=s.heap.update p f,toks:=t}:=by
  have e:(s.heap.update p f).get? p=some {cls:=.type "list",data:=.seq its'.toArray n'}:=by rw[Heap.get?_update_self f ho (by rw[hf]<;>rfl),hf]
  refine I.write (x:=p) (e:=p) (by rw[h];trivial) (.inl rfl) (fun b u hb q=>(Heap.get?_update_other _ _ (Ne.symm hb)).trans q) ⟨_,e⟩ ?_;exact⟨hz,its',n',r,e⟩
inductive oh(o:V)(i:V)(v:V)(H:Hp)(Q:Hp->Prop):Prop |mk (p:_)(xs:_)(k:_)(j:_)(h0:o= .ref p)(h1:i= .int k)(h2:H p=some (.lst xs))(h3:cS xs.length k=some j)(h4:Q (upd H p (.lst (xs.set j v)))):oh o i v H Q
def qk:V->V->V->Hp->(Hp->Prop)->Prop:=fun o i v H Q=>oh o i v H Q
theorem set_list:nI X qk:=by
 intro pins s σ H o i v ov iv u Q I ro ri rv h;obtain⟨p,xs,k,j,rfl,rfl,hp,hj,q⟩:=h;cases ro;obtain⟨t,rfl⟩:=ri;obtain⟨its,n,r,ho,hz⟩:=I.lst hp;obtain⟨h1,h2,h3,h4⟩:=mf hj;have hl:=r.length;have hn:=fG;have I':Inv X pins σ (upd H p (.lst (xs.set j v))) {s with heap:=s.heap.update p (Obj.mapSeq (·.setIfInBounds j u))}:=I.rZ hp ho (rY its n j u) (r.set rv j) (by rw[List.length_set];exact hz) s.toks;by_cases h0:0<=k
 · have hk:k.toNat=j:=by rw[seqIndex_of h0 h4]at h1;exact cB h1
   exact PySem.W.ki_setAt ho h0 (by omega) (by rw[bJ,<-hl];exact h4) (by rw[hk];exact⟨_,I',q⟩)
 · have hk:(k+(its.toArray.size:Int)).toNat=j:=by rw[seqIndex_neg (by omega) h3]at h1;rw[bJ,<-hl];exact cB h1
   exact PySem.W.ki_setBack ho (by omega) (by rw[bJ,<-hl];exact h3) (by omega) (by rw[hk];exact⟨_,I',q⟩)
theorem uD:aX X (.builtin "len") (fun xs H Q=>∃p ys,xs=[.ref p]/\(ah X.K H p ys\/aj X.K H p ys)/\Q (.int ys.length) H):=by
 intro pins s σ H xs us Q I r h;obtain⟨p,ys,rfl,hq,q⟩:=h;obtain⟨u,rfl,rx⟩:=vals1 r;cases rx;have hn:=fG;rcases hq with hq|hq
 · obtain⟨its,r',pl,hz⟩:=I.list hq
   have hlen:=r'.length;exact Calls.call_len_list pl.isList (by simp only[bJ]<;>omega) ⟨.int ys.length,H,I.tok _,⟨s.toks+1,by rw[bJ,hlen]⟩,q⟩
 · obtain⟨its,r',pl,hz⟩:=I.tuple hq
   have hlen:=r'.length;exact len_tuple pl (by simp only[bJ]<;>omega) ⟨.int ys.length,H,I.tok _,⟨s.toks+1,by rw[bJ,hlen]⟩,q⟩
theorem aX.or{f:Value}{r r':List V->Hp->VK->Prop}(h:aX X f r)(h':aX X f r'):aX X f (fun xs H Q=>r xs H Q\/r' xs H Q):=by
 intro pins s σ H xs us Q I rs q;rcases q with q|q
 ·exact h pins s σ H xs us Q I rs q
 ·exact h' pins s σ H xs us Q I rs q
theorem uC:aX X (.type "tuple") (fun xs H Q=>∃p ys,xs=[.ref p]/\((ah X.K H p ys/\∀l,H l=none->Q (.ref l) (upd H l (.tup ys)))\/(aj X.K H p ys/\Q (.ref p) H))):=by
 intro pins s σ H xs us Q I r h;obtain⟨p,ys,rfl,h⟩:=h;obtain⟨u,rfl,rx⟩:=vals1 r;cases rx;rcases h with⟨hq,q⟩|⟨hq,q⟩
 · obtain⟨its,r',pl,hz⟩:=I.list hq
   have hlen:=r'.length;refine call_tuple_list pl.isList (fun h' kp=>?_) (by simp only[bJ]<;>omega);have I1:Inv X pins σ H {s with heap:=h'}:=I.kept (t':=s.toks) kp;have I2:Inv X pins σ (upd H h'.objs.size (.tup ys)) {s with heap:=h'.push {cls:=.type "tuple",data:=.seq its.toArray}}:=I1.laid (t':=s.toks) (fun b o e=>bw _ e) (aw _) (show bH X.prog X.w _ _ _ (.tup ys)from⟨hz,its,r',IsTup.new _ _⟩);exact⟨.ref h'.objs.size,_,I2,rfl,q _ (I1.hok.fresh (aw _))⟩
 · obtain⟨its,r',pl,hz⟩:=I.tuple hq
   exact call_tuple_same pl ⟨.ref p,H,I,rfl,q⟩
def hE(K:vG)(T:String)(x:V)(H:Hp):Prop:=match x with | .str _=>T="str" | .int _=>T="int" | .ref p=>(T="list"/\∃xs,ah K H p xs)\/(T="tuple"/\∃o,K.lookup p=some o/\o.cls= .type "tuple"/\o.dict=none)\/ (T="dict"/\((∃bf,H p=some (.dK bf))\/∃bf,H p=some (.dT bf)))\/(T="set"/\∃S n,H p=some (.set S n)) |_=>False
theorem k5{pins:List (Addr×Obj)}{σ:St}{H:Hp}{s:vH}{T:String}{x:V}{v:Value}(I:Inv X pins σ H s)(r:RelV x v)(ty:hE X.K T x H): s.TypeIs v T/\∀a,v= .ref a->∃ob,s.heap.get? a=some ob/\ob.dict=none:=by cases x with
  |str z=>obtain⟨t,rfl⟩:=r;cases(show T="str" from ty);exact⟨typeIs_str s z t,fun _ e=>nomatch e⟩ |int i=>obtain⟨t,rfl⟩:=r;cases(show T="int" from ty);exact⟨typeIs_int s i t,fun _ e=>nomatch e⟩ |ref p=>
    cases r;rcases ty with⟨rfl,xs,hq⟩|⟨rfl,o,hk,hc,hd⟩|⟨rfl,hk⟩|⟨rfl,S,n,hk⟩
    · obtain⟨its,_,pl,_⟩:=I.list hq
      refine⟨pl.isList.typeIs,fun a e=>?_⟩;cases e;obtain⟨o,n,e,c,hd,_⟩:=pl;exact⟨o,e,hd⟩
    · refine⟨⟨o,I.dz p o hk,hc⟩,fun a e=>?_⟩
      cases e;exact⟨o,I.dz _ o hk,hd⟩
    · have z:∃o,s.heap.get? p=some o/\o.ExactDict:=by
        rcases hk with⟨bf,hk⟩|⟨bf,hk⟩
        · obtain⟨_,_,_,_,o,_,_,e,ex,_⟩:=I.hok p _ hk
          exact⟨o,e,ex⟩
        · obtain⟨_,_,_,_,o,_,_,e,ex,_⟩:=I.hok p _ hk
          exact⟨o,e,ex⟩
      obtain⟨o,e,ex⟩:=z;refine⟨⟨o,e,ex.1⟩,fun a e2=>?_⟩;cases e2;exact⟨o,e,ex.2.1⟩
    · obtain⟨o,_,_,_,e,ex,_⟩:=I.hok p _ hk
      refine⟨⟨o,e,ex.1⟩,fun a e2=>?_⟩;cases e2;exact⟨o,e,ex.2.1⟩ |_=>exact False.elim ty
def gd(K:vG)(T:String)(r:V->List V->Hp->VK->Prop)(to:TE)(t:TA):TE:=fun σ H Q=>to σ H fun x H1=>hE K T x H1/\t σ H1 fun xs H2=>r x xs H2 Q
variable {o e:Expr}{es:List Expr}{to:TE}{t:TA}{name:Str}{apos aA:Pos}{T id:String}{r:V->List V->Hp->VK->Prop}
theorem iP(pa:PlainAttrs T)(slot:Slot T name id)(sS:typeOf (.builtin id)=pure (.type "method_descriptor"))(hm:jG X id r)(ho:PE X o to)(ha:PA X (e::es) t) (cZ:attributeBase o name X.env (eval o X.env)=eval o X.env:=by rfl) (cX:((backTo aA (starEach (e::es) X.env)).all (fun x=>!x.1)&&(backToKw aA (keywordEach [] X.env)).all (fun x=>x.1.isSome) &&decide ((e::es).length+([]:List Keyword).length+(if([]:List Keyword).isEmpty then 0 else 1)<30))=true:=by rfl) (cU:(apos.endLine==aA.line)=true:=by rfl)(hs:starEach (e::es) X.env=(false,eval e X.env)::starEach es X.env:=by rfl)(cT:(backTo aA (starEach es X.env)).any (·.1)=false:=by rfl): PE X (.Call (.Attribute o name apos) (e::es) [] aA) (gd X.K T r to t):=by intro pins s σ H Q I h;refine wpAny_Call_method_late cZ cX cU rfl (a9 (ho pins s σ H _ I h) fun v s1 ⟨x,H1,I1,r1,ty,q1⟩=>?_);obtain⟨h1,h2⟩:=k5 I1 r1 ty;refine⟨T,id,pa,slot,sS,h1,h2,?_⟩;have hA:=ha aA pins s1 σ H1 _ I1 q1;rw[hs]at hA⊢;refine Calls.callWith_builtin (by show(false||(backTo aA (starEach es X.env)).any (·.1))=false;rw[cT]<;>rfl) (Calls.evalArgs_plain ?_);exact a9 hA fun us s2 ⟨vs,H2,I2,r2,q2⟩=>hm pins s2 σ H2 x vs v us Q I2 r1 r2 q2
end
end L2
namespace L2
open PySem PySem.Spec PyProof.Rows
def uY(X:Cx)(id:String)(r:V->List V->Hp->VK->Prop):Prop:=∀(pins:List (Addr×Obj))(s:vH)(σ:St)(H:Hp)(x:V)(xs:List V)(v:Value)(us:List Value)(Q:VK),Inv X pins σ H s->RelV x v->Vals xs us->r x xs H Q->wpAny (model X.prog X.w) X.A (call (.builtin id) (v::us)) (EP X pins σ Q) X.xe s
theorem Vals.one:∀{x:V}{us:List Value},Vals [x] us->∃u,us=[u]/\RelV x u |_,_,.cons r .nil=>⟨_,rfl,r⟩
section
variable {X:Cx}{pins:List (Addr×Obj)}{σ:St}{H:Hp}{s:vH}{l b:Addr}{xs ys zs:List V}
theorem Inv.sh{its its':List Value}{n:Nat}{f:Array Value->Array Value}{t':Nat}(I:Inv X pins σ H s)(hH:H l=some (.lst xs)) (e:s.heap.get? l=some {cls:=.type "list",data:=.seq its.toArray n})(hf:f its.toArray=its'.toArray)(hv:Vals ys its')(hz:ys.length<=sizeLine): Inv X pins σ (upd H l (.lst ys)) {s with heap:=s.heap.update l (Obj.mapSeq f),toks:=t'}:=by have q:=PySem.IsL.update e f;rw[hf]at q;refine I.write (x:=l) (e:=l) (by rw[hH];exact trivial) (.inl rfl) (fun b' u hb hu=>(Heap.get?_update_other s.heap (Obj.mapSeq f) (Ne.symm hb)).trans hu) ⟨_,q⟩ ?_;exact⟨hz,its',_,hv,q⟩
theorem Inv.m3{its:List Value}{t':Nat}(I:Inv X pins σ H s)(hv:Vals ys its)(hz:ys.length<=sizeLine): Inv X pins σ (upd H s.heap.objs.size (.lst ys)) {s with heap:=s.heap.push {cls:=.type "list",data:=.seq its.toArray},toks:=t'}:=I.laid (fun _ _ q=>bw _ q) (aw _) ⟨hz,its,0,hv,dk _ rfl⟩
theorem Inv.sa(I:Inv X pins σ H s)(hH:H l=some (.lst xs)):xs.length<=sizeLine/\∃(its:List Value)(n:Nat),Vals xs its/\xs.length=its.length/\s.heap.get? l=some {cls:=.type "list",data:=.seq its.toArray n}:=by obtain⟨z,its,n,r,e⟩:=I.hok l _ hH;exact⟨z,its,n,r,r.length,e⟩
end
section
variable {X:Cx}
inductive oB(x:V)(vs:List V)(H:Hp)(Q:VK):Prop |mk (l:_)(xs:_)(y:_)(h0:x= .ref l)(h1:vs=[y])(h2:H l=some (.lst xs))(h3:xs.length<sizeLine)(h4:Q .aE (upd H l (.lst (xs++[y])))):oB x vs H Q
def lA:V->List V->Hp->VK->Prop:=fun x vs H Q=>oB x vs H Q
theorem iS:uY X "list.append" lA:=by intro pins s σ H x vs v us Q I rx rv h;obtain⟨l,xs,y,rfl,rfl,hH,hz,q⟩:=h;cases rx;obtain⟨u,rfl,ru⟩:=rv.one;obtain⟨z,its,n,r,hl,e⟩:=I.sa hH;refine call_meets F.slot_list_append ⟨_,e,rfl⟩ F.entry_list_append (F.args_list_append_2 _ _) (PySem.list_append l its.toArray n u (by rw[bJ];omega)) ⟨e,?_⟩;refine⟨.aE,_,I.sh (its':=its++[u]) hH e (by simp) (r.append (.cons ru .nil)) ?_,rfl,q⟩;rw[dj,jV];omega
end
section
variable {prog:vI}{w:World}{A:vK}{E:Value->vH->Prop}{s:vH}
end
section
variable {X:Cx}
end
end L2
namespace Att
open PySem PySem.W PySem.Calls PyProof.Rows
theorem sM{P:Params}{h:Heap}:∀(ns:List Int)(vs:List Value),WellAll P h vs (ns.map WData.int)->IntsAre vs ns:=by intro ns;induction ns with |nil=>intro vs w;rw[List.map_nil]at w;cases w;exact .nil |cons n ns ih=>intro vs w;rw[List.map_cons]at w;cases w with |cons a b=>cases a;exact .cons _ _ (ih _ b)
theorem pT{l:OpenLaw}{n:Nat}(hn:l.most=some n){P:Params}{h:Heap}{args:List WData}{vals:List Value} (gB:l.row.toRowW.claim.pre args=true)(iY:WellAll P h vals args): ∃a vs ns,vals=[Value.ref a]/\args=[WData.list (ns.map WData.int)]/\h.get? a=some {cls:=.type "list",data:=.seq vs.toArray}/\IntsAre vs ns/\ns.length<=n:=by
  have sZ:WShape.hasAll [] args [.list .int]=true:=(pre_splitW gB).1;have hc:l.pre.holds [] {args:=args}=true:=(pre_splitW gB).2;obtain⟨d,r,rfl,h1,h2⟩:=hasAllW_cons sZ;obtain rfl:=hasAllW_nil h2;obtain⟨xs,rfl,h3⟩:=hasW_list h1;obtain⟨ns,rfl⟩:=items_int h3;have hlen:ns.length<=n:=by
   unfold OpenLaw.pre at hc;have h4:(WTm.not (.lt (.lit (.int (n:Int))) (.len (.arg 0)))).holds [] {args:=[.list (ns.map .int)]}=true:=by have h4:=(holds_andW hc).1;rw[hn]at h4;exact h4
   have h5:=condW_of h4 (w_not (w_lt w_lit (w_len_list (w_arg rfl))));rw[aO]at h5;refine Nat.le_of_not_lt fun q=>?_;have q':(n:Int)<((ns.length:Nat):Int):=by omega
   first |(rw[cc q']at h5;exact absurd h5 (by decide)) |(simp at h5;omega)
  cases iY with |cons w1 w2=>cases w2;cases w1 with |list ho tV=>exact⟨_,_,ns,rfl,rfl,ho,sM ns _ tV,hlen⟩
theorem qz(l:OpenLaw)(args:List WData):l.row.toRowW.claim.post args (.bool true) args=true:=postW_of (r:=l.row.toRowW) (X:=(true==true)) (show WShape.has [] (.bool true) .bool=true by first|rfl|decide|simp[WShape.has,WShape.arms,WShape.armsAll]) (show(WTm.eq .res (.lit (.bool true))).value [] {args:=args,res:=some (.bool true),after:=args}=some (.bool (true==true))from w_eq_bool (w_res rfl) w_lit) rfl
theorem uO{l:OpenLaw}{n:Nat}{q:vI}{loose:List Str}{XP:(Str->Option Value)->Heap->Prop}{YP:World->Heap->Prop}{d:DefRec} (hn:l.most=some n)(fN:d.params.defaults=[]) (call:∀(w:World)(s₀ s₁:vH)(mg mb:Str->Option Value)(fa:Addr)(o:Obj)(pm cd doc:Value)(a:Addr)(vs:List Value)(ns:List Int),Ground q loose [] XP w s₀ mg mb s₁.heap->YP w s₁.heap->s₁.heap.get? fa=some o->o.data= .func (docDef d.name d.params d.body d.scope pm cd doc)->s₁.heap.CodeRec cd d.name->mg d.name=some (.ref fa)->s₁.heap.get? a=some {cls:=.type "list",data:=.seq vs.toArray}->IntsAre vs ns->ns.length<=n->s₁.gens=#[]->codeAny (model l.prog w) callerA (.call (.ref fa) ⟨[.ref a],[]⟩) (fun r s'=>r= .ok (.ret (.bool true))/\OldK s₁.heap s'.heap/\s'.os=s₁.os/\AllBare s'.gens) s₁): WalkO q loose XP YP l.row.toRowW d [] (fun f vs=>PySem.call f vs):=by intro w s₀ s₁ mg mb G Y fa o pm cd doc dV kV ho hd c7 hD fM hg args vals as gB vw vp iY vv;obtain rfl:dV= .none:=Dflts.none hD fN;obtain rfl:kV= .none:=Dflts.noKw hD;obtain⟨a,vs,ns,rfl,rfl,j7,hints,hlen⟩:=pT hn gB iY;refine enter_call (codeAny_mono (call w s₀ s₁ mg mb fa o pm cd doc a vs ns G Y ho (fd_plain hd) c7 fM j7 hints hlen hg) fun r s' hq=>?_);obtain⟨rfl,h2,h3,h4⟩:=hq;exact⟨.inl ⟨.bool true,.bool true,[],rfl,fun _=>rfl,.bool true,qz l _,fun _=>⟨List.Pairwise.nil,fun _ hm=>(nomatch hm)⟩⟩,h2,h3,h4⟩
section
variable {prog:vI}{w:World}{A:vK}{E:Value->vH->Prop}{s:vH}{K:Frag}
end
end Att
namespace L2
open PySem PySem.Spec PyProof.Rows
theorem k0:∀{vs:List Value}{ns:List Int},IntsAre vs ns->Vals (ns.map V.int) vs |_,_,.nil=>.nil |_,_,.cons n t h=>.cons ⟨t,rfl⟩ (k0 h)
def jF(H:Hp):Prop:=∀b,H b=none\/∃o xs,H b=some (.cF o (.lst xs))
theorem sx{P:vI}{w:World}{K:vG}{mg mb:Str->Option Value}{CX:cz}{k:Nat}{fa a:Addr}{fd:FuncData}{x:Str}{sp:Sp}{s₁:vH}{vs:List Value}{ns:List Int} (KX:K.In s₁.heap)(mv:s₁.heap.Ns mainGlobals mg)(hb:s₁.heap.Ns builtinsNs mb)(tT:∀x:Str,x≠"__name__"->mb x=bootBuiltins x)(tq:s₁.heap.NoLimit)(hg:s₁.gens=#[]) (ha:s₁.heap.get? a=some {cls:=.type "list",data:=.seq vs.toArray})(hi:IntsAre vs ns)(hl:ns.length<=sizeLine)(hr:aV k callerA) (F:∀base:Heap,K.In base->base.Ns mainGlobals mg->cK P w K mg base CX k fa fd [x] sp)(tS:∀(s:vH)(u:Value),BindsTo s fd ⟨[u],[]⟩ [(x,u)]) (cw:∀H:Hp,jF H->ah K H a (ns.map V.int)->sp [.ref a] H (fun v _=>v= .bl true) fun _ _ _=>False) (jg:∀H e s',CX [] H s₁ (fun _ _ _=>False) e s'->False): codeAny (model P w) callerA (.call (.ref fa) ⟨[.ref a],[]⟩) (fun r s'=>r= .ok (.ret (.bool true))/\OldK s₁.heap s'.heap/\s'.os=s₁.os/\AllBare s'.gens) s₁:=by
  have rv:=k0 hi;have sq:=hi.length;have core:∀H:Hp,jF H->ah K H a (ns.map V.int)->aI P w H s₁.heap->(∀b,H b≠none->b=a)->(H a≠none->K.lookup a=none)->codeAny (model P w) callerA (.call (.ref fa) ⟨[.ref a],[]⟩) (fun r s'=>r= .ok (.ret (.bool true))/\OldK s₁.heap s'.heap/\s'.os=s₁.os/\AllBare s'.gens) s₁:=by
    intro H hO hS hok hA hK;have nv:∀{b:Addr}{o:Obj},s₁.heap.get? b=some o->H b=none->(cW s₁.heap H).get? b=some o:=fun e n=>tL e n;have fB:∀{b:Addr}{o:Obj}{es:Array DictEntry}{ep:Nat},s₁.heap.get? b=some o->o.data= .dict es ep->H b=none:=fun{b o es ep} e d=>by cases q:H b with |none=>rfl |some u=>have e':b=a:=hA b (by rw[q];simp);subst e';rw[ha]at e;cases e;have d':Data.seq vs.toArray _=Data.dict es ep:=d;cases d'
    have gw:∀{b:Addr}{m:Str->Option Value},s₁.heap.Ns b m->(cW s₁.heap H).Ns b m:=fun{b m} ⟨o,es,ep,e,d,r⟩=>⟨o,es,ep,nv e (fB e d),d,r⟩;have mF:K.In (cW s₁.heap H):=fun b o e=>nv (KX b o e) (by cases q:H b with |none=>rfl |some u=>have e':b=a:=hA b (by rw[q];simp);subst e';rw[hK (by rw[q];simp)]at e;cases e);have hM:Mod K mg (cW s₁.heap H):=⟨mF,gw mv,⟨mb,gw hb,tT⟩,let⟨mc,h1,h2⟩:=tq;⟨mc,gw h1,h2⟩⟩;have e0:gO P w K mg (cW s₁.heap H) callerA [] s₁ H:=⟨rfl,hM,fun b o e=>rK e,Nat.le_of_eq (tK _ _),trivial,fun b hb=>absurd (show b∈([]:List Addr)from hb) (by simp),hok,.of_eq hg⟩;refine codeAny_mono ((F _ mF (gw mv)).run callerA [] s₁ H ⟨[.ref a],[]⟩ [.ref a] [.ref a] _ _ hr e0 (tS s₁ (.ref a)) (.cons rfl .nil) (cw H hO hS)) fun r s' h=>?_;cases r with |error e=>exact(jg H e s' h).elim |ok fl=>cases fl with |next=>exact False.elim h |brk=>exact False.elim h |cont=>exact False.elim h |ret u=>obtain⟨v,H',os,bare,un,t9,r',q⟩:=h;have q':v= .bl true:=q;subst q';obtain rfl:u=Value.bool true:=r';refine⟨rfl,OldK.of_keep fun b o e=>?_,os,bare⟩;cases q:H b with |none=>exact un.keep b o e q (by intro z;exact absurd (show b∈([]:List Addr)from z) (by simp)) (by simp) |some u=>
          rcases hO b with z|⟨ob,xs,z⟩
          ·rw[q]at z;cases z
          · have z2:=un.frzs b ob _ z
            obtain⟨e1,_⟩:=hok b _ z;obtain⟨e2,_⟩:=t9 b _ z2;rw[e]at e1;cases e1;exact e2
  cases hk:K.lookup a with |some o=>have e:=KX a o hk;rw[ha]at e;cases e;refine core (fun _=>none) (fun _=>.inl rfl) (.inr ⟨_,vs.toArray,_,hk,rfl,rfl,rfl,by rw[bJ,sq];exact hl,by simpa using rv⟩) (fun b u z=>by have z':(none:Option HO)=some u:=z;cases z') (fun b z=>absurd rfl z) fun z=>absurd rfl z |none=>
    refine core (fun b=>if b=a then some (.cF {cls:=.type "list",data:=.seq vs.toArray} (.lst (ns.map V.int)))else none) (fun b=>?_) (.inl (.inr ⟨{cls:=.type "list",data:=.seq vs.toArray},aD rfl⟩)) (fun b u z=>?_) (fun b z=>?_) fun _=>hk
    · by_cases hb:b=a
      ·exact .inr ⟨_,_,aD hb⟩
      ·exact .inl (aK hb)
    · by_cases hb:b=a
      · have z':=(aD hb).symm.trans z
        cases z';subst hb;exact⟨ha,by rw[aO];exact hl,vs,_,rv,ha⟩
      · have z':=(aK hb).symm.trans z
        cases z'
    · by_cases hb:b=a
      ·exact hb
      ·exact absurd (aK hb) z
theorem oV{l:PySem.W.OpenLaw}{n k:Nat}{q:vI}{loose:List Str}{XP:(Str->Option Value)->Heap->Prop}{YP:World->Heap->Prop}{d:DefRec}{K:Params->vG}{CX:World->cz}{sp:World->Sp}{x:Str} (hn:l.most=some n)(tm:n<=sizeLine)(fN:d.params.defaults=[])(hr:aV k callerA) (hY:∀(w:World)(h:Heap),YP w h->(K w.params).In h) (F:∀(w:World)(mg:Str->Option Value)(fa:Addr)(h:Heap),(K w.params).In h->h.Ns mainGlobals mg->mg d.name=some (.ref fa)->∃fd:FuncData,(∀(s:vH)(u:Value),BindsTo s fd ⟨[u],[]⟩ [(x,u)])/\∀base:Heap,(K w.params).In base->base.Ns mainGlobals mg->cK l.prog w (K w.params) mg base (CX w) k fa fd [x] (sp w)) (cw:∀(w:World)(H:Hp)(a:Addr)(ns:List Int),ns.length<=n->jF H->ah (K w.params) H a (ns.map V.int)->sp w [.ref a] H (fun v _=>v= .bl true) fun _ _ _=>False) (jg:∀(w:World)(H:Hp)(s:vH)(e:Value)(s':vH),CX w [] H s (fun _ _ _=>False) e s'->False): PySem.W.WalkO q loose XP YP l.row.toRowW d [] (fun f vs=>PySem.call f vs):=by refine Att.uO hn fN fun w s₀ s₁ mg mb fa o pm cd doc a vs ns G Y ho hd c7 fM j7 hints hlen hg=>?_;have KX:=hY w _ Y;obtain⟨fd,hb,hF⟩:=F w mg fa _ KX G.T.g fM;exact sx KX G.T.g G.T.b G.T.builtins G.T.nolimit hg j7 hints (dD hlen tm) hr hF hb (fun H hO hS=>cw w H a ns hlen hO hS) fun H e s'=>jg w H s₁ e s'
def e7(s:Stmt):Arguments:=match s with | .FunctionDef _ a _ _ _ _ _ _ _ _=>a |_=>{posonlyargs:=[],args:=[],vararg:=none,kwonlyargs:=[],kw_defaults:=[],kwarg:=none,defaults:=[]}
def d9(s:Stmt):List Stmt:=match s with | .FunctionDef _ _ b _ _ _ _ _ _ _=>b |_=>[]
def az(s:Stmt):Scope:=match s with | .FunctionDef _ _ _ _ _ _ sc _ _ _=>sc |_=>{kind:=.function,names:=[],isGenerator:=false,isCoroutine:=false}
abbrev df:cz:=fun _ _ _ _ _ _=>False
abbrev E0:XK:=fun _ _ _=>False
theorem qN{X:Cx}:Passes df X E0:=fun _ _ _ _ _ _ _ h=>h.elim
structure de(K:vG)(x qual:Str)(st:Stmt)(f:Addr)(fd:FuncData):Prop where
 ex:∃(oc:Value)(od:Option Addr)(kV doc pm:Value)(an:Option Addr)(af ct:Value)(cq:Array (Option Value)),fd=PySem.W.fnOf x qual (e7 st) (d9 st) (az st) .none kV doc pm an af ct/\K.lookup f=some ⟨oc,od,.func fd,cq⟩/\PySem.W.codeIn K af qual=true
 kp:PySem.W.keepIn K (.ref f)=true
section
variable {P:vI}{w:World}{K:vG}{mg:Str->Option Value}{base:Heap}
theorem de.ok{x qual:Str}{st:Stmt}{f:Addr}{fd:FuncData}{N ps:List Str}{k:Nat}{sp:Sp}(F:de K x qual st f fd)(S:aJ N ps (az st))(len:∀vs H Q E,sp vs H Q E->vs.length=ps.length) (fO:∀(af:Value)(A:vK)(outer:List Env)(s:vH)(H:Hp)(vs:List V)(Q:VK)(E:XK),aV k (A.deeper (envOfC qual (az st) s.heap.objs.size f af))->sp vs H Q E->∃t,bG (e8 df P w K mg base N qual (az st) f af A outer s H E).fz (d9 st) t/\t {nx:=fun _ H'=>Q .aE H',rt:=Q} (start N vs) H):cK P w K mg base df (k+1) f fd ps sp:=by obtain⟨oc,od,kV,doc,pm,an,af,ct,cq,rfl,lk,c7⟩:=F.ex;refine um lk c7 S len fun A outer s H vs Q E hr cw=>?_;obtain⟨t,h,q⟩:=fO af A outer s H vs Q E hr cw;exact⟨t,h.fz,q⟩
theorem de.binds{x qual:Str}{st:Stmt}{f:Addr}{fd:FuncData}{ps:List Str}(F:de K x qual st f fd) (h:∀(kV doc pm:Value)(an:Option Addr)(af ct:Value)(us:List Value),us.length=ps.length->bindArgs (PySem.W.fnOf x qual (e7 st) (d9 st) (az st) .none kV doc pm an af ct) ⟨us,[]⟩=pure (ps.zip us)):Binds K fd ps []:=by obtain⟨oc,od,kV,doc,pm,an,af,ct,cq,rfl,lk,c7⟩:=F.ex;exact .all (h kV doc pm an af ct)
theorem uj{x qual:Str}{st:Stmt}{f:Addr}{oc:Value}{od an:Option Addr}{cq:Array (Option Value)}{kV doc pm af ct:Value}(l:K.lookup f=some ⟨oc,od,.func (PySem.W.fnOf x qual (e7 st) (d9 st) (az st) .none kV doc pm an af ct),cq⟩) (c:PySem.W.codeIn K af qual=true)(k:PySem.W.keepIn K (.ref f)=true):de K x qual st f (PySem.W.fnOf x qual (e7 st) (d9 st) (az st) .none kV doc pm an af ct):=⟨⟨oc,od,kV,doc,pm,an,af,ct,cq,rfl,l,c⟩,k⟩
end
section
variable {X:Cx}
theorem pv(i:Nat){x:Str}{pos:Pos}(hN:X.N[i]? =some x:=by rfl)(hv:jA X.env.scope x:=by first|exact Or.inl rfl|exact Or.inr (Or.inl rfl)|exact Or.inr (Or.inr rfl))(hd:(x==("__debug__":Str))=false:=by decide) (c7:(x==("__classdict__":Str))=false:=by decide):PE X (.Name x pos) (k7 i):=qD hN hv hd c7
end
theorem bC{A B:Prop}(h:B):if false=true then A else B:=by rw[aK cf];exact h
theorem cv{A B:Prop}(h:A):if true=true then A else B:=by rw[aD rfl];exact h
theorem bQ{c A B:Prop}[Decidable c](h1:c->A)(h2:¬c->B):if c then A else B:=by
 by_cases h:c
 · rw[aD h]
   exact h1 h
 · rw[aK h]
   exact h2 h
def ai(H H':Hp):Prop:=∀b o,H b=some o->H' b=some o
theorem ai.refl(H:Hp):ai H H:=fun _ _ h=>h
theorem ai.trans{H H1 H2:Hp}(a:ai H H1)(b:ai H1 H2):ai H H2:=fun c o h=>b c o (a c o h)
theorem ai.seq{K:vG}{H H':Hp}{a:Addr}{xs:List V}(e:ai H H')(h:ah K H a xs):ah K H' a xs:=by
 rcases h with(h|⟨o,h⟩)|h
 ·exact .inl (.inl (e _ _ h))
 ·exact .inl (.inr ⟨o,e _ _ h⟩)
 ·exact .inr h
def Wd (i:Int):Prop:=i.natAbs<2^5000
theorem Wd.log{i:Int}(h:Wd i):i.natAbs.log2<9000:=by
 by_cases e:i.natAbs=0
 ·rw[e];decide
 · have h1:i.natAbs.log2<5000:=(Nat.log2_lt e).mpr h
   omega
section
variable {X:Cx}
theorem lJ:aC X (binaryOp .FloorDiv) (rI (fun _ j=>0<j/\Wd j) fun i j=>.int (i/j)):=dS fun i j _ _ _ _ _ hc q=>by have h1:(0:Int)<j:=hc.1;exact floordiv_int (by omega) (by rw[Int.fdiv_eq_ediv_of_nonneg i (by omega)];exact q) (.inl (oJ hc.2.log))
theorem lK:aC X (binaryOp .FloorDiv) (rI (fun _ j=>j≠0/\Wd j) fun i j=>.int (i.fdiv j)):=dS fun _ _ _ _ _ _ _ hc q=>floordiv_int hc.1 q (.inl (oJ hc.2.log))
end
def eR(K:vG)(H:Hp)(x:V)(T:String):Prop:=match x with | .aE=>T="NoneType" | .bl _=>T="bool" | .int _=>T="int" | .str _=>T="str" | .ref a=>(T="list"/\∃xs,ah K H a xs)\/(T="tuple"/\∃xs,aj K H a xs) |_=>False
def dn(T n:String):Bool:=T==n||(T=="bool"&&n=="int")
def g9:List String:=["NoneType","bool","int","str","list","tuple"]
def f9:List String:=["bool","int","str","list","tuple"]
theorem m9{K:vG}{T n:String}(h1:T∈g9)(h2:n∈f9):PySem.W.kitOne K (.type T) (.type n)=some (dn T n):=by
 have all:g9.all (fun T=>f9.all fun n=>PySem.W.kitOne [] (.type T) (.type n)==some (dn T n))=true:=by decide+kernel
 have a1:=cM.mp all T h1;have a2:=cM.mp a1 n h2;have e:PySem.W.kitOne K (.type T) (.type n)=PySem.W.kitOne [] (.type T) (.type n):=by unfold PySem.W.kitOne PySem.W.kitCls PySem.W.subIn;rfl
 rw[e];exact bI.mp a2
section
variable {X:Cx}
theorem eR.mem{K:vG}{H:Hp}{x:V}{T:String}(h:eR K H x T):T∈g9:=by cases x with |aE=>cases(show T="NoneType" from h);decide |bl b=>cases(show T="bool" from h);decide |int b=>cases(show T="int" from h);decide |str b=>cases(show T="str" from h);decide |ref a=>rcases(show(T="list"/\∃xs,ah K H a xs)\/(T="tuple"/\∃xs,aj K H a xs)from h)with⟨e,_⟩|⟨e,_⟩<;>cases e<;>decide |_=>exact(show False from h).elim
theorem ma{pins:List (Addr×Obj)}{s:vH}{σ:St}{H:Hp}{x:V}{u:Value}{T:String}(I:Inv X pins σ H s)(rx:RelV x u)(ty:eR X.K H x T): ∃P:Heap->Prop,PySem.W.KitX X.K u (.type T) P/\P s.heap/\u≠ .builtin "__main__.__loader__#opaque":=by cases x with
  |aE=>cases(show T="NoneType" from ty);cases(show u=Value.none from rx);exact⟨_,PySem.W.kitx_none,True.intro,fun z=>nomatch z⟩ |bl b=>cases(show T="bool" from ty);cases(show u=Value.bool b from rx);exact⟨_,PySem.W.kitx_bool,True.intro,fun z=>nomatch z⟩ |int b=>cases(show T="int" from ty);obtain⟨t,q⟩:=(show∃t,u=Value.int b t from rx);cases q;exact⟨_,PySem.W.kitx_int,True.intro,fun z=>nomatch z⟩ |str b=>cases(show T="str" from ty);obtain⟨t,q⟩:=(show∃t,u=Value.str b t from rx);cases q;exact⟨_,PySem.W.kitx_str,True.intro,fun z=>nomatch z⟩ |ref a=>
    cases(show u=Value.ref a from rx);rcases(show(T="list"/\∃xs,ah X.K H a xs)\/(T="tuple"/\∃xs,aj X.K H a xs)from ty)with⟨e,xs,hx⟩|⟨e,xs,hx⟩
    · cases e
      obtain⟨its,r,⟨o,n,h1,h2,_⟩,_⟩:=I.list hx;exact⟨_,PySem.W.kitx_list,⟨o,h1,h2⟩,fun z=>nomatch z⟩
    · cases e
      obtain⟨its,r,⟨o,h1,h2,_⟩,_⟩:=I.tuple hx;exact⟨_,PySem.W.kitx_tuple,⟨o,h1,h2⟩,fun z=>nomatch z⟩ |_=>exact(show False from ty).elim
inductive ow(K:vG)(xs:List V)(H:Hp)(Q:VK):Prop |mk (x:_)(T:_)(n:_)(b:_)(h0:xs=[x,.ty n])(h1:eR K H x T)(h2:n∈f9)(h3:dn T n=b)(h4:Q (.bl b) H):ow K xs H Q
def iE(K:vG):List V->Hp->VK->Prop:=fun xs H Q=>ow K xs H Q
theorem uF:aX X (.builtin "isinstance") (iE X.K):=by intro pins s σ H xs us Q I r h;obtain⟨x,T,n,b,rfl,ty,hn,rfl,q⟩:=h;obtain⟨u,c,rfl,rx,rc⟩:=vals2 r;cases(show c=Value.type n from rc);obtain⟨P,Z,p,hx⟩:=ma I rx ty;exact PySem.W.kia_one Z I.dz p (m9 ty.mem hn) hx fun tk=>⟨.bl (dn T n),H,I.tok _,rfl,q⟩
inductive ou(K:vG)(xs:List V)(H:Hp)(Q:VK):Prop |mk (x:V)(T:String)(p:Addr)(ns:List String)(b:Bool)(h0:xs=[x,.ref p])(h1:H p=some (.tup (ns.map V.ty)))(h2:eR K H x T)(h3:(∀n∈ns,n∈f9))(h4:ns.any (dn T)=b)(h5:Q (.bl b) H):ou K xs H Q
def iD(K:vG):List V->Hp->VK->Prop:=fun xs H Q=>ou K xs H Q
theorem m8{K:vG}{T:String}(h1:T∈g9):∀{ns:List String},(∀n∈ns,n∈f9)->PySem.W.kitAny K (.type T) (ns.map Value.type)=some (ns.any (dn T)) |[],_=>rfl |n::r,h=>by have e:=m9 (K:=K) h1 (h n (jU ..));have ih:=m8 (K:=K) h1 (ns:=r) fun m hm=>h m (gT _ hm);rw[List.map_cons,PySem.W.kitAny,e,List.any_cons];cases dn T n with |true=>rfl |false=>simpa using ih
theorem jZ:∀{ns:List String}{us:List Value},Vals (ns.map V.ty) us->us=ns.map Value.type |[],_,.nil=>rfl |n::r,_,.cons q t=>by cases(show _=Value.type n from q);rw[jZ t];rfl
theorem uE:aX X (.builtin "isinstance") (iD X.K):=by intro pins s σ H xs us Q I r h;obtain⟨x,T,p,ns,b,rfl,hp,ty,hn,rfl,q⟩:=h;obtain⟨u,c,rfl,rx,rc⟩:=vals2 r;cases(show c=Value.ref p from rc);obtain⟨P,Z,pp,hx⟩:=ma I rx ty;obtain⟨_,its,rv,⟨cls,dd,dt,sl⟩,h1,h2,n,h3⟩:=(show bH X.prog X.w H s.heap p (.tup (ns.map V.ty))from I.hok p _ hp);simp only at h2 h3;subst h2 h3;have e:=jZ rv;subst e;exact PySem.W.kia_tup Z I.dz pp h1 (m8 ty.mem hn) hx fun tk=>⟨.bl _,H,I.tok _,rfl,q⟩
end
mutual
def RD(K:vG)(H:Hp):V->vJ->Prop |x,.none=>x= .aE |x,.bool b=>x= .bl b |x,.int i=>x= .int i |x,.str y=>x= .str y |x,.list ds=>∃a xs,x= .ref a/\ah K H a xs/\aa K H xs ds |x,.tuple ds=>∃a xs,x= .ref a/\aj K H a xs/\aa K H xs ds |_,.dict _=>False
def aa (K:vG)(H:Hp):List V->List vJ->Prop |xs,[]=>xs=[] |xs,d::ds=>∃y ys,xs=y::ys/\RD K H y d/\aa K H ys ds
end
section
variable {X:Cx}
mutual
theorem RD.reads{pins:List (Addr×Obj)}{s:vH}{σ:St}{H:Hp}(I:Inv X pins σ H s):∀{x:V}{u:Value}(d:vJ),RelV x u->RD X.K H x d->∃as,Reads s.heap u d as |x,u,.none,r,h=>by cases(show x= .aE from by simpa[RD]using h);cases(show u=Value.none from r);exact⟨_,.none⟩ |x,u,.bool b,r,h=>by cases(show x= .bl b from by simpa[RD]using h);cases(show u=Value.bool b from r);exact⟨_,.bool b⟩ |x,u,.int i,r,h=>by cases(show x= .int i from by simpa[RD]using h);obtain⟨t,q⟩:=(show∃t,u=Value.int i t from r);cases q;exact⟨_,.int i t⟩ |x,u,.str y,r,h=>by cases(show x= .str y from by simpa[RD]using h);obtain⟨t,q⟩:=(show∃t,u=Value.str y t from r);cases q;exact⟨_,.str y t⟩ |x,u,.list ds,r,h=>by rw[RD]at h;obtain⟨a,xs,rfl,hx,hd⟩:=h;cases(show u=Value.ref a from r);obtain⟨its,rv,⟨o,n,h1,h2,h3,h4⟩,_⟩:=I.list hx;obtain⟨as,q⟩:=aa.reads I ds rv hd;exact⟨_,.list h1 h2 h4 (by simpa using q)⟩ |x,u,.tuple ds,r,h=>by rw[RD]at h;obtain⟨a,xs,rfl,hx,hd⟩:=h;cases(show u=Value.ref a from r);obtain⟨its,rv,⟨o,h1,h2,n,h4⟩,_⟩:=I.tuple hx;obtain⟨as,q⟩:=aa.reads I ds rv hd;exact⟨_,.tuple h1 h2 h4 (by simpa using q)⟩ |x,u,.dict _,r,h=>by simp[RD]at h
theorem aa.reads {pins:List (Addr×Obj)}{s:vH}{σ:St}{H:Hp}(I:Inv X pins σ H s):∀{xs:List V}{us:List Value}(ds:List vJ),Vals xs us->aa X.K H xs ds->∃as,ReadsAll s.heap us ds as |xs,us,[],r,h=>by cases(show xs=[]from by simpa[aa]using h);cases r;exact⟨_,.nil⟩ |xs,us,d::ds,r,h=>by rw[aa]at h;obtain⟨y,ys,rfl,h1,h2⟩:=h;cases r with |cons ra rb=>obtain⟨as,q⟩:=RD.reads I d ra h1;obtain⟨bs,q'⟩:=aa.reads I ds rb h2;exact⟨_,.cons q q'⟩
end
inductive oz(K:vG)(x:V)(y:V)(H:Hp)(Q:VK):Prop |mk (d:_)(e:_)(h0:RD K H x d)(h1:RD K H y e)(h2:SeqAt.shaped d=true)(h3:SeqAt.shaped e=true)(h4:Q (.bl (PyData.eqv d e)) H):oz K x y H Q
def iG(K:vG):R2:=fun x y H Q=>oz K x y H Q
inductive oi(K:vG)(x:V)(y:V)(H:Hp)(Q:VK):Prop |mk (d:_)(e:_)(h0:RD K H x d)(h1:RD K H y e)(h2:SeqAt.shaped d=true)(h3:SeqAt.shaped e=true)(h4:Q (.bl (!PyData.eqv d e)) H):oi K x y H Q
def iA(K:vG):R2:=fun x y H Q=>oi K x y H Q
theorem qY(hu:X.A.units+64<cLine):aC X (compareOp .Eq) (iG X.K):=by intro pins s σ H x y v u Q I rx ry h;obtain⟨d,e,hd,he,sd,se,q⟩:=h;obtain⟨as,ra⟩:=RD.reads I d rx hd;obtain⟨bs,rb⟩:=RD.reads I e ry he;exact eq_dataH ra rb sd se hu ⟨.bl _,H,I,rfl,q⟩
theorem qS(hu:X.A.units+64<cLine):aC X (compareOp .NotEq) (iA X.K):=by intro pins s σ H x y v u Q I rx ry h;obtain⟨d,e,hd,he,sd,se,q⟩:=h;obtain⟨as,ra⟩:=RD.reads I d rx hd;obtain⟨bs,rb⟩:=RD.reads I e ry he;exact ne_dataH ra rb sd se hu ⟨.bl _,H,I,rfl,q⟩
end
end L2
namespace L2
open PySem PySem.Spec PyProof.Rows
theorem ai.new{H:Hp}{t:Addr}{o:HO}(ht:H t=none):ai H (upd H t o):=fun b o' e=>by rw[aF (cu e ht)];exact e
structure Nw(H H':Hp)(p:Addr)(o:HO):Prop where
 no:H p=none
 at':H' p=some o
 same:ai H H'
 eq:H'=upd H p o
theorem Nw.of{H:Hp}{p:Addr}{o:HO}(h:H p=none):Nw H (upd H p o) p o:=⟨h,cj,.new h,rfl⟩
def gH:List Str:=["len","abs","min","max","range","isinstance","int","bool","str","tuple","list","any","all","sum","zip","enumerate","sorted","reversed","ord","chr","divmod","repr","dict","set"]
def aG(mg:Str->Option Value):Prop:=∀x∈gH,mg x=none
theorem aG.at{mg:Str->Option Value}(B:aG mg)(x:Str)(h:x∈gH:=by decide):mg x=none:=B x h
theorem bS{α:Type}{C:List α->Prop}(h:∀a,C [a]):∀us:List α,us.length=1->C us |[_],_=>h _
theorem ee{α:Type}{C:List α->Prop}(h:∀a b,C [a,b]):∀us:List α,us.length=2->C us |[_,_],_=>h _ _
def mM(N P:List Str)(sc:Scope):Bool:=decide (sc.kind= .function)&& !sc.isCoroutine&& !sc.isGenerator&&decide N.Nodup&&decide (N.take P.length=P)&&P.all (fun x=>decide (sc.names.lookup x=some .local\/sc.names.lookup x=some .cell))&&sc.names.all fun y=>decide (y.2≠ .free)
theorem aR{N P:List Str}{sc:Scope}(h:mM N P sc=true):aJ N P sc:=by unfold mM at h;simp only[cg,decide_eq_true_eq,gU,cM]at h;obtain⟨⟨⟨⟨⟨⟨h1,h2⟩,h3⟩,h4⟩,h5⟩,h6⟩,h7⟩:=h;exact⟨h1,h2,h3,h4,h5,h6,h7⟩
structure FA(K:vG)(mg:Str->Option Value)(x:Str)(st:Stmt):Prop where ex:∃f fd,mg x=some (.ref f)/\de K x x st f fd
def ab(P:vI)(w:World)(K:vG)(mg:Str->Option Value)(base:Heap)(x:Str)(k:Nat)(sp:Sp):Prop:=∃f fd ps,cK P w K mg base df k f fd ps sp/\mg x=some (.ref f)/\PySem.W.keepIn K (.ref f)=true/\Binds K fd ps []
section
variable {P:vI}{w:World}{K:vG}{mg:Str->Option Value}{base:Heap}
theorem uq{h:Heap}{x:Str}{st:Stmt}{f:Addr}{oc:Value}{od an:Option Addr}{cq:Array (Option Value)}{kV doc pm af ct:Value}(X:K.In h)(G:h.Ns mainGlobals mg) (a:PySem.W.nsIn K mainGlobals x=some (some (.ref f))) (l:K.lookup f=some ⟨oc,od,.func (PySem.W.fnOf x x (e7 st) (d9 st) (az st) .none kV doc pm an af ct),cq⟩) (c:PySem.W.codeIn K af x=true)(k:PySem.W.keepIn K (.ref f)=true):FA K mg x st:=⟨f,_,PySem.W.mg_of X G a,uj l c k⟩
theorem FA.has{x:Str}{st:Stmt}{N ps:List Str}{k:Nat}{sp:Sp}(F:FA K mg x st)(S:aJ N ps (az st))(len:∀vs H Q E,sp vs H Q E->vs.length=ps.length) (hb:∀(kV doc pm:Value)(an:Option Addr)(af ct:Value)(us:List Value),us.length=ps.length->bindArgs (PySem.W.fnOf x x (e7 st) (d9 st) (az st) .none kV doc pm an af ct) ⟨us,[]⟩=pure (ps.zip us)) (fO:∀(f:Addr)(af:Value)(A:vK)(outer:List Env)(s:vH)(H:Hp)(vs:List V)(Q:VK)(E:XK),aV k (A.deeper (envOfC x (az st) s.heap.objs.size f af))->sp vs H Q E->∃t,bG (e8 df P w K mg base N x (az st) f af A outer s H E).fz (d9 st) t/\t {nx:=fun _ H'=>Q .aE H',rt:=Q} (start N vs) H):ab P w K mg base x (k+1) sp:=by obtain⟨f,fd,hm,F⟩:=F.ex;exact⟨f,fd,ps,F.ok S len fun af A outer s H vs Q E=>fO f af A outer s H vs Q E,hm,F.kp,F.binds hb⟩
end
section
variable {X:Cx}{k:Nat}{x:Str}{p pos:Pos}{e:Expr}{es:List Expr}{t:TA}{sp:Sp}
def k8(sp:Sp)(t:TA):TE:=fun σ H Q=>t σ H fun vs H1=>sp vs H1 Q E0
theorem qH(F:ab X.prog X.w X.K X.mg X.base x k sp)(hr:aV k X.A)(hg:Gl X x)(ha:PA X (e::es) t)(cY:(x==("__debug__":Str))=false:=by decide) (he:starEach (e::es) X.env=(false,eval e X.env)::starEach es X.env:=by rfl)(bD:(backTo pos (starEach es X.env)).any (·.1)=false:=by rfl): PE X (.Call (.Name x p) (e::es) [] pos) (k8 sp t):=by
  obtain⟨f,fd,ps,F,hm,hk,hb⟩:=F;have h:=qI (pos:=pos) (p:=p) F hr hg hm hk hb .nil qN ha cY he bD;intro pins s σ H Q I hq;refine h pins s σ H Q I ?_;have e1:(fun(vs:List V) H1=>sp (vs++[]) H1 Q E0)=fun vs H1=>sp vs H1 Q E0:=by funext vs H1;rw[List.append_nil]
  show t σ H fun vs H1=>sp (vs++[]) H1 Q E0;rw[e1];exact hq
theorem pf{j:Nat}(F:ab X.prog X.w X.K X.mg X.base x j sp)(hr:aV k X.A)(ha:PA X (e::es) t)(tx:j<=k:=by decide)(hg:Gl X x:=by rfl)(cY:(x==("__debug__":Str))=false:=by decide)(he:starEach (e::es) X.env=(false,eval e X.env)::starEach es X.env:=by rfl)(bD:(backTo pos (starEach es X.env)).any (·.1)=false:=by rfl):PE X (.Call (.Name x p) (e::es) [] pos) (k8 sp t):=qH F (hr.mono tx) hg ha cY he bD
theorem c3:aC X (binaryOp .Mult) (rI (fun i j=>IntMulOk i j) fun i j=>.int (i*j)):=dS fun _ _ _ _ _ _ _ hc q=>mul_int q hc
theorem qX:aC X (compareOp .Eq) (bK fun i j=>.bl (decide (i=j))):=fx fun _ _ _ _ _ _ _ q=>eq_int (by rw[Bool.beq_eq_decide_eq];exact q)
theorem qR:aC X (compareOp .NotEq) (bK fun i j=>.bl (!decide (i=j))):=fx fun _ _ _ _ _ _ _ q=>ne_int (by rw[bne,Bool.beq_eq_decide_eq];exact q)
theorem qZ(hu:X.A.units+64<cLine):aC X (compareOp .Eq) (fun x y H Q=>bK (fun i j=>.bl (decide (i=j))) x y H Q\/iG X.K x y H Q):=qX.or (qY hu)
theorem qT(hu:X.A.units+64<cLine):aC X (compareOp .NotEq) (fun x y H Q=>bK (fun i j=>.bl (!decide (i=j))) x y H Q\/iA X.K x y H Q):=qR.or (qS hu)
theorem du{K:vG}{H:Hp}(i:Int):RD K H (.int i) (.int i):=by simp[RD]
theorem au{K:vG}{H:Hp}(x:Str):RD K H (.str x) (.str x):=by simp[RD]
theorem cD{K:vG}{H:Hp}{p:Addr}{xs:List V}{ds:List vJ}(h:aj K H p xs)(r:aa K H xs ds):RD K H (.ref p) (.tuple ds):=by rw[RD];exact⟨p,xs,rfl,h,r⟩
theorem bX{K:vG}{H:Hp}:aa K H [] []:=by simp[aa]
theorem aU{K:vG}{H:Hp}{x:V}{xs:List V}{d:vJ}{ds:List vJ}(h:RD K H x d)(r:aa K H xs ds):aa K H (x::xs) (d::ds):=by rw[aa];exact⟨x,xs,rfl,h,r⟩
inductive nO(t:TS)(D:Ends)(σ:St)(H:Hp):Prop |mk (jH:St->Hp->Prop)(h0:t {D with nx:=jH} σ H)(h1:∀σ' H',jH σ' H'->D.nx σ' H'):nO t D σ H
def pE (t:TS):TS:=fun D σ H=>nO t D σ H
theorem gv{st:Stmt}{t:TS}(h:PS X st t):PS X st (pE t):=by intro pins s σ H D I hq;obtain⟨jH,q,m⟩:=hq;refine a9 (h pins s σ H _ I q) fun f s1 q1=>?_;cases f with |next=>obtain⟨σ',H',I',q'⟩:=q1;exact⟨σ',H',I',m _ _ q'⟩ |brk=>exact q1 |cont=>exact q1 |ret u=>exact q1
end
end L2
namespace L2
open PySem PySem.Spec PyProof.Rows
def dC(K:vG)(xs:List Str):Prop:=∀x∈xs,PySem.W.nsIn K mainGlobals x=some none
theorem dC.nil{K:vG}:dC K []:=fun _ h=>nomatch h
theorem dC.cons{K:vG}{x:Str}{xs:List Str}(a:PySem.W.nsIn K mainGlobals x=some none)(r:dC K xs):dC K (x::xs):=fun y hy=>by
 rcases di.mp hy with e|e
 ·rw[e];exact a
 ·exact r y e
theorem uJ{K:vG}{mg:Str->Option Value}{h:Heap}(X:K.In h)(G:h.Ns mainGlobals mg)(a:dC K gH):aG mg:=fun x hx=>PySem.W.mg_none_of X G (a x hx)
theorem su{l:PySem.W.OpenLaw}{q:vI}{loose:List Str}{XP:(Str->Option Value)->Heap->Prop}{YP:World->Heap->Prop}{d:DefRec}{K:Params->vG}{k:Nat}{x:Str}{st:Stmt}(hn:l.most=some 63)(fN:d.params.defaults=[]) (hr:aV k callerA)(hY:∀(w:World)(h:Heap),YP w h->(K w.params).In h)(All:vG->(Str->Option Value)->Prop) (F:∀(w:World)(mg:Str->Option Value)(h:Heap),(K w.params).In h->h.Ns mainGlobals mg->All (K w.params) mg) (L:∀(K:vG)(mg:Str->Option Value),All K mg->FA K mg d.name st) (hb:∀(kV doc pm:Value)(an:Option Addr)(af ct u:Value),bindArgs (PySem.W.fnOf d.name d.name (e7 st) (d9 st) (az st) .none kV doc pm an af ct) ⟨[u],[]⟩=pure [(x,u)]) (ok:∀(P:vI)(w:World)(K:vG)(mg:Str->Option Value)(base:Heap)(f:Addr)(fd:FuncData),All K mg->de K d.name d.name st f fd->cK P w K mg base df k f fd [x] (fun vs H Q _=>∃(a:Addr)(ns:List Int),vs=[.ref a]/\ah K H a (ns.map V.int)/\ns.length<=63/\∀H',Q (.bl true) H')): PySem.W.WalkO q loose XP YP l.row.toRowW d [] (fun f vs=>PySem.call f vs):=L2.oV (n:=63) (k:=k) (x:=x) (CX:=fun _=>df) (sp:=fun w=>fun vs H Q _=>∃(a:Addr)(ns:List Int),vs=[.ref a]/\ah (K w.params) H a (ns.map V.int)/\ns.length<=63/\∀H',Q (.bl true) H') hn (by decide) fN hr hY (fun w mg fa h KX G fM=>by
     have A:=F w mg h KX G;obtain⟨f,fd,hm,Fn⟩:=(L _ _ A).ex;have e:fa=f:=by rw[fM]at hm;injection (cB hm)
     subst e;refine⟨fd,fun s u=>?_,fun base _ _=>ok l.prog w _ mg base fa fd A Fn⟩;obtain⟨oc,od,kV,doc,pm,an,af,ct,cq,rfl,lk,c7⟩:=Fn.ex;exact .of_eq (hb kV doc pm an af ct u)) (fun _ _ a ns hl _ hS=>⟨a,ns,rfl,hS,hl,fun _=>rfl⟩) fun _ _ _ _ _ z=>z
theorem jt{env:Env}:∀(ns:List (Str×NameKind))(cs:List (Str×Addr)),(∀x∈ns,x.2= .free->∃c,env.cells.lookup x.1=some c)->(∀x c,cs.lookup x=some c->env.cells.lookup x=some c)->∃cl,(forIn ns cs (fun x r=>if(x.2==NameKind.free)=true then do let a<-cellOf env x.1;pure (ForInStep.yield ((x.1,a)::r))else pure (ForInStep.yield r)):Sem (List (Str×Addr)))=pure cl/\(∀x c,cl.lookup x=some c->env.cells.lookup x=some c)/\(∀x c,cs.lookup x=some c->∃c',cl.lookup x=some c')/\∀x∈ns,x.2= .free->∃c,cl.lookup x.1=some c
  |[],cs,_,h2=>⟨cs,rfl,h2,fun x c e=>⟨c,e⟩,fun _ h=>nomatch h⟩ |(n,k)::r,cs,h1,h2=>by
    by_cases hk:k= .free
    · subst hk
      obtain⟨c,hc⟩:=h1 (n,.free) (.head _) rfl;have e1:cellOf env n=pure c:=by unfold cellOf;rw[show env.cells.lookup n=some c from hc]
      obtain⟨cl,a1,a2,a3,a4⟩:=jt r ((n,c)::cs) (fun x hx=>h1 x (.tail _ hx)) (fun x d e=>by rw[bu]at e;cases z:x==n with |true=>rw[z]at e;cases e;rw[bI.mp z];exact hc |false=>rw[z]at e;exact h2 x d e);refine⟨cl,?_,a2,fun x d e=>?_,fun x hx hf=>?_⟩
      · rw[List.forIn_cons]
        show(do let r'<-(if(NameKind.free==NameKind.free)=true then do let a<-cellOf env n;pure (ForInStep.yield ((n,a)::cs))else pure (ForInStep.yield cs));_)=_;rw[aD (by rfl),e1];exact a1
      · by_cases z:x==n
        ·exact a3 x c (by rw[bu,z])
        ·exact a3 x d (by rw[bu,Bool.eq_false_iff.mpr z];exact e)
      · rcases di.mp hx with rfl|hx
        ·exact a3 n c (by rw[bu,beq_self_eq_true])
        ·exact a4 x hx hf
    · obtain⟨cl,a1,a2,a3,a4⟩:=jt r cs (fun x hx=>h1 x (.tail _ hx)) h2
      refine⟨cl,?_,a2,a3,fun x hx hf=>?_⟩
      · rw[List.forIn_cons]
        show(do let r'<-(if(k==NameKind.free)=true then do let a<-cellOf env n;pure (ForInStep.yield ((n,a)::cs))else pure (ForInStep.yield cs));_)=_;rw[aK (by simpa using hk)];exact a1
      · rcases di.mp hx with rfl|hx
        ·exact absurd hf hk
        ·exact a4 x hx hf
theorem mY{env:Env}{scope:Scope}(h1:∀x∈scope.names,x.2= .free->∃c,env.cells.lookup x.1=some c): ∃cl,closureFor scope env=pure cl/\(∀x c,cl.lookup x=some c->env.cells.lookup x=some c)/\∀x∈scope.names,x.2= .free->∃c,cl.lookup x.1=some c:=by
  obtain⟨cl,a1,a2,_,a4⟩:=jt (env:=env) scope.names [] h1 (fun x c e=>nomatch e);refine⟨cl,?_,a2,a4⟩;unfold closureFor;show(forIn scope.names ([]:List (Str×Addr)) (fun(x:Str×NameKind) r=>match x with|(name,kind)=>if(kind==NameKind.free)=true then do let a<-cellOf env name;pure (ForInStep.yield ((name,a)::r))else pure (ForInStep.yield r))>>=fun r=>(pure r:Sem (List (Str×Addr))))=pure cl;have ef:(fun(x:Str×NameKind)(r:List (Str×Addr))=>match x with|(name,kind)=>(if(kind==NameKind.free)=true then do let a<-cellOf env name;pure (ForInStep.yield ((name,a)::r))else pure (ForInStep.yield r):Sem (ForInStep (List (Str×Addr))))) =fun x r=>if(x.2==NameKind.free)=true then do let a<-cellOf env x.1;pure (ForInStep.yield ((x.1,a)::r))else pure (ForInStep.yield r):=by funext x r;obtain⟨n,k⟩:=x;rfl
  rw[ef,a1];rfl
theorem lZ{env:Env}(hk:env.scope.kind= .function){x:Str}(hx:env.kindOf x=some .cell):∀{names:List (Str×NameKind)},names.lookup x=some .free->(names.map fun(n,k)=>if(k==NameKind.free&&env.scope.kind== .function&&env.kindOf n==some .cell)then(n,NameKind.cell)else(n,k)).lookup x=some .cell |[],h=>nomatch h |(n,k)::r,h=>by have ih:=@lZ env hk x hx r;show List.lookup x ((if(k==NameKind.free&&env.scope.kind== .function&&env.kindOf n==some .cell)=true then(n,NameKind.cell)else(n,k))::_)=_;cases z:x==n with |true=>simp only[bu,z]at h;cases h;have e:=bI.mp z;subst e;rw[aD (by rw[hk,hx];rfl),bu,z] |false=>simp only[bu,z]at h;split<;>(simp only[bu,z];exact ih h)
def aH(X:Cx)(N:List Str)(scope:Scope)(cl:List (Str×Addr))(s:vH)(H:Hp)(fp:List Addr)(pins:List (Addr×Obj)):Cx:={prog:=X.prog,w:=X.w,K:=X.K,mg:=X.mg,base:=X.base,A:=X.A,N:=N,s₀:=s,H₀:=H,env:=compEnvC scope cl s.heap.objs.size X.env,outer:=X.stack,stack:=X.stack,ex:=fp,fn:=fun _=>false,calm:=X.calm,pn:=X.pn++pins,xe:=fun _ _=>False}
def stC(js:List (Option Nat))(σ:St):St:=js.map fun|none=>none|some j=>(σ[j]?).join
def gF(X:Cx)(N:List Str)(js:List (Option Nat))(scope:Scope):Bool:=N.length==js.length&&(N.zip js).all fun p=>match p.2 with|none=>true|some j=>X.N[j]? ==some p.1&&scope.names.lookup p.1==some NameKind.free&&X.env.kindOf p.1==some NameKind.cell
def eQ(X:Cx)(scope:Scope):Bool:=scope.kind== .function&&X.env.scope.kind== .function&&scope.names.all fun x=>match x.2 with | .free=>X.env.kindOf x.1==some NameKind.cell | .cell=>false | .local=>scope.names.lookup x.1==some NameKind.local |_=>true
section
variable {X:Cx}{pins:List (Addr×Obj)}{σ:St}{H:Hp}{s:vH}
theorem lookup_mem{α β:Type}[BEq α][LawfulBEq α]:∀{l:List (α×β)}{x:α}{b:β},l.lookup x=some b->(x,b)∈l |[],_,_,h=>nomatch h |(n,k)::r,x,b,h=>by rw[bu]at h;cases z:x==n with |true=>rw[z]at h;cases h;rw[bI.mp z];exact .head _ |false=>rw[z]at h;exact .tail _ (lookup_mem h)
theorem lj{env:Env}{x:Str}{k:NameKind}:∀{names:List (Str×NameKind)},(names.map fun(n,k)=>if(k==NameKind.free&&env.scope.kind== .function&&env.kindOf n==some .cell)then(n,NameKind.cell)else(n,k)).lookup x=some k->names.lookup x=some k\/(k= .cell/\names.lookup x=some .free) |[],h=>nomatch h |(n,k')::r,h=>by have ih:=@lj env x k r;have h':List.lookup x ((if(k'==NameKind.free&&env.scope.kind== .function&&env.kindOf n==some .cell)=true then(n,NameKind.cell)else(n,k'))::(r.map fun(n,k)=>if(k==NameKind.free&&env.scope.kind== .function&&env.kindOf n==some .cell)then(n,NameKind.cell)else(n,k)))=some k:=h;cases z:x==n with
    |true=>
      split at h'
      · rename_i hc
        simp only[bu,z]at h';cases h';rw[cg,cg]at hc;have e:k'= .free:=bI.mp hc.1.1;subst e;exact .inr ⟨rfl,by rw[bu,z]⟩
      · simp only[bu,z]at h'
        cases h';exact .inl (by rw[bu,z]) |false=>
      rw[bu,z];refine ih ?_;split at h'
      ·simpa only[bu,z]using h'
      ·simpa only[bu,z]using h'
theorem Inv.comp{N:List Str}{js:List (Option Nat)}{scope:Scope}{cl:List (Str×Addr)}{fp:List Addr}{h':Heap}{tk:Nat}(I:Inv X pins σ H s)(hN:gF X N js scope=true)(hS:eQ X scope=true) (c1:∀x c,cl.lookup x=some c->X.env.cells.lookup x=some c)(c2:∀x∈scope.names,x.2= .free->∃c,cl.lookup x.1=some c)(hf:∀b∈fp,bT X pins H b)(tN:∀b∈fp,b<s.heap.objs.size) (hn:h'.Ns s.heap.objs.size fun _=>none)(hk:∀b o,s.heap.get? b=some o->h'.get? b=some o):Inv (aH X N scope cl s H fp pins) [] (stC js σ) H {s with heap:=h',toks:=tk}:=by
  unfold eQ at hS;rw[cg,cg]at hS;obtain⟨⟨s1,s2⟩,s3⟩:=hS;have cV:scope.kind= .function:=bI.mp s1;have tw:X.env.scope.kind= .function:=bI.mp s2;unfold gF at hN;rw[cg]at hN;obtain⟨n1,n2⟩:=hN;have hlen:N.length=js.length:=bI.mp n1;have ml:∀x k,(relabel scope X.env).names.lookup x=some k->scope.names.lookup x=some k\/(k= .cell/\scope.names.lookup x=some .free):=fun x k e=>lj e;have rR:∀x,scope.names.lookup x≠some .cell:=fun x e=>by have:=cM.mp s3 _ (lookup_mem e);exact cf this
  have mL:∀b∈(aH X N scope cl s H fp pins).fs,b∈X.env.locals::X.fs:=I.hU;have ok:(aH X N scope cl s H fp pins).Ok:={
    mod:=I.ok.mod
    kind:=cV
    glob:=I.ok.glob
    blt:=I.ok.blt
    above:=aw _
    inj:=fun x y c e1 e2=>I.ok.inj x y c (c1 x c e1) (c1 y c e2)
    has:=fun x hx=>by
     have fr:scope.names.lookup x=some .free->∃c,cl.lookup x=some c:=fun e=>c2 (x,.free) (lookup_mem e) rfl;rcases hx with e|e
     · rcases ml x _ e with e|⟨_,e⟩
       ·exact absurd e (rR x)
       ·exact fr e
     · rcases ml x _ e with e|⟨z,_⟩
       ·exact fr e
       ·cases z
    cab:=fun x c e=>nomatch e
    hd:=I.ok.hd
    frames:=I.ok.frames
    stk:=.inl rfl
    exf:=fun b hb=>⟨aW (tN b hb),fun x c e=>(hf b hb).2.2.2.2.1 x c (c1 x c e)⟩
    bs:=I.bs
    bsz:=dD I.ok.bsz I.sz
    noex:=fun b o e hb=>by
     rcases(hf b hb).2.2.2.1 with z|z
     ·exact I.ok.noex b o e z
     ·exact absurd (bt (av e) (dD I.ok.bsz z)) (eX _)
    exfs:=fun b hb z=>by
     obtain⟨_,q1,q2,_⟩:=hf b hb;rcases di.mp (mL b z)with e|e
     ·exact q1 e
     ·exact q2 e
    c8:=I.stack
    frf:=I.kc};refine⟨ok,rfl,I.bare,Un.kept hk,⟨_,hn,fun i x v e1 e2 e3=>?_⟩,fun x c e=>?_,I.hok.fresh (aw _),fun x c e=>I.freeC x c (c1 x c e),fun p hp=>?_,I.hok.kept hk,?_⟩
  · have eP:(js.map fun|none=>none|some j=>(σ[j]?).join)[i]? =some (some v):=e2
    rw[bo]at eP;cases hj:js[i]? with |none=>rw[hj]at eP;cases eP |some o=>rw[hj]at eP;cases o with |none=>cases eP |some j=>
        have hz:(N.zip js)[i]? =some (x,some j):=by rw[List.getElem?_zip_eq_some];exact⟨e1,hj⟩
        have mZ:=cM.mp n2 _ (eh hz);simp only[cg,bI]at mZ;obtain⟨⟨h1,h2⟩,h3⟩:=mZ;have gE:(σ[j]?).join=some v:=by simpa using eP
        have hσ:σ[j]? =some (some v):=by cases q:σ[j]? with |none=>rw[q]at gE;cases gE |some o=>
           rw[q]at gE;have:o=some v:=by simpa using gE
           rw[this]
        obtain⟨m,hm,hl⟩:=I.loc;obtain⟨u,r,l⟩:=hl j x v h1 hσ (.inr (.inl h3));refine⟨u,r,?_⟩;rcases l with⟨k,_⟩|⟨_,c,hc,dA⟩
        ·rw[h3]at k;cases k
        · obtain⟨c',dX⟩:=c2 (x,.free) (lookup_mem h2) rfl
          have:=c1 x c' dX;rw[hc]at this;cases this;refine .inr ⟨.inl (lZ tw h3 h2),c,dX,?_⟩;obtain⟨ob,ho,hd⟩:=dA;exact⟨ob,hk _ _ ho,hd⟩
  · obtain⟨v,ob,ho,hd⟩:=I.cell x c (c1 x c e)
    exact⟨v,ob,hk _ _ ho,hd⟩
  · have gC:p∈X.pn++pins:=by simpa[aH]using hp
    obtain⟨a1,a2,a3,a4,a5⟩:=I.pin p gC;refine⟨hk _ _ a1,a2,aW (av a1),fun z=>?_,a5⟩;rcases di.mp (mL p.1 z)with e|e
    ·exact a3 e
    ·exact a4 e
  · show(js.map _).length=N.length
    rw[aO,hlen]
end
theorem mX{prog:vI}{w:World}{A:vK}{R:Result->vH->Prop}{s:vH}{elt target iter:Expr}{ifs:List Expr}{scope:Scope}{pos:Pos}{it acc:Value}{env:Env}(I:Nat->vH->Prop) (turn:∀n s,I n s->wpAny (model prog w) A (pyNext it) (fun r s₁=>match r with |none=>R (.ok .next) s₁ |some v=>wpAny (model prog w) A (letOwnedTupleGo target it v) (fun _ s₁=>wpAny (model prog w) A (assign target env v) (fun _ s₂=>wpAny (model prog w) A (forIn ifs true fun c r=>if r=true then do let ok<-isTrue c env (eval c env);pure (ForInStep.yield ok)else pure (ForInStep.yield r)) (fun ok s₃=>if ok=true then wpAny (model prog w) A (eval elt env) (fun x s₄=>wpAny (model prog w) A (call (.builtin "list.append") [acc,x]) (fun _ s₅=>∃m,m<n/\I m s₅) (fun _ _=>False) s₄) (fun _ _=>False) s₃ else∃m,m<n/\I m s₃) (fun _ _=>False) s₂) (fun _ _=>False) s₁) (fun _ _=>False) s₁) (fun _ _=>False) s) (n:Nat)(h:I n s):codeAny (model prog w) A (.compLoop (.ListComp elt [⟨target,iter,ifs,0⟩] scope pos) 0 it acc env) R s:=by refine codeAny_loop rfl I (fun n s hI=>?_) n h;show wpAny _ A ((compTurn (.ListComp elt [⟨target,iter,ifs,0⟩] scope pos) 0 it acc env).onRaise (fun x=>do noteFrame x env;theTreesLotGoes x)) _ _ s;refine wpAny_noted ?_;rw[compTurn_list];refine aB (wpAny_standAt (aB (dg (turn n s hI) (fun r s₁ h₁=>?_) fun _ _ h'=>h'.elim)));cases r with |none=>exact br h₁ |some v=>refine aB (dg h₁ (fun _ ve h₁=>?_) fun _ _ h'=>h'.elim);refine aB (dg h₁ (fun _ s₂ h₂=>aB (dg h₂ (fun ok s₃ h₃=>?_) fun _ _ h'=>h'.elim)) fun _ _ h'=>h'.elim);cases ok with |false=>exact br ⟨rfl,h₃⟩ |true=>exact aB (aB (dg h₃ (fun x s₄ h₄=>aB (dg h₄ (fun _ s₅ h₅=>br (br ⟨rfl,h₅⟩)) fun _ _ h'=>h'.elim)) fun _ _ h'=>h'.elim))
def jE(X:Cx)(ifs:List Expr)(t:TT):Prop:=∀(pins:List (Addr×Obj))(s:vH)(σ:St)(H:Hp)(Q:Bool->Hp->Prop),Inv X pins σ H s->t σ H Q->wpAny (model X.prog X.w) X.A (forIn ifs true fun c r=>if r=true then do let ok<-isTrue c X.env (eval c X.env);pure (ForInStep.yield ok)else pure (ForInStep.yield r)) (TP X pins σ Q) X.xe s
def ey:TT:=fun _ H Q=>Q true H
theorem cO{X:Cx}:jE X [] ey:=fun _ _ _ H _ I h=>wpAny_tests_nil ⟨H,I,h⟩
def eU(J:It)(g:TG)(tt:TT)(te:TE)(Q:VK)(D:Addr)(σ:St)(H:Hp):Prop:=∃W:Nat->Nat->St->Hp->Prop,(∃m,W 0 m σ H)/\∀i m σ' H',W i m σ' H'->(J.stop i H'/\Q (.ref D) H')\/(J.go i H'/\∀x H2,J.yld i H' x H2->g x σ' H2 fun σ3 H3=>tt σ3 H3 fun ok H4=>if ok=true then te σ3 H4 fun y H5=>∃ys,H5 D=some (.lst ys)/\ys.length<sizeLine/\∃m',m'<m/\W (i+1) m' σ3 (upd H5 D (.lst (ys++[y]))) else∃m',m'<m/\W (i+1) m' σ3 H4)
def k9(js:List (Option Nat))(wi:TI)(g:TG)(tt:TT)(te:TE):TE:=fun σ H Q=>wi σ H fun J H1=>∀D H2,Nw H1 H2 D (.lst [])->eU J g tt te Q D (stC js σ) H2
theorem aI.but{P:vI}{w:World}{H:Hp}{h h':Heap}{C:Addr}(ok:aI P w H h)(hn:H C=none)(hs:Heap.SameBut C h h'):aI P w H h':=fun b ob e=>by
 refine(ok b ob e).dJ (fun c w' hc q=>(hs.2 c ?_).trans q) (fun _ q=>q) fun _ _ q=>q;rintro rfl;rcases hc with rfl|hc
 ·rw[hn]at e;cases e
 ·rw[hn]at hc;cases hc
set_option maxHeartbeats 1000000 in
theorem dw{X:Cx}{N:List Str}{js:List (Option Nat)}{elt tg iter:Expr}{ifs:List Expr}{scope:Scope}{pos:Pos}{wi:TI}{g:TG}{tt:TT}{te:TE}(hc:X.calm=true)(hN:gF X N js scope=true)(hS:eQ X scope=true) (hi:PI X tg iter wi)(hg:∀cl s H fp pins,PG (aH X N scope cl s H fp pins) tg g)(ht:∀cl s H fp pins,jE (aH X N scope cl s H fp pins) ifs tt)(he:∀cl s H fp pins,PE (aH X N scope cl s H fp pins) elt te) (hs:∀x,foldedSetIterable iter X.env x=pure x:=by intro _;rfl):PE X (.ListComp elt [⟨tg,iter,ifs,0⟩] scope pos) (k9 js wi g tt te):=by
  intro pins s σ H Q I h;have d8:=hS;unfold eQ at d8;rw[cg,cg]at d8;obtain⟨⟨k1,k2⟩,k3⟩:=d8;have cV:scope.kind= .function:=bI.mp k1;have eM:∀x∈scope.names,x.2= .free->∃c,X.env.cells.lookup x.1=some c:=fun x hx e=>by have:=cM.mp k3 x hx;rw[e]at this;exact I.ok.has x.1 (.inl (bI.mp this))
  have dA:∀x∈scope.names,x.2≠ .cell:=fun x hx e=>by have:=cM.mp k3 x hx;rw[e]at this;exact cf this
  have j8:∀x∈scope.names,x.2= .local->scope.names.lookup x.1=some .local:=fun x hx e=>by have:=cM.mp k3 x hx;rw[e]at this;exact bI.mp this
  obtain⟨cl,ja,c1,c2⟩:=mY eM;rw[eval_ListComp];refine wpAny_comprehension_free (use:=none) rfl hs ja cV j8 (a9 (hi pins s σ H _ I h) fun v s1 h1=>a9 h1 fun gy s2 h2=>?_);obtain⟨it,fp,tn,J,H2,e,I2,T,dN,f2,h2⟩:=h2;subst e;have hD:H2 s2.heap.objs.size=none:=I2.hok.fresh (aw _);obtain⟨W,⟨m0,w0⟩,turn⟩:=h2 _ _ (Nw.of hD);refine jM (wpAny_newFunctionEnv dA (by intro y hy;simp at hy) (fun h₁ fK fJ=>?_) cV);have e6:∀b∈fp,b<s2.heap.objs.size:=fun b hb=>by obtain⟨o,e,_⟩:=T.obj _ _ dN b hb;exact av e
  have I3:Inv X pins σ (upd H2 s2.heap.objs.size (.lst [])) {s2 with heap:=s2.heap.push {cls:=.type "list",dict:=none,data:=.seq ([]:List Value).toArray}}:=I2.m3 (its:=[]) (t':=s2.toks) .nil (eW _);generalize fP:s2.heap.push {cls:=.type "list",dict:=none,data:=.seq ([]:List Value).toArray}=h3 at I3 fK fJ;have fe:h3.objs.size=s2.heap.objs.size+1:=by rw[<-fP,Heap.size_push]
  have iU:∀b o,s2.heap.get? b=some o->h3.get? b=some o:=fun b o e=>by rw[<-fP];exact bw _ e
  have f3:∀b∈fp,bT X pins (upd H2 s2.heap.objs.size (.lst [])) b:=fun b hb=>⟨by rw[aF (aW (e6 b hb))];exact(f2 b hb).1,(f2 b hb).2⟩;have fI:∀b o,h3.get? b=some o->h₁.get? b=some o:=fun b o e=>(fJ.2 b (aW (av e))).trans (bw _ e);have I4:Inv (aH X N scope cl {s2 with heap:=h3} (upd H2 s2.heap.objs.size (.lst [])) fp pins) [] (stC js σ) (upd H2 s2.heap.objs.size (.lst [])) {s2 with heap:=h₁,toks:=s2.toks+([]:List (Str×Value)).length}:=I3.comp (s:={s2 with heap:=h3}) hN hS c1 c2 f3 (fun b hb=>by show b<h3.objs.size;rw[fe];exact jQ (e6 b hb)) (by simpa using fK) fI;have ff:tn 0 h₁:=T.keep _ _ _ dN fun b _ o e=>fI b o (iU b o e);have loop:codeAny (model X.prog X.w) X.A (.compLoop (.ListComp elt [⟨tg,iter,ifs,0⟩] scope pos) 0 (.ref it) (.ref s2.heap.objs.size) (compEnvC scope cl h3.objs.size X.env)) (compPost (model X.prog X.w) X.A X.xe none (EP X pins σ Q) (.ref s2.heap.objs.size) h3.objs.size) {s2 with heap:=h₁,toks:=s2.toks+([]:List (Str×Value)).length}:=by
    refine mX (fun n s'=>∃i σ' H',Inv (aH X N scope cl {s2 with heap:=h3} (upd H2 s2.heap.objs.size (.lst [])) fp pins) [] σ' H' s'/\tn i s'.heap/\(∀b∈fp,H' b=none)/\W i n σ' H') ?_ m0 ⟨0,_,_,I4,ff,fun b hb=>(f3 b hb).1,w0⟩;rintro n s5 ⟨i,σ5,H5,I5,cN,dZ,w5⟩;have ck:∀{H':Hp},(∀b∈fp,H' b=none)->∀b∈fp,bT (aH X N scope cl {s2 with heap:=h3} (upd H2 s2.heap.objs.size (.lst [])) fp pins) [] H' b:=fun{H'} hn b hb=>by
     obtain⟨_,q1,q2,q3,q4,q5⟩:=f3 b hb;refine⟨hn b hb,fun z=>?_,I4.ok.exfs b hb,.inl hb,fun x c e=>q4 x c (c1 x c e),fun p hp=>q5 p (by simpa[aH]using hp)⟩;have bh:b<h3.objs.size:=by rw[fe];exact jQ (e6 b hb)
     exact aW bh z
    rcases turn i n σ5 H5 w5 with⟨stop,qn⟩|⟨go,step⟩
    · refine a9 (T.done (aH X N scope cl {s2 with heap:=h3} (upd H2 s2.heap.objs.size (.lst [])) fp pins) rfl rfl rfl hc i [] s5 σ5 H5 _ I5 (ck dZ) cN stop) fun r s6 ⟨hr,I6⟩=>?_
      subst hr;obtain⟨m,hm,_⟩:=I6.loc;refine⟨m,hm,fun h7 gA=>?_⟩;have u0:Un (bF X.stack) fp (upd H2 s2.heap.objs.size (.lst [])) H5 h3 s6.heap:=I6.base;have ne:∀b o,h3.get? b=some o->b≠h3.objs.size:=fun b o e=>aW (av e);have u:Un (bF X.stack) fp (upd H2 s2.heap.objs.size (.lst [])) H5 h3 h7:=⟨fun b o e n hb hx=>(gA.2 b (ne b o e)).trans (u0.keep b o e n hb hx),fun b o e n hb hx=>let⟨sl,q⟩:=u0.slot b o e n hb hx;⟨sl,(gA.2 b (ne b o e)).trans q⟩,u0.free,fun b o e hx=>let⟨o',q⟩:=u0.there b o e hx;⟨o',(gA.2 b (ne b o e)).trans q⟩,u0.tups,u0.frzs,u0.tbls⟩;have I7:Inv X pins σ H5 {s6 with heap:=h7}:=I3.nj (s':={s6 with heap:=h7}) (ch:=fp) I6.os u (I6.hok.but I6.free gA) I6.bare fun b hb=>⟨(f3 b hb).2.2.2.1,(f3 b hb).2.1,(f3 b hb).2.2.2.2.1,(f3 b hb).2.2.2.2.2⟩;exact⟨.ref s2.heap.objs.size,H5,I7,rfl,qn⟩
    · refine a9 (T.item (aH X N scope cl {s2 with heap:=h3} (upd H2 s2.heap.objs.size (.lst [])) fp pins) rfl rfl rfl hc i [] s5 σ5 H5 _ I5 (ck dZ) cN go) fun r s6 ⟨u,hr,h6⟩=>?_
      subst hr;refine a9 h6 fun _ s7 ⟨x,H7,I7,r7,y7,dM,jk⟩=>?_;have jJ:=I7.pinned (ck jk) (T.obj _ _ dM);refine a9 (hg _ _ _ _ _ _ s7 σ5 H7 x u _ jJ r7 (step x H7 y7)) fun _ s8 ⟨σ8,H8,I8,q8⟩=>?_;refine a9 (ht _ _ _ _ _ _ s8 σ8 H8 _ I8 q8) fun ok s9 ⟨H9,I9,q9⟩=>?_;have again:∀{s':vH}{σ7:St}{H7:Hp},Inv (aH X N scope cl {s2 with heap:=h3} (upd H2 s2.heap.objs.size (.lst [])) fp pins) ([]++eH fp s7.heap) σ7 H7 s'->(∃m',m'<n/\W (i+1) m' σ7 H7)->∃m,m<n/\∃i σ' H',Inv (aH X N scope cl {s2 with heap:=h3} (upd H2 s2.heap.objs.size (.lst [])) fp pins) [] σ' H' s'/\tn i s'.heap/\(∀b∈fp,H' b=none)/\W i m σ' H':=fun{s' σ7 H7} J7 n7=>by obtain⟨m',hm,w7⟩:=n7;refine⟨m',hm,i+1,σ7,H7,J7.f7,T.keep _ _ _ dM fun b hb o e=>(J7.pin (b,o) (bU _ (bU _ (eL hb e)))).1,fun b hb=>?_,w7⟩;obtain⟨o,e,d⟩:=T.obj _ _ dM b hb;exact(J7.pin (b,o) (bU _ (bU _ (eL hb e)))).2.1
      cases ok with |false=>rw[aK cf]at q9⊢;exact again I9 q9 |true=>rw[aD rfl]at q9⊢;refine a9 (he _ _ _ _ _ _ s9 σ8 H9 _ I9 q9) fun yv iu ⟨y,eT,jL,iH,ys,iX,hz,h8⟩=>?_;refine a9 (iS _ iu σ8 eT (.ref s2.heap.objs.size) [y] (.ref s2.heap.objs.size) [yv] (fun _ eS=>∃m',m'<n/\W (i+1) m' σ8 eS) jL rfl (.cons iH .nil) ⟨_,ys,y,rfl,rfl,iX,hz,h8⟩) fun _ pY ⟨v11,eS,jK,qr,iI⟩=>?_;exact again jK iI
  exact codeAny_compStart_list loop (T.self _ 0 _ _ _ ff loop)
section
variable {X:Cx}
end
theorem jr{J:It}{g:TG}{tt:TT}{te:TE}{Q:VK}{D:Addr}{σ:St}{H:Hp}(n:Nat)(Pv:Nat->St->Hp->Prop)(h0:Pv 0 σ H) (hs:∀i σ H,i<n->Pv i σ H->J.go i H/\∀x H2,J.yld i H x H2->g x σ H2 fun σ3 H3=>tt σ3 H3 fun ok H4=>if ok=true then te σ3 H4 fun y H5=>∃ys,H5 D=some (.lst ys)/\ys.length<sizeLine/\∃m',m'<n-i/\m'=n-(i+1)/\i+1<=n/\Pv (i+1) σ3 (upd H5 D (.lst (ys++[y]))) else∃m',m'<n-i/\m'=n-(i+1)/\i+1<=n/\Pv (i+1) σ3 H4) (hd:∀σ H,Pv n σ H->J.stop n H/\Q (.ref D) H): eU J g tt te Q D σ H:=by
  refine⟨fun i m σ H=>m=n-i/\i<=n/\Pv i σ H,⟨n,by simp,eW _,h0⟩,?_⟩;rintro i m σ H ⟨rfl,hi,p⟩;by_cases bh:i<n
  ·exact .inr (hs i σ H bh p)
  · have e:i=n:=by omega
    subst e;exact .inl (hd σ H p)
section
variable {X:Cx} {tg:Expr}
theorem sI(K:vG)(h:X.K=K):dc X (fun x y H Q=>iC K x y H Q\/iB K x y H Q):=by subst h;exact sH.or sF
theorem sr(K:vG)(h:X.K=K):aX X (.builtin "len") (fun xs H Q=>∃p ys,xs=[.ref p]/\(ah K H p ys\/aj K H p ys)/\Q (.int ys.length) H):=by subst h;exact uD
theorem sJ(K:vG)(h:X.K=K):aX X (.builtin "isinstance") (fun xs H Q=>iE K xs H Q\/iD K xs H Q):=by subst h;exact uF.or uE
theorem cG(K:vG)(h:X.K=K)(hu:X.A.units+64<cLine):aC X (compareOp .Eq) (fun x y H Q=>bK (fun i j=>.bl (decide (i=j))) x y H Q\/iG K x y H Q):=by subst h;exact qZ hu
theorem fD(K:vG)(h:X.K=K)(hu:X.A.units+64<cLine):aC X (compareOp .NotEq) (fun x y H Q=>bK (fun i j=>.bl (!decide (i=j))) x y H Q\/iA K x y H Q):=by subst h;exact qT hu
theorem hJ(K:vG)(h:X.K=K):aX X (.type "tuple") (fun xs H Q=>∃p ys,xs=[.ref p]/\((ah K H p ys/\∀l H',Nw H H' l (.tup ys)->Q (.ref l) H')\/(aj K H p ys/\Q (.ref p) H))):=by subst h;intro pins s σ H xs us Q I r hq;obtain⟨p,ys,e,h1⟩:=hq;exact uC pins s σ H xs us Q I r ⟨p,ys,e,h1.imp (fun⟨a,k⟩=>⟨a,fun l hl=>k l _ (.of hl)⟩) id⟩
def ph(t:TA):TE:=fun σ H Q=>t σ H fun xs H1=>xs.length<=sizeLine/\∀p H',Nw H1 H' p (.tup xs)->Q (.ref p) H'
def pF(t:TA):TE:=fun σ H Q=>t σ H fun xs H1=>xs.length<=sizeLine/\∀p H',Nw H1 H' p (.lst xs)->Q (.ref p) H'
theorem dQ{es:List Expr}{t:TA}{pos:Pos} {x1}(h:PA X es t):PE X (.Tuple es x1 pos) (ph t):=by intro pins s σ H Q I hq;refine wpAny_Tuple_spliced (a9 (h pos pins s σ H _ I hq) fun us s1 ⟨xs,H1,I1,r,z,q⟩=>⟨by rw[<-r.length];exact z,?_⟩);have hf:H1 s1.heap.objs.size=none:=I1.hok.fresh (aw _);refine⟨.ref s1.heap.objs.size,upd H1 s1.heap.objs.size (.tup xs),I1.laid (t':=s1.toks) (fun b u e=>bw _ e) (aw _) ?_,rfl,q _ _ (.of hf)⟩;exact⟨z,us,r,⟨_,dk _ rfl,rfl,_,rfl⟩⟩
theorem fq{es:List Expr}{t:TA}{pos:Pos}(h:PA X es t):PE X (.List es pos) (pF t):=by intro pins s σ H Q I hq;refine wpAny_List_spliced (a9 (h pos pins s σ H _ I hq) fun us s1 ⟨xs,H1,I1,r,z,q⟩=>⟨by rw[<-r.length];exact z,?_⟩);have hf:H1 s1.heap.objs.size=none:=I1.hok.fresh (aw _);refine⟨.ref s1.heap.objs.size,upd H1 s1.heap.objs.size (.lst xs),I1.laid (t':=s1.toks) (fun b u e=>bw _ e) (aw _) ?_,rfl,q _ _ (.of hf)⟩;exact⟨z,us,0,r,dk _ rfl⟩
theorem fk(K:vG)(h:X.K=K){l:Expr}{tl:TE}(hl:PE X l tl):PI X tg l (mm K tl):=by subst h;exact qA hl
theorem fo(K:vG)(h:X.K=K){es:List Expr}{k:Nat}{t:cI}{n:Nat}{pos:Pos}(hc:X.calm=true)(hg:fX X es t)(hn:(assignEach es X.env).length=n:=by rfl)(j2:(assignEach es X.env).findIdx? (·.1)=none:=by rfl): PG X (.Tuple es k pos) (mK K n t):=by subst h;exact qB hc hg hn j2
theorem lG(K:vG)(h:X.K=K){o e:Expr}{to:TE}{t:TA}{apos aA:Pos}(ho:PE X o to)(ha:PA X [e] t) (cZ:attributeBase o "append" X.env (eval o X.env)=eval o X.env:=by rfl) (cX:((backTo aA (starEach [e] X.env)).all (fun x=>!x.1)&&(backToKw aA (keywordEach [] X.env)).all (fun x=>x.1.isSome) &&decide ([e].length+([]:List Keyword).length+(if([]:List Keyword).isEmpty then 0 else 1)<30))=true:=by rfl) (cU:(apos.endLine==aA.line)=true:=by rfl)(hs:starEach [e] X.env=(false,eval e X.env)::starEach [] X.env:=by rfl)(cT:(backTo aA (starEach [] X.env)).any (·.1)=false:=by rfl): PE X (.Call (.Attribute o "append" apos) [e] [] aA) (gd K "list" lA to t):=by subst h;exact iP PySem.F.plainAttrs_list PySem.F.slot_list_append PySem.F.type_list_append iS ho ha cZ cX cU hs cT
theorem gX{j:Nat}{x:V}{σ:St}{H:Hp}{A B:St->Hp->Prop}(h:A (σ.set j (some x)) H):cx j x σ H fun σ3 H3=>ey σ3 H3 fun ok H4=>if ok=true then A σ3 H4 else B σ3 H4:=by show if true=true then A (σ.set j (some x)) H else B (σ.set j (some x)) H;rw[aD rfl];exact h
end
end L2
namespace L2
open PySem PySem.Spec PyProof.Rows
theorem ah.go{K:vG}{H H':Hp}{a:Addr}{xs:List V}(s:ai H H')(h:ah K H a xs):ah K H' a xs:=h.imp (fun r=>r.imp (s _ _) fun⟨o,e⟩=>⟨o,s _ _ e⟩) id
theorem aj.go{K:vG}{H H':Hp}{a:Addr}{xs:List V}(s:ai H H')(h:aj K H a xs):aj K H' a xs:=h.imp (fun r=>r.imp (s _ _) fun⟨o,e⟩=>⟨o,s _ _ e⟩) id
mutual
theorem RD.mono{K:vG}{H H':Hp}(s:ai H H'):∀{x:V}(d:vJ),RD K H x d->RD K H' x d |x,.none,h=>by simpa[RD]using h |x,.bool b,h=>by simpa[RD]using h |x,.int i,h=>by simpa[RD]using h |x,.str y,h=>by simpa[RD]using h |x,.list ds,h=>by rw[RD]at h⊢;obtain⟨a,xs,e,h1,h2⟩:=h;exact⟨a,xs,e,h1.go s,aa.mono s ds h2⟩ |x,.tuple ds,h=>by rw[RD]at h⊢;obtain⟨a,xs,e,h1,h2⟩:=h;exact⟨a,xs,e,h1.go s,aa.mono s ds h2⟩ |x,.dict _,h=>by simp[RD]at h
theorem aa.mono {K:vG}{H H':Hp}(s:ai H H'):∀{xs:List V}(ds:List vJ),aa K H xs ds->aa K H' xs ds |xs,[],h=>by simpa[aa]using h |xs,d::ds,h=>by rw[aa]at h⊢;obtain⟨y,ys,e,h1,h2⟩:=h;exact⟨y,ys,e,RD.mono s d h1,aa.mono s ds h2⟩
end
section
variable {K:vG} {H H':Hp}
theorem aa.nil_inv{xs:List V}(h:aa K H xs []):xs=[]:=by simpa[aa]using h
theorem aa.cons_inv{xs:List V}{d:vJ}{ds:List vJ}(h:aa K H xs (d::ds)):∃y ys,xs=y::ys/\RD K H y d/\aa K H ys ds:=by rw[aa]at h;exact h
theorem RD.bW{x:V}{ds:List vJ}(h:RD K H x (.tuple ds)):∃a xs,x= .ref a/\aj K H a xs/\aa K H xs ds:=by rw[RD]at h;exact h
theorem RD.lst_inv{x:V}{ds:List vJ}(h:RD K H x (.list ds)):∃a xs,x= .ref a/\ah K H a xs/\aa K H xs ds:=by rw[RD]at h;exact h
theorem RD.int_inv{x:V}{i:Int}(h:RD K H x (.int i)):x= .int i:=by rw[RD]at h;exact h
theorem RD.uK{x:V}{i:Bool}(h:RD K H x (.bool i)):x= .bl i:=by rw[RD]at h;exact h
theorem RD.str_inv{x:V}{i:Str}(h:RD K H x (.str i)):x= .str i:=by rw[RD]at h;exact h
theorem RD.rO{x:V}(h:RD K H x .none):x= .aE:=by rw[RD]at h;exact h
theorem aa.length:∀{xs:List V}{ds:List vJ},aa K H xs ds->xs.length=ds.length |xs,[],h=>by rw[h.nil_inv];rfl |xs,d::ds,h=>by obtain⟨y,ys,rfl,_,h2⟩:=h.cons_inv;rw[oP,oP,aa.length h2]
theorem aa.append:∀{xs ys:List V}{ds es:List vJ},aa K H xs ds->aa K H ys es->aa K H (xs++ys) (ds++es) |xs,ys,[],es,h,g=>by rw[h.nil_inv];exact g |xs,ys,d::ds,es,h,g=>by obtain⟨y,zs,rfl,h1,h2⟩:=h.cons_inv;exact aU h1 (aa.append h2 g)
theorem aa.get:∀(n:Nat){xs:List V}{ds:List vJ}{d:vJ},aa K H xs ds->ds[n]? =some d->∃x,xs[n]? =some x/\RD K H x d
  |n,xs,[],d,h,e=>by simp at e |0,xs,d'::ds,d,h,e=>by
    obtain⟨y,zs,rfl,h1,h2⟩:=h.cons_inv;have e':d'=d:=by simpa using e
    subst e';exact⟨y,rfl,h1⟩ |n+1,xs,d'::ds,d,h,e=>by obtain⟨y,zs,rfl,h1,h2⟩:=h.cons_inv;exact aa.get n h2 (by simpa using e)
theorem aa.get'(n:Nat){xs:List V}{ds:List vJ}{x:V}(h:aa K H xs ds)(e:xs[n]? =some x):∃d,ds[n]? =some d/\RD K H x d:=by
 have hl:n<ds.length:=by rw[<-h.length];exact(ei.mp e).1
 obtain⟨y,e1,r⟩:=h.get n (eY hl);rw[e]at e1;cases e1;exact⟨_,eY hl,r⟩
def p3:vJ->String | .none=>"NoneType" | .bool _=>"bool" | .int _=>"int" | .str _=>"str" | .list _=>"list" | .tuple _=>"tuple" | .dict _=>"dict"
theorem RD.ty{x:V}:∀{d:vJ},RD K H x d->eR K H x (p3 d) | .none,h=>by rw[h.rO];rfl | .bool b,h=>by rw[h.uK];rfl | .int b,h=>by rw[h.int_inv];rfl | .str b,h=>by rw[h.str_inv];rfl | .list ds,h=>by obtain⟨a,xs,rfl,h1,_⟩:=h.lst_inv;exact .inl ⟨rfl,xs,h1⟩ | .tuple ds,h=>by obtain⟨a,xs,rfl,h1,_⟩:=h.bW;exact .inr ⟨rfl,xs,h1⟩ | .dict _,h=>by simp[RD]at h
variable {p:Addr}{n m:Nat}{v:V}{vs:List V}{d:vJ}{ds es:List vJ}
end
section
variable {X:Cx}
end
end L2
namespace HT
open PySem PySem.Spec PyProof.Rows
section
variable {prog:vI}{w:World}{A:vK}{E:Value->vH->Prop}{s:vH}
end
end HT
namespace L2
open PySem PySem.Spec PyProof.Rows
section
variable {X:Cx}
end
section
variable {X:Cx}
end
end L2
namespace L2
theorem aZ{α:Type}{xs:List α}{i:Int}{v:α}(h0:0<=i)(h:xs[i.toNat]? =some v):c9 xs i=some v:=by have hl:i.toNat<xs.length:=(ei.mp h).1;unfold c9 cS;rw[aD h0,aD (by omega)];exact h
end L2
namespace L2
open PySem PySem.Spec PyProof.Rows
theorem pP(n:Nat)(h:n<=1000):n<=sizeLine:=dD h (by decide)
section
variable {X:Cx}{p pos pos':Pos}{a b e:Expr}{es:List Expr}{ta tb te:TE}{t:TA}{x:Str}
theorem px(K:vG)(ha:PE X a ta)(hb:PE X b tb)(hK:X.K=K:=by rfl)(hp:nH b:=by exact fun _ _=>rfl):PE X (.Subscript a b pos) (fc (fun x y H Q=>iC K x y H Q\/iB K x y H Q) ta tb):=lE (sI K hK) ha hb hp
theorem qO(K:vG)(B:aG X.mg)(ha:PA X (e::es) t)(hK:X.K=K:=by rfl)(hg:Gl X "isinstance":=by rfl)(he:starEach (e::es) X.env=(false,eval e X.env)::starEach es X.env:=by rfl)(bD:(backTo pos (starEach es X.env)).any (·.1)=false:=by rfl):PE X (.Call (.Name "isinstance" p) (e::es) [] pos) (gc (fun xs H Q=>iE K xs H Q\/iD K xs H Q) t):=bZ (sJ K hK) hg (B.at "isinstance") PyProof.Rows.boot_isinstance ha (by decide) (by decide) he bD
theorem iR(K:vG)(B:aG X.mg)(ha:PA X (e::es) t)(hK:X.K=K:=by rfl)(hg:Gl X "len":=by rfl)(he:starEach (e::es) X.env=(false,eval e X.env)::starEach es X.env:=by rfl)(bD:(backTo pos (starEach es X.env)).any (·.1)=false:=by rfl):PE X (.Call (.Name "len" p) (e::es) [] pos) (gc (fun xs H Q=>∃p ys,xs=[.ref p]/\(ah K H p ys\/aj K H p ys)/\Q (.int ys.length) H) t):=bZ (sr K hK) hg (B.at "len") PySem.boot_len ha (by decide) (by decide) he bD
theorem pS(i:Nat)(hN:X.N.Nodup)(he:PE X e te)(hi:X.N[i]? =some x:=by rfl)(hx:Loc X.env.scope x:=by first|exact Or.inl rfl|exact Or.inr rfl)(hs:swapsWith e (some (.Name x pos')) pos.line X.env=pure false:=by rfl)(hf:X.fn x=true\/X.env.scope.names.lookup x=some .local:=by first|exact .inl rfl|exact .inr rfl|assumption):PS X (.Assign [.Name x pos'] e pos) (gg te (cx i)):=qx hN hi hx he hs hf
theorem aL(i:Nat)(hN:X.N.Nodup)(hi:X.N[i]? =some x:=by rfl)(hx:Loc X.env.scope x:=by first|exact Or.inl rfl|exact Or.inr rfl)(hf:X.fn x=true\/X.env.scope.names.lookup x=some .local:=by first|exact .inl rfl|exact .inr rfl|assumption):PG X (.Name x pos) (cx i):=qC hN hi hx hf
theorem fE (a:Str):[a].Nodup:=by simp
theorem lS{a b:Str}(h:(a==b)=false):[a,b].Nodup:=by
 have:a≠b:=fun z=>by rw[z,beq_self_eq_true]at h;cases h
 simp[this]
theorem cm{n:Nat}(h:Nat.ble n 1000=true):n<=sizeLine:=pP n (Nat.le_of_ble_eq_true h)
end
end L2
namespace L2
open PySem PySem.Spec PyProof.Rows
def GV(mg:Str->Option Value)(x:Str)(v:V):Prop:=∃u,mg x=some u/\RelV v u
theorem iO{X:Cx}{x:Str}{v:V}{pos:Pos}(hg:Gl X x)(h:GV X.mg x v)(hd:(x==("__debug__":Str))=false:=by decide):PE X (.Name x pos) (tC v):=by obtain⟨u,hm,r⟩:=h;exact qG hg hm r hd
section
variable {K:vG}{mg:Str->Option Value}{h:Heap}
theorem mI{x:Str}{i:Int}{t:Tok}(X:K.In h)(G:h.Ns mainGlobals mg)(a:PySem.W.nsIn K mainGlobals x=some (some (.int i t))):GV mg x (.int i):=⟨_,PySem.W.mg_of X G a,t,rfl⟩
end
section
variable {X:Cx}
open Classical in
end
end L2
namespace L2
end L2
namespace L2
open PySem PySem.Spec PyProof.Rows
section
variable {prog:vI}{w:World}{A:vK}{E:Value->vH->Prop}{s:vH}
end
section
variable {X:Cx}{pins:List (Addr×Obj)}{σ:St}{H:Hp}{s:vH}{h':Heap}
theorem Inv.p5{t':Nat}{fp:List Addr}(I:Inv X pins σ H s)(k:∀b o,b∉fp->s.heap.get? b=some o->h'.get? b=some o)(hf:∀b∈fp,bT X pins H b):Inv X pins σ H {s with heap:=h',toks:=t'}:=by
 have fC:∀b u,H b=some u->b∉fp:=fun b u e z=>by rw[(hf b z).1]at e;cases e
 have hL:X.env.locals∉fp:=fun z=>(hf _ z).2.1 rfl;refine I.step (g':=s.gens) (d':=s.drawn) (ch:=fp) (fun b hb=>?_) (fun b o _ _ hc e _=>k b o hc e) (fun b o _ _ hc e _=>⟨o.slots,k b o hc e⟩) (fun _ _ _ _ n=>n) (fun b o hc e=>⟨o,k b o hc e⟩) (fun _ _ e=>e) (fun _ _ _ e=>e) (fun b ps e=>⟨#[],by rw[e];simp⟩) (fun m hm=>?_) (fun b u e=>?_) I.bare
 · obtain⟨f0,f1,f2,f3,f4,f5⟩:=hf b hb
   exact⟨f3,f1,f4,f5⟩
 · obtain⟨o,es,ep,ho,r⟩:=hm
   exact⟨o,es,ep,k _ o hL ho,r⟩
 · refine(I.hok b u e).dJ (fun c v hc q=>k c v ?_ q) (fun _ q=>q) fun _ _ q=>q
   rcases hc with z|z
   ·rw[z];exact fC b u e
   ·exact fC c _ z
end
end L2
namespace L2
open PySem PySem.Spec PyProof.Rows
section
variable {P:vI}{w:World}{K:vG}{mg:Str->Option Value}{base:Heap}{N:List Str}{qual:Str}{scope:Scope}{f:Addr}{cd:Value}{A:vK}{outer:List Env}{s:vH}{H:Hp}{E:XK}{pins:List (Addr×Obj)}{σ:St}{H1:Hp}{s1:vH}{h2:Heap}{ex:Addr}{cls:Value}{vs:List Value}
end
section
variable {X:Cx}{x:Str}{C:Addr}{vA:List Value}{newId vn B:String}{e:Expr}{t:TA}{np aA pos:Pos}
end
end L2
namespace L2
open PySem PySem.Spec PyProof.Rows
section
variable {M:Model}{A:vK}{Ex:Value->vH->Prop}
end
section
variable {X:Cx}{k:Nat}{x:Str}{p pos:Pos}{e:Expr}{es:List Expr}{t:TA}{sp:Sp}
end
section
variable {X:Cx}{pins:List (Addr×Obj)}{σ:St}{H:Hp}{s:vH}
end
section
variable {X:Cx}{i:Nat}{n y:Str}{Dc:Addr}{vz:List Value}{newD:String}{body vf:List Stmt}{b0:Stmt}{np vt pos:Pos}{tb:XK->TS}{th:TS}{Cs:Addr->Prop}
end
end L2
namespace L2
open PySem PySem.Spec PyProof.Rows PySem.W Builtin.Getset_descriptor
section
variable {prog:vI}{w:World}{A:vK}{E:Value->vH->Prop}{h:Heap}{g:Array GenState}{d:Drawn}{t:Nat}{os:OsState}{K:Frag}{x C:Addr}{o:Obj}
end
end L2
namespace L2
open PySem PySem.Spec PyProof.Rows
section
variable {X:Cx}
end
end L2
namespace L2
open PySem PySem.Spec PyProof.Rows
end L2
namespace Ar
theorem uf(a b:Int):Int.gcd b (a.fmod b)=Int.gcd a b:=by rw[Int.fmod_def,Int.gcd_sub_mul_left_right,Int.gcd_comm]
theorem uo{a b:Int}(h:b≠0):(a.fmod b).natAbs<b.natAbs:=by
 rw[Int.fmod_eq_emod];have h0:=eZ a h;have h1:=Int.emod_lt a h;by_cases hb:0<=b
 ·rw[aD (.inl hb)];omega
 · by_cases hd:b∣a
   ·rw[aD (.inr hd),Int.emod_eq_zero_of_dvd hd];omega
   · have:a%b≠0:=fun z=>hd (Int.dvd_of_emod_eq_zero z)
     rw[aK (by simp[hb,hd])];omega
def sg(p q:Int):Int:=if q<0 then-(Int.gcd p q:Int)else(Int.gcd p q:Int)
def lowP (p q:Int):Int:=p.fdiv (sg p q)
def c5 (p q:Int):Int:=q.fdiv (sg p q)
theorem jj{p q:Int}(h:q≠0):0<(Int.gcd p q:Int):=by have:Int.gcd p q≠0:=fun z=>h (Int.gcd_eq_zero_iff.mp z).2;omega
theorem gr{p q:Int}(h:q≠0):sg p q≠0:=by have:=jj (p:=p) h;unfold sg;split<;>omega
theorem kz(p q:Int):sg p q∣p:=by
 unfold sg;split
 ·exact Int.neg_dvd.mpr (Int.gcd_dvd_left p q)
 ·exact Int.gcd_dvd_left p q
theorem ky(p q:Int):sg p q∣q:=by
 unfold sg;split
 ·exact Int.neg_dvd.mpr (Int.gcd_dvd_right p q)
 ·exact Int.gcd_dvd_right p q
theorem lY(p q:Int):sg p q*lowP p q=p:=by unfold lowP;rw[Int.fdiv_eq_ediv_of_dvd (kz p q)];exact Int.mul_ediv_cancel' (kz p q)
theorem iT(p q:Int):sg p q*c5 p q=q:=by unfold c5;rw[Int.fdiv_eq_ediv_of_dvd (ky p q)];exact Int.mul_ediv_cancel' (ky p q)
theorem kA(p q:Int):(sg p q).natAbs=Int.gcd p q:=by unfold sg;split<;>omega
theorem si{p q:Int}(h:q≠0):Int.gcd (lowP p q) (c5 p q)=1:=by
 have e:Int.gcd (sg p q*lowP p q) (sg p q*c5 p q)=(sg p q).natAbs*Int.gcd (lowP p q) (c5 p q):=Int.gcd_mul_left _ _ _;rw[lY,iT,kA]at e;have g:=jj (p:=p) h;have g':0<Int.gcd p q:=by omega
 have e':Int.gcd p q*1=Int.gcd p q*Int.gcd (lowP p q) (c5 p q):=by omega
 exact(Nat.eq_of_mul_eq_mul_left g' e').symm
theorem lX{p q:Int}(h:q≠0):0<c5 p q:=by
 have e:=iT p q;have g:=jj (p:=p) h;by_cases hq:q<0
 · have es:sg p q=-(Int.gcd p q:Int):=by unfold sg;rw[aD hq]
   rw[es]at e;refine Int.not_le.mp fun hl=>?_;have:0<=-(Int.gcd p q:Int)*c5 p q:=Int.mul_nonneg_of_nonpos_of_nonpos (by omega) hl;omega
 · have es:sg p q=(Int.gcd p q:Int):=by unfold sg;rw[aK hq]
   rw[es]at e;refine Int.not_le.mp fun hl=>?_;have:(Int.gcd p q:Int)*c5 p q<=0:=Int.mul_nonpos_of_nonneg_of_nonpos (by omega) hl;omega
theorem nF{s x y:Int}(hs:s≠0)(e:s*x=y):x.natAbs<=y.natAbs:=by rw[<-e,Int.natAbs_mul];exact Nat.le_mul_of_pos_left _ (by omega)
theorem sk{p q:Int}(h:q≠0):(lowP p q).natAbs<=p.natAbs:=nF (gr h) (lY p q)
theorem sj{p q:Int}(h:q≠0):(c5 p q).natAbs<=q.natAbs:=nF (gr h) (iT p q)
theorem pR{p q:Int}(h:q≠0):(sg p q).natAbs<=q.natAbs:=by rw[kA];exact Nat.le_of_dvd (by omega) (Int.gcd_dvd_natAbs_right p q)
end Ar
namespace Rt
open Rat
section
variable {n m:Nat} {r s:Rat}
end
end Rt
namespace L2
open PySem PySem.Spec PyProof.Rows
def cb(H H':Hp):Prop:=∀b o,(∀xs,o≠ .lst xs)->H b=some o->H' b=some o
section
variable {K:vG} {H H' H2:Hp}
theorem cb.trans(a:cb H H')(b:cb H' H2):cb H H2:=fun c o n e=>b c o n (a c o n e)
theorem cb.k4{D:Addr}{xs ys:List V}(h:H D=some (.lst xs)):cb H (upd H D (.lst ys)):=fun b o n e=>by rw[aF (lP e h (n xs))];exact e
theorem aj.t{a:Addr}{xs:List V}(s:cb H H')(h:aj K H a xs):aj K H' a xs:=h.imp (fun r=>r.imp (s _ _ fun _ z=>nomatch z) fun⟨o,e⟩=>⟨o,s _ _ (fun _ z=>nomatch z) e⟩) id
mutual
def bB:vJ->Bool | .list _=>false | .dict _=>false | .tuple ds=>bc ds | .none=>true | .bool _=>true | .int _=>true | .str _=>true
def bc:List vJ->Bool |[]=>true |d::ds=>bB d&&bc ds
end
theorem dy:∀{ds:List vJ},bc ds=true↔∀d∈ds,bB d=true
  |[]=>⟨fun _ _ h=>(nomatch h),fun _=>by simp[bc]⟩ |d::ds=>by
    rw[bc,cg,dy (ds:=ds)];constructor
    · rintro⟨a,b⟩ x hx
      rcases di.mp hx with rfl|hx
      ·exact a
      ·exact b x hx
    · intro h
      exact⟨h d (.head _),fun x hx=>h x (.tail _ hx)⟩
theorem lO(ns:List Int):bc (ns.map PyData.int)=true:=dy.mpr fun d hd=>by obtain⟨i,_,rfl⟩:=dF.mp hd;simp[bB]
mutual
theorem RD.t(s:cb H H'):∀{x:V}(d:vJ),bB d=true->RD K H x d->RD K H' x d |x,.none,_,h=>by simpa[RD]using h |x,.bool b,_,h=>by simpa[RD]using h |x,.int i,_,h=>by simpa[RD]using h |x,.str y,_,h=>by simpa[RD]using h |x,.list ds,n,h=>by simp[bB]at n |x,.tuple ds,n,h=>by rw[RD]at h⊢;obtain⟨a,xs,e,h1,h2⟩:=h;exact⟨a,xs,e,h1.t s,aa.t s ds (by simpa[bB]using n) h2⟩ |x,.dict _,_,h=>by simp[RD]at h
theorem aa.t (s:cb H H'):∀{xs:List V}(ds:List vJ),bc ds=true->aa K H xs ds->aa K H' xs ds |xs,[],_,h=>by simpa[aa]using h |xs,d::ds,n,h=>by rw[aa]at h⊢;rw[bc,cg]at n;obtain⟨y,ys,e,h1,h2⟩:=h;exact⟨y,ys,e,RD.t s d n.1 h1,aa.t s ds n.2 h2⟩
end
theorem aa.gz:∀{xs:List V}{ns:List Int},aa K H xs (ns.map PyData.int)->xs=ns.map V.int |xs,[],h=>h.nil_inv |xs,n::ns,h=>by obtain⟨y,ys,rfl,h1,h2⟩:=h.cons_inv;rw[h1.int_inv,aa.gz h2];rfl
theorem iz:∀(ns:List Int),aa K H (ns.map V.int) (ns.map PyData.int) |[]=>bX |n::ns=>aU (du n) (iz ns)
theorem uA{J:It}{xs:List V}{ds:List vJ}{te:TE}{Q:VK}{D:Addr}{H0:Hp}(rest:St)(nw:Nw H H0 D (.lst []))(hl:xs.length=ds.length)(hz:xs.length<=1000)(hn:bc ds=true) (go:∀i x H2,xs[i]? =some x->ai H H2->J.go i H2/\∀y H3,J.yld i H2 y H3->H3=H2/\y=x)(stop:∀H2,ai H H2->J.stop xs.length H2) (hs:∀(i:Nat)(x:V)(d:vJ)(H2:Hp)(Q':VK),xs[i]? =some x->ds[i]? =some d->ai H H2->(∀y H3,ai H2 H3->RD K H3 y d->Q' y H3)->te (some x::rest) H2 Q') (hq:∀H' ys,ai H H'->H' D=some (.lst ys)->aa K H' ys ds->Q (.ref D) H'):eU J (cx 0) ey te Q D (none::rest) H0:=by
  have hD:=nw.no;refine jr xs.length (fun i σ H2=>ai H H2/\(∃ys,H2 D=some (.lst ys)/\aa K H2 ys (ds.take i))/\∃v,σ=v::rest) ?_ ?_ ?_
  ·exact⟨nw.same,⟨[],nw.at',bX⟩,none,rfl⟩
  · rintro i σ H2 hi ⟨s2,⟨ys,d2,r2⟩,v,rfl⟩
    have mz:i<ds.length:=by rw[<-hl];exact hi
    have ex:=eY hi;have eb:=eY mz;obtain⟨g1,g2⟩:=go i _ H2 ex s2;refine⟨g1,fun y H3 hy=>?_⟩;obtain⟨rfl,rfl⟩:=g2 y H3 hy;refine gX ?_;refine hs i _ _ _ _ ex eb s2 fun z H4 s4 r4=>?_;have d4:=s4 _ _ d2;have len:=r2.length;rw[List.length_take]at len;refine⟨ys,d4,?_,xs.length-(i+1),by omega,rfl,by omega,fun b o e=>?_,⟨ys++[z],cj,?_⟩,_,rfl⟩
    · have:(1000:Nat)<sizeLine:=by decide
      omega
    ·rw[aF (cu e hD)];exact s4 b o (s2 b o e)
    · have t:cb H4 (upd H4 D (.lst (ys++[z]))):=.k4 d4
      rw[List.take_succ,eb];have n1:bc (ds.take i)=true:=dy.mpr fun d hd=>dy.mp hn d (List.mem_of_mem_take hd);exact(aa.t t _ n1 (aa.mono s4 _ r2)).append (aU (RD.t t _ (dy.mp hn _ (List.getElem_mem mz)) r4) bX)
  · rintro σ H2 ⟨s2,⟨ys,d2,r2⟩,v,rfl⟩
    refine⟨stop H2 s2,hq H2 ys s2 d2 ?_⟩;rw[hl,List.take_length]at r2;exact r2
theorem fU{a:Addr}{xs:List V}{ds:List vJ}{te:TE}{Q:VK}{D:Addr}{H0:Hp}(rest:St)(hx:aj K H a xs)(nw:Nw H H0 D (.lst []))(hl:xs.length=ds.length)(hz:xs.length<=1000)(hn:bc ds=true) (hs:∀(i:Nat)(x:V)(d:vJ)(H2:Hp)(Q':VK),xs[i]? =some x->ds[i]? =some d->ai H H2->(∀y H3,ai H2 H3->RD K H3 y d->Q' y H3)->te (some x::rest) H2 Q') (hq:∀H' ys,ai H H'->H' D=some (.lst ys)->aa K H' ys ds->Q (.ref D) H'):eU (jI K a) (cx 0) ey te Q D (none::rest) H0:=uA rest nw hl hz hn (fun i x H2 e s=>⟨⟨xs,x,hx.go s,e⟩,fun y H3 ⟨e3,y3⟩=>⟨e3,by have:=y3 _ (hx.go s);rw[e]at this;exact(cB this).symm⟩⟩) (fun H2 s=>⟨xs,hx.go s,aw _⟩) hs hq
end
section
variable {X:Cx}
theorem mi{ns:List Int}{us:List Value}(r:Vals (ns.map V.int) us){i:Nat}{v:Value}(h:us[i]? =some v):∃n t,ns[i]? =some n/\v=Value.int n t:=by
 have hl:=r.length;rw[aO]at hl;have hi:i<ns.length:=by rw[hl];exact(ei.mp h).1
 obtain⟨u,e,ru⟩:=r.get (i:=i) (x:=.int ns[i]) (by rw[bo,eY hi];rfl);rw[h]at e;cases e;obtain⟨t,rfl⟩:=(show∃t,v=Value.int ns[i] t from ru);exact⟨_,t,eY hi,rfl⟩
theorem qj(ns:List Int):((List.range ns.length).any fun i=>((ns.map (· !=0))[i]?).getD false)=ns.any (· !=0):=by have:=LSm.range_any (ns.map (· !=0));rw[aO]at this;rw[this,List.any_map];rfl
theorem uR(K:vG)(hK:X.K=K)(hc:X.calm=true):aX X (.builtin "any") (fun xs H Q=>∃(l:Addr)(ns:List Int),xs=[.ref l]/\(ah K H l (ns.map V.int)\/aj K H l (ns.map V.int))/\Q (.bl (ns.any (· !=0))) H):=by
 subst hK;intro pins s σ H xs us Q I r h;obtain⟨l,ns,rfl,hl,q⟩:=h;obtain⟨u,rfl,ru⟩:=vals1 r;cases(show u=Value.ref l from ru);have hh:=I.ok.hd hc;have fin:∀(its:List Value),Vals (ns.map V.int) its->((List.range its.toArray.size).any fun i=>((ns.map (· !=0))[i]?).getD false)=ns.any (· !=0):=fun its rv=>by rw[bJ,<-rv.length,aO];exact qj ns
 rcases hl with hl|hl
 · obtain⟨its,rv,pl,hz⟩:=I.list hl
   have dW:=pl.isList;have bh:l<s.heap.objs.size:=by obtain⟨_,e,_⟩:=dW;exact av e
   refine call_any_walk (wpAny_pyIter_list dW ?_);refine⟨s.heap.objs.size,[s.heap.objs.size,l],[s.heap.objs.size],its.toArray.size,_,_,fun i=>((ns.map (· !=0))[i]?).getD false,rfl,Walks.list (A:=X.A.in1) hh _ l (aW bh) its.toArray,⟨⟨_,dk _ rfl,rfl,rfl⟩,dW.push _⟩,fun i v s' Q' E' hP hQ=>?_,fun h' tk hk=>?_⟩
   · obtain⟨n,t,e,rfl⟩:=mi rv (i:=i) (v:=v) (by simpa using hP)
     simp only[bo,e]at hQ;exact truthy_int hQ
   · rw[fin its rv]
     exact⟨.bl _,H,I.kept (LSm.kept_iter hk),rfl,q⟩
 · obtain⟨its,rv,pl,hz⟩:=I.tuple hl
   have dW:s.heap.IsTuple l its.toArray:=by obtain⟨⟨cls,dd,data,sl⟩,ho,dX,n,hd⟩:=pl;exact⟨_,ho,dX,by simpa using⟨n,hd⟩⟩
   have bh:l<s.heap.objs.size:=by obtain⟨_,e,_⟩:=dW;exact av e
   refine call_any_walk (wpAny_pyIter_tuple dW ?_);refine⟨s.heap.objs.size,[s.heap.objs.size,l],[s.heap.objs.size],its.toArray.size,_,_,fun i=>((ns.map (· !=0))[i]?).getD false,rfl,Walks.tuple (A:=X.A.in1) hh _ l (aW bh) its.toArray,⟨⟨_,dk _ rfl,rfl,rfl⟩,dW.push _⟩,fun i v s' Q' E' hP hQ=>?_,fun h' tk hk=>?_⟩
   · obtain⟨n,t,e,rfl⟩:=mi rv (i:=i) (v:=v) (by simpa using hP)
     simp only[bo,e]at hQ;exact truthy_int hQ
   · rw[fin its rv]
     exact⟨.bl _,H,I.kept (LSm.kept_iter hk),rfl,q⟩
end
end L2
set_option maxHeartbeats 1000000
namespace Lw
open PySem PySem.Spec PyProof.Rows L2
def nK(c m:Int):Prop:=0<=c/\0<=m/\m<2147483648
def bj(H:Hp)(p:Addr):Prop:=∃c m,H p=some (.lst [.int c,.int m])/\nK c m
structure ao(p:Addr)(H H':Hp):Prop where
 bag:bj H' p
 same:∀b o,b≠p->H b=some o->H' b=some o
theorem ao.refl{p:Addr}{H:Hp}(h:bj H p):ao p H H:=⟨h,fun _ _ _ e=>e⟩
theorem ao.trans{p:Addr}{H H1 H2:Hp}(a:ao p H H1)(b:ao p H1 H2):ao p H H2:=⟨b.bag,fun c o n e=>b.same c o n (a.same c o n e)⟩
theorem ao.upd{p:Addr}{H:Hp}{c m:Int}(h:nK c m):ao p H (L2.upd H p (.lst [.int c,.int m])):=⟨⟨c,m,cj,h⟩,fun b o n e=>by rw[aF n];exact e⟩
theorem ao.bN{p:Addr}{H H':Hp}(h:bj H p)(s:ai H H'):ao p H H':=by obtain⟨c,m,e,ok⟩:=h;exact⟨⟨c,m,s _ _ e,ok⟩,fun b o _ e=>s b o e⟩
theorem gZ{j:Int}(h0:0<=j)(h:j<=10^40):Wd j:=by
 have:j.natAbs<=10^40:=by omega
 exact jR this (by decide+kernel)
theorem bj.ne{H:Hp}{p:Addr}(h:bj H p):H p≠none:=by obtain⟨c,m,e,_⟩:=h;rw[e];exact fun z=>nomatch z
theorem bj.rS{H:Hp}{p:Addr}{q:Addr}{o:HO}(h:bj H p)(e:H q=some o)(n:∀xs,o≠ .lst xs):q≠p:=by obtain⟨c,m,e',_⟩:=h;exact lP e e' (n _)
theorem ao.t{p:Addr}{H H':Hp}(bg:bj H p)(b:ao p H H'):cb H H':=fun c o n e=>b.same c o (bg.rS e n) e
theorem ao.pV{p:Addr}{H0 H H':Hp}(s:ai H0 H)(hp:H0 p=none)(b:ao p H H'):ai H0 H':=fun c o e=>b.same c o (cu e hp) (s c o e)
section
variable {K:vG}
theorem mW{J:It}{te:TE}{Q:VK}{D p:Addr}{H H0:Hp}(n:Nat)(rest:L2.St)(nw:Nw H H0 D (.lst []))(bg:bj H p)(hn:n<=1000)(xv:Nat->V) (go:∀i H2,i<n->ao p H H2->J.go i H2/\∀y H3,J.yld i H2 y H3->H3=H2/\y=xv i)(stop:∀H2,ao p H H2->J.stop n H2)(Pz:Int->Prop) (hs:∀i H2 (Q':VK),i<n->ao p H H2->(∀z H3,Pz z->ao p H2 H3->Q' (.int z) H3)->te (some (xv i)::rest) H2 Q') (hq:∀H' (is:List Int),ao p H H'->H' D=some (.lst (is.map V.int))->is.length=n->(∀z∈is,Pz z)->Q (.ref D) H'):eU J (cx 0) ey te Q D (none::rest) H0:=by
  have fQ:D≠p:=fun e=>bg.ne (e▸nw.no);refine jr n (fun i σ H3=>ao p H H3/\(∃is:List Int,H3 D=some (.lst (is.map V.int))/\is.length=i/\∀z∈is,Pz z)/\∃v,σ=v::rest) ?_ ?_ ?_
  ·exact⟨.bN bg nw.same,⟨[],nw.at',rfl,fun _ h=>(List.not_mem_nil h).elim⟩,none,rfl⟩
  · rintro i σ H3 hi ⟨b3,⟨is,d3,li,pi⟩,v,rfl⟩
    obtain⟨g1,g2⟩:=go i H3 hi b3;refine⟨g1,fun y H4 hy=>?_⟩;obtain⟨rfl,rfl⟩:=g2 y H4 hy;refine gX ?_;refine hs i _ _ hi b3 fun z H5 pz b5=>?_;refine⟨_,b5.same _ _ fQ d3,?_,n-(i+1),by omega,rfl,by omega,?_,⟨is++[z],?_,?_,?_⟩,_,rfl⟩
    · rw[aO,li]
      have:(1000:Nat)<sizeLine:=by decide
      omega
    · have fV:=b3.trans b5
      refine⟨?_,fun b o n e=>?_⟩
      · obtain⟨c,m,e,ok⟩:=fV.bag
        exact⟨c,m,by rw[aF fQ.symm];exact e,ok⟩
      ·rw[aF (cu e nw.no)];exact fV.same b o n e
    ·rw[cj,g6];rfl
    ·rw[dj,li];rfl
    · intro y hy
      rcases g5.mp hy with h|h
      ·exact pi y h
      ·rw[dE.mp h];exact pz
  · rintro σ H3 ⟨b3,⟨is,d3,li,pi⟩,v,rfl⟩
    exact⟨stop H3 b3,hq H3 is b3 d3 li pi⟩
theorem mV{J:It}{te:TE}{Q:VK}{D p:Addr}{H H0:Hp}(n:Nat)(rest:L2.St)(nw:Nw H H0 D (.lst []))(bg:bj H p)(hn:n<=1000)(xv:Nat->V) (go:∀i H2,i<n->ao p H H2->J.go i H2/\∀y H3,J.yld i H2 y H3->H3=H2/\y=xv i)(stop:∀H2,ao p H H2->J.stop n H2)(Pd:Nat->vJ->Prop) (hs:∀i H2 (Q':VK),i<n->ao p H H2->(∀y d H3,Pd i d->bB d=true->RD K H3 y d->ao p H2 H3->Q' y H3)->te (some (xv i)::rest) H2 Q') (hq:∀H' ys ds,ao p H H'->H' D=some (.lst ys)->aa K H' ys ds->ds.length=n->bc ds=true->(∀i d,ds[i]? =some d->Pd i d)->Q (.ref D) H'):eU J (cx 0) ey te Q D (none::rest) H0:=by
  have fQ:D≠p:=fun e=>bg.ne (e▸nw.no);refine jr n (fun i σ H3=>ao p H H3/\(∃ys ds,H3 D=some (.lst ys)/\aa K H3 ys ds/\ds.length=i/\bc ds=true/\∀j d,ds[j]? =some d->Pd j d)/\∃v,σ=v::rest) ?_ ?_ ?_
  ·exact⟨.bN bg nw.same,⟨[],[],nw.at',bX,rfl,rfl,fun j d e=>by simp at e⟩,none,rfl⟩
  · rintro i σ H3 hi ⟨b3,⟨ys,ds,d3,r3,li,ni,pi⟩,v,rfl⟩
    obtain⟨g1,g2⟩:=go i H3 hi b3;refine⟨g1,fun y H4 hy=>?_⟩;obtain⟨rfl,rfl⟩:=g2 y H4 hy;refine gX ?_;refine hs i _ _ hi b3 fun z d H5 pz nz rz b5=>?_;have d5:=b5.same _ _ fQ d3;have t:cb H5 (L2.upd H5 D (.lst (ys++[z]))):=.k4 d5;refine⟨ys,d5,?_,n-(i+1),by omega,rfl,by omega,?_,⟨ys++[z],ds++[d],cj,?_,?_,?_,?_⟩,_,rfl⟩
    · rw[r3.length,li]
      have:(1000:Nat)<sizeLine:=by decide
      omega
    · have fV:=b3.trans b5
      refine⟨?_,fun b o n e=>?_⟩
      · obtain⟨c,m,e,ok⟩:=fV.bag
        exact⟨c,m,by rw[aF fQ.symm];exact e,ok⟩
      ·rw[aF (cu e nw.no)];exact fV.same b o n e
    ·exact(aa.t ((ao.t b3.bag b5).trans t) _ ni r3).append (aU (RD.t t _ nz rz) bX)
    ·rw[dj,li];rfl
    ·exact dy.mpr fun x hx=>by
        rcases g5.mp hx with h|h
        ·exact dy.mp ni x h
        ·rw[dE.mp h];exact nz
    · intro j e he
      by_cases hj:j<ds.length
      · rw[List.getElem?_append_left hj]at he
        exact pi j e he
      · have tD:j=ds.length:=by have:=(ei.mp he).1;rw[dj]at this;have:j<ds.length+1:=this;omega
        subst tD;rw[List.getElem?_append_right (aw _),Nat.sub_self]at he;cases he;rw[li];exact pz
  · rintro σ H3 ⟨b3,⟨ys,ds,d3,r3,li,ni,pi⟩,v,rfl⟩
    exact⟨stop H3 b3,hq H3 ys ds b3 d3 r3 li ni pi⟩
end
end Lw
namespace Ln
open PySem L2
end Ln
namespace L2
open PySem PySem.Spec PyProof.Rows
section
variable {prog:vI}{w:World}{A:vK}{E:Value->vH->Prop}{s:vH}
end
end L2
namespace L2
open PySem PySem.Spec PyProof.Rows
section
variable {X:Cx}
end
end L2
namespace L2
open PySem PySem.Spec PyProof.Rows
set_option maxHeartbeats 1000000 in
theorem qw{X:Cx}{N:List Str}{js:List (Option Nat)}{elt tg iter:Expr}{ifs:List Expr}{scope:Scope}{pos:Pos}{wi:TI}{g:TG}{tt:TT}{te:TE}{i0:Nat}{x0:Str}{eF kf:Pos}(tZ:X.N.Nodup)(tE:X.N[i0]? =some x0)(sQ:Loc X.env.scope x0)(hc:X.calm=true)(hN:gF X N js scope=true)(hS:eQ X scope=true) (hi:PI X tg iter wi)(hg:∀cl s H fp pins,PG (aH X N scope cl s H fp pins) tg g)(ht:∀cl s H fp pins,jE (aH X N scope cl s H fp pins) ifs tt)(he:∀cl s H fp pins,PE (aH X N scope cl s H fp pins) elt te) (sV:swapsWith (.ListComp elt [⟨tg,iter,ifs,0⟩] scope pos) (some (.Name x0 eF)) kf.line X.env=pure true:=by rfl)(tO:X.fn x0=true\/X.env.scope.names.lookup x0=some .local:=by first|exact .inl rfl|exact .inr rfl) (hs:∀x,foldedSetIterable iter X.env x=pure x:=by intro _;rfl):PS X (.Assign [.Name x0 eF] (.ListComp elt [⟨tg,iter,ifs,0⟩] scope pos) kf) (gg (k9 js wi g tt te) (cx i0)):=by
  intro pins s σ H D0 I h;have d8:=hS;unfold eQ at d8;rw[cg,cg]at d8;obtain⟨⟨k1,k2⟩,k3⟩:=d8;have cV:scope.kind= .function:=bI.mp k1;have eM:∀x∈scope.names,x.2= .free->∃c,X.env.cells.lookup x.1=some c:=fun x hx e=>by have:=cM.mp k3 x hx;rw[e]at this;exact I.ok.has x.1 (.inl (bI.mp this))
  have dA:∀x∈scope.names,x.2≠ .cell:=fun x hx e=>by have:=cM.mp k3 x hx;rw[e]at this;exact cf this
  have j8:∀x∈scope.names,x.2= .local->scope.names.lookup x.1=some .local:=fun x hx e=>by have:=cM.mp k3 x hx;rw[e]at this;exact bI.mp this
  obtain⟨cl,ja,c1,c2⟩:=mY eM;rw[exec_Assign_Name_used _ _ _ _ sV];refine aB (wpAny_standAt (aB ?_));show wpAny _ X.A (do let _<-comprehension (.ListComp elt [⟨tg,iter,ifs,0⟩] scope pos) scope X.env _ (newList []) false (eval iter X.env) (some (assign (.Name x0 eF) X.env))) _ _ s;refine aB (dg (wpAny_comprehension_free (use:=some (assign (.Name x0 eF) X.env)) (Q:=fun _ s'=>SP X pins D0 .next s') rfl hs ja cV j8 (a9 (hi pins s σ H _ I h) fun v s1 h1=>a9 h1 fun gy s2 h2=>?_)) (fun _ s' hq=>br (br hq)) fun _ _ e=>e);obtain⟨it,fp,tn,J,H2,e,I2,T,dN,f2,h2⟩:=h2;subst e;have hD:H2 s2.heap.objs.size=none:=I2.hok.fresh (aw _);obtain⟨W,⟨m0,w0⟩,turn⟩:=h2 _ _ (Nw.of hD);refine jM (wpAny_newFunctionEnv dA (by intro y hy;simp at hy) (fun h₁ fK fJ=>?_) cV);have e6:∀b∈fp,b<s2.heap.objs.size:=fun b hb=>by obtain⟨o,e,_⟩:=T.obj _ _ dN b hb;exact av e
  have I3:Inv X pins σ (upd H2 s2.heap.objs.size (.lst [])) {s2 with heap:=s2.heap.push {cls:=.type "list",dict:=none,data:=.seq ([]:List Value).toArray}}:=I2.m3 (its:=[]) (t':=s2.toks) .nil (eW _);generalize fP:s2.heap.push {cls:=.type "list",dict:=none,data:=.seq ([]:List Value).toArray}=h3 at I3 fK fJ;have fe:h3.objs.size=s2.heap.objs.size+1:=by rw[<-fP,Heap.size_push]
  have iU:∀b o,s2.heap.get? b=some o->h3.get? b=some o:=fun b o e=>by rw[<-fP];exact bw _ e
  have f3:∀b∈fp,bT X pins (upd H2 s2.heap.objs.size (.lst [])) b:=fun b hb=>⟨by rw[aF (aW (e6 b hb))];exact(f2 b hb).1,(f2 b hb).2⟩;have fI:∀b o,h3.get? b=some o->h₁.get? b=some o:=fun b o e=>(fJ.2 b (aW (av e))).trans (bw _ e);have I4:Inv (aH X N scope cl {s2 with heap:=h3} (upd H2 s2.heap.objs.size (.lst [])) fp pins) [] (stC js σ) (upd H2 s2.heap.objs.size (.lst [])) {s2 with heap:=h₁,toks:=s2.toks+([]:List (Str×Value)).length}:=I3.comp (s:={s2 with heap:=h3}) hN hS c1 c2 f3 (fun b hb=>by show b<h3.objs.size;rw[fe];exact jQ (e6 b hb)) (by simpa using fK) fI;have ff:tn 0 h₁:=T.keep _ _ _ dN fun b _ o e=>fI b o (iU b o e);have loop:codeAny (model X.prog X.w) X.A (.compLoop (.ListComp elt [⟨tg,iter,ifs,0⟩] scope pos) 0 (.ref it) (.ref s2.heap.objs.size) (compEnvC scope cl h3.objs.size X.env)) (compPost (model X.prog X.w) X.A X.xe (some (assign (.Name x0 eF) X.env)) (fun _ s'=>SP X pins D0 .next s') (.ref s2.heap.objs.size) h3.objs.size) {s2 with heap:=h₁,toks:=s2.toks+([]:List (Str×Value)).length}:=by
    refine mX (fun n s'=>∃i σ' H',Inv (aH X N scope cl {s2 with heap:=h3} (upd H2 s2.heap.objs.size (.lst [])) fp pins) [] σ' H' s'/\tn i s'.heap/\(∀b∈fp,H' b=none)/\W i n σ' H') ?_ m0 ⟨0,_,_,I4,ff,fun b hb=>(f3 b hb).1,w0⟩;rintro n s5 ⟨i,σ5,H5,I5,cN,dZ,w5⟩;have ck:∀{H':Hp},(∀b∈fp,H' b=none)->∀b∈fp,bT (aH X N scope cl {s2 with heap:=h3} (upd H2 s2.heap.objs.size (.lst [])) fp pins) [] H' b:=fun{H'} hn b hb=>by
     obtain⟨_,q1,q2,q3,q4,q5⟩:=f3 b hb;refine⟨hn b hb,fun z=>?_,I4.ok.exfs b hb,.inl hb,fun x c e=>q4 x c (c1 x c e),fun p hp=>q5 p (by simpa[aH]using hp)⟩;have bh:b<h3.objs.size:=by rw[fe];exact jQ (e6 b hb)
     exact aW bh z
    rcases turn i n σ5 H5 w5 with⟨stop,qn⟩|⟨go,step⟩
    · refine a9 (T.done (aH X N scope cl {s2 with heap:=h3} (upd H2 s2.heap.objs.size (.lst [])) fp pins) rfl rfl rfl hc i [] s5 σ5 H5 _ I5 (ck dZ) cN stop) fun r s6 ⟨hr,I6⟩=>?_
      subst hr;obtain⟨m,hm,_⟩:=I6.loc;have u0:Un (bF X.stack) fp (upd H2 s2.heap.objs.size (.lst [])) H5 h3 s6.heap:=I6.base;have I7:Inv X pins σ H5 s6:=I3.nj (s':=s6) (ch:=fp) I6.os u0 I6.hok I6.bare fun b hb=>⟨(f3 b hb).2.2.2.1,(f3 b hb).2.1,(f3 b hb).2.2.2.2.1,(f3 b hb).2.2.2.2.2⟩;have hC:bT X pins H5 h3.objs.size:=I3.gD (aw _) I6.free;show wpAny _ X.A (assign (.Name x0 eF) X.env (.ref s2.heap.objs.size)) _ _ s6;refine wpAny_assign_Name (kb I7 tZ tE sQ (show RelV (.ref s2.heap.objs.size) (.ref s2.heap.objs.size)from rfl) (fun s8 I8 t4=>?_) tO);obtain⟨a,sb,ha⟩:=t4;have ua:h3.objs.size≠a:=by
       rcases ha with rfl|ha
       ·exact hC.2.1
       ·exact fun z=>hC.2.2.2.2.1 x0 a ha z.symm
      refine⟨m,hm.sameBut sb ua,fun h9 t5=>⟨_,H5,?_,qn⟩⟩;exact I8.p5 (t':=s8.toks) (fp:=[h3.objs.size]) (fun b o hb e=>t5.extBut b o (fun z=>hb (by simp[z])) e) fun b hb=>by rw[dE.mp hb];exact hC
    · refine a9 (T.item (aH X N scope cl {s2 with heap:=h3} (upd H2 s2.heap.objs.size (.lst [])) fp pins) rfl rfl rfl hc i [] s5 σ5 H5 _ I5 (ck dZ) cN go) fun r s6 ⟨u,hr,h6⟩=>?_
      subst hr;refine a9 h6 fun _ s7 ⟨x,H7,I7,r7,y7,dM,jk⟩=>?_;have jJ:=I7.pinned (ck jk) (T.obj _ _ dM);refine a9 (hg _ _ _ _ _ _ s7 σ5 H7 x u _ jJ r7 (step x H7 y7)) fun _ s8 ⟨σ8,H8,I8,q8⟩=>?_;refine a9 (ht _ _ _ _ _ _ s8 σ8 H8 _ I8 q8) fun ok s9 ⟨H9,I9,q9⟩=>?_;have again:∀{s':vH}{σ7:St}{H7:Hp},Inv (aH X N scope cl {s2 with heap:=h3} (upd H2 s2.heap.objs.size (.lst [])) fp pins) ([]++eH fp s7.heap) σ7 H7 s'->(∃m',m'<n/\W (i+1) m' σ7 H7)->∃m,m<n/\∃i σ' H',Inv (aH X N scope cl {s2 with heap:=h3} (upd H2 s2.heap.objs.size (.lst [])) fp pins) [] σ' H' s'/\tn i s'.heap/\(∀b∈fp,H' b=none)/\W i m σ' H':=fun{s' σ7 H7} J7 n7=>by obtain⟨m',hm,w7⟩:=n7;refine⟨m',hm,i+1,σ7,H7,J7.f7,T.keep _ _ _ dM fun b hb o e=>(J7.pin (b,o) (bU _ (bU _ (eL hb e)))).1,fun b hb=>?_,w7⟩;obtain⟨o,e,d⟩:=T.obj _ _ dM b hb;exact(J7.pin (b,o) (bU _ (bU _ (eL hb e)))).2.1
      cases ok with |false=>rw[aK cf]at q9⊢;exact again I9 q9 |true=>rw[aD rfl]at q9⊢;refine a9 (he _ _ _ _ _ _ s9 σ8 H9 _ I9 q9) fun yv iu ⟨y,eT,jL,iH,ys,iX,hz,h8⟩=>?_;refine a9 (iS _ iu σ8 eT (.ref s2.heap.objs.size) [y] (.ref s2.heap.objs.size) [yv] (fun _ eS=>∃m',m'<n/\W (i+1) m' σ8 eS) jL rfl (.cons iH .nil) ⟨_,ys,y,rfl,rfl,iX,hz,h8⟩) fun _ pY ⟨v11,eS,jK,qr,iI⟩=>?_;exact again jK iI
  exact codeAny_compStart_list loop (T.self _ 0 _ _ _ ff loop)
theorem ju:∀{zs:List Str}{us:List Value},Vals (zs.map V.str) us->CarriedAll us (zs.map PyData.str) |[],_,.nil=>.nil |z::zs,_,.cons q r=>by obtain⟨t,rfl⟩:=(show∃t,_=Value.str z t from q);exact .cons (.str z t) (ju r)
section
variable {X:Cx}
end
end L2
namespace L2
open PySem PySem.Spec PyProof.Rows
section
variable {X:Cx}{pins:List (Addr×Obj)}{σ:St}{H:Hp}{s:vH}
end
end L2
namespace L2
open PySem PySem.Spec PyProof.Rows
section
variable {X:Cx}
end
end L2
namespace L2
open PySem PySem.Spec PyProof.Rows
section
variable {prog:vI}{w:World}{A:vK}{E:Value->vH->Prop}{s:vH}
end
end L2
namespace L2
open PySem PySem.Spec PyProof.Rows
section
variable {X:Cx}
end
end L2
namespace L2
open PySem PySem.Spec PyProof.Rows
section
variable {X:Cx}
open PyProof
end
end L2
namespace L2
open PySem PySem.Spec PyProof.Rows
section
variable {K:vG} {H H' H2:Hp}
end
end L2
namespace L2
open PySem PySem.Spec PyProof.Rows
section
variable {X:Cx} {tg:Expr}
end
end L2
namespace L2
open PySem PySem.Spec PyProof.Rows
section
variable {P:vI}{w:World}{K:vG}{mg:Str->Option Value}{base:Heap}
end
section
variable {X:Cx}{k:Nat}{x m:Str}{C:Addr}{p pos apos:Pos}{o e:Expr}{es:List Expr}{t:TA}{ta:TE}{sp:Sp}
end
section
variable {K:vG} {H H' H2:Hp}
end
end L2
namespace L2
open PySem PySem.Spec PyProof.Rows
section
variable {X:Cx}
end
end L2
set_option exponentiation.threshold 6000
namespace L2
open PySem PySem.Spec PyProof.Rows
section
variable {X:Cx}
theorem cH:aX X (.type "str") (fun xs H Q=>(∃i,xs=[.int i]/\i.natAbs.log2<1920/\Q (.str (toString i)) H)\/∃z,xs=[.str z]/\Q (.str z) H):=by
 intro pins s σ H xs us Q I r h;rcases h with⟨i,rfl,hz,q⟩|⟨z,rfl,q⟩
 · obtain⟨u,rfl,t,rfl⟩:=vals1 r
   exact PySem.P.str_of_int hz ⟨.str _,H,I.tok _,⟨_,rfl⟩,q⟩
 · obtain⟨u,rfl,t,rfl⟩:=vals1 r
   exact PySem.P.str_of_str ⟨.str _,H,I,⟨_,rfl⟩,q⟩
def qm(x:V)(H:Hp)(Q:VK):Prop:=(∃i,x= .int i/\i.natAbs.log2<1920/\Q (.str (toString i)) H)\/∃z,x= .str z/\z.length<=sizeLine/\Q (.str z) H
theorem bz{e:Expr}{te:TE}{pos:Pos}(h:PE X e te):PE X (.FormattedValue e (-1) none pos) (fun σ H Q=>te σ H fun x H'=>qm x H' Q):=by
 intro pins s σ H Q I ht;refine wpAny_FormattedValue_plain (a9 (h pins s σ H _ I ht) fun v s1 ⟨x,H1,I1,r1,q1⟩=>?_);rcases q1 with⟨i,rfl,hz,q⟩|⟨z,rfl,hz,q⟩
 · obtain⟨t,rfl⟩:=r1
   exact wpAny_formatField_int hz ⟨.str _,H1,I1.tok _,⟨_,rfl⟩,q⟩
 · obtain⟨t,rfl⟩:=r1
   exact wpAny_formatField_str ⟨.str _,H1,I1,⟨_,rfl⟩,q⟩ ⟨.str _,H1,I1.tok _,⟨_,rfl⟩,q⟩ hz
abbrev TJ:=Str->St->Hp->VK->Prop
def PJ(X:Cx)(es:List Expr)(t:TJ):Prop:=∀(pins:List (Addr×Obj))(s:vH)(σ:St)(H:Hp)(Q:VK)(acc:Str),Inv X pins σ H s->t acc σ H Q->Joins (model X.prog X.w) X.A X.xe (evalEach es X.env) acc (fun out s₁=>out.length<=sizeLine/\EP X pins σ Q (.str out s₁.toks) {s₁ with toks:=s₁.toks+1}) s
theorem eG:PJ X [] (fun acc σ H Q=>acc.length<=sizeLine/\Q (.str acc) H):=by intro pins s σ H Q acc I h;exact⟨h.1,.str _,H,I.tok _,⟨_,rfl⟩,h.2⟩
theorem aP{e:Expr}{es:List Expr}{te:TE}{tj:TJ}(h:PE X e te)(hj:PJ X es tj)(he:evalEach (e::es) X.env=eval e X.env::evalEach es X.env:=by rfl): PJ X (e::es) (fun acc σ H Q=>te σ H fun x H'=>∃y,x= .str y/\(acc++y).length<=sizeLine/\tj (acc++y) σ H' Q):=by intro pins s σ H Q acc I ht;rw[he];refine a9 (h pins s σ H _ I ht) fun v s1 ⟨x,H1,I1,r1,q1⟩=>?_;obtain⟨y,rfl,hl,q⟩:=q1;obtain⟨t,rfl⟩:=r1;exact⟨y,t,rfl,hl,hj pins s1 σ H1 Q _ I1 q⟩
theorem eI{e1 e2:Expr}{es:List Expr}{t:TJ}{pos:Pos}(h:PJ X (e1::e2::es) t):PE X (.JoinedStr (e1::e2::es) pos) (fun σ H Q=>t Str.empty σ H Q):=fun pins s σ H Q I ht=>wpAny_JoinedStr (h pins s σ H Q _ I ht)
theorem me(sep:Str){B:Nat}:∀(zs:List Str),(∀z∈zs,z.length<=B)->(Txt.join sep zs).length<=zs.length*(B+sep.length)
  |[],_=>eW _ |a::r,h=>by
    show(Builtin.Str.glued sep (a::r)).length<=_;rw[jO,len_join_cons];have:=sumLen_le_of_bound id B (a::r) h;rw[List.map_id]at this;rw[oP]at this⊢;have e1:(r.length+1)*(B+sep.length)=B*(r.length+1)+(r.length*sep.length+sep.length):=by rw[Nat.mul_add,Nat.mul_comm (r.length+1) B,Nat.add_mul r.length 1 sep.length,Nat.one_mul]
    omega
inductive oj(K:vG)(x:V)(vs:List V)(H:Hp)(Q:VK):Prop |mk (sep:Str)(l:Addr)(zs:List Str)(h0:x= .str sep)(h1:vs=[.ref l])(h2:ah K H l (zs.map V.str))(h3:(∀z∈zs,z.length<=4000))(h4:sep.length<=8)(h5:zs.length<=1000)(h6:Q (.str (Txt.join sep zs)) H):oj K x vs H Q
def ly(K:vG):V->List V->Hp->VK->Prop:=fun x vs H Q=>oj K x vs H Q
theorem rX(K:vG)(hK:X.K=K):jG X "str.join" (ly K):=by subst hK;intro pins s σ H x vs v us Q I rx rv h;obtain⟨sep,l,zs,rfl,rfl,hl,hz,hs,hn,q⟩:=h;obtain⟨t,rfl⟩:=rx;obtain⟨u,rfl,ru⟩:=vals1 rv;cases(show u=Value.ref l from ru);obtain⟨its,r,pl,_⟩:=I.list hl;have j0:=sumLen_le_of_bound id 4000 zs hz;rw[List.map_id]at j0;have h1:zs.length*sep.length<=1000*8:=Nat.mul_le_mul hn hs;refine join_list (ys:=zs) pl.isList (StrsAre.of_carried (ju r)) (by omega) fun t' k=>?_;exact⟨.str _,H,I.tok _,⟨_,rfl⟩,q⟩
theorem eJ(K:vG)(h:X.K=K){o e:Expr}{to:TE}{t:TA}{apos aA:Pos}(ho:PE X o to)(ha:PA X [e] t) (cZ:attributeBase o "join" X.env (eval o X.env)=eval o X.env:=by rfl) (cX:((backTo aA (starEach [e] X.env)).all (fun x=>!x.1)&&(backToKw aA (keywordEach [] X.env)).all (fun x=>x.1.isSome) &&decide ([e].length+([]:List Keyword).length+(if([]:List Keyword).isEmpty then 0 else 1)<30))=true:=by rfl) (cU:(apos.endLine==aA.line)=true:=by rfl)(hs:starEach [e] X.env=(false,eval e X.env)::starEach [] X.env:=by rfl)(cT:(backTo aA (starEach [] X.env)).any (·.1)=false:=by rfl): PE X (.Call (.Attribute o "join" apos) [e] [] aA) (gd K "str" (ly K) to t):=by subst h;exact iP oI PySem.F.slot_str_join PySem.F.type_str_join (rX X.K rfl) ho ha cZ cX cU hs cT
theorem p4{i:Int}(h:i.natAbs<10^40):(Str.ofString (toString i)).length<=41:=by rw[PySem.ofString_length];exact int_text_length_le10 (k:=40) (by decide) h
theorem cP{i:Int}(h:i.natAbs<10^40):i.natAbs.log2<1920:=by
 by_cases h0:i.natAbs=0
 ·rw[h0];decide
 ·exact(Nat.log2_lt h0).mpr (gS h (by decide))
end
section
variable {X:Cx}
end
end L2
namespace L2
open PySem PySem.Spec PyProof.Rows
section
variable {X:Cx} {tg:Expr}
end
end L2
namespace L2
open PySem PySem.Spec PyProof.Rows
theorem qb:typeLookup (.type "list_reverseiterator") "__len__"=pure none:=by rw[typeLookup_type,builtinLookup_eq_fast];kernel_rfl
theorem qd:typeLookup (.type "list_reverseiterator") "__length_hint__"=pure (some (.builtin "list_reverseiterator.__length_hint__")):=by rw[typeLookup_type,builtinLookup_eq_fast];kernel_rfl
section
variable {prog:vI}{w:World}{A:vK}{E:Value->vH->Prop}{s:vH}
def gK(I l:Addr)(its:Array Value)(i:Nat)(s:vH):Prop:=i<=its.size/\s.heap.IsRevIter I l ((its.size:Int)-1-(i:Int))/\s.heap.IsList l its
theorem pZ(hh:A.handled=none)(I l:Addr)(bE:l≠I)(its:Array Value): WalksS prog w A I [I,l] [I] Eq its.size (fun i v=>its[its.size-1-i]? =some v) (gK I l its) where
  sub:=fun b hb=>di.mpr (.inl (dE.mp hb))
  grefl:=fun _=>rfl
  gtrans:=fun _ _ _=>Eq.trans
  frame:=fun i s h' tk x _ hk=>⟨x.1,x.2.1.at fun o e=>hk I (by simp) o e,x.2.2.at fun o e=>hk l (by simp) o e⟩
  item:=fun i s Q E hi x hQ=>by
   have e:(its.size:Int)-1-(i:Int)=((its.size-1-i:Nat):Int):=by omega
   have hit:=x.2.1;rw[e]at hit;refine wpAny_pyNext_rev_item hit x.2.2 (jX (i:=its.size-1-i) (by omega)) fun h' tF mq=>?_;refine hQ _ {s with heap:=h'} (jX (by omega)) ⟨hi,?_,x.2.2.at fun o eo=>(mq.2 l bE).trans eo⟩ ⟨fun b o hb eo=>mq.extBut b o (fun z=>hb (dE.mpr z)) eo,rfl,rfl,rfl,aw _⟩;have e2:((its.size-1-i:Nat):Int)-1=(its.size:Int)-1-((i+1:Nat):Int):=by omega
   rw[<-e2];exact tF
  done:=fun s Q E x hQ=>by have hit:=x.2.1;rw[show(its.size:Int)-1-(its.size:Int)=-1 by omega]at hit;exact wpAny_pyNext_rev_end hh hit fun h' tP=>hQ {s with heap:=h'} ⟨fun b o hb eo=>tP b o (fun z=>hb (dE.mpr z)) eo,rfl,rfl,rfl,aw _⟩
  self:=fun _ _ _ _ x hQ=>wpAny_pyIter_revIter x.2.1 hQ
theorem qe{I l:Addr}{its:Array Value}{Q:List Value->vH->Prop}(hh:A.handled=none)(bE:l≠I)(x:gK I l its 0 s)(hI:I<s.heap.objs.size)(hl:l<s.heap.objs.size)(hn:its.size<=sizeLine) (hQ:∀s' acc,Moved [I] Eq s s'->ItemsOf (fun i v=>its[its.size-1-i]? =some v) acc its.size->Q acc.toList s'):wpAny (model prog w) A (collect (.ref I)) Q E s:=by
  have W:=pZ (prog:=prog) (w:=w) (A:=A.in1) hh I l bE its;have hT:∀{i s},gK I l its i s->s.TypeIs (.ref I) "list_reverseiterator":=fun y=>y.2.1.typeIs;obtain⟨S,hS⟩:∃S,s.heap.objs.size=S:=⟨_,rfl⟩;let nw:Obj:={cls:=.type "list",data:=.seq ([]:List Value).toArray};have mD:S≠I:=Nat.ne_of_gt (hS▸hI);have tX:S≠l:=Nat.ne_of_gt (hS▸hl);have tY:S∉[I,l]:=by simp[mD,tX]
  have sf:Builtin.List.listSameRef (.ref S) (.ref I)=false:=by simp[Builtin.List.listSameRef,mD]
  have y:=W.frame 0 s (s.heap.push nw) s.toks x (aw _) fun b _ o e=>bw _ e;have aS:(s.heap.push nw).get? S=some nw:=by rw[<-hS];exact dk _ rfl
  unfold collect;apply aB;apply wpAny_runValue;apply codeAny_builtin F.entry_proto_collect;rw[Around.under_plainId F.plain_proto_collect _];apply aB (m:=newList []);refine jM ?_;rw[hS];refine br ⟨plainId_quiet F.plain_list_iadd _,codeAny_builtin F.entry_list_iadd ?_⟩;rw[Around.under_plainId F.plain_list_iadd _];show wpAny _ A.in1 (Builtin.List.listExtendWith (.ref S) (.ref I) (.ref S)) _ _ _;unfold Builtin.List.listExtendWith;apply aB;apply wpAny_typeOf (hT y);rw[aK (by rw[sf];decide)];apply aB;apply W.self 0 _ _ _ y;apply aB;apply wpAny_holding;unfold Builtin.List.listLengthHint;apply aB;apply wpAny_specialOf (hT y) qb;apply aB (m:=specialOf (Value.ref I) (Str.ofString "__length_hint__"));apply wpAny_specialOf (hT y) qd
  (generalize my:("list_reverseiterator.__length_hint__":String)=z0;wp_delta;rw[show splitId z0=some ("list_reverseiterator","__length_hint__")from by subst my;decide+kernel];subst my);apply aB;apply wpAny_isInstance (b:=true) (hT y) (by rw[isSubtype_type];kernel_rfl);apply br;rw[aK (by decide)];refine br ⟨plainId_quiet F.plain_extend_loop _,codeAny_extend_loopS W hn _ tY _ its.size 0 _ _ _ rfl (eW _) y aS (ItemsOf.nil _) fun s' uT c' hm d8 eO=>?_⟩;apply aB (m:=load S);apply wpAny_load d8;exact br (hQ s' uT (Moved.drop_new (o:=nw) (tk:=s.toks) (hS▸hm) (aw _)) eO)
theorem qa(sep:Str):∀(ps:List (Str×Tok)),JoinOk sep (ps.map (·.1))=true->Gives (PySem.joinTail sep (strValues ps)) (joinMade sep ps) |[],h=>gives_joinTail sep [] ((gU _).mp h) |[p],h=>gives_joinTail sep [p] ((gU _).mp h) |p::q::r,h=>gives_joinTail sep (p::q::r) ((gU _).mp h)
theorem qc{I l:Addr}{its:Array Value}{zs:List Str}{sep:Str}{t:Tok}{Q:Value->vH->Prop}(hh:A.handled=none)(bE:l≠I)(x:gK I l its 0 s)(hI:I<s.heap.objs.size)(hl:l<s.heap.objs.size) (hz:StrsAre its.toList zs)(hn:its.size<=sizeLine)(hok:(zs.map (·.length)).sum+zs.length*sep.length<=16777216) (hQ:∀h' t' k,(∀b o,b≠I->s.heap.get? b=some o->h'.get? b=some o)->Q (.str (Txt.join sep zs.reverse) t') {s with heap:=h',toks:=k}): wpAny (model prog w) A (call (.builtin "str.join") [.str sep t,.ref I]) Q E s:=by
  have hT:s.TypeIs (.ref I) "list_reverseiterator":=x.2.1.typeIs;apply wpAny_call;refine codeAny_call_builtin F.slot_str_join.plain F.entry_str_join (F.slot_str_join.check _ _ _ _ _ _ _ _ (typeIs_str _ _ _) (F.args_str_join_2 _ _) ?_);rw[join_tree_other];refine aB (wpAny_typeOf hT ?_);show wpAny _ A.in1 ((pyIter (.ref I)).tryCatch _>>=fun it=>collect it>>=fun vs=>PySem.joinTail sep vs) _ _ s;refine aB (wpAny_tryCatch (wpAny_pyIter_revIter x.2.1 ?_));refine aB (qe hh bE x hI hl hn fun s' acc hm eO=>?_);have ea:acc.toList=its.toList.reverse:=by
   refine List.ext_getElem? fun j=>?_;by_cases hj:j<its.size
   · have h1:=eO.2 j _ (jX (by rw[eO.1];exact hj))
     rw[List.getElem?_reverse (by simpa using hj),ej,oS,oS];exact(jX (by rw[eO.1];exact hj)).trans h1.symm
   ·exact(List.getElem?_eq_none (by rw[ej,eO.1];omega)).trans (List.getElem?_eq_none (by rw[List.length_reverse,ej];omega)).symm
  obtain⟨ps,hv,ht⟩:=strsAre_values hz;have ev:strValues ps.reverse=acc.toList:=by rw[ea,hv];unfold strValues;rw[oO]
  have et:(ps.reverse).map (·.1)=zs.reverse:=by rw[oO,ht]
  have ok:JoinOk sep (ps.reverse.map (·.1))=true:=joinOk_of (by rw[et,oO,List.sum_reverse,List.length_reverse];exact hok);rw[<-ev];have rH:=(gU _).mp ok;have post:(Txt.join sep (ps.reverse.map (·.1))).length<=sizeLine/\∀t' k,Q (.str (Txt.join sep (ps.reverse.map (·.1))) t') {s' with toks:=k}:=by
   refine⟨joinFit_length rH,fun t' k=>?_⟩;rw[et];have e:({s' with toks:=k}:vH)={s with heap:=s'.heap,toks:=k}:=by rcases s' with⟨a,b,c,d,f⟩;have e1:_=b:=hm.gens;have e2:c=_:=hm.drawn;have e3:f=_:=hm.os;subst e1 e2 e3;rfl
   rw[e];exact hQ _ t' k fun b o hb eo=>hm.heap b o (fun z=>hb (dE.mp z)) eo
  exact qa sep ps.reverse ok prog w A (wants Q E) s' (post_join ps.reverse post)
end
section
variable {X:Cx}
inductive om(K:vG)(x:V)(vs:List V)(H:Hp)(Q:VK):Prop |mk (sep:Str)(l:Addr)(zs:List Str)(h0:x= .str sep)(h1:vs=[.ref l])(h2:ah K H l (zs.map V.str))(h3:(∀z∈zs,z.length<=4000))(h4:sep.length<=8)(h5:zs.length<=1000)(h6:Q (.str (Txt.join sep zs.reverse)) H):om K x vs H Q
def pG(K:vG)(to:TE)(t:TA):TE:=fun σ H Q=>to σ H fun x H1=>hE K "str" x H1/\t σ H1 fun vs H2=>om K x vs H2 Q
theorem qM(K:vG)(h:X.K=K){o a:Expr}{to:TE}{t:TA}{apos aA p pos:Pos}(hg:Gl X "reversed")(hm:X.mg "reversed"=none)(ho:PE X o to)(ha:PA X [a] t)(hc:X.calm=true:=by rfl) (cZ:attributeBase o "join" X.env (eval o X.env)=eval o X.env:=by rfl) (cX:((backTo aA (starEach [.Call (.Name "reversed" p) [a] [] pos] X.env)).all (fun x=>!x.1)&&(backToKw aA (keywordEach [] X.env)).all (fun x=>x.1.isSome) &&decide ([Expr.Call (.Name "reversed" p) [a] [] pos].length+([]:List Keyword).length+(if([]:List Keyword).isEmpty then 0 else 1)<30))=true:=by rfl) (cU:(apos.endLine==aA.line)=true:=by rfl)(hs:starEach [.Call (.Name "reversed" p) [a] [] pos] X.env=(false,eval (.Call (.Name "reversed" p) [a] [] pos) X.env)::starEach [] X.env:=by rfl) (cT:(backTo aA (starEach [] X.env)).any (·.1)=false:=by rfl)(t6:starEach [a] X.env=[(false,eval a X.env)]:=by rfl)(mn:starEach [] X.env=[]:=by rfl): PE X (.Call (.Attribute o "join" apos) [.Call (.Name "reversed" p) [a] [] pos] [] aA) (pG K to t):=by
  subst h;intro pins s σ H Q I h;refine wpAny_Call_method_late cZ cX cU rfl (a9 (ho pins s σ H _ I h) fun v s1 ⟨x,H1,I1,r1,ty,q1⟩=>?_);obtain⟨h1,h2⟩:=k5 I1 r1 ty;refine⟨"str","str.join",oI,PySem.F.slot_str_join,PySem.F.type_str_join,h1,h2,?_⟩;rw[hs];refine Calls.callWith_builtin (by show(false||(backTo aA (starEach [] X.env)).any (·.1))=false;rw[cT]<;>rfl) (Calls.evalArgs_plain ?_);show wpAny _ _ (spliced ((false,eval (.Call (.Name "reversed" p) [a] [] pos) X.env)::backTo aA (starEach [] X.env))) _ _ s1;refine Calls.spliced_cons ?_;refine Call_ (fH I1 hg hm PyProof.Rows.boot_reversed (oK (a9 (ha pos pins s1 σ H1 _ I1 q1) fun us s2 ⟨vs,H2,I2,r2,q2⟩=>?_) (by rw[t6,mn]) (by rw[mn];rfl)));obtain⟨sep,l,zs,rfl,rfl,hl,hz,hb,hn,q⟩:=q2;obtain⟨tk,rfl⟩:=r1;obtain⟨u,rfl,ru⟩:=vals1 r2;cases(show u=Value.ref l from ru);obtain⟨its,r,pl,_⟩:=I2.list hl;have hlen:=r.length;rw[aO]at hlen;have j0:=sumLen_le_of_bound id 4000 zs hz;rw[List.map_id]at j0;have hle:zs.length*sep.length<=1000*8:=Nat.mul_le_mul hn hb;refine call_reversed_list pl.isList ?_;have fresh:=I2.hok.fresh (aw s2.heap.objs.size);have I3:Inv X pins σ H2 {s2 with heap:=s2.heap.push (revObj l ((its.toArray.size:Int)-1))}:=I2.kept (t':=s2.toks) fun b o e=>bw _ e;obtain⟨f0,f1,f2,f3,f4,f5⟩:=I2.gD (pins:=pins) (aw s2.heap.objs.size) fresh;refine Calls.spliced_nil ?_;have bE:l≠s2.heap.objs.size:=fun z=>by obtain⟨o,ho,_⟩:=pl.isList;exact absurd (av ho) (by rw[z];exact eX _)
  have tu:l<s2.heap.objs.size:=by obtain⟨o,ho,_⟩:=pl.isList;exact av ho
  have bh:∀{b},b<=s2.heap.objs.size->b<(s2.heap.push (revObj l ((its.toArray.size:Int)-1))).objs.size:=fun{b} e=>by rw[Heap.size_push];exact Nat.lt_succ_of_le e
  refine qc (its:=its.toArray) (zs:=zs) (I2.ok.hd hc) bE ⟨eW _,⟨_,dk _ rfl,rfl,by show Data.fields _=Data.fields _;simp⟩,Heap.IsList.at pl.isList fun o e=>bw _ e⟩ (bh (aw _)) (bh (jS tu)) (StrsAre.of_carried (ju r)) (by rw[bJ,<-hlen,sizeLine_eq];omega) (by omega) fun h' t' k kk=>?_;exact⟨.str _,H2,I3.turned (t':=k) kk f0 f1 f3 f4 f5,⟨_,rfl⟩,q⟩
inductive oe(x:V)(vs:List V)(H:Hp)(Q:VK):Prop |mk (z:Str)(i:Int)(h0:x= .str z)(h1:vs=[.int i])(h3:PadOk i=true)(h4:Q (.str (Txt.zfill z i)) H):oe x vs H Q
def lu:V->List V->Hp->VK->Prop:=fun x vs H Q=>oe x vs H Q
theorem rW:jG X "str.zfill" lu:=by intro pins s σ H x0 vs v us Q I rx rv h;obtain⟨x,i,rfl,rfl,hp,q⟩:=h;obtain⟨t,rfl⟩:=rx;obtain⟨u0,rfl,u,rfl⟩:=vals1 rv;exact SC.zfill hp fun t' k=>⟨.str _,H,I.tok k,⟨_,rfl⟩,q⟩
theorem qL(K:vG)(h:X.K=K){o e:Expr}{to:TE}{t:TA}{apos aA:Pos}(ho:PE X o to)(ha:PA X [e] t) (cZ:attributeBase o "zfill" X.env (eval o X.env)=eval o X.env:=by rfl) (cX:((backTo aA (starEach [e] X.env)).all (fun x=>!x.1)&&(backToKw aA (keywordEach [] X.env)).all (fun x=>x.1.isSome) &&decide ([e].length+([]:List Keyword).length+(if([]:List Keyword).isEmpty then 0 else 1)<30))=true:=by rfl) (cU:(apos.endLine==aA.line)=true:=by rfl)(hs:starEach [e] X.env=(false,eval e X.env)::starEach [] X.env:=by rfl)(cT:(backTo aA (starEach [] X.env)).any (·.1)=false:=by rfl): PE X (.Call (.Attribute o "zfill" apos) [e] [] aA) (gd K "str" lu to t):=by subst h;exact iP oI PySem.F.slot_str_zfill PySem.F.type_str_zfill rW ho ha cZ cX cU hs cT
inductive oA(xs:List V)(H:Hp)(Q:VK):Prop |mk (i j:Int)(h0:xs=[.int i,.int j])(h1:0<j)(h2:Wd j)(h3:∀p H',Nw H H' p (.tup [.int (i/j),.int (i%j)])->Q (.ref p) H'):oA xs H Q
theorem uG:aX X (.builtin "divmod") (fun xs H Q=>oA xs H Q):=by intro pins s σ H xs us Q I r h;obtain⟨i,j,rfl,h1,h2,q⟩:=h;obtain⟨u,w',rfl,⟨t,rfl⟩,⟨t',rfl⟩⟩:=vals2 r;refine divmod_int (by omega) ?_ (.inl (oJ h2.log));rw[Int.fdiv_eq_ediv_of_nonneg i (by omega),Int.fmod_eq_emod_of_nonneg i (by omega)];have hn:H s.heap.objs.size=none:=I.hok.fresh (aw _);refine⟨.ref s.heap.objs.size,upd H s.heap.objs.size (.tup [.int (i/j),.int (i%j)]),?_,rfl,q _ _ (Nw.of hn)⟩;exact I.laid (fun b o e=>bw _ e) (aw _) ⟨by show 2<=sizeLine;decide,[.int (i/j) s.toks,.int (i%j) (s.toks+1)],.cons ⟨_,rfl⟩ (.cons ⟨_,rfl⟩ .nil),_,dk s.heap rfl,rfl,0,rfl⟩
end
end L2
namespace Tm
open PySem PySem.Spec PyProof.Rows PySem.NumText
theorem mU{x y:Str}(h:x.cps.toList=y.cps.toList):x=y:=PySem.Str.ext' (Array.toList_inj.mp h)
def numS(i:Int):Str:=Str.ofString (toString i)
theorem fT(m:Nat):(numS (m:Int)).cps.toList=(Nat.toDigits 10 m).map Char.toNat:=PySem.W.KIN.signs_num m
theorem uz(m:Nat):(numS (Int.negSucc m)).cps.toList=45::(Nat.toDigits 10 (m+1)).map Char.toNat:=by unfold numS;rw[signs_ofString];show("-"++Nat.repr (m+1)).toList.map Char.toNat=_;rw[String.toList_append,g6,Nat.toList_repr];rfl
theorem uu(m:Nat):AllDigits ((Nat.toDigits 10 m).map Char.toNat):=fun c hc=>by obtain⟨ch,c6,e⟩:=dF.mp hc;have r:=digit_range (Nat.isDigit_of_mem_toDigits (by decide) (by decide) c6);rw[<-e];exact r
end Tm
namespace Nu
open PySem PySem.Spec PyProof.Rows PySem.NumText Tm
def cn:Nat->Nat->List Char |0,_=>[] |e+1,r=>cn e (r/10)++[(r%10).digitChar]
theorem mS:∀e m:Nat,10^e<=m->Nat.toDigits 10 m=Nat.toDigits 10 (m/10^e)++cn e (m%10^e)
  |0,m,_=>by simp[cn] |e+1,m,h=>by
    have hp:0<10^e:=Nat.pow_pos (by decide);have ue:10<=m:=by rw[gR]at h;omega
    have hd:10^e<=m/10:=by rw[Nat.le_div_iff_mul_le (by decide)];rw[gR]at h;exact h
    rw[Nat.toDigits_of_base_le (by decide) ue,mS e (m/10) hd,Nat.div_div_eq_div_mul,<-Nat.pow_succ',List.append_assoc];show _=_++(cn e (m%10^(e+1)/10)++[(m%10^(e+1)%10).digitChar]);rw[Nat.pow_succ',Nat.mod_mul_right_div_self,Nat.mod_mul_right_mod]
theorem lH:∀e:Nat,cn e 0=List.replicate e '0' |0=>rfl |e+1=>by show cn e 0++['0']=_;rw[lH e,List.replicate_succ']
theorem lI:∀e r:Nat,r<10^(e+1)->cn (e+1) r=List.replicate (e+1-(Nat.toDigits 10 r).length) '0'++Nat.toDigits 10 r
  |0,r,h=>by have h:r<10:=h;rw[Nat.toDigits_of_lt_base h];show[]++[(r%10).digitChar]=_;rw[Nat.mod_eq_of_lt h];rfl |e+1,r,h=>by
    show cn (e+1) (r/10)++[(r%10).digitChar]=_;by_cases hr:r<10
    · rw[Nat.div_eq_of_lt hr,lH,Nat.mod_eq_of_lt hr,Nat.toDigits_of_lt_base hr]
      simp
    · have hd:r/10<10^(e+1):=by rw[Nat.div_lt_iff_lt_mul (by decide),<-gR];exact h
      rw[lI e (r/10) hd,Nat.toDigits_of_base_le (b:=10) (n:=r) (by decide) (by omega),dj,List.append_assoc];have:e+1+1-((Nat.toDigits 10 (r/10)).length+[(r%10).digitChar].length)=e+1-(Nat.toDigits 10 (r/10)).length:=by simp
      rw[this]
theorem jY(r:Nat)(h:r<10^64):(Txt.zfill (numS (r:Int)) 64).cps.toList=(cn 64 r).map Char.toNat:=by
 have ec:=fT r;have el:(numS (r:Int)).length=(Nat.toDigits 10 r).length:=by show(numS (r:Int)).cps.size=_;rw[<-ej,ec,aO]
 rw[lI 63 r h,g6,List.map_replicate];unfold Txt.zfill;split
 · rename_i hl
   have:64-(Nat.toDigits 10 r).length=0:=by omega
   show(numS (r:Int)).cps.toList=_;rw[ec,show 63+1-(Nat.toDigits 10 r).length=0 by omega];rfl
 · rename_i hl
   have hd:=uu r;have h0:∀c,(numS (r:Int)).cps[0]? =some c->48<=c:=fun c e=>by rw[<-oS,ec]at e;exact(hd c (eh e)).1
   have hz:zfilled (numS (r:Int)) ((64:Int).toNat-(numS (r:Int)).length)=Builtin.Str.padded (numS (r:Int)) ((64:Int).toNat-(numS (r:Int)).length) 0 48:=by
    unfold zfilled;split
    ·rename_i e;exact absurd (h0 _ e) (by decide)
    ·rename_i e;exact absurd (h0 _ e) (by decide)
    ·rfl
   rw[hz];show(Array.replicate _ 48++(numS (r:Int)).cps++Array.replicate 0 48).toList=_;rw[jW,jW,Array.toList_replicate,ec,el];simp
theorem rM(m:Nat)(h:10^64<=m):numS (m:Int)=numS ((m/10^64:Nat):Int)++Txt.zfill (numS ((m%10^64:Nat):Int)) 64:=by refine mU ?_;rw[PySem.Str.cps_append,jW,fT,fT,jY _ (Nat.mod_lt _ (Nat.pow_pos (by decide))),<-g6,<-mS 64 m h]
theorem rL{i:Int}(h:i<0):numS i="-"++numS (-i):=by obtain⟨m,rfl⟩:∃m:Nat,i=Int.negSucc m:=⟨(-i-1).toNat,by omega⟩;refine mU ?_;rw[PySem.Str.cps_append,jW,uz,show-Int.negSucc m=((m+1:Nat):Int)from rfl,fT];rfl
theorem oT{r:Nat}(h:r<10^64):(Txt.zfill (numS (r:Int)) 64).length=64:=by
 show(Txt.zfill (numS (r:Int)) 64).cps.size=64;rw[<-ej,jY r h,aO];have:∀e r,(cn e r).length=e:=fun e=>by induction e with |zero=>intro r;rfl |succ e ih=>intro r;show(cn e (r/10)++[_]).length=_;rw[dj,ih];rfl
 exact this 64 r
def cat(zs:List Str):Str:=Txt.join "" zs
theorem uB:cat []=Str.empty:=by unfold cat Txt.join;rw[jO];rfl
theorem nc(z:Str)(zs:List Str):cat (z::zs)=z++cat zs:=by unfold cat Txt.join;rw[jO,jO];cases zs with |nil=>exact(Str.append_empty z).symm |cons y r=>show(z++"")++PySem.Str.join "" (y::r)=_;rw[show(Str.ofString "")=Str.empty from by decide+kernel,Str.append_empty]
structure Wr(N r:Nat)(zs:List Str):Prop where
 e:numS (N:Int)=numS (r:Int)++cat zs.reverse
 d:r=N/(10^64)^zs.length
 l:∀z∈zs,z.length<=64
 b:zs.length=0\/(10^64)^zs.length<=N
theorem Wr.nil(N:Nat):Wr N N []:=⟨by rw[show([]:List Str).reverse=[]from rfl,uB,Str.append_empty],by simp,fun _ h=>by simp at h,.inl rfl⟩
theorem Wr.step{N r:Nat}{zs:List Str}(h:Wr N r zs)(hr:10^64<=r):Wr N (r/10^64) (zs++[Txt.zfill (numS ((r%10^64:Nat):Int)) 64]):=by
 have hm:r%10^64<10^64:=Nat.mod_lt _ (Nat.pow_pos (by decide));refine⟨?_,?_,fun z hz=>?_,.inr ?_⟩
 · rw[List.reverse_append,List.reverse_cons,List.reverse_nil,List.nil_append,List.singleton_append,nc,<-Str.append_assoc,<-rM r hr]
   exact h.e
 ·rw[dj,jV,gR (10^64) zs.length,<-Nat.div_div_eq_div_mul,<-h.d]
 · rcases g5.mp hz with hz|hz
   ·exact h.l z hz
   ·rw[dE.mp hz,oT hm];exact aw _
 · rw[dj,jV,gR (10^64) zs.length,Nat.mul_comm]
   have h2:=h.d;generalize(10^64)^zs.length=B at*;rw[h2]at hr;by_cases hB:B=0
   ·subst hB;simp
   ·exact(Nat.le_div_iff_mul_le (Nat.pos_of_ne_zero hB)).mp hr
theorem Wr.len{N r:Nat}{zs:List Str}(h:Wr N r zs)(hN:N<10^540):zs.length<=8:=by
 rcases h.b with e|e
 ·omega
 · rw[<-Nat.pow_mul]at e
   have:=(Nat.pow_lt_pow_iff_right (a:=10) (by decide)).mp (jR e hN);omega
theorem m5{m:Nat}(h:m<10^540):((m:Nat):Int).natAbs.log2<1920:=by
 rw[Int.natAbs_natCast];by_cases h0:m=0
 ·rw[h0];decide
 ·exact(Nat.log2_lt h0).mpr (gS h (by decide+kernel))
theorem sm{i:Int}(h:i.natAbs<10^540):(numS i).length<=541:=by show(Str.ofString (toString i)).length<=541;rw[PySem.ofString_length];exact int_text_length_le10 (k:=540) (by decide) h
theorem uU{i:Int}(h:¬i<0):((i.natAbs:Nat):Int)=i:=by omega
theorem abs_neg{i:Int}(h:i<0):((i.natAbs:Nat):Int)=-i:=by omega
end Nu
namespace Wk
open PySem L2
end Wk
namespace Lw
open PySem PySem.Spec PyProof.Rows L2
def top(i:Nat):Stmt:=PySem.Challenge.pw_glidequeue_k52_items_written.main.body.getD i (.Pass ⟨0,0,0,0⟩)
section
variable {P:vI}{w:World}{K:vG}{mg:Str->Option Value}{base:Heap}
inductive nR(vs:List V)(H:Hp)(Q:VK):Prop |mk (p:_)(many:_)(h0:vs=[.ref p,.int many])(h1:bj H p)(h2:1<=many)(h3:many<=10^40)(h4:∀d H',0<=d->d<many->ao p H H'->Q (.int d) H'):nR vs H Q
def dq:Sp:=fun vs H Q _=>nR vs H Q
abbrev hX:Stmt:=top 13
theorem kC:aJ ["_law_bag_here","_law_many","_law_digit","_law_number_here","_law_room"] ["_law_bag_here","_law_many"] (az hX):=aR (by decide+kernel)
theorem r6(F:FA K mg "_law_take" hX)(B:aG mg):ab P w K mg base "_law_take" 1 dq:=by
 refine F.has kC (fun vs H Q E h=>?_) (fun _ _ _ _ _ _=>ee fun _ _=>rfl) (fun f af A outer s H vs Q E hr h=>?_)
 · obtain⟨p,many,rfl,_⟩:=h
   rfl
 · obtain⟨p,many,rfl,⟨c,m,hp,ok⟩,h1,h2,k⟩:=h
   obtain⟨c0,m0,m1⟩:=id ok;have nd:=kC.nd;refine⟨_,(ag (bb (aQ qV (px K (pv 0) a8) a8 (aN _)) (ag (pS 2 nd (ae dR (px K (pv 0) a8) (pv 1))) (ag (dv (ae lJ (px K (pv 0) a8) (pv 1)) (iM (pv 0) a8 set_list)) (ak (ay (pv 2))))) ba) (ag (pS 3 nd a8) (ag (pS 4 nd a8) (ag (iK fZ (aQ eK (pv 4) (pv 1) (aN _)) (ag (dv (ae dR (ae fw (ae bA (ae c3 (px K (pv 0) a8) a8) a8) a8) a8) (iM (pv 0) a8 set_list)) (ag (pS 3 nd (ae bA (ae c3 (pv 3) a8) (ae dR (ae c3 (ae lJ (px K (pv 0) a8) a8) a8) a8))) (ak (pS 4 nd (ae c3 (pv 4) a8)))))) (ak (ay (ae dR (pv 3) (pv 1)))))))),?_⟩;refine⟨_,rfl,.inl ⟨p,_,0,.int c,rfl,rfl,ah.of hp,rfl,_,_,rfl,rfl,_,rfl,?_⟩⟩;refine bQ (fun hc=>?_) (fun _=>?_)
   · refine⟨_,rfl,.inl ⟨p,_,0,.int c,rfl,rfl,ah.of hp,rfl,_,rfl,_,_,rfl,rfl,h1,?_⟩⟩
     refine⟨_,rfl,.inl ⟨p,_,0,.int c,rfl,rfl,ah.of hp,rfl,_,rfl,_,_,rfl,rfl,⟨h1,gZ (by omega) h2⟩,?_⟩⟩;refine⟨_,rfl,p,_,0,0,rfl,rfl,hp,rfl,?_⟩;refine⟨_,rfl,?_⟩;exact k _ _ (eZ _ (by omega)) (g7 _ (by omega)) (ao.upd ⟨Int.ediv_nonneg c0 (by omega),m0,m1⟩)
   · refine gY (fun σ H2=>∃(v:Option V)(n r:Int),σ=[some (.ref p),some (.int many),v,some (.int n),some (.int r)]/\ao p H H2/\1<=r) (fun σ _=>match σ with|[_,_,_,_,some (.int r)]=>(many-r).toNat|_=>0) ?_ ?_ ?_
     ·exact⟨none,0,1,rfl,.refl ⟨c,m,hp,ok⟩,bV _⟩
     · rintro σ H2 ⟨v,n,r,rfl,bx,vq⟩
       obtain⟨c',m',gC,uH,vk,vj⟩:=id bx.bag;refine⟨_,rfl,_,rfl,_,_,rfl,rfl,_,rfl,?_⟩;refine bQ (fun hc=>?_) (fun hc=>?_)
       · have bh:r<many:=fY hc
         refine⟨_,rfl,.inl ⟨p,_,1,.int m',rfl,rfl,ah.of gC,rfl,_,_,rfl,rfl,.of_right (cA (by decide) (by decide)),_,_,rfl,rfl,_,_,rfl,rfl,⟨by decide,by decide,?_⟩,_,_,rfl,rfl,(by show(0:Int)<2147483629;decide),?_⟩⟩
         · have jh:(2:Nat)^64=18446744073709551616:=by decide
           rw[jh];omega
         refine⟨_,rfl,p,_,1,1,rfl,rfl,gC,rfl,?_⟩;have g0:0<=((m'*48271+7919)^(3:Int).toNat)%2147483629:=eZ _ (by decide);have g1:((m'*48271+7919)^(3:Int).toNat)%2147483629<2147483629:=g7 _ (by decide);have uI:ao p H (L2.upd H2 p (.lst [.int c',.int (((m'*48271+7919)^(3:Int).toNat)%2147483629)])):=bx.trans (.upd ⟨uH,g0,Int.lt_trans g1 (by decide)⟩);refine⟨_,rfl,_,_,rfl,rfl,.of_right (cA (by decide) (by decide)),_,rfl,.inl ⟨p,_,1,.int _,rfl,rfl,ah.of cj,rfl,_,_,rfl,rfl,⟨by decide,gZ (by decide) (by decide)⟩,_,_,rfl,rfl,.of_right (cA (by decide) (by decide)),_,_,rfl,rfl,(by show(0:Int)<1073741789;decide),_,_,rfl,rfl,?_⟩⟩;refine⟨_,rfl,_,_,rfl,rfl,.of_right (cA (by decide) (by decide)),?_⟩;refine⟨⟨v,_,_,rfl,uI,?_⟩,?_⟩
         ·omega
         · show(many-r*1073741789).toNat<(many-r).toNat
           omega
       · refine⟨_,rfl,_,rfl,_,_,rfl,rfl,h1,?_⟩
         exact k _ _ (eZ _ (by omega)) (g7 _ (by omega)) bx
     · rintro σ H2 Q1 Q2 hq ⟨v1,e1,v2,e2,i,j,e3,e4,kk,e5,q⟩
       exact⟨v1,e1,v2,e2,i,j,e3,e4,kk,e5,hq _ _ q⟩
inductive oa(K:vG)(vs:List V)(H:Hp)(Q:VK):Prop |mk (a:Addr)(ns:List Int)(at':Int)(h0:vs=[.ref a,.int at'])(h1:ah K H a (ns.map V.int))(h2:ns.length<=63)(h3:0<=at')(h4:at'<=100)(h5:∀p H',H p=none->bj H' p->ai H H'->Q (.ref p) H'):oa K vs H Q
def kr(K:vG):Sp:=fun vs H Q _=>oa K vs H Q
abbrev ip:Stmt:=top 12
theorem kX:aJ ["_law_script","_law_at","_law_cell","_law_mix","_law_k"] ["_law_script","_law_at"] (az ip):=aR (by decide+kernel)
theorem mj{ns:List Int}{j:Nat}(h:j<ns.length):∃z,c9 (ns.map V.int) (j:Int)=some (.int z):=⟨ns[j],uP (by simp[h])⟩
theorem rG(F:FA K mg "_law_bag" ip)(B:aG mg):ab P w K mg base "_law_bag" 1 (kr K):=by
 refine F.has kX (fun vs H Q E h=>?_) (fun _ _ _ _ _ _=>ee fun _ _=>rfl) (fun f af A outer s H vs Q E hr h=>?_)
 · obtain⟨a,ns,at',rfl,_⟩:=h
   rfl
 · obtain⟨a,ns,at',rfl,hS,hlen,h0,h1,k⟩:=h
   obtain⟨j,rfl⟩:∃j:Nat,at'=(j:Int):=⟨at'.toNat,by omega⟩;have nd:=kX.nd;refine⟨_,(ag (pS 2 nd a8) (ag (gv (bb (aQ eK (pv 1) (iR K B (a6 (pv 0) a7)) (aN _)) (ak (pS 2 nd (bZ (x:="abs") gG rfl (B.at "abs") jP (a6 (px K (pv 0) (pv 1)) a7)))) ba)) (ag (pS 3 nd (ae bA (ae bA (ae c3 (ae c3 a8 (pv 1)) (pv 1)) (ae c3 a8 (pv 1))) a8)) (ag (iL fZ rfl (dP rfl (B.at "range") (a6 (bZ (x:="min") (ng rfl) rfl (B.at "min") PyProof.Rows.boot_min (a6 (iR K B (a6 (pv 0) a7)) (a6 a8 a7))) a7)) (aL 4 nd) (ak (pS 3 nd (ae dR (ae fw (ae bA (ae bA (ae c3 (pv 3) a8) (ae dR (px K (pv 0) (pv 4)) a8)) (ae c3 (pv 4) (pv 4))) a8) a8)))) (ag (gv (bb (aQ eK (pv 2) (ae fw a8 a8) (aN _)) (ak (pS 2 nd a8)) ba)) (ak (ay (fq (a6 (pv 2) (a6 (pv 3) a7)))))))))),?_⟩;refine⟨fun σ H'=>H'=H/\∃c:Int,σ=[some (.ref a),some (.int (j:Int)),some (.int c),none,none]/\0<=c,?_,?_⟩
   · refine⟨_,rfl,_,rfl,a,_,rfl,.inl hS,_,_,rfl,rfl,_,rfl,?_⟩
     refine bQ (fun hc=>?_) (fun _=>?_)
     · have hj:(j:Int)<((ns.map V.int).length:Int):=fY hc
       rw[aO]at hj;obtain⟨z,hz⟩:=mj (ns:=ns) (j:=j) (by omega);refine⟨_,rfl,_,rfl,.inl ⟨a,_,_,_,rfl,rfl,hS,hz,z,rfl,?_⟩⟩;exact⟨rfl,_,rfl,by split<;>omega⟩
     ·exact⟨rfl,0,rfl,bV _⟩
   rintro σ H' ⟨rfl,c,rfl,c0⟩;refine⟨_,rfl,_,_,rfl,rfl,.of_left (cA (by decide) (by decide)),_,rfl,_,_,rfl,rfl,.of_right (cA (by omega) (by omega)),_,rfl,_,_,rfl,rfl,.of_left (cA (by decide) (by decide)),_,_,rfl,rfl,_,_,rfl,rfl,?_⟩;refine⟨_,rfl,a,_,rfl,.inl hS,_,_,rfl,_,rfl,?_,?_,?_⟩
   ·split<;>omega
   ·split<;>(try rw[aO])<;>omega
   refine jl (Pv:=fun i σ H2=>H2=H'/\∃(m:Int)(v:Option V),σ=[some (.ref a),some (.int (j:Int)),some (.int c),some (.int m),v]/\0<=m/\m<2147483648) ?_ ?_ ?_
   · refine⟨rfl,_,none,rfl,?_,?_⟩
     · have:(0:Int)<=(j:Int)*(j:Int):=Int.mul_nonneg (by omega) (by omega)
       rw[Int.mul_assoc];omega
     · have:(j:Int)*(j:Int)<=100*100:=Int.mul_le_mul (by omega) (by omega) (by omega) (by omega)
       rw[Int.mul_assoc];omega
   · rintro i σ H2 hi ⟨rfl,m,v,rfl,m0,m1⟩
     have tM:i<ns.length:=by rw[aO]at hi;split at hi<;>omega
     obtain⟨z,hz⟩:=mj (ns:=ns) (j:=i) tM;rw[<-Int.zero_add (i:Int)]at hz;have sP:0<=z%2147483647:=eZ _ (by decide);have sO:z%2147483647<2147483647:=g7 _ (by decide);have tI:(0:Int)<=(0+(i:Int))*(0+(i:Int)):=Int.mul_nonneg (by omega) (by omega);have tJ:(0+(i:Int))*(0+(i:Int))<=100*100:=Int.mul_le_mul (by omega) (by omega) (by omega) (by omega);refine⟨_,rfl,_,_,rfl,rfl,.of_right (cA (by decide) (by decide)),_,rfl,_,rfl,.inl ⟨a,_,_,_,rfl,rfl,hS,hz,_,_,rfl,rfl,(by show(0:Int)<2147483647;decide),_,_,rfl,rfl,_,rfl,_,rfl,_,_,rfl,rfl,.of_right (cA (by omega) (by omega)),_,_,rfl,rfl,_,_,rfl,rfl,⟨by decide,by decide,?_⟩,_,_,rfl,rfl,(by show(0:Int)<2147483629;decide),?_⟩⟩
     · have jh:(2:Nat)^64=18446744073709551616:=by decide
       rw[jh];generalize(0+(i:Int))*(0+(i:Int))=ii at tI tJ⊢;generalize z%2147483647=zz at sP sO⊢;omega
     ·exact⟨rfl,_,_,rfl,eZ _ (by decide),Int.lt_trans (g7 _ (by decide)) (by decide)⟩
   · rintro σ H2 ⟨rfl,m,v,rfl,m0,m1⟩
     refine⟨fun σ H3=>H3=H2/\∃c:Int,σ=[some (.ref a),some (.int (j:Int)),some (.int c),some (.int m),v]/\0<=c,?_,?_⟩
     · refine⟨_,rfl,_,_,rfl,rfl,⟨by decide,by decide,by decide⟩,_,_,rfl,rfl,_,rfl,?_⟩
       refine bQ (fun hc=>?_) (fun _=>?_)
       ·exact⟨rfl,0,rfl,bV _⟩
       ·exact⟨rfl,c,rfl,c0⟩
     rintro σ H3 ⟨rfl,c,rfl,c0⟩;refine⟨_,rfl,_,rfl,(by show 2<=sizeLine;decide),fun p H4 nw=>?_⟩;exact k p H4 nw.no ⟨c,m,nw.at',c0,m0,m1⟩ nw.same
inductive o9(vs:List V)(H:Hp)(Q:VK):Prop |mk (a:Int)(b:Int)(h0:vs=[.int a,.int b])(h1:Q (.int (Int.gcd a b)) H):o9 vs H Q
def kq:Sp:=fun vs H Q _=>o9 vs H Q
abbrev il:Stmt:=top 14
theorem kW:aJ ["_law_one","_law_other"] ["_law_one","_law_other"] (az il):=aR (by decide+kernel)
theorem rF(F:FA K mg "_law_divisor" il)(B:aG mg):ab P w K mg base "_law_divisor" 1 kq:=by
 refine F.has kW (fun vs H Q E h=>?_) (fun _ _ _ _ _ _=>ee fun _ _=>rfl) (fun f af A outer s H vs Q E hr h=>?_)
 · obtain⟨a,b,rfl,_⟩:=h
   rfl
 · obtain⟨a,b,rfl,k⟩:=h
   have nd:=kW.nd;refine⟨_,(ag (iK fZ (aQ (fD K rfl hr.units) (pv 1) a8 (aN _)) (ak (qy (i:=0) (j:=1) rfl nd rfl rfl (by decide) rfl rfl (a6 (pv 1) (a6 (ae qU (pv 0) (pv 1)) a7)) rfl))) (ak (ay (bZ (x:="abs") gG rfl (B.at "abs") jP (a6 (pv 0) a7))))),?_⟩;refine gY (fun σ H2=>H2=H/\∃(x y:Int),σ=[some (.int x),some (.int y)]/\Int.gcd x y=Int.gcd a b) (fun σ _=>match σ with|[_,some (.int y)]=>y.natAbs|_=>0) ?_ ?_ ?_
   ·exact⟨rfl,a,b,rfl,rfl⟩
   · rintro σ H2 ⟨rfl,x,y,rfl,e⟩
     refine⟨_,rfl,.inl ⟨_,_,rfl,rfl,_,rfl,?_⟩⟩;refine bQ (fun hc=>?_) (fun hc=>?_)
     · have hy:y≠0:=by simpa using hc
       refine⟨_,rfl,_,rfl,_,rfl,_,_,rfl,rfl,hy,_,_,rfl,?_⟩;exact⟨⟨rfl,_,_,rfl,(Ar.uf x y).trans e⟩,Ar.uo hy⟩
     · have hy:y=0:=by simpa using hc
       subst hy;refine⟨_,rfl,_,rfl,?_⟩;rw[Int.gcd_zero_right]at e;have e2:(if x<0 then-x else x)=((Int.gcd a b:Nat):Int):=by rw[<-e];split<;>omega
       rw[e2];exact k
   · rintro σ H2 Q1 Q2 hq ⟨v1,e1,h⟩
     refine⟨v1,e1,?_⟩;rcases h with⟨i,j,e3,e4,kk,e5,q⟩|⟨d,e,r1,r2,s1,s2,kk,e5,q⟩
     ·exact .inl ⟨i,j,e3,e4,kk,e5,hq _ _ q⟩
     ·exact .inr ⟨d,e,r1,r2,s1,s2,kk,e5,hq _ _ q⟩
inductive nW(vs:List V)(H:Hp)(Q:VK):Prop |mk (p:_)(h0:vs=[.ref p])(h1:bj H p)(h2:∀d H',0<=d->d<10^30->ao p H H'->Q (.int d) H'):nW vs H Q
def kh:Sp:=fun vs H Q _=>nW vs H Q
abbrev i8:Stmt:=top 15
theorem kK:aJ ["_law_bag_here","_law_how"] ["_law_bag_here"] (az i8):=aR (by decide+kernel)
theorem rk(F:FA K mg "_law_number" i8)(B:aG mg)(aM:ab P w K mg base "_law_take" 1 dq):ab P w K mg base "_law_number" 2 kh:=by
 refine F.has kK (fun vs H Q E h=>?_) (fun _ _ _ _ _ _=>bS fun _=>rfl) (fun f af A outer s H vs Q E hr h=>?_)
 · obtain⟨p,rfl,_⟩:=h
   rfl
 · obtain⟨p,rfl,bg,k⟩:=h
   have nd:=kK.nd;refine⟨_,(ag (pS 1 nd (pf aM hr (a6 (pv 0) (a6 a8 a7)))) (ag (bb (aQ eK (pv 1) a8 (aN _)) (ak (ay (pf aM hr (a6 (pv 0) (a6 (px K (fq (a6 a8 (a6 a8 a7))) (pv 1)) a7))))) ba) (ag (bb (aQ (cG K rfl hr.units) (pv 1) a8 (aN _)) (ak (ay (pf aM hr (a6 (pv 0) (a6 (ae fw a8 a8) a7))))) ba) (ak (ay (ae bA (ae fu (ae qQ a8 (pf aM hr (a6 (pv 0) (a6 a8 a7)))) a8) (pf aM hr (a6 (pv 0) (a6 a8 a7))))))))),?_⟩;refine⟨_,rfl,p,4,rfl,bg,by decide,by decide,fun d H1 d0 d1 b1=>?_⟩;refine⟨_,rfl,_,_,rfl,rfl,_,rfl,?_⟩;refine bQ (fun hc=>?_) (fun hc=>?_)
   · have hd:d<2:=fY hc
     refine⟨_,rfl,(by show 2<=sizeLine;decide),fun l v9 nw=>?_⟩;have bl:ao p H1 v9:=.bN b1.bag nw.same;rcases(show d=0\/d=1 by omega)with rfl|rfl
     · refine⟨_,rfl,.inl ⟨l,_,_,.int 7,rfl,rfl,ah.of nw.at',rfl,p,7,rfl,bl.bag,by decide,by decide,fun e H2 e0 e1 b2=>?_⟩⟩
       exact k e H2 e0 (by omega) (b1.trans (bl.trans b2))
     · refine⟨_,rfl,.inl ⟨l,_,_,.int 100,rfl,rfl,ah.of nw.at',rfl,p,100,rfl,bl.bag,by decide,by decide,fun e H2 e0 e1 b2=>?_⟩⟩
       exact k e H2 e0 (by omega) (b1.trans (bl.trans b2))
   · refine⟨_,rfl,.inl ⟨_,_,rfl,rfl,_,rfl,?_⟩⟩
     refine bQ (fun hc=>?_) (fun hc=>?_)
     · refine⟨_,rfl,_,_,rfl,rfl,⟨by decide,by decide,by decide⟩,p,10^30,rfl,b1.bag,by decide,by decide,fun e H2 e0 e1 b2=>?_⟩
       exact k e H2 e0 e1 (b1.trans b2)
     · refine⟨_,rfl,p,99,rfl,b1.bag,by decide,by decide,fun e H2 e0 e1 b2=>?_⟩
       refine⟨_,_,rfl,rfl,⟨e0,by omega,by decide⟩,_,_,rfl,rfl,_,rfl,p,3,rfl,b2.bag,by decide,by decide,fun g H3 g0 g1 b3=>?_⟩;refine⟨_,_,rfl,rfl,?_⟩;have vu:(1:Int)<=1*2^e.toNat:=by rw[Int.one_mul,two_pow_cast];have:0<2^e.toNat:=Nat.two_pow_pos _;omega
       have t8:(1:Int)*2^e.toNat<=2^98:=by rw[Int.one_mul,two_pow_cast,two_pow_cast];have:2^e.toNat<=2^98:=Nat.pow_le_pow_right (by decide) (by omega);omega
       have ub:(2:Int)^98=316912650057057350374175801344:=by decide
       rw[ub]at t8;exact k _ H3 (by omega) (by omega) (b1.trans (b2.trans b3))
inductive nY(vs:List V)(H:Hp)(Q:VK):Prop |mk (a:Int)(b:Int)(h0:vs=[.int a,.int b])(h1:b≠0)(h2:Wd b)(h3:∀t H',Nw H H' t (.tup [.int (Ar.lowP a b),.int (Ar.c5 a b)])->Q (.ref t) H'):nY vs H Q
def kj:Sp:=fun vs H Q _=>nY vs H Q
abbrev ia:Stmt:=top 16
theorem kM:aJ ["_law_p","_law_q","_law_common"] ["_law_p","_law_q"] (az ia):=aR (by decide+kernel)
theorem rm(F:FA K mg "_law_lowest" ia)(B:aG mg)(u7:ab P w K mg base "_law_divisor" 1 kq):ab P w K mg base "_law_lowest" 2 kj:=by
 refine F.has kM (fun vs H Q E h=>?_) (fun _ _ _ _ _ _=>ee fun _ _=>rfl) (fun f af A outer s H vs Q E hr h=>?_)
 · obtain⟨a,b,rfl,_⟩:=h
   rfl
 · obtain⟨a,b,rfl,hb,wb,k⟩:=h
   have nd:=kM.nd;have sw:Wd (Ar.sg a b):=jR (Ar.pR hb) wb;refine⟨_,(ag (pS 2 nd (pf u7 hr (a6 (pv 0) (a6 (pv 1) a7)))) (ag (gv (bb (aQ eK (pv 1) a8 (aN _)) (ak (pS 2 nd (qE oX (pv 2)))) ba)) (ak (ay (dQ (a6 (ae lK (pv 0) (pv 2)) (a6 (ae lK (pv 1) (pv 2)) a7))))))),?_⟩;refine⟨_,rfl,_,rfl,a,b,rfl,?_⟩;refine⟨fun σ H'=>H'=H/\σ=[some (.int a),some (.int b),some (.int (Ar.sg a b))],?_,?_⟩
   · refine⟨_,rfl,_,_,rfl,rfl,_,rfl,?_⟩
     refine bQ (fun hc=>?_) (fun hc=>?_)
     · have hd:b<0:=fY hc
       refine⟨_,rfl,_,rfl,?_⟩;refine⟨rfl,?_⟩;unfold Ar.sg;rw[aD hd];rfl
     · have hd:¬b<0:=fun z=>hc (cc z)
       refine⟨rfl,?_⟩;unfold Ar.sg;rw[aK hd];rfl
   rintro σ H' ⟨rfl,rfl⟩;refine⟨_,rfl,_,rfl,_,_,rfl,rfl,⟨Ar.gr hb,sw⟩,_,rfl,_,rfl,_,_,rfl,rfl,⟨Ar.gr hb,sw⟩,(by show 2<=sizeLine;decide),fun t H4 nw=>?_⟩;exact k t H4 nw
structure vb(a b:Int):Prop where
 pos:0<b
 cop:Int.gcd a b=1
 na:a.natAbs<10^30
 nb:b<10^30
def va(H:Hp)(v:V)(a b:Int):Prop:=∃p,v= .ref p/\H p=some (.tup [.int a,.int b])
inductive o6(vs:List V)(H:Hp)(Q:VK):Prop |mk (p:_)(h0:vs=[.ref p])(h1:bj H p)(h2:∀v a b H',vb a b->va H' v a b->ao p H H'->Q v H'):o6 vs H Q
def gn:Sp:=fun vs H Q _=>o6 vs H Q
abbrev ij:Stmt:=top 17
theorem kT:aJ ["_law_bag_here","_law_sign"] ["_law_bag_here"] (az ij):=aR (by decide+kernel)
theorem rD(F:FA K mg "_law_fraction" ij)(B:aG mg)(aM:ab P w K mg base "_law_take" 1 dq)(mE:ab P w K mg base "_law_number" 2 kh)(u4:ab P w K mg base "_law_lowest" 2 kj):ab P w K mg base "_law_fraction" 3 gn:=by
 refine F.has kT (fun vs H Q E h=>?_) (fun _ _ _ _ _ _=>bS fun _=>rfl) (fun f af A outer s H vs Q E hr h=>?_)
 · obtain⟨p,rfl,_⟩:=h
   rfl
 · obtain⟨p,rfl,bg,k⟩:=h
   have nd:=kT.nd;refine⟨_,(ag (pS 1 nd (ae fu a8 (ae c3 a8 (pf aM hr (a6 (pv 0) (a6 a8 a7)))))) (ak (ay (pf u4 hr (a6 (ae c3 (pv 1) (pf mE hr (a6 (pv 0) a7))) (a6 (ae bA a8 (ae dR (pf mE hr (a6 (pv 0) a7)) (ae fu (ae fw a8 a8) a8))) a7)))))),?_⟩;refine⟨_,rfl,p,2,rfl,bg,by decide,by decide,fun d H1 d0 d1 b1=>?_⟩;refine⟨_,_,rfl,rfl,.of_left (cA (by decide) (by decide)),_,_,rfl,rfl,?_⟩;refine⟨_,rfl,_,rfl,p,rfl,b1.bag,fun n H2 n0 n1 b2=>?_⟩;refine⟨_,_,rfl,rfl,.of_left (cA (by omega) (by omega)),_,rfl,p,rfl,b2.bag,fun m H3 m0 m1 b3=>?_⟩;refine⟨_,_,rfl,rfl,⟨by decide,by decide,by decide⟩,_,_,rfl,rfl,_,_,rfl,rfl,(by show(0:Int)<10^30-1;decide),_,_,rfl,rfl,?_⟩;have q0:0<=m%(10^30-1):=eZ _ (by decide);have q1:m%(10^30-1)<10^30-1:=g7 _ (by decide);generalize hq:m%(10^30-1)=q at q0 q1;have wq:Wd (1+q):=gZ (by omega) (by omega);have bE:1+q≠0:=by omega
   have hA:((1-2*d)*n).natAbs<10^30:=by
    rw[Int.natAbs_mul];have e1:(1-2*d).natAbs=1:=by omega
    rw[e1,Nat.one_mul];omega
   refine⟨_,_,rfl,(by show 1+m%(10^30-1)≠0;rw[hq];exact bE),(by show Wd (1+m%(10^30-1));rw[hq];exact wq),fun t H4 nw=>?_⟩;have uQ:H4 t=some (.tup [.int (Ar.lowP ((1-2*d)*n) (1+q)),.int (Ar.c5 ((1-2*d)*n) (1+q))]):=by rw[<-hq];exact nw.at'
   refine k _ _ _ _ ⟨Ar.lX bE,Ar.si bE,jR (Ar.sk bE) hA,?_⟩ ⟨t,rfl,uQ⟩ (b1.trans (b2.trans (b3.trans (.bN b3.bag nw.same))));have:=Ar.sj (p:=(1-2*d)*n) bE;have:=Ar.lX (p:=(1-2*d)*n) bE;omega
open Tm (numS)
def gL (i:Int):Prop:=i.natAbs<10^540
inductive nV(vs:List V)(H:Hp)(Q:VK):Prop |mk (i:_)(h0:vs=[.int i])(h1:gL i)(h2:∀H',ai H H'->Q (.str (numS i)) H'):nV vs H Q
def eD:Sp:=fun vs H Q _=>nV vs H Q
abbrev i2:Stmt:=top 5
theorem kE:aJ ["number","rest","parts","low","written"] ["number"] (az i2):=aR (by decide+kernel)
theorem r9(F:FA K mg "show_number" i2)(B:aG mg)(mC:GV mg "PART" (.int 10000000000000000000000000000000000000000000000000000000000000000))(tW:GV mg "PART_FIGURES" (.int 64)):ab P w K mg base "show_number" 1 eD:=by
 refine F.has kE (fun vs H Q E h=>?_) (fun _ _ _ _ _ _=>bS fun _=>rfl) (fun f af A outer s H vs Q E hr h=>?_)
 · obtain⟨i,rfl,_⟩:=h
   rfl
 · obtain⟨i,rfl,hn,k⟩:=h
   have nd:=kE.nd;refine⟨_,(ag (pS 1 nd (bZ (x:="abs") gG rfl (B.at "abs") jP (a6 (pv 0) a7))) (ag (pS 2 nd (fq a7)) (ag (iK fZ (aQ qW (pv 1) (iO (x:="PART") rfl mC) (aN _)) (ag (dv (bZ (x:="divmod") uG rfl (B.at "divmod") PyProof.Rows.boot_divmod (a6 (pv 1) (a6 (iO (x:="PART") rfl mC) a7))) (fo K rfl (n:=2) rfl (bL (aL 1 nd) (bL (aL 3 nd) fm)))) (ak (lB (lG K rfl (pv 2) (a6 (qL K rfl (bM (x:="str") cH rfl (B.at "str") cL (a6 (pv 3) a7)) (a6 (iO (x:="PART_FIGURES") rfl tW) a7)) a7)))))) (ag (lB (lG K rfl (pv 2) (a6 (bM (x:="str") cH rfl (B.at "str") cL (a6 (pv 1) a7)) a7))) (ag (pS 4 nd (qM K rfl rfl (B.at "reversed") ar (a6 (pv 2) a7))) (ak (ay (ft (aQ eK (pv 0) a8 (aN _)) (eI (aP ar (aP (bz (pv 4)) eG))) (pv 4))))))))),?_⟩;refine⟨_,rfl,i,rfl,?_⟩;rw[show(if i<0 then-i else i)=((i.natAbs:Nat):Int) by split<;>omega];refine⟨cm rfl,fun l H1 n1=>?_⟩;refine gY (fun σ H2=>ai H H2/\∃(r:Nat)(zs:List Str)(v3 v4:Option V),σ=[some (.int i),some (.int r),some (.ref l),v3,v4]/\H2 l=some (.lst (zs.map V.str))/\Nu.Wr i.natAbs r zs) (fun σ _=>match σ with|[_,some (.int y),_,_,_]=>y.natAbs|_=>0) ?_ ?_ ?_
   ·exact⟨n1.same,_,[],_,_,rfl,n1.at',Nu.Wr.nil _⟩
   · rintro σ H2 ⟨s2,r,zs,v3,v4,rfl,dl,wr⟩
     refine⟨_,rfl,_,_,rfl,rfl,_,rfl,?_⟩;have eB:(10000000000000000000000000000000000000000000000000000000000000000:Int)=((10^64:Nat):Int):=by decide+kernel
     rw[eB];have len:=wr.len hn
     have ll : (zs.map V.str).length < sizeLine := by rw[aO];have:(8:Nat)<sizeLine:=by decide
                                                      omega
     have nl:H l=none:=n1.no;have put:∀(H3:Hp)(z:Str),ai H2 H3->ai H (upd H3 l (.lst (zs.map V.str++[.str z]))):=fun H3 z s3 b o e=>by
      have hb:b≠l:=fun y=>by rw[y,nl]at e;cases e
      rw[aF hb];exact s3 _ _ (s2 _ _ e)
     refine bQ (fun hc=>?_) (fun hc=>?_)
     · have hr:10^64<=r:=by have:=fY hc;omega
       have hm:r%10^64<10^64:=Nat.mod_lt _ (Nat.pow_pos (by decide));refine⟨_,rfl,_,_,rfl,by decide+kernel,by show(10^64:Nat)<2^5000;decide+kernel,fun t H3 n3=>?_⟩;refine⟨_,_,rfl,aj.of n3.at',rfl,_,_,rfl,_,_,rfl,rfl,?_⟩;have em:(((r:Nat):Int)%((10^64:Nat):Int))=((r%10^64:Nat):Int):=rfl;have ed:(((r:Nat):Int)/((10^64:Nat):Int))=((r/10^64:Nat):Int):=rfl;have lg:=Nu.m5 (gS hm (by decide+kernel:10^64<10^540));refine⟨_,rfl,.inl ⟨rfl,_,ah.of (n3.same _ _ dl)⟩,_,rfl,.inl ⟨_,rfl,lg,rfl,⟨_,_,rfl,rfl,by decide+kernel,⟨l,_,_,rfl,rfl,n3.same _ _ dl,ll,?_⟩⟩⟩⟩;refine⟨⟨put H3 _ n3.same,r/10^64,zs++[Txt.zfill (numS ((r%10^64:Nat):Int)) 64],_,_,rfl,?_,wr.step hr⟩,?_⟩
       ·rw[cj,g6];rfl
       · show((r/10^64:Nat):Int).natAbs<((r:Nat):Int).natAbs
         have:r/10^64<r:=Nat.div_lt_self (by omega) (by decide);omega
     · have hr:r<10^64:=by have:=(mt cc) hc;omega
       have lg:=Nu.m5 (gS hr (by decide+kernel:10^64<10^540));have lr:(numS (r:Int)).length<=64:=by show(numS (r:Int)).cps.size<=64;rw[<-ej,Tm.fT,aO];exact(Nat.length_toDigits_le_iff (by decide) (by decide)).mpr hr
       refine⟨_,rfl,.inl ⟨rfl,_,ah.of dl⟩,_,rfl,.inl ⟨_,rfl,lg,⟨l,_,_,rfl,rfl,dl,ll,?_⟩⟩⟩;refine⟨rfl,_,rfl,⟨"",l,zs++[numS (r:Int)],rfl,rfl,ah.of (by rw[cj,g6];rfl),fun z hz=>?_,by decide+kernel,by rw[dj,jV];omega,?_⟩⟩
       · rcases g5.mp hz with hz|hz
         ·have:=wr.l z hz;omega
         ·rw[dE.mp hz];omega
       have ew:Txt.join "" (zs++[numS (r:Int)]).reverse=numS (i.natAbs:Int):=by rw[List.reverse_append,List.reverse_cons,List.reverse_nil,List.nil_append,List.singleton_append];exact(Nu.nc _ _).trans wr.e.symm
       rw[ew];have uc:sizeLine=16777216:=by decide
       have l0:(numS (i.natAbs:Int)).length<=541:=Nu.sm (by rw[Int.natAbs_natCast];exact hn);have e0:Str.empty.length=0:=by decide+kernel
       have e1:Str.length "-"=1:=by decide+kernel
       refine⟨_,rfl,_,_,rfl,rfl,_,rfl,?_⟩;have fin:=k _ (put H2 (numS (r:Int)) (ai.refl _));refine bQ (fun hi=>?_) (fun hi=>?_)
       · have hi:=fY hi
         refine⟨_,rfl,by simp only[aq];omega,_,rfl,.inr ⟨_,rfl,by omega,_,rfl,by simp only[aq];omega,by simp only[aq];omega,?_⟩⟩;rw[gP,Nu.abs_neg hi,<-Nu.rL hi];exact fin
       · have hi:=(mt cc) hi
         rw[Nu.uU hi];exact⟨_,rfl,fin⟩
   · rintro σ H2 Q1 Q2 hq h
     obtain⟨v1,e1,i1,j1,e2,e3,kk,e4,q⟩:=h;exact⟨v1,e1,i1,j1,e2,e3,kk,e4,hq _ _ q⟩
open Ln
def bO(ns:List Int)(sp:Int):vJ:=.tuple [.str "line",.tuple (ns.map PyData.int),.int sp]
theorem m4(ns:List Int)(sp:Int):bB (bO ns sp)=true:=by simp[bO,bB,bc,lO]
structure uX(ax:Nat)(m:Int)(ns:List Int):Prop where
 len:ns.length=ax
 bd:∀z∈ns,(z.natAbs:Int)<=m
 nz:∃z∈ns,z≠0
open Wk
abbrev pW:Stmt:=top 1
end
end Lw
set_option maxHeartbeats 2000000
namespace Lw
open PySem PySem.Spec PyProof.Rows L2 Ln Wk
open Tm (numS)
section
variable {P:vI}{w:World}{K:vG}{mg:Str->Option Value}{base:Heap}
def dG:vJ->Str | .int i=>numS i | .str z=>z |_=>Str.empty
def bp(ns:List Int):Str:=Txt.join " " (ns.map numS)
def bR(a b:Int):Str:=if b=1 then numS a else numS a++"/"++numS b
def bP:vJ->Str | .tuple [.str _,.tuple xs,.int sp]=>"line "++Txt.join " " (xs.map dG)++" "++numS sp | .tuple [.str w,u]=>w++" "++dG u |_=>Str.empty
def jq:vJ->Str | .tuple [.str _,.tuple xs,.int t,.tuple [.int a,.int b]]=>"step "++Txt.join " " (xs.map dG)++" "++numS t++" "++bR a b |d=>bP d
def Nm (i:Int):Prop:=i.natAbs<10^40
def eg(w:Str):Prop:=w="wait"\/w="tool"\/w="mark"
def fW(w:Str):Prop:=w="tool"\/w="mark"
theorem fW.ok{w:Str}(h:fW w):eg w:=.inr h
theorem fW.ne{w:Str}(h:fW w):decide (w="wait")=false:=by rcases h with rfl|rfl<;>decide+kernel
def TI(d:vJ):Prop:=(∃ns sp,d=bO ns sp/\ns.length<=3/\(∀n∈ns,Nm n)/\Nm sp)\/(∃w i,d= .tuple [.str w,.int i]/\eg w/\Nm i)\/∃w z,d= .tuple [.str w,.str z]/\fW w/\z.length<=100
def jD(d:vJ):Prop:=TI d/\(∀ns sp,d≠bO ns sp)\/∃(ns:List Int)(t a b:Int),d= .tuple [.str "step",.tuple (ns.map PyData.int),.int t,.tuple [.int a,.int b]]/\ns.length<=3/\(∀n∈ns,Nm n)/\Nm t/\Nm a/\Nm b
theorem lV(ns:List Int):(ns.map PyData.int).map dG=ns.map numS:=by rw[List.map_map];rfl
theorem iV(ns:List Int)(sp:Int):bP (bO ns sp)="line "++bp ns++" "++numS sp:=by show Str.ofString "line "++Txt.join " " ((ns.map PyData.int).map dG)++" "++numS sp=_;rw[lV];rfl
theorem aY{i:Int}(h:Nm i):(numS i).length<=41:=p4 h
theorem fy{ns:List Int}(h:∀n∈ns,Nm n)(hl:ns.length<=3):(bp ns).length<=126:=by
 have:=me " " (B:=41) (ns.map numS) (fun z hz=>by obtain⟨n,hn,rfl⟩:=dF.mp hz;exact aY (h n hn));rw[aO]at this;have e:Str.length " "=1:=by decide+kernel
 rw[e]at this;unfold bp;omega
theorem g8{w:Str}(h:eg w):w.length=4:=by rcases h with rfl|rfl|rfl<;>decide+kernel
theorem mh{d:vJ}(h:TI d):(bP d).length<=400:=by
 have e1:Str.length " "=1:=by decide+kernel
 have e2:Str.length "line "=5:=by decide+kernel
 rcases h with⟨ns,sp,rfl,hl,hb,hs⟩|⟨w,i,rfl,hw,hi⟩|⟨w,z,rfl,hw,hz⟩
 · rw[iV]
   have h1:=fy hb hl;have h2:=aY hs;simp only[aq];omega
 · show(w++" "++numS i).length<=400
   have h2:=aY hi;have h3:=g8 hw;simp only[aq];omega
 · show(w++" "++z).length<=400
   have h3:=g8 hw.ok;simp only[aq];omega
theorem TI.nw{w z:Str}(h:TI (.tuple [.str w,.str z])):decide (w="wait")=false:=by
 rcases h with⟨ns,sp,e,_⟩|⟨w',i,e,_⟩|⟨w',z',e,hw,_⟩
 ·unfold bO at e;cases e
 ·cases e
 ·cases e;exact hw.ne
theorem Nm.l{i:Int}(h:Nm i):gL i:=gS h (by decide+kernel)
theorem oW:SeqAt.shaped (.str "wait")=true:=by decide+kernel
theorem cQ:SeqAt.shaped (.str "line")=true:=by decide+kernel
theorem eC:SeqAt.shaped (.str "step")=true:=by decide+kernel
theorem cy(x y:Str):PyData.eqv (.str x) (.str y)=decide (x=y):=by show(x==y)=decide (x=y);rw[gW];simp
theorem er{H:Hp}{v:V}{d:vJ}(h:RD K H v d)(i:TI d):(∃ns sp a b,d=bO ns sp/\v= .ref a/\aj K H a [.str "line",.ref b,.int sp]/\RD K H (.ref b) (.tuple (ns.map PyData.int))/\ns.length<=3/\(∀n∈ns,Nm n)/\Nm sp)\/∃w u a y,d= .tuple [.str w,u]/\eg w/\v= .ref a/\aj K H a [.str w,y]/\RD K H y u/\((∃i,u= .int i/\y= .int i/\Nm i)\/∃z,u= .str z/\y= .str z/\z.length<=100):=by
 rcases i with⟨ns,sp,rfl,hl,hb,hs⟩|⟨w,i,rfl,hw,hi⟩|⟨w,z,rfl,hw,hz⟩
 · obtain⟨a,xs,rfl,h1,h2⟩:=h.bW
   obtain⟨x1,r,rfl,e1,h2⟩:=h2.cons_inv;obtain⟨x2,r,rfl,e2,h2⟩:=h2.cons_inv;obtain⟨x3,r,rfl,e3,h2⟩:=h2.cons_inv;cases h2.nil_inv;cases e1.str_inv;cases e3.int_inv;obtain⟨b,ys,rfl,_,_⟩:=id e2.bW;exact .inl ⟨ns,sp,a,b,rfl,rfl,h1,e2,hl,hb,hs⟩
 · obtain⟨a,xs,rfl,h1,h2⟩:=h.bW
   obtain⟨x1,r,rfl,e1,h2⟩:=h2.cons_inv;obtain⟨x2,r,rfl,e2,h2⟩:=h2.cons_inv;cases h2.nil_inv;cases e1.str_inv;cases e2.int_inv;exact .inr ⟨w,_,a,_,rfl,hw,rfl,h1,e2,.inl ⟨i,rfl,rfl,hi⟩⟩
 · obtain⟨a,xs,rfl,h1,h2⟩:=h.bW
   obtain⟨x1,r,rfl,e1,h2⟩:=h2.cons_inv;obtain⟨x2,r,rfl,e2,h2⟩:=h2.cons_inv;cases h2.nil_inv;cases e1.str_inv;cases e2.str_inv;exact .inr ⟨w,_,a,_,rfl,hw.ok,rfl,h1,e2,.inr ⟨z,rfl,rfl,hz⟩⟩
theorem ek{w:Str}(h:eg w):SeqAt.shaped (.str w)=true:=by rcases h with rfl|rfl|rfl<;>decide+kernel
theorem f6{w:Str}(h:eg w):decide (w="line")=false/\decide (w="step")=false:=by rcases h with rfl|rfl|rfl<;>decide+kernel
inductive nU(K:vG)(vs:List V)(H:Hp)(Q:VK):Prop |mk (v:_)(ns:_)(h0:vs=[v])(h1:RD K H v (.tuple (ns.map PyData.int)))(h2:ns.length<=3)(h3:(∀n∈ns,Nm n))(h4:∀H',ai H H'->Q (.str (bp ns)) H'):nU K vs H Q
def gi(K:vG):Sp:=fun vs H Q _=>nU K vs H Q
theorem dI{H:Hp}:∀{xs:List V}{zs:List Str},aa K H xs (zs.map PyData.str)->xs=zs.map V.str |xs,[],h=>h.nil_inv |xs,n::ns,h=>by obtain⟨y,ys,rfl,h1,h2⟩:=h.cons_inv;rw[h1.str_inv,dI h2];rfl
theorem fA(zs:List Str):bc (zs.map PyData.str)=true:=dy.mpr fun d hd=>by obtain⟨z,_,rfl⟩:=dF.mp hd;rfl
abbrev hZ:Stmt:=top 6
theorem kD:aJ ["numbers"] ["numbers"] (az hZ):=aR (by decide+kernel)
theorem r8(F:FA K mg "show_numbers" hZ)(B:aG mg)(cE:ab P w K mg base "show_number" 1 eD):ab P w K mg base "show_numbers" 2 (gi K):=by
 refine F.has kD (fun vs H Q E h=>?_) (fun _ _ _ _ _ _=>bS fun _=>rfl) (fun f af A outer s H vs Q E hr h=>?_)
 · obtain⟨v,ns,rfl,_⟩:=h
   rfl
 · obtain⟨v,ns,rfl,rv,hl,hb,k⟩:=h
   have nd:=kD.nd;refine⟨_,(ak (ay (eJ K rfl ar (a6 (dw (N:=["number"]) (js:=[none]) rfl rfl rfl (fk K rfl (pv 0)) (fun _ _ _ _ _=>(aL 0 (fE _))) (fun _ _ _ _ _=>cO) (fun _ _ _ _ _=>(pf cE hr (a6 (pv 0) a7)))) a7)))),?_⟩;obtain⟨a,xs,rfl,h1,h2⟩:=rv.bW;rw[h2.gz]at h1;refine⟨rfl,?_⟩;refine⟨_,rfl,a,rfl,⟨_,h1⟩,fun D H1 n1=>?_⟩;refine fU (K:=K) (ds:=(ns.map numS).map PyData.str) _ h1 n1 (by simp) (by simp;omega) (fA _) ?_ ?_
   · intro i x d H2 Q' ex ed s2 hq
     rw[bo]at ex;obtain⟨n,en,rfl⟩:=oN.mp ex;rw[bo,bo,en]at ed;cases ed;have hn:=hb n (eh en);exact⟨_,rfl,n,rfl,hn.l,fun H3 s3=>hq _ _ s3 (au _)⟩
   · intro H2 zs s2 d2 r2
     rw[dI r2]at d2;refine⟨" ",D,ns.map numS,rfl,rfl,ah.of d2,fun z hz=>?_,by decide+kernel,by rw[aO];omega,k _ s2⟩;obtain⟨n,hn,rfl⟩:=dF.mp hz;have:=aY (hb n hn);omega
inductive o3(K:vG)(vs:List V)(H:Hp)(Q:VK):Prop |mk (v:_)(d:_)(h0:vs=[v])(h1:RD K H v d)(h2:TI d)(h3:(∀b:Bool,(b=true↔∃ns sp,d=bO ns sp)->Q (.bl b) H)):o3 K vs H Q
def kn(K:vG):Sp:=fun vs H Q _=>o3 K vs H Q
theorem hR{w:Str}{u:vJ}(h:eg w):¬∃ns sp,PyData.tuple [.str w,u]=bO ns sp:=by rintro⟨ns,sp,e⟩;unfold bO at e;injection e with e;injection e with e1 e2;injection e2 with e2 e3;cases e3
abbrev kY:Stmt:=top 1
theorem kS:aJ ["item"] ["item"] (az kY):=aR (by decide+kernel)
theorem rC(F:FA K mg "is_line" kY)(B:aG mg):ab P w K mg base "is_line" 1 (kn K):=by
 refine F.has kS (fun vs H Q E h=>?_) (fun _ _ _ _ _ _=>bS fun _=>rfl) (fun f af A outer s H vs Q E hr h=>?_)
 · obtain⟨v,d,rfl,_⟩:=h
   rfl
 · obtain⟨v,d,rfl,rv,ti,k⟩:=h
   have nd:=kS.nd;refine⟨_,(ak (ay (lF (cG K rfl hr.units) (px K (pv 0) a8) ar (aN _)))),?_⟩;rcases er rv ti with⟨ns,sp,a,b,rfl,rfl,h1,_⟩|⟨w,u,a,y,rfl,hw,rfl,h1,_⟩
   · refine⟨_,rfl,.inr ⟨a,_,0,.str "line",rfl,rfl,h1,aZ (bV 0) rfl,.inr ⟨_,_,au _,au _,cQ,cQ,?_⟩⟩⟩
     rw[cy,cc rfl];exact k true ⟨fun _=>⟨_,_,rfl⟩,fun _=>rfl⟩
   · refine⟨_,rfl,.inr ⟨a,_,0,.str w,rfl,rfl,h1,aZ (bV 0) rfl,.inr ⟨_,_,au _,au _,ek hw,cQ,?_⟩⟩⟩
     rw[cy,(f6 hw).1];exact k false ⟨fun z=>(by cases z),fun z=>(hR hw z).elim⟩
inductive o1(K:vG)(vs:List V)(H:Hp)(Q:VK):Prop |mk (v:_)(d:_)(h0:vs=[v])(h1:RD K H v d)(h2:TI d)(h3:∀H',ai H H'->Q (.str (bP d)) H'):o1 K vs H Q
def dr(K:vG):Sp:=fun vs H Q _=>o1 K vs H Q
abbrev i3:Stmt:=top 8
theorem kF:aJ ["item","word","steps","speed","value"] ["item"] (az i3):=aR (by decide+kernel)
theorem rd(F:FA K mg "show_item" i3)(B:aG mg)(tG:ab P w K mg base "is_line" 1 (kn K))(j4:ab P w K mg base "show_numbers" 2 (gi K))(cE:ab P w K mg base "show_number" 1 eD):ab P w K mg base "show_item" 3 (dr K):=by
 refine F.has kF (fun vs H Q E h=>?_) (fun _ _ _ _ _ _=>bS fun _=>rfl) (fun f af A outer s H vs Q E hr h=>?_)
 · obtain⟨v,d,rfl,_⟩:=h
   rfl
 · obtain⟨v,d,rfl,rv,ti,k⟩:=h
   have nd:=kF.nd;have uc:sizeLine=16777216:=by decide
   have e1:Str.length " "=1:=by decide+kernel
   have e2:Str.length "line"=4:=by decide+kernel
   have e0:Str.empty.length=0:=by decide+kernel
   refine⟨_,(ag (bb (fj (pf tG hr (a6 (pv 0) a7))) (ag (dv (pv 0) (fo K rfl (n:=3) rfl (bL (aL 1 nd) (bL (aL 2 nd) (bL (aL 3 nd) fm))))) (ak (ay (eI (aP (bz (pv 1)) (aP ar (aP (bz (pf j4 hr (a6 (pv 2) a7))) (aP ar (aP (bz (pf cE hr (a6 (pv 3) a7))) eG))))))))) ba) (ag (dv (pv 0) (fo K rfl (n:=2) rfl (bL (aL 1 nd) (bL (aL 4 nd) fm)))) (ak (ay (ft (aQ (cG K rfl hr.units) (pv 1) ar (aN _)) (eI (aP (bz (pv 1)) (aP ar (aP (bz (pf cE hr (a6 (pv 4) a7))) eG)))) (eI (aP (bz (pv 1)) (aP ar (aP (bz (pv 4)) eG))))))))),?_⟩;refine⟨_,rfl,v,d,rfl,rv,ti,fun b hb=>⟨_,rfl,?_⟩⟩;rcases er rv ti with⟨ns,sp,a,b',rfl,rfl,h1,r2,hl,hn,hs⟩|⟨w,u,a,y,rfl,hw,rfl,h1,ry,hv⟩
   · cases(hb.mpr ⟨_,_,rfl⟩)
     refine cv ?_;have ji:=fy hn hl;have fR:=aY hs;refine⟨_,rfl,a,_,rfl,h1,rfl,_,_,rfl,_,_,rfl,_,_,rfl,rfl,?_⟩;refine⟨_,rfl,.inr ⟨"line",rfl,by omega,_,rfl,by simp only[aq];omega,?_⟩⟩;refine⟨_,rfl,by simp only[aq];omega,?_⟩;refine⟨_,rfl,.ref b',ns,rfl,r2,hl,hn,fun H1 s1=>.inr ⟨_,rfl,by omega,_,rfl,by simp only[aq];omega,?_⟩⟩;refine⟨_,rfl,by simp only[aq];omega,?_⟩;refine⟨_,rfl,sp,rfl,hs.l,fun H2 s2=>.inr ⟨_,rfl,by omega,_,rfl,by simp only[aq];omega,?_⟩⟩;refine⟨by simp only[aq];omega,?_⟩;have e:Str.empty++"line"++" "++bp ns++" "++numS sp=bP (bO ns sp):=by
      rw[iV,gP];have:(Str.ofString "line"++Str.ofString " ")=Str.ofString "line ":=by decide+kernel
      rw[this]
     have:=k H2 (s1.trans s2);rw[<-e]at this;exact this
   · have tU:b=false:=by cases b with |false=>rfl |true=>exact(hR hw (hb.mp rfl)).elim
     subst tU;refine bC ?_;have w4:=g8 hw;refine⟨_,rfl,a,_,rfl,h1,rfl,_,_,rfl,_,_,rfl,rfl,?_⟩;have eA:Str.empty++w++" "++dG u=bP (.tuple [.str w,u]):=by rw[gP];rcases hv with⟨i,rfl,_⟩|⟨z,rfl,_⟩<;>rfl
     rw[<-eA]at k;refine⟨_,rfl,.inr ⟨_,_,au _,au _,ek hw,oW,_,rfl,?_⟩⟩;rw[cy];rcases hv with⟨i,rfl,rfl,hi⟩|⟨z,rfl,rfl,hz⟩
     · have fR:=aY hi
       have fin:∀H',ai H H'->Q (.str (Str.empty++w++" "++numS i)) H':=k;have l1:(Str.empty++w).length<=sizeLine:=by simp only[aq];omega
       have l2:(Str.empty++w++" ").length<=sizeLine:=by simp only[aq];omega
       have l3:(Str.empty++w++" "++numS i).length<=sizeLine:=by simp only[aq];omega
       cases vo:decide (w="wait")with |true=>exact cv ⟨_,rfl,.inr ⟨w,rfl,by omega,_,rfl,l1,⟨_,rfl,l2,⟨_,rfl,i,rfl,hi.l,fun H2 s2=>.inr ⟨_,rfl,by omega,_,rfl,l3,l3,fin H2 s2⟩⟩⟩⟩⟩ |false=>exact bC ⟨_,rfl,.inr ⟨w,rfl,by omega,_,rfl,l1,⟨_,rfl,l2,⟨_,rfl,.inl ⟨i,rfl,cP hi,_,rfl,l3,l3,fin H (ai.refl _)⟩⟩⟩⟩⟩
     · rw[ti.nw]
       refine bC ⟨_,rfl,.inr ⟨w,rfl,by omega,_,rfl,by simp only[aq];omega,?_⟩⟩;refine⟨_,rfl,by simp only[aq];omega,?_⟩;refine⟨_,rfl,.inr ⟨z,rfl,by omega,_,rfl,by simp only[aq];omega,?_⟩⟩;exact⟨by simp only[aq];omega,k H (ai.refl _)⟩
theorem sz:sizeLine=16777216:=by decide
theorem hV:Str.length " "=1:=by decide+kernel
theorem ku:Str.empty.length=0:=by decide+kernel
inductive nZ(K:vG)(vs:List V)(H:Hp)(Q:VK):Prop |mk (v:_)(ds:_)(h0:vs=[v])(h1:RD K H v (.tuple ds))(h2:(∀d∈ds,TI d))(h3:bc ds=true)(h4:ds.length<=30)(h5:∀H',ai H H'->Q (.str (Txt.join "\n" (ds.map bP))) H'):nZ K vs H Q
def km(K:vG):Sp:=fun vs H Q _=>nZ K vs H Q
abbrev i4:Stmt:=top 9
theorem kG:aJ ["items"] ["items"] (az i4):=aR (by decide+kernel)
theorem rf(F:FA K mg "show_items" i4)(B:aG mg)(j5:ab P w K mg base "show_item" 3 (dr K)):ab P w K mg base "show_items" 4 (km K):=by
 refine F.has kG (fun vs H Q E h=>?_) (fun _ _ _ _ _ _=>bS fun _=>rfl) (fun f af A outer s H vs Q E hr h=>?_)
 · obtain⟨v,ds,rfl,_⟩:=h
   rfl
 · obtain⟨v,ds,rfl,rv,ti,no,hl,k⟩:=h
   have nd:=kG.nd;refine⟨_,(ak (ay (eJ K rfl ar (a6 (dw (N:=["item"]) (js:=[none]) rfl rfl rfl (fk K rfl (pv 0)) (fun _ _ _ _ _=>(aL 0 (fE _))) (fun _ _ _ _ _=>cO) (fun _ _ _ _ _=>(pf j5 hr (a6 (pv 0) a7)))) a7)))),?_⟩;obtain⟨a,xs,rfl,h1,h2⟩:=rv.bW;have lx:=h2.length;refine⟨rfl,?_⟩;refine⟨_,rfl,a,rfl,⟨_,h1⟩,fun D H1 n1=>?_⟩;refine fU (K:=K) (ds:=(ds.map bP).map PyData.str) _ h1 n1 (by simp;exact lx) (by omega) (fA _) ?_ ?_
   · intro i x d H2 Q' ex ed s2 hq
     obtain⟨d',fS,rx⟩:=h2.get' i ex;rw[bo,bo,fS]at ed;cases ed;exact⟨_,rfl,x,d',rfl,RD.mono s2 _ rx,ti d' (eh fS),fun H3 s3=>hq _ _ s3 (au _)⟩
   · intro H2 zs s2 d2 r2
     rw[dI r2]at d2;refine⟨"\n",D,ds.map bP,rfl,rfl,ah.of d2,fun z hz=>?_,by decide+kernel,by rw[aO];omega,k _ s2⟩;obtain⟨d,hd,rfl⟩:=dF.mp hz;have:=mh (ti d hd);omega
inductive o4(K:vG)(vs:List V)(H:Hp)(Q:VK):Prop |mk (v:_)(a:_)(b:_)(h0:vs=[v])(h1:RD K H v (.tuple [.int a,.int b]))(h2:Nm a)(h3:Nm b)(h4:Q (.str (bR a b)) H):o4 K vs H Q
def gk(K:vG):Sp:=fun vs H Q _=>o4 K vs H Q
inductive o5(K:vG)(vs:List V)(H:Hp)(Q:VK):Prop |mk (v:_)(a:_)(b:_)(h0:vs=[v])(h1:RD K H v (.tuple [.int a,.int b]))(h2:Nm a)(h3:Nm b)(h4:∀H',ai H H'->Q (.str (bR a b)) H'):o5 K vs H Q
def gm(K:vG):Sp:=fun vs H Q _=>o5 K vs H Q
theorem hG{H:Hp}{v:V}{a b:Int}(h:RD K H v (.tuple [.int a,.int b])):∃p,v= .ref p/\aj K H p [.int a,.int b]:=by obtain⟨p,xs,rfl,h1,h2⟩:=h.bW;obtain⟨x1,r,rfl,e1,h2⟩:=h2.cons_inv;obtain⟨x2,r,rfl,e2,h2⟩:=h2.cons_inv;cases h2.nil_inv;cases e1.int_inv;cases e2.int_inv;exact⟨p,rfl,h1⟩
theorem hW:Str.length "/"=1:=by decide+kernel
theorem mN{a b:Int}(ha:Nm a)(hb:Nm b):(bR a b).length<=100:=by
 have h1:=aY ha;have h2:=aY hb;have h3:=hW;unfold bR;split
 ·omega
 ·simp only[aq];omega
abbrev i5:Stmt:=top 7
theorem kH:aJ ["one","p","q"] ["one"] (az i5):=aR (by decide+kernel)
theorem rg(F:FA K mg "show_fraction" i5)(B:aG mg)(cE:ab P w K mg base "show_number" 1 eD):ab P w K mg base "show_fraction" 2 (gm K):=by
 refine F.has kH (fun vs H Q E h=>?_) (fun _ _ _ _ _ _=>bS fun _=>rfl) (fun f af A outer s H vs Q E hr h=>?_)
 · obtain⟨v,a,b,rfl,_⟩:=h
   rfl
 · obtain⟨v,a,b,rfl,rv,na,nb,k⟩:=h
   have nd:=kH.nd;refine⟨_,(ag (dv (pv 0) (fo K rfl (n:=2) rfl (bL (aL 1 nd) (bL (aL 2 nd) fm)))) (ak (ay (ft (aQ (cG K rfl hr.units) (pv 2) a8 (aN _)) (pf cE hr (a6 (pv 1) a7)) (eI (aP (bz (pf cE hr (a6 (pv 1) a7))) (aP ar (aP (bz (pf cE hr (a6 (pv 2) a7))) eG)))))))),?_⟩;obtain⟨p,rfl,h1⟩:=hG rv;have l1:=aY na;have l2:=aY nb;have lT:gL a:=na.l;have rT:gL b:=nb.l;have hs:=sz;have h0:=ku;have sW:=hW;refine⟨_,rfl,p,_,rfl,h1,rfl,_,_,rfl,_,_,rfl,rfl,?_⟩;refine⟨_,rfl,.inl ⟨_,_,rfl,rfl,_,rfl,?_⟩⟩;by_cases hb:b=1
   · rw[cc hb]
     refine cv ⟨_,rfl,a,rfl,lT,fun H1 s1=>?_⟩;have:=k H1 s1;unfold bR at this;rw[aD hb]at this;exact this
   · rw[dh hb]
     refine bC ⟨_,rfl,a,rfl,lT,fun H1 s1=>.inr ⟨_,rfl,by omega,_,rfl,by simp only[aq];omega,?_⟩⟩;refine⟨_,rfl,by simp only[aq];omega,?_⟩;refine⟨_,rfl,b,rfl,rT,fun H2 s2=>.inr ⟨_,rfl,by omega,_,rfl,by simp only[aq];omega,?_⟩⟩;refine⟨by simp only[aq];omega,?_⟩;have:=k H2 (s1.trans s2);unfold bR at this;rw[aK hb]at this;have e:Str.empty++numS a++"/"++numS b=numS a++"/"++numS b:=by rw[gP]
     rw[<-e]at this;exact this
abbrev ic:Stmt:=top 21
theorem kP:aJ ["_law_one"] ["_law_one"] (az ic):=aR (by decide+kernel)
theorem rp(F:FA K mg "_law_fraction_text" ic)(B:aG mg):ab P w K mg base "_law_fraction_text" 1 (gk K):=by
 refine F.has kP (fun vs H Q E h=>?_) (fun _ _ _ _ _ _=>bS fun _=>rfl) (fun f af A outer s H vs Q E hr h=>?_)
 · obtain⟨v,a,b,rfl,_⟩:=h
   rfl
 · obtain⟨v,a,b,rfl,rv,na,nb,k⟩:=h
   have nd:=kP.nd;refine⟨_,(ak (ay (ft (aQ (cG K rfl hr.units) (px K (pv 0) a8) a8 (aN _)) (bM (x:="str") cH rfl (B.at "str") cL (a6 (px K (pv 0) a8) a7)) (ae c4 (ae c4 (bM (x:="str") cH rfl (B.at "str") cL (a6 (px K (pv 0) a8) a7)) ar) (bM (x:="str") cH rfl (B.at "str") cL (a6 (px K (pv 0) a8) a7)))))),?_⟩;obtain⟨p,rfl,h1⟩:=hG rv;have l1:=aY na;have l2:=aY nb;have hs:=sz;have sW:=hW;refine⟨_,rfl,.inr ⟨p,_,1,.int b,rfl,rfl,h1,rfl,.inl ⟨_,_,rfl,rfl,_,rfl,?_⟩⟩⟩;by_cases hb:b=1
   · rw[cc hb]
     refine cv ⟨_,rfl,.inr ⟨p,_,0,.int a,rfl,rfl,h1,rfl,.inl ⟨a,rfl,cP na,?_⟩⟩⟩;unfold bR at k;rw[aD hb]at k;exact k
   · rw[dh hb]
     refine bC ⟨_,rfl,.inr ⟨p,_,0,.int a,rfl,rfl,h1,rfl,.inl ⟨a,rfl,cP na,?_⟩⟩⟩;refine⟨_,_,rfl,rfl,by change (numS a).length+_<=_;omega,?_⟩;refine⟨_,rfl,.inr ⟨p,_,1,.int b,rfl,rfl,h1,rfl,.inl ⟨b,rfl,cP nb,?_⟩⟩⟩;refine⟨_,_,rfl,rfl,by simp only[aq];change (numS a).length+_+(numS b).length<=_;omega,?_⟩;unfold bR at k;rw[aK hb]at k;exact k
abbrev ib:Stmt:=top 20
theorem kO:aJ ["_law_item_here"] ["_law_item_here"] (az ib):=aR (by decide+kernel)
theorem rn(F:FA K mg "_law_item_text" ib)(B:aG mg):ab P w K mg base "_law_item_text" 1 (dr K):=by
 refine F.has kO (fun vs H Q E h=>?_) (fun _ _ _ _ _ _=>bS fun _=>rfl) (fun f af A outer s H vs Q E hr h=>?_)
 · obtain⟨v,d,rfl,_⟩:=h
   rfl
 · obtain⟨v,d,rfl,rv,ti,k⟩:=h
   have nd:=kO.nd;refine⟨_,(ag (bb (aQ (cG K rfl hr.units) (px K (pv 0) a8) ar (aN _)) (ak (ay (ae c4 (ae c4 (ae c4 ar (eJ K rfl ar (a6 (dw (N:=["_law_step"]) (js:=[none]) rfl rfl rfl (fk K rfl (px K (pv 0) a8)) (fun _ _ _ _ _=>(aL 0 (fE _))) (fun _ _ _ _ _=>cO) (fun _ _ _ _ _=>(bM (x:="str") cH rfl (B.at "str") cL (a6 (pv 0) a7)))) a7))) ar) (bM (x:="str") cH rfl (B.at "str") cL (a6 (px K (pv 0) a8) a7))))) ba) (ak (ay (ae c4 (ae c4 (px K (pv 0) a8) ar) (bM (x:="str") cH rfl (B.at "str") cL (a6 (px K (pv 0) a8) a7)))))),?_⟩;have hs:=sz;have mH:=hV;have h5:Str.length "line "=5:=by decide+kernel
   rcases er rv ti with⟨ns,sp,a,b,rfl,rfl,h1,r2,hl,hn,cw⟩|⟨w,u,a,y,rfl,hw,rfl,h1,ry,hv⟩
   · refine⟨_,rfl,.inr ⟨a,_,0,.str "line",rfl,rfl,h1,aZ (bV 0) rfl,.inr ⟨_,_,au _,au _,cQ,cQ,_,rfl,?_⟩⟩⟩
     rw[cy,cc rfl];refine cv ?_;have ji:=fy hn hl;have fR:=aY cw;obtain⟨b',xs,e',g1,g2⟩:=r2.bW;cases e';rw[g2.gz]at g1;refine⟨rfl,?_⟩;refine⟨_,rfl,.inr ⟨a,_,1,.ref b,rfl,rfl,h1,aZ (by decide) rfl,b,rfl,⟨_,g1⟩,fun D H1 n1=>?_⟩⟩;refine fU (K:=K) (ds:=(ns.map numS).map PyData.str) _ g1 n1 (by simp) (by simp;omega) (fA _) ?_ ?_
     · intro i x d H2 Q' ex ed s2 hq
       rw[bo]at ex;obtain⟨n,en,rfl⟩:=oN.mp ex;rw[bo,bo,en]at ed;cases ed;have hn:=hn n (eh en);exact⟨_,rfl,.inl ⟨n,rfl,cP hn,hq _ _ (ai.refl _) (au _)⟩⟩
     · intro H2 zs s2 d2 r2
       rw[dI r2]at d2;refine⟨" ",D,ns.map numS,rfl,rfl,ah.of d2,fun z hz=>?_,by decide+kernel,by rw[aO];omega,?_⟩
       · obtain⟨n,fL,rfl⟩:=dF.mp hz
         have:=aY (hn n fL);omega
       refine⟨_,_,rfl,rfl,by change _+(bp ns).length<=_;omega,?_⟩;refine⟨_,_,rfl,rfl,by simp only[aq];change _+(bp ns).length+_<=_;omega,?_⟩;refine⟨_,rfl,.inr ⟨a,_,2,.int sp,rfl,rfl,h1.go s2,aZ (by decide) rfl,.inl ⟨sp,rfl,cP cw,?_⟩⟩⟩;refine⟨_,_,rfl,rfl,by simp only[aq];change _+(bp ns).length+_+(numS sp).length<=_;omega,?_⟩;have:=k H2 s2;rw[iV]at this;exact this
   · refine⟨_,rfl,.inr ⟨a,_,0,.str w,rfl,rfl,h1,aZ (bV 0) rfl,.inr ⟨_,_,au _,au _,ek hw,cQ,_,rfl,?_⟩⟩⟩
     rw[cy,(f6 hw).1];refine bC ?_;have w4:=g8 hw;have fin:=k H (ai.refl _);refine⟨_,rfl,.inr ⟨a,_,0,.str w,rfl,rfl,h1,aZ (bV 0) rfl,?_⟩⟩;refine⟨_,_,rfl,rfl,by omega,?_⟩;refine⟨_,rfl,.inr ⟨a,_,1,y,rfl,rfl,h1,aZ (by decide) rfl,?_⟩⟩;rcases hv with⟨i,rfl,rfl,hi⟩|⟨z,rfl,rfl,hz⟩
     · have fR:=aY hi
       exact .inl ⟨i,rfl,cP hi,_,_,rfl,rfl,by simp only[aq];change _+(numS i).length<=_;omega,fin⟩
     ·exact .inr ⟨z,rfl,_,_,rfl,rfl,by simp only[aq];omega,fin⟩
inductive o7(K:vG)(vs:List V)(H:Hp)(Q:VK):Prop |mk (v:_)(d:_)(h0:vs=[v])(h1:RD K H v d)(h2:jD d)(h3:∀H',ai H H'->Q (.str (jq d)) H'):o7 K vs H Q
def gp(K:vG):Sp:=fun vs H Q _=>o7 K vs H Q
theorem mQ{d:vJ}(h:TI d)(hn:∀ns sp,d≠bO ns sp):jq d=bP d:=by
 rcases h with⟨ns,sp,rfl,_⟩|⟨w,i,rfl,_⟩|⟨w,z,rfl,_⟩
 ·exact(hn _ _ rfl).elim
 ·rfl
 ·rfl
theorem mP(ns:List Int)(t a b:Int):jq (.tuple [.str "step",.tuple (ns.map PyData.int),.int t,.tuple [.int a,.int b]])="step "++bp ns++" "++numS t++" "++bR a b:=by show Str.ofString "step "++Txt.join " " ((ns.map PyData.int).map dG)++" "++numS t++" "++bR a b=_;rw[lV];rfl
theorem kd{H:Hp}{v:V}{ns:List Int}{t a b:Int}(h:RD K H v (.tuple [.str "step",.tuple (ns.map PyData.int),.int t,.tuple [.int a,.int b]])):∃p r q,v= .ref p/\aj K H p [.str "step",.ref r,.int t,.ref q]/\RD K H (.ref r) (.tuple (ns.map PyData.int))/\aj K H r (ns.map V.int)/\RD K H (.ref q) (.tuple [.int a,.int b]):=by obtain⟨p,xs,rfl,h1,h2⟩:=h.bW;obtain⟨x1,r,rfl,e1,h2⟩:=h2.cons_inv;obtain⟨x2,r,rfl,e2,h2⟩:=h2.cons_inv;obtain⟨x3,r,rfl,e3,h2⟩:=h2.cons_inv;obtain⟨x4,r,rfl,e4,h2⟩:=h2.cons_inv;cases h2.nil_inv;cases e1.str_inv;cases e3.int_inv;obtain⟨r',ys,rfl,g1,g2⟩:=id e2.bW;rw[g2.gz]at g1;obtain⟨q,rfl,_⟩:=hG e4;exact⟨p,r',q,rfl,h1,e2,g1,e4⟩
abbrev i6:Stmt:=top 10
theorem kI:aJ ["entry","word","row","t","square"] ["entry"] (az i6):=aR (by decide+kernel)
theorem rh(F:FA K mg "show_entry" i6)(B:aG mg)(j5:ab P w K mg base "show_item" 3 (dr K))(j4:ab P w K mg base "show_numbers" 2 (gi K))(j6:ab P w K mg base "show_fraction" 2 (gm K))(cE:ab P w K mg base "show_number" 1 eD):ab P w K mg base "show_entry" 4 (gp K):=by
 refine F.has kI (fun vs H Q E h=>?_) (fun _ _ _ _ _ _=>bS fun _=>rfl) (fun f af A outer s H vs Q E hr h=>?_)
 · obtain⟨v,d,rfl,_⟩:=h
   rfl
 · obtain⟨v,d,rfl,rv,te,k⟩:=h
   have nd:=kI.nd;refine⟨_,(ag (bb (aQ (fD K rfl hr.units) (px K (pv 0) a8) ar (aN _)) (ak (ay (pf j5 hr (a6 (pv 0) a7)))) ba) (ag (dv (pv 0) (fo K rfl (n:=4) rfl (bL (aL 1 nd) (bL (aL 2 nd) (bL (aL 3 nd) (bL (aL 4 nd) fm)))))) (ak (ay (eI (aP (bz (pv 1)) (aP ar (aP (bz (pf j4 hr (a6 (pv 2) a7))) (aP ar (aP (bz (pf cE hr (a6 (pv 3) a7))) (aP ar (aP (bz (pf j6 hr (a6 (pv 4) a7))) eG)))))))))))),?_⟩;have hs:=sz;have mH:=hV;have h0:=ku;have h4:Str.length "step"=4:=by decide+kernel
   rcases te with⟨ti,hn⟩|⟨ns,t,a,b,rfl,hl,hn,ht,ha,hb⟩
   · rw[mQ ti hn]at k
     rcases er rv ti with⟨ns,sp,a,b,rfl,_⟩|⟨w,u,a,y,rfl,hw,rfl,h1,ry,hv⟩
     ·exact(hn _ _ rfl).elim
     · refine⟨_,rfl,.inr ⟨a,_,0,.str w,rfl,rfl,h1,aZ (bV 0) rfl,.inr ⟨_,_,au _,au _,ek hw,eC,_,rfl,?_⟩⟩⟩
       rw[cy,(f6 hw).2];exact cv ⟨_,rfl,_,_,rfl,rv,ti,k⟩
   · obtain⟨p,r,q,rfl,h1,g2,g3,g4⟩:=kd rv
     refine⟨_,rfl,.inr ⟨p,_,0,.str "step",rfl,rfl,h1,aZ (bV 0) rfl,.inr ⟨_,_,au _,au _,eC,eC,_,rfl,?_⟩⟩⟩;rw[cy,cc rfl];refine bC ?_;have ji:=fy hn hl;have fR:=aY ht;have ud:=mN ha hb;refine⟨_,rfl,p,_,rfl,h1,rfl,_,_,rfl,_,_,rfl,_,_,rfl,_,_,rfl,rfl,?_⟩;refine⟨_,rfl,.inr ⟨"step",rfl,by omega,_,rfl,by simp only[aq];omega,?_⟩⟩;refine⟨_,rfl,by simp only[aq];omega,?_⟩;refine⟨_,rfl,.ref r,ns,rfl,g2,hl,hn,fun H1 s1=>.inr ⟨_,rfl,by omega,_,rfl,by simp only[aq];omega,?_⟩⟩;refine⟨_,rfl,by simp only[aq];omega,?_⟩;refine⟨_,rfl,t,rfl,ht.l,fun H2 s2=>.inr ⟨_,rfl,by omega,_,rfl,by simp only[aq];omega,?_⟩⟩;refine⟨_,rfl,by simp only[aq];omega,?_⟩;refine⟨_,rfl,.ref q,a,b,rfl,RD.mono (s1.trans s2) _ g4,ha,hb,fun H3 s3=>.inr ⟨_,rfl,by omega,_,rfl,by simp only[aq];omega,?_⟩⟩;refine⟨by simp only[aq];omega,?_⟩;rw[mP]at k;have fin:=k H3 (s1.trans (s2.trans s3));have e:Str.empty++"step"++" "++bp ns++" "++numS t++" "++bR a b="step "++bp ns++" "++numS t++" "++bR a b:=by
      rw[gP];have:(Str.ofString "step"++Str.ofString " ")=Str.ofString "step ":=by decide+kernel
      rw[this]
     rw[<-e]at fin;exact fin
abbrev ie:Stmt:=top 22
theorem kQ:aJ ["_law_entry_here","_law_told"] ["_law_entry_here"] (az ie):=aR (by decide+kernel)
theorem rq(F:FA K mg "_law_entry_text" ie)(B:aG mg)(jc:ab P w K mg base "_law_item_text" 1 (dr K))(je:ab P w K mg base "_law_fraction_text" 1 (gk K)):ab P w K mg base "_law_entry_text" 2 (gp K):=by
 refine F.has kQ (fun vs H Q E h=>?_) (fun _ _ _ _ _ _=>bS fun _=>rfl) (fun f af A outer s H vs Q E hr h=>?_)
 · obtain⟨v,d,rfl,_⟩:=h
   rfl
 · obtain⟨v,d,rfl,rv,te,k⟩:=h
   have nd:=kQ.nd;refine⟨_,(ag (bb (aQ (fD K rfl hr.units) (px K (pv 0) a8) ar (aN _)) (ak (ay (pf jc hr (a6 (pv 0) a7)))) ba) (ag (pS 1 nd (eJ K rfl ar (a6 (dw (N:=["_law_step"]) (js:=[none]) rfl rfl rfl (fk K rfl (px K (pv 0) a8)) (fun _ _ _ _ _=>(aL 0 (fE _))) (fun _ _ _ _ _=>cO) (fun _ _ _ _ _=>(bM (x:="str") cH rfl (B.at "str") cL (a6 (pv 0) a7)))) a7))) (ak (ay (ae c4 (ae c4 (ae c4 (ae c4 (ae c4 ar (pv 1)) ar) (bM (x:="str") cH rfl (B.at "str") cL (a6 (px K (pv 0) a8) a7))) ar) (pf je hr (a6 (px K (pv 0) a8) a7))))))),?_⟩;have hs:=sz;have mH:=hV;have h5:Str.length "step "=5:=by decide+kernel
   rcases te with⟨ti,hn⟩|⟨ns,t,a,b,rfl,hl,hn,ht,ha,hb⟩
   · rw[mQ ti hn]at k
     rcases er rv ti with⟨ns,sp,a,b,rfl,_⟩|⟨w,u,a,y,rfl,hw,rfl,h1,ry,hv⟩
     ·exact(hn _ _ rfl).elim
     · refine⟨_,rfl,.inr ⟨a,_,0,.str w,rfl,rfl,h1,aZ (bV 0) rfl,.inr ⟨_,_,au _,au _,ek hw,eC,_,rfl,?_⟩⟩⟩
       rw[cy,(f6 hw).2];exact cv ⟨_,rfl,_,_,rfl,rv,ti,k⟩
   · obtain⟨p,r,q,rfl,h1,g2,g3,g4⟩:=kd rv
     refine⟨_,rfl,.inr ⟨p,_,0,.str "step",rfl,rfl,h1,aZ (bV 0) rfl,.inr ⟨_,_,au _,au _,eC,eC,_,rfl,?_⟩⟩⟩;rw[cy,cc rfl];refine bC ?_;have ji:=fy hn hl;have fR:=aY ht;have ud:=mN ha hb;refine⟨rfl,?_⟩;refine⟨_,rfl,.inr ⟨p,_,1,.ref r,rfl,rfl,h1,aZ (by decide) rfl,r,rfl,⟨_,g3⟩,fun D H1 n1=>?_⟩⟩;refine fU (K:=K) (ds:=(ns.map numS).map PyData.str) _ g3 n1 (by simp) (by simp;omega) (fA _) ?_ ?_
     · intro i x d H2 Q' ex ed s2 hq
       rw[bo]at ex;obtain⟨n,en,rfl⟩:=oN.mp ex;rw[bo,bo,en]at ed;cases ed;have hn:=hn n (eh en);exact⟨_,rfl,.inl ⟨n,rfl,cP hn,hq _ _ (ai.refl _) (au _)⟩⟩
     · intro H2 zs s2 d2 r2
       rw[dI r2]at d2;refine⟨" ",D,ns.map numS,rfl,rfl,ah.of d2,fun z hz=>?_,by decide+kernel,by rw[aO];omega,?_⟩
       · obtain⟨n,fL,rfl⟩:=dF.mp hz
         have:=aY (hn n fL);omega
       have mG:=h1.go s2;refine⟨_,rfl,?_⟩;refine⟨_,_,rfl,rfl,by change _+(bp ns).length<=_;omega,?_⟩;refine⟨_,_,rfl,rfl,by simp only[aq];change _+(bp ns).length+_<=_;omega,?_⟩;refine⟨_,rfl,.inr ⟨p,_,2,.int t,rfl,rfl,mG,aZ (by decide) rfl,.inl ⟨t,rfl,cP ht,?_⟩⟩⟩;refine⟨_,_,rfl,rfl,by simp only[aq];change _+(bp ns).length+_+(numS t).length<=_;omega,?_⟩;refine⟨_,_,rfl,rfl,by simp only[aq];change _+(bp ns).length+_+(numS t).length+_<=_;omega,?_⟩;refine⟨_,rfl,.inr ⟨p,_,3,.ref q,rfl,rfl,mG,aZ (by decide) rfl,.ref q,a,b,rfl,RD.mono s2 _ g4,ha,hb,?_⟩⟩;refine⟨_,_,rfl,rfl,by simp only[aq];change _+(bp ns).length+_+(numS t).length+_+_<=_;omega,?_⟩;have:=k H2 s2;rw[mP]at this;exact this
end
end Lw
set_option maxHeartbeats 4000000
namespace Lw
open PySem PySem.Spec PyProof.Rows L2 Ln Wk
open Tm (numS)
section
variable {P:vI}{w:World}{K:vG}{mg:Str->Option Value}{base:Heap}
theorem str_list:∀(ds:List vJ),(∀d∈ds,∃z:Str,d= .str z/\z.length=1)->∃zs:List Str,ds=zs.map PyData.str/\∀z∈zs,z.length=1 |[],_=>⟨[],rfl,fun _ h=>nomatch h⟩ |d::ds,h=>by obtain⟨z,rfl,e⟩:=h d (.head _);obtain⟨zs,rfl,q⟩:=str_list ds fun x hx=>h x (.tail _ hx);exact⟨z::zs,rfl,fun y hy=>by
     rcases di.mp hy with rfl|hy
     ·exact e
     ·exact q y hy⟩
def gJ:Str:="abcdefghijklmnopqrstuvwxyz"
theorem uW:gJ.cps.toList.length=26:=by decide+kernel
inductive nX(vs:List V)(H:Hp)(Q:VK):Prop |mk (p:_)(h0:vs=[.ref p])(h1:bj H p)(h2:∀z H',z.length<=8->ao p H H'->Q (.str z) H'):nX vs H Q
def ki(K:vG):Sp:=fun vs H Q _=>nX vs H Q
abbrev i9:Stmt:=top 18
theorem kL:aJ ["_law_bag_here"] ["_law_bag_here"] (az i9):=aR (by decide+kernel)
theorem rl(F:FA K mg "_law_name" i9)(B:aG mg)(aM:ab P w K mg base "_law_take" 1 dq):ab P w K mg base "_law_name" 2 (ki K):=by
 refine F.has kL (fun vs H Q E h=>?_) (fun _ _ _ _ _ _=>bS fun _=>rfl) (fun f af A outer s H vs Q E hr h=>?_)
 · obtain⟨p,rfl,_⟩:=h
   rfl
 · obtain⟨p,rfl,bg,k⟩:=h
   have nd:=kL.nd;refine⟨_,(ak (ay (eJ K rfl ar (a6 (dw (N:=["_law_k","_law_bag_here"]) (js:=[none,some 0]) rfl rfl rfl (dP rfl (B.at "range") (a6 (ae bA a8 (pf aM hr (a6 (pv 0) (a6 a8 a7)))) a7)) (fun _ _ _ _ _=>(aL 0 (lS (by decide)))) (fun _ _ _ _ _=>cO) (fun _ _ _ _ _=>(lE sG ar (pf aM hr (a6 (pv 1) (a6 a8 a7))) (fun _ _=>rfl)))) a7)))),?_⟩;refine⟨rfl,?_⟩;refine⟨_,rfl,p,8,rfl,bg,by decide,by decide,fun n H1 n0 n1 b1=>?_⟩;refine⟨_,_,rfl,rfl,_,rfl,by omega,by omega,fun D H2 nD=>?_⟩;refine mV (K:=K) (J:=cJ 0 (1+n).toNat) (p:=p) (H:=H1) (1+n).toNat _ nD b1.bag (by omega) (fun i=>.int (0+(i:Int))) (fun i H3 hi _=>⟨hi,fun y H4 ⟨e,q⟩=>⟨e,q⟩⟩) (fun H3 _=>aw _) (fun _ d=>∃z:Str,d= .str z/\z.length=1) ?_ ?_
   · intro i H3 Q' hi b3 hq
     refine⟨_,rfl,p,26,rfl,b3.bag,by decide,by decide,fun d H4 d0 d1 b4=>?_⟩;have hd:d.toNat<gJ.cps.toList.length:=by rw[uW];omega
     refine⟨gJ,d,gJ.cps.toList[d.toNat],rfl,rfl,by decide+kernel,aZ d0 (eY hd),?_⟩;exact hq _ _ _ ⟨_,rfl,rfl⟩ rfl (au _) b4
   · intro H3 ys ds b3 d3 r3 l3 nl pd
     obtain⟨zs,rfl,hz⟩:=str_list ds fun d hd=>by obtain⟨i,hi⟩:=List.mem_iff_getElem?.mp hd;exact pd i d hi
     rw[dI r3]at d3;rw[aO]at l3;refine⟨"",D,zs,rfl,rfl,ah.of d3,fun z iW=>by rw[hz z iW];decide,by decide,by omega,?_⟩;refine k _ _ ?_ (b1.trans b3);have:=me "" (B:=1) zs (fun z iW=>by rw[hz z iW];exact aw _);rw[show Str.length ""=0 by decide+kernel]at this;omega
inductive o2(K:vG)(vs:List V)(H:Hp)(Q:VK):Prop |mk (p:Addr)(ax:Nat)(h0:vs=[.ref p,.int ax])(h1:bj H p)(h2:1<=ax)(h3:ax<=3)(h4:∀v d H',RD K H' v d->TI d->ao p H H'->Q v H'):o2 K vs H Q
def gj(K:vG):Sp:=fun vs H Q _=>o2 K vs H Q
abbrev ig:Stmt:=top 19
theorem kR:aJ ["_law_bag_here","_law_axes","_law_sort","_law_speed","_law_most","_law_steps"] ["_law_bag_here","_law_axes"] (az ig):=aR (by decide+kernel)
theorem rB(F:FA K mg "_law_item" ig)(B:aG mg)(aM:ab P w K mg base "_law_take" 1 dq)(u3:ab P w K mg base "_law_name" 2 (ki K)):ab P w K mg base "_law_item" 3 (gj K):=by
 refine F.has kR (fun vs H Q E h=>?_) (fun _ _ _ _ _ _=>ee fun _ _=>rfl) (fun f af A outer s H vs Q E hr h=>?_)
 · obtain⟨p,ax,rfl,_⟩:=h
   rfl
 · obtain⟨p,ax,rfl,bg,nE,nC,k⟩:=h
   have nd:=kR.nd;refine⟨_,(ag (pS 2 nd (pf aM hr (a6 (pv 0) (a6 a8 a7)))) (ag (bb (aQ (cG K rfl hr.units) (pv 2) a8 (aN _)) (ak (ay (dQ (a6 ar (a6 (ae bA a8 (pf aM hr (a6 (pv 0) (a6 a8 a7)))) a7))))) ba) (ag (bb (aQ (cG K rfl hr.units) (pv 2) a8 (aN _)) (ak (ay (dQ (a6 ar (a6 (px K (fq (a6 ar (a6 ar a7))) (pf aM hr (a6 (pv 0) (a6 a8 a7)))) a7))))) ba) (ag (bb (aQ (cG K rfl hr.units) (pv 2) a8 (aN _)) (ak (ay (dQ (a6 ar (a6 (pf u3 hr (a6 (pv 0) a7)) a7))))) ba) (ag (pS 3 nd (ae bA a8 (pf aM hr (a6 (pv 0) (a6 a8 a7))))) (ag (pS 4 nd (px K (fq (a6 a8 (a6 a8 (a6 a8 a7)))) (pf aM hr (a6 (pv 0) (a6 a8 a7))))) (ag (qw (i0:=5) nd rfl (Or.inl rfl) (N:=["_law_axis","_law_most","_law_bag_here"]) (js:=[none,some 4,some 0]) rfl rfl rfl (dP rfl (B.at "range") (a6 (pv 1) a7)) (fun _ _ _ _ _=>(aL 0 (show List.Nodup (["_law_axis","_law_most","_law_bag_here"]:List Str) by decide+kernel))) (fun _ _ _ _ _=>cO) (fun _ _ _ _ _=>(ae fu (pf aM hr (a6 (pv 2) (a6 (ae bA (ae c3 a8 (pv 1)) a8) a7))) (pv 1)))) (ag (gv (bb (gu (fj (bZ (x:="any") (uR K rfl rfl) rfl (B.at "any") PyProof.Rows.boot_any (a6 (pv 5) a7)))) (ak (dv a8 (iM (pv 5) (pf aM hr (a6 (pv 0) (a6 (pv 1) a7))) set_list))) ba)) (ak (ay (dQ (a6 ar (a6 (bM (x:="tuple") (hJ K rfl) rfl (B.at "tuple") oM (a6 (pv 5) a7)) (a6 (pv 3) a7)))))))))))))),?_⟩;refine⟨_,rfl,p,6,rfl,bg,by decide,by decide,fun so H1 s0 s1 b1=>?_⟩;refine⟨_,rfl,.inl ⟨_,_,rfl,rfl,_,rfl,?_⟩⟩;refine bQ (fun hc=>?_) (fun hc=>?_)
   · refine⟨_,rfl,p,1000,rfl,b1.bag,by decide,by decide,fun n H2 n0 n1 b2=>?_⟩
     refine⟨_,_,rfl,rfl,cm rfl,fun t H3 n3=>?_⟩;exact k (.ref t) _ H3 (cD (aj.of n3.at') (aU (au _) (aU (du _) bX))) (.inr (.inl ⟨_,_,rfl,.inl rfl,by unfold Nm;omega⟩)) (b1.trans (b2.trans (.bN b2.bag n3.same)))
   refine⟨_,rfl,.inl ⟨_,_,rfl,rfl,_,rfl,?_⟩⟩;refine bQ (fun hc=>?_) (fun hc=>?_)
   · refine⟨cm rfl,fun c H2 n2=>?_⟩
     have b2:ao p H1 H2:=.bN b1.bag n2.same;have cp:c≠p:=fun z=>b1.bag.ne (z▸n2.no);refine⟨_,rfl,p,2,rfl,b2.bag,by decide,by decide,fun i H3 i0 i1 b3=>?_⟩;have hi:∃z:Str,c9 ([.str "up",.str "down"]:List V) i=some (.str z)/\z.length<=100:=by
      rcases(show i=0\/i=1 by omega)with rfl|rfl
      ·exact⟨"up",rfl,by decide+kernel⟩
      ·exact⟨"down",rfl,by decide+kernel⟩
     obtain⟨z,ez,lz⟩:=hi;refine .inl ⟨c,_,_,_,rfl,rfl,ah.of (b3.same _ _ cp n2.at'),ez,cm rfl,fun t H4 n4=>?_⟩;exact k (.ref t) _ H4 (cD (aj.of n4.at') (aU (au _) (aU (au _) bX))) (.inr (.inr ⟨_,_,rfl,.inl rfl,lz⟩)) (b1.trans (b2.trans (b3.trans (.bN b3.bag n4.same))))
   refine⟨_,rfl,.inl ⟨_,_,rfl,rfl,_,rfl,?_⟩⟩;refine bQ (fun hc=>?_) (fun hc=>?_)
   · refine⟨_,rfl,p,rfl,b1.bag,fun z H2 lz b2=>⟨cm rfl,fun t H3 n3=>?_⟩⟩
     exact k (.ref t) _ H3 (cD (aj.of n3.at') (aU (au _) (aU (au _) bX))) (.inr (.inr ⟨_,_,rfl,.inr rfl,by omega⟩)) (b1.trans (b2.trans (.bN b2.bag n3.same)))
   refine⟨_,rfl,p,20,rfl,b1.bag,by decide,by decide,fun sp H2 p0 p1 b2=>?_⟩;refine⟨_,_,rfl,rfl,?_⟩;refine⟨cm rfl,fun c H3 n3=>?_⟩;have b3:ao p H2 H3:=.bN b2.bag n3.same;have cp:c≠p:=fun z=>b2.bag.ne (z▸n3.no);refine⟨_,rfl,p,3,rfl,b3.bag,by decide,by decide,fun i H4 i0 i1 b4=>?_⟩;have hm:∃m:Int,c9 ([.int 3,.int 20,.int 100]:List V) i=some (.int m)/\1<=m/\m<=100:=by
    rcases(show i=0\/i=1\/i=2 by omega)with rfl|rfl|rfl
    ·exact⟨3,rfl,by decide,by decide⟩
    ·exact⟨20,rfl,by decide,by decide⟩
    ·exact⟨100,rfl,by decide,by decide⟩
   obtain⟨m,em,m1,m2⟩:=hm;refine .inl ⟨c,_,_,_,rfl,rfl,ah.of (b4.same _ _ cp n3.at'),em,?_⟩;have gI:=b1.trans (b2.trans (b3.trans b4));refine⟨_,rfl,_,rfl,by omega,by omega,fun D H5 nD=>?_⟩;refine mW (J:=cJ 0 ax) (p:=p) (H:=H4) ax _ nD gI.bag (by omega) (fun i=>.int (0+(i:Int))) (fun i H3 hi _=>⟨hi,fun y H4 ⟨e,q⟩=>⟨e,q⟩⟩) (fun H3 _=>aw _) (fun z=>(z.natAbs:Int)<=m) ?_ ?_
   · intro i H6 Q' hi b6 hq
     refine⟨_,rfl,_,rfl,_,_,rfl,rfl,.of_left (cA (by decide) (by decide)),_,_,rfl,rfl,p,2*m+1,rfl,b6.bag,by omega,by omega,fun d H7 d0 d1 b7=>?_⟩;exact⟨_,rfl,_,_,rfl,rfl,hq _ _ (by omega) b7⟩
   intro H6 is b6 d6 l6 nu;have jw:=gI.trans b6;have lp:D≠p:=fun z=>gI.bag.ne (z▸nD.no);have nl:H D=none:=by cases e:H D with |none=>rfl |some o=>have:=gI.same _ _ lp e;rw[nD.no]at this;cases this
   refine⟨fun σ H7=>ao p H H7/\∃(is:List Int),H7 D=some (.lst (is.map V.int))/\uX ax 100 is/\σ=[some (.ref p),some (.int ax),some (.int so),some (.int (1+sp)),some (.int m),some (.ref D)],?_,?_⟩
   · refine⟨_,rfl,D,is,rfl,.inl (ah.of d6),_,rfl,?_⟩
     cases ha:is.any (· !=0)with |false=>
       refine cv ?_;refine⟨_,rfl,_,rfl,_,rfl,p,(ax:Int),rfl,jw.bag,by omega,by omega,fun ix H7 i0 i1 b7=>?_⟩;have d7:=b7.same _ _ lp d6;refine⟨D,_,ix,ix.toNat,rfl,rfl,d7,?_,?_⟩
       ·unfold cS;rw[aD i0,aD (by rw[aO,l6];exact i1)]
       refine⟨?_,is.set ix.toNat 1,?_,⟨?_,?_,?_⟩,rfl⟩
       · have nA:=jw.trans b7
         refine⟨?_,fun b o n e=>?_⟩
         · obtain⟨c',m',e,ok⟩:=nA.bag
           exact⟨c',m',by rw[aF lp.symm];exact e,ok⟩
         ·rw[aF (cu e nl)];exact nA.same b o n e
       ·rw[cj,List.map_set]
       ·rw[List.length_set];exact l6
       · intro z hz
         rcases List.mem_or_eq_of_mem_set hz with h|h
         ·have:=nu z h;omega
         ·rw[h];decide
       ·exact⟨1,List.mem_iff_getElem.mpr ⟨ix.toNat,by rw[List.length_set];omega,by rw[List.getElem_set_self]⟩,by decide⟩ |true=>refine bC ?_;refine⟨jw,is,d6,⟨l6,fun z hz=>by have:=nu z hz;omega,?_⟩,rfl⟩;obtain⟨z,hz,h0⟩:=List.any_eq_true.mp ha;exact⟨z,hz,by simpa using h0⟩
   rintro σ H7 ⟨b7,is,d7,ok,rfl⟩;refine⟨_,rfl,D,_,rfl,.inl ⟨ah.of d7,fun q H8 n8=>?_⟩⟩;refine⟨_,rfl,cm rfl,fun t H9 n9=>?_⟩;refine k (.ref t) (bO is (1+sp)) H9 (cD (aj.of n9.at') (aU (au _) (aU (cD (aj.of (n9.same _ _ n8.at')) (iz is)) (aU (du _) bX)))) (.inl ⟨is,_,rfl,by rw[ok.len];omega,fun n hn=>by unfold Nm;have:=ok.bd n hn;omega,by unfold Nm;omega⟩) (b7.trans (.bN b7.bag (n8.same.trans n9.same)))
theorem pe{d:vJ}(h:jD d):bB d=true:=by
 rcases h with⟨ti,_⟩|⟨ns,t,a,b,rfl,_⟩
 · rcases ti with⟨ns,sp,rfl,_⟩|⟨w,i,rfl,_⟩|⟨w,z,rfl,_⟩
   ·exact m4 _ _
   ·rfl
   ·rfl
 ·simp[bB,bc,lO]
theorem gate{b:Bool}{A B:Prop}(hB:B)(h:b=true->B->A):if b=true then A else B:=by
 cases b
 ·exact hB
 ·exact h rfl hB
theorem p9{d:vJ}(ti:TI d):bB d=true:=by
 rcases ti with⟨ns,sp,rfl,_⟩|⟨w,i,rfl,_⟩|⟨w,z,rfl,_⟩
 ·exact m4 _ _
 ·rfl
 ·rfl
inductive o8(K:vG)(vs:List V)(H:Hp)(Q:VK):Prop |mk (p:Addr)(ax:Nat)(h0:vs=[.ref p,.int ax])(h1:bj H p)(h2:1<=ax)(h3:ax<=3)(h4:∀v d H',RD K H' v d->jD d->ao p H H'->Q v H'):o8 K vs H Q
def ko(K:vG):Sp:=fun vs H Q _=>o8 K vs H Q
abbrev ik:Stmt:=top 23
theorem kU:aJ ["_law_bag_here","_law_axes","_law_how","_law_item_here","_law_row","_law_square"] ["_law_bag_here","_law_axes"] (az ik):=aR (by decide+kernel)
theorem rE(F:FA K mg "_law_entry" ik)(B:aG mg)(aM:ab P w K mg base "_law_take" 1 dq)(jd:ab P w K mg base "_law_item" 3 (gj K))(jf:ab P w K mg base "_law_fraction" 3 gn):ab P w K mg base "_law_entry" 4 (ko K):=by
 refine F.has kU (fun vs H Q E h=>?_) (fun _ _ _ _ _ _=>ee fun _ _=>rfl) (fun f af A outer s H vs Q E hr h=>?_)
 · obtain⟨p,ax,rfl,_⟩:=h
   rfl
 · obtain⟨p,ax,rfl,bg,nE,nC,k⟩:=h
   have nd:=kU.nd;refine⟨_,(ag (pS 2 nd (pf aM hr (a6 (pv 0) (a6 a8 a7)))) (ag (pS 3 nd (pf jd hr (a6 (pv 0) (a6 (pv 1) a7)))) (ag (bb (PW.pt (qv (aQ (cG K rfl hr.units) (pv 2) a8 (aN _)) (qu (aQ (fD K rfl hr.units) (px K (pv 3) a8) ar (aN _))))) (ak (ay (pv 3))) ba) (ag (pS 4 nd (bM (x:="tuple") (hJ K rfl) rfl (B.at "tuple") oM (a6 (dw (N:=["_law_axis","_law_bag_here"]) (js:=[none,some 0]) rfl rfl rfl (dP rfl (B.at "range") (a6 (pv 1) a7)) (fun _ _ _ _ _=>(aL 0 (lS (by decide)))) (fun _ _ _ _ _=>cO) (fun _ _ _ _ _=>(ae fu (pf aM hr (a6 (pv 1) (a6 a8 a7))) a8))) a7))) (ag (pS 5 nd (pf jf hr (a6 (pv 0) a7))) (ak (ay (dQ (a6 ar (a6 (pv 4) (a6 (ae bA a8 (pf aM hr (a6 (pv 0) (a6 a8 a7)))) (a6 (dQ (a6 (bZ (x:="max") (nh rfl) rfl (B.at "max") PyProof.Rows.boot_max (a6 a8 (a6 (bZ (x:="abs") gG rfl (B.at "abs") jP (a6 (px K (pv 5) a8) a7)) a7))) (a6 (ft (aQ (fD K rfl hr.units) (px K (pv 5) a8) a8 (aN _)) (px K (pv 5) a8) a8) a7))) a7)))))))))))),?_⟩;refine⟨_,rfl,p,4,rfl,bg,by decide,by decide,fun hw H1 h0 h1 b1=>?_⟩;refine⟨_,rfl,_,rfl,p,ax,rfl,b1.bag,nE,nC,fun v d H2 rv ti b2=>?_⟩;have jx:=b1.trans b2;refine⟨_,rfl,.inl ⟨_,_,rfl,rfl,_,rfl,?_⟩⟩;refine gate ?rest (fun c hB=>?t)
   case t=>
    rcases er rv ti with⟨ns,sp,a,b,rfl,rfl,g1,_⟩|⟨w,u,a,y,rfl,iZ,rfl,g1,ry,hv⟩
    · refine⟨_,rfl,.inr ⟨a,_,0,.str "line",rfl,rfl,g1,aZ (bV 0) rfl,.inr ⟨_,_,au _,au _,cQ,cQ,_,rfl,?_⟩⟩⟩
      rw[cy,cc rfl];exact bC hB
    · refine⟨_,rfl,.inr ⟨a,_,0,.str w,rfl,rfl,g1,aZ (bV 0) rfl,.inr ⟨_,_,au _,au _,ek iZ,cQ,_,rfl,?_⟩⟩⟩
      rw[cy,(f6 iZ).1];exact cv ⟨_,rfl,k _ _ _ rv (.inl ⟨ti,fun ns sp e=>hR iZ ⟨ns,sp,e⟩⟩) jx⟩
   refine⟨_,rfl,_,rfl,by omega,by omega,fun D H3 nD=>?_⟩;refine mW (J:=cJ 0 ax) (p:=p) (H:=H2) ax _ nD jx.bag (by omega) (fun i=>.int (0+(i:Int))) (fun i H3 hi _=>⟨hi,fun y H4 ⟨e,q⟩=>⟨e,q⟩⟩) (fun H3 _=>aw _) (fun z=>(z.natAbs:Int)<=1) ?_ ?_
   · intro i H6 Q' hi b6 hq
     refine⟨_,rfl,p,3,rfl,b6.bag,by decide,by decide,fun d H7 d0 d1 b7=>?_⟩;exact⟨_,_,rfl,rfl,hq _ _ (by omega) b7⟩
   intro H4 is b4 d4 l4 uM;refine⟨D,_,rfl,.inl ⟨ah.of d4,fun t H5 n5=>?_⟩⟩;have b5:ao p H4 H5:=.bN b4.bag n5.same;refine⟨_,rfl,p,rfl,b5.bag,fun sv a b H6 fr ⟨q,e1,e2⟩ b6=>?_⟩;subst e1;have tp:t≠p:=fun e=>b4.bag.ne (e▸n5.no);have sU:=b6.same _ _ tp n5.at';refine⟨_,rfl,_,rfl,p,1000,rfl,b6.bag,by decide,by decide,fun tk H7 t0 t1 b7=>?_⟩;have qp:q≠p:=fun e=>by obtain⟨c,m,eb,_⟩:=b6.bag;rw[e,eb]at e2;cases e2
   have t7:=b7.same _ _ qp e2;have sT:=b7.same _ _ tp sU;refine⟨_,_,rfl,rfl,?_⟩;have j3:aj K H7 q [.int a,.int b]:=aj.of t7;have mw:Nm (if(if a<0 then-a else a)>1 then(if a<0 then-a else a)else 1):=by have:=fr.na;unfold Nm;split<;>(try split)<;>omega
   have nb:Nm b:=by have:=fr.nb;have:=fr.pos;unfold Nm;omega
   have fin:∀(m c:Int)(t2 t3:Addr)(H8 H9:Hp),Nm m->Nm c->Nw H7 H8 t2 (.tup [.int m,.int c])->Nw H8 H9 t3 (.tup [.str "step",.ref t,.int (1+tk),.ref t2])->Q (.ref t3) H9:=fun m c t2 t3 H8 H9 hm hc n8 n9=>by refine k (.ref t3) (.tuple [.str "step",.tuple (is.map PyData.int),.int (1+tk),.tuple [.int m,.int c]]) H9 (cD (aj.of n9.at') (aU (au _) (aU (cD (aj.of (n9.same _ _ (n8.same _ _ sT))) (iz is)) (aU (du _) (aU (cD (aj.of (n9.same _ _ n8.at')) (aU (du _) (aU (du _) bX))) bX))))) (.inr ⟨is,_,m,c,rfl,by omega,fun n hn=>by unfold Nm;have:=uM n hn;omega,by unfold Nm;omega,hm,hc⟩) ?_;exact jx.trans (b4.trans (b5.trans (b6.trans (b7.trans (.bN b7.bag (n8.same.trans n9.same))))))
   refine⟨_,rfl,.inr ⟨q,_,0,.int a,rfl,rfl,j3,rfl,a,rfl,1,_,rfl,?_⟩⟩;refine⟨_,rfl,.inr ⟨q,_,0,.int a,rfl,rfl,j3,rfl,.inl ⟨_,_,rfl,rfl,_,rfl,?_⟩⟩⟩;by_cases c:a=0
   · rw[cc c]
     refine bC ?_;refine⟨cm rfl,fun t2 H8 n8=>⟨cm rfl,fun t3 H9 n9=>?_⟩⟩;exact fin _ _ t2 t3 H8 H9 mw (by unfold Nm;decide) n8 n9
   · rw[dh c]
     refine cv ?_;refine⟨_,rfl,.inr ⟨q,_,1,.int b,rfl,rfl,j3,rfl,?_⟩⟩;refine⟨cm rfl,fun t2 H8 n8=>⟨cm rfl,fun t3 H9 n9=>?_⟩⟩;exact fin _ _ t2 t3 H8 H9 mw nb n8 n9
inductive nS(vs:List V)(H:Hp)(Q:VK):Prop |mk (z:Str)(h0:vs=[.str z,.str z])(h1:Q (.bl true) H):nS vs H Q
def kg:Sp:=fun vs H Q _=>nS vs H Q
theorem oZ:dn "str" "str"=true:=by decide
abbrev i7:Stmt:=top 24
theorem kJ:aJ ["_law_told","_law_due"] ["_law_told","_law_due"] (az i7):=aR (by decide+kernel)
theorem rj(F:FA K mg "_law_right" i7)(B:aG mg):ab P w K mg base "_law_right" 1 kg:=by
 refine F.has kJ (fun vs H Q E h=>?_) (fun _ _ _ _ _ _=>ee fun _ _=>rfl) (fun f af A outer s H vs Q E hr h=>?_)
 · obtain⟨z,rfl,_⟩:=h
   rfl
 · obtain⟨z,rfl,k⟩:=h
   have nd:=kJ.nd;refine⟨_,(ak (ay (qK (qO K B (a6 (pv 0) (a6 (qJ (x:="str") (v:=.ty "str") rfl (B.at "str") cL rfl) a7))) (qF (lF r0 (pv 0) (pv 1) (aN _)))))),?_⟩;refine⟨_,rfl,.inl ⟨_,_,"str",true,rfl,(au (K:=K) (H:=H) z).ty,by decide,oZ,_,rfl,cv ?_⟩⟩;refine⟨_,rfl,_,rfl,rfl,?_⟩;rw[cc rfl];exact k
def kl(K:vG):Sp:=fun vs H Q _=>∃(a:Addr)(ns:List Int),vs=[.ref a]/\ah K H a (ns.map V.int)/\ns.length<=63/\∀H',Q (.bl true) H'
abbrev fh:Stmt:=top 25
theorem kN:aJ ["_law_script","_law_at","_law_bag_here","_law_axes","_law_items","_law_entry_here","_law_one","_law_due","_law_again"] ["_law_script"] (az fh):=aR (by decide+kernel)
theorem rA{f:Addr}{fd:FuncData}(F:de K "law" "law" fh f fd)(B:aG mg)(u9:ab P w K mg base "_law_bag" 1 (kr K))(aM:ab P w K mg base "_law_take" 1 dq)(jd:ab P w K mg base "_law_item" 3 (gj K))(u6:ab P w K mg base "_law_entry" 4 (ko K))(jf:ab P w K mg base "_law_fraction" 3 gn)(jc:ab P w K mg base "_law_item_text" 1 (dr K))(jb:ab P w K mg base "_law_right" 1 kg)(sX:ab P w K mg base "show_items" 4 (km K))(sY:ab P w K mg base "show_entry" 4 (gp K))(u5:ab P w K mg base "_law_entry_text" 2 (gp K))(j6:ab P w K mg base "show_fraction" 2 (gm K))(je:ab P w K mg base "_law_fraction_text" 1 (gk K)):cK P w K mg base df 5 f fd ["_law_script"] (kl K):=by
 refine F.ok kN (fun vs H Q E h=>?_) (fun af A outer s H vs Q E hr h=>?_)
 · obtain⟨a,ns,rfl,_⟩:=h
   rfl
 · obtain⟨a,ns,rfl,hS,hlen,k⟩:=h
   have nd:=kN.nd;refine⟨_,(ag (iL fZ rfl (dP rfl (B.at "range") (a6 (bZ (x:="max") (nh rfl) rfl (B.at "max") PyProof.Rows.boot_max (a6 a8 (a6 (bZ (x:="min") (ng rfl) rfl (B.at "min") PyProof.Rows.boot_min (a6 a8 (a6 (iR K B (a6 (pv 0) a7)) a7))) a7))) a7)) (aL 1 nd) (ag (pS 2 nd (pf u9 hr (a6 (pv 0) (a6 (pv 1) a7)))) (ag (pS 3 nd (ae bA a8 (pf aM hr (a6 (pv 2) (a6 a8 a7))))) (ag (pS 4 nd (bM (x:="tuple") (hJ K rfl) rfl (B.at "tuple") oM (a6 (dw (N:=["_law_k","_law_bag_here","_law_axes"]) (js:=[none,some 2,some 3]) rfl rfl rfl (dP rfl (B.at "range") (a6 (pf aM hr (a6 (pv 2) (a6 a8 a7))) a7)) (fun _ _ _ _ _=>(aL 0 (show List.Nodup (["_law_k","_law_bag_here","_law_axes"]:List Str) by decide+kernel))) (fun _ _ _ _ _=>cO) (fun _ _ _ _ _=>(pf jd hr (a6 (pv 1) (a6 (pv 2) a7))))) a7))) (ag (pS 5 nd (pf u6 hr (a6 (pv 2) (a6 (pv 3) a7)))) (ag (pS 6 nd (pf jf hr (a6 (pv 2) a7))) (ag (pS 7 nd (eJ K rfl ar (a6 (dw (N:=["_law_item_here"]) (js:=[none]) rfl rfl rfl (fk K rfl (pv 4)) (fun _ _ _ _ _=>(aL 0 (fE _))) (fun _ _ _ _ _=>cO) (fun _ _ _ _ _=>(pf jc hr (a6 (pv 0) a7)))) a7))) (ak (iL fZ rfl (dP rfl (B.at "range") (a6 a8 a7)) (aL 8 nd) (ag (bb (PW.pt (qt (gu (fj (pf jb hr (a6 (pf sX hr (a6 (pv 4) a7)) (a6 (pv 7) a7))))) (qs (gu (fj (pf jb hr (a6 (pf sY hr (a6 (pv 5) a7)) (a6 (pf u5 hr (a6 (pv 5) a7)) a7)))))))) (ak (ay iQ)) ba) (ak (bb (gu (fj (pf jb hr (a6 (pf j6 hr (a6 (pv 6) a7)) (a6 (pf je hr (a6 (pv 6) a7)) a7))))) (ak (ay iQ)) ba)))))))))))) (ak (ay iQ))),?_⟩;refine⟨_,rfl,a,_,rfl,.inl hS,_,_,rfl,_,_,rfl,_,rfl,?_,?_,?_⟩
   ·split<;>(try split)<;>omega
   ·split<;>(try split)<;>(try rw[aO])<;>omega
   have hN:(if(if((ns.map V.int).length:Int)<8 then((ns.map V.int).length:Int)else 8)>1 then(if((ns.map V.int).length:Int)<8 then((ns.map V.int).length:Int)else 8)else 1).toNat<=12:=by split<;>(try split)<;>omega
   refine jl (Pv:=fun i σ H2=>ai H H2/\∃v1 v2 v3 v4 v5 v6 v7 v8,σ=[some (.ref a),v1,v2,v3,v4,v5,v6,v7,v8]) ?_ ?_ ?_
   ·exact⟨ai.refl _,none,none,none,none,none,none,none,none,rfl⟩
   · rintro i σ H2 hi ⟨s2,v1,v2,v3,v4,v5,v6,v7,v8,rfl⟩
     have vx:i<12:=bt hi hN;refine⟨_,rfl,_,rfl,a,ns,_,rfl,s2.seq hS,hlen,by omega,by omega,fun p H3 np uL s3=>?_⟩;refine⟨_,rfl,p,2,rfl,uL,by decide,by decide,fun ax H4 a0 a1 b4=>?_⟩;refine⟨_,_,rfl,rfl,?_⟩;obtain⟨m,em⟩:∃m:Nat,2+ax=(m:Int):=⟨(2+ax).toNat,by omega⟩;show cx 3 (.int (2+ax)) _ _ _;rw[em];refine⟨_,rfl,p,21,rfl,b4.bag,by decide,by decide,fun n H5 n0 n1 b5=>?_⟩;refine⟨_,rfl,by omega,by omega,fun D H6 nD=>?_⟩;have uN:=b4.trans b5;refine mV (K:=K) (J:=cJ 0 n.toNat) (p:=p) (H:=H5) n.toNat _ nD b5.bag (by omega) (fun i=>.int (0+(i:Int))) (fun i H3 hi _=>⟨hi,fun y H4 ⟨e,q⟩=>⟨e,q⟩⟩) (fun H3 _=>aw _) (fun _ d=>TI d) ?_ ?_
     · intro i H7 Q' hi b7 hq
       exact⟨_,rfl,_,rfl,p,m,rfl,b7.bag,by omega,by omega,fun v d H8 rv ti b8=>hq _ _ _ ti (p9 ti) rv b8⟩
     intro H7 ys ds b7 d7 r7 l7 nl pd;have jz:∀d∈ds,TI d:=fun d hd=>by obtain⟨j,hj⟩:=List.mem_iff_getElem?.mp hd;exact pd j d hj
     have ny:=uN.trans b7;refine⟨D,_,rfl,.inl ⟨ah.of d7,fun t H8 n8=>?_⟩⟩;have b8:ao p H7 H8:=.bN ny.bag n8.same;have qh:RD K H8 (.ref t) (.tuple ds):=cD (aj.of n8.at') (aa.mono n8.same _ r7);have nT:bB (.tuple ds)=true:=by simp[bB,nl]
     refine⟨_,rfl,_,rfl,p,m,rfl,b8.bag,by omega,by omega,fun ev ed H9 re te b9=>?_⟩;have qg:=RD.t (ao.t b8.bag b9) _ nT qh;refine⟨_,rfl,p,rfl,b9.bag,fun fv fa fb eT fr ⟨q,e1,e2⟩ nB=>?_⟩;subst e1;have ka:=ao.t b9.bag nB;have lb:=RD.t ka _ nT qg;have lq:=RD.t ka _ (pe te) re;have lh:RD K eT (.ref q) (.tuple [.int fa,.int fb]):=cD (aj.of e2) (aU (du _) (aU (du _) bX));have na:Nm fa:=by have:=fr.na;unfold Nm;omega
     have nb:Nm fb:=by have:=fr.nb;have:=fr.pos;unfold Nm;omega
     have pX:ai H2 eT:=(ny.trans (b8.trans (b9.trans nB))).pV s3 np;obtain⟨t',xs,e',h1,h2⟩:=id lb.bW;cases e';have lx:=h2.length;refine⟨rfl,?_⟩;refine⟨_,rfl,t,rfl,⟨_,h1⟩,fun D2 eS rV=>?_⟩;refine fU (K:=K) (ds:=(ds.map bP).map PyData.str) _ h1 rV (by simp;exact lx) (by omega) (fA _) ?_ ?_
     · intro i x d oG Q' ex fS gs hq
       obtain⟨d',mR,rx⟩:=h2.get' i ex;rw[bo,bo,mR]at fS;cases fS;exact⟨_,rfl,x,d',rfl,RD.mono gs _ rx,jz d' (eh mR),fun gN eE=>hq _ _ eE (au _)⟩
     intro oG zs gs mT qq;rw[dI qq]at mT;refine⟨"\n",D2,ds.map bP,rfl,rfl,ah.of mT,fun z hz=>?_,by decide+kernel,by rw[aO];omega,?_⟩
     · obtain⟨d,hd,rfl⟩:=dF.mp hz
       have:=mh (jz d hd);omega
     refine⟨2,rfl,by decide,by decide,jl (Pv:=fun c σ gN=>ai oG gN/\∃w8,σ=[some (.ref a),some (.int (0+(i:Int))),some (.ref p),some (.int m),some (.ref t),some ev,some (.ref q),some (.str (Txt.join "\n" (ds.map bP))),w8]) ⟨ai.refl _,_,rfl⟩ ?_ ?_⟩
     · rintro c σ gN hc ⟨eE,w8,rfl⟩
       have la:=gs.trans eE;refine⟨_,rfl,.ref t,ds,rfl,RD.mono la _ lb,jz,nl,by omega,fun vF l9=>?_⟩;refine⟨_,rfl,_,rfl,true,rfl,?_⟩;refine bC ?_;have ir:=la.trans l9;refine⟨_,rfl,ev,ed,rfl,RD.mono ir _ lq,te,fun vE iq=>?_⟩;refine⟨_,rfl,ev,ed,rfl,RD.mono (ir.trans iq) _ lq,te,fun vD l8=>?_⟩;refine⟨_,rfl,true,rfl,?_⟩;refine bC ?_;have l5:=ir.trans (iq.trans l8);refine⟨_,rfl,.ref q,fa,fb,rfl,RD.mono l5 _ lh,na,nb,fun vC kZ=>?_⟩;refine⟨_,rfl,.ref q,fa,fb,rfl,RD.mono (l5.trans kZ) _ lh,na,nb,?_⟩;refine⟨_,rfl,true,rfl,?_⟩;refine bC ?_;exact⟨eE.trans (l9.trans (iq.trans (l8.trans kZ))),_,rfl⟩
     · rintro σ gN ⟨eE,w8,rfl⟩
       exact⟨s2.trans (pX.trans (gs.trans eE)),_,_,_,_,_,_,_,_,rfl⟩
   · rintro σ H2 ⟨s2,v1,v2,v3,v4,v5,v6,v7,v8,rfl⟩
     exact k H2
end
end Lw
namespace Lw
open PySem PySem.Spec PyProof.Rows L2
structure All(K:vG)(mg:Str->Option Value):Prop where
 B:aG mg
 f_is_line:FA K mg "is_line" pW
 g_PART:GV mg "PART" (.int 10000000000000000000000000000000000000000000000000000000000000000)
 g_PART_FIGURES:GV mg "PART_FIGURES" (.int 64)
 f_show_number:FA K mg "show_number" i2
 f_show_fraction:FA K mg "show_fraction" i5
 f_show_numbers:FA K mg "show_numbers" hZ
 f_show_item:FA K mg "show_item" i3
 f_show_items:FA K mg "show_items" i4
 f_show_entry:FA K mg "show_entry" i6
 f__law_bag:FA K mg "_law_bag" ip
 f__law_take:FA K mg "_law_take" hX
 f__law_divisor:FA K mg "_law_divisor" il
 f__law_number:FA K mg "_law_number" i8
 f__law_lowest:FA K mg "_law_lowest" ia
 f__law_fraction:FA K mg "_law_fraction" ij
 f__law_name:FA K mg "_law_name" i9
 f__law_item:FA K mg "_law_item" ig
 f__law_item_text:FA K mg "_law_item_text" ib
 f__law_fraction_text:FA K mg "_law_fraction_text" ic
 f__law_entry_text:FA K mg "_law_entry_text" ie
 f__law_entry:FA K mg "_law_entry" ik
 f__law_right:FA K mg "_law_right" i7
 law:FA K mg "law" fh
theorem uS{P:vI}{w:World}{K:vG}{mg:Str->Option Value}{base:Heap}{f:Addr}{fd:FuncData}(A:All K mg)(F:de K "law" "law" fh f fd):cK P w K mg base df 5 f fd ["_law_script"] (kl K):=by have tk:ab P w K mg base "_law_take" 1 dq:=r6 A.f__law_take A.B;have it:ab P w K mg base "_law_item" 3 (gj K):=rB A.f__law_item A.B tk (rl A.f__law_name A.B tk);have fr:ab P w K mg base "_law_fraction" 3 gn:=rD A.f__law_fraction A.B tk (rk A.f__law_number A.B tk) (rm A.f__law_lowest A.B (rF A.f__law_divisor A.B));have gq:ab P w K mg base "show_number" 1 eD:=r9 A.f_show_number A.B A.g_PART A.g_PART_FIGURES;have kv:ab P w K mg base "show_numbers" 2 (gi K):=r8 A.f_show_numbers A.B gq;have kx:ab P w K mg base "show_item" 3 (dr K):=rd A.f_show_item A.B (rC A.f_is_line A.B) kv gq;have kB:ab P w K mg base "show_fraction" 2 (gm K):=rg A.f_show_fraction A.B gq;have lit:ab P w K mg base "_law_item_text" 1 (dr K):=rn A.f__law_item_text A.B;have m6:ab P w K mg base "_law_fraction_text" 1 (gk K):=rp A.f__law_fraction_text A.B;exact rA F A.B (rG A.f__law_bag A.B) tk it (rE A.f__law_entry A.B tk it fr) fr lit (rj A.f__law_right A.B) (rf A.f_show_items A.B kx) (rh A.f_show_entry A.B kx kv kB gq) (rq A.f__law_entry_text A.B lit m6) kB m6
end Lw
def PySem.W.Fast.tw2779229557487432759:PySem.Program:=PySem.Challenge.pw_glidequeue_k52_items_written
theorem PySem.W.Fast.te2779229557487432759:PySem.Challenge.pw_glidequeue_k52_items_written=PySem.W.Fast.tw2779229557487432759:=rfl
def PySem.W.Fast.tw13395375812222028279:Nat:=0
def PySem.W.Fast.tw13305930566747871410:Nat:=0
def PySem.W.Fast.tw17229209190867165786:Nat:=0
def PySem.W.Fast.tw10195153684508223437:Nat:=0
def PySem.W.Fast.tw14147561515062413238:Nat:=0
def PySem.W.Fast.tw7795423690734487812:Nat:=0
def PySem.W.Fast.tw16239093131969004038:Nat:=0
def PySem.W.Fast.tw8105237654614231097:Nat:=0
def PySem.W.Fast.tw10547339731460610675:Nat:=0
def PySem.W.Fast.tw17415355702509669951:Nat:=0
def PySem.W.Fast.tw3443846912520454506:Nat:=0
def PySem.W.Fast.tw7659244258840495903:Nat:=0
def PySem.W.Fast.tw3496336035866323468:Nat:=0
def PySem.W.Fast.tw5235407852202720192:Nat:=0
def PySem.W.Fast.tw15467874671027592316:Nat:=0
def PySem.W.Fast.tw10058701021396760453:Nat:=0
def PySem.W.Fast.tw1487386636801358459:Nat:=0
def PySem.W.Fast.tw16580524312744468675:Nat:=0
def PySem.W.Fast.tw8602463455735252722:Nat:=0
def PySem.W.Fast.tw4675512891211822769:Nat:=0
def PySem.W.Fast.tw269497811984534076:Nat:=0
def PySem.W.Fast.tw12479331572331200846:Nat:=0
def PySem.W.Fast.tw14781907619835284886:Nat:=0
def PySem.W.Fast.tw2697452263653287550:Nat:=0
def PySem.W.Fast.tw11464754228833162213:Nat:=0
def PySem.W.Fast.tw3148565452434074539:Nat:=0
def PySem.W.Fast.tw17219006004365706816:Nat:=0
def PySem.W.Fast.tw12141024607164467263:Nat:=0
def PySem.W.Fast.tw5462995611356992160:Nat:=0
def PySem.W.Fast.tw10062626359475637619:Nat:=0
def PySem.W.Fast.tw15084563252978493519:Nat:=0
def PySem.W.Fast.tw9867372950619949036:Nat:=0
def PySem.W.Fast.tw1876684106556520325:Nat:=0
def PySem.W.Fast.tw8848337437996547174:Nat:=0
def PySem.W.Fast.tw3123570257053616873:Nat:=0
def PySem.W.Fast.tw6999172517726806951:Nat:=0
def PySem.W.Fast.tw3844724109464770082:Nat:=0
def PySem.W.Fast.tw6225553445983286241:Nat:=0
def PySem.W.Fast.tw3870461193308662018:Nat:=0
def PySem.W.Fast.tw17703243085382112458:Nat:=0
def PySem.W.Fast.tw11910008224506981675:Nat:=0
def PySem.W.Fast.tw13477871748172163555:Nat:=0
def PySem.W.Fast.tw10670635908354234251:Nat:=0
def PySem.W.Fast.tw11457096565724116512:Nat:=0
def PySem.W.Fast.tw4930356051158926402:Nat:=0
def PySem.W.Fast.tw14036650351187438772:Nat:=0
def PySem.W.Fast.tw7628935529561187146:Nat:=0
def PySem.W.Fast.tw10436175744480557979:Nat:=0
def PySem.W.Fast.tw9714994493218663206:Nat:=0
def PySem.W.Fast.tw4524785909711464362:Nat:=0
def PySem.W.Fast.tw6119151273073290172:Nat:=0
def PySem.W.Fast.tw9941364520061838607:Nat:=0
def PySem.W.Fast.tw4727630688705686699:Nat:=0
def PySem.W.Fast.tw6999999234711702860:Nat:=0
def PySem.W.Fast.tw12790335213288743676:Nat:=0
def PySem.W.Fast.tw6553041804621903587:Nat:=0
def PySem.W.Fast.tw11625167142951867503:Nat:=0
def PySem.W.Fast.tw13344185545788202173:Nat:=0
def PySem.W.Fast.tw8099441048980164092:Nat:=0
def PySem.W.Fast.tw2425386182387491271:Nat:=0
open PySem PySem.W PyProof.Rows
set_option maxRecDepth 100000 in
set_option maxHeartbeats 0 in
theorem PySem.Challenge.cw_glidequeue_k52_items_written_holds : PySem.Challenge.rw_glidequeue_k52_items_written.Holds := by
 w_on; o_law; k_head; (case hw=>w_witness2)
 k_fill
 refine L2.su (l:=PySem.Challenge.rw_glidequeue_k52_items_written) (k:=5) (x:="_law_script") (st:=Lw.fh) rfl rfl ⟨rfl,by decide,by decide⟩ (fun w h Y=>PySem.W.kIn_of Y) Lw.All ?F (fun _ _ A=>A.law) (fun _ _ _ _ _ _ _=>rfl) (fun _ _ _ _ _ _ _ A F=>Lw.uS A F)
 case F=>
  intro w mg h KX G
  refine⟨L2.uJ KX G ?b,?x1,?x2,?x3,?x4,?x5,?x6,?x7,?x8,?x9,?x10,?x11,?x12,?x13,?x14,?x15,?x16,?x17,?x18,?x19,?x20,?x21,?x22,?x23⟩
  case b=>(unfold L2.gH; repeat (refine L2.dC.cons ?z ?_; (case z=>k_is))); exact L2.dC.nil
  case x2=>(refine' L2.mI KX G ?z; (case z=>k_is))
  case x3=>(refine' L2.mI KX G ?z; (case z=>k_is))
  all_goals (refine' L2.uq KX G ?a ?l ?c ?k; (case a=>k_is); (case l=>k_is); (case c=>k_is); (case k=>k_is))
#print axioms PySem.Challenge.cw_glidequeue_k52_items_written_holds
